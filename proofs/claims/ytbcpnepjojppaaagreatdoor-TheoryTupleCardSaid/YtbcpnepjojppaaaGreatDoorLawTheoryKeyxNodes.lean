import Derived.Test.YtbcpnepjojppaaaGreatDoorLawTheoryKeyxCmp
import Derived.Test.YtbcpnepjojppaaaGreatDoorLawTheoryKeyxPos
import Derived.Test.YtbcpnepjojppaaaGreatDoorLawTheoryKeyxRef
import Derived.Test.YtbcpnepjojppaaaGreatDoorLawTheoryKeyxYtab
namespace Go.Proofs.YtbcpnepjojppaaaGreatDoor
open Go.RowKit
mutual
/-- The subterms in preorder. -/
def subT : Tm → List Tm
  | .mk k n s ks => .mk k n s ks :: subL ks
def subL : List Tm → List Tm
  | [] => []
  | t :: ts => subT t ++ subL ts
end
theorem subL_append : ∀ (l m : List Tm), subL (l ++ m) = subL l ++ subL m
  | [], m => by simp [subL]
  | t :: l, m => by simp only [List.cons_append, subL, subL_append l m, List.append_assoc]
theorem subL_take (l : List Tm) (j : Nat) (h : j < l.length) : subL (l.take (j + 1)) = subL (l.take j) ++ subT l[j] := by
  rw [List.take_succ_eq_append_getElem h, subL_append]; simp [subL]
def NL (base : Nat) (w : World) : List Tm → List Value → Prop
  | [], vs => vs = []
  | t :: ts, vs => ∃ b o r, vs = .pointer (some ⟨b, o, none⟩) :: .int .i64 (size t) :: r ∧ LiesIn (fun b => b < base) w t b o ∧ NL base w ts r
theorem NL_carry {base : Nat} {w w' : World} (h : ∀ b, b < base → w'.heap[b]? = w.heap[b]?) : ∀ (ts : List Tm) (vs : List Value), NL base w ts vs → NL base w' ts vs
  | [], vs, hn => hn
  | t :: ts, vs, hn => by
    obtain ⟨b, o, r, e, hL, hr⟩ := hn
    exact ⟨b, o, r, e, LiesIn_carry h (fun _ hb => hb) hL, NL_carry h ts r hr⟩
theorem NL_append {base : Nat} {w : World} : ∀ (ts us : List Tm) (vs xs : List Value), NL base w ts vs → NL base w us xs → NL base w (ts ++ us) (vs ++ xs)
  | [], us, vs, xs, h1, h2 => by subst h1; exact h2
  | t :: ts, us, vs, xs, h1, h2 => by
    obtain ⟨b, o, r, rfl, hL, hr⟩ := h1
    exact ⟨b, o, r ++ xs, rfl, hL, NL_append ts us r xs hr h2⟩
end Go.Proofs.YtbcpnepjojppaaaGreatDoor
namespace Go.Proofs.YtbcpnepjojppaaaGreatDoor
open Go.RowKit
theorem add_plain (b o n : Nat) : (⟨b, o, none⟩ : Addr).add n = ⟨b, o + n, none⟩ := by
  unfold Addr.add; split <;> simp_all
theorem IsIn_one {S : Nat → Prop} {w : World} {t : Tm} {c0 c1 c2 c3 : Value} (h : IsIn S w t c0 c1 c2 c3) : c0.oneCell' = true ∧ c1.oneCell' = true ∧ c2.oneCell' = true ∧ c3.oneCell' = true := by
  obtain ⟨k, n, s, ks⟩ := t
  simp only [IsIn] at h
  obtain ⟨rfl, rfl, rfl, _, _, _, _, xa, cap, rfl, _⟩ := h
  exact ⟨rfl, rfl, rfl, rfl⟩
theorem KC_one {S : Nat → Prop} {w : World} : ∀ (ts : List Tm) (cs : List Value), KC S w ts cs → cs.length = ts.length * 4 ∧ ∀ u ∈ cs, u.oneCell' = true
  | [], cs, h => by subst h; simp
  | t :: ts, cs, h => by
    obtain ⟨c0, c1, c2, c3, r, rfl, hI, hr⟩ := h
    obtain ⟨h1, h2⟩ := KC_one ts r hr
    obtain ⟨p0, p1, p2, p3⟩ := IsIn_one hI
    refine ⟨by simp only [List.length_cons, h1]; omega, fun u hu => ?_⟩
    simp only [List.mem_cons] at hu
    rcases hu with rfl | rfl | rfl | rfl | hu
    · exact p0
    · exact p1
    · exact p2
    · exact p3
    · exact h2 u hu
theorem KC_of_Row {w : World} : ∀ (ts : List Tm) (b o : Nat), Row w ts (some ⟨b, o, none⟩) → ∃ cs, KC (fun b => b < w.heap.size) w ts cs ∧ ∀ j u, cs[j]? = some u → w.cell? ((⟨b, o, none⟩ : Addr).add j) = some u
  | [], b, o, _ => ⟨[], rfl, fun j u hu => by simp at hu⟩
  | t :: ts, b, o, h => by
    obtain ⟨b', o', e, ⟨c0, c1, c2, c3, g0, g1, g2, g3, hI⟩, h2⟩ := Row_cons h
    simp only [Option.some.injEq, Addr.mk.injEq, and_true] at e
    obtain ⟨rfl, rfl⟩ := e
    obtain ⟨r, hK, hr⟩ := KC_of_Row ts b (o + 4) h2
    refine ⟨c0 :: c1 :: c2 :: c3 :: r, ⟨c0, c1, c2, c3, r, rfl, Is_IsIn t _ _ _ _ hI, hK⟩, fun j u hu => ?_⟩
    match j, hu with
    | 0, hu => simp only [List.getElem?_cons_zero, Option.some.injEq] at hu; subst hu; exact g0
    | 1, hu => simp only [List.getElem?_cons_succ, List.getElem?_cons_zero, Option.some.injEq] at hu; subst hu; exact g1
    | 2, hu => simp only [List.getElem?_cons_succ, List.getElem?_cons_zero, Option.some.injEq] at hu; subst hu; exact g2
    | 3, hu => simp only [List.getElem?_cons_succ, List.getElem?_cons_zero, Option.some.injEq] at hu; subst hu; exact g3
    | j + 4, hu =>
      simp only [List.getElem?_cons_succ] at hu
      have := hr j u hu
      have e : (⟨b, o, none⟩ : Addr).add (j + 4) = (⟨b, o + 4, none⟩ : Addr).add j := by rw [add_plain, add_plain, show o + (j + 4) = o + 4 + j by omega]
      rw [e]; exact this
end Go.Proofs.YtbcpnepjojppaaaGreatDoor
namespace Go.Proofs.YtbcpnepjojppaaaGreatDoor
open Go.RowKit
theorem KC_append {S : Nat → Prop} {w : World} : ∀ (ts us : List Tm) (cs ds : List Value), KC S w ts cs → KC S w us ds → KC S w (ts ++ us) (cs ++ ds)
  | [], us, cs, ds, h1, h2 => by subst h1; exact h2
  | t :: ts, us, cs, ds, h1, h2 => by
    obtain ⟨c0, c1, c2, c3, r, rfl, hI, hr⟩ := h1
    exact ⟨c0, c1, c2, c3, r ++ ds, rfl, hI, KC_append ts us r ds hr h2⟩
section
variable {S : Nat → Prop} {w w' : World} {ts : List Tm} {v : Value}
def OwnT (H : Nat) (S : Nat → Prop) (w : World) (ts : List Tm) (v : Value) : Prop := ∃ cs, w.ownsRow H 24 4 v ts.length cs ∧ KC S w ts cs
theorem OwnT_nil (H : Nat) (S : Nat → Prop) (w : World) : OwnT H S w [] (.slice none 0 0) := ⟨[], World.ownsRow_nil w H _ 4, rfl⟩
theorem OwnT_carry {H : Nat} (h : OwnT H S w ts v) (hS : ∀ b, S b → w'.heap[b]? = w.heap[b]?) (hv : ∀ g, v.ownBlock = some g → w'.heap[g]? = w.heap[g]?) : OwnT H S w' ts v := by
  obtain ⟨cs, ho, hK⟩ := h
  exact ⟨cs, own_heap ho hv, KC_carry hS (fun _ hb => hb) _ _ hK⟩
theorem OwnT_form {H : Nat} (h : OwnT H S w ts v) : ∃ xa cap, v = .slice xa ts.length cap := by
  obtain ⟨cs, ho, _⟩ := h; exact own_form ho
theorem OwnT_lt {H : Nat} (h : OwnT H S w ts v) : ∀ g, v.ownBlock = some g → H ≤ g ∧ g < w.heap.size := by
  obtain ⟨cs, ho, _⟩ := h; exact ho.lt
theorem KC_one_term {t : Tm} {c0 c1 c2 c3 : Value} (h : IsIn S w t c0 c1 c2 c3) : KC S w [t] [c0, c1, c2, c3] := ⟨c0, c1, c2, c3, [], rfl, h, rfl⟩
end
end Go.Proofs.YtbcpnepjojppaaaGreatDoor
namespace Go.Proofs.YtbcpnepjojppaaaGreatDoor
open Go.RowKit
end Go.Proofs.YtbcpnepjojppaaaGreatDoor
namespace Go.Proofs.YtbcpnepjojppaaaGreatDoor
open Go.RowKit
def CopyPost (w : World) (t : Tm) (e : Ending) (w' : World) : Prop :=
  ∃ c0 c1 c2 c3, e = .returned (.agg #[c0, c1, c2, c3]) ∧ IsIn (fun b => w.heap.size ≤ b ∧ b < w'.heap.size) w' t c0 c1 c2 c3 ∧ Below w.heap.size w w'
theorem copy_leaf {w : World} {k s : Int} {n : ByteArray} {ks : List Tm} (hk : -9223372036854775808 ≤ k ∧ k ≤ 9223372036854775807) (hs : -9223372036854775808 ≤ s ∧ s ≤ 9223372036854775807) (hn : n.size ≤ maxLen) (h0 : ks.length = 0) {x y : Obj} :
    CopyPost w (.mk k n s ks) (.returned (.agg #[.int .i64 k, .string n, .int .i64 s, .slice none 0 0])) ((w.alloc x).alloc y).drew := by
  have e : ks = [] := List.length_eq_zero_iff.1 h0
  subst e
  refine ⟨_, _, _, _, rfl, ?_, (((Below.refl _ _).alloc (Nat.le_refl _) _).alloc (by simp) _).drew⟩
  simp only [IsIn]
  exact ⟨trivial, trivial, trivial, hk, hs, hn, by simp, none, 0, rfl, by simp, by simp [RowIn]⟩
theorem IsIn_lt {S : Nat → Prop} {w : World} (t : Tm) : ∀ c0 c1 c2 c3, IsIn S w t c0 c1 c2 c3 → IsIn (fun b => S b ∧ b < w.heap.size) w t c0 c1 c2 c3 := by
  refine Tm.rec (motive_1 := fun t => ∀ c0 c1 c2 c3, IsIn S w t c0 c1 c2 c3 → IsIn (fun b => S b ∧ b < w.heap.size) w t c0 c1 c2 c3) (motive_2 := fun ts => ∀ xa, RowIn S w ts xa → RowIn (fun b => S b ∧ b < w.heap.size) w ts xa) ?_ ?_ ?_ t
  · intro k n s ks ih c0 c1 c2 c3 h
    simp only [IsIn] at h ⊢
    obtain ⟨h1, h2, h3, h4, h5, h6, h7, xa, cap, h8, h9, h10⟩ := h
    exact ⟨h1, h2, h3, h4, h5, h6, h7, xa, cap, h8, h9, ih _ h10⟩
  · intro xa _; simp [RowIn]
  · intro t ts h1 h2 xa h
    simp only [RowIn] at h ⊢
    obtain ⟨b, o, e, hs, ⟨c0, c1, c2, c3, g0, g1, g2, g3, hI⟩, hR⟩ := h
    exact ⟨b, o, e, ⟨hs, World.block_lt_of_cell? w _ g0⟩, ⟨c0, c1, c2, c3, g0, g1, g2, g3, h1 _ _ _ _ hI⟩, h2 _ hR⟩
theorem IsIn_form {S : Nat → Prop} {w : World} {t : Tm} {c0 c1 c2 c3 : Value} (h : IsIn S w t c0 c1 c2 c3) : ∃ (k : Int) (n : ByteArray) (s : Int) (xa : Option Addr) (l c : Nat), c0 = .int .i64 k ∧ c1 = .string n ∧ c2 = .int .i64 s ∧ c3 = .slice xa l c := by
  obtain ⟨k, n, s, ks⟩ := t
  simp only [IsIn] at h
  obtain ⟨rfl, rfl, rfl, _, _, _, _, xa, cap, rfl, _⟩ := h
  exact ⟨_, _, _, _, _, _, rfl, rfl, rfl, rfl⟩
theorem box_facts {w : World} {b : Nat} {c0 c1 c2 c3 : Value} {T : TypeId} (h : w.heap[b]? = some (.cells #[c0, c1, c2, c3] T (0, 0))) :
    (w.cell? ⟨b, 0, none⟩ = some c0 ∧ w.cell? ⟨b, 1, none⟩ = some c1 ∧ w.cell? ⟨b, 2, none⟩ = some c2 ∧ w.cell? ⟨b, 3, none⟩ = some c3) ∧
    (w.frozen? ⟨b, 0, none⟩ = false ∧ w.frozen? ⟨b, 1, none⟩ = false ∧ w.frozen? ⟨b, 2, none⟩ = false ∧ w.frozen? ⟨b, 3, none⟩ = false) := by
  refine ⟨⟨?_, ?_, ?_, ?_⟩, ?_, ?_, ?_, ?_⟩ <;> first | (unfold World.cell?; rw [h]; rfl) | (unfold World.frozen?; rw [h]; rfl)
theorem four_of (zs : List Value) (h : 4 ≤ zs.length) : ∃ z0 z1 z2 z3 r, zs = z0 :: z1 :: z2 :: z3 :: r := by
  cases zs with
  | nil => simp at h
  | cons z0 zs => cases zs with
    | nil => simp at h
    | cons z1 zs => cases zs with
      | nil => simp at h
      | cons z2 zs => cases zs with
        | nil => simp at h
        | cons z3 zs => exact ⟨_, _, _, _, _, rfl⟩
theorem make_full_at {P : Program} (w : World) {ops : Array Oper} {rest : List Oper} {o : Oper} {a : Act} {Q : Exit → Act → World → Prop} (H : Nat) (hH : w.heap.size = H)
    (hg : o.guard = none) (l c : Operand) (t : TypeId) (hop : o.op = Op.makeSlice t l c)
    (e : TypeId) (i : TypeInfo) (z : Value) (size : Nat) (h1 : P.underlying t = some (.slice e)) (h2 : P.info? e = some i) (h3 : i.zero = some z) (h4 : i.size = size)
    (n : Nat) (hl : a.eval l = .int .i64 (n : Int)) (hc : a.eval c = .int .i64 (n : Int)) (b2 : i.bytes * n ≤ 281474976710656) (b3 : n ≤ maxLen)
    (hK : ∀ w', w'.ownsRow H e size (.slice (some ⟨H, 0, none⟩) n n) n (madeCells z.cells (n * size)).toList → w.grownBy w' none → wpList P ops Q rest (a.put o.dst (.slice (some ⟨H, 0, none⟩) n n)) w') :
    wpList P ops Q (o :: rest) a w := by
  subst hH
  exact wpList_make_full w hg l c t hop w.heap.size e i z size h1 h2 h3 h4 .i64 .i64 _ _ n hl hc rfl rfl b2 b3 (Nat.le_refl _) hK
structure CR (w : World) (k : Int) (n : ByteArray) (s : Int) (ks : List Tm) (j : Nat) (wr : World) : Prop where
  below : Below w.heap.size w wr
  res : wr.heap[w.heap.size]? = some (.cells #[.int .i64 0, .string ⟨#[]⟩, .int .i64 0, .slice none 0 0] 24 (0, 0))
  box : wr.heap[w.heap.size + 1]? = some (.cells #[.int .i64 k, .string n, .int .i64 s, .slice (some ⟨w.heap.size + 2, 0, none⟩) ks.length ks.length] 24 (0, 0))
  row : ∃ cs zs, wr.ownsRow (w.heap.size + 2) 24 4 (.slice (some ⟨w.heap.size + 2, 0, none⟩) ks.length ks.length) ks.length (cs ++ zs) ∧ cs.length = j * 4 ∧ KC (fun b => w.heap.size + 2 < b ∧ b < wr.heap.size) wr (ks.take j) cs
theorem copy_made {w w1 : World} {k s : Int} {n : ByteArray} {ks : List Tm} {xs : List Value} (hown : w1.ownsRow (w.heap.size + 2) 24 4 (.slice (some ⟨w.heap.size + 2, 0, none⟩) ks.length ks.length) ks.length xs)
    (hg : (((w.alloc (.cells #[.int .i64 0, .string ⟨#[]⟩, .int .i64 0, .slice none 0 0] 24)).alloc (.cells #[.int .i64 k, .string n, .int .i64 s, .slice none 0 0] 24)).drew).grownBy w1 none) :
    CR w k n s ks 0 (w1.setCell ⟨w.heap.size + 1, 3, none⟩ (.slice (some ⟨w.heap.size + 2, 0, none⟩) ks.length ks.length)) ∧
    w1.heap[w.heap.size + 1]? = some (.cells #[.int .i64 k, .string n, .int .i64 s, .slice none 0 0] 24 (0, 0)) ∧ Below w.heap.size w w1 := by
  have hB : Below w.heap.size w w1 := ((((Below.refl w.heap.size w).alloc (Nat.le_refl _) _).alloc (by simp) _).drew).grown hg (by simp; omega) (fun q hq => by simp at hq)
  have h1 : w1.heap[w.heap.size + 1]? = some (.cells #[.int .i64 k, .string n, .int .i64 s, .slice none 0 0] 24 (0, 0)) := by
    rw [hg.block _ (by simp) (by simp)]
    have := heap_alloc_new (w.alloc (.cells #[.int .i64 0, .string ⟨#[]⟩, .int .i64 0, .slice none 0 0] 24)) (.cells #[.int .i64 k, .string n, .int .i64 s, .slice none 0 0] 24)
    rw [World.size_alloc] at this
    exact this
  have h0 : w1.heap[w.heap.size]? = some (.cells #[.int .i64 0, .string ⟨#[]⟩, .int .i64 0, .slice none 0 0] 24 (0, 0)) := by
    rw [hg.block _ (by simp; omega) (by simp)]
    exact ((((Below.refl (w.heap.size + 1) (w.alloc (.cells #[.int .i64 0, .string ⟨#[]⟩, .int .i64 0, .slice none 0 0] 24))).alloc (by simp) (.cells #[.int .i64 k, .string n, .int .i64 s, .slice none 0 0] 24)).drew).block w.heap.size (by omega)).trans (heap_alloc_new w _)
  refine ⟨⟨hB.setCell (by simp) _, ?_, ?_, [], xs, ?_, by simp, rfl⟩, h1, hB⟩
  · rw [Below.heap_setCell _ _ _ _ (by simp)]; exact h0
  · simp [World.setCell, Array.getElem?_modify, h1]
  · exact own_heap hown (fun q hq => by simp only [Value.ownBlock, Option.some.injEq] at hq; subst hq; exact Below.heap_setCell _ _ _ _ (by simp))
theorem CR.cells {w wr w3 : World} {k s : Int} {n : ByteArray} {ks : List Tm} {j : Nat} (h : CR w k n s ks j wr) (hj : j < ks.length) (hB : Below wr.heap.size wr w3) :
    (∃ z0 z1 z2 z3, w3.cell? ⟨w.heap.size + 2, j * 4, none⟩ = some z0 ∧ w3.cell? ⟨w.heap.size + 2, j * 4 + 1, none⟩ = some z1 ∧ w3.cell? ⟨w.heap.size + 2, j * 4 + 2, none⟩ = some z2 ∧ w3.cell? ⟨w.heap.size + 2, j * 4 + 3, none⟩ = some z3) ∧
    ∀ i, w3.frozen? ⟨w.heap.size + 2, i, none⟩ = false := by
  obtain ⟨cs, zs, ho, hc, _⟩ := h.row
  have ho3 := own_heap (w' := w3) ho (fun q hq => hB.block q (ho.lt q hq).2)
  have hl := ho3.1
  have hz : ∀ i, i < 4 → ∃ z, w3.cell? ⟨w.heap.size + 2, j * 4 + i, none⟩ = some z := fun i hi => by
    rw [ho3.cellAt _ (by omega)]
    exact ⟨_, List.getElem?_eq_getElem (by omega)⟩
  obtain ⟨z0, h0⟩ := hz 0 (by omega)
  obtain ⟨z1, h1⟩ := hz 1 (by omega)
  obtain ⟨z2, h2⟩ := hz 2 (by omega)
  obtain ⟨z3, h3⟩ := hz 3 (by omega)
  exact ⟨⟨z0, z1, z2, z3, h0, h1, h2, h3⟩, fun i => ho3.frozenAt i⟩
theorem CR.next {w wr w3 : World} {k s : Int} {n : ByteArray} {ks : List Tm} {j : Nat} (h : CR w k n s ks j wr) (hj : j < ks.length) {c0 c1 c2 c3 : Value}
    (hI : IsIn (fun b => wr.heap.size ≤ b ∧ b < w3.heap.size) w3 ks[j] c0 c1 c2 c3) (hB : Below wr.heap.size wr w3) : CR w k n s ks (j + 1) (put4 w3 (w.heap.size + 2) (j * 4) c0 c1 c2 c3) := by
  obtain ⟨cs, zs, ho, hc, hK⟩ := h.row
  have hlt := ho.lt (w.heap.size + 2) rfl
  have ho3 := own_heap (w' := w3) ho (fun q hq => hB.block q (ho.lt q hq).2)
  have hs := hB.size
  have hp : ∀ q, q ≠ w.heap.size + 2 → (put4 w3 (w.heap.size + 2) (j * 4) c0 c1 c2 c3).heap[q]? = w3.heap[q]? := fun q hq => put4_other _ _ _ _ _ _ _ _ hq
  have hb3 : Below w.heap.size w w3 := h.below.trans (hB.mono h.below.size)
  refine ⟨?_, ?_, ?_, cs ++ [c0, c1, c2, c3], zs.drop 4, ?_, ?_, ?_⟩
  · unfold put4
    exact (((hb3.setCell (by simp) _).setCell (by simp) _).setCell (by simp) _).setCell (by simp) _
  · rw [hp _ (by omega), hB.block _ (by omega)]; exact h.res
  · rw [hp _ (by omega), hB.block _ (by omega)]; exact h.box
  · have h1 := ((((((ho3.stored (j * 4) c0).1).stored (j * 4 + 1) c1).1).stored (j * 4 + 2) c2).1.stored (j * 4 + 3) c3).1
    have hz : ∃ z0 z1 z2 z3 r, zs = z0 :: z1 :: z2 :: z3 :: r := by
      have hl := ho3.1
      rw [List.length_append] at hl
      exact four_of zs (by omega)
    obtain ⟨z0, z1, z2, z3, r, rfl⟩ := hz
    have e : ((((cs ++ z0 :: z1 :: z2 :: z3 :: r).set (j * 4) c0).set (j * 4 + 1) c1).set (j * 4 + 2) c2).set (j * 4 + 3) c3 = (cs ++ [c0, c1, c2, c3]) ++ List.drop 4 (z0 :: z1 :: z2 :: z3 :: r) := by
      rw [← hc]
      simp only [List.set_append_right _ _ (Nat.le_refl _), List.set_append_right _ _ (Nat.le_add_right _ _), Nat.sub_self, Nat.add_sub_cancel_left, List.set_cons_zero, List.set_cons_succ, List.drop_succ_cons, List.drop_zero, List.append_assoc, List.cons_append, List.nil_append]
    rw [e] at h1
    exact h1
  · simp only [List.length_append, hc, List.length_cons, List.length_nil]; omega
  · rw [List.take_succ_eq_append_getElem hj]
    have hsz : (put4 w3 (w.heap.size + 2) (j * 4) c0 c1 c2 c3).heap.size = w3.heap.size := put4_size _ _ _ _ _ _ _
    refine KC_snoc (IsIn_carry (fun b hb => hp b (by omega)) (fun b hb => ⟨by omega, by rw [hsz]; exact hb.2⟩) _ _ _ _ _ hI) _ _ (KC_carry (fun b hb => (hp b (by omega)).trans (hB.block b hb.2)) (fun b hb => ⟨hb.1, by rw [hsz]; omega⟩) _ _ hK)
theorem CR.done {w wr : World} {k s : Int} {n : ByteArray} {ks : List Tm} (h : CR w k n s ks ks.length wr) (hk : -9223372036854775808 ≤ k ∧ k ≤ 9223372036854775807) (hs : -9223372036854775808 ≤ s ∧ s ≤ 9223372036854775807) (hn : n.size ≤ maxLen) (hl : ks.length ≤ maxLen) :
    CopyPost w (.mk k n s ks) (.returned (.agg #[.int .i64 k, .string n, .int .i64 s, .slice (some ⟨w.heap.size + 2, 0, none⟩) ks.length ks.length])) (put4 wr w.heap.size 0 (.int .i64 k) (.string n) (.int .i64 s) (.slice (some ⟨w.heap.size + 2, 0, none⟩) ks.length ks.length)) := by
  obtain ⟨cs, zs, ho, hc, hK⟩ := h.row
  rw [List.take_length] at hK
  have hp : ∀ q, q ≠ w.heap.size → (put4 wr w.heap.size 0 (.int .i64 k) (.string n) (.int .i64 s) (.slice (some ⟨w.heap.size + 2, 0, none⟩) ks.length ks.length)).heap[q]? = wr.heap[q]? := fun q hq => put4_other _ _ _ _ _ _ _ _ hq
  have hsz : (put4 wr w.heap.size 0 (.int .i64 k) (.string n) (.int .i64 s) (.slice (some ⟨w.heap.size + 2, 0, none⟩) ks.length ks.length)).heap.size = wr.heap.size := put4_size _ _ _ _ _ _ _
  have ho2 := own_heap (w' := put4 wr w.heap.size 0 (.int .i64 k) (.string n) (.int .i64 s) (.slice (some ⟨w.heap.size + 2, 0, none⟩) ks.length ks.length)) ho (fun q hq => by simp only [Value.ownBlock, Option.some.injEq] at hq; subst hq; exact hp _ (by omega))
  have hlt := ho.lt (w.heap.size + 2) rfl
  refine ⟨_, _, _, _, rfl, ?_, ?_⟩
  · simp only [IsIn]
    refine ⟨trivial, trivial, trivial, hk, hs, hn, hl, _, _, rfl, Nat.le_refl _, ?_⟩
    refine RowIn_of_KC (g := w.heap.size + 2) ⟨by omega, by omega⟩ ks cs 0 (KC_carry (fun b hb => hp b (by omega)) (fun b hb => ⟨by omega, by omega⟩) ks cs hK) fun i u hu => ?_
    have hi : i < cs.length := by
      rcases Nat.lt_or_ge i cs.length with h | h
      · exact h
      · rw [List.getElem?_eq_none h] at hu; cases hu
    rw [Nat.zero_add, ho2.cellAt i (by omega), List.getElem?_append_left hi]; exact hu
  · unfold put4
    exact (((h.below.setCell (by simp) _).setCell (by simp) _).setCell (by simp) _).setCell (by simp) _
set_option maxHeartbeats 3200000 in
set_option maxRecDepth 100000 in
theorem copyOf_any (m : Nat) : ∀ (t : Tm) (b o : Nat) (w : World), size t ≤ m → m ≤ 1073741824 → Lies w t b o →
    Calls Tryz.prog 125 #[.pointer (some ⟨b, o, none⟩)] w (CopyPost w t) := by
  induction m with
  | zero => intro t b o w h; have := size_pos t; omega
  | succ m ih =>
    intro t b o w hm hM hL
    obtain ⟨k, n, s, ks⟩ := t
    obtain ⟨g0, g1, g2, hk, hs, hn, hl, xa, cap, g3, hcap, hR⟩ := Lies_mk hL
    have hsk : size (.mk k n s ks) = 1 + sizes ks := rfl
    rw [hsk] at hm
    have hkl2 := length_le_sizes ks
    by_cases h0 : ks.length = 0
    · have h0' : (ks.length : Int) = 0 := by omega
      go_enter Tryz.func125, Tryz.ntmps125
      go_wp2_with fail
      go_region_held3 (fun W => W.cell? ⟨b, o, none⟩ = some (.int .i64 k) ∧ W.cell? ⟨b, o + 1, none⟩ = some (.string n) ∧ W.cell? ⟨b, o + 2, none⟩ = some (.int .i64 s) ∧ W.cell? ⟨b, o + 3, none⟩ = some (.slice xa ks.length cap)) (first | go_keep | assumption) (first | fail)
      clear ih hR hL
      go_wp2_with fail
      exact bodyPost_ret (v := .agg #[.int .i64 k, .string n, .int .i64 s, .slice none 0 0]) (by simp [results, Tryz.results125, go_sem]) rfl (copy_leaf hk hs hn h0)
    have h0' : ¬ (ks.length : Int) = 0 := by omega
    obtain ⟨kb, ko, rfl⟩ := Row_at hR (by omega)
    have hkm : ks.length ≤ 1073741824 := by omega
    have HKK := Lib.hid hm
    have hbs := World.block_lt_of_cell? w _ g3
    simp only at hbs
    have nb1 : ¬ b = w.heap.size + 1 := by omega
    have nb2 : ¬ b = w.heap.size + 2 := by omega
    have nb3 : ¬ w.heap.size + 1 = b := by omega
    have nb4 : ¬ w.heap.size + 2 = b := by omega
    clear hm hsk
    go_enter Tryz.func125, Tryz.ntmps125
    go_wp2_with fail
    go_region_held3 (fun W => W.cell? ⟨b, o, none⟩ = some (.int .i64 k) ∧ W.cell? ⟨b, o + 1, none⟩ = some (.string n) ∧ W.cell? ⟨b, o + 2, none⟩ = some (.int .i64 s) ∧ W.cell? ⟨b, o + 3, none⟩ = some (.slice (some ⟨kb, ko, none⟩) ks.length cap)) (first | go_keep | assumption) (first | fail)
    have HR := Lib.hid hR
    have HL := Lib.hid hL
    have HIH := Lib.hid ih
    clear hR hL ih
    obtain ⟨i0, hi0, hz0, hz1, hz2⟩ := info_parts info24
    have HI0 := Lib.hid (And.intro hi0 (And.intro hz0 (And.intro hz1 hz2)))
    clear hi0 hz0 hz1 hz2
    go_wp2_with (at_make; refine make_full_at _ (w.heap.size + 2) (by simp) rfl _ _ _ rfl 24 i0 _ 4 Tryz.underlying22 HI0.out.1 HI0.out.2.1 HI0.out.2.2.1 ks.length rfl rfl (by rw [HI0.out.2.2.2]; omega) (by unfold maxLen; omega) ?_; intro w1 hown1 hgrow; obtain ⟨hm1, hm2, hm3⟩ := copy_made hown1 hgrow; have HM := Lib.hid hm1; obtain ⟨⟨x0, x1, x2, x3⟩, x4, x5, x6, x7⟩ := box_facts hm2; have g3' := (hm3.cell (World.block_lt_of_cell? w _ g3)).trans g3; clear hm1 hm2 hown1 hgrow x4 x5 x6)
    go_loopw [37] (fun i wr => ∃ j : Nat, j ≤ ks.length ∧ i = .int .i64 j ∧ CR w k n s ks j wr) (fun i _ => ks.length - (intOf i).toNat)
    case atStart => exact ⟨0, Nat.zero_le _, rfl, HM.out⟩
    case round =>
      obtain ⟨j, hj, rfl, hC⟩ := hrel
      have hgr : wr.cell? ⟨b, o + 3, none⟩ = some (.slice (some ⟨kb, ko, none⟩) ks.length cap) := (hC.below.cell (World.block_lt_of_cell? w _ g3)).trans g3
      have HC := Lib.hid hC
      clear g3' hC
      by_cases hlt : j < ks.length
      rotate_left
      · have hjl : j = ks.length := by omega
        subst hjl
        have HD := Lib.hid (HC.out.done hk hs hn hl)
        obtain ⟨⟨y0, y1, y2, y3⟩, y4, y5, y6, y7⟩ := box_facts HC.out.res
        obtain ⟨⟨z0, z1, z2, z3⟩, z4, z5, z6, z7⟩ := box_facts HC.out.box
        go_wp2_with fail
        exact bodyPost_ret (v := .agg #[.int .i64 k, .string n, .int .i64 s, .slice (some ⟨w.heap.size + 2, 0, none⟩) ks.length ks.length]) (by simp [results, Tryz.results125, go_sem, y0, y1, y2, y3]) rfl HD.out
      have HLK := Lib.hid (Row_get (Row_below HR.out HC.out.below) j hlt)
      have hsz := sizes_take ks j hlt
      have hle := sizes_take_le ks (j + 1)
      have hs1 : size ks[j] ≤ m := by have := HKK.out; omega
      obtain ⟨⟨_, _, _, q3⟩, _⟩ := box_facts HC.out.box
      have i1 : (0 : Int) ≤ (j : Int) := by omega
      have i2 : (j : Int) < (ks.length : Int) := by omega
      clear hsz hle
      go_wp2_with fail
      go_region_held3 (fun W => W.cell? ⟨w.heap.size + 1, 3, none⟩ = some (.slice (some ⟨w.heap.size + 2, 0, none⟩) ks.length ks.length) ∧ W.cell? ⟨b, o + 3, none⟩ = some (.slice (some ⟨kb, ko, none⟩) ks.length cap))
        (first | go_keep | assumption)
        (first | (go_at_call 125; refine (HIH.out ks[j] kb (ko + j * 4) _ hs1 (by omega) (Lies_carry (keep_drew _) HLK.out)).mono ?_; rintro e w3 ⟨c0, c1, c2, c3, he, hI, hB⟩; subst he; obtain ⟨k', n', s', x', l', c', e0, e1, e2, e3⟩ := IsIn_form hI; subst e0 e1 e2 e3; have hB' : Below wr.heap.size wr w3 := ((Below.refl _ _).drew).trans hB; obtain ⟨⟨z0, z1, z2, z3, y0, y1, y2, y3⟩, hz⟩ := HC.out.cells hlt hB'; have f0 := hz (j * 4); have f1 := hz (j * 4 + 1); have f2 := hz (j * 4 + 2); have f3 := hz (j * 4 + 3); have HN := Lib.hid (HC.out.next hlt hI hB'); have r1 : w3.cell? ⟨w.heap.size + 1, 3, none⟩ = some (.slice (some ⟨w.heap.size + 2, 0, none⟩) ks.length ks.length) := (hB'.cell (World.block_lt_of_cell? wr _ q3)).trans q3; have r2 : w3.cell? ⟨b, o + 3, none⟩ = some (.slice (some ⟨kb, ko, none⟩) ks.length cap) := (hB'.cell (World.block_lt_of_cell? wr _ hgr)).trans hgr; clear hI hB hB' hz))
      go_wp2_with fail
      go_roundw
      case rel => exact ⟨j + 1, by omega, by go_num, HN.out⟩
      case measure => simp [intOf]; omega
end Go.Proofs.YtbcpnepjojppaaaGreatDoor
