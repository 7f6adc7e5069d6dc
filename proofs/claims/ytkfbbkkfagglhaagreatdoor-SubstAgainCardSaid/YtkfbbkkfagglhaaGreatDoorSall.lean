/-
  THE WALKS OF the law's own copy of bindings, of subst.All and of the reference's All.
-/
import Derived.Test.YtkfbbkkfagglhaaGreatDoorRput
import Derived.Test.YtkfbbkkfagglhaaGreatDoorLawFitsW
namespace Go.Proofs.YtkfbbkkfagglhaaGreatDoor
open Go.RowKit

/-- Bindings gathered in a row of the call's own; what they hold lies in the old memory, or in the call's own elsewhere. -/
def BdsIn (base H : Nat) (wr : World) (acc : List Bd) (kv : Value) : Prop :=
  ∃ (F : Nat → Prop) (cs : List Value), wr.ownsRow H 53 8 kv acc.length cs ∧ KC F wr (flatB acc) cs ∧ ∀ b, F b → (b < base ∨ H ≤ b ∧ b < wr.heap.size) ∧ kv.ownBlock ≠ some b
theorem BdsIn_nil (base H : Nat) (w : World) : BdsIn base H w [] (.slice none 0 0) := ⟨fun _ => False, [], World.ownsRow_nil w H _ 8, rfl, fun _ h => h.elim⟩
theorem BdsIn_form {base H : Nat} {w : World} {acc : List Bd} {kv : Value} (h : BdsIn base H w acc kv) : ∃ xa cap, kv = .slice xa acc.length cap := by
  obtain ⟨F, cs, ho, _⟩ := h; exact own_form ho
theorem BdsIn_row {base H : Nat} {w : World} {acc : List Bd} {xa : Option Addr} {cap : Nat} (h : BdsIn base H w acc (.slice xa acc.length cap)) : Row w (flatB acc) xa ∧ acc.length ≤ cap := by
  obtain ⟨F, cs, ho, hK, _⟩ := h
  obtain ⟨xa', cap', e, h1, _, h2⟩ := ElemsB_row (own_elemsB ho hK)
  simp only [Value.slice.injEq] at e
  obtain ⟨rfl, _, rfl⟩ := e
  exact ⟨h2, h1⟩
theorem BdsIn_push {base H n g lcap cap : Nat} {wr w6 w8 : World} {acc : List Bd} {xl : Option Addr} {cs : List Value} {F : Nat → Prop} {v t : Tm} {c0 c1 c2 c3 d0 d1 d2 d3 : Value} {o : Obj} (hn : n = acc.length)
    (ho : wr.ownsRow H 53 8 (.slice xl n lcap) n cs) (hK : KC F wr (flatB acc) cs) (hF : ∀ b, F b → (b < base ∨ H ≤ b ∧ b < wr.heap.size) ∧ (Value.slice xl n lcap).ownBlock ≠ some b) (hbH : base ≤ H) (hH : H ≤ wr.heap.size)
    (hB : Below wr.heap.size wr w6) (hI : IsIn (fun b => b < base ∨ (wr.heap.size ≤ b ∧ b < w6.heap.size)) w6 v c0 c1 c2 c3) (hJ : IsIn (fun b => b < base ∨ (wr.heap.size ≤ b ∧ b < w6.heap.size)) w6 t d0 d1 d2 d3) (hown : w8.ownsRow H 53 8 (.slice (some ⟨g, 0, none⟩) (n + 1) cap) (n + 1) (cs ++ [c0, c1, c2, c3, d0, d1, d2, d3])) (hg : (w6.alloc o).grownBy w8 (Value.slice xl n lcap).ownBlock)
    (hat : (Value.slice xl n lcap).ownBlock = some g ∨ g = w6.heap.size + 1) :
    BdsIn base H w8 (acc ++ [(v, t)]) (.slice (some ⟨g, 0, none⟩) (n + 1) cap) ∧ (∀ b, wr.heap.size ≤ b → b < w6.heap.size → w8.heap[b]? = w6.heap[b]?) ∧ Below H wr w8 := by
  subst hn
  have hsz := hB.size
  have hgs := hg.size
  rw [World.size_alloc] at hgs
  have hlt := fun q hq => ho.lt q hq
  have hk : ∀ b, b < w6.heap.size → (Value.slice xl acc.length lcap).ownBlock ≠ some b → w8.heap[b]? = w6.heap[b]? := fun b hb hne => by
    rw [hg.block b (by rw [World.size_alloc]; omega) (fun e => hne e.symm), Below.heap_alloc _ _ _ hb]
  have hnew : ∀ b, b < w6.heap.size → (Value.slice xl acc.length lcap).ownBlock ≠ some b → (Value.slice (some ⟨g, 0, none⟩) (acc.length + 1) cap).ownBlock ≠ some b := fun b h1 h2 e => by
    have e2 : g = b := by simpa [Value.ownBlock] using e
    rcases hat with h | h
    · exact h2 (by rw [h, e2])
    · omega
  have hFl : ∀ b, F b → b < wr.heap.size := fun b hb => by rcases (hF b hb).1 with h | h <;> omega
  have hS : ∀ b, (b < base ∨ (wr.heap.size ≤ b ∧ b < w6.heap.size)) → b < w6.heap.size ∧ (Value.slice xl acc.length lcap).ownBlock ≠ some b := fun b hb => ⟨by rcases hb with h | h <;> omega, fun e => by have := hlt b e; rcases hb with h | h <;> omega⟩
  refine ⟨⟨fun b => F b ∨ (b < base ∨ (wr.heap.size ≤ b ∧ b < w6.heap.size)), cs ++ [c0, c1, c2, c3, d0, d1, d2, d3], by simpa using hown, ?_, ?_⟩, fun b h1 h2 => hk b h2 (fun e => by have := (hlt b e).2; omega), ((hB.mono hH).alloc (by omega) _).grown hg (by rw [World.size_alloc]; omega) (fun q hq => (hlt q hq).1)⟩
  · rw [flatB_snoc]
    refine KC_append _ _ _ _ (KC_carry (fun b hb => ?_) (fun b hb => Or.inl hb) _ _ hK) ⟨_, _, _, _, _, rfl, IsIn_carry (fun b hb => ?_) (fun b hb => Or.inr hb) _ _ _ _ _ hI, KC_one_term (IsIn_carry (fun b hb => ?_) (fun b hb => Or.inr hb) _ _ _ _ _ hJ)⟩
    · rw [hk b (by have := hFl b hb; omega) (hF b hb).2]; exact hB.block b (hFl b hb)
    · exact hk b (hS b hb).1 (hS b hb).2
    · exact hk b (hS b hb).1 (hS b hb).2
  · rintro b (hb | hb)
    · refine ⟨?_, hnew b (by have := hFl b hb; omega) (hF b hb).2⟩
      rcases (hF b hb).1 with h | h
      · exact Or.inl h
      · exact Or.inr ⟨h.1, by omega⟩
    · refine ⟨?_, hnew b (hS b hb).1 (hS b hb).2⟩
      rcases hb with h | h
      · exact Or.inl h
      · exact Or.inr ⟨by omega, by omega⟩

end Go.Proofs.YtkfbbkkfagglhaaGreatDoor

/-
  THE WALKS OF subst.All and of the reference's All.
-/
namespace Go.Proofs.YtkfbbkkfagglhaaGreatDoor
open Go.RowKit

/-- The terms with a substitution applied, in order, or the first error. -/
def allP (bs : List Bd) : List Tm → List Tm × Int
  | [] => ([], 0)
  | t :: ts => if (applyP bs t).2 = 0 then (if (allP bs ts).2 = 0 then ((applyP bs t).1 :: (allP bs ts).1, 0) else ([], (allP bs ts).2)) else ([], (applyP bs t).2)
def allV (bs : List Bd) (l : List Tm) : List Tm × Int := if validB bs = 0 then (if 200 < l.length then ([], 3) else allP bs l) else ([], validB bs)
def appL (bs : List Bd) (l : List Tm) : List Tm := l.map (fun t => (applyP bs t).1)
theorem allP_err (bs : List Bd) : ∀ (l : List Tm) (j : Nat) (h : j < l.length), (∀ (i : Nat) (hi : i < j), (applyP bs (l[i]'(by omega))).2 = 0) → ¬ (applyP bs l[j]).2 = 0 → allP bs l = ([], (applyP bs l[j]).2)
  | t :: ts, 0, _, _, he => by
    simp only [List.getElem_cons_zero] at he ⊢
    rw [allP, if_neg he]
  | t :: ts, j + 1, h, hok, he => by
    have h0 := hok 0 (by omega)
    simp only [List.getElem_cons_zero] at h0
    simp only [List.getElem_cons_succ] at he ⊢
    have hl : j < ts.length := by simpa using h
    have ih := allP_err bs ts j hl (fun i hi => by have := hok (i + 1) (by omega); simpa using this) he
    rw [allP, if_pos h0, ih, if_neg (by exact he)]
theorem allP_fine (bs : List Bd) : ∀ l : List Tm, (∀ t ∈ l, (applyP bs t).2 = 0) → allP bs l = (appL bs l, 0)
  | [], _ => rfl
  | t :: ts, h => by
    have ih := allP_fine bs ts (fun c hc => h c (List.mem_cons_of_mem _ hc))
    rw [allP, if_pos (h t (List.mem_cons_self ..)), ih, if_pos rfl]; rfl
theorem allP_len (bs : List Bd) : ∀ l : List Tm, (allP bs l).1.length ≤ l.length
  | [] => Nat.le_refl _
  | t :: ts => by
    have ih := allP_len bs ts
    rw [allP]
    by_cases h0 : (applyP bs t).2 = 0
    · rw [if_pos h0]
      by_cases h1 : (allP bs ts).2 = 0
      · rw [if_pos h1]; simpa using ih
      · rw [if_neg h1]; exact Nat.zero_le _
    · rw [if_neg h0]; exact Nat.zero_le _
theorem allP_mem (bs : List Bd) : ∀ (l : List Tm) (u : Tm), u ∈ (allP bs l).1 → ∃ t ∈ l, (applyP bs t).2 = 0 ∧ u = (applyP bs t).1
  | [], u, h => by simp [allP] at h
  | t :: ts, u, h => by
    rw [allP] at h
    by_cases h0 : (applyP bs t).2 = 0
    · rw [if_pos h0] at h
      by_cases h1 : (allP bs ts).2 = 0
      · rw [if_pos h1] at h
        rcases List.mem_cons.1 h with rfl | h
        · exact ⟨t, List.mem_cons_self .., h0, rfl⟩
        · obtain ⟨x, hx, e⟩ := allP_mem bs ts u h
          exact ⟨x, List.mem_cons_of_mem _ hx, e⟩
      · rw [if_neg h1] at h; simp at h
    · rw [if_neg h0] at h; simp at h
/-- A list of terms and an error, given back. -/
def RtPost (w : World) (r : List Tm × Int) (e : Ending) (w' : World) : Prop :=
  ∃ xa cap, e = .returned (.tuple #[.slice xa r.1.length cap, .int .i64 r.2]) ∧ r.1.length ≤ cap ∧ Row w' r.1 xa ∧ Below w.heap.size w w'
theorem RtPost_err {w W : World} {r : List Tm × Int} {x : Int} (h : r = ([], x)) (hB : Below w.heap.size w W) : RtPost w r (.returned (.tuple #[.slice none 0 0, .int .i64 x])) W := by
  rw [h]; exact ⟨none, 0, rfl, Nat.le_refl _, by simp [Row], hB⟩
theorem KidsIn_row {base H : Nat} {w : World} {acc : List Tm} {xa : Option Addr} {cap : Nat} (h : KidsIn base H w acc (.slice xa acc.length cap)) : Row w acc xa ∧ acc.length ≤ cap := by
  have h := IsIn_Is _ _ _ _ _ (KidsIn_node (k := 3) (s := 0) (n := ⟨#[]⟩) h (by omega) (by omega) (Nat.zero_le _))
  simp only [Is] at h
  obtain ⟨_, _, _, _, _, _, _, xa', cap', e, hc, hR⟩ := h
  simp only [Value.slice.injEq] at e
  obtain ⟨rfl, _, rfl⟩ := e
  exact ⟨hR, hc⟩

/-- A made row of terms, the first j of which are set. -/
structure AR (w : World) (g : Nat) (us : List Tm) (j : Nat) (wr : World) : Prop where
  below : Below w.heap.size w wr
  own : w.heap.size ≤ g
  row : ∃ cs zs, wr.ownsRow g 36 4 (.slice (some ⟨g, 0, none⟩) us.length us.length) us.length (cs ++ zs) ∧ cs.length = j * 4 ∧ KC (fun b => g < b ∧ b < wr.heap.size) wr (us.take j) cs
theorem AR.ext {w wr w3 : World} {g j : Nat} {us : List Tm} (h : AR w g us j wr) (hB : Ext wr w3) : AR w g us j w3 := by
  obtain ⟨cs, zs, ho, hc, hK⟩ := h.row
  exact ⟨Ext.trans h.below hB, h.own, cs, zs, own_heap ho (fun q hq => hB.block q (ho.lt q hq).2), hc, KC_carry (fun b hb => hB.block b hb.2) (fun b hb => ⟨hb.1, by have := hB.size; omega⟩) _ _ hK⟩
theorem AR.cells {w wr : World} {g j : Nat} {us : List Tm} (h : AR w g us j wr) (hj : j < us.length) :
    (∃ z0 z1 z2 z3, wr.cell? ⟨g, j * 4, none⟩ = some z0 ∧ wr.cell? ⟨g, j * 4 + 1, none⟩ = some z1 ∧ wr.cell? ⟨g, j * 4 + 2, none⟩ = some z2 ∧ wr.cell? ⟨g, j * 4 + 3, none⟩ = some z3) ∧ ∀ i, wr.frozen? ⟨g, i, none⟩ = false := by
  obtain ⟨cs, zs, ho, hc, _⟩ := h.row
  have hl := ho.1
  have hz : ∀ i, i < 4 → ∃ z, wr.cell? ⟨g, j * 4 + i, none⟩ = some z := fun i hi => by
    rw [ho.cellAt _ (by omega)]
    exact ⟨_, List.getElem?_eq_getElem (by omega)⟩
  obtain ⟨z0, h0⟩ := hz 0 (by omega)
  obtain ⟨z1, h1⟩ := hz 1 (by omega)
  obtain ⟨z2, h2⟩ := hz 2 (by omega)
  obtain ⟨z3, h3⟩ := hz 3 (by omega)
  exact ⟨⟨z0, z1, z2, z3, h0, h1, h2, h3⟩, fun i => ho.frozenAt i⟩
theorem AR.lt {w wr : World} {g j : Nat} {us : List Tm} (h : AR w g us j wr) : g < wr.heap.size := by
  obtain ⟨cs, zs, ho, _⟩ := h.row
  exact (ho.lt g rfl).2
theorem AR.next {w wr : World} {g j : Nat} {us : List Tm} (h : AR w g us j wr) (hj : j < us.length) {c0 c1 c2 c3 : Value}
    (hI : IsIn (fun b => g < b ∧ b < wr.heap.size) wr us[j] c0 c1 c2 c3) : AR w g us (j + 1) (put4 wr g (j * 4) c0 c1 c2 c3) := by
  obtain ⟨cs, zs, ho, hc, hK⟩ := h.row
  have hp : ∀ q, q ≠ g → (put4 wr g (j * 4) c0 c1 c2 c3).heap[q]? = wr.heap[q]? := fun q hq => put4_other _ _ _ _ _ _ _ _ hq
  have hsz : (put4 wr g (j * 4) c0 c1 c2 c3).heap.size = wr.heap.size := put4_size _ _ _ _ _ _ _
  refine ⟨put4_below h.below h.own, h.own, cs ++ [c0, c1, c2, c3], zs.drop 4, ?_, ?_, ?_⟩
  · have h1 := ((((((ho.stored (j * 4) c0).1).stored (j * 4 + 1) c1).1).stored (j * 4 + 2) c2).1.stored (j * 4 + 3) c3).1
    have hz : ∃ z0 z1 z2 z3 r, zs = z0 :: z1 :: z2 :: z3 :: r := by
      have hl := ho.1
      rw [List.length_append] at hl
      exact four_of zs (by omega)
    obtain ⟨z0, z1, z2, z3, r, rfl⟩ := hz
    have e : ((((cs ++ z0 :: z1 :: z2 :: z3 :: r).set (j * 4) c0).set (j * 4 + 1) c1).set (j * 4 + 2) c2).set (j * 4 + 3) c3 = (cs ++ [c0, c1, c2, c3]) ++ List.drop 4 (z0 :: z1 :: z2 :: z3 :: r) := by
      rw [← hc]
      simp only [List.set_append_right _ _ (Nat.le_refl _), List.set_append_right _ _ (Nat.le_add_right _ _), Nat.sub_self, Nat.add_sub_cancel_left, List.set_cons_zero, List.set_cons_succ, List.drop_succ_cons, List.drop_zero, List.append_assoc, List.cons_append, List.nil_append]
    rw [e] at h1
    exact h1
  · simp only [List.length_append, hc, List.length_cons, List.length_nil]; omega
  · rw [List.take_succ_eq_append_getElem hj]
    exact KC_snoc (IsIn_carry (fun b hb => hp b (by omega)) (fun b hb => ⟨hb.1, by rw [hsz]; exact hb.2⟩) _ _ _ _ _ hI) _ _ (KC_carry (fun b hb => hp b (by omega)) (fun b hb => ⟨hb.1, by rw [hsz]; exact hb.2⟩) _ _ hK)
theorem AR.done {w wr : World} {g : Nat} {us : List Tm} (h : AR w g us us.length wr) : Row wr us (some ⟨g, 0, none⟩) ∧ Below w.heap.size w wr := by
  obtain ⟨cs, zs, ho, hc, hK⟩ := h.row
  rw [List.take_length] at hK
  refine ⟨Row_cells g us 0 cs hK (fun i u hu => ?_), h.below⟩
  have hi : i < cs.length := by
    rcases Nat.lt_or_ge i cs.length with h | h
    · exact h
    · rw [List.getElem?_eq_none h] at hu; cases hu
  have hl := ho.1
  rw [List.length_append] at hl
  rw [Nat.zero_add, ho.cellAt i (by omega), List.getElem?_append_left hi]; exact hu
theorem AR_made {w w0 w1 : World} {g : Nat} {us : List Tm} {xs : List Value} (hown : w1.ownsRow g 36 4 (.slice (some ⟨g, 0, none⟩) us.length us.length) us.length xs) (hw : w.heap.size ≤ g) (hz : g ≤ w0.heap.size) (hB : Below w.heap.size w w0) (hg : w0.grownBy w1 none) : AR w g us 0 w1 :=
  ⟨hB.grown hg (by omega) (fun q hq => by simp at hq), hw, [], xs, hown, by simp, rfl⟩

set_option maxHeartbeats 6400000 in
set_option maxRecDepth 100000 in
theorem sall_any (bs : List Bd) (l : List Tm) (xs xl : Option Addr) (cs cl N : Nat) (w : World) (hcs : bs.length ≤ cs) (hlen : bs.length ≤ 1073741824) (hsz : SzB 1073741824 bs) (hrow : Row w (flatB bs) xs) (_hcl : l.length ≤ cl) (hll : l.length ≤ 1048576) (hrl : Row w l xl) (hN : ∀ b ∈ bs, size b.2 ≤ N) (h1 : 1 ≤ N) (hsn : ∀ t ∈ l, size t * N ≤ 1073741824) :
    Calls Tryz.prog 20 #[.slice xs bs.length cs, .slice xl l.length cl] w (RtPost w (allV bs l)) := by
  have HV := Lib.hid (bvalid_any bs xs cs w hcs (by unfold maxLen; omega) hsz hrow)
  have HAP := Lib.hid (fun (hv : validB bs = 0) (t : Tm) (ht : t ∈ l) (c0 c1 c2 c3 : Value) W (x : Ext w W) (hI : Is W t c0 c1 c2 c3) => sapply_any bs xs cs N t c0 c1 c2 c3 W hN h1 (hsn t ht) ⟨Row_below (w' := W) hrow x, hcs, hlen, hsz, (validB_ok hv).2.2⟩ hI)
  have HD : Hid (allV bs l = if validB bs = 0 then (if 200 < l.length then ([], 3) else allP bs l) else ([], validB bs)) := rfl
  have HRL := Lib.hid hrl
  obtain ⟨i0, hi0, hz0, hz1, hz2⟩ := info_parts info24
  have HI0 := Lib.hid (And.intro hi0 (And.intro hz0 (And.intro hz1 hz2)))
  generalize allV bs l = R at HD ⊢
  clear hcs hlen hsz hrow hrl hN h1 hsn hi0 hz0 hz1 hz2
  by_cases hv : validB bs = 0
  rotate_left
  · have HE : Hid (R = ([], validB bs)) := by show _ = _; rw [HD.out, if_neg hv]
    generalize validB bs = E at hv HV HE
    have q1 : (E != 0) = true := by rw [bne_iff_ne]; exact hv
    clear hv
    go_enter Tryz.func20, Tryz.ntmps20
    go_wp2_with (go_at_call 52; refine (HV.out).mono ?_; rintro e w1 ⟨he, hB⟩; subst he; have HB1 := Lib.hid hB; clear hB)
    exact bodyPost_ret (v := .tuple #[.slice none 0 0, .int .i64 E]) (by simp [results, Tryz.results20, go_sem]) rfl (RtPost_err HE.out HB1.out)
  have HD2 : Hid (R = if 200 < l.length then ([], 3) else allP bs l) := by show _ = _; rw [HD.out, if_pos hv]
  have HAQ := Lib.hid (HAP.out hv)
  rw [hv] at HV
  have q0 : ((0 : Int) != 0) = false := rfl
  clear HD HAP
  by_cases h200 : 200 < l.length
  · have HE : Hid (R = ([], 3)) := by show _ = _; rw [HD2.out, if_pos h200]
    have q2 : (200 : Int) < (l.length : Int) := by omega
    clear h200
    go_enter Tryz.func20, Tryz.ntmps20
    go_wp2_with (go_at_call 52; refine (HV.out).mono ?_; rintro e w1 ⟨he, hB⟩; subst he; have HB1 := Lib.hid hB; clear hB)
    exact bodyPost_ret (v := .tuple #[.slice none 0 0, .int .i64 3]) (by simp [results, Tryz.results20, go_sem]) rfl (RtPost_err HE.out HB1.out)
  have HD3 : Hid (R = allP bs l) := by show _ = _; rw [HD2.out, if_neg h200]
  have q2 : (l.length : Int) ≤ 200 := by omega
  obtain ⟨us, hus⟩ : ∃ us, appL bs l = us := ⟨_, rfl⟩
  have hul : us.length = l.length := by rw [← hus]; unfold appL; rw [List.length_map]
  have HUS := Lib.hid hus
  have HUL := Lib.hid hul
  rw [← hul] at q2 hll ⊢
  clear h200 HD2 hus hul
  go_enter Tryz.func20, Tryz.ntmps20
  go_upto_region 6 with (go_at_call 52; refine (HV.out).mono ?_; rintro e w1 ⟨he, hB⟩; subst he; have HB1 := Lib.hid (show Ext w w1 from hB); clear hB)
  have hw1 := HB1.out.size
  go_wp2_with (at_make; refine make_full_at _ w1.heap.size (by simp) rfl _ _ _ rfl 36 i0 _ 4 Tryz.underlying23 HI0.out.1 HI0.out.2.1 HI0.out.2.2.1 us.length rfl rfl (by rw [HI0.out.2.2.2]; omega) (by unfold maxLen; omega) ?_; intro w2 hown1 hgrow; have HM := Lib.hid (AR_made hown1 hw1 (Nat.le_refl _) HB1.out hgrow); clear hown1 hgrow)
  have HG1 := Lib.hid (fun W (x : Ext w2 W) => (show w1.heap.size < W.heap.size from Nat.lt_of_lt_of_le HM.out.lt x.size))
  generalize w1.heap.size = g at HM HG1 ⊢
  go_loopw [24] (fun i wr => ∃ j : Nat, j ≤ us.length ∧ i = .int .i64 j ∧ AR w g us j wr ∧ Hid (∀ (a : Nat) (ha : a < j) (hb : a < l.length), (applyP bs l[a]).2 = 0)) (fun i _ => us.length - (intOf i).toNat)
  case atStart => exact ⟨0, Nat.zero_le _, rfl, HM.out, fun a ha => absurd ha (by omega)⟩
  case round =>
    obtain ⟨j, hj, rfl, hA, HOK⟩ := hrel
    have HA := Lib.hid hA
    by_cases hlt : j < us.length
    rotate_left
    · have hjl : j = us.length := by omega
      have HE : Hid (R = (us, 0)) := by
        show _ = _
        rw [HD3.out, allP_fine bs l (fun t ht => by obtain ⟨a, ha, rfl⟩ := List.getElem_of_mem ht; exact HOK.out a (by have := HUL.out; omega) ha), HUS.out]
      have HRO := Lib.hid (show Row wr us (some ⟨g, 0, none⟩) ∧ Below w.heap.size w wr from by rw [hjl] at hA; exact hA.done)
      clear hA hjl
      go_wp2_with fail
      refine bodyPost_ret (v := .tuple #[.slice (some ⟨g, 0, none⟩) us.length us.length, .int .i64 0]) (by simp [results, Tryz.results20, go_sem]) rfl ?_
      rw [HE.out]
      exact ⟨_, _, rfl, Nat.le_refl _, HRO.out.1, HRO.out.2⟩
    have hlt1 : j < l.length := by have := HUL.out; omega
    have huj : us[j] = (applyP bs l[j]).1 := by
      have h : us[j]? = some (applyP bs l[j]).1 := by rw [← HUS.out]; unfold appL; rw [List.getElem?_map, List.getElem?_eq_getElem hlt1]; rfl
      rw [List.getElem?_eq_getElem hlt, Option.some.injEq] at h; exact h
    obtain ⟨b, o, rfl⟩ := Row_at HRL.out (by omega)
    have hB := hA.below
    obtain ⟨t0, t1, t2, t3, g0, g1, g2, g3, hI2⟩ := Row_get (Row_below HRL.out hB) j hlt1
    obtain ⟨k2, n2, s2, ya2, yl2, yc2, rfl, rfl, rfl, rfl⟩ := Is_form hI2
    have hC := HAQ.out l[j] (List.getElem_mem hlt1) _ _ _ _ wr hB hI2
    have HERR := Lib.hid (fun (h : ¬ (applyP bs l[j]).2 = 0) => allP_err bs l j hlt1 (fun i hi => HOK.out i hi (by omega)) h)
    have HOK2 : Hid ((applyP bs l[j]).2 = 0 → ∀ (a : Nat) (ha : a < j + 1) (hb : a < l.length), (applyP bs l[a]).2 = 0) := fun h a ha hb => by
      by_cases e : a = j
      · subst e; exact h
      · exact HOK.out a (by omega) hb
    generalize applyP bs l[j] = r at hC huj HERR HOK2
    obtain ⟨u, x⟩ := r
    have HC := Lib.hid hC
    have HUJ := Lib.hid (show us[j] = u from huj)
    have i1 : (0 : Int) ≤ (j : Int) := by omega
    have i2 : (j : Int) < (us.length : Int) := by omega
    clear hA hB hI2 hC huj hlt1
    by_cases hx : x = 0
    rotate_left
    · have HQ : Hid (R = ([], x)) := by show _ = _; rw [HD3.out]; exact HERR.out hx
      have q3 : (x != 0) = true := by rw [bne_iff_ne]; exact hx
      clear hx
      go_wp2_with (go_at_call 60; refine (HC.out).mono ?_; rintro e w4 ⟨c0, c1, c2, c3, he, hI4, hB4⟩; subst he; obtain ⟨k6, n6, s6, xa6, l6, cap6, e0, e1, e2, e3⟩ := IsIn_form hI4; subst e0 e1 e2 e3; have HB4 := Lib.hid hB4; clear hI4 hB4)
      exact bodyPost_ret (v := .tuple #[.slice none 0 0, .int .i64 x]) (by simp [results, Tryz.results20, go_sem]) rfl (RtPost_err HQ.out (Ext.alloc (a := w) (Ext.trans (a := w) HA.out.below HB4.out) _))
    have HOK3 := Lib.hid (HOK2.out hx)
    subst hx
    go_upto_region 13 with (go_at_call 60; refine (HC.out).mono ?_; rintro e w4 ⟨c0, c1, c2, c3, he, hI4, hB4⟩; subst he; obtain ⟨k6, n6, s6, xa6, l6, cap6, e0, e1, e2, e3⟩ := IsIn_form hI4; subst e0 e1 e2 e3; have HI4 := Lib.hid hI4; have HB4 := Lib.hid hB4; clear hI4 hB4)
    have hx5 := heap_alloc_new w4 (.cells #[.int .i64 k6, .string n6, .int .i64 s6, .slice xa6 l6 cap6] 36)
    have hE5 : Ext wr (w4.alloc (.cells #[.int .i64 k6, .string n6, .int .i64 s6, .slice xa6 l6 cap6] 36)) := Ext.alloc HB4.out _
    have hgl := HA.out.lt
    have hI5 : IsIn (fun b => g < b ∧ b < (w4.alloc (.cells #[.int .i64 k6, .string n6, .int .i64 s6, .slice xa6 l6 cap6] 36)).heap.size) (w4.alloc (.cells #[.int .i64 k6, .string n6, .int .i64 s6, .slice xa6 l6 cap6] 36)) us[j] (.int .i64 k6) (.string n6) (.int .i64 s6) (.slice xa6 l6 cap6) := by
      rw [HUJ.out]
      exact IsIn_carry (fun b hb => Below.heap_alloc _ _ _ hb.2) (fun b hb => ⟨by have : wr.heap.size ≤ b := hb.1; omega, by rw [World.size_alloc]; have := hb.2; omega⟩) _ _ _ _ _ HI4.out
    have hA5 := HA.out.ext hE5
    have hng : ¬ g = w4.heap.size := by have := HB4.out.size; omega
    have hng2 : ¬ w4.heap.size = g := fun e => hng e.symm
    generalize (w4.alloc (.cells #[.int .i64 k6, .string n6, .int .i64 s6, .slice xa6 l6 cap6] 36)) = w5 at hx5 hI5 hE5 hA5 ⊢
    obtain ⟨⟨m0, m1, m2, m3⟩, _⟩ := box_facts hx5
    obtain ⟨⟨z0, z1, z2, z3, y0, y1, y2, y3⟩, hz⟩ := hA5.cells hlt
    have f0 := hz (j * 4)
    have f1 := hz (j * 4 + 1)
    have f2 := hz (j * 4 + 2)
    have f3 := hz (j * 4 + 3)
    have HN := Lib.hid (hA5.next hlt hI5)
    clear hx5 hI5 hE5 hA5 hz g0 g1 g2 g3
    go_wp2_with fail
    go_roundw
    case rel => exact ⟨j + 1, by omega, by go_num, HN.out, HOK3⟩
    case measure => simp [intOf]; omega
end Go.Proofs.YtkfbbkkfagglhaaGreatDoor

/-
  THE WALKS OF the law SubstApply, the chapter's examples by hypothesis.
-/
namespace Go.Proofs.YtkfbbkkfagglhaaGreatDoor
open Go.RowKit

theorem lists_eq (l : List Tm) : listsEq l l = true := by
  have h : ∀ l : List Tm, cmpL l l = 0 := by
    intro l
    induction l with
    | nil => simp [cmpL]
    | cons a l ih => simp only [cmpL, cmpT_self, ih]; rfl
  unfold listsEq
  rw [h l]; simp
theorem few_terms {l : List Tm} {n most : Nat} (h : few l (n : Int) most = true) : l.length ≤ n ∧ ∀ t ∈ l, size t ≤ most := by
  simp only [few] at h
  by_cases h0 : (n : Int) < (l.length : Int)
  · rw [if_pos h0] at h; simp at h
  · rw [if_neg h0] at h
    have hs := fewL_sizes _ (most : Int) (by omega) h
    exact ⟨by omega, fun t ht => by have := size_le_sizes ht; omega⟩
theorem sizes_le {M : Nat} : ∀ (l : List Tm), (∀ t ∈ l, size t ≤ M) → sizes l ≤ l.length * M
  | [], _ => by simp [sizes]
  | t :: ts, h => by
    have h1 := h t (List.mem_cons_self ..)
    have h2 := sizes_le ts (fun u hu => h u (List.mem_cons_of_mem _ hu))
    simp only [sizes, List.length_cons, Nat.add_mul, Nat.one_mul]; omega
theorem allV_small {bs : List Bd} {l : List Tm} {N : Nat} (hN : ∀ b ∈ bs, size b.2 ≤ N) (h1 : 1 ≤ N) (hsn : ∀ t ∈ l, size t * N ≤ 1073741824) : (allV bs l).1.length ≤ l.length ∧ sizes (allV bs l).1 ≤ l.length * 1073741824 := by
  have hmem : ∀ u ∈ (allV bs l).1, size u ≤ 1073741824 := by
    intro u hu
    unfold allV at hu
    by_cases hv : validB bs = 0
    · rw [if_pos hv] at hu
      by_cases h2 : 200 < l.length
      · rw [if_pos h2] at hu; simp at hu
      · rw [if_neg h2] at hu
        obtain ⟨t, ht, hz, rfl⟩ := allP_mem bs l u hu
        exact applyP_size hN h1 (hsn t ht) hz
    · rw [if_neg hv] at hu; simp at hu
  have hlen : (allV bs l).1.length ≤ l.length := by
    unfold allV
    by_cases hv : validB bs = 0
    · rw [if_pos hv]
      by_cases h2 : 200 < l.length
      · rw [if_pos h2]; exact Nat.zero_le _
      · rw [if_neg h2]; exact allP_len bs l
    · rw [if_neg hv]; exact Nat.zero_le _
  exact ⟨hlen, Nat.le_trans (sizes_le _ hmem) (Nat.mul_le_mul_right _ hlen)⟩
theorem applyV_small {bs : List Bd} {t : Tm} {N : Nat} (hN : ∀ b ∈ bs, size b.2 ≤ N) (h1 : 1 ≤ N) (hsn : size t * N ≤ 1073741824) : size (applyV bs t).1 ≤ 1073741824 := by
  have hz : size zeroT ≤ 1073741824 := by simp [zeroT, size, sizes]
  unfold applyV
  by_cases hv : validB bs = 0
  · rw [if_pos hv]
    by_cases h0 : (applyP bs t).2 = 0
    · exact applyP_size hN h1 hsn h0
    · unfold applyP at h0 ⊢
      by_cases e1 : validE t = 0
      · rw [if_pos e1] at h0 ⊢
        by_cases e2 : validE (apT bs t) = 0
        · rw [if_pos e2] at h0; exact absurd rfl h0
        · rw [if_neg e2]; exact hz
      · rw [if_neg e1]; exact hz
  · rw [if_neg hv]; exact hz

end Go.Proofs.YtkfbbkkfagglhaaGreatDoor
