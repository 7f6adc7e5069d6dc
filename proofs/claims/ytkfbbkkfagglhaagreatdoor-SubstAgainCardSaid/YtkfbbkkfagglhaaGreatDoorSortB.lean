/-
  slices.SortFunc AT A ROW OF BINDINGS, by its contract of the shelf; the walk of Compose's comparison.
-/
import Derived.Test.YtkfbbkkfagglhaaGreatDoorBval
import Derived.Test.YtkfbbkkfagglhaaGreatDoorElems
import Derived.Test.YtkfbbkkfagglhaaGreatDoorSort
import Derived.Test.YtkfbbkkfagglhaaGreatDoorSortlay
import Derived.Test.YtkfbbkkfagglhaaGreatDoorSapply
import Derived.Test.YtkfbbkkfagglhaaGreatDoorSbcopy
import Derived.Deep.RegionHeldLaw
import Derived.Shelf.SlSortCmp.NoneTotal
import Derived.Deep.Onto
namespace Go.Proofs.YtkfbbkkfagglhaaGreatDoor
open Go.RowKit Go.Shelf Go.Lib Go.Sort

set_option maxHeartbeats 400000 in
theorem Compare_gr (t u : Tm) (c0 c1 c2 c3 d0 d1 d2 d3 : Value) (w : World) (ht : size t ≤ 4611686018427387904) (hu : size u ≤ 4611686018427387904) (hI : Is w t c0 c1 c2 c3) (hJ : Is w u d0 d1 d2 d3) :
    Calls Tryz.prog 83 #[.agg #[c0, c1, c2, c3], .agg #[d0, d1, d2, d3]] w fun e w' => e = .returned (.int .i64 (cmpT t u)) ∧ Gr w w' := by
  have h1 : Lies ((w.alloc (.cells #[c0, c1, c2, c3] 36)).alloc (.cells #[d0, d1, d2, d3] 36)) t w.heap.size 0 := Lies_carry (keep_alloc _ _) (Lies_box hI 36)
  have h2 : Lies ((w.alloc (.cells #[c0, c1, c2, c3] 36)).alloc (.cells #[d0, d1, d2, d3] 36)) u (w.heap.size + 1) 0 := by have := Lies_box (Is_alloc hJ (.cells #[c0, c1, c2, c3] 36)) 36; simpa using this
  go_enter Tryz.func83, Tryz.ntmps83
  go_wp2_with (go_at_call 128; refine (compare_any _ t u _ _ _ _ _ (Nat.le_refl _) ht hu h1 h2).mono ?_; rintro e w' ⟨rfl, hB⟩)
  go_ret
  exact ⟨rfl, (((Gr.refl w).alloc _).alloc _).trans hB⟩

set_option maxHeartbeats 1600000 in
set_option maxRecDepth 100000 in
theorem bcmp_any (k n s xa l c k2 n2 s2 xa2 l2 c2' : _) (k3 n3 s3 xa3 l3 c3' k4 n4 s4 xa4 l4 c4' : _) (v u : Tm) (w : World) (hv : size v ≤ 1073741824) (hu : size u ≤ 1073741824) (hI : Is w v (.int .i64 k) (.string n) (.int .i64 s) (.slice xa l c)) (hJ : Is w u (.int .i64 k3) (.string n3) (.int .i64 s3) (.slice xa3 l3 c3')) :
    Calls Tryz.prog 94 #[.agg #[.int .i64 k, .string n, .int .i64 s, .slice xa l c, .int .i64 k2, .string n2, .int .i64 s2, .slice xa2 l2 c2'], .agg #[.int .i64 k3, .string n3, .int .i64 s3, .slice xa3 l3 c3', .int .i64 k4, .string n4, .int .i64 s4, .slice xa4 l4 c4']] w fun e w' => e = .returned (.int .i64 (cmpT v u)) ∧ Gr w w' := by
  have hG : Gr w ((w.alloc (.cells #[.int .i64 k, .string n, .int .i64 s, .slice xa l c, .int .i64 k2, .string n2, .int .i64 s2, .slice xa2 l2 c2'] 53)).alloc (.cells #[.int .i64 k3, .string n3, .int .i64 s3, .slice xa3 l3 c3', .int .i64 k4, .string n4, .int .i64 s4, .slice xa4 l4 c4'] 53)) := ((Gr.refl w).alloc _).alloc _
  have HC := Lib.hid (Compare_gr v u _ _ _ _ _ _ _ _ _ (by omega) (by omega) (Is_below hI hG.below) (Is_below hJ hG.below))
  have HG := Lib.hid hG
  generalize cmpT v u = r at HC ⊢
  clear hG hI hJ hv hu
  go_enter Tryz.func94, Tryz.ntmps94
  go_wp2_with (go_at_call 83; refine (HC.out).mono ?_; rintro e w3 ⟨he, hB⟩; subst he; have HB : Hid (Gr w w3) := Lib.hid (Gr.trans HG.out hB); clear hB)
  go_ret
  exact ⟨rfl, HB.out⟩

/- Rows of elements of N cells. -/
theorem flatG {α : Type} [Inhabited α] (enc : α → List Value) (N : Nat) (hN : ∀ x, (enc x).length = N) (h0 : 0 < N) : ∀ (l : List α) (j : Nat), j < l.length * N → (l.flatMap enc)[j]? = some ((enc l[j / N]!)[j % N]!)
  | [], j, h => by simp at h
  | x :: l, j, h => by
    rw [List.flatMap_cons]
    by_cases hj : j < N
    · rw [List.getElem?_append_left (by rw [hN]; exact hj), Nat.div_eq_of_lt hj, Nat.mod_eq_of_lt hj]
      have hx : j < (enc x).length := by rw [hN]; exact hj
      rw [List.getElem?_eq_getElem hx]
      simp only [List.getElem!_cons_zero]
      rw [getElem!_pos (enc x) j hx]
    · have ih := flatG enc N hN h0 l (j - N) (by simp only [List.length_cons, Nat.add_mul, Nat.one_mul] at h; omega)
      rw [List.getElem?_append_right (by rw [hN]; omega), hN, ih]
      have e1 : j / N = (j - N) / N + 1 := by
        conv => lhs; rw [show j = (j - N) + N by omega]
        rw [Nat.add_div_right _ h0]
      have e2 : j % N = (j - N) % N := by
        conv => lhs; rw [show j = (j - N) + N by omega]
        rw [Nat.add_mod_right]
      rw [e1, e2]
      simp
theorem flatG_len {α : Type} (enc : α → List Value) (N : Nat) (hN : ∀ x, (enc x).length = N) : ∀ (l : List α), (l.flatMap enc).length = l.length * N
  | [] => by simp
  | x :: l => by simp only [List.flatMap_cons, List.length_append, hN, flatG_len enc N hN l, List.length_cons, Nat.add_mul, Nat.one_mul]; omega
theorem flatG_list {α : Type} [Inhabited α] (enc : α → List Value) (N : Nat) (hN : ∀ x, (enc x).length = N) (h0 : 0 < N) (d : Array α) : (flatK enc N d).toList = d.toList.flatMap enc := by
  apply List.ext_getElem?
  intro j
  by_cases hj : j < d.size * N
  · rw [flatG enc N hN h0 d.toList j (by simpa using hj), Array.getElem?_toList, Array.getElem?_eq_getElem (by simpa using hj)]
    have := get_flatK enc N d j hj
    rw [getElem!_pos _ j (by simpa using hj)] at this
    rw [this]
    have hd : j / N < d.size := (Nat.div_lt_iff_lt_mul h0).2 hj
    have e : d.toList[j / N]! = d[j / N]! := by
      rw [getElem!_pos d.toList (j / N) (by simpa using hd), getElem!_pos d (j / N) hd]; simp
    rw [e]
  · rw [List.getElem?_eq_none (by simpa using hj), List.getElem?_eq_none (by rw [flatG_len enc N hN]; simpa using hj)]
/-- A binding as it lies: its cells, and what they hold. -/
structure BA (S : Nat → Prop) (w : World) where
  b : Bd
  k : Int
  n : ByteArray
  s : Int
  xa : Option Addr
  l : Nat
  c : Nat
  k2 : Int
  n2 : ByteArray
  s2 : Int
  xa2 : Option Addr
  l2 : Nat
  c2 : Nat
  hv : IsIn S w b.1 (.int .i64 k) (.string n) (.int .i64 s) (.slice xa l c)
  ht : IsIn S w b.2 (.int .i64 k2) (.string n2) (.int .i64 s2) (.slice xa2 l2 c2)
  zv : size b.1 ≤ 1073741824
  zt : size b.2 ≤ 1073741824
def encB {S : Nat → Prop} {w : World} (x : BA S w) : List Value := [.int .i64 x.k, .string x.n, .int .i64 x.s, .slice x.xa x.l x.c, .int .i64 x.k2, .string x.n2, .int .i64 x.s2, .slice x.xa2 x.l2 x.c2]
theorem encB_len {S : Nat → Prop} {w : World} (x : BA S w) : (encB x).length = 8 := rfl

theorem KC_BA {S : Nat → Prop} {w : World} : ∀ (bs : List Bd) (cs : List Value), KC S w (flatB bs) cs → SzB 1073741824 bs → ∃ l : List (BA S w), l.map BA.b = bs ∧ cs = l.flatMap encB
  | [], cs, h, _ => ⟨[], rfl, h⟩
  | b :: bs, cs, h, hz => by
    obtain ⟨c0, c1, c2, c3, r, rfl, hI, h1⟩ := h
    obtain ⟨d0, d1, d2, d3, r2, rfl, hJ, h2⟩ := h1
    obtain ⟨k, n, s, xa, l, c, rfl, rfl, rfl, rfl⟩ := IsIn_form hI
    obtain ⟨k2, n2, s2, xa2, l2, c2, rfl, rfl, rfl, rfl⟩ := IsIn_form hJ
    obtain ⟨m, e1, e2⟩ := KC_BA bs r2 h2 (fun x hx => hz x (List.mem_cons_of_mem _ hx))
    have hzb := hz b (List.mem_cons_self ..)
    exact ⟨⟨b, k, n, s, xa, l, c, k2, n2, s2, xa2, l2, c2, hI, hJ, hzb.1, hzb.2⟩ :: m, by simp [e1], by simp [e2, encB]⟩
theorem BA_KC {S S' : Nat → Prop} {w w' : World} (hc : ∀ b, S b → w'.heap[b]? = w.heap[b]?) (hS : ∀ b, S b → S' b) : ∀ l : List (BA S w), KC S' w' (flatB (l.map BA.b)) (l.flatMap encB)
  | [] => rfl
  | x :: l => ⟨_, _, _, _, _, rfl, IsIn_carry hc hS _ _ _ _ _ x.hv, _, _, _, _, _, rfl, IsIn_carry hc hS _ _ _ _ _ x.ht, BA_KC hc hS l⟩

theorem putRow_keep {w : World} {g q b : Nat} (ys : Array Value) (os : Array Obj) (hb : b < w.heap.size) (hne : b ≠ g) : (Sort.grow (putRow id (Sort.ahead w q) g 0 ys) os).heap[b]? = w.heap[b]? := by
  have hsz : (putRow id (Sort.ahead w q) g 0 ys).heap.size = w.heap.size := by simp [putRow, mapBlock, Sort.ahead]
  simp only [Sort.grow]
  rw [Array.getElem?_append_left (by rw [hsz]; omega)]
  simp only [putRow, mapBlock, Sort.ahead, Array.getElem?_modify]
  rw [if_neg (fun e => hne e.symm)]

def SortBPost (H : Nat) (S : Nat → Prop) (w : World) (g n cap : Nat) (bs : List Bd) (e : Ending) (w' : World) : Prop :=
  e = .returned (.tuple #[]) ∧ ∃ bs' vs', w'.ownsRow H 53 8 (.slice (some ⟨g, 0, none⟩) n cap) n vs' ∧ KC S w' (flatB bs') vs' ∧ bs'.Perm bs ∧ bs'.Pairwise (fun a b => ¬ cmpT b.1 a.1 < 0) ∧ Below H w w' ∧ w.heap.size ≤ w'.heap.size

set_option maxHeartbeats 1600000 in
set_option maxRecDepth 100000 in
theorem sort_binds {H g n cap : Nat} {S : Nat → Prop} {bs : List Bd} {vs : List Value} {w : World} (hown : w.ownsRow H 53 8 (.slice (some ⟨g, 0, none⟩) n cap) n vs) (hK : KC S w (flatB bs) vs) (hS : ∀ b, S b → b < w.heap.size ∧ b ≠ g) (hHw : H ≤ w.heap.size) (hn : 0 < n) (hsz : SzB 1073741824 bs) (hlt : n < 1073741824) :
    Calls Tryz.prog 93 #[.slice (some ⟨g, 0, none⟩) n cap, .func (.func 94) #[] #[]] w (SortBPost H S w g n cap bs) := by
  obtain ⟨l, e1, e2⟩ := KC_BA bs vs hK hsz
  have hvl : vs.length = l.length * 8 := by rw [e2, flatG_len encB 8 encB_len]
  have hnl : n = l.length := by have := hown.1; omega
  have hg := hown.lt g rfl
  obtain ⟨x0, hx0⟩ : ∃ x0, l[0]? = some x0 := ⟨_, List.getElem?_eq_getElem (by omega)⟩
  haveI : Inhabited (BA S w) := ⟨x0⟩
  have eg : ∀ args w, (callFunc 94 args).run Tryz.prog w = .ok (.enter 94 args) w := enters_of Tryz.func94 (by kernel_rfl) rfl
  have hO : SWO (ltOf fun x y : BA S w => cmpT x.b.1 y.b.1) := by
    refine ⟨fun x => ?_, fun x y z a b => ?_, fun x y z a b => ?_⟩
    · simp [ltOf, cmpT_self]
    · simp only [ltOf, decide_eq_true_eq] at a b ⊢; exact cmpT_trans a b
    · simp only [ltOf, decide_eq_false_iff_not] at a b ⊢; exact cmpT_ntrans a b
  have hcmp : CmpLays Tryz.prog 94 #[] (encB (S := S) (w := w)) 8 (fun x y => cmpT x.b.1 y.b.1) g 0 l.toArray.size w := by
    intro m os dk _ x y
    have hx := IsIn_Is _ _ _ _ _ (IsIn_carry (S' := S) (fun b hb => putRow_keep (q := m) (flatK encB 8 dk) os (hS b hb).1 (hS b hb).2) (fun _ h => h) _ _ _ _ _ x.hv)
    have hy := IsIn_Is _ _ _ _ _ (IsIn_carry (S' := S) (fun b hb => putRow_keep (q := m) (flatK encB 8 dk) os (hS b hb).1 (hS b hb).2) (fun _ h => h) _ _ _ _ _ y.hv)
    exact (bcmp_any _ _ _ _ _ _ _ _ _ _ _ _ _ _ _ _ _ _ _ _ _ _ _ _ x.b.1 y.b.1 _ x.zv y.zv hx hy).mono fun e w' h => ⟨h.1, h.2.grow⟩
  have hH : HoldsK encB 8 w g 0 l.toArray := by
    intro j hj
    refine ⟨?_, hown.frozenAt _⟩
    simp only [size_flatK, List.size_toArray] at hj
    rw [Nat.zero_add, hown.cellAt j (by omega), e2, flatG encB 8 encB_len (by omega) l j hj, get_flatK encB 8 l.toArray j (by simpa using hj)]
    simp
  have hcon := AnyQ.slices_SortFunc Tryz.sortBinds 8 Tryz.isAgg53 Tryz.sizeOf53 encB encB_len (fun x v hv => by simp [encB] at hv; rcases hv with rfl | rfl | rfl | rfl | rfl | rfl | rfl | rfl <;> rfl) (fun x y => cmpT x.b.1 y.b.1) hO 94 #[] g 0 cap l.toArray w eg hcmp hH hg.2 (by simp; omega)
  rw [List.size_toArray, ← hnl] at hcon
  refine hcon.mono ?_
  rintro e w' ⟨rfl, d', m, os, hp, hs, rfl⟩
  obtain ⟨hp1, _, hp3⟩ := hp
  simp only [List.size_toArray] at hp1
  have hperm : d'.toList.Perm l := by
    have ea : d'.extract 0 n = d' := by rw [hnl, ← hp1]; simp
    have eb : l.toArray.extract 0 n = l.toArray := by rw [hnl]; simp
    rw [ea, eb] at hp3
    simpa using hp3
  have hk := putRow_below (w := w) (q := m) hg.1 (flatK encB 8 d') os hHw
  refine ⟨rfl, d'.toList.map BA.b, d'.toList.flatMap encB, ?_, BA_KC (fun b hb => putRow_keep (q := m) (flatK encB 8 d') os (hS b hb).1 (hS b hb).2) (fun _ h => h) d'.toList, ?_, ?_, hk, hk.size⟩
  · have hy : (d'.toList.flatMap encB).length = n * 8 := by rw [flatG_len encB 8 encB_len]; simp [hp1, hnl]
    have := own_putRow (q := m) (os := os) hown hy
    rw [← flatG_list encB 8 encB_len (by omega) d'] at this ⊢
    rw [Array.toArray_toList] at this
    exact this
  · rw [← e1]; exact hperm.map _
  · rw [List.pairwise_map, List.pairwise_iff_getElem]
    intro i j hi hj hij
    have := hs i j (Nat.zero_le _) hij (by simpa [hp1, hnl] using hj)
    simp only [ltOf, decide_eq_false_iff_not] at this
    simp only [Array.length_toList] at hi hj
    rw [getElem!_pos d' i hi, getElem!_pos d' j hj] at this
    simpa using this
end Go.Proofs.YtkfbbkkfagglhaaGreatDoor

/-
  THE WALK OF subst.followed.
-/
namespace Go.Proofs.YtkfbbkkfagglhaaGreatDoor
open Go.RowKit

theorem infoBd : (Tryz.prog.info? 53).map (fun i => (i.zero, i.size, i.bytes)) = some (some (.agg #[.int .i64 0, .string ⟨#[]⟩, .int .i64 0, .slice none 0 0, .int .i64 0, .string ⟨#[]⟩, .int .i64 0, .slice none 0 0]), 8, 112) := by kernel_rfl

/-- The bindings with another substitution applied, without those that bind nothing then. -/
def folP (ts : List Bd) : List Bd → List Bd × Int
  | [] => ([], 0)
  | b :: bs => if (applyP ts b.2).2 = 0 then (if (folP ts bs).2 = 0 then (if cmpT b.1 (applyP ts b.2).1 = 0 then ((folP ts bs).1, 0) else ((b.1, (applyP ts b.2).1) :: (folP ts bs).1, 0)) else ([], (folP ts bs).2)) else ([], (applyP ts b.2).2)
/-- What comes out with these bindings done. -/
def folS (ts acc bs : List Bd) : List Bd × Int := if (folP ts bs).2 = 0 then (acc ++ (folP ts bs).1, 0) else ([], (folP ts bs).2)
theorem folS_nil (ts bs : List Bd) : folS ts [] bs = if (folP ts bs).2 = 0 then ((folP ts bs).1, 0) else ([], (folP ts bs).2) := rfl
theorem folS_end (ts acc : List Bd) : folS ts acc [] = (acc, 0) := by simp [folS, folP]
theorem folS_err {ts acc bs : List Bd} {b : Bd} (h : ¬ (applyP ts b.2).2 = 0) : folS ts acc (b :: bs) = ([], (applyP ts b.2).2) := by
  unfold folS
  have e : folP ts (b :: bs) = ([], (applyP ts b.2).2) := by rw [folP, if_neg h]
  rw [e, if_neg h]
theorem folS_skip {ts acc bs : List Bd} {b : Bd} (h : (applyP ts b.2).2 = 0) (hc : cmpT b.1 (applyP ts b.2).1 = 0) : folS ts acc (b :: bs) = folS ts acc bs := by
  unfold folS
  by_cases h2 : (folP ts bs).2 = 0
  · have e : folP ts (b :: bs) = ((folP ts bs).1, 0) := by rw [folP, if_pos h, if_pos h2, if_pos hc]
    rw [e, if_pos h2]; rfl
  · have e : folP ts (b :: bs) = ([], (folP ts bs).2) := by rw [folP, if_pos h, if_neg h2]
    rw [e, if_neg h2, if_neg h2]
theorem folS_keep {ts acc bs : List Bd} {b : Bd} (h : (applyP ts b.2).2 = 0) (hc : ¬ cmpT b.1 (applyP ts b.2).1 = 0) : folS ts acc (b :: bs) = folS ts (acc ++ [(b.1, (applyP ts b.2).1)]) bs := by
  unfold folS
  by_cases h2 : (folP ts bs).2 = 0
  · have e : folP ts (b :: bs) = ((b.1, (applyP ts b.2).1) :: (folP ts bs).1, 0) := by rw [folP, if_pos h, if_pos h2, if_neg hc]
    rw [e, if_pos h2]
    simp
  · have e : folP ts (b :: bs) = ([], (folP ts bs).2) := by rw [folP, if_pos h, if_neg h2]
    rw [e, if_neg h2, if_neg h2]
theorem folS_pair (ts bs : List Bd) (h : (folP ts bs).2 ≠ 0 → (folP ts bs).1 = []) : folS ts [] bs = folP ts bs := by
  unfold folS
  by_cases h2 : (folP ts bs).2 = 0
  · rw [if_pos h2]; exact Prod.ext rfl h2.symm
  · rw [if_neg h2]; exact Prod.ext (h h2).symm rfl

/-- Bindings that are made: a row of the call's own, what it holds lies elsewhere. -/
def BdsAt (H : Nat) (wr : World) (acc : List Bd) (kv : Value) : Prop :=
  ∃ (F : Nat → Prop) (cs : List Value), wr.ownsRow H 53 8 kv acc.length cs ∧ KC F wr (flatB acc) cs ∧ ∀ b, F b → H ≤ b ∧ b < wr.heap.size ∧ kv.ownBlock ≠ some b
theorem BdsAt_nil (H : Nat) (w : World) : BdsAt H w [] (.slice none 0 0) := ⟨fun _ => False, [], World.ownsRow_nil w H _ 8, rfl, fun _ h => h.elim⟩
theorem BdsAt_form {H : Nat} {w : World} {acc : List Bd} {kv : Value} (h : BdsAt H w acc kv) : ∃ xa cap, kv = .slice xa acc.length cap := by
  obtain ⟨F, cs, ho, _⟩ := h; exact own_form ho
theorem BdsAt_ext {H : Nat} {w w' : World} {acc : List Bd} {kv : Value} (h : BdsAt H w acc kv) (hE : Ext w w') : BdsAt H w' acc kv := by
  obtain ⟨F, cs, ho, hK, hF⟩ := h
  exact ⟨F, cs, own_heap ho (fun q hq => hE.block q (ho.lt q hq).2), KC_carry (fun b hb => hE.block b (hF b hb).2.1) (fun _ h => h) _ _ hK, fun b hb => ⟨(hF b hb).1, Nat.lt_of_lt_of_le (hF b hb).2.1 hE.size, (hF b hb).2.2⟩⟩
theorem flatB_snoc : ∀ (l : List Bd) (b : Bd), flatB (l ++ [b]) = flatB l ++ [b.1, b.2]
  | [], b => rfl
  | x :: l, b => by simp only [List.cons_append, flatB, flatB_snoc l b]
/-- One more binding. -/
theorem BdsAt_push {H n g lcap cap : Nat} {wr w6 w8 : World} {acc : List Bd} {xl : Option Addr} {cs : List Value} {F : Nat → Prop} {v t : Tm} {c0 c1 c2 c3 d0 d1 d2 d3 : Value} {o : Obj} (hn : n = acc.length)
    (ho : wr.ownsRow H 53 8 (.slice xl n lcap) n cs) (hK : KC F wr (flatB acc) cs) (hF : ∀ b, F b → H ≤ b ∧ b < wr.heap.size ∧ (Value.slice xl n lcap).ownBlock ≠ some b) (hH : H ≤ wr.heap.size)
    (hB : Below wr.heap.size wr w6) (hI : IsIn (fun b => wr.heap.size ≤ b ∧ b < w6.heap.size) w6 v c0 c1 c2 c3) (hJ : IsIn (fun b => wr.heap.size ≤ b ∧ b < w6.heap.size) w6 t d0 d1 d2 d3) (hown : w8.ownsRow H 53 8 (.slice (some ⟨g, 0, none⟩) (n + 1) cap) (n + 1) (cs ++ [c0, c1, c2, c3, d0, d1, d2, d3])) (hg : (w6.alloc o).grownBy w8 (Value.slice xl n lcap).ownBlock)
    (hat : (Value.slice xl n lcap).ownBlock = some g ∨ g = w6.heap.size + 1) :
    BdsAt H w8 (acc ++ [(v, t)]) (.slice (some ⟨g, 0, none⟩) (n + 1) cap) ∧ Below H wr w8 ∧ ∀ b, wr.heap.size ≤ b → b < w6.heap.size → w8.heap[b]? = w6.heap[b]? := by
  subst hn
  have hsz := hB.size
  have hgs := hg.size
  rw [World.size_alloc] at hgs
  have hlt := fun q hq => ho.lt q hq
  have hk : ∀ b, b < w6.heap.size → (Value.slice xl acc.length lcap).ownBlock ≠ some b → w8.heap[b]? = w6.heap[b]? := fun b hb hne => by
    rw [hg.block b (by rw [World.size_alloc]; omega) (fun e => hne e.symm), Below.heap_alloc _ _ _ hb]
  refine ⟨⟨fun b => F b ∨ (wr.heap.size ≤ b ∧ b < w6.heap.size), cs ++ [c0, c1, c2, c3, d0, d1, d2, d3], by simpa using hown, ?_, ?_⟩, ?_, fun b h1 h2 => hk b h2 (fun e => by have := (hlt b e).2; omega)⟩
  · rw [flatB_snoc]
    refine KC_append _ _ _ _ (KC_carry (fun b hb => ?_) (fun b hb => Or.inl hb) _ _ hK) ⟨_, _, _, _, _, rfl, IsIn_carry (fun b hb => ?_) (fun b hb => Or.inr hb) _ _ _ _ _ hI, KC_one_term (IsIn_carry (fun b hb => ?_) (fun b hb => Or.inr hb) _ _ _ _ _ hJ)⟩
    · rw [hk b (by have := (hF b hb).2.1; omega) (hF b hb).2.2]; exact hB.block b (hF b hb).2.1
    · exact hk b hb.2 (fun e => by have := (hlt b e).2; omega)
    · exact hk b hb.2 (fun e => by have := (hlt b e).2; omega)
  · have hnew : ∀ b, b < w6.heap.size → (Value.slice xl acc.length lcap).ownBlock ≠ some b → (Value.slice (some ⟨g, 0, none⟩) (acc.length + 1) cap).ownBlock ≠ some b := fun b h1 h2 e => by
      have e2 : g = b := by simpa [Value.ownBlock] using e
      rcases hat with h | h
      · exact h2 (by rw [h, e2])
      · omega
    rintro b (hb | hb)
    · exact ⟨(hF b hb).1, by have := (hF b hb).2.1; omega, hnew b (by have := (hF b hb).2.1; omega) (hF b hb).2.2⟩
    · exact ⟨by omega, by omega, hnew b hb.2 (fun e => by have := (hlt b e).2; omega)⟩
  · exact ((hB.mono hH).alloc (by omega) _).grown hg (by rw [World.size_alloc]; omega) (fun q hq => (hlt q hq).1)
end Go.Proofs.YtkfbbkkfagglhaaGreatDoor

/-
  THE WALK OF subst.followed.
-/
namespace Go.Proofs.YtkfbbkkfagglhaaGreatDoor
open Go.RowKit
def FolPost (w : World) (r : List Bd × Int) (e : Ending) (w' : World) : Prop :=
  ∃ kv, e = .returned (.tuple #[kv, .int .i64 r.2]) ∧ BdsAt w.heap.size w' r.1 kv ∧ Below w.heap.size w w'
set_option maxHeartbeats 6400000 in
set_option maxRecDepth 100000 in
theorem sfollowed_any (ss ts : List Bd) (xs xt : Option Addr) (cs ct N : Nat) (w : World) (hcs : ss.length ≤ cs) (hlen : ss.length ≤ 1073741824) (hsz : SzB 1073741824 ss) (hrow : Row w (flatB ss) xs) (hRb : RbOk ts xt ct w) (hN : ∀ b ∈ ts, size b.2 ≤ N) (h1 : 1 ≤ N) (hsn : ∀ b ∈ ss, size b.2 * N ≤ 1073741824) :
    Calls Tryz.prog 91 #[.slice xs ss.length cs, .slice xt ts.length ct] w (FolPost w (folS ts [] ss)) := by
  have HR := Lib.hid hrow
  have HSZ := Lib.hid hsz
  have HC2 := Lib.hid hcs
  have HRB := Lib.hid hRb
  have HN := Lib.hid hN
  have HSN := Lib.hid hsn
  clear hrow hsz hcs hRb hN hsn
  go_enter Tryz.func91, Tryz.ntmps91
  go_wp2_with fail
  go_loopw [6, 12] (fun l i wr => ∃ (j : Nat) (acc : List Bd), j ≤ ss.length ∧ i = .int .i64 j ∧ acc.length ≤ j ∧ Hid (folS ts [] ss = folS ts acc (ss.drop j)) ∧ BdsAt w.heap.size wr acc l ∧ Below w.heap.size w wr) (fun _ i _ => ss.length - (intOf i).toNat)
  case atStart => exact ⟨0, [], Nat.zero_le _, rfl, Nat.le_refl _, Lib.hid rfl, BdsAt_nil _ _, Below.refl _ _⟩
  case round =>
    obtain ⟨j, acc, hj, rfl, haj, hfo, hBA, hB⟩ := hrel
    obtain ⟨xl, lcap, rfl⟩ := BdsAt_form hBA
    by_cases hlt : j < ss.length
    rotate_left
    · have H : Hid (FolPost w (folS ts [] ss) (.returned (.tuple #[.slice xl acc.length lcap, .int .i64 0])) wr) := by
        show FolPost _ _ _ _
        rw [hfo.out, List.drop_eq_nil_of_le (by omega), folS_end]
        exact ⟨_, rfl, hBA, hB⟩
      clear hBA hB hfo
      go_wp2_with fail
      exact bodyPost_ret (v := .tuple #[.slice xl acc.length lcap, .int .i64 0]) (by simp [results, Tryz.results91, go_sem]) rfl H.out
    have hd : ss.drop j = ss[j] :: ss.drop (j + 1) := List.drop_eq_getElem_cons hlt
    obtain ⟨b, o, rfl⟩ := Row_at HR.out (by rw [flatB_length]; omega)
    obtain ⟨⟨v0, v1, v2, v3, g0, g1, g2, g3, hIv⟩, t0, t1, t2, t3, g4, g5, g6, g7, hIt⟩ := bds_get HR.out j hlt
    obtain ⟨k, n, s, ya, yl, yc, rfl, rfl, rfl, rfl⟩ := Is_form hIv
    obtain ⟨k2, n2, s2, ya2, yl2, yc2, rfl, rfl, rfl, rfl⟩ := Is_form hIt
    rw [Nat.add_assoc] at g5 g6 g7
    have HG : Hid (∀ W, Ext w W → W.cell? ⟨b, o + j * 8, none⟩ = some (.int .i64 k) ∧ W.cell? ⟨b, o + j * 8 + 1, none⟩ = some (.string n) ∧ W.cell? ⟨b, o + j * 8 + 2, none⟩ = some (.int .i64 s) ∧ W.cell? ⟨b, o + j * 8 + 3, none⟩ = some (.slice ya yl yc)) := fun W x => ⟨keep_below x _ _ g0, keep_below x _ _ g1, keep_below x _ _ g2, keep_below x _ _ g3⟩
    have g0 := keep_below hB _ _ g0
    have g1 := keep_below hB _ _ g1
    have g2 := keep_below hB _ _ g2
    have g3 := keep_below hB _ _ g3
    have g4 := keep_below hB _ _ g4
    have g5 := keep_below hB _ _ g5
    have g6 := keep_below hB _ _ g6
    have g7 := keep_below hB _ _ g7
    have hIv := Is_below hIv hB
    have hIt := Is_below hIt hB
    have hs1 := HSZ.out _ (List.getElem_mem hlt)
    have hsn := HSN.out _ (List.getElem_mem hlt)
    have HA := Lib.hid (sapply_any ts xt ct N ss[j].2 _ _ _ _ wr HN.out h1 hsn (HRB.out.ext hB) hIt)
    have HC := Lib.hid (fun W (x : Ext wr W) => scopy_any ss[j].1 _ _ _ _ W hs1.1 (Is_below (w' := W) hIv x))
    have HAP : Hid ((applyP ts ss[j].2).2 = 0 → size (applyP ts ss[j].2).1 ≤ 1073741824) := by
      show _ → _
      intro h
      have hz := Nat.le_trans (apT_size ts N HN.out h1 ss[j].2) hsn
      unfold applyP at h ⊢
      by_cases e1 : validE ss[j].2 = 0
      · rw [if_pos e1] at h ⊢
        by_cases e2 : validE (apT ts ss[j].2) = 0
        · rw [if_pos e2]; exact hz
        · rw [if_neg e2] at h; exact absurd h e2
      · rw [if_neg e1] at h; exact absurd h e1
    have HS := Lib.hid (fun (u : Tm) (c0 c1 c2 c3 : Value) (hu : size u ≤ 1073741824) W (x : Ext wr W) (hI : Is W u c0 c1 c2 c3) => ssame_any ss[j].1 u _ _ _ _ _ _ _ _ W (by omega) (by omega) (Is_below (w' := W) hIv x) hI)
    have i1 : (0 : Int) ≤ (j : Int) := by omega
    have i2 : (j : Int) < (ss.length : Int) := by omega
    have hfe := folS_err (ts := ts) (acc := acc) (bs := ss.drop (j + 1)) (b := ss[j])
    have hfs := folS_skip (ts := ts) (acc := acc) (bs := ss.drop (j + 1)) (b := ss[j])
    have hfk := folS_keep (ts := ts) (acc := acc) (bs := ss.drop (j + 1)) (b := ss[j])
    rw [hd] at hfo
    generalize ss[j].1 = V at HC HS hfs hfk hs1
    generalize hap : applyP ts ss[j].2 = ap at HA HAP hfe hfs hfk
    obtain ⟨U, E⟩ := ap
    have HFO := Lib.hid hfo
    have HBA := Lib.hid hBA
    have HB := Lib.hid hB
    clear hfo hBA hB hap hIv hIt
    by_cases he : E = 0
    rotate_left
    · have H : Hid (∀ W, Ext wr W → FolPost w (folS ts [] ss) (.returned (.tuple #[.slice none 0 0, .int .i64 E])) W) := by
        show ∀ _, _ → _
        intro W x
        rw [HFO.out.out, hfe he]
        exact ⟨_, rfl, BdsAt_nil _ _, HB.out.trans (x.mono HB.out.size)⟩
      have q2 : (E != 0) = true := by rw [bne_iff_ne]; exact he
      clear HFO HBA HAP hfe hfs hfk he HC HS HG
      go_wp2_with (go_at_call 60; refine (HA.out).mono ?_; rintro e w3 ⟨c0, c1, c2, c3, he, hI3, hB3⟩; subst he; obtain ⟨k3, n3, s3, xa3, l3, cap3, e0, e1, e2, e3⟩ := IsIn_form hI3; subst e0 e1 e2 e3; have HB3 := Lib.hid hB3; clear hI3 hB3)
      exact bodyPost_ret (v := .tuple #[.slice none 0 0, .int .i64 E]) (by simp [results, Tryz.results91, go_sem]) rfl (H.out _ (HB3.out.alloc HB3.out.size _))
    subst he
    go_upto_region 8 with (go_at_call 60; refine (HA.out).mono ?_; rintro e w3 ⟨c0, c1, c2, c3, he, hI3, hB3⟩; subst he; obtain ⟨k3, n3, s3, xa3, l3, cap3, e0, e1, e2, e3⟩ := IsIn_form hI3; subst e0 e1 e2 e3; have HI3 := Lib.hid hI3; have HB3 := Lib.hid hB3; clear hI3 hB3)
    have hx4 := heap_alloc_new w3 (.cells #[.int .i64 k3, .string n3, .int .i64 s3, .slice xa3 l3 cap3] 36)
    have hB4 : Ext wr (w3.alloc (.cells #[.int .i64 k3, .string n3, .int .i64 s3, .slice xa3 l3 cap3] 36)) := HB3.out.alloc HB3.out.size _
    have hI4 : IsIn (fun b => wr.heap.size ≤ b ∧ b < w3.heap.size) (w3.alloc (.cells #[.int .i64 k3, .string n3, .int .i64 s3, .slice xa3 l3 cap3] 36)) U (.int .i64 k3) (.string n3) (.int .i64 s3) (.slice xa3 l3 cap3) := IsIn_carry (fun b hb => Below.heap_alloc _ _ _ hb.2) (fun b hb => hb) _ _ _ _ _ HI3.out
    have hs4 : (w3.alloc (.cells #[.int .i64 k3, .string n3, .int .i64 s3, .slice xa3 l3 cap3] 36)).heap.size = w3.heap.size + 1 := World.size_alloc _ _
    have hle := HB3.out.size
    generalize (w3.alloc (.cells #[.int .i64 k3, .string n3, .int .i64 s3, .slice xa3 l3 cap3] 36)) = w4 at hx4 hB4 hI4 hs4 ⊢
    generalize w3.heap.size = gb at hx4 hI4 hs4 hle ⊢
    have HCr : Hid (∀ W, Ext w4 W → (W.cell? ⟨b, o + j * 8, none⟩ = some (.int .i64 k) ∧ W.cell? ⟨b, o + j * 8 + 1, none⟩ = some (.string n) ∧ W.cell? ⟨b, o + j * 8 + 2, none⟩ = some (.int .i64 s) ∧ W.cell? ⟨b, o + j * 8 + 3, none⟩ = some (.slice ya yl yc)) ∧ W.cell? ⟨gb, 0, none⟩ = some (.int .i64 k3) ∧ W.cell? ⟨gb, 1, none⟩ = some (.string n3) ∧ W.cell? ⟨gb, 2, none⟩ = some (.int .i64 s3) ∧ W.cell? ⟨gb, 3, none⟩ = some (.slice xa3 l3 cap3)) := fun W x => ⟨HG.out W (Ext.trans HB.out (Ext.trans hB4 x)), (box_facts ((x.block gb (by omega)).trans hx4)).1⟩
    have HI4 := Lib.hid (And.intro hI4 (And.intro hs4 hle))
    have HX4 := Lib.hid (fun W (x : Ext w4 W) => (x.block gb (by omega)).trans hx4)
    have HB4 := Lib.hid hB4
    have HS4 := Lib.hid (fun W (x : Ext w4 W) => HS.out U _ _ _ _ (HAP.out trivial) W (Ext.trans hB4 x) (Is_below (IsIn_Is _ _ _ _ _ hI4) x))
    have hF0 : Ext w4 w4.drew := (Ext.refl w4).drew
    obtain ⟨⟨g0, g1, g2, g3⟩, m0, m1, m2, m3⟩ := HCr.out w4 (Ext.refl w4)
    clear hx4 hB4 hI4 hs4 hle HI3 HB3 HS hfe
    generalize hcb : (cmpT V U == 0) = cb at HS4
    go_region_held3 (fun W => (W.cell? ⟨b, o + j * 8, none⟩ = some (.int .i64 k) ∧ W.cell? ⟨b, o + j * 8 + 1, none⟩ = some (.string n) ∧ W.cell? ⟨b, o + j * 8 + 2, none⟩ = some (.int .i64 s) ∧ W.cell? ⟨b, o + j * 8 + 3, none⟩ = some (.slice ya yl yc)) ∧ W.cell? ⟨gb, 0, none⟩ = some (.int .i64 k3) ∧ W.cell? ⟨gb, 1, none⟩ = some (.string n3) ∧ W.cell? ⟨gb, 2, none⟩ = some (.int .i64 s3) ∧ W.cell? ⟨gb, 3, none⟩ = some (.slice xa3 l3 cap3))
      (first | exact HCr.out _ (by assumption) | go_keep)
      (first | (go_at_call 135; refine (HS4.out _ hF0).mono ?_; rintro e w5 ⟨he, hB5⟩; subst he; have hF1 : Ext w4 w5 := hF0.trans hB5; clear hB5))
    have HE5 := Lib.hid (Ext.trans HB4.out hF1)
    have HF1 := Lib.hid hF1
    clear hF0 hF1 g0 g1 g2 g3 m0 m1 m2 m3 HS4
    cases cb with
    | true =>
      have hcz : cmpT V U = 0 := by simpa using hcb
      have H := Lib.hid (HFO.out.out.trans (hfs trivial hcz))
      clear hfs hfk hcb hcz
      go_wp2_with fail
      go_roundw
      case rel => exact ⟨j + 1, acc, by omega, by go_num, by omega, H, BdsAt_ext HBA.out HE5.out, HB.out.trans (HE5.out.mono HB.out.size)⟩
      case measure => simp [intOf]; omega
    | false =>
      have hcz : ¬ cmpT V U = 0 := by simpa using hcb
      have H := Lib.hid (HFO.out.out.trans (hfk trivial hcz))
      obtain ⟨F, cs', hown, hK, hF⟩ := HBA.out
      have hOlt := fun q hq => hown.lt q hq
      have HO := Lib.hid (fun W (x : Ext wr W) => own_heap hown (fun q hq => x.block q (hOlt q hq).2))
      have HP := Lib.hid (And.intro hown (And.intro hK hF))
      have HPU : Hid (∀ w6, Ext w5 w6 → ∀ c0 c1 c2 c3, IsIn (fun b => w5.drew.heap.size ≤ b ∧ b < w6.heap.size) w6 V c0 c1 c2 c3 → ∀ g cap w8 o, w8.ownsRow w.heap.size 53 8 (.slice (some ⟨g, 0, none⟩) (acc.length + 1) cap) (acc.length + 1) (cs' ++ [c0, c1, c2, c3, .int .i64 k3, .string n3, .int .i64 s3, .slice xa3 l3 cap3]) → (w6.alloc o).grownBy w8 (Value.slice xl acc.length lcap).ownBlock → ((Value.slice xl acc.length lcap).ownBlock = some g ∨ g = w6.heap.size + 1) →
          BdsAt w.heap.size w8 (acc ++ [(V, U)]) (.slice (some ⟨g, 0, none⟩) (acc.length + 1) cap) ∧ Below w.heap.size wr w8 ∧ w8.heap[gb]? = w6.heap[gb]?) := by
        show ∀ _, _
        intro w6 hF6 c0 c1 c2 c3 hI g cap w8 o hown8 hgrow hat
        have h5 := HE5.out.size
        have h4 := HI4.out.2
        have h6 := hF6.size
        have h45 := HF1.out.size
        have r := BdsAt_push rfl hown hK hF HB.out.size (Ext.trans HE5.out hF6) (IsIn_carry (S' := fun b => wr.heap.size ≤ b ∧ b < w6.heap.size) (fun b hb => rfl) (fun b hb => ⟨by have : w5.heap.size ≤ b := hb.1; omega, hb.2⟩) _ _ _ _ _ hI) (IsIn_carry (S' := fun b => wr.heap.size ≤ b ∧ b < w6.heap.size) (fun b hb => (Ext.trans HF1.out hF6).block b (by have := hb.2; omega)) (fun b hb => ⟨hb.1, by have := hb.2; omega⟩) _ _ _ _ _ HI4.out.1) hown8 hgrow hat
        exact ⟨r.1, r.2.1, r.2.2 gb (by omega) (by omega)⟩
      obtain ⟨i0, hi0, hz0, hz1, hz2⟩ := info_parts infoBd
      have HI0 := Lib.hid (And.intro hi0 (And.intro hz0 (And.intro hz1 hz2)))
      have hF5 : Ext w5 w5.drew := (Ext.refl w5).drew
      have hZ : acc.length ≤ 1073741824 := by omega
      obtain ⟨⟨g0, g1, g2, g3⟩, m0, m1, m2, m3⟩ := HCr.out w5 HF1.out
      clear hfs hfk hcb hcz hown hK hF hOlt hi0 hz0 hz1 hz2
      go_upto_region 9 with (fail)
      have HCr5 : Hid (∀ W, Ext w5 W → (W.cell? ⟨b, o + j * 8, none⟩ = some (.int .i64 k) ∧ W.cell? ⟨b, o + j * 8 + 1, none⟩ = some (.string n) ∧ W.cell? ⟨b, o + j * 8 + 2, none⟩ = some (.int .i64 s) ∧ W.cell? ⟨b, o + j * 8 + 3, none⟩ = some (.slice ya yl yc)) ∧ W.cell? ⟨gb, 0, none⟩ = some (.int .i64 k3) ∧ W.cell? ⟨gb, 1, none⟩ = some (.string n3) ∧ W.cell? ⟨gb, 2, none⟩ = some (.int .i64 s3) ∧ W.cell? ⟨gb, 3, none⟩ = some (.slice xa3 l3 cap3)) := fun W x => HCr.out W (Ext.trans HF1.out x)
      go_region_held_law (fun W => (W.cell? ⟨b, o + j * 8, none⟩ = some (.int .i64 k) ∧ W.cell? ⟨b, o + j * 8 + 1, none⟩ = some (.string n) ∧ W.cell? ⟨b, o + j * 8 + 2, none⟩ = some (.int .i64 s) ∧ W.cell? ⟨b, o + j * 8 + 3, none⟩ = some (.slice ya yl yc)) ∧ W.cell? ⟨gb, 0, none⟩ = some (.int .i64 k3) ∧ W.cell? ⟨gb, 1, none⟩ = some (.string n3) ∧ W.cell? ⟨gb, 2, none⟩ = some (.int .i64 s3) ∧ W.cell? ⟨gb, 3, none⟩ = some (.slice xa3 l3 cap3))
        (first | exact HK8.out | exact HCr5.out _ (by assumption) | go_keep)
        (first
          | (go_at_call 103; refine (HC.out _ (Ext.trans HE5.out hF5)).mono ?_; rintro e w6 ⟨c0, c1, c2, c3, he, hI6, hB6⟩; subst he; obtain ⟨k6, n6, s6, xa6, l6, cap6, e0, e1, e2, e3⟩ := IsIn_form hI6; subst e0 e1 e2 e3; have hF6 : Ext w5 w6 := hF5.trans hB6; have HI6 := Lib.hid hI6; have HB6 := Lib.hid hB6; have HO6 := Lib.hid (HO.out _ (Ext.trans HE5.out hF6)); have hw6 : w.heap.size ≤ w6.heap.size := Nat.le_trans HB.out.size (Ext.trans HE5.out hF6).size; clear hI6 hB6)
          | (refine step_append_lies _ (by rfl) _ _ _ (by rfl) w.heap.size 53 i0 _ 8 112 Tryz.underlying22 HI0.out.1 HI0.out.2.1 HI0.out.2.2.1 HI0.out.2.2.2 rfl (by omega) (.slice xl acc.length lcap) acc.length cs' (by rfl) (HO6.out.alloc _) ⟨w6.heap.size, 0, none⟩ 1 1 [.int .i64 k6, .string n6, .int .i64 s6, .slice xa6 l6 cap6, .int .i64 k3, .string n3, .int .i64 s3, .slice xa3 l3 cap3] (by rfl) (by rfl) (World.news_of_block (cs := #[.int .i64 k6, .string n6, .int .i64 s6, .slice xa6 l6 cap6, .int .i64 k3, .string n3, .int .i64 s3, .slice xa3 l3 cap3]) (t := 53) (fr := (0, 0)) (heap_alloc_new w6 _)) (by simp [Value.oneCell']) (by omega) (by unfold maxLen; omega) (by omega) (by simp; omega) (w6.heap.size + 1) (by simp) ?_; intro gg cap8 w8 hown8 hgrow hat hltt; have hpu := HPU.out w6 hF6 _ _ _ _ HI6.out _ _ _ _ hown8 hgrow hat; have HK8 := Lib.hid (And.intro (HG.out w8 (HB.out.trans hpu.2.1)) (box_facts (hpu.2.2.trans (HX4.out w6 (Ext.trans HF1.out hF6)))).1); have HP8 := Lib.hid (And.intro hpu.1 hpu.2.1); clear hown8 hgrow hat hltt hpu))
      all_goals (go_wp2_with fail)
      all_goals (go_roundw)
      case rel => exact ⟨j + 1, acc ++ [(V, U)], by omega, by go_num, by simp; omega, H, by simpa using HP8.out.1, HB.out.trans (HP8.out.2.mono (Nat.le_refl _))⟩
      case measure => simp [intOf]; omega
end Go.Proofs.YtkfbbkkfagglhaaGreatDoor

/-
  THE WALK OF subst.Compose, in the good case.
-/
namespace Go.Proofs.YtkfbbkkfagglhaaGreatDoor
open Go.RowKit
/-- Whether a list binds this variable. -/
def bndB (ss : List Bd) (x : Tm) : Bool := ss.any (fun b => cmpT b.1 x == 0)
/-- What is composed, before it is sorted. -/
def comU (ss : List Bd) (acc ts : List Bd) : List Bd := acc ++ ts.filter (fun b => ! bndB ss b.1)
theorem comU_skip {ss acc ts : List Bd} {b : Bd} (h : bndB ss b.1 = true) : comU ss acc (b :: ts) = comU ss acc ts := by
  unfold comU
  rw [List.filter_cons, if_neg (by rw [h]; decide)]
theorem comU_keep {ss acc ts : List Bd} {b : Bd} (h : bndB ss b.1 = false) : comU ss acc (b :: ts) = comU ss (acc ++ [b]) ts := by
  unfold comU
  rw [List.filter_cons, if_pos (by rw [h]; rfl), List.append_assoc]; rfl
/-- What Compose answers where nothing is wrong: the bindings, sorted; or too many. -/
def ComPost (w : World) (U : List Bd) (e : Ending) (w' : World) : Prop :=
  Below w.heap.size w w' ∧ if 200 < U.length then e = .returned (.tuple #[.slice none 0 0, .int .i64 3]) else
    ∃ bs kv, bs.Perm U ∧ bs.Pairwise (fun a b => ¬ cmpT b.1 a.1 < 0) ∧ e = .returned (.tuple #[kv, .int .i64 0]) ∧ BdsAt w.heap.size w' bs kv
theorem bndB_yes {ss : List Bd} {x : Tm} {i : Nat} (h : i < ss.length) (hc : cmpT ss[i].1 x = 0) : bndB ss x = true := by
  unfold bndB
  rw [List.any_eq_true]
  exact ⟨_, List.getElem_mem h, by rw [hc]; rfl⟩
theorem bndB_no {ss : List Bd} {x : Tm} (h : ∀ b ∈ ss, ¬ cmpT b.1 x = 0) : bndB ss x = false := by
  unfold bndB
  rw [List.any_eq_false]
  exact fun b hb => by simpa using h b hb
set_option maxHeartbeats 6400000 in
set_option maxRecDepth 100000 in
theorem scompose_any (ss ts : List Bd) (xs xt : Option Addr) (cs ct N : Nat) (w : World) (hS : RbOk ss xs cs w) (hRb : RbOk ts xt ct w) (h2 : ts.length ≤ 200) (hs2 : ss.length ≤ 200) (hv1 : validB ss = 0) (hv2 : validB ts = 0) (hN : ∀ b ∈ ts, size b.2 ≤ N) (h1 : 1 ≤ N) (hsn : ∀ b ∈ ss, size b.2 * N ≤ 1073741824) (L : List Bd) (hL : folS ts [] ss = (L, 0)) (hLl : L.length ≤ 200) (hLz : SzB 1073741824 L) :
    Calls Tryz.prog 50 #[.slice xs ss.length cs, .slice xt ts.length ct] w (ComPost w (comU ss L ts)) := by
  have HV1 := Lib.hid (bvalid_any ss xs cs w hS.cap (by unfold maxLen; omega) hS.sz hS.row)
  have HV2 := Lib.hid (fun W (x : Ext w W) => bvalid_any ts xt ct W hRb.cap (by unfold maxLen; omega) hRb.sz (Row_below (w' := W) hRb.row x))
  have HF := Lib.hid (fun W (x : Ext w W) => sfollowed_any ss ts xs xt cs ct N W hS.cap hS.len hS.sz (Row_below (w' := W) hS.row x) (hRb.ext x) hN h1 hsn)
  rw [hv1] at HV1
  rw [hv2] at HV2
  rw [hL] at HF
  have HS := Lib.hid hS
  have HT := Lib.hid hRb
  have q1 : ((0 : Int) != 0) = false := rfl
  have tok1 : True := trivial
  clear hS hRb hv1 hv2 hN hsn hL
  go_enter Tryz.func50, Tryz.ntmps50
  go_wp2_with (first
    | (go_at_call 52; have _t := tok1; refine (HV1.out).mono ?_; rintro e w1 ⟨he, hB⟩; subst he; have HB1 := Lib.hid hB; clear hB tok1)
    | (go_at_call 52; refine (HV2.out _ HB1.out).mono ?_; rintro e w2 ⟨he, hB⟩; subst he; have HB2 := Lib.hid (Ext.trans HB1.out hB); clear hB)
    | (go_at_call 91; refine (HF.out _ HB2.out).mono ?_; rintro e w3 ⟨kv, he, hBA, hB⟩; subst he; obtain ⟨xl0, lcap0, e0⟩ := BdsAt_form hBA; subst e0; have HBA0 := Lib.hid hBA; have HB3 := Lib.hid hB; clear hBA hB))
  have hH2 := HB2.out.size
  go_loopw [8, 34] (fun l i wr => ∃ (j : Nat) (acc : List Bd), j ≤ ts.length ∧ i = .int .i64 j ∧ acc.length ≤ L.length + j ∧ Hid (comU ss L ts = comU ss acc (ts.drop j)) ∧ BdsAt w2.heap.size wr acc l ∧ Below w2.heap.size w2 wr) (fun _ i _ => ts.length - (intOf i).toNat)
  case atStart => exact ⟨0, L, Nat.zero_le _, rfl, by omega, Lib.hid rfl, HBA0.out, HB3.out⟩
  case round =>
    obtain ⟨j, acc, hj, rfl, haj, hfo, hBA, hB⟩ := hrel
    obtain ⟨xl, lcap, rfl⟩ := BdsAt_form hBA
    by_cases hlt : j < ts.length
    rotate_left
    · have H : Hid (comU ss L ts = acc) := by
        show _ = _
        rw [hfo.out, List.drop_eq_nil_of_le (by omega)]; simp [comU]
      have HBA := Lib.hid hBA
      have HB := Lib.hid hB
      clear hBA hB hfo
      have hz : SzB 1073741824 acc := by
        rw [← H.out]
        intro b hb
        rcases List.mem_append.1 hb with h | h
        · exact hLz b h
        · exact HT.out.sz b (List.mem_filter.1 h).1
      by_cases h200 : 200 < acc.length
      · have HQ : Hid (ComPost w (comU ss L ts) (.returned (.tuple #[.slice none 0 0, .int .i64 3])) wr) := by
          show ComPost _ _ _ _
          rw [H.out]
          exact ⟨Ext.trans HB2.out HB.out, by rw [if_pos h200]⟩
        have q2 : (200 : Int) < (acc.length : Int) := by omega
        clear h200
        go_wp2_with fail
        exact bodyPost_ret (v := .tuple #[.slice none 0 0, .int .i64 3]) (by simp [results, Tryz.results50, go_sem]) rfl HQ.out
      have q2 : (acc.length : Int) ≤ 200 := by omega
      obtain ⟨F, cs', hown, hK, hF⟩ := HBA.out
      by_cases h0 : acc.length = 0
      · have hnil : acc = [] := List.length_eq_zero_iff.1 h0
        subst hnil
        have HST := Lib.hid (AnyF.slices_SortFunc_none Tryz.sortBinds xl lcap (.func (.func 94) #[] #[]) wr)
        have HQ : Hid (ComPost w (comU ss L ts) (.returned (.tuple #[.slice xl 0 lcap, .int .i64 0])) wr) := by
          show ComPost _ _ _ _
          rw [H.out]
          refine ⟨Ext.trans HB2.out HB.out, ?_⟩
          rw [if_neg (by simp)]
          exact ⟨[], _, List.Perm.refl _, List.Pairwise.nil, rfl, F, cs', hown.mono HB2.out.size, hK, fun b hb => ⟨Nat.le_trans HB2.out.size (hF b hb).1, (hF b hb).2.1, (hF b hb).2.2⟩⟩
        clear hown hK hF hz h200 h0
        go_wp2_with (go_at_call 93; refine (HST.out).mono ?_; rintro e w9 ⟨he, hw⟩; subst he; subst hw)
        exact bodyPost_ret (v := .tuple #[.slice xl 0 lcap, .int .i64 0]) (by simp [results, Tryz.results50, go_sem]) rfl HQ.out
      obtain ⟨g, cap, e0⟩ := own_form_pos hown (by omega)
      have e1 : xl = some ⟨g, 0, none⟩ := by injection e0
      subst e1
      have HST := Lib.hid (sort_binds hown hK (fun b hb => ⟨(hF b hb).2.1, fun e => (hF b hb).2.2 (by rw [e]; rfl)⟩) HB.out.size (by omega) hz (by omega))
      have HQ : Hid (∀ e w', SortBPost w2.heap.size F wr g acc.length lcap acc e w' → e = .returned (.tuple #[]) ∧ ComPost w (comU ss L ts) (.returned (.tuple #[.slice (some ⟨g, 0, none⟩) acc.length lcap, .int .i64 0])) w') := by
        show ∀ _ _, _ → _
        rintro e w' ⟨he, bs', vs', p1, p2, p3, p4, p5, p6⟩
        have hl := p3.length_eq
        rw [H.out]
        refine ⟨he, Ext.trans HB2.out (HB.out.trans p5), ?_⟩
        rw [if_neg h200]
        refine ⟨bs', _, p3, p4, rfl, F, vs', ?_, p2, fun b hb => ⟨Nat.le_trans HB2.out.size (hF b hb).1, Nat.lt_of_lt_of_le (hF b hb).2.1 p6, (hF b hb).2.2⟩⟩
        rw [hl]
        exact p1.mono HB2.out.size
      clear hown hK hF hz h200 h0 e0
      go_wp2_with (go_at_call 93; refine (HST.out).mono ?_; rintro e w9 hp; obtain ⟨he, hq⟩ := HQ.out _ _ hp; subst he; have HQ9 := Lib.hid hq; clear hp hq)
      exact bodyPost_ret (v := .tuple #[.slice (some ⟨g, 0, none⟩) acc.length lcap, .int .i64 0]) (by simp [results, Tryz.results50, go_sem]) rfl HQ9.out
    have hd : ts.drop j = ts[j] :: ts.drop (j + 1) := List.drop_eq_getElem_cons hlt
    have hR2 := Row_below HT.out.row HB2.out
    obtain ⟨b, o, rfl⟩ := Row_at HT.out.row (by rw [flatB_length]; omega)
    obtain ⟨⟨v0, v1, v2, v3, g0, g1, g2, g3, hIv⟩, t0, t1, t2, t3, g4, g5, g6, g7, hIt⟩ := bds_get hR2 j hlt
    obtain ⟨k, n, s, ya, yl, yc, rfl, rfl, rfl, rfl⟩ := Is_form hIv
    obtain ⟨k2, n2, s2, ya2, yl2, yc2, rfl, rfl, rfl, rfl⟩ := Is_form hIt
    rw [Nat.add_assoc] at g5 g6 g7
    have hs1 := HT.out.sz _ (List.getElem_mem hlt)
    have HCr : Hid (∀ W, Ext w2 W → (W.cell? ⟨b, o + j * 8, none⟩ = some (.int .i64 k) ∧ W.cell? ⟨b, o + j * 8 + 1, none⟩ = some (.string n) ∧ W.cell? ⟨b, o + j * 8 + 2, none⟩ = some (.int .i64 s) ∧ W.cell? ⟨b, o + j * 8 + 3, none⟩ = some (.slice ya yl yc)) ∧ W.cell? ⟨b, o + j * 8 + 4, none⟩ = some (.int .i64 k2) ∧ W.cell? ⟨b, o + j * 8 + 5, none⟩ = some (.string n2) ∧ W.cell? ⟨b, o + j * 8 + 6, none⟩ = some (.int .i64 s2) ∧ W.cell? ⟨b, o + j * 8 + 7, none⟩ = some (.slice ya2 yl2 yc2)) := fun W x => ⟨⟨keep_below x _ _ g0, keep_below x _ _ g1, keep_below x _ _ g2, keep_below x _ _ g3⟩, keep_below x _ _ g4, keep_below x _ _ g5, keep_below x _ _ g6, keep_below x _ _ g7⟩
    have HFI := Lib.hid (sfind_any ss ts[j].1 _ _ _ _ xs cs wr HS.out.cap HS.out.len HS.out.sz hs1.1 HS.out.sorted (Row_below HS.out.row (Ext.trans HB2.out hB)) (Is_below hIv hB))
    have HCB := Lib.hid (fun W (x : Ext w2 W) => sbcopy_any ts[j].1 ts[j].2 _ _ _ _ _ _ _ _ W hs1.1 hs1.2 (Is_below (w' := W) hIv x) (Is_below (w' := W) hIt x))
    obtain ⟨⟨g0, g1, g2, g3⟩, g4, g5, g6, g7⟩ := HCr.out wr hB
    have i1 : (0 : Int) ≤ (j : Int) := by omega
    have i2 : (j : Int) < (ts.length : Int) := by omega
    have hfs : bndB ss ts[j].1 = true → comU ss acc (ts.drop j) = comU ss acc (ts.drop (j + 1)) := fun h => by rw [hd]; exact comU_skip h
    have hfk : bndB ss ts[j].1 = false → comU ss acc (ts.drop j) = comU ss (acc ++ [ts[j]]) (ts.drop (j + 1)) := fun h => by rw [hd]; exact comU_keep h
    have HFO := Lib.hid hfo.out
    have HBA := Lib.hid hBA
    have HB := Lib.hid hB
    clear hfo hBA hB hIv hIt hd hR2
    go_upto_region 14 with (go_at_call 92; refine (HFI.out).mono ?_; rintro e w4 ⟨⟨fi, fb, he, hfb⟩, hB4⟩; subst he; have HFB := Lib.hid hfb; have HB4 := Lib.hid hB4; clear hfb hB4)
    have HE4 := Lib.hid (Ext.trans HB.out HB4.out)
    obtain ⟨⟨g0, g1, g2, g3⟩, g4, g5, g6, g7⟩ := HCr.out w4 HE4.out
    cases fb with
    | true =>
      have hb : bndB ss ts[j].1 = true := by
        rcases HFB.out with ⟨_, h, hc⟩ | ⟨h, _⟩
        · exact bndB_yes h hc
        · exact absurd h (by decide)
      have H := Lib.hid (HFO.out.trans (hfs hb))
      clear hfs hfk hb HFB
      go_wp2_with fail
      go_roundw
      case rel => exact ⟨j + 1, acc, by omega, by go_num, by omega, H, BdsAt_ext HBA.out HB4.out, HB.out.trans (HB4.out.mono HB.out.size)⟩
      case measure => simp [intOf]; omega
    | false =>
      have hb : bndB ss ts[j].1 = false := by
        rcases HFB.out with ⟨h, _⟩ | ⟨_, h⟩
        · exact absurd h (by decide)
        · exact bndB_no h
      have H := Lib.hid (HFO.out.trans (hfk hb))
      obtain ⟨F, cs', hown, hK, hF⟩ := HBA.out
      have hOlt := fun q hq => hown.lt q hq
      have HO := Lib.hid (fun W (x : Ext wr W) => own_heap hown (fun q hq => x.block q (hOlt q hq).2))
      have HPU : Hid (∀ w6, Ext w4 w6 → ∀ c0 c1 c2 c3 d0 d1 d2 d3, IsIn (fun b => w4.heap.size ≤ b ∧ b < w6.heap.size) w6 ts[j].1 c0 c1 c2 c3 → IsIn (fun b => w4.heap.size ≤ b ∧ b < w6.heap.size) w6 ts[j].2 d0 d1 d2 d3 → ∀ g cap w8 o, w8.ownsRow w2.heap.size 53 8 (.slice (some ⟨g, 0, none⟩) (acc.length + 1) cap) (acc.length + 1) (cs' ++ [c0, c1, c2, c3, d0, d1, d2, d3]) → (w6.alloc o).grownBy w8 (Value.slice xl acc.length lcap).ownBlock → ((Value.slice xl acc.length lcap).ownBlock = some g ∨ g = w6.heap.size + 1) →
          BdsAt w2.heap.size w8 (acc ++ [ts[j]]) (.slice (some ⟨g, 0, none⟩) (acc.length + 1) cap) ∧ Below w2.heap.size wr w8) := by
        show ∀ _, _
        intro w6 hF6 c0 c1 c2 c3 d0 d1 d2 d3 hI hJ g cap w8 o hown8 hgrow hat
        have h4 := HB4.out.size
        have r := BdsAt_push rfl hown hK hF HB.out.size (Ext.trans HB4.out hF6) (IsIn_carry (S' := fun b => wr.heap.size ≤ b ∧ b < w6.heap.size) (fun b hb => rfl) (fun b hb => ⟨by have : w4.heap.size ≤ b := hb.1; omega, hb.2⟩) _ _ _ _ _ hI) (IsIn_carry (S' := fun b => wr.heap.size ≤ b ∧ b < w6.heap.size) (fun b hb => rfl) (fun b hb => ⟨by have : w4.heap.size ≤ b := hb.1; omega, hb.2⟩) _ _ _ _ _ hJ) hown8 hgrow hat
        exact ⟨r.1, r.2.1⟩
      obtain ⟨i0, hi0, hz0, hz1, hz2⟩ := info_parts infoBd
      have HI0 := Lib.hid (And.intro hi0 (And.intro hz0 (And.intro hz1 hz2)))
      have hZ : acc.length ≤ 1073741824 := by omega
      clear hfs hfk hb HFB hown hK hF hOlt hi0 hz0 hz1 hz2
      generalize ts[j] = B at HPU HCB H
      obtain ⟨V, U⟩ := B
      have HCr4 : Hid (∀ W, Ext w4 W → (W.cell? ⟨b, o + j * 8, none⟩ = some (.int .i64 k) ∧ W.cell? ⟨b, o + j * 8 + 1, none⟩ = some (.string n) ∧ W.cell? ⟨b, o + j * 8 + 2, none⟩ = some (.int .i64 s) ∧ W.cell? ⟨b, o + j * 8 + 3, none⟩ = some (.slice ya yl yc)) ∧ W.cell? ⟨b, o + j * 8 + 4, none⟩ = some (.int .i64 k2) ∧ W.cell? ⟨b, o + j * 8 + 5, none⟩ = some (.string n2) ∧ W.cell? ⟨b, o + j * 8 + 6, none⟩ = some (.int .i64 s2) ∧ W.cell? ⟨b, o + j * 8 + 7, none⟩ = some (.slice ya2 yl2 yc2)) := fun W x => HCr.out W (Ext.trans HE4.out x)
      go_wp2_with (first
          | (go_at_call 56; refine (HCB.out _ HE4.out).mono ?_; rintro e w6 ⟨c0, c1, c2, c3, d0, d1, d2, d3, he, hI6, hJ6, hB6⟩; subst he; obtain ⟨k6, n6, s6, xa6, l6, cap6, e0, e1, e2, e3⟩ := IsIn_form hI6; subst e0 e1 e2 e3; obtain ⟨k7, n7, s7, xa7, l7, cap7, e0, e1, e2, e3⟩ := IsIn_form hJ6; subst e0 e1 e2 e3; have hF6 : Ext w4 w6 := hB6; have HI6 := Lib.hid (And.intro hI6 hJ6); have HO6 := Lib.hid (HO.out _ (Ext.trans HB4.out hF6)); have hw6 : w2.heap.size ≤ w6.heap.size := Nat.le_trans HE4.out.size hF6.size; clear hI6 hJ6 hB6)
          | (at_builtin; refine wpList_append_lies _ rfl _ _ _ rfl w2.heap.size 53 i0 _ 8 112 Tryz.underlying22 HI0.out.1 HI0.out.2.1 HI0.out.2.2.1 HI0.out.2.2.2 rfl (by omega) (.slice xl acc.length lcap) acc.length cs' rfl (HO6.out.alloc _) ⟨w6.heap.size, 0, none⟩ 1 1 [.int .i64 k6, .string n6, .int .i64 s6, .slice xa6 l6 cap6, .int .i64 k7, .string n7, .int .i64 s7, .slice xa7 l7 cap7] rfl rfl (World.news_of_block (cs := #[.int .i64 k6, .string n6, .int .i64 s6, .slice xa6 l6 cap6, .int .i64 k7, .string n7, .int .i64 s7, .slice xa7 l7 cap7]) (t := 53) (fr := (0, 0)) (heap_alloc_new w6 _)) (by simp [Value.oneCell']) (by omega) (by unfold maxLen; omega) (by omega) (by simp; omega) (w6.heap.size + 1) (by simp) ?_; intro gg cap8 w8 hown8 hgrow hat hltt; have hpu := HPU.out w6 hF6 _ _ _ _ _ _ _ _ HI6.out.1 HI6.out.2 _ _ _ _ hown8 hgrow hat; have HK8 := Lib.hid (HCr.out w8 (HB.out.trans hpu.2)); have HP8 := Lib.hid (And.intro hpu.1 hpu.2); clear hown8 hgrow hat hltt hpu))
      go_roundw
      case rel => exact ⟨j + 1, acc ++ [(V, U)], by omega, by go_num, by simp; omega, H, by simpa using HP8.out.1, HB.out.trans (HP8.out.2.mono (Nat.le_refl _))⟩
      case measure => simp [intOf]; omega
end Go.Proofs.YtkfbbkkfagglhaaGreatDoor

/-
  THE WALK OF subst.Compose, where something is wrong.
-/
namespace Go.Proofs.YtkfbbkkfagglhaaGreatDoor
open Go.RowKit
set_option maxHeartbeats 3200000 in
set_option maxRecDepth 100000 in
theorem scompose_bad1 (ss ts : List Bd) (xs xt : Option Addr) (cs ct : Nat) (w : World) (hcs : ss.length ≤ cs) (hl : ss.length ≤ maxLen) (hsz : SzB 1073741824 ss) (hrow : Row w (flatB ss) xs) (hv : ¬ validB ss = 0) :
    Calls Tryz.prog 50 #[.slice xs ss.length cs, .slice xt ts.length ct] w (fun e w' => e = .returned (.tuple #[.slice none 0 0, .int .i64 (validB ss)]) ∧ Below w.heap.size w w') := by
  have HV1 := Lib.hid (bvalid_any ss xs cs w hcs hl hsz hrow)
  generalize validB ss = E at hv HV1 ⊢
  have q1 : (E != 0) = true := by rw [bne_iff_ne]; exact hv
  clear hcs hl hsz hrow hv
  go_enter Tryz.func50, Tryz.ntmps50
  go_wp2_with (go_at_call 52; refine (HV1.out).mono ?_; rintro e w1 ⟨he, hB⟩; subst he; have HB1 := Lib.hid hB; clear hB)
  exact bodyPost_ret (v := .tuple #[.slice none 0 0, .int .i64 E]) (by simp [results, Tryz.results50, go_sem]) rfl ⟨rfl, HB1.out⟩
set_option maxHeartbeats 3200000 in
set_option maxRecDepth 100000 in
theorem scompose_bad2 (ss ts : List Bd) (xs xt : Option Addr) (cs ct : Nat) (w : World) (hcs : ss.length ≤ cs) (hl : ss.length ≤ maxLen) (hsz : SzB 1073741824 ss) (hrow : Row w (flatB ss) xs) (hct : ts.length ≤ ct) (hlt : ts.length ≤ maxLen) (htz : SzB 1073741824 ts) (hrowt : Row w (flatB ts) xt) (hv1 : validB ss = 0) (hv : ¬ validB ts = 0) :
    Calls Tryz.prog 50 #[.slice xs ss.length cs, .slice xt ts.length ct] w (fun e w' => e = .returned (.tuple #[.slice none 0 0, .int .i64 (validB ts)]) ∧ Below w.heap.size w w') := by
  have HV1 := Lib.hid (bvalid_any ss xs cs w hcs hl hsz hrow)
  have HV2 := Lib.hid (fun W (x : Ext w W) => bvalid_any ts xt ct W hct hlt htz (Row_below (w' := W) hrowt x))
  rw [hv1] at HV1
  generalize validB ts = E at hv HV2 ⊢
  have q0 : ((0 : Int) != 0) = false := rfl
  have q1 : (E != 0) = true := by rw [bne_iff_ne]; exact hv
  have tok1 : True := trivial
  clear hcs hl hsz hrow hct hlt htz hrowt hv1 hv
  go_enter Tryz.func50, Tryz.ntmps50
  go_wp2_with (first
    | (go_at_call 52; have _t := tok1; refine (HV1.out).mono ?_; rintro e w1 ⟨he, hB⟩; subst he; have HB1 := Lib.hid hB; clear hB tok1)
    | (go_at_call 52; refine (HV2.out _ HB1.out).mono ?_; rintro e w2 ⟨he, hB⟩; subst he; have HB2 := Lib.hid (Ext.trans HB1.out hB); clear hB))
  exact bodyPost_ret (v := .tuple #[.slice none 0 0, .int .i64 E]) (by simp [results, Tryz.results50, go_sem]) rfl ⟨rfl, HB2.out⟩
set_option maxHeartbeats 3200000 in
set_option maxRecDepth 100000 in
theorem scompose_bad3 (ss ts : List Bd) (xs xt : Option Addr) (cs ct N : Nat) (w : World) (hS : RbOk ss xs cs w) (hRb : RbOk ts xt ct w) (hv1 : validB ss = 0) (hv2 : validB ts = 0) (hN : ∀ b ∈ ts, size b.2 ≤ N) (h1 : 1 ≤ N) (hsn : ∀ b ∈ ss, size b.2 * N ≤ 1073741824) (L : List Bd) (E : Int) (hL : folS ts [] ss = (L, E)) (hE : ¬ E = 0) :
    Calls Tryz.prog 50 #[.slice xs ss.length cs, .slice xt ts.length ct] w (fun e w' => e = .returned (.tuple #[.slice none 0 0, .int .i64 E]) ∧ Below w.heap.size w w') := by
  have HV1 := Lib.hid (bvalid_any ss xs cs w hS.cap (by have := hS.len; unfold maxLen; omega) hS.sz hS.row)
  have HV2 := Lib.hid (fun W (x : Ext w W) => bvalid_any ts xt ct W hRb.cap (by have := hRb.len; unfold maxLen; omega) hRb.sz (Row_below (w' := W) hRb.row x))
  have HF := Lib.hid (fun W (x : Ext w W) => sfollowed_any ss ts xs xt cs ct N W hS.cap hS.len hS.sz (Row_below (w' := W) hS.row x) (hRb.ext x) hN h1 hsn)
  rw [hv1] at HV1
  rw [hv2] at HV2
  rw [hL] at HF
  have q0 : ((0 : Int) != 0) = false := rfl
  have q1 : (E != 0) = true := by rw [bne_iff_ne]; exact hE
  have tok1 : True := trivial
  clear hS hRb hv1 hv2 hN hsn hL hE
  go_enter Tryz.func50, Tryz.ntmps50
  go_wp2_with (first
    | (go_at_call 52; have _t := tok1; refine (HV1.out).mono ?_; rintro e w1 ⟨he, hB⟩; subst he; have HB1 := Lib.hid hB; clear hB tok1)
    | (go_at_call 52; refine (HV2.out _ HB1.out).mono ?_; rintro e w2 ⟨he, hB⟩; subst he; have HB2 := Lib.hid (Ext.trans HB1.out hB); clear hB)
    | (go_at_call 91; refine (HF.out _ HB2.out).mono ?_; rintro e w3 ⟨kv, he, hBA, hB⟩; subst he; obtain ⟨xl0, lcap0, e0⟩ := BdsAt_form hBA; subst e0; have HB3 := Lib.hid (Ext.trans HB2.out hB); clear hBA hB))
  exact bodyPost_ret (v := .tuple #[.slice none 0 0, .int .i64 E]) (by simp [results, Tryz.results50, go_sem]) rfl ⟨rfl, HB3.out⟩
theorem applyP_size {ts : List Bd} {t : Tm} {N : Nat} (hN : ∀ b ∈ ts, size b.2 ≤ N) (h1 : 1 ≤ N) (hsn : size t * N ≤ 1073741824) (h : (applyP ts t).2 = 0) : size (applyP ts t).1 ≤ 1073741824 := by
  have hz := Nat.le_trans (apT_size ts N hN h1 t) hsn
  unfold applyP at h ⊢
  by_cases e1 : validE t = 0
  · rw [if_pos e1] at h ⊢
    by_cases e2 : validE (apT ts t) = 0
    · rw [if_pos e2]; exact hz
    · rw [if_neg e2] at h; exact absurd h e2
  · rw [if_neg e1] at h; exact absurd h e1
theorem folP_small {ts : List Bd} {N : Nat} (hN : ∀ b ∈ ts, size b.2 ≤ N) (h1 : 1 ≤ N) : ∀ ss : List Bd, (∀ b ∈ ss, size b.1 ≤ 1073741824 ∧ size b.2 * N ≤ 1073741824) → (folP ts ss).1.length ≤ ss.length ∧ SzB 1073741824 (folP ts ss).1
  | [], _ => ⟨Nat.le_refl _, fun b hb => absurd hb (by simp [folP])⟩
  | b :: bs, h => by
    obtain ⟨i1, i2⟩ := folP_small hN h1 bs (fun c hc => h c (List.mem_cons_of_mem _ hc))
    have hb := h b (List.mem_cons_self ..)
    rw [folP]
    by_cases e1 : (applyP ts b.2).2 = 0
    · rw [if_pos e1]
      by_cases e2 : (folP ts bs).2 = 0
      · rw [if_pos e2]
        by_cases e3 : cmpT b.1 (applyP ts b.2).1 = 0
        · rw [if_pos e3]
          exact ⟨by simp only [List.length_cons]; omega, i2⟩
        · rw [if_neg e3]
          refine ⟨by simp only [List.length_cons]; omega, fun c hc => ?_⟩
          rcases List.mem_cons.1 hc with rfl | hc
          · exact ⟨hb.1, applyP_size hN h1 hb.2 e1⟩
          · exact i2 c hc
      · rw [if_neg e2]
        exact ⟨Nat.zero_le _, fun c hc => absurd hc (by simp)⟩
    · rw [if_neg e1]
      exact ⟨Nat.zero_le _, fun c hc => absurd hc (by simp)⟩
end Go.Proofs.YtkfbbkkfagglhaaGreatDoor

/-
  THE COMPOSITION AS THE DEFINITION BUILDS IT, and that the code's is the same list.
-/
namespace Go.Proofs.YtkfbbkkfagglhaaGreatDoor
open Go.RowKit

/-- Bindings in order. -/
def LtB (a b : Bd) : Prop := cmpT a.1 b.1 < 0
theorem LtB_irrefl (a : Bd) : ¬ LtB a a := by unfold LtB; rw [cmpT_self]; decide
theorem LtB_asymm {a b : Bd} (h : LtB a b) : ¬ LtB b a := by unfold LtB at h ⊢; rw [cmpT_anti a.1 b.1]; omega
theorem sorted_sameB : ∀ (us vs : List Bd), us.Pairwise LtB → vs.Pairwise LtB → (∀ t, t ∈ us ↔ t ∈ vs) → us = vs
  | [], [], _, _, _ => rfl
  | [], v :: vs, _, _, h => by have := (h v).2 (List.mem_cons_self ..); simp at this
  | u :: us, [], _, _, h => by have := (h u).1 (List.mem_cons_self ..); simp at this
  | u :: us, v :: vs, h1, h2, h => by
    obtain ⟨a1, a2⟩ := List.pairwise_cons.1 h1
    obtain ⟨b1, b2⟩ := List.pairwise_cons.1 h2
    have e : u = v := by
      have m1 := (h u).1 (List.mem_cons_self ..)
      have m2 := (h v).2 (List.mem_cons_self ..)
      rw [List.mem_cons] at m1 m2
      rcases m1 with m1 | m1
      · exact m1
      · rcases m2 with m2 | m2
        · exact m2.symm
        · exact absurd (b1 u m1) (LtB_asymm (a1 v m2))
    subst e
    congr 1
    refine sorted_sameB us vs a2 b2 fun t => ?_
    have ht := h t
    rw [List.mem_cons, List.mem_cons] at ht
    constructor
    · intro m
      rcases ht.1 (Or.inr m) with m' | m'
      · subst m'; exact absurd (a1 t m) (LtB_irrefl t)
      · exact m'
    · intro m
      rcases ht.2 (Or.inr m) with m' | m'
      · subst m'; exact absurd (b1 t m) (LtB_irrefl t)
      · exact m'
/-- Other variables. -/
def NeB (a b : Bd) : Prop := ¬ cmpT a.1 b.1 = 0
theorem NeB_symm {a b : Bd} (h : NeB a b) : NeB b a := by unfold NeB at h ⊢; rw [cmpT_anti a.1 b.1]; omega
theorem LtB_NeB {a b : Bd} (h : LtB a b) : NeB a b := by unfold LtB at h; unfold NeB; omega
/-- What is sorted, of bindings of other variables each, is in order strictly. -/
theorem sorted_strict {bs : List Bd} (h1 : bs.Pairwise (fun a b => ¬ cmpT b.1 a.1 < 0)) (h2 : bs.Pairwise NeB) : bs.Pairwise LtB := by
  refine List.Pairwise.imp₂ (fun a b x y => ?_) h1 h2
  unfold LtB
  unfold NeB at y
  rw [cmpT_anti a.1 b.1] at x
  omega
theorem com_same {bs U V : List Bd} (hp : bs.Perm U) (hs : bs.Pairwise (fun a b => ¬ cmpT b.1 a.1 < 0)) (hu : U.Pairwise NeB) (hv : V.Pairwise LtB) (hm : ∀ b, b ∈ U ↔ b ∈ V) : bs = V :=
  sorted_sameB bs V (sorted_strict hs (hp.symm.pairwise hu (fun h => NeB_symm h))) hv (fun t => by rw [hp.mem_iff]; exact hm t)
/-- One more binding, in its place. -/
def insO : List Bd → Bd → List Bd
  | [], b => [b]
  | c :: cs, b => if cmpT b.1 c.1 < 0 then b :: c :: cs else c :: insO cs b
def insB (s : List Bd) (b : Bd) : List Bd := if cmpT b.1 b.2 = 0 then s else insO s b
theorem insO_perm : ∀ (s : List Bd) (b : Bd), (insO s b).Perm (b :: s)
  | [], b => List.Perm.refl _
  | c :: cs, b => by
    rw [insO]
    by_cases h : cmpT b.1 c.1 < 0
    · rw [if_pos h]
    · rw [if_neg h]
      exact ((insO_perm cs b).cons c).trans (List.Perm.swap b c cs)
theorem insO_sorted : ∀ (s : List Bd) (b : Bd), s.Pairwise LtB → (∀ c ∈ s, NeB b c) → (insO s b).Pairwise LtB
  | [], b, _, _ => by simp [insO]
  | c :: cs, b, hs, hn => by
    obtain ⟨h1, h2⟩ := List.pairwise_cons.1 hs
    rw [insO]
    by_cases h : cmpT b.1 c.1 < 0
    · rw [if_pos h]
      refine List.pairwise_cons.2 ⟨fun d hd => ?_, hs⟩
      rcases List.mem_cons.1 hd with rfl | hd
      · exact h
      · exact cmpT_trans h (h1 d hd)
    · rw [if_neg h]
      refine List.pairwise_cons.2 ⟨fun d hd => ?_, insO_sorted cs b h2 (fun d hd => hn d (List.mem_cons_of_mem _ hd))⟩
      rw [(insO_perm cs b).mem_iff] at hd
      rcases List.mem_cons.1 hd with rfl | hd
      · have := hn c (List.mem_cons_self ..)
        unfold NeB at this
        unfold LtB
        rw [cmpT_anti d.1 c.1]
        omega
      · exact h1 d hd
theorem insO_length (s : List Bd) (b : Bd) : (insO s b).length = s.length + 1 := by rw [(insO_perm s b).length_eq]; rfl
/-- Bindings put into a list one after another. -/
def insL (s l : List Bd) : List Bd := l.foldl insB s
/-- Those that bind something. -/
def nontriv (l : List Bd) : List Bd := l.filter (fun b => ! (cmpT b.1 b.2 == 0))
theorem nontriv_cons (b : Bd) (l : List Bd) : nontriv (b :: l) = if cmpT b.1 b.2 = 0 then nontriv l else b :: nontriv l := by
  unfold nontriv
  rw [List.filter_cons]
  by_cases h : cmpT b.1 b.2 = 0
  · rw [if_pos h, if_neg (by rw [h]; decide)]
  · rw [if_neg h, if_pos (by simpa using h)]
theorem insL_facts : ∀ (l s : List Bd), s.Pairwise LtB → l.Pairwise NeB → (∀ b ∈ l, ∀ c ∈ s, NeB b c) → (insL s l).Pairwise LtB ∧ (insL s l).Perm (s ++ nontriv l)
  | [], s, hs, _, _ => ⟨hs, by simp [insL, nontriv]⟩
  | b :: l, s, hs, hl, hd => by
    obtain ⟨h1, h2⟩ := List.pairwise_cons.1 hl
    show (insL (insB s b) l).Pairwise LtB ∧ (insL (insB s b) l).Perm (s ++ nontriv (b :: l))
    rw [nontriv_cons]
    unfold insB
    by_cases h : cmpT b.1 b.2 = 0
    · rw [if_pos h, if_pos h]
      exact insL_facts l s hs h2 (fun c hc d hd' => hd c (List.mem_cons_of_mem _ hc) d hd')
    · rw [if_neg h, if_neg h]
      have p := insO_perm s b
      obtain ⟨i1, i2⟩ := insL_facts l (insO s b) (insO_sorted s b hs (hd b (List.mem_cons_self ..))) h2 (fun c hc d hd' => by
        rw [p.mem_iff] at hd'
        rcases List.mem_cons.1 hd' with rfl | hd'
        · exact NeB_symm (h1 c hc)
        · exact hd c (List.mem_cons_of_mem _ hc) d hd')
      refine ⟨i1, i2.trans ?_⟩
      exact (p.append_right (nontriv l)).trans (List.perm_middle.symm)
theorem SortedB_pair {bs : List Bd} (h : SortedB bs) : bs.Pairwise LtB :=
  List.pairwise_iff_getElem.2 fun i j hi hj hij => h i j hi hj hij
theorem pair_SortedB {bs : List Bd} (h : bs.Pairwise LtB) : SortedB bs :=
  fun i j hi hj hij => List.pairwise_iff_getElem.1 h i j hi hj hij
/-- The bindings with another substitution applied. -/
def apB (ts ss : List Bd) : List Bd := ss.map (fun b => (b.1, (applyP ts b.2).1))
theorem folP_ok (ts : List Bd) : ∀ ss : List Bd, (folP ts ss).2 = 0 → (folP ts ss).1 = nontriv (apB ts ss) ∧ ∀ b ∈ ss, (applyP ts b.2).2 = 0
  | [], _ => ⟨rfl, fun b hb => absurd hb (by simp)⟩
  | b :: bs, h => by
    rw [folP] at h ⊢
    by_cases e1 : (applyP ts b.2).2 = 0
    · rw [if_pos e1] at h ⊢
      by_cases e2 : (folP ts bs).2 = 0
      · rw [if_pos e2] at h ⊢
        obtain ⟨i1, i2⟩ := folP_ok ts bs e2
        refine ⟨?_, fun c hc => ?_⟩
        · show _ = nontriv ((b.1, (applyP ts b.2).1) :: apB ts bs)
          rw [nontriv_cons]
          by_cases e3 : cmpT b.1 (applyP ts b.2).1 = 0
          · rw [if_pos e3, if_pos e3]; exact i1
          · rw [if_neg e3, if_neg e3, i1]
        · rcases List.mem_cons.1 hc with rfl | hc
          · exact e1
          · exact i2 c hc
      · rw [if_neg e2] at h; exact absurd h e2
    · rw [if_neg e1] at h; exact absurd h e1
/-- The bindings of t whose variables s does not bind. -/
def restB (ss ts : List Bd) : List Bd := ts.filter (fun b => ! bndB ss b.1)
/-- The composition, as the definition builds it. -/
def comR (ss ts : List Bd) : List Bd := insL (insL [] (apB ts ss)) (restB ss ts)
theorem apB_NeB {ts ss : List Bd} (h : ss.Pairwise LtB) : (apB ts ss).Pairwise NeB := by
  unfold apB
  rw [List.pairwise_map]
  exact h.imp (fun x => LtB_NeB x)
theorem restB_NeB {ss ts : List Bd} (h : ts.Pairwise LtB) : (restB ss ts).Pairwise NeB := (h.imp (fun x => LtB_NeB x)).filter _
theorem rest_other {ss ts : List Bd} {b c : Bd} (hb : b ∈ restB ss ts) (hc : c ∈ nontriv (apB ts ss)) : NeB b c := by
  have h1 := (List.mem_filter.1 hb).2
  obtain ⟨d, hd, rfl⟩ := List.mem_map.1 (List.mem_filter.1 hc).1
  intro e
  have hs : bndB ss b.1 = true := by
    unfold bndB
    rw [List.any_eq_true]
    refine ⟨d, hd, ?_⟩
    have e2 : cmpT d.1 b.1 = 0 := by rw [cmpT_anti b.1 d.1]; rw [show cmpT b.1 d.1 = 0 from e]; rfl
    rw [e2]; rfl
  rw [hs] at h1
  exact absurd h1 (by decide)
theorem nontriv_all {l : List Bd} (h : ∀ b ∈ l, ¬ cmpT b.1 b.2 = 0) : nontriv l = l := by
  unfold nontriv
  rw [List.filter_eq_self]
  intro b hb
  simpa using h b hb
theorem comR_facts {ss ts : List Bd} (hs : ss.Pairwise LtB) (ht : ts.Pairwise LtB) (hn : ∀ b ∈ ts, ¬ cmpT b.1 b.2 = 0) :
    (comR ss ts).Pairwise LtB ∧ (comR ss ts).Perm (nontriv (apB ts ss) ++ restB ss ts) ∧ (nontriv (apB ts ss) ++ restB ss ts).Pairwise NeB := by
  obtain ⟨a1, a2⟩ := insL_facts (apB ts ss) [] List.Pairwise.nil (apB_NeB hs) (fun _ _ c hc => absurd hc (by simp))
  rw [List.nil_append] at a2
  obtain ⟨b1, b2⟩ := insL_facts (restB ss ts) (insL [] (apB ts ss)) a1 (restB_NeB ht) (fun b hb c hc => rest_other hb ((a2.mem_iff).1 hc))
  rw [nontriv_all (l := restB ss ts) (fun b hb => hn b (List.mem_filter.1 hb).1)] at b2
  refine ⟨b1, b2.trans (a2.append_right _), ?_⟩
  rw [List.pairwise_append]
  exact ⟨(apB_NeB hs).filter _, restB_NeB ht, fun c hc b hb => NeB_symm (rest_other hb hc)⟩
theorem bindE_ne {v t : Tm} (h : bindE v t = 0) : ¬ cmpT v t = 0 := by
  unfold bindE at h
  by_cases e1 : validE v = 0
  · rw [if_pos e1] at h
    by_cases e2 : ¬ v.kind = 1 ∨ cmpT v t = 0
    · rw [if_pos e2] at h; exact absurd h (by decide)
    · exact fun e => e2 (Or.inr e)
  · rw [if_neg e1] at h; exact absurd h e1
/-- What the code composes is what the definition composes. -/
theorem com_comR {ss ts bs : List Bd} (h1 : validB ss = 0) (h2 : validB ts = 0) (hf : (folP ts ss).2 = 0) (hp : bs.Perm (comU ss (folP ts ss).1 ts)) (hs : bs.Pairwise (fun a b => ¬ cmpT b.1 a.1 < 0)) : bs = comR ss ts := by
  obtain ⟨_, _, s3⟩ := validB_ok h1
  obtain ⟨_, t2, t3⟩ := validB_ok h2
  obtain ⟨c1, c2, c3⟩ := comR_facts (SortedB_pair s3) (SortedB_pair t3) (fun b hb => bindE_ne (t2 b hb))
  have e : comU ss (folP ts ss).1 ts = nontriv (apB ts ss) ++ restB ss ts := by unfold comU restB; rw [(folP_ok ts ss hf).1]
  rw [e] at hp
  exact com_same hp hs c3 c1 (fun b => (c2.mem_iff).symm)
theorem comR_length {ss ts : List Bd} (h1 : validB ss = 0) (h2 : validB ts = 0) (hf : (folP ts ss).2 = 0) : (comR ss ts).length = (comU ss (folP ts ss).1 ts).length := by
  obtain ⟨_, _, s3⟩ := validB_ok h1
  obtain ⟨_, t2, t3⟩ := validB_ok h2
  obtain ⟨c1, c2, c3⟩ := comR_facts (SortedB_pair s3) (SortedB_pair t3) (fun b hb => bindE_ne (t2 b hb))
  rw [c2.length_eq]
  unfold comU restB
  rw [(folP_ok ts ss hf).1]

end Go.Proofs.YtkfbbkkfagglhaaGreatDoor

/-
  subst.Compose's answer as the definition builds it; bindings that were made, read as a row.
-/
namespace Go.Proofs.YtkfbbkkfagglhaaGreatDoor
open Go.RowKit

/-- A slice value that reads as these bindings; what their terms hold lies in blocks of S. -/
def ElemsB (S : Nat → Prop) (w : World) (bs : List Bd) (v : Value) : Prop :=
  ∃ xa cap cs, v = .slice xa bs.length cap ∧ bs.length ≤ cap ∧ bs.length ≤ maxLen ∧ KC S w (flatB bs) cs ∧ (0 < bs.length → ∃ b o, xa = some ⟨b, o, none⟩ ∧ ∀ j u, cs[j]? = some u → w.cell? ⟨b, o + j, none⟩ = some u)
theorem flatB_pos {bs : List Bd} (h : bs ≠ []) : flatB bs ≠ [] := by
  cases bs with
  | nil => exact absurd rfl h
  | cons b bs => simp [flatB]
theorem ElemsB_row {S : Nat → Prop} {w : World} {bs : List Bd} {v : Value} (h : ElemsB S w bs v) : ∃ xa cap, v = .slice xa bs.length cap ∧ bs.length ≤ cap ∧ bs.length ≤ maxLen ∧ Row w (flatB bs) xa := by
  obtain ⟨xa, cap, cs, rfl, h1, h2, hK, hc⟩ := h
  refine ⟨xa, cap, rfl, h1, h2, ?_⟩
  cases bs with
  | nil => simp [flatB, Row]
  | cons t ts =>
    obtain ⟨b, o, rfl, hcc⟩ := hc (by simp)
    have hK' : KC (fun _ => True) w (flatB (t :: ts)) cs := KC_carry (fun _ _ => rfl) (fun _ _ => trivial) _ _ hK
    have hR : RowIn (fun _ => True) w (flatB (t :: ts)) (some ⟨b, o, none⟩) := RowIn_of_KC (S := fun _ => True) trivial _ cs o hK' hcc
    have : ∀ (us : List Tm) (ya : Option Addr), RowIn (fun _ => True) w us ya → Row w us ya := by
      intro us
      induction us with
      | nil => intro ya _; simp [Row]
      | cons u us ih =>
        intro ya hh
        simp only [RowIn] at hh; simp only [Row]
        obtain ⟨b, o, e, _, ⟨c0, c1, c2, c3, g0, g1, g2, g3, hI⟩, hR⟩ := hh
        exact ⟨b, o, e, ⟨c0, c1, c2, c3, g0, g1, g2, g3, IsIn_Is _ _ _ _ _ hI⟩, ih _ hR⟩
    exact this _ _ hR
theorem ElemsB_nil (S : Nat → Prop) (w : World) : ElemsB S w [] (.slice none 0 0) := ⟨none, 0, [], rfl, Nat.le_refl _, Nat.zero_le _, rfl, fun h => by simp at h⟩
theorem ElemsB_ext {S : Nat → Prop} {w w' : World} {bs : List Bd} {v : Value} (h : ElemsB S w bs v) (hS : ∀ b, S b → b < w.heap.size) (hB : Below w.heap.size w w') : ElemsB S w' bs v := by
  obtain ⟨xa, cap, cs, rfl, h1, h2, hK, hc⟩ := h
  refine ⟨xa, cap, cs, rfl, h1, h2, KC_carry (fun b hb => hB.block b (hS b hb)) (fun _ hb => hb) _ _ hK, fun hp => ?_⟩
  obtain ⟨b, o, e, hc⟩ := hc hp
  exact ⟨b, o, e, fun j u hu => keep_below hB _ _ (hc j u hu)⟩
theorem own_elemsB {H : Nat} {S : Nat → Prop} {w : World} {bs : List Bd} {v : Value} {cs : List Value} (ho : w.ownsRow H 53 8 v bs.length cs) (hK : KC S w (flatB bs) cs) : ElemsB S w bs v := by
  have ho2 := ho
  rcases ho.2 with ⟨rfl, h0⟩ | ⟨g, cap, cur, rfl, _, _, h1, h2, _⟩
  · have : bs = [] := List.length_eq_zero_iff.1 h0
    subst this; exact ElemsB_nil S w
  · refine ⟨some ⟨g, 0, none⟩, cap, cs, rfl, h1, by omega, hK, fun _ => ⟨g, 0, rfl, fun j u hu => ?_⟩⟩
    have := ho2.cells (g := g) rfl j u hu
    rw [add_plain] at this; exact this
theorem BdsAt_row {H : Nat} {w : World} {bs : List Bd} {kv : Value} (h : BdsAt H w bs kv) : ∃ xa cap, kv = .slice xa bs.length cap ∧ bs.length ≤ cap ∧ bs.length ≤ maxLen ∧ Row w (flatB bs) xa := by
  obtain ⟨F, cs, ho, hK, _⟩ := h
  exact ElemsB_row (own_elemsB ho hK)
theorem RbOk.small {bs : List Bd} {xs : Option Addr} {cs N : Nat} {w : World} (h : RbOk bs xs cs w) (hsn : ∀ b ∈ bs, size b.2 * N ≤ 1073741824) : ∀ b ∈ bs, size b.1 ≤ 1073741824 ∧ size b.2 * N ≤ 1073741824 :=
  fun b hb => ⟨(h.sz b hb).1, hsn b hb⟩
/-- The good case, whole. -/
theorem scompose_good (ss ts : List Bd) (xs xt : Option Addr) (cs ct N : Nat) (w : World) (hS : RbOk ss xs cs w) (hRb : RbOk ts xt ct w) (hv1 : validB ss = 0) (hv2 : validB ts = 0) (hN : ∀ b ∈ ts, size b.2 ≤ N) (h1 : 1 ≤ N) (hsn : ∀ b ∈ ss, size b.2 * N ≤ 1073741824) (hf : (folP ts ss).2 = 0) :
    Calls Tryz.prog 50 #[.slice xs ss.length cs, .slice xt ts.length ct] w (fun e w' => Below w.heap.size w w' ∧ if 200 < (comR ss ts).length then e = .returned (.tuple #[.slice none 0 0, .int .i64 3]) else ∃ kv, e = .returned (.tuple #[kv, .int .i64 0]) ∧ BdsAt w.heap.size w' (comR ss ts) kv) := by
  obtain ⟨s1, _, _⟩ := validB_ok hv1
  obtain ⟨t1, _, _⟩ := validB_ok hv2
  obtain ⟨f1, f2⟩ := folP_small hN h1 ss (hS.small hsn)
  have hL : folS ts [] ss = ((folP ts ss).1, 0) := by rw [folS_nil, if_pos hf]
  refine (scompose_any ss ts xs xt cs ct N w hS hRb t1 s1 hv1 hv2 hN h1 hsn _ hL (by omega) f2).mono ?_
  rintro e w' ⟨hB, h⟩
  refine ⟨hB, ?_⟩
  rw [comR_length hv1 hv2 hf]
  by_cases h200 : 200 < (comU ss (folP ts ss).1 ts).length
  · rw [if_pos h200] at h ⊢; exact h
  · rw [if_neg h200] at h ⊢
    obtain ⟨bs, kv, p1, p2, p3, p4⟩ := h
    rw [com_comR hv1 hv2 hf p1 p2] at p4
    exact ⟨kv, p3, p4⟩

end Go.Proofs.YtkfbbkkfagglhaaGreatDoor
