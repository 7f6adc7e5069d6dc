/-
  slices.SortFunc AT A ROW OF BINDINGS, by its contract of the shelf; the walk of Compose's comparison.
-/
import Derived.Test.YtkdnfioihhfmpaaDoorBval
import Derived.Test.YtkdnfioihhfmpaaDoorElems
import Derived.Test.YtkdnfioihhfmpaaDoorSort
import Derived.Test.YtkdnfioihhfmpaaDoorSortlay
namespace Go.Proofs.YtkdnfioihhfmpaaDoor
open Go.RowKit Go.Shelf Go.Lib Go.Sort

set_option maxHeartbeats 400000 in
theorem Compare_gr (t u : Tm) (c0 c1 c2 c3 d0 d1 d2 d3 : Value) (w : World) (ht : size t ≤ 4611686018427387904) (hu : size u ≤ 4611686018427387904) (hI : Is w t c0 c1 c2 c3) (hJ : Is w u d0 d1 d2 d3) :
    Calls Tryd.prog 43 #[.agg #[c0, c1, c2, c3], .agg #[d0, d1, d2, d3]] w fun e w' => e = .returned (.int .i64 (cmpT t u)) ∧ Gr w w' := by
  have h1 : Lies ((w.alloc (.cells #[c0, c1, c2, c3] 25)).alloc (.cells #[d0, d1, d2, d3] 25)) t w.heap.size 0 := Lies_carry (keep_alloc _ _) (Lies_box hI 25)
  have h2 : Lies ((w.alloc (.cells #[c0, c1, c2, c3] 25)).alloc (.cells #[d0, d1, d2, d3] 25)) u (w.heap.size + 1) 0 := by have := Lies_box (Is_alloc hJ (.cells #[c0, c1, c2, c3] 25)) 25; simpa using this
  go_enter Tryd.func43, Tryd.ntmps43
  go_wp2_with (go_at_call 77; refine (compare_any _ t u _ _ _ _ _ (Nat.le_refl _) ht hu h1 h2).mono ?_; rintro e w' ⟨rfl, hB⟩)
  go_ret
  exact ⟨rfl, (((Gr.refl w).alloc _).alloc _).trans hB⟩

set_option maxHeartbeats 1600000 in
set_option maxRecDepth 100000 in
theorem bcmp_any (k n s xa l c k2 n2 s2 xa2 l2 c2' : _) (k3 n3 s3 xa3 l3 c3' k4 n4 s4 xa4 l4 c4' : _) (v u : Tm) (w : World) (hv : size v ≤ 1073741824) (hu : size u ≤ 1073741824) (hI : Is w v (.int .i64 k) (.string n) (.int .i64 s) (.slice xa l c)) (hJ : Is w u (.int .i64 k3) (.string n3) (.int .i64 s3) (.slice xa3 l3 c3')) :
    Calls Tryd.prog 65 #[.agg #[.int .i64 k, .string n, .int .i64 s, .slice xa l c, .int .i64 k2, .string n2, .int .i64 s2, .slice xa2 l2 c2'], .agg #[.int .i64 k3, .string n3, .int .i64 s3, .slice xa3 l3 c3', .int .i64 k4, .string n4, .int .i64 s4, .slice xa4 l4 c4']] w fun e w' => e = .returned (.int .i64 (cmpT v u)) ∧ Gr w w' := by
  have hG : Gr w ((w.alloc (.cells #[.int .i64 k, .string n, .int .i64 s, .slice xa l c, .int .i64 k2, .string n2, .int .i64 s2, .slice xa2 l2 c2'] 77)).alloc (.cells #[.int .i64 k3, .string n3, .int .i64 s3, .slice xa3 l3 c3', .int .i64 k4, .string n4, .int .i64 s4, .slice xa4 l4 c4'] 77)) := ((Gr.refl w).alloc _).alloc _
  have HC := Lib.hid (Compare_gr v u _ _ _ _ _ _ _ _ _ (by omega) (by omega) (Is_below hI hG.below) (Is_below hJ hG.below))
  have HG := Lib.hid hG
  generalize cmpT v u = r at HC ⊢
  clear hG hI hJ hv hu
  go_enter Tryd.func65, Tryd.ntmps65
  go_wp2_with (go_at_call 43; refine (HC.out).mono ?_; rintro e w3 ⟨he, hB⟩; subst he; have HB : Hid (Gr w w3) := Lib.hid (Gr.trans HG.out hB); clear hB)
  go_ret
  exact ⟨rfl, HB.out⟩

/- Rows of elements of N cells. -/
theorem flatG {α : Type} [Inhabited α] (enc : α → List Value) (N : Nat) (hN : ∀ x, (enc x).length = N) (h0 : 0 < N) : ∀ (l : List α) (j : Nat), j < l.length * N → (l.flatMap enc)[j]? = some ((enc l[j / N]!)[j % N]!)
  | [], j, h => by simp at h
  | x :: l, j, h => by
    rw [List.flatMap_cons]
    by_cases hj : j < N
    · rw [List.getElem?_append_left (by rw [hN]; exact hj), Nat.div_eq_of_lt hj, Nat.mod_eq_of_lt hj]
      have hx : j < (enc x).length := by rw [hN]; exact hj
      rw [List.getElem?_eq_getElem hx]
      simp only [List.getElem!_cons_zero]
      rw [getElem!_pos (enc x) j hx]
    · have ih := flatG enc N hN h0 l (j - N) (by simp only [List.length_cons, Nat.add_mul, Nat.one_mul] at h; omega)
      rw [List.getElem?_append_right (by rw [hN]; omega), hN, ih]
      have e1 : j / N = (j - N) / N + 1 := by
        conv => lhs; rw [show j = (j - N) + N by omega]
        rw [Nat.add_div_right _ h0]
      have e2 : j % N = (j - N) % N := by
        conv => lhs; rw [show j = (j - N) + N by omega]
        rw [Nat.add_mod_right]
      rw [e1, e2]
      simp
theorem flatG_len {α : Type} (enc : α → List Value) (N : Nat) (hN : ∀ x, (enc x).length = N) : ∀ (l : List α), (l.flatMap enc).length = l.length * N
  | [] => by simp
  | x :: l => by simp only [List.flatMap_cons, List.length_append, hN, flatG_len enc N hN l, List.length_cons, Nat.add_mul, Nat.one_mul]; omega
theorem flatG_list {α : Type} [Inhabited α] (enc : α → List Value) (N : Nat) (hN : ∀ x, (enc x).length = N) (h0 : 0 < N) (d : Array α) : (flatK enc N d).toList = d.toList.flatMap enc := by
  apply List.ext_getElem?
  intro j
  by_cases hj : j < d.size * N
  · rw [flatG enc N hN h0 d.toList j (by simpa using hj), Array.getElem?_toList, Array.getElem?_eq_getElem (by simpa using hj)]
    have := get_flatK enc N d j hj
    rw [getElem!_pos _ j (by simpa using hj)] at this
    rw [this]
    have hd : j / N < d.size := (Nat.div_lt_iff_lt_mul h0).2 hj
    have e : d.toList[j / N]! = d[j / N]! := by
      rw [getElem!_pos d.toList (j / N) (by simpa using hd), getElem!_pos d (j / N) hd]; simp
    rw [e]
  · rw [List.getElem?_eq_none (by simpa using hj), List.getElem?_eq_none (by rw [flatG_len enc N hN]; simpa using hj)]
/-- A binding as it lies: its cells, and what they hold. -/
structure BA (S : Nat → Prop) (w : World) where
  b : Bd
  k : Int
  n : ByteArray
  s : Int
  xa : Option Addr
  l : Nat
  c : Nat
  k2 : Int
  n2 : ByteArray
  s2 : Int
  xa2 : Option Addr
  l2 : Nat
  c2 : Nat
  hv : IsIn S w b.1 (.int .i64 k) (.string n) (.int .i64 s) (.slice xa l c)
  ht : IsIn S w b.2 (.int .i64 k2) (.string n2) (.int .i64 s2) (.slice xa2 l2 c2)
  zv : size b.1 ≤ 1073741824
  zt : size b.2 ≤ 1073741824
def encB {S : Nat → Prop} {w : World} (x : BA S w) : List Value := [.int .i64 x.k, .string x.n, .int .i64 x.s, .slice x.xa x.l x.c, .int .i64 x.k2, .string x.n2, .int .i64 x.s2, .slice x.xa2 x.l2 x.c2]
theorem encB_len {S : Nat → Prop} {w : World} (x : BA S w) : (encB x).length = 8 := rfl

theorem KC_BA {S : Nat → Prop} {w : World} : ∀ (bs : List Bd) (cs : List Value), KC S w (flatB bs) cs → SzB 1073741824 bs → ∃ l : List (BA S w), l.map BA.b = bs ∧ cs = l.flatMap encB
  | [], cs, h, _ => ⟨[], rfl, h⟩
  | b :: bs, cs, h, hz => by
    obtain ⟨c0, c1, c2, c3, r, rfl, hI, h1⟩ := h
    obtain ⟨d0, d1, d2, d3, r2, rfl, hJ, h2⟩ := h1
    obtain ⟨k, n, s, xa, l, c, rfl, rfl, rfl, rfl⟩ := IsIn_form hI
    obtain ⟨k2, n2, s2, xa2, l2, c2, rfl, rfl, rfl, rfl⟩ := IsIn_form hJ
    obtain ⟨m, e1, e2⟩ := KC_BA bs r2 h2 (fun x hx => hz x (List.mem_cons_of_mem _ hx))
    have hzb := hz b (List.mem_cons_self ..)
    exact ⟨⟨b, k, n, s, xa, l, c, k2, n2, s2, xa2, l2, c2, hI, hJ, hzb.1, hzb.2⟩ :: m, by simp [e1], by simp [e2, encB]⟩
theorem BA_KC {S S' : Nat → Prop} {w w' : World} (hc : ∀ b, S b → w'.heap[b]? = w.heap[b]?) (hS : ∀ b, S b → S' b) : ∀ l : List (BA S w), KC S' w' (flatB (l.map BA.b)) (l.flatMap encB)
  | [] => rfl
  | x :: l => ⟨_, _, _, _, _, rfl, IsIn_carry hc hS _ _ _ _ _ x.hv, _, _, _, _, _, rfl, IsIn_carry hc hS _ _ _ _ _ x.ht, BA_KC hc hS l⟩

theorem putRow_keep {w : World} {g q b : Nat} (ys : Array Value) (os : Array Obj) (hb : b < w.heap.size) (hne : b ≠ g) : (Sort.grow (putRow id (Sort.ahead w q) g 0 ys) os).heap[b]? = w.heap[b]? := by
  have hsz : (putRow id (Sort.ahead w q) g 0 ys).heap.size = w.heap.size := by simp [putRow, mapBlock, Sort.ahead]
  simp only [Sort.grow]
  rw [Array.getElem?_append_left (by rw [hsz]; omega)]
  simp only [putRow, mapBlock, Sort.ahead, Array.getElem?_modify]
  rw [if_neg (fun e => hne e.symm)]

def SortBPost (H : Nat) (S : Nat → Prop) (w : World) (g n cap : Nat) (bs : List Bd) (e : Ending) (w' : World) : Prop :=
  e = .returned (.tuple #[]) ∧ ∃ bs' vs', w'.ownsRow H 77 8 (.slice (some ⟨g, 0, none⟩) n cap) n vs' ∧ KC S w' (flatB bs') vs' ∧ bs'.Perm bs ∧ bs'.Pairwise (fun a b => ¬ cmpT b.1 a.1 < 0) ∧ Below H w w' ∧ w.heap.size ≤ w'.heap.size

set_option maxHeartbeats 1600000 in
set_option maxRecDepth 100000 in
theorem sort_binds {H g n cap : Nat} {S : Nat → Prop} {bs : List Bd} {vs : List Value} {w : World} (hown : w.ownsRow H 77 8 (.slice (some ⟨g, 0, none⟩) n cap) n vs) (hK : KC S w (flatB bs) vs) (hS : ∀ b, S b → b < w.heap.size ∧ b ≠ g) (hHw : H ≤ w.heap.size) (hn : 0 < n) (hsz : SzB 1073741824 bs) (hlt : n < 1073741824) :
    Calls Tryd.prog 64 #[.slice (some ⟨g, 0, none⟩) n cap, .func (.func 65) #[] #[]] w (SortBPost H S w g n cap bs) := by
  obtain ⟨l, e1, e2⟩ := KC_BA bs vs hK hsz
  have hvl : vs.length = l.length * 8 := by rw [e2, flatG_len encB 8 encB_len]
  have hnl : n = l.length := by have := hown.1; omega
  have hg := hown.lt g rfl
  obtain ⟨x0, hx0⟩ : ∃ x0, l[0]? = some x0 := ⟨_, List.getElem?_eq_getElem (by omega)⟩
  haveI : Inhabited (BA S w) := ⟨x0⟩
  have eg : ∀ args w, (callFunc 65 args).run Tryd.prog w = .ok (.enter 65 args) w := enters_of Tryd.func65 (by kernel_rfl) rfl
  have hO : SWO (ltOf fun x y : BA S w => cmpT x.b.1 y.b.1) := by
    refine ⟨fun x => ?_, fun x y z a b => ?_, fun x y z a b => ?_⟩
    · simp [ltOf, cmpT_self]
    · simp only [ltOf, decide_eq_true_eq] at a b ⊢; exact cmpT_trans a b
    · simp only [ltOf, decide_eq_false_iff_not] at a b ⊢; exact cmpT_ntrans a b
  have hcmp : CmpLays Tryd.prog 65 #[] (encB (S := S) (w := w)) 8 (fun x y => cmpT x.b.1 y.b.1) g 0 l.toArray.size w := by
    intro m os dk _ x y
    have hx := IsIn_Is _ _ _ _ _ (IsIn_carry (S' := S) (fun b hb => putRow_keep (q := m) (flatK encB 8 dk) os (hS b hb).1 (hS b hb).2) (fun _ h => h) _ _ _ _ _ x.hv)
    have hy := IsIn_Is _ _ _ _ _ (IsIn_carry (S' := S) (fun b hb => putRow_keep (q := m) (flatK encB 8 dk) os (hS b hb).1 (hS b hb).2) (fun _ h => h) _ _ _ _ _ y.hv)
    exact (bcmp_any _ _ _ _ _ _ _ _ _ _ _ _ _ _ _ _ _ _ _ _ _ _ _ _ x.b.1 y.b.1 _ x.zv y.zv hx hy).mono fun e w' h => ⟨h.1, h.2.grow⟩
  have hH : HoldsK encB 8 w g 0 l.toArray := by
    intro j hj
    refine ⟨?_, hown.frozenAt _⟩
    simp only [size_flatK, List.size_toArray] at hj
    rw [Nat.zero_add, hown.cellAt j (by omega), e2, flatG encB 8 encB_len (by omega) l j hj, get_flatK encB 8 l.toArray j (by simpa using hj)]
    simp
  have hcon := AnyQ.slices_SortFunc Tryd.sortBinds 8 Tryd.isAgg77 Tryd.sizeOf77 encB encB_len (fun x v hv => by simp [encB] at hv; rcases hv with rfl | rfl | rfl | rfl | rfl | rfl | rfl | rfl <;> rfl) (fun x y => cmpT x.b.1 y.b.1) hO 65 #[] g 0 cap l.toArray w eg hcmp hH hg.2 (by simp; omega)
  rw [List.size_toArray, ← hnl] at hcon
  refine hcon.mono ?_
  rintro e w' ⟨rfl, d', m, os, hp, hs, rfl⟩
  obtain ⟨hp1, _, hp3⟩ := hp
  simp only [List.size_toArray] at hp1
  have hperm : d'.toList.Perm l := by
    have ea : d'.extract 0 n = d' := by rw [hnl, ← hp1]; simp
    have eb : l.toArray.extract 0 n = l.toArray := by rw [hnl]; simp
    rw [ea, eb] at hp3
    simpa using hp3
  have hk := putRow_below (w := w) (q := m) hg.1 (flatK encB 8 d') os hHw
  refine ⟨rfl, d'.toList.map BA.b, d'.toList.flatMap encB, ?_, BA_KC (fun b hb => putRow_keep (q := m) (flatK encB 8 d') os (hS b hb).1 (hS b hb).2) (fun _ h => h) d'.toList, ?_, ?_, hk, hk.size⟩
  · have hy : (d'.toList.flatMap encB).length = n * 8 := by rw [flatG_len encB 8 encB_len]; simp [hp1, hnl]
    have := own_putRow (q := m) (os := os) hown hy
    rw [← flatG_list encB 8 encB_len (by omega) d'] at this ⊢
    rw [Array.toArray_toList] at this
    exact this
  · rw [← e1]; exact hperm.map _
  · rw [List.pairwise_map, List.pairwise_iff_getElem]
    intro i j hi hj hij
    have := hs i j (Nat.zero_le _) hij (by simpa [hp1, hnl] using hj)
    simp only [ltOf, decide_eq_false_iff_not] at this
    simp only [Array.length_toList] at hi hj
    rw [getElem!_pos d' i hi, getElem!_pos d' j hj] at this
    simpa using this
end Go.Proofs.YtkdnfioihhfmpaaDoor
