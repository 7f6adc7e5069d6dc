/-
  slices.SortFunc AT A ROW OF TERMS: its laying as the shelf's command prints it (its numbers are marks), and its contract.
-/
import Derived.Shelf.SlGeneric
import Derived.Shelf.SlLaysF0
import Derived.Shelf.SlSortCmp.WholeK
import Derived.Shelf.SlSortCmp.NoneTotal
import Derived.Test.YtfbomoginjknlaaDoorQadd
import Derived.Test.YtfbomoginjknlaaDoorSortlay
namespace Go.Proofs
open Go.Shelf
def Tryd.sortTerms_ren : Go.Shelf.Ren := ⟨fun | 6 => 77 | 15 => 86 | 14 => 85 | 28 => 103 | 29 => 104 | 20 => 95 | 21 => 96 | 22 => 97 | 23 => 98 | 24 => 99 | 25 => 100 | 26 => 101 | 27 => 102 | 46 => 109 | 47 => 110 | 48 => 111 | 49 => 112 | 50 => 113 | 57 => 115 | n => n, fun | 22 => 22 | 24 => 24 | 25 => 57 | 3 => 3 | 39 => 58 | 0 => 0 | 53 => 83 | 55 => 86 | 4 => 4 | 46 => 126 | 45 => 125 | 50 => 102 | 5 => 5 | 9 => 9 | 66 => 133 | 70 => 137 | 76 => 139 | 77 => 140 | n => n, fun | n => n⟩
theorem Tryd.sortTerms : Go.Proofs.SlLaysF0.n6 Tryd.prog Tryd.sortTerms_ren := {
  mixed := by kernel_rfl
  f6 := ⟨Tryd.f77.name, by decide, Tryd.func77.trans (congrArg some (by kernel_rfl))⟩
  f14 := ⟨Tryd.f85.name, by decide, Tryd.func85.trans (congrArg some (by kernel_rfl))⟩
  f15 := Tryd.func86.trans (congrArg some (by kernel_rfl))
  f20 := ⟨Tryd.f95.name, by decide, Tryd.func95.trans (congrArg some (by kernel_rfl))⟩
  f21 := ⟨Tryd.f96.name, by decide, Tryd.func96.trans (congrArg some (by kernel_rfl))⟩
  f22 := ⟨Tryd.f97.name, by decide, Tryd.func97.trans (congrArg some (by kernel_rfl))⟩
  f23 := ⟨Tryd.f98.name, by decide, Tryd.func98.trans (congrArg some (by kernel_rfl))⟩
  f24 := ⟨Tryd.f99.name, by decide, Tryd.func99.trans (congrArg some (by kernel_rfl))⟩
  f25 := ⟨Tryd.f100.name, by decide, Tryd.func100.trans (congrArg some (by kernel_rfl))⟩
  f26 := ⟨Tryd.f101.name, by decide, Tryd.func101.trans (congrArg some (by kernel_rfl))⟩
  f27 := ⟨Tryd.f102.name, by decide, Tryd.func102.trans (congrArg some (by kernel_rfl))⟩
  f28 := Tryd.func103.trans (congrArg some (by kernel_rfl))
  f29 := Tryd.func104.trans (congrArg some (by kernel_rfl))
  f46 := ⟨Tryd.f109.name, by decide, Tryd.func109.trans (congrArg some (by kernel_rfl))⟩
  f47 := Tryd.func110.trans (congrArg some (by kernel_rfl))
  f48 := Tryd.func111.trans (congrArg some (by kernel_rfl))
  f49 := ⟨Tryd.f112.name, by decide, Tryd.func112.trans (congrArg some (by kernel_rfl))⟩
  f50 := ⟨Tryd.f113.name, by decide, Tryd.func113.trans (congrArg some (by kernel_rfl))⟩
  f57 := ⟨Tryd.f115.name, by decide, Tryd.func115.trans (congrArg some (by kernel_rfl))⟩
  t0 := Tryd.underlying0
  a0 := Tryd.isAgg0
  z0 := Tryd.sizeOf0
  v0 := Tryd.zeroValue0
  t3 := Tryd.underlying3
  a3 := Tryd.isAgg3
  z3 := Tryd.sizeOf3
  v3 := Tryd.zeroValue3
  t4 := Tryd.underlying4
  a4 := Tryd.isAgg4
  z4 := Tryd.sizeOf4
  v4 := Tryd.zeroValue4
  t5 := Tryd.underlying5
  a5 := Tryd.isAgg5
  z5 := Tryd.sizeOf5
  v5 := Tryd.zeroValue5
  t9 := Tryd.underlying9
  a9 := Tryd.isAgg9
  z9 := Tryd.sizeOf9
  v9 := Tryd.zeroValue9
  t22 := Tryd.underlying22
  a22 := Tryd.isAgg22
  z22 := Tryd.sizeOf22
  v22 := Tryd.zeroValue22
  t25 := Tryd.underlying57
  a25 := Tryd.isAgg57
  z25 := Tryd.sizeOf57
  v25 := Tryd.zeroValue57
  t39 := Tryd.underlying58
  a39 := Tryd.isAgg58
  z39 := Tryd.sizeOf58
  v39 := Tryd.zeroValue58
  t45 := Tryd.underlying125
  a45 := Tryd.isAgg125
  z45 := Tryd.sizeOf125
  v45 := Tryd.zeroValue125
  t46 := Tryd.underlying126
  a46 := Tryd.isAgg126
  z46 := Tryd.sizeOf126
  v46 := Tryd.zeroValue126
  t50 := Tryd.underlying102
  a50 := Tryd.isAgg102
  z50 := Tryd.sizeOf102
  v50 := Tryd.zeroValue102
  t53 := Tryd.underlying83
  a53 := Tryd.isAgg83
  z53 := Tryd.sizeOf83
  v53 := Tryd.zeroValue83
  t55 := Tryd.underlying86
  a55 := Tryd.isAgg86
  z55 := Tryd.sizeOf86
  v55 := Tryd.zeroValue86
  t66 := Tryd.underlying133
  a66 := Tryd.isAgg133
  z66 := Tryd.sizeOf133
  v66 := Tryd.zeroValue133
  t70 := Tryd.underlying137
  a70 := Tryd.isAgg137
  z70 := Tryd.sizeOf137
  v70 := Tryd.zeroValue137
  t76 := Tryd.underlying139
  a76 := Tryd.isAgg139
  z76 := Tryd.sizeOf139
  v76 := Tryd.zeroValue139
  t77 := Tryd.underlying140
  a77 := Tryd.isAgg140
  z77 := Tryd.sizeOf140
  v77 := Tryd.zeroValue140 }
end Go.Proofs
namespace Go.Proofs.YtfbomoginjknlaaDoor
open Go.RowKit Go.Shelf Go.Lib Go.Sort

/- Rows of elements of N cells. -/
theorem flatQ {α : Type} [Inhabited α] (enc : α → List Value) (N : Nat) (hN : ∀ x, (enc x).length = N) (h0 : 0 < N) : ∀ (l : List α) (j : Nat), j < l.length * N → (l.flatMap enc)[j]? = some ((enc l[j / N]!)[j % N]!)
  | [], j, h => by simp at h
  | x :: l, j, h => by
    rw [List.flatMap_cons]
    by_cases hj : j < N
    · rw [List.getElem?_append_left (by rw [hN]; exact hj), Nat.div_eq_of_lt hj, Nat.mod_eq_of_lt hj]
      have hx : j < (enc x).length := by rw [hN]; exact hj
      rw [List.getElem?_eq_getElem hx]
      simp only [List.getElem!_cons_zero]
      rw [getElem!_pos (enc x) j hx]
    · have ih := flatQ enc N hN h0 l (j - N) (by simp only [List.length_cons, Nat.add_mul, Nat.one_mul] at h; omega)
      rw [List.getElem?_append_right (by rw [hN]; omega), hN, ih]
      have e1 : j / N = (j - N) / N + 1 := by
        conv => lhs; rw [show j = (j - N) + N by omega]
        rw [Nat.add_div_right _ h0]
      have e2 : j % N = (j - N) % N := by
        conv => lhs; rw [show j = (j - N) + N by omega]
        rw [Nat.add_mod_right]
      rw [e1, e2]
      simp
theorem flatQ_len {α : Type} (enc : α → List Value) (N : Nat) (hN : ∀ x, (enc x).length = N) : ∀ (l : List α), (l.flatMap enc).length = l.length * N
  | [] => by simp
  | x :: l => by simp only [List.flatMap_cons, List.length_append, hN, flatQ_len enc N hN l, List.length_cons, Nat.add_mul, Nat.one_mul]; omega
theorem flatQ_list {α : Type} [Inhabited α] (enc : α → List Value) (N : Nat) (hN : ∀ x, (enc x).length = N) (h0 : 0 < N) (d : Array α) : (flatK enc N d).toList = d.toList.flatMap enc := by
  apply List.ext_getElem?
  intro j
  by_cases hj : j < d.size * N
  · rw [flatQ enc N hN h0 d.toList j (by simpa using hj), Array.getElem?_toList, Array.getElem?_eq_getElem (by simpa using hj)]
    have := get_flatK enc N d j hj
    rw [getElem!_pos _ j (by simpa using hj)] at this
    rw [this]
    have hd : j / N < d.size := (Nat.div_lt_iff_lt_mul h0).2 hj
    have e : d.toList[j / N]! = d[j / N]! := by
      rw [getElem!_pos d.toList (j / N) (by simpa using hd), getElem!_pos d (j / N) hd]; simp
    rw [e]
  · rw [List.getElem?_eq_none (by simpa using hj), List.getElem?_eq_none (by rw [flatQ_len enc N hN]; simpa using hj)]
/-- A term as it lies in a row: its cells, and what they hold. -/
structure TA (S : Nat → Prop) (w : World) where
  t : Tm
  k : Int
  n : ByteArray
  s : Int
  xa : Option Addr
  l : Nat
  c : Nat
  hv : IsIn S w t (.int .i64 k) (.string n) (.int .i64 s) (.slice xa l c)
  zv : size t ≤ 1073741824
def encT {S : Nat → Prop} {w : World} (x : TA S w) : List Value := [.int .i64 x.k, .string x.n, .int .i64 x.s, .slice x.xa x.l x.c]
theorem encT_len {S : Nat → Prop} {w : World} (x : TA S w) : (encT x).length = 4 := rfl
theorem KC_TA {S : Nat → Prop} {w : World} : ∀ (ts : List Tm) (cs : List Value), KC S w ts cs → (∀ t ∈ ts, size t ≤ 1073741824) → ∃ l : List (TA S w), l.map TA.t = ts ∧ cs = l.flatMap encT
  | [], cs, h, _ => ⟨[], rfl, h⟩
  | t :: ts, cs, h, hz => by
    obtain ⟨c0, c1, c2, c3, r, rfl, hI, h1⟩ := h
    obtain ⟨k, n, s, xa, l, c, rfl, rfl, rfl, rfl⟩ := IsIn_form hI
    obtain ⟨m, e1, e2⟩ := KC_TA ts r h1 (fun x hx => hz x (List.mem_cons_of_mem _ hx))
    exact ⟨⟨t, k, n, s, xa, l, c, hI, hz t (List.mem_cons_self ..)⟩ :: m, by simp [e1], by simp [e2, encT]⟩
theorem TA_KC {S S' : Nat → Prop} {w w' : World} (hc : ∀ b, S b → w'.heap[b]? = w.heap[b]?) (hS : ∀ b, S b → S' b) : ∀ l : List (TA S w), KC S' w' (l.map TA.t) (l.flatMap encT)
  | [] => rfl
  | x :: l => ⟨_, _, _, _, _, rfl, IsIn_carry hc hS _ _ _ _ _ x.hv, TA_KC hc hS l⟩
theorem putRow_keepQ {w : World} {g q b : Nat} (ys : Array Value) (os : Array Obj) (hb : b < w.heap.size) (hne : b ≠ g) : (Sort.grow (putRow id (Sort.ahead w q) g 0 ys) os).heap[b]? = w.heap[b]? := by
  have hsz : (putRow id (Sort.ahead w q) g 0 ys).heap.size = w.heap.size := by simp [putRow, mapBlock, Sort.ahead]
  simp only [Sort.grow]
  rw [Array.getElem?_append_left (by rw [hsz]; omega)]
  simp only [putRow, mapBlock, Sort.ahead, Array.getElem?_modify]
  rw [if_neg (fun e => hne e.symm)]

/-- Equal terms may stand in any order. -/
def AscQ (ps : List Tm) : Prop := ps.Pairwise (fun a b => ¬ cmpT b a < 0)
def SortTPost (H : Nat) (S : Nat → Prop) (w : World) (g n cap : Nat) (ps : List Tm) (e : Ending) (w' : World) : Prop :=
  e = .returned (.tuple #[]) ∧ ∃ ps' vs', w'.ownsRow H 24 4 (.slice (some ⟨g, 0, none⟩) n cap) n vs' ∧ KC S w' ps' vs' ∧ ps'.Perm ps ∧ AscQ ps' ∧ Below H w w' ∧ w.heap.size ≤ w'.heap.size ∧ ∀ b, b < w.heap.size → b ≠ g → w'.heap[b]? = w.heap[b]?

theorem cmp_grQ (t u : Tm) (c0 c1 c2 c3 d0 d1 d2 d3 : Value) (w : World) (ht : size t ≤ 4611686018427387904) (hu : size u ≤ 4611686018427387904) (hI : Is w t c0 c1 c2 c3) (hJ : Is w u d0 d1 d2 d3) :
    Calls Tryd.prog 69 #[.agg #[c0, c1, c2, c3], .agg #[d0, d1, d2, d3]] w fun e w' => e = .returned (.int .i64 (cmpT t u)) ∧ Gr w w' := by
  have h1 : Lies ((w.alloc (.cells #[c0, c1, c2, c3] 24)).alloc (.cells #[d0, d1, d2, d3] 24)) t w.heap.size 0 := Lies_carry (keep_alloc _ _) (Lies_box hI 24)
  have h2 : Lies ((w.alloc (.cells #[c0, c1, c2, c3] 24)).alloc (.cells #[d0, d1, d2, d3] 24)) u (w.heap.size + 1) 0 := by have := Lies_box (Is_alloc hJ (.cells #[c0, c1, c2, c3] 24)) 24; simpa using this
  go_enter Tryd.func69, Tryd.ntmps69
  go_wp2_with (go_at_call 83; refine (compare_any _ t u _ _ _ _ _ (Nat.le_refl _) ht hu h1 h2).mono ?_; rintro e w' ⟨rfl, hB⟩)
  go_ret
  exact ⟨rfl, (((Gr.refl w).alloc _).alloc _).trans hB⟩
set_option maxHeartbeats 1600000 in
set_option maxRecDepth 100000 in
theorem sort_terms {H g n cap : Nat} {S : Nat → Prop} {ps : List Tm} {vs : List Value} {w : World} (hown : w.ownsRow H 24 4 (.slice (some ⟨g, 0, none⟩) n cap) n vs) (hK : KC S w ps vs) (hS : ∀ b, S b → b < w.heap.size ∧ b ≠ g) (hHw : H ≤ w.heap.size) (hn : 0 < n) (hsz : ∀ t ∈ ps, size t ≤ 1073741824) (hlt : n < 1073741824) :
    Calls Tryd.prog 77 #[.slice (some ⟨g, 0, none⟩) n cap, .func (.func 69) #[] #[]] w (SortTPost H S w g n cap ps) := by
  obtain ⟨l, e1, e2⟩ := KC_TA ps vs hK hsz
  have hvl : vs.length = l.length * 4 := by rw [e2, flatQ_len encT 4 encT_len]
  have hnl : n = l.length := by have := hown.1; omega
  have hg := hown.lt g rfl
  obtain ⟨x0, hx0⟩ : ∃ x0, l[0]? = some x0 := ⟨_, List.getElem?_eq_getElem (by omega)⟩
  haveI : Inhabited (TA S w) := ⟨x0⟩
  have eg : ∀ args w, (callFunc 69 args).run Tryd.prog w = .ok (.enter 69 args) w := enters_of Tryd.func69 (by kernel_rfl) rfl
  have hO : SWO (ltOf fun x y : TA S w => cmpT x.t y.t) := by
    refine ⟨fun x => ?_, fun x y z a b => ?_, fun x y z a b => ?_⟩
    · simp [ltOf, cmpT_self]
    · simp only [ltOf, decide_eq_true_eq] at a b ⊢; exact cmpT_trans a b
    · simp only [ltOf, decide_eq_false_iff_not] at a b ⊢; exact cmpT_ntrans a b
  have hcmp : CmpLays Tryd.prog 69 #[] (encT (S := S) (w := w)) 4 (fun x y => cmpT x.t y.t) g 0 l.toArray.size w := by
    intro m os dk _ x y
    have hx := IsIn_Is _ _ _ _ _ (IsIn_carry (S' := S) (fun b hb => putRow_keepQ (q := m) (flatK encT 4 dk) os (hS b hb).1 (hS b hb).2) (fun _ h => h) _ _ _ _ _ x.hv)
    have hy := IsIn_Is _ _ _ _ _ (IsIn_carry (S' := S) (fun b hb => putRow_keepQ (q := m) (flatK encT 4 dk) os (hS b hb).1 (hS b hb).2) (fun _ h => h) _ _ _ _ _ y.hv)
    exact (cmp_grQ x.t y.t _ _ _ _ _ _ _ _ _ (by have := x.zv; omega) (by have := y.zv; omega) hx hy).mono fun e w' h => ⟨h.1, h.2.grow⟩
  have hH : HoldsK encT 4 w g 0 l.toArray := by
    intro j hj
    refine ⟨?_, hown.frozenAt _⟩
    simp only [size_flatK, List.size_toArray] at hj
    rw [Nat.zero_add, hown.cellAt j (by omega), e2, flatQ encT 4 encT_len (by omega) l j hj, get_flatK encT 4 l.toArray j (by simpa using hj)]
    simp
  have hcon := AnyQ.slices_SortFunc Tryd.sortTerms 4 Tryd.isAgg24 Tryd.sizeOf24 encT encT_len (fun x v hv => by simp [encT] at hv; rcases hv with rfl | rfl | rfl | rfl <;> rfl) (fun x y => cmpT x.t y.t) hO 69 #[] g 0 cap l.toArray w eg hcmp hH hg.2 (by simp; omega)
  rw [List.size_toArray, ← hnl] at hcon
  refine hcon.mono ?_
  rintro e w' ⟨rfl, d', m, os, hp, hs, rfl⟩
  obtain ⟨hp1, _, hp3⟩ := hp
  simp only [List.size_toArray] at hp1
  have hperm : d'.toList.Perm l := by
    have ea : d'.extract 0 n = d' := by rw [hnl, ← hp1]; simp
    have eb : l.toArray.extract 0 n = l.toArray := by rw [hnl]; simp
    rw [ea, eb] at hp3
    simpa using hp3
  have hk := putRow_below (w := w) (q := m) hg.1 (flatK encT 4 d') os hHw
  refine ⟨rfl, d'.toList.map TA.t, d'.toList.flatMap encT, ?_, TA_KC (fun b hb => putRow_keepQ (q := m) (flatK encT 4 d') os (hS b hb).1 (hS b hb).2) (fun _ h => h) d'.toList, ?_, ?_, hk, hk.size, fun b hb hne => putRow_keepQ (q := m) (flatK encT 4 d') os hb hne⟩
  · have hy : (d'.toList.flatMap encT).length = n * 4 := by rw [flatQ_len encT 4 encT_len]; simp [hp1, hnl]
    have := own_putRow (q := m) (os := os) hown hy
    rw [← flatQ_list encT 4 encT_len (by omega) d'] at this ⊢
    rw [Array.toArray_toList] at this
    exact this
  · rw [← e1]; exact hperm.map _
  · unfold AscQ
    rw [List.pairwise_map, List.pairwise_iff_getElem]
    intro i j hi hj hij
    have := hs i j (Nat.zero_le _) hij (by simpa [hp1, hnl] using hj)
    simp only [ltOf, decide_eq_false_iff_not] at this
    simp only [Array.length_toList] at hi hj
    rw [getElem!_pos d' i hi, getElem!_pos d' j hj] at this
    simpa using this
end Go.Proofs.YtfbomoginjknlaaDoor
