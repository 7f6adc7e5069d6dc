import Derived.Shelf.SlGeneric
import Derived.Shelf.SlLaysF0
import Derived.Shelf.SlSortCmp.NoneTotal
import Derived.Shelf.SlSortCmp.WholeK
import Derived.Test.YtbcpnepjojppaaaGreatDoorLawTheoryKeyxQadd
import Derived.Test.YtbcpnepjojppaaaGreatDoorLawTheoryKeyxSetof
namespace Go.Proofs
open Go.Shelf
def Tryz.sortTerms_ren : Go.Shelf.Ren := ⟨fun | 6 => 202 | 15 => 205 | 14 => 222 | 28 => 231 | 29 => 232 | 20 => 242 | 21 => 243 | 22 => 244 | 23 => 245 | 24 => 246 | 25 => 247 | 26 => 248 | 27 => 249 | 46 => 267 | 47 => 251 | 48 => 252 | 49 => 268 | 50 => 269 | 57 => 276 | n => n, fun | 22 => 22 | 24 => 24 | 25 => 70 | 3 => 3 | 39 => 174 | 0 => 0 | 53 => 208 | 55 => 210 | 4 => 4 | 46 => 202 | 45 => 201 | 50 => 154 | 5 => 5 | 9 => 9 | 66 => 227 | 70 => 231 | 76 => 243 | 77 => 244 | n => n, fun | n => n⟩
theorem Tryz.sortTerms : Go.Proofs.SlLaysF0.n6 Tryz.prog Tryz.sortTerms_ren := {
  mixed := by kernel_rfl
  f6 := ⟨Tryz.f202.name, by decide, Tryz.func202.trans (congrArg some (by kernel_rfl))⟩
  f14 := ⟨Tryz.f222.name, by decide, Tryz.func222.trans (congrArg some (by kernel_rfl))⟩
  f15 := Tryz.func205.trans (congrArg some (by kernel_rfl))
  f20 := ⟨Tryz.f242.name, by decide, Tryz.func242.trans (congrArg some (by kernel_rfl))⟩
  f21 := ⟨Tryz.f243.name, by decide, Tryz.func243.trans (congrArg some (by kernel_rfl))⟩
  f22 := ⟨Tryz.f244.name, by decide, Tryz.func244.trans (congrArg some (by kernel_rfl))⟩
  f23 := ⟨Tryz.f245.name, by decide, Tryz.func245.trans (congrArg some (by kernel_rfl))⟩
  f24 := ⟨Tryz.f246.name, by decide, Tryz.func246.trans (congrArg some (by kernel_rfl))⟩
  f25 := ⟨Tryz.f247.name, by decide, Tryz.func247.trans (congrArg some (by kernel_rfl))⟩
  f26 := ⟨Tryz.f248.name, by decide, Tryz.func248.trans (congrArg some (by kernel_rfl))⟩
  f27 := ⟨Tryz.f249.name, by decide, Tryz.func249.trans (congrArg some (by kernel_rfl))⟩
  f28 := Tryz.func231.trans (congrArg some (by kernel_rfl))
  f29 := Tryz.func232.trans (congrArg some (by kernel_rfl))
  f46 := ⟨Tryz.f267.name, by decide, Tryz.func267.trans (congrArg some (by kernel_rfl))⟩
  f47 := Tryz.func251.trans (congrArg some (by kernel_rfl))
  f48 := Tryz.func252.trans (congrArg some (by kernel_rfl))
  f49 := ⟨Tryz.f268.name, by decide, Tryz.func268.trans (congrArg some (by kernel_rfl))⟩
  f50 := ⟨Tryz.f269.name, by decide, Tryz.func269.trans (congrArg some (by kernel_rfl))⟩
  f57 := ⟨Tryz.f276.name, by decide, Tryz.func276.trans (congrArg some (by kernel_rfl))⟩
  t0 := Tryz.underlying0
  a0 := Tryz.isAgg0
  z0 := Tryz.sizeOf0
  v0 := Tryz.zeroValue0
  t3 := Tryz.underlying3
  a3 := Tryz.isAgg3
  z3 := Tryz.sizeOf3
  v3 := Tryz.zeroValue3
  t4 := Tryz.underlying4
  a4 := Tryz.isAgg4
  z4 := Tryz.sizeOf4
  v4 := Tryz.zeroValue4
  t5 := Tryz.underlying5
  a5 := Tryz.isAgg5
  z5 := Tryz.sizeOf5
  v5 := Tryz.zeroValue5
  t9 := Tryz.underlying9
  a9 := Tryz.isAgg9
  z9 := Tryz.sizeOf9
  v9 := Tryz.zeroValue9
  t22 := Tryz.underlying22
  a22 := Tryz.isAgg22
  z22 := Tryz.sizeOf22
  v22 := Tryz.zeroValue22
  t25 := Tryz.underlying70
  a25 := Tryz.isAgg70
  z25 := Tryz.sizeOf70
  v25 := Tryz.zeroValue70
  t39 := Tryz.underlying174
  a39 := Tryz.isAgg174
  z39 := Tryz.sizeOf174
  v39 := Tryz.zeroValue174
  t45 := Tryz.underlying201
  a45 := Tryz.isAgg201
  z45 := Tryz.sizeOf201
  v45 := Tryz.zeroValue201
  t46 := Tryz.underlying202
  a46 := Tryz.isAgg202
  z46 := Tryz.sizeOf202
  v46 := Tryz.zeroValue202
  t50 := Tryz.underlying154
  a50 := Tryz.isAgg154
  z50 := Tryz.sizeOf154
  v50 := Tryz.zeroValue154
  t53 := Tryz.underlying208
  a53 := Tryz.isAgg208
  z53 := Tryz.sizeOf208
  v53 := Tryz.zeroValue208
  t55 := Tryz.underlying210
  a55 := Tryz.isAgg210
  z55 := Tryz.sizeOf210
  v55 := Tryz.zeroValue210
  t66 := Tryz.underlying227
  a66 := Tryz.isAgg227
  z66 := Tryz.sizeOf227
  v66 := Tryz.zeroValue227
  t70 := Tryz.underlying231
  a70 := Tryz.isAgg231
  z70 := Tryz.sizeOf231
  v70 := Tryz.zeroValue231
  t76 := Tryz.underlying243
  a76 := Tryz.isAgg243
  z76 := Tryz.sizeOf243
  v76 := Tryz.zeroValue243
  t77 := Tryz.underlying244
  a77 := Tryz.isAgg244
  z77 := Tryz.sizeOf244
  v77 := Tryz.zeroValue244 }
end Go.Proofs
namespace Go.Proofs.YtbcpnepjojppaaaGreatDoor
open Go.RowKit Go.Shelf Go.Lib Go.Sort
theorem flatQ {α : Type} [Inhabited α] (enc : α → List Value) (N : Nat) (hN : ∀ x, (enc x).length = N) (h0 : 0 < N) : ∀ (l : List α) (j : Nat), j < l.length * N → (l.flatMap enc)[j]? = some ((enc l[j / N]!)[j % N]!)
  | [], j, h => by simp at h
  | x :: l, j, h => by
    rw [List.flatMap_cons]
    by_cases hj : j < N
    · rw [List.getElem?_append_left (by rw [hN]; exact hj), Nat.div_eq_of_lt hj, Nat.mod_eq_of_lt hj]
      have hx : j < (enc x).length := by rw [hN]; exact hj
      rw [List.getElem?_eq_getElem hx]
      simp only [List.getElem!_cons_zero]
      rw [getElem!_pos (enc x) j hx]
    · have ih := flatQ enc N hN h0 l (j - N) (by simp only [List.length_cons, Nat.add_mul, Nat.one_mul] at h; omega)
      rw [List.getElem?_append_right (by rw [hN]; omega), hN, ih]
      have e1 : j / N = (j - N) / N + 1 := by
        conv => lhs; rw [show j = (j - N) + N by omega]
        rw [Nat.add_div_right _ h0]
      have e2 : j % N = (j - N) % N := by
        conv => lhs; rw [show j = (j - N) + N by omega]
        rw [Nat.add_mod_right]
      rw [e1, e2]
      simp
theorem flatQ_len {α : Type} (enc : α → List Value) (N : Nat) (hN : ∀ x, (enc x).length = N) : ∀ (l : List α), (l.flatMap enc).length = l.length * N
  | [] => by simp
  | x :: l => by simp only [List.flatMap_cons, List.length_append, hN, flatQ_len enc N hN l, List.length_cons, Nat.add_mul, Nat.one_mul]; omega
theorem flatQ_list {α : Type} [Inhabited α] (enc : α → List Value) (N : Nat) (hN : ∀ x, (enc x).length = N) (h0 : 0 < N) (d : Array α) : (flatK enc N d).toList = d.toList.flatMap enc := by
  apply List.ext_getElem?
  intro j
  by_cases hj : j < d.size * N
  · rw [flatQ enc N hN h0 d.toList j (by simpa using hj), Array.getElem?_toList, Array.getElem?_eq_getElem (by simpa using hj)]
    have := get_flatK enc N d j hj
    rw [getElem!_pos _ j (by simpa using hj)] at this
    rw [this]
    have hd : j / N < d.size := (Nat.div_lt_iff_lt_mul h0).2 hj
    have e : d.toList[j / N]! = d[j / N]! := by
      rw [getElem!_pos d.toList (j / N) (by simpa using hd), getElem!_pos d (j / N) hd]; simp
    rw [e]
  · rw [List.getElem?_eq_none (by simpa using hj), List.getElem?_eq_none (by rw [flatQ_len enc N hN]; simpa using hj)]
structure TA (S : Nat → Prop) (w : World) where
  t : Tm
  k : Int
  n : ByteArray
  s : Int
  xa : Option Addr
  l : Nat
  c : Nat
  hv : IsIn S w t (.int .i64 k) (.string n) (.int .i64 s) (.slice xa l c)
  zv : size t ≤ 1073741824
def encT {S : Nat → Prop} {w : World} (x : TA S w) : List Value := [.int .i64 x.k, .string x.n, .int .i64 x.s, .slice x.xa x.l x.c]
theorem encT_len {S : Nat → Prop} {w : World} (x : TA S w) : (encT x).length = 4 := rfl
theorem KC_TA {S : Nat → Prop} {w : World} : ∀ (ts : List Tm) (cs : List Value), KC S w ts cs → (∀ t ∈ ts, size t ≤ 1073741824) → ∃ l : List (TA S w), l.map TA.t = ts ∧ cs = l.flatMap encT
  | [], cs, h, _ => ⟨[], rfl, h⟩
  | t :: ts, cs, h, hz => by
    obtain ⟨c0, c1, c2, c3, r, rfl, hI, h1⟩ := h
    obtain ⟨k, n, s, xa, l, c, rfl, rfl, rfl, rfl⟩ := IsIn_form hI
    obtain ⟨m, e1, e2⟩ := KC_TA ts r h1 (fun x hx => hz x (List.mem_cons_of_mem _ hx))
    exact ⟨⟨t, k, n, s, xa, l, c, hI, hz t (List.mem_cons_self ..)⟩ :: m, by simp [e1], by simp [e2, encT]⟩
theorem TA_KC {S S' : Nat → Prop} {w w' : World} (hc : ∀ b, S b → w'.heap[b]? = w.heap[b]?) (hS : ∀ b, S b → S' b) : ∀ l : List (TA S w), KC S' w' (l.map TA.t) (l.flatMap encT)
  | [] => rfl
  | x :: l => ⟨_, _, _, _, _, rfl, IsIn_carry hc hS _ _ _ _ _ x.hv, TA_KC hc hS l⟩
theorem putRow_keepQ {w : World} {g q b : Nat} (ys : Array Value) (os : Array Obj) (hb : b < w.heap.size) (hne : b ≠ g) : (Sort.grow (putRow id (Sort.ahead w q) g 0 ys) os).heap[b]? = w.heap[b]? := by
  have hsz : (putRow id (Sort.ahead w q) g 0 ys).heap.size = w.heap.size := by simp [putRow, mapBlock, Sort.ahead]
  simp only [Sort.grow]
  rw [Array.getElem?_append_left (by rw [hsz]; omega)]
  simp only [putRow, mapBlock, Sort.ahead, Array.getElem?_modify]
  rw [if_neg (fun e => hne e.symm)]
def AscQ (ps : List Tm) : Prop := ps.Pairwise (fun a b => ¬ cmpT b a < 0)
def SortTPost (H : Nat) (S : Nat → Prop) (w : World) (g n cap : Nat) (ps : List Tm) (e : Ending) (w' : World) : Prop :=
  e = .returned (.tuple #[]) ∧ ∃ ps' vs', w'.ownsRow H 24 4 (.slice (some ⟨g, 0, none⟩) n cap) n vs' ∧ KC S w' ps' vs' ∧ ps'.Perm ps ∧ AscQ ps' ∧ Below H w w' ∧ w.heap.size ≤ w'.heap.size ∧ ∀ b, b < w.heap.size → b ≠ g → w'.heap[b]? = w.heap[b]?
theorem cmp_grQ (t u : Tm) (c0 c1 c2 c3 d0 d1 d2 d3 : Value) (w : World) (ht : size t ≤ 4611686018427387904) (hu : size u ≤ 4611686018427387904) (hI : Is w t c0 c1 c2 c3) (hJ : Is w u d0 d1 d2 d3) :
    Calls Tryz.prog 88 #[.agg #[c0, c1, c2, c3], .agg #[d0, d1, d2, d3]] w fun e w' => e = .returned (.int .i64 (cmpT t u)) ∧ Gr w w' := by
  have h1 : Lies ((w.alloc (.cells #[c0, c1, c2, c3] 24)).alloc (.cells #[d0, d1, d2, d3] 24)) t w.heap.size 0 := Lies_carry (keep_alloc _ _) (Lies_box hI 24)
  have h2 : Lies ((w.alloc (.cells #[c0, c1, c2, c3] 24)).alloc (.cells #[d0, d1, d2, d3] 24)) u (w.heap.size + 1) 0 := by have := Lies_box (Is_alloc hJ (.cells #[c0, c1, c2, c3] 24)) 24; simpa using this
  go_enter Tryz.func88, Tryz.ntmps88
  go_wp2_with (go_at_call 114; refine (compare_any _ t u _ _ _ _ _ (Nat.le_refl _) ht hu h1 h2).mono ?_; rintro e w' ⟨rfl, hB⟩)
  go_ret
  exact ⟨rfl, (((Gr.refl w).alloc _).alloc _).trans hB⟩
set_option maxHeartbeats 1600000 in
set_option maxRecDepth 100000 in
theorem sort_terms {H g n cap : Nat} {S : Nat → Prop} {ps : List Tm} {vs : List Value} {w : World} (hown : w.ownsRow H 24 4 (.slice (some ⟨g, 0, none⟩) n cap) n vs) (hK : KC S w ps vs) (hS : ∀ b, S b → b < w.heap.size ∧ b ≠ g) (hHw : H ≤ w.heap.size) (hn : 0 < n) (hsz : ∀ t ∈ ps, size t ≤ 1073741824) (hlt : n < 1073741824) :
    Calls Tryz.prog 202 #[.slice (some ⟨g, 0, none⟩) n cap, .func (.func 88) #[] #[]] w (SortTPost H S w g n cap ps) := by
  obtain ⟨l, e1, e2⟩ := KC_TA ps vs hK hsz
  have hvl : vs.length = l.length * 4 := by rw [e2, flatQ_len encT 4 encT_len]
  have hnl : n = l.length := by have := hown.1; omega
  have hg := hown.lt g rfl
  obtain ⟨x0, hx0⟩ : ∃ x0, l[0]? = some x0 := ⟨_, List.getElem?_eq_getElem (by omega)⟩
  haveI : Inhabited (TA S w) := ⟨x0⟩
  have eg : ∀ args w, (callFunc 88 args).run Tryz.prog w = .ok (.enter 88 args) w := enters_of Tryz.func88 (by kernel_rfl) rfl
  have hO : SWO (ltOf fun x y : TA S w => cmpT x.t y.t) := by
    refine ⟨fun x => ?_, fun x y z a b => ?_, fun x y z a b => ?_⟩
    · simp [ltOf, cmpT_self]
    · simp only [ltOf, decide_eq_true_eq] at a b ⊢; exact cmpT_trans a b
    · simp only [ltOf, decide_eq_false_iff_not] at a b ⊢; exact cmpT_ntrans a b
  have hcmp : CmpLays Tryz.prog 88 #[] (encT (S := S) (w := w)) 4 (fun x y => cmpT x.t y.t) g 0 l.toArray.size w := by
    intro m os dk _ x y
    have hx := IsIn_Is _ _ _ _ _ (IsIn_carry (S' := S) (fun b hb => putRow_keepQ (q := m) (flatK encT 4 dk) os (hS b hb).1 (hS b hb).2) (fun _ h => h) _ _ _ _ _ x.hv)
    have hy := IsIn_Is _ _ _ _ _ (IsIn_carry (S' := S) (fun b hb => putRow_keepQ (q := m) (flatK encT 4 dk) os (hS b hb).1 (hS b hb).2) (fun _ h => h) _ _ _ _ _ y.hv)
    exact (cmp_grQ x.t y.t _ _ _ _ _ _ _ _ _ (by have := x.zv; omega) (by have := y.zv; omega) hx hy).mono fun e w' h => ⟨h.1, h.2.grow⟩
  have hH : HoldsK encT 4 w g 0 l.toArray := by
    intro j hj
    refine ⟨?_, hown.frozenAt _⟩
    simp only [size_flatK, List.size_toArray] at hj
    rw [Nat.zero_add, hown.cellAt j (by omega), e2, flatQ encT 4 encT_len (by omega) l j hj, get_flatK encT 4 l.toArray j (by simpa using hj)]
    simp
  have hcon := AnyQ.slices_SortFunc Tryz.sortTerms 4 Tryz.isAgg24 Tryz.sizeOf24 encT encT_len (fun x v hv => by simp [encT] at hv; rcases hv with rfl | rfl | rfl | rfl <;> rfl) (fun x y => cmpT x.t y.t) hO 88 #[] g 0 cap l.toArray w eg hcmp hH hg.2 (by simp; omega)
  rw [List.size_toArray, ← hnl] at hcon
  refine hcon.mono ?_
  rintro e w' ⟨rfl, d', m, os, hp, hs, rfl⟩
  obtain ⟨hp1, _, hp3⟩ := hp
  simp only [List.size_toArray] at hp1
  have hperm : d'.toList.Perm l := by
    have ea : d'.extract 0 n = d' := by rw [hnl, ← hp1]; simp
    have eb : l.toArray.extract 0 n = l.toArray := by rw [hnl]; simp
    rw [ea, eb] at hp3
    simpa using hp3
  have hk := putRow_below (w := w) (q := m) hg.1 (flatK encT 4 d') os hHw
  refine ⟨rfl, d'.toList.map TA.t, d'.toList.flatMap encT, ?_, TA_KC (fun b hb => putRow_keepQ (q := m) (flatK encT 4 d') os (hS b hb).1 (hS b hb).2) (fun _ h => h) d'.toList, ?_, ?_, hk, hk.size, fun b hb hne => putRow_keepQ (q := m) (flatK encT 4 d') os hb hne⟩
  · have hy : (d'.toList.flatMap encT).length = n * 4 := by rw [flatQ_len encT 4 encT_len]; simp [hp1, hnl]
    have := own_putRow (q := m) (os := os) hown hy
    rw [← flatQ_list encT 4 encT_len (by omega) d'] at this ⊢
    rw [Array.toArray_toList] at this
    exact this
  · rw [← e1]; exact hperm.map _
  · unfold AscQ
    rw [List.pairwise_map, List.pairwise_iff_getElem]
    intro i j hi hj hij
    have := hs i j (Nat.zero_le _) hij (by simpa [hp1, hnl] using hj)
    simp only [ltOf, decide_eq_false_iff_not] at this
    simp only [Array.length_toList] at hi hj
    rw [getElem!_pos d' i hi, getElem!_pos d' j hj] at this
    simpa using this
end Go.Proofs.YtbcpnepjojppaaaGreatDoor
