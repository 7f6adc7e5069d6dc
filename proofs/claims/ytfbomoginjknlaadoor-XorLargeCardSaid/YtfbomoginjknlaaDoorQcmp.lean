/-
  slices.CompactFunc AT A ROW OF TERMS (made by gen_qcmp.py from XPuniq): of a sorted row each term once.
-/
import Derived.Test.YtfbomoginjknlaaDoorQgf
import Derived.Test.YtfbomoginjknlaaDoorComp
import Derived.Lib.SliceRun
import Derived.IntWalk
import Derived.Shelf.Spec.SlicesGrow
import Derived.Test.YtfbomoginjknlaaDoorPos
namespace Go.Proofs.YtfbomoginjknlaaDoor
open Go.RowKit Go.Lib

def uniqT : List Tm → List Tm
  | [] => []
  | [p] => [p]
  | p :: q :: l => if cmpT q p = 0 then uniqT (p :: l) else p :: uniqT (q :: l)
termination_by l => l.length
theorem uniqT_mem : ∀ (n : Nat) (l : List Tm), l.length ≤ n → ∀ t, t ∈ uniqT l ↔ t ∈ l
  | _, [], _, t => by rw [uniqT]
  | _, [p], _, t => by rw [uniqT]
  | 0, p :: q :: l, h, _ => by simp at h
  | n + 1, p :: q :: l, h, t => by
    rw [uniqT]
    by_cases hc : cmpT q p = 0
    · rw [if_pos hc, uniqT_mem n (p :: l) (by simp at h ⊢; omega)]
      have e := cmpT_zero _ _ hc
      subst e
      simp
    · rw [if_neg hc, List.mem_cons, uniqT_mem n (q :: l) (by simp at h ⊢; omega)]
      simp
theorem uniqT_asc : ∀ (n : Nat) (l : List Tm), l.length ≤ n → AscQ l → AscT (uniqT l)
  | _, [], _, _ => by rw [uniqT]; exact List.Pairwise.nil
  | _, [p], _, _ => by rw [uniqT]; exact List.pairwise_singleton _ _
  | 0, p :: q :: l, h, _ => by simp at h
  | n + 1, p :: q :: l, h, hs => by
    have hs' : AscQ (q :: l) := (List.pairwise_cons.1 hs).2
    have hp := (List.pairwise_cons.1 hs).1
    rw [uniqT]
    by_cases hc : cmpT q p = 0
    · rw [if_pos hc]
      exact uniqT_asc n (p :: l) (by simp at h ⊢; omega) (List.pairwise_cons.2 ⟨fun x hx => hp x (by simp [hx]), (List.pairwise_cons.1 hs').2⟩)
    · rw [if_neg hc]
      have hlt : cmpT p q < 0 := by
        have h1 := hp q (by simp)
        have h2 := cmpT_anti q p
        omega
      refine List.pairwise_cons.2 ⟨fun x hx => ?_, uniqT_asc n (q :: l) (by simp at h ⊢; omega) hs'⟩
      have hx' := (uniqT_mem _ (q :: l) (Nat.le_refl _) x).1 hx
      rcases List.mem_cons.1 hx' with rfl | hx'
      · exact hlt
      · have h3 := (List.pairwise_cons.1 hs').1 x hx'
        have h4 : ¬ cmpT p x = 0 := fun e => by
          have e2 := cmpT_zero _ _ e
          rw [← e2] at h3
          exact h3 hlt
        have h5 := hp x (by simp [hx'])
        have h6 := cmpT_anti x p
        omega
theorem uniqT_len : ∀ (n : Nat) (l : List Tm), l.length ≤ n → (uniqT l).length ≤ l.length
  | _, [], _ => by rw [uniqT]; exact Nat.le_refl _
  | _, [p], _ => by rw [uniqT]; exact Nat.le_refl _
  | 0, p :: q :: l, h => by simp at h
  | n + 1, p :: q :: l, h => by
    rw [uniqT]
    split
    · have := uniqT_len n (p :: l) (by simp at h ⊢; omega)
      simp at this ⊢; omega
    · have := uniqT_len n (q :: l) (by simp at h ⊢; omega)
      simp at this ⊢; omega

section
variable {S : Nat → Prop} {w : World}
/-- Consecutive equals but once, p being the one ahead. -/
def cptT (p : TA S w) : List (TA S w) → List (TA S w)
  | [] => []
  | x :: xs => if cmpT x.t p.t = 0 then cptT x xs else x :: cptT x xs
def compU : List (TA S w) → List (TA S w)
  | [] => []
  | x :: xs => x :: cptT x xs
theorem cptT_key {x y : TA S w} (h : x.t = y.t) (l : List (TA S w)) : cptT x l = cptT y l := by
  cases l with
  | nil => rfl
  | cons z l => rw [cptT, cptT, h]
theorem cptT_uniq : ∀ (l : List (TA S w)) (p : TA S w), uniqT (p.t :: l.map TA.t) = p.t :: (cptT p l).map TA.t
  | [], p => by rw [List.map_nil, uniqT]; rfl
  | x :: l, p => by
    rw [List.map_cons, uniqT, cptT]
    by_cases h : cmpT x.t p.t = 0
    · rw [if_pos h, if_pos h, cptT_uniq l p, cptT_key (cmpT_zero _ _ h) l]
    · rw [if_neg h, if_neg h, cptT_uniq l x]; rfl
theorem compU_uniq (l : List (TA S w)) : (compU l).map TA.t = uniqT (l.map TA.t) := by
  cases l with
  | nil => rw [List.map_nil, uniqT]; rfl
  | cons x l => rw [List.map_cons, cptT_uniq]; rfl

/-- The first loop: no equals so far. -/
structure CHU (L : List (TA S w)) (k : Nat) : Prop where
  lt : k < L.length
  eq : ∀ h : k < L.length, compU L = L.take (k + 1) ++ cptT L[k] (L.drop (k + 1))
theorem CHU.start {L : List (TA S w)} (h : 0 < L.length) : CHU L 0 := ⟨h, fun _ => by
  cases L with
  | nil => simp at h
  | cons x xs => simp [compU]⟩
theorem CHU.step {L : List (TA S w)} {k : Nat} (h : CHU L k) (hk : k + 1 < L.length) (hne : ¬ cmpT L[k + 1].t (L[k]'h.lt).t = 0) : CHU L (k + 1) := ⟨hk, fun _ => by
  have := h.eq h.lt
  rw [List.drop_eq_getElem_cons hk, cptT, if_neg hne] at this
  rw [this, List.take_succ_eq_append_getElem hk, List.append_assoc]; rfl⟩
theorem CHU.done {L : List (TA S w)} {k : Nat} (h : CHU L k) (hk : L.length = k + 1) : compU L = L := by
  have := h.eq h.lt
  rw [List.drop_of_length_le (by omega), cptT, List.take_of_length_le (by omega), List.append_nil] at this
  exact this
/-- The second loop: kk places are laid, the place ahead is p. -/
structure CIU (L cur : List (TA S w)) (p kk : Nat) : Prop where
  len : cur.length = L.length
  lt : kk ≤ p
  plt : p < L.length
  high : ∀ i, p ≤ i → cur[i]? = L[i]?
  eq : ∀ h : p < L.length, compU L = cur.take kk ++ cptT L[p] (L.drop (p + 1))
theorem CIU.start {L : List (TA S w)} {k : Nat} (h : CHU L k) (hk : k + 1 < L.length) (he : cmpT L[k + 1].t (L[k]'h.lt).t = 0) : CIU L L (k + 1) (k + 1) := ⟨rfl, Nat.le_refl _, hk, fun _ _ => rfl, fun _ => by
  have := h.eq h.lt
  rw [List.drop_eq_getElem_cons hk, cptT, if_pos he] at this
  exact this⟩
theorem CIU.skip {L cur : List (TA S w)} {p kk : Nat} (h : CIU L cur p kk) (hp : p + 1 < L.length) (he : cmpT L[p + 1].t (L[p]'h.plt).t = 0) : CIU L cur (p + 1) kk := ⟨h.len, Nat.le_succ_of_le h.lt, hp, fun i hi => h.high i (by omega), fun _ => by
  have := h.eq h.plt
  rw [List.drop_eq_getElem_cons hp, cptT, if_pos he] at this
  exact this⟩
theorem CIU.keep {L cur : List (TA S w)} {p kk : Nat} (h : CIU L cur p kk) (hp : p + 1 < L.length) (he : ¬ cmpT L[p + 1].t (L[p]'h.plt).t = 0) : CIU L (cur.set kk L[p + 1]) (p + 1) (kk + 1) := by
  have hl := h.lt
  have hc := h.len
  refine ⟨by rw [List.length_set]; exact h.len, by omega, hp, fun i hi => ?_, fun _ => ?_⟩
  · rw [List.getElem?_set_ne (by omega)]; exact h.high i (by omega)
  · have := h.eq h.plt
    rw [List.drop_eq_getElem_cons hp, cptT, if_neg he] at this
    rw [this, List.take_succ_eq_append_getElem (by rw [List.length_set]; omega), List.getElem_set_self, List.take_set_of_le (Nat.le_refl _), List.append_assoc]; rfl
theorem CIU.done {L cur : List (TA S w)} {p kk : Nat} (h : CIU L cur p kk) (hp : L.length = p + 1) : compU L = cur.take kk ∧ kk ≤ p := by
  have := h.eq h.plt
  rw [List.drop_of_length_le (by omega), cptT, List.append_nil] at this
  exact ⟨this, h.lt⟩

def CompactU (base g cap : Nat) (L : List (TA S w)) (e : Ending) (w' : World) : Prop :=
  e = .returned (.slice (some ⟨g, 0, none⟩) (compU L).length cap) ∧ w'.ownsRow base 24 4 (.slice (some ⟨g, 0, none⟩) (compU L).length cap) (compU L).length ((compU L).flatMap encT) ∧ Below base w w' ∧ w.heap.size ≤ w'.heap.size

def FourAt (W : World) (g o : Nat) (x : TA S w) : Prop := (W.cell? ⟨g, o, none⟩ = some (.int .i64 x.k) ∧ W.cell? ⟨g, o + 1, none⟩ = some (.string x.n) ∧ W.cell? ⟨g, o + 2, none⟩ = some (.int .i64 x.s) ∧ W.cell? ⟨g, o + 3, none⟩ = some (.slice x.xa x.l x.c))
/-- The four cells of a term of the row. -/
theorem ta_cells {base g n cap : Nat} {L : List (TA S w)} {wr : World} (h : wr.ownsRow base 24 4 (.slice (some ⟨g, 0, none⟩) n cap) n (L.flatMap encT)) (j : Nat) (hj : j < L.length) : FourAt wr g (j * 4) L[j] := by
  have hl := h.1
  rw [flatQ_len encT 4 encT_len] at hl
  haveI : Inhabited (TA S w) := ⟨L[j]⟩
  have e : L[j]! = L[j] := getElem!_pos L j hj
  have hq : ∀ i, i < 4 → wr.cell? ⟨g, j * 4 + i, none⟩ = (encT L[j])[i]? := fun i hi => by
    rw [h.cellAt _ (by omega), flatQ encT 4 encT_len (by omega) L (j * 4 + i) (by omega), show (j * 4 + i) / 4 = j by omega, show (j * 4 + i) % 4 = i by omega, e]
    have : i < (encT L[j]).length := by rw [encT_len]; exact hi
    rw [getElem!_pos _ i this, List.getElem?_eq_getElem this]
  exact ⟨hq 0 (by omega), hq 1 (by omega), hq 2 (by omega), hq 3 (by omega)⟩
theorem TA.isAt (x : TA S w) {base : Nat} {W : World} (hS : ∀ b, S b → b < base) (h : Below base w W) : Is W x.t (.int .i64 x.k) (.string x.n) (.int .i64 x.s) (.slice x.xa x.l x.c) :=
  IsIn_Is _ _ _ _ _ (IsIn_carry (S' := S) (fun b hb => h.block b (hS b hb)) (fun _ h => h) _ _ _ _ _ x.hv)
theorem ta_high {base g n cap : Nat} {L cur : List (TA S w)} {p kk : Nat} {wr : World} (hI : CIU L cur p kk) (h : wr.ownsRow base 24 4 (.slice (some ⟨g, 0, none⟩) n cap) n (cur.flatMap encT)) (i : Nat) (hp : p ≤ i) (hi : i < L.length) : FourAt wr g (i * 4) L[i] := by
  have hc : i < cur.length := by rw [hI.len]; exact hi
  have e : cur[i] = L[i] := by
    have := hI.high i hp
    rw [List.getElem?_eq_getElem hc, List.getElem?_eq_getElem hi] at this
    exact Option.some.inj this
  have := ta_cells h i hc
  rw [e] at this; exact this
theorem set_fourQ (x0 x1 x2 x3 v : Value) (r : List Value) (j : Nat) : (x0 :: x1 :: x2 :: x3 :: r).set (j + 4) v = x0 :: x1 :: x2 :: x3 :: r.set j v := rfl
theorem own_ta {base g n cap : Nat} {cur : List (TA S w)} {wr : World} {kk : Nat} (h : wr.ownsRow base 24 4 (.slice (some ⟨g, 0, none⟩) n cap) n (cur.flatMap encT)) (hk : kk < cur.length) (u : TA S w) :
    (put4 wr g (kk * 4) (.int .i64 u.k) (.string u.n) (.int .i64 u.s) (.slice u.xa u.l u.c)).ownsRow base 24 4 (.slice (some ⟨g, 0, none⟩) n cap) n ((cur.set kk u).flatMap encT) := by
  have h1 := (((((h.stored (kk * 4) (.int .i64 u.k)).1).stored (kk * 4 + 1) (.string u.n)).1).stored (kk * 4 + 2) (.int .i64 u.s)).1.stored (kk * 4 + 3) (.slice u.xa u.l u.c) |>.1
  have e : ∀ (l : List (TA S w)) (i : Nat), i < l.length → ((((l.flatMap encT).set (i * 4) (.int .i64 u.k)).set (i * 4 + 1) (.string u.n)).set (i * 4 + 2) (.int .i64 u.s)).set (i * 4 + 3) (.slice u.xa u.l u.c) = (l.set i u).flatMap encT := by
    intro l
    induction l with
    | nil => intro i h; simp at h
    | cons x l ih =>
      intro i h
      cases i with
      | zero => simp [encT]
      | succ i =>
        have := ih i (by simpa using h)
        simp only [List.flatMap_cons, List.set_cons_succ, ← this]
        simp only [encT, List.cons_append, List.nil_append, show (i + 1) * 4 = i * 4 + 4 by omega, show i * 4 + 4 + 1 = i * 4 + 1 + 4 by omega, show i * 4 + 4 + 2 = i * 4 + 2 + 4 by omega, show i * 4 + 4 + 3 = i * 4 + 3 + 4 by omega, set_fourQ]
  rw [e cur kk hk] at h1
  exact h1
theorem flat_takeU : ∀ (l : List (TA S w)) (i : Nat), (l.flatMap encT).take (i * 4) = (l.take i).flatMap encT
  | [], i => by simp
  | x :: l, 0 => by simp
  | x :: l, i + 1 => by
    have := flat_takeU l i
    simp only [List.flatMap_cons, List.take_succ_cons, ← this]
    simp only [encT, List.cons_append, List.nil_append, show (i + 1) * 4 = i * 4 + 1 + 1 + 1 + 1 by omega, List.take_succ_cons]
def zeroTs (n : Nat) : List Value := (Builtin.zeroCells (Value.agg #[.int .i64 0, .string ⟨#[]⟩, .int .i64 0, .slice none 0 0]).cells n).toList
theorem zeroTs_length (n : Nat) : (zeroTs n).length = n * 4 := by simp [zeroTs, Builtin.zeroCells, Value.cells]
theorem zeroTs_one (n : Nat) : ∀ v ∈ zeroTs n, v.oneCell' = true := by
  intro v hv
  simp only [zeroTs, Builtin.zeroCells, Value.cells, Array.toList_map, List.mem_map] at hv
  obtain ⟨i, _, rfl⟩ := hv
  have : i % 4 = 0 ∨ i % 4 = 1 ∨ i % 4 = 2 ∨ i % 4 = 3 := by omega
  rcases this with h | h | h | h <;> (simp only [List.size_toArray, List.length_cons, List.length_nil]; rw [h]; rfl)
theorem clear_termsQ {base g n cap kk : Nat} {xs : List Value} {wr : World} (h : wr.ownsRow base 24 4 (.slice (some ⟨g, 0, none⟩) n cap) n xs) (hk : kk < n) (ty : TypeId) :
    (Builtin.clear_ #[22] ty #[.slice (some ⟨g, kk * 4, none⟩) (n - kk) (cap - kk)]).run Tryd.prog wr = .ok (.tuple #[]) (wr.setCells g (kk * 4) (zeroTs (n - kk))) := by
  have hl := h.1
  refine run_clear_row wr 22 24 ty (.agg #[.int .i64 0, .string ⟨#[]⟩, .int .i64 0, .slice none 0 0]) _ Tryd.underlying22 Tryd.zeroValue24 g (kk * 4) (n - kk) (cap - kk) (by omega) rfl (fun j hj => ?_) (fun j hj => h.frozenAt _) (zeroTs_one _)
  rw [zeroTs_length] at hj
  rw [h.cellAt _ (by omega), List.getElem?_eq_getElem (by omega)]; rfl
theorem compactU_end {base g cap kk p : Nat} {L cur : List (TA S w)} {wr : World} (hI : CIU L cur p kk) (h : wr.ownsRow base 24 4 (.slice (some ⟨g, 0, none⟩) L.length cap) L.length (cur.flatMap encT)) (hB : Below base w wr) (hs : w.heap.size ≤ wr.heap.size) (hp : L.length = p + 1) :
    CompactU base g cap L (.returned (.slice (some ⟨g, 0, none⟩) kk cap)) (wr.setCells g (kk * 4) (zeroTs (L.length - kk))) := by
  obtain ⟨e, hkp⟩ := hI.done hp
  have hlen : (compU L).length = kk := by rw [e, List.length_take, hI.len]; omega
  obtain ⟨ys, h1, h2, h3⟩ := own_setCells (zeroTs (L.length - kk)) (kk * 4) _ _ h
  rw [flat_takeU, ← e] at h2
  have hn : L.length = kk + (L.length - kk) := by omega
  have hy : ys = (compU L).flatMap encT ++ ys.drop (kk * 4) := by rw [← h2, List.take_append_drop]
  rw [hy] at h1
  unfold CompactU
  rw [hlen]
  refine ⟨rfl, ?_, hB.trans h3, Nat.le_trans hs h3.size⟩
  refine own_shorter (m := L.length - kk) (ys := ys.drop (kk * 4)) ?_ (by rw [flatQ_len encT 4 encT_len, hlen])
  rw [← hn]; exact h1
theorem FourAt.ext {W V : World} {g o : Nat} {x : TA S w} (h : FourAt W g o x) (y : Ext W V) : FourAt V g o x :=
  ⟨keep_below y _ _ h.1, keep_below y _ _ h.2.1, keep_below y _ _ h.2.2.1, keep_below y _ _ h.2.2.2⟩
theorem ta_room {base g n cap : Nat} {L : List (TA S w)} {wr : World} (h : wr.ownsRow base 24 4 (.slice (some ⟨g, 0, none⟩) n cap) n (L.flatMap encT)) (j : Nat) (hj : j < L.length) :
    (∃ z0 z1 z2 z3, wr.cell? ⟨g, j * 4, none⟩ = some z0 ∧ wr.cell? ⟨g, j * 4 + 1, none⟩ = some z1 ∧ wr.cell? ⟨g, j * 4 + 2, none⟩ = some z2 ∧ wr.cell? ⟨g, j * 4 + 3, none⟩ = some z3) ∧ ∀ i, wr.frozen? ⟨g, i, none⟩ = false :=
  ⟨⟨_, _, _, _, (ta_cells h j hj).1, (ta_cells h j hj).2.1, (ta_cells h j hj).2.2.1, (ta_cells h j hj).2.2.2⟩, fun i => h.frozenAt i⟩
end
end Go.Proofs.YtfbomoginjknlaaDoor

/-
  THE WALK OF slices.CompactFunc AT A ROW OF TERMS.
-/
namespace Go.Proofs.YtfbomoginjknlaaDoor
open Go.RowKit Go.Lib
section
variable {S : Nat → Prop} {w : World}
set_option maxHeartbeats 6400000 in
set_option maxRecDepth 100000 in
theorem compact_ta {base g cap : Nat} (L : List (TA S w)) (hS : ∀ b, S b → b < base) (hown : w.ownsRow base 24 4 (.slice (some ⟨g, 0, none⟩) L.length cap) L.length (L.flatMap encT)) (hbw : base ≤ w.heap.size) (hlt : L.length ≤ 1152921504606846976) (hpos : 0 < L.length) :
    Calls Tryd.prog 80 #[.slice (some ⟨g, 0, none⟩) L.length cap, .func (.func 45) #[] #[]] w (CompactU base g cap L) := by
  by_cases h2 : L.length < 2
  · have HP : Hid (CompactU base g cap L (.returned (.slice (some ⟨g, 0, none⟩) L.length cap)) w) := by
      have e : compU L = L := (CHU.start hpos).done (by omega)
      show CompactU _ _ _ _ _ _
      unfold CompactU
      rw [e]
      exact ⟨rfl, hown, Below.refl _ _, Nat.le_refl _⟩
    clear hown
    go_enter Tryd.func80, Tryd.ntmps80
    go_wp2_with fail
    go_ret
    exact HP.out
  have hcap : L.length ≤ cap := own_cap hown
  have HO := Lib.hid hown
  have HSS := Lib.hid hS
  have HS := Lib.hid (CHU.start hpos)
  clear hown hS
  go_enter Tryd.func80, Tryd.ntmps80
  go_wp2_with fail
  go_loopw [5] (fun s5 wr => ∃ k : Nat, s5 = .int .i64 ((k + 1 : Nat) : Int) ∧ CHU L k ∧ wr.ownsRow base 24 4 (.slice (some ⟨g, 0, none⟩) L.length cap) L.length (L.flatMap encT) ∧ Ext w wr) (fun s5 _ => L.length - (intOf s5).toNat)
  case atStart => exact ⟨0, rfl, HS.out, HO.out, Ext.refl _⟩
  case round =>
    obtain ⟨k, rfl, hC, hO, hB⟩ := hrel
    have hkl := hC.lt
    by_cases hlast : k + 1 < L.length
    rotate_left
    · have HP : Hid (CompactU base g cap L (.returned (.slice (some ⟨g, 0, none⟩) L.length cap)) wr) := by
        have e : compU L = L := hC.done (by omega)
        show CompactU _ _ _ _ _ _
        unfold CompactU
        rw [e]
        exact ⟨rfl, hO, hB.mono hbw, hB.size⟩
      clear hC hO
      go_wp2_with fail
      go_ret
      exact HP.out
    have HX := Lib.hid (And.intro hC (And.intro hO hB))
    have X1 := ta_cells hO (k + 1) hlast
    have Y1 := ta_cells hO k hkl
    have HCr0 := Lib.hid (fun W (y : Ext wr W) => And.intro (X1.ext y) (Y1.ext y))
    have HCM0 := Lib.hid (fun W (y : Ext wr W) => xequal_any L[k + 1].t L[k].t _ _ _ _ _ _ _ _ W (Nat.le_trans L[k + 1].zv (by decide)) (Nat.le_trans L[k].zv (by decide)) (L[k + 1].isAt HSS.out ((hB.trans y).mono hbw)) (L[k].isAt HSS.out ((hB.trans y).mono hbw)))
    clear hC hO hB X1 Y1
    generalize hx : L[k + 1] = x at HCr0 HCM0
    generalize hy : L[k] = y at HCr0 HCM0
    have HE := Lib.hid (And.intro hx hy)
    have HCr : Hid (∀ W, Ext wr W → ((W.cell? ⟨g, (k + 1) * 4, none⟩ = some (.int .i64 x.k) ∧ W.cell? ⟨g, (k + 1) * 4 + 1, none⟩ = some (.string x.n) ∧ W.cell? ⟨g, (k + 1) * 4 + 2, none⟩ = some (.int .i64 x.s) ∧ W.cell? ⟨g, (k + 1) * 4 + 3, none⟩ = some (.slice x.xa x.l x.c))) ∧ ((W.cell? ⟨g, k * 4, none⟩ = some (.int .i64 y.k) ∧ W.cell? ⟨g, k * 4 + 1, none⟩ = some (.string y.n) ∧ W.cell? ⟨g, k * 4 + 2, none⟩ = some (.int .i64 y.s) ∧ W.cell? ⟨g, k * 4 + 3, none⟩ = some (.slice y.xa y.l y.c)))) := HCr0.out
    have hw1 : IntKind.i64.wrap ((k : Int) + 1 - 1) = (k : Int) := by rw [Int.add_sub_cancel]; exact IntWalk.i64_in _ (by omega)
    have hw2 : IntKind.i64.wrap (k : Int) = (k : Int) := IntWalk.i64_in _ (by omega)
    have i1 : (0 : Int) ≤ (k : Int) + 1 := by omega
    have i2 : (k : Int) + 1 < (L.length : Int) := by omega
    have i3 : (0 : Int) ≤ (k : Int) := by omega
    have i4 : (k : Int) < (L.length : Int) := by omega
    have i5 : ((k : Int) + 1).toNat = k + 1 := by omega
    have hF0 : Ext wr wr.drew := (Ext.refl wr).drew
    obtain ⟨⟨x0, x1, x2, x3⟩, y0, y1, y2, y3⟩ := HCr.out wr (Ext.refl _)
    clear hx hy HCr0
    by_cases he : cmpT x.t y.t = 0
    · have hd : (cmpT x.t y.t == 0) = true := by simp [he]
      have HDE := Lib.hid he
      rw [hd] at HCM0
      clear he hd
      go_wp2_with fail
      go_region_held3 (fun W => ((W.cell? ⟨g, (k + 1) * 4, none⟩ = some (.int .i64 x.k) ∧ W.cell? ⟨g, (k + 1) * 4 + 1, none⟩ = some (.string x.n) ∧ W.cell? ⟨g, (k + 1) * 4 + 2, none⟩ = some (.int .i64 x.s) ∧ W.cell? ⟨g, (k + 1) * 4 + 3, none⟩ = some (.slice x.xa x.l x.c))) ∧ ((W.cell? ⟨g, k * 4, none⟩ = some (.int .i64 y.k) ∧ W.cell? ⟨g, k * 4 + 1, none⟩ = some (.string y.n) ∧ W.cell? ⟨g, k * 4 + 2, none⟩ = some (.int .i64 y.s) ∧ W.cell? ⟨g, k * 4 + 3, none⟩ = some (.slice y.xa y.l y.c))))
        (first | exact HCr.out _ (by assumption) | go_keep)
        (first | (go_at_call 45; refine (HCM0.out _ hF0).mono ?_; rintro e w4 ⟨he4, hG⟩; subst he4; have hF1 : Ext wr w4 := hF0.trans hG.below; clear hG))
      clear x0 x1 x2 x3 y0 y1 y2 y3
      have j1 : (k : Int) + 1 ≤ (L.length : Int) := by omega
      have j2 : (L.length : Int) ≤ (cap : Int) := by omega
      have HY := Lib.hid hF1
      clear hF1 hF0
      go_wp2_with fail
      go_loopw [5, 7] (fun s5 s7 wr' => ∃ (kk q : Nat) (cur : List (TA S w)), s5 = .int .i64 (kk : Int) ∧ s7 = .int .i64 ((q + 1 : Nat) : Int) ∧ CIU L cur (k + 1 + q) kk ∧ wr'.ownsRow base 24 4 (.slice (some ⟨g, 0, none⟩) L.length cap) L.length (cur.flatMap encT) ∧ Below base w wr' ∧ w.heap.size ≤ wr'.heap.size) (fun _ s7 _ => L.length - (intOf s7).toNat)
      case atStart =>
        refine ⟨k + 1, 0, L, by go_num, rfl, CIU.start HX.out.1 hlast (by rw [HE.out.1, HE.out.2]; exact HDE.out), ?_, (HX.out.2.2.trans HY.out).mono hbw, (HX.out.2.2.trans HY.out).size⟩
        exact own_heap HX.out.2.1 (fun q hq => HY.out.block q (HX.out.2.1.lt q hq).2)
      case round =>
        obtain ⟨kk, q, cur, rfl, rfl, hI, hO2, hB3, hsz3⟩ := hrel
        have hcl := hI.len
        have hkp := hI.lt
        have hpl := hI.plt
        have HX2 := Lib.hid (And.intro hI (And.intro hO2 (And.intro hB3 hsz3)))
        have hg := hO2.lt g rfl
        by_cases hlt2 : k + 1 + q + 1 < L.length
        · have n1 := ta_high hI hO2 (k + 1 + q + 1) (by omega) hlt2
          have n2 := ta_high hI hO2 (k + 1 + q) (Nat.le_refl _) hpl
          rw [show (k + 1 + q + 1) * 4 = (k + 1) * 4 + (q + 1) * 4 by omega] at n1
          rw [show (k + 1 + q) * 4 = (k + 1) * 4 + q * 4 by omega] at n2
          have HCs0 := Lib.hid (fun W (y : Ext wr W) => And.intro (n1.ext y) (n2.ext y))
          have HCM := Lib.hid (fun W (y : Ext wr W) => xequal_any L[k + 1 + q + 1].t L[k + 1 + q].t _ _ _ _ _ _ _ _ W (Nat.le_trans L[k + 1 + q + 1].zv (by decide)) (Nat.le_trans L[k + 1 + q].zv (by decide)) (L[k + 1 + q + 1].isAt HSS.out (hB3.trans (y.mono (Nat.le_trans hbw hsz3)))) (L[k + 1 + q].isAt HSS.out (hB3.trans (y.mono (Nat.le_trans hbw hsz3)))))
          clear n1 n2
          generalize hu : L[k + 1 + q + 1] = u at HCs0 HCM
          generalize hv : L[k + 1 + q] = v at HCs0 HCM
          have HUV := Lib.hid (And.intro hu hv)
          have HCs : Hid (∀ W, Ext wr W → ((W.cell? ⟨g, (k + 1) * 4 + (q + 1) * 4, none⟩ = some (.int .i64 u.k) ∧ W.cell? ⟨g, (k + 1) * 4 + (q + 1) * 4 + 1, none⟩ = some (.string u.n) ∧ W.cell? ⟨g, (k + 1) * 4 + (q + 1) * 4 + 2, none⟩ = some (.int .i64 u.s) ∧ W.cell? ⟨g, (k + 1) * 4 + (q + 1) * 4 + 3, none⟩ = some (.slice u.xa u.l u.c))) ∧ ((W.cell? ⟨g, (k + 1) * 4 + q * 4, none⟩ = some (.int .i64 v.k) ∧ W.cell? ⟨g, (k + 1) * 4 + q * 4 + 1, none⟩ = some (.string v.n) ∧ W.cell? ⟨g, (k + 1) * 4 + q * 4 + 2, none⟩ = some (.int .i64 v.s) ∧ W.cell? ⟨g, (k + 1) * 4 + q * 4 + 3, none⟩ = some (.slice v.xa v.l v.c)))) := HCs0.out
          obtain ⟨⟨x0, x1, x2, x3⟩, y0, y1, y2, y3⟩ := HCs.out wr (Ext.refl _)
          have hF0 : Ext wr wr.drew := (Ext.refl wr).drew
          have hw3 : IntKind.i64.wrap ((q : Int) + 1 - 1) = (q : Int) := by rw [Int.add_sub_cancel]; exact IntWalk.i64_in _ (by omega)
          have hw4 : IntKind.i64.wrap (q : Int) = (q : Int) := IntWalk.i64_in _ (by omega)
          have m1 : (0 : Int) ≤ (q : Int) + 1 := by omega
          have m2 : (q : Int) + 1 < ((L.length - (k + 1) : Nat) : Int) := by omega
          have m3 : (0 : Int) ≤ (q : Int) := by omega
          have m4 : (q : Int) < ((L.length - (k + 1) : Nat) : Int) := by omega
          have m5 : ((q : Int) + 1).toNat = q + 1 := by omega
          have m6 : (0 : Int) ≤ (kk : Int) := by omega
          have m7 : (kk : Int) < (L.length : Int) := by omega
          clear hu hv hI hO2 hB3 HCs0
          by_cases huv : cmpT u.t v.t = 0
          · have hd : (cmpT u.t v.t == 0) = true := by simp [huv]
            have HDE2 := Lib.hid huv
            rw [hd] at HCM
            clear huv hd
            go_wp2_with fail
            go_region_held3 (fun W => ((W.cell? ⟨g, (k + 1) * 4 + (q + 1) * 4, none⟩ = some (.int .i64 u.k) ∧ W.cell? ⟨g, (k + 1) * 4 + (q + 1) * 4 + 1, none⟩ = some (.string u.n) ∧ W.cell? ⟨g, (k + 1) * 4 + (q + 1) * 4 + 2, none⟩ = some (.int .i64 u.s) ∧ W.cell? ⟨g, (k + 1) * 4 + (q + 1) * 4 + 3, none⟩ = some (.slice u.xa u.l u.c))) ∧ ((W.cell? ⟨g, (k + 1) * 4 + q * 4, none⟩ = some (.int .i64 v.k) ∧ W.cell? ⟨g, (k + 1) * 4 + q * 4 + 1, none⟩ = some (.string v.n) ∧ W.cell? ⟨g, (k + 1) * 4 + q * 4 + 2, none⟩ = some (.int .i64 v.s) ∧ W.cell? ⟨g, (k + 1) * 4 + q * 4 + 3, none⟩ = some (.slice v.xa v.l v.c))))
              (first | exact HCs.out _ (by assumption) | go_keep)
              (first | (go_at_call 45; refine (HCM.out _ hF0).mono ?_; rintro e w4 ⟨he4, hG⟩; subst he4; have hF1 : Ext wr w4 := hF0.trans hG.below; clear hG))
            have HB4 := Lib.hid hF1
            clear x0 x1 x2 x3 y0 y1 y2 y3 hF1 hF0
            go_wp2_with fail
            go_roundw
            case rel => exact ⟨kk, q + 1, cur, rfl, by go_num, HX2.out.1.skip hlt2 (by rw [HUV.out.1, HUV.out.2]; exact HDE2.out), own_heap HX2.out.2.1 (fun r hr => HB4.out.block r (HX2.out.2.1.lt r hr).2), HX2.out.2.2.1.trans (HB4.out.mono (Nat.le_trans hbw hsz3)), Nat.le_trans hsz3 HB4.out.size⟩
            case measure => simp [intOf]; omega
          · have hd : (cmpT u.t v.t == 0) = false := by simp [huv]
            have HDE2 := Lib.hid huv
            rw [hd] at HCM
            clear huv hd
            go_wp2_with fail
            go_region_held3 (fun W => ((W.cell? ⟨g, (k + 1) * 4 + (q + 1) * 4, none⟩ = some (.int .i64 u.k) ∧ W.cell? ⟨g, (k + 1) * 4 + (q + 1) * 4 + 1, none⟩ = some (.string u.n) ∧ W.cell? ⟨g, (k + 1) * 4 + (q + 1) * 4 + 2, none⟩ = some (.int .i64 u.s) ∧ W.cell? ⟨g, (k + 1) * 4 + (q + 1) * 4 + 3, none⟩ = some (.slice u.xa u.l u.c))) ∧ ((W.cell? ⟨g, (k + 1) * 4 + q * 4, none⟩ = some (.int .i64 v.k) ∧ W.cell? ⟨g, (k + 1) * 4 + q * 4 + 1, none⟩ = some (.string v.n) ∧ W.cell? ⟨g, (k + 1) * 4 + q * 4 + 2, none⟩ = some (.int .i64 v.s) ∧ W.cell? ⟨g, (k + 1) * 4 + q * 4 + 3, none⟩ = some (.slice v.xa v.l v.c))))
              (first | exact HCs.out _ (by assumption) | go_keep)
              (first | (go_at_call 45; refine (HCM.out _ hF0).mono ?_; rintro e w4 ⟨he4, hG⟩; subst he4; have hF1 : Ext wr w4 := hF0.trans hG.below; clear hG))
            have HB4 := Lib.hid hF1
            have HO4 := Lib.hid (own_heap (w' := w4) HX2.out.2.1 (fun r hr => HB4.out.block r (HX2.out.2.1.lt r hr).2))
            clear x0 x1 x2 x3 y0 y1 y2 y3
            obtain ⟨⟨x0, x1, x2, x3⟩, y0, y1, y2, y3⟩ := HCs.out w4 hF1
            obtain ⟨⟨z0, z1, z2, z3, d0, d1, d2, d3⟩, hz⟩ := ta_room HO4.out kk (by omega)
            have f0 := hz (kk * 4)
            have f1 := hz (kk * 4 + 1)
            have f2 := hz (kk * 4 + 2)
            have f3 := hz (kk * 4 + 3)
            clear y0 y1 y2 y3 hF1 hF0 hz
            go_wp2_with fail
            go_roundw
            case rel => exact ⟨kk + 1, q + 1, cur.set kk u, by go_num, by go_num, by have := HX2.out.1.keep hlt2 (by rw [HUV.out.1, HUV.out.2]; exact HDE2.out); rw [HUV.out.1] at this; exact this, own_ta HO4.out (by omega) u, put4_below (HX2.out.2.2.1.trans (HB4.out.mono (Nat.le_trans hbw hsz3))) hg.1, Nat.le_trans (Nat.le_trans hsz3 HB4.out.size) (Nat.le_of_eq (put4_size _ _ _ _ _ _ _).symm)⟩
            case measure => simp [intOf]; omega
        · have HE2 := Lib.hid (compactU_end hI hO2 hB3 hsz3 (by omega))
          have hclr := clear_termsQ hO2 (kk := kk) (by omega)
          have m2 : ¬ (q : Int) + 1 < ((L.length - (k + 1) : Nat) : Int) := by omega
          have m7 : (kk : Int) ≤ (L.length : Int) := by omega
          have m8 : (0 : Int) ≤ (kk : Int) := by omega
          have m9 : (kk : Int) ≤ (cap : Int) := by omega
          clear hI hO2 hB3 HX2
          go_wp2_with fail
          go_ret
          exact HE2.out
    · have hd : (cmpT x.t y.t == 0) = false := by simp [he]
      have HDE := Lib.hid he
      rw [hd] at HCM0
      clear he hd
      go_wp2_with fail
      go_region_held3 (fun W => ((W.cell? ⟨g, (k + 1) * 4, none⟩ = some (.int .i64 x.k) ∧ W.cell? ⟨g, (k + 1) * 4 + 1, none⟩ = some (.string x.n) ∧ W.cell? ⟨g, (k + 1) * 4 + 2, none⟩ = some (.int .i64 x.s) ∧ W.cell? ⟨g, (k + 1) * 4 + 3, none⟩ = some (.slice x.xa x.l x.c))) ∧ ((W.cell? ⟨g, k * 4, none⟩ = some (.int .i64 y.k) ∧ W.cell? ⟨g, k * 4 + 1, none⟩ = some (.string y.n) ∧ W.cell? ⟨g, k * 4 + 2, none⟩ = some (.int .i64 y.s) ∧ W.cell? ⟨g, k * 4 + 3, none⟩ = some (.slice y.xa y.l y.c))))
        (first | exact HCr.out _ (by assumption) | go_keep)
        (first | (go_at_call 45; refine (HCM0.out _ hF0).mono ?_; rintro e w4 ⟨he4, hG⟩; subst he4; have hF1 : Ext wr w4 := hF0.trans hG.below; clear hG))
      have HY := Lib.hid hF1
      clear x0 x1 x2 x3 y0 y1 y2 y3 hF1 hF0
      go_wp2_with fail
      go_roundw
      case rel => exact ⟨k + 1, by go_num, HX.out.1.step hlast (by rw [HE.out.1, HE.out.2]; exact HDE.out), own_heap HX.out.2.1 (fun r hr => HY.out.block r (HX.out.2.1.lt r hr).2), HX.out.2.2.trans HY.out⟩
      case measure => simp [intOf]; omega
end
/-- The columns of a sorted row, in the same block. -/
def UniqUPost (H : Nat) (S : Nat → Prop) (w : World) (xa : Option Addr) (cap : Nat) (ps : List Tm) (e : Ending) (w' : World) : Prop :=
  e = .returned (.slice xa (uniqT ps).length cap) ∧ OwnT H S w' (uniqT ps) (.slice xa (uniqT ps).length cap) ∧ Below H w w' ∧ w.heap.size ≤ w'.heap.size
theorem compactU_any {H g n cap : Nat} {S : Nat → Prop} {ps : List Tm} {vs : List Value} {w : World} (hown : w.ownsRow H 24 4 (.slice (some ⟨g, 0, none⟩) n cap) n vs) (hK : KC S w ps vs) (hS : ∀ b, S b → b < H) (hHw : H ≤ w.heap.size) (hn : 0 < n) (hsz : (∀ t ∈ ps, size t ≤ 1073741824)) (hlt : n < 1073741824) :
    Calls Tryd.prog 80 #[.slice (some ⟨g, 0, none⟩) n cap, .func (.func 45) #[] #[]] w (UniqUPost H S w (some ⟨g, 0, none⟩) cap ps) := by
  obtain ⟨l, e1, e2⟩ := KC_TA ps vs hK hsz
  have hvl : vs.length = l.length * 4 := by rw [e2, flatQ_len encT 4 encT_len]
  have hnl : n = l.length := by have := hown.1; omega
  subst hnl
  rw [e2] at hown
  refine (compact_ta l hS hown hHw (by omega) hn).mono fun e w' h => ?_
  obtain ⟨rfl, h1, h2, h3⟩ := h
  have hl : (compU l).length = (uniqT ps).length := by rw [← e1, ← compU_uniq, List.length_map]
  refine ⟨by rw [hl], ⟨_, by rw [← hl]; exact h1, ?_⟩, h2, h3⟩
  rw [← e1, ← compU_uniq]
  exact TA_KC (fun b hb => h2.block b (hS b hb)) (fun _ h => h) (compU l)
end Go.Proofs.YtfbomoginjknlaaDoor

/-
  slices.Grow and slices.Concat AT ROWS OF TERMS (made by gen_qcat.py from XPcat): the parts end to end, in a block of the call's own.
-/
namespace Go.Proofs
open Go.Shelf
def Tryd.growTerms_ren : Go.Shelf.Ren := ⟨fun | 4 => 81 | n => n, fun | 0 => 0 | 3 => 3 | 4 => 4 | 9 => 9 | 20 => 20 | 22 => 22 | 25 => 24 | n => n, fun | n => n⟩
theorem Tryd.growTerms : Go.Proofs.Lays8.n4 Tryd.prog Tryd.growTerms_ren := {
  mixed := by kernel_rfl
  f4 := ⟨Tryd.f81.name, by decide, Tryd.func81.trans (congrArg some (by kernel_rfl))⟩
  t0 := Tryd.underlying0
  a0 := Tryd.isAgg0
  z0 := Tryd.sizeOf0
  v0 := Tryd.zeroValue0
  t3 := Tryd.underlying3
  a3 := Tryd.isAgg3
  z3 := Tryd.sizeOf3
  v3 := Tryd.zeroValue3
  t4 := Tryd.underlying4
  a4 := Tryd.isAgg4
  z4 := Tryd.sizeOf4
  v4 := Tryd.zeroValue4
  t9 := Tryd.underlying9
  a9 := Tryd.isAgg9
  z9 := Tryd.sizeOf9
  v9 := Tryd.zeroValue9
  t20 := Tryd.underlying20
  a20 := Tryd.isAgg20
  z20 := Tryd.sizeOf20
  v20 := Tryd.zeroValue20
  t22 := Tryd.underlying22
  a22 := Tryd.isAgg22
  z22 := Tryd.sizeOf22
  v22 := Tryd.zeroValue22 }
end Go.Proofs
namespace Go.Proofs.YtfbomoginjknlaaDoor
open Go.RowKit Go.Lib

/-- A row that holds nothing yet. -/
def EmptyTRow (w : World) (e : Ending) (w' : World) : Prop := ∃ v, e = .returned v ∧ w'.ownsRow w.heap.size 24 4 v 0 [] ∧ Below w.heap.size w w'
theorem grow_terms (n : Nat) (w : World) (hn : n ≤ 1073741824) :
    Calls Tryd.prog 81 #[.slice none 0 0, .int .i64 n] w (EmptyTRow w) := by
  by_cases h0 : n = 0
  · subst h0
    exact (Any8.slices_Grow_room Tryd.growTerms none 0 0 0 w (Nat.le_refl _) (by omega) (by omega) (by omega)).mono fun e w' h => ⟨_, h.1, by rw [h.2]; exact World.ownsRow_nil _ _ _ _, by rw [h.2]; exact Below.refl _ _⟩
  · obtain ⟨i0, hi0, hz0, hz1, hz2⟩ := info_parts info24
    refine (Any8.slices_Grow_grow Tryd.growTerms i0 _ hi0 hz0 (by omega) none 0 0 n [] w (Nat.le_refl _) (by omega) (by rw [hz2]; omega) (by omega) (by simp) (fun _ => rfl) (fun a h => by cases h)).mono fun e w' h => ?_
    obtain ⟨rfl, rfl⟩ := h
    have hge := grownCap_ge w (0 + n) 0 24
    refine ⟨_, rfl, World.ownsRow_made w.drew _ _ (Nat.le_refl _) (grownCap_le_maxLen w (0 + n) 0 24 (by unfold maxLen; omega)) ?_, (Below.refl _ _).drew.alloc (Nat.le_refl _) _⟩
    simp only [Array.size_append, List.size_toArray, List.length_nil, size_zeroCells]
    show 0 + (0 + n - 0) * 4 + (grownCap w (0 + n) 0 24 - (0 + n)) * 4 = grownCap w (0 + n) 0 24 * 4
    omega
theorem run_append_none8 {P : Program} (w : World) (t ty e : TypeId) (i : TypeInfo) (ht : P.underlying t = some (.slice e)) (hi : P.info? e = some i) (base : Option Addr) (n cap : Nat) (xa : Option Addr) (c : Nat) (h : n ≤ cap) :
    (Builtin.append_ #[t, t] ty #[.slice base n cap, .slice xa 0 c]).run P w = .ok (.slice base n cap) w := by
  cases xa <;> cases base <;> simp [Builtin.append_, run_underlying ht, sizeOf, typeInfo, hi, Builtin.lenOf, Builtin.firstCells, loadCells, loadCellsFrom, storeCells, h]
theorem wpList_append_none8 {P : Program} {w : World} {ops : Array Oper} {rest : List Oper} {o : Oper} {a : Act} {Q : Exit → Act → World → Prop} (hgd : o.guard = none) (s x : Operand) (t : TypeId)
    (ho : o.op = .call { callee := .builtin .append, args := #[s, x], argTypes := #[t, t] }) (e : TypeId) (i : TypeInfo) (ht : P.underlying t = some (.slice e)) (hi : P.info? e = some i)
    (base : Option Addr) (n cap : Nat) (hs : a.eval s = .slice base n cap) (xa : Option Addr) (c : Nat) (hx : a.eval x = .slice xa 0 c) (hle : n ≤ cap)
    (h : wpList P ops Q rest (a.put o.dst (.slice base n cap)) w) : wpList P ops Q (o :: rest) a w := by
  refine wpList_plain hgd fun K hK => ?_
  have hr := run_append_none8 (P := P) w t o.type e i ht hi base n cap xa c hle
  unfold Oper.wp execOp
  simp only [ho, resolve, invoke, builtin, Sem.run_bind, Sem.run_pure, Result.andThen_ok, List.map_toArray, List.map_cons, List.map_nil, hs, hx, hr]
  exact hK _ _ h


/-- Rows of terms in a row. -/
def TsRow (w : World) (ls : List (List Tm)) (xa : Option Addr) : Prop := ls = [] ∨ ∃ b o, xa = some ⟨b, o, none⟩ ∧ ∀ k (h : k < ls.length), ∃ ya c, w.cell? ⟨b, o + k, none⟩ = some (.slice ya ls[k].length c) ∧ ls[k].length ≤ c ∧ Row w ls[k] ya
theorem TsRow_at {w : World} {ls : List (List Tm)} {xa : Option Addr} (h : TsRow w ls xa) (hne : 0 < ls.length) : ∃ b o, xa = some ⟨b, o, none⟩ := by
  rcases h with rfl | ⟨b, o, e, _⟩
  · simp at hne
  · exact ⟨b, o, e⟩
theorem TsRow_get {w : World} {ls : List (List Tm)} {b o : Nat} (h : TsRow w ls (some ⟨b, o, none⟩)) (k : Nat) (hk : k < ls.length) : ∃ ya c, w.cell? ⟨b, o + k, none⟩ = some (.slice ya ls[k].length c) ∧ ls[k].length ≤ c ∧ Row w ls[k] ya := by
  rcases h with rfl | ⟨b', o', e, h⟩
  · simp at hk
  · simp only [Option.some.injEq, Addr.mk.injEq, and_true] at e
    obtain ⟨rfl, rfl⟩ := e
    exact h k hk
theorem TsRow_two {w : World} {H : Nat} (hH : w.heap.size = H) {l m : List Tm} {x y : Option Addr} {a b c d : Nat} (ha : l.length = a) (hb : m.length = b) (hc : a ≤ c) (hd : b ≤ d) (h1 : Row w l x) (h2 : Row w m y) (T : TypeId) : TsRow (w.alloc (.cells #[.slice x a c, .slice y b d] T)) [l, m] (some ⟨H, 0, none⟩) := by
  subst ha
  subst hb
  have c := cells_new_at w #[.slice x l.length c, .slice y m.length d] T H hH
  refine Or.inr ⟨H, 0, rfl, fun k hk => ?_⟩
  match k, hk with
  | 0, _ => exact ⟨x, _, c 0 _ rfl, hc, Row_below h1 ((Ext.refl w).alloc _)⟩
  | 1, _ => exact ⟨y, _, c 1 _ rfl, hd, Row_below h2 ((Ext.refl w).alloc _)⟩
/-- A row joined with another one. -/
theorem OwnT_joinQ {H base : Nat} {wr w8 : World} {acc qs : List Tm} {v v1 : Value} {cs ds : List Value} (hown0 : wr.ownsRow H 24 4 v acc.length cs) (hK : KC (fun b => b < base) wr acc cs) (hbH : base ≤ H) (hHw : H ≤ wr.heap.size) (hD : KC (fun b => b < base) wr qs ds)
    (hown : w8.ownsRow H 24 4 v1 (acc.length + qs.length) (cs ++ ds)) (hg : wr.grownBy w8 v.ownBlock) : OwnT H (fun b => b < base) w8 (acc ++ qs) v1 ∧ Below H wr w8 := by
  have hk : ∀ b, b < base → w8.heap[b]? = wr.heap[b]? := fun b hb => hg.block b (by omega) (fun e => by have := (hown0.lt b e.symm).1; omega)
  exact ⟨⟨_, by rw [List.length_append]; exact hown, KC_append _ _ _ _ (KC_carry hk (fun _ h => h) _ _ hK) (KC_carry hk (fun _ h => h) _ _ hD)⟩, (Below.refl _ _).grown hg hHw (fun q hq => (hown0.lt q hq).1)⟩
theorem flatT_take {ls : List (List Tm)} {j : Nat} (h : j < ls.length) : (ls.take (j + 1)).flatten = (ls.take j).flatten ++ ls[j] := by
  rw [List.take_succ_eq_append_getElem h, List.flatten_append]; simp
theorem flatT_le (ls : List (List Tm)) (j : Nat) : ((ls.take j).flatten).length ≤ ls.flatten.length := by
  have h : ls.flatten = (ls.take j).flatten ++ (ls.drop j).flatten := by rw [← List.flatten_append, List.take_append_drop]
  rw [h, List.length_append]; omega
/-- What Concat gives back. -/
def CatTPost (w : World) (ps : List Tm) (e : Ending) (w' : World) : Prop := ∃ v, e = .returned v ∧ OwnT w.heap.size (fun b => b < w.heap.size) w' ps v ∧ Below w.heap.size w w'
/-- A source of an append: its cells. -/
theorem src_cellsT {w : World} {ps : List Tm} {b o : Nat} (h : Row w ps (some ⟨b, o, none⟩)) : ∃ ds, (∀ W, Ext w W → KC (fun q => q < w.heap.size) W ps ds ∧ (∀ j u, ds[j]? = some u → W.cell? ((⟨b, o, none⟩ : Addr).add j) = some u)) ∧ ds.length = ps.length * 4 ∧ ∀ u ∈ ds, u.oneCell' = true := by
  obtain ⟨ds, h1, h2⟩ := KC_of_Row ps b o h
  obtain ⟨h3, h4⟩ := KC_one _ _ h1
  exact ⟨ds, fun W y => ⟨KC_carry (fun b hb => y.block b hb) (fun _ h => h) _ _ h1, fun j u hj => keep_below y _ _ (h2 j u hj)⟩, h3, h4⟩
end Go.Proofs.YtfbomoginjknlaaDoor

/-
  THE WALK OF slices.Concat AT ROWS OF TERMS.
-/
namespace Go.Proofs.YtfbomoginjknlaaDoor
open Go.RowKit Go.Lib

set_option maxHeartbeats 6400000 in
set_option maxRecDepth 100000 in
theorem concatT_any (ls : List (List Tm)) (xs : Option Addr) (cs0 : Nat) (w : World) (hn : ls.length ≤ 1048576) (hT : ls.flatten.length ≤ 1073741823) (hR : TsRow w ls xs) :
    Calls Tryd.prog 61 #[.slice xs ls.length cs0] w (CatTPost w ls.flatten) := by
  have HR := Lib.hid hR
  have HT : Hid (∀ j, ((ls.take j).flatten).length ≤ 1073741823) := fun j => Nat.le_trans (flatT_le ls j) hT
  have HTT := Lib.hid hT
  have HTK := Lib.hid (fun j (h : j < ls.length) => flatT_take h)
  obtain ⟨i0, hi0, hz0, hz1, hz2⟩ := info_parts info24
  have HI0 := Lib.hid (And.intro hi0 (And.intro hz0 (And.intro hz1 hz2)))
  clear hi0 hz0 hz1 hz2 hR hT
  go_enter Tryd.func61, Tryd.ntmps61
  go_wp2_with fail
  go_loopw [3, 11] (fun s i wr => ∃ j : Nat, j ≤ ls.length ∧ i = .int .i64 j ∧ s = .int .i64 (((ls.take j).flatten).length : Nat) ∧ Ext w wr) (fun _ i _ => ls.length - (intOf i).toNat)
  case atStart => exact ⟨0, Nat.zero_le _, rfl, by simp, Ext.refl _⟩
  case round =>
    obtain ⟨j, hj, rfl, rfl, hE⟩ := hrel
    by_cases hlt : j < ls.length
    · obtain ⟨b, o, rfl⟩ := TsRow_at HR.out (by omega)
      obtain ⟨ya, c, g0, _, _⟩ := TsRow_get HR.out j hlt
      have g1 := keep_below hE _ _ g0
      have hl1 := HT.out (j + 1)
      have HL := Lib.hid (congrArg List.length (HTK.out j hlt))
      have hl2 := HL.out
      rw [List.length_append] at hl2
      have i1 : (0 : Int) ≤ (j : Int) := by omega
      have i2 : (j : Int) < (ls.length : Int) := by omega
      have HEr := Lib.hid hE
      obtain ⟨A, hA⟩ : ∃ A, ((ls.take j).flatten).length = A := ⟨_, rfl⟩
      obtain ⟨B, hB⟩ : ∃ B, (ls[j]).length = B := ⟨_, rfl⟩
      have HN : Hid (((ls.take (j + 1)).flatten).length = A + B) := by show _ = _; omega
      have hAB : A + B ≤ 1073741823 := by omega
      rw [hA]
      rw [hB] at g1
      clear hE g0 hl1 hl2 hA hB
      go_wp2_with fail
      go_roundw
      case rel => exact ⟨j + 1, by omega, by go_num, by rw [HN.out]; go_num, HEr.out⟩
      case measure => simp [intOf]; omega
    obtain rfl : j = ls.length := by omega
    rw [List.take_length]
    have HG := Lib.hid (grow_terms ls.flatten.length wr (Nat.le_succ_of_le HTT.out))
    have HEr := Lib.hid hE
    obtain ⟨A, hA⟩ : ∃ A, ls.flatten.length = A := ⟨_, rfl⟩
    rw [hA] at HG ⊢
    clear hE hA
    go_wp2_with (go_at_call 81; refine (HG.out).mono ?_; rintro e w5 ⟨v5, he, hO, hB5⟩; subst he; have HO5 := Lib.hid (own_base hO HEr.out.size); have HB5 := Lib.hid (Ext.trans HEr.out hB5); clear hO hB5)
    go_loopw [6, 27] (fun v i wr => ∃ j : Nat, j ≤ ls.length ∧ i = .int .i64 j ∧ OwnT w.heap.size (fun b => b < w.heap.size) wr ((ls.take j).flatten) v ∧ Ext w wr) (fun _ i _ => ls.length - (intOf i).toNat)
    case atStart => exact ⟨0, Nat.zero_le _, rfl, ⟨[], by simpa using HO5.out, rfl⟩, HB5.out⟩
    case round =>
      obtain ⟨j, hj, rfl, hO, hE2⟩ := hrel
      have HE2 := Lib.hid hE2
      have hsz := hE2.size
      by_cases hlt : j < ls.length
      rotate_left
      · obtain rfl : j = ls.length := by omega
        rw [List.take_length] at hO
        have HF := Lib.hid (show CatTPost w ls.flatten (.returned _) _ from ⟨_, rfl, hO, hE2⟩)
        clear hO hE2
        go_wp2_with fail
        go_ret
        exact HF.out
      obtain ⟨b, o, rfl⟩ := TsRow_at HR.out (by omega)
      obtain ⟨ya, c, g0, hc0, hRj⟩ := TsRow_get HR.out j hlt
      have g1 := keep_below hE2 _ _ g0
      have hl1 := HT.out (j + 1)
      have HL := Lib.hid (HTK.out j hlt)
      have hl2 := congrArg List.length HL.out
      rw [List.length_append] at hl2
      obtain ⟨xl, lcap, rfl⟩ := OwnT_form hO
      have HOr := Lib.hid hO
      obtain ⟨cs, hown, hK⟩ := hO
      have hcp : ((ls.take j).flatten).length ≤ lcap := (OwnT_rowQ HOr.out).2
      have HO := Lib.hid hown
      have HK := Lib.hid hK
      have i1 : (0 : Int) ≤ (j : Int) := by omega
      have i2 : (j : Int) < (ls.length : Int) := by omega
      by_cases h0 : (ls[j]).length = 0
      · have hn0 : ls[j] = [] := List.length_eq_zero_iff.1 h0
        have HN : Hid ((ls.take (j + 1)).flatten = (ls.take j).flatten) := by show _ = _; rw [HL.out, hn0, List.append_nil]
        rw [h0] at g1
        clear hown hK hE2 g0 hl1 hl2 hRj hc0 h0 hn0
        obtain ⟨A, hA⟩ : ∃ A, ((ls.take j).flatten).length = A := ⟨_, rfl⟩
        rw [hA] at HOr hcp ⊢
        clear hA HO HK
        go_wp2_with (at_builtin; refine wpList_append_none8 rfl _ _ 22 rfl 24 i0 Tryd.underlying22 HI0.out.1 xl A lcap rfl ya c rfl hcp ?_)
        go_roundw
        case rel => exact ⟨j + 1, by omega, by go_num, by rw [HN.out]; exact HOr.out, HE2.out⟩
        case measure => simp [intOf]; omega
      · obtain ⟨b2, o2, rfl⟩ := Row_at hRj (by omega)
        obtain ⟨ds, hd1, hd2, hd3⟩ := src_cellsT hRj
        have HD := Lib.hid (hd1 wr hE2)
        have HDL := Lib.hid hd2
        have HD1 := Lib.hid hd3
        obtain ⟨m, hm⟩ : ∃ m, (ls[j]).length = m := ⟨_, rfl⟩
        have HM := Lib.hid hm
        obtain ⟨A, hA⟩ : ∃ A, ((ls.take j).flatten).length = A := ⟨_, rfl⟩
        have HA := Lib.hid hA
        have hAm : A + m ≤ 1073741823 := by omega
        rw [hm] at g1 HDL
        rw [hA] at HO ⊢
        clear hown hK hE2 g0 hl1 hl2 hRj hc0 h0 hd1 hd2 hd3 hm hA hcp
        go_wp2_with (at_builtin; go_loud (refine wpList_append_own_at _ rfl _ _ _ rfl w.heap.size 24 i0 _ 4 56 Tryd.underlying22 HI0.out.1 HI0.out.2.1 HI0.out.2.2.1 HI0.out.2.2.2 rfl (by omega) (.slice xl A lcap) A cs rfl HO.out ⟨b2, o2, none⟩ m c ds rfl HDL.out HD.out.2 HD1.out (by unfold maxLen; omega) (by omega) hsz ?_; intro v1 w1 hown1 hgrow _ _; have HP := Lib.hid (OwnT_joinQ (acc := (ls.take j).flatten) (qs := ls[j]) (by rw [HA.out]; exact HO.out) HK.out (Nat.le_refl _) hsz HD.out.1 (by rw [HA.out, HM.out]; exact hown1) hgrow); clear hown1 hgrow))
        go_roundw
        case rel => exact ⟨j + 1, by omega, by go_num, by rw [HL.out]; exact HP.out.1, Below.trans HE2.out HP.out.2⟩
        case measure => simp [intOf]; omega
end Go.Proofs.YtfbomoginjknlaaDoor
