/-
  THE COLUMNS on plain data: of a sorted row of powers the first one of each factor.
-/
import Derived.Test.YtcieadjjcpmieaaGreatPsort
import Derived.Test.YtcieadjjcpmieaaGreatProw
import Derived.Test.YtcieadjjcpmieaaGreatComp
import Derived.Lib.SliceRun
import Derived.IntWalk
namespace Go.Proofs.YtcieadjjcpmieaaGreat
open Go.RowKit

def uniqP : List Pw → List Pw
  | [] => []
  | [p] => [p]
  | p :: q :: l => if cmpT q.1 p.1 = 0 then uniqP (p :: l) else p :: uniqP (q :: l)
termination_by l => l.length
theorem uniqP_head (p : Pw) (l : List Pw) : ∃ m, uniqP (p :: l) = p :: m := by
  induction l with
  | nil => exact ⟨[], by rw [uniqP]⟩
  | cons q l ih =>
    rw [uniqP]
    by_cases h : cmpT q.1 p.1 = 0
    · rw [if_pos h]; exact ih
    · rw [if_neg h]; exact ⟨_, rfl⟩
theorem uniqP_mem : ∀ (n : Nat) (l : List Pw), l.length ≤ n → (∀ t, (∃ p ∈ uniqP l, p.1 = t) ↔ ∃ p ∈ l, p.1 = t) ∧ ∀ p ∈ uniqP l, p ∈ l
  | _, [], _ => by rw [uniqP]; exact ⟨fun _ => Iff.rfl, fun _ h => h⟩
  | _, [p], _ => by rw [uniqP]; exact ⟨fun _ => Iff.rfl, fun _ h => h⟩
  | 0, p :: q :: l, h => by simp at h
  | n + 1, p :: q :: l, h => by
    rw [uniqP]
    by_cases hc : cmpT q.1 p.1 = 0
    · rw [if_pos hc]
      obtain ⟨h1, h2⟩ := uniqP_mem n (p :: l) (by simp at h ⊢; omega)
      have e := cmpT_zero _ _ hc
      refine ⟨fun t => ?_, fun x hx => ?_⟩
      · rw [h1 t]
        constructor
        · rintro ⟨x, hx, rfl⟩
          rcases List.mem_cons.1 hx with rfl | hx
          · exact ⟨x, by simp, rfl⟩
          · exact ⟨x, by simp [hx], rfl⟩
        · rintro ⟨x, hx, rfl⟩
          rcases List.mem_cons.1 hx with rfl | hx
          · exact ⟨x, by simp, rfl⟩
          · rcases List.mem_cons.1 hx with rfl | hx
            · exact ⟨p, by simp, e.symm⟩
            · exact ⟨x, by simp [hx], rfl⟩
      · rcases List.mem_cons.1 (h2 x hx) with rfl | hx
        · simp
        · simp [hx]
    · rw [if_neg hc]
      obtain ⟨h1, h2⟩ := uniqP_mem n (q :: l) (by simp at h ⊢; omega)
      refine ⟨fun t => ?_, fun x hx => ?_⟩
      · constructor
        · rintro ⟨x, hx, rfl⟩
          rcases List.mem_cons.1 hx with rfl | hx
          · exact ⟨x, by simp, rfl⟩
          · exact ⟨x, List.mem_cons_of_mem _ (h2 x hx), rfl⟩
        · rintro ⟨x, hx, rfl⟩
          rcases List.mem_cons.1 hx with rfl | hx
          · exact ⟨x, by simp, rfl⟩
          · obtain ⟨y, hy, e⟩ := (h1 x.1).2 ⟨x, hx, rfl⟩
            exact ⟨y, List.mem_cons_of_mem _ hy, e⟩
      · rcases List.mem_cons.1 hx with rfl | hx
        · simp
        · exact List.mem_cons_of_mem _ (h2 x hx)
theorem uniqP_asc : ∀ (n : Nat) (l : List Pw), l.length ≤ n → AscW l → AscP (uniqP l)
  | _, [], _, _ => by rw [uniqP]; exact List.Pairwise.nil
  | _, [p], _, _ => by rw [uniqP]; exact List.pairwise_singleton _ _
  | 0, p :: q :: l, h, _ => by simp at h
  | n + 1, p :: q :: l, h, hs => by
    have hs' : AscW (q :: l) := (List.pairwise_cons.1 hs).2
    have hp := (List.pairwise_cons.1 hs).1
    rw [uniqP]
    by_cases hc : cmpT q.1 p.1 = 0
    · rw [if_pos hc]
      exact uniqP_asc n (p :: l) (by simp at h ⊢; omega) (List.pairwise_cons.2 ⟨fun x hx => hp x (by simp [hx]), (List.pairwise_cons.1 hs').2⟩)
    · rw [if_neg hc]
      have hlt : cmpT p.1 q.1 < 0 := by
        have h1 := hp q (by simp)
        have h2 := cmpT_anti q.1 p.1
        omega
      refine List.pairwise_cons.2 ⟨fun x hx => ?_, uniqP_asc n (q :: l) (by simp at h ⊢; omega) hs'⟩
      have hx' := (uniqP_mem _ (q :: l) (Nat.le_refl _)).2 x hx
      rcases List.mem_cons.1 hx' with rfl | hx'
      · exact hlt
      · have h3 := (List.pairwise_cons.1 hs').1 x hx'
        have h4 : ¬ cmpT p.1 x.1 = 0 := fun e => by
          have e2 := cmpT_zero _ _ e
          rw [← e2] at h3
          exact h3 hlt
        have h5 := hp x (by simp [hx'])
        have h6 := cmpT_anti x.1 p.1
        omega
/-- Ascending lists of the same terms are one. -/
theorem asc_one : ∀ (l m : List Tm), l.Pairwise (fun a b => cmpT a b < 0) → m.Pairwise (fun a b => cmpT a b < 0) → (∀ t, t ∈ l ↔ t ∈ m) → l = m
  | [], [], _, _, _ => rfl
  | [], u :: m, _, _, h => absurd ((h u).2 (by simp)) (by simp)
  | t :: l, [], _, _, h => absurd ((h t).1 (by simp)) (by simp)
  | t :: l, u :: m, hl, hm, h => by
    have hself : ∀ x : Tm, ¬ cmpT x x < 0 := fun x => by rw [cmpT_self]; omega
    have l1 := (List.pairwise_cons.1 hl).1
    have m1 := (List.pairwise_cons.1 hm).1
    have e : t = u := by
      rcases List.mem_cons.1 ((h t).1 (by simp)) with e | h1
      · exact e
      · rcases List.mem_cons.1 ((h u).2 (by simp)) with e | h2
        · exact e.symm
        · exact absurd (cmpT_trans (m1 t h1) (l1 u h2)) (hself u)
    subst e
    rw [asc_one l m (List.pairwise_cons.1 hl).2 (List.pairwise_cons.1 hm).2 (fun x => ?_)]
    constructor
    · intro hx
      rcases List.mem_cons.1 ((h x).1 (List.mem_cons_of_mem _ hx)) with e | h1
      · subst e; exact absurd (l1 x hx) (hself x)
      · exact h1
    · intro hx
      rcases List.mem_cons.1 ((h x).2 (List.mem_cons_of_mem _ hx)) with e | h1
      · subst e; exact absurd (m1 x hx) (hself x)
      · exact h1
end Go.Proofs.YtcieadjjcpmieaaGreat

/-
  THE WALK OF the closure of exponent's columnsOf.
-/
namespace Go.Proofs.YtcieadjjcpmieaaGreat
open Go.RowKit

set_option maxHeartbeats 1600000 in
set_option maxRecDepth 100000 in
theorem colcl_gr (v u : Tm) (k s : Int) (n : ByteArray) (xa : Option Addr) (l c : Nat) (N : Int) (k3 s3 : Int) (n3 : ByteArray) (xa3 : Option Addr) (l3 c3 : Nat) (M : Int) (w : World) (hv : size v ≤ 1073741824) (hu : size u ≤ 1073741824) (hI : Is w v (.int .i64 k) (.string n) (.int .i64 s) (.slice xa l c)) (hJ : Is w u (.int .i64 k3) (.string n3) (.int .i64 s3) (.slice xa3 l3 c3)) :
    Calls Tryz.prog 117 #[.agg #[.int .i64 k, .string n, .int .i64 s, .slice xa l c, .int .i64 N], .agg #[.int .i64 k3, .string n3, .int .i64 s3, .slice xa3 l3 c3, .int .i64 M]] w fun e w' => e = .returned (.bool (cmpT v u == 0)) ∧ Gr w w' := by
  have hG : Gr w ((w.alloc (.cells #[.int .i64 k, .string n, .int .i64 s, .slice xa l c, .int .i64 N] 77)).alloc (.cells #[.int .i64 k3, .string n3, .int .i64 s3, .slice xa3 l3 c3, .int .i64 M] 77)) := ((Gr.refl w).alloc _).alloc _
  have HC := Lib.hid (cfac_gr v u k s n xa l c N k3 s3 n3 xa3 l3 c3 M _ hv hu (Is_below hI hG.below) (Is_below hJ hG.below))
  have HG := Lib.hid hG
  generalize cmpT v u = r at HC ⊢
  clear hG hI hJ hv hu
  go_enter Tryz.func117, Tryz.ntmps117
  go_wp2_with (go_at_call 73; refine (HC.out).mono ?_; rintro e w3 ⟨he, hB⟩; subst he; have HB : Hid (Gr w w3) := Lib.hid (Gr.trans HG.out hB); clear hB)
  go_ret
  exact ⟨rfl, HB.out⟩
end Go.Proofs.YtcieadjjcpmieaaGreat

/-
  slices.CompactFunc AT A ROW OF POWERS: what it computes (uniqP), and its walk.
-/
namespace Go.Proofs.YtcieadjjcpmieaaGreat
open Go.RowKit Go.Lib

section
variable {S : Nat → Prop} {w : World}
/-- Consecutive equals but once, p being the one ahead. -/
def cptQ (p : PA S w) : List (PA S w) → List (PA S w)
  | [] => []
  | x :: xs => if cmpT x.p.1 p.p.1 = 0 then cptQ x xs else x :: cptQ x xs
def compQ : List (PA S w) → List (PA S w)
  | [] => []
  | x :: xs => x :: cptQ x xs
theorem cptQ_key {x y : PA S w} (h : x.p.1 = y.p.1) (l : List (PA S w)) : cptQ x l = cptQ y l := by
  cases l with
  | nil => rfl
  | cons z l => rw [cptQ, cptQ, h]
theorem cptQ_uniq : ∀ (l : List (PA S w)) (p : PA S w), uniqP (p.p :: l.map PA.p) = p.p :: (cptQ p l).map PA.p
  | [], p => by rw [List.map_nil, uniqP]; rfl
  | x :: l, p => by
    rw [List.map_cons, uniqP, cptQ]
    by_cases h : cmpT x.p.1 p.p.1 = 0
    · rw [if_pos h, if_pos h, cptQ_uniq l p, cptQ_key (cmpT_zero _ _ h) l]
    · rw [if_neg h, if_neg h, cptQ_uniq l x]; rfl
theorem compQ_uniq (l : List (PA S w)) : (compQ l).map PA.p = uniqP (l.map PA.p) := by
  cases l with
  | nil => rw [List.map_nil, uniqP]; rfl
  | cons x l => rw [List.map_cons, cptQ_uniq]; rfl

/-- The first loop: no equals so far. -/
structure CHQ (L : List (PA S w)) (k : Nat) : Prop where
  lt : k < L.length
  eq : ∀ h : k < L.length, compQ L = L.take (k + 1) ++ cptQ L[k] (L.drop (k + 1))
theorem CHQ.start {L : List (PA S w)} (h : 0 < L.length) : CHQ L 0 := ⟨h, fun _ => by
  cases L with
  | nil => simp at h
  | cons x xs => simp [compQ]⟩
theorem CHQ.step {L : List (PA S w)} {k : Nat} (h : CHQ L k) (hk : k + 1 < L.length) (hne : ¬ cmpT L[k + 1].p.1 (L[k]'h.lt).p.1 = 0) : CHQ L (k + 1) := ⟨hk, fun _ => by
  have := h.eq h.lt
  rw [List.drop_eq_getElem_cons hk, cptQ, if_neg hne] at this
  rw [this, List.take_succ_eq_append_getElem hk, List.append_assoc]; rfl⟩
theorem CHQ.done {L : List (PA S w)} {k : Nat} (h : CHQ L k) (hk : L.length = k + 1) : compQ L = L := by
  have := h.eq h.lt
  rw [List.drop_of_length_le (by omega), cptQ, List.take_of_length_le (by omega), List.append_nil] at this
  exact this
/-- The second loop: kk places are laid, the place ahead is p. -/
structure CIQ (L cur : List (PA S w)) (p kk : Nat) : Prop where
  len : cur.length = L.length
  lt : kk ≤ p
  plt : p < L.length
  high : ∀ i, p ≤ i → cur[i]? = L[i]?
  eq : ∀ h : p < L.length, compQ L = cur.take kk ++ cptQ L[p] (L.drop (p + 1))
theorem CIQ.start {L : List (PA S w)} {k : Nat} (h : CHQ L k) (hk : k + 1 < L.length) (he : cmpT L[k + 1].p.1 (L[k]'h.lt).p.1 = 0) : CIQ L L (k + 1) (k + 1) := ⟨rfl, Nat.le_refl _, hk, fun _ _ => rfl, fun _ => by
  have := h.eq h.lt
  rw [List.drop_eq_getElem_cons hk, cptQ, if_pos he] at this
  exact this⟩
theorem CIQ.skip {L cur : List (PA S w)} {p kk : Nat} (h : CIQ L cur p kk) (hp : p + 1 < L.length) (he : cmpT L[p + 1].p.1 (L[p]'h.plt).p.1 = 0) : CIQ L cur (p + 1) kk := ⟨h.len, Nat.le_succ_of_le h.lt, hp, fun i hi => h.high i (by omega), fun _ => by
  have := h.eq h.plt
  rw [List.drop_eq_getElem_cons hp, cptQ, if_pos he] at this
  exact this⟩
theorem CIQ.keep {L cur : List (PA S w)} {p kk : Nat} (h : CIQ L cur p kk) (hp : p + 1 < L.length) (he : ¬ cmpT L[p + 1].p.1 (L[p]'h.plt).p.1 = 0) : CIQ L (cur.set kk L[p + 1]) (p + 1) (kk + 1) := by
  have hl := h.lt
  have hc := h.len
  refine ⟨by rw [List.length_set]; exact h.len, by omega, hp, fun i hi => ?_, fun _ => ?_⟩
  · rw [List.getElem?_set_ne (by omega)]; exact h.high i (by omega)
  · have := h.eq h.plt
    rw [List.drop_eq_getElem_cons hp, cptQ, if_neg he] at this
    rw [this, List.take_succ_eq_append_getElem (by rw [List.length_set]; omega), List.getElem_set_self, List.take_set_of_le (Nat.le_refl _), List.append_assoc]; rfl
theorem CIQ.done {L cur : List (PA S w)} {p kk : Nat} (h : CIQ L cur p kk) (hp : L.length = p + 1) : compQ L = cur.take kk ∧ kk ≤ p := by
  have := h.eq h.plt
  rw [List.drop_of_length_le (by omega), cptQ, List.append_nil] at this
  exact ⟨this, h.lt⟩

def CompactQ (base g cap : Nat) (L : List (PA S w)) (e : Ending) (w' : World) : Prop :=
  e = .returned (.slice (some ⟨g, 0, none⟩) (compQ L).length cap) ∧ w'.ownsRow base 77 5 (.slice (some ⟨g, 0, none⟩) (compQ L).length cap) (compQ L).length ((compQ L).flatMap encP) ∧ Below base w w' ∧ w.heap.size ≤ w'.heap.size

def FiveAt (W : World) (g o : Nat) (x : PA S w) : Prop := (W.cell? ⟨g, o, none⟩ = some (.int .i64 x.k) ∧ W.cell? ⟨g, o + 1, none⟩ = some (.string x.n) ∧ W.cell? ⟨g, o + 2, none⟩ = some (.int .i64 x.s) ∧ W.cell? ⟨g, o + 3, none⟩ = some (.slice x.xa x.l x.c)) ∧ W.cell? ⟨g, o + 4, none⟩ = some (.int .i64 x.p.2)
/-- The five cells of a power of the row. -/
theorem pa_cells {base g n cap : Nat} {L : List (PA S w)} {wr : World} (h : wr.ownsRow base 77 5 (.slice (some ⟨g, 0, none⟩) n cap) n (L.flatMap encP)) (j : Nat) (hj : j < L.length) : FiveAt wr g (j * 5) L[j] := by
  have hl := h.1
  rw [flatE_len encP 5 encP_len] at hl
  haveI : Inhabited (PA S w) := ⟨L[j]⟩
  have e : L[j]! = L[j] := getElem!_pos L j hj
  have hq : ∀ i, i < 5 → wr.cell? ⟨g, j * 5 + i, none⟩ = (encP L[j])[i]? := fun i hi => by
    rw [h.cellAt _ (by omega), flatE encP 5 encP_len (by omega) L (j * 5 + i) (by omega), show (j * 5 + i) / 5 = j by omega, show (j * 5 + i) % 5 = i by omega, e]
    have : i < (encP L[j]).length := by rw [encP_len]; exact hi
    rw [getElem!_pos _ i this, List.getElem?_eq_getElem this]
  exact ⟨⟨hq 0 (by omega), hq 1 (by omega), hq 2 (by omega), hq 3 (by omega)⟩, hq 4 (by omega)⟩
theorem PA.isAt (x : PA S w) {base : Nat} {W : World} (hS : ∀ b, S b → b < base) (h : Below base w W) : Is W x.p.1 (.int .i64 x.k) (.string x.n) (.int .i64 x.s) (.slice x.xa x.l x.c) :=
  IsIn_Is _ _ _ _ _ (IsIn_carry (S' := S) (fun b hb => h.block b (hS b hb)) (fun _ h => h) _ _ _ _ _ x.hv)
theorem pa_high {base g n cap : Nat} {L cur : List (PA S w)} {p kk : Nat} {wr : World} (hI : CIQ L cur p kk) (h : wr.ownsRow base 77 5 (.slice (some ⟨g, 0, none⟩) n cap) n (cur.flatMap encP)) (i : Nat) (hp : p ≤ i) (hi : i < L.length) : FiveAt wr g (i * 5) L[i] := by
  have hc : i < cur.length := by rw [hI.len]; exact hi
  have e : cur[i] = L[i] := by
    have := hI.high i hp
    rw [List.getElem?_eq_getElem hc, List.getElem?_eq_getElem hi] at this
    exact Option.some.inj this
  have := pa_cells h i hc
  rw [e] at this; exact this
theorem set_five (x0 x1 x2 x3 x4 v : Value) (r : List Value) (j : Nat) : (x0 :: x1 :: x2 :: x3 :: x4 :: r).set (j + 5) v = x0 :: x1 :: x2 :: x3 :: x4 :: r.set j v := rfl
theorem own_pa {base g n cap : Nat} {cur : List (PA S w)} {wr : World} {kk : Nat} (h : wr.ownsRow base 77 5 (.slice (some ⟨g, 0, none⟩) n cap) n (cur.flatMap encP)) (hk : kk < cur.length) (u : PA S w) :
    (put5 wr g (kk * 5) (.int .i64 u.k) (.string u.n) (.int .i64 u.s) (.slice u.xa u.l u.c) (.int .i64 u.p.2)).ownsRow base 77 5 (.slice (some ⟨g, 0, none⟩) n cap) n ((cur.set kk u).flatMap encP) := by
  have h1 := ((((((h.stored (kk * 5) (.int .i64 u.k)).1).stored (kk * 5 + 1) (.string u.n)).1).stored (kk * 5 + 2) (.int .i64 u.s)).1.stored (kk * 5 + 3) (.slice u.xa u.l u.c)).1.stored (kk * 5 + 4) (.int .i64 u.p.2) |>.1
  have e : ∀ (l : List (PA S w)) (i : Nat), i < l.length → (((((l.flatMap encP).set (i * 5) (.int .i64 u.k)).set (i * 5 + 1) (.string u.n)).set (i * 5 + 2) (.int .i64 u.s)).set (i * 5 + 3) (.slice u.xa u.l u.c)).set (i * 5 + 4) (.int .i64 u.p.2) = (l.set i u).flatMap encP := by
    intro l
    induction l with
    | nil => intro i h; simp at h
    | cons x l ih =>
      intro i h
      cases i with
      | zero => simp [encP]
      | succ i =>
        have := ih i (by simpa using h)
        simp only [List.flatMap_cons, List.set_cons_succ, ← this]
        simp only [encP, List.cons_append, List.nil_append, show (i + 1) * 5 = i * 5 + 5 by omega, show i * 5 + 5 + 1 = i * 5 + 1 + 5 by omega, show i * 5 + 5 + 2 = i * 5 + 2 + 5 by omega, show i * 5 + 5 + 3 = i * 5 + 3 + 5 by omega, show i * 5 + 5 + 4 = i * 5 + 4 + 5 by omega, set_five]
  rw [e cur kk hk] at h1
  exact h1
theorem flat_takeP : ∀ (l : List (PA S w)) (i : Nat), (l.flatMap encP).take (i * 5) = (l.take i).flatMap encP
  | [], i => by simp
  | x :: l, 0 => by simp
  | x :: l, i + 1 => by
    have := flat_takeP l i
    simp only [List.flatMap_cons, List.take_succ_cons, ← this]
    simp only [encP, List.cons_append, List.nil_append, show (i + 1) * 5 = i * 5 + 1 + 1 + 1 + 1 + 1 by omega, List.take_succ_cons]
def zeroPs (n : Nat) : List Value := (Builtin.zeroCells (Value.agg #[.int .i64 0, .string ⟨#[]⟩, .int .i64 0, .slice none 0 0, .int .i64 0]).cells n).toList
theorem zeroPs_length (n : Nat) : (zeroPs n).length = n * 5 := by simp [zeroPs, Builtin.zeroCells, Value.cells]
theorem zeroPs_one (n : Nat) : ∀ v ∈ zeroPs n, v.oneCell' = true := by
  intro v hv
  simp only [zeroPs, Builtin.zeroCells, Value.cells, Array.toList_map, List.mem_map] at hv
  obtain ⟨i, _, rfl⟩ := hv
  have : i % 5 = 0 ∨ i % 5 = 1 ∨ i % 5 = 2 ∨ i % 5 = 3 ∨ i % 5 = 4 := by omega
  rcases this with h | h | h | h | h <;> (simp only [List.size_toArray, List.length_cons, List.length_nil]; rw [h]; rfl)
theorem clear_powers {base g n cap kk : Nat} {xs : List Value} {wr : World} (h : wr.ownsRow base 77 5 (.slice (some ⟨g, 0, none⟩) n cap) n xs) (hk : kk < n) (ty : TypeId) :
    (Builtin.clear_ #[27] ty #[.slice (some ⟨g, kk * 5, none⟩) (n - kk) (cap - kk)]).run Tryz.prog wr = .ok (.tuple #[]) (wr.setCells g (kk * 5) (zeroPs (n - kk))) := by
  have hl := h.1
  refine run_clear_row wr 27 77 ty (.agg #[.int .i64 0, .string ⟨#[]⟩, .int .i64 0, .slice none 0 0, .int .i64 0]) _ Tryz.underlying27 Tryz.zeroValue77 g (kk * 5) (n - kk) (cap - kk) (by omega) rfl (fun j hj => ?_) (fun j hj => h.frozenAt _) (zeroPs_one _)
  rw [zeroPs_length] at hj
  rw [h.cellAt _ (by omega), List.getElem?_eq_getElem (by omega)]; rfl
theorem compactQ_end {base g cap kk p : Nat} {L cur : List (PA S w)} {wr : World} (hI : CIQ L cur p kk) (h : wr.ownsRow base 77 5 (.slice (some ⟨g, 0, none⟩) L.length cap) L.length (cur.flatMap encP)) (hB : Below base w wr) (hs : w.heap.size ≤ wr.heap.size) (hp : L.length = p + 1) :
    CompactQ base g cap L (.returned (.slice (some ⟨g, 0, none⟩) kk cap)) (wr.setCells g (kk * 5) (zeroPs (L.length - kk))) := by
  obtain ⟨e, hkp⟩ := hI.done hp
  have hlen : (compQ L).length = kk := by rw [e, List.length_take, hI.len]; omega
  obtain ⟨ys, h1, h2, h3⟩ := own_setCells (zeroPs (L.length - kk)) (kk * 5) _ _ h
  rw [flat_takeP, ← e] at h2
  have hn : L.length = kk + (L.length - kk) := by omega
  have hy : ys = (compQ L).flatMap encP ++ ys.drop (kk * 5) := by rw [← h2, List.take_append_drop]
  rw [hy] at h1
  unfold CompactQ
  rw [hlen]
  refine ⟨rfl, ?_, hB.trans h3, Nat.le_trans hs h3.size⟩
  refine own_shorter (m := L.length - kk) (ys := ys.drop (kk * 5)) ?_ (by rw [flatE_len encP 5 encP_len, hlen])
  rw [← hn]; exact h1
theorem FiveAt.ext {W V : World} {g o : Nat} {x : PA S w} (h : FiveAt W g o x) (y : Ext W V) : FiveAt V g o x :=
  ⟨⟨keep_below y _ _ h.1.1, keep_below y _ _ h.1.2.1, keep_below y _ _ h.1.2.2.1, keep_below y _ _ h.1.2.2.2⟩, keep_below y _ _ h.2⟩
theorem pa_room {base g n cap : Nat} {L : List (PA S w)} {wr : World} (h : wr.ownsRow base 77 5 (.slice (some ⟨g, 0, none⟩) n cap) n (L.flatMap encP)) (j : Nat) (hj : j < L.length) :
    (∃ z0 z1 z2 z3 z4, wr.cell? ⟨g, j * 5, none⟩ = some z0 ∧ wr.cell? ⟨g, j * 5 + 1, none⟩ = some z1 ∧ wr.cell? ⟨g, j * 5 + 2, none⟩ = some z2 ∧ wr.cell? ⟨g, j * 5 + 3, none⟩ = some z3 ∧ wr.cell? ⟨g, j * 5 + 4, none⟩ = some z4) ∧ ∀ i, wr.frozen? ⟨g, i, none⟩ = false :=
  ⟨⟨_, _, _, _, _, (pa_cells h j hj).1.1, (pa_cells h j hj).1.2.1, (pa_cells h j hj).1.2.2.1, (pa_cells h j hj).1.2.2.2, (pa_cells h j hj).2⟩, fun i => h.frozenAt i⟩
end
end Go.Proofs.YtcieadjjcpmieaaGreat

/-
  THE WALK OF slices.CompactFunc AT A ROW OF POWERS.
-/
namespace Go.Proofs.YtcieadjjcpmieaaGreat
open Go.RowKit Go.Lib
section
variable {S : Nat → Prop} {w : World}
set_option maxHeartbeats 6400000 in
set_option maxRecDepth 100000 in
theorem compact_pa {base g cap : Nat} (L : List (PA S w)) (hS : ∀ b, S b → b < base) (hown : w.ownsRow base 77 5 (.slice (some ⟨g, 0, none⟩) L.length cap) L.length (L.flatMap encP)) (hbw : base ≤ w.heap.size) (hlt : L.length ≤ 1152921504606846976) (hpos : 0 < L.length) :
    Calls Tryz.prog 116 #[.slice (some ⟨g, 0, none⟩) L.length cap, .func (.func 117) #[] #[]] w (CompactQ base g cap L) := by
  by_cases h2 : L.length < 2
  · have HP : Hid (CompactQ base g cap L (.returned (.slice (some ⟨g, 0, none⟩) L.length cap)) w) := by
      have e : compQ L = L := (CHQ.start hpos).done (by omega)
      show CompactQ _ _ _ _ _ _
      unfold CompactQ
      rw [e]
      exact ⟨rfl, hown, Below.refl _ _, Nat.le_refl _⟩
    clear hown
    go_enter Tryz.func116, Tryz.ntmps116
    go_wp2_with fail
    go_ret
    exact HP.out
  have hcap : L.length ≤ cap := own_cap hown
  have HO := Lib.hid hown
  have HSS := Lib.hid hS
  have HS := Lib.hid (CHQ.start hpos)
  clear hown hS
  go_enter Tryz.func116, Tryz.ntmps116
  go_wp2_with fail
  go_loopw [5] (fun s5 wr => ∃ k : Nat, s5 = .int .i64 ((k + 1 : Nat) : Int) ∧ CHQ L k ∧ wr.ownsRow base 77 5 (.slice (some ⟨g, 0, none⟩) L.length cap) L.length (L.flatMap encP) ∧ Ext w wr) (fun s5 _ => L.length - (intOf s5).toNat)
  case atStart => exact ⟨0, rfl, HS.out, HO.out, Ext.refl _⟩
  case round =>
    obtain ⟨k, rfl, hC, hO, hB⟩ := hrel
    have hkl := hC.lt
    by_cases hlast : k + 1 < L.length
    rotate_left
    · have HP : Hid (CompactQ base g cap L (.returned (.slice (some ⟨g, 0, none⟩) L.length cap)) wr) := by
        have e : compQ L = L := hC.done (by omega)
        show CompactQ _ _ _ _ _ _
        unfold CompactQ
        rw [e]
        exact ⟨rfl, hO, hB.mono hbw, hB.size⟩
      clear hC hO
      go_wp2_with fail
      go_ret
      exact HP.out
    have HX := Lib.hid (And.intro hC (And.intro hO hB))
    have X1 := pa_cells hO (k + 1) hlast
    have Y1 := pa_cells hO k hkl
    have HCr0 := Lib.hid (fun W (y : Ext wr W) => And.intro (X1.ext y) (Y1.ext y))
    have HCM0 := Lib.hid (fun W (y : Ext wr W) => colcl_gr L[k + 1].p.1 L[k].p.1 L[k + 1].k L[k + 1].s L[k + 1].n L[k + 1].xa L[k + 1].l L[k + 1].c L[k + 1].p.2 L[k].k L[k].s L[k].n L[k].xa L[k].l L[k].c L[k].p.2 W L[k + 1].zv L[k].zv (L[k + 1].isAt HSS.out ((hB.trans y).mono hbw)) (L[k].isAt HSS.out ((hB.trans y).mono hbw)))
    clear hC hO hB X1 Y1
    generalize hx : L[k + 1] = x at HCr0 HCM0
    generalize hy : L[k] = y at HCr0 HCM0
    have HE := Lib.hid (And.intro hx hy)
    have HCr : Hid (∀ W, Ext wr W → ((W.cell? ⟨g, (k + 1) * 5, none⟩ = some (.int .i64 x.k) ∧ W.cell? ⟨g, (k + 1) * 5 + 1, none⟩ = some (.string x.n) ∧ W.cell? ⟨g, (k + 1) * 5 + 2, none⟩ = some (.int .i64 x.s) ∧ W.cell? ⟨g, (k + 1) * 5 + 3, none⟩ = some (.slice x.xa x.l x.c)) ∧ W.cell? ⟨g, (k + 1) * 5 + 4, none⟩ = some (.int .i64 x.p.2)) ∧ ((W.cell? ⟨g, k * 5, none⟩ = some (.int .i64 y.k) ∧ W.cell? ⟨g, k * 5 + 1, none⟩ = some (.string y.n) ∧ W.cell? ⟨g, k * 5 + 2, none⟩ = some (.int .i64 y.s) ∧ W.cell? ⟨g, k * 5 + 3, none⟩ = some (.slice y.xa y.l y.c)) ∧ W.cell? ⟨g, k * 5 + 4, none⟩ = some (.int .i64 y.p.2))) := HCr0.out
    have hw1 : IntKind.i64.wrap ((k : Int) + 1 - 1) = (k : Int) := by rw [Int.add_sub_cancel]; exact IntWalk.i64_in _ (by omega)
    have hw2 : IntKind.i64.wrap (k : Int) = (k : Int) := IntWalk.i64_in _ (by omega)
    have i1 : (0 : Int) ≤ (k : Int) + 1 := by omega
    have i2 : (k : Int) + 1 < (L.length : Int) := by omega
    have i3 : (0 : Int) ≤ (k : Int) := by omega
    have i4 : (k : Int) < (L.length : Int) := by omega
    have i5 : ((k : Int) + 1).toNat = k + 1 := by omega
    have hF0 : Ext wr wr.drew := (Ext.refl wr).drew
    obtain ⟨⟨⟨x0, x1, x2, x3⟩, x4⟩, ⟨y0, y1, y2, y3⟩, y4⟩ := HCr.out wr (Ext.refl _)
    clear hx hy HCr0
    by_cases he : cmpT x.p.1 y.p.1 = 0
    · have hd : (cmpT x.p.1 y.p.1 == 0) = true := by simp [he]
      have HDE := Lib.hid he
      rw [hd] at HCM0
      clear he hd
      go_wp2_with fail
      go_region_held3 (fun W => ((W.cell? ⟨g, (k + 1) * 5, none⟩ = some (.int .i64 x.k) ∧ W.cell? ⟨g, (k + 1) * 5 + 1, none⟩ = some (.string x.n) ∧ W.cell? ⟨g, (k + 1) * 5 + 2, none⟩ = some (.int .i64 x.s) ∧ W.cell? ⟨g, (k + 1) * 5 + 3, none⟩ = some (.slice x.xa x.l x.c)) ∧ W.cell? ⟨g, (k + 1) * 5 + 4, none⟩ = some (.int .i64 x.p.2)) ∧ ((W.cell? ⟨g, k * 5, none⟩ = some (.int .i64 y.k) ∧ W.cell? ⟨g, k * 5 + 1, none⟩ = some (.string y.n) ∧ W.cell? ⟨g, k * 5 + 2, none⟩ = some (.int .i64 y.s) ∧ W.cell? ⟨g, k * 5 + 3, none⟩ = some (.slice y.xa y.l y.c)) ∧ W.cell? ⟨g, k * 5 + 4, none⟩ = some (.int .i64 y.p.2)))
        (first | exact HCr.out _ (by assumption) | go_keep)
        (first | (go_at_call 117; refine (HCM0.out _ hF0).mono ?_; rintro e w4 ⟨he4, hG⟩; subst he4; have hF1 : Ext wr w4 := hF0.trans hG.below; clear hG))
      clear x0 x1 x2 x3 x4 y0 y1 y2 y3 y4
      have j1 : (k : Int) + 1 ≤ (L.length : Int) := by omega
      have j2 : (L.length : Int) ≤ (cap : Int) := by omega
      have HY := Lib.hid hF1
      clear hF1 hF0
      go_wp2_with fail
      go_loopw [5, 7] (fun s5 s7 wr' => ∃ (kk q : Nat) (cur : List (PA S w)), s5 = .int .i64 (kk : Int) ∧ s7 = .int .i64 ((q + 1 : Nat) : Int) ∧ CIQ L cur (k + 1 + q) kk ∧ wr'.ownsRow base 77 5 (.slice (some ⟨g, 0, none⟩) L.length cap) L.length (cur.flatMap encP) ∧ Below base w wr' ∧ w.heap.size ≤ wr'.heap.size) (fun _ s7 _ => L.length - (intOf s7).toNat)
      case atStart =>
        refine ⟨k + 1, 0, L, by go_num, rfl, CIQ.start HX.out.1 hlast (by rw [HE.out.1, HE.out.2]; exact HDE.out), ?_, (HX.out.2.2.trans HY.out).mono hbw, (HX.out.2.2.trans HY.out).size⟩
        exact own_heap HX.out.2.1 (fun q hq => HY.out.block q (HX.out.2.1.lt q hq).2)
      case round =>
        obtain ⟨kk, q, cur, rfl, rfl, hI, hO2, hB3, hsz3⟩ := hrel
        have hcl := hI.len
        have hkp := hI.lt
        have hpl := hI.plt
        have HX2 := Lib.hid (And.intro hI (And.intro hO2 (And.intro hB3 hsz3)))
        have hg := hO2.lt g rfl
        by_cases hlt2 : k + 1 + q + 1 < L.length
        · have n1 := pa_high hI hO2 (k + 1 + q + 1) (by omega) hlt2
          have n2 := pa_high hI hO2 (k + 1 + q) (Nat.le_refl _) hpl
          rw [show (k + 1 + q + 1) * 5 = (k + 1) * 5 + (q + 1) * 5 by omega] at n1
          rw [show (k + 1 + q) * 5 = (k + 1) * 5 + q * 5 by omega] at n2
          have HCs0 := Lib.hid (fun W (y : Ext wr W) => And.intro (n1.ext y) (n2.ext y))
          have HCM := Lib.hid (fun W (y : Ext wr W) => colcl_gr L[k + 1 + q + 1].p.1 L[k + 1 + q].p.1 L[k + 1 + q + 1].k L[k + 1 + q + 1].s L[k + 1 + q + 1].n L[k + 1 + q + 1].xa L[k + 1 + q + 1].l L[k + 1 + q + 1].c L[k + 1 + q + 1].p.2 L[k + 1 + q].k L[k + 1 + q].s L[k + 1 + q].n L[k + 1 + q].xa L[k + 1 + q].l L[k + 1 + q].c L[k + 1 + q].p.2 W L[k + 1 + q + 1].zv L[k + 1 + q].zv (L[k + 1 + q + 1].isAt HSS.out (hB3.trans (y.mono (Nat.le_trans hbw hsz3)))) (L[k + 1 + q].isAt HSS.out (hB3.trans (y.mono (Nat.le_trans hbw hsz3)))))
          clear n1 n2
          generalize hu : L[k + 1 + q + 1] = u at HCs0 HCM
          generalize hv : L[k + 1 + q] = v at HCs0 HCM
          have HUV := Lib.hid (And.intro hu hv)
          have HCs : Hid (∀ W, Ext wr W → ((W.cell? ⟨g, (k + 1) * 5 + (q + 1) * 5, none⟩ = some (.int .i64 u.k) ∧ W.cell? ⟨g, (k + 1) * 5 + (q + 1) * 5 + 1, none⟩ = some (.string u.n) ∧ W.cell? ⟨g, (k + 1) * 5 + (q + 1) * 5 + 2, none⟩ = some (.int .i64 u.s) ∧ W.cell? ⟨g, (k + 1) * 5 + (q + 1) * 5 + 3, none⟩ = some (.slice u.xa u.l u.c)) ∧ W.cell? ⟨g, (k + 1) * 5 + (q + 1) * 5 + 4, none⟩ = some (.int .i64 u.p.2)) ∧ ((W.cell? ⟨g, (k + 1) * 5 + q * 5, none⟩ = some (.int .i64 v.k) ∧ W.cell? ⟨g, (k + 1) * 5 + q * 5 + 1, none⟩ = some (.string v.n) ∧ W.cell? ⟨g, (k + 1) * 5 + q * 5 + 2, none⟩ = some (.int .i64 v.s) ∧ W.cell? ⟨g, (k + 1) * 5 + q * 5 + 3, none⟩ = some (.slice v.xa v.l v.c)) ∧ W.cell? ⟨g, (k + 1) * 5 + q * 5 + 4, none⟩ = some (.int .i64 v.p.2))) := HCs0.out
          obtain ⟨⟨⟨x0, x1, x2, x3⟩, x4⟩, ⟨y0, y1, y2, y3⟩, y4⟩ := HCs.out wr (Ext.refl _)
          have hF0 : Ext wr wr.drew := (Ext.refl wr).drew
          have hw3 : IntKind.i64.wrap ((q : Int) + 1 - 1) = (q : Int) := by rw [Int.add_sub_cancel]; exact IntWalk.i64_in _ (by omega)
          have hw4 : IntKind.i64.wrap (q : Int) = (q : Int) := IntWalk.i64_in _ (by omega)
          have m1 : (0 : Int) ≤ (q : Int) + 1 := by omega
          have m2 : (q : Int) + 1 < ((L.length - (k + 1) : Nat) : Int) := by omega
          have m3 : (0 : Int) ≤ (q : Int) := by omega
          have m4 : (q : Int) < ((L.length - (k + 1) : Nat) : Int) := by omega
          have m5 : ((q : Int) + 1).toNat = q + 1 := by omega
          have m6 : (0 : Int) ≤ (kk : Int) := by omega
          have m7 : (kk : Int) < (L.length : Int) := by omega
          clear hu hv hI hO2 hB3 HCs0
          by_cases huv : cmpT u.p.1 v.p.1 = 0
          · have hd : (cmpT u.p.1 v.p.1 == 0) = true := by simp [huv]
            have HDE2 := Lib.hid huv
            rw [hd] at HCM
            clear huv hd
            go_wp2_with fail
            go_region_held3 (fun W => ((W.cell? ⟨g, (k + 1) * 5 + (q + 1) * 5, none⟩ = some (.int .i64 u.k) ∧ W.cell? ⟨g, (k + 1) * 5 + (q + 1) * 5 + 1, none⟩ = some (.string u.n) ∧ W.cell? ⟨g, (k + 1) * 5 + (q + 1) * 5 + 2, none⟩ = some (.int .i64 u.s) ∧ W.cell? ⟨g, (k + 1) * 5 + (q + 1) * 5 + 3, none⟩ = some (.slice u.xa u.l u.c)) ∧ W.cell? ⟨g, (k + 1) * 5 + (q + 1) * 5 + 4, none⟩ = some (.int .i64 u.p.2)) ∧ ((W.cell? ⟨g, (k + 1) * 5 + q * 5, none⟩ = some (.int .i64 v.k) ∧ W.cell? ⟨g, (k + 1) * 5 + q * 5 + 1, none⟩ = some (.string v.n) ∧ W.cell? ⟨g, (k + 1) * 5 + q * 5 + 2, none⟩ = some (.int .i64 v.s) ∧ W.cell? ⟨g, (k + 1) * 5 + q * 5 + 3, none⟩ = some (.slice v.xa v.l v.c)) ∧ W.cell? ⟨g, (k + 1) * 5 + q * 5 + 4, none⟩ = some (.int .i64 v.p.2)))
              (first | exact HCs.out _ (by assumption) | go_keep)
              (first | (go_at_call 117; refine (HCM.out _ hF0).mono ?_; rintro e w4 ⟨he4, hG⟩; subst he4; have hF1 : Ext wr w4 := hF0.trans hG.below; clear hG))
            have HB4 := Lib.hid hF1
            clear x0 x1 x2 x3 x4 y0 y1 y2 y3 y4 hF1 hF0
            go_wp2_with fail
            go_roundw
            case rel => exact ⟨kk, q + 1, cur, rfl, by go_num, HX2.out.1.skip hlt2 (by rw [HUV.out.1, HUV.out.2]; exact HDE2.out), own_heap HX2.out.2.1 (fun r hr => HB4.out.block r (HX2.out.2.1.lt r hr).2), HX2.out.2.2.1.trans (HB4.out.mono (Nat.le_trans hbw hsz3)), Nat.le_trans hsz3 HB4.out.size⟩
            case measure => simp [intOf]; omega
          · have hd : (cmpT u.p.1 v.p.1 == 0) = false := by simp [huv]
            have HDE2 := Lib.hid huv
            rw [hd] at HCM
            clear huv hd
            go_wp2_with fail
            go_region_held3 (fun W => ((W.cell? ⟨g, (k + 1) * 5 + (q + 1) * 5, none⟩ = some (.int .i64 u.k) ∧ W.cell? ⟨g, (k + 1) * 5 + (q + 1) * 5 + 1, none⟩ = some (.string u.n) ∧ W.cell? ⟨g, (k + 1) * 5 + (q + 1) * 5 + 2, none⟩ = some (.int .i64 u.s) ∧ W.cell? ⟨g, (k + 1) * 5 + (q + 1) * 5 + 3, none⟩ = some (.slice u.xa u.l u.c)) ∧ W.cell? ⟨g, (k + 1) * 5 + (q + 1) * 5 + 4, none⟩ = some (.int .i64 u.p.2)) ∧ ((W.cell? ⟨g, (k + 1) * 5 + q * 5, none⟩ = some (.int .i64 v.k) ∧ W.cell? ⟨g, (k + 1) * 5 + q * 5 + 1, none⟩ = some (.string v.n) ∧ W.cell? ⟨g, (k + 1) * 5 + q * 5 + 2, none⟩ = some (.int .i64 v.s) ∧ W.cell? ⟨g, (k + 1) * 5 + q * 5 + 3, none⟩ = some (.slice v.xa v.l v.c)) ∧ W.cell? ⟨g, (k + 1) * 5 + q * 5 + 4, none⟩ = some (.int .i64 v.p.2)))
              (first | exact HCs.out _ (by assumption) | go_keep)
              (first | (go_at_call 117; refine (HCM.out _ hF0).mono ?_; rintro e w4 ⟨he4, hG⟩; subst he4; have hF1 : Ext wr w4 := hF0.trans hG.below; clear hG))
            have HB4 := Lib.hid hF1
            have HO4 := Lib.hid (own_heap (w' := w4) HX2.out.2.1 (fun r hr => HB4.out.block r (HX2.out.2.1.lt r hr).2))
            clear x0 x1 x2 x3 x4 y0 y1 y2 y3 y4
            obtain ⟨⟨⟨x0, x1, x2, x3⟩, x4⟩, ⟨y0, y1, y2, y3⟩, y4⟩ := HCs.out w4 hF1
            obtain ⟨⟨z0, z1, z2, z3, z4, d0, d1, d2, d3, d4⟩, hz⟩ := pa_room HO4.out kk (by omega)
            have f0 := hz (kk * 5)
            have f1 := hz (kk * 5 + 1)
            have f2 := hz (kk * 5 + 2)
            have f3 := hz (kk * 5 + 3)
            have f4 := hz (kk * 5 + 4)
            clear y0 y1 y2 y3 y4 hF1 hF0 hz
            go_wp2_with fail
            go_roundw
            case rel => exact ⟨kk + 1, q + 1, cur.set kk u, by go_num, by go_num, by have := HX2.out.1.keep hlt2 (by rw [HUV.out.1, HUV.out.2]; exact HDE2.out); rw [HUV.out.1] at this; exact this, own_pa HO4.out (by omega) u, put5_below (HX2.out.2.2.1.trans (HB4.out.mono (Nat.le_trans hbw hsz3))) hg.1, Nat.le_trans (Nat.le_trans hsz3 HB4.out.size) (Nat.le_of_eq (put5_size _ _ _ _ _ _ _ _).symm)⟩
            case measure => simp [intOf]; omega
        · have HE2 := Lib.hid (compactQ_end hI hO2 hB3 hsz3 (by omega))
          have hclr := clear_powers hO2 (kk := kk) (by omega)
          have m2 : ¬ (q : Int) + 1 < ((L.length - (k + 1) : Nat) : Int) := by omega
          have m7 : (kk : Int) ≤ (L.length : Int) := by omega
          have m8 : (0 : Int) ≤ (kk : Int) := by omega
          have m9 : (kk : Int) ≤ (cap : Int) := by omega
          clear hI hO2 hB3 HX2
          go_wp2_with fail
          go_ret
          exact HE2.out
    · have hd : (cmpT x.p.1 y.p.1 == 0) = false := by simp [he]
      have HDE := Lib.hid he
      rw [hd] at HCM0
      clear he hd
      go_wp2_with fail
      go_region_held3 (fun W => ((W.cell? ⟨g, (k + 1) * 5, none⟩ = some (.int .i64 x.k) ∧ W.cell? ⟨g, (k + 1) * 5 + 1, none⟩ = some (.string x.n) ∧ W.cell? ⟨g, (k + 1) * 5 + 2, none⟩ = some (.int .i64 x.s) ∧ W.cell? ⟨g, (k + 1) * 5 + 3, none⟩ = some (.slice x.xa x.l x.c)) ∧ W.cell? ⟨g, (k + 1) * 5 + 4, none⟩ = some (.int .i64 x.p.2)) ∧ ((W.cell? ⟨g, k * 5, none⟩ = some (.int .i64 y.k) ∧ W.cell? ⟨g, k * 5 + 1, none⟩ = some (.string y.n) ∧ W.cell? ⟨g, k * 5 + 2, none⟩ = some (.int .i64 y.s) ∧ W.cell? ⟨g, k * 5 + 3, none⟩ = some (.slice y.xa y.l y.c)) ∧ W.cell? ⟨g, k * 5 + 4, none⟩ = some (.int .i64 y.p.2)))
        (first | exact HCr.out _ (by assumption) | go_keep)
        (first | (go_at_call 117; refine (HCM0.out _ hF0).mono ?_; rintro e w4 ⟨he4, hG⟩; subst he4; have hF1 : Ext wr w4 := hF0.trans hG.below; clear hG))
      have HY := Lib.hid hF1
      clear x0 x1 x2 x3 x4 y0 y1 y2 y3 y4 hF1 hF0
      go_wp2_with fail
      go_roundw
      case rel => exact ⟨k + 1, by go_num, HX.out.1.step hlast (by rw [HE.out.1, HE.out.2]; exact HDE.out), own_heap HX.out.2.1 (fun r hr => HY.out.block r (HX.out.2.1.lt r hr).2), HX.out.2.2.trans HY.out⟩
      case measure => simp [intOf]; omega
end
/-- The columns of a sorted row, in the same block. -/
def UniqPost (H : Nat) (S : Nat → Prop) (w : World) (xa : Option Addr) (cap : Nat) (ps : List Pw) (e : Ending) (w' : World) : Prop :=
  e = .returned (.slice xa (uniqP ps).length cap) ∧ OwnP H S w' (uniqP ps) (.slice xa (uniqP ps).length cap) ∧ Below H w w' ∧ w.heap.size ≤ w'.heap.size
theorem compact_any {H g n cap : Nat} {S : Nat → Prop} {ps : List Pw} {vs : List Value} {w : World} (hown : w.ownsRow H 77 5 (.slice (some ⟨g, 0, none⟩) n cap) n vs) (hK : KP S w ps vs) (hS : ∀ b, S b → b < H) (hHw : H ≤ w.heap.size) (hn : 0 < n) (hsz : SzP 1073741824 ps) (hlt : n < 1073741824) :
    Calls Tryz.prog 116 #[.slice (some ⟨g, 0, none⟩) n cap, .func (.func 117) #[] #[]] w (UniqPost H S w (some ⟨g, 0, none⟩) cap ps) := by
  obtain ⟨l, e1, e2⟩ := KP_PA ps vs hK hsz
  have hvl : vs.length = l.length * 5 := by rw [e2, flatE_len encP 5 encP_len]
  have hnl : n = l.length := by have := hown.1; omega
  subst hnl
  rw [e2] at hown
  refine (compact_pa l hS hown hHw (by omega) hn).mono fun e w' h => ?_
  obtain ⟨rfl, h1, h2, h3⟩ := h
  have hl : (compQ l).length = (uniqP ps).length := by rw [← e1, ← compQ_uniq, List.length_map]
  refine ⟨by rw [hl], ⟨_, by rw [← hl]; exact h1, ?_⟩, h2, h3⟩
  rw [← e1, ← compQ_uniq]
  exact PA_KP (fun b hb => h2.block b (hS b hb)) (fun _ h => h) (compQ l)
end Go.Proofs.YtcieadjjcpmieaaGreat
