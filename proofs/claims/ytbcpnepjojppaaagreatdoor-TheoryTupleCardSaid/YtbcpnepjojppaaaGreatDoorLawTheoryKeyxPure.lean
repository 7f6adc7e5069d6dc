import Derived.Lib.Bytealg
import Derived.Lib.Strings
import Derived.WalkKit
namespace Go.Proofs.YtbcpnepjojppaaaGreatDoor
inductive Tm where
  | mk (kind : Int) (name : ByteArray) (sort : Int) (kids : List Tm)
namespace Tm
def kind : Tm → Int | mk k _ _ _ => k
def name : Tm → ByteArray | mk _ n _ _ => n
def sort : Tm → Int | mk _ _ s _ => s
def kids : Tm → List Tm | mk _ _ _ ks => ks
end Tm
mutual
def size : Tm → Nat
  | .mk _ _ _ ks => 1 + sizes ks
def sizes : List Tm → Nat
  | [] => 0
  | t :: ts => size t + sizes ts
end
mutual
def depth : Tm → Nat
  | .mk _ _ _ ks => depths ks + 1
def depths : List Tm → Nat
  | [] => 0
  | t :: ts => max (depth t) (depths ts)
end
theorem size_pos (t : Tm) : 1 ≤ size t := by cases t; simp [size]
theorem depth_le_size : (∀ t : Tm, depth t ≤ size t) := by
  intro t
  refine Tm.rec (motive_1 := fun t => depth t ≤ size t) (motive_2 := fun ts => depths ts ≤ sizes ts) ?_ ?_ ?_ t
  · intro k n s ks ih; simp only [depth, size]; omega
  · simp [depths, sizes]
  · intro t ts h1 h2; simp only [depths, sizes]; omega
theorem sizes_append (l m : List Tm) : sizes (l ++ m) = sizes l + sizes m := by
  induction l with
  | nil => simp [sizes]
  | cons a l ih => simp [sizes, ih]; omega
theorem depths_append (l m : List Tm) : depths (l ++ m) = max (depths l) (depths m) := by
  induction l with
  | nil => simp [depths]
  | cons a l ih => simp [depths, ih]
theorem length_le_sizes (l : List Tm) : l.length ≤ sizes l := by
  induction l with
  | nil => simp [sizes]
  | cons a l ih => simp [sizes]; have := size_pos a; omega
theorem sizes_take (l : List Tm) (j : Nat) (h : j < l.length) : sizes (l.take (j + 1)) = sizes (l.take j) + size l[j] := by
  rw [List.take_succ_eq_append_getElem h, sizes_append]; simp [sizes]
theorem depths_take (l : List Tm) (j : Nat) (h : j < l.length) : depths (l.take (j + 1)) = max (depths (l.take j)) (depth l[j]) := by
  rw [List.take_succ_eq_append_getElem h, depths_append]; simp [depths]
theorem sizes_take_le (l : List Tm) (j : Nat) : sizes (l.take j) ≤ sizes l := by
  have := sizes_append (l.take j) (l.drop j); rw [List.take_append_drop] at this; omega
theorem size_le_sizes {l : List Tm} {t : Tm} (h : t ∈ l) : size t ≤ sizes l := by
  induction l with
  | nil => simp at h
  | cons a l ih =>
    simp only [List.mem_cons] at h
    simp only [sizes]
    rcases h with rfl | h
    · omega
    · have := ih h; omega
def num (a b : Int) : Int := if a < b then -1 else if b < a then 1 else 0
def str (a b : ByteArray) : Int := Lib.compareBytes a.data.toList b.data.toList
def orr (a b : Int) : Int := if a = 0 then b else a
def orl : List Int → Int
  | [] => 0
  | x :: xs => orr x (orl xs)
mutual
def cmpT : Tm → Tm → Int
  | .mk k n s ks, .mk k' n' s' ks' => orr (num ((1 + sizes ks : Nat) : Int) ((1 + sizes ks' : Nat) : Int)) (orr (num k k') (orr (str n n') (orr (num s s') (orr (num ks.length ks'.length) (cmpL ks ks')))))
def cmpL : List Tm → List Tm → Int
  | a :: as, b :: bs => orr (cmpT a b) (cmpL as bs)
  | _, _ => 0
end
theorem bytesLess_cmp : ∀ x y : List UInt8, Op.bytesLess x y = decide (Lib.compareBytes x y = -1)
  | [], [] => by simp [Op.bytesLess, Lib.compareBytes]
  | [], _ :: _ => by simp [Op.bytesLess, Lib.compareBytes]
  | _ :: _, [] => by simp [Op.bytesLess, Lib.compareBytes]
  | a :: x, b :: y => by
    rw [Op.bytesLess, Lib.compareBytes, bytesLess_cmp x y]
    by_cases h : a < b
    · simp [h]
    · by_cases h2 : b < a
      · have : a ≠ b := fun e => by subst e; exact h h2
        simp [h, h2, this]
      · have : a = b := by
          have h3 := UInt8.not_lt.1 h; have h4 := UInt8.not_lt.1 h2
          exact UInt8.le_antisymm h4 h3
        subst this
        simp [h]
theorem compareBytes_range : ∀ x y : List UInt8, Lib.compareBytes x y = -1 ∨ Lib.compareBytes x y = 0 ∨ Lib.compareBytes x y = 1
  | [], [] => by simp [Lib.compareBytes]
  | [], _ :: _ => by simp [Lib.compareBytes]
  | _ :: _, [] => by simp [Lib.compareBytes]
  | a :: x, b :: y => by
    rw [Lib.compareBytes]
    by_cases h : a < b
    · simp [h]
    · by_cases h2 : b < a
      · simp [h, h2]
      · simp only [h, h2, if_false]; exact compareBytes_range x y
theorem compareBytes_zero : ∀ x y : List UInt8, Lib.compareBytes x y = 0 ↔ x = y
  | [], [] => by simp [Lib.compareBytes]
  | [], _ :: _ => by simp [Lib.compareBytes]
  | _ :: _, [] => by simp [Lib.compareBytes]
  | a :: x, b :: y => by
    rw [Lib.compareBytes]
    by_cases h : a < b
    · have : a ≠ b := fun e => by subst e; exact absurd h (UInt8.lt_irrefl _)
      simp [h, this]
    · by_cases h2 : b < a
      · have : a ≠ b := fun e => by subst e; exact h h2
        simp [h, h2, this]
      · have : a = b := by
          have h3 := UInt8.not_lt.1 h; have h4 := UInt8.not_lt.1 h2
          exact UInt8.le_antisymm h4 h3
        subst this
        simp [h, compareBytes_zero x y]
theorem compareBytes_anti : ∀ x y : List UInt8, Lib.compareBytes y x = -Lib.compareBytes x y
  | [], [] => by simp [Lib.compareBytes]
  | [], _ :: _ => by simp [Lib.compareBytes]
  | _ :: _, [] => by simp [Lib.compareBytes]
  | a :: x, b :: y => by
    rw [Lib.compareBytes, Lib.compareBytes]
    by_cases h : a < b
    · have h2 : ¬ b < a := fun h2 => absurd (UInt8.lt_trans h h2) (UInt8.lt_irrefl _)
      simp [h, h2]
    · by_cases h2 : b < a
      · simp [h, h2]
      · simp only [h, h2, if_false]; exact compareBytes_anti x y
theorem compareBytes_trans : ∀ x y z : List UInt8, Lib.compareBytes x y = -1 → Lib.compareBytes y z = -1 → Lib.compareBytes x z = -1
  | [], [], _ => by simp [Lib.compareBytes]
  | [], _ :: _, [] => by simp [Lib.compareBytes]
  | [], _ :: _, _ :: _ => by simp [Lib.compareBytes]
  | _ :: _, [], _ => by simp [Lib.compareBytes]
  | _ :: _, _ :: _, [] => by simp [Lib.compareBytes]
  | a :: x, b :: y, c :: z => by
    rw [Lib.compareBytes, Lib.compareBytes, Lib.compareBytes]
    by_cases h : a < b
    · by_cases h2 : b < c
      · simp [h, h2, UInt8.lt_trans h h2]
      · by_cases h3 : c < b
        · simp [h, h2, h3]
        · have : b = c := UInt8.le_antisymm (UInt8.not_lt.1 h3) (UInt8.not_lt.1 h2)
          subst this
          simp [h]
    · by_cases h4 : b < a
      · simp [h, h4]
      · have : a = b := UInt8.le_antisymm (UInt8.not_lt.1 h4) (UInt8.not_lt.1 h)
        subst this
        by_cases h2 : a < c
        · simp [h2]
        · by_cases h3 : c < a
          · simp [h2, h3]
          · simp only [h, h2, h3, if_false]; exact compareBytes_trans x y z
theorem str_less (a b : ByteArray) : Op.bytesLess a.toList b.toList = decide (str a b = -1) := by
  rw [bytesLess_cmp, Lib.toList_data, Lib.toList_data]; rfl
theorem str_gtr (a b : ByteArray) : (!(Op.bytesLess a.toList b.toList || a.toList == b.toList)) = decide (str a b = 1) := by
  rw [bytesLess_cmp, Lib.toList_data, Lib.toList_data]
  have h0 := compareBytes_zero a.data.toList b.data.toList
  have hr := compareBytes_range a.data.toList b.data.toList
  unfold str
  by_cases e : a.data.toList = b.data.toList
  · rw [h0.2 e]; simp [e]
  · have hne : Lib.compareBytes a.data.toList b.data.toList ≠ 0 := fun h => e (h0.1 h)
    rcases hr with h | h | h
    · simp [h]
    · exact absurd h hne
    · rw [h]; simpa using e
theorem str_zero (a b : ByteArray) : str a b = 0 ↔ a = b := by
  unfold str
  rw [compareBytes_zero]
  constructor
  · intro h; cases a; cases b; simp only [ByteArray.mk.injEq]; exact Array.toList_inj.1 h
  · intro h; rw [h]
theorem str_range (a b : ByteArray) : str a b = -1 ∨ str a b = 0 ∨ str a b = 1 := compareBytes_range _ _
theorem str_anti (a b : ByteArray) : str b a = -str a b := compareBytes_anti _ _
theorem cmpL_take (l m : List Tm) (j : Nat) (h : j < l.length) (h2 : j < m.length) : cmpL (l.take (j + 1)) (m.take (j + 1)) = orr (cmpL (l.take j) (m.take j)) (cmpT l[j] m[j]) := by
  induction l generalizing m j with
  | nil => simp at h
  | cons a l ih =>
    cases m with
    | nil => simp at h2
    | cons b m =>
      cases j with
      | zero =>
        simp only [List.take_succ_cons, List.take_zero, cmpL, List.getElem_cons_zero]
        simp only [orr]; split <;> simp_all
      | succ j =>
        have := ih m j (by simpa using h) (by simpa using h2)
        simp only [List.take_succ_cons, cmpL, List.getElem_cons_succ]
        rw [this]
        simp only [orr]; split <;> simp_all
theorem cmpL_drop (l m : List Tm) (j : Nat) (h : j < l.length) (h2 : j < m.length) : cmpL (l.drop j) (m.drop j) = orr (cmpT l[j] m[j]) (cmpL (l.drop (j + 1)) (m.drop (j + 1))) := by
  rw [List.drop_eq_getElem_cons h, List.drop_eq_getElem_cons h2]; simp only [cmpL]
end Go.Proofs.YtbcpnepjojppaaaGreatDoor
namespace Go.Proofs.YtbcpnepjojppaaaGreatDoor
def listsEq (l m : List Tm) : Bool := decide (l.length = m.length) && (cmpL l m == 0)
mutual
def bud : Tm → Int → Int
  | .mk _ n _ ks, most => if most ≤ 0 then -1 else if 40 < (n.size : Int) then -1 else budL ks (most - 1)
def budL : List Tm → Int → Int
  | [], most => most
  | t :: ts, most => if bud t most < 0 then -1 else budL ts (bud t most)
end
def fewL : List Tm → Int → Bool
  | [], _ => true
  | t :: ts, most => if bud t most < 0 then false else fewL ts (bud t most)
def few (l : List Tm) (n most : Int) : Bool := if n < (l.length : Int) then false else fewL l most
theorem bud_spec (t : Tm) : ∀ most : Int, 0 ≤ bud t most → bud t most = most - size t := by
  refine Tm.rec (motive_1 := fun t => ∀ most : Int, 0 ≤ bud t most → bud t most = most - size t) (motive_2 := fun ts => ∀ most : Int, 0 ≤ budL ts most → budL ts most = most - sizes ts) ?_ ?_ ?_ t
  · intro k n s ks ih most h
    simp only [bud] at h ⊢
    split at h
    · omega
    · split at h
      · omega
      · rename_i h1 h2
        rw [if_neg h1, if_neg h2, ih _ h]; simp only [size]; omega
  · intro most h; simp only [budL, sizes]; omega
  · intro t ts h1 h2 most h
    simp only [budL] at h ⊢
    split at h
    · omega
    · rename_i hn
      rw [if_neg hn, h2 _ h, h1 most (by omega)]; simp only [sizes]; omega
theorem bud_range (t : Tm) : ∀ most : Int, -1 ≤ bud t most ∧ bud t most ≤ max most (-1) := by
  refine Tm.rec (motive_1 := fun t => ∀ most : Int, -1 ≤ bud t most ∧ bud t most ≤ max most (-1)) (motive_2 := fun ts => ∀ most : Int, -1 ≤ most → -1 ≤ budL ts most ∧ budL ts most ≤ max most (-1)) ?_ ?_ ?_ t
  · intro k n s ks ih most
    simp only [bud]
    split
    · omega
    · split
      · omega
      · have := ih (most - 1) (by omega); omega
  · intro most h; simp only [budL]; omega
  · intro t ts h1 h2 most h
    simp only [budL]
    have := h1 most
    split
    · omega
    · have := h2 (bud t most) (by omega); omega
theorem fewL_sizes : ∀ (l : List Tm) (most : Int), 0 ≤ most → fewL l most = true → (sizes l : Int) ≤ most
  | [], most, h, _ => by simpa [sizes] using h
  | t :: ts, most, h, h2 => by
    simp only [fewL] at h2
    split at h2
    · simp at h2
    · rename_i hn
      have h3 := bud_spec t most (by omega)
      have := fewL_sizes ts (bud t most) (by omega) h2
      simp only [sizes]; omega
theorem budL_drop (l : List Tm) (j : Nat) (h : j < l.length) (most : Int) : budL (l.drop j) most = if bud l[j] most < 0 then -1 else budL (l.drop (j + 1)) (bud l[j] most) := by
  rw [List.drop_eq_getElem_cons h]; simp only [budL]
theorem fewL_drop (l : List Tm) (j : Nat) (h : j < l.length) (most : Int) : fewL (l.drop j) most = if bud l[j] most < 0 then false else fewL (l.drop (j + 1)) (bud l[j] most) := by
  rw [List.drop_eq_getElem_cons h]; simp only [fewL]
end Go.Proofs.YtbcpnepjojppaaaGreatDoor
namespace Go.Proofs.YtbcpnepjojppaaaGreatDoor
def T3 (p q r : Int) : Prop := (p < 0 → q < 0 → r < 0) ∧ (p = 0 → r = q) ∧ (q = 0 → r = p)
theorem T3.orr {p q r p' q' r' : Int} (h : T3 p q r) (h' : p = 0 → q = 0 → T3 p' q' r') : T3 (orr p p') (orr q q') (orr r r') := by
  obtain ⟨h1, h2, h3⟩ := h
  unfold T3 Go.Proofs.YtbcpnepjojppaaaGreatDoor.orr
  by_cases hp : p = 0
  · have hr := h2 hp
    by_cases hq : q = 0
    · obtain ⟨g1, g2, g3⟩ := h' hp hq
      have hr0 : r = 0 := by omega
      simp only [hp, hq, hr0, if_true]
      exact ⟨g1, g2, g3⟩
    · have hr0 : ¬ r = 0 := by omega
      simp only [hp, hq, hr0, if_true, if_false]
      refine ⟨fun _ h => by omega, fun _ => hr, fun h => by simp_all⟩
  · by_cases hq : q = 0
    · have hr := h3 hq
      have hr0 : ¬ r = 0 := by omega
      simp only [hp, hq, hr0, if_true, if_false]
      exact ⟨fun h _ => by omega, fun h => by simp_all, fun _ => hr⟩
    · simp only [hp, hq, if_false]
      refine ⟨fun a b => ?_, fun h => by simp_all, fun h => by simp_all⟩
      have := h1 a b
      rw [if_neg (by omega)]; exact this
theorem num_T3 (a b c : Int) : T3 (num a b) (num b c) (num a c) := by
  unfold T3 num
  refine ⟨?_, ?_, ?_⟩ <;> (intros; repeat' split) <;> omega
theorem num_anti (a b : Int) : num b a = -num a b := by
  unfold num; repeat' split <;> omega
theorem num_self (a : Int) : num a a = 0 := by simp [num]
theorem str_T3 (a b c : ByteArray) : T3 (str a b) (str b c) (str a c) := by
  refine ⟨fun h1 h2 => ?_, fun h => ?_, fun h => ?_⟩
  · have e1 : str a b = -1 := by rcases str_range a b with h | h | h <;> omega
    have e2 : str b c = -1 := by rcases str_range b c with h | h | h <;> omega
    have : str a c = -1 := compareBytes_trans _ _ _ e1 e2
    omega
  · rw [(str_zero a b).1 h]
  · rw [(str_zero b c).1 h]
theorem orr_anti (a b : Int) : orr (-a) (-b) = -orr a b := by
  unfold orr; split <;> split <;> omega
theorem T3_zero : T3 0 0 0 := ⟨fun h => by omega, fun _ => rfl, fun _ => rfl⟩
theorem cmpT_self (t : Tm) : cmpT t t = 0 := by
  refine Tm.rec (motive_1 := fun t => cmpT t t = 0) (motive_2 := fun ts => cmpL ts ts = 0) ?_ ?_ ?_ t
  · intro k n s ks ih
    simp only [cmpT, num_self, ih, orr, if_true, (str_zero n n).2 rfl]
  · simp [cmpL]
  · intro t ts h1 h2; simp only [cmpL, h1, h2, orr, if_true]
theorem cmpT_anti (t : Tm) : ∀ u, cmpT u t = -cmpT t u := by
  refine Tm.rec (motive_1 := fun t => ∀ u, cmpT u t = -cmpT t u) (motive_2 := fun ts => ∀ us, cmpL us ts = -cmpL ts us) ?_ ?_ ?_ t
  · intro k n s ks ih u
    obtain ⟨k', n', s', ks'⟩ := u
    simp only [cmpT]
    rw [num_anti ((1 + sizes ks : Nat) : Int), num_anti k, str_anti n, num_anti s, num_anti (ks.length : Int), ih ks', orr_anti, orr_anti, orr_anti, orr_anti, orr_anti]
  · intro us; cases us <;> simp [cmpL]
  · intro t ts h1 h2 us
    cases us with
    | nil => simp [cmpL]
    | cons u us => simp only [cmpL, h1 u, h2 us, orr_anti]
theorem cmpT_T3 (t : Tm) : ∀ u v, T3 (cmpT t u) (cmpT u v) (cmpT t v) := by
  refine Tm.rec (motive_1 := fun t => ∀ u v, T3 (cmpT t u) (cmpT u v) (cmpT t v)) (motive_2 := fun ts => ∀ us vs, ts.length = us.length → us.length = vs.length → T3 (cmpL ts us) (cmpL us vs) (cmpL ts vs)) ?_ ?_ ?_ t
  · intro k n s ks ih u v
    obtain ⟨k', n', s', ks'⟩ := u
    obtain ⟨k'', n'', s'', ks''⟩ := v
    simp only [cmpT]
    refine (num_T3 _ _ _).orr fun _ _ => (num_T3 _ _ _).orr fun _ _ => (str_T3 _ _ _).orr fun _ _ => (num_T3 _ _ _).orr fun _ _ => (num_T3 _ _ _).orr fun h1 h2 => ih ks' ks'' ?_ ?_
    · unfold num at h1; split at h1 <;> (try split at h1) <;> omega
    · unfold num at h2; split at h2 <;> (try split at h2) <;> omega
  · intro us vs h1 h2
    cases us with
    | nil => cases vs with
      | nil => simp only [cmpL]; exact T3_zero
      | cons v vs => simp at h2
    | cons u us => simp at h1
  · intro t ts ht hts us vs h1 h2
    cases us with
    | nil => simp at h1
    | cons u us => cases vs with
      | nil => simp at h2
      | cons v vs =>
        simp only [cmpL]
        exact (ht u v).orr fun _ _ => hts us vs (by simpa using h1) (by simpa using h2)
theorem orr_zero {a b : Int} (h : orr a b = 0) : a = 0 ∧ b = 0 := by
  unfold orr at h; split at h
  · exact ⟨by assumption, h⟩
  · exact absurd h (by assumption)
theorem num_zero' {a b : Int} (h : num a b = 0) : a = b := by
  unfold num at h; split at h <;> (try split at h) <;> omega
theorem cmpT_zero (t : Tm) : ∀ u, cmpT t u = 0 → t = u := by
  refine Tm.rec (motive_1 := fun t => ∀ u, cmpT t u = 0 → t = u) (motive_2 := fun ts => ∀ us, ts.length = us.length → cmpL ts us = 0 → ts = us) ?_ ?_ ?_ t
  · intro k n s ks ih u h
    obtain ⟨k', n', s', ks'⟩ := u
    simp only [cmpT] at h
    obtain ⟨_, h⟩ := orr_zero h
    obtain ⟨h1, h⟩ := orr_zero h
    obtain ⟨h2, h⟩ := orr_zero h
    obtain ⟨h3, h⟩ := orr_zero h
    obtain ⟨h4, h⟩ := orr_zero h
    have h4' := num_zero' h4
    rw [num_zero' h1, (str_zero n n').1 h2, num_zero' h3, ih ks' (by omega) h]
  · intro us hl _
    cases us with
    | nil => rfl
    | cons u us => simp at hl
  · intro t ts ht hts us hl h
    cases us with
    | nil => simp at hl
    | cons u us =>
      simp only [cmpL] at h
      obtain ⟨h1, h2⟩ := orr_zero h
      rw [ht u h1, hts us (by simpa using hl) h2]
theorem cmpT_trans {t u v : Tm} (h1 : cmpT t u < 0) (h2 : cmpT u v < 0) : cmpT t v < 0 := (cmpT_T3 t u v).1 h1 h2
theorem cmpT_ntrans {t u v : Tm} (h1 : ¬ cmpT t u < 0) (h2 : ¬ cmpT u v < 0) : ¬ cmpT t v < 0 := by
  obtain ⟨g1, g2, g3⟩ := cmpT_T3 v u t
  rw [cmpT_anti u v, cmpT_anti t u, cmpT_anti t v] at *
  rcases Int.lt_trichotomy (cmpT u v) 0 with h | h | h
  · omega
  · have := g2 (by omega); omega
  · rcases Int.lt_trichotomy (cmpT t u) 0 with h' | h' | h'
    · omega
    · have := g3 (by omega); omega
    · have := g1 (by omega) (by omega); omega
end Go.Proofs.YtbcpnepjojppaaaGreatDoor
namespace Go.Proofs.YtbcpnepjojppaaaGreatDoor
def addR (t : Tm) : List Tm → Bool → List Tm
  | [], d => if d then [] else [t]
  | x :: xs, d => if d then x :: addR t xs true else if cmpT t x < 0 then t :: x :: addR t xs true else if cmpT t x = 0 then x :: addR t xs true else x :: addR t xs false
theorem addR_true (t : Tm) : ∀ l, addR t l true = l
  | [] => rfl
  | x :: xs => by simp only [addR, if_true, addR_true t xs]
theorem addR_set (t : Tm) : ∀ l : List Tm, l.Pairwise (fun a b => cmpT a b < 0) → (addR t l false).Pairwise (fun a b => cmpT a b < 0) ∧ ∀ u, u ∈ addR t l false ↔ u = t ∨ u ∈ l
  | [], _ => by simp [addR]
  | x :: xs, h => by
    obtain ⟨h1, h2⟩ := List.pairwise_cons.1 h
    obtain ⟨ih1, ih2⟩ := addR_set t xs h2
    simp only [addR, Bool.false_eq_true, if_false]
    by_cases hlt : cmpT t x < 0
    · rw [if_pos hlt, addR_true]
      refine ⟨List.pairwise_cons.2 ⟨fun u hu => ?_, h⟩, fun u => by simp⟩
      rw [List.mem_cons] at hu
      rcases hu with rfl | hu
      · exact hlt
      · exact cmpT_trans hlt (h1 u hu)
    · rw [if_neg hlt]
      by_cases hz : cmpT t x = 0
      · rw [if_pos hz, addR_true]
        have e := cmpT_zero t x hz
        subst e
        exact ⟨h, fun u => by simp⟩
      · rw [if_neg hz]
        have hgt : cmpT x t < 0 := by have := cmpT_anti t x; omega
        refine ⟨List.pairwise_cons.2 ⟨fun u hu => ?_, ih1⟩, fun u => ?_⟩
        · rcases (ih2 u).1 hu with rfl | hu
          · exact hgt
          · exact h1 u hu
        · rw [List.mem_cons, ih2, List.mem_cons]
          constructor
          · rintro (h | h | h)
            · exact Or.inr (Or.inl h)
            · exact Or.inl h
            · exact Or.inr (Or.inr h)
          · rintro (h | h | h)
            · exact Or.inr (Or.inl h)
            · exact Or.inl h
            · exact Or.inr (Or.inr h)
theorem addR_len (t : Tm) : ∀ (l : List Tm) (d : Bool), (addR t l d).length ≤ l.length + 1
  | [], d => by cases d <;> simp [addR]
  | x :: xs, d => by
    have h1 := addR_len t xs true
    have h2 := addR_len t xs false
    have h3 := addR_true t xs
    simp only [addR]
    split
    · simp only [List.length_cons]; omega
    · split
      · rw [h3]; simp
      · split
        · simp only [List.length_cons]; omega
        · simp only [List.length_cons]; omega
end Go.Proofs.YtbcpnepjojppaaaGreatDoor
