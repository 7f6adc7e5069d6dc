/-
  PLAIN TERMS: trees of a kind, a name, a sort and kids; their size, depth, order. No program stands here.
-/
import Derived.WalkKit
import Derived.Lib.Bytealg
import Derived.Lib.Strings
namespace Go.Proofs.YthhhmjjgckkdhaaDoor

/-- A term as plain data. -/
inductive Tm where
  | mk (kind : Int) (name : ByteArray) (sort : Int) (kids : List Tm)

namespace Tm
def kind : Tm → Int | mk k _ _ _ => k
def name : Tm → ByteArray | mk _ n _ _ => n
def sort : Tm → Int | mk _ _ s _ => s
def kids : Tm → List Tm | mk _ _ _ ks => ks
end Tm

mutual
def size : Tm → Nat
  | .mk _ _ _ ks => 1 + sizes ks
def sizes : List Tm → Nat
  | [] => 0
  | t :: ts => size t + sizes ts
end

mutual
def depth : Tm → Nat
  | .mk _ _ _ ks => depths ks + 1
def depths : List Tm → Nat
  | [] => 0
  | t :: ts => max (depth t) (depths ts)
end

theorem size_pos (t : Tm) : 1 ≤ size t := by cases t; simp [size]
theorem depth_le_size : (∀ t : Tm, depth t ≤ size t) := by
  intro t
  refine Tm.rec (motive_1 := fun t => depth t ≤ size t) (motive_2 := fun ts => depths ts ≤ sizes ts) ?_ ?_ ?_ t
  · intro k n s ks ih; simp only [depth, size]; omega
  · simp [depths, sizes]
  · intro t ts h1 h2; simp only [depths, sizes]; omega

theorem sizes_append (l m : List Tm) : sizes (l ++ m) = sizes l + sizes m := by
  induction l with
  | nil => simp [sizes]
  | cons a l ih => simp [sizes, ih]; omega
theorem depths_append (l m : List Tm) : depths (l ++ m) = max (depths l) (depths m) := by
  induction l with
  | nil => simp [depths]
  | cons a l ih => simp [depths, ih]
theorem length_le_sizes (l : List Tm) : l.length ≤ sizes l := by
  induction l with
  | nil => simp [sizes]
  | cons a l ih => simp [sizes]; have := size_pos a; omega
theorem sizes_take (l : List Tm) (j : Nat) (h : j < l.length) : sizes (l.take (j + 1)) = sizes (l.take j) + size l[j] := by
  rw [List.take_succ_eq_append_getElem h, sizes_append]; simp [sizes]
theorem depths_take (l : List Tm) (j : Nat) (h : j < l.length) : depths (l.take (j + 1)) = max (depths (l.take j)) (depth l[j]) := by
  rw [List.take_succ_eq_append_getElem h, depths_append]; simp [depths]
theorem sizes_take_le (l : List Tm) (j : Nat) : sizes (l.take j) ≤ sizes l := by
  have := sizes_append (l.take j) (l.drop j); rw [List.take_append_drop] at this; omega
theorem size_le_sizes {l : List Tm} {t : Tm} (h : t ∈ l) : size t ≤ sizes l := by
  induction l with
  | nil => simp at h
  | cons a l ih =>
    simp only [List.mem_cons] at h
    simp only [sizes]
    rcases h with rfl | h
    · omega
    · have := ih h; omega

/-- Numbers compared as Go's cmp.Compare does. -/
def num (a b : Int) : Int := if a < b then -1 else if b < a then 1 else 0
/-- Strings compared bytewise. -/
def str (a b : ByteArray) : Int := Lib.compareBytes a.data.toList b.data.toList
/-- The first that is not zero. -/
def orr (a b : Int) : Int := if a = 0 then b else a
def orl : List Int → Int
  | [] => 0
  | x :: xs => orr x (orl xs)

mutual
def cmpT : Tm → Tm → Int
  | .mk k n s ks, .mk k' n' s' ks' => orr (num ((1 + sizes ks : Nat) : Int) ((1 + sizes ks' : Nat) : Int)) (orr (num k k') (orr (str n n') (orr (num s s') (orr (num ks.length ks'.length) (cmpL ks ks')))))
def cmpL : List Tm → List Tm → Int
  | a :: as, b :: bs => orr (cmpT a b) (cmpL as bs)
  | _, _ => 0
end

theorem bytesLess_cmp : ∀ x y : List UInt8, Op.bytesLess x y = decide (Lib.compareBytes x y = -1)
  | [], [] => by simp [Op.bytesLess, Lib.compareBytes]
  | [], _ :: _ => by simp [Op.bytesLess, Lib.compareBytes]
  | _ :: _, [] => by simp [Op.bytesLess, Lib.compareBytes]
  | a :: x, b :: y => by
    rw [Op.bytesLess, Lib.compareBytes, bytesLess_cmp x y]
    by_cases h : a < b
    · simp [h]
    · by_cases h2 : b < a
      · have : a ≠ b := fun e => by subst e; exact h h2
        simp [h, h2, this]
      · have : a = b := by
          have h3 := UInt8.not_lt.1 h; have h4 := UInt8.not_lt.1 h2
          exact UInt8.le_antisymm h4 h3
        subst this
        simp [h]
theorem compareBytes_range : ∀ x y : List UInt8, Lib.compareBytes x y = -1 ∨ Lib.compareBytes x y = 0 ∨ Lib.compareBytes x y = 1
  | [], [] => by simp [Lib.compareBytes]
  | [], _ :: _ => by simp [Lib.compareBytes]
  | _ :: _, [] => by simp [Lib.compareBytes]
  | a :: x, b :: y => by
    rw [Lib.compareBytes]
    by_cases h : a < b
    · simp [h]
    · by_cases h2 : b < a
      · simp [h, h2]
      · simp only [h, h2, if_false]; exact compareBytes_range x y
theorem compareBytes_zero : ∀ x y : List UInt8, Lib.compareBytes x y = 0 ↔ x = y
  | [], [] => by simp [Lib.compareBytes]
  | [], _ :: _ => by simp [Lib.compareBytes]
  | _ :: _, [] => by simp [Lib.compareBytes]
  | a :: x, b :: y => by
    rw [Lib.compareBytes]
    by_cases h : a < b
    · have : a ≠ b := fun e => by subst e; exact absurd h (UInt8.lt_irrefl _)
      simp [h, this]
    · by_cases h2 : b < a
      · have : a ≠ b := fun e => by subst e; exact h h2
        simp [h, h2, this]
      · have : a = b := by
          have h3 := UInt8.not_lt.1 h; have h4 := UInt8.not_lt.1 h2
          exact UInt8.le_antisymm h4 h3
        subst this
        simp [h, compareBytes_zero x y]
theorem compareBytes_anti : ∀ x y : List UInt8, Lib.compareBytes y x = -Lib.compareBytes x y
  | [], [] => by simp [Lib.compareBytes]
  | [], _ :: _ => by simp [Lib.compareBytes]
  | _ :: _, [] => by simp [Lib.compareBytes]
  | a :: x, b :: y => by
    rw [Lib.compareBytes, Lib.compareBytes]
    by_cases h : a < b
    · have h2 : ¬ b < a := fun h2 => absurd (UInt8.lt_trans h h2) (UInt8.lt_irrefl _)
      simp [h, h2]
    · by_cases h2 : b < a
      · simp [h, h2]
      · simp only [h, h2, if_false]; exact compareBytes_anti x y
theorem compareBytes_trans : ∀ x y z : List UInt8, Lib.compareBytes x y = -1 → Lib.compareBytes y z = -1 → Lib.compareBytes x z = -1
  | [], [], _ => by simp [Lib.compareBytes]
  | [], _ :: _, [] => by simp [Lib.compareBytes]
  | [], _ :: _, _ :: _ => by simp [Lib.compareBytes]
  | _ :: _, [], _ => by simp [Lib.compareBytes]
  | _ :: _, _ :: _, [] => by simp [Lib.compareBytes]
  | a :: x, b :: y, c :: z => by
    rw [Lib.compareBytes, Lib.compareBytes, Lib.compareBytes]
    by_cases h : a < b
    · by_cases h2 : b < c
      · simp [h, h2, UInt8.lt_trans h h2]
      · by_cases h3 : c < b
        · simp [h, h2, h3]
        · have : b = c := UInt8.le_antisymm (UInt8.not_lt.1 h3) (UInt8.not_lt.1 h2)
          subst this
          simp [h]
    · by_cases h4 : b < a
      · simp [h, h4]
      · have : a = b := UInt8.le_antisymm (UInt8.not_lt.1 h4) (UInt8.not_lt.1 h)
        subst this
        by_cases h2 : a < c
        · simp [h2]
        · by_cases h3 : c < a
          · simp [h2, h3]
          · simp only [h, h2, h3, if_false]; exact compareBytes_trans x y z

theorem str_less (a b : ByteArray) : Op.bytesLess a.toList b.toList = decide (str a b = -1) := by
  rw [bytesLess_cmp, Lib.toList_data, Lib.toList_data]; rfl
theorem str_gtr (a b : ByteArray) : (!(Op.bytesLess a.toList b.toList || a.toList == b.toList)) = decide (str a b = 1) := by
  rw [bytesLess_cmp, Lib.toList_data, Lib.toList_data]
  have h0 := compareBytes_zero a.data.toList b.data.toList
  have hr := compareBytes_range a.data.toList b.data.toList
  unfold str
  by_cases e : a.data.toList = b.data.toList
  · rw [h0.2 e]; simp [e]
  · have hne : Lib.compareBytes a.data.toList b.data.toList ≠ 0 := fun h => e (h0.1 h)
    rcases hr with h | h | h
    · simp [h]
    · exact absurd h hne
    · rw [h]; simpa using e
theorem str_zero (a b : ByteArray) : str a b = 0 ↔ a = b := by
  unfold str
  rw [compareBytes_zero]
  constructor
  · intro h; cases a; cases b; simp only [ByteArray.mk.injEq]; exact Array.toList_inj.1 h
  · intro h; rw [h]
theorem str_range (a b : ByteArray) : str a b = -1 ∨ str a b = 0 ∨ str a b = 1 := compareBytes_range _ _
theorem str_anti (a b : ByteArray) : str b a = -str a b := compareBytes_anti _ _

theorem cmpL_take (l m : List Tm) (j : Nat) (h : j < l.length) (h2 : j < m.length) : cmpL (l.take (j + 1)) (m.take (j + 1)) = orr (cmpL (l.take j) (m.take j)) (cmpT l[j] m[j]) := by
  induction l generalizing m j with
  | nil => simp at h
  | cons a l ih =>
    cases m with
    | nil => simp at h2
    | cons b m =>
      cases j with
      | zero =>
        simp only [List.take_succ_cons, List.take_zero, cmpL, List.getElem_cons_zero]
        simp only [orr]; split <;> simp_all
      | succ j =>
        have := ih m j (by simpa using h) (by simpa using h2)
        simp only [List.take_succ_cons, cmpL, List.getElem_cons_succ]
        rw [this]
        simp only [orr]; split <;> simp_all

theorem cmpL_drop (l m : List Tm) (j : Nat) (h : j < l.length) (h2 : j < m.length) : cmpL (l.drop j) (m.drop j) = orr (cmpT l[j] m[j]) (cmpL (l.drop (j + 1)) (m.drop (j + 1))) := by
  rw [List.drop_eq_getElem_cons h, List.drop_eq_getElem_cons h2]; simp only [cmpL]

end Go.Proofs.YthhhmjjgckkdhaaDoor
