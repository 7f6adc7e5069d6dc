/-
  PLAIN TERMS, MORE: lists compared, budgets.
-/
import Derived.Test.YthhhmjjgckkdhaaDoorPure
namespace Go.Proofs.YthhhmjjgckkdhaaDoor

/-- Whether two lists of terms are equal, by the order. -/
def listsEq (l m : List Tm) : Bool := decide (l.length = m.length) && (cmpL l m == 0)

mutual
def bud : Tm → Int → Int
  | .mk _ n _ ks, most => if most ≤ 0 then -1 else if 40 < (n.size : Int) then -1 else budL ks (most - 1)
def budL : List Tm → Int → Int
  | [], most => most
  | t :: ts, most => if bud t most < 0 then -1 else budL ts (bud t most)
end
def fewL : List Tm → Int → Bool
  | [], _ => true
  | t :: ts, most => if bud t most < 0 then false else fewL ts (bud t most)
def few (l : List Tm) (n most : Int) : Bool := if n < (l.length : Int) then false else fewL l most

theorem bud_spec (t : Tm) : ∀ most : Int, 0 ≤ bud t most → bud t most = most - size t := by
  refine Tm.rec (motive_1 := fun t => ∀ most : Int, 0 ≤ bud t most → bud t most = most - size t) (motive_2 := fun ts => ∀ most : Int, 0 ≤ budL ts most → budL ts most = most - sizes ts) ?_ ?_ ?_ t
  · intro k n s ks ih most h
    simp only [bud] at h ⊢
    split at h
    · omega
    · split at h
      · omega
      · rename_i h1 h2
        rw [if_neg h1, if_neg h2, ih _ h]; simp only [size]; omega
  · intro most h; simp only [budL, sizes]; omega
  · intro t ts h1 h2 most h
    simp only [budL] at h ⊢
    split at h
    · omega
    · rename_i hn
      rw [if_neg hn, h2 _ h, h1 most (by omega)]; simp only [sizes]; omega
theorem bud_le (t : Tm) (most : Int) (h : 0 ≤ bud t most) : (size t : Int) ≤ most := by
  have := bud_spec t most h; omega
theorem bud_le' (t : Tm) (most : Int) (h : 0 ≤ most) : bud t most ≤ most := by
  by_cases h1 : 0 ≤ bud t most
  · have := bud_spec t most h1; omega
  · omega
theorem bud_range (t : Tm) : ∀ most : Int, -1 ≤ bud t most ∧ bud t most ≤ max most (-1) := by
  refine Tm.rec (motive_1 := fun t => ∀ most : Int, -1 ≤ bud t most ∧ bud t most ≤ max most (-1)) (motive_2 := fun ts => ∀ most : Int, -1 ≤ most → -1 ≤ budL ts most ∧ budL ts most ≤ max most (-1)) ?_ ?_ ?_ t
  · intro k n s ks ih most
    simp only [bud]
    split
    · omega
    · split
      · omega
      · have := ih (most - 1) (by omega); omega
  · intro most h; simp only [budL]; omega
  · intro t ts h1 h2 most h
    simp only [budL]
    have := h1 most
    split
    · omega
    · have := h2 (bud t most) (by omega); omega
theorem fewL_sizes : ∀ (l : List Tm) (most : Int), 0 ≤ most → fewL l most = true → (sizes l : Int) ≤ most
  | [], most, h, _ => by simpa [sizes] using h
  | t :: ts, most, h, h2 => by
    simp only [fewL] at h2
    split at h2
    · simp at h2
    · rename_i hn
      have h3 := bud_spec t most (by omega)
      have := fewL_sizes ts (bud t most) (by omega) h2
      simp only [sizes]; omega

/-- How deep calls go under a budget. -/
theorem budL_drop (l : List Tm) (j : Nat) (h : j < l.length) (most : Int) : budL (l.drop j) most = if bud l[j] most < 0 then -1 else budL (l.drop (j + 1)) (bud l[j] most) := by
  rw [List.drop_eq_getElem_cons h]; simp only [budL]
theorem fewL_drop (l : List Tm) (j : Nat) (h : j < l.length) (most : Int) : fewL (l.drop j) most = if bud l[j] most < 0 then false else fewL (l.drop (j + 1)) (bud l[j] most) := by
  rw [List.drop_eq_getElem_cons h]; simp only [fewL]

end Go.Proofs.YthhhmjjgckkdhaaDoor
