/-
  THE WALK OF the reference's Parts: all fields of a term as one string.
-/
import Derived.Test.YtkfbbkkfagglhaaGreatDoorRef
import Derived.Test.YtkfbbkkfagglhaaGreatDoorExt
import Derived.Test.YtkfbbkkfagglhaaGreatDoorElems
namespace Go.Proofs.YtkfbbkkfagglhaaGreatDoor
open Go.RowKit

mutual
/-- The text of all fields. -/
def partT : Tm → ByteArray
  | .mk k n s ks => partL ((strOfNums [k % 256, s % 256, (ks.length : Int) % 256] ++ n) ++ ⟨#[40]⟩) ks ++ ⟨#[41]⟩
def partL : ByteArray → List Tm → ByteArray
  | acc, [] => acc
  | acc, t :: ts => partL ((acc ++ partT t) ++ ⟨#[44]⟩) ts
end
theorem partL_snoc : ∀ (l : List Tm) (acc : ByteArray) (t : Tm), partL acc (l ++ [t]) = (partL acc l ++ partT t) ++ ⟨#[44]⟩
  | [], acc, t => by simp only [List.nil_append, partL]
  | x :: l, acc, t => by simp only [List.cons_append, partL, partL_snoc l]
theorem partL_take (l : List Tm) (acc : ByteArray) (j : Nat) (h : j < l.length) : partL acc (l.take (j + 1)) = (partL acc (l.take j) ++ partT l[j]) ++ ⟨#[44]⟩ := by
  rw [List.take_succ_eq_append_getElem h, partL_snoc]
theorem ba_app (a b : ByteArray) : (a ++ b).size = a.size + b.size := ByteArray.size_append ..
theorem ba_one (x : UInt8) : (⟨#[x]⟩ : ByteArray).size = 1 := rfl
theorem partL_size : ∀ (l : List Tm) (acc : ByteArray), acc.size ≤ (partL acc l).size
  | [], acc => by simp only [partL]; exact Nat.le_refl _
  | x :: l, acc => by
    have := partL_size l ((acc ++ partT x) ++ ⟨#[44]⟩)
    rw [ba_app, ba_app] at this
    simp only [partL]; omega
theorem partL_mono (l : List Tm) (acc : ByteArray) (j : Nat) (h : j < l.length) : (partL acc (l.take j)).size + (partT l[j]).size + 1 ≤ (partL acc l).size := by
  have h1 := partL_take l acc j h
  have h2 : partL acc l = partL (partL acc (l.take (j + 1))) (l.drop (j + 1)) := by
    have : ∀ (a b : List Tm) (acc : ByteArray), partL acc (a ++ b) = partL (partL acc a) b := by
      intro a
      induction a with
      | nil => intro b acc; rfl
      | cons x a ih => intro b acc; simp only [List.cons_append, partL]; exact ih b _
    rw [← this, List.take_append_drop]
  have h3 := partL_size (l.drop (j + 1)) (partL acc (l.take (j + 1)))
  rw [h2]
  rw [h1] at h3 ⊢
  rw [ba_app, ba_app, ba_one] at h3
  exact h3

end Go.Proofs.YtkfbbkkfagglhaaGreatDoor
