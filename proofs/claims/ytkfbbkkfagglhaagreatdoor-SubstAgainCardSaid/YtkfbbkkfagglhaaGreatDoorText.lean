/-
  THE TEXT OF A TERM, plain; the walks of the reference's word, Text, Format.
-/
import Derived.Test.YtkfbbkkfagglhaaGreatDoorValidb
import Derived.Test.YtkfbbkkfagglhaaGreatDoorParts
import Derived.Test.YtkfbbkkfagglhaaGreatDoorNode
import Derived.BigQuiet
namespace Go.Proofs.YtkfbbkkfagglhaaGreatDoor
open Go.RowKit

def wordB (s : Int) : ByteArray := if s = 0 then wAny else if s = 1 then wAgent else if s = 2 then wNonce else if s = 3 then wKey else if s = 4 then wData else wTag
mutual
/-- The text of a valid term. -/
def textT : Tm → ByteArray
  | .mk k n s ks => if k = 1 then (if s = 0 then bQ ++ n else ((bQ ++ n) ++ bColon) ++ wordB s) else if k = 2 then (n ++ bColon) ++ wordB s else textL (n ++ bOpen) false ks ++ bClose
def textL : ByteArray → Bool → List Tm → ByteArray
  | acc, _, [] => acc
  | acc, p, t :: ts => textL ((if p then acc ++ bComma else acc) ++ textT t) true ts
end
theorem textL_snoc : ∀ (l : List Tm) (acc : ByteArray) (p : Bool) (t : Tm), textL acc p (l ++ [t]) = (if p || !l.isEmpty then textL acc p l ++ bComma else textL acc p l) ++ textT t
  | [], acc, p, t => by simp [textL]
  | x :: l, acc, p, t => by
    simp only [List.cons_append, textL, textL_snoc l, Bool.true_or, if_true, List.isEmpty_cons, Bool.not_false, Bool.or_true]
theorem textL_take (l : List Tm) (acc : ByteArray) (j : Nat) (h : j < l.length) : textL acc false (l.take (j + 1)) = (if 0 < j then textL acc false (l.take j) ++ bComma else textL acc false (l.take j)) ++ textT l[j] := by
  rw [List.take_succ_eq_append_getElem h, textL_snoc]
  congr 1
  cases j with
  | zero => simp
  | succ j =>
    cases l with
    | nil => simp at h
    | cons a l => simp

theorem wordB_size (s : Int) : (wordB s).size ≤ 5 := by
  unfold wordB
  split; · decide
  split; · decide
  split; · decide
  split; · decide
  split; · decide
  decide

mutual
/-- What a term's text asks: kinds and sorts in their ranges. -/
def okT : Tm → Prop
  | .mk k _ s ks => (k = 1 ∨ k = 2 ∨ k = 3) ∧ (0 ≤ s ∧ s ≤ 5) ∧ okL ks
def okL : List Tm → Prop
  | [] => True
  | t :: ts => okT t ∧ okL ts
end
theorem okL_get : ∀ (l : List Tm) (j : Nat) (h : j < l.length), okL l → okT l[j]
  | t :: ts, 0, _, h => h.1
  | t :: ts, j + 1, hj, h => okL_get ts j (by simpa using hj) h.2
theorem valid_ok (t : Tm) : nodesE t = 0 → okT t := by
  refine Tm.rec (motive_1 := fun t => nodesE t = 0 → okT t) (motive_2 := fun ts => nodesL ts = 0 → okL ts) ?_ ?_ ?_ t
  · intro k n s ks ih h
    rw [nodesE_mk] at h
    split at h
    · rename_i h0
      have hk := ih h
      simp only [nodeE] at h0
      refine ⟨?_, ?_, hk⟩
      · split at h0
        · cases h0
        · omega
      · split at h0
        · cases h0
        split at h0
        · cases h0
        · omega
    · rename_i h0; exact absurd h h0
  · intro _; trivial
  · intro t ts h1 h2 h
    rw [nodesL] at h
    split at h
    · rename_i h0; exact ⟨h1 h0, h2 h⟩
    · rename_i h0; exact absurd h h0

theorem textL_size : ∀ (l : List Tm) (acc : ByteArray) (p : Bool), acc.size ≤ (textL acc p l).size
  | [], acc, p => by simp only [textL]; exact Nat.le_refl _
  | x :: l, acc, p => by
    have := textL_size l ((if p then acc ++ bComma else acc) ++ textT x) true
    rw [ba_app] at this
    simp only [textL]
    cases p
    · simp only [Bool.false_eq_true, if_false] at this ⊢; omega
    · simp only [if_true] at this ⊢; rw [ba_app] at this; omega
theorem textL_mono (l : List Tm) (acc : ByteArray) (j : Nat) (_h : j < l.length) : (textL acc false (l.take (j + 1))).size ≤ (textL acc false l).size := by
  have h2 : ∀ (a b : List Tm) (acc : ByteArray) (p : Bool), textL acc p (a ++ b) = textL (textL acc p a) (p || !a.isEmpty) b := by
    intro a
    induction a with
    | nil => intro b acc p; simp [textL]
    | cons x a ih => intro b acc p; simp only [List.cons_append, textL, ih, Bool.true_or, List.isEmpty_cons, Bool.not_false, Bool.or_true]
  have h3 := textL_size (l.drop (j + 1)) (textL acc false (l.take (j + 1))) (false || !(l.take (j + 1)).isEmpty)
  rw [← h2, List.take_append_drop] at h3
  exact h3

end Go.Proofs.YtkfbbkkfagglhaaGreatDoor

/-
  THE WALKS OF the reference's Text and Format.
-/
namespace Go.Proofs.YtkfbbkkfagglhaaGreatDoor
open Go.RowKit

section
variable (w : World) (n : ByteArray) (s : Int) (ks : List Tm) (xa : Option Addr) (cap : Nat)

end

theorem textL_first (n : ByteArray) (ks : List Tm) (s : Int) : textT (.mk 3 n s ks) = textL (n ++ (⟨#[40]⟩ : ByteArray)) false ks ++ ⟨#[41]⟩ := by
  simp only [textT]
  rw [if_neg (by omega), if_neg (by omega)]; rfl

end Go.Proofs.YtkfbbkkfagglhaaGreatDoor

/-
  THE WALK OF the reference's Format; what it computes.
-/
namespace Go.Proofs.YtkfbbkkfagglhaaGreatDoor
open Go.RowKit

/-- The text of a valid term, or no text and its error. -/
def formP (t : Tm) : ByteArray × Int := if validE t = 0 then (textT t, 0) else (⟨#[]⟩, validE t)
theorem validE_zero {t : Tm} (h : validE t = 0) : nodesE t = 0 ∧ size t ≤ 400 ∧ depth t ≤ 40 := by
  unfold validE at h
  split at h
  · rename_i h0
    split at h
    · cases h
    · exact ⟨h0, by omega, by omega⟩
  · rename_i h0; exact absurd h h0

end Go.Proofs.YtkfbbkkfagglhaaGreatDoor
