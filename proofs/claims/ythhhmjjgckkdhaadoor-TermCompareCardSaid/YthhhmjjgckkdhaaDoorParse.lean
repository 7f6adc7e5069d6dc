/-
  WHAT Parse DOES, AS A PLAIN FUNCTION; the texts get shorter.
-/
import Derived.Test.YthhhmjjgckkdhaaDoorNext
namespace Go.Proofs.YthhhmjjgckkdhaaDoor
open Go.RowKit

/-- The parser's rounds: none where the text is wrong; else what remains, whether a limit is exceeded, and the term. -/
def runP : Nat → List (ByteArray × List Tm) → ByteArray → Int → Bool → Option (ByteArray × Bool × Tm)
  | 0, _, _, _, _ => none
  | n + 1, st, rest, nodes, large =>
    if (nextP st rest (nodes + 1) large).1 = false then none
    else match (nextP st rest (nodes + 1) large).2.2.2.2 with
      | some u => some ((nextP st rest (nodes + 1) large).2.1, (nextP st rest (nodes + 1) large).2.2.2.1, u)
      | none => runP n (nextP st rest (nodes + 1) large).2.2.1 (nextP st rest (nodes + 1) large).2.1 (nodes + 1) (nextP st rest (nodes + 1) large).2.2.2.1

def zeroT : Tm := .mk 0 ByteArray.empty 0 []
def finP : Option (ByteArray × Bool × Tm) → Tm × Int
  | none => (zeroT, 2)
  | some (rest, large, u) => if rest.toList.isEmpty = false then (zeroT, 2) else if large then (zeroT, 3) else (u, 0)
def parseP (s : ByteArray) : Tm × Int := finP (runP (s.size + 1) [] s 0 false)

theorem sortP_size (rest : ByteArray) : ∀ (l : List ByteArray) (i : Int), (sortP rest i l).2.2.size ≤ rest.size
  | [], i => Nat.le_refl _
  | p :: ps, i => by
    simp only [sortP]
    split
    · exact takeB_size rest p
    · exact sortP_size rest ps (i + 1)
theorem vsortP_size (rest : ByteArray) : (vsortP rest).2.2.size ≤ rest.size := by
  unfold vsortP
  split
  · exact Nat.le_trans (sortP_size _ _ _) (takeB_size _ _)
  · exact Nat.le_refl _
theorem nodeP_size (rest : ByteArray) (h : (nodeP rest).2.2.2.1 = true) : (nodeP rest).2.2.2.2.size < rest.size := by
  have h1 := takeB_size rest bQ
  have h2 : isNameB (nodeName rest).data.toList = true → (nodeRest rest).size < rest.size := fun hn => by
    have h3 : 0 < (nodeName rest).data.toList.length := by
      simp only [isNameB, Bool.and_eq_true, decide_eq_true_eq] at hn; exact hn.1.1
    have h4 : (nodeName rest).data.toList.length = (nodeName rest).size := by simp
    have h5 : (nodeName rest).size ≤ (takeB rest bQ).size := by
      unfold nodeName; rw [ByteArray.size_extract]; omega
    unfold nodeRest
    rw [ByteArray.size_extract]; omega
  have h6 := vsortP_size (nodeRest rest)
  have h7 := takeB_size (nodeRest rest) bOpen
  have h8 := takeB_size (nodeRest rest) bColon
  have h9 := sortP_size (takeB (nodeRest rest) bColon) sortW 0
  unfold nodeP at h ⊢
  split at h
  · simp at h
  · rename_i hn
    have hn' : isNameB (nodeName rest).data.toList = true := by simpa using hn
    have := h2 hn'
    rw [if_neg hn]
    split
    · simp only; omega
    · split
      · simp only; omega
      · split
        · rename_i a b c
          rw [if_neg a, if_neg b, if_pos c] at h
          simp at h
        · simp only; omega
theorem endP_size : ∀ (st : List (ByteArray × List Tm)) (rest : ByteArray) (large : Bool) (t : Tm), (endP st rest large t).2.1.size ≤ rest.size
  | [], rest, large, t => Nat.le_refl _
  | (nm, ks) :: st, rest, large, t => by
    rw [endP]
    split
    · exact takeB_size rest bComma
    · split
      · exact Nat.le_trans (endP_size st _ _ _) (takeB_size rest bClose)
      · exact Nat.le_refl _
theorem nextP_size (st : List (ByteArray × List Tm)) (rest : ByteArray) (nodes : Int) (large : Bool) (h : (nextP st rest nodes large).1 = true) : (nextP st rest nodes large).2.1.size < rest.size := by
  unfold nextP at h ⊢
  split at h
  · simp at h
  · rename_i hn
    have hn' : (nodeP rest).2.2.2.1 = true := by simpa using hn
    have h1 := nodeP_size rest hn'
    rw [if_neg hn]
    split
    · exact h1
    · refine Nat.lt_of_le_of_lt (endP_size _ _ _ _) ?_
      split
      · exact Nat.lt_of_le_of_lt (takeB_size _ _) h1
      · exact h1

end Go.Proofs.YthhhmjjgckkdhaaDoor
