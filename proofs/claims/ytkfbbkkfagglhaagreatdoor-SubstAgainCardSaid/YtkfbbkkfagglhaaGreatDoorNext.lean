/-
  THE WALK OF next.
-/
import Derived.Test.YtkfbbkkfagglhaaGreatDoorEndb
namespace Go.Proofs.YtkfbbkkfagglhaaGreatDoor
open Go.RowKit

/-- What next does, of the state: whether it is right, what remains, the stack, whether a limit is exceeded, the root; 'nodes' counts this node already. -/
def nextP (st : List (ByteArray × List Tm)) (rest : ByteArray) (nodes : Int) (large : Bool) : Bool × ByteArray × List (ByteArray × List Tm) × Bool × Option Tm :=
  if (nodeP rest).2.2.2.1 = false then (false, (nodeP rest).2.2.2.2, st, large, none)
  else if (nodeP rest).1 = 3 ∧ preB (nodeP rest).2.2.2.2 bClose = false then (true, (nodeP rest).2.2.2.2, ((nodeP rest).2.1, []) :: st, large || decide (400 < nodes) || decide (40 ≤ st.length), none)
  else endP st (if (nodeP rest).1 = 3 then takeB (nodeP rest).2.2.2.2 bClose else (nodeP rest).2.2.2.2) (large || decide (400 < nodes) || decide (40 ≤ st.length)) (.mk (nodeP rest).1 (nodeP rest).2.1 (nodeP rest).2.2.1 [])

theorem IsIn_leaf {S : Nat → Prop} {w : World} {k s : Int} {nm : ByteArray} (h1 : 0 ≤ k ∧ k ≤ 3) (h2 : 0 ≤ s ∧ s ≤ 6) (h3 : nm.size ≤ maxLen) : IsIn S w (.mk k nm s []) (.int .i64 k) (.string nm) (.int .i64 s) (.slice none 0 0) := by
  simp only [IsIn]
  exact ⟨trivial, trivial, trivial, by omega, by omega, h3, by simp, none, 0, rfl, by simp, by simp [RowIn]⟩

theorem pst_length (l : List Fr) : (pst l).length = l.length := by simp [pst]

theorem sortP_range (rest : ByteArray) : ∀ (l : List ByteArray) (i : Int), 0 ≤ i → 0 ≤ (sortP rest i l).1 ∧ (sortP rest i l).1 ≤ i + l.length
  | [], i, h => by simp only [sortP, List.length_nil]; omega
  | p :: ps, i, h => by
    simp only [sortP]
    split
    · simp only [List.length_cons]; omega
    · have := sortP_range rest ps (i + 1) (by omega)
      simp only [List.length_cons]; omega
theorem vsortP_range (rest : ByteArray) : 0 ≤ (vsortP rest).1 ∧ (vsortP rest).1 ≤ 6 := by
  unfold vsortP
  split
  · have := sortP_range (takeB rest bColon) sortW 0 (by omega); simp only [sortW, List.length_cons, List.length_nil] at this ⊢; omega
  · simp
theorem nodeP_app (rest : ByteArray) (h : (nodeP rest).1 = 3) : (nodeP rest).2.2.1 = 0 := by
  unfold nodeP at h ⊢
  split at h
  · simp at h
  · split at h
    · simp at h
    · split at h
      · simp_all
      · split at h
        · simp at h
        · simp at h

theorem push_close1 {w1 : World} {gg pb n cap : Nat} {c0 c1 c2 c3 : Value} :
    ((((w1.setCell ⟨gg, n * 4, none⟩ c0).setCell ⟨gg, n * 4 + 1, none⟩ c1).setCell ⟨gg, n * 4 + 2, none⟩ c2).setCell ⟨gg, n * 4 + 3, none⟩ c3).setCell ⟨pb, 1, none⟩ (.slice (some ⟨gg, 0, none⟩) (n + 1) cap) = pushW w1 pb gg n cap c0 c1 c2 c3 := rfl
theorem push_close2 {w1 : World} {gg pb n cap : Nat} {c0 c1 c2 c3 : Value} (h : gg ≠ pb) :
    ((((w1.setCell ⟨pb, 1, none⟩ (.slice (some ⟨gg, 0, none⟩) (n + 1) cap)).setCell ⟨gg, n * 4, none⟩ c0).setCell ⟨gg, n * 4 + 1, none⟩ c1).setCell ⟨gg, n * 4 + 2, none⟩ c2).setCell ⟨gg, n * 4 + 3, none⟩ c3 = pushW w1 pb gg n cap c0 c1 c2 c3 := by
  unfold pushW put4
  rw [setCell_comm _ ⟨pb, 1, none⟩ ⟨gg, n * 4, none⟩ _ _ (fun e => h e.symm), setCell_comm _ ⟨pb, 1, none⟩ ⟨gg, n * 4 + 1, none⟩ _ _ (fun e => h e.symm),
    setCell_comm _ ⟨pb, 1, none⟩ ⟨gg, n * 4 + 2, none⟩ _ _ (fun e => h e.symm), setCell_comm _ ⟨pb, 1, none⟩ ⟨gg, n * 4 + 3, none⟩ _ _ (fun e => h e.symm)]

theorem nodeP_range (rest : ByteArray) : 0 ≤ (nodeP rest).1 ∧ (nodeP rest).1 ≤ 3 ∧ 0 ≤ (nodeP rest).2.2.1 ∧ (nodeP rest).2.2.1 ≤ 6 ∧ (nodeP rest).2.1.size ≤ rest.size := by
  have h1 : (nodeName rest).size ≤ rest.size := by
    unfold nodeName
    rw [ByteArray.size_extract]
    have := takeB_size rest bQ; omega
  have h2 : (ByteArray.empty : ByteArray).size = 0 := rfl
  have h3 := vsortP_range (nodeRest rest)
  have h4 := sortP_range (takeB (nodeRest rest) bColon) sortW 0 (by omega)
  have h5 : (sortW.length : Int) = 6 := rfl
  rw [h5] at h4
  unfold nodeP
  split
  · simp only; omega
  · split
    · simp only; omega
    · split
      · simp only; omega
      · split
        · simp only; omega
        · simp only; omega

end Go.Proofs.YtkfbbkkfagglhaaGreatDoor

/-
  WHAT Parse DOES, AS A PLAIN FUNCTION; the texts get shorter.
-/
namespace Go.Proofs.YtkfbbkkfagglhaaGreatDoor
open Go.RowKit

/-- The parser's rounds: none where the text is wrong; else what remains, whether a limit is exceeded, and the term. -/
def runP : Nat → List (ByteArray × List Tm) → ByteArray → Int → Bool → Option (ByteArray × Bool × Tm)
  | 0, _, _, _, _ => none
  | n + 1, st, rest, nodes, large =>
    if (nextP st rest (nodes + 1) large).1 = false then none
    else match (nextP st rest (nodes + 1) large).2.2.2.2 with
      | some u => some ((nextP st rest (nodes + 1) large).2.1, (nextP st rest (nodes + 1) large).2.2.2.1, u)
      | none => runP n (nextP st rest (nodes + 1) large).2.2.1 (nextP st rest (nodes + 1) large).2.1 (nodes + 1) (nextP st rest (nodes + 1) large).2.2.2.1

def zeroT : Tm := .mk 0 ByteArray.empty 0 []
def finP : Option (ByteArray × Bool × Tm) → Tm × Int
  | none => (zeroT, 2)
  | some (rest, large, u) => if rest.toList.isEmpty = false then (zeroT, 2) else if large then (zeroT, 3) else (u, 0)
def parseP (s : ByteArray) : Tm × Int := finP (runP (s.size + 1) [] s 0 false)

theorem sortP_size (rest : ByteArray) : ∀ (l : List ByteArray) (i : Int), (sortP rest i l).2.2.size ≤ rest.size
  | [], i => Nat.le_refl _
  | p :: ps, i => by
    simp only [sortP]
    split
    · exact takeB_size rest p
    · exact sortP_size rest ps (i + 1)
theorem vsortP_size (rest : ByteArray) : (vsortP rest).2.2.size ≤ rest.size := by
  unfold vsortP
  split
  · exact Nat.le_trans (sortP_size _ _ _) (takeB_size _ _)
  · exact Nat.le_refl _
theorem nodeP_size (rest : ByteArray) (h : (nodeP rest).2.2.2.1 = true) : (nodeP rest).2.2.2.2.size < rest.size := by
  have h1 := takeB_size rest bQ
  have h2 : isNameB (nodeName rest).data.toList = true → (nodeRest rest).size < rest.size := fun hn => by
    have h3 : 0 < (nodeName rest).data.toList.length := by
      simp only [isNameB, Bool.and_eq_true, decide_eq_true_eq] at hn; exact hn.1.1
    have h4 : (nodeName rest).data.toList.length = (nodeName rest).size := by simp
    have h5 : (nodeName rest).size ≤ (takeB rest bQ).size := by
      unfold nodeName; rw [ByteArray.size_extract]; omega
    unfold nodeRest
    rw [ByteArray.size_extract]; omega
  have h6 := vsortP_size (nodeRest rest)
  have h7 := takeB_size (nodeRest rest) bOpen
  have h8 := takeB_size (nodeRest rest) bColon
  have h9 := sortP_size (takeB (nodeRest rest) bColon) sortW 0
  unfold nodeP at h ⊢
  split at h
  · simp at h
  · rename_i hn
    have hn' : isNameB (nodeName rest).data.toList = true := by simpa using hn
    have := h2 hn'
    rw [if_neg hn]
    split
    · simp only; omega
    · split
      · simp only; omega
      · split
        · rename_i a b c
          rw [if_neg a, if_neg b, if_pos c] at h
          simp at h
        · simp only; omega
theorem endP_size : ∀ (st : List (ByteArray × List Tm)) (rest : ByteArray) (large : Bool) (t : Tm), (endP st rest large t).2.1.size ≤ rest.size
  | [], rest, large, t => Nat.le_refl _
  | (nm, ks) :: st, rest, large, t => by
    rw [endP]
    split
    · exact takeB_size rest bComma
    · split
      · exact Nat.le_trans (endP_size st _ _ _) (takeB_size rest bClose)
      · exact Nat.le_refl _
theorem nextP_size (st : List (ByteArray × List Tm)) (rest : ByteArray) (nodes : Int) (large : Bool) (h : (nextP st rest nodes large).1 = true) : (nextP st rest nodes large).2.1.size < rest.size := by
  unfold nextP at h ⊢
  split at h
  · simp at h
  · rename_i hn
    have hn' : (nodeP rest).2.2.2.1 = true := by simpa using hn
    have h1 := nodeP_size rest hn'
    rw [if_neg hn]
    split
    · exact h1
    · refine Nat.lt_of_le_of_lt (endP_size _ _ _ _) ?_
      split
      · exact Nat.lt_of_le_of_lt (takeB_size _ _) h1
      · exact h1

end Go.Proofs.YtkfbbkkfagglhaaGreatDoor

/-
  THE WALK OF Parse.
-/
namespace Go.Proofs.YtkfbbkkfagglhaaGreatDoor
open Go.RowKit

theorem Laid_of {w w' : World} (h : Laid w) (hk : w'.heap[0]? = w.heap[0]?) : Laid w' := by
  obtain ⟨l0, l1, l2, l3, l4, l5⟩ := h
  refine ⟨?_, ?_, ?_, ?_, ?_, ?_⟩ <;> (rw [World.cell?_of_block (w := w) hk]; assumption)

def ParsePost (s : ByteArray) (w : World) (e : Ending) (w' : World) : Prop :=
  ∃ v, e = .returned (.tuple #[v, .int .i64 (parseP s).2]) ∧ IsV w' (parseP s).1 v ∧ Below w.heap.size w w'

/-- The same, and where the term lies: in new blocks. -/
def ParseInP (r : Tm × Int) (w : World) (e : Ending) (w' : World) : Prop :=
  ∃ c0 c1 c2 c3, e = .returned (.tuple #[.agg #[c0, c1, c2, c3], .int .i64 r.2]) ∧ IsIn (fun b => w.heap.size ≤ b) w' r.1 c0 c1 c2 c3 ∧ Below w.heap.size w w'
theorem zero_In (S : Nat → Prop) (w : World) : IsIn S w zeroT (.int .i64 0) (.string ByteArray.empty) (.int .i64 0) (.slice none 0 0) := by
  simp only [zeroT, IsIn]
  exact ⟨trivial, trivial, trivial, by omega, by omega, Nat.zero_le _, by simp, none, 0, rfl, by simp, by simp [RowIn]⟩
theorem below_set4 {w wr : World} (h : Below w.heap.size w wr) (v0 v1 v2 v3 : Value) : Below w.heap.size w ((((wr.setCell ⟨w.heap.size, 0, none⟩ v0).setCell ⟨w.heap.size, 1, none⟩ v1).setCell ⟨w.heap.size, 2, none⟩ v2).setCell ⟨w.heap.size, 3, none⟩ v3) :=
  (((h.setCell (Nat.le_refl _) _).setCell (Nat.le_refl _) _).setCell (Nat.le_refl _) _).setCell (Nat.le_refl _) _

theorem zero_IsV (w : World) : IsV w zeroT (.agg #[.int .i64 0, .string ByteArray.empty, .int .i64 0, .slice none 0 0]) := by
  refine ⟨_, _, _, _, rfl, ?_⟩
  simp only [zeroT, Is]
  exact ⟨trivial, trivial, trivial, by omega, by omega, Nat.zero_le _, by simp, none, 0, rfl, by simp, by simp [Row]⟩

end Go.Proofs.YtkfbbkkfagglhaaGreatDoor
