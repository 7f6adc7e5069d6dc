/-
  WHAT end DOES; the state before and behind its steps.
-/
import Derived.Test.YtfbomoginjknlaaDoorTake
import Derived.Deep.LoopGhost
import Derived.Deep.RegionLaw
import Derived.Deep.DeepCutAuto
namespace Go.Proofs.YtfbomoginjknlaaDoor
open Go.RowKit

def pst (l : List Fr) : List (ByteArray × List Tm) := l.map fun f => (f.nm, f.ks)

/-- What end does: whether it is right, what remains, the stack, whether a limit is exceeded, and the root. -/
def endP : List (ByteArray × List Tm) → ByteArray → Bool → Tm → Bool × ByteArray × List (ByteArray × List Tm) × Bool × Option Tm
  | [], rest, large, t => (true, rest, [], large, some t)
  | (nm, ks) :: st, rest, large, t =>
    if preB rest bComma then (true, takeB rest bComma, (nm, ks ++ [t]) :: st, large || decide (8 < (ks ++ [t]).length), none)
    else if preB rest bClose then endP st (takeB rest bClose) (large || decide (8 < (ks ++ [t]).length)) (.mk 3 nm 0 (ks ++ [t]))
    else (false, rest, (nm, ks ++ [t]) :: st, large || decide (8 < (ks ++ [t]).length), none)

theorem own_form {w : World} {base : Nat} {T : TypeId} {k : Nat} {v : Value} {n : Nat} {xs : List Value} (h : w.ownsRow base T k v n xs) : ∃ xa cap, v = .slice xa n cap := by
  rcases h.2 with ⟨rfl, h0⟩ | ⟨g, cap, cur, rfl, _⟩
  · exact ⟨none, 0, by rw [h0]⟩
  · exact ⟨some ⟨g, 0, none⟩, cap, rfl⟩
theorem own_form_pos {w : World} {base : Nat} {T : TypeId} {k : Nat} {v : Value} {n : Nat} {xs : List Value} (h : w.ownsRow base T k v n xs) (hn : 0 < n) : ∃ g cap, v = .slice (some ⟨g, 0, none⟩) n cap := by
  rcases h.2 with ⟨rfl, h0⟩ | ⟨g, cap, cur, rfl, _⟩
  · omega
  · exact ⟨g, cap, rfl⟩

theorem row_new {w : World} {base : Nat} {T : TypeId} {g n cap : Nat} {cs : List Value} {z0 z1 z2 z3 : Value} (h : w.ownsRow base T 4 (.slice (some ⟨g, 0, none⟩) (n + 1) cap) (n + 1) (cs ++ [z0, z1, z2, z3])) (hc : cs.length = n * 4) :
    w.cell? ⟨g, n * 4, none⟩ = some z0 ∧ w.cell? ⟨g, n * 4 + 1, none⟩ = some z1 ∧ w.cell? ⟨g, n * 4 + 2, none⟩ = some z2 ∧ w.cell? ⟨g, n * 4 + 3, none⟩ = some z3 := by
  refine ⟨?_, ?_, ?_, ?_⟩ <;> (rw [h.cellAt _ (by omega), List.getElem?_append_right (by omega), hc])
  · rw [Nat.sub_self]; rfl
  · rw [Nat.add_sub_cancel_left]; rfl
  · rw [Nat.add_sub_cancel_left]; rfl
  · rw [Nat.add_sub_cancel_left]; rfl

theorem info24 : (Tryd.prog.info? 24).map (fun i => (i.zero, i.size, i.bytes)) = some (some (.agg #[.int .i64 0, .string ⟨#[]⟩, .int .i64 0, .slice none 0 0]), 4, 56) := by kernel_rfl

theorem setCell_comm (w : World) (p q : Addr) (u v : Value) (h : p.block ≠ q.block) : (w.setCell p u).setCell q v = (w.setCell q v).setCell p u := by
  unfold World.setCell
  congr 1
  apply Array.ext_getElem?
  intro i
  simp only [Array.getElem?_modify]
  by_cases h1 : p.block = i
  · have h2 : ¬ q.block = i := fun e => h (h1.trans e.symm)
    simp [h1, h2]
  · by_cases h2 : q.block = i <;> simp [h1, h2]

theorem kid_close1 {w1 : World} {gg og n l cap : Nat} {c0 c1 c2 c3 : Value} :
    ((((w1.setCell ⟨gg, n * 4, none⟩ c0).setCell ⟨gg, n * 4 + 1, none⟩ c1).setCell ⟨gg, n * 4 + 2, none⟩ c2).setCell ⟨gg, n * 4 + 3, none⟩ c3).setCell ⟨og, l * 4 + 3, none⟩ (.slice (some ⟨gg, 0, none⟩) (n + 1) cap) = kidW w1 gg og n l cap c0 c1 c2 c3 := rfl

theorem kid_close2 {w1 : World} {gg og n l cap : Nat} {c0 c1 c2 c3 : Value} (h : gg ≠ og) :
    ((((w1.setCell ⟨og, l * 4 + 3, none⟩ (.slice (some ⟨gg, 0, none⟩) (n + 1) cap)).setCell ⟨gg, n * 4, none⟩ c0).setCell ⟨gg, n * 4 + 1, none⟩ c1).setCell ⟨gg, n * 4 + 2, none⟩ c2).setCell ⟨gg, n * 4 + 3, none⟩ c3 = kidW w1 gg og n l cap c0 c1 c2 c3 := by
  unfold kidW put4
  rw [setCell_comm _ ⟨og, l * 4 + 3, none⟩ ⟨gg, n * 4, none⟩ _ _ (fun e => h e.symm), setCell_comm _ ⟨og, l * 4 + 3, none⟩ ⟨gg, n * 4 + 1, none⟩ _ _ (fun e => h e.symm),
    setCell_comm _ ⟨og, l * 4 + 3, none⟩ ⟨gg, n * 4 + 2, none⟩ _ _ (fun e => h e.symm), setCell_comm _ ⟨og, l * 4 + 3, none⟩ ⟨gg, n * 4 + 3, none⟩ _ _ (fun e => h e.symm)]

theorem Stk_head_form {w : World} {base pb : Nat} {ov : Value} {F : Nat → Prop} {nm : ByteArray} {ks : List Tm} {kv : Value} {r : List Fr} (h : Stk w base pb ov F (⟨nm, ks, kv⟩ :: r)) : ∃ xa cap, kv = .slice xa ks.length cap := by
  obtain ⟨_, ⟨cs, ho, _⟩, _⟩ := h
  exact own_form ho

theorem popW_eq {w : World} {pb tb og n ocap : Nat} {c0 c1 c2 c3 : Value} :
    ((((w.setCell ⟨tb, 0, none⟩ c0).setCell ⟨tb, 1, none⟩ c1).setCell ⟨tb, 2, none⟩ c2).setCell ⟨tb, 3, none⟩ c3).setCell ⟨pb, 1, none⟩ (.slice (some ⟨og, 0, none⟩) n ocap) = popW w pb tb og n ocap c0 c1 c2 c3 := rfl

theorem endP_comma {nm : ByteArray} {ks : List Tm} {st : List (ByteArray × List Tm)} {rest : ByteArray} {large : Bool} {t : Tm} (h : preB rest bComma = true) :
    endP ((nm, ks) :: st) rest large t = (true, takeB rest bComma, (nm, ks ++ [t]) :: st, large || decide (8 < (ks ++ [t]).length), none) := by simp only [endP, h, if_true]
theorem endP_close {nm : ByteArray} {ks : List Tm} {st : List (ByteArray × List Tm)} {rest : ByteArray} {large : Bool} {t : Tm} (h : preB rest bComma = false) (h2 : preB rest bClose = true) :
    endP ((nm, ks) :: st) rest large t = endP st (takeB rest bClose) (large || decide (8 < (ks ++ [t]).length)) (.mk 3 nm 0 (ks ++ [t])) := by
  rw [endP, if_neg (by rw [h]; simp), if_pos h2]
theorem endP_fail {nm : ByteArray} {ks : List Tm} {st : List (ByteArray × List Tm)} {rest : ByteArray} {large : Bool} {t : Tm} (h : preB rest bComma = false) (h2 : preB rest bClose = false) :
    endP ((nm, ks) :: st) rest large t = (false, rest, (nm, ks ++ [t]) :: st, large || decide (8 < (ks ++ [t]).length), none) := by
  rw [endP, if_neg (by rw [h]; simp), if_neg (by rw [h2]; simp)]

/-- The root is laid down, and the text is whole. -/
def rootW (w : World) (pb : Nat) (x0 x1 x2 x3 : Value) : World := ((((w.setCell ⟨pb, 5, none⟩ x0).setCell ⟨pb, 6, none⟩ x1).setCell ⟨pb, 7, none⟩ x2).setCell ⟨pb, 8, none⟩ x3).setCell ⟨pb, 4, none⟩ (.bool true)
theorem But_root (w : World) (pb : Nat) (x0 x1 x2 x3 : Value) : But pb w (rootW w pb x0 x1 x2 x3) :=
  (((((But.refl pb w).setCell 5 x0).setCell 6 x1).setCell 7 x2).setCell 8 x3).setCell 4 (.bool true)

end Go.Proofs.YtfbomoginjknlaaDoor

/-
  THE WALK OF end.
-/
namespace Go.Proofs.YtfbomoginjknlaaDoor
open Go.RowKit

end Go.Proofs.YtfbomoginjknlaaDoor

/-
  THE WALK OF next.
-/
namespace Go.Proofs.YtfbomoginjknlaaDoor
open Go.RowKit

/-- What next does, of the state: whether it is right, what remains, the stack, whether a limit is exceeded, the root; 'nodes' counts this node already. -/
def nextP (st : List (ByteArray × List Tm)) (rest : ByteArray) (nodes : Int) (large : Bool) : Bool × ByteArray × List (ByteArray × List Tm) × Bool × Option Tm :=
  if (nodeP rest).2.2.2.1 = false then (false, (nodeP rest).2.2.2.2, st, large, none)
  else if (nodeP rest).1 = 3 ∧ preB (nodeP rest).2.2.2.2 bClose = false then (true, (nodeP rest).2.2.2.2, ((nodeP rest).2.1, []) :: st, large || decide (400 < nodes) || decide (40 ≤ st.length), none)
  else endP st (if (nodeP rest).1 = 3 then takeB (nodeP rest).2.2.2.2 bClose else (nodeP rest).2.2.2.2) (large || decide (400 < nodes) || decide (40 ≤ st.length)) (.mk (nodeP rest).1 (nodeP rest).2.1 (nodeP rest).2.2.1 [])

theorem IsIn_leaf {S : Nat → Prop} {w : World} {k s : Int} {nm : ByteArray} (h1 : 0 ≤ k ∧ k ≤ 3) (h2 : 0 ≤ s ∧ s ≤ 6) (h3 : nm.size ≤ maxLen) : IsIn S w (.mk k nm s []) (.int .i64 k) (.string nm) (.int .i64 s) (.slice none 0 0) := by
  simp only [IsIn]
  exact ⟨trivial, trivial, trivial, by omega, by omega, h3, by simp, none, 0, rfl, by simp, by simp [RowIn]⟩

theorem pst_length (l : List Fr) : (pst l).length = l.length := by simp [pst]

theorem sortP_range (rest : ByteArray) : ∀ (l : List ByteArray) (i : Int), 0 ≤ i → 0 ≤ (sortP rest i l).1 ∧ (sortP rest i l).1 ≤ i + l.length
  | [], i, h => by simp only [sortP, List.length_nil]; omega
  | p :: ps, i, h => by
    simp only [sortP]
    split
    · simp only [List.length_cons]; omega
    · have := sortP_range rest ps (i + 1) (by omega)
      simp only [List.length_cons]; omega
theorem vsortP_range (rest : ByteArray) : 0 ≤ (vsortP rest).1 ∧ (vsortP rest).1 ≤ 6 := by
  unfold vsortP
  split
  · have := sortP_range (takeB rest bColon) sortW 0 (by omega); simp only [sortW, List.length_cons, List.length_nil] at this ⊢; omega
  · simp
theorem nodeP_app (rest : ByteArray) (h : (nodeP rest).1 = 3) : (nodeP rest).2.2.1 = 0 := by
  unfold nodeP at h ⊢
  split at h
  · simp at h
  · split at h
    · simp at h
    · split at h
      · simp_all
      · split at h
        · simp at h
        · simp at h

theorem push_close1 {w1 : World} {gg pb n cap : Nat} {c0 c1 c2 c3 : Value} :
    ((((w1.setCell ⟨gg, n * 4, none⟩ c0).setCell ⟨gg, n * 4 + 1, none⟩ c1).setCell ⟨gg, n * 4 + 2, none⟩ c2).setCell ⟨gg, n * 4 + 3, none⟩ c3).setCell ⟨pb, 1, none⟩ (.slice (some ⟨gg, 0, none⟩) (n + 1) cap) = pushW w1 pb gg n cap c0 c1 c2 c3 := rfl
theorem push_close2 {w1 : World} {gg pb n cap : Nat} {c0 c1 c2 c3 : Value} (h : gg ≠ pb) :
    ((((w1.setCell ⟨pb, 1, none⟩ (.slice (some ⟨gg, 0, none⟩) (n + 1) cap)).setCell ⟨gg, n * 4, none⟩ c0).setCell ⟨gg, n * 4 + 1, none⟩ c1).setCell ⟨gg, n * 4 + 2, none⟩ c2).setCell ⟨gg, n * 4 + 3, none⟩ c3 = pushW w1 pb gg n cap c0 c1 c2 c3 := by
  unfold pushW put4
  rw [setCell_comm _ ⟨pb, 1, none⟩ ⟨gg, n * 4, none⟩ _ _ (fun e => h e.symm), setCell_comm _ ⟨pb, 1, none⟩ ⟨gg, n * 4 + 1, none⟩ _ _ (fun e => h e.symm),
    setCell_comm _ ⟨pb, 1, none⟩ ⟨gg, n * 4 + 2, none⟩ _ _ (fun e => h e.symm), setCell_comm _ ⟨pb, 1, none⟩ ⟨gg, n * 4 + 3, none⟩ _ _ (fun e => h e.symm)]

theorem nodeP_range (rest : ByteArray) : 0 ≤ (nodeP rest).1 ∧ (nodeP rest).1 ≤ 3 ∧ 0 ≤ (nodeP rest).2.2.1 ∧ (nodeP rest).2.2.1 ≤ 6 ∧ (nodeP rest).2.1.size ≤ rest.size := by
  have h1 : (nodeName rest).size ≤ rest.size := by
    unfold nodeName
    rw [ByteArray.size_extract]
    have := takeB_size rest bQ; omega
  have h2 : (ByteArray.empty : ByteArray).size = 0 := rfl
  have h3 := vsortP_range (nodeRest rest)
  have h4 := sortP_range (takeB (nodeRest rest) bColon) sortW 0 (by omega)
  have h5 : (sortW.length : Int) = 6 := rfl
  rw [h5] at h4
  unfold nodeP
  split
  · simp only; omega
  · split
    · simp only; omega
    · split
      · simp only; omega
      · split
        · simp only; omega
        · simp only; omega

end Go.Proofs.YtfbomoginjknlaaDoor

/-
  WHAT Parse DOES, AS A PLAIN FUNCTION; the texts get shorter.
-/
namespace Go.Proofs.YtfbomoginjknlaaDoor
open Go.RowKit

/-- The parser's rounds: none where the text is wrong; else what remains, whether a limit is exceeded, and the term. -/
def runP : Nat → List (ByteArray × List Tm) → ByteArray → Int → Bool → Option (ByteArray × Bool × Tm)
  | 0, _, _, _, _ => none
  | n + 1, st, rest, nodes, large =>
    if (nextP st rest (nodes + 1) large).1 = false then none
    else match (nextP st rest (nodes + 1) large).2.2.2.2 with
      | some u => some ((nextP st rest (nodes + 1) large).2.1, (nextP st rest (nodes + 1) large).2.2.2.1, u)
      | none => runP n (nextP st rest (nodes + 1) large).2.2.1 (nextP st rest (nodes + 1) large).2.1 (nodes + 1) (nextP st rest (nodes + 1) large).2.2.2.1

def zeroT : Tm := .mk 0 ByteArray.empty 0 []
def finP : Option (ByteArray × Bool × Tm) → Tm × Int
  | none => (zeroT, 2)
  | some (rest, large, u) => if rest.toList.isEmpty = false then (zeroT, 2) else if large then (zeroT, 3) else (u, 0)
def parseP (s : ByteArray) : Tm × Int := finP (runP (s.size + 1) [] s 0 false)

theorem sortP_size (rest : ByteArray) : ∀ (l : List ByteArray) (i : Int), (sortP rest i l).2.2.size ≤ rest.size
  | [], i => Nat.le_refl _
  | p :: ps, i => by
    simp only [sortP]
    split
    · exact takeB_size rest p
    · exact sortP_size rest ps (i + 1)
theorem vsortP_size (rest : ByteArray) : (vsortP rest).2.2.size ≤ rest.size := by
  unfold vsortP
  split
  · exact Nat.le_trans (sortP_size _ _ _) (takeB_size _ _)
  · exact Nat.le_refl _
theorem nodeP_size (rest : ByteArray) (h : (nodeP rest).2.2.2.1 = true) : (nodeP rest).2.2.2.2.size < rest.size := by
  have h1 := takeB_size rest bQ
  have h2 : isNameB (nodeName rest).data.toList = true → (nodeRest rest).size < rest.size := fun hn => by
    have h3 : 0 < (nodeName rest).data.toList.length := by
      simp only [isNameB, Bool.and_eq_true, decide_eq_true_eq] at hn; exact hn.1.1
    have h4 : (nodeName rest).data.toList.length = (nodeName rest).size := by simp
    have h5 : (nodeName rest).size ≤ (takeB rest bQ).size := by
      unfold nodeName; rw [ByteArray.size_extract]; omega
    unfold nodeRest
    rw [ByteArray.size_extract]; omega
  have h6 := vsortP_size (nodeRest rest)
  have h7 := takeB_size (nodeRest rest) bOpen
  have h8 := takeB_size (nodeRest rest) bColon
  have h9 := sortP_size (takeB (nodeRest rest) bColon) sortW 0
  unfold nodeP at h ⊢
  split at h
  · simp at h
  · rename_i hn
    have hn' : isNameB (nodeName rest).data.toList = true := by simpa using hn
    have := h2 hn'
    rw [if_neg hn]
    split
    · simp only; omega
    · split
      · simp only; omega
      · split
        · rename_i a b c
          rw [if_neg a, if_neg b, if_pos c] at h
          simp at h
        · simp only; omega
theorem endP_size : ∀ (st : List (ByteArray × List Tm)) (rest : ByteArray) (large : Bool) (t : Tm), (endP st rest large t).2.1.size ≤ rest.size
  | [], rest, large, t => Nat.le_refl _
  | (nm, ks) :: st, rest, large, t => by
    rw [endP]
    split
    · exact takeB_size rest bComma
    · split
      · exact Nat.le_trans (endP_size st _ _ _) (takeB_size rest bClose)
      · exact Nat.le_refl _
theorem nextP_size (st : List (ByteArray × List Tm)) (rest : ByteArray) (nodes : Int) (large : Bool) (h : (nextP st rest nodes large).1 = true) : (nextP st rest nodes large).2.1.size < rest.size := by
  unfold nextP at h ⊢
  split at h
  · simp at h
  · rename_i hn
    have hn' : (nodeP rest).2.2.2.1 = true := by simpa using hn
    have h1 := nodeP_size rest hn'
    rw [if_neg hn]
    split
    · exact h1
    · refine Nat.lt_of_le_of_lt (endP_size _ _ _ _) ?_
      split
      · exact Nat.lt_of_le_of_lt (takeB_size _ _) h1
      · exact h1

end Go.Proofs.YtfbomoginjknlaaDoor

/-
  THE WALK OF Parse.
-/
namespace Go.Proofs.YtfbomoginjknlaaDoor
open Go.RowKit

def ParsePost (s : ByteArray) (w : World) (e : Ending) (w' : World) : Prop :=
  ∃ v, e = .returned (.tuple #[v, .int .i64 (parseP s).2]) ∧ IsV w' (parseP s).1 v ∧ Below w.heap.size w w'

/-- The same, and where the term lies: in new blocks. -/
def ParseInP (r : Tm × Int) (w : World) (e : Ending) (w' : World) : Prop :=
  ∃ c0 c1 c2 c3, e = .returned (.tuple #[.agg #[c0, c1, c2, c3], .int .i64 r.2]) ∧ IsIn (fun b => w.heap.size ≤ b) w' r.1 c0 c1 c2 c3 ∧ Below w.heap.size w w'
theorem zero_In (S : Nat → Prop) (w : World) : IsIn S w zeroT (.int .i64 0) (.string ByteArray.empty) (.int .i64 0) (.slice none 0 0) := by
  simp only [zeroT, IsIn]
  exact ⟨trivial, trivial, trivial, by omega, by omega, Nat.zero_le _, by simp, none, 0, rfl, by simp, by simp [RowIn]⟩
theorem below_set4 {w wr : World} (h : Below w.heap.size w wr) (v0 v1 v2 v3 : Value) : Below w.heap.size w ((((wr.setCell ⟨w.heap.size, 0, none⟩ v0).setCell ⟨w.heap.size, 1, none⟩ v1).setCell ⟨w.heap.size, 2, none⟩ v2).setCell ⟨w.heap.size, 3, none⟩ v3) :=
  (((h.setCell (Nat.le_refl _) _).setCell (Nat.le_refl _) _).setCell (Nat.le_refl _) _).setCell (Nat.le_refl _) _

theorem zero_IsV (w : World) : IsV w zeroT (.agg #[.int .i64 0, .string ByteArray.empty, .int .i64 0, .slice none 0 0]) := by
  refine ⟨_, _, _, _, rfl, ?_⟩
  simp only [zeroT, Is]
  exact ⟨trivial, trivial, trivial, by omega, by omega, Nat.zero_le _, by simp, none, 0, rfl, by simp, by simp [Row]⟩

end Go.Proofs.YtfbomoginjknlaaDoor
