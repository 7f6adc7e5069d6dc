import Derived.Deep.LoopGhost
import Derived.Test.YtbcpnepjojppaaaGreatDoorLawTheoryKeyxFind
import Derived.Test.YtbcpnepjojppaaaGreatDoorLawTheoryKeyxName
import Derived.Test.YtbcpnepjojppaaaGreatDoorLawTheoryKeyxNodes
import Derived.Test.YtbcpnepjojppaaaGreatDoorLawTheoryKeyxRound
namespace Go.Proofs.YtbcpnepjojppaaaGreatDoor
open Go.RowKit
def kidsR (rd : ByteArray → Option (Tm × ByteArray)) : Nat → Bool → ByteArray → Option (List Tm × ByteArray)
  | 0, _, _ => none
  | m + 1, first, s =>
    if preB s bClose then some ([], takeB s bClose)
    else if first = false ∧ preB s bComma = false then none
    else match rd (if first then s else takeB s bComma) with
      | none => none
      | some (x, r) => match kidsR rd m false r with
        | none => none
        | some (ks, r') => some (x :: ks, r')
def nameAny (s : ByteArray) : ByteArray := s.extract 0 (tailLen s.data.toList)
def wordR (w : ByteArray) : Option Int := if w = wAny then some 0 else if w = wAgent then some 1 else if w = wNonce then some 2 else if w = wKey then some 3 else if w = wData then some 4 else if w = wTag then some 5 else none
def leafR (var : Bool) (s : ByteArray) : Option (Int × ByteArray) :=
  if preB s bColon = false then (if var then some (0, s) else none)
  else match wordR (nameAny (takeB s bColon)) with
    | none => none
    | some k => if k = 0 ∧ var = true then none else some (k, (takeB s bColon).extract (nameAny (takeB s bColon)).size (takeB s bColon).size)
def readN (rd : ByteArray → Option (Tm × ByteArray)) (s : ByteArray) : Option (Tm × ByteArray) :=
  if isNameB (nodeName s).data.toList = false then none
  else if preB s bQ then (match leafR true (nodeRest s) with
    | none => none
    | some (k, r) => some (.mk 1 (nodeName s) k [], r))
  else if preB (nodeRest s) bOpen = false then (match leafR false (nodeRest s) with
    | none => none
    | some (k, r) => some (.mk 2 (nodeName s) k [], r))
  else (match kidsR rd (s.size + 1) true (takeB (nodeRest s) bOpen) with
    | none => none
    | some (ks, r) => some (.mk 3 (nodeName s) 0 ks, r))
def readR : Nat → ByteArray → Option (Tm × ByteArray)
  | 0 => fun _ => none
  | d + 1 => readN (readR d)
theorem readR_zero (s : ByteArray) : readR 0 s = none := rfl
theorem readR_succ (d : Nat) (s : ByteArray) : readR (d + 1) s = readN (readR d) s := rfl
def refP (s : ByteArray) : Tm × Int := match readR 800 s with
  | none => (zeroT, 2)
  | some (t, r) => if r.size = 0 then (if validE t = 0 then (t, 0) else (zeroT, validE t)) else (zeroT, 2)
theorem split_at (s : ByteArray) (k : Nat) (h : k ≤ s.size) : s = s.extract 0 k ++ s.extract k s.size := by
  rw [ByteArray.extract_append_extract]
  simp [Nat.min_eq_left, h]
theorem takeB_eq {s p : ByteArray} (h : preB s p = true) : s = p ++ takeB s p ∧ (takeB s p).size + p.size = s.size := by
  have h0 := h
  simp only [preB, Bool.and_eq_true, decide_eq_true_eq, beq_iff_eq, Lib.toList_data] at h
  have e : s.extract 0 p.size = p := ByteArray.ext (Array.toList_inj.1 h.2)
  unfold takeB
  rw [h0, if_pos rfl]
  refine ⟨?_, by rw [ByteArray.size_extract]; omega⟩
  conv => lhs; rw [split_at s p.size h.1]
  rw [e]
theorem node_split (s : ByteArray) : takeB s bQ = nodeName s ++ nodeRest s ∧ (nodeName s).size + (nodeRest s).size = (takeB s bQ).size := by
  have h := nameLen_le (takeB s bQ).data.toList
  have hl : (takeB s bQ).data.toList.length = (takeB s bQ).size := by simp
  have hs : (nodeName s).size = nameLen (takeB s bQ).data.toList := by
    unfold nodeName; rw [ByteArray.size_extract]; omega
  refine ⟨?_, ?_⟩
  · unfold nodeRest; rw [hs]; exact split_at _ _ (by omega)
  · unfold nodeRest; rw [ByteArray.size_extract]; omega
theorem name_pos {n : ByteArray} (h : isNameB n.data.toList = true) : 1 ≤ n.size := by
  simp only [isNameB, Bool.and_eq_true, decide_eq_true_eq] at h
  have hl : n.data.toList.length = n.size := by simp
  omega
theorem tail_split : ∀ l : List UInt8, tailLen (l.drop (tailLen l)) = 0
  | [] => by simp [tailLen]
  | c :: r => by
    simp only [tailLen]
    split
    · rw [Nat.add_comm, List.drop_succ_cons]; exact tail_split r
    · split
      · rw [Nat.add_comm, List.drop_succ_cons]; exact tail_split r
      · rename_i a b; simp [tailLen, a, b]
theorem nameAny_split (s : ByteArray) : s = nameAny s ++ s.extract (nameAny s).size s.size ∧ tailLen (s.extract (nameAny s).size s.size).data.toList = 0 := by
  have h := tailLen_le s.data.toList
  have hl : s.data.toList.length = s.size := by simp
  have hs : (nameAny s).size = tailLen s.data.toList := by
    unfold nameAny; rw [ByteArray.size_extract]; omega
  rw [hs]
  refine ⟨split_at _ _ (by omega), ?_⟩
  have e : (s.extract (tailLen s.data.toList) s.size).data.toList = s.data.toList.drop (tailLen s.data.toList) := by
    rw [ByteArray.data_extract, Array.toList_extract, List.extract_eq_take_drop]
    exact List.take_of_length_le (by rw [List.length_drop]; omega)
  rw [e]; exact tail_split _
theorem wordR_some {w : ByteArray} {k : Int} (h : wordR w = some k) : (0 ≤ k ∧ k ≤ 5) ∧ w = wordB k := by
  unfold wordR at h
  repeat' split at h
  all_goals (first | (cases h; done) | (cases h; refine ⟨by omega, ?_⟩; assumption))
theorem wordR_word (k : Int) (h : 0 ≤ k ∧ k ≤ 5) : wordR (wordB k) = some k := by
  have hc : k = 0 ∨ k = 1 ∨ k = 2 ∨ k = 3 ∨ k = 4 ∨ k = 5 := by omega
  rcases hc with rfl | rfl | rfl | rfl | rfl | rfl <;> decide
theorem leaf_size {v : Bool} {s r : ByteArray} {k : Int} (h : leafR v s = some (k, r)) : r.size ≤ s.size := by
  unfold leafR at h
  split at h
  · split at h
    · cases h; exact Nat.le_refl _
    · cases h
  · split at h
    · cases h
    · split at h
      · cases h
      · cases h
        have := takeB_size s bColon
        rw [ByteArray.size_extract]; omega
theorem kids_size {rd : ByteArray → Option (Tm × ByteArray)} (hrd : ∀ s t r, rd s = some (t, r) → r.size ≤ s.size) : ∀ (m : Nat) (first : Bool) (s : ByteArray) (ks : List Tm) (r : ByteArray), kidsR rd m first s = some (ks, r) → r.size ≤ s.size
  | 0, _, _, _, _, h => by cases h
  | m + 1, first, s, ks, r, h => by
    simp only [kidsR] at h
    split at h
    · cases h; exact takeB_size _ _
    split at h
    · cases h
    split at h
    · cases h
    rename_i x r1 hx
    split at h
    · cases h
    rename_i ks1 r2 hk
    cases h
    have h1 := hrd _ _ _ hx
    have h2 := kids_size hrd m false r1 ks1 _ hk
    have h3 : (if first = true then s else takeB s bComma).size ≤ s.size := by
      split
      · exact Nat.le_refl _
      · exact takeB_size _ _
    omega
set_option maxHeartbeats 1000000 in
theorem readR_size (d : Nat) : ∀ (s : ByteArray) (t : Tm) (r : ByteArray), readR d s = some (t, r) → r.size < s.size := by
  induction d with
  | zero => intro s t r h; rw [readR_zero] at h; exact absurd h (by simp)
  | succ d ih =>
    intro s t r h
    rw [readR_succ, readN] at h
    have h1 := takeB_size s bQ
    have h2 := node_split s
    by_cases hn : isNameB (nodeName s).data.toList = false
    · rw [if_pos hn] at h; exact absurd h (by simp)
    rw [if_neg hn] at h
    have hp := name_pos (n := nodeName s) (by simpa using hn)
    by_cases hq : preB s bQ = true
    · rw [if_pos hq] at h
      cases hl : leafR true (nodeRest s) with
      | none => rw [hl] at h; exact absurd h (by simp)
      | some p =>
        obtain ⟨k, r1⟩ := p
        rw [hl] at h
        simp only [Option.some.injEq, Prod.mk.injEq] at h
        have := leaf_size hl
        rw [← h.2]; omega
    rw [if_neg hq] at h
    by_cases ho : preB (nodeRest s) bOpen = false
    · rw [if_pos ho] at h
      cases hl : leafR false (nodeRest s) with
      | none => rw [hl] at h; exact absurd h (by simp)
      | some p =>
        obtain ⟨k, r1⟩ := p
        rw [hl] at h
        simp only [Option.some.injEq, Prod.mk.injEq] at h
        have := leaf_size hl
        rw [← h.2]; omega
    rw [if_neg ho] at h
    generalize s.size + 1 = m at h
    cases hk : kidsR (readR d) m true (takeB (nodeRest s) bOpen) with
    | none => rw [hk] at h; exact absurd h (by simp)
    | some p =>
      obtain ⟨ks, r1⟩ := p
      rw [hk] at h
      simp only [Option.some.injEq, Prod.mk.injEq] at h
      have h3 := kids_size (fun s t r h => Nat.le_of_lt (ih s t r h)) _ _ _ _ _ hk
      have h4 := takeB_size (nodeRest s) bOpen
      rw [← h.2]; omega
theorem kidsR_succ (rd : ByteArray → Option (Tm × ByteArray)) (m : Nat) (s : ByteArray) (hcl : preB s bClose = false) (hc : preB s bComma = true) :
    kidsR rd (m + 1) false s = (match rd (takeB s bComma) with
      | none => none
      | some (x, r) => match kidsR rd m false r with
        | none => none
        | some (ks, r') => some (x :: ks, r')) := by
  rw [kidsR, if_neg (by rw [hcl]; simp), if_neg (by rw [hc]; simp)]
  simp only [Bool.false_eq_true, if_false]
theorem leafR_none (v : Bool) {s : ByteArray} (h : preB s bColon = false) : leafR v s = if v then some (0, s) else none := by unfold leafR; rw [if_pos h]
theorem leafR_word (v : Bool) {s : ByteArray} (h : preB s bColon = true) {k : Int} (hw : wordR (nameAny (takeB s bColon)) = some k) : leafR v s = if k = 0 ∧ v = true then none else some (k, (takeB s bColon).extract (nameAny (takeB s bColon)).size (takeB s bColon).size) := by
  unfold leafR; rw [if_neg (by rw [h]; simp), hw]
theorem leafR_wrong (v : Bool) {s : ByteArray} (h : preB s bColon = true) (hw : wordR (nameAny (takeB s bColon)) = none) : leafR v s = none := by
  unfold leafR; rw [if_neg (by rw [h]; simp), hw]
theorem readN_no (rd : ByteArray → Option (Tm × ByteArray)) {s : ByteArray} (hn : isNameB (nodeName s).data.toList = false) : readN rd s = none := by unfold readN; rw [if_pos hn]
theorem readN_leaf (rd : ByteArray → Option (Tm × ByteArray)) {s : ByteArray} (v : Bool) (hn : isNameB (nodeName s).data.toList = true) (hq : preB s bQ = v) (ho : v = false → preB (nodeRest s) bOpen = false) :
    readN rd s = (leafR v (nodeRest s)).map fun p => (.mk (if v then 1 else 2) (nodeName s) p.1 [], p.2) := by
  unfold readN
  rw [if_neg (by rw [hn]; simp)]
  cases v with
  | true =>
    rw [if_pos hq]
    cases leafR true (nodeRest s) <;> rfl
  | false =>
    rw [if_neg (by rw [hq]; simp), if_pos (ho rfl)]
    cases leafR false (nodeRest s) <;> rfl
theorem readN_app (rd : ByteArray → Option (Tm × ByteArray)) {s : ByteArray} (hn : isNameB (nodeName s).data.toList = true) (hq : preB s bQ = false) (ho : preB (nodeRest s) bOpen = true) :
    readN rd s = (kidsR rd (s.size + 1) true (takeB (nodeRest s) bOpen)).map fun p => (.mk 3 (nodeName s) 0 p.1, p.2) := by
  unfold readN
  rw [if_neg (by rw [hn]; simp), if_neg (by rw [hq]; simp), if_neg (by rw [ho]; simp)]
  cases kidsR rd (s.size + 1) true (takeB (nodeRest s) bOpen) <;> rfl
theorem kidsR_first (rd : ByteArray → Option (Tm × ByteArray)) (m : Nat) (s : ByteArray) (hcl : preB s bClose = false) :
    kidsR rd (m + 1) true s = (match rd s with
      | none => none
      | some (x, r) => match kidsR rd m false r with
        | none => none
        | some (ks, r') => some (x :: ks, r')) := by
  rw [kidsR, if_neg (by rw [hcl]; simp), if_neg (by simp)]
  simp only [if_true]
end Go.Proofs.YtbcpnepjojppaaaGreatDoor
namespace Go.Proofs.YtbcpnepjojppaaaGreatDoor
open Go.RowKit
mutual
/-- What a term that was read is. -/
def WF : Tm → Prop
  | .mk k n s ks => isNameB n.data.toList = true ∧ (0 ≤ s ∧ s ≤ 5) ∧ (((k = 1 ∨ k = 2) ∧ ks = []) ∨ (k = 3 ∧ s = 0)) ∧ WFL ks
def WFL : List Tm → Prop
  | [] => True
  | t :: ts => WF t ∧ WFL ts
end
def headJ : List Tm → ByteArray
  | [] => ByteArray.empty
  | x :: ks => textT x ++ tailJ ks
theorem textT_app3 (n : ByteArray) (s : Int) (ks : List Tm) : textT (.mk 3 n s ks) = n ++ (bOpen ++ (headJ ks ++ bClose)) := by
  cases ks with
  | nil => simp [textT, textL, headJ, ByteArray.append_assoc]
  | cons x ks => simp [textT, textL, textL_tail, headJ, ByteArray.append_assoc]
theorem leaf_text {v : Bool} {s r : ByteArray} {k : Int} (h : leafR v s = some (k, r)) : (0 ≤ k ∧ k ≤ 5) ∧ s = (if k = 0 ∧ v = true then ByteArray.empty else bColon ++ wordB k) ++ r := by
  cases hcol : preB s bColon with
  | false =>
    rw [leafR_none v hcol] at h
    cases v with
    | false => simp at h
    | true =>
      simp only [if_true, Option.some.injEq, Prod.mk.injEq] at h
      obtain ⟨rfl, rfl⟩ := h
      simp
  | true =>
    cases hwr : wordR (nameAny (takeB s bColon)) with
    | none => rw [leafR_wrong v hcol hwr] at h; simp at h
    | some j =>
      rw [leafR_word v hcol hwr] at h
      obtain ⟨hj, he⟩ := wordR_some hwr
      by_cases hz : j = 0 ∧ v = true
      · rw [if_pos hz] at h; simp at h
      · rw [if_neg hz] at h
        simp only [Option.some.injEq, Prod.mk.injEq] at h
        obtain ⟨rfl, rfl⟩ := h
        refine ⟨hj, ?_⟩
        rw [if_neg hz]
        have h1 := (takeB_eq hcol).1
        have h2 := (nameAny_split (takeB s bColon)).1
        rw [← he, ByteArray.append_assoc, ← h2]
        exact h1
theorem leaf_zero {s r : ByteArray} {k : Int} (h : leafR true s = some (k, r)) : k = 0 → s = r := by
  intro hk
  have := (leaf_text h).2
  rw [if_pos ⟨hk, rfl⟩, ByteArray.empty_append] at this
  exact this
def textK (first : Bool) (ks : List Tm) : ByteArray := if first then headJ ks else tailJ ks
theorem kids_text {rd : ByteArray → Option (Tm × ByteArray)} (hrd : ∀ s t r, rd s = some (t, r) → WF t ∧ s = textT t ++ r) (m : Nat) : ∀ (first : Bool) (s : ByteArray) (ks : List Tm) (r : ByteArray), kidsR rd m first s = some (ks, r) → WFL ks ∧ s = textK first ks ++ (bClose ++ r) := by
  induction m with
  | zero => intro first s ks r h; rw [kidsR] at h; simp at h
  | succ m ih =>
    intro first s ks r h
    cases hcl : preB s bClose with
    | true =>
      rw [kidsR, if_pos hcl] at h
      simp only [Option.some.injEq, Prod.mk.injEq] at h
      obtain ⟨rfl, rfl⟩ := h
      refine ⟨by simp [WFL], ?_⟩
      have : textK first [] = ByteArray.empty := by cases first <;> rfl
      rw [this, ByteArray.empty_append]
      exact (takeB_eq hcl).1
    | false =>
      cases first with
      | true =>
        rw [kidsR_first _ _ _ hcl] at h
        cases hx : rd s with
        | none => rw [hx] at h; simp at h
        | some p =>
          obtain ⟨x, r1⟩ := p
          rw [hx] at h
          simp only at h
          cases hk : kidsR rd m false r1 with
          | none => rw [hk] at h; simp at h
          | some q =>
            obtain ⟨ks1, r2⟩ := q
            rw [hk] at h
            simp only [Option.some.injEq, Prod.mk.injEq] at h
            obtain ⟨rfl, rfl⟩ := h
            have h1 := hrd _ _ _ hx
            have h2 := ih false r1 ks1 r2 hk
            refine ⟨by rw [WFL]; exact ⟨h1.1, h2.1⟩, ?_⟩
            have e1 : textK true (x :: ks1) = textT x ++ tailJ ks1 := rfl
            have e2 : textK false ks1 = tailJ ks1 := rfl
            rw [e1, ByteArray.append_assoc, ← e2, ← h2.2]
            exact h1.2
      | false =>
        cases hc : preB s bComma with
        | false => rw [kidsR, if_neg (by rw [hcl]; simp), if_pos ⟨rfl, hc⟩] at h; simp at h
        | true =>
          rw [kidsR_succ _ _ _ hcl hc] at h
          cases hx : rd (takeB s bComma) with
          | none => rw [hx] at h; simp at h
          | some p =>
            obtain ⟨x, r1⟩ := p
            rw [hx] at h
            simp only at h
            cases hk : kidsR rd m false r1 with
            | none => rw [hk] at h; simp at h
            | some q =>
              obtain ⟨ks1, r2⟩ := q
              rw [hk] at h
              simp only [Option.some.injEq, Prod.mk.injEq] at h
              obtain ⟨rfl, rfl⟩ := h
              have h1 := hrd _ _ _ hx
              have h2 := ih false r1 ks1 r2 hk
              refine ⟨by rw [WFL]; exact ⟨h1.1, h2.1⟩, ?_⟩
              have e1 : textK false (x :: ks1) = bComma ++ (textT x ++ tailJ ks1) := rfl
              have e2 : textK false ks1 = tailJ ks1 := rfl
              rw [e1, ByteArray.append_assoc, ByteArray.append_assoc, ← e2, ← h2.2, ← h1.2]
              exact (takeB_eq hc).1
theorem readR_text (d : Nat) : ∀ (s : ByteArray) (t : Tm) (r : ByteArray), readR d s = some (t, r) → WF t ∧ s = textT t ++ r := by
  induction d with
  | zero => intro s t r h; rw [readR_zero] at h; simp at h
  | succ d ih =>
    intro s t r h
    rw [readR_succ] at h
    cases hn : isNameB (nodeName s).data.toList with
    | false => rw [readN_no _ hn] at h; simp at h
    | true =>
      have h2 := (node_split s).1
      cases hq : preB s bQ with
      | true =>
        have h1 := (takeB_eq hq).1
        rw [readN_leaf _ true hn hq (fun h => by simp at h)] at h
        cases hl : leafR true (nodeRest s) with
        | none => rw [hl] at h; simp at h
        | some p =>
          obtain ⟨k, r1⟩ := p
          rw [hl] at h
          simp only [Option.map_some, Option.some.injEq, Prod.mk.injEq, if_true] at h
          obtain ⟨rfl, rfl⟩ := h
          have h3 := leaf_text hl
          refine ⟨by rw [WF]; exact ⟨hn, h3.1, Or.inl ⟨Or.inl rfl, rfl⟩, by simp [WFL]⟩, ?_⟩
          by_cases hk : k = 0
          · subst hk
            have e : textT (.mk 1 (nodeName s) 0 []) = bQ ++ nodeName s := by simp [textT]
            have h4 := leaf_zero hl rfl
            rw [e, ByteArray.append_assoc, ← h4, ← h2]
            exact h1
          · have e : textT (.mk 1 (nodeName s) k []) = ((bQ ++ nodeName s) ++ bColon) ++ wordB k := by simp [textT, hk]
            have h4 := h3.2
            rw [if_neg (fun a => hk a.1), ByteArray.append_assoc] at h4
            rw [e, ByteArray.append_assoc, ByteArray.append_assoc, ByteArray.append_assoc, ← h4, ← h2]
            exact h1
      | false =>
        have h1 : takeB s bQ = s := takeB_no hq
        rw [h1] at h2
        cases ho : preB (nodeRest s) bOpen with
        | true =>
          rw [readN_app _ hn hq ho] at h
          cases hl : kidsR (readR d) (s.size + 1) true (takeB (nodeRest s) bOpen) with
          | none => rw [hl] at h; simp at h
          | some p =>
            obtain ⟨ks, r1⟩ := p
            rw [hl] at h
            simp only [Option.map_some, Option.some.injEq, Prod.mk.injEq] at h
            obtain ⟨rfl, rfl⟩ := h
            have h3 := kids_text ih _ true _ ks r1 hl
            refine ⟨by rw [WF]; exact ⟨hn, by omega, Or.inr ⟨rfl, rfl⟩, h3.1⟩, ?_⟩
            have e1 : textK true ks = headJ ks := rfl
            have h4 := (takeB_eq ho).1
            rw [textT_app3, ByteArray.append_assoc, ByteArray.append_assoc, ByteArray.append_assoc, ← e1, ← h3.2, ← h4]
            exact h2
        | false =>
          rw [readN_leaf _ false hn hq (fun _ => ho)] at h
          cases hl : leafR false (nodeRest s) with
          | none => rw [hl] at h; simp at h
          | some p =>
            obtain ⟨k, r1⟩ := p
            rw [hl] at h
            simp only [Option.map_some, Option.some.injEq, Prod.mk.injEq, Bool.false_eq_true, if_false] at h
            obtain ⟨rfl, rfl⟩ := h
            have h3 := leaf_text hl
            refine ⟨by rw [WF]; exact ⟨hn, h3.1, Or.inl ⟨Or.inr rfl, rfl⟩, by simp [WFL]⟩, ?_⟩
            have e : textT (.mk 2 (nodeName s) k []) = (nodeName s ++ bColon) ++ wordB k := by simp [textT]
            have h4 := h3.2
            rw [if_neg (by simp), ByteArray.append_assoc] at h4
            rw [e, ByteArray.append_assoc, ByteArray.append_assoc, ← h4]
            exact h2
end Go.Proofs.YtbcpnepjojppaaaGreatDoor
namespace Go.Proofs.YtbcpnepjojppaaaGreatDoor
open Go.RowKit
theorem tail_is : ∀ (l : List UInt8) (k : Nat), k ≤ l.length → (l.take k).all nameByte = true → (∀ h : k < l.length, nameByte l[k] = false) → tailLen l = k
  | [], k, h, _, _ => by simp at h; subst h; rfl
  | c :: l, 0, _, _, h => by
    have := h (by simp)
    simp only [List.getElem_cons_zero, nameByte, Bool.or_eq_false_iff] at this
    simp [tailLen, this.1, this.2]
  | c :: l, k + 1, h, ha, hb => by
    simp only [List.take_succ_cons, List.all_cons, Bool.and_eq_true] at ha
    have ih := tail_is l k (by simp at h; omega) ha.2 (fun hk => by have := hb (by simp; omega); simpa using this)
    have hc : (letterI c.toNat || laterI c.toNat) = true := ha.1
    simp only [tailLen]
    by_cases h1 : letterI c.toNat = true
    · rw [if_pos h1, ih]; omega
    · rw [if_neg h1, if_pos (by simpa [h1] using hc), ih]; omega
set_option maxHeartbeats 1600000 in
set_option maxRecDepth 100000 in
theorem rname_any (s : ByteArray) (w : World) (hs : s.size ≤ maxLen) :
    Calls Tryz.prog 134 #[.string s] w fun e w' => e = .returned (.string (nameAny s)) ∧ w = w' := by
  have hsz : s.data.toList.length = s.size := by simp
  unfold maxLen at hs
  have HT : Hid (∀ k : Nat, k ≤ s.size → (s.data.toList.take k).all nameByte = true → (∀ h : k < s.data.toList.length, nameByte s.data.toList[k] = false) → nameAny s = s.extract 0 k) := fun k hk h1 h2 => by
    unfold nameAny; rw [tail_is _ k (by omega) h1 h2]
  have hEx : ∀ k : Nat, (s.size : Int) ≤ 9223372036854775807 := fun _ => by omega
  go_enter Tryz.func134, Tryz.ntmps134
  go_wp2_with fail
  go_loop [3] (fun i => ∃ k : Nat, k ≤ s.size ∧ i = .int .i64 k ∧ Hid ((s.data.toList.take k).all nameByte = true)) (fun i => s.size - (intOf i).toNat)
  case atStart => exact ⟨0, Nat.zero_le _, rfl, by show _ = _; simp⟩
  case round =>
    obtain ⟨k, hk, rfl, HA⟩ := hrel
    have hki : (k : Int) ≤ (s.size : Int) := by omega
    by_cases hlt : k < s.size
    rotate_left
    · have H : Hid (nameAny s = s.extract 0 k) := HT.out k hk HA.out (fun h => by omega)
      go_wp2_with fail
      go_ret
      exact ⟨by rw [H.out]; rfl, rfl⟩
    have hkl : k < s.data.toList.length := by omega
    have HST := Lib.hid (all_take hkl)
    have HNO : Hid (nameByte s[k] = false → nameAny s = s.extract 0 k) := fun h => HT.out k hk HA.out (fun _ => h)
    have HL := Lib.hid (rletter_any (s[k].toNat : Int) w)
    have HD := Lib.hid (rdigit_any (s[k].toNat : Int) w)
    have e0 : s.data.toList[k] = s[k] := rfl
    rw [e0] at HST
    have hnb : nameByte s[k] = (letterI s[k].toNat || laterI s[k].toNat) := rfl
    have hdl : digitI s[k].toNat = true → laterI s[k].toNat = true := by intro h; simp [digitI, laterI] at *; omega
    have h95 : (s[k].toNat : Int) = 95 → laterI s[k].toNat = true := by intro h; simp [laterI]; omega
    have h35 : (s[k].toNat : Int) = 35 → laterI s[k].toNat = true := by intro h; simp [laterI]; omega
    have hno : digitI s[k].toNat = false → ¬ (s[k].toNat : Int) = 95 → ¬ (s[k].toNat : Int) = 35 → laterI s[k].toNat = false := by intro h a b; simp [digitI, laterI] at *; omega
    generalize nameByte s[k] = nb at hnb HST HNO
    have HNX : Hid (nb = true → (s.data.toList.take (k + 1)).all nameByte = true) := fun h => by rw [HST.out, HA.out, h]; rfl
    by_cases hL : letterI (s[k].toNat : Int) = true
    · have HA2 : Hid ((s.data.toList.take (k + 1)).all nameByte = true) := HNX.out (by rw [hnb, hL]; rfl)
      rw [hL] at HL
      clear hnb hdl h95 h35 hno hL e0
      go_wp2_with (first
          | (go_at_call 173; refine (HL.out).mono ?_; rintro e w' ⟨rfl, rfl⟩)
          | (go_at_call 174; refine (HD.out).mono ?_; rintro e w' ⟨rfl, rfl⟩))
      go_round
      case rel => exact ⟨k + 1, by omega, by go_num, HA2⟩
      case measure => simp [intOf]; omega
    have hL' : letterI (s[k].toNat : Int) = false := by simpa using hL
    rw [hL'] at HL
    by_cases hD : digitI (s[k].toNat : Int) = true
    · have HA2 : Hid ((s.data.toList.take (k + 1)).all nameByte = true) := HNX.out (by rw [hnb, hdl hD]; simp)
      rw [hD] at HD
      clear hnb hdl h95 h35 hno hL hL' hD e0
      go_wp2_with (first
          | (go_at_call 173; refine (HL.out).mono ?_; rintro e w' ⟨rfl, rfl⟩)
          | (go_at_call 174; refine (HD.out).mono ?_; rintro e w' ⟨rfl, rfl⟩))
      go_round
      case rel => exact ⟨k + 1, by omega, by go_num, HA2⟩
      case measure => simp [intOf]; omega
    have hD' : digitI (s[k].toNat : Int) = false := by simpa using hD
    rw [hD'] at HD
    by_cases hx : (s[k].toNat : Int) = 95
    · have HA2 : Hid ((s.data.toList.take (k + 1)).all nameByte = true) := HNX.out (by rw [hnb, h95 hx]; simp)
      have hb1 : ((s[k].toNat : Int) == 95) = true := by simp [hx]
      clear hnb hdl h95 h35 hno hL hL' hD hD' hx e0
      go_wp2_with (first
          | (go_at_call 173; refine (HL.out).mono ?_; rintro e w' ⟨rfl, rfl⟩)
          | (go_at_call 174; refine (HD.out).mono ?_; rintro e w' ⟨rfl, rfl⟩))
      go_round
      case rel => exact ⟨k + 1, by omega, by go_num, HA2⟩
      case measure => simp [intOf]; omega
    have hb1 : ((s[k].toNat : Int) == 95) = false := by simp [hx]
    by_cases hy : (s[k].toNat : Int) = 35
    · have HA2 : Hid ((s.data.toList.take (k + 1)).all nameByte = true) := HNX.out (by rw [hnb, h35 hy]; simp)
      have hb2 : ((s[k].toNat : Int) == 35) = true := by simp [hy]
      clear hnb hdl h95 h35 hno hL hL' hD hD' hx hy e0
      go_wp2_with (first
          | (go_at_call 173; refine (HL.out).mono ?_; rintro e w' ⟨rfl, rfl⟩)
          | (go_at_call 174; refine (HD.out).mono ?_; rintro e w' ⟨rfl, rfl⟩))
      go_round
      case rel => exact ⟨k + 1, by omega, by go_num, HA2⟩
      case measure => simp [intOf]; omega
    have hb2 : ((s[k].toNat : Int) == 35) = false := by simp [hy]
    have H : Hid (nameAny s = s.extract 0 k) := HNO.out (by rw [hnb, hL', hno hD' hx hy]; rfl)
    clear hnb hdl h95 h35 hno hL hL' hD hD' hx hy e0
    go_wp2_with (first
          | (go_at_call 173; refine (HL.out).mono ?_; rintro e w' ⟨rfl, rfl⟩)
          | (go_at_call 174; refine (HD.out).mono ?_; rintro e w' ⟨rfl, rfl⟩))
    go_ret
    exact ⟨by rw [H.out]; rfl, rfl⟩
end Go.Proofs.YtbcpnepjojppaaaGreatDoor
namespace Go.Proofs.YtbcpnepjojppaaaGreatDoor
open Go.RowKit
theorem bslice_slice (s : ByteArray) (k : Nat) (h : 1 ≤ s.size) : (s.extract 1 s.size).extract k (s.extract 1 s.size).size = s.extract (1 + k) s.size := by
  rw [ByteArray.extract_extract, ByteArray.size_extract]
  congr 1
  omega
theorem take_colon {s : ByteArray} (h : preB s bColon = true) : takeB s bColon = s.extract 1 s.size := by
  unfold takeB; rw [h]; rfl
theorem pre_one {s p : ByteArray} {c : UInt8} (hp : p = ⟨#[c]⟩) : preB s p = true ↔ ∃ h : 0 < s.size, s[0] = c := by
  subst hp
  have hsz : s.data.toList.length = s.size := by simp
  constructor
  · intro h
    have h1 := (takeB_eq h)
    have hc1 : (⟨#[c]⟩ : ByteArray).size = 1 := rfl
    have h2 : 1 ≤ s.size := by have := h1.2; omega
    refine ⟨h2, ?_⟩
    have h3 := preB_prefix h
    have e0 : s.data.toList[0]? = some s[0] := by rw [List.getElem?_eq_getElem (by omega)]; rfl
    obtain ⟨q, hq⟩ := h3
    rw [← hq] at e0
    simp at e0
    exact e0.symm
  · rintro ⟨h, hc⟩
    simp only [preB, Bool.and_eq_true, decide_eq_true_eq, beq_iff_eq, Lib.toList_data, ByteArray.data_extract, Array.toList_extract]
    refine ⟨h, ?_⟩
    have e0 : s.data.toList[0]? = some s[0] := by rw [List.getElem?_eq_getElem (by omega)]; rfl
    simp only [List.extract_eq_take_drop, List.drop_zero]
    generalize s.data.toList = l at e0
    cases l with
    | nil => simp at e0
    | cons a l =>
      simp only [List.getElem?_cons_zero, Option.some.injEq] at e0
      subst e0
      rw [hc]; rfl
theorem leafR_at {v : Bool} {s : ByteArray} {j : Int} (hcol : preB s bColon = true) (hj : 0 ≤ j ∧ j ≤ 5) (hn : nameAny (takeB s bColon) = wordB j) (h0 : ¬ (j = 0 ∧ v = true)) : leafR v s = some (j, (takeB s bColon).extract (nameAny (takeB s bColon)).size (takeB s bColon).size) := by
  rw [leafR_word v hcol (by rw [hn]; exact wordR_word j hj), if_neg h0]
theorem leafR_end {v : Bool} {s : ByteArray} (hcol : preB s bColon = true) (h : ∀ j : Int, 0 ≤ j → j ≤ 5 → nameAny (takeB s bColon) = wordB j → (j = 0 ∧ v = true)) : leafR v s = none := by
  cases hw : wordR (nameAny (takeB s bColon)) with
  | none => exact leafR_wrong v hcol hw
  | some k =>
    obtain ⟨hk, he⟩ := wordR_some hw
    rw [leafR_word v hcol hw, if_pos (h k hk.1 hk.2 he)]
def LeafPost (w : World) (k0 : Int) (n : ByteArray) (r : Option (Int × ByteArray)) (e : Ending) (w' : World) : Prop :=
  Below w.heap.size w w' ∧ match r with
    | none => ∃ x, e = .returned (.tuple #[.agg #[.int .i64 k0, .string n, .int .i64 0, .slice none 0 0], .string x, .bool false])
    | some (k, x) => e = .returned (.tuple #[.agg #[.int .i64 k0, .string n, .int .i64 k, .slice none 0 0], .string x, .bool true])
theorem two_cells (w : World) (o : Obj) (a b c d : Value) (T : TypeId) : ∀ W : World, W.heap = ((w.alloc o).alloc (.cells #[a, b, c, d] T)).heap → W.cell? ⟨w.heap.size + 1, 0, none⟩ = some a ∧ W.cell? ⟨w.heap.size + 1, 1, none⟩ = some b ∧ W.cell? ⟨w.heap.size + 1, 2, none⟩ = some c ∧ W.cell? ⟨w.heap.size + 1, 3, none⟩ = some d := by
  intro W h
  have hb := heap_alloc_new (w.alloc o) (.cells #[a, b, c, d] T)
  rw [World.size_alloc, ← h] at hb
  exact (box_facts hb).1
theorem two_below (w : World) (o o' : Obj) : Below w.heap.size w ((w.alloc o).alloc o') := ((Below.refl _ _).alloc (Nat.le_refl _) _).alloc (by simp) _
set_option maxHeartbeats 1600000 in
set_option maxRecDepth 100000 in
theorem leaf_e1 (n s : ByteArray) (w : World) (h0 : s.size = 0) :
    Calls Tryz.prog 136 #[.agg #[.int .i64 1, .string n, .int .i64 0, .slice none 0 0], .string s] w fun e w' => Below w.heap.size w w' ∧ e = .returned (.tuple #[.agg #[.int .i64 1, .string n, .int .i64 0, .slice none 0 0], .string s, .bool true]) := by
  have e0 : ((s.size : Int) == 0) = true := by simp [h0]
  clear h0
  go_enter Tryz.func136, Tryz.ntmps136
  go_wp2_with fail
  go_region
  go_wp2_with fail
  obtain ⟨m0, m1, m2, m3⟩ := two_cells w (.cells #[.int .i64 1, .string n, .int .i64 0, .slice none 0 0] 24) (.int .i64 1) (.string n) (.int .i64 0) (.slice none 0 0) 24 (((w.alloc (.cells #[.int .i64 1, .string n, .int .i64 0, .slice none 0 0] 24)).alloc (.cells #[.int .i64 1, .string n, .int .i64 0, .slice none 0 0] 24)).drew) rfl
  exact bodyPost_ret (v := .tuple #[.agg #[.int .i64 1, .string n, .int .i64 0, .slice none 0 0], .string s, .bool true]) (by simp [results, Tryz.results136, go_sem, m0, m1, m2, m3]) rfl ⟨(two_below w _ _).drew, rfl⟩
set_option maxHeartbeats 1600000 in
set_option maxRecDepth 100000 in
theorem leaf_n1 (n s : ByteArray) (w : World) (hs : s.size ≤ maxLen) (h0 : 0 < s.size) (hne : ¬ s[0] = 58) :
    Calls Tryz.prog 136 #[.agg #[.int .i64 1, .string n, .int .i64 0, .slice none 0 0], .string s] w fun e w' => Below w.heap.size w w' ∧ e = .returned (.tuple #[.agg #[.int .i64 1, .string n, .int .i64 0, .slice none 0 0], .string s, .bool true]) := by
  unfold maxLen at hs
  have e0 : ((s.size : Int) == 0) = false := by rw [beq_eq_false_iff_ne]; omega
  have e1 : ((s[0].toNat : Int) != 58) = true := by
    simp only [bne_iff_ne, ne_eq]
    intro h
    exact hne (UInt8.toNat_inj.1 (by rw [show (58 : UInt8).toNat = 58 from rfl]; omega))
  have e2 : (0 : Int) < (s.size : Int) := by omega
  clear hne
  go_enter Tryz.func136, Tryz.ntmps136
  go_wp2_with fail
  go_region
  go_wp2_with fail
  obtain ⟨m0, m1, m2, m3⟩ := two_cells w (.cells #[.int .i64 1, .string n, .int .i64 0, .slice none 0 0] 24) (.int .i64 1) (.string n) (.int .i64 0) (.slice none 0 0) 24 (((w.alloc (.cells #[.int .i64 1, .string n, .int .i64 0, .slice none 0 0] 24)).alloc (.cells #[.int .i64 1, .string n, .int .i64 0, .slice none 0 0] 24)).drew) rfl
  exact bodyPost_ret (v := .tuple #[.agg #[.int .i64 1, .string n, .int .i64 0, .slice none 0 0], .string s, .bool true]) (by simp [results, Tryz.results136, go_sem, m0, m1, m2, m3]) rfl ⟨(two_below w _ _).drew, rfl⟩
set_option maxHeartbeats 1600000 in
set_option maxRecDepth 100000 in
theorem leaf_e2 (n s : ByteArray) (w : World) (h0 : s.size = 0) :
    Calls Tryz.prog 136 #[.agg #[.int .i64 2, .string n, .int .i64 0, .slice none 0 0], .string s] w fun e w' => Below w.heap.size w w' ∧ e = .returned (.tuple #[.agg #[.int .i64 2, .string n, .int .i64 0, .slice none 0 0], .string s, .bool false]) := by
  have e0 : ((s.size : Int) == 0) = true := by simp [h0]
  clear h0
  go_enter Tryz.func136, Tryz.ntmps136
  go_wp2_with fail
  go_region
  go_wp2_with fail
  obtain ⟨m0, m1, m2, m3⟩ := two_cells w (.cells #[.int .i64 2, .string n, .int .i64 0, .slice none 0 0] 24) (.int .i64 2) (.string n) (.int .i64 0) (.slice none 0 0) 24 (((w.alloc (.cells #[.int .i64 2, .string n, .int .i64 0, .slice none 0 0] 24)).alloc (.cells #[.int .i64 2, .string n, .int .i64 0, .slice none 0 0] 24)).drew) rfl
  exact bodyPost_ret (v := .tuple #[.agg #[.int .i64 2, .string n, .int .i64 0, .slice none 0 0], .string s, .bool false]) (by simp [results, Tryz.results136, go_sem, m0, m1, m2, m3]) rfl ⟨(two_below w _ _).drew, rfl⟩
set_option maxHeartbeats 1600000 in
set_option maxRecDepth 100000 in
theorem leaf_n2 (n s : ByteArray) (w : World) (hs : s.size ≤ maxLen) (h0 : 0 < s.size) (hne : ¬ s[0] = 58) :
    Calls Tryz.prog 136 #[.agg #[.int .i64 2, .string n, .int .i64 0, .slice none 0 0], .string s] w fun e w' => Below w.heap.size w w' ∧ e = .returned (.tuple #[.agg #[.int .i64 2, .string n, .int .i64 0, .slice none 0 0], .string s, .bool false]) := by
  unfold maxLen at hs
  have e0 : ((s.size : Int) == 0) = false := by rw [beq_eq_false_iff_ne]; omega
  have e1 : ((s[0].toNat : Int) != 58) = true := by
    simp only [bne_iff_ne, ne_eq]
    intro h
    exact hne (UInt8.toNat_inj.1 (by rw [show (58 : UInt8).toNat = 58 from rfl]; omega))
  have e2 : (0 : Int) < (s.size : Int) := by omega
  clear hne
  go_enter Tryz.func136, Tryz.ntmps136
  go_wp2_with fail
  go_region
  go_wp2_with fail
  obtain ⟨m0, m1, m2, m3⟩ := two_cells w (.cells #[.int .i64 2, .string n, .int .i64 0, .slice none 0 0] 24) (.int .i64 2) (.string n) (.int .i64 0) (.slice none 0 0) 24 (((w.alloc (.cells #[.int .i64 2, .string n, .int .i64 0, .slice none 0 0] 24)).alloc (.cells #[.int .i64 2, .string n, .int .i64 0, .slice none 0 0] 24)).drew) rfl
  exact bodyPost_ret (v := .tuple #[.agg #[.int .i64 2, .string n, .int .i64 0, .slice none 0 0], .string s, .bool false]) (by simp [results, Tryz.results136, go_sem, m0, m1, m2, m3]) rfl ⟨(two_below w _ _).drew, rfl⟩
theorem leaf_none (k0 : Int) (hk : k0 = 1 ∨ k0 = 2) (n s : ByteArray) (w : World) (hs : s.size ≤ maxLen) (hcol : preB s bColon = false) :
    Calls Tryz.prog 136 #[.agg #[.int .i64 k0, .string n, .int .i64 0, .slice none 0 0], .string s] w (LeafPost w k0 n (leafR (decide (k0 = 1)) s)) := by
  have hz : s.size = 0 ∨ ∃ h : 0 < s.size, ¬ s[0] = 58 := by
    by_cases h : 0 < s.size
    · right; exact ⟨h, fun h2 => by have := (pre_one (s := s) (p := bColon) rfl).2 ⟨h, h2⟩; rw [hcol] at this; cases this⟩
    · left; omega
  rw [leafR_none _ hcol]
  rcases hk with rfl | rfl
  · rcases hz with h0 | ⟨h0, hne⟩
    · exact (leaf_e1 n s w h0).mono fun e w' h => ⟨h.1, h.2⟩
    · exact (leaf_n1 n s w hs h0 hne).mono fun e w' h => ⟨h.1, h.2⟩
  · rcases hz with h0 | ⟨h0, hne⟩
    · exact (leaf_e2 n s w h0).mono fun e w' h => ⟨h.1, _, h.2⟩
    · exact (leaf_n2 n s w hs h0 hne).mono fun e w' h => ⟨h.1, _, h.2⟩
set_option maxHeartbeats 3200000 in
set_option maxRecDepth 100000 in
theorem leaf_c1 (n s : ByteArray) (w : World) (hs : s.size ≤ maxLen) (hcol : preB s bColon = true) :
    Calls Tryz.prog 136 #[.agg #[.int .i64 1, .string n, .int .i64 0, .slice none 0 0], .string s] w (LeafPost w 1 n (leafR true s)) := by
  unfold maxLen at hs
  have htk := take_colon hcol
  obtain ⟨h0, h58⟩ := (pre_one (s := s) (p := bColon) rfl).1 hcol
  have e0 : ((s.size : Int) == 0) = false := by rw [beq_eq_false_iff_ne]; omega
  have e1 : ((s[0].toNat : Int) != 58) = false := by rw [h58]; rfl
  have e2 : (0 : Int) < (s.size : Int) := by omega
  have e3 : (1 : Int) ≤ (s.size : Int) := by omega
  have hxs : (s.extract 1 s.size).size + 1 = s.size := by rw [ByteArray.size_extract]; omega
  have hns : (nameAny (s.extract 1 s.size)).size ≤ (s.extract 1 s.size).size := by
    have := tailLen_le (s.extract 1 s.size).data.toList
    have hl : (s.extract 1 s.size).data.toList.length = (s.extract 1 s.size).size := by simp
    unfold nameAny; rw [ByteArray.size_extract]; omega
  have HN := Lib.hid (fun W => rname_any (s.extract 1 s.size) W (by unfold maxLen; omega))
  have HAT : Hid (∀ j : Int, 0 ≤ j ∧ j ≤ 5 → nameAny (s.extract 1 s.size) = wordB j → ¬ (j = 0) → leafR true s = some (j, s.extract (1 + (nameAny (s.extract 1 s.size)).size) s.size)) := fun j hj h hz => by
    rw [leafR_at hcol hj (by rw [htk]; exact h) (fun a => hz a.1), htk, bslice_slice s _ h0]
  have HEND : Hid ((∀ j : Int, 0 ≤ j → j ≤ 5 → nameAny (s.extract 1 s.size) = wordB j → (j = 0)) → leafR true s = none) := fun h => leafR_end hcol (fun j h1 h2 h3 => ⟨h j h1 h2 (by rw [← htk]; exact h3), rfl⟩)
  generalize nameAny (s.extract 1 s.size) = nm at hns HN HAT HEND
  have f1 : (1 : Int) + (nm.size : Int) ≤ (s.size : Int) := by omega
  have f2 : (0 : Int) ≤ 1 + (nm.size : Int) := by omega
  have f3 : IntKind.i64.wrap (1 + (nm.size : Int)) = ((1 + nm.size : Nat) : Int) := (IntWalk.i64_in _ (by omega)).trans (by omega)
  have f4 : ((1 + nm.size : Nat) : Int) ≤ (s.size : Int) := by omega
  clear hcol h58 htk hns hxs
  have hEr := Ext.refl ((w.alloc (.cells #[.int .i64 1, .string n, .int .i64 0, .slice none 0 0] 24)).alloc (.cells #[.int .i64 0, .string ⟨#[]⟩, .int .i64 0, .slice none 0 0] 24))
  have hEw : Ext w ((w.alloc (.cells #[.int .i64 1, .string n, .int .i64 0, .slice none 0 0] 24)).alloc (.cells #[.int .i64 0, .string ⟨#[]⟩, .int .i64 0, .slice none 0 0] 24)) := two_below w _ _
  go_enter Tryz.func136, Tryz.ntmps136
  go_wp2_with (go_at_call 134; refine (HN.out _).mono ?_; rintro e w3 ⟨he, hw⟩; subst he; subst hw)
  have HC : Hid (∀ W, Ext ((w.alloc (.cells #[.int .i64 1, .string n, .int .i64 0, .slice none 0 0] 24)).alloc (.cells #[.int .i64 0, .string ⟨#[]⟩, .int .i64 0, .slice none 0 0] 24)) W → W.heap[w.heap.size]? = some (.cells #[.int .i64 1, .string n, .int .i64 0, .slice none 0 0] 24 (0, 0)) ∧ W.heap[w.heap.size + 1]? = some (.cells #[.int .i64 0, .string ⟨#[]⟩, .int .i64 0, .slice none 0 0] 24 (0, 0))) := fun W h => by
    refine ⟨?_, ?_⟩
    · rw [h.block _ (by simp only [World.size_alloc]; omega), Below.heap_alloc _ _ _ (by simp)]; exact heap_alloc_new w _
    · rw [h.block _ (by simp only [World.size_alloc]; omega)]
      have := heap_alloc_new (w.alloc (.cells #[.int .i64 1, .string n, .int .i64 0, .slice none 0 0] 24)) (.cells #[.int .i64 0, .string ⟨#[]⟩, .int .i64 0, .slice none 0 0] 24)
      rw [World.size_alloc] at this; exact this
  generalize ((w.alloc (.cells #[.int .i64 1, .string n, .int .i64 0, .slice none 0 0] 24)).alloc (.cells #[.int .i64 0, .string ⟨#[]⟩, .int .i64 0, .slice none 0 0] 24)) = wq at hEr hEw HC ⊢
  go_loopw [8] (fun i wr => ∃ j : Nat, j ≤ 6 ∧ i = .int .i64 j ∧ Hid (∀ i : Int, 0 ≤ i → i < (j : Int) → nm = wordB i → (i = 0)) ∧ Ext wq wr) (fun i _ => 6 - (intOf i).toNat)
  case atStart => exact ⟨0, by omega, rfl, (fun i h1 h2 _ => by omega), hEr⟩
  case round =>
    obtain ⟨j, hj, rfl, HNO, hE⟩ := hrel
    have HE := Lib.hid hE
    obtain ⟨hb0, hb1⟩ := HC.out _ hE
    have HB := Lib.hid (And.intro hb0 hb1)
    by_cases hlt : j ≤ 5
    rotate_left
    · have hno : leafR true s = none := HEND.out (fun i h1 h2 h3 => HNO.out i h1 (by omega) h3)
      have HL := Lib.hid hno
      have hj6 : (5 : Int) < (j : Int) := by omega
      obtain ⟨⟨y0, y1, y2, y3⟩, z0, z1, z2, z3⟩ := box_facts hb0
      obtain ⟨⟨m0, m1, m2, m3⟩, n0, n1, n2, n3⟩ := box_facts hb1
      clear hno hb0 hb1 hE
      go_wp2_with fail
      exact bodyPost_ret (v := .tuple #[.agg #[.int .i64 1, .string n, .int .i64 0, .slice none 0 0], .string s, .bool false]) (by simp [results, Tryz.results136, go_sem, m0, m1, m2, m3]) rfl (by rw [HL.out]; exact ⟨put4_below (Ext.trans hEw HE.out) (by omega), _, rfl⟩)
    have HW := Lib.hid (fun W => rword_any (j : Int) ⟨by omega, by omega⟩ W)
    have HATj : Hid (nm = wordB (j : Int) → ¬ ((j : Int) = 0) → leafR true s = some ((j : Int), s.extract (1 + nm.size) s.size)) := fun h hz => HAT.out j ⟨by omega, by omega⟩ h hz
    have HNX : Hid ((nm = wordB (j : Int) → ((j : Int) = 0)) → ∀ i : Int, 0 ≤ i → i < ((j + 1 : Nat) : Int) → nm = wordB i → (i = 0)) := fun h i h1 h2 h3 => by
      by_cases hij : i = (j : Int)
      · subst hij; exact h h3
      · exact HNO.out i h1 (by omega) h3
    generalize wordB (j : Int) = wd at HW HATj HNX
    have hj5 : (j : Int) ≤ 5 := by omega
    clear hb0 hb1 hE
    by_cases hw : nm = wd
    rotate_left
    · have q : (nm.toList == wd.toList) = false := by rw [beq_eq_false_iff_ne]; intro h; exact hw (ByteArray.ext (Array.toList_inj.1 (by simpa only [Lib.toList_data] using h)))
      have HNX2 := Lib.hid (HNX.out (fun h => absurd h hw))
      clear hw
      go_wp2_with (go_at_call 175; refine (HW.out _).mono ?_; rintro e w5 ⟨he, hB5⟩; subst he; have HE5 : Hid (Ext wq w5) := Lib.hid (Ext.trans HE.out hB5); clear hB5)
      go_roundw
      case rel => exact ⟨j + 1, by omega, by go_num, HNX2, HE5.out⟩
      case measure => simp [intOf]; omega
    subst hw
    have q : (nm.toList == nm.toList) = true := by simp
    by_cases hj0 : (j : Int) = 0
    · have HNX2 := Lib.hid (HNX.out (fun _ => hj0))
      have q2 : ((j : Int) != 0) = false := by simp [hj0]
      clear hj0
      go_wp2_with (go_at_call 175; refine (HW.out _).mono ?_; rintro e w5 ⟨he, hB5⟩; subst he; have HE5 : Hid (Ext wq w5) := Lib.hid (Ext.trans HE.out hB5); obtain ⟨hc0, hc1⟩ := HC.out _ HE5.out; obtain ⟨⟨y0, y1, y2, y3⟩, z0, z1, z2, z3⟩ := box_facts hc0; clear hB5 hc0 hc1)
      go_roundw
      case rel => exact ⟨j + 1, by omega, by go_num, HNX2, HE5.out⟩
      case measure => simp [intOf]; omega
    have q2 : ((j : Int) != 0) = true := by rw [bne_iff_ne]; exact hj0
    have HATj2 := Lib.hid (HATj.out rfl hj0)
    clear hj0
    go_wp2_with (go_at_call 175; refine (HW.out _).mono ?_; rintro e w5 ⟨he, hB5⟩; subst he; have HE5 : Hid (Ext wq w5) := Lib.hid (Ext.trans HE.out hB5); obtain ⟨hc0, hc1⟩ := HC.out _ HE5.out; obtain ⟨⟨y0, y1, y2, y3⟩, z0, z1, z2, z3⟩ := box_facts hc0; have HC0 := Lib.hid hc0; have HC1 := Lib.hid hc1; clear hB5 hc0 hc1)
    have hs8 : (w5.setCell ⟨w.heap.size, 2, none⟩ (.int .i64 (j : Int))).heap[w.heap.size]? = some (.cells #[.int .i64 1, .string n, .int .i64 (j : Int), .slice none 0 0] 24 (0, 0)) := by simp [World.setCell, Array.getElem?_modify, HC0.out]
    have hr8 : (w5.setCell ⟨w.heap.size, 2, none⟩ (.int .i64 (j : Int))).heap[w.heap.size + 1]? = some (.cells #[.int .i64 0, .string ⟨#[]⟩, .int .i64 0, .slice none 0 0] 24 (0, 0)) := by rw [Below.heap_setCell _ _ _ _ (by show w.heap.size + 1 ≠ w.heap.size; omega)]; exact HC1.out
    have hB8 : Below w.heap.size w (w5.setCell ⟨w.heap.size, 2, none⟩ (.int .i64 (j : Int))) := (Ext.trans hEw HE5.out).setCell (Nat.le_refl _) _
    clear y0 y1 y2 y3 z0 z1 z2 z3
    generalize w5.setCell ⟨w.heap.size, 2, none⟩ (.int .i64 (j : Int)) = w8 at hs8 hr8 hB8 ⊢
    obtain ⟨⟨y0, y1, y2, y3⟩, z0, z1, z2, z3⟩ := box_facts hs8
    obtain ⟨⟨m0, m1, m2, m3⟩, n0, n1, n2, n3⟩ := box_facts hr8
    have HB8 := Lib.hid hB8
    clear hs8 hr8 hB8
    go_region
    go_wp2_with fail
    exact bodyPost_ret (v := .tuple #[.agg #[.int .i64 1, .string n, .int .i64 (j : Int), .slice none 0 0], .string (s.extract (1 + nm.size) s.size), .bool true]) (by simp [results, Tryz.results136, go_sem, m0, m1, m2, m3]) rfl (by rw [HATj2.out]; exact ⟨put4_below (w' := w8.drew) (g := w.heap.size + 1) (o := 0) HB8.out.drew (by omega), rfl⟩)
set_option maxHeartbeats 3200000 in
set_option maxRecDepth 100000 in
theorem leaf_c2 (n s : ByteArray) (w : World) (hs : s.size ≤ maxLen) (hcol : preB s bColon = true) :
    Calls Tryz.prog 136 #[.agg #[.int .i64 2, .string n, .int .i64 0, .slice none 0 0], .string s] w (LeafPost w 2 n (leafR false s)) := by
  unfold maxLen at hs
  have htk := take_colon hcol
  obtain ⟨h0, h58⟩ := (pre_one (s := s) (p := bColon) rfl).1 hcol
  have e0 : ((s.size : Int) == 0) = false := by rw [beq_eq_false_iff_ne]; omega
  have e1 : ((s[0].toNat : Int) != 58) = false := by rw [h58]; rfl
  have e2 : (0 : Int) < (s.size : Int) := by omega
  have e3 : (1 : Int) ≤ (s.size : Int) := by omega
  have hxs : (s.extract 1 s.size).size + 1 = s.size := by rw [ByteArray.size_extract]; omega
  have hns : (nameAny (s.extract 1 s.size)).size ≤ (s.extract 1 s.size).size := by
    have := tailLen_le (s.extract 1 s.size).data.toList
    have hl : (s.extract 1 s.size).data.toList.length = (s.extract 1 s.size).size := by simp
    unfold nameAny; rw [ByteArray.size_extract]; omega
  have HN := Lib.hid (fun W => rname_any (s.extract 1 s.size) W (by unfold maxLen; omega))
  have HAT : Hid (∀ j : Int, 0 ≤ j ∧ j ≤ 5 → nameAny (s.extract 1 s.size) = wordB j → ¬ (False) → leafR false s = some (j, s.extract (1 + (nameAny (s.extract 1 s.size)).size) s.size)) := fun j hj h hz => by
    rw [leafR_at hcol hj (by rw [htk]; exact h) (fun a => by simp at a), htk, bslice_slice s _ h0]
  have HEND : Hid ((∀ j : Int, 0 ≤ j → j ≤ 5 → nameAny (s.extract 1 s.size) = wordB j → (False)) → leafR false s = none) := fun h => leafR_end hcol (fun j h1 h2 h3 => (h j h1 h2 (by rw [← htk]; exact h3)).elim)
  generalize nameAny (s.extract 1 s.size) = nm at hns HN HAT HEND
  have f1 : (1 : Int) + (nm.size : Int) ≤ (s.size : Int) := by omega
  have f2 : (0 : Int) ≤ 1 + (nm.size : Int) := by omega
  have f3 : IntKind.i64.wrap (1 + (nm.size : Int)) = ((1 + nm.size : Nat) : Int) := (IntWalk.i64_in _ (by omega)).trans (by omega)
  have f4 : ((1 + nm.size : Nat) : Int) ≤ (s.size : Int) := by omega
  clear hcol h58 htk hns hxs
  have hEr := Ext.refl ((w.alloc (.cells #[.int .i64 2, .string n, .int .i64 0, .slice none 0 0] 24)).alloc (.cells #[.int .i64 0, .string ⟨#[]⟩, .int .i64 0, .slice none 0 0] 24))
  have hEw : Ext w ((w.alloc (.cells #[.int .i64 2, .string n, .int .i64 0, .slice none 0 0] 24)).alloc (.cells #[.int .i64 0, .string ⟨#[]⟩, .int .i64 0, .slice none 0 0] 24)) := two_below w _ _
  go_enter Tryz.func136, Tryz.ntmps136
  go_wp2_with (go_at_call 134; refine (HN.out _).mono ?_; rintro e w3 ⟨he, hw⟩; subst he; subst hw)
  have HC : Hid (∀ W, Ext ((w.alloc (.cells #[.int .i64 2, .string n, .int .i64 0, .slice none 0 0] 24)).alloc (.cells #[.int .i64 0, .string ⟨#[]⟩, .int .i64 0, .slice none 0 0] 24)) W → W.heap[w.heap.size]? = some (.cells #[.int .i64 2, .string n, .int .i64 0, .slice none 0 0] 24 (0, 0)) ∧ W.heap[w.heap.size + 1]? = some (.cells #[.int .i64 0, .string ⟨#[]⟩, .int .i64 0, .slice none 0 0] 24 (0, 0))) := fun W h => by
    refine ⟨?_, ?_⟩
    · rw [h.block _ (by simp only [World.size_alloc]; omega), Below.heap_alloc _ _ _ (by simp)]; exact heap_alloc_new w _
    · rw [h.block _ (by simp only [World.size_alloc]; omega)]
      have := heap_alloc_new (w.alloc (.cells #[.int .i64 2, .string n, .int .i64 0, .slice none 0 0] 24)) (.cells #[.int .i64 0, .string ⟨#[]⟩, .int .i64 0, .slice none 0 0] 24)
      rw [World.size_alloc] at this; exact this
  generalize ((w.alloc (.cells #[.int .i64 2, .string n, .int .i64 0, .slice none 0 0] 24)).alloc (.cells #[.int .i64 0, .string ⟨#[]⟩, .int .i64 0, .slice none 0 0] 24)) = wq at hEr hEw HC ⊢
  go_loopw [8] (fun i wr => ∃ j : Nat, j ≤ 6 ∧ i = .int .i64 j ∧ Hid (∀ i : Int, 0 ≤ i → i < (j : Int) → nm = wordB i → (False)) ∧ Ext wq wr) (fun i _ => 6 - (intOf i).toNat)
  case atStart => exact ⟨0, by omega, rfl, (fun i h1 h2 _ => by omega), hEr⟩
  case round =>
    obtain ⟨j, hj, rfl, HNO, hE⟩ := hrel
    have HE := Lib.hid hE
    obtain ⟨hb0, hb1⟩ := HC.out _ hE
    have HB := Lib.hid (And.intro hb0 hb1)
    by_cases hlt : j ≤ 5
    rotate_left
    · have hno : leafR false s = none := HEND.out (fun i h1 h2 h3 => HNO.out i h1 (by omega) h3)
      have HL := Lib.hid hno
      have hj6 : (5 : Int) < (j : Int) := by omega
      obtain ⟨⟨y0, y1, y2, y3⟩, z0, z1, z2, z3⟩ := box_facts hb0
      obtain ⟨⟨m0, m1, m2, m3⟩, n0, n1, n2, n3⟩ := box_facts hb1
      clear hno hb0 hb1 hE
      go_wp2_with fail
      exact bodyPost_ret (v := .tuple #[.agg #[.int .i64 2, .string n, .int .i64 0, .slice none 0 0], .string s, .bool false]) (by simp [results, Tryz.results136, go_sem, m0, m1, m2, m3]) rfl (by rw [HL.out]; exact ⟨put4_below (Ext.trans hEw HE.out) (by omega), _, rfl⟩)
    have HW := Lib.hid (fun W => rword_any (j : Int) ⟨by omega, by omega⟩ W)
    have HATj : Hid (nm = wordB (j : Int) → ¬ (False) → leafR false s = some ((j : Int), s.extract (1 + nm.size) s.size)) := fun h hz => HAT.out j ⟨by omega, by omega⟩ h hz
    have HNX : Hid ((nm = wordB (j : Int) → (False)) → ∀ i : Int, 0 ≤ i → i < ((j + 1 : Nat) : Int) → nm = wordB i → (False)) := fun h i h1 h2 h3 => by
      by_cases hij : i = (j : Int)
      · subst hij; exact h h3
      · exact HNO.out i h1 (by omega) h3
    generalize wordB (j : Int) = wd at HW HATj HNX
    have hj5 : (j : Int) ≤ 5 := by omega
    clear hb0 hb1 hE
    by_cases hw : nm = wd
    rotate_left
    · have q : (nm.toList == wd.toList) = false := by rw [beq_eq_false_iff_ne]; intro h; exact hw (ByteArray.ext (Array.toList_inj.1 (by simpa only [Lib.toList_data] using h)))
      have HNX2 := Lib.hid (HNX.out (fun h => absurd h hw))
      clear hw
      go_wp2_with (go_at_call 175; refine (HW.out _).mono ?_; rintro e w5 ⟨he, hB5⟩; subst he; have HE5 : Hid (Ext wq w5) := Lib.hid (Ext.trans HE.out hB5); clear hB5)
      go_roundw
      case rel => exact ⟨j + 1, by omega, by go_num, HNX2, HE5.out⟩
      case measure => simp [intOf]; omega
    subst hw
    have q : (nm.toList == nm.toList) = true := by simp
    have HATj2 := Lib.hid (HATj.out rfl (fun h => h))
    by_cases hj0 : (j : Int) = 0
    · have q2 : ((j : Int) != 0) = false := by simp [hj0]
      clear hj0
      go_wp2_with (go_at_call 175; refine (HW.out _).mono ?_; rintro e w5 ⟨he, hB5⟩; subst he; have HE5 : Hid (Ext wq w5) := Lib.hid (Ext.trans HE.out hB5); obtain ⟨hc0, hc1⟩ := HC.out _ HE5.out; obtain ⟨⟨y0, y1, y2, y3⟩, z0, z1, z2, z3⟩ := box_facts hc0; have HC0 := Lib.hid hc0; have HC1 := Lib.hid hc1; clear hB5 hc0 hc1)
      have hs8 : (w5.setCell ⟨w.heap.size, 2, none⟩ (.int .i64 (j : Int))).heap[w.heap.size]? = some (.cells #[.int .i64 2, .string n, .int .i64 (j : Int), .slice none 0 0] 24 (0, 0)) := by simp [World.setCell, Array.getElem?_modify, HC0.out]
      have hr8 : (w5.setCell ⟨w.heap.size, 2, none⟩ (.int .i64 (j : Int))).heap[w.heap.size + 1]? = some (.cells #[.int .i64 0, .string ⟨#[]⟩, .int .i64 0, .slice none 0 0] 24 (0, 0)) := by rw [Below.heap_setCell _ _ _ _ (by show w.heap.size + 1 ≠ w.heap.size; omega)]; exact HC1.out
      have hB8 : Below w.heap.size w (w5.setCell ⟨w.heap.size, 2, none⟩ (.int .i64 (j : Int))) := (Ext.trans hEw HE5.out).setCell (Nat.le_refl _) _
      clear y0 y1 y2 y3 z0 z1 z2 z3
      generalize w5.setCell ⟨w.heap.size, 2, none⟩ (.int .i64 (j : Int)) = w8 at hs8 hr8 hB8 ⊢
      obtain ⟨⟨y0, y1, y2, y3⟩, z0, z1, z2, z3⟩ := box_facts hs8
      obtain ⟨⟨m0, m1, m2, m3⟩, n0, n1, n2, n3⟩ := box_facts hr8
      have HB8 := Lib.hid hB8
      clear hs8 hr8 hB8
      go_region
      go_wp2_with fail
      exact bodyPost_ret (v := .tuple #[.agg #[.int .i64 2, .string n, .int .i64 (j : Int), .slice none 0 0], .string (s.extract (1 + nm.size) s.size), .bool true]) (by simp [results, Tryz.results136, go_sem, m0, m1, m2, m3]) rfl (by rw [HATj2.out]; exact ⟨put4_below (w' := w8.drew) (g := w.heap.size + 1) (o := 0) HB8.out.drew (by omega), rfl⟩)
    have q2 : ((j : Int) != 0) = true := by rw [bne_iff_ne]; exact hj0
    clear hj0
    go_wp2_with (go_at_call 175; refine (HW.out _).mono ?_; rintro e w5 ⟨he, hB5⟩; subst he; have HE5 : Hid (Ext wq w5) := Lib.hid (Ext.trans HE.out hB5); obtain ⟨hc0, hc1⟩ := HC.out _ HE5.out; obtain ⟨⟨y0, y1, y2, y3⟩, z0, z1, z2, z3⟩ := box_facts hc0; have HC0 := Lib.hid hc0; have HC1 := Lib.hid hc1; clear hB5 hc0 hc1)
    have hs8 : (w5.setCell ⟨w.heap.size, 2, none⟩ (.int .i64 (j : Int))).heap[w.heap.size]? = some (.cells #[.int .i64 2, .string n, .int .i64 (j : Int), .slice none 0 0] 24 (0, 0)) := by simp [World.setCell, Array.getElem?_modify, HC0.out]
    have hr8 : (w5.setCell ⟨w.heap.size, 2, none⟩ (.int .i64 (j : Int))).heap[w.heap.size + 1]? = some (.cells #[.int .i64 0, .string ⟨#[]⟩, .int .i64 0, .slice none 0 0] 24 (0, 0)) := by rw [Below.heap_setCell _ _ _ _ (by show w.heap.size + 1 ≠ w.heap.size; omega)]; exact HC1.out
    have hB8 : Below w.heap.size w (w5.setCell ⟨w.heap.size, 2, none⟩ (.int .i64 (j : Int))) := (Ext.trans hEw HE5.out).setCell (Nat.le_refl _) _
    clear y0 y1 y2 y3 z0 z1 z2 z3
    generalize w5.setCell ⟨w.heap.size, 2, none⟩ (.int .i64 (j : Int)) = w8 at hs8 hr8 hB8 ⊢
    obtain ⟨⟨y0, y1, y2, y3⟩, z0, z1, z2, z3⟩ := box_facts hs8
    obtain ⟨⟨m0, m1, m2, m3⟩, n0, n1, n2, n3⟩ := box_facts hr8
    have HB8 := Lib.hid hB8
    clear hs8 hr8 hB8
    go_region
    go_wp2_with fail
    exact bodyPost_ret (v := .tuple #[.agg #[.int .i64 2, .string n, .int .i64 (j : Int), .slice none 0 0], .string (s.extract (1 + nm.size) s.size), .bool true]) (by simp [results, Tryz.results136, go_sem, m0, m1, m2, m3]) rfl (by rw [HATj2.out]; exact ⟨put4_below (w' := w8.drew) (g := w.heap.size + 1) (o := 0) HB8.out.drew (by omega), rfl⟩)
theorem leaf_any (k0 : Int) (hk : k0 = 1 ∨ k0 = 2) (n s : ByteArray) (w : World) (hs : s.size ≤ maxLen) :
    Calls Tryz.prog 136 #[.agg #[.int .i64 k0, .string n, .int .i64 0, .slice none 0 0], .string s] w (LeafPost w k0 n (leafR (decide (k0 = 1)) s)) := by
  cases hcol : preB s bColon with
  | false => exact leaf_none k0 hk n s w hs hcol
  | true =>
    rcases hk with rfl | rfl
    · exact leaf_c1 n s w hs hcol
    · exact leaf_c2 n s w hs hcol
end Go.Proofs.YtbcpnepjojppaaaGreatDoor
namespace Go.Proofs.YtbcpnepjojppaaaGreatDoor
open Go.RowKit
theorem two_boxes (w : World) (a0 a1 a2 a3 b0 b1 b2 b3 : Value) (T : TypeId) : ((w.alloc (.cells #[a0, a1, a2, a3] T)).alloc (.cells #[b0, b1, b2, b3] T)).heap[w.heap.size]? = some (.cells #[a0, a1, a2, a3] T (0, 0)) ∧ ((w.alloc (.cells #[a0, a1, a2, a3] T)).alloc (.cells #[b0, b1, b2, b3] T)).heap[w.heap.size + 1]? = some (.cells #[b0, b1, b2, b3] T (0, 0)) ∧ Below w.heap.size w ((w.alloc (.cells #[a0, a1, a2, a3] T)).alloc (.cells #[b0, b1, b2, b3] T)) ∧ w.heap.size + 2 = ((w.alloc (.cells #[a0, a1, a2, a3] T)).alloc (.cells #[b0, b1, b2, b3] T)).heap.size := by
  refine ⟨?_, ?_, two_below w _ _, by simp only [World.size_alloc]⟩
  · rw [Below.heap_alloc _ _ _ (by simp)]; exact heap_alloc_new w _
  · have := heap_alloc_new (w.alloc (.cells #[a0, a1, a2, a3] T)) (.cells #[b0, b1, b2, b3] T)
    rw [World.size_alloc] at this; exact this
theorem nameAny_le (s : ByteArray) : (nameAny s).size ≤ s.size := by
  unfold nameAny
  rw [ByteArray.size_extract]
  omega
theorem name_eq (s : ByteArray) : isNameB (nodeName s).data.toList = isNameB (nameAny (takeB s bQ)).data.toList ∧ (isNameB (nodeName s).data.toList = true → nameAny (takeB s bQ) = nodeName s) := by
  unfold nodeName nameAny
  generalize takeB s bQ = x
  have hl : x.data.toList.length = x.size := by simp
  have e : nameLen x.data.toList = tailLen x.data.toList ∨ (nameLen x.data.toList = 0 ∧ ∀ k, isNameB (x.extract 0 k).data.toList = false) := by
    cases hx : x.data.toList with
    | nil => left; rfl
    | cons c r =>
      simp only [nameLen, tailLen]
      by_cases h1 : letterI c.toNat = true
      · left; rw [if_pos h1, if_pos h1]
      · right
        refine ⟨by rw [if_neg h1], fun k => ?_⟩
        rw [ByteArray.data_extract, Array.toList_extract, hx]
        simp only [List.extract_eq_take_drop, List.drop_zero, Nat.sub_zero]
        cases k with
        | zero => simp [isNameB]
        | succ k => rw [List.take_succ_cons]; simp [isNameB, nameLen, h1]
  rcases e with e | ⟨e, h⟩
  · rw [e]; exact ⟨rfl, fun _ => rfl⟩
  · refine ⟨(h _).trans (h _).symm, fun a => ?_⟩
    rw [h] at a; cases a
def ReadPost (w : World) (r : Option (Tm × ByteArray)) (e : Ending) (w' : World) : Prop :=
  Below w.heap.size w w' ∧ match r with
    | none => ∃ a b c d l k x, e = .returned (.tuple #[.agg #[.int .i64 a, .string b, .int .i64 c, .slice d l k], .string x, .bool false])
    | some (t, x) => ∃ c0 c1 c2 c3, e = .returned (.tuple #[.agg #[c0, c1, c2, c3], .string x, .bool true]) ∧ IsIn (fun b => w.heap.size ≤ b) w' t c0 c1 c2 c3
theorem name_range (n : ByteArray) (k v : Int) (hn : n.size ≤ maxLen) (hk : k = 1 ∨ k = 2) (hv : 0 ≤ v ∧ v ≤ 5) (S : Nat → Prop) (w : World) : IsIn S w (.mk k n v []) (.int .i64 k) (.string n) (.int .i64 v) (.slice none 0 0) := by
  simp only [IsIn]
  exact ⟨trivial, trivial, trivial, by omega, by omega, hn, Nat.zero_le _, none, 0, rfl, Nat.le_refl _, by simp [RowIn]⟩
set_option maxHeartbeats 1600000 in
set_option maxRecDepth 100000 in
theorem read_qn (s : ByteArray) (d : Int) (w : World) (hs : s.size ≤ maxLen) (h0 : 0 < s.size) (hc : s[0] = 63) (hno : isNameB (nameAny (s.extract 1 s.size)).data.toList = false) :
    Calls Tryz.prog 103 #[.string s, .int .i64 d] w (ReadPost w none) := by
  unfold maxLen at hs
  have e0 : (0 : Int) < (s.size : Int) := by omega
  have e1 : ((s[0].toNat : Int) == 63) = true := by rw [hc]; rfl
  have e3 : (1 : Int) ≤ (s.size : Int) := by omega
  have hsp : (s.extract 1 s.size).size ≤ maxLen := by rw [ByteArray.size_extract]; unfold maxLen; omega
  clear hc
  have HN := Lib.hid (fun W => rname_any (s.extract 1 s.size) W hsp)
  have hnm : (nameAny (s.extract 1 s.size)).size ≤ maxLen := Nat.le_trans (nameAny_le _) hsp
  have HI := Lib.hid (fun W => rIsName_any (nameAny (s.extract 1 s.size)) W hnm)
  rw [hno] at HI
  generalize nameAny (s.extract 1 s.size) = nm at HN HI
  clear hno hnm hsp
  go_enter Tryz.func103, Tryz.ntmps103
  go_wp2_with (first
    | (go_at_call 134; refine (HN.out _).mono ?_; rintro e w3 ⟨he, hw⟩; subst he; subst hw)
    | (go_at_call 135; refine (HI.out _).mono ?_; rintro e w4 ⟨he, hw⟩; subst he; subst hw; obtain ⟨hb0, hb1, hB, hZ⟩ := two_boxes w (.int .i64 0) (.string ⟨#[]⟩) (.int .i64 0) (.slice none 0 0) (.int .i64 1) (.string nm) (.int .i64 0) (.slice none 0 0) 24; generalize ((w.alloc (.cells #[.int .i64 0, .string ⟨#[]⟩, .int .i64 0, .slice none 0 0] 24)).alloc (.cells #[.int .i64 1, .string nm, .int .i64 0, .slice none 0 0] 24)) = wq at hb0 hb1 hB hZ ⊢; obtain ⟨⟨m0, m1, m2, m3⟩, n0, n1, n2, n3⟩ := box_facts hb0; obtain ⟨⟨y0, y1, y2, y3⟩, z0, z1, z2, z3⟩ := box_facts hb1; have HB := Lib.hid hB; have HZ := Lib.hid hZ; have HB0 := Lib.hid hb0; have HB1 := Lib.hid hb1; clear hb0 hb1 hB hZ))
  exact bodyPost_ret (v := .tuple #[.agg #[.int .i64 1, .string nm, .int .i64 0, .slice none 0 0], .string (s.extract 1 s.size), .bool false]) (by simp [results, Tryz.results103, go_sem, m0, m1, m2, m3]) rfl ⟨put4_below (g := w.heap.size) (o := 0) HB.out (Nat.le_refl _), _, _, _, _, _, _, _, rfl⟩
set_option maxHeartbeats 1600000 in
set_option maxRecDepth 100000 in
theorem read_qz (s : ByteArray)  (w : World) (hs : s.size ≤ maxLen) (h0 : 0 < s.size) (hc : s[0] = 63) (hno : isNameB (nameAny (s.extract 1 s.size)).data.toList = true) :
    Calls Tryz.prog 103 #[.string s, .int .i64 0] w (ReadPost w none) := by
  unfold maxLen at hs
  have e0 : (0 : Int) < (s.size : Int) := by omega
  have e1 : ((s[0].toNat : Int) == 63) = true := by rw [hc]; rfl
  have e3 : (1 : Int) ≤ (s.size : Int) := by omega
  have hsp : (s.extract 1 s.size).size ≤ maxLen := by rw [ByteArray.size_extract]; unfold maxLen; omega
  clear hc
  have HN := Lib.hid (fun W => rname_any (s.extract 1 s.size) W hsp)
  have hnm : (nameAny (s.extract 1 s.size)).size ≤ maxLen := Nat.le_trans (nameAny_le _) hsp
  have HI := Lib.hid (fun W => rIsName_any (nameAny (s.extract 1 s.size)) W hnm)
  rw [hno] at HI
  generalize nameAny (s.extract 1 s.size) = nm at HN HI
  clear hno hnm hsp
  go_enter Tryz.func103, Tryz.ntmps103
  go_wp2_with (first
    | (go_at_call 134; refine (HN.out _).mono ?_; rintro e w3 ⟨he, hw⟩; subst he; subst hw)
    | (go_at_call 135; refine (HI.out _).mono ?_; rintro e w4 ⟨he, hw⟩; subst he; subst hw; obtain ⟨hb0, hb1, hB, hZ⟩ := two_boxes w (.int .i64 0) (.string ⟨#[]⟩) (.int .i64 0) (.slice none 0 0) (.int .i64 1) (.string nm) (.int .i64 0) (.slice none 0 0) 24; generalize ((w.alloc (.cells #[.int .i64 0, .string ⟨#[]⟩, .int .i64 0, .slice none 0 0] 24)).alloc (.cells #[.int .i64 1, .string nm, .int .i64 0, .slice none 0 0] 24)) = wq at hb0 hb1 hB hZ ⊢; obtain ⟨⟨m0, m1, m2, m3⟩, n0, n1, n2, n3⟩ := box_facts hb0; obtain ⟨⟨y0, y1, y2, y3⟩, z0, z1, z2, z3⟩ := box_facts hb1; have HB := Lib.hid hB; have HZ := Lib.hid hZ; have HB0 := Lib.hid hb0; have HB1 := Lib.hid hb1; clear hb0 hb1 hB hZ))
  exact bodyPost_ret (v := .tuple #[.agg #[.int .i64 1, .string nm, .int .i64 0, .slice none 0 0], .string (s.extract 1 s.size), .bool false]) (by simp [results, Tryz.results103, go_sem, m0, m1, m2, m3]) rfl ⟨put4_below (g := w.heap.size) (o := 0) HB.out (Nat.le_refl _), _, _, _, _, _, _, _, rfl⟩
set_option maxHeartbeats 1600000 in
set_option maxRecDepth 100000 in
theorem read_on (s : ByteArray) (d : Int) (w : World) (hs : s.size ≤ maxLen) (h0 : 0 < s.size) (hc : ¬ s[0] = 63) (hno : isNameB (nameAny (s)).data.toList = false) :
    Calls Tryz.prog 103 #[.string s, .int .i64 d] w (ReadPost w none) := by
  unfold maxLen at hs
  have e0 : (0 : Int) < (s.size : Int) := by omega
  have e1 : ((s[0].toNat : Int) == 63) = false := by
    rw [beq_eq_false_iff_ne]
    intro h
    exact hc (UInt8.toNat_inj.1 (by rw [show (63 : UInt8).toNat = 63 from rfl]; omega))
  have hsp : s.size ≤ maxLen := by unfold maxLen; omega
  clear hc
  have HN := Lib.hid (fun W => rname_any (s) W hsp)
  have hnm : (nameAny (s)).size ≤ maxLen := Nat.le_trans (nameAny_le _) hsp
  have HI := Lib.hid (fun W => rIsName_any (nameAny (s)) W hnm)
  rw [hno] at HI
  generalize nameAny (s) = nm at HN HI
  clear hno hnm hsp
  go_enter Tryz.func103, Tryz.ntmps103
  go_wp2_with (first
    | (go_at_call 134; refine (HN.out _).mono ?_; rintro e w3 ⟨he, hw⟩; subst he; subst hw)
    | (go_at_call 135; refine (HI.out _).mono ?_; rintro e w4 ⟨he, hw⟩; subst he; subst hw; obtain ⟨hb0, hb1, hB, hZ⟩ := two_boxes w (.int .i64 0) (.string ⟨#[]⟩) (.int .i64 0) (.slice none 0 0) (.int .i64 2) (.string nm) (.int .i64 0) (.slice none 0 0) 24; generalize ((w.alloc (.cells #[.int .i64 0, .string ⟨#[]⟩, .int .i64 0, .slice none 0 0] 24)).alloc (.cells #[.int .i64 2, .string nm, .int .i64 0, .slice none 0 0] 24)) = wq at hb0 hb1 hB hZ ⊢; obtain ⟨⟨m0, m1, m2, m3⟩, n0, n1, n2, n3⟩ := box_facts hb0; obtain ⟨⟨y0, y1, y2, y3⟩, z0, z1, z2, z3⟩ := box_facts hb1; have HB := Lib.hid hB; have HZ := Lib.hid hZ; have HB0 := Lib.hid hb0; have HB1 := Lib.hid hb1; clear hb0 hb1 hB hZ))
  exact bodyPost_ret (v := .tuple #[.agg #[.int .i64 2, .string nm, .int .i64 0, .slice none 0 0], .string (s), .bool false]) (by simp [results, Tryz.results103, go_sem, m0, m1, m2, m3]) rfl ⟨put4_below (g := w.heap.size) (o := 0) HB.out (Nat.le_refl _), _, _, _, _, _, _, _, rfl⟩
set_option maxHeartbeats 1600000 in
set_option maxRecDepth 100000 in
theorem read_oz (s : ByteArray)  (w : World) (hs : s.size ≤ maxLen) (h0 : 0 < s.size) (hc : ¬ s[0] = 63) (hno : isNameB (nameAny (s)).data.toList = true) :
    Calls Tryz.prog 103 #[.string s, .int .i64 0] w (ReadPost w none) := by
  unfold maxLen at hs
  have e0 : (0 : Int) < (s.size : Int) := by omega
  have e1 : ((s[0].toNat : Int) == 63) = false := by
    rw [beq_eq_false_iff_ne]
    intro h
    exact hc (UInt8.toNat_inj.1 (by rw [show (63 : UInt8).toNat = 63 from rfl]; omega))
  have hsp : s.size ≤ maxLen := by unfold maxLen; omega
  clear hc
  have HN := Lib.hid (fun W => rname_any (s) W hsp)
  have hnm : (nameAny (s)).size ≤ maxLen := Nat.le_trans (nameAny_le _) hsp
  have HI := Lib.hid (fun W => rIsName_any (nameAny (s)) W hnm)
  rw [hno] at HI
  generalize nameAny (s) = nm at HN HI
  clear hno hnm hsp
  go_enter Tryz.func103, Tryz.ntmps103
  go_wp2_with (first
    | (go_at_call 134; refine (HN.out _).mono ?_; rintro e w3 ⟨he, hw⟩; subst he; subst hw)
    | (go_at_call 135; refine (HI.out _).mono ?_; rintro e w4 ⟨he, hw⟩; subst he; subst hw; obtain ⟨hb0, hb1, hB, hZ⟩ := two_boxes w (.int .i64 0) (.string ⟨#[]⟩) (.int .i64 0) (.slice none 0 0) (.int .i64 2) (.string nm) (.int .i64 0) (.slice none 0 0) 24; generalize ((w.alloc (.cells #[.int .i64 0, .string ⟨#[]⟩, .int .i64 0, .slice none 0 0] 24)).alloc (.cells #[.int .i64 2, .string nm, .int .i64 0, .slice none 0 0] 24)) = wq at hb0 hb1 hB hZ ⊢; obtain ⟨⟨m0, m1, m2, m3⟩, n0, n1, n2, n3⟩ := box_facts hb0; obtain ⟨⟨y0, y1, y2, y3⟩, z0, z1, z2, z3⟩ := box_facts hb1; have HB := Lib.hid hB; have HZ := Lib.hid hZ; have HB0 := Lib.hid hb0; have HB1 := Lib.hid hb1; clear hb0 hb1 hB hZ))
  exact bodyPost_ret (v := .tuple #[.agg #[.int .i64 2, .string nm, .int .i64 0, .slice none 0 0], .string (s), .bool false]) (by simp [results, Tryz.results103, go_sem, m0, m1, m2, m3]) rfl ⟨put4_below (g := w.heap.size) (o := 0) HB.out (Nat.le_refl _), _, _, _, _, _, _, _, rfl⟩
set_option maxHeartbeats 1600000 in
set_option maxRecDepth 100000 in
theorem read_en (s : ByteArray) (d : Int) (w : World) (hs : s.size ≤ maxLen) (h0 : s.size = 0) (hno : isNameB (nameAny (s)).data.toList = false) :
    Calls Tryz.prog 103 #[.string s, .int .i64 d] w (ReadPost w none) := by
  unfold maxLen at hs
  have e0 : (s.size : Int) ≤ 0 := by omega
  have hsp : s.size ≤ maxLen := by unfold maxLen; omega
  clear h0
  have HN := Lib.hid (fun W => rname_any (s) W hsp)
  have hnm : (nameAny (s)).size ≤ maxLen := Nat.le_trans (nameAny_le _) hsp
  have HI := Lib.hid (fun W => rIsName_any (nameAny (s)) W hnm)
  rw [hno] at HI
  generalize nameAny (s) = nm at HN HI
  clear hno hnm hsp
  go_enter Tryz.func103, Tryz.ntmps103
  go_wp2_with (first
    | (go_at_call 134; refine (HN.out _).mono ?_; rintro e w3 ⟨he, hw⟩; subst he; subst hw)
    | (go_at_call 135; refine (HI.out _).mono ?_; rintro e w4 ⟨he, hw⟩; subst he; subst hw; obtain ⟨hb0, hb1, hB, hZ⟩ := two_boxes w (.int .i64 0) (.string ⟨#[]⟩) (.int .i64 0) (.slice none 0 0) (.int .i64 2) (.string nm) (.int .i64 0) (.slice none 0 0) 24; generalize ((w.alloc (.cells #[.int .i64 0, .string ⟨#[]⟩, .int .i64 0, .slice none 0 0] 24)).alloc (.cells #[.int .i64 2, .string nm, .int .i64 0, .slice none 0 0] 24)) = wq at hb0 hb1 hB hZ ⊢; obtain ⟨⟨m0, m1, m2, m3⟩, n0, n1, n2, n3⟩ := box_facts hb0; obtain ⟨⟨y0, y1, y2, y3⟩, z0, z1, z2, z3⟩ := box_facts hb1; have HB := Lib.hid hB; have HZ := Lib.hid hZ; have HB0 := Lib.hid hb0; have HB1 := Lib.hid hb1; clear hb0 hb1 hB hZ))
  exact bodyPost_ret (v := .tuple #[.agg #[.int .i64 2, .string nm, .int .i64 0, .slice none 0 0], .string (s), .bool false]) (by simp [results, Tryz.results103, go_sem, m0, m1, m2, m3]) rfl ⟨put4_below (g := w.heap.size) (o := 0) HB.out (Nat.le_refl _), _, _, _, _, _, _, _, rfl⟩
set_option maxHeartbeats 3200000 in
set_option maxRecDepth 100000 in
theorem read_lq (s sx nm R : ByteArray) (dp : Int) (d0 : (dp == 0) = false) (w : World) (hs : s.size ≤ maxLen) (h0 : 0 < s.size) (hc : s[0] = 63) (hsx : s.extract 1 s.size = sx) (hnm : nameAny sx = nm) (hR : sx.extract nm.size sx.size = R) (hno : isNameB nm.data.toList = true) :
    Calls Tryz.prog 103 #[.string s, .int .i64 dp] w (ReadPost w ((leafR true R).map fun p => (.mk 1 nm p.1 [], p.2))) := by
  unfold maxLen at hs
  have e0 : (0 : Int) < (s.size : Int) := by omega
  have e1 : ((s[0].toNat : Int) == 63) = true := by rw [hc]; rfl
  have e3 : (1 : Int) ≤ (s.size : Int) := by omega
  have hsp : sx.size ≤ maxLen := by rw [← hsx]; rw [ByteArray.size_extract]; unfold maxLen; omega
  clear hc
  have HN := Lib.hid (fun W => rname_any sx W hsp)
  have hle := nameAny_le sx
  rw [hnm] at hle HN
  have hnmx : nm.size ≤ maxLen := Nat.le_trans hle hsp
  have HI := Lib.hid (fun W => rIsName_any nm W hnmx)
  rw [hno] at HI
  have hRs : R.size ≤ maxLen := by rw [← hR, ByteArray.size_extract]; omega
  have HLF := Lib.hid (fun W => leaf_any 1 (by omega) nm R W hRs)
  have HLT : Hid (∀ kk x, leafR true R = some (kk, x) → 0 ≤ kk ∧ kk ≤ 5) := fun kk x h => (leaf_text h).1
  have HNS := Lib.hid hnmx
  have hv : decide ((1 : Int) = 1) = true := by decide
  rw [hv] at HLF
  have s0 : (nm.size : Int) ≤ (sx.size : Int) := by omega
  generalize leafR true R = LR at HLF HLT ⊢
  clear hv hno hle hnmx hRs hsp hnm
  cases LR with
  | none =>
    have HF : Hid (∀ W, Below w.heap.size w W → ∀ x, ReadPost w (Option.map (fun p : Int × ByteArray => (Tm.mk 1 nm p.1 [], p.2)) none) (.returned (.tuple #[.agg #[.int .i64 1, .string nm, .int .i64 0, .slice none 0 0], .string x, .bool false])) W) := fun W h x => ⟨h, _, _, _, _, _, _, x, rfl⟩
    go_enter Tryz.func103, Tryz.ntmps103
    go_wp2_with (first
      | (go_at_call 134; refine (HN.out _).mono ?_; rintro e w3 ⟨he, hw⟩; subst he; subst hw)
      | (go_at_call 135; refine (HI.out _).mono ?_; rintro e w4 ⟨he, hw⟩; subst he; subst hw; obtain ⟨hb0, hb1, hB, hZ⟩ := two_boxes w (.int .i64 0) (.string ⟨#[]⟩) (.int .i64 0) (.slice none 0 0) (.int .i64 1) (.string nm) (.int .i64 0) (.slice none 0 0) 24; generalize ((w.alloc (.cells #[.int .i64 0, .string ⟨#[]⟩, .int .i64 0, .slice none 0 0] 24)).alloc (.cells #[.int .i64 1, .string nm, .int .i64 0, .slice none 0 0] 24)) = wq at hb0 hb1 hB hZ ⊢; obtain ⟨⟨m0, m1, m2, m3⟩, n0, n1, n2, n3⟩ := box_facts hb0; obtain ⟨⟨y0, y1, y2, y3⟩, z0, z1, z2, z3⟩ := box_facts hb1; have HB := Lib.hid hB; have HZ := Lib.hid hZ; have HB0 := Lib.hid hb0; have HB1 := Lib.hid hb1; clear hb0 hb1 hB hZ)
      | (go_at_call 136; refine (HLF.out _).mono ?_; rintro e w5 ⟨hB5, xx, he⟩; subst he; have hb0 := (hB5.block w.heap.size (by rw [← HZ.out]; omega)).trans HB0.out; have HB5 := Lib.hid (HB.out.trans (hB5.mono (by rw [← HZ.out]; omega))); clear m0 m1 m2 m3 n0 n1 n2 n3 y0 y1 y2 y3 z0 z1 z2 z3; obtain ⟨⟨m0, m1, m2, m3⟩, n0, n1, n2, n3⟩ := box_facts hb0; clear hb0 hB5))
    exact bodyPost_ret (v := .tuple #[.agg #[.int .i64 1, .string nm, .int .i64 0, .slice none 0 0], .string xx, .bool false]) (by simp [results, Tryz.results103, go_sem, m0, m1, m2, m3]) rfl (HF.out _ (put4_below (g := w.heap.size) (o := 0) HB5.out (Nat.le_refl _)) xx)
  | some p =>
    obtain ⟨kk, xx⟩ := p
    have hk5 := HLT.out kk xx rfl
    have HK5 := Lib.hid hk5
    clear hk5
    have HF : Hid (∀ W, Below w.heap.size w W → ReadPost w (Option.map (fun p : Int × ByteArray => (Tm.mk 1 nm p.1 [], p.2)) (some (kk, xx))) (.returned (.tuple #[.agg #[.int .i64 1, .string nm, .int .i64 kk, .slice none 0 0], .string xx, .bool true])) W) := fun W h => ⟨h, _, _, _, _, rfl, name_range nm 1 kk HNS.out (by omega) HK5.out _ _⟩
    go_enter Tryz.func103, Tryz.ntmps103
    go_wp2_with (first
      | (go_at_call 134; refine (HN.out _).mono ?_; rintro e w3 ⟨he, hw⟩; subst he; subst hw)
      | (go_at_call 135; refine (HI.out _).mono ?_; rintro e w4 ⟨he, hw⟩; subst he; subst hw; obtain ⟨hb0, hb1, hB, hZ⟩ := two_boxes w (.int .i64 0) (.string ⟨#[]⟩) (.int .i64 0) (.slice none 0 0) (.int .i64 1) (.string nm) (.int .i64 0) (.slice none 0 0) 24; generalize ((w.alloc (.cells #[.int .i64 0, .string ⟨#[]⟩, .int .i64 0, .slice none 0 0] 24)).alloc (.cells #[.int .i64 1, .string nm, .int .i64 0, .slice none 0 0] 24)) = wq at hb0 hb1 hB hZ ⊢; obtain ⟨⟨m0, m1, m2, m3⟩, n0, n1, n2, n3⟩ := box_facts hb0; obtain ⟨⟨y0, y1, y2, y3⟩, z0, z1, z2, z3⟩ := box_facts hb1; have HB := Lib.hid hB; have HZ := Lib.hid hZ; have HB0 := Lib.hid hb0; have HB1 := Lib.hid hb1; clear hb0 hb1 hB hZ)
      | (go_at_call 136; refine (HLF.out _).mono ?_; rintro e w5 ⟨hB5, he⟩; subst he; have hb0 := (hB5.block w.heap.size (by rw [← HZ.out]; omega)).trans HB0.out; have HB5 := Lib.hid (HB.out.trans (hB5.mono (by rw [← HZ.out]; omega))); clear m0 m1 m2 m3 n0 n1 n2 n3 y0 y1 y2 y3 z0 z1 z2 z3; obtain ⟨⟨m0, m1, m2, m3⟩, n0, n1, n2, n3⟩ := box_facts hb0; clear hb0 hB5))
    exact bodyPost_ret (v := .tuple #[.agg #[.int .i64 1, .string nm, .int .i64 kk, .slice none 0 0], .string xx, .bool true]) (by simp [results, Tryz.results103, go_sem, m0, m1, m2, m3]) rfl (HF.out _ (put4_below (g := w.heap.size) (o := 0) HB5.out (Nat.le_refl _)))
set_option maxHeartbeats 3200000 in
set_option maxRecDepth 100000 in
theorem read_loe (s sx nm R : ByteArray) (dp : Int) (d0 : (dp == 0) = false) (w : World) (hs : s.size ≤ maxLen) (h0 : 0 < s.size) (hc : ¬ s[0] = 63) (hsx : s = sx) (hnm : nameAny sx = nm) (hR : sx.extract nm.size sx.size = R) (hno : isNameB nm.data.toList = true) (hr : R.size = 0) :
    Calls Tryz.prog 103 #[.string s, .int .i64 dp] w (ReadPost w ((leafR false R).map fun p => (.mk 2 nm p.1 [], p.2))) := by
  unfold maxLen at hs
  subst hsx
  have e0 : (0 : Int) < (s.size : Int) := by omega
  have e1 : ((s[0].toNat : Int) == 63) = false := by
    rw [beq_eq_false_iff_ne]
    intro h
    exact hc (UInt8.toNat_inj.1 (by rw [show (63 : UInt8).toNat = 63 from rfl]; omega))
  have hsp : s.size ≤ maxLen := by unfold maxLen; omega
  clear hc
  have HN := Lib.hid (fun W => rname_any s W hsp)
  have hle := nameAny_le s
  rw [hnm] at hle HN
  have hnmx : nm.size ≤ maxLen := Nat.le_trans hle hsp
  have HI := Lib.hid (fun W => rIsName_any nm W hnmx)
  rw [hno] at HI
  have hRs : R.size ≤ maxLen := by rw [← hR, ByteArray.size_extract]; omega
  have HLF := Lib.hid (fun W => leaf_any 2 (by omega) nm R W hRs)
  have HLT : Hid (∀ kk x, leafR false R = some (kk, x) → 0 ≤ kk ∧ kk ≤ 5) := fun kk x h => (leaf_text h).1
  have HNS := Lib.hid hnmx
  have hv : decide ((2 : Int) = 1) = false := by decide
  rw [hv] at HLF
  have s0 : (nm.size : Int) ≤ (s.size : Int) := by omega
  have r0 : ((R.size : Int) == 0) = true := by rw [hr]; rfl
  clear hr
  generalize leafR false R = LR at HLF HLT ⊢
  clear hv hno hle hnmx hRs hsp hnm
  cases LR with
  | none =>
    have HF : Hid (∀ W, Below w.heap.size w W → ∀ x, ReadPost w (Option.map (fun p : Int × ByteArray => (Tm.mk 2 nm p.1 [], p.2)) none) (.returned (.tuple #[.agg #[.int .i64 2, .string nm, .int .i64 0, .slice none 0 0], .string x, .bool false])) W) := fun W h x => ⟨h, _, _, _, _, _, _, x, rfl⟩
    go_enter Tryz.func103, Tryz.ntmps103
    go_wp2_with (first
      | (go_at_call 134; refine (HN.out _).mono ?_; rintro e w3 ⟨he, hw⟩; subst he; subst hw)
      | (go_at_call 135; refine (HI.out _).mono ?_; rintro e w4 ⟨he, hw⟩; subst he; subst hw; obtain ⟨hb0, hb1, hB, hZ⟩ := two_boxes w (.int .i64 0) (.string ⟨#[]⟩) (.int .i64 0) (.slice none 0 0) (.int .i64 2) (.string nm) (.int .i64 0) (.slice none 0 0) 24; generalize ((w.alloc (.cells #[.int .i64 0, .string ⟨#[]⟩, .int .i64 0, .slice none 0 0] 24)).alloc (.cells #[.int .i64 2, .string nm, .int .i64 0, .slice none 0 0] 24)) = wq at hb0 hb1 hB hZ ⊢; obtain ⟨⟨m0, m1, m2, m3⟩, n0, n1, n2, n3⟩ := box_facts hb0; obtain ⟨⟨y0, y1, y2, y3⟩, z0, z1, z2, z3⟩ := box_facts hb1; have HB := Lib.hid hB; have HZ := Lib.hid hZ; have HB0 := Lib.hid hb0; have HB1 := Lib.hid hb1; clear hb0 hb1 hB hZ)
      | (go_at_call 136; refine (HLF.out _).mono ?_; rintro e w5 ⟨hB5, xx, he⟩; subst he; have hb0 := (hB5.block w.heap.size (by rw [← HZ.out]; omega)).trans HB0.out; have HB5 := Lib.hid (HB.out.trans (hB5.mono (by rw [← HZ.out]; omega))); clear m0 m1 m2 m3 n0 n1 n2 n3 y0 y1 y2 y3 z0 z1 z2 z3; obtain ⟨⟨m0, m1, m2, m3⟩, n0, n1, n2, n3⟩ := box_facts hb0; clear hb0 hB5))
    exact bodyPost_ret (v := .tuple #[.agg #[.int .i64 2, .string nm, .int .i64 0, .slice none 0 0], .string xx, .bool false]) (by simp [results, Tryz.results103, go_sem, m0, m1, m2, m3]) rfl (HF.out _ (put4_below (g := w.heap.size) (o := 0) HB5.out (Nat.le_refl _)) xx)
  | some p =>
    obtain ⟨kk, xx⟩ := p
    have hk5 := HLT.out kk xx rfl
    have HK5 := Lib.hid hk5
    clear hk5
    have HF : Hid (∀ W, Below w.heap.size w W → ReadPost w (Option.map (fun p : Int × ByteArray => (Tm.mk 2 nm p.1 [], p.2)) (some (kk, xx))) (.returned (.tuple #[.agg #[.int .i64 2, .string nm, .int .i64 kk, .slice none 0 0], .string xx, .bool true])) W) := fun W h => ⟨h, _, _, _, _, rfl, name_range nm 2 kk HNS.out (by omega) HK5.out _ _⟩
    go_enter Tryz.func103, Tryz.ntmps103
    go_wp2_with (first
      | (go_at_call 134; refine (HN.out _).mono ?_; rintro e w3 ⟨he, hw⟩; subst he; subst hw)
      | (go_at_call 135; refine (HI.out _).mono ?_; rintro e w4 ⟨he, hw⟩; subst he; subst hw; obtain ⟨hb0, hb1, hB, hZ⟩ := two_boxes w (.int .i64 0) (.string ⟨#[]⟩) (.int .i64 0) (.slice none 0 0) (.int .i64 2) (.string nm) (.int .i64 0) (.slice none 0 0) 24; generalize ((w.alloc (.cells #[.int .i64 0, .string ⟨#[]⟩, .int .i64 0, .slice none 0 0] 24)).alloc (.cells #[.int .i64 2, .string nm, .int .i64 0, .slice none 0 0] 24)) = wq at hb0 hb1 hB hZ ⊢; obtain ⟨⟨m0, m1, m2, m3⟩, n0, n1, n2, n3⟩ := box_facts hb0; obtain ⟨⟨y0, y1, y2, y3⟩, z0, z1, z2, z3⟩ := box_facts hb1; have HB := Lib.hid hB; have HZ := Lib.hid hZ; have HB0 := Lib.hid hb0; have HB1 := Lib.hid hb1; clear hb0 hb1 hB hZ)
      | (go_at_call 136; refine (HLF.out _).mono ?_; rintro e w5 ⟨hB5, he⟩; subst he; have hb0 := (hB5.block w.heap.size (by rw [← HZ.out]; omega)).trans HB0.out; have HB5 := Lib.hid (HB.out.trans (hB5.mono (by rw [← HZ.out]; omega))); clear m0 m1 m2 m3 n0 n1 n2 n3 y0 y1 y2 y3 z0 z1 z2 z3; obtain ⟨⟨m0, m1, m2, m3⟩, n0, n1, n2, n3⟩ := box_facts hb0; clear hb0 hB5))
    exact bodyPost_ret (v := .tuple #[.agg #[.int .i64 2, .string nm, .int .i64 kk, .slice none 0 0], .string xx, .bool true]) (by simp [results, Tryz.results103, go_sem, m0, m1, m2, m3]) rfl (HF.out _ (put4_below (g := w.heap.size) (o := 0) HB5.out (Nat.le_refl _)))
set_option maxHeartbeats 3200000 in
set_option maxRecDepth 100000 in
theorem read_lon (s sx nm R : ByteArray) (dp : Int) (d0 : (dp == 0) = false) (w : World) (hs : s.size ≤ maxLen) (h0 : 0 < s.size) (hc : ¬ s[0] = 63) (hsx : s = sx) (hnm : nameAny sx = nm) (hR : sx.extract nm.size sx.size = R) (hno : isNameB nm.data.toList = true) (hr : 0 < R.size) (hr2 : ¬ R[0] = 40) :
    Calls Tryz.prog 103 #[.string s, .int .i64 dp] w (ReadPost w ((leafR false R).map fun p => (.mk 2 nm p.1 [], p.2))) := by
  unfold maxLen at hs
  subst hsx
  have e0 : (0 : Int) < (s.size : Int) := by omega
  have e1 : ((s[0].toNat : Int) == 63) = false := by
    rw [beq_eq_false_iff_ne]
    intro h
    exact hc (UInt8.toNat_inj.1 (by rw [show (63 : UInt8).toNat = 63 from rfl]; omega))
  have hsp : s.size ≤ maxLen := by unfold maxLen; omega
  clear hc
  have HN := Lib.hid (fun W => rname_any s W hsp)
  have hle := nameAny_le s
  rw [hnm] at hle HN
  have hnmx : nm.size ≤ maxLen := Nat.le_trans hle hsp
  have HI := Lib.hid (fun W => rIsName_any nm W hnmx)
  rw [hno] at HI
  have hRs : R.size ≤ maxLen := by rw [← hR, ByteArray.size_extract]; omega
  have HLF := Lib.hid (fun W => leaf_any 2 (by omega) nm R W hRs)
  have HLT : Hid (∀ kk x, leafR false R = some (kk, x) → 0 ≤ kk ∧ kk ≤ 5) := fun kk x h => (leaf_text h).1
  have HNS := Lib.hid hnmx
  have hv : decide ((2 : Int) = 1) = false := by decide
  rw [hv] at HLF
  have s0 : (nm.size : Int) ≤ (s.size : Int) := by omega
  have r0 : ((R.size : Int) == 0) = false := by rw [beq_eq_false_iff_ne]; omega
  have r1 : ((R[0].toNat : Int) != 40) = true := by
    rw [bne_iff_ne]
    intro h
    exact hr2 (UInt8.toNat_inj.1 (by rw [show (40 : UInt8).toNat = 40 from rfl]; omega))
  have r2 : (0 : Int) < (R.size : Int) := by omega
  clear hr2
  generalize leafR false R = LR at HLF HLT ⊢
  clear hv hno hle hnmx hRs hsp hnm
  cases LR with
  | none =>
    have HF : Hid (∀ W, Below w.heap.size w W → ∀ x, ReadPost w (Option.map (fun p : Int × ByteArray => (Tm.mk 2 nm p.1 [], p.2)) none) (.returned (.tuple #[.agg #[.int .i64 2, .string nm, .int .i64 0, .slice none 0 0], .string x, .bool false])) W) := fun W h x => ⟨h, _, _, _, _, _, _, x, rfl⟩
    go_enter Tryz.func103, Tryz.ntmps103
    go_wp2_with (first
      | (go_at_call 134; refine (HN.out _).mono ?_; rintro e w3 ⟨he, hw⟩; subst he; subst hw)
      | (go_at_call 135; refine (HI.out _).mono ?_; rintro e w4 ⟨he, hw⟩; subst he; subst hw; obtain ⟨hb0, hb1, hB, hZ⟩ := two_boxes w (.int .i64 0) (.string ⟨#[]⟩) (.int .i64 0) (.slice none 0 0) (.int .i64 2) (.string nm) (.int .i64 0) (.slice none 0 0) 24; generalize ((w.alloc (.cells #[.int .i64 0, .string ⟨#[]⟩, .int .i64 0, .slice none 0 0] 24)).alloc (.cells #[.int .i64 2, .string nm, .int .i64 0, .slice none 0 0] 24)) = wq at hb0 hb1 hB hZ ⊢; obtain ⟨⟨m0, m1, m2, m3⟩, n0, n1, n2, n3⟩ := box_facts hb0; obtain ⟨⟨y0, y1, y2, y3⟩, z0, z1, z2, z3⟩ := box_facts hb1; have HB := Lib.hid hB; have HZ := Lib.hid hZ; have HB0 := Lib.hid hb0; have HB1 := Lib.hid hb1; clear hb0 hb1 hB hZ)
      | (go_at_call 136; refine (HLF.out _).mono ?_; rintro e w5 ⟨hB5, xx, he⟩; subst he; have hb0 := (hB5.block w.heap.size (by rw [← HZ.out]; omega)).trans HB0.out; have HB5 := Lib.hid (HB.out.trans (hB5.mono (by rw [← HZ.out]; omega))); clear m0 m1 m2 m3 n0 n1 n2 n3 y0 y1 y2 y3 z0 z1 z2 z3; obtain ⟨⟨m0, m1, m2, m3⟩, n0, n1, n2, n3⟩ := box_facts hb0; clear hb0 hB5))
    exact bodyPost_ret (v := .tuple #[.agg #[.int .i64 2, .string nm, .int .i64 0, .slice none 0 0], .string xx, .bool false]) (by simp [results, Tryz.results103, go_sem, m0, m1, m2, m3]) rfl (HF.out _ (put4_below (g := w.heap.size) (o := 0) HB5.out (Nat.le_refl _)) xx)
  | some p =>
    obtain ⟨kk, xx⟩ := p
    have hk5 := HLT.out kk xx rfl
    have HK5 := Lib.hid hk5
    clear hk5
    have HF : Hid (∀ W, Below w.heap.size w W → ReadPost w (Option.map (fun p : Int × ByteArray => (Tm.mk 2 nm p.1 [], p.2)) (some (kk, xx))) (.returned (.tuple #[.agg #[.int .i64 2, .string nm, .int .i64 kk, .slice none 0 0], .string xx, .bool true])) W) := fun W h => ⟨h, _, _, _, _, rfl, name_range nm 2 kk HNS.out (by omega) HK5.out _ _⟩
    go_enter Tryz.func103, Tryz.ntmps103
    go_wp2_with (first
      | (go_at_call 134; refine (HN.out _).mono ?_; rintro e w3 ⟨he, hw⟩; subst he; subst hw)
      | (go_at_call 135; refine (HI.out _).mono ?_; rintro e w4 ⟨he, hw⟩; subst he; subst hw; obtain ⟨hb0, hb1, hB, hZ⟩ := two_boxes w (.int .i64 0) (.string ⟨#[]⟩) (.int .i64 0) (.slice none 0 0) (.int .i64 2) (.string nm) (.int .i64 0) (.slice none 0 0) 24; generalize ((w.alloc (.cells #[.int .i64 0, .string ⟨#[]⟩, .int .i64 0, .slice none 0 0] 24)).alloc (.cells #[.int .i64 2, .string nm, .int .i64 0, .slice none 0 0] 24)) = wq at hb0 hb1 hB hZ ⊢; obtain ⟨⟨m0, m1, m2, m3⟩, n0, n1, n2, n3⟩ := box_facts hb0; obtain ⟨⟨y0, y1, y2, y3⟩, z0, z1, z2, z3⟩ := box_facts hb1; have HB := Lib.hid hB; have HZ := Lib.hid hZ; have HB0 := Lib.hid hb0; have HB1 := Lib.hid hb1; clear hb0 hb1 hB hZ)
      | (go_at_call 136; refine (HLF.out _).mono ?_; rintro e w5 ⟨hB5, he⟩; subst he; have hb0 := (hB5.block w.heap.size (by rw [← HZ.out]; omega)).trans HB0.out; have HB5 := Lib.hid (HB.out.trans (hB5.mono (by rw [← HZ.out]; omega))); clear m0 m1 m2 m3 n0 n1 n2 n3 y0 y1 y2 y3 z0 z1 z2 z3; obtain ⟨⟨m0, m1, m2, m3⟩, n0, n1, n2, n3⟩ := box_facts hb0; clear hb0 hB5))
    exact bodyPost_ret (v := .tuple #[.agg #[.int .i64 2, .string nm, .int .i64 kk, .slice none 0 0], .string xx, .bool true]) (by simp [results, Tryz.results103, go_sem, m0, m1, m2, m3]) rfl (HF.out _ (put4_below (g := w.heap.size) (o := 0) HB5.out (Nat.le_refl _)))
end Go.Proofs.YtbcpnepjojppaaaGreatDoor
namespace Go.Proofs.YtbcpnepjojppaaaGreatDoor
open Go.RowKit
def KidsAt (H : Nat) (wr : World) (acc : List Tm) (kv : Value) : Prop :=
  ∃ F : Nat → Prop, OwnT H F wr acc kv ∧ ∀ b, F b → H ≤ b ∧ b < wr.heap.size ∧ kv.ownBlock ≠ some b
theorem KidsAt_nil (H : Nat) (w : World) : KidsAt H w [] (.slice none 0 0) := ⟨fun _ => False, OwnT_nil _ _ _, fun _ h => h.elim⟩
theorem KidsAt_keep {H : Nat} {w w' : World} {acc : List Tm} {kv : Value} (h : KidsAt H w acc kv) (hs : w.heap.size ≤ w'.heap.size) (hk : ∀ b, H ≤ b → b < w.heap.size → w'.heap[b]? = w.heap[b]?) : KidsAt H w' acc kv := by
  obtain ⟨F, hO, hF⟩ := h
  refine ⟨F, OwnT_carry hO (fun b hb => hk b (hF b hb).1 (hF b hb).2.1) (fun g hg => hk g (OwnT_lt hO g hg).1 (OwnT_lt hO g hg).2), fun b hb => ⟨(hF b hb).1, Nat.lt_of_lt_of_le (hF b hb).2.1 hs, (hF b hb).2.2⟩⟩
theorem KidsAt_form {H : Nat} {w : World} {acc : List Tm} {kv : Value} (h : KidsAt H w acc kv) : ∃ xa cap, kv = .slice xa acc.length cap := by
  obtain ⟨F, hO, _⟩ := h; exact OwnT_form hO
theorem KidsAt_app {H : Nat} {w : World} {acc : List Tm} {kv : Value} {nm : ByteArray} (h : KidsAt H w acc kv) (hn : nm.size ≤ maxLen) : IsIn (fun b => H ≤ b ∧ b < w.heap.size) w (.mk 3 nm 0 acc) (.int .i64 3) (.string nm) (.int .i64 0) kv := by
  obtain ⟨F, ⟨cs, ho, hK⟩, hF⟩ := h
  exact IsIn_app hn ho hK (fun b hb => ⟨(hF b hb).1, (hF b hb).2.1⟩) (fun g hg => ho.lt g hg)
theorem KidsAt_push {H n g lcap cap : Nat} {wr w6 w8 : World} {acc : List Tm} {xl : Option Addr} {cs : List Value} {F : Nat → Prop} {x : Tm} {c0 c1 c2 c3 : Value} {o : Obj} (hn : n = acc.length)
    (ho : wr.ownsRow H 24 4 (.slice xl n lcap) n cs) (hK : KC F wr acc cs) (hF : ∀ b, F b → H ≤ b ∧ b < wr.heap.size ∧ (Value.slice xl n lcap).ownBlock ≠ some b) (hH : H ≤ wr.heap.size)
    (hB : Below wr.heap.size wr w6) (hI : IsIn (fun b => wr.heap.size ≤ b ∧ b < w6.heap.size) w6 x c0 c1 c2 c3) (hown : w8.ownsRow H 24 4 (.slice (some ⟨g, 0, none⟩) (n + 1) cap) (n + 1) (cs ++ [c0, c1, c2, c3])) (hg : (w6.alloc o).grownBy w8 (Value.slice xl n lcap).ownBlock) (hnew : ∀ b, b < w6.heap.size → (Value.slice xl n lcap).ownBlock ≠ some b → g ≠ b) :
    KidsAt H w8 (acc ++ [x]) (.slice (some ⟨g, 0, none⟩) (n + 1) cap) := by
  subst hn
  have hsz := hB.size
  have hgs := hg.size
  rw [World.size_alloc] at hgs
  have hk : ∀ b, b < w6.heap.size → (Value.slice xl acc.length lcap).ownBlock ≠ some b → w8.heap[b]? = w6.heap[b]? := fun b hb hne => by
    rw [hg.block b (by rw [World.size_alloc]; omega) (fun e => hne e.symm), Below.heap_alloc _ _ _ hb]
  have hlt := fun q hq => ho.lt q hq
  refine ⟨fun b => F b ∨ (wr.heap.size ≤ b ∧ b < w6.heap.size), ⟨cs ++ [c0, c1, c2, c3], by simpa using hown, ?_⟩, ?_⟩
  · refine KC_append _ _ _ _ (KC_carry (fun b hb => ?_) (fun b hb => Or.inl hb) _ _ hK) (KC_one_term (IsIn_carry (fun b hb => ?_) (fun b hb => Or.inr hb) _ _ _ _ _ hI))
    · rw [hk b (by have := (hF b hb).2.1; omega) (hF b hb).2.2]; exact hB.block b (hF b hb).2.1
    · exact hk b hb.2 (fun e => by have := (hlt b e).2; omega)
  · have hne : ∀ b, b < w6.heap.size → (Value.slice xl acc.length lcap).ownBlock ≠ some b → (Value.slice (some ⟨g, 0, none⟩) (acc.length + 1) cap).ownBlock ≠ some b := fun b h1 h2 e => hnew b h1 h2 (by simpa [Value.ownBlock] using e)
    rintro b (hb | hb)
    · exact ⟨(hF b hb).1, by have := (hF b hb).2.1; omega, hne b (by have := (hF b hb).2.1; omega) (hF b hb).2.2⟩
    · exact ⟨by omega, by omega, hne b hb.2 (fun e => by have := (hlt b e).2; omega)⟩
theorem Rd_push {w wr w6 w8 : World} {n g lcap cap : Nat} {acc : List Tm} {xl : Option Addr} {cs : List Value} {F : Nat → Prop} {x : Tm} {c0 c1 c2 c3 : Value} {o : Obj} (hn : n = acc.length)
    (ho : wr.ownsRow (w.heap.size + 2) 24 4 (.slice xl n lcap) n cs) (hK : KC F wr acc cs) (hF : ∀ b, F b → w.heap.size + 2 ≤ b ∧ b < wr.heap.size ∧ (Value.slice xl n lcap).ownBlock ≠ some b) (hH : w.heap.size + 2 ≤ wr.heap.size)
    (hB : Below wr.heap.size wr w6) (hI : IsIn (fun b => wr.heap.size ≤ b ∧ b < w6.heap.size) w6 x c0 c1 c2 c3) (hown : w8.ownsRow (w.heap.size + 2) 24 4 (.slice (some ⟨g, 0, none⟩) (n + 1) cap) (n + 1) (cs ++ [c0, c1, c2, c3])) (hg : (w6.alloc o).grownBy w8 (Value.slice xl n lcap).ownBlock)
    (hat : (Value.slice xl n lcap).ownBlock = some g ∨ g = w6.heap.size + 1) (hBw : Below w.heap.size w w6) :
    KidsAt (w.heap.size + 2) w8 (acc ++ [x]) (.slice (some ⟨g, 0, none⟩) (n + 1) cap) ∧ w8.heap[w.heap.size]? = w6.heap[w.heap.size]? ∧ w8.heap[w.heap.size + 1]? = w6.heap[w.heap.size + 1]? ∧ Below w.heap.size w w8 ∧ w.heap.size + 2 ≤ w8.heap.size := by
  have hsz := hB.size
  have hgs := hg.size
  rw [World.size_alloc] at hgs
  have hlt := fun q hq => (ho.lt q hq).1
  have hk : ∀ b, b < w.heap.size + 2 → w8.heap[b]? = w6.heap[b]? := fun b hb => by
    rw [hg.block b (by rw [World.size_alloc]; omega) (fun e => by have := hlt b e.symm; omega), Below.heap_alloc _ _ _ (by omega)]
  refine ⟨KidsAt_push hn ho hK hF hH hB hI hown hg (fun b h1 h2 e => ?_), hk _ (by omega), hk _ (by omega), ?_, by omega⟩
  · rcases hat with h | h
    · exact h2 (by rw [h, e])
    · omega
  · exact (hBw.alloc (by omega) _).grown hg (by rw [World.size_alloc]; omega) (fun q hq => by have := hlt q hq; omega)
def RdR (w : World) (d : Nat) (nm : ByteArray) (tgt : Option (List Tm × ByteArray)) (N : Nat) (k : Nat) (v0 : Value) (wr : World) : Prop :=
  ∃ (sc : ByteArray) (acc : List Tm) (kv : Value), v0 = .string sc ∧ sc.size < k ∧ acc.length + sc.size ≤ N ∧
    wr.heap[w.heap.size]? = some (.cells #[.int .i64 0, .string ⟨#[]⟩, .int .i64 0, .slice none 0 0] 24 (0, 0)) ∧ wr.heap[w.heap.size + 1]? = some (.cells #[.int .i64 3, .string nm, .int .i64 0, kv] 24 (0, 0)) ∧
    KidsAt (w.heap.size + 2) wr acc kv ∧ Below w.heap.size w wr ∧ w.heap.size + 2 ≤ wr.heap.size ∧
    tgt = (kidsR (readR d) k acc.isEmpty sc).map (fun p : List Tm × ByteArray => (acc ++ p.1, p.2))
theorem RdR_next {w w8 : World} {d N m n g cap : Nat} {nm r : ByteArray} {tgt : Option (List Tm × ByteArray)} {acc : List Tm} {kv0 : Value} (hKA : KidsAt (w.heap.size + 2) w8 acc (.slice (some ⟨g, 0, none⟩) n cap)) (hb0 : w8.heap[w.heap.size]? = some (.cells #[.int .i64 0, .string ⟨#[]⟩, .int .i64 0, .slice none 0 0] 24 (0, 0))) (hb1 : w8.heap[w.heap.size + 1]? = some (.cells #[.int .i64 3, .string nm, .int .i64 0, kv0] 24 (0, 0)))
    (hB : Below w.heap.size w w8) (hZ : w.heap.size + 2 ≤ w8.heap.size) (h1 : r.size < m) (h2 : acc.length + r.size ≤ N) (ht : tgt = (kidsR (readR d) m acc.isEmpty r).map (fun p : List Tm × ByteArray => (acc ++ p.1, p.2))) :
    RdR w d nm tgt N m (.string r) (w8.setCell ⟨w.heap.size + 1, 3, none⟩ (.slice (some ⟨g, 0, none⟩) n cap)) := by
  refine ⟨r, acc, _, rfl, h1, h2, ?_, ?_, KidsAt_keep hKA (by simp [World.setCell]) (fun b hb _ => Below.heap_setCell _ _ _ _ (by show b ≠ w.heap.size + 1; omega)), hB.setCell (Nat.le_succ _) _, by simpa [World.setCell] using hZ, ht⟩
  · rw [Below.heap_setCell _ _ _ _ (by show w.heap.size ≠ w.heap.size + 1; omega)]; exact hb0
  · simp [World.setCell, Array.getElem?_modify, hb1]
theorem kids_empty (d m : Nat) (first : Bool) {s : ByteArray} (h : s.size = 0) : kidsR (readR d) (m + 1) first s = none := by
  have h1 : preB s bClose = false := by
    cases hh : preB s bClose with
    | false => rfl
    | true => have := (takeB_eq hh).2; have hb : bClose.size = 1 := rfl; omega
  have h2 : preB s bComma = false := by
    cases hh : preB s bComma with
    | false => rfl
    | true => have := (takeB_eq hh).2; have hb : bComma.size = 2 := rfl; omega
  cases first with
  | false => rw [kidsR, if_neg (by rw [h1]; simp), if_pos ⟨rfl, h2⟩]
  | true =>
    rw [kidsR_first _ _ _ h1]
    cases hr : readR d s with
    | none => rfl
    | some p => obtain ⟨x, r⟩ := p; have := readR_size d s x r hr; omega
theorem kids_close (d m : Nat) (first : Bool) {s : ByteArray} (h : preB s bClose = true) : kidsR (readR d) (m + 1) first s = some ([], takeB s bClose) := by rw [kidsR, if_pos h]
theorem kids_wrong (d m : Nat) {s : ByteArray} (h1 : preB s bClose = false) (h2 : preB s bComma = false) : kidsR (readR d) (m + 1) false s = none := by rw [kidsR, if_neg (by rw [h1]; simp), if_pos ⟨rfl, h2⟩]
theorem kids_step {d m : Nat} {acc : List Tm} {x : Tm} {r : ByteArray} {tgt : Option (List Tm × ByteArray)} (h : tgt = (match kidsR (readR d) m false r with
      | none => none
      | some (ks, r') => some (x :: ks, r')).map (fun p : List Tm × ByteArray => (acc ++ p.1, p.2))) : tgt = (kidsR (readR d) m (acc ++ [x]).isEmpty r).map (fun p : List Tm × ByteArray => (acc ++ [x] ++ p.1, p.2)) := by
  have e : (acc ++ [x]).isEmpty = false := by simp
  rw [h, e]
  cases kidsR (readR d) m false r with
  | none => rfl
  | some p => obtain ⟨ks, r'⟩ := p; simp
theorem pre_two {s : ByteArray} : preB s bComma = true ↔ 2 ≤ s.size ∧ ((s.extract 0 2).toList == [44, 32]) = true := by
  have e : bComma.toList = [44, 32] := by rw [Lib.toList_data]; rfl
  simp only [preB, Bool.and_eq_true, decide_eq_true_eq, e]
  rfl
set_option maxHeartbeats 6400000 in
set_option maxRecDepth 100000 in
theorem read_app (s nm R : ByteArray) (d : Nat) (dp : Int) (hdp : dp - 1 = (d : Int)) (hd1 : 1 ≤ dp) (hd2 : dp ≤ 1000000) (w : World) (hs : s.size ≤ 1048576) (h0 : 0 < s.size) (hc : ¬ s[0] = 63) (hnm : nameAny s = nm) (hR : s.extract nm.size s.size = R) (hno : isNameB nm.data.toList = true) (hr : 0 < R.size) (hr2 : R[0] = 40)
    (IH : ∀ (s : ByteArray) (w : World), s.size ≤ 1048576 → Calls Tryz.prog 103 #[.string s, .int .i64 d] w (ReadPost w (readR d s))) :
    Calls Tryz.prog 103 #[.string s, .int .i64 dp] w (ReadPost w ((kidsR (readR d) (s.size + 1) true (R.extract 1 R.size)).map fun p => (.mk 3 nm 0 p.1, p.2))) := by
  have d0 : (dp == 0) = false := by rw [beq_eq_false_iff_ne]; omega
  have e0 : (0 : Int) < (s.size : Int) := by omega
  have e1 : ((s[0].toNat : Int) == 63) = false := by
    rw [beq_eq_false_iff_ne]
    intro h
    exact hc (UInt8.toNat_inj.1 (by rw [show (63 : UInt8).toNat = 63 from rfl]; omega))
  have hsp : s.size ≤ maxLen := by unfold maxLen; omega
  clear hc
  have HN := Lib.hid (fun W => rname_any s W hsp)
  have hle := nameAny_le s
  rw [hnm] at hle HN
  have hnmx : nm.size ≤ maxLen := Nat.le_trans hle hsp
  have HI := Lib.hid (fun W => rIsName_any nm W hnmx)
  rw [hno] at HI
  have hRs : R.size ≤ s.size := by rw [← hR, ByteArray.size_extract]; omega
  have HNS := Lib.hid hnmx
  have s0 : (nm.size : Int) ≤ (s.size : Int) := by omega
  have r0 : ((R.size : Int) == 0) = false := by rw [beq_eq_false_iff_ne]; omega
  have r1 : ((R[0].toNat : Int) != 40) = false := by rw [hr2]; rfl
  have r2 : (0 : Int) < (R.size : Int) := by omega
  have r3 : (1 : Int) ≤ (R.size : Int) := by omega
  have hS1 : (R.extract 1 R.size).size < s.size + 1 ∧ (R.extract 1 R.size).size ≤ s.size := by rw [ByteArray.size_extract]; omega
  have HIH := Lib.hid IH
  have HD := Lib.hid hdp
  generalize hS : R.extract 1 R.size = S1 at hS1 ⊢
  obtain ⟨tgt, htgt⟩ : ∃ tgt, kidsR (readR d) (s.size + 1) true S1 = tgt := ⟨_, rfl⟩
  have HTG : Hid (tgt = (kidsR (readR d) (s.size + 1) (([] : List Tm).isEmpty) S1).map (fun p : List Tm × ByteArray => (([] : List Tm) ++ p.1, p.2))) := by
    show _ = _
    rw [← htgt]
    simp only [List.isEmpty_nil, List.nil_append]
    cases kidsR (readR d) (s.size + 1) true S1 <;> rfl
  rw [htgt]
  have HNONE : Hid (tgt = none → ∀ W, Below w.heap.size w W → ∀ a b c y l k x, ReadPost w (tgt.map fun p => (Tm.mk 3 nm 0 p.1, p.2)) (.returned (.tuple #[.agg #[.int .i64 a, .string b, .int .i64 c, .slice y l k], .string x, .bool false])) W) := fun ht W h a b c y l k x => by
    rw [ht]; exact ⟨h, a, b, c, y, l, k, x, rfl⟩
  have HSOME : Hid (∀ acc r, tgt = some (acc, r) → ∀ W kv, Below w.heap.size w W → IsIn (fun b => w.heap.size ≤ b) W (.mk 3 nm 0 acc) (.int .i64 3) (.string nm) (.int .i64 0) kv → ReadPost w (tgt.map fun p => (Tm.mk 3 nm 0 p.1, p.2)) (.returned (.tuple #[.agg #[.int .i64 3, .string nm, .int .i64 0, kv], .string r, .bool true])) W) := fun acc r ht W kv h hI => by
    rw [ht]; exact ⟨h, _, _, _, _, rfl, hI⟩
  obtain ⟨i0, hi0, hz0, hz1, hz2⟩ := info_parts info24
  have HI0 := Lib.hid (And.intro hi0 (And.intro hz0 (And.intro hz1 hz2)))
  have HS1 := Lib.hid hS1
  clear hno hle hnmx hRs hsp hnm hr2 hi0 hz0 hz1 hz2 htgt IH hS1 hdp
  go_enter Tryz.func103, Tryz.ntmps103
  go_wp2_with (first
    | (go_at_call 134; refine (HN.out _).mono ?_; rintro e w3 ⟨he, hw⟩; subst he; subst hw)
    | (go_at_call 135; refine (HI.out _).mono ?_; rintro e w4 ⟨he, hw⟩; subst he; subst hw; obtain ⟨hb0, hb1, hB, hZ⟩ := two_boxes w (.int .i64 0) (.string ⟨#[]⟩) (.int .i64 0) (.slice none 0 0) (.int .i64 2) (.string nm) (.int .i64 0) (.slice none 0 0) 24; generalize ((w.alloc (.cells #[.int .i64 0, .string ⟨#[]⟩, .int .i64 0, .slice none 0 0] 24)).alloc (.cells #[.int .i64 2, .string nm, .int .i64 0, .slice none 0 0] 24)) = wq at hb0 hb1 hB hZ ⊢; obtain ⟨⟨m0, m1, m2, m3⟩, n0, n1, n2, n3⟩ := box_facts hb0; obtain ⟨⟨y0, y1, y2, y3⟩, z0, z1, z2, z3⟩ := box_facts hb1; have HB := Lib.hid hB; have HZ := Lib.hid hZ; have HB0 := Lib.hid hb0; have HB1 := Lib.hid hb1; clear hb0 hb1 hB hZ))
  have hstart : RdR w d nm tgt s.size (s.size + 1) (.string S1) (wq.setCell ⟨w.heap.size + 1, 0, none⟩ (.int .i64 3)) := by
    refine ⟨S1, [], .slice none 0 0, rfl, HS1.out.1, by simpa using HS1.out.2, ?_, ?_, KidsAt_nil _ _, HB.out.setCell (Nat.le_succ _) _, by have := HZ.out; simp [World.setCell]; omega, HTG.out⟩
    · rw [Below.heap_setCell _ _ _ _ (by show w.heap.size ≠ w.heap.size + 1; omega)]; exact HB0.out
    · simp [World.setCell, Array.getElem?_modify, HB1.out]
  have HST := Lib.hid hstart
  clear hstart m0 m1 m2 m3 n0 n1 n2 n3 y0 y1 y2 y3 z0 z1 z2 z3
  go_loopg [0] (s.size + 1) (fun k v0 wr => RdR w d nm tgt s.size k v0 wr)
  case atStart => exact HST.out
  case round =>
    obtain ⟨sc, acc, kv, rfl, hk, hN, hb0, hb1, hKA, hB, hZ2, htg⟩ := hrel
    obtain ⟨m, rfl⟩ : ∃ m, gk = m + 1 := ⟨gk - 1, by omega⟩
    obtain ⟨xl, lcap, hkv⟩ := KidsAt_form hKA
    obtain ⟨n, hn⟩ : ∃ n, n = acc.length := ⟨_, rfl⟩
    rw [← hn] at hkv hN
    subst hkv
    have HNL := Lib.hid hn
    clear hn
    obtain ⟨⟨m0, m1, m2, m3⟩, n0, n1, n2, n3⟩ := box_facts hb0
    obtain ⟨⟨y0, y1, y2, y3⟩, z0, z1, z2, z3⟩ := box_facts hb1
    have HKA := Lib.hid hKA
    have HB1 := Lib.hid hb1
    have HB0 := Lib.hid hb0
    have HB := Lib.hid hB
    have HZ2 := Lib.hid hZ2
    have HTT := Lib.hid htg
    clear hKA hb0 hb1 hB hZ2 htg
    by_cases hsc : sc.size = 0
    · have HT : Hid (tgt = none) := by show _ = _; rw [HTT.out, kids_empty d m _ hsc]; rfl
      have f0 : (sc.size : Int) ≤ 0 := by omega
      have f1 : ((sc.size : Int) == 0) = true := by rw [hsc]; rfl
      clear hsc
      go_wp2_with fail
      exact bodyPost_ret (v := .tuple #[.agg #[.int .i64 3, .string nm, .int .i64 0, .slice xl n lcap], .string sc, .bool false]) (by simp [results, Tryz.results103, go_sem, m0, m1, m2, m3]) rfl (HNONE.out HT.out _ (put4_below (g := w.heap.size) (o := 0) HB.out (Nat.le_refl _)) _ _ _ _ _ _ _)
    have f0 : (0 : Int) < (sc.size : Int) := by omega
    have f1 : ((sc.size : Int) == 0) = false := by rw [beq_eq_false_iff_ne]; omega
    have f2 : (1 : Int) ≤ (sc.size : Int) := by omega
    by_cases hcl : preB sc bClose = true
    · have ht : tgt = some (acc, sc.extract 1 sc.size) := by
        rw [HTT.out, kids_close d m _ hcl]
        have : takeB sc bClose = sc.extract 1 sc.size := by unfold takeB; rw [hcl]; rfl
        rw [this]; simp
      have HSM := Lib.hid (HSOME.out acc _ ht)
      have HCAR : Hid (∀ W : World, (∀ b, w.heap.size + 2 ≤ b → W.heap[b]? = wr.heap[b]?) → IsIn (fun b => w.heap.size ≤ b) W (.mk 3 nm 0 acc) (.int .i64 3) (.string nm) (.int .i64 0) (.slice xl n lcap)) := fun W h => IsIn_carry (fun b hb => h b hb.1) (fun b hb => by have := hb.1; omega) _ _ _ _ _ (KidsAt_app HKA.out HNS.out)
      obtain ⟨hp0, hp1⟩ := (pre_one (s := sc) (p := bClose) rfl).1 hcl
      have f3 : ((sc[0].toNat : Int) != 41) = false := by rw [hp1]; rfl
      clear hcl ht hp1
      go_wp2_with fail
      go_region
      go_wp2_with fail
      refine bodyPost_ret (v := .tuple #[.agg #[.int .i64 3, .string nm, .int .i64 0, .slice xl n lcap], .string (sc.extract 1 sc.size), .bool true]) (by simp [results, Tryz.results103, go_sem, m0, m1, m2, m3]) rfl (HSM.out _ _ (put4_below (w' := wr.drew) (g := w.heap.size) (o := 0) HB.out.drew (Nat.le_refl _)) ?_)
      exact HCAR.out _ (fun b hb => put4_other wr w.heap.size 0 b _ _ _ _ (by omega))
    have hcl' : preB sc bClose = false := by simpa using hcl
    have f3 : ((sc[0]'(by omega)).toNat : Int) ≠ 41 := by
      intro h
      exact hcl ((pre_one (s := sc) (p := bClose) rfl).2 ⟨by omega, UInt8.toNat_inj.1 (by rw [show (41 : UInt8).toNat = 41 from rfl]; omega)⟩)
    have f4 : (((sc[0]'(by omega)).toNat : Int) != 41) = true := by rw [bne_iff_ne]; exact f3
    have HCL := Lib.hid hcl'
    clear hcl hcl' f3
    have hpos : 0 < sc.size := by omega
    have HNN := Lib.hid hN
    have HKK := Lib.hid hk
    by_cases hac : acc = []
    · have HT1 : Hid (tgt = (match readR d sc with
        | none => none
        | some (x, r) => match kidsR (readR d) m false r with
          | none => none
          | some (ks, r') => some (x :: ks, r')).map (fun p : List Tm × ByteArray => (acc ++ p.1, p.2))) := by
        show _ = _
        have he : acc.isEmpty = true := by rw [hac]; rfl
        rw [HTT.out, he, kidsR_first _ _ _ HCL.out]
      have hn0 : (n : Int) ≤ 0 := by have := HNL.out; rw [hac] at this; simp at this; omega
      clear hac
      have hnb : n + 1 ≤ 1048576 := by have := HNN.out; omega
      obtain ⟨X, hX⟩ : ∃ X, readR d sc = X := ⟨_, rfl⟩
      have HXS := Lib.hid (fun t r (h : X = some (t, r)) => readR_size d sc t r (hX.trans h))
      have HCALL := Lib.hid (fun W => HIH.out sc W (by omega))
      rw [hX] at HCALL HT1
      have HEQ := Lib.hid HD.out
      have hdp := HEQ.out
      clear hX
      cases X with
      | none =>
        have HT : Hid (tgt = none) := HT1.out
        go_upto_region 19 with (first
          | (go_at_call 103; refine (HCALL.out _).mono ?_; rintro e w5 ⟨hB5, qa, qb, qc, qd, ql, qk, qx, he⟩; subst he; have HE6 : Hid (Below wr.heap.size wr (w5.alloc (.cells #[.int .i64 qa, .string qb, .int .i64 qc, .slice qd ql qk] 24))) := Lib.hid (hB5.alloc hB5.size _); clear hB5))
        generalize (w5.alloc (.cells #[.int .i64 qa, .string qb, .int .i64 qc, .slice qd ql qk] 24)) = w6 at HE6 ⊢
        have hb0 := (HE6.out.block w.heap.size (by have := HZ2.out; omega)).trans HB0.out
        have hb1 := (HE6.out.block (w.heap.size + 1) (by have := HZ2.out; omega)).trans HB1.out
        have HBx := Lib.hid (HB.out.trans (HE6.out.mono (by have := HZ2.out; omega)))
        clear m0 m1 m2 m3 n0 n1 n2 n3 y0 y1 y2 y3 z0 z1 z2 z3
        obtain ⟨⟨m0, m1, m2, m3⟩, n0, n1, n2, n3⟩ := box_facts hb0
        obtain ⟨⟨y0, y1, y2, y3⟩, z0, z1, z2, z3⟩ := box_facts hb1
        clear hb0 hb1
        go_wp2_with fail
        exact bodyPost_ret (v := .tuple #[.agg #[.int .i64 3, .string nm, .int .i64 0, .slice xl n lcap], .string sc, .bool false]) (by simp [results, Tryz.results103, go_sem, m0, m1, m2, m3]) rfl (HNONE.out HT.out _ (put4_below (g := w.heap.size) (o := 0) HBx.out (Nat.le_refl _)) _ _ _ _ _ _ _)
      | some p =>
        obtain ⟨x, r⟩ := p
        have hxs := HXS.out x r rfl
        have HT2 := Lib.hid (kids_step HT1.out)
        go_upto_region 19 with (first
          | (go_at_call 103; refine (HCALL.out _).mono ?_; rintro e w5 ⟨hB5, c0, c1, c2, c3, he, hI⟩; subst he; obtain ⟨xk, xn, xs, xr, xn2, xc, e0', e1', e2', e3'⟩ := IsIn_form hI; subst e0'; subst e1'; subst e2'; subst e3'; have HE6 : Hid (Below wr.heap.size wr (w5.alloc (.cells #[.int .i64 xk, .string xn, .int .i64 xs, .slice xr xn2 xc] 24))) := Lib.hid (hB5.alloc hB5.size _); have HIX : Hid (IsIn (fun b => wr.heap.size ≤ b ∧ b < (w5.alloc (.cells #[.int .i64 xk, .string xn, .int .i64 xs, .slice xr xn2 xc] 24)).heap.size) (w5.alloc (.cells #[.int .i64 xk, .string xn, .int .i64 xs, .slice xr xn2 xc] 24)) x (.int .i64 xk) (.string xn) (.int .i64 xs) (.slice xr xn2 xc)) := Lib.hid (IsIn_carry (fun b hb => Below.heap_alloc _ _ _ hb.2) (fun b hb => ⟨hb.1, by rw [World.size_alloc]; have := hb.2; omega⟩) _ _ _ _ _ (IsIn_lt _ _ _ _ _ hI)); have hx0 := heap_alloc_new w5 (.cells #[.int .i64 xk, .string xn, .int .i64 xs, .slice xr xn2 xc] 24); have HX5 : Hid (w5.heap.size < (w5.alloc (.cells #[.int .i64 xk, .string xn, .int .i64 xs, .slice xr xn2 xc] 24)).heap.size) := Lib.hid (by rw [World.size_alloc]; omega); clear hB5 hI))
        generalize (w5.alloc (.cells #[.int .i64 xk, .string xn, .int .i64 xs, .slice xr xn2 xc] 24)) = w6 at HE6 HIX hx0 HX5 ⊢
        have hb0 := (HE6.out.block w.heap.size (by have := HZ2.out; omega)).trans HB0.out
        have hb1 := (HE6.out.block (w.heap.size + 1) (by have := HZ2.out; omega)).trans HB1.out
        have HBx := Lib.hid (HB.out.trans (HE6.out.mono (by have := HZ2.out; omega)))
        clear m0 m1 m2 m3 n0 n1 n2 n3 y0 y1 y2 y3 z0 z1 z2 z3
        obtain ⟨⟨y0, y1, y2, y3⟩, z0, z1, z2, z3⟩ := box_facts hb1
        obtain ⟨⟨x0, x1, x2, x3⟩, _⟩ := box_facts hx0
        obtain ⟨F, ⟨cs, hown, hKC⟩, hF⟩ := HKA.out
        rw [← HNL.out] at hown
        have HOW := Lib.hid hown
        have HKC := Lib.hid hKC
        have HFF := Lib.hid hF
        have hw6 : w.heap.size + 2 ≤ w6.heap.size := by have := HZ2.out; have := HE6.out.size; omega
        have HO6 := Lib.hid (own_heap hown (fun q hq => HE6.out.block q (hown.lt q hq).2))
        have HBB := Lib.hid (And.intro hb0 hb1)
        clear hb0 hb1 hx0 hown hKC hF
        go_wp2_with (at_builtin; refine wpList_append_lies _ rfl _ _ _ rfl (w.heap.size + 2) 24 i0 _ 4 56 Tryz.underlying22 HI0.out.1 HI0.out.2.1 HI0.out.2.2.1 HI0.out.2.2.2 rfl (by omega) (.slice xl n lcap) n cs rfl (HO6.out.alloc _) ⟨w6.heap.size, 0, none⟩ 1 1 [.int .i64 xk, .string xn, .int .i64 xs, .slice xr xn2 xc] rfl rfl (World.news_of_block (cs := #[.int .i64 xk, .string xn, .int .i64 xs, .slice xr xn2 xc]) (t := 24) (fr := (0, 0)) (heap_alloc_new w6 _)) (by simp [Value.oneCell']) (by omega) (by unfold maxLen; omega) (by omega) (by simp; omega) (w6.heap.size + 1) (by simp) ?_; intro g cap2 w8 hown4 hgrow4 hat4 hlt4; have HP := Lib.hid (Rd_push HNL.out HOW.out HKC.out HFF.out HZ2.out HE6.out HIX.out hown4 hgrow4 hat4 HBx.out); clear hown4 hgrow4 hat4 hlt4 y0 y1 y2 y3 z0 z1 z2 z3 x0 x1 x2 x3; have hb1 := HP.out.2.2.1.trans HBB.out.2; obtain ⟨⟨y0, y1, y2, y3⟩, z0, z1, z2, z3⟩ := box_facts hb1; clear hb1)
        go_roundg m
        case measure => omega
        case rel => exact RdR_next HP.out.1 (HP.out.2.1.trans HBB.out.1) (HP.out.2.2.1.trans HBB.out.2) HP.out.2.2.2.1 HP.out.2.2.2.2 (by have := HKK.out; omega) (by rw [List.length_append, ← HNL.out]; have := HNN.out; simp; omega) HT2.out
    have hn1 : (0 : Int) < (n : Int) := by
      have := HNL.out
      have : 0 < acc.length := List.length_pos_iff.2 hac
      omega
    have he : acc.isEmpty = false := by simpa using hac
    have HE0 := Lib.hid he
    clear hac he
    by_cases hcm : preB sc bComma = true
    rotate_left
    · have hcm' : preB sc bComma = false := by simpa using hcm
      have HT : Hid (tgt = none) := by
        show _ = _
        rw [HTT.out, HE0.out, kids_wrong d m HCL.out hcm']; rfl
      by_cases h2 : sc.size < 2
      · have f5 : (sc.size : Int) < 2 := by omega
        clear hcm hcm' h2
        go_wp2_with fail
        exact bodyPost_ret (v := .tuple #[.agg #[.int .i64 3, .string nm, .int .i64 0, .slice xl n lcap], .string sc, .bool false]) (by simp [results, Tryz.results103, go_sem, m0, m1, m2, m3]) rfl (HNONE.out HT.out _ (put4_below (g := w.heap.size) (o := 0) HB.out (Nat.le_refl _)) _ _ _ _ _ _ _)
      · have f5 : ¬ (sc.size : Int) < 2 := by omega
        have f6 : (2 : Int) ≤ (sc.size : Int) := by omega
        have q : ((sc.extract 0 2).toList == [44, 32]) = false := by
          cases hq : ((sc.extract 0 2).toList == [44, 32]) with
          | true => exact absurd (pre_two.2 ⟨by omega, hq⟩) hcm
          | false => rfl
        clear hcm hcm' h2
        go_wp2_with fail
        exact bodyPost_ret (v := .tuple #[.agg #[.int .i64 3, .string nm, .int .i64 0, .slice xl n lcap], .string sc, .bool false]) (by simp [results, Tryz.results103, go_sem, m0, m1, m2, m3]) rfl (HNONE.out HT.out _ (put4_below (g := w.heap.size) (o := 0) HB.out (Nat.le_refl _)) _ _ _ _ _ _ _)
    obtain ⟨h2, hq⟩ := pre_two.1 hcm
    have f5 : ¬ (sc.size : Int) < 2 := by omega
    have f6 : (2 : Int) ≤ (sc.size : Int) := by omega
    have q := hq
    obtain ⟨S2, hS2⟩ : ∃ S2, sc.extract 2 sc.size = S2 := ⟨_, rfl⟩
    have hS2s : S2.size + 2 = sc.size := by rw [← hS2, ByteArray.size_extract]; omega
    have hT2 : takeB sc bComma = S2 := by unfold takeB; rw [hcm, ← hS2]; rfl
    have HT1 : Hid (tgt = (match readR d S2 with
      | none => none
      | some (x, r) => match kidsR (readR d) m false r with
        | none => none
        | some (ks, r') => some (x :: ks, r')).map (fun p : List Tm × ByteArray => (acc ++ p.1, p.2))) := by
      show _ = _
      rw [HTT.out, HE0.out, kidsR_succ _ _ _ HCL.out hcm, hT2]
    clear hcm h2 hq hT2
    have hnb : n + 1 ≤ 1048576 := by have := HNN.out; omega
    obtain ⟨X, hX⟩ : ∃ X, readR d S2 = X := ⟨_, rfl⟩
    have HXS := Lib.hid (fun t r (h : X = some (t, r)) => readR_size d S2 t r (hX.trans h))
    have HCALL := Lib.hid (fun W => HIH.out S2 W (by omega))
    rw [hX] at HCALL HT1
    have HEQ := Lib.hid HD.out
    have hdp := HEQ.out
    clear hX
    cases X with
    | none =>
      have HT : Hid (tgt = none) := HT1.out
      go_upto_region 19 with (first
        | (go_at_call 103; refine (HCALL.out _).mono ?_; rintro e w5 ⟨hB5, qa, qb, qc, qd, ql, qk, qx, he⟩; subst he; have HE6 : Hid (Below wr.heap.size wr (w5.alloc (.cells #[.int .i64 qa, .string qb, .int .i64 qc, .slice qd ql qk] 24))) := Lib.hid (hB5.alloc hB5.size _); clear hB5))
      generalize (w5.alloc (.cells #[.int .i64 qa, .string qb, .int .i64 qc, .slice qd ql qk] 24)) = w6 at HE6 ⊢
      have hb0 := (HE6.out.block w.heap.size (by have := HZ2.out; omega)).trans HB0.out
      have hb1 := (HE6.out.block (w.heap.size + 1) (by have := HZ2.out; omega)).trans HB1.out
      have HBx := Lib.hid (HB.out.trans (HE6.out.mono (by have := HZ2.out; omega)))
      clear m0 m1 m2 m3 n0 n1 n2 n3 y0 y1 y2 y3 z0 z1 z2 z3
      obtain ⟨⟨m0, m1, m2, m3⟩, n0, n1, n2, n3⟩ := box_facts hb0
      obtain ⟨⟨y0, y1, y2, y3⟩, z0, z1, z2, z3⟩ := box_facts hb1
      clear hb0 hb1
      go_wp2_with fail
      exact bodyPost_ret (v := .tuple #[.agg #[.int .i64 3, .string nm, .int .i64 0, .slice xl n lcap], .string S2, .bool false]) (by simp [results, Tryz.results103, go_sem, m0, m1, m2, m3]) rfl (HNONE.out HT.out _ (put4_below (g := w.heap.size) (o := 0) HBx.out (Nat.le_refl _)) _ _ _ _ _ _ _)
    | some p =>
      obtain ⟨x, r⟩ := p
      have hxs := HXS.out x r rfl
      have HT2 := Lib.hid (kids_step HT1.out)
      go_upto_region 19 with (first
        | (go_at_call 103; refine (HCALL.out _).mono ?_; rintro e w5 ⟨hB5, c0, c1, c2, c3, he, hI⟩; subst he; obtain ⟨xk, xn, xs, xr, xn2, xc, e0', e1', e2', e3'⟩ := IsIn_form hI; subst e0'; subst e1'; subst e2'; subst e3'; have HE6 : Hid (Below wr.heap.size wr (w5.alloc (.cells #[.int .i64 xk, .string xn, .int .i64 xs, .slice xr xn2 xc] 24))) := Lib.hid (hB5.alloc hB5.size _); have HIX : Hid (IsIn (fun b => wr.heap.size ≤ b ∧ b < (w5.alloc (.cells #[.int .i64 xk, .string xn, .int .i64 xs, .slice xr xn2 xc] 24)).heap.size) (w5.alloc (.cells #[.int .i64 xk, .string xn, .int .i64 xs, .slice xr xn2 xc] 24)) x (.int .i64 xk) (.string xn) (.int .i64 xs) (.slice xr xn2 xc)) := Lib.hid (IsIn_carry (fun b hb => Below.heap_alloc _ _ _ hb.2) (fun b hb => ⟨hb.1, by rw [World.size_alloc]; have := hb.2; omega⟩) _ _ _ _ _ (IsIn_lt _ _ _ _ _ hI)); have hx0 := heap_alloc_new w5 (.cells #[.int .i64 xk, .string xn, .int .i64 xs, .slice xr xn2 xc] 24); have HX5 : Hid (w5.heap.size < (w5.alloc (.cells #[.int .i64 xk, .string xn, .int .i64 xs, .slice xr xn2 xc] 24)).heap.size) := Lib.hid (by rw [World.size_alloc]; omega); clear hB5 hI))
      generalize (w5.alloc (.cells #[.int .i64 xk, .string xn, .int .i64 xs, .slice xr xn2 xc] 24)) = w6 at HE6 HIX hx0 HX5 ⊢
      have hb0 := (HE6.out.block w.heap.size (by have := HZ2.out; omega)).trans HB0.out
      have hb1 := (HE6.out.block (w.heap.size + 1) (by have := HZ2.out; omega)).trans HB1.out
      have HBx := Lib.hid (HB.out.trans (HE6.out.mono (by have := HZ2.out; omega)))
      clear m0 m1 m2 m3 n0 n1 n2 n3 y0 y1 y2 y3 z0 z1 z2 z3
      obtain ⟨⟨y0, y1, y2, y3⟩, z0, z1, z2, z3⟩ := box_facts hb1
      obtain ⟨⟨x0, x1, x2, x3⟩, _⟩ := box_facts hx0
      obtain ⟨F, ⟨cs, hown, hKC⟩, hF⟩ := HKA.out
      rw [← HNL.out] at hown
      have HOW := Lib.hid hown
      have HKC := Lib.hid hKC
      have HFF := Lib.hid hF
      have hw6 : w.heap.size + 2 ≤ w6.heap.size := by have := HZ2.out; have := HE6.out.size; omega
      have HO6 := Lib.hid (own_heap hown (fun q hq => HE6.out.block q (hown.lt q hq).2))
      have HBB := Lib.hid (And.intro hb0 hb1)
      clear hb0 hb1 hx0 hown hKC hF
      go_wp2_with (at_builtin; refine wpList_append_lies _ rfl _ _ _ rfl (w.heap.size + 2) 24 i0 _ 4 56 Tryz.underlying22 HI0.out.1 HI0.out.2.1 HI0.out.2.2.1 HI0.out.2.2.2 rfl (by omega) (.slice xl n lcap) n cs rfl (HO6.out.alloc _) ⟨w6.heap.size, 0, none⟩ 1 1 [.int .i64 xk, .string xn, .int .i64 xs, .slice xr xn2 xc] rfl rfl (World.news_of_block (cs := #[.int .i64 xk, .string xn, .int .i64 xs, .slice xr xn2 xc]) (t := 24) (fr := (0, 0)) (heap_alloc_new w6 _)) (by simp [Value.oneCell']) (by omega) (by unfold maxLen; omega) (by omega) (by simp; omega) (w6.heap.size + 1) (by simp) ?_; intro g cap2 w8 hown4 hgrow4 hat4 hlt4; have HP := Lib.hid (Rd_push HNL.out HOW.out HKC.out HFF.out HZ2.out HE6.out HIX.out hown4 hgrow4 hat4 HBx.out); clear hown4 hgrow4 hat4 hlt4 y0 y1 y2 y3 z0 z1 z2 z3 x0 x1 x2 x3; have hb1 := HP.out.2.2.1.trans HBB.out.2; obtain ⟨⟨y0, y1, y2, y3⟩, z0, z1, z2, z3⟩ := box_facts hb1; clear hb1)
      go_roundg m
      case measure => omega
      case rel => exact RdR_next HP.out.1 (HP.out.2.1.trans HBB.out.1) (HP.out.2.2.1.trans HBB.out.2) HP.out.2.2.2.1 HP.out.2.2.2.2 (by have := HKK.out; omega) (by rw [List.length_append, ← HNL.out]; have := HNN.out; simp; omega) HT2.out
end Go.Proofs.YtbcpnepjojppaaaGreatDoor
namespace Go.Proofs.YtbcpnepjojppaaaGreatDoor
open Go.RowKit
theorem take_quest {s : ByteArray} (h : preB s bQ = true) : takeB s bQ = s.extract 1 s.size := by unfold takeB; rw [h]; rfl
theorem head_cases (s : ByteArray) : (∃ h : 0 < s.size, s[0] = 63 ∧ preB s bQ = true ∧ takeB s bQ = s.extract 1 s.size) ∨ (s.size = 0 ∧ preB s bQ = false ∧ takeB s bQ = s ∧ isNameB (nameAny s).data.toList = false) ∨ (∃ h : 0 < s.size, ¬ s[0] = 63 ∧ preB s bQ = false ∧ takeB s bQ = s) := by
  cases hq : preB s bQ with
  | true =>
    obtain ⟨h, h2⟩ := (pre_one (s := s) (p := bQ) rfl).1 hq
    exact Or.inl ⟨h, h2, rfl, take_quest hq⟩
  | false =>
    right
    by_cases h : 0 < s.size
    · right
      refine ⟨h, fun h2 => ?_, rfl, takeB_no hq⟩
      have := (pre_one (s := s) (p := bQ) rfl).2 ⟨h, h2⟩
      rw [hq] at this; cases this
    · left
      refine ⟨by omega, rfl, takeB_no hq, ?_⟩
      have := nameAny_le s
      have hl : (nameAny s).data.toList.length = (nameAny s).size := by simp
      simp only [isNameB]
      rw [decide_eq_false (by omega)]; rfl
theorem read_any (d : Nat) : d ≤ 100000 → ∀ (s : ByteArray) (w : World), s.size ≤ 1048576 → Calls Tryz.prog 103 #[.string s, .int .i64 d] w (ReadPost w (readR d s)) := by
  induction d with
  | zero =>
    intro _ s w hs
    have hm : s.size ≤ maxLen := by unfold maxLen; omega
    rw [readR_zero]
    rcases head_cases s with ⟨h0, hc, hq, ht⟩ | ⟨h0, hq, ht, hn⟩ | ⟨h0, hc, hq, ht⟩
    · cases hn : isNameB (nameAny (s.extract 1 s.size)).data.toList with
      | false => exact read_qn s 0 w hm h0 hc hn
      | true => exact read_qz s w hm h0 hc hn
    · exact read_en s 0 w hm h0 hn
    · cases hn : isNameB (nameAny s).data.toList with
      | false => exact read_on s 0 w hm h0 hc hn
      | true => exact read_oz s w hm h0 hc hn
  | succ d ih =>
    intro hd s w hs
    have hm : s.size ≤ maxLen := by unfold maxLen; omega
    have hdz : (((d + 1 : Nat) : Int) == 0) = false := by rw [beq_eq_false_iff_ne]; omega
    have hne := name_eq s
    rw [readR_succ]
    rcases head_cases s with ⟨h0, hc, hq, ht⟩ | ⟨h0, hq, ht, hn⟩ | ⟨h0, hc, hq, ht⟩
    · rw [ht] at hne
      cases hn : isNameB (nameAny (s.extract 1 s.size)).data.toList with
      | false =>
        rw [readN_no _ (hne.1.trans hn)]
        exact read_qn s _ w hm h0 hc hn
      | true =>
        have hnn := hne.1.trans hn
        have hnm := hne.2 hnn
        rw [readN_leaf _ true hnn hq (fun h => by simp at h)]
        exact read_lq s (s.extract 1 s.size) (nodeName s) (nodeRest s) _ hdz w hm h0 hc rfl hnm (by unfold nodeRest; rw [ht]) hnn
    · rw [ht] at hne
      rw [readN_no _ (hne.1.trans hn)]
      exact read_en s _ w hm h0 hn
    · rw [ht] at hne
      cases hn : isNameB (nameAny s).data.toList with
      | false =>
        rw [readN_no _ (hne.1.trans hn)]
        exact read_on s _ w hm h0 hc hn
      | true =>
        have hnn := hne.1.trans hn
        have hnm := hne.2 hnn
        have hrest : s.extract (nodeName s).size s.size = nodeRest s := by unfold nodeRest; rw [ht]
        cases ho : preB (nodeRest s) bOpen with
        | false =>
          rw [readN_leaf _ false hnn hq (fun _ => ho)]
          by_cases hz : (nodeRest s).size = 0
          · exact read_loe s s (nodeName s) (nodeRest s) _ hdz w hm h0 hc rfl hnm hrest hnn hz
          · refine read_lon s s (nodeName s) (nodeRest s) _ hdz w hm h0 hc rfl hnm hrest hnn (by omega) (fun h => ?_)
            have := (pre_one (s := nodeRest s) (p := bOpen) rfl).2 ⟨by omega, h⟩
            rw [ho] at this; cases this
        | true =>
          obtain ⟨hr, hr2⟩ := (pre_one (s := nodeRest s) (p := bOpen) rfl).1 ho
          have htk : takeB (nodeRest s) bOpen = (nodeRest s).extract 1 (nodeRest s).size := by unfold takeB; rw [ho]; rfl
          rw [readN_app _ hnn hq ho, htk]
          exact read_app s (nodeName s) (nodeRest s) d ((d + 1 : Nat) : Int) (by omega) (by omega) (by omega) w hs h0 hc hnm hrest hnn hr hr2 (ih (by omega))
theorem wf_size (t : Tm) : WF t → size t ≤ (textT t).size := by
  refine Tm.rec (motive_1 := fun t => WF t → size t ≤ (textT t).size) (motive_2 := fun ts => WFL ts → sizes ts ≤ (tailJ ts).size) ?_ ?_ ?_ t
  · intro k n s ks ih h
    rw [WF] at h
    obtain ⟨hn, hs, hk, hl⟩ := h
    have hn1 := name_pos hn
    rcases hk with ⟨hk, rfl⟩ | ⟨rfl, rfl⟩
    · simp only [size, sizes, textT]
      split
      · split <;> (simp only [ByteArray.size_append]; omega)
      · rw [if_pos (by omega)]; simp only [ByteArray.size_append]; omega
    · have := ih hl
      have hc1 : bComma.size = 2 := rfl
      have ho1 : bOpen.size = 1 := rfl
      have hb1 : bClose.size = 1 := rfl
      rw [textT_app3]
      cases ks with
      | nil => simp only [size, sizes, ByteArray.size_append]; omega
      | cons a us =>
        simp only [size, headJ, ByteArray.size_append, tailJ] at this ⊢
        omega
  · intro _; simp [sizes]
  · intro t ts iht ihl h
    rw [WFL] at h
    have := iht h.1
    have := ihl h.2
    simp only [sizes, tailJ, ByteArray.size_append]; omega
set_option maxHeartbeats 3200000 in
set_option maxRecDepth 100000 in
theorem rparse_in (s : ByteArray) (w : World) (hs : s.size ≤ 1048576) : Calls Tryz.prog 77 #[.string s] w (ParseInP (refP s) w) := by
  have h8 : ((800 : Nat) : Int) = 800 := rfl
  have hC := fun W => read_any 800 (by omega) s W hs
  rw [h8] at hC
  have HC := Lib.hid hC
  clear h8 hC
  have hw := readR_text 800 s
  obtain ⟨P, hP⟩ : ∃ P, refP s = P := ⟨_, rfl⟩
  have hP2 := hP
  unfold refP at hP2
  have HP := Lib.hid hP
  have hB0 : Below w.heap.size w (w.alloc (.cells #[.int .i64 0, .string ⟨#[]⟩, .int .i64 0, .slice none 0 0] 24)) := (Below.refl _ _).alloc (Nat.le_refl _) _
  have HB0 := Lib.hid hB0
  have hbx := heap_alloc_new w (.cells #[.int .i64 0, .string ⟨#[]⟩, .int .i64 0, .slice none 0 0] 24)
  have HBX := Lib.hid hbx
  have HZERO : Hid (∀ (x : Int) W, P = (zeroT, x) → Below w.heap.size w W → ParseInP (refP s) w (.returned (.tuple #[.agg #[.int .i64 0, .string ⟨#[]⟩, .int .i64 0, .slice none 0 0], .int .i64 x])) W) := fun x W h hW => by
    unfold ParseInP
    rw [hP, h]
    exact ⟨_, _, _, _, rfl, zero_In _ _, hW⟩
  generalize readR 800 s = X at HC hw hP2
  cases X with
  | none =>
    have HPE := Lib.hid hP2.symm
    clear hP hP2 hw hB0 hbx hs
    go_enter Tryz.func77, Tryz.ntmps77
    go_upto_region 2 with (first
      | (go_at_call 103; refine (HC.out _).mono ?_; rintro e w5 ⟨hB5, qa, qb, qc, qd, ql, qk, qx, he⟩; subst he; have HB6 : Hid (Below w.heap.size w (w5.alloc (.cells #[.int .i64 qa, .string qb, .int .i64 qc, .slice qd ql qk] 24))) := Lib.hid ((HB0.out.trans (hB5.mono (by simp))).alloc (by have := hB5.size; simp only [World.size_alloc] at this; omega) _); have hb0 : (w5.alloc (.cells #[.int .i64 qa, .string qb, .int .i64 qc, .slice qd ql qk] 24)).heap[w.heap.size]? = some (.cells #[.int .i64 0, .string ⟨#[]⟩, .int .i64 0, .slice none 0 0] 24 (0, 0)) := (Below.heap_alloc _ _ _ (by have := hB5.size; simp only [World.size_alloc] at this; omega)).trans ((hB5.block _ (by simp)).trans HBX.out); clear hB5))
    generalize (w5.alloc (.cells #[.int .i64 qa, .string qb, .int .i64 qc, .slice qd ql qk] 24)) = w6 at HB6 hb0 ⊢
    obtain ⟨⟨m0, m1, m2, m3⟩, n0, n1, n2, n3⟩ := box_facts hb0
    clear hb0
    go_wp2_with fail
    exact bodyPost_ret (v := .tuple #[.agg #[.int .i64 0, .string ⟨#[]⟩, .int .i64 0, .slice none 0 0], .int .i64 2]) (by simp [results, Tryz.results77, go_sem, m0, m1, m2, m3]) rfl (HZERO.out 2 _ HPE.out (put4_below (g := w.heap.size) (o := 0) HB6.out (Nat.le_refl _)))
  | some p =>
    obtain ⟨t, r⟩ := p
    have hwt := hw t r rfl
    have hst : size t ≤ 1073741824 := by
      have := wf_size t hwt.1
      have h2 : s.size = (textT t).size + r.size := by
        have := congrArg ByteArray.size hwt.2
        rw [ByteArray.size_append] at this; exact this
      omega
    simp only at hP2
    have hre : r.toList.isEmpty = decide (r.size = 0) := by
      rw [Lib.toList_data]
      have hl : r.data.toList.length = r.size := by simp
      cases hd : r.data.toList with
      | nil => rw [hd] at hl; exact (decide_eq_true (by simp at hl; omega)).symm
      | cons a b => rw [hd] at hl; exact (decide_eq_false (by simp only [List.length_cons] at hl; omega)).symm
    have HST := Lib.hid hst
    by_cases h0 : r.size = 0
    rotate_left
    · rw [if_neg h0] at hP2
      have HPE := Lib.hid hP2.symm
      rw [decide_eq_false h0] at hre
      clear hP hP2 hw hwt hst hB0 hbx hs h0
      go_enter Tryz.func77, Tryz.ntmps77
      go_upto_region 2 with (first
        | (go_at_call 103; refine (HC.out _).mono ?_; rintro e w5 ⟨hB5, c0, c1, c2, c3, he, hI⟩; subst he; obtain ⟨xk, xn, xs, xr, xn2, xc, e0', e1', e2', e3'⟩ := IsIn_form hI; subst e0'; subst e1'; subst e2'; subst e3'; have HB6 : Hid (Below w.heap.size w (w5.alloc (.cells #[.int .i64 xk, .string xn, .int .i64 xs, .slice xr xn2 xc] 24))) := Lib.hid ((HB0.out.trans (hB5.mono (by simp))).alloc (by have := hB5.size; simp only [World.size_alloc] at this; omega) _); have hb0 : (w5.alloc (.cells #[.int .i64 xk, .string xn, .int .i64 xs, .slice xr xn2 xc] 24)).heap[w.heap.size]? = some (.cells #[.int .i64 0, .string ⟨#[]⟩, .int .i64 0, .slice none 0 0] 24 (0, 0)) := (Below.heap_alloc _ _ _ (by have := hB5.size; simp only [World.size_alloc] at this; omega)).trans ((hB5.block _ (by simp)).trans HBX.out); clear hB5 hI))
      generalize (w5.alloc (.cells #[.int .i64 xk, .string xn, .int .i64 xs, .slice xr xn2 xc] 24)) = w6 at HB6 hb0 ⊢
      obtain ⟨⟨m0, m1, m2, m3⟩, n0, n1, n2, n3⟩ := box_facts hb0
      clear hb0
      go_wp2_with fail
      exact bodyPost_ret (v := .tuple #[.agg #[.int .i64 0, .string ⟨#[]⟩, .int .i64 0, .slice none 0 0], .int .i64 2]) (by simp [results, Tryz.results77, go_sem, m0, m1, m2, m3]) rfl (HZERO.out 2 _ HPE.out (put4_below (g := w.heap.size) (o := 0) HB6.out (Nat.le_refl _)))
    rw [if_pos h0] at hP2
    rw [decide_eq_true h0] at hre
    have HV := Lib.hid (fun (W : World) a b c d (h : Is W t a b c d) => rValid_any t a b c d W HST.out h)
    obtain ⟨x, hx⟩ : ∃ x, validE t = x := ⟨_, rfl⟩
    rw [hx] at HV hP2
    have HX := Lib.hid hx
    clear hP hw hwt hst hB0 hbx hs h0 hx
    by_cases hx0 : x = 0
    · subst hx0
      rw [if_pos rfl] at hP2
      have HPE := Lib.hid hP2.symm
      clear hP2
      go_enter Tryz.func77, Tryz.ntmps77
      go_upto_region 2 with (first
        | (go_at_call 103; refine (HC.out _).mono ?_; rintro e w5 ⟨hB5, c0, c1, c2, c3, he, hI⟩; subst he; obtain ⟨xk, xn, xs, xr, xn2, xc, e0', e1', e2', e3'⟩ := IsIn_form hI; subst e0'; subst e1'; subst e2'; subst e3'; have HB6 : Hid (Below w.heap.size w (w5.alloc (.cells #[.int .i64 xk, .string xn, .int .i64 xs, .slice xr xn2 xc] 24))) := Lib.hid ((HB0.out.trans (hB5.mono (by simp))).alloc (by have := hB5.size; simp only [World.size_alloc] at this; omega) _); have hb0 : (w5.alloc (.cells #[.int .i64 xk, .string xn, .int .i64 xs, .slice xr xn2 xc] 24)).heap[w.heap.size]? = some (.cells #[.int .i64 0, .string ⟨#[]⟩, .int .i64 0, .slice none 0 0] 24 (0, 0)) := (Below.heap_alloc _ _ _ (by have := hB5.size; simp only [World.size_alloc] at this; omega)).trans ((hB5.block _ (by simp)).trans HBX.out); have HI6 : Hid (IsIn (fun b => w.heap.size + 1 ≤ b ∧ b < w5.heap.size) (w5.alloc (.cells #[.int .i64 xk, .string xn, .int .i64 xs, .slice xr xn2 xc] 24)) t (.int .i64 xk) (.string xn) (.int .i64 xs) (.slice xr xn2 xc)) := Lib.hid (IsIn_carry (fun b hb => Below.heap_alloc _ _ _ hb.2) (fun b hb => ⟨by have := hb.1; simp only [World.size_alloc] at this; omega, hb.2⟩) _ _ _ _ _ (IsIn_lt _ _ _ _ _ hI)); have hx0 := heap_alloc_new w5 (.cells #[.int .i64 xk, .string xn, .int .i64 xs, .slice xr xn2 xc] 24); have HS5 : Hid (w.heap.size < w5.heap.size ∧ w5.heap.size < (w5.alloc (.cells #[.int .i64 xk, .string xn, .int .i64 xs, .slice xr xn2 xc] 24)).heap.size) := Lib.hid ⟨by have := hB5.size; simp only [World.size_alloc] at this; omega, by simp⟩; clear hB5 hI))
      generalize (w5.alloc (.cells #[.int .i64 xk, .string xn, .int .i64 xs, .slice xr xn2 xc] 24)) = w6 at HB6 hb0 HI6 hx0 HS5 ⊢
      have HW0 := Lib.hid (And.intro hb0 hx0)
      obtain ⟨⟨y0, y1, y2, y3⟩, _⟩ := box_facts hx0
      clear hb0 hx0
      go_wp2_with (go_at_call 54; refine (HV.out _ _ _ _ _ (IsIn_Is _ _ _ _ _ HI6.out)).mono ?_; rintro e w7 ⟨he, hB7⟩; subst he; have HB7 := Lib.hid hB7; have hb0 := (hB7.block w.heap.size (by have := HS5.out; omega)).trans HW0.out.1; have hx0 := (hB7.block w5.heap.size (by have := HS5.out; omega)).trans HW0.out.2; clear hB7 y0 y1 y2 y3; obtain ⟨⟨m0, m1, m2, m3⟩, n0, n1, n2, n3⟩ := box_facts hb0; obtain ⟨⟨y0, y1, y2, y3⟩, _⟩ := box_facts hx0; clear hb0 hx0)
      have HF : Hid (ParseInP (refP s) w (.returned (.tuple #[.agg #[.int .i64 xk, .string xn, .int .i64 xs, .slice xr xn2 xc], .int .i64 0])) (put4 w7 w.heap.size 0 (.int .i64 xk) (.string xn) (.int .i64 xs) (.slice xr xn2 xc))) := by
        show ParseInP _ _ _ _
        unfold ParseInP
        rw [HP.out, HPE.out]
        refine ⟨_, _, _, _, rfl, IsIn_carry (fun b hb => ?_) (fun b hb => by have := hb.1; omega) _ _ _ _ _ HI6.out, put4_below (g := w.heap.size) (o := 0) (HB6.out.trans (HB7.out.mono (by have := HS5.out; omega))) (Nat.le_refl _)⟩
        rw [put4_other _ _ _ _ _ _ _ _ (by have := hb.1; omega)]
        exact HB7.out.block b (by have := HS5.out; have := hb.2; omega)
      exact bodyPost_ret (v := .tuple #[.agg #[.int .i64 xk, .string xn, .int .i64 xs, .slice xr xn2 xc], .int .i64 0]) (by simp [results, Tryz.results77, go_sem, m0, m1, m2, m3]) rfl HF.out
    · rw [if_neg hx0] at hP2
      have HPE := Lib.hid hP2.symm
      have hxb : (x != 0) = true := by rw [bne_iff_ne]; exact hx0
      clear hP2 hx0
      go_enter Tryz.func77, Tryz.ntmps77
      go_upto_region 2 with (first
        | (go_at_call 103; refine (HC.out _).mono ?_; rintro e w5 ⟨hB5, c0, c1, c2, c3, he, hI⟩; subst he; obtain ⟨xk, xn, xs, xr, xn2, xc, e0', e1', e2', e3'⟩ := IsIn_form hI; subst e0'; subst e1'; subst e2'; subst e3'; have HB6 : Hid (Below w.heap.size w (w5.alloc (.cells #[.int .i64 xk, .string xn, .int .i64 xs, .slice xr xn2 xc] 24))) := Lib.hid ((HB0.out.trans (hB5.mono (by simp))).alloc (by have := hB5.size; simp only [World.size_alloc] at this; omega) _); have hb0 : (w5.alloc (.cells #[.int .i64 xk, .string xn, .int .i64 xs, .slice xr xn2 xc] 24)).heap[w.heap.size]? = some (.cells #[.int .i64 0, .string ⟨#[]⟩, .int .i64 0, .slice none 0 0] 24 (0, 0)) := (Below.heap_alloc _ _ _ (by have := hB5.size; simp only [World.size_alloc] at this; omega)).trans ((hB5.block _ (by simp)).trans HBX.out); have HI6 : Hid (IsIn (fun b => w.heap.size + 1 ≤ b ∧ b < w5.heap.size) (w5.alloc (.cells #[.int .i64 xk, .string xn, .int .i64 xs, .slice xr xn2 xc] 24)) t (.int .i64 xk) (.string xn) (.int .i64 xs) (.slice xr xn2 xc)) := Lib.hid (IsIn_carry (fun b hb => Below.heap_alloc _ _ _ hb.2) (fun b hb => ⟨by have := hb.1; simp only [World.size_alloc] at this; omega, hb.2⟩) _ _ _ _ _ (IsIn_lt _ _ _ _ _ hI)); have hx0 := heap_alloc_new w5 (.cells #[.int .i64 xk, .string xn, .int .i64 xs, .slice xr xn2 xc] 24); have HS5 : Hid (w.heap.size < w5.heap.size ∧ w5.heap.size < (w5.alloc (.cells #[.int .i64 xk, .string xn, .int .i64 xs, .slice xr xn2 xc] 24)).heap.size) := Lib.hid ⟨by have := hB5.size; simp only [World.size_alloc] at this; omega, by simp⟩; clear hB5 hI))
      generalize (w5.alloc (.cells #[.int .i64 xk, .string xn, .int .i64 xs, .slice xr xn2 xc] 24)) = w6 at HB6 hb0 HI6 hx0 HS5 ⊢
      have HW0 := Lib.hid hb0
      obtain ⟨⟨y0, y1, y2, y3⟩, _⟩ := box_facts hx0
      clear hb0 hx0
      go_wp2_with (go_at_call 54; refine (HV.out _ _ _ _ _ (IsIn_Is _ _ _ _ _ HI6.out)).mono ?_; rintro e w7 ⟨he, hB7⟩; subst he; have HB7 := Lib.hid hB7; have hb0 := (hB7.block w.heap.size (by have := HS5.out; omega)).trans HW0.out; clear hB7 y0 y1 y2 y3; obtain ⟨⟨m0, m1, m2, m3⟩, n0, n1, n2, n3⟩ := box_facts hb0; clear hb0)
      exact bodyPost_ret (v := .tuple #[.agg #[.int .i64 0, .string ⟨#[]⟩, .int .i64 0, .slice none 0 0], .int .i64 x]) (by simp [results, Tryz.results77, go_sem, m0, m1, m2, m3]) rfl (HZERO.out x _ HPE.out (put4_below (g := w.heap.size) (o := 0) (HB6.out.trans (HB7.out.mono (by have := HS5.out; omega))) (Nat.le_refl _)))
end Go.Proofs.YtbcpnepjojppaaaGreatDoor
