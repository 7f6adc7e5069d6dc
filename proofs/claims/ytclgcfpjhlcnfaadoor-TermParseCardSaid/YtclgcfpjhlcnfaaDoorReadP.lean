/-
  THE REFERENCE'S READER, PLAIN; it gives what the parser gives; a term that is read has the text that was read.
-/
import Derived.Test.YtclgcfpjhlcnfaaDoorRound
namespace Go.Proofs.YtclgcfpjhlcnfaaDoor
open Go.RowKit

def kidsR (rd : ByteArray → Option (Tm × ByteArray)) : Nat → Bool → ByteArray → Option (List Tm × ByteArray)
  | 0, _, _ => none
  | m + 1, first, s =>
    if preB s bClose then some ([], takeB s bClose)
    else if first = false ∧ preB s bComma = false then none
    else match rd (if first then s else takeB s bComma) with
      | none => none
      | some (x, r) => match kidsR rd m false r with
        | none => none
        | some (ks, r') => some (x :: ks, r')
/-- The longest part ahead that has a name's bytes alone. -/
def nameAny (s : ByteArray) : ByteArray := s.extract 0 (tailLen s.data.toList)
def wordR (w : ByteArray) : Option Int := if w = wAny then some 0 else if w = wAgent then some 1 else if w = wNonce then some 2 else if w = wKey then some 3 else if w = wData then some 4 else if w = wTag then some 5 else none
def leafR (var : Bool) (s : ByteArray) : Option (Int × ByteArray) :=
  if preB s bColon = false then (if var then some (0, s) else none)
  else match wordR (nameAny (takeB s bColon)) with
    | none => none
    | some k => if k = 0 ∧ var = true then none else some (k, (takeB s bColon).extract (nameAny (takeB s bColon)).size (takeB s bColon).size)
/-- One level of the reader. -/
def readN (rd : ByteArray → Option (Tm × ByteArray)) (s : ByteArray) : Option (Tm × ByteArray) :=
  if isNameB (nodeName s).data.toList = false then none
  else if preB s bQ then (match leafR true (nodeRest s) with
    | none => none
    | some (k, r) => some (.mk 1 (nodeName s) k [], r))
  else if preB (nodeRest s) bOpen = false then (match leafR false (nodeRest s) with
    | none => none
    | some (k, r) => some (.mk 2 (nodeName s) k [], r))
  else (match kidsR rd (s.size + 1) true (takeB (nodeRest s) bOpen) with
    | none => none
    | some (ks, r) => some (.mk 3 (nodeName s) 0 ks, r))
def readR : Nat → ByteArray → Option (Tm × ByteArray)
  | 0 => fun _ => none
  | d + 1 => readN (readR d)
theorem readR_zero (s : ByteArray) : readR 0 s = none := rfl
theorem readR_succ (d : Nat) (s : ByteArray) : readR (d + 1) s = readN (readR d) s := rfl
def refP (s : ByteArray) : Tm × Int := match readR 800 s with
  | none => (zeroT, 2)
  | some (t, r) => if r.size = 0 then (if validE t = 0 then (t, 0) else (zeroT, validE t)) else (zeroT, 2)

/- Words ahead. -/
theorem split_at (s : ByteArray) (k : Nat) (h : k ≤ s.size) : s = s.extract 0 k ++ s.extract k s.size := by
  rw [ByteArray.extract_append_extract]
  simp [Nat.min_eq_left, h]
theorem takeB_eq {s p : ByteArray} (h : preB s p = true) : s = p ++ takeB s p ∧ (takeB s p).size + p.size = s.size := by
  have h0 := h
  simp only [preB, Bool.and_eq_true, decide_eq_true_eq, beq_iff_eq, Lib.toList_data] at h
  have e : s.extract 0 p.size = p := ByteArray.ext (Array.toList_inj.1 h.2)
  unfold takeB
  rw [h0, if_pos rfl]
  refine ⟨?_, by rw [ByteArray.size_extract]; omega⟩
  conv => lhs; rw [split_at s p.size h.1]
  rw [e]

theorem node_split (s : ByteArray) : takeB s bQ = nodeName s ++ nodeRest s ∧ (nodeName s).size + (nodeRest s).size = (takeB s bQ).size := by
  have h := nameLen_le (takeB s bQ).data.toList
  have hl : (takeB s bQ).data.toList.length = (takeB s bQ).size := by simp
  have hs : (nodeName s).size = nameLen (takeB s bQ).data.toList := by
    unfold nodeName; rw [ByteArray.size_extract]; omega
  refine ⟨?_, ?_⟩
  · unfold nodeRest; rw [hs]; exact split_at _ _ (by omega)
  · unfold nodeRest; rw [ByteArray.size_extract]; omega
theorem name_pos {n : ByteArray} (h : isNameB n.data.toList = true) : 1 ≤ n.size := by
  simp only [isNameB, Bool.and_eq_true, decide_eq_true_eq] at h
  have hl : n.data.toList.length = n.size := by simp
  omega

theorem tail_split : ∀ l : List UInt8, tailLen (l.drop (tailLen l)) = 0
  | [] => by simp [tailLen]
  | c :: r => by
    simp only [tailLen]
    split
    · rw [Nat.add_comm, List.drop_succ_cons]; exact tail_split r
    · split
      · rw [Nat.add_comm, List.drop_succ_cons]; exact tail_split r
      · rename_i a b; simp [tailLen, a, b]
theorem nameAny_split (s : ByteArray) : s = nameAny s ++ s.extract (nameAny s).size s.size ∧ tailLen (s.extract (nameAny s).size s.size).data.toList = 0 := by
  have h := tailLen_le s.data.toList
  have hl : s.data.toList.length = s.size := by simp
  have hs : (nameAny s).size = tailLen s.data.toList := by
    unfold nameAny; rw [ByteArray.size_extract]; omega
  rw [hs]
  refine ⟨split_at _ _ (by omega), ?_⟩
  have e : (s.extract (tailLen s.data.toList) s.size).data.toList = s.data.toList.drop (tailLen s.data.toList) := by
    rw [ByteArray.data_extract, Array.toList_extract, List.extract_eq_take_drop]
    exact List.take_of_length_le (by rw [List.length_drop]; omega)
  rw [e]; exact tail_split _
/-- A word with a name's bytes alone, and what does not go on with one. -/
theorem nameAny_app (w r : ByteArray) (hw : tailLen w.data.toList = w.data.toList.length) (hr : tailLen r.data.toList = 0) : nameAny (w ++ r) = w := by
  unfold nameAny
  rw [data_app, tailLen_app _ _ hw hr, ByteArray.extract_append_eq_left (by simp)]
theorem wordB_tail (s : Int) (h : 0 ≤ s ∧ s ≤ 5) : tailLen (wordB s).data.toList = (wordB s).data.toList.length := by
  have hc : s = 0 ∨ s = 1 ∨ s = 2 ∨ s = 3 ∨ s = 4 ∨ s = 5 := by omega
  rcases hc with rfl | rfl | rfl | rfl | rfl | rfl <;> decide
theorem wordR_some {w : ByteArray} {k : Int} (h : wordR w = some k) : (0 ≤ k ∧ k ≤ 5) ∧ w = wordB k := by
  unfold wordR at h
  repeat' split at h
  all_goals (first | (cases h; done) | (cases h; refine ⟨by omega, ?_⟩; assumption))
theorem wordR_word (k : Int) (h : 0 ≤ k ∧ k ≤ 5) : wordR (wordB k) = some k := by
  have hc : k = 0 ∨ k = 1 ∨ k = 2 ∨ k = 3 ∨ k = 4 ∨ k = 5 := by omega
  rcases hc with rfl | rfl | rfl | rfl | rfl | rfl <;> decide

/-- What the program's list of words finds. -/
theorem sortP_some (s : ByteArray) (h : (sortP s 0 sortW).2.1 = true) : (0 ≤ (sortP s 0 sortW).1 ∧ (sortP s 0 sortW).1 ≤ 5) ∧ s = wordB (sortP s 0 sortW).1 ++ (sortP s 0 sortW).2.2 := by
  simp only [sortP, sortW] at h ⊢
  split
  · rename_i a; exact ⟨by simp, (takeB_eq a).1⟩
  rename_i a; rw [if_neg a] at h
  split
  · rename_i a; exact ⟨by simp, (takeB_eq a).1⟩
  rename_i a; rw [if_neg a] at h
  split
  · rename_i a; exact ⟨by simp, (takeB_eq a).1⟩
  rename_i a; rw [if_neg a] at h
  split
  · rename_i a; exact ⟨by simp, (takeB_eq a).1⟩
  rename_i a; rw [if_neg a] at h
  split
  · rename_i a; exact ⟨by simp, (takeB_eq a).1⟩
  rename_i a; rw [if_neg a] at h
  split
  · rename_i a; exact ⟨by simp, (takeB_eq a).1⟩
  rename_i a; rw [if_neg a] at h
  cases h
/-- The sort of a leaf: the reference's, and the program's. -/
theorem word_some {s : ByteArray} {k : Int} (hw : wordR (nameAny s) = some k) : sortP s 0 sortW = (k, true, s.extract (nameAny s).size s.size) := by
  have hsp := nameAny_split s
  obtain ⟨hk, he⟩ := wordR_some hw
  have := sortP_word k hk (s.extract (nameAny s).size s.size)
  rw [← he, ← hsp.1] at this
  exact this
theorem word_none {s : ByteArray} (hw : wordR (nameAny s) = none) (h : (sortP s 0 sortW).2.1 = true) : tailLen (sortP s 0 sortW).2.2.data.toList ≠ 0 := by
  intro ht
  obtain ⟨hk, he⟩ := sortP_some s h
  have : nameAny s = wordB (sortP s 0 sortW).1 := by
    conv => lhs; rw [he]
    exact nameAny_app _ _ (wordB_tail _ hk) ht
  rw [this, wordR_word _ hk] at hw
  cases hw

/- The parser's rounds, whatever the fuel. -/
theorem runP_fuel : ∀ (n m : Nat) (st : List (ByteArray × List Tm)) (rest : ByteArray) (nodes : Int) (large : Bool), rest.size < n → rest.size < m → runP n st rest nodes large = runP m st rest nodes large
  | 0, _, _, _, _, _, h, _ => by omega
  | _ + 1, 0, _, _, _, _, _, h => by omega
  | n + 1, m + 1, st, rest, nodes, large, h1, h2 => by
    simp only [runP]
    have hsz := nextP_size st rest (nodes + 1) large
    generalize nextP st rest (nodes + 1) large = R at hsz ⊢
    obtain ⟨ok, rest2, st2, large2, root⟩ := R
    cases ok with
    | false => rfl
    | true =>
      have := hsz rfl
      simp only at this ⊢
      cases root with
      | some u => rfl
      | none => exact runP_fuel n m _ _ _ _ (by omega) (by omega)
def runS (st : List (ByteArray × List Tm)) (rest : ByteArray) (nodes : Int) (large : Bool) : Option (ByteArray × Bool × Tm) := runP (rest.size + 1) st rest nodes large
def afterS (nodes : Int) (R : Bool × ByteArray × List (ByteArray × List Tm) × Bool × Option Tm) : Option (ByteArray × Bool × Tm) :=
  if R.1 = false then none else match R.2.2.2.2 with
    | some u => some (R.2.1, R.2.2.2.1, u)
    | none => runS R.2.2.1 R.2.1 nodes R.2.2.2.1
theorem runS_eq (st : List (ByteArray × List Tm)) (rest : ByteArray) (nodes : Int) (large : Bool) : runS st rest nodes large = afterS (nodes + 1) (nextP st rest (nodes + 1) large) := by
  unfold runS
  simp only [runP, afterS]
  have hsz := nextP_size st rest (nodes + 1) large
  generalize nextP st rest (nodes + 1) large = R at hsz ⊢
  obtain ⟨ok, rest2, st2, large2, root⟩ := R
  cases ok with
  | false => rfl
  | true =>
    have := hsz rfl
    simp only at this ⊢
    cases root with
    | some u => rfl
    | none => exact runP_fuel _ _ _ _ _ _ (by omega) (by omega)

/- Fewer bytes than brackets that are open: no text. -/
theorem endP_short : ∀ (st : List (ByteArray × List Tm)) (rest : ByteArray) (large : Bool) (t : Tm), rest.size < st.length → (endP st rest large t).1 = true → (endP st rest large t).2.2.2.2 = none ∧ (endP st rest large t).2.1.size < (endP st rest large t).2.2.1.length
  | [], _, _, _, h, _ => by simp at h
  | (n, ks) :: st, rest, large, t, h, hok => by
    rw [endP] at hok ⊢
    simp only [List.length_cons] at h
    split
    · rename_i a
      have := (takeB_eq a).2
      have hc : bComma.size = 2 := rfl
      exact ⟨rfl, by simp only [List.length_cons]; omega⟩
    · rename_i a; rw [if_neg a] at hok
      split
      · rename_i b; rw [if_pos b] at hok
        have := (takeB_eq b).2
        have hc : bClose.size = 1 := rfl
        exact endP_short st _ _ _ (by omega) hok
      · rename_i b; rw [if_neg b] at hok; cases hok
theorem node_short {s : ByteArray} (h : (nodeP s).2.2.2.1 = true) : (nodeP s).2.2.2.2.size + (if (nodeP s).1 = 3 then 2 else 1) ≤ s.size := by
  have h1 := takeB_size s bQ
  have h2 := node_split s
  unfold nodeP at h ⊢
  split at h
  · cases h
  rename_i hn
  have hn' : isNameB (nodeName s).data.toList = true := by simpa using hn
  have hp := name_pos hn'
  rw [if_neg hn]
  split
  · have := vsortP_size (nodeRest s); simp; omega
  · rename_i a; rw [if_neg a] at h
    split
    · rename_i b
      have := (takeB_eq b).2
      have ho : bOpen.size = 1 := rfl
      simp; omega
    · rename_i b; rw [if_neg b] at h
      split
      · rename_i c; rw [if_pos c] at h; cases h
      · have h8 := takeB_size (nodeRest s) bColon
        have h9 := sortP_size (takeB (nodeRest s) bColon) sortW 0
        simp; omega
theorem short_none : ∀ (f : Nat) (st : List (ByteArray × List Tm)) (rest : ByteArray) (nodes : Int) (large : Bool), rest.size < st.length → runP f st rest nodes large = none
  | 0, _, _, _, _, _ => rfl
  | f + 1, st, rest, nodes, large, h => by
    simp only [runP]
    by_cases hok : (nextP st rest (nodes + 1) large).1 = false
    · rw [if_pos hok]
    have hok' : (nextP st rest (nodes + 1) large).1 = true := by simpa using hok
    rw [if_neg hok]
    have key : (nextP st rest (nodes + 1) large).2.2.2.2 = none ∧ (nextP st rest (nodes + 1) large).2.1.size < (nextP st rest (nodes + 1) large).2.2.1.length := by
      unfold nextP at hok' ⊢
      split at hok'
      · cases hok'
      rename_i hn
      have hn' : (nodeP rest).2.2.2.1 = true := by simpa using hn
      have hsh := node_short hn'
      rw [if_neg hn]
      split
      · rename_i a
        rw [if_pos a.1] at hsh
        exact ⟨rfl, by simp only [List.length_cons]; omega⟩
      · rename_i a
        rw [if_neg a] at hok'
        refine endP_short _ _ _ _ ?_ hok'
        have h1 : (if (nodeP rest).1 = 3 then takeB (nodeP rest).2.2.2.2 bClose else (nodeP rest).2.2.2.2).size ≤ (nodeP rest).2.2.2.2.size := by
          split
          · exact takeB_size _ _
          · exact Nat.le_refl _
        omega
    rw [key.1]
    exact short_none f _ _ _ _ key.2

/- Limits. -/
mutual
def wide : Tm → Bool
  | .mk _ _ _ ks => decide (8 < ks.length) || wideL ks
def wideL : List Tm → Bool
  | [] => false
  | t :: ts => wide t || wideL ts
end
def over (L : Nat) (nd : Int) (t : Tm) : Bool := decide (400 < nd + size t) || decide (40 < L + depth t) || wide t
def overL (L : Nat) (nd : Int) : List Tm → Bool
  | [] => false
  | t :: ts => over L nd t || overL L (nd + size t) ts
theorem overL_iff : ∀ (ks : List Tm) (L : Nat) (nd : Int), overL L nd ks = true ↔ (ks ≠ [] ∧ (400 < nd + sizes ks ∨ 40 < L + depths ks)) ∨ wideL ks = true
  | [], L, nd => by simp [overL, wideL]
  | t :: ts, L, nd => by
    have ih := overL_iff ts L (nd + size t)
    simp only [overL, over, wideL, Bool.or_eq_true, decide_eq_true_eq, ih, sizes, depths]
    cases ts with
    | nil => simp [sizes, depths, wideL]
    | cons u us =>
      have hp := size_pos u
      simp only [sizes, depths, ne_eq, reduceCtorEq, not_false_eq_true, true_and]
      have : ((size t + (size u + sizes us) : Nat) : Int) = size t + ((size u + sizes us : Nat) : Int) := by omega
      constructor
      · rintro (((h | h) | h) | (h | h) | h)
        · left; left; omega
        · left; right; omega
        · right; left; exact h
        · left; left; omega
        · left; right; omega
        · right; right; exact h
      · rintro ((h | h) | h | h)
        · right; left; left; omega
        · by_cases hd : 40 < L + depth t
          · left; left; right; exact hd
          · right; left; right; omega
        · left; right; exact h
        · right; right; exact h
theorem over_iff (L : Nat) (nd : Int) (t : Tm) : over L nd t = true ↔ (400 < nd + size t ∨ 40 < L + depth t) ∨ wide t = true := by
  simp only [over, Bool.or_eq_true, decide_eq_true_eq]
theorem over_app (L : Nat) (nd : Int) (n : ByteArray) (x : Tm) (ks : List Tm) (large : Bool) :
    ((((large || decide (400 < nd + 1) || decide (40 ≤ L)) || over (L + 1) (nd + 1) x) || overL (L + 1) (nd + 1 + size x) ks) || decide (8 < (x :: ks).length)) = (large || over L nd (.mk 3 n 0 (x :: ks))) := by
  have e : (over (L + 1) (nd + 1) x || overL (L + 1) (nd + 1 + size x) ks) = overL (L + 1) (nd + 1) (x :: ks) := rfl
  have h := overL_iff (x :: ks) (L + 1) (nd + 1)
  rw [Bool.or_assoc (large || decide (400 < nd + 1) || decide (40 ≤ L)), e]
  rw [Bool.eq_iff_iff]
  simp only [Bool.or_eq_true, decide_eq_true_eq, h, over_iff, ne_eq, reduceCtorEq, not_false_eq_true, true_and]
  have e4 : ((size (.mk 3 n 0 (x :: ks)) : Nat) : Int) = 1 + (sizes (x :: ks) : Nat) := by simp only [size]; omega
  have e5 : depth (.mk 3 n 0 (x :: ks)) = depths (x :: ks) + 1 := rfl
  have e6 : wide (.mk 3 n 0 (x :: ks)) = true ↔ 8 < (x :: ks).length ∨ wideL (x :: ks) = true := by simp only [wide, Bool.or_eq_true, decide_eq_true_eq]
  rw [e4, e5, e6]
  have hp := size_pos x
  have e2 : sizes (x :: ks) = size x + sizes ks := rfl
  have e3 : ((1 + sizes (x :: ks) : Nat) : Int) = 1 + (sizes (x :: ks) : Nat) := by omega
  have hl : (0:Nat) < (x :: ks).length := by simp
  constructor
  · rintro ((((h | h) | h) | (h | h) | h) | h)
    · left; exact h
    · right; left; left; omega
    · right; left; right; omega
    · right; left; left; omega
    · right; left; right; omega
    · right; right; right; exact h
    · right; right; left; exact h
  · rintro (h | (h | h) | h | h)
    · left; left; left; left; exact h
    · left; right; left; left; omega
    · left; right; left; right; omega
    · right; exact h
    · left; right; right; exact h
theorem over_leaf (L : Nat) (nd k s : Int) (n : ByteArray) (large : Bool) : (large || decide (400 < nd + 1) || decide (40 ≤ L)) = (large || over L nd (.mk k n s [])) := by
  have e : over L nd (.mk k n s []) = (decide (400 < nd + 1) || decide (40 ≤ L)) := by
    rw [Bool.eq_iff_iff, over_iff]
    have e4 : size (.mk k n s []) = 1 := rfl
    have e5 : depth (.mk k n s []) = 1 := rfl
    have e6 : wide (.mk k n s []) = false := rfl
    rw [e4, e5, e6, Bool.or_eq_true, decide_eq_true_eq, decide_eq_true_eq]
    constructor
    · rintro ((h | h) | h)
      · left; omega
      · right; omega
      · cases h
    · rintro (h | h)
      · left; left; omega
      · left; right; omega
  rw [e, Bool.or_assoc]

/-- What goes on with a name's byte ends no text. -/
theorem bad_rest (st : List (ByteArray × List Tm)) (r : ByteArray) (nodes : Int) (large : Bool) (t : Tm) (h : tailLen r.data.toList ≠ 0) : finP (afterS nodes (endP st r large t)) = (zeroT, 2) := by
  have hne : ∃ c l, r.data.toList = c :: l ∧ (letterI c.toNat = true ∨ laterI c.toNat = true) := by
    cases hr : r.data.toList with
    | nil => rw [hr] at h; simp [tailLen] at h
    | cons c l =>
      refine ⟨c, l, rfl, ?_⟩
      rw [hr] at h
      simp only [tailLen] at h
      by_cases h1 : letterI c.toNat = true
      · exact Or.inl h1
      · by_cases h2 : laterI c.toNat = true
        · exact Or.inr h2
        · rw [if_neg h1, if_neg h2] at h; omega
  obtain ⟨c, l, hr, hc⟩ := hne
  cases st with
  | nil =>
    simp only [endP, afterS, Bool.true_eq_false, if_false, finP]
    rw [if_pos]
    rw [Lib.toList_data, hr]; rfl
  | cons f st =>
    obtain ⟨n, ks⟩ := f
    have h1 : preB r bComma = false := preB_no (by
      rw [hr]; intro hp
      simp only [bComma, List.cons_prefix_cons] at hp
      rw [← hp.1] at hc; revert hc; decide)
    have h2 : preB r bClose = false := preB_no (by
      rw [hr]; intro hp
      simp only [bClose, List.cons_prefix_cons] at hp
      rw [← hp.1] at hc; revert hc; decide)
    rw [endP, if_neg (by rw [h1]; simp), if_neg (by rw [h2]; simp)]
    simp [afterS, finP]

/-- The parser and the reader. -/
def Sim (d : Nat) : Prop := ∀ (s : ByteArray) (st : List (ByteArray × List Tm)) (nodes : Int) (large : Bool), st.length + d = 800 → s.size + 2 * st.length ≤ 2000 →
  (readR d s = none → finP (runS st s nodes large) = (zeroT, 2)) ∧
  (∀ t r, readR d s = some (t, r) → finP (runS st s nodes large) = finP (afterS (nodes + size t) (endP st r (large || over st.length nodes t) t)))

theorem leaf_size {v : Bool} {s r : ByteArray} {k : Int} (h : leafR v s = some (k, r)) : r.size ≤ s.size := by
  unfold leafR at h
  split at h
  · split at h
    · cases h; exact Nat.le_refl _
    · cases h
  · split at h
    · cases h
    · split at h
      · cases h
      · cases h
        have := takeB_size s bColon
        rw [ByteArray.size_extract]; omega
theorem kids_size {rd : ByteArray → Option (Tm × ByteArray)} (hrd : ∀ s t r, rd s = some (t, r) → r.size ≤ s.size) : ∀ (m : Nat) (first : Bool) (s : ByteArray) (ks : List Tm) (r : ByteArray), kidsR rd m first s = some (ks, r) → r.size ≤ s.size
  | 0, _, _, _, _, h => by cases h
  | m + 1, first, s, ks, r, h => by
    simp only [kidsR] at h
    split at h
    · cases h; exact takeB_size _ _
    split at h
    · cases h
    split at h
    · cases h
    rename_i x r1 hx
    split at h
    · cases h
    rename_i ks1 r2 hk
    cases h
    have h1 := hrd _ _ _ hx
    have h2 := kids_size hrd m false r1 ks1 _ hk
    have h3 : (if first = true then s else takeB s bComma).size ≤ s.size := by
      split
      · exact Nat.le_refl _
      · exact takeB_size _ _
    omega
set_option maxHeartbeats 1000000 in
theorem readR_size (d : Nat) : ∀ (s : ByteArray) (t : Tm) (r : ByteArray), readR d s = some (t, r) → r.size < s.size := by
  induction d with
  | zero => intro s t r h; rw [readR_zero] at h; exact absurd h (by simp)
  | succ d ih =>
    intro s t r h
    rw [readR_succ, readN] at h
    have h1 := takeB_size s bQ
    have h2 := node_split s
    by_cases hn : isNameB (nodeName s).data.toList = false
    · rw [if_pos hn] at h; exact absurd h (by simp)
    rw [if_neg hn] at h
    have hp := name_pos (n := nodeName s) (by simpa using hn)
    by_cases hq : preB s bQ = true
    · rw [if_pos hq] at h
      cases hl : leafR true (nodeRest s) with
      | none => rw [hl] at h; exact absurd h (by simp)
      | some p =>
        obtain ⟨k, r1⟩ := p
        rw [hl] at h
        simp only [Option.some.injEq, Prod.mk.injEq] at h
        have := leaf_size hl
        rw [← h.2]; omega
    rw [if_neg hq] at h
    by_cases ho : preB (nodeRest s) bOpen = false
    · rw [if_pos ho] at h
      cases hl : leafR false (nodeRest s) with
      | none => rw [hl] at h; exact absurd h (by simp)
      | some p =>
        obtain ⟨k, r1⟩ := p
        rw [hl] at h
        simp only [Option.some.injEq, Prod.mk.injEq] at h
        have := leaf_size hl
        rw [← h.2]; omega
    rw [if_neg ho] at h
    generalize s.size + 1 = m at h
    cases hk : kidsR (readR d) m true (takeB (nodeRest s) bOpen) with
    | none => rw [hk] at h; exact absurd h (by simp)
    | some p =>
      obtain ⟨ks, r1⟩ := p
      rw [hk] at h
      simp only [Option.some.injEq, Prod.mk.injEq] at h
      have h3 := kids_size (fun s t r h => Nat.le_of_lt (ih s t r h)) _ _ _ _ _ hk
      have h4 := takeB_size (nodeRest s) bOpen
      rw [← h.2]; omega

theorem flag_step (large : Bool) (L : Nat) (nodes : Int) (x y : Tm) (acc ks : List Tm) :
    ((((large || decide (8 < (acc ++ [x]).length)) || over L nodes y) || overL L (nodes + size y) ks) || decide (8 < (acc ++ x :: y :: ks).length)) = ((large || overL L nodes (y :: ks)) || decide (8 < (acc ++ x :: y :: ks).length)) := by
  rw [Bool.eq_iff_iff]
  simp only [overL, Bool.or_eq_true, decide_eq_true_eq, List.length_append, List.length_cons, List.length_nil]
  constructor
  · rintro ((((h | h) | h) | h) | h)
    · left; left; exact h
    · right; omega
    · left; right; left; exact h
    · left; right; right; exact h
    · right; exact h
  · rintro ((h | h | h) | h)
    · left; left; left; left; exact h
    · left; left; right; exact h
    · left; right; exact h
    · right; exact h
theorem kidsR_succ (rd : ByteArray → Option (Tm × ByteArray)) (m : Nat) (s : ByteArray) (hcl : preB s bClose = false) (hc : preB s bComma = true) :
    kidsR rd (m + 1) false s = (match rd (takeB s bComma) with
      | none => none
      | some (x, r) => match kidsR rd m false r with
        | none => none
        | some (ks, r') => some (x :: ks, r')) := by
  rw [kidsR, if_neg (by rw [hcl]; simp), if_neg (by rw [hc]; simp)]
  simp only [Bool.false_eq_true, if_false]
theorem kids_sim (d : Nat) (hS : Sim d) (m : Nat) : ∀ (r : ByteArray) (acc : List Tm) (x : Tm) (nodes : Int) (large : Bool) (st : List (ByteArray × List Tm)) (n : ByteArray), r.size < m → st.length + 1 + d = 800 → r.size + 2 * (st.length + 1) ≤ 2000 →
    (kidsR (readR d) m false r = none → finP (afterS nodes (endP ((n, acc) :: st) r large x)) = (zeroT, 2)) ∧
    (∀ ks r', kidsR (readR d) m false r = some (ks, r') → finP (afterS nodes (endP ((n, acc) :: st) r large x)) = finP (afterS (nodes + sizes ks) (endP st r' ((large || overL (st.length + 1) nodes ks) || decide (8 < (acc ++ x :: ks).length)) (.mk 3 n 0 (acc ++ x :: ks))))) := by
  induction m with
  | zero => intro r acc x nodes large st n h; omega
  | succ m ih =>
    intro r acc x nodes large st n h hd hb
    by_cases hc : preB r bComma = true
    · have hcl : preB r bClose = false := preB_no (by
        intro hp
        have := preB_prefix hc
        obtain ⟨q, hq⟩ := this
        rw [← hq] at hp
        simp [bComma, bClose] at hp)
      have hsz := (takeB_eq hc).2
      have hc2 : bComma.size = 2 := rfl
      rw [kidsR_succ (readR d) m r hcl hc]
      have hA : afterS nodes (endP ((n, acc) :: st) r large x) = runS ((n, acc ++ [x]) :: st) (takeB r bComma) nodes (large || decide (8 < (acc ++ [x]).length)) := by
        rw [endP, if_pos hc]; simp only [afterS, Bool.true_eq_false, if_false]
      rw [hA]
      have h1 := hS (takeB r bComma) ((n, acc ++ [x]) :: st) nodes (large || decide (8 < (acc ++ [x]).length)) (by simp only [List.length_cons]; omega) (by simp only [List.length_cons]; omega)
      have hrs := readR_size d (takeB r bComma)
      generalize readR d (takeB r bComma) = X at h1 hrs
      cases X with
      | none => exact ⟨fun _ => h1.1 rfl, fun ks r' h => by simp at h⟩
      | some p =>
        obtain ⟨y, r2⟩ := p
        have hr2 := hrs y r2 rfl
        rw [h1.2 y r2 rfl]
        have h2 := ih r2 (acc ++ [x]) y (nodes + size y) ((large || decide (8 < (acc ++ [x]).length)) || over ((n, acc ++ [x]) :: st).length nodes y) st n (by omega) hd (by omega)
        simp only
        generalize kidsR (readR d) m false r2 = Y at h2
        cases Y with
        | none => exact ⟨fun _ => h2.1 rfl, fun ks r' h => by simp at h⟩
        | some q =>
          obtain ⟨ks, r3⟩ := q
          refine ⟨fun h => by simp at h, fun ks' r' h => ?_⟩
          simp only [Option.some.injEq, Prod.mk.injEq] at h
          obtain ⟨rfl, rfl⟩ := h
          rw [h2.2 ks r3 rfl]
          have e1 : acc ++ [x] ++ y :: ks = acc ++ x :: y :: ks := by simp
          have e2 : nodes + (size y : Int) + (sizes ks : Int) = nodes + ((sizes (y :: ks) : Nat) : Int) := by simp only [sizes]; omega
          have e3 := flag_step large (st.length + 1) nodes x y acc ks
          have e4 : ((n, acc ++ [x]) :: st).length = st.length + 1 := rfl
          rw [e1, e2, e4, e3]
    · have hc' : preB r bComma = false := by simpa using hc
      by_cases hcl : preB r bClose = true
      · rw [kidsR, if_pos hcl]
        refine ⟨fun h => by simp at h, fun ks r' h => ?_⟩
        simp only [Option.some.injEq, Prod.mk.injEq] at h
        obtain ⟨rfl, rfl⟩ := h
        rw [endP, if_neg hc, if_pos hcl]
        simp only [overL, sizes, Bool.or_false]
        rw [show nodes + ((0 : Nat) : Int) = nodes from by omega]
      · rw [kidsR, if_neg hcl, if_pos ⟨rfl, hc'⟩]
        refine ⟨fun _ => ?_, fun ks r' h => by simp at h⟩
        rw [endP, if_neg hc, if_neg hcl]
        simp only [afterS, if_true, finP]

/- The leaves. -/
theorem leafR_none (v : Bool) {s : ByteArray} (h : preB s bColon = false) : leafR v s = if v then some (0, s) else none := by unfold leafR; rw [if_pos h]
theorem leafR_word (v : Bool) {s : ByteArray} (h : preB s bColon = true) {k : Int} (hw : wordR (nameAny (takeB s bColon)) = some k) : leafR v s = if k = 0 ∧ v = true then none else some (k, (takeB s bColon).extract (nameAny (takeB s bColon)).size (takeB s bColon).size) := by
  unfold leafR; rw [if_neg (by rw [h]; simp), hw]
theorem leafR_wrong (v : Bool) {s : ByteArray} (h : preB s bColon = true) (hw : wordR (nameAny (takeB s bColon)) = none) : leafR v s = none := by
  unfold leafR; rw [if_neg (by rw [h]; simp), hw]
theorem vsortP_none {s : ByteArray} (h : preB s bColon = false) : vsortP s = (0, true, s) := by unfold vsortP; rw [if_neg (by rw [h]; simp)]
theorem vsortP_some {s : ByteArray} (h : preB s bColon = true) : vsortP s = ((sortP (takeB s bColon) 0 sortW).1, (sortP (takeB s bColon) 0 sortW).2.1 && ((sortP (takeB s bColon) 0 sortW).1 != 0), (sortP (takeB s bColon) 0 sortW).2.2) := by unfold vsortP; rw [if_pos h]
theorem var_both (s : ByteArray) : (∀ k r, leafR true s = some (k, r) → vsortP s = (k, true, r)) ∧ (leafR true s = none → (vsortP s).2.1 = true → tailLen (vsortP s).2.2.data.toList ≠ 0) := by
  cases hcol : preB s bColon with
  | false =>
    rw [leafR_none true hcol, vsortP_none hcol]
    refine ⟨fun k r h => ?_, fun h => by simp at h⟩
    simp only [if_true, Option.some.injEq, Prod.mk.injEq] at h
    rw [← h.1, ← h.2]
  | true =>
    rw [vsortP_some hcol]
    cases hwr : wordR (nameAny (takeB s bColon)) with
    | some k =>
      rw [leafR_word true hcol hwr, word_some hwr]
      by_cases hk : k = 0
      · rw [if_pos ⟨hk, rfl⟩]
        exact ⟨fun k r h => by simp at h, fun _ h => by simp [hk] at h⟩
      · rw [if_neg (fun a => hk a.1)]
        refine ⟨fun k r h => ?_, fun h => by simp at h⟩
        simp only [Option.some.injEq, Prod.mk.injEq] at h
        rw [← h.1, ← h.2]
        simp [hk]
    | none =>
      rw [leafR_wrong true hcol hwr]
      refine ⟨fun k r h => by simp at h, fun _ h => ?_⟩
      simp only [Bool.and_eq_true] at h
      exact word_none hwr h.1
theorem atom_both (s : ByteArray) : (∀ k r, leafR false s = some (k, r) → preB s bColon = true ∧ sortP (takeB s bColon) 0 sortW = (k, true, r)) ∧ (leafR false s = none → preB s bColon = true → (sortP (takeB s bColon) 0 sortW).2.1 = true → tailLen (sortP (takeB s bColon) 0 sortW).2.2.data.toList ≠ 0) := by
  cases hcol : preB s bColon with
  | false =>
    rw [leafR_none false hcol]
    exact ⟨fun k r h => by simp at h, fun _ h => by simp at h⟩
  | true =>
    cases hwr : wordR (nameAny (takeB s bColon)) with
    | some k =>
      rw [leafR_word false hcol hwr, word_some hwr, if_neg (by simp)]
      refine ⟨fun k r h => ?_, fun h => by simp at h⟩
      simp only [Option.some.injEq, Prod.mk.injEq] at h
      rw [← h.1, ← h.2]
      exact ⟨rfl, rfl⟩
    | none =>
      rw [leafR_wrong false hcol hwr]
      exact ⟨fun k r h => by simp at h, fun _ _ h => word_none hwr h⟩

theorem next_fails {s : ByteArray} (st : List (ByteArray × List Tm)) (nodes : Int) (large : Bool) (h : (nodeP s).2.2.2.1 = false) : finP (afterS nodes (nextP st s nodes large)) = (zeroT, 2) := by
  rw [nextP, if_pos h]
  simp only [afterS, if_true, finP]
theorem next_leaf {s n r : ByteArray} {k v : Int} (st : List (ByteArray × List Tm)) (nodes : Int) (large : Bool) (h : nodeP s = (k, n, v, true, r)) (hk : ¬ k = 3) :
    finP (afterS (nodes + 1) (nextP st s (nodes + 1) large)) = finP (afterS (nodes + size (.mk k n v [])) (endP st r (large || over st.length nodes (.mk k n v [])) (.mk k n v []))) := by
  have e : nextP st s (nodes + 1) large = endP st r (large || over st.length nodes (.mk k n v [])) (.mk k n v []) := by
    rw [nextP, h]
    simp only [Bool.true_eq_false, if_false]
    rw [if_neg (fun a => hk a.1), if_neg hk, over_leaf st.length nodes k v n large]
  have e2 : size (.mk k n v []) = 1 := rfl
  rw [e, e2]
  rfl

/- One level of the reader, its ways. -/
theorem readN_no (rd : ByteArray → Option (Tm × ByteArray)) {s : ByteArray} (hn : isNameB (nodeName s).data.toList = false) : readN rd s = none := by unfold readN; rw [if_pos hn]
theorem readN_leaf (rd : ByteArray → Option (Tm × ByteArray)) {s : ByteArray} (v : Bool) (hn : isNameB (nodeName s).data.toList = true) (hq : preB s bQ = v) (ho : v = false → preB (nodeRest s) bOpen = false) :
    readN rd s = (leafR v (nodeRest s)).map fun p => (.mk (if v then 1 else 2) (nodeName s) p.1 [], p.2) := by
  unfold readN
  rw [if_neg (by rw [hn]; simp)]
  cases v with
  | true =>
    rw [if_pos hq]
    cases leafR true (nodeRest s) <;> rfl
  | false =>
    rw [if_neg (by rw [hq]; simp), if_pos (ho rfl)]
    cases leafR false (nodeRest s) <;> rfl
theorem readN_app (rd : ByteArray → Option (Tm × ByteArray)) {s : ByteArray} (hn : isNameB (nodeName s).data.toList = true) (hq : preB s bQ = false) (ho : preB (nodeRest s) bOpen = true) :
    readN rd s = (kidsR rd (s.size + 1) true (takeB (nodeRest s) bOpen)).map fun p => (.mk 3 (nodeName s) 0 p.1, p.2) := by
  unfold readN
  rw [if_neg (by rw [hn]; simp), if_neg (by rw [hq]; simp), if_neg (by rw [ho]; simp)]
  cases kidsR rd (s.size + 1) true (takeB (nodeRest s) bOpen) <;> rfl
theorem kidsR_first (rd : ByteArray → Option (Tm × ByteArray)) (m : Nat) (s : ByteArray) (hcl : preB s bClose = false) :
    kidsR rd (m + 1) true s = (match rd s with
      | none => none
      | some (x, r) => match kidsR rd m false r with
        | none => none
        | some (ks, r') => some (x :: ks, r')) := by
  rw [kidsR, if_neg (by rw [hcl]; simp), if_neg (by simp)]
  simp only [if_true]

theorem sim_app (d : Nat) (hS : Sim d) (s : ByteArray) (st : List (ByteArray × List Tm)) (nodes : Int) (large : Bool) (hd : st.length + (d + 1) = 800) (hb : s.size + 2 * st.length ≤ 2000)
    (hn : isNameB (nodeName s).data.toList = true) (hq : preB s bQ = false) (ho : preB (nodeRest s) bOpen = true) :
    (kidsR (readR d) (s.size + 1) true (takeB (nodeRest s) bOpen) = none → finP (afterS (nodes + 1) (nextP st s (nodes + 1) large)) = (zeroT, 2)) ∧
    (∀ ks r, kidsR (readR d) (s.size + 1) true (takeB (nodeRest s) bOpen) = some (ks, r) → finP (afterS (nodes + 1) (nextP st s (nodes + 1) large)) = finP (afterS (nodes + size (.mk 3 (nodeName s) 0 ks)) (endP st r (large || over st.length nodes (.mk 3 (nodeName s) 0 ks)) (.mk 3 (nodeName s) 0 ks)))) := by
  have h1 := takeB_size s bQ
  have h2 := node_split s
  have hp := name_pos hn
  have hN : nodeP s = (3, nodeName s, 0, true, takeB (nodeRest s) bOpen) := by
    unfold nodeP; rw [if_neg (by rw [hn]; simp), if_neg (by rw [hq]; simp), if_pos ho]
  have hsz := (takeB_eq ho).2
  have ho1 : bOpen.size = 1 := rfl
  generalize hrest : takeB (nodeRest s) bOpen = rest at hN hsz ⊢
  generalize hm : s.size = m at h1 hb ⊢
  cases hcl : preB rest bClose with
  | true =>
    rw [kidsR, if_pos hcl]
    refine ⟨fun h => by simp at h, fun ks r h => ?_⟩
    simp only [Option.some.injEq, Prod.mk.injEq] at h
    obtain ⟨rfl, rfl⟩ := h
    have e : nextP st s (nodes + 1) large = endP st (takeB rest bClose) (large || over st.length nodes (.mk 3 (nodeName s) 0 [])) (.mk 3 (nodeName s) 0 []) := by
      rw [nextP, hN]
      simp only [Bool.true_eq_false, if_false]
      rw [if_neg (by rw [hcl]; simp), over_leaf st.length nodes 3 0 (nodeName s) large]
      simp only [if_true]
    have e2 : size (.mk 3 (nodeName s) 0 []) = 1 := rfl
    rw [e, e2]
    rfl
  | false =>
    rw [kidsR_first _ _ _ hcl]
    have hA : afterS (nodes + 1) (nextP st s (nodes + 1) large) = runS ((nodeName s, []) :: st) rest (nodes + 1) (large || decide (400 < nodes + 1) || decide (40 ≤ st.length)) := by
      rw [nextP, hN]
      simp only [Bool.true_eq_false, if_false]
      rw [if_pos (by rw [hcl]; exact ⟨trivial, rfl⟩)]
      simp only [afterS, Bool.true_eq_false, if_false]
    rw [hA]
    have h3 := hS rest ((nodeName s, []) :: st) (nodes + 1) (large || decide (400 < nodes + 1) || decide (40 ≤ st.length)) (by simp only [List.length_cons]; omega) (by simp only [List.length_cons]; omega)
    have hrs := readR_size d rest
    generalize readR d rest = X at h3 hrs
    cases X with
    | none => exact ⟨fun _ => h3.1 rfl, fun ks r' h => by simp at h⟩
    | some p =>
      obtain ⟨x, r⟩ := p
      have hr2 := hrs x r rfl
      rw [h3.2 x r rfl]
      have h4 := kids_sim d hS m r [] x (nodes + 1 + size x) ((large || decide (400 < nodes + 1) || decide (40 ≤ st.length)) || over ((nodeName s, ([] : List Tm)) :: st).length (nodes + 1) x) st (nodeName s) (by omega) (by omega) (by omega)
      simp only
      generalize kidsR (readR d) m false r = Y at h4
      cases Y with
      | none => exact ⟨fun _ => h4.1 rfl, fun ks r' h => by simp at h⟩
      | some q =>
        obtain ⟨ks, r3⟩ := q
        refine ⟨fun h => by simp at h, fun ks' r' h => ?_⟩
        simp only [Option.some.injEq, Prod.mk.injEq] at h
        obtain ⟨rfl, rfl⟩ := h
        rw [h4.2 ks r3 rfl, List.nil_append]
        have e3 := over_app st.length nodes (nodeName s) x ks large
        have e2 : nodes + 1 + (size x : Int) + (sizes ks : Int) = nodes + ((size (.mk 3 (nodeName s) 0 (x :: ks)) : Nat) : Int) := by simp only [size, sizes]; omega
        have e4 : ((nodeName s, ([] : List Tm)) :: st).length = st.length + 1 := rfl
        rw [e4, e3, e2]

theorem sim (d : Nat) : Sim d := by
  induction d with
  | zero =>
    intro s st nodes large hd hb
    rw [readR_zero]
    refine ⟨fun _ => ?_, fun t r h => by simp at h⟩
    rw [runS, short_none _ _ _ _ _ (by omega)]
    simp only [finP]
  | succ d ihd =>
    intro s st nodes large hd hb
    rw [readR_succ, runS_eq]
    cases hn : isNameB (nodeName s).data.toList with
    | false =>
      rw [readN_no _ hn]
      exact ⟨fun _ => next_fails _ _ _ (by unfold nodeP; rw [if_pos hn]), fun t r h => by simp at h⟩
    | true =>
      cases hq : preB s bQ with
      | true =>
        rw [readN_leaf _ true hn hq (fun h => by simp at h)]
        have hN : nodeP s = (1, nodeName s, (vsortP (nodeRest s)).1, (vsortP (nodeRest s)).2.1, (vsortP (nodeRest s)).2.2) := by unfold nodeP; rw [if_neg (by rw [hn]; simp), if_pos hq]
        have hv := var_both (nodeRest s)
        generalize leafR true (nodeRest s) = X at hv
        cases X with
        | some p =>
          obtain ⟨k, r⟩ := p
          rw [hv.1 k r rfl] at hN
          refine ⟨fun h => by simp at h, fun t r' h => ?_⟩
          simp only [Option.map_some, Option.some.injEq, Prod.mk.injEq, if_true] at h
          obtain ⟨rfl, rfl⟩ := h
          exact next_leaf _ _ _ hN (by decide)
        | none =>
          refine ⟨fun _ => ?_, fun t r h => by simp at h⟩
          cases hok : (vsortP (nodeRest s)).2.1 with
          | false => exact next_fails _ _ _ (by rw [hN, hok])
          | true =>
            have hbad := hv.2 rfl hok
            rw [hok] at hN
            rw [next_leaf _ _ _ hN (by decide)]
            exact bad_rest _ _ _ _ _ hbad
      | false =>
        cases ho : preB (nodeRest s) bOpen with
        | true =>
          rw [readN_app _ hn hq ho]
          have hk := sim_app d ihd s st nodes large hd hb hn hq ho
          generalize kidsR (readR d) (s.size + 1) true (takeB (nodeRest s) bOpen) = X at hk
          cases X with
          | none => exact ⟨fun _ => hk.1 rfl, fun t r h => by simp at h⟩
          | some p =>
            obtain ⟨ks, r⟩ := p
            refine ⟨fun h => by simp at h, fun t r' h => ?_⟩
            simp only [Option.map_some, Option.some.injEq, Prod.mk.injEq] at h
            obtain ⟨rfl, rfl⟩ := h
            exact hk.2 ks r rfl
        | false =>
          rw [readN_leaf _ false hn hq (fun _ => ho)]
          have hv := atom_both (nodeRest s)
          cases hcol : preB (nodeRest s) bColon with
          | false =>
            have hN : (nodeP s).2.2.2.1 = false := by unfold nodeP; rw [if_neg (by rw [hn]; simp), if_neg (by rw [hq]; simp), if_neg (by rw [ho]; simp), if_pos hcol]
            rw [leafR_none false hcol]
            exact ⟨fun _ => next_fails _ _ _ hN, fun t r h => by simp at h⟩
          | true =>
            have hN : nodeP s = (2, nodeName s, (sortP (takeB (nodeRest s) bColon) 0 sortW).1, (sortP (takeB (nodeRest s) bColon) 0 sortW).2.1, (sortP (takeB (nodeRest s) bColon) 0 sortW).2.2) := by
              unfold nodeP; rw [if_neg (by rw [hn]; simp), if_neg (by rw [hq]; simp), if_neg (by rw [ho]; simp), if_neg (by rw [hcol]; simp)]
            generalize leafR false (nodeRest s) = X at hv
            cases X with
            | some p =>
              obtain ⟨k, r⟩ := p
              rw [(hv.1 k r rfl).2] at hN
              refine ⟨fun h => by simp at h, fun t r' h => ?_⟩
              simp only [Option.map_some, Option.some.injEq, Prod.mk.injEq, Bool.false_eq_true, if_false] at h
              obtain ⟨rfl, rfl⟩ := h
              exact next_leaf _ _ _ hN (by decide)
            | none =>
              refine ⟨fun _ => ?_, fun t r h => by simp at h⟩
              cases hok : (sortP (takeB (nodeRest s) bColon) 0 sortW).2.1 with
              | false => exact next_fails _ _ _ (by rw [hN, hok])
              | true =>
                have hbad := hv.2 rfl hcol hok
                rw [hok] at hN
                rw [next_leaf _ _ _ hN (by decide)]
                exact bad_rest _ _ _ _ _ hbad
end Go.Proofs.YtclgcfpjhlcnfaaDoor

/-
  WHAT THE READER GIVES: a term whose text was read; the parser and the reference agree.
-/
namespace Go.Proofs.YtclgcfpjhlcnfaaDoor
open Go.RowKit

mutual
/-- What a term that was read is. -/
def WF : Tm → Prop
  | .mk k n s ks => isNameB n.data.toList = true ∧ (0 ≤ s ∧ s ≤ 5) ∧ (((k = 1 ∨ k = 2) ∧ ks = []) ∨ (k = 3 ∧ s = 0)) ∧ WFL ks
def WFL : List Tm → Prop
  | [] => True
  | t :: ts => WF t ∧ WFL ts
end
theorem wf_nodesE (t : Tm) : WF t → nodesE t = if wide t = true then 3 else 0 := by
  refine Tm.rec (motive_1 := fun t => WF t → nodesE t = if wide t = true then 3 else 0) (motive_2 := fun ts => WFL ts → nodesL ts = if wideL ts = true then 3 else 0) ?_ ?_ ?_ t
  · intro k n s ks ih h
    rw [WF] at h
    obtain ⟨hn, hs, hk, hl⟩ := h
    have e : nodeE (.mk k n s ks) = if 8 < ks.length then 3 else 0 := by
      rw [nodeE, if_neg (by omega), if_neg (by omega)]
      rw [if_neg (by rintro ⟨a, b⟩; rcases hk with ⟨_, rfl⟩ | ⟨rfl, _⟩ <;> simp at *), if_neg (by rcases hk with ⟨a, _⟩ | ⟨_, b⟩ <;> omega), if_pos hn]
    rw [nodesE, e, ih hl, wide]
    by_cases h8 : 8 < ks.length
    · simp [h8]
    · simp [h8]
  · intro _; simp [nodesL, wideL]
  · intro t ts iht ihl h
    rw [WFL] at h
    rw [nodesL, iht h.1, ihl h.2, wideL]
    cases wide t <;> simp

def headJ : List Tm → ByteArray
  | [] => ByteArray.empty
  | x :: ks => textT x ++ tailJ ks
theorem textT_app3 (n : ByteArray) (s : Int) (ks : List Tm) : textT (.mk 3 n s ks) = n ++ (bOpen ++ (headJ ks ++ bClose)) := by
  cases ks with
  | nil => simp [textT, textL, headJ, ByteArray.append_assoc]
  | cons x ks => simp [textT, textL, textL_tail, headJ, ByteArray.append_assoc]

theorem leaf_text {v : Bool} {s r : ByteArray} {k : Int} (h : leafR v s = some (k, r)) : (0 ≤ k ∧ k ≤ 5) ∧ s = (if k = 0 ∧ v = true then ByteArray.empty else bColon ++ wordB k) ++ r := by
  cases hcol : preB s bColon with
  | false =>
    rw [leafR_none v hcol] at h
    cases v with
    | false => simp at h
    | true =>
      simp only [if_true, Option.some.injEq, Prod.mk.injEq] at h
      obtain ⟨rfl, rfl⟩ := h
      simp
  | true =>
    cases hwr : wordR (nameAny (takeB s bColon)) with
    | none => rw [leafR_wrong v hcol hwr] at h; simp at h
    | some j =>
      rw [leafR_word v hcol hwr] at h
      obtain ⟨hj, he⟩ := wordR_some hwr
      by_cases hz : j = 0 ∧ v = true
      · rw [if_pos hz] at h; simp at h
      · rw [if_neg hz] at h
        simp only [Option.some.injEq, Prod.mk.injEq] at h
        obtain ⟨rfl, rfl⟩ := h
        refine ⟨hj, ?_⟩
        rw [if_neg hz]
        have h1 := (takeB_eq hcol).1
        have h2 := (nameAny_split (takeB s bColon)).1
        rw [← he, ByteArray.append_assoc, ← h2]
        exact h1
theorem leaf_zero {s r : ByteArray} {k : Int} (h : leafR true s = some (k, r)) : k = 0 → s = r := by
  intro hk
  have := (leaf_text h).2
  rw [if_pos ⟨hk, rfl⟩, ByteArray.empty_append] at this
  exact this

def textK (first : Bool) (ks : List Tm) : ByteArray := if first then headJ ks else tailJ ks
theorem kids_text {rd : ByteArray → Option (Tm × ByteArray)} (hrd : ∀ s t r, rd s = some (t, r) → WF t ∧ s = textT t ++ r) (m : Nat) : ∀ (first : Bool) (s : ByteArray) (ks : List Tm) (r : ByteArray), kidsR rd m first s = some (ks, r) → WFL ks ∧ s = textK first ks ++ (bClose ++ r) := by
  induction m with
  | zero => intro first s ks r h; rw [kidsR] at h; simp at h
  | succ m ih =>
    intro first s ks r h
    cases hcl : preB s bClose with
    | true =>
      rw [kidsR, if_pos hcl] at h
      simp only [Option.some.injEq, Prod.mk.injEq] at h
      obtain ⟨rfl, rfl⟩ := h
      refine ⟨by simp [WFL], ?_⟩
      have : textK first [] = ByteArray.empty := by cases first <;> rfl
      rw [this, ByteArray.empty_append]
      exact (takeB_eq hcl).1
    | false =>
      cases first with
      | true =>
        rw [kidsR_first _ _ _ hcl] at h
        cases hx : rd s with
        | none => rw [hx] at h; simp at h
        | some p =>
          obtain ⟨x, r1⟩ := p
          rw [hx] at h
          simp only at h
          cases hk : kidsR rd m false r1 with
          | none => rw [hk] at h; simp at h
          | some q =>
            obtain ⟨ks1, r2⟩ := q
            rw [hk] at h
            simp only [Option.some.injEq, Prod.mk.injEq] at h
            obtain ⟨rfl, rfl⟩ := h
            have h1 := hrd _ _ _ hx
            have h2 := ih false r1 ks1 r2 hk
            refine ⟨by rw [WFL]; exact ⟨h1.1, h2.1⟩, ?_⟩
            have e1 : textK true (x :: ks1) = textT x ++ tailJ ks1 := rfl
            have e2 : textK false ks1 = tailJ ks1 := rfl
            rw [e1, ByteArray.append_assoc, ← e2, ← h2.2]
            exact h1.2
      | false =>
        cases hc : preB s bComma with
        | false => rw [kidsR, if_neg (by rw [hcl]; simp), if_pos ⟨rfl, hc⟩] at h; simp at h
        | true =>
          rw [kidsR_succ _ _ _ hcl hc] at h
          cases hx : rd (takeB s bComma) with
          | none => rw [hx] at h; simp at h
          | some p =>
            obtain ⟨x, r1⟩ := p
            rw [hx] at h
            simp only at h
            cases hk : kidsR rd m false r1 with
            | none => rw [hk] at h; simp at h
            | some q =>
              obtain ⟨ks1, r2⟩ := q
              rw [hk] at h
              simp only [Option.some.injEq, Prod.mk.injEq] at h
              obtain ⟨rfl, rfl⟩ := h
              have h1 := hrd _ _ _ hx
              have h2 := ih false r1 ks1 r2 hk
              refine ⟨by rw [WFL]; exact ⟨h1.1, h2.1⟩, ?_⟩
              have e1 : textK false (x :: ks1) = bComma ++ (textT x ++ tailJ ks1) := rfl
              have e2 : textK false ks1 = tailJ ks1 := rfl
              rw [e1, ByteArray.append_assoc, ByteArray.append_assoc, ← e2, ← h2.2, ← h1.2]
              exact (takeB_eq hc).1

theorem readR_text (d : Nat) : ∀ (s : ByteArray) (t : Tm) (r : ByteArray), readR d s = some (t, r) → WF t ∧ s = textT t ++ r := by
  induction d with
  | zero => intro s t r h; rw [readR_zero] at h; simp at h
  | succ d ih =>
    intro s t r h
    rw [readR_succ] at h
    cases hn : isNameB (nodeName s).data.toList with
    | false => rw [readN_no _ hn] at h; simp at h
    | true =>
      have h2 := (node_split s).1
      cases hq : preB s bQ with
      | true =>
        have h1 := (takeB_eq hq).1
        rw [readN_leaf _ true hn hq (fun h => by simp at h)] at h
        cases hl : leafR true (nodeRest s) with
        | none => rw [hl] at h; simp at h
        | some p =>
          obtain ⟨k, r1⟩ := p
          rw [hl] at h
          simp only [Option.map_some, Option.some.injEq, Prod.mk.injEq, if_true] at h
          obtain ⟨rfl, rfl⟩ := h
          have h3 := leaf_text hl
          refine ⟨by rw [WF]; exact ⟨hn, h3.1, Or.inl ⟨Or.inl rfl, rfl⟩, by simp [WFL]⟩, ?_⟩
          by_cases hk : k = 0
          · subst hk
            have e : textT (.mk 1 (nodeName s) 0 []) = bQ ++ nodeName s := by simp [textT]
            have h4 := leaf_zero hl rfl
            rw [e, ByteArray.append_assoc, ← h4, ← h2]
            exact h1
          · have e : textT (.mk 1 (nodeName s) k []) = ((bQ ++ nodeName s) ++ bColon) ++ wordB k := by simp [textT, hk]
            have h4 := h3.2
            rw [if_neg (fun a => hk a.1), ByteArray.append_assoc] at h4
            rw [e, ByteArray.append_assoc, ByteArray.append_assoc, ByteArray.append_assoc, ← h4, ← h2]
            exact h1
      | false =>
        have h1 : takeB s bQ = s := takeB_no hq
        rw [h1] at h2
        cases ho : preB (nodeRest s) bOpen with
        | true =>
          rw [readN_app _ hn hq ho] at h
          cases hl : kidsR (readR d) (s.size + 1) true (takeB (nodeRest s) bOpen) with
          | none => rw [hl] at h; simp at h
          | some p =>
            obtain ⟨ks, r1⟩ := p
            rw [hl] at h
            simp only [Option.map_some, Option.some.injEq, Prod.mk.injEq] at h
            obtain ⟨rfl, rfl⟩ := h
            have h3 := kids_text ih _ true _ ks r1 hl
            refine ⟨by rw [WF]; exact ⟨hn, by omega, Or.inr ⟨rfl, rfl⟩, h3.1⟩, ?_⟩
            have e1 : textK true ks = headJ ks := rfl
            have h4 := (takeB_eq ho).1
            rw [textT_app3, ByteArray.append_assoc, ByteArray.append_assoc, ByteArray.append_assoc, ← e1, ← h3.2, ← h4]
            exact h2
        | false =>
          rw [readN_leaf _ false hn hq (fun _ => ho)] at h
          cases hl : leafR false (nodeRest s) with
          | none => rw [hl] at h; simp at h
          | some p =>
            obtain ⟨k, r1⟩ := p
            rw [hl] at h
            simp only [Option.map_some, Option.some.injEq, Prod.mk.injEq, Bool.false_eq_true, if_false] at h
            obtain ⟨rfl, rfl⟩ := h
            have h3 := leaf_text hl
            refine ⟨by rw [WF]; exact ⟨hn, h3.1, Or.inl ⟨Or.inr rfl, rfl⟩, by simp [WFL]⟩, ?_⟩
            have e : textT (.mk 2 (nodeName s) k []) = (nodeName s ++ bColon) ++ wordB k := by simp [textT]
            have h4 := h3.2
            rw [if_neg (by simp), ByteArray.append_assoc] at h4
            rw [e, ByteArray.append_assoc, ByteArray.append_assoc, ← h4]
            exact h2

theorem validE_wf {t : Tm} (h : WF t) : validE t = if over 0 0 t = true then 3 else 0 := by
  have e := wf_nodesE t h
  have ho := over_iff 0 0 t
  unfold validE
  rw [e]
  cases hw : wide t with
  | true =>
    rw [hw] at ho
    simp only [if_true]
    rw [if_neg (by decide), if_pos (ho.2 (Or.inr rfl))]
  | false =>
    rw [hw] at ho
    simp only [Bool.false_eq_true, if_false, if_true]
    by_cases hl : 400 < size t ∨ 40 < depth t
    · rw [if_pos hl, if_pos (ho.2 (Or.inl (by omega)))]
    · rw [if_neg hl, if_neg]
      intro a
      rcases ho.1 a with a | a
      · exact hl (by omega)
      · cases a

/-- The parser gives what the reference gives. -/
theorem parse_ref (s : ByteArray) (hs : s.size ≤ 2000) : parseP s = refP s := by
  have h := sim 800 s [] 0 false rfl (by simpa using hs)
  have e : parseP s = finP (runS [] s 0 false) := rfl
  have hw := readR_text 800 s
  rw [e]
  unfold refP
  generalize readR 800 s = X at h hw
  cases X with
  | none => exact h.1 rfl
  | some p =>
    obtain ⟨t, r⟩ := p
    rw [h.2 t r rfl]
    have hv := validE_wf (hw t r rfl).1
    have e2 : finP (afterS (0 + size t) (endP [] r (false || over ([] : List (ByteArray × List Tm)).length 0 t) t)) = if r.toList.isEmpty = false then (zeroT, 2) else if over 0 0 t = true then (zeroT, 3) else (t, 0) := by
      simp only [endP, afterS, Bool.true_eq_false, if_false, finP, Bool.false_or, List.length_nil]
    rw [e2]
    simp only
    have hr : r.toList.isEmpty = decide (r.size = 0) := by
      rw [Lib.toList_data]
      have hl : r.data.toList.length = r.size := by simp
      cases hd : r.data.toList with
      | nil => rw [hd] at hl; exact (decide_eq_true (by simp at hl; omega)).symm
      | cons a b => rw [hd] at hl; exact (decide_eq_false (by simp only [List.length_cons] at hl; omega)).symm
    rw [hr, hv]
    by_cases h0 : r.size = 0
    · rw [if_neg (by simp [h0]), if_pos h0]
      cases over 0 0 t <;> simp
    · rw [if_pos (by simp [h0]), if_neg h0]

theorem parse_back (s : ByteArray) (hs : s.size ≤ 2000) (h : (parseP s).2 = 0) : validE (parseP s).1 = 0 ∧ textT (parseP s).1 = s := by
  rw [parse_ref s hs] at h ⊢
  have hw := readR_text 800 s
  unfold refP at h ⊢
  generalize readR 800 s = X at h hw
  cases X with
  | none => simp at h
  | some p =>
    obtain ⟨t, r⟩ := p
    simp only at h ⊢
    by_cases h0 : r.size = 0
    · rw [if_pos h0] at h ⊢
      by_cases hv : validE t = 0
      · rw [if_pos hv]
        refine ⟨hv, ?_⟩
        have h1 := (hw t r rfl).2
        have h2 : r = ByteArray.empty := ByteArray.size_eq_zero_iff.1 h0
        rw [h2, ByteArray.append_empty] at h1
        exact h1.symm
      · rw [if_neg hv] at h
        exact absurd h hv
    · rw [if_neg h0] at h
      simp at h
end Go.Proofs.YtclgcfpjhlcnfaaDoor
