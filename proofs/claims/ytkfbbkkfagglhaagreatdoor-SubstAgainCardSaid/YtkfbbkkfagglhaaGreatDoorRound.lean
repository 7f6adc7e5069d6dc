/-
  WHAT THE PARSER GIVES FOR THE TEXT OF A VALID TERM: the term.
-/
import Derived.Test.YtkfbbkkfagglhaaGreatDoorNext
import Derived.Test.YtkfbbkkfagglhaaGreatDoorText
namespace Go.Proofs.YtkfbbkkfagglhaaGreatDoor
open Go.RowKit

theorem preB_app (p r : ByteArray) : preB (p ++ r) p = true := by
  simp only [preB, Bool.and_eq_true, decide_eq_true_eq, beq_iff_eq]
  refine ⟨by rw [ByteArray.size_append]; omega, ?_⟩
  rw [ByteArray.extract_append_eq_left rfl]
theorem takeB_app (p r : ByteArray) : takeB (p ++ r) p = r := by
  unfold takeB
  rw [preB_app, if_pos rfl, ByteArray.extract_append_eq_right rfl (by rw [ByteArray.size_append])]
theorem preB_prefix {s p : ByteArray} (h : preB s p = true) : p.data.toList <+: s.data.toList := by
  simp only [preB, Bool.and_eq_true, decide_eq_true_eq, beq_iff_eq, Lib.toList_data, ByteArray.data_extract, Array.toList_extract] at h
  rw [← h.2]
  simp only [List.extract_eq_take_drop, List.drop_zero]
  exact List.take_prefix _ _
theorem preB_no {s p : ByteArray} (h : ¬ p.data.toList <+: s.data.toList) : preB s p = false := by
  cases hb : preB s p with
  | false => rfl
  | true => exact absurd (preB_prefix hb) h
theorem takeB_no {s p : ByteArray} (h : preB s p = false) : takeB s p = s := by
  unfold takeB; rw [h]; rfl
theorem data_app (a b : ByteArray) : (a ++ b).data.toList = a.data.toList ++ b.data.toList := by
  rw [ByteArray.toList_data_append]

/-- What may stand behind a term. -/
def Fol (r : ByteArray) : Prop := r.data.toList = [] ∨ ∃ l, r.data.toList = 41 :: l ∨ r.data.toList = 44 :: l
theorem Fol.tail {r : ByteArray} (h : Fol r) : tailLen r.data.toList = 0 := by
  rcases h with h | ⟨l, h | h⟩ <;> rw [h] <;> simp [tailLen, letterI, laterI]
theorem Fol.colon {r : ByteArray} (h : Fol r) : preB r bColon = false := by
  apply preB_no
  rcases h with h | ⟨l, h | h⟩ <;> rw [h] <;> simp [bColon]
theorem Fol.close (r : ByteArray) : Fol (bClose ++ r) := Or.inr ⟨r.data.toList, Or.inl (by rw [data_app]; rfl)⟩
theorem Fol.comma (r : ByteArray) : Fol (bComma ++ r) := Or.inr ⟨32 :: r.data.toList, Or.inr (by rw [data_app]; rfl)⟩

theorem sortP_word (s : Int) (h : 0 ≤ s ∧ s ≤ 5) (r : ByteArray) : sortP (wordB s ++ r) 0 sortW = (s, true, r) := by
  have hc : s = 0 ∨ s = 1 ∨ s = 2 ∨ s = 3 ∨ s = 4 ∨ s = 5 := by omega
  have no : ∀ p q : ByteArray, ¬ p.data.toList <+: (q ++ r).data.toList → preB (q ++ r) p = false := fun p q h => preB_no h
  rcases hc with rfl | rfl | rfl | rfl | rfl | rfl
  · simp [sortP, sortW, wordB, preB_app, takeB_app]
  · have a0 : preB (wAgent ++ r) wAny = false := preB_no (by rw [data_app]; simp [wAgent, wAny])
    simp [sortP, sortW, wordB, preB_app, takeB_app, a0]
  · have a0 : preB (wNonce ++ r) wAny = false := preB_no (by rw [data_app]; simp [wNonce, wAny])
    have a1 : preB (wNonce ++ r) wAgent = false := preB_no (by rw [data_app]; simp [wNonce, wAgent])
    simp [sortP, sortW, wordB, preB_app, takeB_app, a0, a1]
  · have a0 : preB (wKey ++ r) wAny = false := preB_no (by rw [data_app]; simp [wKey, wAny])
    have a1 : preB (wKey ++ r) wAgent = false := preB_no (by rw [data_app]; simp [wKey, wAgent])
    have a2 : preB (wKey ++ r) wNonce = false := preB_no (by rw [data_app]; simp [wKey, wNonce])
    simp [sortP, sortW, wordB, preB_app, takeB_app, a0, a1, a2]
  · have a0 : preB (wData ++ r) wAny = false := preB_no (by rw [data_app]; simp [wData, wAny])
    have a1 : preB (wData ++ r) wAgent = false := preB_no (by rw [data_app]; simp [wData, wAgent])
    have a2 : preB (wData ++ r) wNonce = false := preB_no (by rw [data_app]; simp [wData, wNonce])
    have a3 : preB (wData ++ r) wKey = false := preB_no (by rw [data_app]; simp [wData, wKey])
    simp [sortP, sortW, wordB, preB_app, takeB_app, a0, a1, a2, a3]
  · have a0 : preB (wTag ++ r) wAny = false := preB_no (by rw [data_app]; simp [wTag, wAny])
    have a1 : preB (wTag ++ r) wAgent = false := preB_no (by rw [data_app]; simp [wTag, wAgent])
    have a2 : preB (wTag ++ r) wNonce = false := preB_no (by rw [data_app]; simp [wTag, wNonce])
    have a3 : preB (wTag ++ r) wKey = false := preB_no (by rw [data_app]; simp [wTag, wKey])
    have a4 : preB (wTag ++ r) wData = false := preB_no (by rw [data_app]; simp [wTag, wData])
    simp [sortP, sortW, wordB, preB_app, takeB_app, a0, a1, a2, a3, a4]

theorem tailLen_app : ∀ (l m : List UInt8), tailLen l = l.length → tailLen m = 0 → tailLen (l ++ m) = l.length
  | [], m, _, hm => by simpa using hm
  | c :: l, m, h, hm => by
    have hle := tailLen_le l
    simp only [tailLen, List.length_cons] at h
    simp only [List.cons_append, tailLen, List.length_cons]
    split at h
    · rename_i hc; rw [if_pos hc, tailLen_app l m (by omega) hm]; omega
    · rename_i hc
      split at h
      · rename_i hd; rw [if_neg hc, if_pos hd, tailLen_app l m (by omega) hm]; omega
      · omega
theorem nameLen_app (l m : List UInt8) (hn : isNameB l = true) (hm : tailLen m = 0) : nameLen (l ++ m) = l.length := by
  simp only [isNameB, Bool.and_eq_true, decide_eq_true_eq] at hn
  obtain ⟨⟨h0, _⟩, h⟩ := hn
  cases l with
  | nil => simp at h0
  | cons c l =>
    have hle := tailLen_le l
    simp only [nameLen, List.length_cons] at h
    simp only [List.cons_append, nameLen, List.length_cons]
    split at h
    · rename_i hc; rw [if_pos hc, tailLen_app l m (by omega) hm]; omega
    · omega
theorem name_head {l : List UInt8} (hn : isNameB l = true) : ∃ c m, l = c :: m ∧ letterI c.toNat = true := by
  simp only [isNameB, Bool.and_eq_true, decide_eq_true_eq] at hn
  obtain ⟨⟨h0, _⟩, h⟩ := hn
  cases l with
  | nil => simp at h0
  | cons c l =>
    refine ⟨c, l, rfl, ?_⟩
    simp only [nameLen, List.length_cons] at h
    split at h
    · assumption
    · omega
theorem name_no (n r p : ByteArray) (hn : isNameB n.data.toList = true) (x : UInt8) (q : List UInt8) (hp : p.data.toList = x :: q) (hx : letterI x.toNat = false) : preB (n ++ r) p = false := by
  obtain ⟨c, m, hc, hl⟩ := name_head hn
  apply preB_no
  rw [data_app, hc, hp]
  intro h
  simp only [List.cons_append, List.cons_prefix_cons] at h
  rw [h.1, hl] at hx; cases hx

theorem nodeName_q (n r : ByteArray) (hn : isNameB n.data.toList = true) (hr : tailLen r.data.toList = 0) : nodeName (bQ ++ (n ++ r)) = n ∧ nodeRest (bQ ++ (n ++ r)) = r := by
  have h : nodeName (bQ ++ (n ++ r)) = n := by
    unfold nodeName
    rw [takeB_app, data_app, nameLen_app _ _ hn hr, ByteArray.extract_append_eq_left (by rfl)]
  refine ⟨h, ?_⟩
  unfold nodeRest
  rw [h, takeB_app, ByteArray.extract_append_eq_right rfl (by rw [ByteArray.size_append])]
theorem nodeName_n (n r : ByteArray) (hn : isNameB n.data.toList = true) (hr : tailLen r.data.toList = 0) : nodeName (n ++ r) = n ∧ nodeRest (n ++ r) = r := by
  have hq : takeB (n ++ r) bQ = n ++ r := takeB_no (name_no n r bQ hn 63 [] rfl (by decide))
  have h : nodeName (n ++ r) = n := by
    unfold nodeName
    rw [hq, data_app, nameLen_app _ _ hn hr, ByteArray.extract_append_eq_left (by rfl)]
  refine ⟨h, ?_⟩
  unfold nodeRest
  rw [h, hq, ByteArray.extract_append_eq_right rfl (by rw [ByteArray.size_append])]

theorem tail_colon (r : ByteArray) : tailLen (bColon ++ r).data.toList = 0 := by rw [data_app]; simp [bColon, tailLen, letterI, laterI]
theorem tail_open (r : ByteArray) : tailLen (bOpen ++ r).data.toList = 0 := by rw [data_app]; simp [bOpen, tailLen, letterI, laterI]

theorem nodeP_var (n r : ByteArray) (hn : isNameB n.data.toList = true) (hr : Fol r) : nodeP (bQ ++ (n ++ r)) = (1, n, 0, true, r) := by
  obtain ⟨h1, h2⟩ := nodeName_q n r hn hr.tail
  unfold nodeP
  rw [h1, h2, preB_app, hn]
  simp [vsortP, hr.colon]
theorem nodeP_vars (n r : ByteArray) (s : Int) (hn : isNameB n.data.toList = true) (hs : 0 ≤ s ∧ s ≤ 5) (h0 : ¬ s = 0) : nodeP (bQ ++ (n ++ (bColon ++ (wordB s ++ r)))) = (1, n, s, true, r) := by
  obtain ⟨h1, h2⟩ := nodeName_q n (bColon ++ (wordB s ++ r)) hn (tail_colon _)
  unfold nodeP
  rw [h1, h2, preB_app, hn]
  simp [vsortP, preB_app, takeB_app, sortP_word s hs, h0]
theorem nodeP_const (n r : ByteArray) (s : Int) (hn : isNameB n.data.toList = true) (hs : 0 ≤ s ∧ s ≤ 5) : nodeP (n ++ (bColon ++ (wordB s ++ r))) = (2, n, s, true, r) := by
  obtain ⟨h1, h2⟩ := nodeName_n n (bColon ++ (wordB s ++ r)) hn (tail_colon _)
  have hq : preB (n ++ (bColon ++ (wordB s ++ r))) bQ = false := name_no n _ bQ hn 63 [] rfl (by decide)
  have ho : preB (bColon ++ (wordB s ++ r)) bOpen = false := preB_no (by rw [data_app]; simp [bColon, bOpen])
  unfold nodeP
  rw [h1, h2, hq, hn, ho]
  simp [preB_app, takeB_app, sortP_word s hs]
theorem nodeP_appl (n r : ByteArray) (hn : isNameB n.data.toList = true) : nodeP (n ++ (bOpen ++ r)) = (3, n, 0, true, r) := by
  obtain ⟨h1, h2⟩ := nodeName_n n (bOpen ++ r) hn (tail_open _)
  have hq : preB (n ++ (bOpen ++ r)) bQ = false := name_no n _ bQ hn 63 [] rfl (by decide)
  unfold nodeP
  rw [h1, h2, hq, hn]
  simp [preB_app, takeB_app]

/-- What may stand at a node that is right. -/
theorem node_cases {k s : Int} {n : ByteArray} {ks : List Tm} (h : nodeE (.mk k n s ks) = 0) : isNameB n.data.toList = true ∧ (0 ≤ s ∧ s ≤ 5) ∧ (((k = 1 ∨ k = 2) ∧ ks = []) ∨ (k = 3 ∧ s = 0 ∧ ks.length ≤ 8)) := by
  rw [nodeE] at h
  by_cases a1 : ¬ (k = 1 ∨ k = 2) ∧ ¬ k = 3
  · rw [if_pos a1] at h; omega
  rw [if_neg a1] at h
  by_cases a2 : s < 0 ∨ 5 < s
  · rw [if_pos a2] at h; omega
  rw [if_neg a2] at h
  by_cases a3 : (k = 1 ∨ k = 2) ∧ 0 < ks.length
  · rw [if_pos a3] at h; omega
  rw [if_neg a3] at h
  by_cases a4 : ¬ (k = 1 ∨ k = 2) ∧ ¬ s = 0
  · rw [if_pos a4] at h; omega
  rw [if_neg a4] at h
  by_cases a5 : isNameB n.data.toList = true
  · rw [if_pos a5] at h
    by_cases a6 : 8 < ks.length
    · rw [if_pos a6] at h; omega
    refine ⟨a5, by omega, ?_⟩
    by_cases hk : k = 1 ∨ k = 2
    · exact Or.inl ⟨hk, List.length_eq_zero_iff.1 (by omega)⟩
    · exact Or.inr ⟨by omega, by omega, by omega⟩
  · rw [if_neg a5] at h; omega

/-- The rest of an application's text behind its first part. -/
def tailJ : List Tm → ByteArray
  | [] => ByteArray.empty
  | t :: ts => bComma ++ (textT t ++ tailJ ts)
theorem textL_tail : ∀ (ts : List Tm) (acc : ByteArray), textL acc true ts = acc ++ tailJ ts
  | [], acc => by simp [textL, tailJ]
  | t :: ts, acc => by
    rw [textL, if_pos rfl, textL_tail ts, tailJ, ByteArray.append_assoc, ByteArray.append_assoc]

/-- What the parser does once a node is done. -/
def afterP (f : Nat) (nodes : Int) (R : Bool × ByteArray × List (ByteArray × List Tm) × Bool × Option Tm) : Option (ByteArray × Bool × Tm) :=
  if R.1 = false then none else match R.2.2.2.2 with
    | some u => some (R.2.1, R.2.2.2.1, u)
    | none => runP f R.2.2.1 R.2.1 nodes R.2.2.2.1
theorem runP_succ (f : Nat) (st : List (ByteArray × List Tm)) (rest : ByteArray) (nodes : Int) (large : Bool) : runP (f + 1) st rest nodes large = afterP f (nodes + 1) (nextP st rest (nodes + 1) large) := rfl

/-- A valid term's text begins with a letter or a question mark. -/
theorem textT_close (t : Tm) (r : ByteArray) (h : nodesE t = 0) : preB (textT t ++ r) bClose = false := by
  obtain ⟨k, n, s, ks⟩ := t
  have h0 : nodeE (.mk k n s ks) = 0 := by
    rw [nodesE] at h; split at h
    · assumption
    · exact h
  obtain ⟨hn, _, hc⟩ := node_cases h0
  have hq : ∀ x, preB (bQ ++ x) bClose = false := fun x => preB_no (by rw [data_app]; simp [bQ, bClose])
  have hw : ∀ x, preB (n ++ x) bClose = false := fun x => name_no n x bClose hn 41 [] rfl (by decide)
  rw [textT]
  split
  · split
    · rw [ByteArray.append_assoc]; exact hq _
    · simp only [ByteArray.append_assoc]; exact hq _
  · split
    · simp only [ByteArray.append_assoc]; exact hw _
    · cases ks with
      | nil => simp only [textL, ByteArray.append_assoc]; exact hw _
      | cons a ks =>
        rw [textL, if_neg (by simp), textL_tail]
        simp only [ByteArray.append_assoc]; exact hw _

/-- The parser over the text of a term: what end makes of the term. -/
def RunT (t : Tm) : Prop := nodesE t = 0 → ∀ (f : Nat) (st : List (ByteArray × List Tm)) (r : ByteArray) (nodes : Int), nodes + size t ≤ 400 → st.length + depth t ≤ 40 → Fol r →
  runP (size t + f) st (textT t ++ r) nodes false = afterP f (nodes + size t) (endP st r false t)
def RunL (ks : List Tm) : Prop := nodesL ks = 0 → ∀ (f : Nat) (st : List (ByteArray × List Tm)) (r : ByteArray) (nodes : Int) (n : ByteArray) (acc : List Tm) (a : Tm) (us : List Tm), ks = a :: us → nodes + sizes ks ≤ 400 → st.length + 1 + depths ks ≤ 40 → acc.length + ks.length ≤ 8 →
  runP (sizes ks + f) ((n, acc) :: st) (textT a ++ (tailJ us ++ (bClose ++ r))) nodes false = afterP f (nodes + sizes ks) (endP st r false (.mk 3 n 0 (acc ++ ks)))

theorem run_leaf (k s : Int) (n tx : ByteArray) (f : Nat) (st : List (ByteArray × List Tm)) (r : ByteArray) (nodes : Int) (hk : ¬ k = 3) (hN : nodeP (tx ++ r) = (k, n, s, true, r)) (h1 : nodes + 1 ≤ 400) (h2 : st.length + 1 ≤ 40) :
    runP (1 + f) st (tx ++ r) nodes false = afterP f (nodes + 1) (endP st r false (.mk k n s [])) := by
  have a1 : decide (400 < nodes + 1) = false := by simp; omega
  have a2 : decide (40 ≤ st.length) = false := by simp; omega
  rw [Nat.add_comm, runP_succ, nextP, hN]
  simp [hk, a1, a2]

theorem run_any (t : Tm) : RunT t := by
  refine Tm.rec (motive_1 := RunT) (motive_2 := RunL) ?_ ?_ ?_ t
  · intro k n s ks ih hv f st r nodes h1 h2 hr
    have h0 : nodeE (.mk k n s ks) = 0 := by
      rw [nodesE] at hv; split at hv
      · assumption
      · exact hv
    have hl : nodesL ks = 0 := by
      rw [nodesE, if_pos h0] at hv; exact hv
    obtain ⟨hn, hs, hc⟩ := node_cases h0
    rcases hc with ⟨hk, rfl⟩ | ⟨rfl, rfl, hk8⟩
    · simp only [size, sizes, depth, depths, Nat.add_zero] at h1 h2 ⊢
      rcases hk with rfl | rfl
      · by_cases hs0 : s = 0
        · subst hs0
          have ht : textT (.mk 1 n 0 []) = bQ ++ n := by simp [textT]
          rw [ht]
          exact run_leaf 1 0 n _ f st r nodes (by decide) (by rw [ByteArray.append_assoc]; exact nodeP_var n r hn hr) h1 (by omega)
        · have ht : textT (.mk 1 n s []) = ((bQ ++ n) ++ bColon) ++ wordB s := by simp [textT, hs0]
          rw [ht]
          exact run_leaf 1 s n _ f st r nodes (by decide) (by simp only [ByteArray.append_assoc]; exact nodeP_vars n r s hn hs hs0) h1 (by omega)
      · have ht : textT (.mk 2 n s []) = (n ++ bColon) ++ wordB s := by simp [textT]
        rw [ht]
        exact run_leaf 2 s n _ f st r nodes (by decide) (by simp only [ByteArray.append_assoc]; exact nodeP_const n r s hn hs) h1 (by omega)
    · cases ks with
      | nil =>
        simp only [size, sizes, depth, depths, Nat.add_zero] at h1 h2 ⊢
        have a1 : decide (400 < nodes + 1) = false := by simp; omega
        have a2 : decide (40 ≤ st.length) = false := by simp; omega
        have ht : textT (.mk 3 n 0 []) ++ r = n ++ (bOpen ++ (bClose ++ r)) := by simp [textT, textL, ByteArray.append_assoc]
        rw [ht, Nat.add_comm, runP_succ, nextP, nodeP_appl n _ hn]
        simp [preB_app, takeB_app, a1, a2]
      | cons a us =>
        have ht : textT (.mk 3 n 0 (a :: us)) ++ r = n ++ (bOpen ++ (textT a ++ (tailJ us ++ (bClose ++ r)))) := by
          simp [textT, textL, textL_tail, ByteArray.append_assoc]
        have ha : nodesE a = 0 := by
          rw [nodesL] at hl; split at hl
          · assumption
          · exact hl
        have e1 : ((size (.mk 3 n 0 (a :: us)) : Nat) : Int) = 1 + (sizes (a :: us) : Nat) := by simp only [size]; omega
        have hs1 : size (.mk 3 n 0 (a :: us)) + f = (sizes (a :: us) + f) + 1 := by simp only [size]; omega
        have hd1 : depth (.mk 3 n 0 (a :: us)) = depths (a :: us) + 1 := rfl
        rw [e1] at h1 ⊢
        rw [hd1] at h2
        have a1 : decide (400 < nodes + 1) = false := by simp; omega
        have a2 : decide (40 ≤ st.length) = false := by simp; omega
        rw [ht, hs1, runP_succ, nextP, nodeP_appl n _ hn]
        have hcl := textT_close a (tailJ us ++ (bClose ++ r)) ha
        simp only [hcl, a1, a2, Bool.or_self, and_self, if_true, if_false, Bool.true_eq_false]
        have := ih hl f st r (nodes + 1) n [] a us rfl (by omega) (by omega) (by simpa using hk8)
        simp only [afterP, Bool.true_eq_false, if_false]
        rw [this, List.nil_append, Int.add_assoc]
        rfl
  · intro _ f st r nodes n acc a us h
    cases h
  · intro t ts iht ihl hv f st r nodes n acc a us he h1 h2 h8
    obtain ⟨rfl, rfl⟩ := List.cons.inj he
    have ht : nodesE t = 0 := by
      rw [nodesL] at hv; split at hv
      · assumption
      · exact hv
    have hl : nodesL ts = 0 := by
      rw [nodesL, if_pos ht] at hv; exact hv
    have es : sizes (t :: ts) = size t + sizes ts := rfl
    have ed : depths (t :: ts) = max (depth t) (depths ts) := rfl
    have e1 : ((sizes (t :: ts) : Nat) : Int) = (size t : Nat) + (sizes ts : Nat) := by rw [es]; omega
    have hF : Fol (tailJ ts ++ (bClose ++ r)) := by
      cases ts with
      | nil => simp only [tailJ, ByteArray.empty_append]; exact Fol.close r
      | cons b bs => simp only [tailJ, ByteArray.append_assoc]; exact Fol.comma _
    rw [e1] at h1
    rw [ed] at h2
    have hlen : (acc ++ [t]).length = acc.length + 1 := by simp
    have a8 : decide (8 < (acc ++ [t]).length) = false := by rw [hlen]; simp only [List.length_cons] at h8; simp; omega
    rw [e1, es, Nat.add_assoc, iht ht (sizes ts + f) ((n, acc) :: st) (tailJ ts ++ (bClose ++ r)) nodes (by omega) (by simp only [List.length_cons]; omega) hF]
    cases ts with
    | nil =>
      have hc : preB (bClose ++ r) bComma = false := preB_no (by rw [data_app]; simp [bClose, bComma])
      simp only [tailJ, ByteArray.empty_append, endP, hc, preB_app, takeB_app, a8, if_true, Bool.false_eq_true, if_false, Bool.or_self, sizes, Nat.zero_add]
      simp
    | cons b bs =>
      have e2 : tailJ (b :: bs) ++ (bClose ++ r) = bComma ++ (textT b ++ (tailJ bs ++ (bClose ++ r))) := by simp only [tailJ, ByteArray.append_assoc]
      rw [e2]
      simp only [endP, preB_app, takeB_app, a8, if_true, Bool.or_self]
      have := ihl hl f st r (nodes + size t) n (acc ++ [t]) b bs rfl (by omega) (by omega) (by rw [hlen]; simp only [List.length_cons] at h8 ⊢; omega)
      rw [show afterP (sizes (b :: bs) + f) (nodes + (size t : Nat)) (true, textT b ++ (tailJ bs ++ (bClose ++ r)), (n, acc ++ [t]) :: st, false, none) = runP (sizes (b :: bs) + f) ((n, acc ++ [t]) :: st) (textT b ++ (tailJ bs ++ (bClose ++ r))) (nodes + (size t : Nat)) false from rfl, this, Int.add_assoc, List.append_assoc]
      rfl

/-- A valid term's text has a byte or more for each node. -/
theorem size_text (t : Tm) : nodesE t = 0 → size t ≤ (textT t).size := by
  refine Tm.rec (motive_1 := fun t => nodesE t = 0 → size t ≤ (textT t).size) (motive_2 := fun ts => nodesL ts = 0 → sizes ts ≤ (tailJ ts).size) ?_ ?_ ?_ t
  · intro k n s ks ih hv
    have h0 : nodeE (.mk k n s ks) = 0 := by
      rw [nodesE] at hv; split at hv
      · assumption
      · exact hv
    have hl : nodesL ks = 0 := by
      rw [nodesE, if_pos h0] at hv; exact hv
    obtain ⟨hn, hs, hc⟩ := node_cases h0
    have hn1 : 1 ≤ n.size := by
      obtain ⟨c, m, hcm, _⟩ := name_head hn
      have : n.data.toList.length = n.size := rfl
      rw [hcm] at this; simp at this; omega
    rcases hc with ⟨hk, rfl⟩ | ⟨rfl, rfl, hk8⟩
    · simp only [size, sizes, textT]
      split
      · split <;> (simp only [ByteArray.size_append]; omega)
      · rw [if_pos (by omega)]; simp only [ByteArray.size_append]; omega
    · have := ih hl
      cases ks with
      | nil => simp [size, sizes, textT, textL, ByteArray.size_append]; omega
      | cons a us =>
        have hc1 : bComma.size = 2 := rfl
        have ho1 : bOpen.size = 1 := rfl
        have hb1 : bClose.size = 1 := rfl
        simp only [size, textT, textL, textL_tail, ByteArray.size_append, tailJ] at this ⊢
        simp [ByteArray.size_append]
        omega
  · intro _; simp [sizes, tailJ]
  · intro t ts iht ihl hv
    have ht : nodesE t = 0 := by
      rw [nodesL] at hv; split at hv
      · assumption
      · exact hv
    have hl : nodesL ts = 0 := by
      rw [nodesL, if_pos ht] at hv; exact hv
    have := iht ht
    have := ihl hl
    simp only [sizes, tailJ, ByteArray.size_append]; omega

/-- The round trip. -/
theorem parse_text (t : Tm) (h1 : nodesE t = 0) (h2 : size t ≤ 400) (h3 : depth t ≤ 40) : parseP (textT t) = (t, 0) := by
  have hs := size_text t h1
  have he : (textT t).size + 1 = size t + ((textT t).size + 1 - size t) := by omega
  have hr := run_any t h1 ((textT t).size + 1 - size t) [] ByteArray.empty 0 (by omega) (by simpa using h3) (Or.inl rfl)
  rw [ByteArray.append_empty] at hr
  rw [parseP, he, hr]
  simp [endP, afterP, finP]
end Go.Proofs.YtkfbbkkfagglhaaGreatDoor
