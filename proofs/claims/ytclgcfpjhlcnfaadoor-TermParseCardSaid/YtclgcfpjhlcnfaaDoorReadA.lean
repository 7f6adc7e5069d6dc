/-
  THE WALKS OF the reference's read and Parse, whole.
-/
import Derived.Test.YtclgcfpjhlcnfaaDoorReadL
import Derived.Test.YtclgcfpjhlcnfaaDoorValidb
namespace Go.Proofs.YtclgcfpjhlcnfaaDoor
open Go.RowKit

theorem take_quest {s : ByteArray} (h : preB s bQ = true) : takeB s bQ = s.extract 1 s.size := by unfold takeB; rw [h]; rfl
theorem head_cases (s : ByteArray) : (∃ h : 0 < s.size, s[0] = 63 ∧ preB s bQ = true ∧ takeB s bQ = s.extract 1 s.size) ∨ (s.size = 0 ∧ preB s bQ = false ∧ takeB s bQ = s ∧ isNameB (nameAny s).data.toList = false) ∨ (∃ h : 0 < s.size, ¬ s[0] = 63 ∧ preB s bQ = false ∧ takeB s bQ = s) := by
  cases hq : preB s bQ with
  | true =>
    obtain ⟨h, h2⟩ := (pre_one (s := s) (p := bQ) rfl).1 hq
    exact Or.inl ⟨h, h2, rfl, take_quest hq⟩
  | false =>
    right
    by_cases h : 0 < s.size
    · right
      refine ⟨h, fun h2 => ?_, rfl, takeB_no hq⟩
      have := (pre_one (s := s) (p := bQ) rfl).2 ⟨h, h2⟩
      rw [hq] at this; cases this
    · left
      refine ⟨by omega, rfl, takeB_no hq, ?_⟩
      have := nameAny_le s
      have hl : (nameAny s).data.toList.length = (nameAny s).size := by simp
      simp only [isNameB]
      rw [decide_eq_false (by omega)]; rfl

theorem read_any (d : Nat) : d ≤ 100000 → ∀ (s : ByteArray) (w : World), s.size ≤ 1048576 → Calls Tryd.prog 46 #[.string s, .int .i64 d] w (ReadPost w (readR d s)) := by
  induction d with
  | zero =>
    intro _ s w hs
    have hm : s.size ≤ maxLen := by unfold maxLen; omega
    rw [readR_zero]
    rcases head_cases s with ⟨h0, hc, hq, ht⟩ | ⟨h0, hq, ht, hn⟩ | ⟨h0, hc, hq, ht⟩
    · cases hn : isNameB (nameAny (s.extract 1 s.size)).data.toList with
      | false => exact read_qn s 0 w hm h0 hc hn
      | true => exact read_qz s w hm h0 hc hn
    · exact read_en s 0 w hm h0 hn
    · cases hn : isNameB (nameAny s).data.toList with
      | false => exact read_on s 0 w hm h0 hc hn
      | true => exact read_oz s w hm h0 hc hn
  | succ d ih =>
    intro hd s w hs
    have hm : s.size ≤ maxLen := by unfold maxLen; omega
    have hdz : (((d + 1 : Nat) : Int) == 0) = false := by rw [beq_eq_false_iff_ne]; omega
    have hne := name_eq s
    rw [readR_succ]
    rcases head_cases s with ⟨h0, hc, hq, ht⟩ | ⟨h0, hq, ht, hn⟩ | ⟨h0, hc, hq, ht⟩
    · rw [ht] at hne
      cases hn : isNameB (nameAny (s.extract 1 s.size)).data.toList with
      | false =>
        rw [readN_no _ (hne.1.trans hn)]
        exact read_qn s _ w hm h0 hc hn
      | true =>
        have hnn := hne.1.trans hn
        have hnm := hne.2 hnn
        rw [readN_leaf _ true hnn hq (fun h => by simp at h)]
        exact read_lq s (s.extract 1 s.size) (nodeName s) (nodeRest s) _ hdz w hm h0 hc rfl hnm (by unfold nodeRest; rw [ht]) hnn
    · rw [ht] at hne
      rw [readN_no _ (hne.1.trans hn)]
      exact read_en s _ w hm h0 hn
    · rw [ht] at hne
      cases hn : isNameB (nameAny s).data.toList with
      | false =>
        rw [readN_no _ (hne.1.trans hn)]
        exact read_on s _ w hm h0 hc hn
      | true =>
        have hnn := hne.1.trans hn
        have hnm := hne.2 hnn
        have hrest : s.extract (nodeName s).size s.size = nodeRest s := by unfold nodeRest; rw [ht]
        cases ho : preB (nodeRest s) bOpen with
        | false =>
          rw [readN_leaf _ false hnn hq (fun _ => ho)]
          by_cases hz : (nodeRest s).size = 0
          · exact read_loe s s (nodeName s) (nodeRest s) _ hdz w hm h0 hc rfl hnm hrest hnn hz
          · refine read_lon s s (nodeName s) (nodeRest s) _ hdz w hm h0 hc rfl hnm hrest hnn (by omega) (fun h => ?_)
            have := (pre_one (s := nodeRest s) (p := bOpen) rfl).2 ⟨by omega, h⟩
            rw [ho] at this; cases this
        | true =>
          obtain ⟨hr, hr2⟩ := (pre_one (s := nodeRest s) (p := bOpen) rfl).1 ho
          have htk : takeB (nodeRest s) bOpen = (nodeRest s).extract 1 (nodeRest s).size := by unfold takeB; rw [ho]; rfl
          rw [readN_app _ hnn hq ho, htk]
          exact read_app s (nodeName s) (nodeRest s) d ((d + 1 : Nat) : Int) (by omega) (by omega) (by omega) w hs h0 hc hnm hrest hnn hr hr2 (ih (by omega))

/-- What is read has a byte or more for each node. -/
theorem wf_size (t : Tm) : WF t → size t ≤ (textT t).size := by
  refine Tm.rec (motive_1 := fun t => WF t → size t ≤ (textT t).size) (motive_2 := fun ts => WFL ts → sizes ts ≤ (tailJ ts).size) ?_ ?_ ?_ t
  · intro k n s ks ih h
    rw [WF] at h
    obtain ⟨hn, hs, hk, hl⟩ := h
    have hn1 := name_pos hn
    rcases hk with ⟨hk, rfl⟩ | ⟨rfl, rfl⟩
    · simp only [size, sizes, textT]
      split
      · split <;> (simp only [ByteArray.size_append]; omega)
      · rw [if_pos (by omega)]; simp only [ByteArray.size_append]; omega
    · have := ih hl
      have hc1 : bComma.size = 2 := rfl
      have ho1 : bOpen.size = 1 := rfl
      have hb1 : bClose.size = 1 := rfl
      rw [textT_app3]
      cases ks with
      | nil => simp only [size, sizes, ByteArray.size_append]; omega
      | cons a us =>
        simp only [size, headJ, ByteArray.size_append, tailJ] at this ⊢
        omega
  · intro _; simp [sizes]
  · intro t ts iht ihl h
    rw [WFL] at h
    have := iht h.1
    have := ihl h.2
    simp only [sizes, tailJ, ByteArray.size_append]; omega

def RParsePost (s : ByteArray) (w : World) (e : Ending) (w' : World) : Prop :=
  ∃ v, e = .returned (.tuple #[v, .int .i64 (refP s).2]) ∧ IsV w' (refP s).1 v ∧ Below w.heap.size w w'

set_option maxHeartbeats 3200000 in
set_option maxRecDepth 100000 in
theorem rparse_any (s : ByteArray) (w : World) (hs : s.size ≤ 1048576) : Calls Tryd.prog 12 #[.string s] w (RParsePost s w) := by
  have h8 : ((800 : Nat) : Int) = 800 := rfl
  have hC := fun W => read_any 800 (by omega) s W hs
  rw [h8] at hC
  have HC := Lib.hid hC
  clear h8 hC
  have hw := readR_text 800 s
  obtain ⟨P, hP⟩ : ∃ P, refP s = P := ⟨_, rfl⟩
  have hP2 := hP
  unfold refP at hP2
  have HP := Lib.hid hP
  have hB0 : Below w.heap.size w (w.alloc (.cells #[.int .i64 0, .string ⟨#[]⟩, .int .i64 0, .slice none 0 0] 25)) := (Below.refl _ _).alloc (Nat.le_refl _) _
  have HB0 := Lib.hid hB0
  have hbx := heap_alloc_new w (.cells #[.int .i64 0, .string ⟨#[]⟩, .int .i64 0, .slice none 0 0] 25)
  have HBX := Lib.hid hbx
  have HZERO : Hid (∀ (x : Int) W, P = (zeroT, x) → Below w.heap.size w W → RParsePost s w (.returned (.tuple #[.agg #[.int .i64 0, .string ⟨#[]⟩, .int .i64 0, .slice none 0 0], .int .i64 x])) W) := fun x W h hW => by
    unfold RParsePost
    rw [hP, h]
    exact ⟨_, rfl, zero_IsV _, hW⟩
  generalize readR 800 s = X at HC hw hP2
  cases X with
  | none =>
    have HPE := Lib.hid hP2.symm
    clear hP hP2 hw hB0 hbx hs
    go_enter Tryd.func12, Tryd.ntmps12
    go_upto_region 2 with (first
      | (go_at_call 46; refine (HC.out _).mono ?_; rintro e w5 ⟨hB5, qa, qb, qc, qd, ql, qk, qx, he⟩; subst he; have HB6 : Hid (Below w.heap.size w (w5.alloc (.cells #[.int .i64 qa, .string qb, .int .i64 qc, .slice qd ql qk] 25))) := Lib.hid ((HB0.out.trans (hB5.mono (by simp))).alloc (by have := hB5.size; simp only [World.size_alloc] at this; omega) _); have hb0 : (w5.alloc (.cells #[.int .i64 qa, .string qb, .int .i64 qc, .slice qd ql qk] 25)).heap[w.heap.size]? = some (.cells #[.int .i64 0, .string ⟨#[]⟩, .int .i64 0, .slice none 0 0] 25 (0, 0)) := (Below.heap_alloc _ _ _ (by have := hB5.size; simp only [World.size_alloc] at this; omega)).trans ((hB5.block _ (by simp)).trans HBX.out); clear hB5))
    generalize (w5.alloc (.cells #[.int .i64 qa, .string qb, .int .i64 qc, .slice qd ql qk] 25)) = w6 at HB6 hb0 ⊢
    obtain ⟨⟨m0, m1, m2, m3⟩, n0, n1, n2, n3⟩ := box_facts hb0
    clear hb0
    go_wp2_with fail
    exact bodyPost_ret (v := .tuple #[.agg #[.int .i64 0, .string ⟨#[]⟩, .int .i64 0, .slice none 0 0], .int .i64 2]) (by simp [results, Tryd.results12, go_sem, m0, m1, m2, m3]) rfl (HZERO.out 2 _ HPE.out (put4_below (g := w.heap.size) (o := 0) HB6.out (Nat.le_refl _)))
  | some p =>
    obtain ⟨t, r⟩ := p
    have hwt := hw t r rfl
    have hst : size t ≤ 1073741824 := by
      have := wf_size t hwt.1
      have h2 : s.size = (textT t).size + r.size := by
        have := congrArg ByteArray.size hwt.2
        rw [ByteArray.size_append] at this; exact this
      omega
    simp only at hP2
    have hre : r.toList.isEmpty = decide (r.size = 0) := by
      rw [Lib.toList_data]
      have hl : r.data.toList.length = r.size := by simp
      cases hd : r.data.toList with
      | nil => rw [hd] at hl; exact (decide_eq_true (by simp at hl; omega)).symm
      | cons a b => rw [hd] at hl; exact (decide_eq_false (by simp only [List.length_cons] at hl; omega)).symm
    have HST := Lib.hid hst
    by_cases h0 : r.size = 0
    rotate_left
    · rw [if_neg h0] at hP2
      have HPE := Lib.hid hP2.symm
      rw [decide_eq_false h0] at hre
      clear hP hP2 hw hwt hst hB0 hbx hs h0
      go_enter Tryd.func12, Tryd.ntmps12
      go_upto_region 2 with (first
        | (go_at_call 46; refine (HC.out _).mono ?_; rintro e w5 ⟨hB5, c0, c1, c2, c3, he, hI⟩; subst he; obtain ⟨xk, xn, xs, xr, xn2, xc, e0', e1', e2', e3'⟩ := IsIn_form hI; subst e0'; subst e1'; subst e2'; subst e3'; have HB6 : Hid (Below w.heap.size w (w5.alloc (.cells #[.int .i64 xk, .string xn, .int .i64 xs, .slice xr xn2 xc] 25))) := Lib.hid ((HB0.out.trans (hB5.mono (by simp))).alloc (by have := hB5.size; simp only [World.size_alloc] at this; omega) _); have hb0 : (w5.alloc (.cells #[.int .i64 xk, .string xn, .int .i64 xs, .slice xr xn2 xc] 25)).heap[w.heap.size]? = some (.cells #[.int .i64 0, .string ⟨#[]⟩, .int .i64 0, .slice none 0 0] 25 (0, 0)) := (Below.heap_alloc _ _ _ (by have := hB5.size; simp only [World.size_alloc] at this; omega)).trans ((hB5.block _ (by simp)).trans HBX.out); clear hB5 hI))
      generalize (w5.alloc (.cells #[.int .i64 xk, .string xn, .int .i64 xs, .slice xr xn2 xc] 25)) = w6 at HB6 hb0 ⊢
      obtain ⟨⟨m0, m1, m2, m3⟩, n0, n1, n2, n3⟩ := box_facts hb0
      clear hb0
      go_wp2_with fail
      exact bodyPost_ret (v := .tuple #[.agg #[.int .i64 0, .string ⟨#[]⟩, .int .i64 0, .slice none 0 0], .int .i64 2]) (by simp [results, Tryd.results12, go_sem, m0, m1, m2, m3]) rfl (HZERO.out 2 _ HPE.out (put4_below (g := w.heap.size) (o := 0) HB6.out (Nat.le_refl _)))
    rw [if_pos h0] at hP2
    rw [decide_eq_true h0] at hre
    have HV := Lib.hid (fun (W : World) a b c d (h : Is W t a b c d) => rValid_any t a b c d W HST.out h)
    obtain ⟨x, hx⟩ : ∃ x, validE t = x := ⟨_, rfl⟩
    rw [hx] at HV hP2
    have HX := Lib.hid hx
    clear hP hw hwt hst hB0 hbx hs h0 hx
    by_cases hx0 : x = 0
    · subst hx0
      rw [if_pos rfl] at hP2
      have HPE := Lib.hid hP2.symm
      clear hP2
      go_enter Tryd.func12, Tryd.ntmps12
      go_upto_region 2 with (first
        | (go_at_call 46; refine (HC.out _).mono ?_; rintro e w5 ⟨hB5, c0, c1, c2, c3, he, hI⟩; subst he; obtain ⟨xk, xn, xs, xr, xn2, xc, e0', e1', e2', e3'⟩ := IsIn_form hI; subst e0'; subst e1'; subst e2'; subst e3'; have HB6 : Hid (Below w.heap.size w (w5.alloc (.cells #[.int .i64 xk, .string xn, .int .i64 xs, .slice xr xn2 xc] 25))) := Lib.hid ((HB0.out.trans (hB5.mono (by simp))).alloc (by have := hB5.size; simp only [World.size_alloc] at this; omega) _); have hb0 : (w5.alloc (.cells #[.int .i64 xk, .string xn, .int .i64 xs, .slice xr xn2 xc] 25)).heap[w.heap.size]? = some (.cells #[.int .i64 0, .string ⟨#[]⟩, .int .i64 0, .slice none 0 0] 25 (0, 0)) := (Below.heap_alloc _ _ _ (by have := hB5.size; simp only [World.size_alloc] at this; omega)).trans ((hB5.block _ (by simp)).trans HBX.out); have HI6 : Hid (IsIn (fun b => w.heap.size + 1 ≤ b ∧ b < w5.heap.size) (w5.alloc (.cells #[.int .i64 xk, .string xn, .int .i64 xs, .slice xr xn2 xc] 25)) t (.int .i64 xk) (.string xn) (.int .i64 xs) (.slice xr xn2 xc)) := Lib.hid (IsIn_carry (fun b hb => Below.heap_alloc _ _ _ hb.2) (fun b hb => ⟨by have := hb.1; simp only [World.size_alloc] at this; omega, hb.2⟩) _ _ _ _ _ (IsIn_lt _ _ _ _ _ hI)); have hx0 := heap_alloc_new w5 (.cells #[.int .i64 xk, .string xn, .int .i64 xs, .slice xr xn2 xc] 25); have HS5 : Hid (w.heap.size < w5.heap.size ∧ w5.heap.size < (w5.alloc (.cells #[.int .i64 xk, .string xn, .int .i64 xs, .slice xr xn2 xc] 25)).heap.size) := Lib.hid ⟨by have := hB5.size; simp only [World.size_alloc] at this; omega, by simp⟩; clear hB5 hI))
      generalize (w5.alloc (.cells #[.int .i64 xk, .string xn, .int .i64 xs, .slice xr xn2 xc] 25)) = w6 at HB6 hb0 HI6 hx0 HS5 ⊢
      have HW0 := Lib.hid (And.intro hb0 hx0)
      obtain ⟨⟨y0, y1, y2, y3⟩, _⟩ := box_facts hx0
      clear hb0 hx0
      go_wp2_with (go_at_call 47; refine (HV.out _ _ _ _ _ (IsIn_Is _ _ _ _ _ HI6.out)).mono ?_; rintro e w7 ⟨he, hB7⟩; subst he; have HB7 := Lib.hid hB7; have hb0 := (hB7.block w.heap.size (by have := HS5.out; omega)).trans HW0.out.1; have hx0 := (hB7.block w5.heap.size (by have := HS5.out; omega)).trans HW0.out.2; clear hB7 y0 y1 y2 y3; obtain ⟨⟨m0, m1, m2, m3⟩, n0, n1, n2, n3⟩ := box_facts hb0; obtain ⟨⟨y0, y1, y2, y3⟩, _⟩ := box_facts hx0; clear hb0 hx0)
      have HF : Hid (RParsePost s w (.returned (.tuple #[.agg #[.int .i64 xk, .string xn, .int .i64 xs, .slice xr xn2 xc], .int .i64 0])) (put4 w7 w.heap.size 0 (.int .i64 xk) (.string xn) (.int .i64 xs) (.slice xr xn2 xc))) := by
        show RParsePost _ _ _ _
        unfold RParsePost
        rw [HP.out, HPE.out]
        refine ⟨_, rfl, ⟨_, _, _, _, rfl, IsIn_Is _ _ _ _ _ (IsIn_carry (S' := fun _ => True) (fun b hb => ?_) (fun _ _ => trivial) _ _ _ _ _ HI6.out)⟩, put4_below (g := w.heap.size) (o := 0) (HB6.out.trans (HB7.out.mono (by have := HS5.out; omega))) (Nat.le_refl _)⟩
        rw [put4_other _ _ _ _ _ _ _ _ (by have := hb.1; omega)]
        exact HB7.out.block b (by have := HS5.out; have := hb.2; omega)
      exact bodyPost_ret (v := .tuple #[.agg #[.int .i64 xk, .string xn, .int .i64 xs, .slice xr xn2 xc], .int .i64 0]) (by simp [results, Tryd.results12, go_sem, m0, m1, m2, m3]) rfl HF.out
    · rw [if_neg hx0] at hP2
      have HPE := Lib.hid hP2.symm
      have hxb : (x != 0) = true := by rw [bne_iff_ne]; exact hx0
      clear hP2 hx0
      go_enter Tryd.func12, Tryd.ntmps12
      go_upto_region 2 with (first
        | (go_at_call 46; refine (HC.out _).mono ?_; rintro e w5 ⟨hB5, c0, c1, c2, c3, he, hI⟩; subst he; obtain ⟨xk, xn, xs, xr, xn2, xc, e0', e1', e2', e3'⟩ := IsIn_form hI; subst e0'; subst e1'; subst e2'; subst e3'; have HB6 : Hid (Below w.heap.size w (w5.alloc (.cells #[.int .i64 xk, .string xn, .int .i64 xs, .slice xr xn2 xc] 25))) := Lib.hid ((HB0.out.trans (hB5.mono (by simp))).alloc (by have := hB5.size; simp only [World.size_alloc] at this; omega) _); have hb0 : (w5.alloc (.cells #[.int .i64 xk, .string xn, .int .i64 xs, .slice xr xn2 xc] 25)).heap[w.heap.size]? = some (.cells #[.int .i64 0, .string ⟨#[]⟩, .int .i64 0, .slice none 0 0] 25 (0, 0)) := (Below.heap_alloc _ _ _ (by have := hB5.size; simp only [World.size_alloc] at this; omega)).trans ((hB5.block _ (by simp)).trans HBX.out); have HI6 : Hid (IsIn (fun b => w.heap.size + 1 ≤ b ∧ b < w5.heap.size) (w5.alloc (.cells #[.int .i64 xk, .string xn, .int .i64 xs, .slice xr xn2 xc] 25)) t (.int .i64 xk) (.string xn) (.int .i64 xs) (.slice xr xn2 xc)) := Lib.hid (IsIn_carry (fun b hb => Below.heap_alloc _ _ _ hb.2) (fun b hb => ⟨by have := hb.1; simp only [World.size_alloc] at this; omega, hb.2⟩) _ _ _ _ _ (IsIn_lt _ _ _ _ _ hI)); have hx0 := heap_alloc_new w5 (.cells #[.int .i64 xk, .string xn, .int .i64 xs, .slice xr xn2 xc] 25); have HS5 : Hid (w.heap.size < w5.heap.size ∧ w5.heap.size < (w5.alloc (.cells #[.int .i64 xk, .string xn, .int .i64 xs, .slice xr xn2 xc] 25)).heap.size) := Lib.hid ⟨by have := hB5.size; simp only [World.size_alloc] at this; omega, by simp⟩; clear hB5 hI))
      generalize (w5.alloc (.cells #[.int .i64 xk, .string xn, .int .i64 xs, .slice xr xn2 xc] 25)) = w6 at HB6 hb0 HI6 hx0 HS5 ⊢
      have HW0 := Lib.hid hb0
      obtain ⟨⟨y0, y1, y2, y3⟩, _⟩ := box_facts hx0
      clear hb0 hx0
      go_wp2_with (go_at_call 47; refine (HV.out _ _ _ _ _ (IsIn_Is _ _ _ _ _ HI6.out)).mono ?_; rintro e w7 ⟨he, hB7⟩; subst he; have HB7 := Lib.hid hB7; have hb0 := (hB7.block w.heap.size (by have := HS5.out; omega)).trans HW0.out; clear hB7 y0 y1 y2 y3; obtain ⟨⟨m0, m1, m2, m3⟩, n0, n1, n2, n3⟩ := box_facts hb0; clear hb0)
      exact bodyPost_ret (v := .tuple #[.agg #[.int .i64 0, .string ⟨#[]⟩, .int .i64 0, .slice none 0 0], .int .i64 x]) (by simp [results, Tryd.results12, go_sem, m0, m1, m2, m3]) rfl (HZERO.out x _ HPE.out (put4_below (g := w.heap.size) (o := 0) (HB6.out.trans (HB7.out.mono (by have := HS5.out; omega))) (Nat.le_refl _)))
end Go.Proofs.YtclgcfpjhlcnfaaDoor
