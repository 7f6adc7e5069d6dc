import Derived.Test.YtbcpnepjojppaaaGreatDoorLawTheoryKeyxYnf
namespace Go.Proofs.YtbcpnepjojppaaaGreatDoor
open Go.RowKit
theorem gd_kid {n : ByteArray} {s : Int} {ks : List Tm} (h : gd (.mk 3 n s ks)) {i : Nat} (hi : i < ks.length) : gd (kidT ks i) := (gd_mk h).2.2 _ (kidT_mem hi)
theorem size_kid {n : ByteArray} {s : Int} {ks : List Tm} {i : Nat} (hi : i < ks.length) : size (kidT ks i) ≤ size (.mk 3 n s ks) := by
  have := size_le_sizes (kidT_mem hi)
  have e : size (.mk 3 n s ks) = 1 + sizes ks := rfl
  omega
theorem app_two {t : Tm} {n : ByteArray} (h : isApp t n = true) (hg : gd t) (e1 : symLo (symI n) = 2) (e2 : symHi (symI n) = 2) : t.kids.length = 2 ∧ (∀ i, i < 2 → gd (kidT t.kids i) ∧ size (kidT t.kids i) ≤ size t) := by
  obtain ⟨s, ks, rfl⟩ := isApp_mk h
  have hl := ar2 (gd_mk hg).2.1 e1 e2
  refine ⟨hl, fun i hi => ?_⟩
  have hi2 : i < ks.length := by omega
  exact ⟨gd_kid hg hi2, size_kid hi2⟩
theorem openT_gd {n : ByteArray} {s : Int} {us : List Tm} (h : isDes n = true) (hg : gd (.mk 3 n s us)) : gd (openT n s us) ∧ size (openT n s us) ≤ 1 + sizes us := by
  have hl : 0 < us.length := by
    have hy := (gd_mk hg).2.1
    rcases (isDes_iff n).1 h with rfl | rfl | rfl | rfl | rfl | rfl
    · have := ln_fst hy; omega
    · have := ln_snd hy; omega
    · have := ln_dec hy; omega
    · have := ln_adec hy; omega
    · have := ln_open hy; omega
    · have := ln_read hy; omega
  have hk := gd_kid hg hl
  have hs := size_le_sizes (kidT_mem hl)
  have two : ∀ (m : ByteArray) (i : Nat), isApp (kidT us 0) m = true → symLo (symI m) = 2 → symHi (symI m) = 2 → i < 2 → gd (kidT (kidT us 0).kids i) ∧ size (kidT (kidT us 0).kids i) ≤ 1 + sizes us := fun m i h1 h2 h3 h4 => by
    have := (app_two h1 hk h2 h3).2 i h4
    exact ⟨this.1, by omega⟩
  unfold openT
  by_cases c1 : n = yFst ∧ isApp (kidT us 0) yPair = true
  · rw [if_pos c1]; exact two _ 0 c1.2 (by kernel_rfl) (by kernel_rfl) (by omega)
  rw [if_neg c1]
  by_cases c2 : n = ySnd ∧ isApp (kidT us 0) yPair = true
  · rw [if_pos c2]; exact two _ 1 c2.2 (by kernel_rfl) (by kernel_rfl) (by omega)
  rw [if_neg c2]
  by_cases c3 : n = yDec ∧ isApp (kidT us 0) yEnc = true ∧ cmpT (kidT (kidT us 0).kids 1) (kidT us 1) = 0
  · rw [if_pos c3]; exact two _ 0 c3.2.1 (by kernel_rfl) (by kernel_rfl) (by omega)
  rw [if_neg c3]
  by_cases c4 : n = yAdec ∧ isApp (kidT us 0) yAenc = true ∧ pubB (kidT (kidT us 0).kids 1) (kidT us 1) = true
  · rw [if_pos c4]; exact two _ 0 c4.2.1 (by kernel_rfl) (by kernel_rfl) (by omega)
  rw [if_neg c4]
  by_cases c5 : n = yOpen ∧ isApp (kidT us 0) ySign = true ∧ pubB (kidT us 1) (kidT (kidT us 0).kids 1) = true
  · rw [if_pos c5]; exact two _ 0 c5.2.1 (by kernel_rfl) (by kernel_rfl) (by omega)
  rw [if_neg c5]
  by_cases c6 : n = yRead ∧ isApp (kidT us 0) ySign = true
  · rw [if_pos c6]; exact two _ 0 c6.2 (by kernel_rfl) (by kernel_rfl) (by omega)
  rw [if_neg c6]
  exact ⟨hg, Nat.le_of_eq rfl⟩
theorem addT_y (t : Tm) : ∀ u ∈ addT t, ynodesE t = 0 → ynodesE u = 0 := by
  refine Tm.rec (motive_1 := fun t => ∀ u ∈ addT t, ynodesE t = 0 → ynodesE u = 0) (motive_2 := fun ts => ∀ u ∈ addsT ts, ynodesL ts = 0 → ynodesE u = 0) ?_ ?_ ?_ t
  · intro k n s ks ih u hu h
    rw [addT] at hu
    by_cases hs : sumB (.mk k n s ks) = true
    · rw [if_pos hs] at hu
      have hk : k = 3 := by
        rw [sumB_mk] at hs
        simp only [Bool.and_eq_true, decide_eq_true_eq] at hs
        exact hs.1
      subst hk
      rw [ynodesE_mk, if_pos rfl] at h
      by_cases h0 : ynodeE n ks = 0
      · rw [if_pos h0] at h; exact ih u hu h
      · rw [if_neg h0] at h; exact absurd h h0
    · rw [if_neg hs, List.mem_singleton] at hu
      rw [hu]; exact h
  · intro u hu; simp [addsT] at hu
  · intro t ts h1 h2 u hu h
    rw [addsT] at hu
    rw [ynodesL] at h
    by_cases h0 : ynodesE t = 0
    · rw [if_pos h0] at h
      rcases List.mem_append.1 hu with hu | hu
      · exact h1 u hu h0
      · exact h2 u hu h
    · rw [if_neg h0] at h; exact absurd h h0
theorem addsT_y : ∀ (ts : List Tm) (u : Tm), u ∈ addsT ts → (∀ t ∈ ts, ynodesE t = 0) → ynodesE u = 0
  | [], u, hu, _ => by simp [addsT] at hu
  | t :: ts, u, hu, h => by
    rw [addsT] at hu
    rcases List.mem_append.1 hu with hu | hu
    · exact addT_y t u hu (h t (List.mem_cons_self ..))
    · exact addsT_y ts u hu fun v hv => h v (List.mem_cons_of_mem _ hv)
theorem sumsR_gd {us : List Tm} (h : ∀ u ∈ us, gd u) : ∀ u ∈ sumsR us, gd u := fun u hu =>
  ⟨(sumsR_mem hu).2.1 (nodesL_all fun t ht => (h t ht).1), addsT_y us u ((sumsR_odd us).sub u hu) fun t ht => (h t ht).2⟩
theorem sumTm_gd {K : List Tm} (h : ∀ t ∈ K, gd t) (hv : validE (sumTm K) = 0) : gd (sumTm K) := by
  refine ⟨(valid_parts hv).1, ?_⟩
  match K, h, hv with
  | [], _, _ => exact (by kernel_rfl : ynodesE (sumTm []) = 0)
  | [t], h, _ => exact (h t (List.mem_cons_self ..)).2
  | t :: u :: K, h, hv =>
    have e : sumTm (t :: u :: K) = .mk 3 yXor 0 (t :: u :: K) := rfl
    rw [e] at hv ⊢
    have hn := (nodesE_parts (valid_parts hv).1).1
    have h8 : (t :: u :: K).length ≤ 8 := by
      have hi : nodeE (.mk 3 yXor 0 (t :: u :: K)) = if 8 < (t :: u :: K).length then 3 else 0 := rfl
      rw [hi] at hn
      by_cases h8 : 8 < (t :: u :: K).length
      · rw [if_pos h8] at hn; exact absurd hn (by decide)
      · omega
    have e1 : symLo (symI yXor) = 2 := by kernel_rfl
    have e2 : symHi (symI yXor) = 8 := by kernel_rfl
    have hy : ynodeE yXor (t :: u :: K) = 0 := ynodeE_mk (by decide) (by rw [e1]; simp only [List.length_cons]; omega) (by rw [e2]; omega) (by kernel_rfl)
    rw [ynodesE_mk, if_pos rfl, if_pos hy]
    exact ynodesL_all fun v hv => (h v hv).2
theorem sumP_gd {us : List Tm} (h : ∀ u ∈ us, gd u) (h0 : (sumP us).2 = 0) : gd (sumP us).1 := by
  unfold sumP at h0 ⊢
  by_cases c1 : listE us = 0
  · rw [if_pos c1] at h0 ⊢
    by_cases c2 : validE (sumTm (sumsR us)) = 0
    · rw [if_pos c2]; exact sumTm_gd (sumsR_gd h) c2
    · rw [if_neg c2] at h0; exact absurd h0 c2
  · rw [if_neg c1] at h0; exact absurd h0 c1
theorem sumP_size (us : List Tm) : size (sumP us).1 ≤ 400 := by
  unfold sumP
  by_cases c1 : listE us = 0
  · rw [if_pos c1]
    by_cases c2 : validE (sumTm (sumsR us)) = 0
    · rw [if_pos c2]; exact (valid_parts c2).2.1
    · rw [if_neg c2]; exact (by decide : size zilT ≤ 400)
  · rw [if_neg c1]; exact (by decide : size zilT ≤ 400)
theorem occT_y (t : Tm) : ∀ (m : Int), ∀ p ∈ occT t m, ynodesE t = 0 → ynodesE p.1 = 0 := by
  refine Tm.rec (motive_1 := fun t => ∀ (m : Int), ∀ p ∈ occT t m, ynodesE t = 0 → ynodesE p.1 = 0) (motive_2 := fun ts => ∀ (m : Int), ∀ p ∈ occL ts m, ynodesL ts = 0 → ynodesE p.1 = 0) ?_ ?_ ?_ t
  · intro k n s ks ih m p hp h
    rw [occT] at hp
    by_cases hs : expo (.mk k n s ks) = true
    · rw [if_pos hs] at hp
      have hk : k = 3 := by
        rw [expo_mk] at hs
        simp only [Bool.and_eq_true, decide_eq_true_eq] at hs
        exact hs.1
      subst hk
      rw [ynodesE_mk, if_pos rfl] at h
      by_cases h0 : ynodeE n ks = 0
      · rw [if_pos h0] at h; exact ih _ p hp h
      · rw [if_neg h0] at h; exact absurd h h0
    · rw [if_neg hs, List.mem_singleton] at hp
      rw [hp]; exact h
  · intro m p hp; simp [occL] at hp
  · intro t ts h1 h2 m p hp h
    rw [occL] at hp
    rw [ynodesL] at h
    by_cases h0 : ynodesE t = 0
    · rw [if_pos h0] at h
      rcases List.mem_append.1 hp with hp | hp
      · exact h1 m p hp h0
      · exact h2 m p hp h
    · rw [if_neg h0] at h; exact absurd h h0
theorem arityT_gd (t : Tm) : ynodesE t = 0 → arityT t = true := by
  refine Tm.rec (motive_1 := fun t => ynodesE t = 0 → arityT t = true) (motive_2 := fun ts => ynodesL ts = 0 → arityL ts = true) ?_ ?_ ?_ t
  · intro k n s ks ih h
    rw [arityT]
    by_cases hs : expo (.mk k n s ks) = true
    · rw [if_pos hs]
      have hs2 := hs
      rw [expo_mk] at hs2
      simp only [Bool.and_eq_true, decide_eq_true_eq, Bool.or_eq_true] at hs2
      obtain ⟨rfl, hnm⟩ := hs2
      rw [ynodesE_mk, if_pos rfl] at h
      by_cases h0 : ynodeE n ks = 0
      · rw [if_pos h0] at h
        rw [ih h, Bool.and_true, itsKids_mk]
        simp only [strIs, decide_eq_true_eq] at hnm ⊢
        have e1 : symLo (symI nMul) = 2 := by kernel_rfl
        have e2 : symHi (symI nMul) = 8 := by kernel_rfl
        have e3 : symLo (symI nInv) = 1 := by kernel_rfl
        have e4 : symHi (symI nInv) = 1 := by kernel_rfl
        have e5 : symLo (symI nOne) = 0 := by kernel_rfl
        have e6 : symHi (symI nOne) = 0 := by kernel_rfl
        by_cases c1 : n = ⟨#[109, 117, 108]⟩
        · rw [if_pos (by simpa using c1)]
          have := arY (show ynodeE nMul ks = 0 by rw [← show n = nMul from c1]; exact h0) e1 e2
          exact decide_eq_true (by omega)
        rw [if_neg (by simpa using c1)]
        by_cases c2 : n = ⟨#[105, 110, 118]⟩
        · rw [if_pos (by simpa using c2)]
          have := arY (show ynodeE nInv ks = 0 by rw [← show n = nInv from c2]; exact h0) e3 e4
          exact decide_eq_true (by omega)
        rw [if_neg (by simpa using c2)]
        have c3 : n = nOne := by
          rcases hnm with (h | h) | h
          · exact absurd h c1
          · exact absurd h c2
          · exact h
        have := arY (show ynodeE nOne ks = 0 by rw [← c3]; exact h0) e5 e6
        exact decide_eq_true (by omega)
      · rw [if_neg h0] at h; exact absurd h h0
    · rw [if_neg hs]
  · intro _; rfl
  · intro t ts h1 h2 h
    rw [ynodesL] at h
    by_cases h0 : ynodesE t = 0
    · rw [if_pos h0] at h
      rw [arityL, h1 h0, h2 h]; rfl
    · rw [if_neg h0] at h; exact absurd h h0
theorem ofP_nil {t : Tm} (h : ¬ (ofP t).2 = 0) : (ofP t).1 = [] := by
  unfold ofP at h ⊢
  by_cases hv : validE t = 0
  · rw [if_pos hv] at h ⊢
    by_cases ha : arityT t = true
    · rw [if_pos ha] at h ⊢
      by_cases hl : 200 < (addsP [] (occT t 1)).length
      · rw [if_pos hl]
      · rw [if_neg hl] at h; exact absurd rfl h
    · rw [if_neg ha]
  · rw [if_neg hv]
theorem ofP_gd {t : Tm} (hg : gd t) : ∀ p ∈ (ofP t).1, gd p.1 := fun p hp => by
  by_cases h0 : (ofP t).2 = 0
  rotate_left
  · rw [ofP_nil h0] at hp; simp at hp
  have h : ofP t = ((ofP t).1, 0) := Prod.ext rfl h0
  obtain ⟨_, _, h3⟩ := ofP_ok h
  refine ⟨(valid_parts (pwE_ok ((powE_ok h3).2.1 p hp)).1).1, ?_⟩
  have h2 := h
  unfold ofP at h2
  by_cases hv : validE t = 0
  rotate_left
  · rw [if_neg hv] at h2; exact absurd (congrArg Prod.snd h2) hv
  rw [if_pos hv, if_pos (arityT_gd t hg.2)] at h2
  by_cases hl : 200 < (addsP [] (occT t 1)).length
  · rw [if_pos hl] at h2; exact absurd (show (3 : Int) = 0 from congrArg Prod.snd h2) (by decide)
  rw [if_neg hl] at h2
  have e : addsP [] (occT t 1) = (ofP t).1 := by
    unfold ofP
    rw [if_pos hv, if_pos (arityT_gd t hg.2), if_neg hl]
  obtain ⟨_, b2, _⟩ := addsP_norm (occT t 1) normP_nil (fun p hp => by rcases (occT_one t 1 (Or.inl rfl) p hp).1 with e | e <;> rw [e] <;> decide)
  rw [e] at b2
  rcases b2 p hp with ⟨q, hq, e⟩ | ⟨q, hq, _⟩
  · rw [e]; exact occT_y t 1 q hq hg.2
  · simp at hq
theorem inv_gd {t : Tm} (h : gd t) : gd (tInv t) := by
  refine ⟨nodes_inv h.1, ?_⟩
  have hy : ynodeE nInv [t] = 0 := by kernel_rfl
  rw [show tInv t = .mk 3 nInv 0 [t] from rfl, ynodesE_mk, if_pos rfl, if_pos hy, ynodesL, if_pos h.2, ynodesL]
theorem prodT_gd {l : List Tm} (h8 : l.length ≤ 8) (h : ∀ t ∈ l, gd t) : gd (prodT l) := by
  refine ⟨nodes_prod h8 fun t ht => (h t ht).1, ?_⟩
  match l, h8, h with
  | [], _, _ => exact (by kernel_rfl : ynodesE (prodT []) = 0)
  | [t], _, h => exact (h t (List.mem_cons_self ..)).2
  | t :: u :: K, h8, h =>
    have e1 : symLo (symI nMul) = 2 := by kernel_rfl
    have e2 : symHi (symI nMul) = 8 := by kernel_rfl
    have hy : ynodeE nMul (t :: u :: K) = 0 := ynodeE_mk (by decide) (by rw [e1]; simp only [List.length_cons]; omega) (by rw [e2]; omega) (by kernel_rfl)
    rw [show prodT (t :: u :: K) = .mk 3 nMul 0 (t :: u :: K) from rfl, ynodesE_mk, if_pos rfl, if_pos hy]
    exact ynodesL_all fun v hv => (h v hv).2
theorem termP_gd {l : List Pw} (h : ∀ p ∈ l, gd p.1) (h0 : (termP l).2 = 0) : gd (termP l).1 := by
  unfold termP at h0 ⊢
  by_cases c0 : powE 1000 l = 0
  · rw [if_pos c0] at h0 ⊢
    by_cases c1 : 8 < absS l
    · rw [if_pos c1] at h0; exact absurd h0 (by decide)
    rw [if_neg c1] at h0 ⊢
    by_cases c2 : validE (prodT (posO l ++ negO l)) = 0
    · rw [if_pos c2]
      refine prodT_gd (by rw [List.length_append, ops_len]; omega) fun u hu => ?_
      rcases List.mem_append.1 hu with hu | hu
      · obtain ⟨p, hp, rfl⟩ := mem_posO hu; exact h p hp
      · obtain ⟨p, hp, rfl⟩ := mem_negO hu; exact inv_gd (h p hp)
    · rw [if_neg c2] at h0; exact absurd h0 c2
  · rw [if_neg c0] at h0; exact absurd h0 c0
theorem termP_sz (l : List Pw) : size (termP l).1 ≤ 400 := by
  unfold termP
  by_cases c0 : powE 1000 l = 0
  · rw [if_pos c0]
    by_cases c1 : 8 < absS l
    · rw [if_pos c1]; exact (by decide : size zilT ≤ 400)
    rw [if_neg c1]
    by_cases c2 : validE (prodT (posO l ++ negO l)) = 0
    · rw [if_pos c2]; exact (valid_parts c2).2.1
    · rw [if_neg c2]; exact (by decide : size zilT ≤ 400)
  · rw [if_neg c0]; exact (by decide : size zilT ≤ 400)
theorem prodU_gd {t : Tm} (hg : gd t) (h0 : (prodU t).2 = 0) : gd (prodU t).1 := by
  unfold prodU at h0 ⊢
  by_cases c : (ofP t).2 = 0
  · rw [if_pos c] at h0 ⊢; exact termP_gd (ofP_gd hg) h0
  · rw [if_neg c] at h0; exact absurd h0 c
theorem prodU_size (t : Tm) : size (prodU t).1 ≤ 400 := by
  unfold prodU
  by_cases c : (ofP t).2 = 0
  · rw [if_pos c]; exact termP_sz _
  · rw [if_neg c]; exact (by decide : size zilT ≤ 400)
theorem factU_gd {b : Tm} (hg : gd b) : gd (factU b).1 ∧ size (factU b).1 ≤ size b ∧ ∀ p ∈ (factU b).2.1, gd p.1 := by
  unfold factU
  by_cases c : isApp b yExp = true
  · rw [if_pos c]
    have h2 := (app_two c hg (by kernel_rfl) (by kernel_rfl)).2
    exact ⟨(h2 0 (by omega)).1, (h2 0 (by omega)).2, ofP_gd (h2 1 (by omega)).1⟩
  · rw [if_neg c]; exact ⟨hg, Nat.le_refl _, fun p hp => by simp at hp⟩
theorem addsP_gd {a b : List Pw} (ha : powE 1000 a = 0) (hb : powE 1000 b = 0) (hga : ∀ p ∈ a, gd p.1) (hgb : ∀ p ∈ b, gd p.1) : ∀ p ∈ addsP a b, gd p.1 := fun p hp => by
  obtain ⟨_, h1, h2⟩ := powE_ok ha
  obtain ⟨_, h3, _⟩ := powE_ok hb
  obtain ⟨_, b2, _⟩ := addsP_norm b (l := a) ⟨h2, fun p hp => (pwE_ok (h1 p hp)).2.2.1⟩ fun p hp => (pwE_ok (h3 p hp)).2.2.1
  rcases b2 p hp with ⟨q, hq, e⟩ | ⟨q, hq, e⟩
  · rw [e]; exact hgb q hq
  · rw [e]; exact hga q hq
theorem mulP_gd {a b : List Pw} (hga : ∀ p ∈ a, gd p.1) (hgb : ∀ p ∈ b, gd p.1) : ∀ p ∈ (mulP a b).1, gd p.1 := fun p hp => by
  unfold mulP at hp
  by_cases c0 : powE 1000 a = 0
  · rw [if_pos c0] at hp
    by_cases c1 : powE 1000 b = 0
    · rw [if_pos c1] at hp
      by_cases c2 : rangeE (addsP a b) = 0
      · rw [if_pos c2] at hp; exact addsP_gd c0 c1 hga hgb p hp
      · rw [if_neg c2] at hp; simp at hp
    · rw [if_neg c1] at hp; simp at hp
  · rw [if_neg c0] at hp; simp at hp
theorem powM_gd {b : Tm} {l : List Pw} (hb : gd b) (hl : ∀ p ∈ l, gd p.1) (h0 : (powM b l).2 = 0) : gd (powM b l).1 := by
  unfold powM at h0 ⊢
  by_cases c0 : l.length = 0
  · rw [if_pos c0]; exact hb
  rw [if_neg c0] at h0 ⊢
  by_cases c1 : (termP l).2 = 0
  · rw [if_pos c1]
    have ht := termP_gd hl c1
    exact gd_of (by kernel_rfl) (by kernel_rfl) fun k hk => by
      simp only [List.mem_cons, List.not_mem_nil, or_false] at hk
      rcases hk with rfl | rfl
      · exact hb
      · exact ht
  · rw [if_neg c1] at h0; exact absurd h0 c1
theorem powM_size (b : Tm) (l : List Pw) : size (powM b l).1 ≤ 401 + size b := by
  unfold powM
  by_cases c0 : l.length = 0
  · rw [if_pos c0]; simp only; omega
  rw [if_neg c0]
  by_cases c1 : (termP l).2 = 0
  · rw [if_pos c1]
    have := termP_sz l
    simp only [size, sizes]; omega
  · rw [if_neg c1]
    have : size zilT = 1 := rfl
    simp only; omega
theorem powU_gd {b e : Tm} (hb : gd b) (he : gd e) (h0 : (powU b e).2 = 0) : gd (powU b e).1 := by
  obtain ⟨f1, _, f3⟩ := factU_gd hb
  unfold powU at h0 ⊢
  by_cases c0 : (factU b).2.2 = 0
  · rw [if_pos c0] at h0 ⊢
    by_cases c1 : (ofP e).2 = 0
    · rw [if_pos c1] at h0 ⊢
      by_cases c2 : (mulP (factU b).2.1 (ofP e).1).2 = 0
      · rw [if_pos c2] at h0 ⊢; exact powM_gd f1 (mulP_gd f3 (ofP_gd he)) h0
      · rw [if_neg c2] at h0; exact absurd h0 c2
    · rw [if_neg c1] at h0; exact absurd h0 c1
  · rw [if_neg c0] at h0; exact absurd h0 c0
theorem powU_size {b : Tm} (e : Tm) (hb : gd b) : size (powU b e).1 ≤ 401 + size b := by
  obtain ⟨_, f2, _⟩ := factU_gd hb
  have hz : size zilT = 1 := rfl
  unfold powU
  by_cases c0 : (factU b).2.2 = 0
  · rw [if_pos c0]
    by_cases c1 : (ofP e).2 = 0
    · rw [if_pos c1]
      by_cases c2 : (mulP (factU b).2.1 (ofP e).1).2 = 0
      · rw [if_pos c2]; have := powM_size (factU b).1 (mulP (factU b).2.1 (ofP e).1).1; omega
      · rw [if_neg c2]; simp only; omega
    · rw [if_neg c1]; simp only; omega
  · rw [if_neg c0]; simp only; omega
theorem redU_gd {n : ByteArray} {s : Int} {us : List Tm} (hg : gd (.mk 3 n s us)) (h0 : (redU n s us).2 = 0) : gd (redU n s us).1 := by
  have hk := (gd_mk hg).2.2
  unfold redU at h0 ⊢
  by_cases c1 : isDes n = true
  · rw [if_pos c1]; exact (openT_gd c1 hg).1
  rw [if_neg c1] at h0 ⊢
  by_cases c2 : n = yXor
  · rw [if_pos c2] at h0 ⊢; exact sumP_gd hk h0
  rw [if_neg c2] at h0 ⊢
  by_cases c3 : n = nMul ∨ n = nInv ∨ n = nOne
  · rw [if_pos c3] at h0 ⊢; exact prodU_gd hg h0
  rw [if_neg c3] at h0 ⊢
  by_cases c4 : n = yExp
  · subst c4
    have hl := ln_exp (gd_mk hg).2.1
    rw [if_pos rfl] at h0 ⊢
    exact powU_gd (hk _ (kidT_mem (by omega))) (hk _ (kidT_mem (by omega))) h0
  · rw [if_neg c4]; exact hg
theorem redU_size {n : ByteArray} {s : Int} {us : List Tm} (hg : gd (.mk 3 n s us)) : size (redU n s us).1 ≤ 401 + sizes us := by
  unfold redU
  by_cases c1 : isDes n = true
  · rw [if_pos c1]; have := (openT_gd c1 hg).2; simp only; omega
  rw [if_neg c1]
  by_cases c2 : n = yXor
  · rw [if_pos c2]; have := sumP_size us; omega
  rw [if_neg c2]
  by_cases c3 : n = nMul ∨ n = nInv ∨ n = nOne
  · rw [if_pos c3]; have := prodU_size (.mk 3 n s us); omega
  rw [if_neg c3]
  by_cases c4 : n = yExp
  · subst c4
    have hl := ln_exp (gd_mk hg).2.1
    rw [if_pos rfl]
    have h1 := powU_size (kidT us 1) ((gd_mk hg).2.2 _ (kidT_mem (show 0 < us.length by omega)))
    have h2 := size_le_sizes (kidT_mem (show 0 < us.length by omega))
    omega
  · rw [if_neg c4]; simp only [size]; omega
theorem gd_like {n : ByteArray} {s : Int} {ks us : List Tm} (hg : gd (.mk 3 n s ks)) (hl : us.length = ks.length) (hu : ∀ u ∈ us, gd u) (hsame : ∀ i (h : i < ks.length), ¬ (ks[i]).kind = 3 → us[i]? = some ks[i]) : gd (.mk 3 n s us) := by
  obtain ⟨h1, h2, h3⟩ := gd_mk hg
  refine gd_of ?_ ?_ hu
  · rw [nodeE] at h1 ⊢; rw [hl]; exact h1
  · obtain ⟨a, b, c, d⟩ := ynodeE_ok h2
    refine ynodeE_mk a (by rw [hl]; exact b) (by rw [hl]; exact c) ?_
    have hp := kidsPre_of b
    have hk : ∀ i, i < ks.length → ¬ (kidT ks i).kind = 3 → kidT us i = kidT ks i := fun i hi hn => by
      rw [kidT_eq hi] at hn ⊢
      have := hsame i hi hn
      rw [kidT_eq (by omega)]
      rw [List.getElem?_eq_getElem (by omega)] at this
      exact Option.some.inj this
    have hag : ∀ i, i < ks.length → agT (kidT ks i) = true → agT (kidT us i) = true := fun i hi ha => by
      rw [hk i hi (fun e => by simp [agT, e] at ha)]; exact ha
    unfold rightK at d ⊢
    by_cases c1 : n = nSk
    · rw [if_pos c1] at d ⊢; exact hag 0 (by have := hp.1 c1; omega) d
    rw [if_neg c1] at d ⊢
    by_cases c2 : n = nShk
    · rw [if_pos c2, Bool.and_eq_true] at d ⊢
      have := hp.2.1 c2
      exact ⟨hag 0 (by omega) d.1, hag 1 (by omega) d.2⟩
    rw [if_neg c2] at d ⊢
    by_cases c3 : n = nNew
    · rw [if_pos c3] at d ⊢
      have := hp.2.2 c3
      have hkd : (kidT ks 0).kind = 2 := of_decide_eq_true d
      rw [hk 0 (by omega) (by rw [hkd]; decide)]; exact d
    rw [if_neg c3]
theorem nrm_leaf {t : Tm} (h : ¬ t.kind = 3) : nrmT t = (t, 0) := by
  obtain ⟨k, n, s, ks⟩ := t
  rw [nrmT_mk, if_neg (show ¬ k = 3 from h)]
mutual
theorem nrm_gd : ∀ t : Tm, gd t → ((nrmT t).2 = 0 → gd (nrmT t).1) ∧ size (nrmT t).1 ≤ 401 * size t
  | .mk k n s ks, hg => by
    have hz : size zilT = 1 := rfl
    have hsk : size (.mk k n s ks) = 1 + sizes ks := rfl
    rw [nrmT_mk]
    by_cases hk : k = 3
    rotate_left
    · rw [if_neg hk]; exact ⟨fun _ => hg, by simp only; omega⟩
    subst hk
    rw [if_pos rfl]
    have ihl := nrmL_gd ks (gd_mk hg).2.2
    by_cases h0 : (nrmL ks).2 = 0
    rotate_left
    · rw [if_neg h0]; exact ⟨fun e => absurd e h0, by simp only; omega⟩
    rw [if_pos h0]
    have ha := nrmL_all h0
    have e := nrmL_ok ha
    have hlike : gd (.mk 3 n s (nrmL ks).1) := gd_like hg (by rw [e]; simp) (ihl.1 h0) (fun i hi hn => by rw [e]; simp [hi, nrm_leaf hn])
    exact ⟨fun hr => redU_gd hlike hr, by have := redU_size hlike; have := ihl.2; omega⟩
theorem nrmL_gd : ∀ l : List Tm, (∀ t ∈ l, gd t) → ((nrmL l).2 = 0 → ∀ u ∈ (nrmL l).1, gd u) ∧ sizes (nrmL l).1 ≤ 401 * sizes l
  | [], _ => by rw [nrmL]; exact ⟨fun _ u hu => by simp at hu, by simp [sizes]⟩
  | t :: l, h => by
    have h1 := nrm_gd t (h t (List.mem_cons_self ..))
    have h2 := nrmL_gd l fun u hu => h u (List.mem_cons_of_mem _ hu)
    rw [nrmL]
    by_cases c1 : (nrmT t).2 = 0
    · rw [if_pos c1]
      by_cases c2 : (nrmL l).2 = 0
      · rw [if_pos c2]
        refine ⟨fun _ u hu => ?_, by simp only [sizes]; omega⟩
        rcases List.mem_cons.1 hu with rfl | hu
        · exact h1.1 c1
        · exact h2.1 c2 u hu
      · rw [if_neg c2]; exact ⟨fun e => absurd e c2, by simp [sizes]⟩
    · rw [if_neg c1]; exact ⟨fun e => absurd e c1, by simp [sizes]⟩
end
end Go.Proofs.YtbcpnepjojppaaaGreatDoor
