import Derived.Test.YtbcpnepjojppaaaGreatDoorLawTheoryKeyxYref
namespace Go.Proofs.YtbcpnepjojppaaaGreatDoor
open Go.RowKit
def fitsS (n : ByteArray) (ks : List Tm) : Bool := decide (symI n < 21) && (decide (symLo (symI n) ≤ (ks.length : Int)) && decide ((ks.length : Int) ≤ symHi (symI n)))
def agentsS (n : ByteArray) (ks : List Tm) : Bool := if n = nNew then decide ((kidT ks 0).kind = 2) else ks.all agT
set_option maxHeartbeats 3200000 in
set_option maxRecDepth 100000 in
theorem yfits_any (t : Tm) (c0 c1 c2 c3 : Value) (w : World) (hI : Is w t c0 c1 c2 c3) :
    Calls Tryz.prog 84 #[.agg #[c0, c1, c2, c3]] w fun e w' => e = .returned (.bool (fitsS t.name t.kids)) ∧ Ext w w' := by
  obtain ⟨k, n, s, ks⟩ := t
  have hX0 : Ext w (w.alloc (.cells #[c0, c1, c2, c3] 24)) := (Ext.refl w).alloc _
  have hL := Lies_box hI 24
  simp only [Is] at hI
  obtain ⟨rfl, rfl, rfl, _, _, _, _, xa, cap, rfl, hcap, _⟩ := hI
  obtain ⟨_, a1, _, _, _, _, _, xa', cap', a3, _⟩ := Lies_mk hL
  have a3' := cells_new_at w #[.int .i64 k, .string n, .int .i64 s, .slice xa ks.length cap] 24 _ rfl 3 _ rfl
  simp only [Tm.name, Tm.kids]
  have HS := Lib.hid (rSymbols_any (w.alloc (.cells #[.int .i64 k, .string n, .int .i64 s, .slice xa ks.length cap] 24)))
  have HX0 := Lib.hid hX0
  have HA1 := Lib.hid a1
  have HA3 := Lib.hid a3'
  clear hL hX0 a1 a3 a3' hcap
  go_enter Tryz.func84, Tryz.ntmps84
  go_wp2_with (go_at_call 37; refine (HS.out).mono ?_; rintro e w1 ⟨B, he, hX, hR⟩; subst he; have HX := Lib.hid hX; have HR := Lib.hid hR; have HB1 := Lib.hid (keep_below hX _ _ HA1.out); have HB3 := Lib.hid (keep_below hX _ _ HA3.out); clear hX hR)
  go_loopw [4] (fun i wr => ∃ j : Nat, j ≤ 21 ∧ i = .int .i64 j ∧ Hid (∀ k, k < j → symNm k ≠ n) ∧ Hid (Ext w1 wr)) (fun i _ => 21 - (intOf i).toNat)
  case atStart => exact ⟨0, Nat.zero_le _, rfl, fun k hk => by omega, Ext.refl _⟩
  case round =>
    obtain ⟨j, hj, rfl, HZ, HE⟩ := hrel
    by_cases hlt : j < 21
    rotate_left
    · have hz := HZ.out
      obtain rfl : j = 21 := by omega
      have hsi : symI n = 21 := symI_is (Nat.le_refl _) hz (fun h => absurd h (by omega))
      have HV : Hid (fitsS n ks = false) := by show _ = _; unfold fitsS; rw [hsi]; rfl
      clear hz hsi
      go_wp2_with fail
      go_ret
      rw [HV.out]
      exact ⟨rfl, Ext.trans HX0.out (Ext.trans HX.out HE.out)⟩
    obtain ⟨c0, c1, c2, c3⟩ := HR.out j hlt
    obtain ⟨sn, hsn⟩ : ∃ x, symNm j = x := ⟨_, rfl⟩
    obtain ⟨sl, hsl⟩ : ∃ x, symLo j = x := ⟨_, rfl⟩
    obtain ⟨sh, hsh⟩ : ∃ x, symHi j = x := ⟨_, rfl⟩
    rw [hsn] at c0
    rw [hsl] at c1
    rw [hsh] at c2
    have d0 := keep_below HE.out _ _ c0
    have d1 := keep_below HE.out _ _ c1
    have d2 := keep_below HE.out _ _ c2
    have b1 := keep_below HE.out _ _ HB1.out
    have b3 := keep_below HE.out _ _ HB3.out
    clear c0 c1 c2 c3
    have i1 : (0 : Int) ≤ (j : Int) := by omega
    have i2 : (j : Int) < 21 := by omega
    by_cases he : sn = n
    · have q0 := sameStr he
      have hsi : symI n = j := symI_is hj HZ.out (fun _ => hsn.trans he)
      have hf : fitsS n ks = (decide (sl ≤ (ks.length : Int)) && decide ((ks.length : Int) ≤ sh)) := by
        unfold fitsS; rw [hsi, hsl, hsh, decide_eq_true hlt]; rfl
      by_cases hl : sl ≤ (ks.length : Int)
      · have q1 := decide_eq_true hl
        have HV : Hid (fitsS n ks = decide ((ks.length : Int) ≤ sh)) := by show _ = _; rw [hf, q1]; rfl
        clear hsn hsl hsh he hsi hf hl
        go_wp2_with fail
        go_quiet (fail)
        go_wp2_with fail
        go_quiet (fail)
        go_wp2_with fail
        go_ret
        rw [HV.out]
        exact ⟨rfl, Ext.trans HX0.out (Ext.trans HX.out (below_drewN (below_drewN HE.out _) _))⟩
      · have q1 := decide_eq_false hl
        have HV : Hid (fitsS n ks = false) := by show _ = _; rw [hf, q1]; rfl
        clear hsn hsl hsh he hsi hf hl
        go_wp2_with fail
        go_quiet (fail)
        go_wp2_with fail
        go_quiet (fail)
        go_wp2_with fail
        go_ret
        rw [HV.out]
        exact ⟨rfl, Ext.trans HX0.out (Ext.trans HX.out (below_drewN (below_drewN HE.out _) _))⟩
    · have q0 := otherStr he
      have HZ2 : Hid (∀ k, k < j + 1 → symNm k ≠ n) := by
        show ∀ _, _
        intro k hk
        by_cases e : k = j
        · rw [e, hsn]; exact he
        · exact HZ.out k (by omega)
      clear hsn hsl hsh he
      go_wp2_with fail
      go_quiet (fail)
      go_wp2_with fail
      go_roundw
      case rel => exact ⟨j + 1, by omega, by go_num, HZ2, below_drewN HE.out _⟩
      case measure => simp [intOf]; omega
set_option maxHeartbeats 3200000 in
set_option maxRecDepth 100000 in
theorem yagents_any (t : Tm) (c0 c1 c2 c3 : Value) (w : World) (hI : Is w t c0 c1 c2 c3) (hp : t.name = nNew → 1 ≤ t.kids.length) :
    Calls Tryz.prog 85 #[.agg #[c0, c1, c2, c3]] w fun e w' => e = .returned (.bool (agentsS t.name t.kids)) ∧ Ext w w' := by
  obtain ⟨k, n, s, ks⟩ := t
  have hX0 : Ext w (w.alloc (.cells #[c0, c1, c2, c3] 24)) := (Ext.refl w).alloc _
  simp only [Is] at hI
  obtain ⟨rfl, rfl, rfl, _, _, _, hkl, xa, cap, rfl, hcap, hR⟩ := hI
  unfold maxLen at hkl
  simp only [Tm.name, Tm.kids] at hp ⊢
  have HR := Lib.hid (Row_carry (keep_below hX0) _ _ hR)
  have HX0 := Lib.hid hX0
  clear hR hX0 hcap
  by_cases hn : n = nNew
  · have q1 : (n.toList == [110, 101, 119]) = true := by rw [strIs]; exact decide_eq_true hn
    have hl := hp hn
    have i0 : (0 : Int) < (ks.length : Int) := by omega
    obtain ⟨b', o', rfl⟩ := Row_at HR.out hl
    have hL0 := Row_get HR.out 0 hl
    rw [← kidT_eq hl] at hL0
    obtain ⟨kk, kn, ksn, kks, hkt⟩ : ∃ a b c d, kidT ks 0 = .mk a b c d := by
      generalize kidT ks 0 = u; cases u; exact ⟨_, _, _, _, rfl⟩
    rw [hkt] at hL0
    have HV : Hid (agentsS n ks = (kk == 2)) := by show _ = _; unfold agentsS; rw [if_pos hn, hkt]; rfl
    obtain ⟨d0, d1, d2, d3, y0, _, _, _, hJ⟩ := hL0
    simp only [Is] at hJ
    obtain ⟨rfl, _⟩ := hJ
    rw [Nat.zero_mul, Nat.add_zero] at y0
    clear hn hp hkt
    go_enter Tryz.func85, Tryz.ntmps85
    go_wp2_with fail
    go_ret
    rw [HV.out]
    exact ⟨rfl, HX0.out⟩
  have q1 : (n.toList == [110, 101, 119]) = false := by rw [strIs]; exact decide_eq_false hn
  have HV : Hid (agentsS n ks = ks.all agT) := by show _ = _; unfold agentsS; rw [if_neg hn]
  clear hn hp
  go_enter Tryz.func85, Tryz.ntmps85
  go_wp2_with fail
  go_loop [3] (fun i => ∃ j : Nat, j ≤ ks.length ∧ i = .int .i64 j ∧ Hid (agentsS n ks = (ks.drop j).all agT)) (fun i => ks.length - (intOf i).toNat)
  case atStart => exact ⟨0, Nat.zero_le _, rfl, HV⟩
  case round =>
    obtain ⟨j, hj, rfl, HJ⟩ := hrel
    by_cases hlt : j < ks.length
    rotate_left
    · have hd : ks.drop j = [] := List.drop_eq_nil_of_le (by omega)
      have H0 : Hid (agentsS n ks = true) := by show _ = _; rw [HJ.out, hd]; rfl
      clear hd
      go_wp2_with fail
      go_ret
      rw [H0.out]
      exact ⟨rfl, HX0.out⟩
    have hst : (ks.drop j).all agT = (agT ks[j] && (ks.drop (j + 1)).all agT) := by rw [List.drop_eq_getElem_cons hlt, List.all_cons]
    obtain ⟨kb, ko, rfl⟩ := Row_at HR.out (by omega)
    have hL := Row_get HR.out j hlt
    obtain ⟨kk, kn, ksn, kks, hkt⟩ : ∃ a b c d, ks[j] = .mk a b c d := by
      generalize ks[j] = u; cases u; exact ⟨_, _, _, _, rfl⟩
    rw [hkt] at hL hst
    obtain ⟨d0, d1, d2, d3, y0, _, y2, _, hJ⟩ := hL
    simp only [Is] at hJ
    obtain ⟨rfl, _, rfl, _⟩ := hJ
    have ha : agT (.mk kk kn ksn kks) = (decide (kk ≠ 3) && decide (ksn = 1)) := rfl
    rw [ha] at hst
    have i1 : (0 : Int) ≤ (j : Int) := by omega
    have i2 : (j : Int) < (ks.length : Int) := by omega
    by_cases hk : kk = 3
    · have q2 : (kk == 3) = true := by rw [beq_iff_eq]; exact hk
      have H0 : Hid (agentsS n ks = false) := by show _ = _; rw [HJ.out, hst, decide_eq_false (by simpa using hk)]; rfl
      clear hst ha hkt hk
      go_wp2_with fail
      go_ret
      rw [H0.out]
      exact ⟨rfl, HX0.out⟩
    have q2 : (kk == 3) = false := by rw [beq_eq_false_iff_ne]; exact hk
    by_cases hs : ksn = 1
    · have q3 : (ksn != 1) = false := by rw [bne_eq_false_iff_eq]; exact hs
      have HJ2 : Hid (agentsS n ks = (ks.drop (j + 1)).all agT) := by show _ = _; rw [HJ.out, hst, decide_eq_true hk, decide_eq_true hs]; rfl
      clear hst ha hkt hk hs
      go_wp2_with fail
      go_round
      case rel => exact ⟨j + 1, by omega, by go_num, HJ2⟩
      case measure => simp [intOf]; omega
    · have q3 : (ksn != 1) = true := by rw [bne_iff_ne]; exact hs
      have H0 : Hid (agentsS n ks = false) := by show _ = _; rw [HJ.out, hst, decide_eq_false hs, Bool.and_false, Bool.false_and]
      clear hst ha hkt hk hs
      go_wp2_with fail
      go_ret
      rw [H0.out]
      exact ⟨rfl, HX0.out⟩
theorem kd_pos : ∀ i, i < 21 → symKd i ≠ 0 := by decide
theorem kd_two : ∀ i, i < 21 → symKd i = 2 → i = 12 ∨ i = 13 ∨ i = 14 := by decide
theorem iSk : symI nSk = 12 := by kernel_rfl
theorem iShk : symI nShk = 13 := by kernel_rfl
theorem iNew : symI nNew = 14 := by kernel_rfl
theorem nm12 : symNm 12 = nSk := rfl
theorem nm13 : symNm 13 = nShk := rfl
theorem nm14 : symNm 14 = nNew := rfl
theorem ynodeE_ref (n : ByteArray) (ks : List Tm) : ynodeE n ks = if kindS n = 0 then 10 else if fitsS n ks = false then 6 else if kindS n = 2 ∧ agentsS n ks = false then 10 else 0 := by
  unfold ynodeE
  by_cases h : symI n < 21
  rotate_left
  · have e : symI n = 21 := by have := symI_le n; omega
    rw [if_neg h, if_pos (kindS_no e)]
  have hk : kindS n ≠ 0 := kd_pos _ h
  rw [if_pos h, if_neg hk]
  by_cases h1 : (ks.length : Int) < symLo (symI n)
  · have hf : fitsS n ks = false := by unfold fitsS; rw [decide_eq_false (by omega : ¬ symLo (symI n) ≤ (ks.length : Int)), Bool.false_and, Bool.and_false]
    rw [if_pos h1, if_pos hf]
  rw [if_neg h1]
  by_cases h2 : symHi (symI n) < (ks.length : Int)
  · have hf : fitsS n ks = false := by unfold fitsS; rw [decide_eq_false (by omega : ¬ (ks.length : Int) ≤ symHi (symI n)), Bool.and_false, Bool.and_false]
    rw [if_pos h2, if_pos hf]
  have hf : ¬ fitsS n ks = false := by unfold fitsS; rw [decide_eq_true h, decide_eq_true (by omega : symLo (symI n) ≤ (ks.length : Int)), decide_eq_true (by omega : (ks.length : Int) ≤ symHi (symI n))]; simp
  rw [if_neg h2, if_neg hf]
  by_cases a : n = nSk
  · subst a
    have hl : ks.length = 1 := by
      have e1 : symLo (symI nSk) = 1 := by kernel_rfl
      have e2 : symHi (symI nSk) = 1 := by kernel_rfl
      omega
    have hn : ¬ nSk = nNew := fun e => by have := congrArg symI e; rw [iSk, iNew] at this; omega
    have hk2 : kindS nSk = 2 := by kernel_rfl
    match ks, hl with
    | [x], _ =>
      have e1 : rightK nSk [x] = agT x := by unfold rightK; rw [if_pos rfl]; rfl
      have e2 : agentsS nSk [x] = agT x := by unfold agentsS; rw [if_neg hn]; simp
      rw [e1, e2, hk2]
      cases agT x <;> simp
  by_cases b : n = nShk
  · subst b
    have hl : ks.length = 2 := by
      have e1 : symLo (symI nShk) = 2 := by kernel_rfl
      have e2 : symHi (symI nShk) = 2 := by kernel_rfl
      omega
    have hn : ¬ nShk = nNew := fun e => by have := congrArg symI e; rw [iShk, iNew] at this; omega
    have hk2 : kindS nShk = 2 := by kernel_rfl
    match ks, hl with
    | [x, y], _ =>
      have e1 : rightK nShk [x, y] = (agT x && agT y) := by unfold rightK; rw [if_neg a, if_pos rfl]; rfl
      have e2 : agentsS nShk [x, y] = (agT x && agT y) := by unfold agentsS; rw [if_neg hn]; simp
      rw [e1, e2, hk2]
      cases agT x <;> cases agT y <;> simp
  by_cases c : n = nNew
  · subst c
    have hk2 : kindS nNew = 2 := by kernel_rfl
    have e1 : rightK nNew ks = decide ((kidT ks 0).kind = 2) := by unfold rightK; rw [if_neg a, if_neg b, if_pos rfl]
    have e2 : agentsS nNew ks = decide ((kidT ks 0).kind = 2) := by unfold agentsS; rw [if_pos rfl]
    rw [e1, e2, hk2]
    cases decide ((kidT ks 0).kind = 2) <;> simp
  · have e1 : rightK n ks = true := by unfold rightK; rw [if_neg a, if_neg b, if_neg c]
    have hk2 : ¬ kindS n = 2 := fun e => by
      rcases kd_two _ h e with e | e | e
      · exact a (by rw [← symI_nm h, e, nm12])
      · exact b (by rw [← symI_nm h, e, nm13])
      · exact c (by rw [← symI_nm h, e, nm14])
    rw [e1, if_pos rfl, if_neg (fun e => hk2 e.1)]
end Go.Proofs.YtbcpnepjojppaaaGreatDoor
