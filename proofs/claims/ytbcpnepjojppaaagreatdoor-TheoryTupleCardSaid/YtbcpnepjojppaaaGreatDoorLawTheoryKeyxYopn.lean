import Derived.Test.YtbcpnepjojppaaaGreatDoorLawTheoryKeyxYpub
namespace Go.Proofs.YtbcpnepjojppaaaGreatDoor
open Go.RowKit
theorem Is_row {w : World} {k s : Int} {n : ByteArray} {us : List Tm} {c0 c1 c2 : Value} {xa : Option Addr} {l cap : Nat} (h : Is w (.mk k n s us) c0 c1 c2 (.slice xa l cap)) : l = us.length ∧ l ≤ cap ∧ Row w us xa := by
  simp only [Is] at h
  obtain ⟨_, _, _, _, _, _, _, ya, yc, e, h4, h5⟩ := h
  simp only [Value.slice.injEq] at e
  obtain ⟨rfl, rfl, rfl⟩ := e
  exact ⟨rfl, h4, h5⟩
theorem Lies_kids {w : World} {k s : Int} {n : ByteArray} {ks : List Tm} {b o : Nat} (h : Lies w (.mk k n s ks) b o) (h0 : 0 < ks.length) : ∃ cb co cc, w.cell? ⟨b, o + 3, none⟩ = some (.slice (some ⟨cb, co, none⟩) ks.length cc) ∧ ∀ i, i < ks.length → Lies w (kidT ks i) cb (co + i * 4) := by
  obtain ⟨_, _, _, _, _, _, _, xa, cap, g3, _, hR⟩ := Lies_mk h
  obtain ⟨cb, co, rfl⟩ := Row_at hR h0
  exact ⟨cb, co, cap, g3, fun i hi => by rw [kidT_eq hi]; exact Row_get hR i hi⟩
theorem openT_fst (s : Int) (us : List Tm) : openT yFst s us = if isApp (kidT us 0) yPair = true then kidT (kidT us 0).kids 0 else .mk 3 yFst s us := by
  unfold openT
  by_cases h : isApp (kidT us 0) yPair = true
  · rw [if_pos ⟨rfl, h⟩, if_pos h]
  · rw [if_neg (fun e => h e.2), if_neg h, if_neg (fun e => absurd e.1 (by decide)), if_neg (fun e => absurd e.1 (by decide)), if_neg (fun e => absurd e.1 (by decide)), if_neg (fun e => absurd e.1 (by decide)), if_neg (fun e => absurd e.1 (by decide))]
theorem openT_snd (s : Int) (us : List Tm) : openT ySnd s us = if isApp (kidT us 0) yPair = true then kidT (kidT us 0).kids 1 else .mk 3 ySnd s us := by
  unfold openT
  by_cases h : isApp (kidT us 0) yPair = true
  · rw [if_neg (fun e => absurd e.1 (by decide)), if_pos ⟨rfl, h⟩, if_pos h]
  · rw [if_neg (fun e => absurd e.1 (by decide)), if_neg (fun e => h e.2), if_neg h, if_neg (fun e => absurd e.1 (by decide)), if_neg (fun e => absurd e.1 (by decide)), if_neg (fun e => absurd e.1 (by decide)), if_neg (fun e => absurd e.1 (by decide))]
theorem openT_dec (s : Int) (us : List Tm) : openT yDec s us = if isApp (kidT us 0) yEnc = true ∧ cmpT (kidT (kidT us 0).kids 1) (kidT us 1) = 0 then kidT (kidT us 0).kids 0 else .mk 3 yDec s us := by
  unfold openT
  by_cases h : isApp (kidT us 0) yEnc = true ∧ cmpT (kidT (kidT us 0).kids 1) (kidT us 1) = 0
  · rw [if_neg (fun e => absurd e.1 (by decide)), if_neg (fun e => absurd e.1 (by decide)), if_pos ⟨rfl, h⟩, if_pos h]
  · rw [if_neg (fun e => absurd e.1 (by decide)), if_neg (fun e => absurd e.1 (by decide)), if_neg (fun e => h e.2), if_neg h, if_neg (fun e => absurd e.1 (by decide)), if_neg (fun e => absurd e.1 (by decide)), if_neg (fun e => absurd e.1 (by decide))]
theorem openT_adec (s : Int) (us : List Tm) : openT yAdec s us = if isApp (kidT us 0) yAenc = true ∧ pubB (kidT (kidT us 0).kids 1) (kidT us 1) = true then kidT (kidT us 0).kids 0 else .mk 3 yAdec s us := by
  unfold openT
  by_cases h : isApp (kidT us 0) yAenc = true ∧ pubB (kidT (kidT us 0).kids 1) (kidT us 1) = true
  · rw [if_neg (fun e => absurd e.1 (by decide)), if_neg (fun e => absurd e.1 (by decide)), if_neg (fun e => absurd e.1 (by decide)), if_pos ⟨rfl, h⟩, if_pos h]
  · rw [if_neg (fun e => absurd e.1 (by decide)), if_neg (fun e => absurd e.1 (by decide)), if_neg (fun e => absurd e.1 (by decide)), if_neg (fun e => h e.2), if_neg h, if_neg (fun e => absurd e.1 (by decide)), if_neg (fun e => absurd e.1 (by decide))]
theorem openT_open (s : Int) (us : List Tm) : openT yOpen s us = if isApp (kidT us 0) ySign = true ∧ pubB (kidT us 1) (kidT (kidT us 0).kids 1) = true then kidT (kidT us 0).kids 0 else .mk 3 yOpen s us := by
  unfold openT
  by_cases h : isApp (kidT us 0) ySign = true ∧ pubB (kidT us 1) (kidT (kidT us 0).kids 1) = true
  · rw [if_neg (fun e => absurd e.1 (by decide)), if_neg (fun e => absurd e.1 (by decide)), if_neg (fun e => absurd e.1 (by decide)), if_neg (fun e => absurd e.1 (by decide)), if_pos ⟨rfl, h⟩, if_pos h]
  · rw [if_neg (fun e => absurd e.1 (by decide)), if_neg (fun e => absurd e.1 (by decide)), if_neg (fun e => absurd e.1 (by decide)), if_neg (fun e => absurd e.1 (by decide)), if_neg (fun e => h e.2), if_neg h, if_neg (fun e => absurd e.1 (by decide))]
theorem openT_read (s : Int) (us : List Tm) : openT yRead s us = if isApp (kidT us 0) ySign = true then kidT (kidT us 0).kids 0 else .mk 3 yRead s us := by
  unfold openT
  by_cases h : isApp (kidT us 0) ySign = true
  · rw [if_neg (fun e => absurd e.1 (by decide)), if_neg (fun e => absurd e.1 (by decide)), if_neg (fun e => absurd e.1 (by decide)), if_neg (fun e => absurd e.1 (by decide)), if_neg (fun e => absurd e.1 (by decide)), if_pos ⟨rfl, h⟩, if_pos h]
  · rw [if_neg (fun e => absurd e.1 (by decide)), if_neg (fun e => absurd e.1 (by decide)), if_neg (fun e => absurd e.1 (by decide)), if_neg (fun e => absurd e.1 (by decide)), if_neg (fun e => absurd e.1 (by decide)), if_neg (fun e => h e.2), if_neg h]
set_option maxHeartbeats 3200000 in
set_option maxRecDepth 100000 in
theorem opened_fst (n : ByteArray) (s : Int) (us : List Tm) (xa : Option Addr) (cap : Nat) (w : World) (hn : n = yFst) (hg : gd (.mk 3 n s us)) (hsz : sizes us ≤ 1073741824) (hI : Is w (.mk 3 n s us) (.int .i64 3) (.string n) (.int .i64 s) (.slice xa us.length cap)) :
    Calls Tryz.prog 109 #[.agg #[.int .i64 3, .string n, .int .i64 s, .slice xa us.length cap]] w (TmPost w (openT n s us)) := by
  have hl : us.length = 1 := ln_fst (by rw [← hn]; exact (gd_mk hg).2.1)
  obtain ⟨_, hcap, hR⟩ := Is_row hI
  obtain ⟨kb, ko, rfl⟩ := Row_at hR (by omega)
  have hL0 := Row_get hR 0 (by omega)
  rw [Nat.zero_mul, Nat.add_zero, ← kidT_eq (by omega : 0 < us.length)] at hL0
  have hg0 := gd_kid hg (show 0 < us.length by omega)
  have hz0 : size (kidT us 0) ≤ 1073741824 := by have := size_le_sizes (kidT_mem (show 0 < us.length by omega)); omega
  obtain ⟨hb0, hb1, hBw, hZ⟩ := boxes2 w (.int .i64 3) (.string n) (.int .i64 s) (.slice (some ⟨kb, ko, none⟩) us.length cap) (.int .i64 0) (.string ⟨#[]⟩) (.int .i64 0) (.slice none 0 0) 24
  have HA : Hid (∀ W, Ext ((w.alloc (.cells #[.int .i64 3, .string n, .int .i64 s, .slice (some ⟨kb, ko, none⟩) us.length cap] 24)).alloc (.cells #[.int .i64 0, .string ⟨#[]⟩, .int .i64 0, .slice none 0 0] 24)) W → Calls Tryz.prog 72 #[.pointer (some ⟨kb, ko, none⟩), .string ⟨#[112, 97, 105, 114]⟩] W fun e w' => e = .returned (.bool (isApp (kidT us 0) ⟨#[112, 97, 105, 114]⟩)) ∧ w' = W) := fun W x => applies_any (kidT us 0) ⟨#[112, 97, 105, 114]⟩ kb ko W (Lies_carry (keep_below (Ext.trans hBw x)) hL0)
  have q1 : (n.toList == [102, 115, 116]) = true := by rw [hn]; kernel_rfl
  have q2 : (n.toList == [115, 110, 100]) = false := by rw [hn]; kernel_rfl
  have q3 : (n.toList == [100, 101, 99]) = false := by rw [hn]; kernel_rfl
  have q4 : (n.toList == [97, 100, 101, 99]) = false := by rw [hn]; kernel_rfl
  have q5 : (n.toList == [111, 112, 101, 110]) = false := by rw [hn]; kernel_rfl
  have q6 : (n.toList == [114, 101, 97, 100]) = false := by rw [hn]; kernel_rfl
  have HTS : Hid (∀ W, Ext ((w.alloc (.cells #[.int .i64 3, .string n, .int .i64 s, .slice (some ⟨kb, ko, none⟩) us.length cap] 24)).alloc (.cells #[.int .i64 0, .string ⟨#[]⟩, .int .i64 0, .slice none 0 0] 24)) W → openT n s us = .mk 3 n s us → TmPost w (openT n s us) (.returned (.agg #[.int .i64 3, .string n, .int .i64 s, .slice (some ⟨kb, ko, none⟩) us.length cap])) (put4 W (w.heap.size + 1) 0 (.int .i64 3) (.string n) (.int .i64 s) (.slice (some ⟨kb, ko, none⟩) us.length cap))) := fun W x e => by
    rw [e]
    exact TmFin ((x.block _ (by omega)).trans hb1) (by omega) (Ext.trans hBw x) hg.1 (Is_below hI (Ext.trans hBw x))
  obtain ⟨⟨p0, p1, p2, p3⟩, _⟩ := box_facts hb0
  obtain ⟨⟨m0, m1, m2, m3⟩, n0, n1, n2, n3⟩ := box_facts hb1
  cases ha : isApp (kidT us 0) ⟨#[112, 97, 105, 114]⟩
  · have HF : Hid (∀ W, Ext ((w.alloc (.cells #[.int .i64 3, .string n, .int .i64 s, .slice (some ⟨kb, ko, none⟩) us.length cap] 24)).alloc (.cells #[.int .i64 0, .string ⟨#[]⟩, .int .i64 0, .slice none 0 0] 24)) W → TmPost w (openT n s us) (.returned (.agg #[.int .i64 3, .string n, .int .i64 s, .slice (some ⟨kb, ko, none⟩) us.length cap])) (put4 W (w.heap.size + 1) 0 (.int .i64 3) (.string n) (.int .i64 s) (.slice (some ⟨kb, ko, none⟩) us.length cap))) := fun W x => HTS.out W x (by rw [hn, openT_fst, if_neg (fun e => Bool.noConfusion (e.symm.trans ha))])
    rw [ha] at HA
    rw [hl] at *
    clear ha hn hg hI hR hL0 hg0 hz0 hb0 hb1 hBw hZ HTS 
    go_enter Tryz.func109, Tryz.ntmps109
    go_wp2_with (go_at_call 72; refine (HA.out _ (by first | exact HX3.out | exact Ext.refl _ | exact (Ext.refl _).drew | exact below_drewN (Ext.refl _) _ | exact below_drewN (below_drewN (Ext.refl _) _) _ | exact below_drewN (below_drewN (below_drewN (Ext.refl _) _) _) _ | exact below_drewN HX3.out _ | exact below_drewN (below_drewN HX3.out _) _)).mono ?_; rintro e w3 ⟨he, hw⟩; subst he; have hw' := hw.symm; subst hw')
    go_quiet (fail)
    go_wp2_with fail
    go_quiet (fail)
    go_wp2_with fail
    go_quiet (fail)
    go_wp2_with fail
    exact bodyPost_ret (v := .agg #[.int .i64 3, .string n, .int .i64 s, .slice (some ⟨kb, ko, none⟩) 1 cap]) (by simp [results, Tryz.results109, go_sem, m0, m1, m2, m3]) rfl (HF.out _ (by first | exact HX3.out | exact Ext.refl _ | exact (Ext.refl _).drew | exact below_drewN (Ext.refl _) _ | exact below_drewN (below_drewN (Ext.refl _) _) _ | exact below_drewN (below_drewN (below_drewN (Ext.refl _) _) _) _ | exact below_drewN HX3.out _ | exact below_drewN (below_drewN HX3.out _) _))
  obtain ⟨s', ks, hkk⟩ := isApp_mk ha
  rw [hkk] at hL0 hg0 hz0
  have hkl : ks.length = 2 := ln_pair (gd_mk hg0).2.1
  obtain ⟨cb, co, cc, g3, hLk⟩ := Lies_kids hL0 (by omega)
  have hLx := hLk 0 (by omega)
  have hgx := gd_kid hg0 (show 0 < ks.length by omega)
  have hKk : (kidT us 0).kids = ks := by rw [hkk]; rfl
  obtain ⟨x0, x1, x2, x3, y0, y1, y2, y3, hIx⟩ := hLx
  obtain ⟨kk, kn, kt, kx, kl, kc, rfl, rfl, rfl, rfl⟩ := Is_form hIx
  rw [Nat.zero_mul, Nat.add_zero] at y0 y1 y2 y3
  have HF : Hid (TmPost w (openT n s us) (.returned (.agg #[.int .i64 kk, .string kn, .int .i64 kt, .slice kx kl kc])) ((w.alloc (.cells #[.int .i64 3, .string n, .int .i64 s, .slice (some ⟨kb, ko, none⟩) us.length cap] 24)).alloc (.cells #[.int .i64 kk, .string kn, .int .i64 kt, .slice kx kl kc] 24))) := by
    show TmPost _ _ _ _
    rw [hn, openT_fst, if_pos (c := isApp (kidT us 0) yPair = true) ha, hKk]
    exact ⟨_, _, _, _, _, _, rfl, Is_alloc (Is_alloc hIx _) _, ((Ext.refl w).alloc _).alloc _⟩
  have c := keep_below hBw
  have v3 := c _ _ g3
  have v4 := c _ _ y0
  have v5 := c _ _ y1
  have v6 := c _ _ y2
  have v7 := c _ _ y3
  rw [hkl] at v3
  rw [ha] at HA
  rw [hl] at *
  clear ha hn hg hI hR hL0 hg0 hz0 hb0 hb1 hBw hZ HTS hIx hgx hKk hkk hkl hLk g3 y0 y1 y2 y3 c
  go_enter Tryz.func109, Tryz.ntmps109
  go_wp2_with (go_at_call 72; refine (HA.out _ (by first | exact HX3.out | exact Ext.refl _ | exact (Ext.refl _).drew | exact below_drewN (Ext.refl _) _ | exact below_drewN (below_drewN (Ext.refl _) _) _ | exact below_drewN (below_drewN (below_drewN (Ext.refl _) _) _) _ | exact below_drewN HX3.out _ | exact below_drewN (below_drewN HX3.out _) _)).mono ?_; rintro e w3 ⟨he, hw⟩; subst he; have hw' := hw.symm; subst hw')
  exact bodyPost_ret (v := .agg #[.int .i64 kk, .string kn, .int .i64 kt, .slice kx kl kc]) (by simp [results, Tryz.results109, go_sem]) rfl HF.out
set_option maxHeartbeats 3200000 in
set_option maxRecDepth 100000 in
theorem opened_snd (n : ByteArray) (s : Int) (us : List Tm) (xa : Option Addr) (cap : Nat) (w : World) (hn : n = ySnd) (hg : gd (.mk 3 n s us)) (hsz : sizes us ≤ 1073741824) (hI : Is w (.mk 3 n s us) (.int .i64 3) (.string n) (.int .i64 s) (.slice xa us.length cap)) :
    Calls Tryz.prog 109 #[.agg #[.int .i64 3, .string n, .int .i64 s, .slice xa us.length cap]] w (TmPost w (openT n s us)) := by
  have hl : us.length = 1 := ln_snd (by rw [← hn]; exact (gd_mk hg).2.1)
  obtain ⟨_, hcap, hR⟩ := Is_row hI
  obtain ⟨kb, ko, rfl⟩ := Row_at hR (by omega)
  have hL0 := Row_get hR 0 (by omega)
  rw [Nat.zero_mul, Nat.add_zero, ← kidT_eq (by omega : 0 < us.length)] at hL0
  have hg0 := gd_kid hg (show 0 < us.length by omega)
  have hz0 : size (kidT us 0) ≤ 1073741824 := by have := size_le_sizes (kidT_mem (show 0 < us.length by omega)); omega
  obtain ⟨hb0, hb1, hBw, hZ⟩ := boxes2 w (.int .i64 3) (.string n) (.int .i64 s) (.slice (some ⟨kb, ko, none⟩) us.length cap) (.int .i64 0) (.string ⟨#[]⟩) (.int .i64 0) (.slice none 0 0) 24
  have HA : Hid (∀ W, Ext ((w.alloc (.cells #[.int .i64 3, .string n, .int .i64 s, .slice (some ⟨kb, ko, none⟩) us.length cap] 24)).alloc (.cells #[.int .i64 0, .string ⟨#[]⟩, .int .i64 0, .slice none 0 0] 24)) W → Calls Tryz.prog 72 #[.pointer (some ⟨kb, ko, none⟩), .string ⟨#[112, 97, 105, 114]⟩] W fun e w' => e = .returned (.bool (isApp (kidT us 0) ⟨#[112, 97, 105, 114]⟩)) ∧ w' = W) := fun W x => applies_any (kidT us 0) ⟨#[112, 97, 105, 114]⟩ kb ko W (Lies_carry (keep_below (Ext.trans hBw x)) hL0)
  have q1 : (n.toList == [102, 115, 116]) = false := by rw [hn]; kernel_rfl
  have q2 : (n.toList == [115, 110, 100]) = true := by rw [hn]; kernel_rfl
  have q3 : (n.toList == [100, 101, 99]) = false := by rw [hn]; kernel_rfl
  have q4 : (n.toList == [97, 100, 101, 99]) = false := by rw [hn]; kernel_rfl
  have q5 : (n.toList == [111, 112, 101, 110]) = false := by rw [hn]; kernel_rfl
  have q6 : (n.toList == [114, 101, 97, 100]) = false := by rw [hn]; kernel_rfl
  have HTS : Hid (∀ W, Ext ((w.alloc (.cells #[.int .i64 3, .string n, .int .i64 s, .slice (some ⟨kb, ko, none⟩) us.length cap] 24)).alloc (.cells #[.int .i64 0, .string ⟨#[]⟩, .int .i64 0, .slice none 0 0] 24)) W → openT n s us = .mk 3 n s us → TmPost w (openT n s us) (.returned (.agg #[.int .i64 3, .string n, .int .i64 s, .slice (some ⟨kb, ko, none⟩) us.length cap])) (put4 W (w.heap.size + 1) 0 (.int .i64 3) (.string n) (.int .i64 s) (.slice (some ⟨kb, ko, none⟩) us.length cap))) := fun W x e => by
    rw [e]
    exact TmFin ((x.block _ (by omega)).trans hb1) (by omega) (Ext.trans hBw x) hg.1 (Is_below hI (Ext.trans hBw x))
  obtain ⟨⟨p0, p1, p2, p3⟩, _⟩ := box_facts hb0
  obtain ⟨⟨m0, m1, m2, m3⟩, n0, n1, n2, n3⟩ := box_facts hb1
  cases ha : isApp (kidT us 0) ⟨#[112, 97, 105, 114]⟩
  · have HF : Hid (∀ W, Ext ((w.alloc (.cells #[.int .i64 3, .string n, .int .i64 s, .slice (some ⟨kb, ko, none⟩) us.length cap] 24)).alloc (.cells #[.int .i64 0, .string ⟨#[]⟩, .int .i64 0, .slice none 0 0] 24)) W → TmPost w (openT n s us) (.returned (.agg #[.int .i64 3, .string n, .int .i64 s, .slice (some ⟨kb, ko, none⟩) us.length cap])) (put4 W (w.heap.size + 1) 0 (.int .i64 3) (.string n) (.int .i64 s) (.slice (some ⟨kb, ko, none⟩) us.length cap))) := fun W x => HTS.out W x (by rw [hn, openT_snd, if_neg (fun e => Bool.noConfusion (e.symm.trans ha))])
    rw [ha] at HA
    rw [hl] at *
    clear ha hn hg hI hR hL0 hg0 hz0 hb0 hb1 hBw hZ HTS 
    go_enter Tryz.func109, Tryz.ntmps109
    go_wp2_with (go_at_call 72; refine (HA.out _ (by first | exact HX3.out | exact Ext.refl _ | exact (Ext.refl _).drew | exact below_drewN (Ext.refl _) _ | exact below_drewN (below_drewN (Ext.refl _) _) _ | exact below_drewN (below_drewN (below_drewN (Ext.refl _) _) _) _ | exact below_drewN HX3.out _ | exact below_drewN (below_drewN HX3.out _) _)).mono ?_; rintro e w3 ⟨he, hw⟩; subst he; have hw' := hw.symm; subst hw')
    go_quiet (fail)
    go_wp2_with fail
    go_quiet (fail)
    go_wp2_with fail
    go_quiet (fail)
    go_wp2_with fail
    exact bodyPost_ret (v := .agg #[.int .i64 3, .string n, .int .i64 s, .slice (some ⟨kb, ko, none⟩) 1 cap]) (by simp [results, Tryz.results109, go_sem, m0, m1, m2, m3]) rfl (HF.out _ (by first | exact HX3.out | exact Ext.refl _ | exact (Ext.refl _).drew | exact below_drewN (Ext.refl _) _ | exact below_drewN (below_drewN (Ext.refl _) _) _ | exact below_drewN (below_drewN (below_drewN (Ext.refl _) _) _) _ | exact below_drewN HX3.out _ | exact below_drewN (below_drewN HX3.out _) _))
  obtain ⟨s', ks, hkk⟩ := isApp_mk ha
  rw [hkk] at hL0 hg0 hz0
  have hkl : ks.length = 2 := ln_pair (gd_mk hg0).2.1
  obtain ⟨cb, co, cc, g3, hLk⟩ := Lies_kids hL0 (by omega)
  have hLx := hLk 1 (by omega)
  have hgx := gd_kid hg0 (show 1 < ks.length by omega)
  have hKk : (kidT us 0).kids = ks := by rw [hkk]; rfl
  obtain ⟨x0, x1, x2, x3, y0, y1, y2, y3, hIx⟩ := hLx
  obtain ⟨kk, kn, kt, kx, kl, kc, rfl, rfl, rfl, rfl⟩ := Is_form hIx
  rw [Nat.one_mul, Nat.add_assoc] at y1 y2 y3
  rw [Nat.one_mul] at y0
  have HF : Hid (TmPost w (openT n s us) (.returned (.agg #[.int .i64 kk, .string kn, .int .i64 kt, .slice kx kl kc])) ((w.alloc (.cells #[.int .i64 3, .string n, .int .i64 s, .slice (some ⟨kb, ko, none⟩) us.length cap] 24)).alloc (.cells #[.int .i64 kk, .string kn, .int .i64 kt, .slice kx kl kc] 24))) := by
    show TmPost _ _ _ _
    rw [hn, openT_snd, if_pos (c := isApp (kidT us 0) yPair = true) ha, hKk]
    exact ⟨_, _, _, _, _, _, rfl, Is_alloc (Is_alloc hIx _) _, ((Ext.refl w).alloc _).alloc _⟩
  have c := keep_below hBw
  have v3 := c _ _ g3
  have v4 := c _ _ y0
  have v5 := c _ _ y1
  have v6 := c _ _ y2
  have v7 := c _ _ y3
  rw [hkl] at v3
  rw [ha] at HA
  rw [hl] at *
  clear ha hn hg hI hR hL0 hg0 hz0 hb0 hb1 hBw hZ HTS hIx hgx hKk hkk hkl hLk g3 y0 y1 y2 y3 c
  go_enter Tryz.func109, Tryz.ntmps109
  go_wp2_with (go_at_call 72; refine (HA.out _ (by first | exact HX3.out | exact Ext.refl _ | exact (Ext.refl _).drew | exact below_drewN (Ext.refl _) _ | exact below_drewN (below_drewN (Ext.refl _) _) _ | exact below_drewN (below_drewN (below_drewN (Ext.refl _) _) _) _ | exact below_drewN HX3.out _ | exact below_drewN (below_drewN HX3.out _) _)).mono ?_; rintro e w3 ⟨he, hw⟩; subst he; have hw' := hw.symm; subst hw')
  exact bodyPost_ret (v := .agg #[.int .i64 kk, .string kn, .int .i64 kt, .slice kx kl kc]) (by simp [results, Tryz.results109, go_sem]) rfl HF.out
set_option maxHeartbeats 3200000 in
set_option maxRecDepth 100000 in
theorem opened_dec (n : ByteArray) (s : Int) (us : List Tm) (xa : Option Addr) (cap : Nat) (w : World) (hn : n = yDec) (hg : gd (.mk 3 n s us)) (hsz : sizes us ≤ 1073741824) (hI : Is w (.mk 3 n s us) (.int .i64 3) (.string n) (.int .i64 s) (.slice xa us.length cap)) :
    Calls Tryz.prog 109 #[.agg #[.int .i64 3, .string n, .int .i64 s, .slice xa us.length cap]] w (TmPost w (openT n s us)) := by
  have hl : us.length = 2 := ln_dec (by rw [← hn]; exact (gd_mk hg).2.1)
  obtain ⟨_, hcap, hR⟩ := Is_row hI
  obtain ⟨kb, ko, rfl⟩ := Row_at hR (by omega)
  have hL0 := Row_get hR 0 (by omega)
  rw [Nat.zero_mul, Nat.add_zero, ← kidT_eq (by omega : 0 < us.length)] at hL0
  have hL1 := Row_get hR 1 (by omega)
  rw [Nat.one_mul, ← kidT_eq (by omega : 1 < us.length)] at hL1
  have hz1 : size (kidT us 1) ≤ 1073741824 := by have := size_le_sizes (kidT_mem (show 1 < us.length by omega)); omega
  have hg1 := gd_kid hg (show 1 < us.length by omega)
  have hg0 := gd_kid hg (show 0 < us.length by omega)
  have hz0 : size (kidT us 0) ≤ 1073741824 := by have := size_le_sizes (kidT_mem (show 0 < us.length by omega)); omega
  obtain ⟨hb0, hb1, hBw, hZ⟩ := boxes2 w (.int .i64 3) (.string n) (.int .i64 s) (.slice (some ⟨kb, ko, none⟩) us.length cap) (.int .i64 0) (.string ⟨#[]⟩) (.int .i64 0) (.slice none 0 0) 24
  have HA : Hid (∀ W, Ext ((w.alloc (.cells #[.int .i64 3, .string n, .int .i64 s, .slice (some ⟨kb, ko, none⟩) us.length cap] 24)).alloc (.cells #[.int .i64 0, .string ⟨#[]⟩, .int .i64 0, .slice none 0 0] 24)) W → Calls Tryz.prog 72 #[.pointer (some ⟨kb, ko, none⟩), .string ⟨#[101, 110, 99]⟩] W fun e w' => e = .returned (.bool (isApp (kidT us 0) ⟨#[101, 110, 99]⟩)) ∧ w' = W) := fun W x => applies_any (kidT us 0) ⟨#[101, 110, 99]⟩ kb ko W (Lies_carry (keep_below (Ext.trans hBw x)) hL0)
  have q1 : (n.toList == [102, 115, 116]) = false := by rw [hn]; kernel_rfl
  have q2 : (n.toList == [115, 110, 100]) = false := by rw [hn]; kernel_rfl
  have q3 : (n.toList == [100, 101, 99]) = true := by rw [hn]; kernel_rfl
  have q4 : (n.toList == [97, 100, 101, 99]) = false := by rw [hn]; kernel_rfl
  have q5 : (n.toList == [111, 112, 101, 110]) = false := by rw [hn]; kernel_rfl
  have q6 : (n.toList == [114, 101, 97, 100]) = false := by rw [hn]; kernel_rfl
  have HTS : Hid (∀ W, Ext ((w.alloc (.cells #[.int .i64 3, .string n, .int .i64 s, .slice (some ⟨kb, ko, none⟩) us.length cap] 24)).alloc (.cells #[.int .i64 0, .string ⟨#[]⟩, .int .i64 0, .slice none 0 0] 24)) W → openT n s us = .mk 3 n s us → TmPost w (openT n s us) (.returned (.agg #[.int .i64 3, .string n, .int .i64 s, .slice (some ⟨kb, ko, none⟩) us.length cap])) (put4 W (w.heap.size + 1) 0 (.int .i64 3) (.string n) (.int .i64 s) (.slice (some ⟨kb, ko, none⟩) us.length cap))) := fun W x e => by
    rw [e]
    exact TmFin ((x.block _ (by omega)).trans hb1) (by omega) (Ext.trans hBw x) hg.1 (Is_below hI (Ext.trans hBw x))
  obtain ⟨⟨p0, p1, p2, p3⟩, _⟩ := box_facts hb0
  obtain ⟨⟨m0, m1, m2, m3⟩, n0, n1, n2, n3⟩ := box_facts hb1
  cases ha : isApp (kidT us 0) ⟨#[101, 110, 99]⟩
  · have HF : Hid (∀ W, Ext ((w.alloc (.cells #[.int .i64 3, .string n, .int .i64 s, .slice (some ⟨kb, ko, none⟩) us.length cap] 24)).alloc (.cells #[.int .i64 0, .string ⟨#[]⟩, .int .i64 0, .slice none 0 0] 24)) W → TmPost w (openT n s us) (.returned (.agg #[.int .i64 3, .string n, .int .i64 s, .slice (some ⟨kb, ko, none⟩) us.length cap])) (put4 W (w.heap.size + 1) 0 (.int .i64 3) (.string n) (.int .i64 s) (.slice (some ⟨kb, ko, none⟩) us.length cap))) := fun W x => HTS.out W x (by rw [hn, openT_dec, if_neg (fun e => Bool.noConfusion (e.1.symm.trans ha))])
    rw [ha] at HA
    rw [hl] at *
    clear ha hn hg hI hR hL0 hg0 hz0 hb0 hb1 hBw hZ HTS hL1 hz1 hg1
    go_enter Tryz.func109, Tryz.ntmps109
    go_wp2_with fail
    go_quiet (first | (go_at_call 72; refine (HA.out _ (by first | exact HX3.out | exact Ext.refl _ | exact (Ext.refl _).drew | exact below_drewN (Ext.refl _) _ | exact below_drewN (below_drewN (Ext.refl _) _) _ | exact below_drewN (below_drewN (below_drewN (Ext.refl _) _) _) _ | exact below_drewN HX3.out _ | exact below_drewN (below_drewN HX3.out _) _)).mono ?_; rintro e w3 ⟨he, hw⟩; exact ⟨he, _, hw⟩))
    go_wp2_with fail
    go_quiet (fail)
    go_wp2_with fail
    go_quiet (fail)
    go_wp2_with fail
    exact bodyPost_ret (v := .agg #[.int .i64 3, .string n, .int .i64 s, .slice (some ⟨kb, ko, none⟩) 2 cap]) (by simp [results, Tryz.results109, go_sem, m0, m1, m2, m3]) rfl (HF.out _ (by first | exact HX3.out | exact Ext.refl _ | exact (Ext.refl _).drew | exact below_drewN (Ext.refl _) _ | exact below_drewN (below_drewN (Ext.refl _) _) _ | exact below_drewN (below_drewN (below_drewN (Ext.refl _) _) _) _ | exact below_drewN HX3.out _ | exact below_drewN (below_drewN HX3.out _) _))
  obtain ⟨s', ks, hkk⟩ := isApp_mk ha
  rw [hkk] at hL0 hg0 hz0
  have hkl : ks.length = 2 := ln_enc (gd_mk hg0).2.1
  obtain ⟨cb, co, cc, g3, hLk⟩ := Lies_kids hL0 (by omega)
  have hLx := hLk 0 (by omega)
  have hgx := gd_kid hg0 (show 0 < ks.length by omega)
  have hKk : (kidT us 0).kids = ks := by rw [hkk]; rfl
  obtain ⟨x0, x1, x2, x3, y0, y1, y2, y3, hIx⟩ := hLx
  obtain ⟨kk, kn, kt, kx, kl, kc, rfl, rfl, rfl, rfl⟩ := Is_form hIx
  rw [Nat.zero_mul, Nat.add_zero] at y0 y1 y2 y3
  have hLe := hLk 1 (by omega)
  rw [Nat.one_mul] at hLe
  have hge := gd_kid hg0 (show 1 < ks.length by omega)
  have hze : size (kidT ks 1) ≤ 1073741824 := by have := size_kid (n := ⟨#[101, 110, 99]⟩) (s := s') (show 1 < ks.length by omega); exact Nat.le_trans this hz0
  obtain ⟨e0, e1, e2, e3, r0, r1, r2, r3, hIe⟩ := hLe
  obtain ⟨f0, f1, f2, f3, u0, u1, u2, u3, hIf⟩ := hL1
  rw [Nat.add_assoc] at r1 r2 r3 u1 u2 u3
  have HE : Hid (∀ W, Ext ((w.alloc (.cells #[.int .i64 3, .string n, .int .i64 s, .slice (some ⟨kb, ko, none⟩) us.length cap] 24)).alloc (.cells #[.int .i64 0, .string ⟨#[]⟩, .int .i64 0, .slice none 0 0] 24)) W → Calls Tryz.prog 62 #[.agg #[e0, e1, e2, e3], .agg #[f0, f1, f2, f3]] W fun e w' => e = .returned (.bool (cmpT (kidT ks 1) (kidT us 1) == 0)) ∧ Ext W w') := fun W x => yequal_any (kidT ks 1) (kidT us 1) e0 e1 e2 e3 f0 f1 f2 f3 W (by omega) (by omega) (Is_below hIe (Ext.trans hBw x)) (Is_below hIf (Ext.trans hBw x))
  have HS : Hid (∀ W, Ext ((w.alloc (.cells #[.int .i64 3, .string n, .int .i64 s, .slice (some ⟨kb, ko, none⟩) us.length cap] 24)).alloc (.cells #[.int .i64 0, .string ⟨#[]⟩, .int .i64 0, .slice none 0 0] 24)) W → W.cell? ⟨w.heap.size, 1, none⟩ = some (.string n) ∧ W.cell? ⟨w.heap.size, 3, none⟩ = some (.slice (some ⟨kb, ko, none⟩) 2 cap) ∧ W.cell? ⟨kb, ko + 3, none⟩ = some (.slice (some ⟨cb, co, none⟩) 2 cc) ∧ W.cell? ⟨cb, co + 4, none⟩ = some e0 ∧ W.cell? ⟨cb, co + 5, none⟩ = some e1 ∧ W.cell? ⟨cb, co + 6, none⟩ = some e2 ∧ W.cell? ⟨cb, co + 7, none⟩ = some e3 ∧ W.cell? ⟨kb, ko + 4, none⟩ = some f0 ∧ W.cell? ⟨kb, ko + 5, none⟩ = some f1 ∧ W.cell? ⟨kb, ko + 6, none⟩ = some f2 ∧ W.cell? ⟨kb, ko + 7, none⟩ = some f3) := fun W x => by
    have c := keep_below (Ext.trans hBw x)
    exact ⟨(box_facts ((x.block _ (by omega)).trans hb0)).1.2.1, by have h := (box_facts ((x.block _ (by omega)).trans hb0)).1.2.2.2; rw [hl] at h; exact h, by have h := c _ _ g3; rw [hkl] at h; exact h, c _ _ r0, c _ _ r1, c _ _ r2, c _ _ r3, c _ _ u0, c _ _ u1, c _ _ u2, c _ _ u3⟩
  have HBX : Hid (∀ W, Ext ((w.alloc (.cells #[.int .i64 3, .string n, .int .i64 s, .slice (some ⟨kb, ko, none⟩) us.length cap] 24)).alloc (.cells #[.int .i64 0, .string ⟨#[]⟩, .int .i64 0, .slice none 0 0] 24)) W → W.heap[w.heap.size + 1]? = some (.cells #[.int .i64 0, .string ⟨#[]⟩, .int .i64 0, .slice none 0 0] 24 (0, 0)) ∧ W.heap[w.heap.size]? = some (.cells #[.int .i64 3, .string n, .int .i64 s, .slice (some ⟨kb, ko, none⟩) 2 cap] 24 (0, 0)) ∧ W.cell? ⟨cb, co, none⟩ = some (.int .i64 kk) ∧ W.cell? ⟨cb, co + 1, none⟩ = some (.string kn) ∧ W.cell? ⟨cb, co + 2, none⟩ = some (.int .i64 kt) ∧ W.cell? ⟨cb, co + 3, none⟩ = some (.slice kx kl kc)) := fun W x => by
    have c := keep_below (Ext.trans hBw x)
    exact ⟨(x.block _ (by omega)).trans hb1, by have h := (x.block _ (by omega)).trans hb0; rw [hl] at h; exact h, c _ _ y0, c _ _ y1, c _ _ y2, c _ _ y3⟩
  obtain ⟨v1, v2, v3, t0, t1, t2, t3, t4, t5, t6, t7⟩ := HS.out _ (Ext.refl _)
  rw [ha] at HA
  cases hb : (cmpT (kidT ks 1) (kidT us 1) == 0)
  · have HF : Hid (∀ W, Ext ((w.alloc (.cells #[.int .i64 3, .string n, .int .i64 s, .slice (some ⟨kb, ko, none⟩) us.length cap] 24)).alloc (.cells #[.int .i64 0, .string ⟨#[]⟩, .int .i64 0, .slice none 0 0] 24)) W → TmPost w (openT n s us) (.returned (.agg #[.int .i64 3, .string n, .int .i64 s, .slice (some ⟨kb, ko, none⟩) us.length cap])) (put4 W (w.heap.size + 1) 0 (.int .i64 3) (.string n) (.int .i64 s) (.slice (some ⟨kb, ko, none⟩) us.length cap))) := fun W x => HTS.out W x (by rw [hn, openT_dec, if_neg (fun e => by have e2 := e.2; rw [hKk] at e2; exact (fun e => by rw [e] at hb; simp at hb) e2)])
    rw [hb] at HE
    rw [hl] at *
    clear hb ha hn hg hI hR hL0 hg0 hz0 hb0 hb1 hBw hZ HTS hIx hgx hKk hkk hkl hLk g3 y0 y1 y2 y3 hIe hIf r0 r1 r2 r3 u0 u1 u2 u3 hze hge m0 m1 m2 m3 n0 n1 n2 n3 hz1 hg1
    go_enter Tryz.func109, Tryz.ntmps109
    go_wp2_with fail
    go_region_held3 (fun W => W.cell? ⟨w.heap.size, 1, none⟩ = some (.string n) ∧ W.cell? ⟨w.heap.size, 3, none⟩ = some (.slice (some ⟨kb, ko, none⟩) 2 cap) ∧ W.cell? ⟨kb, ko + 3, none⟩ = some (.slice (some ⟨cb, co, none⟩) 2 cc) ∧ W.cell? ⟨cb, co + 4, none⟩ = some e0 ∧ W.cell? ⟨cb, co + 5, none⟩ = some e1 ∧ W.cell? ⟨cb, co + 6, none⟩ = some e2 ∧ W.cell? ⟨cb, co + 7, none⟩ = some e3 ∧ W.cell? ⟨kb, ko + 4, none⟩ = some f0 ∧ W.cell? ⟨kb, ko + 5, none⟩ = some f1 ∧ W.cell? ⟨kb, ko + 6, none⟩ = some f2 ∧ W.cell? ⟨kb, ko + 7, none⟩ = some f3) (first | go_keep | assumption | exact HS.out _ HX3.out) (first | (go_at_call 72; refine (HA.out _ ?_).mono ?_; (first | exact Ext.refl _ | exact (Ext.refl _).drew | exact below_drewN (Ext.refl _) _ | exact (below_drewN (Ext.refl _) _).drew | exact (below_drewN (below_drewN (Ext.refl _) _) _).drew); rintro e w3 ⟨he, hw⟩; subst he; have hw' := hw.symm; subst hw') | (go_at_call 62; refine (HE.out _ ?_).mono ?_; (first | exact Ext.refl _ | exact (Ext.refl _).drew | exact below_drewN (Ext.refl _) _ | exact (below_drewN (Ext.refl _) _).drew | exact (below_drewN (below_drewN (Ext.refl _) _) _).drew); rintro e w3 ⟨he, hX⟩; subst he; have HX3 := Lib.hid (show Ext ((w.alloc (.cells #[.int .i64 3, .string n, .int .i64 s, .slice (some ⟨kb, ko, none⟩) 2 cap] 24)).alloc (.cells #[.int .i64 0, .string ⟨#[]⟩, .int .i64 0, .slice none 0 0] 24)) w3 from Ext.trans (by first | exact Ext.refl _ | exact (Ext.refl _).drew | exact below_drewN (Ext.refl _) _ | exact (below_drewN (Ext.refl _) _).drew | exact (below_drewN (below_drewN (Ext.refl _) _) _).drew) hX)))
    obtain ⟨hz2, hz1, l0, l1, l2, l3⟩ := HBX.out _ HX3.out
    obtain ⟨⟨m0, m1, m2, m3⟩, n0, n1, n2, n3⟩ := box_facts hz2
    obtain ⟨⟨j0, j1, j2, j3⟩, _⟩ := box_facts hz1
    have j4 := (HS.out _ HX3.out).2.2.1
    clear hz1 hz2
    go_wp2_with fail
    go_quiet (fail)
    go_wp2_with fail
    go_quiet (fail)
    go_wp2_with fail
    exact bodyPost_ret (v := .agg #[.int .i64 3, .string n, .int .i64 s, .slice (some ⟨kb, ko, none⟩) 2 cap]) (by simp [results, Tryz.results109, go_sem, m0, m1, m2, m3]) rfl (HF.out _ (by first | exact HX3.out | exact Ext.refl _ | exact (Ext.refl _).drew | exact below_drewN (Ext.refl _) _ | exact below_drewN (below_drewN (Ext.refl _) _) _ | exact below_drewN (below_drewN (below_drewN (Ext.refl _) _) _) _ | exact below_drewN HX3.out _ | exact below_drewN (below_drewN HX3.out _) _))
  have hc : cmpT (kidT ks 1) (kidT us 1) = 0 := eq_of_beq hb
  have HF : Hid (∀ W, Ext ((w.alloc (.cells #[.int .i64 3, .string n, .int .i64 s, .slice (some ⟨kb, ko, none⟩) us.length cap] 24)).alloc (.cells #[.int .i64 0, .string ⟨#[]⟩, .int .i64 0, .slice none 0 0] 24)) W → TmPost w (openT n s us) (.returned (.agg #[.int .i64 kk, .string kn, .int .i64 kt, .slice kx kl kc])) (put4 W (w.heap.size + 1) 0 (.int .i64 kk) (.string kn) (.int .i64 kt) (.slice kx kl kc))) := fun W x => by
    rw [hn, openT_dec, if_pos ⟨ha, by rw [hKk]; exact hc⟩, hKk]
    exact TmFin ((x.block _ (by omega)).trans hb1) (by omega) (Ext.trans hBw x) hgx.1 (Is_below hIx (Ext.trans hBw x))
  clear hc
  rw [hb] at HE
  rw [hl] at *
  clear hb ha hn hg hI hR hL0 hg0 hz0 hb0 hb1 hBw hZ HTS hIx hgx hKk hkk hkl hLk g3 y0 y1 y2 y3 hIe hIf r0 r1 r2 r3 u0 u1 u2 u3 hze hge m0 m1 m2 m3 n0 n1 n2 n3 hz1 hg1
  go_enter Tryz.func109, Tryz.ntmps109
  go_wp2_with fail
  go_region_held3 (fun W => W.cell? ⟨w.heap.size, 1, none⟩ = some (.string n) ∧ W.cell? ⟨w.heap.size, 3, none⟩ = some (.slice (some ⟨kb, ko, none⟩) 2 cap) ∧ W.cell? ⟨kb, ko + 3, none⟩ = some (.slice (some ⟨cb, co, none⟩) 2 cc) ∧ W.cell? ⟨cb, co + 4, none⟩ = some e0 ∧ W.cell? ⟨cb, co + 5, none⟩ = some e1 ∧ W.cell? ⟨cb, co + 6, none⟩ = some e2 ∧ W.cell? ⟨cb, co + 7, none⟩ = some e3 ∧ W.cell? ⟨kb, ko + 4, none⟩ = some f0 ∧ W.cell? ⟨kb, ko + 5, none⟩ = some f1 ∧ W.cell? ⟨kb, ko + 6, none⟩ = some f2 ∧ W.cell? ⟨kb, ko + 7, none⟩ = some f3) (first | go_keep | assumption | exact HS.out _ HX3.out) (first | (go_at_call 72; refine (HA.out _ ?_).mono ?_; (first | exact Ext.refl _ | exact (Ext.refl _).drew | exact below_drewN (Ext.refl _) _ | exact (below_drewN (Ext.refl _) _).drew | exact (below_drewN (below_drewN (Ext.refl _) _) _).drew); rintro e w3 ⟨he, hw⟩; subst he; have hw' := hw.symm; subst hw') | (go_at_call 62; refine (HE.out _ ?_).mono ?_; (first | exact Ext.refl _ | exact (Ext.refl _).drew | exact below_drewN (Ext.refl _) _ | exact (below_drewN (Ext.refl _) _).drew | exact (below_drewN (below_drewN (Ext.refl _) _) _).drew); rintro e w3 ⟨he, hX⟩; subst he; have HX3 := Lib.hid (show Ext ((w.alloc (.cells #[.int .i64 3, .string n, .int .i64 s, .slice (some ⟨kb, ko, none⟩) 2 cap] 24)).alloc (.cells #[.int .i64 0, .string ⟨#[]⟩, .int .i64 0, .slice none 0 0] 24)) w3 from Ext.trans (by first | exact Ext.refl _ | exact (Ext.refl _).drew | exact below_drewN (Ext.refl _) _ | exact (below_drewN (Ext.refl _) _).drew | exact (below_drewN (below_drewN (Ext.refl _) _) _).drew) hX)))
  obtain ⟨hz2, hz1, l0, l1, l2, l3⟩ := HBX.out _ HX3.out
  obtain ⟨⟨m0, m1, m2, m3⟩, n0, n1, n2, n3⟩ := box_facts hz2
  obtain ⟨⟨j0, j1, j2, j3⟩, _⟩ := box_facts hz1
  have j4 := (HS.out _ HX3.out).2.2.1
  clear hz1 hz2
  go_wp2_with fail
  exact bodyPost_ret (v := .agg #[.int .i64 kk, .string kn, .int .i64 kt, .slice kx kl kc]) (by simp [results, Tryz.results109, go_sem, m0, m1, m2, m3]) rfl (HF.out _ (by first | exact HX3.out | exact Ext.refl _ | exact (Ext.refl _).drew | exact below_drewN (Ext.refl _) _ | exact below_drewN (below_drewN (Ext.refl _) _) _ | exact below_drewN (below_drewN (below_drewN (Ext.refl _) _) _) _ | exact below_drewN HX3.out _ | exact below_drewN (below_drewN HX3.out _) _))
set_option maxHeartbeats 3200000 in
set_option maxRecDepth 100000 in
theorem opened_adec (n : ByteArray) (s : Int) (us : List Tm) (xa : Option Addr) (cap : Nat) (w : World) (hn : n = yAdec) (hg : gd (.mk 3 n s us)) (hsz : sizes us ≤ 1073741824) (hI : Is w (.mk 3 n s us) (.int .i64 3) (.string n) (.int .i64 s) (.slice xa us.length cap)) :
    Calls Tryz.prog 109 #[.agg #[.int .i64 3, .string n, .int .i64 s, .slice xa us.length cap]] w (TmPost w (openT n s us)) := by
  have hl : us.length = 2 := ln_adec (by rw [← hn]; exact (gd_mk hg).2.1)
  obtain ⟨_, hcap, hR⟩ := Is_row hI
  obtain ⟨kb, ko, rfl⟩ := Row_at hR (by omega)
  have hL0 := Row_get hR 0 (by omega)
  rw [Nat.zero_mul, Nat.add_zero, ← kidT_eq (by omega : 0 < us.length)] at hL0
  have hL1 := Row_get hR 1 (by omega)
  rw [Nat.one_mul, ← kidT_eq (by omega : 1 < us.length)] at hL1
  have hz1 : size (kidT us 1) ≤ 1073741824 := by have := size_le_sizes (kidT_mem (show 1 < us.length by omega)); omega
  have hg1 := gd_kid hg (show 1 < us.length by omega)
  have hg0 := gd_kid hg (show 0 < us.length by omega)
  have hz0 : size (kidT us 0) ≤ 1073741824 := by have := size_le_sizes (kidT_mem (show 0 < us.length by omega)); omega
  obtain ⟨hb0, hb1, hBw, hZ⟩ := boxes2 w (.int .i64 3) (.string n) (.int .i64 s) (.slice (some ⟨kb, ko, none⟩) us.length cap) (.int .i64 0) (.string ⟨#[]⟩) (.int .i64 0) (.slice none 0 0) 24
  have HA : Hid (∀ W, Ext ((w.alloc (.cells #[.int .i64 3, .string n, .int .i64 s, .slice (some ⟨kb, ko, none⟩) us.length cap] 24)).alloc (.cells #[.int .i64 0, .string ⟨#[]⟩, .int .i64 0, .slice none 0 0] 24)) W → Calls Tryz.prog 72 #[.pointer (some ⟨kb, ko, none⟩), .string ⟨#[97, 101, 110, 99]⟩] W fun e w' => e = .returned (.bool (isApp (kidT us 0) ⟨#[97, 101, 110, 99]⟩)) ∧ w' = W) := fun W x => applies_any (kidT us 0) ⟨#[97, 101, 110, 99]⟩ kb ko W (Lies_carry (keep_below (Ext.trans hBw x)) hL0)
  have q1 : (n.toList == [102, 115, 116]) = false := by rw [hn]; kernel_rfl
  have q2 : (n.toList == [115, 110, 100]) = false := by rw [hn]; kernel_rfl
  have q3 : (n.toList == [100, 101, 99]) = false := by rw [hn]; kernel_rfl
  have q4 : (n.toList == [97, 100, 101, 99]) = true := by rw [hn]; kernel_rfl
  have q5 : (n.toList == [111, 112, 101, 110]) = false := by rw [hn]; kernel_rfl
  have q6 : (n.toList == [114, 101, 97, 100]) = false := by rw [hn]; kernel_rfl
  have HTS : Hid (∀ W, Ext ((w.alloc (.cells #[.int .i64 3, .string n, .int .i64 s, .slice (some ⟨kb, ko, none⟩) us.length cap] 24)).alloc (.cells #[.int .i64 0, .string ⟨#[]⟩, .int .i64 0, .slice none 0 0] 24)) W → openT n s us = .mk 3 n s us → TmPost w (openT n s us) (.returned (.agg #[.int .i64 3, .string n, .int .i64 s, .slice (some ⟨kb, ko, none⟩) us.length cap])) (put4 W (w.heap.size + 1) 0 (.int .i64 3) (.string n) (.int .i64 s) (.slice (some ⟨kb, ko, none⟩) us.length cap))) := fun W x e => by
    rw [e]
    exact TmFin ((x.block _ (by omega)).trans hb1) (by omega) (Ext.trans hBw x) hg.1 (Is_below hI (Ext.trans hBw x))
  obtain ⟨⟨p0, p1, p2, p3⟩, _⟩ := box_facts hb0
  obtain ⟨⟨m0, m1, m2, m3⟩, n0, n1, n2, n3⟩ := box_facts hb1
  cases ha : isApp (kidT us 0) ⟨#[97, 101, 110, 99]⟩
  · have HF : Hid (∀ W, Ext ((w.alloc (.cells #[.int .i64 3, .string n, .int .i64 s, .slice (some ⟨kb, ko, none⟩) us.length cap] 24)).alloc (.cells #[.int .i64 0, .string ⟨#[]⟩, .int .i64 0, .slice none 0 0] 24)) W → TmPost w (openT n s us) (.returned (.agg #[.int .i64 3, .string n, .int .i64 s, .slice (some ⟨kb, ko, none⟩) us.length cap])) (put4 W (w.heap.size + 1) 0 (.int .i64 3) (.string n) (.int .i64 s) (.slice (some ⟨kb, ko, none⟩) us.length cap))) := fun W x => HTS.out W x (by rw [hn, openT_adec, if_neg (fun e => Bool.noConfusion (e.1.symm.trans ha))])
    rw [ha] at HA
    rw [hl] at *
    clear ha hn hg hI hR hL0 hg0 hz0 hb0 hb1 hBw hZ HTS hL1 hz1 hg1
    go_enter Tryz.func109, Tryz.ntmps109
    go_wp2_with fail
    go_quiet (fail)
    go_wp2_with fail
    go_quiet (first | (go_at_call 72; refine (HA.out _ (by first | exact HX3.out | exact Ext.refl _ | exact (Ext.refl _).drew | exact below_drewN (Ext.refl _) _ | exact below_drewN (below_drewN (Ext.refl _) _) _ | exact below_drewN (below_drewN (below_drewN (Ext.refl _) _) _) _ | exact below_drewN HX3.out _ | exact below_drewN (below_drewN HX3.out _) _)).mono ?_; rintro e w3 ⟨he, hw⟩; exact ⟨he, _, hw⟩))
    go_wp2_with fail
    go_quiet (fail)
    go_wp2_with fail
    exact bodyPost_ret (v := .agg #[.int .i64 3, .string n, .int .i64 s, .slice (some ⟨kb, ko, none⟩) 2 cap]) (by simp [results, Tryz.results109, go_sem, m0, m1, m2, m3]) rfl (HF.out _ (by first | exact HX3.out | exact Ext.refl _ | exact (Ext.refl _).drew | exact below_drewN (Ext.refl _) _ | exact below_drewN (below_drewN (Ext.refl _) _) _ | exact below_drewN (below_drewN (below_drewN (Ext.refl _) _) _) _ | exact below_drewN HX3.out _ | exact below_drewN (below_drewN HX3.out _) _))
  obtain ⟨s', ks, hkk⟩ := isApp_mk ha
  rw [hkk] at hL0 hg0 hz0
  have hkl : ks.length = 2 := ln_aenc (gd_mk hg0).2.1
  obtain ⟨cb, co, cc, g3, hLk⟩ := Lies_kids hL0 (by omega)
  have hLx := hLk 0 (by omega)
  have hgx := gd_kid hg0 (show 0 < ks.length by omega)
  have hKk : (kidT us 0).kids = ks := by rw [hkk]; rfl
  obtain ⟨x0, x1, x2, x3, y0, y1, y2, y3, hIx⟩ := hLx
  obtain ⟨kk, kn, kt, kx, kl, kc, rfl, rfl, rfl, rfl⟩ := Is_form hIx
  rw [Nat.zero_mul, Nat.add_zero] at y0 y1 y2 y3
  have hLe := hLk 1 (by omega)
  rw [Nat.one_mul] at hLe
  have hge := gd_kid hg0 (show 1 < ks.length by omega)
  have hze : size (kidT ks 1) ≤ 1073741824 := by have := size_kid (n := ⟨#[97, 101, 110, 99]⟩) (s := s') (show 1 < ks.length by omega); exact Nat.le_trans this hz0
  have HE : Hid (∀ W, Ext ((w.alloc (.cells #[.int .i64 3, .string n, .int .i64 s, .slice (some ⟨kb, ko, none⟩) us.length cap] 24)).alloc (.cells #[.int .i64 0, .string ⟨#[]⟩, .int .i64 0, .slice none 0 0] 24)) W → Calls Tryz.prog 139 #[.pointer (some ⟨cb, co + 4, none⟩), .pointer (some ⟨kb, ko + 4, none⟩)] W fun e w' => e = .returned (.bool (pubB (kidT ks 1) (kidT us 1))) ∧ Ext W w') := fun W x => pubOf_any (kidT ks 1) (kidT us 1) _ _ _ _ W (Lies_carry (keep_below (Ext.trans hBw x)) hLe) (Lies_carry (keep_below (Ext.trans hBw x)) hL1) hge hze hz1
  have HS : Hid (∀ W, Ext ((w.alloc (.cells #[.int .i64 3, .string n, .int .i64 s, .slice (some ⟨kb, ko, none⟩) us.length cap] 24)).alloc (.cells #[.int .i64 0, .string ⟨#[]⟩, .int .i64 0, .slice none 0 0] 24)) W → W.cell? ⟨w.heap.size, 1, none⟩ = some (.string n) ∧ W.cell? ⟨w.heap.size, 3, none⟩ = some (.slice (some ⟨kb, ko, none⟩) 2 cap) ∧ W.cell? ⟨kb, ko + 3, none⟩ = some (.slice (some ⟨cb, co, none⟩) 2 cc)) := fun W x => by
    have c := keep_below (Ext.trans hBw x)
    exact ⟨(box_facts ((x.block _ (by omega)).trans hb0)).1.2.1, by have h := (box_facts ((x.block _ (by omega)).trans hb0)).1.2.2.2; rw [hl] at h; exact h, by have h := c _ _ g3; rw [hkl] at h; exact h⟩
  have HBX : Hid (∀ W, Ext ((w.alloc (.cells #[.int .i64 3, .string n, .int .i64 s, .slice (some ⟨kb, ko, none⟩) us.length cap] 24)).alloc (.cells #[.int .i64 0, .string ⟨#[]⟩, .int .i64 0, .slice none 0 0] 24)) W → W.heap[w.heap.size + 1]? = some (.cells #[.int .i64 0, .string ⟨#[]⟩, .int .i64 0, .slice none 0 0] 24 (0, 0)) ∧ W.heap[w.heap.size]? = some (.cells #[.int .i64 3, .string n, .int .i64 s, .slice (some ⟨kb, ko, none⟩) 2 cap] 24 (0, 0)) ∧ W.cell? ⟨cb, co, none⟩ = some (.int .i64 kk) ∧ W.cell? ⟨cb, co + 1, none⟩ = some (.string kn) ∧ W.cell? ⟨cb, co + 2, none⟩ = some (.int .i64 kt) ∧ W.cell? ⟨cb, co + 3, none⟩ = some (.slice kx kl kc)) := fun W x => by
    have c := keep_below (Ext.trans hBw x)
    exact ⟨(x.block _ (by omega)).trans hb1, by have h := (x.block _ (by omega)).trans hb0; rw [hl] at h; exact h, c _ _ y0, c _ _ y1, c _ _ y2, c _ _ y3⟩
  obtain ⟨v1, v2, v3⟩ := HS.out _ (Ext.refl _)
  rw [ha] at HA
  cases hb : (pubB (kidT ks 1) (kidT us 1))
  · have HF : Hid (∀ W, Ext ((w.alloc (.cells #[.int .i64 3, .string n, .int .i64 s, .slice (some ⟨kb, ko, none⟩) us.length cap] 24)).alloc (.cells #[.int .i64 0, .string ⟨#[]⟩, .int .i64 0, .slice none 0 0] 24)) W → TmPost w (openT n s us) (.returned (.agg #[.int .i64 3, .string n, .int .i64 s, .slice (some ⟨kb, ko, none⟩) us.length cap])) (put4 W (w.heap.size + 1) 0 (.int .i64 3) (.string n) (.int .i64 s) (.slice (some ⟨kb, ko, none⟩) us.length cap))) := fun W x => HTS.out W x (by rw [hn, openT_adec, if_neg (fun e => by have e2 := e.2; rw [hKk] at e2; exact (fun e => by rw [hb] at e; cases e) e2)])
    rw [hb] at HE
    rw [hl] at *
    clear hb ha hn hg hI hR hL0 hg0 hz0 hb0 hb1 hBw hZ HTS hIx hgx hKk hkk hkl hLk g3 y0 y1 y2 y3 hLe hL1 hze hge m0 m1 m2 m3 n0 n1 n2 n3 hz1 hg1
    go_enter Tryz.func109, Tryz.ntmps109
    go_wp2_with fail
    go_quiet (fail)
    go_wp2_with fail
    go_region_held3 (fun W => W.cell? ⟨w.heap.size, 1, none⟩ = some (.string n) ∧ W.cell? ⟨w.heap.size, 3, none⟩ = some (.slice (some ⟨kb, ko, none⟩) 2 cap) ∧ W.cell? ⟨kb, ko + 3, none⟩ = some (.slice (some ⟨cb, co, none⟩) 2 cc)) (first | go_keep | assumption | exact HS.out _ HX3.out) (first | (go_at_call 72; refine (HA.out _ ?_).mono ?_; (first | exact Ext.refl _ | exact (Ext.refl _).drew | exact below_drewN (Ext.refl _) _ | exact (below_drewN (Ext.refl _) _).drew | exact (below_drewN (below_drewN (Ext.refl _) _) _).drew); rintro e w3 ⟨he, hw⟩; subst he; have hw' := hw.symm; subst hw') | (go_at_call 139; refine (HE.out _ ?_).mono ?_; (first | exact Ext.refl _ | exact (Ext.refl _).drew | exact below_drewN (Ext.refl _) _ | exact (below_drewN (Ext.refl _) _).drew | exact (below_drewN (below_drewN (Ext.refl _) _) _).drew); rintro e w3 ⟨he, hX⟩; subst he; have HX3 := Lib.hid (show Ext ((w.alloc (.cells #[.int .i64 3, .string n, .int .i64 s, .slice (some ⟨kb, ko, none⟩) 2 cap] 24)).alloc (.cells #[.int .i64 0, .string ⟨#[]⟩, .int .i64 0, .slice none 0 0] 24)) w3 from Ext.trans (by first | exact Ext.refl _ | exact (Ext.refl _).drew | exact below_drewN (Ext.refl _) _ | exact (below_drewN (Ext.refl _) _).drew | exact (below_drewN (below_drewN (Ext.refl _) _) _).drew) hX)))
    obtain ⟨hz2, hz1, l0, l1, l2, l3⟩ := HBX.out _ HX3.out
    obtain ⟨⟨m0, m1, m2, m3⟩, n0, n1, n2, n3⟩ := box_facts hz2
    obtain ⟨⟨j0, j1, j2, j3⟩, _⟩ := box_facts hz1
    have j4 := (HS.out _ HX3.out).2.2
    clear hz1 hz2
    go_wp2_with fail
    go_quiet (fail)
    go_wp2_with fail
    exact bodyPost_ret (v := .agg #[.int .i64 3, .string n, .int .i64 s, .slice (some ⟨kb, ko, none⟩) 2 cap]) (by simp [results, Tryz.results109, go_sem, m0, m1, m2, m3]) rfl (HF.out _ (by first | exact HX3.out | exact Ext.refl _ | exact (Ext.refl _).drew | exact below_drewN (Ext.refl _) _ | exact below_drewN (below_drewN (Ext.refl _) _) _ | exact below_drewN (below_drewN (below_drewN (Ext.refl _) _) _) _ | exact below_drewN HX3.out _ | exact below_drewN (below_drewN HX3.out _) _))
  have hc : pubB (kidT ks 1) (kidT us 1) = true := hb
  have HF : Hid (∀ W, Ext ((w.alloc (.cells #[.int .i64 3, .string n, .int .i64 s, .slice (some ⟨kb, ko, none⟩) us.length cap] 24)).alloc (.cells #[.int .i64 0, .string ⟨#[]⟩, .int .i64 0, .slice none 0 0] 24)) W → TmPost w (openT n s us) (.returned (.agg #[.int .i64 kk, .string kn, .int .i64 kt, .slice kx kl kc])) (put4 W (w.heap.size + 1) 0 (.int .i64 kk) (.string kn) (.int .i64 kt) (.slice kx kl kc))) := fun W x => by
    rw [hn, openT_adec, if_pos ⟨ha, by rw [hKk]; exact hc⟩, hKk]
    exact TmFin ((x.block _ (by omega)).trans hb1) (by omega) (Ext.trans hBw x) hgx.1 (Is_below hIx (Ext.trans hBw x))
  clear hc
  rw [hb] at HE
  rw [hl] at *
  clear hb ha hn hg hI hR hL0 hg0 hz0 hb0 hb1 hBw hZ HTS hIx hgx hKk hkk hkl hLk g3 y0 y1 y2 y3 hLe hL1 hze hge m0 m1 m2 m3 n0 n1 n2 n3 hz1 hg1
  go_enter Tryz.func109, Tryz.ntmps109
  go_wp2_with fail
  go_quiet (fail)
  go_wp2_with fail
  go_region_held3 (fun W => W.cell? ⟨w.heap.size, 1, none⟩ = some (.string n) ∧ W.cell? ⟨w.heap.size, 3, none⟩ = some (.slice (some ⟨kb, ko, none⟩) 2 cap) ∧ W.cell? ⟨kb, ko + 3, none⟩ = some (.slice (some ⟨cb, co, none⟩) 2 cc)) (first | go_keep | assumption | exact HS.out _ HX3.out) (first | (go_at_call 72; refine (HA.out _ ?_).mono ?_; (first | exact Ext.refl _ | exact (Ext.refl _).drew | exact below_drewN (Ext.refl _) _ | exact (below_drewN (Ext.refl _) _).drew | exact (below_drewN (below_drewN (Ext.refl _) _) _).drew); rintro e w3 ⟨he, hw⟩; subst he; have hw' := hw.symm; subst hw') | (go_at_call 139; refine (HE.out _ ?_).mono ?_; (first | exact Ext.refl _ | exact (Ext.refl _).drew | exact below_drewN (Ext.refl _) _ | exact (below_drewN (Ext.refl _) _).drew | exact (below_drewN (below_drewN (Ext.refl _) _) _).drew); rintro e w3 ⟨he, hX⟩; subst he; have HX3 := Lib.hid (show Ext ((w.alloc (.cells #[.int .i64 3, .string n, .int .i64 s, .slice (some ⟨kb, ko, none⟩) 2 cap] 24)).alloc (.cells #[.int .i64 0, .string ⟨#[]⟩, .int .i64 0, .slice none 0 0] 24)) w3 from Ext.trans (by first | exact Ext.refl _ | exact (Ext.refl _).drew | exact below_drewN (Ext.refl _) _ | exact (below_drewN (Ext.refl _) _).drew | exact (below_drewN (below_drewN (Ext.refl _) _) _).drew) hX)))
  obtain ⟨hz2, hz1, l0, l1, l2, l3⟩ := HBX.out _ HX3.out
  obtain ⟨⟨m0, m1, m2, m3⟩, n0, n1, n2, n3⟩ := box_facts hz2
  obtain ⟨⟨j0, j1, j2, j3⟩, _⟩ := box_facts hz1
  have j4 := (HS.out _ HX3.out).2.2
  clear hz1 hz2
  go_wp2_with fail
  exact bodyPost_ret (v := .agg #[.int .i64 kk, .string kn, .int .i64 kt, .slice kx kl kc]) (by simp [results, Tryz.results109, go_sem, m0, m1, m2, m3]) rfl (HF.out _ (by first | exact HX3.out | exact Ext.refl _ | exact (Ext.refl _).drew | exact below_drewN (Ext.refl _) _ | exact below_drewN (below_drewN (Ext.refl _) _) _ | exact below_drewN (below_drewN (below_drewN (Ext.refl _) _) _) _ | exact below_drewN HX3.out _ | exact below_drewN (below_drewN HX3.out _) _))
set_option maxHeartbeats 3200000 in
set_option maxRecDepth 100000 in
theorem opened_open (n : ByteArray) (s : Int) (us : List Tm) (xa : Option Addr) (cap : Nat) (w : World) (hn : n = yOpen) (hg : gd (.mk 3 n s us)) (hsz : sizes us ≤ 1073741824) (hI : Is w (.mk 3 n s us) (.int .i64 3) (.string n) (.int .i64 s) (.slice xa us.length cap)) :
    Calls Tryz.prog 109 #[.agg #[.int .i64 3, .string n, .int .i64 s, .slice xa us.length cap]] w (TmPost w (openT n s us)) := by
  have hl : us.length = 2 := ln_open (by rw [← hn]; exact (gd_mk hg).2.1)
  obtain ⟨_, hcap, hR⟩ := Is_row hI
  obtain ⟨kb, ko, rfl⟩ := Row_at hR (by omega)
  have hL0 := Row_get hR 0 (by omega)
  rw [Nat.zero_mul, Nat.add_zero, ← kidT_eq (by omega : 0 < us.length)] at hL0
  have hL1 := Row_get hR 1 (by omega)
  rw [Nat.one_mul, ← kidT_eq (by omega : 1 < us.length)] at hL1
  have hz1 : size (kidT us 1) ≤ 1073741824 := by have := size_le_sizes (kidT_mem (show 1 < us.length by omega)); omega
  have hg1 := gd_kid hg (show 1 < us.length by omega)
  have hg0 := gd_kid hg (show 0 < us.length by omega)
  have hz0 : size (kidT us 0) ≤ 1073741824 := by have := size_le_sizes (kidT_mem (show 0 < us.length by omega)); omega
  obtain ⟨hb0, hb1, hBw, hZ⟩ := boxes2 w (.int .i64 3) (.string n) (.int .i64 s) (.slice (some ⟨kb, ko, none⟩) us.length cap) (.int .i64 0) (.string ⟨#[]⟩) (.int .i64 0) (.slice none 0 0) 24
  have HA : Hid (∀ W, Ext ((w.alloc (.cells #[.int .i64 3, .string n, .int .i64 s, .slice (some ⟨kb, ko, none⟩) us.length cap] 24)).alloc (.cells #[.int .i64 0, .string ⟨#[]⟩, .int .i64 0, .slice none 0 0] 24)) W → Calls Tryz.prog 72 #[.pointer (some ⟨kb, ko, none⟩), .string ⟨#[115, 105, 103, 110]⟩] W fun e w' => e = .returned (.bool (isApp (kidT us 0) ⟨#[115, 105, 103, 110]⟩)) ∧ w' = W) := fun W x => applies_any (kidT us 0) ⟨#[115, 105, 103, 110]⟩ kb ko W (Lies_carry (keep_below (Ext.trans hBw x)) hL0)
  have q1 : (n.toList == [102, 115, 116]) = false := by rw [hn]; kernel_rfl
  have q2 : (n.toList == [115, 110, 100]) = false := by rw [hn]; kernel_rfl
  have q3 : (n.toList == [100, 101, 99]) = false := by rw [hn]; kernel_rfl
  have q4 : (n.toList == [97, 100, 101, 99]) = false := by rw [hn]; kernel_rfl
  have q5 : (n.toList == [111, 112, 101, 110]) = true := by rw [hn]; kernel_rfl
  have q6 : (n.toList == [114, 101, 97, 100]) = false := by rw [hn]; kernel_rfl
  have HTS : Hid (∀ W, Ext ((w.alloc (.cells #[.int .i64 3, .string n, .int .i64 s, .slice (some ⟨kb, ko, none⟩) us.length cap] 24)).alloc (.cells #[.int .i64 0, .string ⟨#[]⟩, .int .i64 0, .slice none 0 0] 24)) W → openT n s us = .mk 3 n s us → TmPost w (openT n s us) (.returned (.agg #[.int .i64 3, .string n, .int .i64 s, .slice (some ⟨kb, ko, none⟩) us.length cap])) (put4 W (w.heap.size + 1) 0 (.int .i64 3) (.string n) (.int .i64 s) (.slice (some ⟨kb, ko, none⟩) us.length cap))) := fun W x e => by
    rw [e]
    exact TmFin ((x.block _ (by omega)).trans hb1) (by omega) (Ext.trans hBw x) hg.1 (Is_below hI (Ext.trans hBw x))
  obtain ⟨⟨p0, p1, p2, p3⟩, _⟩ := box_facts hb0
  obtain ⟨⟨m0, m1, m2, m3⟩, n0, n1, n2, n3⟩ := box_facts hb1
  cases ha : isApp (kidT us 0) ⟨#[115, 105, 103, 110]⟩
  · have HF : Hid (∀ W, Ext ((w.alloc (.cells #[.int .i64 3, .string n, .int .i64 s, .slice (some ⟨kb, ko, none⟩) us.length cap] 24)).alloc (.cells #[.int .i64 0, .string ⟨#[]⟩, .int .i64 0, .slice none 0 0] 24)) W → TmPost w (openT n s us) (.returned (.agg #[.int .i64 3, .string n, .int .i64 s, .slice (some ⟨kb, ko, none⟩) us.length cap])) (put4 W (w.heap.size + 1) 0 (.int .i64 3) (.string n) (.int .i64 s) (.slice (some ⟨kb, ko, none⟩) us.length cap))) := fun W x => HTS.out W x (by rw [hn, openT_open, if_neg (fun e => Bool.noConfusion (e.1.symm.trans ha))])
    rw [ha] at HA
    rw [hl] at *
    clear ha hn hg hI hR hL0 hg0 hz0 hb0 hb1 hBw hZ HTS hL1 hz1 hg1
    go_enter Tryz.func109, Tryz.ntmps109
    go_wp2_with fail
    go_quiet (fail)
    go_wp2_with fail
    go_quiet (fail)
    go_wp2_with fail
    go_quiet (first | (go_at_call 72; refine (HA.out _ (by first | exact HX3.out | exact Ext.refl _ | exact (Ext.refl _).drew | exact below_drewN (Ext.refl _) _ | exact below_drewN (below_drewN (Ext.refl _) _) _ | exact below_drewN (below_drewN (below_drewN (Ext.refl _) _) _) _ | exact below_drewN HX3.out _ | exact below_drewN (below_drewN HX3.out _) _)).mono ?_; rintro e w3 ⟨he, hw⟩; exact ⟨he, _, hw⟩))
    go_wp2_with fail
    exact bodyPost_ret (v := .agg #[.int .i64 3, .string n, .int .i64 s, .slice (some ⟨kb, ko, none⟩) 2 cap]) (by simp [results, Tryz.results109, go_sem, m0, m1, m2, m3]) rfl (HF.out _ (by first | exact HX3.out | exact Ext.refl _ | exact (Ext.refl _).drew | exact below_drewN (Ext.refl _) _ | exact below_drewN (below_drewN (Ext.refl _) _) _ | exact below_drewN (below_drewN (below_drewN (Ext.refl _) _) _) _ | exact below_drewN HX3.out _ | exact below_drewN (below_drewN HX3.out _) _))
  obtain ⟨s', ks, hkk⟩ := isApp_mk ha
  rw [hkk] at hL0 hg0 hz0
  have hkl : ks.length = 2 := ln_sign (gd_mk hg0).2.1
  obtain ⟨cb, co, cc, g3, hLk⟩ := Lies_kids hL0 (by omega)
  have hLx := hLk 0 (by omega)
  have hgx := gd_kid hg0 (show 0 < ks.length by omega)
  have hKk : (kidT us 0).kids = ks := by rw [hkk]; rfl
  obtain ⟨x0, x1, x2, x3, y0, y1, y2, y3, hIx⟩ := hLx
  obtain ⟨kk, kn, kt, kx, kl, kc, rfl, rfl, rfl, rfl⟩ := Is_form hIx
  rw [Nat.zero_mul, Nat.add_zero] at y0 y1 y2 y3
  have hLe := hLk 1 (by omega)
  rw [Nat.one_mul] at hLe
  have hge := gd_kid hg0 (show 1 < ks.length by omega)
  have hze : size (kidT ks 1) ≤ 1073741824 := by have := size_kid (n := ⟨#[115, 105, 103, 110]⟩) (s := s') (show 1 < ks.length by omega); exact Nat.le_trans this hz0
  have HE : Hid (∀ W, Ext ((w.alloc (.cells #[.int .i64 3, .string n, .int .i64 s, .slice (some ⟨kb, ko, none⟩) us.length cap] 24)).alloc (.cells #[.int .i64 0, .string ⟨#[]⟩, .int .i64 0, .slice none 0 0] 24)) W → Calls Tryz.prog 139 #[.pointer (some ⟨kb, ko + 4, none⟩), .pointer (some ⟨cb, co + 4, none⟩)] W fun e w' => e = .returned (.bool (pubB (kidT us 1) (kidT ks 1))) ∧ Ext W w') := fun W x => pubOf_any (kidT us 1) (kidT ks 1) _ _ _ _ W (Lies_carry (keep_below (Ext.trans hBw x)) hL1) (Lies_carry (keep_below (Ext.trans hBw x)) hLe) hg1 hz1 hze
  have HS : Hid (∀ W, Ext ((w.alloc (.cells #[.int .i64 3, .string n, .int .i64 s, .slice (some ⟨kb, ko, none⟩) us.length cap] 24)).alloc (.cells #[.int .i64 0, .string ⟨#[]⟩, .int .i64 0, .slice none 0 0] 24)) W → W.cell? ⟨w.heap.size, 1, none⟩ = some (.string n) ∧ W.cell? ⟨w.heap.size, 3, none⟩ = some (.slice (some ⟨kb, ko, none⟩) 2 cap) ∧ W.cell? ⟨kb, ko + 3, none⟩ = some (.slice (some ⟨cb, co, none⟩) 2 cc)) := fun W x => by
    have c := keep_below (Ext.trans hBw x)
    exact ⟨(box_facts ((x.block _ (by omega)).trans hb0)).1.2.1, by have h := (box_facts ((x.block _ (by omega)).trans hb0)).1.2.2.2; rw [hl] at h; exact h, by have h := c _ _ g3; rw [hkl] at h; exact h⟩
  have HBX : Hid (∀ W, Ext ((w.alloc (.cells #[.int .i64 3, .string n, .int .i64 s, .slice (some ⟨kb, ko, none⟩) us.length cap] 24)).alloc (.cells #[.int .i64 0, .string ⟨#[]⟩, .int .i64 0, .slice none 0 0] 24)) W → W.heap[w.heap.size + 1]? = some (.cells #[.int .i64 0, .string ⟨#[]⟩, .int .i64 0, .slice none 0 0] 24 (0, 0)) ∧ W.heap[w.heap.size]? = some (.cells #[.int .i64 3, .string n, .int .i64 s, .slice (some ⟨kb, ko, none⟩) 2 cap] 24 (0, 0)) ∧ W.cell? ⟨cb, co, none⟩ = some (.int .i64 kk) ∧ W.cell? ⟨cb, co + 1, none⟩ = some (.string kn) ∧ W.cell? ⟨cb, co + 2, none⟩ = some (.int .i64 kt) ∧ W.cell? ⟨cb, co + 3, none⟩ = some (.slice kx kl kc)) := fun W x => by
    have c := keep_below (Ext.trans hBw x)
    exact ⟨(x.block _ (by omega)).trans hb1, by have h := (x.block _ (by omega)).trans hb0; rw [hl] at h; exact h, c _ _ y0, c _ _ y1, c _ _ y2, c _ _ y3⟩
  obtain ⟨v1, v2, v3⟩ := HS.out _ (Ext.refl _)
  rw [ha] at HA
  cases hb : (pubB (kidT us 1) (kidT ks 1))
  · have HF : Hid (∀ W, Ext ((w.alloc (.cells #[.int .i64 3, .string n, .int .i64 s, .slice (some ⟨kb, ko, none⟩) us.length cap] 24)).alloc (.cells #[.int .i64 0, .string ⟨#[]⟩, .int .i64 0, .slice none 0 0] 24)) W → TmPost w (openT n s us) (.returned (.agg #[.int .i64 3, .string n, .int .i64 s, .slice (some ⟨kb, ko, none⟩) us.length cap])) (put4 W (w.heap.size + 1) 0 (.int .i64 3) (.string n) (.int .i64 s) (.slice (some ⟨kb, ko, none⟩) us.length cap))) := fun W x => HTS.out W x (by rw [hn, openT_open, if_neg (fun e => by have e2 := e.2; rw [hKk] at e2; exact (fun e => by rw [hb] at e; cases e) e2)])
    rw [hb] at HE
    rw [hl] at *
    clear hb ha hn hg hI hR hL0 hg0 hz0 hb0 hb1 hBw hZ HTS hIx hgx hKk hkk hkl hLk g3 y0 y1 y2 y3 hLe hL1 hze hge m0 m1 m2 m3 n0 n1 n2 n3 hz1 hg1
    go_enter Tryz.func109, Tryz.ntmps109
    go_wp2_with fail
    go_quiet (fail)
    go_wp2_with fail
    go_quiet (fail)
    go_wp2_with fail
    go_region_held3 (fun W => W.cell? ⟨w.heap.size, 1, none⟩ = some (.string n) ∧ W.cell? ⟨w.heap.size, 3, none⟩ = some (.slice (some ⟨kb, ko, none⟩) 2 cap) ∧ W.cell? ⟨kb, ko + 3, none⟩ = some (.slice (some ⟨cb, co, none⟩) 2 cc)) (first | go_keep | assumption | exact HS.out _ HX3.out) (first | (go_at_call 72; refine (HA.out _ ?_).mono ?_; (first | exact Ext.refl _ | exact (Ext.refl _).drew | exact below_drewN (Ext.refl _) _ | exact (below_drewN (Ext.refl _) _).drew | exact (below_drewN (below_drewN (Ext.refl _) _) _).drew); rintro e w3 ⟨he, hw⟩; subst he; have hw' := hw.symm; subst hw') | (go_at_call 139; refine (HE.out _ ?_).mono ?_; (first | exact Ext.refl _ | exact (Ext.refl _).drew | exact below_drewN (Ext.refl _) _ | exact (below_drewN (Ext.refl _) _).drew | exact (below_drewN (below_drewN (Ext.refl _) _) _).drew); rintro e w3 ⟨he, hX⟩; subst he; have HX3 := Lib.hid (show Ext ((w.alloc (.cells #[.int .i64 3, .string n, .int .i64 s, .slice (some ⟨kb, ko, none⟩) 2 cap] 24)).alloc (.cells #[.int .i64 0, .string ⟨#[]⟩, .int .i64 0, .slice none 0 0] 24)) w3 from Ext.trans (by first | exact Ext.refl _ | exact (Ext.refl _).drew | exact below_drewN (Ext.refl _) _ | exact (below_drewN (Ext.refl _) _).drew | exact (below_drewN (below_drewN (Ext.refl _) _) _).drew) hX)))
    obtain ⟨hz2, hz1, l0, l1, l2, l3⟩ := HBX.out _ HX3.out
    obtain ⟨⟨m0, m1, m2, m3⟩, n0, n1, n2, n3⟩ := box_facts hz2
    obtain ⟨⟨j0, j1, j2, j3⟩, _⟩ := box_facts hz1
    have j4 := (HS.out _ HX3.out).2.2
    clear hz1 hz2
    go_wp2_with fail
    exact bodyPost_ret (v := .agg #[.int .i64 3, .string n, .int .i64 s, .slice (some ⟨kb, ko, none⟩) 2 cap]) (by simp [results, Tryz.results109, go_sem, m0, m1, m2, m3]) rfl (HF.out _ (by first | exact HX3.out | exact Ext.refl _ | exact (Ext.refl _).drew | exact below_drewN (Ext.refl _) _ | exact below_drewN (below_drewN (Ext.refl _) _) _ | exact below_drewN (below_drewN (below_drewN (Ext.refl _) _) _) _ | exact below_drewN HX3.out _ | exact below_drewN (below_drewN HX3.out _) _))
  have hc : pubB (kidT us 1) (kidT ks 1) = true := hb
  have HF : Hid (∀ W, Ext ((w.alloc (.cells #[.int .i64 3, .string n, .int .i64 s, .slice (some ⟨kb, ko, none⟩) us.length cap] 24)).alloc (.cells #[.int .i64 0, .string ⟨#[]⟩, .int .i64 0, .slice none 0 0] 24)) W → TmPost w (openT n s us) (.returned (.agg #[.int .i64 kk, .string kn, .int .i64 kt, .slice kx kl kc])) (put4 W (w.heap.size + 1) 0 (.int .i64 kk) (.string kn) (.int .i64 kt) (.slice kx kl kc))) := fun W x => by
    rw [hn, openT_open, if_pos ⟨ha, by rw [hKk]; exact hc⟩, hKk]
    exact TmFin ((x.block _ (by omega)).trans hb1) (by omega) (Ext.trans hBw x) hgx.1 (Is_below hIx (Ext.trans hBw x))
  clear hc
  rw [hb] at HE
  rw [hl] at *
  clear hb ha hn hg hI hR hL0 hg0 hz0 hb0 hb1 hBw hZ HTS hIx hgx hKk hkk hkl hLk g3 y0 y1 y2 y3 hLe hL1 hze hge m0 m1 m2 m3 n0 n1 n2 n3 hz1 hg1
  go_enter Tryz.func109, Tryz.ntmps109
  go_wp2_with fail
  go_quiet (fail)
  go_wp2_with fail
  go_quiet (fail)
  go_wp2_with fail
  go_region_held3 (fun W => W.cell? ⟨w.heap.size, 1, none⟩ = some (.string n) ∧ W.cell? ⟨w.heap.size, 3, none⟩ = some (.slice (some ⟨kb, ko, none⟩) 2 cap) ∧ W.cell? ⟨kb, ko + 3, none⟩ = some (.slice (some ⟨cb, co, none⟩) 2 cc)) (first | go_keep | assumption | exact HS.out _ HX3.out) (first | (go_at_call 72; refine (HA.out _ ?_).mono ?_; (first | exact Ext.refl _ | exact (Ext.refl _).drew | exact below_drewN (Ext.refl _) _ | exact (below_drewN (Ext.refl _) _).drew | exact (below_drewN (below_drewN (Ext.refl _) _) _).drew); rintro e w3 ⟨he, hw⟩; subst he; have hw' := hw.symm; subst hw') | (go_at_call 139; refine (HE.out _ ?_).mono ?_; (first | exact Ext.refl _ | exact (Ext.refl _).drew | exact below_drewN (Ext.refl _) _ | exact (below_drewN (Ext.refl _) _).drew | exact (below_drewN (below_drewN (Ext.refl _) _) _).drew); rintro e w3 ⟨he, hX⟩; subst he; have HX3 := Lib.hid (show Ext ((w.alloc (.cells #[.int .i64 3, .string n, .int .i64 s, .slice (some ⟨kb, ko, none⟩) 2 cap] 24)).alloc (.cells #[.int .i64 0, .string ⟨#[]⟩, .int .i64 0, .slice none 0 0] 24)) w3 from Ext.trans (by first | exact Ext.refl _ | exact (Ext.refl _).drew | exact below_drewN (Ext.refl _) _ | exact (below_drewN (Ext.refl _) _).drew | exact (below_drewN (below_drewN (Ext.refl _) _) _).drew) hX)))
  obtain ⟨hz2, hz1, l0, l1, l2, l3⟩ := HBX.out _ HX3.out
  obtain ⟨⟨m0, m1, m2, m3⟩, n0, n1, n2, n3⟩ := box_facts hz2
  obtain ⟨⟨j0, j1, j2, j3⟩, _⟩ := box_facts hz1
  have j4 := (HS.out _ HX3.out).2.2
  clear hz1 hz2
  go_wp2_with fail
  exact bodyPost_ret (v := .agg #[.int .i64 kk, .string kn, .int .i64 kt, .slice kx kl kc]) (by simp [results, Tryz.results109, go_sem, m0, m1, m2, m3]) rfl (HF.out _ (by first | exact HX3.out | exact Ext.refl _ | exact (Ext.refl _).drew | exact below_drewN (Ext.refl _) _ | exact below_drewN (below_drewN (Ext.refl _) _) _ | exact below_drewN (below_drewN (below_drewN (Ext.refl _) _) _) _ | exact below_drewN HX3.out _ | exact below_drewN (below_drewN HX3.out _) _))
set_option maxHeartbeats 3200000 in
set_option maxRecDepth 100000 in
theorem opened_read (n : ByteArray) (s : Int) (us : List Tm) (xa : Option Addr) (cap : Nat) (w : World) (hn : n = yRead) (hg : gd (.mk 3 n s us)) (hsz : sizes us ≤ 1073741824) (hI : Is w (.mk 3 n s us) (.int .i64 3) (.string n) (.int .i64 s) (.slice xa us.length cap)) :
    Calls Tryz.prog 109 #[.agg #[.int .i64 3, .string n, .int .i64 s, .slice xa us.length cap]] w (TmPost w (openT n s us)) := by
  have hl : us.length = 1 := ln_read (by rw [← hn]; exact (gd_mk hg).2.1)
  obtain ⟨_, hcap, hR⟩ := Is_row hI
  obtain ⟨kb, ko, rfl⟩ := Row_at hR (by omega)
  have hL0 := Row_get hR 0 (by omega)
  rw [Nat.zero_mul, Nat.add_zero, ← kidT_eq (by omega : 0 < us.length)] at hL0
  have hg0 := gd_kid hg (show 0 < us.length by omega)
  have hz0 : size (kidT us 0) ≤ 1073741824 := by have := size_le_sizes (kidT_mem (show 0 < us.length by omega)); omega
  obtain ⟨hb0, hb1, hBw, hZ⟩ := boxes2 w (.int .i64 3) (.string n) (.int .i64 s) (.slice (some ⟨kb, ko, none⟩) us.length cap) (.int .i64 0) (.string ⟨#[]⟩) (.int .i64 0) (.slice none 0 0) 24
  have HA : Hid (∀ W, Ext ((w.alloc (.cells #[.int .i64 3, .string n, .int .i64 s, .slice (some ⟨kb, ko, none⟩) us.length cap] 24)).alloc (.cells #[.int .i64 0, .string ⟨#[]⟩, .int .i64 0, .slice none 0 0] 24)) W → Calls Tryz.prog 72 #[.pointer (some ⟨kb, ko, none⟩), .string ⟨#[115, 105, 103, 110]⟩] W fun e w' => e = .returned (.bool (isApp (kidT us 0) ⟨#[115, 105, 103, 110]⟩)) ∧ w' = W) := fun W x => applies_any (kidT us 0) ⟨#[115, 105, 103, 110]⟩ kb ko W (Lies_carry (keep_below (Ext.trans hBw x)) hL0)
  have q1 : (n.toList == [102, 115, 116]) = false := by rw [hn]; kernel_rfl
  have q2 : (n.toList == [115, 110, 100]) = false := by rw [hn]; kernel_rfl
  have q3 : (n.toList == [100, 101, 99]) = false := by rw [hn]; kernel_rfl
  have q4 : (n.toList == [97, 100, 101, 99]) = false := by rw [hn]; kernel_rfl
  have q5 : (n.toList == [111, 112, 101, 110]) = false := by rw [hn]; kernel_rfl
  have q6 : (n.toList == [114, 101, 97, 100]) = true := by rw [hn]; kernel_rfl
  have HTS : Hid (∀ W, Ext ((w.alloc (.cells #[.int .i64 3, .string n, .int .i64 s, .slice (some ⟨kb, ko, none⟩) us.length cap] 24)).alloc (.cells #[.int .i64 0, .string ⟨#[]⟩, .int .i64 0, .slice none 0 0] 24)) W → openT n s us = .mk 3 n s us → TmPost w (openT n s us) (.returned (.agg #[.int .i64 3, .string n, .int .i64 s, .slice (some ⟨kb, ko, none⟩) us.length cap])) (put4 W (w.heap.size + 1) 0 (.int .i64 3) (.string n) (.int .i64 s) (.slice (some ⟨kb, ko, none⟩) us.length cap))) := fun W x e => by
    rw [e]
    exact TmFin ((x.block _ (by omega)).trans hb1) (by omega) (Ext.trans hBw x) hg.1 (Is_below hI (Ext.trans hBw x))
  obtain ⟨⟨p0, p1, p2, p3⟩, _⟩ := box_facts hb0
  obtain ⟨⟨m0, m1, m2, m3⟩, n0, n1, n2, n3⟩ := box_facts hb1
  cases ha : isApp (kidT us 0) ⟨#[115, 105, 103, 110]⟩
  · have HF : Hid (∀ W, Ext ((w.alloc (.cells #[.int .i64 3, .string n, .int .i64 s, .slice (some ⟨kb, ko, none⟩) us.length cap] 24)).alloc (.cells #[.int .i64 0, .string ⟨#[]⟩, .int .i64 0, .slice none 0 0] 24)) W → TmPost w (openT n s us) (.returned (.agg #[.int .i64 3, .string n, .int .i64 s, .slice (some ⟨kb, ko, none⟩) us.length cap])) (put4 W (w.heap.size + 1) 0 (.int .i64 3) (.string n) (.int .i64 s) (.slice (some ⟨kb, ko, none⟩) us.length cap))) := fun W x => HTS.out W x (by rw [hn, openT_read, if_neg (fun e => Bool.noConfusion (e.symm.trans ha))])
    rw [ha] at HA
    rw [hl] at *
    clear ha hn hg hI hR hL0 hg0 hz0 hb0 hb1 hBw hZ HTS 
    go_enter Tryz.func109, Tryz.ntmps109
    go_wp2_with fail
    go_quiet (fail)
    go_wp2_with fail
    go_quiet (fail)
    go_wp2_with fail
    go_quiet (fail)
    go_wp2_with (go_at_call 72; refine (HA.out _ (by first | exact HX3.out | exact Ext.refl _ | exact (Ext.refl _).drew | exact below_drewN (Ext.refl _) _ | exact below_drewN (below_drewN (Ext.refl _) _) _ | exact below_drewN (below_drewN (below_drewN (Ext.refl _) _) _) _ | exact below_drewN HX3.out _ | exact below_drewN (below_drewN HX3.out _) _)).mono ?_; rintro e w3 ⟨he, hw⟩; subst he; have hw' := hw.symm; subst hw')
    exact bodyPost_ret (v := .agg #[.int .i64 3, .string n, .int .i64 s, .slice (some ⟨kb, ko, none⟩) 1 cap]) (by simp [results, Tryz.results109, go_sem, m0, m1, m2, m3]) rfl (HF.out _ (by first | exact HX3.out | exact Ext.refl _ | exact (Ext.refl _).drew | exact below_drewN (Ext.refl _) _ | exact below_drewN (below_drewN (Ext.refl _) _) _ | exact below_drewN (below_drewN (below_drewN (Ext.refl _) _) _) _ | exact below_drewN HX3.out _ | exact below_drewN (below_drewN HX3.out _) _))
  obtain ⟨s', ks, hkk⟩ := isApp_mk ha
  rw [hkk] at hL0 hg0 hz0
  have hkl : ks.length = 2 := ln_sign (gd_mk hg0).2.1
  obtain ⟨cb, co, cc, g3, hLk⟩ := Lies_kids hL0 (by omega)
  have hLx := hLk 0 (by omega)
  have hgx := gd_kid hg0 (show 0 < ks.length by omega)
  have hKk : (kidT us 0).kids = ks := by rw [hkk]; rfl
  obtain ⟨x0, x1, x2, x3, y0, y1, y2, y3, hIx⟩ := hLx
  obtain ⟨kk, kn, kt, kx, kl, kc, rfl, rfl, rfl, rfl⟩ := Is_form hIx
  rw [Nat.zero_mul, Nat.add_zero] at y0 y1 y2 y3
  have HF : Hid (∀ W, Ext ((w.alloc (.cells #[.int .i64 3, .string n, .int .i64 s, .slice (some ⟨kb, ko, none⟩) us.length cap] 24)).alloc (.cells #[.int .i64 0, .string ⟨#[]⟩, .int .i64 0, .slice none 0 0] 24)) W → TmPost w (openT n s us) (.returned (.agg #[.int .i64 kk, .string kn, .int .i64 kt, .slice kx kl kc])) (put4 W (w.heap.size + 1) 0 (.int .i64 kk) (.string kn) (.int .i64 kt) (.slice kx kl kc))) := fun W x => by
    rw [hn, openT_read, if_pos (c := isApp (kidT us 0) ySign = true) ha, hKk]
    exact TmFin ((x.block _ (by omega)).trans hb1) (by omega) (Ext.trans hBw x) hgx.1 (Is_below hIx (Ext.trans hBw x))
  have c := keep_below hBw
  have v3 := c _ _ g3
  have v4 := c _ _ y0
  have v5 := c _ _ y1
  have v6 := c _ _ y2
  have v7 := c _ _ y3
  rw [hkl] at v3
  rw [ha] at HA
  rw [hl] at *
  clear ha hn hg hI hR hL0 hg0 hz0 hb0 hb1 hBw hZ HTS hIx hgx hKk hkk hkl hLk g3 y0 y1 y2 y3 c
  go_enter Tryz.func109, Tryz.ntmps109
  go_wp2_with fail
  go_quiet (fail)
  go_wp2_with fail
  go_quiet (fail)
  go_wp2_with fail
  go_quiet (fail)
  go_wp2_with (go_at_call 72; refine (HA.out _ (by first | exact HX3.out | exact Ext.refl _ | exact (Ext.refl _).drew | exact below_drewN (Ext.refl _) _ | exact below_drewN (below_drewN (Ext.refl _) _) _ | exact below_drewN (below_drewN (below_drewN (Ext.refl _) _) _) _ | exact below_drewN HX3.out _ | exact below_drewN (below_drewN HX3.out _) _)).mono ?_; rintro e w3 ⟨he, hw⟩; subst he; have hw' := hw.symm; subst hw')
  exact bodyPost_ret (v := .agg #[.int .i64 kk, .string kn, .int .i64 kt, .slice kx kl kc]) (by simp [results, Tryz.results109, go_sem, m0, m1, m2, m3]) rfl (HF.out _ (by first | exact HX3.out | exact Ext.refl _ | exact (Ext.refl _).drew | exact below_drewN (Ext.refl _) _ | exact below_drewN (below_drewN (Ext.refl _) _) _ | exact below_drewN (below_drewN (below_drewN (Ext.refl _) _) _) _ | exact below_drewN HX3.out _ | exact below_drewN (below_drewN HX3.out _) _))
end Go.Proofs.YtbcpnepjojppaaaGreatDoor
