import Derived.Test.YtbcpnepjojppaaaGreatDoorLawTheoryKeyxYpwr
namespace Go.Proofs.YtbcpnepjojppaaaGreatDoor
open Go.RowKit
def okz (r : Tm × Int) : Prop := nodesE r.1 = 0 ∨ r.1 = zilT
theorem okz_of {r : Tm × Int} (h : r.2 = 0 → gd r.1) (h2 : ¬ r.2 = 0 → r.1 = zilT) : okz r := by
  by_cases c : r.2 = 0
  · exact Or.inl (h c).1
  · exact Or.inr (h2 c)
theorem sumP_zil {us : List Tm} (h : ¬ (sumP us).2 = 0) : (sumP us).1 = zilT := by
  unfold sumP at h ⊢
  by_cases c1 : listE us = 0
  · rw [if_pos c1] at h ⊢
    by_cases c2 : validE (sumTm (sumsR us)) = 0
    · rw [if_pos c2] at h; exact absurd rfl h
    · rw [if_neg c2]
  · rw [if_neg c1]
theorem termP_zil {l : List Pw} (h : ¬ (termP l).2 = 0) : (termP l).1 = zilT := by
  unfold termP at h ⊢
  by_cases c0 : powE 1000 l = 0
  · rw [if_pos c0] at h ⊢
    by_cases c1 : 8 < absS l
    · rw [if_pos c1]; rfl
    rw [if_neg c1] at h ⊢
    by_cases c2 : validE (prodT (posO l ++ negO l)) = 0
    · rw [if_pos c2] at h; exact absurd rfl h
    · rw [if_neg c2]; rfl
  · rw [if_neg c0]; rfl
theorem powU_zil {b e : Tm} (h : ¬ (powU b e).2 = 0) : (powU b e).1 = zilT := by
  unfold powU at h ⊢
  by_cases c0 : (factU b).2.2 = 0
  · rw [if_pos c0] at h ⊢
    by_cases c1 : (ofP e).2 = 0
    · rw [if_pos c1] at h ⊢
      by_cases c2 : (mulP (factU b).2.1 (ofP e).1).2 = 0
      · rw [if_pos c2] at h ⊢
        unfold powM at h ⊢
        by_cases c3 : (mulP (factU b).2.1 (ofP e).1).1.length = 0
        · rw [if_pos c3] at h; exact absurd rfl h
        rw [if_neg c3] at h ⊢
        by_cases c4 : (termP (mulP (factU b).2.1 (ofP e).1).1).2 = 0
        · rw [if_pos c4] at h; exact absurd rfl h
        · rw [if_neg c4]
      · rw [if_neg c2]
    · rw [if_neg c1]
  · rw [if_neg c0]
theorem opened_des (n : ByteArray) (s : Int) (us : List Tm) (xa : Option Addr) (cap : Nat) (w : World) (hg : gd (.mk 3 n s us)) (hsz : 1 + sizes us ≤ 1048570) (hI : Is w (.mk 3 n s us) (.int .i64 3) (.string n) (.int .i64 s) (.slice xa us.length cap)) (hd : isDes n = true) :
    Calls Tryz.prog 109 #[.agg #[.int .i64 3, .string n, .int .i64 s, .slice xa us.length cap]] w (TmPost w (openT n s us)) := by
  rcases (isDes_iff n).1 hd with h | h | h | h | h | h
  · exact opened_fst n s us xa cap w h hg (by omega) hI
  · exact opened_snd n s us xa cap w h hg (by omega) hI
  · exact opened_dec n s us xa cap w h hg (by omega) hI
  · exact opened_adec n s us xa cap w h hg (by omega) hI
  · exact opened_open n s us xa cap w h hg (by omega) hI
  · exact opened_read n s us xa cap w h hg (by omega) hI
set_option maxHeartbeats 3200000 in
set_option maxRecDepth 100000 in
theorem reduced_fst (n : ByteArray) (s : Int) (us : List Tm) (xa : Option Addr) (cap : Nat) (w : World) (hg : gd (.mk 3 n s us)) (hsz : 1 + sizes us ≤ 1048570) (hI : Is w (.mk 3 n s us) (.int .i64 3) (.string n) (.int .i64 s) (.slice xa us.length cap)) (hn : n = yFst) :
    Calls Tryz.prog 87 #[.agg #[.int .i64 3, .string n, .int .i64 s, .slice xa us.length cap]] w (TrPost w (redU n s us)) := by
  have hd : isDes n = true := by rw [hn]; kernel_rfl
  obtain ⟨_, hcap, hR⟩ := Is_row hI
  obtain ⟨hb0, hb1, hBw, hZ⟩ := boxes2 w (.int .i64 3) (.string n) (.int .i64 s) (.slice xa us.length cap) (.int .i64 0) (.string ⟨#[]⟩) (.int .i64 0) (.slice none 0 0) 24
  obtain ⟨⟨p0, p1, p2, p3⟩, _⟩ := box_facts hb0
  have HBX : Hid (∀ W, Ext ((w.alloc (.cells #[.int .i64 3, .string n, .int .i64 s, .slice xa us.length cap] 24)).alloc (.cells #[.int .i64 0, .string ⟨#[]⟩, .int .i64 0, .slice none 0 0] 24)) W → W.heap[w.heap.size + 1]? = some (.cells #[.int .i64 0, .string ⟨#[]⟩, .int .i64 0, .slice none 0 0] 24 (0, 0))) := fun W x => (x.block _ (by omega)).trans hb1
  have HBw := Lib.hid hBw
  have HC : Hid (∀ W, Ext ((w.alloc (.cells #[.int .i64 3, .string n, .int .i64 s, .slice xa us.length cap] 24)).alloc (.cells #[.int .i64 0, .string ⟨#[]⟩, .int .i64 0, .slice none 0 0] 24)) W → Calls Tryz.prog 109 #[.agg #[.int .i64 3, .string n, .int .i64 s, .slice xa us.length cap]] W (TmPost W (openT n s us))) := fun W x => opened_des n s us xa cap W hg hsz (Is_below hI (Ext.trans hBw x)) hd
  have HV := Lib.hid (openT_gd hd hg).1.1
  have HR : Hid (redU n s us = (openT n s us, 0)) := by show _ = _; unfold redU; rw [if_pos hd]
  have q0 : (n.toList == [102, 115, 116]) = true := by rw [hn]; kernel_rfl
  have q1 : (n.toList == [115, 110, 100]) = false := by rw [hn]; kernel_rfl
  have q2 : (n.toList == [100, 101, 99]) = false := by rw [hn]; kernel_rfl
  have q3 : (n.toList == [97, 100, 101, 99]) = false := by rw [hn]; kernel_rfl
  have q4 : (n.toList == [111, 112, 101, 110]) = false := by rw [hn]; kernel_rfl
  have q5 : (n.toList == [114, 101, 97, 100]) = false := by rw [hn]; kernel_rfl
  have q6 : (n.toList == [120, 111, 114]) = false := by rw [hn]; kernel_rfl
  have q7 : (n.toList == [109, 117, 108]) = false := by rw [hn]; kernel_rfl
  have q8 : (n.toList == [105, 110, 118]) = false := by rw [hn]; kernel_rfl
  have q9 : (n.toList == [111, 110, 101]) = false := by rw [hn]; kernel_rfl
  have q10 : (n.toList == [101, 120, 112]) = false := by rw [hn]; kernel_rfl
  clear hd hn hg hsz hI hR hb0 hb1 hBw hcap
  go_enter Tryz.func87, Tryz.ntmps87
  go_wp2_with (go_at_call 109; refine (HC.out _ (Ext.refl _)).mono ?_; rintro e w3 ⟨rk, rn, rs, rx, rl, rc, he, hI3, hX3⟩; subst he; have HX3 := Lib.hid hX3; have HI3 := Lib.hid hI3; obtain ⟨⟨m0, m1, m2, m3⟩, n0, n1, n2, n3⟩ := box_facts (HBX.out _ hX3); clear hI3 hX3)
  exact bodyPost_ret (v := .tuple #[.agg #[.int .i64 rk, .string rn, .int .i64 rs, .slice rx rl rc], .int .i64 0]) (by simp [results, Tryz.results87, go_sem, m0, m1, m2, m3]) rfl (TrFin HR.out (HBX.out _ HX3.out) (by omega) (Ext.trans HBw.out HX3.out) HV.out HI3.out)
set_option maxHeartbeats 3200000 in
set_option maxRecDepth 100000 in
theorem reduced_snd (n : ByteArray) (s : Int) (us : List Tm) (xa : Option Addr) (cap : Nat) (w : World) (hg : gd (.mk 3 n s us)) (hsz : 1 + sizes us ≤ 1048570) (hI : Is w (.mk 3 n s us) (.int .i64 3) (.string n) (.int .i64 s) (.slice xa us.length cap)) (hn : n = ySnd) :
    Calls Tryz.prog 87 #[.agg #[.int .i64 3, .string n, .int .i64 s, .slice xa us.length cap]] w (TrPost w (redU n s us)) := by
  have hd : isDes n = true := by rw [hn]; kernel_rfl
  obtain ⟨_, hcap, hR⟩ := Is_row hI
  obtain ⟨hb0, hb1, hBw, hZ⟩ := boxes2 w (.int .i64 3) (.string n) (.int .i64 s) (.slice xa us.length cap) (.int .i64 0) (.string ⟨#[]⟩) (.int .i64 0) (.slice none 0 0) 24
  obtain ⟨⟨p0, p1, p2, p3⟩, _⟩ := box_facts hb0
  have HBX : Hid (∀ W, Ext ((w.alloc (.cells #[.int .i64 3, .string n, .int .i64 s, .slice xa us.length cap] 24)).alloc (.cells #[.int .i64 0, .string ⟨#[]⟩, .int .i64 0, .slice none 0 0] 24)) W → W.heap[w.heap.size + 1]? = some (.cells #[.int .i64 0, .string ⟨#[]⟩, .int .i64 0, .slice none 0 0] 24 (0, 0))) := fun W x => (x.block _ (by omega)).trans hb1
  have HBw := Lib.hid hBw
  have HC : Hid (∀ W, Ext ((w.alloc (.cells #[.int .i64 3, .string n, .int .i64 s, .slice xa us.length cap] 24)).alloc (.cells #[.int .i64 0, .string ⟨#[]⟩, .int .i64 0, .slice none 0 0] 24)) W → Calls Tryz.prog 109 #[.agg #[.int .i64 3, .string n, .int .i64 s, .slice xa us.length cap]] W (TmPost W (openT n s us))) := fun W x => opened_des n s us xa cap W hg hsz (Is_below hI (Ext.trans hBw x)) hd
  have HV := Lib.hid (openT_gd hd hg).1.1
  have HR : Hid (redU n s us = (openT n s us, 0)) := by show _ = _; unfold redU; rw [if_pos hd]
  have q0 : (n.toList == [102, 115, 116]) = false := by rw [hn]; kernel_rfl
  have q1 : (n.toList == [115, 110, 100]) = true := by rw [hn]; kernel_rfl
  have q2 : (n.toList == [100, 101, 99]) = false := by rw [hn]; kernel_rfl
  have q3 : (n.toList == [97, 100, 101, 99]) = false := by rw [hn]; kernel_rfl
  have q4 : (n.toList == [111, 112, 101, 110]) = false := by rw [hn]; kernel_rfl
  have q5 : (n.toList == [114, 101, 97, 100]) = false := by rw [hn]; kernel_rfl
  have q6 : (n.toList == [120, 111, 114]) = false := by rw [hn]; kernel_rfl
  have q7 : (n.toList == [109, 117, 108]) = false := by rw [hn]; kernel_rfl
  have q8 : (n.toList == [105, 110, 118]) = false := by rw [hn]; kernel_rfl
  have q9 : (n.toList == [111, 110, 101]) = false := by rw [hn]; kernel_rfl
  have q10 : (n.toList == [101, 120, 112]) = false := by rw [hn]; kernel_rfl
  clear hd hn hg hsz hI hR hb0 hb1 hBw hcap
  go_enter Tryz.func87, Tryz.ntmps87
  go_wp2_with (go_at_call 109; refine (HC.out _ (Ext.refl _)).mono ?_; rintro e w3 ⟨rk, rn, rs, rx, rl, rc, he, hI3, hX3⟩; subst he; have HX3 := Lib.hid hX3; have HI3 := Lib.hid hI3; obtain ⟨⟨m0, m1, m2, m3⟩, n0, n1, n2, n3⟩ := box_facts (HBX.out _ hX3); clear hI3 hX3)
  exact bodyPost_ret (v := .tuple #[.agg #[.int .i64 rk, .string rn, .int .i64 rs, .slice rx rl rc], .int .i64 0]) (by simp [results, Tryz.results87, go_sem, m0, m1, m2, m3]) rfl (TrFin HR.out (HBX.out _ HX3.out) (by omega) (Ext.trans HBw.out HX3.out) HV.out HI3.out)
set_option maxHeartbeats 3200000 in
set_option maxRecDepth 100000 in
theorem reduced_dec (n : ByteArray) (s : Int) (us : List Tm) (xa : Option Addr) (cap : Nat) (w : World) (hg : gd (.mk 3 n s us)) (hsz : 1 + sizes us ≤ 1048570) (hI : Is w (.mk 3 n s us) (.int .i64 3) (.string n) (.int .i64 s) (.slice xa us.length cap)) (hn : n = yDec) :
    Calls Tryz.prog 87 #[.agg #[.int .i64 3, .string n, .int .i64 s, .slice xa us.length cap]] w (TrPost w (redU n s us)) := by
  have hd : isDes n = true := by rw [hn]; kernel_rfl
  obtain ⟨_, hcap, hR⟩ := Is_row hI
  obtain ⟨hb0, hb1, hBw, hZ⟩ := boxes2 w (.int .i64 3) (.string n) (.int .i64 s) (.slice xa us.length cap) (.int .i64 0) (.string ⟨#[]⟩) (.int .i64 0) (.slice none 0 0) 24
  obtain ⟨⟨p0, p1, p2, p3⟩, _⟩ := box_facts hb0
  have HBX : Hid (∀ W, Ext ((w.alloc (.cells #[.int .i64 3, .string n, .int .i64 s, .slice xa us.length cap] 24)).alloc (.cells #[.int .i64 0, .string ⟨#[]⟩, .int .i64 0, .slice none 0 0] 24)) W → W.heap[w.heap.size + 1]? = some (.cells #[.int .i64 0, .string ⟨#[]⟩, .int .i64 0, .slice none 0 0] 24 (0, 0))) := fun W x => (x.block _ (by omega)).trans hb1
  have HBw := Lib.hid hBw
  have HC : Hid (∀ W, Ext ((w.alloc (.cells #[.int .i64 3, .string n, .int .i64 s, .slice xa us.length cap] 24)).alloc (.cells #[.int .i64 0, .string ⟨#[]⟩, .int .i64 0, .slice none 0 0] 24)) W → Calls Tryz.prog 109 #[.agg #[.int .i64 3, .string n, .int .i64 s, .slice xa us.length cap]] W (TmPost W (openT n s us))) := fun W x => opened_des n s us xa cap W hg hsz (Is_below hI (Ext.trans hBw x)) hd
  have HV := Lib.hid (openT_gd hd hg).1.1
  have HR : Hid (redU n s us = (openT n s us, 0)) := by show _ = _; unfold redU; rw [if_pos hd]
  have q0 : (n.toList == [102, 115, 116]) = false := by rw [hn]; kernel_rfl
  have q1 : (n.toList == [115, 110, 100]) = false := by rw [hn]; kernel_rfl
  have q2 : (n.toList == [100, 101, 99]) = true := by rw [hn]; kernel_rfl
  have q3 : (n.toList == [97, 100, 101, 99]) = false := by rw [hn]; kernel_rfl
  have q4 : (n.toList == [111, 112, 101, 110]) = false := by rw [hn]; kernel_rfl
  have q5 : (n.toList == [114, 101, 97, 100]) = false := by rw [hn]; kernel_rfl
  have q6 : (n.toList == [120, 111, 114]) = false := by rw [hn]; kernel_rfl
  have q7 : (n.toList == [109, 117, 108]) = false := by rw [hn]; kernel_rfl
  have q8 : (n.toList == [105, 110, 118]) = false := by rw [hn]; kernel_rfl
  have q9 : (n.toList == [111, 110, 101]) = false := by rw [hn]; kernel_rfl
  have q10 : (n.toList == [101, 120, 112]) = false := by rw [hn]; kernel_rfl
  clear hd hn hg hsz hI hR hb0 hb1 hBw hcap
  go_enter Tryz.func87, Tryz.ntmps87
  go_wp2_with (go_at_call 109; refine (HC.out _ (Ext.refl _)).mono ?_; rintro e w3 ⟨rk, rn, rs, rx, rl, rc, he, hI3, hX3⟩; subst he; have HX3 := Lib.hid hX3; have HI3 := Lib.hid hI3; obtain ⟨⟨m0, m1, m2, m3⟩, n0, n1, n2, n3⟩ := box_facts (HBX.out _ hX3); clear hI3 hX3)
  exact bodyPost_ret (v := .tuple #[.agg #[.int .i64 rk, .string rn, .int .i64 rs, .slice rx rl rc], .int .i64 0]) (by simp [results, Tryz.results87, go_sem, m0, m1, m2, m3]) rfl (TrFin HR.out (HBX.out _ HX3.out) (by omega) (Ext.trans HBw.out HX3.out) HV.out HI3.out)
set_option maxHeartbeats 3200000 in
set_option maxRecDepth 100000 in
theorem reduced_adec (n : ByteArray) (s : Int) (us : List Tm) (xa : Option Addr) (cap : Nat) (w : World) (hg : gd (.mk 3 n s us)) (hsz : 1 + sizes us ≤ 1048570) (hI : Is w (.mk 3 n s us) (.int .i64 3) (.string n) (.int .i64 s) (.slice xa us.length cap)) (hn : n = yAdec) :
    Calls Tryz.prog 87 #[.agg #[.int .i64 3, .string n, .int .i64 s, .slice xa us.length cap]] w (TrPost w (redU n s us)) := by
  have hd : isDes n = true := by rw [hn]; kernel_rfl
  obtain ⟨_, hcap, hR⟩ := Is_row hI
  obtain ⟨hb0, hb1, hBw, hZ⟩ := boxes2 w (.int .i64 3) (.string n) (.int .i64 s) (.slice xa us.length cap) (.int .i64 0) (.string ⟨#[]⟩) (.int .i64 0) (.slice none 0 0) 24
  obtain ⟨⟨p0, p1, p2, p3⟩, _⟩ := box_facts hb0
  have HBX : Hid (∀ W, Ext ((w.alloc (.cells #[.int .i64 3, .string n, .int .i64 s, .slice xa us.length cap] 24)).alloc (.cells #[.int .i64 0, .string ⟨#[]⟩, .int .i64 0, .slice none 0 0] 24)) W → W.heap[w.heap.size + 1]? = some (.cells #[.int .i64 0, .string ⟨#[]⟩, .int .i64 0, .slice none 0 0] 24 (0, 0))) := fun W x => (x.block _ (by omega)).trans hb1
  have HBw := Lib.hid hBw
  have HC : Hid (∀ W, Ext ((w.alloc (.cells #[.int .i64 3, .string n, .int .i64 s, .slice xa us.length cap] 24)).alloc (.cells #[.int .i64 0, .string ⟨#[]⟩, .int .i64 0, .slice none 0 0] 24)) W → Calls Tryz.prog 109 #[.agg #[.int .i64 3, .string n, .int .i64 s, .slice xa us.length cap]] W (TmPost W (openT n s us))) := fun W x => opened_des n s us xa cap W hg hsz (Is_below hI (Ext.trans hBw x)) hd
  have HV := Lib.hid (openT_gd hd hg).1.1
  have HR : Hid (redU n s us = (openT n s us, 0)) := by show _ = _; unfold redU; rw [if_pos hd]
  have q0 : (n.toList == [102, 115, 116]) = false := by rw [hn]; kernel_rfl
  have q1 : (n.toList == [115, 110, 100]) = false := by rw [hn]; kernel_rfl
  have q2 : (n.toList == [100, 101, 99]) = false := by rw [hn]; kernel_rfl
  have q3 : (n.toList == [97, 100, 101, 99]) = true := by rw [hn]; kernel_rfl
  have q4 : (n.toList == [111, 112, 101, 110]) = false := by rw [hn]; kernel_rfl
  have q5 : (n.toList == [114, 101, 97, 100]) = false := by rw [hn]; kernel_rfl
  have q6 : (n.toList == [120, 111, 114]) = false := by rw [hn]; kernel_rfl
  have q7 : (n.toList == [109, 117, 108]) = false := by rw [hn]; kernel_rfl
  have q8 : (n.toList == [105, 110, 118]) = false := by rw [hn]; kernel_rfl
  have q9 : (n.toList == [111, 110, 101]) = false := by rw [hn]; kernel_rfl
  have q10 : (n.toList == [101, 120, 112]) = false := by rw [hn]; kernel_rfl
  clear hd hn hg hsz hI hR hb0 hb1 hBw hcap
  go_enter Tryz.func87, Tryz.ntmps87
  go_wp2_with (go_at_call 109; refine (HC.out _ (Ext.refl _)).mono ?_; rintro e w3 ⟨rk, rn, rs, rx, rl, rc, he, hI3, hX3⟩; subst he; have HX3 := Lib.hid hX3; have HI3 := Lib.hid hI3; obtain ⟨⟨m0, m1, m2, m3⟩, n0, n1, n2, n3⟩ := box_facts (HBX.out _ hX3); clear hI3 hX3)
  exact bodyPost_ret (v := .tuple #[.agg #[.int .i64 rk, .string rn, .int .i64 rs, .slice rx rl rc], .int .i64 0]) (by simp [results, Tryz.results87, go_sem, m0, m1, m2, m3]) rfl (TrFin HR.out (HBX.out _ HX3.out) (by omega) (Ext.trans HBw.out HX3.out) HV.out HI3.out)
set_option maxHeartbeats 3200000 in
set_option maxRecDepth 100000 in
theorem reduced_open (n : ByteArray) (s : Int) (us : List Tm) (xa : Option Addr) (cap : Nat) (w : World) (hg : gd (.mk 3 n s us)) (hsz : 1 + sizes us ≤ 1048570) (hI : Is w (.mk 3 n s us) (.int .i64 3) (.string n) (.int .i64 s) (.slice xa us.length cap)) (hn : n = yOpen) :
    Calls Tryz.prog 87 #[.agg #[.int .i64 3, .string n, .int .i64 s, .slice xa us.length cap]] w (TrPost w (redU n s us)) := by
  have hd : isDes n = true := by rw [hn]; kernel_rfl
  obtain ⟨_, hcap, hR⟩ := Is_row hI
  obtain ⟨hb0, hb1, hBw, hZ⟩ := boxes2 w (.int .i64 3) (.string n) (.int .i64 s) (.slice xa us.length cap) (.int .i64 0) (.string ⟨#[]⟩) (.int .i64 0) (.slice none 0 0) 24
  obtain ⟨⟨p0, p1, p2, p3⟩, _⟩ := box_facts hb0
  have HBX : Hid (∀ W, Ext ((w.alloc (.cells #[.int .i64 3, .string n, .int .i64 s, .slice xa us.length cap] 24)).alloc (.cells #[.int .i64 0, .string ⟨#[]⟩, .int .i64 0, .slice none 0 0] 24)) W → W.heap[w.heap.size + 1]? = some (.cells #[.int .i64 0, .string ⟨#[]⟩, .int .i64 0, .slice none 0 0] 24 (0, 0))) := fun W x => (x.block _ (by omega)).trans hb1
  have HBw := Lib.hid hBw
  have HC : Hid (∀ W, Ext ((w.alloc (.cells #[.int .i64 3, .string n, .int .i64 s, .slice xa us.length cap] 24)).alloc (.cells #[.int .i64 0, .string ⟨#[]⟩, .int .i64 0, .slice none 0 0] 24)) W → Calls Tryz.prog 109 #[.agg #[.int .i64 3, .string n, .int .i64 s, .slice xa us.length cap]] W (TmPost W (openT n s us))) := fun W x => opened_des n s us xa cap W hg hsz (Is_below hI (Ext.trans hBw x)) hd
  have HV := Lib.hid (openT_gd hd hg).1.1
  have HR : Hid (redU n s us = (openT n s us, 0)) := by show _ = _; unfold redU; rw [if_pos hd]
  have q0 : (n.toList == [102, 115, 116]) = false := by rw [hn]; kernel_rfl
  have q1 : (n.toList == [115, 110, 100]) = false := by rw [hn]; kernel_rfl
  have q2 : (n.toList == [100, 101, 99]) = false := by rw [hn]; kernel_rfl
  have q3 : (n.toList == [97, 100, 101, 99]) = false := by rw [hn]; kernel_rfl
  have q4 : (n.toList == [111, 112, 101, 110]) = true := by rw [hn]; kernel_rfl
  have q5 : (n.toList == [114, 101, 97, 100]) = false := by rw [hn]; kernel_rfl
  have q6 : (n.toList == [120, 111, 114]) = false := by rw [hn]; kernel_rfl
  have q7 : (n.toList == [109, 117, 108]) = false := by rw [hn]; kernel_rfl
  have q8 : (n.toList == [105, 110, 118]) = false := by rw [hn]; kernel_rfl
  have q9 : (n.toList == [111, 110, 101]) = false := by rw [hn]; kernel_rfl
  have q10 : (n.toList == [101, 120, 112]) = false := by rw [hn]; kernel_rfl
  clear hd hn hg hsz hI hR hb0 hb1 hBw hcap
  go_enter Tryz.func87, Tryz.ntmps87
  go_wp2_with (go_at_call 109; refine (HC.out _ (Ext.refl _)).mono ?_; rintro e w3 ⟨rk, rn, rs, rx, rl, rc, he, hI3, hX3⟩; subst he; have HX3 := Lib.hid hX3; have HI3 := Lib.hid hI3; obtain ⟨⟨m0, m1, m2, m3⟩, n0, n1, n2, n3⟩ := box_facts (HBX.out _ hX3); clear hI3 hX3)
  exact bodyPost_ret (v := .tuple #[.agg #[.int .i64 rk, .string rn, .int .i64 rs, .slice rx rl rc], .int .i64 0]) (by simp [results, Tryz.results87, go_sem, m0, m1, m2, m3]) rfl (TrFin HR.out (HBX.out _ HX3.out) (by omega) (Ext.trans HBw.out HX3.out) HV.out HI3.out)
set_option maxHeartbeats 3200000 in
set_option maxRecDepth 100000 in
theorem reduced_read (n : ByteArray) (s : Int) (us : List Tm) (xa : Option Addr) (cap : Nat) (w : World) (hg : gd (.mk 3 n s us)) (hsz : 1 + sizes us ≤ 1048570) (hI : Is w (.mk 3 n s us) (.int .i64 3) (.string n) (.int .i64 s) (.slice xa us.length cap)) (hn : n = yRead) :
    Calls Tryz.prog 87 #[.agg #[.int .i64 3, .string n, .int .i64 s, .slice xa us.length cap]] w (TrPost w (redU n s us)) := by
  have hd : isDes n = true := by rw [hn]; kernel_rfl
  obtain ⟨_, hcap, hR⟩ := Is_row hI
  obtain ⟨hb0, hb1, hBw, hZ⟩ := boxes2 w (.int .i64 3) (.string n) (.int .i64 s) (.slice xa us.length cap) (.int .i64 0) (.string ⟨#[]⟩) (.int .i64 0) (.slice none 0 0) 24
  obtain ⟨⟨p0, p1, p2, p3⟩, _⟩ := box_facts hb0
  have HBX : Hid (∀ W, Ext ((w.alloc (.cells #[.int .i64 3, .string n, .int .i64 s, .slice xa us.length cap] 24)).alloc (.cells #[.int .i64 0, .string ⟨#[]⟩, .int .i64 0, .slice none 0 0] 24)) W → W.heap[w.heap.size + 1]? = some (.cells #[.int .i64 0, .string ⟨#[]⟩, .int .i64 0, .slice none 0 0] 24 (0, 0))) := fun W x => (x.block _ (by omega)).trans hb1
  have HBw := Lib.hid hBw
  have HC : Hid (∀ W, Ext ((w.alloc (.cells #[.int .i64 3, .string n, .int .i64 s, .slice xa us.length cap] 24)).alloc (.cells #[.int .i64 0, .string ⟨#[]⟩, .int .i64 0, .slice none 0 0] 24)) W → Calls Tryz.prog 109 #[.agg #[.int .i64 3, .string n, .int .i64 s, .slice xa us.length cap]] W (TmPost W (openT n s us))) := fun W x => opened_des n s us xa cap W hg hsz (Is_below hI (Ext.trans hBw x)) hd
  have HV := Lib.hid (openT_gd hd hg).1.1
  have HR : Hid (redU n s us = (openT n s us, 0)) := by show _ = _; unfold redU; rw [if_pos hd]
  have q0 : (n.toList == [102, 115, 116]) = false := by rw [hn]; kernel_rfl
  have q1 : (n.toList == [115, 110, 100]) = false := by rw [hn]; kernel_rfl
  have q2 : (n.toList == [100, 101, 99]) = false := by rw [hn]; kernel_rfl
  have q3 : (n.toList == [97, 100, 101, 99]) = false := by rw [hn]; kernel_rfl
  have q4 : (n.toList == [111, 112, 101, 110]) = false := by rw [hn]; kernel_rfl
  have q5 : (n.toList == [114, 101, 97, 100]) = true := by rw [hn]; kernel_rfl
  have q6 : (n.toList == [120, 111, 114]) = false := by rw [hn]; kernel_rfl
  have q7 : (n.toList == [109, 117, 108]) = false := by rw [hn]; kernel_rfl
  have q8 : (n.toList == [105, 110, 118]) = false := by rw [hn]; kernel_rfl
  have q9 : (n.toList == [111, 110, 101]) = false := by rw [hn]; kernel_rfl
  have q10 : (n.toList == [101, 120, 112]) = false := by rw [hn]; kernel_rfl
  clear hd hn hg hsz hI hR hb0 hb1 hBw hcap
  go_enter Tryz.func87, Tryz.ntmps87
  go_wp2_with (go_at_call 109; refine (HC.out _ (Ext.refl _)).mono ?_; rintro e w3 ⟨rk, rn, rs, rx, rl, rc, he, hI3, hX3⟩; subst he; have HX3 := Lib.hid hX3; have HI3 := Lib.hid hI3; obtain ⟨⟨m0, m1, m2, m3⟩, n0, n1, n2, n3⟩ := box_facts (HBX.out _ hX3); clear hI3 hX3)
  exact bodyPost_ret (v := .tuple #[.agg #[.int .i64 rk, .string rn, .int .i64 rs, .slice rx rl rc], .int .i64 0]) (by simp [results, Tryz.results87, go_sem, m0, m1, m2, m3]) rfl (TrFin HR.out (HBX.out _ HX3.out) (by omega) (Ext.trans HBw.out HX3.out) HV.out HI3.out)
set_option maxHeartbeats 3200000 in
set_option maxRecDepth 100000 in
theorem reduced_xor (n : ByteArray) (s : Int) (us : List Tm) (xa : Option Addr) (cap : Nat) (w : World) (hg : gd (.mk 3 n s us)) (hsz : 1 + sizes us ≤ 1048570) (hI : Is w (.mk 3 n s us) (.int .i64 3) (.string n) (.int .i64 s) (.slice xa us.length cap)) (hn : n = yXor) :
    Calls Tryz.prog 87 #[.agg #[.int .i64 3, .string n, .int .i64 s, .slice xa us.length cap]] w (TrPost w (redU n s us)) := by
  have hd : ¬ isDes n = true := by rw [hn]; exact (by kernel_rfl : isDes yXor = false) ▸ Bool.false_ne_true
  obtain ⟨_, hcap, hR⟩ := Is_row hI
  obtain ⟨hb0, hb1, hBw, hZ⟩ := boxes2 w (.int .i64 3) (.string n) (.int .i64 s) (.slice xa us.length cap) (.int .i64 0) (.string ⟨#[]⟩) (.int .i64 0) (.slice none 0 0) 24
  obtain ⟨⟨p0, p1, p2, p3⟩, _⟩ := box_facts hb0
  have HBX : Hid (∀ W, Ext ((w.alloc (.cells #[.int .i64 3, .string n, .int .i64 s, .slice xa us.length cap] 24)).alloc (.cells #[.int .i64 0, .string ⟨#[]⟩, .int .i64 0, .slice none 0 0] 24)) W → W.heap[w.heap.size + 1]? = some (.cells #[.int .i64 0, .string ⟨#[]⟩, .int .i64 0, .slice none 0 0] 24 (0, 0))) := fun W x => (x.block _ (by omega)).trans hb1
  have HBw := Lib.hid hBw
  have HC : Hid (∀ W, Ext ((w.alloc (.cells #[.int .i64 3, .string n, .int .i64 s, .slice xa us.length cap] 24)).alloc (.cells #[.int .i64 0, .string ⟨#[]⟩, .int .i64 0, .slice none 0 0] 24)) W → Calls Tryz.prog 110 #[.slice xa us.length cap] W (TrPost W (sumP us))) := fun W x => (Sum_any us xa cap W (by have := length_le_sizes us; omega) (by omega) (Row_below hR (Ext.trans hBw x))).mono fun e w' h => TePost.weak h
  have HV : Hid (okz (sumP us)) := Lib.hid (okz_of (fun h => sumP_gd (gd_mk hg).2.2 h) sumP_zil)
  have HR : Hid (redU n s us = sumP us) := by show _ = _; unfold redU; rw [if_neg hd, if_pos hn]
  have q0 : (n.toList == [102, 115, 116]) = false := by rw [hn]; kernel_rfl
  have q1 : (n.toList == [115, 110, 100]) = false := by rw [hn]; kernel_rfl
  have q2 : (n.toList == [100, 101, 99]) = false := by rw [hn]; kernel_rfl
  have q3 : (n.toList == [97, 100, 101, 99]) = false := by rw [hn]; kernel_rfl
  have q4 : (n.toList == [111, 112, 101, 110]) = false := by rw [hn]; kernel_rfl
  have q5 : (n.toList == [114, 101, 97, 100]) = false := by rw [hn]; kernel_rfl
  have q6 : (n.toList == [120, 111, 114]) = true := by rw [hn]; kernel_rfl
  have q7 : (n.toList == [109, 117, 108]) = false := by rw [hn]; kernel_rfl
  have q8 : (n.toList == [105, 110, 118]) = false := by rw [hn]; kernel_rfl
  have q9 : (n.toList == [111, 110, 101]) = false := by rw [hn]; kernel_rfl
  have q10 : (n.toList == [101, 120, 112]) = false := by rw [hn]; kernel_rfl
  generalize sumP us = S at HC HV HR
  clear hd hn hg hsz hI hR hb0 hb1 hBw hcap
  go_enter Tryz.func87, Tryz.ntmps87
  go_wp2_with (go_at_call 110; refine (HC.out _ (Ext.refl _)).mono ?_; rintro e w3 ⟨rk, rn, rs, rx, rl, rc, he, hI3, hX3⟩; subst he; have HX3 := Lib.hid hX3; have HI3 := Lib.hid hI3; obtain ⟨⟨m0, m1, m2, m3⟩, n0, n1, n2, n3⟩ := box_facts (HBX.out _ hX3); clear hI3 hX3)
  refine bodyPost_ret (v := .tuple #[.agg #[.int .i64 rk, .string rn, .int .i64 rs, .slice rx rl rc], .int .i64 S.2]) (by simp [results, Tryz.results87, go_sem, m0, m1, m2, m3]) rfl ?_
  rw [HR.out]
  exact TrMove (HBX.out _ HX3.out) (by omega) (Ext.trans HBw.out HX3.out) HV.out HI3.out
set_option maxHeartbeats 3200000 in
set_option maxRecDepth 100000 in
theorem reduced_mul (n : ByteArray) (s : Int) (us : List Tm) (xa : Option Addr) (cap : Nat) (w : World) (hg : gd (.mk 3 n s us)) (hsz : 1 + sizes us ≤ 1048570) (hI : Is w (.mk 3 n s us) (.int .i64 3) (.string n) (.int .i64 s) (.slice xa us.length cap)) (hn : n = nMul) :
    Calls Tryz.prog 87 #[.agg #[.int .i64 3, .string n, .int .i64 s, .slice xa us.length cap]] w (TrPost w (redU n s us)) := by
  have hd : ¬ isDes n = true := by rw [hn]; exact (by kernel_rfl : isDes nMul = false) ▸ Bool.false_ne_true
  have hx : ¬ n = yXor := by rw [hn]; decide
  have hm : n = nMul ∨ n = nInv ∨ n = nOne := by rw [hn]; decide
  obtain ⟨_, hcap, hR⟩ := Is_row hI
  obtain ⟨hb0, hb1, hBw, hZ⟩ := boxes2 w (.int .i64 3) (.string n) (.int .i64 s) (.slice xa us.length cap) (.int .i64 0) (.string ⟨#[]⟩) (.int .i64 0) (.slice none 0 0) 24
  obtain ⟨⟨p0, p1, p2, p3⟩, _⟩ := box_facts hb0
  have HBX : Hid (∀ W, Ext ((w.alloc (.cells #[.int .i64 3, .string n, .int .i64 s, .slice xa us.length cap] 24)).alloc (.cells #[.int .i64 0, .string ⟨#[]⟩, .int .i64 0, .slice none 0 0] 24)) W → W.heap[w.heap.size + 1]? = some (.cells #[.int .i64 0, .string ⟨#[]⟩, .int .i64 0, .slice none 0 0] 24 (0, 0))) := fun W x => (x.block _ (by omega)).trans hb1
  have HBw := Lib.hid hBw
  have HC : Hid (∀ W, Ext ((w.alloc (.cells #[.int .i64 3, .string n, .int .i64 s, .slice xa us.length cap] 24)).alloc (.cells #[.int .i64 0, .string ⟨#[]⟩, .int .i64 0, .slice none 0 0] 24)) W → Calls Tryz.prog 111 #[.agg #[.int .i64 3, .string n, .int .i64 s, .slice xa us.length cap]] W (PePost W (ofP (.mk 3 n s us)))) := fun W x => Of_any (.mk 3 n s us) _ _ _ _ W hsz (Is_below hI (Ext.trans hBw x))
  have hR0 : redU n s us = if (ofP (.mk 3 n s us)).2 = 0 then termP (ofP (.mk 3 n s us)).1 else (zilT, (ofP (.mk 3 n s us)).2) := by unfold redU; rw [if_neg hd, if_neg hx, if_pos hm]; rfl
  have hsm := ofP_sm (.mk 3 n s us)
  have hgd := ofP_gd hg
  have q0 : (n.toList == [102, 115, 116]) = false := by rw [hn]; kernel_rfl
  have q1 : (n.toList == [115, 110, 100]) = false := by rw [hn]; kernel_rfl
  have q2 : (n.toList == [100, 101, 99]) = false := by rw [hn]; kernel_rfl
  have q3 : (n.toList == [97, 100, 101, 99]) = false := by rw [hn]; kernel_rfl
  have q4 : (n.toList == [111, 112, 101, 110]) = false := by rw [hn]; kernel_rfl
  have q5 : (n.toList == [114, 101, 97, 100]) = false := by rw [hn]; kernel_rfl
  have q6 : (n.toList == [120, 111, 114]) = false := by rw [hn]; kernel_rfl
  have q7 : (n.toList == [109, 117, 108]) = true := by rw [hn]; kernel_rfl
  have q8 : (n.toList == [105, 110, 118]) = false := by rw [hn]; kernel_rfl
  have q9 : (n.toList == [111, 110, 101]) = false := by rw [hn]; kernel_rfl
  have q10 : (n.toList == [101, 120, 112]) = false := by rw [hn]; kernel_rfl
  generalize ofP (.mk 3 n s us) = O at HC hR0 hsm hgd
  obtain ⟨ps, e1⟩ := O
  simp only at hR0 hsm hgd
  have HT : Hid (∀ W pa ca, PRow W ps pa → Calls Tryz.prog 112 #[.slice pa ps.length ca] W (TpPost W (termP ps))) := fun W pa ca h => Term_any ps pa ca W (by have := hsm.1; omega) hsm.2 h
  have HV : Hid (okz (termP ps)) := Lib.hid (okz_of (fun h => termP_gd hgd h) termP_zil)
  clear hd hx hm hn hg hsz hI hR hb0 hb1 hcap hsm hgd
  by_cases c1 : e1 = 0
  rotate_left
  · rw [if_neg c1] at hR0
    have r1 : (e1 != 0) = true := by rw [bne_iff_ne]; exact c1
    have HR := Lib.hid hR0
    clear c1 hR0 hBw HT HV
    go_enter Tryz.func87, Tryz.ntmps87
    go_wp2_with (go_at_call 111; refine (HC.out _ (Ext.refl _)).mono ?_; rintro e w3 ⟨pa, pc, he, hc3, hP3, hX3⟩; simp only at he; subst he; have HX3 := Lib.hid hX3; obtain ⟨⟨m0, m1, m2, m3⟩, n0, n1, n2, n3⟩ := box_facts (HBX.out _ hX3); clear hc3 hP3 hX3)
    exact bodyPost_ret (v := .tuple #[.agg #[.int .i64 0, .string ⟨#[]⟩, .int .i64 0, .slice none 0 0], .int .i64 e1]) (by simp [results, Tryz.results87, go_sem, m0, m1, m2, m3]) rfl (TrErr HR.out (by omega) (Ext.trans HBw.out HX3.out))
  rw [if_pos c1] at hR0
  subst c1
  have HR := Lib.hid hR0
  generalize termP ps = S at HT HV HR
  clear hR0 hBw
  go_enter Tryz.func87, Tryz.ntmps87
  go_wp2_with (first
    | (go_at_call 111; refine (HC.out _ (Ext.refl _)).mono ?_; rintro e w3 ⟨pa, pc, he, hc3, hP3, hX3⟩; simp only at he; subst he; have HX3 := Lib.hid hX3; have HP3 := Lib.hid hP3; clear hc3 hP3 hX3)
    | (go_at_call 112; refine (HT.out w3 pa pc HP3.out).mono ?_; rintro e w7 ⟨d0, d1, d2, d3, he, hI7, hX7⟩; subst he; obtain ⟨rk, rn, rs, rx, rl, rc, z0, z1, z2, z3⟩ := Is_form hI7; subst z0 z1 z2 z3; have HX7 := Lib.hid (Ext.trans HX3.out hX7); have HI7 := Lib.hid hI7; obtain ⟨⟨m0, m1, m2, m3⟩, n0, n1, n2, n3⟩ := box_facts (HBX.out _ HX7.out); clear hI7 hX7))
  refine bodyPost_ret (v := .tuple #[.agg #[.int .i64 rk, .string rn, .int .i64 rs, .slice rx rl rc], .int .i64 S.2]) (by simp [results, Tryz.results87, go_sem, m0, m1, m2, m3]) rfl ?_
  rw [HR.out]
  exact TrMove (HBX.out _ HX7.out) (by omega) (Ext.trans HBw.out HX7.out) HV.out HI7.out
set_option maxHeartbeats 3200000 in
set_option maxRecDepth 100000 in
theorem reduced_inv (n : ByteArray) (s : Int) (us : List Tm) (xa : Option Addr) (cap : Nat) (w : World) (hg : gd (.mk 3 n s us)) (hsz : 1 + sizes us ≤ 1048570) (hI : Is w (.mk 3 n s us) (.int .i64 3) (.string n) (.int .i64 s) (.slice xa us.length cap)) (hn : n = nInv) :
    Calls Tryz.prog 87 #[.agg #[.int .i64 3, .string n, .int .i64 s, .slice xa us.length cap]] w (TrPost w (redU n s us)) := by
  have hd : ¬ isDes n = true := by rw [hn]; exact (by kernel_rfl : isDes nInv = false) ▸ Bool.false_ne_true
  have hx : ¬ n = yXor := by rw [hn]; decide
  have hm : n = nMul ∨ n = nInv ∨ n = nOne := by rw [hn]; decide
  obtain ⟨_, hcap, hR⟩ := Is_row hI
  obtain ⟨hb0, hb1, hBw, hZ⟩ := boxes2 w (.int .i64 3) (.string n) (.int .i64 s) (.slice xa us.length cap) (.int .i64 0) (.string ⟨#[]⟩) (.int .i64 0) (.slice none 0 0) 24
  obtain ⟨⟨p0, p1, p2, p3⟩, _⟩ := box_facts hb0
  have HBX : Hid (∀ W, Ext ((w.alloc (.cells #[.int .i64 3, .string n, .int .i64 s, .slice xa us.length cap] 24)).alloc (.cells #[.int .i64 0, .string ⟨#[]⟩, .int .i64 0, .slice none 0 0] 24)) W → W.heap[w.heap.size + 1]? = some (.cells #[.int .i64 0, .string ⟨#[]⟩, .int .i64 0, .slice none 0 0] 24 (0, 0))) := fun W x => (x.block _ (by omega)).trans hb1
  have HBw := Lib.hid hBw
  have HC : Hid (∀ W, Ext ((w.alloc (.cells #[.int .i64 3, .string n, .int .i64 s, .slice xa us.length cap] 24)).alloc (.cells #[.int .i64 0, .string ⟨#[]⟩, .int .i64 0, .slice none 0 0] 24)) W → Calls Tryz.prog 111 #[.agg #[.int .i64 3, .string n, .int .i64 s, .slice xa us.length cap]] W (PePost W (ofP (.mk 3 n s us)))) := fun W x => Of_any (.mk 3 n s us) _ _ _ _ W hsz (Is_below hI (Ext.trans hBw x))
  have hR0 : redU n s us = if (ofP (.mk 3 n s us)).2 = 0 then termP (ofP (.mk 3 n s us)).1 else (zilT, (ofP (.mk 3 n s us)).2) := by unfold redU; rw [if_neg hd, if_neg hx, if_pos hm]; rfl
  have hsm := ofP_sm (.mk 3 n s us)
  have hgd := ofP_gd hg
  have q0 : (n.toList == [102, 115, 116]) = false := by rw [hn]; kernel_rfl
  have q1 : (n.toList == [115, 110, 100]) = false := by rw [hn]; kernel_rfl
  have q2 : (n.toList == [100, 101, 99]) = false := by rw [hn]; kernel_rfl
  have q3 : (n.toList == [97, 100, 101, 99]) = false := by rw [hn]; kernel_rfl
  have q4 : (n.toList == [111, 112, 101, 110]) = false := by rw [hn]; kernel_rfl
  have q5 : (n.toList == [114, 101, 97, 100]) = false := by rw [hn]; kernel_rfl
  have q6 : (n.toList == [120, 111, 114]) = false := by rw [hn]; kernel_rfl
  have q7 : (n.toList == [109, 117, 108]) = false := by rw [hn]; kernel_rfl
  have q8 : (n.toList == [105, 110, 118]) = true := by rw [hn]; kernel_rfl
  have q9 : (n.toList == [111, 110, 101]) = false := by rw [hn]; kernel_rfl
  have q10 : (n.toList == [101, 120, 112]) = false := by rw [hn]; kernel_rfl
  generalize ofP (.mk 3 n s us) = O at HC hR0 hsm hgd
  obtain ⟨ps, e1⟩ := O
  simp only at hR0 hsm hgd
  have HT : Hid (∀ W pa ca, PRow W ps pa → Calls Tryz.prog 112 #[.slice pa ps.length ca] W (TpPost W (termP ps))) := fun W pa ca h => Term_any ps pa ca W (by have := hsm.1; omega) hsm.2 h
  have HV : Hid (okz (termP ps)) := Lib.hid (okz_of (fun h => termP_gd hgd h) termP_zil)
  clear hd hx hm hn hg hsz hI hR hb0 hb1 hcap hsm hgd
  by_cases c1 : e1 = 0
  rotate_left
  · rw [if_neg c1] at hR0
    have r1 : (e1 != 0) = true := by rw [bne_iff_ne]; exact c1
    have HR := Lib.hid hR0
    clear c1 hR0 hBw HT HV
    go_enter Tryz.func87, Tryz.ntmps87
    go_wp2_with (go_at_call 111; refine (HC.out _ (Ext.refl _)).mono ?_; rintro e w3 ⟨pa, pc, he, hc3, hP3, hX3⟩; simp only at he; subst he; have HX3 := Lib.hid hX3; obtain ⟨⟨m0, m1, m2, m3⟩, n0, n1, n2, n3⟩ := box_facts (HBX.out _ hX3); clear hc3 hP3 hX3)
    exact bodyPost_ret (v := .tuple #[.agg #[.int .i64 0, .string ⟨#[]⟩, .int .i64 0, .slice none 0 0], .int .i64 e1]) (by simp [results, Tryz.results87, go_sem, m0, m1, m2, m3]) rfl (TrErr HR.out (by omega) (Ext.trans HBw.out HX3.out))
  rw [if_pos c1] at hR0
  subst c1
  have HR := Lib.hid hR0
  generalize termP ps = S at HT HV HR
  clear hR0 hBw
  go_enter Tryz.func87, Tryz.ntmps87
  go_wp2_with (first
    | (go_at_call 111; refine (HC.out _ (Ext.refl _)).mono ?_; rintro e w3 ⟨pa, pc, he, hc3, hP3, hX3⟩; simp only at he; subst he; have HX3 := Lib.hid hX3; have HP3 := Lib.hid hP3; clear hc3 hP3 hX3)
    | (go_at_call 112; refine (HT.out w3 pa pc HP3.out).mono ?_; rintro e w7 ⟨d0, d1, d2, d3, he, hI7, hX7⟩; subst he; obtain ⟨rk, rn, rs, rx, rl, rc, z0, z1, z2, z3⟩ := Is_form hI7; subst z0 z1 z2 z3; have HX7 := Lib.hid (Ext.trans HX3.out hX7); have HI7 := Lib.hid hI7; obtain ⟨⟨m0, m1, m2, m3⟩, n0, n1, n2, n3⟩ := box_facts (HBX.out _ HX7.out); clear hI7 hX7))
  refine bodyPost_ret (v := .tuple #[.agg #[.int .i64 rk, .string rn, .int .i64 rs, .slice rx rl rc], .int .i64 S.2]) (by simp [results, Tryz.results87, go_sem, m0, m1, m2, m3]) rfl ?_
  rw [HR.out]
  exact TrMove (HBX.out _ HX7.out) (by omega) (Ext.trans HBw.out HX7.out) HV.out HI7.out
set_option maxHeartbeats 3200000 in
set_option maxRecDepth 100000 in
theorem reduced_one (n : ByteArray) (s : Int) (us : List Tm) (xa : Option Addr) (cap : Nat) (w : World) (hg : gd (.mk 3 n s us)) (hsz : 1 + sizes us ≤ 1048570) (hI : Is w (.mk 3 n s us) (.int .i64 3) (.string n) (.int .i64 s) (.slice xa us.length cap)) (hn : n = nOne) :
    Calls Tryz.prog 87 #[.agg #[.int .i64 3, .string n, .int .i64 s, .slice xa us.length cap]] w (TrPost w (redU n s us)) := by
  have hd : ¬ isDes n = true := by rw [hn]; exact (by kernel_rfl : isDes nOne = false) ▸ Bool.false_ne_true
  have hx : ¬ n = yXor := by rw [hn]; decide
  have hm : n = nMul ∨ n = nInv ∨ n = nOne := by rw [hn]; decide
  obtain ⟨_, hcap, hR⟩ := Is_row hI
  obtain ⟨hb0, hb1, hBw, hZ⟩ := boxes2 w (.int .i64 3) (.string n) (.int .i64 s) (.slice xa us.length cap) (.int .i64 0) (.string ⟨#[]⟩) (.int .i64 0) (.slice none 0 0) 24
  obtain ⟨⟨p0, p1, p2, p3⟩, _⟩ := box_facts hb0
  have HBX : Hid (∀ W, Ext ((w.alloc (.cells #[.int .i64 3, .string n, .int .i64 s, .slice xa us.length cap] 24)).alloc (.cells #[.int .i64 0, .string ⟨#[]⟩, .int .i64 0, .slice none 0 0] 24)) W → W.heap[w.heap.size + 1]? = some (.cells #[.int .i64 0, .string ⟨#[]⟩, .int .i64 0, .slice none 0 0] 24 (0, 0))) := fun W x => (x.block _ (by omega)).trans hb1
  have HBw := Lib.hid hBw
  have HC : Hid (∀ W, Ext ((w.alloc (.cells #[.int .i64 3, .string n, .int .i64 s, .slice xa us.length cap] 24)).alloc (.cells #[.int .i64 0, .string ⟨#[]⟩, .int .i64 0, .slice none 0 0] 24)) W → Calls Tryz.prog 111 #[.agg #[.int .i64 3, .string n, .int .i64 s, .slice xa us.length cap]] W (PePost W (ofP (.mk 3 n s us)))) := fun W x => Of_any (.mk 3 n s us) _ _ _ _ W hsz (Is_below hI (Ext.trans hBw x))
  have hR0 : redU n s us = if (ofP (.mk 3 n s us)).2 = 0 then termP (ofP (.mk 3 n s us)).1 else (zilT, (ofP (.mk 3 n s us)).2) := by unfold redU; rw [if_neg hd, if_neg hx, if_pos hm]; rfl
  have hsm := ofP_sm (.mk 3 n s us)
  have hgd := ofP_gd hg
  have q0 : (n.toList == [102, 115, 116]) = false := by rw [hn]; kernel_rfl
  have q1 : (n.toList == [115, 110, 100]) = false := by rw [hn]; kernel_rfl
  have q2 : (n.toList == [100, 101, 99]) = false := by rw [hn]; kernel_rfl
  have q3 : (n.toList == [97, 100, 101, 99]) = false := by rw [hn]; kernel_rfl
  have q4 : (n.toList == [111, 112, 101, 110]) = false := by rw [hn]; kernel_rfl
  have q5 : (n.toList == [114, 101, 97, 100]) = false := by rw [hn]; kernel_rfl
  have q6 : (n.toList == [120, 111, 114]) = false := by rw [hn]; kernel_rfl
  have q7 : (n.toList == [109, 117, 108]) = false := by rw [hn]; kernel_rfl
  have q8 : (n.toList == [105, 110, 118]) = false := by rw [hn]; kernel_rfl
  have q9 : (n.toList == [111, 110, 101]) = true := by rw [hn]; kernel_rfl
  have q10 : (n.toList == [101, 120, 112]) = false := by rw [hn]; kernel_rfl
  generalize ofP (.mk 3 n s us) = O at HC hR0 hsm hgd
  obtain ⟨ps, e1⟩ := O
  simp only at hR0 hsm hgd
  have HT : Hid (∀ W pa ca, PRow W ps pa → Calls Tryz.prog 112 #[.slice pa ps.length ca] W (TpPost W (termP ps))) := fun W pa ca h => Term_any ps pa ca W (by have := hsm.1; omega) hsm.2 h
  have HV : Hid (okz (termP ps)) := Lib.hid (okz_of (fun h => termP_gd hgd h) termP_zil)
  clear hd hx hm hn hg hsz hI hR hb0 hb1 hcap hsm hgd
  by_cases c1 : e1 = 0
  rotate_left
  · rw [if_neg c1] at hR0
    have r1 : (e1 != 0) = true := by rw [bne_iff_ne]; exact c1
    have HR := Lib.hid hR0
    clear c1 hR0 hBw HT HV
    go_enter Tryz.func87, Tryz.ntmps87
    go_wp2_with (go_at_call 111; refine (HC.out _ (Ext.refl _)).mono ?_; rintro e w3 ⟨pa, pc, he, hc3, hP3, hX3⟩; simp only at he; subst he; have HX3 := Lib.hid hX3; obtain ⟨⟨m0, m1, m2, m3⟩, n0, n1, n2, n3⟩ := box_facts (HBX.out _ hX3); clear hc3 hP3 hX3)
    exact bodyPost_ret (v := .tuple #[.agg #[.int .i64 0, .string ⟨#[]⟩, .int .i64 0, .slice none 0 0], .int .i64 e1]) (by simp [results, Tryz.results87, go_sem, m0, m1, m2, m3]) rfl (TrErr HR.out (by omega) (Ext.trans HBw.out HX3.out))
  rw [if_pos c1] at hR0
  subst c1
  have HR := Lib.hid hR0
  generalize termP ps = S at HT HV HR
  clear hR0 hBw
  go_enter Tryz.func87, Tryz.ntmps87
  go_wp2_with (first
    | (go_at_call 111; refine (HC.out _ (Ext.refl _)).mono ?_; rintro e w3 ⟨pa, pc, he, hc3, hP3, hX3⟩; simp only at he; subst he; have HX3 := Lib.hid hX3; have HP3 := Lib.hid hP3; clear hc3 hP3 hX3)
    | (go_at_call 112; refine (HT.out w3 pa pc HP3.out).mono ?_; rintro e w7 ⟨d0, d1, d2, d3, he, hI7, hX7⟩; subst he; obtain ⟨rk, rn, rs, rx, rl, rc, z0, z1, z2, z3⟩ := Is_form hI7; subst z0 z1 z2 z3; have HX7 := Lib.hid (Ext.trans HX3.out hX7); have HI7 := Lib.hid hI7; obtain ⟨⟨m0, m1, m2, m3⟩, n0, n1, n2, n3⟩ := box_facts (HBX.out _ HX7.out); clear hI7 hX7))
  refine bodyPost_ret (v := .tuple #[.agg #[.int .i64 rk, .string rn, .int .i64 rs, .slice rx rl rc], .int .i64 S.2]) (by simp [results, Tryz.results87, go_sem, m0, m1, m2, m3]) rfl ?_
  rw [HR.out]
  exact TrMove (HBX.out _ HX7.out) (by omega) (Ext.trans HBw.out HX7.out) HV.out HI7.out
set_option maxHeartbeats 3200000 in
set_option maxRecDepth 100000 in
theorem reduced_exp (n : ByteArray) (s : Int) (us : List Tm) (xa : Option Addr) (cap : Nat) (w : World) (hg : gd (.mk 3 n s us)) (hsz : 1 + sizes us ≤ 1048570) (hI : Is w (.mk 3 n s us) (.int .i64 3) (.string n) (.int .i64 s) (.slice xa us.length cap)) (hn : n = yExp) :
    Calls Tryz.prog 87 #[.agg #[.int .i64 3, .string n, .int .i64 s, .slice xa us.length cap]] w (TrPost w (redU n s us)) := by
  have hd : ¬ isDes n = true := by rw [hn]; exact (by kernel_rfl : isDes yExp = false) ▸ Bool.false_ne_true
  have hx : ¬ n = yXor := by rw [hn]; decide
  have hm : ¬ (n = nMul ∨ n = nInv ∨ n = nOne) := by rw [hn]; decide
  have hl : us.length = 2 := ln_exp (by rw [← hn]; exact (gd_mk hg).2.1)
  obtain ⟨_, _, hRow⟩ := Is_row hI
  obtain ⟨kb, ko, rfl⟩ := Row_at hRow (by omega)
  have hg0 := gd_kid hg (show 0 < us.length by omega)
  have hg1 := gd_kid hg (show 1 < us.length by omega)
  have hz0 := size_le_sizes (kidT_mem (show 0 < us.length by omega))
  have hz1 := size_le_sizes (kidT_mem (show 1 < us.length by omega))
  have hL0 := Row_get hRow 0 (by omega)
  have hL1 := Row_get hRow 1 (by omega)
  rw [Nat.zero_mul, Nat.add_zero, ← kidT_eq (by omega : 0 < us.length)] at hL0
  rw [Nat.one_mul, ← kidT_eq (by omega : 1 < us.length)] at hL1
  obtain ⟨a0, a1, a2, a3, y0, y1, y2, y3, hIa⟩ := hL0
  obtain ⟨d0, d1, d2, d3, u0, u1, u2, u3, hId⟩ := hL1
  rw [Nat.add_assoc] at u1 u2 u3
  obtain ⟨_, hcap, hR⟩ := Is_row hI
  obtain ⟨hb0, hb1, hBw, hZ⟩ := boxes2 w (.int .i64 3) (.string n) (.int .i64 s) (.slice (some ⟨kb, ko, none⟩) us.length cap) (.int .i64 0) (.string ⟨#[]⟩) (.int .i64 0) (.slice none 0 0) 24
  obtain ⟨⟨p0, p1, p2, p3⟩, _⟩ := box_facts hb0
  have HBX : Hid (∀ W, Ext ((w.alloc (.cells #[.int .i64 3, .string n, .int .i64 s, .slice (some ⟨kb, ko, none⟩) us.length cap] 24)).alloc (.cells #[.int .i64 0, .string ⟨#[]⟩, .int .i64 0, .slice none 0 0] 24)) W → W.heap[w.heap.size + 1]? = some (.cells #[.int .i64 0, .string ⟨#[]⟩, .int .i64 0, .slice none 0 0] 24 (0, 0))) := fun W x => (x.block _ (by omega)).trans hb1
  have HBw := Lib.hid hBw
  have HC : Hid (∀ W, Ext ((w.alloc (.cells #[.int .i64 3, .string n, .int .i64 s, .slice (some ⟨kb, ko, none⟩) us.length cap] 24)).alloc (.cells #[.int .i64 0, .string ⟨#[]⟩, .int .i64 0, .slice none 0 0] 24)) W → Calls Tryz.prog 113 #[.agg #[a0, a1, a2, a3], .agg #[d0, d1, d2, d3]] W (TrPost W (powU (kidT us 0) (kidT us 1)))) := fun W x => power_any (kidT us 0) (kidT us 1) _ _ _ _ _ _ _ _ W hg0 hg1 (by omega) (by omega) (Is_below hIa (Ext.trans hBw x)) (Is_below hId (Ext.trans hBw x))
  have HV : Hid (okz (powU (kidT us 0) (kidT us 1))) := Lib.hid (okz_of (fun h => powU_gd hg0 hg1 h) powU_zil)
  have HR : Hid (redU n s us = powU (kidT us 0) (kidT us 1)) := by show _ = _; unfold redU; rw [if_neg hd, if_neg hx, if_neg hm, if_pos hn]
  have HS : Hid (∀ W, Ext ((w.alloc (.cells #[.int .i64 3, .string n, .int .i64 s, .slice (some ⟨kb, ko, none⟩) us.length cap] 24)).alloc (.cells #[.int .i64 0, .string ⟨#[]⟩, .int .i64 0, .slice none 0 0] 24)) W → W.cell? ⟨w.heap.size, 3, none⟩ = some (.slice (some ⟨kb, ko, none⟩) 2 cap) ∧ W.cell? ⟨kb, ko, none⟩ = some a0 ∧ W.cell? ⟨kb, ko + 1, none⟩ = some a1 ∧ W.cell? ⟨kb, ko + 2, none⟩ = some a2 ∧ W.cell? ⟨kb, ko + 3, none⟩ = some a3 ∧ W.cell? ⟨kb, ko + 4, none⟩ = some d0 ∧ W.cell? ⟨kb, ko + 5, none⟩ = some d1 ∧ W.cell? ⟨kb, ko + 6, none⟩ = some d2 ∧ W.cell? ⟨kb, ko + 7, none⟩ = some d3) := fun W x => by
    have c := keep_below x
    have c2 := keep_below (Ext.trans hBw x)
    exact ⟨by have := c _ _ p3; rw [hl] at this; exact this, c2 _ _ y0, c2 _ _ y1, c2 _ _ y2, c2 _ _ y3, c2 _ _ u0, c2 _ _ u1, c2 _ _ u2, c2 _ _ u3⟩
  have q0 : (n.toList == [102, 115, 116]) = false := by rw [hn]; kernel_rfl
  have q1 : (n.toList == [115, 110, 100]) = false := by rw [hn]; kernel_rfl
  have q2 : (n.toList == [100, 101, 99]) = false := by rw [hn]; kernel_rfl
  have q3 : (n.toList == [97, 100, 101, 99]) = false := by rw [hn]; kernel_rfl
  have q4 : (n.toList == [111, 112, 101, 110]) = false := by rw [hn]; kernel_rfl
  have q5 : (n.toList == [114, 101, 97, 100]) = false := by rw [hn]; kernel_rfl
  have q6 : (n.toList == [120, 111, 114]) = false := by rw [hn]; kernel_rfl
  have q7 : (n.toList == [109, 117, 108]) = false := by rw [hn]; kernel_rfl
  have q8 : (n.toList == [105, 110, 118]) = false := by rw [hn]; kernel_rfl
  have q9 : (n.toList == [111, 110, 101]) = false := by rw [hn]; kernel_rfl
  have q10 : (n.toList == [101, 120, 112]) = true := by rw [hn]; kernel_rfl
  generalize powU (kidT us 0) (kidT us 1) = P at HC HV HR
  obtain ⟨v0, v1, v2, v3, v4, v5, v6, v7, v8⟩ := HS.out _ (Ext.refl _)
  have hkb := World.block_lt_of_cell? w _ y0
  simp only at hkb
  have nb1 : ¬ kb = w.heap.size + 1 := by omega
  have nb2 : ¬ w.heap.size + 1 = kb := by omega
  obtain ⟨⟨m0, m1, m2, m3⟩, n0, n1, n2, n3⟩ := box_facts hb1
  rw [hl] at *
  clear hd hx hm hn hg hsz hI hR hRow hb0 hb1 hBw hcap hg0 hg1 hz0 hz1 y0 y1 y2 y3 u0 u1 u2 u3 hIa hId hkb
  go_enter Tryz.func87, Tryz.ntmps87
  go_wp2_with fail
  go_region_held3 (fun W => W.cell? ⟨w.heap.size, 3, none⟩ = some (.slice (some ⟨kb, ko, none⟩) 2 cap) ∧ W.cell? ⟨kb, ko, none⟩ = some a0 ∧ W.cell? ⟨kb, ko + 1, none⟩ = some a1 ∧ W.cell? ⟨kb, ko + 2, none⟩ = some a2 ∧ W.cell? ⟨kb, ko + 3, none⟩ = some a3 ∧ W.cell? ⟨kb, ko + 4, none⟩ = some d0 ∧ W.cell? ⟨kb, ko + 5, none⟩ = some d1 ∧ W.cell? ⟨kb, ko + 6, none⟩ = some d2 ∧ W.cell? ⟨kb, ko + 7, none⟩ = some d3) (first | go_keep | assumption | exact HS.out _ HX3.out) (first | (go_at_call 113; refine (HC.out _ ?_).mono ?_; (first | exact Ext.refl _ | exact (Ext.refl _).drew | exact below_drewN (Ext.refl _) _); rintro e w3 ⟨rk, rn, rs, rx, rl, rc, he, hI3, hX⟩; subst he; have HX3 := Lib.hid (show Ext ((w.alloc (.cells #[.int .i64 3, .string n, .int .i64 s, .slice (some ⟨kb, ko, none⟩) 2 cap] 24)).alloc (.cells #[.int .i64 0, .string ⟨#[]⟩, .int .i64 0, .slice none 0 0] 24)) w3 from Ext.trans (by first | exact Ext.refl _ | exact (Ext.refl _).drew | exact below_drewN (Ext.refl _) _) hX); have HI3 := Lib.hid hI3; clear m0 m1 m2 m3 n0 n1 n2 n3; obtain ⟨⟨m0, m1, m2, m3⟩, n0, n1, n2, n3⟩ := box_facts (HBX.out _ HX3.out); clear v0 v1 v2 v3 v4 v5 v6 v7 v8; obtain ⟨v0, v1, v2, v3, v4, v5, v6, v7, v8⟩ := HS.out _ HX3.out; clear hI3 hX))
  go_wp2_with fail
  refine bodyPost_ret (v := .tuple #[.agg #[.int .i64 rk, .string rn, .int .i64 rs, .slice rx rl rc], .int .i64 P.2]) (by simp [results, Tryz.results87, go_sem, m0, m1, m2, m3]) rfl ?_
  rw [HR.out]
  exact TrMove (HBX.out _ HX3.out) (by omega) (Ext.trans HBw.out HX3.out) HV.out HI3.out
set_option maxHeartbeats 3200000 in
set_option maxRecDepth 100000 in
theorem reduced_else (n : ByteArray) (s : Int) (us : List Tm) (xa : Option Addr) (cap : Nat) (w : World) (_hg : gd (.mk 3 n s us)) (_hsz : 1 + sizes us ≤ 1048570) (hI : Is w (.mk 3 n s us) (.int .i64 3) (.string n) (.int .i64 s) (.slice xa us.length cap)) (hno0 : ¬ n = ⟨#[102, 115, 116]⟩) (hno1 : ¬ n = ⟨#[115, 110, 100]⟩) (hno2 : ¬ n = ⟨#[100, 101, 99]⟩) (hno3 : ¬ n = ⟨#[97, 100, 101, 99]⟩) (hno4 : ¬ n = ⟨#[111, 112, 101, 110]⟩) (hno5 : ¬ n = ⟨#[114, 101, 97, 100]⟩) (hno6 : ¬ n = ⟨#[120, 111, 114]⟩) (hno7 : ¬ n = ⟨#[109, 117, 108]⟩) (hno8 : ¬ n = ⟨#[105, 110, 118]⟩) (hno9 : ¬ n = ⟨#[111, 110, 101]⟩) (hno10 : ¬ n = ⟨#[101, 120, 112]⟩) :
    Calls Tryz.prog 87 #[.agg #[.int .i64 3, .string n, .int .i64 s, .slice xa us.length cap]] w (TrPost w (redU n s us)) := by
  have hR : redU n s us = (.mk 3 n s us, 0) := by
    unfold redU
    rw [if_neg (fun h => by rcases (isDes_iff n).1 h with h | h | h | h | h | h; exact hno0 h; exact hno1 h; exact hno2 h; exact hno3 h; exact hno4 h; exact hno5 h), if_neg (c := n = yXor) hno6, if_neg (fun h => by rcases h with h | h | h; exact hno7 h; exact hno8 h; exact hno9 h), if_neg (c := n = yExp) hno10]
  have HF : Hid (TrPost w (redU n s us) (.returned (.tuple #[.agg #[.int .i64 3, .string n, .int .i64 s, .slice xa us.length cap], .int .i64 0])) ((w.alloc (.cells #[.int .i64 3, .string n, .int .i64 s, .slice xa us.length cap] 24)).alloc (.cells #[.int .i64 3, .string n, .int .i64 s, .slice xa us.length cap] 24))) := by
    show TrPost _ _ _ _
    rw [hR]
    exact ⟨_, _, _, _, _, _, rfl, Is_alloc (Is_alloc hI _) _, ((Ext.refl w).alloc _).alloc _⟩
  have q0 : (n.toList == [102, 115, 116]) = false := by rw [strIs]; exact decide_eq_false hno0
  have q1 : (n.toList == [115, 110, 100]) = false := by rw [strIs]; exact decide_eq_false hno1
  have q2 : (n.toList == [100, 101, 99]) = false := by rw [strIs]; exact decide_eq_false hno2
  have q3 : (n.toList == [97, 100, 101, 99]) = false := by rw [strIs]; exact decide_eq_false hno3
  have q4 : (n.toList == [111, 112, 101, 110]) = false := by rw [strIs]; exact decide_eq_false hno4
  have q5 : (n.toList == [114, 101, 97, 100]) = false := by rw [strIs]; exact decide_eq_false hno5
  have q6 : (n.toList == [120, 111, 114]) = false := by rw [strIs]; exact decide_eq_false hno6
  have q7 : (n.toList == [109, 117, 108]) = false := by rw [strIs]; exact decide_eq_false hno7
  have q8 : (n.toList == [105, 110, 118]) = false := by rw [strIs]; exact decide_eq_false hno8
  have q9 : (n.toList == [111, 110, 101]) = false := by rw [strIs]; exact decide_eq_false hno9
  have q10 : (n.toList == [101, 120, 112]) = false := by rw [strIs]; exact decide_eq_false hno10
  clear hR _hg _hsz hI hno0 hno1 hno2 hno3 hno4 hno5 hno6 hno7 hno8 hno9 hno10
  go_enter Tryz.func87, Tryz.ntmps87
  go_wp2_with fail
  exact bodyPost_ret (v := .tuple #[.agg #[.int .i64 3, .string n, .int .i64 s, .slice xa us.length cap], .int .i64 0]) (by simp [results, Tryz.results87, go_sem]) rfl HF.out
theorem yreduced_any (n : ByteArray) (s : Int) (us : List Tm) (xa : Option Addr) (cap : Nat) (w : World) (hg : gd (.mk 3 n s us)) (hsz : 1 + sizes us ≤ 1048570) (hI : Is w (.mk 3 n s us) (.int .i64 3) (.string n) (.int .i64 s) (.slice xa us.length cap)) :
    Calls Tryz.prog 87 #[.agg #[.int .i64 3, .string n, .int .i64 s, .slice xa us.length cap]] w (TrPost w (redU n s us)) := by
  by_cases hno0 : n = ⟨#[102, 115, 116]⟩
  · exact reduced_fst n s us xa cap w hg hsz hI hno0
  by_cases hno1 : n = ⟨#[115, 110, 100]⟩
  · exact reduced_snd n s us xa cap w hg hsz hI hno1
  by_cases hno2 : n = ⟨#[100, 101, 99]⟩
  · exact reduced_dec n s us xa cap w hg hsz hI hno2
  by_cases hno3 : n = ⟨#[97, 100, 101, 99]⟩
  · exact reduced_adec n s us xa cap w hg hsz hI hno3
  by_cases hno4 : n = ⟨#[111, 112, 101, 110]⟩
  · exact reduced_open n s us xa cap w hg hsz hI hno4
  by_cases hno5 : n = ⟨#[114, 101, 97, 100]⟩
  · exact reduced_read n s us xa cap w hg hsz hI hno5
  by_cases hno6 : n = ⟨#[120, 111, 114]⟩
  · exact reduced_xor n s us xa cap w hg hsz hI hno6
  by_cases hno7 : n = ⟨#[109, 117, 108]⟩
  · exact reduced_mul n s us xa cap w hg hsz hI hno7
  by_cases hno8 : n = ⟨#[105, 110, 118]⟩
  · exact reduced_inv n s us xa cap w hg hsz hI hno8
  by_cases hno9 : n = ⟨#[111, 110, 101]⟩
  · exact reduced_one n s us xa cap w hg hsz hI hno9
  by_cases hno10 : n = ⟨#[101, 120, 112]⟩
  · exact reduced_exp n s us xa cap w hg hsz hI hno10
  exact reduced_else n s us xa cap w hg hsz hI hno0 hno1 hno2 hno3 hno4 hno5 hno6 hno7 hno8 hno9 hno10
end Go.Proofs.YtbcpnepjojppaaaGreatDoor
