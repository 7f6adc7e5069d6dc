import Derived.Test.YtbcpnepjojppaaaGreatDoorLawTheoryKeyxYfr
import Derived.Test.YtbcpnepjojppaaaGreatDoorLawTheoryKeyxYnrm
namespace Go.Proofs.YtbcpnepjojppaaaGreatDoor
open Go.RowKit
def nrmP (t : Tm) : Tm × Int := if yvalidE t = 0 then (if (nrmT t).2 = 0 then (if validE (nrmT t).1 = 0 then ((nrmT t).1, 0) else (zilT, validE (nrmT t).1)) else (zilT, (nrmT t).2)) else (zilT, yvalidE t)
theorem yvalid_gd {t : Tm} (h : yvalidE t = 0) : gd t ∧ size t ≤ 400 := by
  unfold yvalidE at h
  by_cases h0 : validE t = 0
  · rw [if_pos h0] at h
    exact ⟨⟨(valid_parts h0).1, h⟩, (valid_parts h0).2.1⟩
  · rw [if_neg h0] at h; exact absurd h h0
theorem nrmP_size (t : Tm) : size (nrmP t).1 ≤ 400 := by
  have hz : size zilT = 1 := rfl
  unfold nrmP
  by_cases h0 : yvalidE t = 0
  · rw [if_pos h0]
    by_cases h1 : (nrmT t).2 = 0
    · rw [if_pos h1]
      by_cases h2 : validE (nrmT t).1 = 0
      · rw [if_pos h2]; exact (valid_parts h2).2.1
      · rw [if_neg h2]; simp only; omega
    · rw [if_neg h1]; simp only; omega
  · rw [if_neg h0]; simp only; omega
def plainT (t : Tm) : Bool := decide (yvalidE t = 0) && (!hasT isDes t && (decide ((nrmT t).2 = 0) && (cmpT (nrmT t).1 t == 0)))
set_option maxHeartbeats 3200000 in
set_option maxRecDepth 100000 in
theorem yNormal_any (t : Tm) (c0 c1 c2 c3 : Value) (w : World) (hM : size t ≤ 1073741824) (hI : Is w t c0 c1 c2 c3) (hT : TabY w) :
    Calls Tryz.prog 20 #[.agg #[c0, c1, c2, c3]] w (TrPost w (nrmP t)) := by
  obtain ⟨k, n, s, xa, l, cap, rfl, rfl, rfl, rfl⟩ := Is_form hI
  obtain ⟨hb0, hb1, hBw, hZ⟩ := boxes2 w (.int .i64 k) (.string n) (.int .i64 s) (.slice xa l cap) (.int .i64 0) (.string ⟨#[]⟩) (.int .i64 0) (.slice none 0 0) 24
  have hL : Lies ((w.alloc (.cells #[.int .i64 k, .string n, .int .i64 s, .slice xa l cap] 24)).alloc (.cells #[.int .i64 0, .string ⟨#[]⟩, .int .i64 0, .slice none 0 0] 24)) t w.heap.size 0 := ⟨_, _, _, _, (box_facts hb0).1.1, (box_facts hb0).1.2.1, (box_facts hb0).1.2.2.1, (box_facts hb0).1.2.2.2, Is_below hI hBw⟩
  have HBX : Hid (∀ W, Ext ((w.alloc (.cells #[.int .i64 k, .string n, .int .i64 s, .slice xa l cap] 24)).alloc (.cells #[.int .i64 0, .string ⟨#[]⟩, .int .i64 0, .slice none 0 0] 24)) W → W.heap[w.heap.size + 1]? = some (.cells #[.int .i64 0, .string ⟨#[]⟩, .int .i64 0, .slice none 0 0] 24 (0, 0)) ∧ W.heap[w.heap.size]? = some (.cells #[.int .i64 k, .string n, .int .i64 s, .slice xa l cap] 24 (0, 0))) := fun W x => ⟨(x.block _ (by omega)).trans hb1, (x.block _ (by omega)).trans hb0⟩
  have HV := Lib.hid (yValid_any t _ _ _ _ ((w.alloc (.cells #[.int .i64 k, .string n, .int .i64 s, .slice xa l cap] 24)).alloc (.cells #[.int .i64 0, .string ⟨#[]⟩, .int .i64 0, .slice none 0 0] 24)) hM (Is_below hI hBw) (hT.ext hBw))
  have hE : nrmP t = if yvalidE t = 0 then (if (nrmT t).2 = 0 then (if validE (nrmT t).1 = 0 then ((nrmT t).1, 0) else (zilT, validE (nrmT t).1)) else (zilT, (nrmT t).2)) else (zilT, yvalidE t) := rfl
  have HBw := Lib.hid hBw
  obtain ⟨⟨p0, p1, p2, p3⟩, _⟩ := box_facts hb0
  obtain ⟨⟨m0, m1, m2, m3⟩, n0, n1, n2, n3⟩ := box_facts hb1
  have hZ1 : w.heap.size ≤ w.heap.size + 1 := by omega
  have HZ1 := Lib.hid hZ1
  by_cases hv : yvalidE t = 0
  rotate_left
  · rw [if_neg hv] at hE
    have HR := Lib.hid hE
    generalize yvalidE t = x at HV HR hv
    have q1 : (x != 0) = true := by rw [bne_iff_ne]; exact hv
    clear hv hE hM hI hb0 hb1 hBw hZ hL hZ1
    go_enter Tryz.func20, Tryz.ntmps20
    go_wp2_with (go_at_call 14; refine (HV.out).mono ?_; rintro e w3 ⟨he, hX⟩; subst he; have HX3 := Lib.hid hX; have hb3 := HBX.out _ hX; clear m0 m1 m2 m3 n0 n1 n2 n3 p0 p1 p2 p3; obtain ⟨⟨m0, m1, m2, m3⟩, n0, n1, n2, n3⟩ := box_facts hb3.1; obtain ⟨⟨p0, p1, p2, p3⟩, _⟩ := box_facts hb3.2; clear hX hb3)
    exact bodyPost_ret (v := .tuple #[.agg #[.int .i64 0, .string ⟨#[]⟩, .int .i64 0, .slice none 0 0], .int .i64 x]) (by simp [results, Tryz.results20, go_sem, m0, m1, m2, m3]) rfl (TrErr HR.out HZ1.out (Ext.trans HBw.out HX3.out))
  rw [hv] at HV
  obtain ⟨hg, hs4⟩ := yvalid_gd hv
  have HN : Hid (∀ W, Ext ((w.alloc (.cells #[.int .i64 k, .string n, .int .i64 s, .slice xa l cap] 24)).alloc (.cells #[.int .i64 0, .string ⟨#[]⟩, .int .i64 0, .slice none 0 0] 24)) W → Calls Tryz.prog 61 #[.pointer (some ⟨w.heap.size, 0, none⟩)] W (TrPost W (nrmT t))) := fun W x => normal_any _ t _ _ W (Nat.le_refl _) hs4 hg (Lies_carry (keep_below x) hL)
  have hgd := (nrm_gd t hg).1
  have hsz := (nrm_gd t hg).2
  have HVU : Hid (∀ W a b c d, Is W (nrmT t).1 a b c d → Calls Tryz.prog 52 #[.agg #[a, b, c, d]] W fun e w' => e = .returned (.int .i64 (validE (nrmT t).1)) ∧ Below W.heap.size W w') := fun W a b c d h => tValid_any (nrmT t).1 a b c d W (by omega) h
  rw [if_pos hv] at hE
  clear hv hM hI hb0 hb1 hBw hZ hL hs4 hg hZ1 hsz
  generalize nrmT t = R at HN hE HVU hgd
  obtain ⟨u, x⟩ := R
  simp only at hE HVU hgd
  by_cases hx : x = 0
  rotate_left
  · rw [if_neg hx] at hE
    have HR := Lib.hid hE
    have q1 : (x != 0) = true := by rw [bne_iff_ne]; exact hx
    clear hE hx HVU hgd
    go_enter Tryz.func20, Tryz.ntmps20
    go_wp2_with (first | (go_at_call 14; refine (HV.out).mono ?_; rintro e w3 ⟨he, hX⟩; subst he; have HX3 := Lib.hid hX; have hb3 := HBX.out _ hX; clear m0 m1 m2 m3 n0 n1 n2 n3 p0 p1 p2 p3; obtain ⟨⟨m0, m1, m2, m3⟩, n0, n1, n2, n3⟩ := box_facts hb3.1; obtain ⟨⟨p0, p1, p2, p3⟩, _⟩ := box_facts hb3.2; clear hX hb3) | (go_at_call 61; refine (HN.out _ HX3.out).mono ?_; rintro e w4 ⟨rk, rn, rs, rx, rl, rc, he, hI4, hX4⟩; simp only at he; subst he; have HX4 : Hid (Ext ((w.alloc (.cells #[.int .i64 k, .string n, .int .i64 s, .slice xa l cap] 24)).alloc (.cells #[.int .i64 0, .string ⟨#[]⟩, .int .i64 0, .slice none 0 0] 24)) (w4.alloc (.cells #[.int .i64 rk, .string rn, .int .i64 rs, .slice rx rl rc] 24))) := Lib.hid (Ext.alloc (Ext.trans HX3.out hX4) _); have HI4 := Lib.hid (Is_alloc hI4 (.cells #[.int .i64 rk, .string rn, .int .i64 rs, .slice rx rl rc] 24)); have hb4 := HBX.out _ HX4.out; have hx4 := heap_alloc_new w4 (.cells #[.int .i64 rk, .string rn, .int .i64 rs, .slice rx rl rc] 24); clear m0 m1 m2 m3 n0 n1 n2 n3; obtain ⟨⟨m0, m1, m2, m3⟩, n0, n1, n2, n3⟩ := box_facts hb4.1; obtain ⟨⟨y0, y1, y2, y3⟩, _⟩ := box_facts hx4; have HY4 := Lib.hid hx4; clear hI4 hX4 hb4 hx4))
    exact bodyPost_ret (v := .tuple #[.agg #[.int .i64 0, .string ⟨#[]⟩, .int .i64 0, .slice none 0 0], .int .i64 x]) (by simp [results, Tryz.results20, go_sem, m0, m1, m2, m3]) rfl (TrErr HR.out HZ1.out (Ext.trans HBw.out HX4.out))
  rw [if_pos hx] at hE
  have HG := Lib.hid (hgd hx).1
  subst hx
  clear hgd
  by_cases hy : validE u = 0
  · rw [if_pos hy] at hE
    rw [hy] at HVU
    have HR := Lib.hid hE
    clear hy hE
    go_enter Tryz.func20, Tryz.ntmps20
    go_wp2_with (first | (go_at_call 14; refine (HV.out).mono ?_; rintro e w3 ⟨he, hX⟩; subst he; have HX3 := Lib.hid hX; have hb3 := HBX.out _ hX; clear m0 m1 m2 m3 n0 n1 n2 n3 p0 p1 p2 p3; obtain ⟨⟨m0, m1, m2, m3⟩, n0, n1, n2, n3⟩ := box_facts hb3.1; obtain ⟨⟨p0, p1, p2, p3⟩, _⟩ := box_facts hb3.2; clear hX hb3) | (go_at_call 61; refine (HN.out _ HX3.out).mono ?_; rintro e w4 ⟨rk, rn, rs, rx, rl, rc, he, hI4, hX4⟩; simp only at he; subst he; have HX4 : Hid (Ext ((w.alloc (.cells #[.int .i64 k, .string n, .int .i64 s, .slice xa l cap] 24)).alloc (.cells #[.int .i64 0, .string ⟨#[]⟩, .int .i64 0, .slice none 0 0] 24)) (w4.alloc (.cells #[.int .i64 rk, .string rn, .int .i64 rs, .slice rx rl rc] 24))) := Lib.hid (Ext.alloc (Ext.trans HX3.out hX4) _); have HI4 := Lib.hid (Is_alloc hI4 (.cells #[.int .i64 rk, .string rn, .int .i64 rs, .slice rx rl rc] 24)); have hb4 := HBX.out _ HX4.out; have hx4 := heap_alloc_new w4 (.cells #[.int .i64 rk, .string rn, .int .i64 rs, .slice rx rl rc] 24); clear m0 m1 m2 m3 n0 n1 n2 n3; obtain ⟨⟨m0, m1, m2, m3⟩, n0, n1, n2, n3⟩ := box_facts hb4.1; obtain ⟨⟨y0, y1, y2, y3⟩, _⟩ := box_facts hx4; have HY4 := Lib.hid hx4; clear hI4 hX4 hb4 hx4) | (go_at_call 52; refine (HVU.out _ _ _ _ _ HI4.out).mono ?_; rintro e w6 ⟨he, hX6⟩; subst he; have HX6 : Hid (Ext (w4.alloc (.cells #[.int .i64 rk, .string rn, .int .i64 rs, .slice rx rl rc] 24)) w6) := Lib.hid hX6; have hb6 := HBX.out _ (Ext.trans HX4.out HX6.out); have hx6 := (HX6.out.block w4.heap.size (by rw [World.size_alloc]; omega)).trans HY4.out; clear m0 m1 m2 m3 n0 n1 n2 n3 y0 y1 y2 y3; obtain ⟨⟨m0, m1, m2, m3⟩, n0, n1, n2, n3⟩ := box_facts hb6.1; obtain ⟨⟨y0, y1, y2, y3⟩, _⟩ := box_facts hx6; clear hX6 hb6 hx6))
    exact bodyPost_ret (v := .tuple #[.agg #[.int .i64 rk, .string rn, .int .i64 rs, .slice rx rl rc], .int .i64 0]) (by simp [results, Tryz.results20, go_sem, m0, m1, m2, m3]) rfl (TrFin HR.out (HBX.out _ (Ext.trans HX4.out HX6.out)).1 HZ1.out (Ext.trans HBw.out (Ext.trans HX4.out HX6.out)) HG.out (Is_below HI4.out HX6.out))
  · rw [if_neg hy] at hE
    have HR := Lib.hid hE
    generalize validE u = y at HVU HR hy
    have q1 : (y != 0) = true := by rw [bne_iff_ne]; exact hy
    clear hy hE
    go_enter Tryz.func20, Tryz.ntmps20
    go_wp2_with (first | (go_at_call 14; refine (HV.out).mono ?_; rintro e w3 ⟨he, hX⟩; subst he; have HX3 := Lib.hid hX; have hb3 := HBX.out _ hX; clear m0 m1 m2 m3 n0 n1 n2 n3 p0 p1 p2 p3; obtain ⟨⟨m0, m1, m2, m3⟩, n0, n1, n2, n3⟩ := box_facts hb3.1; obtain ⟨⟨p0, p1, p2, p3⟩, _⟩ := box_facts hb3.2; clear hX hb3) | (go_at_call 61; refine (HN.out _ HX3.out).mono ?_; rintro e w4 ⟨rk, rn, rs, rx, rl, rc, he, hI4, hX4⟩; simp only at he; subst he; have HX4 : Hid (Ext ((w.alloc (.cells #[.int .i64 k, .string n, .int .i64 s, .slice xa l cap] 24)).alloc (.cells #[.int .i64 0, .string ⟨#[]⟩, .int .i64 0, .slice none 0 0] 24)) (w4.alloc (.cells #[.int .i64 rk, .string rn, .int .i64 rs, .slice rx rl rc] 24))) := Lib.hid (Ext.alloc (Ext.trans HX3.out hX4) _); have HI4 := Lib.hid (Is_alloc hI4 (.cells #[.int .i64 rk, .string rn, .int .i64 rs, .slice rx rl rc] 24)); have hb4 := HBX.out _ HX4.out; have hx4 := heap_alloc_new w4 (.cells #[.int .i64 rk, .string rn, .int .i64 rs, .slice rx rl rc] 24); clear m0 m1 m2 m3 n0 n1 n2 n3; obtain ⟨⟨m0, m1, m2, m3⟩, n0, n1, n2, n3⟩ := box_facts hb4.1; obtain ⟨⟨y0, y1, y2, y3⟩, _⟩ := box_facts hx4; have HY4 := Lib.hid hx4; clear hI4 hX4 hb4 hx4) | (go_at_call 52; refine (HVU.out _ _ _ _ _ HI4.out).mono ?_; rintro e w6 ⟨he, hX6⟩; subst he; have HX6 : Hid (Ext (w4.alloc (.cells #[.int .i64 rk, .string rn, .int .i64 rs, .slice rx rl rc] 24)) w6) := Lib.hid hX6; have hb6 := HBX.out _ (Ext.trans HX4.out HX6.out); have hx6 := (HX6.out.block w4.heap.size (by rw [World.size_alloc]; omega)).trans HY4.out; clear m0 m1 m2 m3 n0 n1 n2 n3 y0 y1 y2 y3; obtain ⟨⟨m0, m1, m2, m3⟩, n0, n1, n2, n3⟩ := box_facts hb6.1; obtain ⟨⟨y0, y1, y2, y3⟩, _⟩ := box_facts hx6; clear hX6 hb6 hx6))
    exact bodyPost_ret (v := .tuple #[.agg #[.int .i64 0, .string ⟨#[]⟩, .int .i64 0, .slice none 0 0], .int .i64 y]) (by simp [results, Tryz.results20, go_sem, m0, m1, m2, m3]) rfl (TrErr HR.out HZ1.out (Ext.trans HBw.out (Ext.trans HX4.out HX6.out)))
set_option maxHeartbeats 3200000 in
set_option maxRecDepth 100000 in
theorem yPlain_any (t : Tm) (c0 c1 c2 c3 : Value) (w : World) (hM : size t ≤ 1073741824) (hI : Is w t c0 c1 c2 c3) (hT : TabY w) :
    Calls Tryz.prog 18 #[.agg #[c0, c1, c2, c3]] w fun e w' => e = .returned (.bool (plainT t)) ∧ Ext w w' := by
  obtain ⟨k, n, s, xa, l, cap, rfl, rfl, rfl, rfl⟩ := Is_form hI
  have hX0 : Ext w (w.alloc (.cells #[.int .i64 k, .string n, .int .i64 s, .slice xa l cap] 24)) := (Ext.refl w).alloc _
  have hB := Lies_box hI 24
  have hb0 := heap_alloc_new w (.cells #[.int .i64 k, .string n, .int .i64 s, .slice xa l cap] 24)
  have HBX : Hid (∀ W, Ext (w.alloc (.cells #[.int .i64 k, .string n, .int .i64 s, .slice xa l cap] 24)) W → W.heap[w.heap.size]? = some (.cells #[.int .i64 k, .string n, .int .i64 s, .slice xa l cap] 24 (0, 0))) := fun W x => (x.block _ (by rw [World.size_alloc]; omega)).trans hb0
  have HD : Hid (∀ W, Ext (w.alloc (.cells #[.int .i64 k, .string n, .int .i64 s, .slice xa l cap] 24)) W → Calls Tryz.prog 56 #[.pointer (some ⟨w.heap.size, 0, none⟩), .func (.func 57) #[] #[]] W fun e w' => e = .returned (.bool (hasT isDes t)) ∧ Ext W w') := fun W h =>
    hasD_any _ t w.heap.size 0 W (Nat.le_refl _) hM (Lies_carry (keep_below h) hB) (hT.ext (Ext.trans hX0 h))
  have HV := Lib.hid (yValid_any t _ _ _ _ (w.alloc (.cells #[.int .i64 k, .string n, .int .i64 s, .slice xa l cap] 24)) hM (Is_alloc hI _) (hT.ext hX0))
  have hF : plainT t = (decide (yvalidE t = 0) && (!hasT isDes t && (decide ((nrmT t).2 = 0) && (cmpT (nrmT t).1 t == 0)))) := rfl
  have HX := Lib.hid hX0
  generalize plainT t = v at hF ⊢
  by_cases hz : yvalidE t = 0
  rotate_left
  · have H : Hid (v = false) := by show _ = _; rw [hF, decide_eq_false hz]; rfl
    generalize yvalidE t = x at hz HV
    have q1 : (x != 0) = true := by rw [bne_iff_ne]; exact hz
    clear hF hz hI hT hX0 hB hb0 HD
    go_enter Tryz.func18, Tryz.ntmps18
    go_wp2_with (go_at_call 14; refine (HV.out).mono ?_; rintro e w3 ⟨he, hX⟩; subst he; have HX3 := Lib.hid hX; clear hX)
    go_ret
    rw [H.out]
    exact ⟨rfl, Ext.trans HX.out HX3.out⟩
  obtain ⟨hg, hs4⟩ := yvalid_gd hz
  have HN : Hid (∀ W, Ext (w.alloc (.cells #[.int .i64 k, .string n, .int .i64 s, .slice xa l cap] 24)) W → Calls Tryz.prog 61 #[.pointer (some ⟨w.heap.size, 0, none⟩)] W (TrPost W (nrmT t))) := fun W x => normal_any _ t _ _ W (Nat.le_refl _) hs4 hg (Lies_carry (keep_below x) hB)
  have hsz := (nrm_gd t hg).2
  have HC : Hid (∀ W a0 a1 a2 a3, Ext (w.alloc (.cells #[.int .i64 k, .string n, .int .i64 s, .slice xa l cap] 24)) W → Is W (nrmT t).1 a0 a1 a2 a3 → Calls Tryz.prog 62 #[.agg #[a0, a1, a2, a3], .agg #[.int .i64 k, .string n, .int .i64 s, .slice xa l cap]] W fun e w' => e = .returned (.bool (cmpT (nrmT t).1 t == 0)) ∧ Ext W w') := fun W a0 a1 a2 a3 x h1 => yequal_any _ _ _ _ _ _ _ _ _ _ W (by omega) (by omega) h1 (Is_below hI (Ext.trans hX0 x))
  rw [hz] at HV hF
  rw [decide_eq_true rfl, Bool.true_and] at hF
  clear hz hM hs4 hg hI hT hX0 hB hb0 hsz
  generalize nrmT t = P at HN HC hF
  obtain ⟨u, x⟩ := P
  simp only at HC hF
  cases hd : hasT isDes t
  rotate_left
  · have H : Hid (v = false) := by show _ = _; rw [hF, hd]; rfl
    rw [hd] at HD
    clear hF hd
    go_enter Tryz.func18, Tryz.ntmps18
    go_wp2_with (first | (go_at_call 14; refine (HV.out).mono ?_; rintro e w3 ⟨he, hX⟩; subst he; have HX3 := Lib.hid hX; clear hX) | (go_at_call 56; refine (HD.out _ HX3.out).mono ?_; rintro e w5 ⟨he, hX⟩; subst he; have HX5 := Lib.hid (Ext.trans HX3.out hX); clear hX))
    go_ret
    rw [H.out]
    exact ⟨rfl, Ext.trans HX.out HX5.out⟩
  rw [hd] at HD hF
  clear hd
  by_cases hx : x = 0
  rotate_left
  · have H : Hid (v = false) := by show _ = _; rw [hF, decide_eq_false hx]; rfl
    have q1 : (x == 0) = false := by rw [beq_eq_false_iff_ne]; exact hx
    clear hF hx
    go_enter Tryz.func18, Tryz.ntmps18
    go_wp2_with (first | (go_at_call 14; refine (HV.out).mono ?_; rintro e w3 ⟨he, hX⟩; subst he; have HX3 := Lib.hid hX; clear hX) | (go_at_call 56; refine (HD.out _ HX3.out).mono ?_; rintro e w5 ⟨he, hX⟩; subst he; have HX5 := Lib.hid (Ext.trans HX3.out hX); clear hX) | (go_at_call 61; refine (HN.out _ HX5.out).mono ?_; rintro e w4 ⟨rk, rn, rs, rx, rl, rc, he, hI4, hX4⟩; simp only at he; subst he; have HX4 : Hid (Ext (w.alloc (.cells #[.int .i64 k, .string n, .int .i64 s, .slice xa l cap] 24)) (w4.alloc (.cells #[.int .i64 rk, .string rn, .int .i64 rs, .slice rx rl rc] 24))) := Lib.hid (Ext.alloc (Ext.trans HX5.out hX4) _); have HI4 := Lib.hid (Is_alloc hI4 (.cells #[.int .i64 rk, .string rn, .int .i64 rs, .slice rx rl rc] 24)); have hb4 := HBX.out _ HX4.out; have hx4 := heap_alloc_new w4 (.cells #[.int .i64 rk, .string rn, .int .i64 rs, .slice rx rl rc] 24); obtain ⟨⟨p0, p1, p2, p3⟩, _⟩ := box_facts hb4; obtain ⟨⟨y0, y1, y2, y3⟩, _⟩ := box_facts hx4; clear hI4 hX4 hb4 hx4))
    go_ret
    rw [H.out]
    exact ⟨rfl, Ext.trans HX.out HX4.out⟩
  subst hx
  have H : Hid (v = (cmpT u t == 0)) := by show _ = _; rw [hF]; rfl
  clear hF
  go_enter Tryz.func18, Tryz.ntmps18
  go_wp2_with (first | (go_at_call 14; refine (HV.out).mono ?_; rintro e w3 ⟨he, hX⟩; subst he; have HX3 := Lib.hid hX; clear hX) | (go_at_call 56; refine (HD.out _ HX3.out).mono ?_; rintro e w5 ⟨he, hX⟩; subst he; have HX5 := Lib.hid (Ext.trans HX3.out hX); clear hX) | (go_at_call 61; refine (HN.out _ HX5.out).mono ?_; rintro e w4 ⟨rk, rn, rs, rx, rl, rc, he, hI4, hX4⟩; simp only at he; subst he; have HX4 : Hid (Ext (w.alloc (.cells #[.int .i64 k, .string n, .int .i64 s, .slice xa l cap] 24)) (w4.alloc (.cells #[.int .i64 rk, .string rn, .int .i64 rs, .slice rx rl rc] 24))) := Lib.hid (Ext.alloc (Ext.trans HX5.out hX4) _); have HI4 := Lib.hid (Is_alloc hI4 (.cells #[.int .i64 rk, .string rn, .int .i64 rs, .slice rx rl rc] 24)); have hb4 := HBX.out _ HX4.out; have hx4 := heap_alloc_new w4 (.cells #[.int .i64 rk, .string rn, .int .i64 rs, .slice rx rl rc] 24); obtain ⟨⟨p0, p1, p2, p3⟩, _⟩ := box_facts hb4; obtain ⟨⟨y0, y1, y2, y3⟩, _⟩ := box_facts hx4; clear hI4 hX4 hb4 hx4) | (go_at_call 62; refine (HC.out _ _ _ _ _ HX4.out HI4.out).mono ?_; rintro e w8 ⟨he, hX8⟩; subst he; have HX8 := Lib.hid hX8; clear hX8))
  go_ret
  rw [H.out]
  exact ⟨rfl, Ext.trans HX.out (Ext.trans HX4.out HX8.out)⟩
end Go.Proofs.YtbcpnepjojppaaaGreatDoor
