/-
  THE LAW XorSum's walk.
-/
import Derived.Test.YtakeopjpmfgngaaGreatDoorQlz
namespace Go.Proofs.YtakeopjpmfgngaaGreatDoor
open Go.RowKit Go.Lib

set_option maxHeartbeats 6400000 in
set_option maxRecDepth 100000 in
theorem lawS_any (HA : Hid Awake8Ok) (ts : List Tm) (xl : Option Addr) (cl : Nat) (z : Nat) (w : World) (hT : TabQ w) (hcl : ts.length ≤ cl) (hno : xl = none → cl = 0) (hb : ts.length * 56 ≤ 140737488351232) (hz : z ≤ 255) (hL : Row w ts xl) :
    Calls Tryz.prog 3 #[.slice xl ts.length cl, .int .u8 (z : Int)] w fun e w' => e = .returned (.bool true) ∧ Below w.heap.size w w' := by
  have HT := Lib.hid hT
  have HF := Lib.hid (fun W (x : Ext w W) => few08_any ts xl cl W (by unfold maxLen; omega) (Row_below (w' := W) hL x))
  have tok1 : True := trivial
  cases h1 : few ts 20 300
  · rw [h1] at HF
    generalize ts.length = A at *
    clear hL hT
    go_enter Tryz.func3, Tryz.ntmps3
    go_wp2_with (first
      | (go_at_call 9; have _t := tok1; refine (HA.out _ HT.out).mono ?_; rintro e w1 ⟨he, hB⟩; subst he; have HX1 : Hid (Ext w w1) := Lib.hid hB; clear hB tok1)
      | (go_at_call 10; refine (HF.out _ HX1.out).mono ?_; rintro e w2 ⟨he, hB⟩; subst he; have HX2 := Lib.hid (HX1.out.trans hB); clear hB)
      | (go_at_call 9; refine (HA.out _ (HT.out.ext HX2.out)).mono ?_; rintro e w3 ⟨he, hB⟩; subst he; have HX3 := Lib.hid (HX2.out.trans hB); clear hB))
    go_ret
    exact ⟨rfl, HX3.out⟩
  obtain ⟨hs, hl⟩ := few_sizesQ h1
  rw [h1] at HF
  have HRI := Lib.hid (fun W (x : Ext w W) => RowIn_carryQ (fun b (hb : b < w.heap.size) => x.block b hb) _ _ (Row_RowInQ _ _ hL))
  have HLW := Lib.hid (fun W (x : Ext w W) => Row_below (w' := W) hL x)
  obtain ⟨A, hA⟩ : ∃ A, ts.length = A := ⟨_, rfl⟩
  obtain ⟨⟨T, E⟩, hP⟩ : ∃ P, sumP ts = P := ⟨_, rfl⟩
  have hTs : size T ≤ 301 := by have := sumP_size ts; rw [hP] at this; simp only at this; omega
  have HAL := Lib.hid hA
  have HPS := Lib.hid hP
  have HSZ := Lib.hid hs
  have HCL := Lib.hid (fun W (x : Ext w W) => cloneZ_any w.heap.size ts A hA xl cl W (by omega) x.size (HRI.out W x))
  rw [hA] at HF hcl hl hb ⊢
  have HS1 := Lib.hid (fun W x c (r : Row W ts x) => sumZ_any ts (T, E) hP A hA hl hs x c W r)
  have HQ1 := Lib.hid (fun W (x : Ext w W) => qsumZ_any ts (T, E) hP A hA hl hs xl cl W (HLW.out W x))
  have HSM := Lib.hid (fun W c0 c1 c2 c3 d0 d1 d2 d3 (p : Is W T c0 c1 c2 c3) (q : Is W T d0 d1 d2 d3) => sameZ_any T c0 c1 c2 c3 d0 d1 d2 d3 W (by omega) p q)
  clear hA hP hs hL hT h1
  go_enter Tryz.func3, Tryz.ntmps3
  go_upto_region 3 with (first
    | (go_at_call 9; have _t := tok1; refine (HA.out _ HT.out).mono ?_; rintro e w1 ⟨he, hB⟩; subst he; have HX1 : Hid (Ext w w1) := Lib.hid hB; clear hB tok1)
    | (go_at_call 10; refine (HF.out _ HX1.out).mono ?_; rintro e w2 ⟨he, hB⟩; subst he; have HX2 := Lib.hid (HX1.out.trans hB); clear hB))
  go_cut [5, 6] (fun t5 t6 wc => t6 = .int .i64 E ∧ ∃ p, t5 = .pointer (some ⟨p, 0, none⟩) ∧ SmL w [(T, p)] wc)
  case first =>
    go_wp2_with (first
      | (go_at_call 12; refine (HCL.out _ HX2.out).mono ?_; rintro e w3 ⟨x3, c3, he, _, hr, hB⟩; subst he; have HR3 := Lib.hid hr; have HX3 := Lib.hid (HX2.out.trans hB); clear hr hB)
      | (go_at_call 11; refine (HS1.out _ _ _ HR3.out).mono ?_; rintro e w4 ⟨k4, n4, s4, x4, l4, c4, he, hI, hB⟩; subst he; have HI4 := Lib.hid (Lies_box (IsIn_Is _ _ _ _ _ hI) 26); have HX4 := Lib.hid ((HX3.out.trans hB).alloc (.cells #[.int .i64 k4, .string n4, .int .i64 s4, .slice x4 l4 c4] 26)); clear hI hB))
    go_meet
    exact ⟨rfl, _, rfl, HX4.out, fun q hq => by obtain rfl := List.mem_singleton.1 hq; exact HI4.out⟩
  case rest =>
  obtain ⟨rfl, p5, rfl, hM⟩ := hcut
  have HM := Lib.hid hM
  clear hM
  go_upto_region 4 with (fail)
  go_cut [7, 8] (fun t7 t8 wd => t8 = .int .i64 E ∧ ∃ p, t7 = .pointer (some ⟨p, 0, none⟩) ∧ SmL w [(T, p), (T, p5)] wd)
  case first =>
    go_wp2_with (go_at_call 13; refine (HQ1.out _ HM.out.1).mono ?_; rintro e w4 ⟨k4, n4, s4, x4, l4, c4, he, hI, hB⟩; subst he; have HI4 := Lib.hid (Lies_box hI 26); have HX4 := Lib.hid (Ext.alloc (a := wc) hB (.cells #[.int .i64 k4, .string n4, .int .i64 s4, .slice x4 l4 c4] 26)); clear hI hB)
    go_meet
    exact ⟨rfl, _, rfl, HM.out.add HX4.out HI4.out⟩
  case rest =>
  clear HM
  obtain ⟨rfl, p7, rfl, hM⟩ := hcut
  have HM := Lib.hid hM
  clear hM HQ1 HLW HF
  obtain ⟨ka, na, sa, ya, la, da, a0, a1, a2, a3, Ja⟩ := Lies_cells (HM.out.2 (T, p5) (by simp))
  obtain ⟨kb, nb, sb, yb, lb, db, b0, b1, b2, b3, Jb⟩ := Lies_cells (HM.out.2 (T, p7) (by simp))
  have HC5 := Lib.hid (fun W (x : Ext wc W) => HSM.out W _ _ _ _ _ _ _ _ (Is_below (w' := W) Ja x) (Is_below Jb x))
  have HBX : Hid (∀ W, Ext wc W → W.cell? ⟨p5, 0, none⟩ = some (.int .i64 ka) ∧ W.cell? ⟨p5, 1, none⟩ = some (.string na) ∧ W.cell? ⟨p5, 2, none⟩ = some (.int .i64 sa) ∧ W.cell? ⟨p5, 3, none⟩ = some (.slice ya la da) ∧ W.cell? ⟨p7, 0, none⟩ = some (.int .i64 kb) ∧ W.cell? ⟨p7, 1, none⟩ = some (.string nb) ∧ W.cell? ⟨p7, 2, none⟩ = some (.int .i64 sb) ∧ W.cell? ⟨p7, 3, none⟩ = some (.slice yb lb db)) := fun W h => ⟨keep_below h _ _ a0, keep_below h _ _ a1, keep_below h _ _ a2, keep_below h _ _ a3, keep_below h _ _ b0, keep_below h _ _ b1, keep_below h _ _ b2, keep_below h _ _ b3⟩
  clear Ja Jb
  have tok2 : True := trivial
  have hee : (E != E) = false := by simp
  have hee2 : (E == E) = true := by simp
  by_cases h0 : E = 0
  rotate_left
  · have q0 : (E != 0) = true := bne_iff_ne.2 h0
    go_wp2_with (first
      | (go_at_call 14; have _t := tok2; refine (HC5.out _ (Ext.refl _)).mono ?_; rintro e w5 ⟨he, hB⟩; subst he; clear a0 a1 a2 a3 b0 b1 b2 b3; have HX5 : Hid (Ext wc w5) := Lib.hid hB; obtain ⟨a0, a1, a2, a3, b0, b1, b2, b3⟩ := HBX.out _ hB; clear hB tok2)
      | (go_at_call 14; refine (HC5.out _ HX5.out).mono ?_; rintro e w6 ⟨he, hB⟩; subst he; have HX6 := Lib.hid (HM.out.1.trans (HX5.out.trans hB)); clear hB))
    go_ret
    exact ⟨rfl, HX6.out⟩
  have HP0 := Lib.hid h0
  subst h0
  go_upto_region 7 with (go_at_call 14; have _t := tok2; refine (HC5.out _ (Ext.refl _)).mono ?_; rintro e w5 ⟨he, hB⟩; subst he; clear a0 a1 a2 a3 b0 b1 b2 b3; have HM5 := Lib.hid (HM.out.ext hB); clear hB tok2)
  clear HM HC5 HBX
  go_cut [9] (fun t9 wd => ∃ xb cb W0, t9 = .slice xb A cb ∧ SmL w [(T, p7), (T, p5)] W0 ∧ Ext W0 wd ∧ OwnT W0.heap.size (fun q => q < w.heap.size) wd ts (.slice xb A cb))
  case first =>
    go_wp2_with (go_at_call 12; refine (HCL.out _ HM5.out.1).mono ?_; rintro e w6 ⟨x6, c6, he, hO, _, hB⟩; subst he; have HO6 := Lib.hid (And.intro hB hO); clear hO hB)
    go_meet
    exact ⟨x6, c6, _, rfl, HM5.out, HO6.out⟩
  case rest =>
  obtain ⟨xb, cb, W0, rfl, hM, hE, hO⟩ := hcut
  have HRV := Lib.hid (reverseZ_any ts A HAL.out hl HSZ.out xb cb wc hO fun q (hq : q < w.heap.size) => Nat.lt_of_lt_of_le hq hM.1.size)
  have HM := Lib.hid (And.intro hM hE)
  clear hM hE hO HCL HM5
  go_upto_region 8 with (fail)
  go_cut [9] (fun t9 wd => t9 = .slice xb A cb ∧ ∃ us : List Tm, us.Perm ts ∧ Row wd us xb ∧ SmL w [(T, p7), (T, p5)] wd)
  case first =>
    go_wp2_with (go_at_call 15; refine (HRV.out).mono ?_; rintro e w6 ⟨he, us, hp, hr, hB⟩; subst he; have HO6 := Lib.hid (And.intro hp (And.intro hr (HM.out.1.ext (Below.trans HM.out.2 hB)))); clear hp hr hB)
    go_meet
    exact ⟨rfl, us, HO6.out⟩
  case rest =>
  obtain ⟨rfl, us, hp, hr, hM⟩ := hcut
  clear HM HRV
  have HM := Lib.hid hM
  have HS2 := Lib.hid (sumZ_any us (T, 0) ((sumP_perm hp (by rw [HPS.out])).trans HPS.out) A (hp.length_eq.trans HAL.out) hl (by rw [sizes_perm hp]; exact HSZ.out) xb cb wc hr)
  clear hM hp hr HS1
  go_upto_region 9 with (fail)
  go_cut [10, 11] (fun t10 t11 wd => t11 = .int .i64 0 ∧ ∃ p, t10 = .pointer (some ⟨p, 0, none⟩) ∧ SmL w [(T, p), (T, p7), (T, p5)] wd)
  case first =>
    go_wp2_with (go_at_call 11; refine (HS2.out).mono ?_; rintro e w4 ⟨k4, n4, s4, x4, l4, c4, he, hI, hB⟩; subst he; have HI4 := Lib.hid (Lies_box (IsIn_Is _ _ _ _ _ hI) 26); have HX4 := Lib.hid (Ext.alloc (a := wc) hB (.cells #[.int .i64 k4, .string n4, .int .i64 s4, .slice x4 l4 c4] 26)); clear hI hB)
    go_meet
    exact ⟨rfl, _, rfl, HM.out.add HX4.out HI4.out⟩
  case rest =>
  clear HM HS2
  obtain ⟨rfl, p10, rfl, hM⟩ := hcut
  have HM := Lib.hid hM
  clear hM
  go_upto_region 10 with (fail)
  go_cut [12] (fun t12 wd => ∃ k : Nat, t12 = .int .i64 (k : Int) ∧ k ≤ A ∧ SmL w [(T, p10), (T, p7), (T, p5)] wd)
  case first =>
    go_wp2_with fail
    go_meet
    exact ⟨z % (A + 1), by simp, Nat.lt_succ_iff.1 (Nat.mod_lt _ (by omega)), HM.out⟩
  case rest =>
  clear HM
  obtain ⟨k, rfl, hk, hM⟩ := hcut
  have HM := Lib.hid hM
  clear hM
  obtain ⟨⟨XT, XE⟩, hX⟩ : ∃ P, sumP (ts.take k) = P := ⟨_, rfl⟩
  obtain ⟨⟨YT, YE⟩, hY⟩ : ∃ P, sumP (ts.drop k) = P := ⟨_, rfl⟩
  have hsp : sizes (ts.take k) + sizes (ts.drop k) ≤ 300 := by rw [← sizes_appZ, List.take_append_drop]; exact HSZ.out
  have hXs : size XT ≤ 301 := by have := sumP_size (ts.take k); rw [hX] at this; simp only at this; omega
  have hYs : size YT ≤ 301 := by have := sumP_size (ts.drop k); rw [hY] at this; simp only at this; omega
  have htk : (ts.take k).length = k := by rw [List.length_take, HAL.out]; omega
  have hdk : (ts.drop k).length = A - k := by rw [List.length_drop, HAL.out]
  have HTK := Lib.hid (fun W (x : Ext w W) xq cq (hr : RowIn (fun q => q < w.heap.size) W (ts.take k) xq) => cloneZ_any w.heap.size (ts.take k) k htk xq cq W (by omega) x.size hr)
  have HDK := Lib.hid (fun W (x : Ext w W) xq cq (hr : RowIn (fun q => q < w.heap.size) W (ts.drop k) xq) => cloneZ_any w.heap.size (ts.drop k) (A - k) hdk xq cq W (by omega) x.size hr)
  have HSX := Lib.hid (fun W x c (r : Row W (ts.take k) x) => sumZ_any (ts.take k) (XT, XE) hX k htk (by omega) (by omega) x c W r)
  have HSY := Lib.hid (fun W x c (r : Row W (ts.drop k) x) => sumZ_any (ts.drop k) (YT, YE) hY (A - k) hdk (by omega) (by omega) x c W r)
  have HXY := Lib.hid (And.intro hX hY)
  have HTR := Lib.hid (fun W (x : Ext w W) => RowIn_takeZ _ _ k (HRI.out W x))
  clear hX hY htk hdk hsp
  go_upto_region 11 with (fail)
  go_cut [13, 14] (fun t13 t14 wd => t14 = .int .i64 XE ∧ ∃ p, t13 = .pointer (some ⟨p, 0, none⟩) ∧ SmL w [(XT, p), (T, p10), (T, p7), (T, p5)] wd)
  case first =>
    have hcc : ¬ (cl : Int) < 0 := by omega
    go_wp2_with (first
      | (go_at_call 12; refine (HTK.out _ HM.out.1 _ _ (HTR.out _ HM.out.1)).mono ?_; rintro e w3 ⟨x3, c3, he, _, hr, hB⟩; subst he; have HR3 := Lib.hid hr; have HX3 : Hid (Ext wc w3) := Lib.hid hB; clear hr hB)
      | (go_at_call 11; refine (HSX.out _ _ _ HR3.out).mono ?_; rintro e w4 ⟨k4, n4, s4, x4, l4, c4, he, hI, hB⟩; subst he; have HI4 := Lib.hid (Lies_box (IsIn_Is _ _ _ _ _ hI) 26); have HX4 := Lib.hid (Ext.alloc (a := wc) (HX3.out.trans hB) (.cells #[.int .i64 k4, .string n4, .int .i64 s4, .slice x4 l4 c4] 26)); clear hI hB))
    go_meet
    exact ⟨rfl, _, rfl, HM.out.add HX4.out HI4.out⟩
  case rest =>
  clear HTK HTR HSX
  obtain ⟨rfl, p13, rfl, hM⟩ := hcut
  have HM := Lib.hid hM
  clear hM
  go_upto_region 12 with (fail)
  go_cut [15, 16] (fun t15 t16 wd => t16 = .int .i64 YE ∧ ∃ p, t15 = .pointer (some ⟨p, 0, none⟩) ∧ SmL w [(YT, p), (XT, p13), (T, p10), (T, p7), (T, p5)] wd)
  case first =>
    by_cases hck : cl = k
    · have hd0 : ts.drop k = [] := List.drop_eq_nil_of_le (by rw [HAL.out]; omega)
      have hAk : A = k := by omega
      have HDK0 := Lib.hid (fun W (x : Ext w W) xq cq => cloneZ_any w.heap.size ([] : List Tm) 0 rfl xq cq W (by omega) x.size (by simp [RowIn]))
      have HSY0 := Lib.hid (fun W x c (r : Row W [] x) => sumZ_any [] (YT, YE) (by rw [← hd0]; exact HXY.out.2) 0 rfl (by omega) (by simp [sizes]) x c W r)
      clear hd0 HXY HDK HSY HSM HAL hb hl hcl hno hXs hYs hTs HSZ hz
      subst hck
      subst hAk
      clear hk
      go_wp2_with (first
        | (go_at_call 12; refine (HDK0.out _ HM.out.1 _ _).mono ?_; rintro e w3 ⟨x3, c3, he, _, hr, hB⟩; subst he; have HR3 := Lib.hid hr; have HX3 : Hid (Ext wc w3) := Lib.hid hB; clear hr hB)
        | (go_at_call 11; refine (HSY0.out _ _ _ HR3.out).mono ?_; rintro e w4 ⟨k4, n4, s4, x4, l4, c4, he, hI, hB⟩; subst he; have HI4 := Lib.hid (Lies_box (IsIn_Is _ _ _ _ _ hI) 26); have HX4 := Lib.hid (Ext.alloc (a := wc) (HX3.out.trans hB) (.cells #[.int .i64 k4, .string n4, .int .i64 s4, .slice x4 l4 c4] 26)); clear hI hB))
      go_meet
      exact ⟨rfl, _, rfl, HM.out.add HX4.out HI4.out⟩
    · cases xl with
      | none => exact absurd (hno rfl) (by omega)
      | some a =>
        obtain ⟨ab, ao, sp⟩ := a
        have HRD : Hid (∀ W, Ext w W → RowIn (fun q => q < w.heap.size) W (ts.drop k) (some (Addr.add ⟨ab, ao, sp⟩ (k * 4)))) := by
          show ∀ _, _
          intro W x
          by_cases hkA : k = A
          · rw [List.drop_eq_nil_of_le (by rw [HAL.out]; omega)]; simp [RowIn]
          · obtain ⟨b, o, e⟩ := RowIn_at (HRI.out W x) (by rw [HAL.out]; omega)
            cases e
            have := RowIn_dropZ ts _ _ k (HRI.out W x)
            rw [add_plain]
            exact this
        go_wp2_with (first
          | (go_at_call 12; refine (HDK.out _ HM.out.1 _ _ (by first | exact HRD.out _ HM.out.1 | (trace_state; fail))).mono ?_; rintro e w3 ⟨x3, c3, he, _, hr, hB⟩; subst he; have HR3 := Lib.hid hr; have HX3 : Hid (Ext wc w3) := Lib.hid hB; clear hr hB)
          | (go_at_call 11; refine (HSY.out _ _ _ HR3.out).mono ?_; rintro e w4 ⟨k4, n4, s4, x4, l4, c4, he, hI, hB⟩; subst he; have HI4 := Lib.hid (Lies_box (IsIn_Is _ _ _ _ _ hI) 26); have HX4 := Lib.hid (Ext.alloc (a := wc) (HX3.out.trans hB) (.cells #[.int .i64 k4, .string n4, .int .i64 s4, .slice x4 l4 c4] 26)); clear hI hB))
        go_meet
        exact ⟨rfl, _, rfl, HM.out.add HX4.out HI4.out⟩
  case rest =>
  clear HDK HSY HM HRI hno hcl
  obtain ⟨rfl, p15, rfl, hM⟩ := hcut
  have HM := Lib.hid hM
  clear hM
  obtain ⟨⟨ZT, ZE⟩, hZ⟩ : ∃ P, sumP [XT, YT] = P := ⟨_, rfl⟩
  go_upto_region 13 with (fail)
  go_cut [17, 18] (fun t17 t18 wd => t18 = .int .i64 ZE ∧ ∃ p, t17 = .pointer (some ⟨p, 0, none⟩) ∧ SmL w [(ZT, p), (YT, p15), (XT, p13), (T, p10), (T, p7), (T, p5)] wd)
  case first =>
    obtain ⟨ka, na, sa, ya, la, da, a0, a1, a2, a3, Ja⟩ := Lies_cells (HM.out.2 (XT, p13) (by simp))
    obtain ⟨kb, nb, sb, yb, lb, db, b0, b1, b2, b3, Jb⟩ := Lies_cells (HM.out.2 (YT, p15) (by simp))
    have HAD := Lib.hid (Add_any XT YT _ _ _ _ _ _ _ _ wc (by omega) Ja Jb)
    rw [hZ] at HAD
    clear Ja Jb
    go_wp2_with (go_at_call 16; refine (HAD.out).mono ?_; rintro e w4 ⟨k4, n4, s4, x4, l4, c4, he, hI, hB⟩; subst he; have HI4 := Lib.hid (Lies_box (IsIn_Is _ _ _ _ _ hI) 26); have HX4 := Lib.hid (Ext.alloc (a := wc) hB (.cells #[.int .i64 k4, .string n4, .int .i64 s4, .slice x4 l4 c4] 26)); clear hI hB)
    go_meet
    exact ⟨rfl, _, rfl, HM.out.add HX4.out HI4.out⟩
  case rest =>
  clear HM
  obtain ⟨rfl, p17, rfl, hM⟩ := hcut
  have HM := Lib.hid hM
  clear hM
  obtain ⟨ka, na, sa, ya, la, da, a0, a1, a2, a3, Ja⟩ := Lies_cells (HM.out.2 (T, p10) (by simp))
  obtain ⟨kb, nb, sb, yb, lb, db, b0, b1, b2, b3, Jb⟩ := Lies_cells (HM.out.2 (T, p7) (by simp))
  have HC5 := Lib.hid (fun W (x : Ext wc W) => HSM.out W _ _ _ _ _ _ _ _ (Is_below (w' := W) Ja x) (Is_below Jb x))
  by_cases hx : XE = 0
  rotate_left
  · have q1 : (XE != 0) = true := bne_iff_ne.2 hx
    clear Ja Jb
    go_wp2_with (go_at_call 14; refine (HC5.out _ (Ext.refl _)).mono ?_; rintro e w5 ⟨he, hB⟩; subst he; have HX5 := Lib.hid (HM.out.1.trans hB); clear hB)
    go_ret
    exact ⟨rfl, HX5.out⟩
  by_cases hy : YE = 0
  rotate_left
  · have q1 : (YE != 0) = true := bne_iff_ne.2 hy
    subst hx
    clear Ja Jb
    go_wp2_with (go_at_call 14; refine (HC5.out _ (Ext.refl _)).mono ?_; rintro e w5 ⟨he, hB⟩; subst he; have HX5 := Lib.hid (HM.out.1.trans hB); clear hB)
    go_ret
    exact ⟨rfl, HX5.out⟩
  subst hx; subst hy
  have hzz := sumP_parts (ts := ts) (List.take_append_drop k ts) (by rw [HPS.out]) (by rw [HXY.out.1]) (by rw [HXY.out.2])
  rw [HXY.out.1, HXY.out.2, HPS.out, hZ] at hzz
  simp only [Prod.mk.injEq] at hzz
  obtain ⟨rfl, rfl⟩ := hzz
  obtain ⟨kc, nc, sc, yc, lc, dc, c0, c1, c2, c3, Jc⟩ := Lies_cells (HM.out.2 (ZT, p17) (by simp))
  have HC6 := Lib.hid (fun W (x : Ext wc W) => HSM.out W _ _ _ _ _ _ _ _ (Is_below (w' := W) Jc x) (Is_below Jb x))
  have HBX : Hid (∀ W, Ext wc W → W.cell? ⟨p17, 0, none⟩ = some (.int .i64 kc) ∧ W.cell? ⟨p17, 1, none⟩ = some (.string nc) ∧ W.cell? ⟨p17, 2, none⟩ = some (.int .i64 sc) ∧ W.cell? ⟨p17, 3, none⟩ = some (.slice yc lc dc) ∧ W.cell? ⟨p7, 0, none⟩ = some (.int .i64 kb) ∧ W.cell? ⟨p7, 1, none⟩ = some (.string nb) ∧ W.cell? ⟨p7, 2, none⟩ = some (.int .i64 sb) ∧ W.cell? ⟨p7, 3, none⟩ = some (.slice yb lb db)) := fun W h => ⟨keep_below h _ _ c0, keep_below h _ _ c1, keep_below h _ _ c2, keep_below h _ _ c3, keep_below h _ _ b0, keep_below h _ _ b1, keep_below h _ _ b2, keep_below h _ _ b3⟩
  clear Ja Jb Jc
  have tok3 : True := trivial
  go_wp2_with (first
    | (go_at_call 14; have _t := tok3; refine (HC5.out _ (Ext.refl _)).mono ?_; rintro e w5 ⟨he, hB⟩; subst he; clear a0 a1 a2 a3 b0 b1 b2 b3 c0 c1 c2 c3; have HX5 : Hid (Ext wc w5) := Lib.hid hB; obtain ⟨a0, a1, a2, a3, b0, b1, b2, b3⟩ := HBX.out _ hB; clear hB tok3)
    | (go_at_call 14; refine (HC6.out _ HX5.out).mono ?_; rintro e w6 ⟨he, hB⟩; subst he; have HX6 := Lib.hid (HM.out.1.trans (HX5.out.trans hB)); clear hB))
  go_ret
  exact ⟨rfl, HX6.out⟩
end Go.Proofs.YtakeopjpmfgngaaGreatDoor
