/-
  THE LAW XorLaws: what sums of two terms keep, and the law's walk.
-/
import Derived.Test.YtakeopjpmfgngaaDoorQlz
namespace Go.Proofs.YtakeopjpmfgngaaDoor
open Go.RowKit Go.Lib

theorem sumP_same {us ts : List Tm} (h1 : listE us = 0) (h2 : listE ts = 0) (e : sumsR us = sumsR ts) : sumP us = sumP ts := by
  unfold sumP
  rw [if_pos h1, if_pos h2, e]
theorem listE_two {a b : Tm} (ha : validE a = 0) (hb : validE b = 0) : listE [a, b] = 0 := listE_of (by simp) fun t ht => by
  simp only [List.mem_cons, List.not_mem_nil, or_false] at ht
  rcases ht with rfl | rfl
  · exact ha
  · exact hb
theorem addsT_two (a b : Tm) : addsT [a, b] = addT a ++ addT b := by rw [addsT, addsT, addsT, List.append_nil]
theorem laws_comm {a b : Tm} (ha : validE a = 0) (hb : validE b = 0) : sumP [b, a] = sumP [a, b] :=
  sumP_same (listE_two hb ha) (listE_two ha hb) ((sumsR_odd _).one (sumsR_odd _) fun t => by rw [addsT_two, addsT_two, cntT_app, cntT_app]; omega)
theorem laws_assoc {a b c : Tm} (ha : validE a = 0) (hc : validE c = 0) (h1 : (sumP [a, b]).2 = 0) (h2 : (sumP [b, c]).2 = 0) : sumP [a, (sumP [b, c]).1] = sumP [(sumP [a, b]).1, c] := by
  obtain ⟨_, a2, a3⟩ := sumP_ok h1
  obtain ⟨_, b2, b3⟩ := sumP_ok h2
  rw [a3, b3]
  refine sumP_same (listE_two ha b2) (listE_two a2 hc) ((sumsR_odd _).one (sumsR_odd _) fun t => ?_)
  simp only
  rw [addsT_two, addsT_two, addT_sumTm fun u hu => (sumsR_mem hu).1, addT_sumTm fun u hu => (sumsR_mem hu).1, cntT_app, cntT_app]
  have e1 := (sumsR_odd [a, b]).cnt t
  have e2 := (sumsR_odd [b, c]).cnt t
  rw [addsT_two, cntT_app] at e1 e2
  omega
theorem zro_valid : validE zroT = 0 := by rfl
theorem zro_sum : sumTm [] = zroT := by rfl
theorem laws_self {a : Tm} (ha : validE a = 0) : sumP [a, a] = (zroT, 0) := by
  have e : sumsR [a, a] = [] := (sumsR_odd _).one OddS.nil fun t => by rw [addsT_two, cntT_app, cntT]; omega
  rw [sumP_of (listE_two ha ha) (by rw [e, zro_sum]; exact zro_valid), e, zro_sum]
theorem laws_zero {a b : Tm} (h1 : (sumP [a, b]).2 = 0) : sumP [(sumP [a, b]).1, zroT] = sumP [a, b] := by
  obtain ⟨a1, a2, a3⟩ := sumP_ok h1
  rw [a3]
  have h0 := addT_sumTm (K := []) (fun u hu => by simp at hu)
  rw [zro_sum] at h0
  have e : sumsR [sumTm (sumsR [a, b]), zroT] = sumsR [a, b] := (sumsR_odd _).one (sumsR_odd _) fun t => by
    rw [addsT_two (sumTm _), h0, addT_sumTm fun u hu => (sumsR_mem hu).1, List.append_nil]
    exact (sumsR_odd [a, b]).cnt t
  rw [sumP_of (listE_two a2 zro_valid) (by rw [e]; exact a2), e]
theorem sumP_two_size {a b : Tm} {R : Tm × Int} (h : sumP [a, b] = R) : size R.1 ≤ 1 + size a + size b := by
  have := sumP_size [a, b]
  rw [h] at this
  simp only [sizes] at this
  omega
theorem Row_three_z {W : World} {H : Nat} {a b c : Tm} {a0 a1 a2 a3 b0 b1 b2 b3 c0 c1 c2 c3 : Value} (hH : W.heap.size = H) (ha : Is W a a0 a1 a2 a3) (hb : Is W b b0 b1 b2 b3) (hc : Is W c c0 c1 c2 c3) : Row (W.alloc (.cells #[a0, a1, a2, a3, b0, b1, b2, b3, c0, c1, c2, c3] 24)) [a, b, c] (some ⟨H, 0, none⟩) := Row_three_at H hH ha hb hc 24
end Go.Proofs.YtakeopjpmfgngaaDoor

/-
  THE LAW XorLaws's walk.
-/
namespace Go.Proofs.YtakeopjpmfgngaaDoor
open Go.RowKit Go.Lib

set_option maxHeartbeats 6400000 in
set_option maxRecDepth 100000 in
theorem lawL_any (HA : Hid Awake8Ok) (a b c : Tm) (a0 a1 a2 a3 b0 b1 b2 b3 c0 c1 c2 c3 : Value) (w : World) (hT : TabQ w) (hIa : Is w a a0 a1 a2 a3) (hIb : Is w b b0 b1 b2 b3) (hIc : Is w c c0 c1 c2 c3) :
    Calls Tryd.prog 4 #[.agg #[a0, a1, a2, a3], .agg #[b0, b1, b2, b3], .agg #[c0, c1, c2, c3]] w fun e w' => e = .returned (.bool true) ∧ Below w.heap.size w w' := by
  obtain ⟨ka, na, sa, ya, la, da, rfl, rfl, rfl, rfl⟩ := Is_form hIa
  obtain ⟨kb, nb, sb, yb, lb, db, rfl, rfl, rfl, rfl⟩ := Is_form hIb
  obtain ⟨kc, nc, sc, yc, lc, dc, rfl, rfl, rfl, rfl⟩ := Is_form hIc
  have HT := Lib.hid hT
  have hM0 : SmL w [(a, w.heap.size), (b, w.heap.size + 1), (c, w.heap.size + 1 + 1)] (((w.alloc (.cells #[.int .i64 ka, .string na, .int .i64 sa, .slice ya la da] 24)).alloc (.cells #[.int .i64 kb, .string nb, .int .i64 sb, .slice yb lb db] 24)).alloc (.cells #[.int .i64 kc, .string nc, .int .i64 sc, .slice yc lc dc] 24)) := by
    have L1 := Lies_box hIa 24
    have L2 := Lies_box (Is_alloc hIb (.cells #[.int .i64 ka, .string na, .int .i64 sa, .slice ya la da] 24)) 24
    have L3 := Lies_box (Is_alloc (Is_alloc hIc (.cells #[.int .i64 ka, .string na, .int .i64 sa, .slice ya la da] 24)) (.cells #[.int .i64 kb, .string nb, .int .i64 sb, .slice yb lb db] 24)) 24
    rw [World.size_alloc] at L2
    rw [World.size_alloc, World.size_alloc] at L3
    refine ⟨(((Ext.refl _).alloc _).alloc _).alloc _, fun q hq => ?_⟩
    simp only [List.mem_cons, List.not_mem_nil, or_false] at hq
    rcases hq with rfl | rfl | rfl
    · exact Lies_below L1 (((Ext.refl _).alloc _).alloc _)
    · exact Lies_below L2 ((Ext.refl _).alloc _)
    · exact L3
  have HM0 := Lib.hid hM0
  clear hIa hIb hIc hT hM0
  go_enter Tryd.func4, Tryd.ntmps4
  go_upto_region 1 with (fail)
  generalize hwA : ((w.alloc (.cells #[.int .i64 ka, .string na, .int .i64 sa, .slice ya la da] 24)).alloc (.cells #[.int .i64 kb, .string nb, .int .i64 sb, .slice yb lb db] 24)).alloc (.cells #[.int .i64 kc, .string nc, .int .i64 sc, .slice yc lc dc] 24) = wc at HM0 ⊢
  clear hwA
  generalize hpc : w.heap.size + 1 + 1 = pc at HM0 ⊢
  generalize hpb : w.heap.size + 1 = pb at HM0 ⊢
  clear hpc hpb
  have HM := HM0
  clear HM0
  obtain ⟨ka, na, sa, ya, la, da, a0, a1, a2, a3, Ja⟩ := Lies_cells (HM.out.2 (a, w.heap.size) (by simp))
  obtain ⟨kb, nb, sb, yb, lb, db, b0, b1, b2, b3, Jb⟩ := Lies_cells (HM.out.2 (b, pb) (by simp))
  obtain ⟨kc, nc, sc, yc, lc, dc, c0, c1, c2, c3, Jc⟩ := Lies_cells (HM.out.2 (c, pc) (by simp))
  have HF : Hid (∀ W H, Ext wc W → W.heap.size = H → Calls Tryd.prog 7 #[.slice (some ⟨H, 0, none⟩) 3 3] (W.alloc (.cells #[.int .i64 ka, .string na, .int .i64 sa, .slice ya la da, .int .i64 kb, .string nb, .int .i64 sb, .slice yb lb db, .int .i64 kc, .string nc, .int .i64 sc, .slice yc lc dc] 24)) fun e w' => e = .returned (.bool (few [a, b, c] 20 300)) ∧ Below W.heap.size W w') := by
    show ∀ _, _
    intro W H x hH
    have hr := Row_three_z hH (Is_below Ja x) (Is_below Jb x) (Is_below Jc x)
    exact (few08_any [a, b, c] (some ⟨H, 0, none⟩) 3 _ (by simp [maxLen]) hr).mono fun e w' h => ⟨h.1, ((Ext.refl W).alloc _).trans h.2⟩
  have HRW : Hid (∀ W H, Ext wc W → W.heap.size = H → Row (W.alloc (.cells #[.int .i64 ka, .string na, .int .i64 sa, .slice ya la da, .int .i64 kb, .string nb, .int .i64 sb, .slice yb lb db, .int .i64 kc, .string nc, .int .i64 sc, .slice yc lc dc] 24)) [a, b, c] (some ⟨H, 0, none⟩)) := fun W H x hH => Row_three_z hH (Is_below Ja x) (Is_below Jb x) (Is_below Jc x)
  have HBX : Hid (∀ W, Ext wc W → W.cell? ⟨w.heap.size, 0, none⟩ = some (.int .i64 ka) ∧ W.cell? ⟨w.heap.size, 1, none⟩ = some (.string na) ∧ W.cell? ⟨w.heap.size, 2, none⟩ = some (.int .i64 sa) ∧ W.cell? ⟨w.heap.size, 3, none⟩ = some (.slice ya la da) ∧ W.cell? ⟨pb, 0, none⟩ = some (.int .i64 kb) ∧ W.cell? ⟨pb, 1, none⟩ = some (.string nb) ∧ W.cell? ⟨pb, 2, none⟩ = some (.int .i64 sb) ∧ W.cell? ⟨pb, 3, none⟩ = some (.slice yb lb db) ∧ W.cell? ⟨pc, 0, none⟩ = some (.int .i64 kc) ∧ W.cell? ⟨pc, 1, none⟩ = some (.string nc) ∧ W.cell? ⟨pc, 2, none⟩ = some (.int .i64 sc) ∧ W.cell? ⟨pc, 3, none⟩ = some (.slice yc lc dc)) := fun W h => ⟨keep_below h _ _ a0, keep_below h _ _ a1, keep_below h _ _ a2, keep_below h _ _ a3, keep_below h _ _ b0, keep_below h _ _ b1, keep_below h _ _ b2, keep_below h _ _ b3, keep_below h _ _ c0, keep_below h _ _ c1, keep_below h _ _ c2, keep_below h _ _ c3⟩
  clear Ja Jb Jc
  have tok1 : True := trivial
  cases hfw : few [a, b, c] 20 300
  · rw [hfw] at HF
    go_wp2_with (first
      | (go_at_call 6; have _t := tok1; refine (HA.out _ (HT.out.ext HM.out.1)).mono ?_; rintro e w1 ⟨he, hB⟩; subst he; clear a0 a1 a2 a3 b0 b1 b2 b3 c0 c1 c2 c3; have HX1 : Hid (Ext wc w1) := Lib.hid hB; obtain ⟨a0, a1, a2, a3, b0, b1, b2, b3, c0, c1, c2, c3⟩ := HBX.out _ hB; clear hB tok1)
      | (go_at_call 7; refine (HF.out _ _ HX1.out rfl).mono ?_; rintro e w2 ⟨he, hB⟩; subst he; have HX2 := Lib.hid (HM.out.1.trans (HX1.out.trans hB)); clear hB)
      | (go_at_call 6; refine (HA.out _ (HT.out.ext HX2.out)).mono ?_; rintro e w3 ⟨he, hB⟩; subst he; have HX3 := Lib.hid (HX2.out.trans hB); clear hB))
    go_ret
    exact ⟨rfl, HX3.out⟩
  rw [hfw] at HF
  obtain ⟨hss, _⟩ := few_sizesQ hfw
  simp only [sizes] at hss
  clear hfw
  go_upto_region 3 with (first
    | (go_at_call 6; have _t := tok1; refine (HA.out _ (HT.out.ext HM.out.1)).mono ?_; rintro e w1 ⟨he, hB⟩; subst he; clear a0 a1 a2 a3 b0 b1 b2 b3 c0 c1 c2 c3; have HX1 : Hid (Ext wc w1) := Lib.hid hB; obtain ⟨a0, a1, a2, a3, b0, b1, b2, b3, c0, c1, c2, c3⟩ := HBX.out _ hB; clear hB tok1)
    | (go_at_call 7; refine (HF.out _ _ HX1.out rfl).mono ?_; rintro e w2 ⟨he, hB⟩; subst he; clear a0 a1 a2 a3 b0 b1 b2 b3 c0 c1 c2 c3; have hx := HX1.out.trans hB; have HX2 : Hid (Ext wc w2) := Lib.hid hx; obtain ⟨a0, a1, a2, a3, b0, b1, b2, b3, c0, c1, c2, c3⟩ := HBX.out _ hx; clear hB hx))
  clear HF
  go_cut [37, 38, 39] (fun t37 t38 t39 wd => t38 = .int .i64 3 ∧ t39 = .int .i64 0 ∧ ∃ r, t37 = .slice (some ⟨r, 0, none⟩) 3 3 ∧ Row wd [a, b, c] (some ⟨r, 0, none⟩) ∧ SmL w [(a, w.heap.size), (b, pb), (c, pc)] wd)
  case first =>
    go_wp2_with fail
    go_meet
    exact ⟨rfl, rfl, _, rfl, HRW.out _ _ HX2.out rfl, HM.out.ext (HX2.out.alloc _)⟩
  case rest =>
  clear HM HBX HRW HX1 HX2 a0 a1 a2 a3 b0 b1 b2 b3 c0 c1 c2 c3
  obtain ⟨rfl, rfl, r, rfl, hr, hM⟩ := hcut
  have HM := Lib.hid (And.intro hr hM)
  clear hr hM
  go_wp2_with fail
  go_loopw [39] (fun i wr => ∃ j : Nat, j ≤ 3 ∧ i = .int .i64 j ∧ Hid (firstE [a, b, c] = firstE ([a, b, c].drop j)) ∧ Row wr [a, b, c] (some ⟨r, 0, none⟩) ∧ SmL w [(a, w.heap.size), (b, pb), (c, pc)] wr) (fun i _ => 3 - (intOf i).toNat)
  case atStart => exact ⟨0, by omega, rfl, rfl, HM.out.1, HM.out.2⟩
  case round =>
    clear HM
    obtain ⟨j, hj, rfl, HD, hr, hM⟩ := hrel
    by_cases hlt : j < 3
    · obtain ⟨x0, x1, x2, x3, q0, q1, q2, q3, hKI⟩ := Row_get hr j (by simpa using hlt)
      rw [Nat.zero_add] at q0 q1 q2 q3
      obtain ⟨k1, n1, s1, ya1, yl1, yc1, rfl, rfl, rfl, rfl⟩ := Is_form hKI
      have hsj : size ([a, b, c][j]'(by simpa using hlt)) ≤ 300 := by
        have := size_le_sizes (List.getElem_mem (l := [a, b, c]) (n := j) (by simpa using hlt))
        simp only [sizes] at this
        omega
      have HC := Lib.hid (fun W (x : Ext wr W) => rValid_any _ _ _ _ _ W (by omega) (Is_below (w' := W) hKI x))
      have hd := firstE_drop [a, b, c] j (by simpa using hlt)
      have HM := Lib.hid (And.intro hr hM)
      have HBX := Lib.hid ((Ext.refl wr).alloc (.cells #[.int .i64 k1, .string n1, .int .i64 s1, .slice ya1 yl1 yc1] 24))
      have i1 : (0 : Int) ≤ (j : Int) := by omega
      have i2 : (j : Int) < 3 := by omega
      generalize validE ([a, b, c][j]'(by simpa using hlt)) = E at HC hd
      clear hr hM hKI hsj
      by_cases h0 : E = 0
      · have q9 : (E != 0) = false := by simp [h0]
        have HD3 : Hid (firstE [a, b, c] = firstE ([a, b, c].drop (j + 1))) := by show _ = _; rw [HD.out, hd, if_pos h0]
        clear hd h0
        go_wp2_with (go_at_call 11; refine (HC.out _ HBX.out).mono ?_; rintro e w4 ⟨he, hB⟩; subst he; have HB := Lib.hid (HBX.out.trans hB); clear hB)
        go_roundw
        case rel => exact ⟨j + 1, by omega, by go_num, HD3, Row_below HM.out.1 HB.out, HM.out.2.ext HB.out⟩
        case measure => simp [intOf]; omega
      · have q9 : (E != 0) = true := bne_iff_ne.2 h0
        clear hd h0 HD
        go_wp2_with (go_at_call 11; refine (HC.out _ HBX.out).mono ?_; rintro e w4 ⟨he, hB⟩; subst he; have HB := Lib.hid (HBX.out.trans hB); clear hB)
        go_ret
        exact ⟨rfl, HM.out.2.1.trans HB.out⟩
    obtain rfl : j = 3 := by omega
    have hall := firstE_all (l := [a, b, c]) HD.out
    have va : validE a = 0 := hall a (by simp)
    have vb : validE b = 0 := hall b (by simp)
    have vc : validE c = 0 := hall c (by simp)
    have HM := Lib.hid hM
    clear hM hr HD hlt hj hall
    obtain ⟨⟨AB, E1⟩, hAB⟩ : ∃ P, sumP [a, b] = P := ⟨_, rfl⟩
    obtain ⟨⟨BC, E2⟩, hBC⟩ : ∃ P, sumP [b, c] = P := ⟨_, rfl⟩
    have hs1 := sumP_two_size hAB
    have hs2 := sumP_two_size hBC
    simp only at hs1 hs2
    have HAB := Lib.hid hAB
    have HBC := Lib.hid hBC
    have HBA := Lib.hid ((laws_comm va vb).trans hAB)
    have HV := Lib.hid (And.intro va (And.intro vb vc))
    clear hAB hBC va vb vc
    go_upto_region 9 with (fail)
    go_cut [9, 10] (fun tx ty wd => ty = .int .i64 E1 ∧ ∃ p, tx = .pointer (some ⟨p, 0, none⟩) ∧ SmL w [(AB, p), (a, w.heap.size), (b, pb), (c, pc)] wd)
    case first =>
      obtain ⟨ke, ne, se, ye, le, de, e0, e1, e2, e3, Je⟩ := Lies_cells (HM.out.2 (a, w.heap.size) (by simp))
      obtain ⟨kf, nf, sf, yf, lf, df, f0, f1, f2, f3, Jf⟩ := Lies_cells (HM.out.2 (b, pb) (by simp))
      have HAD := Lib.hid (Add_any a b _ _ _ _ _ _ _ _ _ (by omega) Je Jf)
      rw [HAB.out] at HAD
      clear Je Jf
      go_wp2_with (go_at_call 12; refine (HAD.out).mono ?_; rintro e w4 ⟨k4, n4, s4, x4, l4, c4, he, hI, hB⟩; subst he; have HI4 := Lib.hid (Lies_box (IsIn_Is _ _ _ _ _ hI) 24); have HX4 := Lib.hid (Ext.alloc (a := wr) hB (.cells #[.int .i64 k4, .string n4, .int .i64 s4, .slice x4 l4 c4] 24)); clear hI hB)
      go_meet
      exact ⟨rfl, _, rfl, HM.out.add HX4.out HI4.out⟩
    case rest =>
    clear HM
    obtain ⟨rfl, p9, rfl, hM⟩ := hcut
    have HM := Lib.hid hM
    clear hM
    go_upto_region 10 with (fail)
    go_cut [11, 12] (fun tx ty wd => ty = .int .i64 E1 ∧ ∃ p, tx = .pointer (some ⟨p, 0, none⟩) ∧ SmL w [(AB, p), (AB, p9), (a, w.heap.size), (b, pb), (c, pc)] wd)
    case first =>
      obtain ⟨ke, ne, se, ye, le, de, e0, e1, e2, e3, Je⟩ := Lies_cells (HM.out.2 (b, pb) (by simp))
      obtain ⟨kf, nf, sf, yf, lf, df, f0, f1, f2, f3, Jf⟩ := Lies_cells (HM.out.2 (a, w.heap.size) (by simp))
      have HAD := Lib.hid (Add_any b a _ _ _ _ _ _ _ _ _ (by omega) Je Jf)
      rw [HBA.out] at HAD
      clear Je Jf
      go_wp2_with (go_at_call 12; refine (HAD.out).mono ?_; rintro e w4 ⟨k4, n4, s4, x4, l4, c4, he, hI, hB⟩; subst he; have HI4 := Lib.hid (Lies_box (IsIn_Is _ _ _ _ _ hI) 24); have HX4 := Lib.hid (Ext.alloc (a := wc) hB (.cells #[.int .i64 k4, .string n4, .int .i64 s4, .slice x4 l4 c4] 24)); clear hI hB)
      go_meet
      exact ⟨rfl, _, rfl, HM.out.add HX4.out HI4.out⟩
    case rest =>
    clear HM
    obtain ⟨rfl, p11, rfl, hM⟩ := hcut
    have HM := Lib.hid hM
    clear hM
    obtain ⟨ke, ne, se, ye, le, de, e0, e1, e2, e3, Je⟩ := Lies_cells (HM.out.2 (AB, p9) (by simp))
    obtain ⟨kf, nf, sf, yf, lf, df, f0, f1, f2, f3, Jf⟩ := Lies_cells (HM.out.2 (AB, p11) (by simp))
    have HC5 := Lib.hid (sameZ_any AB _ _ _ _ _ _ _ _ wc (by omega) Je Jf)
    clear Je Jf
    have hee : (E1 != E1) = false := by simp
    go_upto_region 13 with (go_at_call 13; refine (HC5.out).mono ?_; rintro e w5 ⟨he, hB⟩; subst he; clear e0 e1 e2 e3 f0 f1 f2 f3; have hM := HM.out.ext hB; clear HM; have HM := Lib.hid hM; clear hB hM)
    clear HC5
    go_cut [13, 14] (fun tx ty wd => ty = .int .i64 E2 ∧ ∃ p, tx = .pointer (some ⟨p, 0, none⟩) ∧ SmL w [(BC, p), (AB, p11), (AB, p9), (a, w.heap.size), (b, pb), (c, pc)] wd)
    case first =>
      obtain ⟨ke, ne, se, ye, le, de, e0, e1, e2, e3, Je⟩ := Lies_cells (HM.out.2 (b, pb) (by simp))
      obtain ⟨kf, nf, sf, yf, lf, df, f0, f1, f2, f3, Jf⟩ := Lies_cells (HM.out.2 (c, pc) (by simp))
      have HAD := Lib.hid (Add_any b c _ _ _ _ _ _ _ _ _ (by omega) Je Jf)
      rw [HBC.out] at HAD
      clear Je Jf
      go_wp2_with (go_at_call 12; refine (HAD.out).mono ?_; rintro e w4 ⟨k4, n4, s4, x4, l4, c4, he, hI, hB⟩; subst he; have HI4 := Lib.hid (Lies_box (IsIn_Is _ _ _ _ _ hI) 24); have HX4 := Lib.hid (Ext.alloc (a := w5) hB (.cells #[.int .i64 k4, .string n4, .int .i64 s4, .slice x4 l4 c4] 24)); clear hI hB)
      go_meet
      exact ⟨rfl, _, rfl, HM.out.add HX4.out HI4.out⟩
    case rest =>
    clear HM
    obtain ⟨rfl, p13, rfl, hM⟩ := hcut
    have HM := Lib.hid hM
    clear hM
    go_upto_region 14 with (fail)
    by_cases h1 : E1 = 0
    rotate_left
    · have q1 : (E1 != 0) = true := bne_iff_ne.2 h1
      go_wp2_with fail
      go_ret
      exact ⟨rfl, HM.out.1⟩
    subst h1
    by_cases h2 : E2 = 0
    rotate_left
    · have q2 : (E2 != 0) = true := bne_iff_ne.2 h2
      go_wp2_with fail
      go_ret
      exact ⟨rfl, HM.out.1⟩
    subst h2
    have has := laws_assoc HV.out.1 HV.out.2.2 (by rw [HAB.out]) (by rw [HBC.out])
    have hze := laws_zero (a := a) (b := b) (by rw [HAB.out])
    have hse := laws_self HV.out.1
    rw [HAB.out, HBC.out] at has
    rw [HAB.out] at hze
    simp only at has hze
    obtain ⟨⟨X, E3⟩, hX⟩ : ∃ P, sumP [AB, c] = P := ⟨_, rfl⟩
    have hs3 := sumP_two_size hX
    simp only at hs3
    have HX := Lib.hid hX
    have HY := Lib.hid (has.trans hX)
    have HZE := Lib.hid hze
    have HSE := Lib.hid hse
    clear hX has hze hse HAB HBC HBA hee
    go_upto_region 16 with (fail)
    go_cut [15, 16] (fun tx ty wd => ty = .int .i64 E3 ∧ ∃ p, tx = .pointer (some ⟨p, 0, none⟩) ∧ SmL w [(X, p), (BC, p13), (AB, p11), (AB, p9), (a, w.heap.size), (b, pb), (c, pc)] wd)
    case first =>
      obtain ⟨ke, ne, se, ye, le, de, e0, e1, e2, e3, Je⟩ := Lies_cells (HM.out.2 (AB, p9) (by simp))
      obtain ⟨kf, nf, sf, yf, lf, df, f0, f1, f2, f3, Jf⟩ := Lies_cells (HM.out.2 (c, pc) (by simp))
      have HAD := Lib.hid (Add_any AB c _ _ _ _ _ _ _ _ _ (by omega) Je Jf)
      rw [HX.out] at HAD
      clear Je Jf
      go_wp2_with (go_at_call 12; refine (HAD.out).mono ?_; rintro e w4 ⟨k4, n4, s4, x4, l4, c4, he, hI, hB⟩; subst he; have HI4 := Lib.hid (Lies_box (IsIn_Is _ _ _ _ _ hI) 24); have HX4 := Lib.hid (Ext.alloc (a := wc) hB (.cells #[.int .i64 k4, .string n4, .int .i64 s4, .slice x4 l4 c4] 24)); clear hI hB)
      go_meet
      exact ⟨rfl, _, rfl, HM.out.add HX4.out HI4.out⟩
    case rest =>
    clear HM
    obtain ⟨rfl, p15, rfl, hM⟩ := hcut
    have HM := Lib.hid hM
    clear hM
    go_upto_region 17 with (fail)
    go_cut [17, 18] (fun tx ty wd => ty = .int .i64 E3 ∧ ∃ p, tx = .pointer (some ⟨p, 0, none⟩) ∧ SmL w [(X, p), (X, p15), (BC, p13), (AB, p11), (AB, p9), (a, w.heap.size), (b, pb), (c, pc)] wd)
    case first =>
      obtain ⟨ke, ne, se, ye, le, de, e0, e1, e2, e3, Je⟩ := Lies_cells (HM.out.2 (a, w.heap.size) (by simp))
      obtain ⟨kf, nf, sf, yf, lf, df, f0, f1, f2, f3, Jf⟩ := Lies_cells (HM.out.2 (BC, p13) (by simp))
      have HAD := Lib.hid (Add_any a BC _ _ _ _ _ _ _ _ _ (by omega) Je Jf)
      rw [HY.out] at HAD
      clear Je Jf
      go_wp2_with (go_at_call 12; refine (HAD.out).mono ?_; rintro e w4 ⟨k4, n4, s4, x4, l4, c4, he, hI, hB⟩; subst he; have HI4 := Lib.hid (Lies_box (IsIn_Is _ _ _ _ _ hI) 24); have HX4 := Lib.hid (Ext.alloc (a := wc) hB (.cells #[.int .i64 k4, .string n4, .int .i64 s4, .slice x4 l4 c4] 24)); clear hI hB)
      go_meet
      exact ⟨rfl, _, rfl, HM.out.add HX4.out HI4.out⟩
    case rest =>
    clear HM
    obtain ⟨rfl, p17, rfl, hM⟩ := hcut
    have HM := Lib.hid hM
    clear hM
    go_upto_region 18 with (fail)
    go_cut [19, 20] (fun tx ty wd => ty = .int .i64 0 ∧ ∃ p, tx = .pointer (some ⟨p, 0, none⟩) ∧ SmL w [(zroT, p), (X, p17), (X, p15), (BC, p13), (AB, p11), (AB, p9), (a, w.heap.size), (b, pb), (c, pc)] wd)
    case first =>
      obtain ⟨ke, ne, se, ye, le, de, e0, e1, e2, e3, Je⟩ := Lies_cells (HM.out.2 (a, w.heap.size) (by simp))
      have Jf := Je
      have HAD := Lib.hid (Add_any a a _ _ _ _ _ _ _ _ _ (by omega) Je Jf)
      rw [HSE.out] at HAD
      clear Je Jf
      go_wp2_with (go_at_call 12; refine (HAD.out).mono ?_; rintro e w4 ⟨k4, n4, s4, x4, l4, c4, he, hI, hB⟩; subst he; have HI4 := Lib.hid (Lies_box (IsIn_Is _ _ _ _ _ hI) 24); have HX4 := Lib.hid (Ext.alloc (a := wc) hB (.cells #[.int .i64 k4, .string n4, .int .i64 s4, .slice x4 l4 c4] 24)); clear hI hB)
      go_meet
      exact ⟨rfl, _, rfl, HM.out.add HX4.out HI4.out⟩
    case rest =>
    clear HM
    obtain ⟨rfl, p19, rfl, hM⟩ := hcut
    have HM := Lib.hid hM
    clear hM
    go_upto_region 19 with (fail)
    go_cut [21, 22] (fun tx ty wd => ty = .int .i64 0 ∧ ∃ p, tx = .pointer (some ⟨p, 0, none⟩) ∧ SmL w [(AB, p), (zroT, p19), (X, p17), (X, p15), (BC, p13), (AB, p11), (AB, p9), (a, w.heap.size), (b, pb), (c, pc)] wd)
    case first =>
      obtain ⟨ke, ne, se, ye, le, de, e0, e1, e2, e3, Je⟩ := Lies_cells (HM.out.2 (AB, p9) (by simp))
      have HAD : Hid (∀ W x, Ext wc W → Calls Tryd.prog 12 #[.agg #[.int .i64 ke, .string ne, .int .i64 se, .slice ye le de], .agg #[.int .i64 3, .string ⟨#[122, 101, 114, 111]⟩, .int .i64 0, .slice x 0 0]] W (TePost W (AB, 0))) := by
        show ∀ _, _
        intro W x y
        have h := Add_any AB zroT _ _ _ _ _ _ _ _ W (by have : size zroT = 1 := (by kernel_rfl); omega) (Is_below Je y) (IsIn_Is _ _ _ _ _ (zroT_in (fun _ => True) W x 0))
        rw [HZE.out] at h
        exact h
      have HBX : Hid (∀ W, Ext wc W → W.cell? ⟨p9, 0, none⟩ = some (.int .i64 ke) ∧ W.cell? ⟨p9, 1, none⟩ = some (.string ne) ∧ W.cell? ⟨p9, 2, none⟩ = some (.int .i64 se) ∧ W.cell? ⟨p9, 3, none⟩ = some (.slice ye le de)) := fun W h => ⟨keep_below h _ _ e0, keep_below h _ _ e1, keep_below h _ _ e2, keep_below h _ _ e3⟩
      have HZA : Hid (((wc.alloc (.cells #[.int .i64 0, .string ⟨#[]⟩, .int .i64 0, .slice none 0 0] 24)).drew).heap[wc.heap.size]? = some zBox4) := heap_alloc_new wc (.cells #[.int .i64 0, .string ⟨#[]⟩, .int .i64 0, .slice none 0 0] 24)
      have hE0 : Ext wc wc.drew := (Ext.refl wc).drew
      clear Je
      go_region_held3 (fun W => W.cell? ⟨p9, 0, none⟩ = some (.int .i64 ke) ∧ W.cell? ⟨p9, 1, none⟩ = some (.string ne) ∧ W.cell? ⟨p9, 2, none⟩ = some (.int .i64 se) ∧ W.cell? ⟨p9, 3, none⟩ = some (.slice ye le de))
        (first | exact HBX.out _ (by assumption) | exact HBX.out _ (Ext.alloc (by assumption) _) | (have hp := HPE.out; exact HBX.out _ hp) | go_keep)
        (first
          | (go_at_call 14; refine (azero_any _).mono ?_; rintro e w1 ⟨x1, he, hB⟩; subst he; (first | (have hz1 := Lib.hid (And.intro (show wc.heap.size < w1.heap.size by have := hB.size; simp at this; omega) ((hB.block wc.heap.size (by simp)).trans HZA.out))) | skip); have hE1 : Ext wc w1 := Ext.trans (by first | exact (Ext.refl wc).drew | exact ((Ext.refl wc).alloc _).drew) hB; clear hB)
          | (go_at_call 12; refine (HAD.out _ _ (by first | exact hE1 | exact hE1.alloc _)).mono ?_; rintro e w2 ⟨k5, n5, s5, x5, l5, c5, he, hI5, hB5⟩; subst he; have hE2 : Ext wc w2 := Ext.trans (by first | exact hE1 | exact hE1.alloc _) hB5;
             (first
               | (have hlt := hz1.out.1; have hz := (hB5.block wc.heap.size hlt).trans hz1.out.2; have HPE := Lib.hid (put4_below (g := wc.heap.size) (o := 0) (c0 := (.int .i64 k5)) (c1 := (.string n5)) (c2 := (.int .i64 s5)) (c3 := (.slice x5 l5 c5)) hE2 (by first | omega | exact hE1.size)); have HPL := Lib.hid (lies_put hz hI5 (by first | omega | simp)); obtain ⟨⟨z0, z1, z2, z3⟩, zf0, zf1, zf2, zf3⟩ := box_facts hz; clear hz)
               | (have hz := (hB5.block w1.heap.size (by simp)).trans (heap_alloc_new w1 (.cells #[.int .i64 0, .string ⟨#[]⟩, .int .i64 0, .slice none 0 0] 24)); have HPE := Lib.hid (put4_below (g := w1.heap.size) (o := 0) (c0 := (.int .i64 k5)) (c1 := (.string n5)) (c2 := (.int .i64 s5)) (c3 := (.slice x5 l5 c5)) hE2 (by first | omega | exact hE1.size)); have HPL := Lib.hid (lies_put hz hI5 (by first | omega | simp)); obtain ⟨⟨z0, z1, z2, z3⟩, zf0, zf1, zf2, zf3⟩ := box_facts hz; clear hz)
               | (have HPL := Lib.hid (Lies_box (IsIn_Is _ _ _ _ _ hI5) 24); have HPE := Lib.hid (hE2.alloc (.cells #[.int .i64 k5, .string n5, .int .i64 s5, .slice x5 l5 c5] 24))));
             clear hI5 hB5))
      all_goals go_wp2_with fail
      all_goals go_meet
      all_goals exact ⟨rfl, _, rfl, HM.out.add HPE.out HPL.out⟩
    case rest =>
    clear HM
    obtain ⟨rfl, p21, rfl, hM⟩ := hcut
    have HM := Lib.hid hM
    clear hM
    obtain ⟨ke, ne, se, ye, le, de, e0, e1, e2, e3, Je⟩ := Lies_cells (HM.out.2 (X, p15) (by simp))
    obtain ⟨kf, nf, sf, yf, lf, df, f0, f1, f2, f3, Jf⟩ := Lies_cells (HM.out.2 (X, p17) (by simp))
    obtain ⟨kg, ng, sg, yg, lg, dg, g0, g1, g2, g3, Jg⟩ := Lies_cells (HM.out.2 (zroT, p19) (by simp))
    obtain ⟨kh, nh, sh, yh, lh, dh, h0, h1, h2, h3, Jh⟩ := Lies_cells (HM.out.2 (AB, p21) (by simp))
    obtain ⟨ki, ni, si, yi, li, di, i0, i1, i2, i3, Ji⟩ := Lies_cells (HM.out.2 (AB, p9) (by simp))
    have HS1 := Lib.hid (fun W (y : Ext wc W) => sameZ_any X _ _ _ _ _ _ _ _ W (by omega) (Is_below (w' := W) Je y) (Is_below Jf y))
    have HS2 := Lib.hid (fun W x (y : Ext wc W) => sameZ_any zroT _ _ _ _ _ _ _ _ W (by have : size zroT = 1 := (by kernel_rfl); omega) (Is_below (w' := W) Jg y) (IsIn_Is _ _ _ _ _ (zroT_in (fun _ => True) W x 0)))
    have HS3 := Lib.hid (fun W (y : Ext wc W) => sameZ_any AB _ _ _ _ _ _ _ _ W (by omega) (Is_below (w' := W) Jh y) (Is_below Ji y))
    have HBX : Hid (∀ W, Ext wc W → W.cell? ⟨p15, 0, none⟩ = some (.int .i64 ke) ∧ W.cell? ⟨p15, 1, none⟩ = some (.string ne) ∧ W.cell? ⟨p15, 2, none⟩ = some (.int .i64 se) ∧ W.cell? ⟨p15, 3, none⟩ = some (.slice ye le de) ∧ W.cell? ⟨p17, 0, none⟩ = some (.int .i64 kf) ∧ W.cell? ⟨p17, 1, none⟩ = some (.string nf) ∧ W.cell? ⟨p17, 2, none⟩ = some (.int .i64 sf) ∧ W.cell? ⟨p17, 3, none⟩ = some (.slice yf lf df) ∧ W.cell? ⟨p19, 0, none⟩ = some (.int .i64 kg) ∧ W.cell? ⟨p19, 1, none⟩ = some (.string ng) ∧ W.cell? ⟨p19, 2, none⟩ = some (.int .i64 sg) ∧ W.cell? ⟨p19, 3, none⟩ = some (.slice yg lg dg) ∧ W.cell? ⟨p21, 0, none⟩ = some (.int .i64 kh) ∧ W.cell? ⟨p21, 1, none⟩ = some (.string nh) ∧ W.cell? ⟨p21, 2, none⟩ = some (.int .i64 sh) ∧ W.cell? ⟨p21, 3, none⟩ = some (.slice yh lh dh) ∧ W.cell? ⟨p9, 0, none⟩ = some (.int .i64 ki) ∧ W.cell? ⟨p9, 1, none⟩ = some (.string ni) ∧ W.cell? ⟨p9, 2, none⟩ = some (.int .i64 si) ∧ W.cell? ⟨p9, 3, none⟩ = some (.slice yi li di)) := fun W h => ⟨keep_below h _ _ e0, keep_below h _ _ e1, keep_below h _ _ e2, keep_below h _ _ e3, keep_below h _ _ f0, keep_below h _ _ f1, keep_below h _ _ f2, keep_below h _ _ f3, keep_below h _ _ g0, keep_below h _ _ g1, keep_below h _ _ g2, keep_below h _ _ g3, keep_below h _ _ h0, keep_below h _ _ h1, keep_below h _ _ h2, keep_below h _ _ h3, keep_below h _ _ i0, keep_below h _ _ i1, keep_below h _ _ i2, keep_below h _ _ i3⟩
    clear Je Jf Jg Jh Ji
    have hee : (E3 == E3) = true := by simp
    have hF0 : Ext wc wc.drew := (Ext.refl wc).drew
    have tok1 : True := trivial
    have tok2 : True := trivial
    go_upto_region 20 with (fail)
    go_region_held3 (fun W => W.cell? ⟨p15, 0, none⟩ = some (.int .i64 ke) ∧ W.cell? ⟨p15, 1, none⟩ = some (.string ne) ∧ W.cell? ⟨p15, 2, none⟩ = some (.int .i64 se) ∧ W.cell? ⟨p15, 3, none⟩ = some (.slice ye le de) ∧ W.cell? ⟨p17, 0, none⟩ = some (.int .i64 kf) ∧ W.cell? ⟨p17, 1, none⟩ = some (.string nf) ∧ W.cell? ⟨p17, 2, none⟩ = some (.int .i64 sf) ∧ W.cell? ⟨p17, 3, none⟩ = some (.slice yf lf df) ∧ W.cell? ⟨p19, 0, none⟩ = some (.int .i64 kg) ∧ W.cell? ⟨p19, 1, none⟩ = some (.string ng) ∧ W.cell? ⟨p19, 2, none⟩ = some (.int .i64 sg) ∧ W.cell? ⟨p19, 3, none⟩ = some (.slice yg lg dg) ∧ W.cell? ⟨p21, 0, none⟩ = some (.int .i64 kh) ∧ W.cell? ⟨p21, 1, none⟩ = some (.string nh) ∧ W.cell? ⟨p21, 2, none⟩ = some (.int .i64 sh) ∧ W.cell? ⟨p21, 3, none⟩ = some (.slice yh lh dh) ∧ W.cell? ⟨p9, 0, none⟩ = some (.int .i64 ki) ∧ W.cell? ⟨p9, 1, none⟩ = some (.string ni) ∧ W.cell? ⟨p9, 2, none⟩ = some (.int .i64 si) ∧ W.cell? ⟨p9, 3, none⟩ = some (.slice yi li di))
      (first | exact HBX.out _ (by assumption) | go_keep)
      (first
        | (go_at_call 13; have _t := tok1; refine (HS1.out _ hF0).mono ?_; rintro e w1 ⟨he, hB⟩; subst he; have hF1 : Ext wc w1 := hF0.trans hB; clear hB tok1)
        | (go_at_call 14; refine (azero_any _).mono ?_; rintro e w2 ⟨x2, he, hB⟩; subst he; have hF2 : Ext wc w2 := hF1.trans hB; clear hB)
        | (go_at_call 13; have _t := tok2; refine (HS2.out _ _ hF2).mono ?_; rintro e w3 ⟨he, hB⟩; subst he; have hF3 : Ext wc w3 := hF2.trans hB; clear hB tok2)
        | (go_at_call 13; refine (HS3.out _ hF3).mono ?_; rintro e w4 ⟨he, hB⟩; subst he; have hF4 : Ext wc w4 := hF3.trans hB; clear hB))
    all_goals go_wp2_with fail
    all_goals go_ret
    all_goals exact ⟨by simp, HM.out.1.trans hF4⟩
end Go.Proofs.YtakeopjpmfgngaaDoor
