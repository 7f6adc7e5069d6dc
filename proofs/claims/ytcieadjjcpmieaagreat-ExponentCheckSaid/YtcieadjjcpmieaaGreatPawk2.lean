/-
  THE SECOND HALF OF the walk of layer 6's examples.
-/
import Derived.Test.YtcieadjjcpmieaaGreatPawk
import Derived.Deep.RegionHeld3
import Derived.Deep.DeepCutAuto
namespace Go.Proofs.YtcieadjjcpmieaaGreat
open Go.RowKit

set_option maxHeartbeats 25600000 in
set_option maxRecDepth 100000 in
theorem awakeRest : awakeCut.1 := by
  show _
  unfold awakeCut
  intro w Q pa pb x5 c5 x7 c7 p9 K1 a1 K2 a2 wc u20 u21 u22 u23 u24 u25 u26 u27 u28 u29 u30 u31 u32 u33 u34 u35 u36 u37 u38 u39 u40 u41 u42 u43 u44 u45 u46 u47 u48 u49 u50 u51 u52 u53 u54 u55 u56 u57 u58 u59 u60 u61 u62 u63 u64 u65 u66 u67 u68 u69 u70 u71 u72 u73 u74 u75 u76 u77 u78 u79 u80 u81 u82 u83 u84 u85 u86 u87 u88 u89 u90 u91 u93 u94 u95 u96 u97 u98 u99 u100 u101 u102 u103 u104 u105 u106 u107 u108 u109 u110 u111 u112 u113 u114 u115 u116 u117 u118 u119 u120 u121 u122 u123 u124 u125 u126 u127 u128 u129 u130 u131 u132 u133 u134 u135 u136 u137 u138 u139 u140 u141 u142 u143 u144 u145 u146 u147 u148 u149 u150 u151 u152 u153 u154 u155 u156 u157 u158 u159 u160 u161 hA
  have HA := Lib.hid hA
  clear hA
  go_upto_region 8 with (fail)
  go_cut [11] (fun t11 wd => ∃ b, t11 = .slice (some ⟨b, 0, none⟩) 2 2 ∧ AwG w b wd)
  case first =>
    go_wp2_with (first
      | (go_at_call 39; refine (made_21 _ _ (by first | rfl | simp)).mono ?_; rintro e w1 ⟨x1, c1, he, hl, hR, hB⟩; subst he; have H1 := Lib.hid (And.intro hl (And.intro hR hB)); clear hl hR hB)
      | (go_at_call 39; refine (made_03 _ _ (by first | rfl | simp)).mono ?_; rintro e w2 ⟨x2, c2, he, hl, hR, hB⟩; subst he; have H2 := Lib.hid (And.intro hl (And.intro hR hB)); clear hl hR hB))
    go_meet
    have hx2 : Ext wc w2 := (((Ext.refl wc).alloc _).trans H1.out.2.2).alloc _ |>.trans H2.out.2.2
    exact ⟨w2.heap.size, rfl, PsRow_two rfl rfl rfl H1.out.1 H2.out.1 (PRow_below H1.out.2.1 (((Ext.refl w1).alloc _).trans H2.out.2.2)) H2.out.2.1 _, (HA.out.trans hx2).alloc _⟩
  case rest =>
  clear HA
  obtain ⟨b, rfl, hA⟩ := hcut
  have HA := Lib.hid hA
  clear hA
  go_upto_region 9 with (fail)
  go_cut [12, 13] (fun t12 t13 wd => ∃ xv cv, t12 = .slice xv 2 cv ∧ t13 = .int .i64 0 ∧ IntsV wd (.slice xv 2 cv) [1, 1] ∧ AwG w b wd)
  case first =>
    go_wp2_with (first
      | (go_at_call 39; refine (made_24 _ _ (by first | rfl | simp)).mono ?_; rintro e w1 ⟨x1, c1, he, hl, hR, hB⟩; subst he; have H1 := Lib.hid (And.intro hl (And.intro hR hB)); clear hl hR hB)
      | (go_at_call 26; refine (exMem1 b _ _ _ H1.out.1 (PsRow_below HA.out.1 (((Ext.refl wc).alloc _).trans H1.out.2.2)) H1.out.2.1).mono ?_; rintro e w2 ⟨xv, cv, he, hv, hB⟩; subst he; have H2 := Lib.hid (And.intro hv hB); clear hv hB))
    go_meet
    exact ⟨xv, cv, rfl, rfl, H2.out.1, HA.out.ext ((((Ext.refl wc).alloc _).trans H1.out.2.2).trans H2.out.2)⟩
  case rest =>
  clear HA
  obtain ⟨xv, cv, rfl, rfl, hV, hA⟩ := hcut
  have HA := Lib.hid hA
  have HV := Lib.hid hV
  clear hA hV
  go_upto_region 10 with (fail)
  go_cut [15] (fun t15 wd => t15 = .int .i64 4 ∧ IntsV wd (.slice xv 2 cv) [1, 1] ∧ AwG w b wd)
  case first =>
    go_wp2_with (first
      | (go_at_call 39; refine (made_2 _ _ (by first | rfl | simp)).mono ?_; rintro e w1 ⟨x1, c1, he, hl, hR, hB⟩; subst he; have H1 := Lib.hid (And.intro hl (And.intro hR hB)); clear hl hR hB)
      | (go_at_call 26; refine (exMem2 (m := p2) (n := 1) rfl (by simp [p2]) (by omega) (by kernel_rfl) (by decide) redX2 b _ _ _ H1.out.1 (PsRow_below HA.out.1 (((Ext.refl wc).alloc _).trans H1.out.2.2)) H1.out.2.1).mono ?_; rintro e w2 ⟨he, hB⟩; subst he; have H2 := Lib.hid hB; clear hB))
    go_meet
    exact ⟨rfl, IntsV_below HV.out ((((Ext.refl wc).alloc _).trans H1.out.2.2).trans H2.out), HA.out.ext ((((Ext.refl wc).alloc _).trans H1.out.2.2).trans H2.out)⟩
  case rest =>
  clear HA HV
  obtain ⟨rfl, hV, hA⟩ := hcut
  have HA := Lib.hid hA
  have HV := Lib.hid hV
  clear hA hV
  go_upto_region 11 with (fail)
  go_cut [17] (fun t17 wd => t17 = .int .i64 4 ∧ IntsV wd (.slice xv 2 cv) [1, 1] ∧ AwG w b wd)
  case first =>
    go_wp2_with (first
      | (go_at_call 39; refine (made_1 _ _ (by first | rfl | simp)).mono ?_; rintro e w1 ⟨x1, c1, he, hl, hR, hB⟩; subst he; have H1 := Lib.hid (And.intro hl (And.intro hR hB)); clear hl hR hB)
      | (go_at_call 26; refine (exMem2 (m := p1) (n := 1) rfl (by simp [p1]) (by omega) (by kernel_rfl) (by decide) redX3 b _ _ _ H1.out.1 (PsRow_below HA.out.1 (((Ext.refl wc).alloc _).trans H1.out.2.2)) H1.out.2.1).mono ?_; rintro e w2 ⟨he, hB⟩; subst he; have H2 := Lib.hid hB; clear hB))
    go_meet
    exact ⟨rfl, IntsV_below HV.out ((((Ext.refl wc).alloc _).trans H1.out.2.2).trans H2.out), HA.out.ext ((((Ext.refl wc).alloc _).trans H1.out.2.2).trans H2.out)⟩
  case rest =>
  clear HA HV
  obtain ⟨rfl, hV, hA⟩ := hcut
  have HA := Lib.hid hA
  have HV := Lib.hid hV
  clear hA hV
  go_upto_region 12 with (fail)
  go_cut [18] (fun t18 wd => ∃ p x c, t18 = .pointer (some ⟨p, 0, none⟩) ∧ ChAt wd p 3 2 p11 x c ∧ IntsV wd (.slice xv 2 cv) [1, 1] ∧ AwG w b wd)
  case first =>
    go_wp2_with (first
      | (go_at_call 39; refine (made_11 _ _ (by first | rfl | simp)).mono ?_; rintro e w1 ⟨x1, c1, he, hl, hR, hB⟩; subst he; have H1 := Lib.hid (And.intro hl (And.intro hR hB)); clear hl hR hB))
    go_meet
    have hx1 : Ext wc w1 := ((Ext.refl wc).alloc _).trans H1.out.2.2
    exact ⟨w1.heap.size, x1, c1, rfl, ChAt.new H1.out.1 H1.out.2.1 _, IntsV_below HV.out (hx1.alloc _), HA.out.ext (hx1.alloc _)⟩
  case rest =>
  clear HA HV
  obtain ⟨p18, x18, c18, rfl, hC, hV, hA⟩ := hcut
  have HA := Lib.hid hA
  have HV := Lib.hid hV
  have HC := Lib.hid hC
  clear hA hV hC
  go_upto_region 13 with (fail)
  go_cut [19] (fun t19 wd => ∃ p x c, t19 = .pointer (some ⟨p, 0, none⟩) ∧ ChAt wd p 2 1 p1 x c ∧ ChAt wd p18 3 2 p11 x18 c18 ∧ IntsV wd (.slice xv 2 cv) [1, 1] ∧ AwG w b wd)
  case first =>
    go_wp2_with (first
      | (go_at_call 39; refine (made_1 _ _ (by first | rfl | simp)).mono ?_; rintro e w1 ⟨x1, c1, he, hl, hR, hB⟩; subst he; have H1 := Lib.hid (And.intro hl (And.intro hR hB)); clear hl hR hB))
    go_meet
    have hx1 : Ext wc w1 := ((Ext.refl wc).alloc _).trans H1.out.2.2
    exact ⟨w1.heap.size, x1, c1, rfl, ChAt.new H1.out.1 H1.out.2.1 _, HC.out.ext (hx1.alloc _), IntsV_below HV.out (hx1.alloc _), HA.out.ext (hx1.alloc _)⟩
  case rest =>
  clear HA HV HC
  obtain ⟨p19, x19, c19, rfl, hD, hC, hV, hA⟩ := hcut
  have HA := Lib.hid hA
  have HV := Lib.hid hV
  have HC := Lib.hid hC
  have HD := Lib.hid hD
  clear hA hV hC hD
  go_upto_region 14 with (fail)
  have HS : Hid (∀ W, Ext wc W → W.cell? ⟨p18, 0, none⟩ = some (.int .i64 3) ∧ W.cell? ⟨p18, 1, none⟩ = some (.slice x18 2 c18) ∧ W.cell? ⟨p19, 0, none⟩ = some (.int .i64 2) ∧ W.cell? ⟨p19, 1, none⟩ = some (.slice x19 1 c19)) := fun W h => ⟨(HC.out.ext h).1.1, (HC.out.ext h).1.2, (HD.out.ext h).1.1, (HD.out.ext h).1.2⟩
  obtain ⟨u0, u1, u2, u3⟩ := HS.out wc (Ext.refl _)
  have hE0 : Ext wc wc.drew := (Ext.refl wc).drew
  have tok1 : True := trivial
  have tok2 : True := trivial
  have tok3 : True := trivial
  have tok4 : True := trivial
  go_region_held3 (fun W => W.cell? ⟨p18, 0, none⟩ = some (.int .i64 3) ∧ W.cell? ⟨p18, 1, none⟩ = some (.slice x18 2 c18) ∧ W.cell? ⟨p19, 0, none⟩ = some (.int .i64 2) ∧ W.cell? ⟨p19, 1, none⟩ = some (.slice x19 1 c19))
    (first | exact HS.out _ (by assumption) | exact HS.out _ (Ext.alloc (by assumption) _) | exact HS.out _ (((Ext.refl wc).alloc _).drew) | go_keep)
    (first
      | (go_at_call 40; refine (exEqual _ _ _ (IntsV_below HV.out (by first | exact hE0.alloc _ | exact ((Ext.refl wc).alloc _).drew)) (by first | exact ints_two (by first | rfl | simp) 1 1 (by omega) (by omega) | exact IntsV_below (ints_two (by first | rfl | simp) 1 1 (by omega) (by omega)) ((Ext.refl _).drew))).mono ?_; rintro e w1 ⟨he, hB⟩; subst he; have hE1 : Ext wc w1 := Ext.trans (by first | exact hE0.alloc _ | exact ((Ext.refl wc).alloc _).drew) hB; clear hB)
      | (go_at_call 39; have _t := tok1; refine (made_2 _ _ (by first | rfl | simp)).mono ?_; rintro e w2 ⟨x2, c2, he, hl, hR, hB⟩; subst he; have hE2 : Ext wc w2 := (hE1.alloc _).trans hB; have HR2 := Lib.hid hR; clear hB hR hl tok1)
      | (go_at_call 33; have _t := tok2; refine (exCref1 b _ _ _ _ _ HC.out.2.1 (PsRow_below HA.out.1 hE2) HR2.out (PRow_below HC.out.2.2 hE2)).mono ?_; rintro e w3 ⟨he, hB⟩; subst he; have hE3 : Ext wc w3 := hE2.trans hB; clear hB tok2)
      | (go_at_call 39; have _t := tok3; refine (made_1 _ _ (by first | rfl | simp)).mono ?_; rintro e w4 ⟨x4, c4, he, hl, hR, hB⟩; subst he; have hE4 : Ext wc w4 := (hE3.alloc _).trans hB; have HR4 := Lib.hid hR; clear hB hR hl tok3)
      | (go_at_call 33; have _t := tok4; refine (exCref2 b _ _ _ _ _ HD.out.2.1 (PsRow_below HA.out.1 hE4) HR4.out (PRow_below HD.out.2.2 hE4)).mono ?_; rintro e w5 ⟨he, hB⟩; subst he; have hE5 : Ext wc w5 := hE4.trans hB; clear hB tok4)
      | (go_at_call 39; refine (made_2 _ _ (by first | rfl | simp)).mono ?_; rintro e w6 ⟨x6, c6, he, hl, hR, hB⟩; subst he; have hE6 : Ext wc w6 := (hE5.alloc _).trans hB; have HR6 := Lib.hid hR; clear hB hR hl)
      | (go_at_call 33; refine (exCref3 b _ _ _ _ _ HD.out.2.1 (PsRow_below HA.out.1 hE6) HR6.out (PRow_below HD.out.2.2 hE6)).mono ?_; rintro e w7 ⟨he, hB⟩; subst he; have hE7 : Ext wc w7 := hE6.trans hB; clear hB))
  all_goals (go_wp2_with fail)
  all_goals go_ret
  all_goals exact ⟨rfl, HA.out.2.trans hE7⟩
theorem awake6_any (w : World) : Calls Tryz.prog 10 #[] w fun e w' => e = .returned (.bool true) ∧ Below w.heap.size w w' := awakeCut.2 awakeRest w
end Go.Proofs.YtcieadjjcpmieaaGreat
