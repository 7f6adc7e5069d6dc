/-
  THE WALKS OF the law TermValid, the chapter's examples by hypothesis.
-/
import Derived.Test.YthhhmjjgckkdhaaDoorTformat
import Derived.Test.YthhhmjjgckkdhaaDoorLawSizesW
namespace Go.Proofs.YthhhmjjgckkdhaaDoor
open Go.RowKit

theorem textT_le (t : Tm) (h : size t ≤ 450) (hv : nodesE t = 0) : (textT t).size ≤ 4611686018427387904 := by
  have := text_bound t hv
  omega

set_option maxHeartbeats 1000000 in
set_option maxRecDepth 100000 in
theorem valid_large (HA : Hid AwakeOk) (t : Tm) (c0 c1 c2 c3 : Value) (w : World) (hL : Laid w) (hI : Is w t c0 c1 c2 c3) (h1 : few [t] 1 450 = false) :
    Calls Tryd.prog 3 #[.agg #[c0, c1, c2, c3]] w fun e w' => e = .returned (.bool true) ∧ Below w.heap.size w w' := by
  have H1 := Lib.hid h1
  have HL := Lib.hid hL
  have HI := Lib.hid hI
  clear h1 hL hI
  go_enter Tryd.func3, Tryd.ntmps3
  go_wp2_with (first
    | (go_at_call 11; refine (HA.out _ ?_).mono ?_; (first | exact Laid_ext HL.out ((Ext.refl _).alloc _) | exact Laid_ext HL.out HB2.out); rintro e w1 ⟨he, hB1⟩; subst he; first | (have HB3 : Hid (Ext w w1) := HB2.out.trans hB1) | (have HB1 : Hid (Ext w w1) := ((Ext.refl w).alloc _).trans hB1; obtain ⟨b0, b1, b2, b3⟩ := box_kept (hB1.mono (by simp)); clear hB1))
    | (go_at_call 12; refine (one_any t _ _ _ _ _ (Is_carry (keep_below HB1.out) _ _ _ _ _ HI.out)).mono ?_; rintro e w2 ⟨he, hB2⟩; rw [H1.out] at he; subst he; have HB2 : Hid (Ext w w2) := HB1.out.trans hB2; clear hB2 b0 b1 b2 b3))
  go_ret
  exact ⟨rfl, HB3.out⟩

set_option maxHeartbeats 1600000 in
set_option maxRecDepth 100000 in
theorem valid_bad (HA : Hid AwakeOk) (t : Tm) (c0 c1 c2 c3 : Value) (w : World) (hL : Laid w) (hI : Is w t c0 c1 c2 c3) (h1 : few [t] 1 450 = true) (hv : ¬ validE t = 0) :
    Calls Tryd.prog 3 #[.agg #[c0, c1, c2, c3]] w fun e w' => e = .returned (.bool true) ∧ Below w.heap.size w w' := by
  have hsz := one_size h1
  have H1 := Lib.hid h1
  have HL := Lib.hid hL
  have HI := Lib.hid hI
  have hfp : formP t = (⟨#[]⟩, validE t) := by unfold formP; rw [if_neg hv]
  have HT := Lib.hid (fun W x => tFormat_any t c0 c1 c2 c3 W (by omega) x)
  have HR := Lib.hid (fun W x => rFormat_any t c0 c1 c2 c3 W (by omega) (fun h => absurd h hv) x)
  have HVt := Lib.hid (fun W x => tValid_any t c0 c1 c2 c3 W (by omega) x)
  have HVr := Lib.hid (fun W x => rValid_any t c0 c1 c2 c3 W (by omega) x)
  rw [hfp] at HT HR
  generalize validE t = x at hv HT HR HVt HVr
  have hx : (x == 0) = false := by simp [hv]
  have hx2 : (x != 0) = true := by simp [hv]
  clear h1 hL hI hfp hv
  go_enter Tryd.func3, Tryd.ntmps3
  go_wp2_with (first
    | (go_at_call 11; refine (HA.out _ ?_).mono ?_; (exact Laid_ext HL.out ((Ext.refl _).alloc _)); rintro e w1 ⟨he, hB1⟩; subst he; have HB1 : Hid (Ext w w1) := ((Ext.refl w).alloc _).trans hB1; obtain ⟨b0, b1, b2, b3⟩ := box_kept (hB1.mono (by simp)); clear hB1)
    | (go_at_call 12; refine (one_any t _ _ _ _ _ (Is_carry (keep_below HB1.out) _ _ _ _ _ HI.out)).mono ?_; rintro e w2 ⟨he, hB2⟩; rw [H1.out] at he; subst he; have HB2 : Hid (Ext w w2) := HB1.out.trans hB2; have d0 := keep_below hB2 _ _ b0; have d1 := keep_below hB2 _ _ b1; have d2 := keep_below hB2 _ _ b2; have d3 := keep_below hB2 _ _ b3; clear hB2 b0 b1 b2 b3)
    | (go_at_call 13; refine (HT.out _ (Is_below HI.out HB2.out) (Laid_ext HL.out HB2.out)).mono ?_; rintro e w3 ⟨he, hB⟩; subst he; have HB3 : Hid (Ext w w3) := HB2.out.trans hB; have e0 := keep_below hB _ _ d0; have e1 := keep_below hB _ _ d1; have e2 := keep_below hB _ _ d2; have e3 := keep_below hB _ _ d3; clear hB d0 d1 d2 d3)
    | (go_at_call 14; refine (HR.out _ (Is_below HI.out HB3.out)).mono ?_; rintro e w4 ⟨he, hB⟩; subst he; have HB4 : Hid (Ext w w4) := HB3.out.trans hB; have k0 := keep_below hB _ _ e0; have k1 := keep_below hB _ _ e1; have k2 := keep_below hB _ _ e2; have k3 := keep_below hB _ _ e3; clear hB e0 e1 e2 e3))
  have HK := Lib.hid (fun (W : World) (h : Ext w4 W) => And.intro (keep_below h _ _ k0) (And.intro (keep_below h _ _ k1) (And.intro (keep_below h _ _ k2) (keep_below h _ _ k3))))
  have hE0 : Ext w w4.drew := HB4.out.drew
  have hF0 : Ext w4 w4.drew := (Ext.refl w4).drew
  go_region_held3 (fun W => W.cell? ⟨w.heap.size, 0, none⟩ = some c0 ∧ W.cell? ⟨w.heap.size, 1, none⟩ = some c1 ∧ W.cell? ⟨w.heap.size, 2, none⟩ = some c2 ∧ W.cell? ⟨w.heap.size, 3, none⟩ = some c3)
    (first | exact HK.out _ (by assumption) | go_keep)
    (first
      | (go_at_call 15; refine (HVt.out _ (Is_below HI.out hE0)).mono ?_; rintro e w5 ⟨he, hB⟩; subst he; have hE1 : Ext w w5 := hE0.trans hB; have hF1 : Ext w4 w5 := hF0.trans hB; clear hB)
      | (go_at_call 16; refine (HVr.out _ (Is_below HI.out hE1)).mono ?_; rintro e w6 ⟨he, hB⟩; subst he; have hE2 : Ext w w6 := hE1.trans hB; have hF2 : Ext w4 w6 := hF1.trans hB; clear hB))
  go_wp2_with fail
  have hG0 : Ext w w6.drew := Ext.drew hE2
  have hH0 : Ext w4 w6.drew := Ext.drew hF2
  obtain ⟨k0, k1, k2, k3⟩ := HK.out w6 hF2
  go_region_held3 (fun W => W.cell? ⟨w.heap.size, 0, none⟩ = some c0 ∧ W.cell? ⟨w.heap.size, 1, none⟩ = some c1 ∧ W.cell? ⟨w.heap.size, 2, none⟩ = some c2 ∧ W.cell? ⟨w.heap.size, 3, none⟩ = some c3)
    (first | exact HK.out _ (by assumption) | go_keep)
    (first
      | (go_at_call 15; refine (HVt.out _ (Is_below HI.out hG0)).mono ?_; rintro e w7 ⟨he, hB⟩; subst he; have hG1 : Ext w w7 := hG0.trans hB; have hH1 : Ext w4 w7 := hH0.trans hB; clear hB)
      | (go_at_call 16; refine (HVr.out _ (Is_below HI.out hG1)).mono ?_; rintro e w8 ⟨he, hB⟩; subst he; have hG2 : Ext w w8 := hG1.trans hB; have hH2 : Ext w4 w8 := hH1.trans hB; clear hB))
  go_wp2_with fail
  go_ret
  exact ⟨rfl, hG2⟩
end Go.Proofs.YthhhmjjgckkdhaaDoor
