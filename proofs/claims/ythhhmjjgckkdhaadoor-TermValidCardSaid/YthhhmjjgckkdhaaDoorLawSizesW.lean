/-
  THE WALKS OF the law TermSizes, the chapter's examples by hypothesis.
-/
import Derived.Test.YthhhmjjgckkdhaaDoorExt
import Derived.Test.YthhhmjjgckkdhaaDoorRefb
import Derived.Test.YthhhmjjgckkdhaaDoorDepth
import Derived.Deep.RegionHeld3
namespace Go.Proofs.YthhhmjjgckkdhaaDoor
open Go.RowKit

/-- What every law's first test gives. -/
def AwakeOk : Prop := ∀ w : World, Laid w → Calls Tryd.prog 11 #[] w fun e w' => e = .returned (.bool true) ∧ Below w.heap.size w w'

set_option maxHeartbeats 1000000 in
set_option maxRecDepth 100000 in
theorem sizes_small (HA : Hid AwakeOk) (t : Tm) (c0 c1 c2 c3 : Value) (w : World) (hL : Laid w) (hI : Is w t c0 c1 c2 c3) (h1 : few [t] 1 450 = true) :
    Calls Tryd.prog 5 #[.agg #[c0, c1, c2, c3]] w fun e w' => e = .returned (.bool true) ∧ Below w.heap.size w w' := by
  have hsz := one_size h1
  have H1 := Lib.hid h1
  have HL := Lib.hid hL
  have HI := Lib.hid hI
  clear h1 hL hI
  go_enter Tryd.func5, Tryd.ntmps5
  go_wp2_with (first
    | (go_at_call 11; refine (HA.out _ ?_).mono ?_; (exact Laid_ext HL.out ((Ext.refl _).alloc _)); rintro e w1 ⟨he, hB1⟩; subst he; have HB1 : Hid (Ext w w1) := ((Ext.refl w).alloc _).trans hB1; obtain ⟨b0, b1, b2, b3⟩ := box_kept (hB1.mono (by simp)); clear hB1)
    | (go_at_call 12; refine (one_any t _ _ _ _ _ (Is_carry (keep_below HB1.out) _ _ _ _ _ HI.out)).mono ?_; rintro e w2 ⟨he, hB2⟩; rw [H1.out] at he; subst he; have HB2 : Hid (Ext w w2) := HB1.out.trans hB2; have d0 := keep_below hB2 _ _ b0; have d1 := keep_below hB2 _ _ b1; have d2 := keep_below hB2 _ _ b2; have d3 := keep_below hB2 _ _ b3; clear hB2 b0 b1 b2 b3))
  have hE0 : Ext w w2.drew := HB2.out.drew
  have HK := Lib.hid (fun (W : World) (h : Ext w2 W) => And.intro (keep_below h _ _ d0) (And.intro (keep_below h _ _ d1) (And.intro (keep_below h _ _ d2) (keep_below h _ _ d3))))
  have hF0 : Ext w2 w2.drew := (Ext.refl w2).drew
  go_region_held3 (fun W => W.cell? ⟨w.heap.size, 0, none⟩ = some c0 ∧ W.cell? ⟨w.heap.size, 1, none⟩ = some c1 ∧ W.cell? ⟨w.heap.size, 2, none⟩ = some c2 ∧ W.cell? ⟨w.heap.size, 3, none⟩ = some c3)
    (first | exact HK.out _ (by assumption) | go_keep)
    (first
      | (go_at_call 20; refine (Size_any t _ _ _ _ _ (by omega) (Is_below HI.out hE0)).mono ?_; rintro e w3 ⟨he, hB⟩; subst he; have hE1 : Ext w w3 := hE0.trans hB; have hF1 : Ext w2 w3 := hF0.trans hB; clear hB)
      | (go_at_call 21; refine (rsize_any _ t _ _ _ _ _ (Nat.le_refl _) (by omega) (Is_below HI.out hE1)).mono ?_; rintro e w4 ⟨he, hB⟩; subst he; have hE2 : Ext w w4 := hE1.trans hB; have hF2 : Ext w2 w4 := hF1.trans hB; clear hB)
      | (go_at_call 22; refine (Depth_any t _ _ _ _ _ (by omega) (Is_below HI.out hE2)).mono ?_; rintro e w5 ⟨he, hB⟩; subst he; have hE3 : Ext w w5 := hE2.trans hB; have hF3 : Ext w2 w5 := hF2.trans hB; clear hB)
      | (go_at_call 23; refine (rdepth_any _ t _ _ _ _ _ (Nat.le_refl _) (by omega) (Is_below HI.out hE3)).mono ?_; rintro e w6 ⟨he, hB⟩; subst he; have hE4 : Ext w w6 := hE3.trans hB; have hF4 : Ext w2 w6 := hF3.trans hB; clear hB))
  go_wp2_with fail
  go_ret
  exact ⟨rfl, hE4⟩

set_option maxHeartbeats 1000000 in
set_option maxRecDepth 100000 in
theorem sizes_large (HA : Hid AwakeOk) (t : Tm) (c0 c1 c2 c3 : Value) (w : World) (hL : Laid w) (hI : Is w t c0 c1 c2 c3) (h1 : few [t] 1 450 = false) :
    Calls Tryd.prog 5 #[.agg #[c0, c1, c2, c3]] w fun e w' => e = .returned (.bool true) ∧ Below w.heap.size w w' := by
  have H1 := Lib.hid h1
  have HL := Lib.hid hL
  have HI := Lib.hid hI
  clear h1 hL hI
  go_enter Tryd.func5, Tryd.ntmps5
  go_wp2_with (first
    | (go_at_call 11; refine (HA.out _ ?_).mono ?_; (first | exact Laid_ext HL.out ((Ext.refl _).alloc _) | exact Laid_ext HL.out HB2.out); rintro e w1 ⟨he, hB1⟩; subst he; first | (have HB3 : Hid (Ext w w1) := HB2.out.trans hB1) | (have HB1 : Hid (Ext w w1) := ((Ext.refl w).alloc _).trans hB1; obtain ⟨b0, b1, b2, b3⟩ := box_kept (hB1.mono (by simp)); clear hB1))
    | (go_at_call 12; refine (one_any t _ _ _ _ _ (Is_carry (keep_below HB1.out) _ _ _ _ _ HI.out)).mono ?_; rintro e w2 ⟨he, hB2⟩; rw [H1.out] at he; subst he; have HB2 : Hid (Ext w w2) := HB1.out.trans hB2; clear hB2 b0 b1 b2 b3))
  go_ret
  exact ⟨rfl, HB3.out⟩

theorem sizes_any (HA : AwakeOk) (t : Tm) (c0 c1 c2 c3 : Value) (w : World) (hL : Laid w) (hI : Is w t c0 c1 c2 c3) :
    Calls Tryd.prog 5 #[.agg #[c0, c1, c2, c3]] w fun e w' => e = .returned (.bool true) ∧ Below w.heap.size w w' := by
  cases h : few [t] 1 450 with
  | true => exact sizes_small (Lib.hid HA) t c0 c1 c2 c3 w hL hI h
  | false => exact sizes_large (Lib.hid HA) t c0 c1 c2 c3 w hL hI h

end Go.Proofs.YthhhmjjgckkdhaaDoor
