/-
  THE WALKS OF the law TermPositions beyond its guard, and the law whole.
-/
import Derived.Test.YthhhmjjgckkdhaaDoorLawPosW
namespace Go.Proofs.YthhhmjjgckkdhaaDoor
open Go.RowKit

set_option maxHeartbeats 1600000 in
set_option maxRecDepth 100000 in
theorem positions_large (HA : Hid AwakeOk) (t : Tm) (c0 c1 c2 c3 : Value) (w : World) (hL : Laid w) (hI : Is w t c0 c1 c2 c3) (h1 : few [t] 1 450 = false) :
    Calls Tryd.prog 8 #[.agg #[c0, c1, c2, c3]] w fun e w' => e = .returned (.bool true) ∧ Below w.heap.size w w' := by
  have H1 := Lib.hid h1
  have HL := Lib.hid hL
  have HX : Hid (Ext w (w.alloc (.cells #[c0, c1, c2, c3] 24))) := (Ext.refl w).alloc _
  have HX0 : Hid (Ext (w.alloc (.cells #[c0, c1, c2, c3] 24)) (w.alloc (.cells #[c0, c1, c2, c3] 24))) := Ext.refl _
  have HIX : Hid (∀ W, Ext (w.alloc (.cells #[c0, c1, c2, c3] 24)) W → Is W t c0 c1 c2 c3) := fun W h => Is_below (Is_alloc hI _) h
  have HC : Hid (∀ W, Ext (w.alloc (.cells #[c0, c1, c2, c3] 24)) W → W.cell? ⟨w.heap.size, 0, none⟩ = some c0 ∧ W.cell? ⟨w.heap.size, 1, none⟩ = some c1 ∧ W.cell? ⟨w.heap.size, 2, none⟩ = some c2 ∧ W.cell? ⟨w.heap.size, 3, none⟩ = some c3) := fun W h => box_ext h
  clear h1 hL hI
  go_enter Tryd.func8, Tryd.ntmps8
  go_wp2_with (first
    | (go_at_call 11; (first | (have HQ := Lib.hid (Ext.trans HX.out HB3.out)) | (have HQ := Lib.hid (Ext.trans HX.out HB2.out)) | (have HQ := Lib.hid HX.out)); refine (HA.out _ (Laid_ext HL.out HQ.out)).mono ?_; rintro e w1 ⟨he, hB1⟩; subst he; have HR := Lib.hid (Ext.trans HQ.out hB1); (first | (have HB9 := HB2.out) | (have HB1 := Lib.hid (Ext.trans HX0.out hB1); obtain ⟨b0, b1, b2, b3⟩ := HC.out _ HB1.out)); clear hB1)
    | (go_at_call 12; refine (one_any t _ _ _ _ _ (HIX.out _ HB1.out)).mono ?_; rintro e w2 ⟨he, hB2⟩; rw [H1.out] at he; subst he; have HB2 := Lib.hid (Ext.trans HB1.out hB2); obtain ⟨d0, d1, d2, d3⟩ := HC.out _ HB2.out; clear hB2 b0 b1 b2 b3 HR HQ))
  go_ret
  exact ⟨rfl, HR.out⟩

set_option maxHeartbeats 1600000 in
set_option maxRecDepth 100000 in
theorem positions_deep (HA : Hid AwakeOk) (t : Tm) (c0 c1 c2 c3 : Value) (w : World) (hL : Laid w) (hI : Is w t c0 c1 c2 c3) (h1 : few [t] 1 450 = true) (h2 : (60 : Int) < ((depth t : Nat) : Int)) :
    Calls Tryd.prog 8 #[.agg #[c0, c1, c2, c3]] w fun e w' => e = .returned (.bool true) ∧ Below w.heap.size w w' := by
  have hsz := one_size h1
  have H1 := Lib.hid h1
  have HL := Lib.hid hL
  have HX : Hid (Ext w (w.alloc (.cells #[c0, c1, c2, c3] 24))) := (Ext.refl w).alloc _
  have HX0 : Hid (Ext (w.alloc (.cells #[c0, c1, c2, c3] 24)) (w.alloc (.cells #[c0, c1, c2, c3] 24))) := Ext.refl _
  have HIX : Hid (∀ W, Ext (w.alloc (.cells #[c0, c1, c2, c3] 24)) W → Is W t c0 c1 c2 c3) := fun W h => Is_below (Is_alloc hI _) h
  have HC : Hid (∀ W, Ext (w.alloc (.cells #[c0, c1, c2, c3] 24)) W → W.cell? ⟨w.heap.size, 0, none⟩ = some c0 ∧ W.cell? ⟨w.heap.size, 1, none⟩ = some c1 ∧ W.cell? ⟨w.heap.size, 2, none⟩ = some c2 ∧ W.cell? ⟨w.heap.size, 3, none⟩ = some c3) := fun W h => box_ext h
  clear h1 hL hI
  go_enter Tryd.func8, Tryd.ntmps8
  go_wp2_with (first
    | (go_at_call 11; (first | (have HQ := Lib.hid (Ext.trans HX.out HB3.out)) | (have HQ := Lib.hid (Ext.trans HX.out HB2.out)) | (have HQ := Lib.hid HX.out)); refine (HA.out _ (Laid_ext HL.out HQ.out)).mono ?_; rintro e w1 ⟨he, hB1⟩; subst he; have HR := Lib.hid (Ext.trans HQ.out hB1); (first | (have HB9 := HB2.out) | (have HB1 := Lib.hid (Ext.trans HX0.out hB1); obtain ⟨b0, b1, b2, b3⟩ := HC.out _ HB1.out)); clear hB1)
    | (go_at_call 12; refine (one_any t _ _ _ _ _ (HIX.out _ HB1.out)).mono ?_; rintro e w2 ⟨he, hB2⟩; rw [H1.out] at he; subst he; have HB2 := Lib.hid (Ext.trans HB1.out hB2); obtain ⟨d0, d1, d2, d3⟩ := HC.out _ HB2.out; clear hB2 b0 b1 b2 b3 HR HQ)
    | (go_at_call 23; refine (rdepth_any _ t _ _ _ _ _ (Nat.le_refl _) (by omega) (HIX.out _ HB2.out)).mono ?_; rintro e w3 ⟨he, hB3⟩; subst he; have HB3 := Lib.hid (Ext.trans HB2.out hB3); clear hB3 d0 d1 d2 d3))
  go_ret
  exact ⟨rfl, HR.out⟩

theorem lawPositions_any (HA : AwakeOk) (t : Tm) (c0 c1 c2 c3 : Value) (w : World) (hL : Laid w) (hI : Is w t c0 c1 c2 c3) :
    Calls Tryd.prog 8 #[.agg #[c0, c1, c2, c3]] w fun e w' => e = .returned (.bool true) ∧ Below w.heap.size w w' := by
  cases h : few [t] 1 450 with
  | false => exact positions_large (Lib.hid HA) t c0 c1 c2 c3 w hL hI h
  | true =>
    by_cases h2 : ((depth t : Nat) : Int) ≤ 60
    · exact positions_small (Lib.hid HA) t c0 c1 c2 c3 w hL hI h h2
    · exact positions_deep (Lib.hid HA) t c0 c1 c2 c3 w hL hI h (by omega)

end Go.Proofs.YthhhmjjgckkdhaaDoor
