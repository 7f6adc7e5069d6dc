/-
  THE WALKS OF the law SubstFits, the chapter's examples by hypothesis.
-/
import Derived.Test.YtdgofofhkebkkaaDoorBnd
import Derived.Test.YtdgofofhkebkkaaDoorRefb
import Derived.Deep.RegionHeld3
namespace Go.Proofs.YtdgofofhkebkkaaDoor
open Go.RowKit

/-- What every law of layer 2 asks first. -/
def Awake2Ok : Prop := ∀ w : World, Laid w → Calls Tryd.prog 15 #[] w fun e w' => e = .returned (.bool true) ∧ Below w.heap.size w w'

theorem two_terms {t u : Tm} {n : Int} (hn : 0 ≤ n) (h : few [t, u] 2 n = true) : ((size t + size u : Nat) : Int) ≤ n := by
  simp only [few] at h
  rw [if_neg (by simp)] at h
  have := fewL_sizes [t, u] n hn h
  simp only [sizes] at this; omega

theorem boxes_two {w W : World} {a0 a1 a2 a3 b0 b1 b2 b3 : Value} {T : TypeId} (h : Ext ((w.alloc (.cells #[a0, a1, a2, a3] T)).alloc (.cells #[b0, b1, b2, b3] T)) W) :
    W.cell? ⟨w.heap.size, 0, none⟩ = some a0 ∧ W.cell? ⟨w.heap.size, 1, none⟩ = some a1 ∧ W.cell? ⟨w.heap.size, 2, none⟩ = some a2 ∧ W.cell? ⟨w.heap.size, 3, none⟩ = some a3 ∧ W.cell? ⟨w.heap.size + 1, 0, none⟩ = some b0 ∧ W.cell? ⟨w.heap.size + 1, 1, none⟩ = some b1 ∧ W.cell? ⟨w.heap.size + 1, 2, none⟩ = some b2 ∧ W.cell? ⟨w.heap.size + 1, 3, none⟩ = some b3 := by
  obtain ⟨h0, h1, _, hs⟩ := boxes2 w a0 a1 a2 a3 b0 b1 b2 b3 T
  obtain ⟨⟨x0, x1, x2, x3⟩, _⟩ := box_facts ((h.block w.heap.size (by omega)).trans h0)
  obtain ⟨⟨y0, y1, y2, y3⟩, _⟩ := box_facts ((h.block (w.heap.size + 1) (by omega)).trans h1)
  exact ⟨x0, x1, x2, x3, y0, y1, y2, y3⟩

set_option maxHeartbeats 1600000 in
set_option maxRecDepth 100000 in
theorem fits_S (HA : Hid Awake2Ok) (t u : Tm) (t0 t1 t2 t3 u0 u1 u2 u3 : Value) (w : World) (hL : Laid w) (hI : Is w t t0 t1 t2 t3) (hJ : Is w u u0 u1 u2 u3) (h1 : few [t, u] 2 900 = true) :
    Calls Tryd.prog 5 #[.agg #[t0, t1, t2, t3], .agg #[u0, u1, u2, u3]] w fun e w' => e = .returned (.bool true) ∧ Below w.heap.size w w' := by
  have hsz := two_terms (by omega) h1
  have H1 := Lib.hid h1
  have HL := Lib.hid hL
  have hX : Ext w ((w.alloc (.cells #[t0, t1, t2, t3] 25)).alloc (.cells #[u0, u1, u2, u3] 25)) := ((Ext.refl w).alloc _).alloc _
  have HX := Lib.hid hX
  have HIt : Hid (∀ W, Ext ((w.alloc (.cells #[t0, t1, t2, t3] 25)).alloc (.cells #[u0, u1, u2, u3] 25)) W → Is W t t0 t1 t2 t3) := fun W h => Is_below (Is_below hI hX) h
  have HIu : Hid (∀ W, Ext ((w.alloc (.cells #[t0, t1, t2, t3] 25)).alloc (.cells #[u0, u1, u2, u3] 25)) W → Is W u u0 u1 u2 u3) := fun W h => Is_below (Is_below hJ hX) h
  have HC : Hid (∀ W, Ext ((w.alloc (.cells #[t0, t1, t2, t3] 25)).alloc (.cells #[u0, u1, u2, u3] 25)) W → W.cell? ⟨w.heap.size, 0, none⟩ = some t0 ∧ W.cell? ⟨w.heap.size, 1, none⟩ = some t1 ∧ W.cell? ⟨w.heap.size, 2, none⟩ = some t2 ∧ W.cell? ⟨w.heap.size, 3, none⟩ = some t3 ∧ W.cell? ⟨w.heap.size + 1, 0, none⟩ = some u0 ∧ W.cell? ⟨w.heap.size + 1, 1, none⟩ = some u1 ∧ W.cell? ⟨w.heap.size + 1, 2, none⟩ = some u2 ∧ W.cell? ⟨w.heap.size + 1, 3, none⟩ = some u3) := fun W h => boxes_two h
  have HF1 := Lib.hid (fun W x y => sfits_any t u t0 t1 t2 t3 u0 u1 u2 u3 W (by omega) (by omega) x y)
  have HF2 := Lib.hid (fun W x y => rfits_any t u t0 t1 t2 t3 u0 u1 u2 u3 W (by omega) (by omega) x y)
  generalize fitsB t u = fb at HF1 HF2
  have hbb : (fb == fb) = true := by simp
  clear h1 hL hX hI hJ
  go_enter Tryd.func5, Tryd.ntmps5
  go_upto_region 3 with (first
    | (go_at_call 15; refine (HA.out _ (Laid_ext HL.out HX.out)).mono ?_; rintro e w1 ⟨he, hB1⟩; subst he; have HB1 : Hid (Ext ((w.alloc (.cells #[t0, t1, t2, t3] 25)).alloc (.cells #[u0, u1, u2, u3] 25)) w1) := Lib.hid hB1; obtain ⟨a0, a1, a2, a3, b0, b1, b2, b3⟩ := HC.out _ HB1.out; clear hB1)
    | (go_at_call 19; refine (few_any [t, u] _ 2 2 900 _ (by simp [maxLen]) (by omega) (by omega) (Row_two_at _ rfl (HIt.out _ HB1.out) (HIu.out _ HB1.out) 25)).mono ?_; rintro e w2 ⟨he, hB2⟩; rw [H1.out] at he; subst he; have HB2 := Lib.hid (Ext.trans (Ext.alloc HB1.out _) hB2); clear hB2))
  have HC2 : Hid (∀ W, Ext w2 W → W.cell? ⟨w.heap.size, 0, none⟩ = some t0 ∧ W.cell? ⟨w.heap.size, 1, none⟩ = some t1 ∧ W.cell? ⟨w.heap.size, 2, none⟩ = some t2 ∧ W.cell? ⟨w.heap.size, 3, none⟩ = some t3 ∧ W.cell? ⟨w.heap.size + 1, 0, none⟩ = some u0 ∧ W.cell? ⟨w.heap.size + 1, 1, none⟩ = some u1 ∧ W.cell? ⟨w.heap.size + 1, 2, none⟩ = some u2 ∧ W.cell? ⟨w.heap.size + 1, 3, none⟩ = some u3) := fun W h => HC.out W (Ext.trans HB2.out h)
  have hF0 : Ext w2 w2.drew := (Ext.refl w2).drew
  obtain ⟨a0, a1, a2, a3, b0, b1, b2, b3⟩ := HC2.out _ (Ext.refl w2)
  go_region_held3 (fun W => W.cell? ⟨w.heap.size, 0, none⟩ = some t0 ∧ W.cell? ⟨w.heap.size, 1, none⟩ = some t1 ∧ W.cell? ⟨w.heap.size, 2, none⟩ = some t2 ∧ W.cell? ⟨w.heap.size, 3, none⟩ = some t3 ∧ W.cell? ⟨w.heap.size + 1, 0, none⟩ = some u0 ∧ W.cell? ⟨w.heap.size + 1, 1, none⟩ = some u1 ∧ W.cell? ⟨w.heap.size + 1, 2, none⟩ = some u2 ∧ W.cell? ⟨w.heap.size + 1, 3, none⟩ = some u3)
    (first | exact HC2.out _ (by assumption) | go_keep)
    (first
      | (go_at_call 20; refine (HF1.out _ (HIt.out _ (Ext.trans HB2.out hF0)) (HIu.out _ (Ext.trans HB2.out hF0))).mono ?_; rintro e w3 ⟨he, hB⟩; subst he; have hF1 : Ext w2 w3 := hF0.trans hB; clear hB)
      | (go_at_call 21; refine (HF2.out _ (HIt.out _ (Ext.trans HB2.out hF1)) (HIu.out _ (Ext.trans HB2.out hF1))).mono ?_; rintro e w4 ⟨he, hB⟩; subst he; have hF2 : Ext w2 w4 := hF1.trans hB; clear hB))
  all_goals (go_wp2_with fail)
  all_goals go_ret
  all_goals exact ⟨by simp, Ext.trans (a := w) HX.out (Ext.trans HB2.out hF2)⟩

set_option maxHeartbeats 1600000 in
set_option maxRecDepth 100000 in
theorem fits_N (HA : Hid Awake2Ok) (t u : Tm) (t0 t1 t2 t3 u0 u1 u2 u3 : Value) (w : World) (hL : Laid w) (hI : Is w t t0 t1 t2 t3) (hJ : Is w u u0 u1 u2 u3) (h1 : few [t, u] 2 900 = false) :
    Calls Tryd.prog 5 #[.agg #[t0, t1, t2, t3], .agg #[u0, u1, u2, u3]] w fun e w' => e = .returned (.bool true) ∧ Below w.heap.size w w' := by
  have H1 := Lib.hid h1
  have HL := Lib.hid hL
  have hX : Ext w ((w.alloc (.cells #[t0, t1, t2, t3] 25)).alloc (.cells #[u0, u1, u2, u3] 25)) := ((Ext.refl w).alloc _).alloc _
  have HX := Lib.hid hX
  have HIt : Hid (∀ W, Ext ((w.alloc (.cells #[t0, t1, t2, t3] 25)).alloc (.cells #[u0, u1, u2, u3] 25)) W → Is W t t0 t1 t2 t3) := fun W h => Is_below (Is_below hI hX) h
  have HIu : Hid (∀ W, Ext ((w.alloc (.cells #[t0, t1, t2, t3] 25)).alloc (.cells #[u0, u1, u2, u3] 25)) W → Is W u u0 u1 u2 u3) := fun W h => Is_below (Is_below hJ hX) h
  have HC : Hid (∀ W, Ext ((w.alloc (.cells #[t0, t1, t2, t3] 25)).alloc (.cells #[u0, u1, u2, u3] 25)) W → W.cell? ⟨w.heap.size, 0, none⟩ = some t0 ∧ W.cell? ⟨w.heap.size, 1, none⟩ = some t1 ∧ W.cell? ⟨w.heap.size, 2, none⟩ = some t2 ∧ W.cell? ⟨w.heap.size, 3, none⟩ = some t3 ∧ W.cell? ⟨w.heap.size + 1, 0, none⟩ = some u0 ∧ W.cell? ⟨w.heap.size + 1, 1, none⟩ = some u1 ∧ W.cell? ⟨w.heap.size + 1, 2, none⟩ = some u2 ∧ W.cell? ⟨w.heap.size + 1, 3, none⟩ = some u3) := fun W h => boxes_two h
  have tok1 : True := trivial
  clear h1 hL hX hI hJ
  go_enter Tryd.func5, Tryd.ntmps5
  go_wp2_with (first
    | (go_at_call 15; have _t := tok1; refine (HA.out _ (Laid_ext HL.out HX.out)).mono ?_; rintro e w1 ⟨he, hB1⟩; subst he; have HB1 : Hid (Ext ((w.alloc (.cells #[t0, t1, t2, t3] 25)).alloc (.cells #[u0, u1, u2, u3] 25)) w1) := Lib.hid hB1; obtain ⟨a0, a1, a2, a3, b0, b1, b2, b3⟩ := HC.out _ HB1.out; clear hB1 tok1)
    | (go_at_call 15; refine (HA.out _ (Laid_ext HL.out (Ext.trans HX.out HB2.out))).mono ?_; rintro e w3 ⟨he, hB⟩; subst he; have HB3 := Lib.hid (Ext.trans HB2.out hB); clear hB)
    | (go_at_call 19; refine (few_any [t, u] _ 2 2 900 _ (by simp [maxLen]) (by omega) (by omega) (Row_two_at _ rfl (HIt.out _ HB1.out) (HIu.out _ HB1.out) 25)).mono ?_; rintro e w2 ⟨he, hB2⟩; rw [H1.out] at he; subst he; have HB2 := Lib.hid (Ext.trans (Ext.alloc HB1.out _) hB2); clear hB2))
  go_ret
  exact ⟨rfl, Ext.trans (a := w) HX.out HB3.out⟩

theorem lawFits_any (HA : Awake2Ok) (t u : Tm) (t0 t1 t2 t3 u0 u1 u2 u3 : Value) (w : World) (hL : Laid w) (hI : Is w t t0 t1 t2 t3) (hJ : Is w u u0 u1 u2 u3) :
    Calls Tryd.prog 5 #[.agg #[t0, t1, t2, t3], .agg #[u0, u1, u2, u3]] w fun e w' => e = .returned (.bool true) ∧ Below w.heap.size w w' := by
  cases h : few [t, u] 2 900 with
  | true => exact fits_S (Lib.hid HA) t u t0 t1 t2 t3 u0 u1 u2 u3 w hL hI hJ h
  | false => exact fits_N (Lib.hid HA) t u t0 t1 t2 t3 u0 u1 u2 u3 w hL hI hJ h

end Go.Proofs.YtdgofofhkebkkaaDoor
