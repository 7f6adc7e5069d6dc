/-
  THE WALKS OF the law SubstFits, the chapter's examples by hypothesis.
-/
import Derived.Test.YtkdnfioihhfmpaaDoorBnd
import Derived.Test.YtkdnfioihhfmpaaDoorRefb
import Derived.Deep.RegionHeld3
import Derived.Test.YtkdnfioihhfmpaaDoorFewb
import Derived.Test.YtkdnfioihhfmpaaDoorBval
import Derived.Test.YtkdnfioihhfmpaaDoorRput
namespace Go.Proofs.YtkdnfioihhfmpaaDoor
open Go.RowKit

/-- What every law of layer 2 asks first. -/
def Awake2Ok : Prop := ∀ w : World, Laid w → Calls Tryd.prog 15 #[] w fun e w' => e = .returned (.bool true) ∧ Below w.heap.size w w'

theorem two_terms {t u : Tm} {n : Int} (hn : 0 ≤ n) (h : few [t, u] 2 n = true) : ((size t + size u : Nat) : Int) ≤ n := by
  simp only [few] at h
  rw [if_neg (by simp)] at h
  have := fewL_sizes [t, u] n hn h
  simp only [sizes] at this; omega

theorem boxes_two {w W : World} {a0 a1 a2 a3 b0 b1 b2 b3 : Value} {T : TypeId} (h : Ext ((w.alloc (.cells #[a0, a1, a2, a3] T)).alloc (.cells #[b0, b1, b2, b3] T)) W) :
    W.cell? ⟨w.heap.size, 0, none⟩ = some a0 ∧ W.cell? ⟨w.heap.size, 1, none⟩ = some a1 ∧ W.cell? ⟨w.heap.size, 2, none⟩ = some a2 ∧ W.cell? ⟨w.heap.size, 3, none⟩ = some a3 ∧ W.cell? ⟨w.heap.size + 1, 0, none⟩ = some b0 ∧ W.cell? ⟨w.heap.size + 1, 1, none⟩ = some b1 ∧ W.cell? ⟨w.heap.size + 1, 2, none⟩ = some b2 ∧ W.cell? ⟨w.heap.size + 1, 3, none⟩ = some b3 := by
  obtain ⟨h0, h1, _, hs⟩ := boxes2 w a0 a1 a2 a3 b0 b1 b2 b3 T
  obtain ⟨⟨x0, x1, x2, x3⟩, _⟩ := box_facts ((h.block w.heap.size (by omega)).trans h0)
  obtain ⟨⟨y0, y1, y2, y3⟩, _⟩ := box_facts ((h.block (w.heap.size + 1) (by omega)).trans h1)
  exact ⟨x0, x1, x2, x3, y0, y1, y2, y3⟩

set_option maxHeartbeats 1600000 in
set_option maxRecDepth 100000 in
theorem fits_S (HA : Hid Awake2Ok) (t u : Tm) (t0 t1 t2 t3 u0 u1 u2 u3 : Value) (w : World) (hL : Laid w) (hI : Is w t t0 t1 t2 t3) (hJ : Is w u u0 u1 u2 u3) (h1 : few [t, u] 2 900 = true) :
    Calls Tryd.prog 5 #[.agg #[t0, t1, t2, t3], .agg #[u0, u1, u2, u3]] w fun e w' => e = .returned (.bool true) ∧ Below w.heap.size w w' := by
  have hsz := two_terms (by omega) h1
  have H1 := Lib.hid h1
  have HL := Lib.hid hL
  have hX : Ext w ((w.alloc (.cells #[t0, t1, t2, t3] 25)).alloc (.cells #[u0, u1, u2, u3] 25)) := ((Ext.refl w).alloc _).alloc _
  have HX := Lib.hid hX
  have HIt : Hid (∀ W, Ext ((w.alloc (.cells #[t0, t1, t2, t3] 25)).alloc (.cells #[u0, u1, u2, u3] 25)) W → Is W t t0 t1 t2 t3) := fun W h => Is_below (Is_below hI hX) h
  have HIu : Hid (∀ W, Ext ((w.alloc (.cells #[t0, t1, t2, t3] 25)).alloc (.cells #[u0, u1, u2, u3] 25)) W → Is W u u0 u1 u2 u3) := fun W h => Is_below (Is_below hJ hX) h
  have HC : Hid (∀ W, Ext ((w.alloc (.cells #[t0, t1, t2, t3] 25)).alloc (.cells #[u0, u1, u2, u3] 25)) W → W.cell? ⟨w.heap.size, 0, none⟩ = some t0 ∧ W.cell? ⟨w.heap.size, 1, none⟩ = some t1 ∧ W.cell? ⟨w.heap.size, 2, none⟩ = some t2 ∧ W.cell? ⟨w.heap.size, 3, none⟩ = some t3 ∧ W.cell? ⟨w.heap.size + 1, 0, none⟩ = some u0 ∧ W.cell? ⟨w.heap.size + 1, 1, none⟩ = some u1 ∧ W.cell? ⟨w.heap.size + 1, 2, none⟩ = some u2 ∧ W.cell? ⟨w.heap.size + 1, 3, none⟩ = some u3) := fun W h => boxes_two h
  have HF1 := Lib.hid (fun W x y => sfits_any t u t0 t1 t2 t3 u0 u1 u2 u3 W (by omega) (by omega) x y)
  have HF2 := Lib.hid (fun W x y => rfits_any t u t0 t1 t2 t3 u0 u1 u2 u3 W (by omega) (by omega) x y)
  generalize fitsB t u = fb at HF1 HF2
  have hbb : (fb == fb) = true := by simp
  clear h1 hL hX hI hJ
  go_enter Tryd.func5, Tryd.ntmps5
  go_upto_region 3 with (first
    | (go_at_call 15; refine (HA.out _ (Laid_ext HL.out HX.out)).mono ?_; rintro e w1 ⟨he, hB1⟩; subst he; have HB1 : Hid (Ext ((w.alloc (.cells #[t0, t1, t2, t3] 25)).alloc (.cells #[u0, u1, u2, u3] 25)) w1) := Lib.hid hB1; obtain ⟨a0, a1, a2, a3, b0, b1, b2, b3⟩ := HC.out _ HB1.out; clear hB1)
    | (go_at_call 19; refine (few_any [t, u] _ 2 2 900 _ (by simp [maxLen]) (by omega) (by omega) (Row_two_at _ rfl (HIt.out _ HB1.out) (HIu.out _ HB1.out) 25)).mono ?_; rintro e w2 ⟨he, hB2⟩; rw [H1.out] at he; subst he; have HB2 := Lib.hid (Ext.trans (Ext.alloc HB1.out _) hB2); clear hB2))
  have HC2 : Hid (∀ W, Ext w2 W → W.cell? ⟨w.heap.size, 0, none⟩ = some t0 ∧ W.cell? ⟨w.heap.size, 1, none⟩ = some t1 ∧ W.cell? ⟨w.heap.size, 2, none⟩ = some t2 ∧ W.cell? ⟨w.heap.size, 3, none⟩ = some t3 ∧ W.cell? ⟨w.heap.size + 1, 0, none⟩ = some u0 ∧ W.cell? ⟨w.heap.size + 1, 1, none⟩ = some u1 ∧ W.cell? ⟨w.heap.size + 1, 2, none⟩ = some u2 ∧ W.cell? ⟨w.heap.size + 1, 3, none⟩ = some u3) := fun W h => HC.out W (Ext.trans HB2.out h)
  have hF0 : Ext w2 w2.drew := (Ext.refl w2).drew
  obtain ⟨a0, a1, a2, a3, b0, b1, b2, b3⟩ := HC2.out _ (Ext.refl w2)
  go_region_held3 (fun W => W.cell? ⟨w.heap.size, 0, none⟩ = some t0 ∧ W.cell? ⟨w.heap.size, 1, none⟩ = some t1 ∧ W.cell? ⟨w.heap.size, 2, none⟩ = some t2 ∧ W.cell? ⟨w.heap.size, 3, none⟩ = some t3 ∧ W.cell? ⟨w.heap.size + 1, 0, none⟩ = some u0 ∧ W.cell? ⟨w.heap.size + 1, 1, none⟩ = some u1 ∧ W.cell? ⟨w.heap.size + 1, 2, none⟩ = some u2 ∧ W.cell? ⟨w.heap.size + 1, 3, none⟩ = some u3)
    (first | exact HC2.out _ (by assumption) | go_keep)
    (first
      | (go_at_call 20; refine (HF1.out _ (HIt.out _ (Ext.trans HB2.out hF0)) (HIu.out _ (Ext.trans HB2.out hF0))).mono ?_; rintro e w3 ⟨he, hB⟩; subst he; have hF1 : Ext w2 w3 := hF0.trans hB; clear hB)
      | (go_at_call 21; refine (HF2.out _ (HIt.out _ (Ext.trans HB2.out hF1)) (HIu.out _ (Ext.trans HB2.out hF1))).mono ?_; rintro e w4 ⟨he, hB⟩; subst he; have hF2 : Ext w2 w4 := hF1.trans hB; clear hB))
  all_goals (go_wp2_with fail)
  all_goals go_ret
  all_goals exact ⟨by simp, Ext.trans (a := w) HX.out (Ext.trans HB2.out hF2)⟩

set_option maxHeartbeats 1600000 in
set_option maxRecDepth 100000 in
theorem fits_N (HA : Hid Awake2Ok) (t u : Tm) (t0 t1 t2 t3 u0 u1 u2 u3 : Value) (w : World) (hL : Laid w) (hI : Is w t t0 t1 t2 t3) (hJ : Is w u u0 u1 u2 u3) (h1 : few [t, u] 2 900 = false) :
    Calls Tryd.prog 5 #[.agg #[t0, t1, t2, t3], .agg #[u0, u1, u2, u3]] w fun e w' => e = .returned (.bool true) ∧ Below w.heap.size w w' := by
  have H1 := Lib.hid h1
  have HL := Lib.hid hL
  have hX : Ext w ((w.alloc (.cells #[t0, t1, t2, t3] 25)).alloc (.cells #[u0, u1, u2, u3] 25)) := ((Ext.refl w).alloc _).alloc _
  have HX := Lib.hid hX
  have HIt : Hid (∀ W, Ext ((w.alloc (.cells #[t0, t1, t2, t3] 25)).alloc (.cells #[u0, u1, u2, u3] 25)) W → Is W t t0 t1 t2 t3) := fun W h => Is_below (Is_below hI hX) h
  have HIu : Hid (∀ W, Ext ((w.alloc (.cells #[t0, t1, t2, t3] 25)).alloc (.cells #[u0, u1, u2, u3] 25)) W → Is W u u0 u1 u2 u3) := fun W h => Is_below (Is_below hJ hX) h
  have HC : Hid (∀ W, Ext ((w.alloc (.cells #[t0, t1, t2, t3] 25)).alloc (.cells #[u0, u1, u2, u3] 25)) W → W.cell? ⟨w.heap.size, 0, none⟩ = some t0 ∧ W.cell? ⟨w.heap.size, 1, none⟩ = some t1 ∧ W.cell? ⟨w.heap.size, 2, none⟩ = some t2 ∧ W.cell? ⟨w.heap.size, 3, none⟩ = some t3 ∧ W.cell? ⟨w.heap.size + 1, 0, none⟩ = some u0 ∧ W.cell? ⟨w.heap.size + 1, 1, none⟩ = some u1 ∧ W.cell? ⟨w.heap.size + 1, 2, none⟩ = some u2 ∧ W.cell? ⟨w.heap.size + 1, 3, none⟩ = some u3) := fun W h => boxes_two h
  have tok1 : True := trivial
  clear h1 hL hX hI hJ
  go_enter Tryd.func5, Tryd.ntmps5
  go_wp2_with (first
    | (go_at_call 15; have _t := tok1; refine (HA.out _ (Laid_ext HL.out HX.out)).mono ?_; rintro e w1 ⟨he, hB1⟩; subst he; have HB1 : Hid (Ext ((w.alloc (.cells #[t0, t1, t2, t3] 25)).alloc (.cells #[u0, u1, u2, u3] 25)) w1) := Lib.hid hB1; obtain ⟨a0, a1, a2, a3, b0, b1, b2, b3⟩ := HC.out _ HB1.out; clear hB1 tok1)
    | (go_at_call 15; refine (HA.out _ (Laid_ext HL.out (Ext.trans HX.out HB2.out))).mono ?_; rintro e w3 ⟨he, hB⟩; subst he; have HB3 := Lib.hid (Ext.trans HB2.out hB); clear hB)
    | (go_at_call 19; refine (few_any [t, u] _ 2 2 900 _ (by simp [maxLen]) (by omega) (by omega) (Row_two_at _ rfl (HIt.out _ HB1.out) (HIu.out _ HB1.out) 25)).mono ?_; rintro e w2 ⟨he, hB2⟩; rw [H1.out] at he; subst he; have HB2 := Lib.hid (Ext.trans (Ext.alloc HB1.out _) hB2); clear hB2))
  go_ret
  exact ⟨rfl, Ext.trans (a := w) HX.out HB3.out⟩

theorem lawFits_any (HA : Awake2Ok) (t u : Tm) (t0 t1 t2 t3 u0 u1 u2 u3 : Value) (w : World) (hL : Laid w) (hI : Is w t t0 t1 t2 t3) (hJ : Is w u u0 u1 u2 u3) :
    Calls Tryd.prog 5 #[.agg #[t0, t1, t2, t3], .agg #[u0, u1, u2, u3]] w fun e w' => e = .returned (.bool true) ∧ Below w.heap.size w w' := by
  cases h : few [t, u] 2 900 with
  | true => exact fits_S (Lib.hid HA) t u t0 t1 t2 t3 u0 u1 u2 u3 w hL hI hJ h
  | false => exact fits_N (Lib.hid HA) t u t0 t1 t2 t3 u0 u1 u2 u3 w hL hI hJ h

end Go.Proofs.YtkdnfioihhfmpaaDoor

/-
  THE WALKS OF the laws SubstValid and SubstCompose, the chapter's examples by hypothesis.
-/
namespace Go.Proofs.YtkdnfioihhfmpaaDoor
open Go.RowKit

theorem mem_flatB {bs : List Bd} {b : Bd} (h : b ∈ bs) : b.1 ∈ flatB bs ∧ b.2 ∈ flatB bs := by
  induction bs with
  | nil => simp at h
  | cons c bs ih =>
    rcases List.mem_cons.1 h with rfl | h
    · simp [flatB]
    · obtain ⟨h1, h2⟩ := ih h
      simp [flatB, h1, h2]
/-- What a short list of bindings is. -/
theorem few_binds {bs : List Bd} {n most : Nat} (h : few (flatB bs) (2 * (n : Int)) most = true) : bs.length ≤ n ∧ ∀ b ∈ bs, size b.1 ≤ most ∧ size b.2 ≤ most := by
  simp only [few, flatB_length] at h
  by_cases h0 : (2 * (n : Int)) < ((2 * bs.length : Nat) : Int)
  · rw [if_pos h0] at h; simp at h
  · rw [if_neg h0] at h
    have hs := fewL_sizes _ (most : Int) (by omega) h
    refine ⟨by omega, fun b hb => ?_⟩
    obtain ⟨m1, m2⟩ := mem_flatB hb
    have h1 := size_le_sizes m1
    have h2 := size_le_sizes m2
    omega

set_option maxHeartbeats 1600000 in
set_option maxRecDepth 100000 in
theorem svalid_S (HA : Hid Awake2Ok) (bs : List Bd) (xa : Option Addr) (cap : Nat) (w : World) (hL : Laid w) (hcap : bs.length ≤ cap) (hb : bs.length * 112 ≤ 140737488355328) (hR : Row w (flatB bs) xa) (h1 : few (flatB bs) (2 * ((210 : Nat) : Int)) ((2000 : Nat) : Int) = true) :
    Calls Tryd.prog 4 #[.slice xa bs.length cap] w fun e w' => e = .returned (.bool true) ∧ Below w.heap.size w w' := by
  obtain ⟨hl, hz⟩ := few_binds h1
  have hsz : SzB 1073741824 bs := fun b hb => ⟨by have := (hz b hb).1; omega, by have := (hz b hb).2; omega⟩
  have HL := Lib.hid hL
  have HF := Lib.hid (fun W (x : Ext w W) => few02_any bs xa cap 210 2000 W hb (by omega) (by omega) (by omega) (Row_below (w' := W) hR x))
  have h1' : few (flatB bs) (2 * 210) 2000 = true := h1
  rw [h1'] at HF
  have HV1 := Lib.hid (fun W (x : Ext w W) => bvalid_any bs xa cap W hcap (by unfold maxLen; omega) hsz (Row_below (w' := W) hR x))
  have HV2 := Lib.hid (fun W (x : Ext w W) => rbvalid_any bs xa cap W hcap (by unfold maxLen; omega) hsz (Row_below (w' := W) hR x))
  generalize validB bs = E at HV1 HV2
  have hEE : (E == E) = true := by simp
  clear h1 h1' hL hcap hb hR hl hz hsz
  go_enter Tryd.func4, Tryd.ntmps4
  go_wp2_with (first
    | (go_at_call 15; refine (HA.out _ HL.out).mono ?_; rintro e w1 ⟨he, hB1⟩; subst he; have HB1 := Lib.hid (show Ext w w1 from hB1); clear hB1)
    | (go_at_call 16; refine (HF.out _ HB1.out).mono ?_; rintro e w2 ⟨he, hB2⟩; subst he; have HB2 := Lib.hid (Ext.trans HB1.out hB2); clear hB2)
    | (go_at_call 17; refine (HV1.out _ HB2.out).mono ?_; rintro e w3 ⟨he, hB3⟩; subst he; have HB3 := Lib.hid (Ext.trans HB2.out hB3); clear hB3)
    | (go_at_call 18; refine (HV2.out _ HB3.out).mono ?_; rintro e w4 ⟨he, hB4⟩; subst he; have HB4 := Lib.hid (Ext.trans HB3.out hB4); clear hB4))
  go_ret
  exact ⟨by simp, HB4.out⟩

set_option maxHeartbeats 1600000 in
set_option maxRecDepth 100000 in
theorem svalid_N (HA : Hid Awake2Ok) (bs : List Bd) (xa : Option Addr) (cap : Nat) (w : World) (hL : Laid w) (hb : bs.length * 112 ≤ 140737488355328) (hR : Row w (flatB bs) xa) (h1 : few (flatB bs) (2 * 210) 2000 = false) :
    Calls Tryd.prog 4 #[.slice xa bs.length cap] w fun e w' => e = .returned (.bool true) ∧ Below w.heap.size w w' := by
  have HL := Lib.hid hL
  have HF := Lib.hid (fun W (x : Ext w W) => few02_any bs xa cap 210 2000 W hb (by omega) (by omega) (by omega) (Row_below (w' := W) hR x))
  rw [h1] at HF
  have tok1 : True := trivial
  clear h1 hL hb hR
  go_enter Tryd.func4, Tryd.ntmps4
  go_wp2_with (first
    | (go_at_call 15; have _t := tok1; refine (HA.out _ HL.out).mono ?_; rintro e w1 ⟨he, hB1⟩; subst he; have HB1 := Lib.hid (show Ext w w1 from hB1); clear hB1 tok1)
    | (go_at_call 15; refine (HA.out _ (Laid_ext HL.out HB2.out)).mono ?_; rintro e w3 ⟨he, hB⟩; subst he; have HB3 := Lib.hid (Ext.trans HB2.out hB); clear hB)
    | (go_at_call 16; refine (HF.out _ HB1.out).mono ?_; rintro e w2 ⟨he, hB2⟩; subst he; have HB2 := Lib.hid (Ext.trans HB1.out hB2); clear hB2))
  go_ret
  exact ⟨rfl, HB3.out⟩

theorem lawSv_any (HA : Awake2Ok) (bs : List Bd) (xa : Option Addr) (cap : Nat) (w : World) (hL : Laid w) (hcap : bs.length ≤ cap) (hb : bs.length * 112 ≤ 140737488355328) (hR : Row w (flatB bs) xa) :
    Calls Tryd.prog 4 #[.slice xa bs.length cap] w fun e w' => e = .returned (.bool true) ∧ Below w.heap.size w w' := by
  cases h : few (flatB bs) (2 * 210) 2000 with
  | true => exact svalid_S (Lib.hid HA) bs xa cap w hL hcap hb hR h
  | false => exact svalid_N (Lib.hid HA) bs xa cap w hL hb hR h

/-- What both compositions answer. -/
theorem scompose_all (ss ts : List Bd) (xs xt : Option Addr) (cs ct N : Nat) (w : World) (hcs : ss.length ≤ cs) (hl : ss.length ≤ 200) (hsz : SzB 1073741824 ss) (hrow : Row w (flatB ss) xs) (hct : ts.length ≤ ct) (hlt : ts.length ≤ 200) (htz : SzB 1073741824 ts) (hrowt : Row w (flatB ts) xt) (hN : ∀ b ∈ ts, size b.2 ≤ N) (h1 : 1 ≤ N) (hsn : ∀ b ∈ ss, size b.2 * N ≤ 1073741824) :
    Calls Tryd.prog 29 #[.slice xs ss.length cs, .slice xt ts.length ct] w (RcPost w (comP ss ts)) := by
  by_cases hv1 : validB ss = 0
  rotate_left
  · have he : comP ss ts = ([], validB ss) := by unfold comP; rw [if_neg hv1]
    refine (scompose_bad1 ss ts xs xt cs ct w hcs (by unfold maxLen; omega) hsz hrow hv1).mono ?_
    rintro e w' ⟨rfl, hB⟩
    exact RcPost_err he hB
  by_cases hv2 : validB ts = 0
  rotate_left
  · have he : comP ss ts = ([], validB ts) := by unfold comP; rw [if_pos hv1, if_neg hv2]
    refine (scompose_bad2 ss ts xs xt cs ct w hcs (by unfold maxLen; omega) hsz hrow hct (by unfold maxLen; omega) htz hrowt hv1 hv2).mono ?_
    rintro e w' ⟨rfl, hB⟩
    exact RcPost_err he hB
  have hS : RbOk ss xs cs w := ⟨hrow, hcs, by omega, hsz, (validB_ok hv1).2.2⟩
  have hT : RbOk ts xt ct w := ⟨hrowt, hct, by omega, htz, (validB_ok hv2).2.2⟩
  by_cases hf : (folP ts ss).2 = 0
  rotate_left
  · have he : comP ss ts = ([], (folP ts ss).2) := by unfold comP; rw [if_pos hv1, if_pos hv2, if_neg hf]
    refine (scompose_bad3 ss ts xs xt cs ct N w hS hT hv1 hv2 hN h1 hsn [] (folP ts ss).2 (by rw [folS_nil, if_neg hf]) hf).mono ?_
    rintro e w' ⟨rfl, hB⟩
    exact RcPost_err he hB
  have he : comP ss ts = if 200 < (comR ss ts).length then ([], 3) else (comR ss ts, 0) := by unfold comP; rw [if_pos hv1, if_pos hv2, if_pos hf]
  refine (scompose_good ss ts xs xt cs ct N w hS hT hv1 hv2 hN h1 hsn hf).mono ?_
  rintro e w' ⟨hB, h⟩
  by_cases h200 : 200 < (comR ss ts).length
  · rw [if_pos h200] at h he
    subst h
    exact RcPost_err he hB
  · rw [if_neg h200] at h he
    obtain ⟨kv, rfl, hK⟩ := h
    obtain ⟨xa, cap, rfl, r1, _, r2⟩ := BdsAt_row hK
    rw [he]
    exact ⟨xa, cap, rfl, r1, r2, hB⟩
theorem rcompose_all (ss ts : List Bd) (xs xt : Option Addr) (cs ct N : Nat) (w : World) (hcs : ss.length ≤ cs) (hl : ss.length ≤ 200) (hsz : SzB 1073741824 ss) (hrow : Row w (flatB ss) xs) (hct : ts.length ≤ ct) (hlt : ts.length ≤ 200) (htz : SzB 1073741824 ts) (hrowt : Row w (flatB ts) xt) (hN : ∀ b ∈ ts, size b.2 ≤ N) (h1 : 1 ≤ N) (hsn : ∀ b ∈ ss, size b.2 * N ≤ 1073741824) :
    Calls Tryd.prog 30 #[.slice xs ss.length cs, .slice xt ts.length ct] w (RcPost w (comP ss ts)) := by
  by_cases hv1 : validB ss = 0
  rotate_left
  · exact rcompose_bad1 ss ts xs xt cs ct w hcs (by unfold maxLen; omega) hsz hrow hv1
  by_cases hv2 : validB ts = 0
  rotate_left
  · exact rcompose_bad2 ss ts xs xt cs ct w hcs (by unfold maxLen; omega) hsz hrow hct (by unfold maxLen; omega) htz hrowt hv1 hv2
  exact rcompose_good ss ts xs xt cs ct N w hcs hl hsz hrow hct hlt htz hrowt hv1 hv2 hN h1 hsn
/-- What is composed is small: few, and small terms. -/
theorem comP_small {ss ts : List Bd} {N : Nat} (hsz : SzB 1073741824 ss) (htz : SzB 1073741824 ts) (hN : ∀ b ∈ ts, size b.2 ≤ N) (h1 : 1 ≤ N) (hsn : ∀ b ∈ ss, size b.2 * N ≤ 1073741824) : (comP ss ts).1.length ≤ 200 ∧ SzB 1073741824 (comP ss ts).1 := by
  unfold comP
  have hnil : ((([] : List Bd).length ≤ 200) ∧ SzB 1073741824 []) := ⟨by simp, fun b hb => by simp at hb⟩
  by_cases hv1 : validB ss = 0
  rotate_left
  · rw [if_neg hv1]; exact hnil
  rw [if_pos hv1]
  by_cases hv2 : validB ts = 0
  rotate_left
  · rw [if_neg hv2]; exact hnil
  rw [if_pos hv2]
  by_cases hf : (folP ts ss).2 = 0
  rotate_left
  · rw [if_neg hf]; exact hnil
  rw [if_pos hf]
  by_cases h200 : 200 < (comR ss ts).length
  · rw [if_pos h200]; exact hnil
  rw [if_neg h200]
  refine ⟨by show (comR ss ts).length ≤ 200; omega, ?_⟩
  obtain ⟨_, _, s3⟩ := validB_ok hv1
  obtain ⟨_, t2, t3⟩ := validB_ok hv2
  obtain ⟨_, c2, _⟩ := comR_facts (SortedB_pair s3) (SortedB_pair t3) (fun b hb => bindE_ne (t2 b hb))
  intro b hb
  rcases List.mem_append.1 (c2.mem_iff.1 hb) with h | h
  · obtain ⟨c, hc, rfl⟩ := List.mem_map.1 (List.mem_filter.1 h).1
    exact ⟨(hsz c hc).1, applyP_size hN h1 (hsn c hc) ((folP_ok ts ss hf).2 c hc)⟩
  · exact htz b (List.mem_filter.1 h).1

set_option maxHeartbeats 1600000 in
set_option maxRecDepth 100000 in
theorem scomp_S (HA : Hid Awake2Ok) (ss ts : List Bd) (xs xt : Option Addr) (cs ct : Nat) (w : World) (hL : Laid w) (hcs : ss.length ≤ cs) (hb : ss.length * 112 ≤ 140737488355328) (hR : Row w (flatB ss) xs) (hct : ts.length ≤ ct) (hbt : ts.length * 112 ≤ 140737488355328) (hRt : Row w (flatB ts) xt)
    (h1 : few (flatB ss) (2 * ((20 : Nat) : Int)) ((600 : Nat) : Int) = true) (h2 : few (flatB ts) (2 * ((20 : Nat) : Int)) ((600 : Nat) : Int) = true) :
    Calls Tryd.prog 7 #[.slice xs ss.length cs, .slice xt ts.length ct] w fun e w' => e = .returned (.bool true) ∧ Below w.heap.size w w' := by
  obtain ⟨hl, hz⟩ := few_binds h1
  obtain ⟨hl2, hz2⟩ := few_binds h2
  have hsz : SzB 1073741824 ss := fun b hb => ⟨by have := (hz b hb).1; omega, by have := (hz b hb).2; omega⟩
  have hsz2 : SzB 1073741824 ts := fun b hb => ⟨by have := (hz2 b hb).1; omega, by have := (hz2 b hb).2; omega⟩
  have HL := Lib.hid hL
  have HF := Lib.hid (fun W (x : Ext w W) => few02_any ss xs cs 20 600 W hb (by omega) (by omega) (by omega) (Row_below (w' := W) hR x))
  have HG := Lib.hid (fun W (x : Ext w W) => few02_any ts xt ct 20 600 W hbt (by omega) (by omega) (by omega) (Row_below (w' := W) hRt x))
  have h1' : few (flatB ss) (2 * 20) 600 = true := h1
  have h2' : few (flatB ts) (2 * 20) 600 = true := h2
  rw [h1'] at HF
  rw [h2'] at HG
  have hN : ∀ b ∈ ts, size b.2 ≤ 600 := fun b hb => (hz2 b hb).2
  have hsn : ∀ b ∈ ss, size b.2 * 600 ≤ 1073741824 := fun b hb => by have := (hz b hb).2; omega
  have HC1 := Lib.hid (fun W (x : Ext w W) => scompose_all ss ts xs xt cs ct 600 W hcs (by omega) hsz (Row_below (w' := W) hR x) hct (by omega) hsz2 (Row_below (w' := W) hRt x) hN (by omega) hsn)
  have HC2 := Lib.hid (fun W (x : Ext w W) => rcompose_all ss ts xs xt cs ct 600 W hcs (by omega) hsz (Row_below (w' := W) hR x) hct (by omega) hsz2 (Row_below (w' := W) hRt x) hN (by omega) hsn)
  obtain ⟨hcl, hcz⟩ := comP_small hsz hsz2 hN (by omega) hsn
  have HCM := Lib.hid (fun (xa ya : Option Addr) (c1 c2 : Nat) W (p1 : (comP ss ts).1.length ≤ c1) (p2 : (comP ss ts).1.length ≤ c2) (r1 : Row W (flatB (comP ss ts).1) xa) (r2 : Row W (flatB (comP ss ts).1) ya) => bsame_eq (comP ss ts).1 xa ya c1 c2 W p1 p2 (by unfold maxLen; omega) hcz r1 r2)
  generalize comP ss ts = R at HC1 HC2 HCM
  obtain ⟨cc, E⟩ := R
  unfold RcPost at HC1 HC2
  have hEE : (E == E) = true := by simp
  have tok1 : True := trivial
  clear h1 h1' h2 h2' hL hcs hb hR hct hbt hRt hl hz hl2 hz2 hsz hsz2 hN hsn hcl hcz
  go_enter Tryd.func7, Tryd.ntmps7
  go_wp2_with (first
    | (go_at_call 15; refine (HA.out _ HL.out).mono ?_; rintro e w1 ⟨he, hB1⟩; subst he; have HB1 := Lib.hid (show Ext w w1 from hB1); clear hB1)
    | (go_at_call 16; have _t := tok1; refine (HF.out _ HB1.out).mono ?_; rintro e w2 ⟨he, hB2⟩; subst he; have HB2 := Lib.hid (Ext.trans HB1.out hB2); clear hB2 tok1)
    | (go_at_call 16; refine (HG.out _ HB2.out).mono ?_; rintro e w3 ⟨he, hB3⟩; subst he; have HB3 := Lib.hid (Ext.trans HB2.out hB3); clear hB3)
    | (go_at_call 29; refine (HC1.out _ HB3.out).mono ?_; rintro e w4 ⟨x4, c4, he, p4, r4, hB4⟩; subst he; have HB4 := Lib.hid (Ext.trans HB3.out hB4); have HR4 := Lib.hid (And.intro p4 r4); clear hB4 p4 r4)
    | (go_at_call 30; refine (HC2.out _ HB4.out).mono ?_; rintro e w5 ⟨x5, c5, he, p5, r5, hB5⟩; subst he; have HB5 := Lib.hid (Ext.trans HB4.out hB5); have HR5 := Lib.hid (And.intro p5 r5); have HR6 := Lib.hid (Row_below HR4.out.2 hB5); clear hB5 p5 r5)
    | (go_at_call 26; refine (HCM.out _ _ _ _ _ HR4.out.1 HR5.out.1 HR6.out HR5.out.2).mono ?_; rintro e w6 ⟨he, hB6⟩; subst he; have HB6 := Lib.hid (Ext.trans HB5.out hB6); clear hB6))
  go_ret
  exact ⟨by simp, HB6.out⟩

set_option maxHeartbeats 1600000 in
set_option maxRecDepth 100000 in
theorem scomp_N1 (HA : Hid Awake2Ok) (ss ts : List Bd) (xs xt : Option Addr) (cs ct : Nat) (w : World) (hL : Laid w) (hb : ss.length * 112 ≤ 140737488355328) (hR : Row w (flatB ss) xs) (h1 : few (flatB ss) (2 * 20) 600 = false) :
    Calls Tryd.prog 7 #[.slice xs ss.length cs, .slice xt ts.length ct] w fun e w' => e = .returned (.bool true) ∧ Below w.heap.size w w' := by
  have HL := Lib.hid hL
  have HF := Lib.hid (fun W (x : Ext w W) => few02_any ss xs cs 20 600 W hb (by omega) (by omega) (by omega) (Row_below (w' := W) hR x))
  rw [h1] at HF
  have tok1 : True := trivial
  clear h1 hL hb hR
  go_enter Tryd.func7, Tryd.ntmps7
  go_wp2_with (first
    | (go_at_call 15; have _t := tok1; refine (HA.out _ HL.out).mono ?_; rintro e w1 ⟨he, hB1⟩; subst he; have HB1 := Lib.hid (show Ext w w1 from hB1); clear hB1 tok1)
    | (go_at_call 15; refine (HA.out _ (Laid_ext HL.out HB2.out)).mono ?_; rintro e w3 ⟨he, hB⟩; subst he; have HB3 := Lib.hid (Ext.trans HB2.out hB); clear hB)
    | (go_at_call 16; refine (HF.out _ HB1.out).mono ?_; rintro e w2 ⟨he, hB2⟩; subst he; have HB2 := Lib.hid (Ext.trans HB1.out hB2); clear hB2))
  go_ret
  exact ⟨rfl, HB3.out⟩
set_option maxHeartbeats 1600000 in
set_option maxRecDepth 100000 in
theorem scomp_N2 (HA : Hid Awake2Ok) (ss ts : List Bd) (xs xt : Option Addr) (cs ct : Nat) (w : World) (hL : Laid w) (hb : ss.length * 112 ≤ 140737488355328) (hR : Row w (flatB ss) xs) (hbt : ts.length * 112 ≤ 140737488355328) (hRt : Row w (flatB ts) xt) (h1 : few (flatB ss) (2 * 20) 600 = true) (h2 : few (flatB ts) (2 * 20) 600 = false) :
    Calls Tryd.prog 7 #[.slice xs ss.length cs, .slice xt ts.length ct] w fun e w' => e = .returned (.bool true) ∧ Below w.heap.size w w' := by
  have HL := Lib.hid hL
  have HF := Lib.hid (fun W (x : Ext w W) => few02_any ss xs cs 20 600 W hb (by omega) (by omega) (by omega) (Row_below (w' := W) hR x))
  have HG := Lib.hid (fun W (x : Ext w W) => few02_any ts xt ct 20 600 W hbt (by omega) (by omega) (by omega) (Row_below (w' := W) hRt x))
  rw [h1] at HF
  rw [h2] at HG
  have tok1 : True := trivial
  have tok2 : True := trivial
  clear h1 h2 hL hb hR hbt hRt
  go_enter Tryd.func7, Tryd.ntmps7
  go_wp2_with (first
    | (go_at_call 15; have _t := tok1; refine (HA.out _ HL.out).mono ?_; rintro e w1 ⟨he, hB1⟩; subst he; have HB1 := Lib.hid (show Ext w w1 from hB1); clear hB1 tok1)
    | (go_at_call 15; refine (HA.out _ (Laid_ext HL.out HB3.out)).mono ?_; rintro e w4 ⟨he, hB⟩; subst he; have HB4 := Lib.hid (Ext.trans HB3.out hB); clear hB)
    | (go_at_call 16; have _t := tok2; refine (HF.out _ HB1.out).mono ?_; rintro e w2 ⟨he, hB2⟩; subst he; have HB2 := Lib.hid (Ext.trans HB1.out hB2); clear hB2 tok2)
    | (go_at_call 16; refine (HG.out _ HB2.out).mono ?_; rintro e w3 ⟨he, hB3⟩; subst he; have HB3 := Lib.hid (Ext.trans HB2.out hB3); clear hB3))
  go_ret
  exact ⟨rfl, HB4.out⟩
theorem lawSc_any (HA : Awake2Ok) (ss ts : List Bd) (xs xt : Option Addr) (cs ct : Nat) (w : World) (hL : Laid w) (hcs : ss.length ≤ cs) (hb : ss.length * 112 ≤ 140737488355328) (hR : Row w (flatB ss) xs) (hct : ts.length ≤ ct) (hbt : ts.length * 112 ≤ 140737488355328) (hRt : Row w (flatB ts) xt) :
    Calls Tryd.prog 7 #[.slice xs ss.length cs, .slice xt ts.length ct] w fun e w' => e = .returned (.bool true) ∧ Below w.heap.size w w' := by
  cases h : few (flatB ss) (2 * 20) 600 with
  | false => exact scomp_N1 (Lib.hid HA) ss ts xs xt cs ct w hL hb hR h
  | true =>
    cases h2 : few (flatB ts) (2 * 20) 600 with
    | false => exact scomp_N2 (Lib.hid HA) ss ts xs xt cs ct w hL hb hR hbt hRt h h2
    | true => exact scomp_S (Lib.hid HA) ss ts xs xt cs ct w hL hcs hb hR hct hbt hRt h h2
end Go.Proofs.YtkdnfioihhfmpaaDoor
