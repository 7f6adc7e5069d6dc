/-
  THE WALKS OF the law TermReplace, the chapter's examples by hypothesis.
-/
import Derived.Test.YthhhmjjgckkdhaaDoorLawSizesW
import Derived.Test.YthhhmjjgckkdhaaDoorRepP
import Derived.Test.YthhhmjjgckkdhaaDoorLawPosW
import Derived.Deep.DeepCutAuto
namespace Go.Proofs.YthhhmjjgckkdhaaDoor
open Go.RowKit

theorem heap_lt {w : World} {b : Nat} {o : Obj} (h : w.heap[b]? = some o) : b < w.heap.size := (Array.getElem?_eq_some_iff.1 h).1
theorem two_boxes {w W : World} {t0 t1 t2 t3 u0 u1 u2 u3 : Value} (h : Ext ((w.alloc (.cells #[t0, t1, t2, t3] 24)).alloc (.cells #[u0, u1, u2, u3] 24)) W) : W.cell? ⟨w.heap.size, 0, none⟩ = some t0 ∧ W.cell? ⟨w.heap.size, 1, none⟩ = some t1 ∧ W.cell? ⟨w.heap.size, 2, none⟩ = some t2 ∧ W.cell? ⟨w.heap.size, 3, none⟩ = some t3 ∧ W.cell? ⟨w.heap.size + 1, 0, none⟩ = some u0 ∧ W.cell? ⟨w.heap.size + 1, 1, none⟩ = some u1 ∧ W.cell? ⟨w.heap.size + 1, 2, none⟩ = some u2 ∧ W.cell? ⟨w.heap.size + 1, 3, none⟩ = some u3 := by
  have k1 : W.heap[w.heap.size]? = some (.cells #[t0, t1, t2, t3] 24 (0, 0)) := by
    rw [h.block _ (by simp; omega), Below.heap_alloc _ _ _ (by simp)]; exact heap_alloc_new w _
  have k2 : W.heap[w.heap.size + 1]? = some (.cells #[u0, u1, u2, u3] 24 (0, 0)) := by
    rw [h.block _ (by simp)]
    have := heap_alloc_new (w.alloc (.cells #[t0, t1, t2, t3] 24)) (.cells #[u0, u1, u2, u3] 24)
    rw [World.size_alloc] at this; exact this
  obtain ⟨⟨a0, a1, a2, a3⟩, _⟩ := box_facts k1
  obtain ⟨⟨b0, b1, b2, b3⟩, _⟩ := box_facts k2
  exact ⟨a0, a1, a2, a3, b0, b1, b2, b3⟩
theorem same_self {t : Tm} {W : World} {a0 a1 a2 a3 b0 b1 b2 b3 : Value} (hs : size t ≤ 400) (h : Is W t a0 a1 a2 a3) (k : Is W t b0 b1 b2 b3) : Calls Tryd.prog 18 #[.agg #[a0, a1, a2, a3], .agg #[b0, b1, b2, b3]] W fun e w' => e = .returned (.bool true) ∧ Below W.heap.size W w' := by
  refine (same_any t t _ _ _ _ _ _ _ _ W (by omega) (by omega) h k).mono fun e w' hh => ?_
  have hz : (cmpT t t == 0) = true := by rw [cmpT_self]; rfl
  rw [hz] at hh
  exact hh
theorem few2_sizes {t u : Tm} (h : few [t, u] 2 200 = true) : size t ≤ 200 ∧ size u ≤ 200 := by
  simp only [few] at h
  rw [if_neg (by simp)] at h
  have := fewL_sizes [t, u] 200 (by omega) h
  simp only [sizes] at this; omega

set_option maxHeartbeats 3200000 in
set_option maxRecDepth 100000 in
theorem replace_large (HA : Hid AwakeOk) (t u : Tm) (p : List Int) (t0 t1 t2 t3 u0 u1 u2 u3 v : Value) (w : World) (hL : Laid w) (hI : Is w t t0 t1 t2 t3) (hJ : Is w u u0 u1 u2 u3) (hp : IntsC w v p) (h1 : few [t, u] 2 200 = false) :
    Calls Tryd.prog 9 #[.agg #[t0, t1, t2, t3], .agg #[u0, u1, u2, u3], v] w fun e w' => e = .returned (.bool true) ∧ Below w.heap.size w w' := by
  have H1 := Lib.hid h1
  have HL := Lib.hid hL
  have hX : Ext w ((w.alloc (.cells #[t0, t1, t2, t3] 24)).alloc (.cells #[u0, u1, u2, u3] 24)) := ((Ext.refl w).alloc _).alloc _
  have HX := Lib.hid hX
  have HX0 : Hid (Ext ((w.alloc (.cells #[t0, t1, t2, t3] 24)).alloc (.cells #[u0, u1, u2, u3] 24)) ((w.alloc (.cells #[t0, t1, t2, t3] 24)).alloc (.cells #[u0, u1, u2, u3] 24))) := Ext.refl _
  have HIt : Hid (∀ W, Ext ((w.alloc (.cells #[t0, t1, t2, t3] 24)).alloc (.cells #[u0, u1, u2, u3] 24)) W → Is W t t0 t1 t2 t3) := fun W h => Is_below (Is_below hI hX) h
  have HIu : Hid (∀ W, Ext ((w.alloc (.cells #[t0, t1, t2, t3] 24)).alloc (.cells #[u0, u1, u2, u3] 24)) W → Is W u u0 u1 u2 u3) := fun W h => Is_below (Is_below hJ hX) h
  have HP : Hid (∀ W, Ext ((w.alloc (.cells #[t0, t1, t2, t3] 24)).alloc (.cells #[u0, u1, u2, u3] 24)) W → IntsC W v p) := fun W h => IntsC_below (IntsC_below hp hX) h
  have HC : Hid (∀ W, Ext ((w.alloc (.cells #[t0, t1, t2, t3] 24)).alloc (.cells #[u0, u1, u2, u3] 24)) W → W.cell? ⟨w.heap.size, 0, none⟩ = some t0 ∧ W.cell? ⟨w.heap.size, 1, none⟩ = some t1 ∧ W.cell? ⟨w.heap.size, 2, none⟩ = some t2 ∧ W.cell? ⟨w.heap.size, 3, none⟩ = some t3 ∧ W.cell? ⟨w.heap.size + 1, 0, none⟩ = some u0 ∧ W.cell? ⟨w.heap.size + 1, 1, none⟩ = some u1 ∧ W.cell? ⟨w.heap.size + 1, 2, none⟩ = some u2 ∧ W.cell? ⟨w.heap.size + 1, 3, none⟩ = some u3) := fun W h => two_boxes h
  obtain ⟨xa, cap, rfl, hlc, hcm, _⟩ := hp
  unfold maxLen at hcm
  clear h1 hL hX hI hJ
  go_enter Tryd.func9, Tryd.ntmps9
  go_wp2_with (first
    | (go_at_call 11; (first | (have HQ := Lib.hid HB2.out) | (have HQ := Lib.hid HX0.out)); refine (HA.out _ (Laid_ext HL.out (Ext.trans HX.out HQ.out))).mono ?_; rintro e w1 ⟨he, hB1⟩; subst he; have HB1 := Lib.hid (Ext.trans HQ.out hB1); obtain ⟨a0, a1, a2, a3, b0, b1, b2, b3⟩ := HC.out _ HB1.out; clear hB1)
    | (go_at_call 24; refine (few_any [t, u] _ 2 2 200 _ (by simp [maxLen]) (by omega) (by omega) (Row_two_at _ rfl (HIt.out _ HB1.out) (HIu.out _ HB1.out) 24)).mono ?_; rintro e w2 ⟨he, hB2⟩; rw [H1.out] at he; subst he; have HB2 := Lib.hid (Ext.trans (Ext.alloc HB1.out _) hB2); clear hB2))
  go_ret
  exact ⟨rfl, Ext.trans (a := w) HX.out HB1.out⟩

set_option maxHeartbeats 3200000 in
set_option maxRecDepth 100000 in
theorem replace_long (HA : Hid AwakeOk) (t u : Tm) (p : List Int) (t0 t1 t2 t3 u0 u1 u2 u3 v : Value) (w : World) (hL : Laid w) (hI : Is w t t0 t1 t2 t3) (hJ : Is w u u0 u1 u2 u3) (hp : IntsC w v p) (h1 : few [t, u] 2 200 = true) (h60 : 60 < (p.length : Int)) :
    Calls Tryd.prog 9 #[.agg #[t0, t1, t2, t3], .agg #[u0, u1, u2, u3], v] w fun e w' => e = .returned (.bool true) ∧ Below w.heap.size w w' := by
  have H1 := Lib.hid h1
  have HL := Lib.hid hL
  have hX : Ext w ((w.alloc (.cells #[t0, t1, t2, t3] 24)).alloc (.cells #[u0, u1, u2, u3] 24)) := ((Ext.refl w).alloc _).alloc _
  have HX := Lib.hid hX
  have HX0 : Hid (Ext ((w.alloc (.cells #[t0, t1, t2, t3] 24)).alloc (.cells #[u0, u1, u2, u3] 24)) ((w.alloc (.cells #[t0, t1, t2, t3] 24)).alloc (.cells #[u0, u1, u2, u3] 24))) := Ext.refl _
  have HIt : Hid (∀ W, Ext ((w.alloc (.cells #[t0, t1, t2, t3] 24)).alloc (.cells #[u0, u1, u2, u3] 24)) W → Is W t t0 t1 t2 t3) := fun W h => Is_below (Is_below hI hX) h
  have HIu : Hid (∀ W, Ext ((w.alloc (.cells #[t0, t1, t2, t3] 24)).alloc (.cells #[u0, u1, u2, u3] 24)) W → Is W u u0 u1 u2 u3) := fun W h => Is_below (Is_below hJ hX) h
  have HP : Hid (∀ W, Ext ((w.alloc (.cells #[t0, t1, t2, t3] 24)).alloc (.cells #[u0, u1, u2, u3] 24)) W → IntsC W v p) := fun W h => IntsC_below (IntsC_below hp hX) h
  have HC : Hid (∀ W, Ext ((w.alloc (.cells #[t0, t1, t2, t3] 24)).alloc (.cells #[u0, u1, u2, u3] 24)) W → W.cell? ⟨w.heap.size, 0, none⟩ = some t0 ∧ W.cell? ⟨w.heap.size, 1, none⟩ = some t1 ∧ W.cell? ⟨w.heap.size, 2, none⟩ = some t2 ∧ W.cell? ⟨w.heap.size, 3, none⟩ = some t3 ∧ W.cell? ⟨w.heap.size + 1, 0, none⟩ = some u0 ∧ W.cell? ⟨w.heap.size + 1, 1, none⟩ = some u1 ∧ W.cell? ⟨w.heap.size + 1, 2, none⟩ = some u2 ∧ W.cell? ⟨w.heap.size + 1, 3, none⟩ = some u3) := fun W h => two_boxes h
  obtain ⟨xa, cap, rfl, hlc, hcm, _⟩ := hp
  unfold maxLen at hcm
  clear h1 hL hX hI hJ
  go_enter Tryd.func9, Tryd.ntmps9
  go_wp2_with (first
    | (go_at_call 11; (first | (have HQ := Lib.hid HB2.out) | (have HQ := Lib.hid HX0.out)); refine (HA.out _ (Laid_ext HL.out (Ext.trans HX.out HQ.out))).mono ?_; rintro e w1 ⟨he, hB1⟩; subst he; have HB1 := Lib.hid (Ext.trans HQ.out hB1); obtain ⟨a0, a1, a2, a3, b0, b1, b2, b3⟩ := HC.out _ HB1.out; clear hB1)
    | (go_at_call 24; refine (few_any [t, u] _ 2 2 200 _ (by simp [maxLen]) (by omega) (by omega) (Row_two_at _ rfl (HIt.out _ HB1.out) (HIu.out _ HB1.out) 24)).mono ?_; rintro e w2 ⟨he, hB2⟩; rw [H1.out] at he; subst he; have HB2 := Lib.hid (Ext.trans (Ext.alloc HB1.out _) hB2); clear hB2))
  go_ret
  exact ⟨rfl, Ext.trans (a := w) HX.out HB1.out⟩

set_option maxHeartbeats 3200000 in
set_option maxRecDepth 100000 in
theorem replace_N (HA : Hid AwakeOk) (t u : Tm) (p : List Int) (t0 t1 t2 t3 u0 u1 u2 u3 v : Value) (w : World) (hL : Laid w) (hI : Is w t t0 t1 t2 t3) (hJ : Is w u u0 u1 u2 u3) (hp : IntsC w v p) (h1 : few [t, u] 2 200 = true) (h60 : p.length ≤ 60) (hno : atT t p = none) :
    Calls Tryd.prog 9 #[.agg #[t0, t1, t2, t3], .agg #[u0, u1, u2, u3], v] w fun e w' => e = .returned (.bool true) ∧ Below w.heap.size w w' := by
  obtain ⟨hst, hsu⟩ := few2_sizes h1
  have H1 := Lib.hid h1
  have HL := Lib.hid hL
  have hX : Ext w ((w.alloc (.cells #[t0, t1, t2, t3] 24)).alloc (.cells #[u0, u1, u2, u3] 24)) := ((Ext.refl w).alloc _).alloc _
  have HX := Lib.hid hX
  have HX0 : Hid (Ext ((w.alloc (.cells #[t0, t1, t2, t3] 24)).alloc (.cells #[u0, u1, u2, u3] 24)) ((w.alloc (.cells #[t0, t1, t2, t3] 24)).alloc (.cells #[u0, u1, u2, u3] 24))) := Ext.refl _
  have HIt : Hid (∀ W, Ext ((w.alloc (.cells #[t0, t1, t2, t3] 24)).alloc (.cells #[u0, u1, u2, u3] 24)) W → Is W t t0 t1 t2 t3) := fun W h => Is_below (Is_below hI hX) h
  have HIu : Hid (∀ W, Ext ((w.alloc (.cells #[t0, t1, t2, t3] 24)).alloc (.cells #[u0, u1, u2, u3] 24)) W → Is W u u0 u1 u2 u3) := fun W h => Is_below (Is_below hJ hX) h
  have HP : Hid (∀ W, Ext ((w.alloc (.cells #[t0, t1, t2, t3] 24)).alloc (.cells #[u0, u1, u2, u3] 24)) W → IntsC W v p) := fun W h => IntsC_below (IntsC_below hp hX) h
  have HC : Hid (∀ W, Ext ((w.alloc (.cells #[t0, t1, t2, t3] 24)).alloc (.cells #[u0, u1, u2, u3] 24)) W → W.cell? ⟨w.heap.size, 0, none⟩ = some t0 ∧ W.cell? ⟨w.heap.size, 1, none⟩ = some t1 ∧ W.cell? ⟨w.heap.size, 2, none⟩ = some t2 ∧ W.cell? ⟨w.heap.size, 3, none⟩ = some t3 ∧ W.cell? ⟨w.heap.size + 1, 0, none⟩ = some u0 ∧ W.cell? ⟨w.heap.size + 1, 1, none⟩ = some u1 ∧ W.cell? ⟨w.heap.size + 1, 2, none⟩ = some u2 ∧ W.cell? ⟨w.heap.size + 1, 3, none⟩ = some u3) := fun W h => two_boxes h
  obtain ⟨xa, cap, rfl, hlc, hcm, _⟩ := hp
  unfold maxLen at hcm
  clear h1 hL hX hI hJ
  go_enter Tryd.func9, Tryd.ntmps9
  go_wp2_with (first
    | (go_at_call 11; refine (HA.out _ (Laid_ext HL.out HX.out)).mono ?_; rintro e w1 ⟨he, hB1⟩; subst he; have HB1 : Hid (Ext ((w.alloc (.cells #[t0, t1, t2, t3] 24)).alloc (.cells #[u0, u1, u2, u3] 24)) w1) := Lib.hid hB1; obtain ⟨a0, a1, a2, a3, b0, b1, b2, b3⟩ := HC.out _ HB1.out; clear hB1)
    | (go_at_call 24; refine (few_any [t, u] _ 2 2 200 _ (by simp [maxLen]) (by omega) (by omega) (Row_two_at _ rfl (HIt.out _ HB1.out) (HIu.out _ HB1.out) 24)).mono ?_; rintro e w2 ⟨he, hB2⟩; rw [H1.out] at he; subst he; have HB2 := Lib.hid (Ext.trans (Ext.alloc HB1.out _) hB2); clear hB2))
  have HC2 : Hid (∀ W, Ext w2 W → W.cell? ⟨w.heap.size, 0, none⟩ = some t0 ∧ W.cell? ⟨w.heap.size, 1, none⟩ = some t1 ∧ W.cell? ⟨w.heap.size, 2, none⟩ = some t2 ∧ W.cell? ⟨w.heap.size, 3, none⟩ = some t3 ∧ W.cell? ⟨w.heap.size + 1, 0, none⟩ = some u0 ∧ W.cell? ⟨w.heap.size + 1, 1, none⟩ = some u1 ∧ W.cell? ⟨w.heap.size + 1, 2, none⟩ = some u2 ∧ W.cell? ⟨w.heap.size + 1, 3, none⟩ = some u3) := fun W h => HC.out W (Ext.trans HB2.out h)
  have HREP : Hid (∀ W v', Ext w2 W → IntsV W v' p → Calls Tryd.prog 39 #[.agg #[t0, t1, t2, t3], v', .agg #[u0, u1, u2, u3]] W (ResI 7 noneT W)) := fun W v' h hv => Replace_N (by omega) (by omega) (HIt.out W (Ext.trans HB2.out h)) (HIu.out W (Ext.trans HB2.out h)) hv hno
  have HPC : Hid (∀ W, Ext w2 W → IntsC W (.slice xa p.length cap) p) := fun W h => HP.out W (Ext.trans HB2.out h)
  have hF0 : Ext w2 w2.drew := (Ext.refl w2).drew
  obtain ⟨a0, a1, a2, a3, b0, b1, b2, b3⟩ := HC2.out _ (Ext.refl w2)
  go_cut [7, 8] (fun v7 v8 wc => ∃ B, v7 = .pointer (some ⟨B, 0, none⟩) ∧ v8 = .int .i64 7 ∧ Lies wc noneT B 0 ∧ Ext w2 wc)
  case first =>
    go_region_held3 (fun W => W.cell? ⟨w.heap.size, 0, none⟩ = some t0 ∧ W.cell? ⟨w.heap.size, 1, none⟩ = some t1 ∧ W.cell? ⟨w.heap.size, 2, none⟩ = some t2 ∧ W.cell? ⟨w.heap.size, 3, none⟩ = some t3 ∧ W.cell? ⟨w.heap.size + 1, 0, none⟩ = some u0 ∧ W.cell? ⟨w.heap.size + 1, 1, none⟩ = some u1 ∧ W.cell? ⟨w.heap.size + 1, 2, none⟩ = some u2 ∧ W.cell? ⟨w.heap.size + 1, 3, none⟩ = some u3)
      (first | exact HC2.out _ (by assumption) | exact HC2.out _ (Ext.alloc (by assumption) _) | exact HC2.out _ (Ext.drew (Ext.alloc (Ext.refl w2) _)) | (have r2 := put4_below (w' := w4) (g := w2.heap.size) (o := 0) (c0 := (.int .i64 kr)) (c1 := (.string nr)) (c2 := (.int .i64 sr)) (c3 := (.slice xr lr cr)) hF2 (by have := hF1.size; omega); simp only [put4, Nat.zero_add] at r2; exact HC2.out _ r2) | (have r2 := put4_below (w' := w4) (g := w3.heap.size) (o := 0) (c0 := (.int .i64 kr)) (c1 := (.string nr)) (c2 := (.int .i64 sr)) (c3 := (.slice xr lr cr)) hF2 (by have := hF1.size; omega); simp only [put4, Nat.zero_add] at r2; exact HC2.out _ r2) | go_keep)
      (first
        | (go_at_call 40; refine (clonez_any _ p _ (HPC.out _ (by first | exact hF0 | exact Ext.drew (Ext.alloc (Ext.refl w2) _))) (by omega)).mono ?_; rintro e w3 ⟨v3, he, hv, hB⟩; subst he; have HV := Lib.hid hv; obtain ⟨xv, cv, hv3, _⟩ := hv; subst hv3; have hF1 : Ext w2 w3 := Ext.trans (by first | exact hF0 | exact Ext.drew (Ext.alloc (Ext.refl w2) _)) hB; (first | (have HZ3 := Lib.hid ((hB.block w2.heap.size (by simp)).trans (heap_alloc_new w2 _))) | skip); clear hB)
        | (go_at_call 39; refine (HREP.out _ _ ?_ ?_).mono ?_; (exact (by first | exact hF1 | exact hF1.alloc _)); (first | exact HV.out | exact IntsV_below HV.out ((Ext.refl w3).alloc _)); rintro e w4 ⟨kr, nr, sr, xr, lr, cr, he, hJ, hB⟩; subst he; have hF2 : Ext w2 w4 := Ext.trans (by first | exact hF1 | exact hF1.alloc _) hB; have HJ := Lib.hid hJ; (first | (have HZ := Lib.hid ((hB.block w2.heap.size (by have := HZ3; have := (heap_lt HZ3.out); omega)).trans HZ3.out); obtain ⟨⟨z0, z1, z2, z3⟩, zf0, zf1, zf2, zf3⟩ := box_facts (w := w4) (b := w2.heap.size) HZ.out) | (have HZ := Lib.hid ((hB.block w3.heap.size (by simp)).trans (heap_alloc_new w3 _)); obtain ⟨⟨z0, z1, z2, z3⟩, zf0, zf1, zf2, zf3⟩ := box_facts (w := w4) (b := w3.heap.size) HZ.out) | skip); clear hB hJ))
    all_goals go_wp2_with fail
    all_goals go_meet
    all_goals first
      | (have r := Lies_put4 HZ.out HJ.out (fun b hb => by have := heap_lt HZ3.out; omega)
         have r2 := put4_below (w' := w4) (g := w2.heap.size) (o := 0) (c0 := (.int .i64 kr)) (c1 := (.string nr)) (c2 := (.int .i64 sr)) (c3 := (.slice xr lr cr)) hF2 (Nat.le_refl _)
         simp only [put4, Nat.zero_add] at r r2
         exact ⟨w2.heap.size, rfl, rfl, r, r2⟩)
      | (have r := Lies_put4 HZ.out HJ.out (fun b hb => by simp only [World.size_alloc] at hb; omega)
         have r2 := put4_below (w' := w4) (g := w3.heap.size) (o := 0) (c0 := (.int .i64 kr)) (c1 := (.string nr)) (c2 := (.int .i64 sr)) (c3 := (.slice xr lr cr)) hF2 hF1.size
         simp only [put4, Nat.zero_add] at r r2
         exact ⟨w3.heap.size, rfl, rfl, r, r2⟩)
      | exact ⟨w4.heap.size, rfl, rfl, Lies_box (IsIn_Is _ _ _ _ _ HJ.out) _, hF2.alloc _⟩
  case rest =>
    obtain ⟨B, rfl, rfl, hL7, hE⟩ := hcut
    obtain ⟨k7, n7, s7, x7, l7, c7, f0, f1, f2, f3, hJ7⟩ := Lies_cells hL7
    have HEw : Hid (Ext ((w.alloc (.cells #[t0, t1, t2, t3] 24)).alloc (.cells #[u0, u1, u2, u3] 24)) wc) := Lib.hid (Ext.trans HB2.out hE)
    have HC7 : Hid (∀ W, Ext wc W → (W.cell? ⟨w.heap.size, 0, none⟩ = some t0 ∧ W.cell? ⟨w.heap.size, 1, none⟩ = some t1 ∧ W.cell? ⟨w.heap.size, 2, none⟩ = some t2 ∧ W.cell? ⟨w.heap.size, 3, none⟩ = some t3 ∧ W.cell? ⟨w.heap.size + 1, 0, none⟩ = some u0 ∧ W.cell? ⟨w.heap.size + 1, 1, none⟩ = some u1 ∧ W.cell? ⟨w.heap.size + 1, 2, none⟩ = some u2 ∧ W.cell? ⟨w.heap.size + 1, 3, none⟩ = some u3) ∧ W.cell? ⟨B, 0, none⟩ = some (.int .i64 k7) ∧ W.cell? ⟨B, 1, none⟩ = some (.string n7) ∧ W.cell? ⟨B, 2, none⟩ = some (.int .i64 s7) ∧ W.cell? ⟨B, 3, none⟩ = some (.slice x7 l7 c7)) := fun W h => ⟨HC.out W (Ext.trans HEw.out h), keep_below h _ _ f0, keep_below h _ _ f1, keep_below h _ _ f2, keep_below h _ _ f3⟩
    have HJ7 : Hid (∀ W, Ext wc W → Is W noneT (.int .i64 k7) (.string n7) (.int .i64 s7) (.slice x7 l7 c7)) := fun W h => Is_below hJ7 h
    have HRR : Hid (∀ W, Ext wc W → Calls Tryd.prog 41 #[.agg #[t0, t1, t2, t3], .slice xa p.length cap, .agg #[u0, u1, u2, u3]] W (ResE 7 noneT W)) := fun W h => rrep_N (by omega) (HIt.out W (Ext.trans HEw.out h)) (HIu.out W (Ext.trans HEw.out h)) (HP.out W (Ext.trans HEw.out h)) hno
    have HAT : Hid (∀ W, Ext wc W → Calls Tryd.prog 37 #[.agg #[t0, t1, t2, t3], .slice xa p.length cap] W (ResE 7 noneT W)) := fun W h => At_N (by omega) (HIt.out W (Ext.trans HEw.out h)) (IntsC_V (HP.out W (Ext.trans HEw.out h))) hno
    have HRA : Hid (∀ W, Ext wc W → Calls Tryd.prog 42 #[.agg #[t0, t1, t2, t3], .slice xa p.length cap] W (ResE 7 noneT W)) := fun W h => rat_N (HIt.out W (Ext.trans HEw.out h)) (IntsC_V (HP.out W (Ext.trans HEw.out h))) hno
    have hRs : size noneT ≤ 400 := (by simp [noneT, size, sizes])
    have hXs : size noneT ≤ 400 := (by simp [noneT, size, sizes])
    have HSR : Hid (∀ (W : World) (a0 a1 a2 a3 b0 b1 b2 b3 : Value), Is W noneT a0 a1 a2 a3 → Is W noneT b0 b1 b2 b3 → Calls Tryd.prog 18 #[.agg #[a0, a1, a2, a3], .agg #[b0, b1, b2, b3]] W fun e w' => e = .returned (.bool true) ∧ Below W.heap.size W w') := fun W a0 a1 a2 a3 b0 b1 b2 b3 h k => same_self hRs h k
    have HSX : Hid (∀ (W : World) (a0 a1 a2 a3 b0 b1 b2 b3 : Value), Is W noneT a0 a1 a2 a3 → Is W noneT b0 b1 b2 b3 → Calls Tryd.prog 18 #[.agg #[a0, a1, a2, a3], .agg #[b0, b1, b2, b3]] W fun e w' => e = .returned (.bool true) ∧ Below W.heap.size W w') := fun W a0 a1 a2 a3 b0 b1 b2 b3 h k => same_self hXs h k
    have HE0 : Hid (Ext wc wc) := Ext.refl wc
    obtain ⟨⟨a0, a1, a2, a3, b0, b1, b2, b3⟩, _⟩ := HC7.out _ HE0.out
    clear hL7 f0 f1 f2 f3 hJ7 hE hRs hXs hF0
    have tokA : True := trivial
    have tokS1 : True := trivial
    go_wp2_with (first
      | (go_at_call 41; refine (HRR.out _ HE0.out).mono ?_; rintro e w4 ⟨k9, n9, s9, x9, l9, c9, he, hI, hB⟩; subst he; have HJ9 : Hid (∀ W, Ext (w4.alloc (.cells #[.int .i64 k9, .string n9, .int .i64 s9, .slice x9 l9 c9] 24)) W → Is W noneT (.int .i64 k9) (.string n9) (.int .i64 s9) (.slice x9 l9 c9)) := (fun W h => Is_below (Is_alloc hI _) h); have HC9 : Hid (∀ W, Ext (w4.alloc (.cells #[.int .i64 k9, .string n9, .int .i64 s9, .slice x9 l9 c9] 24)) W → W.cell? ⟨w4.heap.size, 0, none⟩ = some (.int .i64 k9) ∧ W.cell? ⟨w4.heap.size, 1, none⟩ = some (.string n9) ∧ W.cell? ⟨w4.heap.size, 2, none⟩ = some (.int .i64 s9) ∧ W.cell? ⟨w4.heap.size, 3, none⟩ = some (.slice x9 l9 c9)) := (fun W h => box_ext h); have HE4 : Hid (Ext wc (w4.alloc (.cells #[.int .i64 k9, .string n9, .int .i64 s9, .slice x9 l9 c9] 24))) := Lib.hid (Ext.alloc hB _); obtain ⟨⟨a0, a1, a2, a3, b0, b1, b2, b3⟩, _⟩ := HC7.out _ HE4.out; clear hI hB)
      | (go_at_call 37; have _t := tokA; refine (HAT.out _ HE4.out).mono ?_; rintro e w5 ⟨kb, nb, sb, xb, lb, cb, he, hI, hB⟩; subst he; have HJb : Hid (∀ W, Ext (w5.alloc (.cells #[.int .i64 kb, .string nb, .int .i64 sb, .slice xb lb cb] 24)) W → Is W noneT (.int .i64 kb) (.string nb) (.int .i64 sb) (.slice xb lb cb)) := (fun W h => Is_below (Is_alloc hI _) h); have HCb : Hid (∀ W, Ext (w5.alloc (.cells #[.int .i64 kb, .string nb, .int .i64 sb, .slice xb lb cb] 24)) W → W.cell? ⟨w5.heap.size, 0, none⟩ = some (.int .i64 kb) ∧ W.cell? ⟨w5.heap.size, 1, none⟩ = some (.string nb) ∧ W.cell? ⟨w5.heap.size, 2, none⟩ = some (.int .i64 sb) ∧ W.cell? ⟨w5.heap.size, 3, none⟩ = some (.slice xb lb cb)) := (fun W h => box_ext h); have HE45 : Hid (Ext (w4.alloc (.cells #[.int .i64 k9, .string n9, .int .i64 s9, .slice x9 l9 c9] 24)) (w5.alloc (.cells #[.int .i64 kb, .string nb, .int .i64 sb, .slice xb lb cb] 24))) := Lib.hid (Ext.alloc hB _); have HE5 : Hid (Ext wc (w5.alloc (.cells #[.int .i64 kb, .string nb, .int .i64 sb, .slice xb lb cb] 24))) := Lib.hid (Ext.trans HE4.out HE45.out); obtain ⟨⟨a0, a1, a2, a3, b0, b1, b2, b3⟩, _⟩ := HC7.out _ HE5.out; clear hI hB; clear tokA)
      | (go_at_call 42; refine (HRA.out _ HE5.out).mono ?_; rintro e w6 ⟨kd, nd, sd, xd, ld, cd, he, hI, hB⟩; subst he; have HJd : Hid (∀ W, Ext (w6.alloc (.cells #[.int .i64 kd, .string nd, .int .i64 sd, .slice xd ld cd] 24)) W → Is W noneT (.int .i64 kd) (.string nd) (.int .i64 sd) (.slice xd ld cd)) := (fun W h => Is_below (Is_alloc hI _) h); have HCd : Hid (∀ W, Ext (w6.alloc (.cells #[.int .i64 kd, .string nd, .int .i64 sd, .slice xd ld cd] 24)) W → W.cell? ⟨w6.heap.size, 0, none⟩ = some (.int .i64 kd) ∧ W.cell? ⟨w6.heap.size, 1, none⟩ = some (.string nd) ∧ W.cell? ⟨w6.heap.size, 2, none⟩ = some (.int .i64 sd) ∧ W.cell? ⟨w6.heap.size, 3, none⟩ = some (.slice xd ld cd)) := (fun W h => box_ext h); have HE56 : Hid (Ext (w5.alloc (.cells #[.int .i64 kb, .string nb, .int .i64 sb, .slice xb lb cb] 24)) (w6.alloc (.cells #[.int .i64 kd, .string nd, .int .i64 sd, .slice xd ld cd] 24))) := Lib.hid (Ext.alloc hB _); have HE6 : Hid (Ext wc (w6.alloc (.cells #[.int .i64 kd, .string nd, .int .i64 sd, .slice xd ld cd] 24))) := Lib.hid (Ext.trans HE5.out HE56.out);
         have HALL : Hid (∀ W, Ext (w6.alloc (.cells #[.int .i64 kd, .string nd, .int .i64 sd, .slice xd ld cd] 24)) W → (W.cell? ⟨B, 0, none⟩ = some (.int .i64 k7) ∧ W.cell? ⟨B, 1, none⟩ = some (.string n7) ∧ W.cell? ⟨B, 2, none⟩ = some (.int .i64 s7) ∧ W.cell? ⟨B, 3, none⟩ = some (.slice x7 l7 c7)) ∧ (W.cell? ⟨w4.heap.size, 0, none⟩ = some (.int .i64 k9) ∧ W.cell? ⟨w4.heap.size, 1, none⟩ = some (.string n9) ∧ W.cell? ⟨w4.heap.size, 2, none⟩ = some (.int .i64 s9) ∧ W.cell? ⟨w4.heap.size, 3, none⟩ = some (.slice x9 l9 c9)) ∧ (W.cell? ⟨w5.heap.size, 0, none⟩ = some (.int .i64 kb) ∧ W.cell? ⟨w5.heap.size, 1, none⟩ = some (.string nb) ∧ W.cell? ⟨w5.heap.size, 2, none⟩ = some (.int .i64 sb) ∧ W.cell? ⟨w5.heap.size, 3, none⟩ = some (.slice xb lb cb)) ∧ (W.cell? ⟨w6.heap.size, 0, none⟩ = some (.int .i64 kd) ∧ W.cell? ⟨w6.heap.size, 1, none⟩ = some (.string nd) ∧ W.cell? ⟨w6.heap.size, 2, none⟩ = some (.int .i64 sd) ∧ W.cell? ⟨w6.heap.size, 3, none⟩ = some (.slice xd ld cd))) := (fun W h => ⟨(HC7.out W (Ext.trans HE6.out h)).2, HC9.out W (Ext.trans HE45.out (Below.trans HE56.out (h.mono HE56.out.size))), HCb.out W (Ext.trans HE56.out h), HCd.out W h⟩);
         have HS1 : Hid (∀ W, Ext (w6.alloc (.cells #[.int .i64 kd, .string nd, .int .i64 sd, .slice xd ld cd] 24)) W → Calls Tryd.prog 18 #[.agg #[.int .i64 k7, .string n7, .int .i64 s7, .slice x7 l7 c7], .agg #[.int .i64 k9, .string n9, .int .i64 s9, .slice x9 l9 c9]] W fun e w' => e = .returned (.bool true) ∧ Below W.heap.size W w') := (fun W h => HSR.out W _ _ _ _ _ _ _ _ (HJ7.out W (Ext.trans HE6.out h)) (HJ9.out W (Ext.trans HE45.out (Below.trans HE56.out (h.mono HE56.out.size)))));
         have HS2 : Hid (∀ W, Ext (w6.alloc (.cells #[.int .i64 kd, .string nd, .int .i64 sd, .slice xd ld cd] 24)) W → Calls Tryd.prog 18 #[.agg #[.int .i64 kb, .string nb, .int .i64 sb, .slice xb lb cb], .agg #[.int .i64 kd, .string nd, .int .i64 sd, .slice xd ld cd]] W fun e w' => e = .returned (.bool true) ∧ Below W.heap.size W w') := (fun W h => HSX.out W _ _ _ _ _ _ _ _ (HJb.out W (Ext.trans HE56.out h)) (HJd.out W h));
         have HEc : Hid (Ext (w6.alloc (.cells #[.int .i64 kd, .string nd, .int .i64 sd, .slice xd ld cd] 24)) (w6.alloc (.cells #[.int .i64 kd, .string nd, .int .i64 sd, .slice xd ld cd] 24))) := Lib.hid (Ext.refl _); obtain ⟨⟨a0, a1, a2, a3⟩, ⟨b0, b1, b2, b3⟩, ⟨g0, g1, g2, g3⟩, h0, h1, h2, h3⟩ := HALL.out _ HEc.out; clear hI hB)
      | (go_at_call 18; have _t := tokS1; refine (HS1.out _ HEc.out).mono ?_; rintro e w7 ⟨he, hB⟩; subst he; have HEn := Lib.hid (Ext.trans HEc.out hB); clear HEc; have HEc := HEn; clear HEn; obtain ⟨⟨a0, a1, a2, a3⟩, ⟨b0, b1, b2, b3⟩, ⟨g0, g1, g2, g3⟩, h0, h1, h2, h3⟩ := HALL.out _ HEc.out; clear hB; clear tokS1; have tokS2 : True := trivial)
      | (go_at_call 18; have _t := tokS2; refine (HS2.out _ HEc.out).mono ?_; rintro e w7 ⟨he, hB⟩; subst he; have HEn := Lib.hid (Ext.trans HEc.out hB); clear HEc; have HEc := HEn; clear HEn; obtain ⟨⟨a0, a1, a2, a3⟩, ⟨b0, b1, b2, b3⟩, ⟨g0, g1, g2, g3⟩, h0, h1, h2, h3⟩ := HALL.out _ HEc.out; clear hB; clear tokS2; have tokS1 : True := trivial))
    go_ret
    exact ⟨rfl, Ext.trans (a := w) HX.out (Ext.trans HEw.out (Ext.trans HE6.out HEc.out))⟩

end Go.Proofs.YthhhmjjgckkdhaaDoor
