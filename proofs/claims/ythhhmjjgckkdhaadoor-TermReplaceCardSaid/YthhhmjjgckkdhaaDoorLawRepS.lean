/-
  THE WALK OF the law TermReplace where there is such a position, the chapter's examples by hypothesis.
-/
import Derived.Test.YthhhmjjgckkdhaaDoorLawRepW
namespace Go.Proofs.YthhhmjjgckkdhaaDoor
open Go.RowKit

/-- A slice of positions that lies, each element a row of numbers. -/
def PosZ (w : World) (ps : List (List Nat)) (g : Nat) : Prop := ∀ j (h : j < ps.length), ∃ xa cap, w.cell? ⟨g, j, none⟩ = some (.slice xa ps[j].length cap) ∧ IntsC w (.slice xa ps[j].length cap) (zs ps[j])
theorem PosZ_of_RP {H n g cap : Nat} {w : World} {ps : List (List Nat)} {vs : List Value} {F : Nat → Prop} (h : RP H w n ps (.slice (some ⟨g, 0, none⟩) n cap) vs F) (hb : ∀ p ∈ ps, ∀ x ∈ p, x ≤ 9223372036854775807) : PosZ w ps g := fun j hj => by
  obtain ⟨v, h1, gq, c, rfl, hF, ho⟩ := PWL_get h.pl j hj
  have hcell : w.cell? ⟨g, j, none⟩ = some (.slice (some ⟨gq, 0, none⟩) ps[j].length c) := by rw [h.own.cellAt j (by have := h.len; omega)]; exact h1
  refine ⟨_, c, hcell, ?_⟩
  have hzl : (zs ps[j]).length = ps[j].length := by simp [zs]
  have hbj := hb ps[j] (List.getElem_mem hj)
  rcases ho.2 with ⟨e, _⟩ | ⟨g', c', cur, e, _, _, hn, hc, _⟩
  · cases e
  simp only [Value.slice.injEq, Option.some.injEq, Addr.mk.injEq, and_true, true_and] at e
  obtain ⟨rfl, rfl⟩ := e
  refine ⟨_, c, by rw [hzl], by rw [hzl]; exact hn, hc, fun x hx => ?_, fun _ => ⟨gq, 0, rfl, fun i hi => ?_⟩⟩
  · simp only [zs, List.mem_map] at hx
    obtain ⟨z, hz, rfl⟩ := hx
    have := hbj z hz; omega
  · rw [hzl] at hi
    rw [Nat.zero_add, ho.cellAt i (by simpa using hi)]
    simp [ints, zs, hi]

set_option maxHeartbeats 3200000 in
set_option maxRecDepth 100000 in
theorem replace_S (HA : Hid AwakeOk) (t u : Tm) (p : List Int) (t0 t1 t2 t3 u0 u1 u2 u3 v : Value) (w : World) (hL : Laid w) (hI : Is w t t0 t1 t2 t3) (hJ : Is w u u0 u1 u2 u3) (hp : IntsC w v p) (h1 : few [t, u] 2 200 = true) (h60 : p.length ≤ 60) (a x : Tm) (hra : repT t p u = some a) (hax : atT t p = some x) :
    Calls Tryd.prog 9 #[.agg #[t0, t1, t2, t3], .agg #[u0, u1, u2, u3], v] w fun e w' => e = .returned (.bool true) ∧ Below w.heap.size w w' := by
  obtain ⟨hst, hsu⟩ := few2_sizes h1
  have has := rep_size p t u a hra
  have hxs := atT_size p t x hax
  have hus : size u ≤ 400 := by omega
  have H1 := Lib.hid h1
  have HL := Lib.hid hL
  have hX : Ext w ((w.alloc (.cells #[t0, t1, t2, t3] 24)).alloc (.cells #[u0, u1, u2, u3] 24)) := ((Ext.refl w).alloc _).alloc _
  have HX := Lib.hid hX
  have HX0 : Hid (Ext ((w.alloc (.cells #[t0, t1, t2, t3] 24)).alloc (.cells #[u0, u1, u2, u3] 24)) ((w.alloc (.cells #[t0, t1, t2, t3] 24)).alloc (.cells #[u0, u1, u2, u3] 24))) := Ext.refl _
  have HIt : Hid (∀ W, Ext ((w.alloc (.cells #[t0, t1, t2, t3] 24)).alloc (.cells #[u0, u1, u2, u3] 24)) W → Is W t t0 t1 t2 t3) := fun W h => Is_below (Is_below hI hX) h
  have HIu : Hid (∀ W, Ext ((w.alloc (.cells #[t0, t1, t2, t3] 24)).alloc (.cells #[u0, u1, u2, u3] 24)) W → Is W u u0 u1 u2 u3) := fun W h => Is_below (Is_below hJ hX) h
  have HP : Hid (∀ W, Ext ((w.alloc (.cells #[t0, t1, t2, t3] 24)).alloc (.cells #[u0, u1, u2, u3] 24)) W → IntsC W v p) := fun W h => IntsC_below (IntsC_below hp hX) h
  have HC : Hid (∀ W, Ext ((w.alloc (.cells #[t0, t1, t2, t3] 24)).alloc (.cells #[u0, u1, u2, u3] 24)) W → W.cell? ⟨w.heap.size, 0, none⟩ = some t0 ∧ W.cell? ⟨w.heap.size, 1, none⟩ = some t1 ∧ W.cell? ⟨w.heap.size, 2, none⟩ = some t2 ∧ W.cell? ⟨w.heap.size, 3, none⟩ = some t3 ∧ W.cell? ⟨w.heap.size + 1, 0, none⟩ = some u0 ∧ W.cell? ⟨w.heap.size + 1, 1, none⟩ = some u1 ∧ W.cell? ⟨w.heap.size + 1, 2, none⟩ = some u2 ∧ W.cell? ⟨w.heap.size + 1, 3, none⟩ = some u3) := fun W h => two_boxes h
  obtain ⟨xa, cap, rfl, hlc, hcm, _⟩ := hp
  unfold maxLen at hcm
  clear h1 hL hX hI hJ
  go_enter Tryd.func9, Tryd.ntmps9
  go_wp2_with (first
    | (go_at_call 11; refine (HA.out _ (Laid_ext HL.out HX.out)).mono ?_; rintro e w1 ⟨he, hB1⟩; subst he; have HB1 : Hid (Ext ((w.alloc (.cells #[t0, t1, t2, t3] 24)).alloc (.cells #[u0, u1, u2, u3] 24)) w1) := Lib.hid hB1; obtain ⟨a0, a1, a2, a3, b0, b1, b2, b3⟩ := HC.out _ HB1.out; clear hB1)
    | (go_at_call 24; refine (few_any [t, u] _ 2 2 200 _ (by simp [maxLen]) (by omega) (by omega) (Row_two_at _ rfl (HIt.out _ HB1.out) (HIu.out _ HB1.out) 24)).mono ?_; rintro e w2 ⟨he, hB2⟩; rw [H1.out] at he; subst he; have HB2 := Lib.hid (Ext.trans (Ext.alloc HB1.out _) hB2); clear hB2))
  have HC2 : Hid (∀ W, Ext w2 W → W.cell? ⟨w.heap.size, 0, none⟩ = some t0 ∧ W.cell? ⟨w.heap.size, 1, none⟩ = some t1 ∧ W.cell? ⟨w.heap.size, 2, none⟩ = some t2 ∧ W.cell? ⟨w.heap.size, 3, none⟩ = some t3 ∧ W.cell? ⟨w.heap.size + 1, 0, none⟩ = some u0 ∧ W.cell? ⟨w.heap.size + 1, 1, none⟩ = some u1 ∧ W.cell? ⟨w.heap.size + 1, 2, none⟩ = some u2 ∧ W.cell? ⟨w.heap.size + 1, 3, none⟩ = some u3) := fun W h => HC.out W (Ext.trans HB2.out h)
  have HREP : Hid (∀ W v', Ext w2 W → IntsV W v' p → Calls Tryd.prog 39 #[.agg #[t0, t1, t2, t3], v', .agg #[u0, u1, u2, u3]] W (ResI 0 a W)) := fun W v' h hv => Replace_S (by omega) (by omega) (HIt.out W (Ext.trans HB2.out h)) (HIu.out W (Ext.trans HB2.out h)) hv hra
  have HPC : Hid (∀ W, Ext w2 W → IntsC W (.slice xa p.length cap) p) := fun W h => HP.out W (Ext.trans HB2.out h)
  have hF0 : Ext w2 w2.drew := (Ext.refl w2).drew
  obtain ⟨a0, a1, a2, a3, b0, b1, b2, b3⟩ := HC2.out _ (Ext.refl w2)
  go_cut [7, 8] (fun v7 v8 wc => ∃ B, v7 = .pointer (some ⟨B, 0, none⟩) ∧ v8 = .int .i64 0 ∧ Lies wc a B 0 ∧ Ext w2 wc)
  case first =>
    go_region_held3 (fun W => W.cell? ⟨w.heap.size, 0, none⟩ = some t0 ∧ W.cell? ⟨w.heap.size, 1, none⟩ = some t1 ∧ W.cell? ⟨w.heap.size, 2, none⟩ = some t2 ∧ W.cell? ⟨w.heap.size, 3, none⟩ = some t3 ∧ W.cell? ⟨w.heap.size + 1, 0, none⟩ = some u0 ∧ W.cell? ⟨w.heap.size + 1, 1, none⟩ = some u1 ∧ W.cell? ⟨w.heap.size + 1, 2, none⟩ = some u2 ∧ W.cell? ⟨w.heap.size + 1, 3, none⟩ = some u3)
      (first | exact HC2.out _ (by assumption) | exact HC2.out _ (Ext.alloc (by assumption) _) | exact HC2.out _ (Ext.drew (Ext.alloc (Ext.refl w2) _)) | (have r2 := put4_below (w' := w4) (g := w2.heap.size) (o := 0) (c0 := (.int .i64 kr)) (c1 := (.string nr)) (c2 := (.int .i64 sr)) (c3 := (.slice xr lr cr)) hF2 (by have := hF1.size; omega); simp only [put4, Nat.zero_add] at r2; exact HC2.out _ r2) | (have r2 := put4_below (w' := w4) (g := w3.heap.size) (o := 0) (c0 := (.int .i64 kr)) (c1 := (.string nr)) (c2 := (.int .i64 sr)) (c3 := (.slice xr lr cr)) hF2 (by have := hF1.size; omega); simp only [put4, Nat.zero_add] at r2; exact HC2.out _ r2) | go_keep)
      (first
        | (go_at_call 40; refine (clonez_any _ p _ (HPC.out _ (by first | exact hF0 | exact Ext.drew (Ext.alloc (Ext.refl w2) _))) (by omega)).mono ?_; rintro e w3 ⟨v3, he, hv, hB⟩; subst he; have HV := Lib.hid hv; obtain ⟨xv, cv, hv3, _⟩ := hv; subst hv3; have hF1 : Ext w2 w3 := Ext.trans (by first | exact hF0 | exact Ext.drew (Ext.alloc (Ext.refl w2) _)) hB; (first | (have HZ3 := Lib.hid ((hB.block w2.heap.size (by simp)).trans (heap_alloc_new w2 _))) | skip); clear hB)
        | (go_at_call 39; refine (HREP.out _ _ ?_ ?_).mono ?_; (exact (by first | exact hF1 | exact hF1.alloc _)); (first | exact HV.out | exact IntsV_below HV.out ((Ext.refl w3).alloc _)); rintro e w4 ⟨kr, nr, sr, xr, lr, cr, he, hJ, hB⟩; subst he; have hF2 : Ext w2 w4 := Ext.trans (by first | exact hF1 | exact hF1.alloc _) hB; have HJ := Lib.hid hJ; (first | (have HZ := Lib.hid ((hB.block w2.heap.size (by have := HZ3; have := (heap_lt HZ3.out); omega)).trans HZ3.out); obtain ⟨⟨z0, z1, z2, z3⟩, zf0, zf1, zf2, zf3⟩ := box_facts (w := w4) (b := w2.heap.size) HZ.out) | (have HZ := Lib.hid ((hB.block w3.heap.size (by simp)).trans (heap_alloc_new w3 _)); obtain ⟨⟨z0, z1, z2, z3⟩, zf0, zf1, zf2, zf3⟩ := box_facts (w := w4) (b := w3.heap.size) HZ.out) | skip); clear hB hJ))
    all_goals go_wp2_with fail
    all_goals go_meet
    all_goals first
      | (have r := Lies_put4 HZ.out HJ.out (fun b hb => by have := heap_lt HZ3.out; omega)
         have r2 := put4_below (w' := w4) (g := w2.heap.size) (o := 0) (c0 := (.int .i64 kr)) (c1 := (.string nr)) (c2 := (.int .i64 sr)) (c3 := (.slice xr lr cr)) hF2 (Nat.le_refl _)
         simp only [put4, Nat.zero_add] at r r2
         exact ⟨w2.heap.size, rfl, rfl, r, r2⟩)
      | (have r := Lies_put4 HZ.out HJ.out (fun b hb => by simp only [World.size_alloc] at hb; omega)
         have r2 := put4_below (w' := w4) (g := w3.heap.size) (o := 0) (c0 := (.int .i64 kr)) (c1 := (.string nr)) (c2 := (.int .i64 sr)) (c3 := (.slice xr lr cr)) hF2 hF1.size
         simp only [put4, Nat.zero_add] at r r2
         exact ⟨w3.heap.size, rfl, rfl, r, r2⟩)
      | exact ⟨w4.heap.size, rfl, rfl, Lies_box (IsIn_Is _ _ _ _ _ HJ.out) _, hF2.alloc _⟩
  case rest =>
    obtain ⟨B, rfl, rfl, hL7, hE⟩ := hcut
    obtain ⟨k7, n7, s7, x7, l7, c7, f0, f1, f2, f3, hJ7⟩ := Lies_cells hL7
    have HEw : Hid (Ext ((w.alloc (.cells #[t0, t1, t2, t3] 24)).alloc (.cells #[u0, u1, u2, u3] 24)) wc) := Lib.hid (Ext.trans HB2.out hE)
    have HC7 : Hid (∀ W, Ext wc W → (W.cell? ⟨w.heap.size, 0, none⟩ = some t0 ∧ W.cell? ⟨w.heap.size, 1, none⟩ = some t1 ∧ W.cell? ⟨w.heap.size, 2, none⟩ = some t2 ∧ W.cell? ⟨w.heap.size, 3, none⟩ = some t3 ∧ W.cell? ⟨w.heap.size + 1, 0, none⟩ = some u0 ∧ W.cell? ⟨w.heap.size + 1, 1, none⟩ = some u1 ∧ W.cell? ⟨w.heap.size + 1, 2, none⟩ = some u2 ∧ W.cell? ⟨w.heap.size + 1, 3, none⟩ = some u3) ∧ W.cell? ⟨B, 0, none⟩ = some (.int .i64 k7) ∧ W.cell? ⟨B, 1, none⟩ = some (.string n7) ∧ W.cell? ⟨B, 2, none⟩ = some (.int .i64 s7) ∧ W.cell? ⟨B, 3, none⟩ = some (.slice x7 l7 c7)) := fun W h => ⟨HC.out W (Ext.trans HEw.out h), keep_below h _ _ f0, keep_below h _ _ f1, keep_below h _ _ f2, keep_below h _ _ f3⟩
    have HJ7 : Hid (∀ W, Ext wc W → Is W a (.int .i64 k7) (.string n7) (.int .i64 s7) (.slice x7 l7 c7)) := fun W h => Is_below hJ7 h
    have HRR : Hid (∀ W, Ext wc W → Calls Tryd.prog 41 #[.agg #[t0, t1, t2, t3], .slice xa p.length cap, .agg #[u0, u1, u2, u3]] W (ResE 0 a W)) := fun W h => rrep_S (by omega) (HIt.out W (Ext.trans HEw.out h)) (HIu.out W (Ext.trans HEw.out h)) (HP.out W (Ext.trans HEw.out h)) hra
    have HAT : Hid (∀ W, Ext wc W → Calls Tryd.prog 37 #[.agg #[t0, t1, t2, t3], .slice xa p.length cap] W (ResE 0 x W)) := fun W h => At_S (by omega) (HIt.out W (Ext.trans HEw.out h)) (IntsC_V (HP.out W (Ext.trans HEw.out h))) hax
    have HRA : Hid (∀ W, Ext wc W → Calls Tryd.prog 42 #[.agg #[t0, t1, t2, t3], .slice xa p.length cap] W (ResE 0 x W)) := fun W h => rat_S (HIt.out W (Ext.trans HEw.out h)) (IntsC_V (HP.out W (Ext.trans HEw.out h))) hax
    have hRs : size a ≤ 400 := (by omega)
    have hXs : size x ≤ 400 := (by omega)
    have HSR : Hid (∀ (W : World) (a0 a1 a2 a3 b0 b1 b2 b3 : Value), Is W a a0 a1 a2 a3 → Is W a b0 b1 b2 b3 → Calls Tryd.prog 18 #[.agg #[a0, a1, a2, a3], .agg #[b0, b1, b2, b3]] W fun e w' => e = .returned (.bool true) ∧ Below W.heap.size W w') := fun W a0 a1 a2 a3 b0 b1 b2 b3 h k => same_self hRs h k
    have HSX : Hid (∀ (W : World) (a0 a1 a2 a3 b0 b1 b2 b3 : Value), Is W x a0 a1 a2 a3 → Is W x b0 b1 b2 b3 → Calls Tryd.prog 18 #[.agg #[a0, a1, a2, a3], .agg #[b0, b1, b2, b3]] W fun e w' => e = .returned (.bool true) ∧ Below W.heap.size W w') := fun W a0 a1 a2 a3 b0 b1 b2 b3 h k => same_self hXs h k
    have HE0 : Hid (Ext wc wc) := Ext.refl wc
    have HAT2 : Hid (∀ W, Ext wc W → Calls Tryd.prog 37 #[.agg #[.int .i64 k7, .string n7, .int .i64 s7, .slice x7 l7 c7], .slice xa p.length cap] W (ResE 0 u W)) := fun W h => At_S (by omega) (HJ7.out W h) (IntsC_V (HP.out W (Ext.trans HEw.out h))) (rep_at p t u a hra)
    obtain ⟨⟨a0, a1, a2, a3, b0, b1, b2, b3⟩, _⟩ := HC7.out _ HE0.out
    clear hL7 f0 f1 f2 f3 hJ7 hE hRs hXs hF0
    have tokA : True := trivial
    have tokS1 : True := trivial
    go_wp2_with (first
      | (go_at_call 41; refine (HRR.out _ HE0.out).mono ?_; rintro e w4 ⟨k9, n9, s9, x9, l9, c9, he, hI, hB⟩; subst he; have HJ9 : Hid (∀ W, Ext (w4.alloc (.cells #[.int .i64 k9, .string n9, .int .i64 s9, .slice x9 l9 c9] 24)) W → Is W a (.int .i64 k9) (.string n9) (.int .i64 s9) (.slice x9 l9 c9)) := (fun W h => Is_below (Is_alloc hI _) h); have HC9 : Hid (∀ W, Ext (w4.alloc (.cells #[.int .i64 k9, .string n9, .int .i64 s9, .slice x9 l9 c9] 24)) W → W.cell? ⟨w4.heap.size, 0, none⟩ = some (.int .i64 k9) ∧ W.cell? ⟨w4.heap.size, 1, none⟩ = some (.string n9) ∧ W.cell? ⟨w4.heap.size, 2, none⟩ = some (.int .i64 s9) ∧ W.cell? ⟨w4.heap.size, 3, none⟩ = some (.slice x9 l9 c9)) := (fun W h => box_ext h); have HE4 : Hid (Ext wc (w4.alloc (.cells #[.int .i64 k9, .string n9, .int .i64 s9, .slice x9 l9 c9] 24))) := Lib.hid (Ext.alloc hB _); obtain ⟨⟨a0, a1, a2, a3, b0, b1, b2, b3⟩, _⟩ := HC7.out _ HE4.out; clear hI hB)
      | (go_at_call 37; have _t := tokA; refine (HAT.out _ HE4.out).mono ?_; rintro e w5 ⟨kb, nb, sb, xb, lb, cb, he, hI, hB⟩; subst he; have HJb : Hid (∀ W, Ext (w5.alloc (.cells #[.int .i64 kb, .string nb, .int .i64 sb, .slice xb lb cb] 24)) W → Is W x (.int .i64 kb) (.string nb) (.int .i64 sb) (.slice xb lb cb)) := (fun W h => Is_below (Is_alloc hI _) h); have HCb : Hid (∀ W, Ext (w5.alloc (.cells #[.int .i64 kb, .string nb, .int .i64 sb, .slice xb lb cb] 24)) W → W.cell? ⟨w5.heap.size, 0, none⟩ = some (.int .i64 kb) ∧ W.cell? ⟨w5.heap.size, 1, none⟩ = some (.string nb) ∧ W.cell? ⟨w5.heap.size, 2, none⟩ = some (.int .i64 sb) ∧ W.cell? ⟨w5.heap.size, 3, none⟩ = some (.slice xb lb cb)) := (fun W h => box_ext h); have HE45 : Hid (Ext (w4.alloc (.cells #[.int .i64 k9, .string n9, .int .i64 s9, .slice x9 l9 c9] 24)) (w5.alloc (.cells #[.int .i64 kb, .string nb, .int .i64 sb, .slice xb lb cb] 24))) := Lib.hid (Ext.alloc hB _); have HE5 : Hid (Ext wc (w5.alloc (.cells #[.int .i64 kb, .string nb, .int .i64 sb, .slice xb lb cb] 24))) := Lib.hid (Ext.trans HE4.out HE45.out); obtain ⟨⟨a0, a1, a2, a3, b0, b1, b2, b3⟩, _⟩ := HC7.out _ HE5.out; clear hI hB; clear tokA)
      | (go_at_call 42; refine (HRA.out _ HE5.out).mono ?_; rintro e w6 ⟨kd, nd, sd, xd, ld, cd, he, hI, hB⟩; subst he; have HJd : Hid (∀ W, Ext (w6.alloc (.cells #[.int .i64 kd, .string nd, .int .i64 sd, .slice xd ld cd] 24)) W → Is W x (.int .i64 kd) (.string nd) (.int .i64 sd) (.slice xd ld cd)) := (fun W h => Is_below (Is_alloc hI _) h); have HCd : Hid (∀ W, Ext (w6.alloc (.cells #[.int .i64 kd, .string nd, .int .i64 sd, .slice xd ld cd] 24)) W → W.cell? ⟨w6.heap.size, 0, none⟩ = some (.int .i64 kd) ∧ W.cell? ⟨w6.heap.size, 1, none⟩ = some (.string nd) ∧ W.cell? ⟨w6.heap.size, 2, none⟩ = some (.int .i64 sd) ∧ W.cell? ⟨w6.heap.size, 3, none⟩ = some (.slice xd ld cd)) := (fun W h => box_ext h); have HE56 : Hid (Ext (w5.alloc (.cells #[.int .i64 kb, .string nb, .int .i64 sb, .slice xb lb cb] 24)) (w6.alloc (.cells #[.int .i64 kd, .string nd, .int .i64 sd, .slice xd ld cd] 24))) := Lib.hid (Ext.alloc hB _); have HE6 : Hid (Ext wc (w6.alloc (.cells #[.int .i64 kd, .string nd, .int .i64 sd, .slice xd ld cd] 24))) := Lib.hid (Ext.trans HE5.out HE56.out);
         have HALL : Hid (∀ W, Ext (w6.alloc (.cells #[.int .i64 kd, .string nd, .int .i64 sd, .slice xd ld cd] 24)) W → (W.cell? ⟨B, 0, none⟩ = some (.int .i64 k7) ∧ W.cell? ⟨B, 1, none⟩ = some (.string n7) ∧ W.cell? ⟨B, 2, none⟩ = some (.int .i64 s7) ∧ W.cell? ⟨B, 3, none⟩ = some (.slice x7 l7 c7)) ∧ (W.cell? ⟨w4.heap.size, 0, none⟩ = some (.int .i64 k9) ∧ W.cell? ⟨w4.heap.size, 1, none⟩ = some (.string n9) ∧ W.cell? ⟨w4.heap.size, 2, none⟩ = some (.int .i64 s9) ∧ W.cell? ⟨w4.heap.size, 3, none⟩ = some (.slice x9 l9 c9)) ∧ (W.cell? ⟨w5.heap.size, 0, none⟩ = some (.int .i64 kb) ∧ W.cell? ⟨w5.heap.size, 1, none⟩ = some (.string nb) ∧ W.cell? ⟨w5.heap.size, 2, none⟩ = some (.int .i64 sb) ∧ W.cell? ⟨w5.heap.size, 3, none⟩ = some (.slice xb lb cb)) ∧ (W.cell? ⟨w6.heap.size, 0, none⟩ = some (.int .i64 kd) ∧ W.cell? ⟨w6.heap.size, 1, none⟩ = some (.string nd) ∧ W.cell? ⟨w6.heap.size, 2, none⟩ = some (.int .i64 sd) ∧ W.cell? ⟨w6.heap.size, 3, none⟩ = some (.slice xd ld cd))) := (fun W h => ⟨(HC7.out W (Ext.trans HE6.out h)).2, HC9.out W (Ext.trans HE45.out (Below.trans HE56.out (h.mono HE56.out.size))), HCb.out W (Ext.trans HE56.out h), HCd.out W h⟩);
         have HS1 : Hid (∀ W, Ext (w6.alloc (.cells #[.int .i64 kd, .string nd, .int .i64 sd, .slice xd ld cd] 24)) W → Calls Tryd.prog 18 #[.agg #[.int .i64 k7, .string n7, .int .i64 s7, .slice x7 l7 c7], .agg #[.int .i64 k9, .string n9, .int .i64 s9, .slice x9 l9 c9]] W fun e w' => e = .returned (.bool true) ∧ Below W.heap.size W w') := (fun W h => HSR.out W _ _ _ _ _ _ _ _ (HJ7.out W (Ext.trans HE6.out h)) (HJ9.out W (Ext.trans HE45.out (Below.trans HE56.out (h.mono HE56.out.size)))));
         have HS2 : Hid (∀ W, Ext (w6.alloc (.cells #[.int .i64 kd, .string nd, .int .i64 sd, .slice xd ld cd] 24)) W → Calls Tryd.prog 18 #[.agg #[.int .i64 kb, .string nb, .int .i64 sb, .slice xb lb cb], .agg #[.int .i64 kd, .string nd, .int .i64 sd, .slice xd ld cd]] W fun e w' => e = .returned (.bool true) ∧ Below W.heap.size W w') := (fun W h => HSX.out W _ _ _ _ _ _ _ _ (HJb.out W (Ext.trans HE56.out h)) (HJd.out W h));
         have HEc : Hid (Ext (w6.alloc (.cells #[.int .i64 kd, .string nd, .int .i64 sd, .slice xd ld cd] 24)) (w6.alloc (.cells #[.int .i64 kd, .string nd, .int .i64 sd, .slice xd ld cd] 24))) := Lib.hid (Ext.refl _); obtain ⟨⟨a0, a1, a2, a3⟩, ⟨b0, b1, b2, b3⟩, ⟨g0, g1, g2, g3⟩, h0, h1, h2, h3⟩ := HALL.out _ HEc.out; clear hI hB)
      | (go_at_call 18; have _t := tokS1; refine (HS1.out _ HEc.out).mono ?_; rintro e w7 ⟨he, hB⟩; subst he; have HEn := Lib.hid (Ext.trans HEc.out hB); clear HEc; have HEc := HEn; clear HEn; obtain ⟨⟨a0, a1, a2, a3⟩, ⟨b0, b1, b2, b3⟩, ⟨g0, g1, g2, g3⟩, h0, h1, h2, h3⟩ := HALL.out _ HEc.out; clear hB; clear tokS1; have tokS2 : True := trivial)
      | (go_at_call 18; have _t := tokS2; refine (HS2.out _ HEc.out).mono ?_; rintro e w7 ⟨he, hB⟩; subst he; have HEn := Lib.hid (Ext.trans HEc.out hB); clear HEc; have HEc := HEn; clear HEn; obtain ⟨⟨a0, a1, a2, a3⟩, ⟨b0, b1, b2, b3⟩, ⟨g0, g1, g2, g3⟩, h0, h1, h2, h3⟩ := HALL.out _ HEc.out; clear hB; clear tokS2)
      | (go_at_call 37; refine (HAT2.out _ (Ext.trans HE6.out HEc.out)).mono ?_; rintro e w10 ⟨kf, nf, sf, xf, lf, cf, he, hI, hB⟩; subst he; have HCf : Hid (∀ W, Ext (w10.alloc (.cells #[.int .i64 kf, .string nf, .int .i64 sf, .slice xf lf cf] 24)) W → W.cell? ⟨w10.heap.size, 0, none⟩ = some (.int .i64 kf) ∧ W.cell? ⟨w10.heap.size, 1, none⟩ = some (.string nf) ∧ W.cell? ⟨w10.heap.size, 2, none⟩ = some (.int .i64 sf) ∧ W.cell? ⟨w10.heap.size, 3, none⟩ = some (.slice xf lf cf)) := (fun W h => box_ext h); have HE10 : Hid (Ext wc (w10.alloc (.cells #[.int .i64 kf, .string nf, .int .i64 sf, .slice xf lf cf] 24))) := Lib.hid (Ext.trans (Ext.trans HE6.out HEc.out) (Ext.alloc hB _)); have HS3 : Hid (Calls Tryd.prog 18 #[.agg #[.int .i64 kf, .string nf, .int .i64 sf, .slice xf lf cf], .agg #[u0, u1, u2, u3]] (w10.alloc (.cells #[.int .i64 kf, .string nf, .int .i64 sf, .slice xf lf cf] 24)) fun e w' => e = .returned (.bool true) ∧ Below (w10.alloc (.cells #[.int .i64 kf, .string nf, .int .i64 sf, .slice xf lf cf] 24)).heap.size (w10.alloc (.cells #[.int .i64 kf, .string nf, .int .i64 sf, .slice xf lf cf] 24)) w') := same_self hus (Is_alloc hI _) (HIu.out _ (Ext.trans HEw.out HE10.out)); obtain ⟨⟨a0, a1, a2, a3, b0, b1, b2, b3⟩, _⟩ := HC7.out _ HE10.out; obtain ⟨g0, g1, g2, g3⟩ := HCf.out _ (Ext.refl _); clear hI hB)
      | (go_at_call 18; refine (HS3.out).mono ?_; rintro e w11 ⟨he, hB⟩; subst he; have HE11 : Hid (Ext wc w11) := Lib.hid (Ext.trans HE10.out hB); obtain ⟨⟨a0, a1, a2, a3, b0, b1, b2, b3⟩, _⟩ := HC7.out _ HE11.out; clear hB)
      | (go_at_call 35; refine (rpositions_any _ t _ _ _ _ _ (Nat.le_refl _) (by omega) (HIt.out _ (Ext.trans HEw.out HE11.out))).mono ?_; rintro e w12 ⟨v5, vs5, F5, he, hp5, hB⟩; subst he; obtain ⟨g5, cap5, hv5⟩ := own_form_pos hp5.own (size_pos t); subst hv5; have HPZ := Lib.hid (PosZ_of_RP hp5 (fun q hq x hx => by rcases posT_small t [] q hq x hx with h | h; (simp at h); omega)); have hpln := hp5.len; have HE12 : Hid (Ext wc w12) := Lib.hid (Ext.trans HE11.out hB); clear hp5 hB))
    rw [← hpln]
    clear hpln
    go_loopw [125] (fun i wr => ∃ j : Nat, j ≤ size t ∧ i = .int .i64 j ∧ Ext w12 wr) (fun i _ => size t - (intOf i).toNat)
    case atStart => exact ⟨0, Nat.zero_le _, rfl, Ext.refl _⟩
    case round =>
      obtain ⟨j, hj, rfl, hE⟩ := hrel
      have HE := Lib.hid hE
      by_cases hlt : j < size t
      rotate_left
      · clear hE
        go_wp2_with fail
        go_ret
        exact ⟨rfl, Ext.trans (a := w) HX.out (Ext.trans HEw.out (Ext.trans HE12.out HE.out))⟩
      have hj1 : j < (posT [] t).length := by rw [posT_length]; exact hlt
      have hj2 : j < (subT t).length := by rw [subT_len]; exact hlt
      obtain ⟨xq, cq, hc5, hq5⟩ := HPZ.out j hj1
      have hc5' := keep_below hE _ _ hc5
      have hat := posT_at_get t j hj1 hj2
      have hbd := posT_bound t [] _ (List.getElem_mem hj1)
      have hus2 := subT_size t _ (List.getElem_mem hj2)
      obtain ⟨q, hq⟩ : ∃ q, (posT [] t)[j] = q := ⟨_, rfl⟩
      obtain ⟨y, hy⟩ : ∃ y, (subT t)[j] = y := ⟨_, rfl⟩
      rw [hq] at hc5' hq5 hat hbd
      rw [hy] at hat hus2
      simp only [List.length_nil, Nat.zero_add] at hbd
      have HAQ := Lib.hid hat
      have HQ : Hid (∀ W, Ext wr W → IntsC W (.slice xq q.length cq) (zs q)) := fun W h => IntsC_below (IntsC_below hq5 hE) h
      have HEr : Hid (Ext wc wr) := Lib.hid (Ext.trans HE12.out hE)
      have hcq : q.length ≤ cq := by
        obtain ⟨_, _, e, h1, _⟩ := hq5
        simp only [Value.slice.injEq] at e
        have := e.2.1
        have := e.2.2
        omega
      have i1 : (0 : Int) ≤ (j : Int) := by omega
      have i2 : (j : Int) < (size t : Int) := by omega
      have hzl : (zs q).length = q.length := by simp [zs]
      have HPw : Hid (∀ W, Ext wr W → IntsC W (.slice xa p.length cap) p) := fun W h => HP.out W (Ext.trans HEw.out (Ext.trans HEr.out h))
      have HG : Hid (∀ W, Ext wr W → W.cell? ⟨g5, j, none⟩ = some (.slice xq q.length cq)) := fun W h => keep_below h _ _ hc5'
      have HA3 : Hid (¬ p.take (min p.length q.length) = (zs q).take (min p.length q.length) → ∀ W, Ext wr W → Calls Tryd.prog 37 #[.agg #[.int .i64 k7, .string n7, .int .i64 s7, .slice x7 l7 c7], .slice xq q.length cq] W (ResE 0 y W)) := fun hne W h => At_S (by omega) (HJ7.out W (Ext.trans HEr.out h)) (IntsC_V (HQ.out W h)) (by rw [rep_other p (zs q) t u a hra (by rw [hzl]; exact hne)]; exact HAQ.out)
      have HR3 : Hid (∀ W, Ext wr W → Calls Tryd.prog 42 #[.agg #[t0, t1, t2, t3], .slice xq q.length cq] W (ResE 0 y W)) := fun W h => rat_S (HIt.out W (Ext.trans HEw.out (Ext.trans HEr.out h))) (IntsC_V (HQ.out W h)) HAQ.out
      have hys : size y ≤ 400 := by omega
      have hF0 : Ext wr wr.drew := (Ext.refl wr).drew
      clear hE hat hq hy hc5 hq5
      go_upto_region 16 with (fail)
      have hmin : min (p.length : Int) (q.length : Int) = ((min p.length q.length : Nat) : Int) := by omega
      rw [hmin]
      have hm1 : min p.length q.length ≤ p.length := Nat.min_le_left _ _
      have hm2 : min p.length q.length ≤ q.length := Nat.min_le_right _ _
      generalize min p.length q.length = m at hm1 hm2 HA3 ⊢
      have j3 : (0 : Int) ≤ (m : Int) := by omega
      have j4 : (m : Int) ≤ (cap : Int) := by omega
      have j5 : (m : Int) ≤ (cq : Int) := by omega
      clear hmin
      go_cut [140] (fun v wd => v = .bool (p.take m == (zs q).take m) ∧ Ext wr wd)
      case first =>
        go_region_held3 (fun W => W.cell? ⟨g5, j, none⟩ = some (.slice xq q.length cq))
          (first | exact HG.out _ (by assumption) | go_keep)
          (first
            | (go_at_call 38; refine (equalz_any (p.take m) ((zs q).take m) _ _ _ ?_ ?_ ?_ ?_).mono ?_; (exact IntsV_take (IntsC_V (HPw.out _ hF0)) rfl hm1); (exact IntsV_take (IntsC_V (HQ.out _ hF0)) hzl.symm (by rw [hzl]; exact hm2)); (rw [List.length_take]; omega); (rw [List.length_take]; omega); rintro e w13 ⟨he, hB⟩; subst he; have hF1 : Ext wr w13 := Ext.trans hF0 hB; clear hB))
        go_wp2_with fail
        go_meet
        exact ⟨rfl, hF1⟩
      case rest =>
        obtain ⟨rfl, hE2⟩ := hcut
        have HE2 := Lib.hid hE2
        by_cases heq : p.take m = (zs q).take m
        · have hbe : (p.take m == (zs q).take m) = true := by simp [heq]
          rw [hbe]
          clear hE2 hc5' hF0
          go_wp2_with fail
          go_roundw
          case rel => exact ⟨j + 1, by omega, by go_num, Ext.trans HE.out HE2.out⟩
          case measure => simp [intOf]; omega
        · have hbe : (p.take m == (zs q).take m) = false := by simp [heq]
          rw [hbe]
          obtain ⟨⟨a0, a1, a2, a3, b0, b1, b2, b3⟩, f0, f1, f2, f3⟩ := HC7.out _ (Ext.trans HEr.out hE2)
          have HA4 := Lib.hid (HA3.out heq _ hE2)
          clear hE2 hc5' hF0
          go_wp2_with (first
            | (go_at_call 37; refine (HA4.out).mono ?_; rintro e w14 ⟨kg, ng, sg, xg, lg, cg, he, hI, hB⟩; subst he; have HJg : Hid (∀ W, Ext (w14.alloc (.cells #[.int .i64 kg, .string ng, .int .i64 sg, .slice xg lg cg] 24)) W → Is W y (.int .i64 kg) (.string ng) (.int .i64 sg) (.slice xg lg cg)) := (fun W h => Is_below (Is_alloc hI _) h); have HCg : Hid (∀ W, Ext (w14.alloc (.cells #[.int .i64 kg, .string ng, .int .i64 sg, .slice xg lg cg] 24)) W → W.cell? ⟨w14.heap.size, 0, none⟩ = some (.int .i64 kg) ∧ W.cell? ⟨w14.heap.size, 1, none⟩ = some (.string ng) ∧ W.cell? ⟨w14.heap.size, 2, none⟩ = some (.int .i64 sg) ∧ W.cell? ⟨w14.heap.size, 3, none⟩ = some (.slice xg lg cg)) := (fun W h => box_ext h); have HE14 : Hid (Ext wr (w14.alloc (.cells #[.int .i64 kg, .string ng, .int .i64 sg, .slice xg lg cg] 24))) := Lib.hid (Ext.trans HE2.out (Ext.alloc hB _)); obtain ⟨⟨a0, a1, a2, a3, b0, b1, b2, b3⟩, _⟩ := HC7.out _ (Ext.trans HEr.out HE14.out); clear hI hB)
            | (go_at_call 42; refine (HR3.out _ HE14.out).mono ?_; rintro e w15 ⟨kh, nh, sh, xh, lh, ch, he, hI, hB⟩; subst he; have HEgh : Hid (Ext (w14.alloc (.cells #[.int .i64 kg, .string ng, .int .i64 sg, .slice xg lg cg] 24)) (w15.alloc (.cells #[.int .i64 kh, .string nh, .int .i64 sh, .slice xh lh ch] 24))) := Lib.hid (Ext.alloc hB _); have HSy : Hid (Calls Tryd.prog 18 #[.agg #[.int .i64 kg, .string ng, .int .i64 sg, .slice xg lg cg], .agg #[.int .i64 kh, .string nh, .int .i64 sh, .slice xh lh ch]] (w15.alloc (.cells #[.int .i64 kh, .string nh, .int .i64 sh, .slice xh lh ch] 24)) fun e w' => e = .returned (.bool true) ∧ Below (w15.alloc (.cells #[.int .i64 kh, .string nh, .int .i64 sh, .slice xh lh ch] 24)).heap.size (w15.alloc (.cells #[.int .i64 kh, .string nh, .int .i64 sh, .slice xh lh ch] 24)) w') := same_self hys (HJg.out _ HEgh.out) (Is_alloc hI _); have HE15 : Hid (Ext wr (w15.alloc (.cells #[.int .i64 kh, .string nh, .int .i64 sh, .slice xh lh ch] 24))) := Lib.hid (Ext.trans HE14.out HEgh.out); obtain ⟨g0, g1, g2, g3⟩ := HCg.out _ HEgh.out; clear hI hB)
            | (go_at_call 18; refine (HSy.out).mono ?_; rintro e w16 ⟨he, hB⟩; subst he; have HE16 : Hid (Ext wr w16) := Lib.hid (Ext.trans HE15.out hB); clear hB))
          go_roundw
          case rel => exact ⟨j + 1, by omega, by go_num, Ext.trans HE.out HE16.out⟩
          case measure => simp [intOf]; omega



end Go.Proofs.YthhhmjjgckkdhaaDoor
