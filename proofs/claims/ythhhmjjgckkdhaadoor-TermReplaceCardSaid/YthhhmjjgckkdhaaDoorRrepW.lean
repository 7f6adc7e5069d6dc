/-
  THE WALK OF the reference's Replace.
-/
import Derived.Test.YthhhmjjgckkdhaaDoorRrep
import Derived.Deep.DeepCutAuto
namespace Go.Proofs.YthhhmjjgckkdhaaDoor
open Go.RowKit

set_option maxHeartbeats 1600000 in
set_option maxRecDepth 100000 in
theorem rrep_nil (t u : Tm) (c0 c1 c2 c3 x0 x1 x2 x3 v : Value) (base : Nat) (w : World) (hbw : base ≤ w.heap.size) (hI : IsIn (fun b => b < base) w t c0 c1 c2 c3) (hp : IntsC w v []) (hJ : IsIn (fun b => b < base) w u x0 x1 x2 x3) :
    Calls Tryd.prog 41 #[.agg #[c0, c1, c2, c3], v, .agg #[x0, x1, x2, x3]] w (RrepPost base w (repT t [] u)) := by
  obtain ⟨xa, cap, rfl, _⟩ := hp
  simp only [List.length_nil]
  obtain ⟨k', n', s', xk, l', c', e0, e1, e2, e3⟩ := IsIn_form hJ
  subst e0 e1 e2 e3
  obtain ⟨k1, n1, s1, xk1, l1, c1', e0, e1, e2, e3⟩ := IsIn_form hI
  subst e0 e1 e2 e3
  have HF : Hid (RrepPost base w (repT t [] u) (.returned (.tuple #[.agg #[.int .i64 k', .string n', .int .i64 s', .slice xk l' c'], .int .i64 0])) (((w.alloc (.cells #[.int .i64 k1, .string n1, .int .i64 s1, .slice xk1 l1 c1'] 24)).alloc (.cells #[.int .i64 k', .string n', .int .i64 s', .slice xk l' c'] 24)).alloc (.cells #[.int .i64 k', .string n', .int .i64 s', .slice xk l' c'] 24))) := by
    show RrepPost _ _ _ _ _
    have hB : Below w.heap.size w (((w.alloc (.cells #[.int .i64 k1, .string n1, .int .i64 s1, .slice xk1 l1 c1'] 24)).alloc (.cells #[.int .i64 k', .string n', .int .i64 s', .slice xk l' c'] 24)).alloc (.cells #[.int .i64 k', .string n', .int .i64 s', .slice xk l' c'] 24)) :=
      Below.alloc (Below.alloc (Below.alloc (Below.refl _ _) (Nat.le_refl _) _) (by simp) _) (by simp; omega) _
    exact ⟨hB, _, _, _, _, rfl, IsIn_carry (fun b (hb : b < base) => hB.block b (by omega)) (fun b hb => Or.inl hb) _ _ _ _ _ hJ⟩
  clear hI hJ
  go_enter Tryd.func41, Tryd.ntmps41
  go_wp2_with fail
  exact bodyPost_ret (v := .tuple #[.agg #[.int .i64 k', .string n', .int .i64 s', .slice xk l' c'], .int .i64 0]) (by simp [results, Tryd.results41, go_sem]) rfl HF.out

set_option maxHeartbeats 1600000 in
set_option maxRecDepth 100000 in
theorem rrep_out (i : Int) (p : List Int) (t u : Tm) (c0 c1 c2 c3 x0 x1 x2 x3 v : Value) (base : Nat) (w : World) (hI : IsIn (fun b => b < base) w t c0 c1 c2 c3) (hp : IntsC w v (i :: p)) (hout : i < 0 ∨ (t.kids.length : Int) ≤ i) :
    Calls Tryd.prog 41 #[.agg #[c0, c1, c2, c3], v, .agg #[x0, x1, x2, x3]] w (RrepPost base w (repT t (i :: p) u)) := by
  obtain ⟨pb, po, cap, rfl, hpc, hcm, hir, hx, _⟩ := IntsC_cons hp
  unfold maxLen at hcm
  have hno : repT t (i :: p) u = none := by simp only [repT]; rw [dif_neg (by omega)]
  rw [hno]
  obtain ⟨k, n, s, ks⟩ := t
  simp only [IsIn] at hI
  obtain ⟨rfl, rfl, rfl, _, _, _, hkl, ka, kcap, rfl, hkc, hR⟩ := hI
  simp only [Tm.kids] at hout
  unfold maxLen at hkl
  have hX : Ext w (((w.alloc (.cells #[.int .i64 k, .string n, .int .i64 s, .slice ka ks.length kcap] 24)).alloc (.cells #[x0, x1, x2, x3] 24)).alloc (.cells #[.int .i64 0, .string ⟨#[]⟩, .int .i64 0, .slice none 0 0] 24)) := (((Ext.refl w).alloc _).alloc _).alloc _
  have HX := Lib.hid hX
  have hx2 := keep_below hX _ _ hx
  have h0 : ¬ (p.length : Int) + 1 = 0 := by omega
  have i2 : (0 : Int) < (p.length : Int) + 1 := by omega
  clear hX hp hR hno
  by_cases hlo : i < 0
  · have hd : decide (i < 0) = true := by simp [hlo]
    go_enter Tryd.func41, Tryd.ntmps41
    go_wp2_with fail
    go_quiet (fail)
    go_wp2_with fail
    exact bodyPost_ret (v := .tuple #[.agg #[.int .i64 0, .string ⟨#[]⟩, .int .i64 0, .slice none 0 0], .int .i64 7]) (by simp [results, Tryd.results41, go_sem]) rfl ⟨put4_below (w' := World.drewN _ nq) (g := w.heap.size + 1 + 1) (o := 0) (below_drewN HX.out nq) (by omega), rfl⟩
  · have hd : decide (i < 0) = false := by simp; omega
    have hhi : (ks.length : Int) ≤ i := by omega
    go_enter Tryd.func41, Tryd.ntmps41
    go_wp2_with fail
    go_quiet (fail)
    go_wp2_with fail
    exact bodyPost_ret (v := .tuple #[.agg #[.int .i64 0, .string ⟨#[]⟩, .int .i64 0, .slice none 0 0], .int .i64 7]) (by simp [results, Tryd.results41, go_sem]) rfl ⟨put4_below (w' := World.drewN _ nq) (g := w.heap.size + 1 + 1) (o := 0) (below_drewN HX.out nq) (by omega), rfl⟩

set_option maxHeartbeats 3200000 in
set_option maxRecDepth 100000 in
theorem rrep_none1 (y : Nat) (p : List Int) (k s : Int) (n : ByteArray) (ks : List Tm) (d0 d1 d2 d3 x0 x1 x2 x3 : Value) (base pb po cap kb ko kcap : Nat) (w : World) (hy : y < ks.length) (hx : w.cell? ⟨pb, po, none⟩ = some (.int .i64 (y : Int))) (hpc : p.length + 1 ≤ cap)
    (q0 : w.cell? ⟨kb, ko + y * 4, none⟩ = some d0) (q1 : w.cell? ⟨kb, ko + y * 4 + 1, none⟩ = some d1) (q2 : w.cell? ⟨kb, ko + y * 4 + 2, none⟩ = some d2) (q3 : w.cell? ⟨kb, ko + y * 4 + 3, none⟩ = some d3) (hc1 : cap = 1)
    (HCALL : Hid (∀ W, Ext w W → Calls Tryd.prog 41 #[.agg #[d0, d1, d2, d3], .slice (some ⟨pb, po, none⟩) p.length 0, .agg #[x0, x1, x2, x3]] W (RrepPost base W none))) :
    Calls Tryd.prog 41 #[.agg #[.int .i64 k, .string n, .int .i64 s, .slice (some ⟨kb, ko, none⟩) ks.length kcap], .slice (some ⟨pb, po, none⟩) (p.length + 1) cap, .agg #[x0, x1, x2, x3]] w (RrepPost base w none) := by
  have HX : Hid (Ext w (((w.alloc (.cells #[.int .i64 k, .string n, .int .i64 s, .slice (some ⟨kb, ko, none⟩) ks.length kcap] 24)).alloc (.cells #[x0, x1, x2, x3] 24)).alloc (.cells #[.int .i64 0, .string ⟨#[]⟩, .int .i64 0, .slice none 0 0] 24))) := Lib.hid ((((Ext.refl w).alloc _).alloc _).alloc _)
  have hx2 := keep_below HX.out _ _ hx
  have HC : Hid (∀ W, Ext (((w.alloc (.cells #[.int .i64 k, .string n, .int .i64 s, .slice (some ⟨kb, ko, none⟩) ks.length kcap] 24)).alloc (.cells #[x0, x1, x2, x3] 24)).alloc (.cells #[.int .i64 0, .string ⟨#[]⟩, .int .i64 0, .slice none 0 0] 24)) W →
      W.cell? ⟨w.heap.size, 3, none⟩ = some (.slice (some ⟨kb, ko, none⟩) ks.length kcap) ∧ W.cell? ⟨pb, po, none⟩ = some (.int .i64 (y : Int)) ∧ W.cell? ⟨kb, ko + y * 4, none⟩ = some d0 ∧ W.cell? ⟨kb, ko + y * 4 + 1, none⟩ = some d1 ∧ W.cell? ⟨kb, ko + y * 4 + 2, none⟩ = some d2 ∧ W.cell? ⟨kb, ko + y * 4 + 3, none⟩ = some d3 ∧
      W.cell? ⟨w.heap.size + 1, 0, none⟩ = some x0 ∧ W.cell? ⟨w.heap.size + 1, 1, none⟩ = some x1 ∧ W.cell? ⟨w.heap.size + 1, 2, none⟩ = some x2 ∧ W.cell? ⟨w.heap.size + 1, 3, none⟩ = some x3) := fun W h => by
    obtain ⟨⟨_, _, _, m3⟩, n0, n1, n2, n3⟩ := rep_boxes h
    exact ⟨m3, keep_below h _ _ hx2, keep_below h _ _ (keep_below HX.out _ _ q0), keep_below h _ _ (keep_below HX.out _ _ q1), keep_below h _ _ (keep_below HX.out _ _ q2), keep_below h _ _ (keep_below HX.out _ _ q3), n0, n1, n2, n3⟩
  have h0 : ¬ (p.length : Int) + 1 = 0 := by omega
  have i2 : (0 : Int) < (p.length : Int) + 1 := by omega
  have i3 : (1 : Int) ≤ (p.length : Int) + 1 := by omega
  have i4 : (p.length : Int) + 1 ≤ (cap : Int) := by omega
  have hd : decide ((y : Int) < 0) = false := by simp
  have hd2 : ¬ (ks.length : Int) ≤ (y : Int) := by omega
  have j1 : (0 : Int) ≤ (y : Int) := by omega
  have j2 : (y : Int) < (ks.length : Int) := by omega
  obtain ⟨m3, _, r0, r1, r2, r3, n0, n1, n2, n3⟩ := HC.out _ (Ext.refl _)
  clear q0 q1 q2 q3
  go_enter Tryd.func41, Tryd.ntmps41
  go_wp2_with fail
  go_quiet (fail)
  go_upto_region 5 with (fail)
  have hEq : Ext (((w.alloc (.cells #[.int .i64 k, .string n, .int .i64 s, .slice (some ⟨kb, ko, none⟩) ks.length kcap] 24)).alloc (.cells #[x0, x1, x2, x3] 24)).alloc (.cells #[.int .i64 0, .string ⟨#[]⟩, .int .i64 0, .slice none 0 0] 24)) (World.drewN (((w.alloc (.cells #[.int .i64 k, .string n, .int .i64 s, .slice (some ⟨kb, ko, none⟩) ks.length kcap] 24)).alloc (.cells #[x0, x1, x2, x3] 24)).alloc (.cells #[.int .i64 0, .string ⟨#[]⟩, .int .i64 0, .slice none 0 0] 24)) nq) := below_drewN (Ext.refl _) nq
  generalize World.drewN _ nq = wq at hEq ⊢
  have HEq := Lib.hid hEq
  have HCq : Hid (∀ W, Ext wq W → W.cell? ⟨w.heap.size, 3, none⟩ = some (.slice (some ⟨kb, ko, none⟩) ks.length kcap) ∧ W.cell? ⟨pb, po, none⟩ = some (.int .i64 (y : Int)) ∧ W.cell? ⟨kb, ko + y * 4, none⟩ = some d0 ∧ W.cell? ⟨kb, ko + y * 4 + 1, none⟩ = some d1 ∧ W.cell? ⟨kb, ko + y * 4 + 2, none⟩ = some d2 ∧ W.cell? ⟨kb, ko + y * 4 + 3, none⟩ = some d3 ∧
      W.cell? ⟨w.heap.size + 1, 0, none⟩ = some x0 ∧ W.cell? ⟨w.heap.size + 1, 1, none⟩ = some x1 ∧ W.cell? ⟨w.heap.size + 1, 2, none⟩ = some x2 ∧ W.cell? ⟨w.heap.size + 1, 3, none⟩ = some x3) := fun W h => HC.out W (Ext.trans HEq.out h)
  obtain ⟨m3, m4, r0, r1, r2, r3, n0, n1, n2, n3⟩ := HCq.out _ (Ext.refl _)
  have hF0 : Ext wq wq.drew := (Ext.refl wq).drew
  have hqs : w.heap.size + 3 ≤ wq.heap.size := by have := hEq.size; simp at this; omega
  clear hEq
  go_cut [8, 9] (fun v8 v9 wc => ∃ B, v8 = .pointer (some ⟨B, 0, none⟩) ∧ v9 = .int .i64 7 ∧ Ext wq wc)
  case first =>
    go_region_held3 (fun W => W.cell? ⟨w.heap.size, 3, none⟩ = some (.slice (some ⟨kb, ko, none⟩) ks.length kcap) ∧ W.cell? ⟨pb, po, none⟩ = some (.int .i64 (y : Int)) ∧ W.cell? ⟨kb, ko + y * 4, none⟩ = some d0 ∧ W.cell? ⟨kb, ko + y * 4 + 1, none⟩ = some d1 ∧ W.cell? ⟨kb, ko + y * 4 + 2, none⟩ = some d2 ∧ W.cell? ⟨kb, ko + y * 4 + 3, none⟩ = some d3 ∧
      W.cell? ⟨w.heap.size + 1, 0, none⟩ = some x0 ∧ W.cell? ⟨w.heap.size + 1, 1, none⟩ = some x1 ∧ W.cell? ⟨w.heap.size + 1, 2, none⟩ = some x2 ∧ W.cell? ⟨w.heap.size + 1, 3, none⟩ = some x3)
      (first | exact HCq.out _ (by assumption) | exact HCq.out _ (Ext.alloc (by assumption) _) | exact HCq.out _ (Ext.drew (Ext.alloc (Ext.refl wq) _)) | (have r2 := put4_below (w' := w7) (g := wq.heap.size) (o := 0) (c0 := (.int .i64 0)) (c1 := (.string ⟨#[]⟩)) (c2 := (.int .i64 0)) (c3 := (.slice none 0 0)) hF1 (Nat.le_refl _); simp only [put4, Nat.zero_add] at r2; exact HCq.out _ r2) | go_keep)
      (first
        | (go_at_call 41; refine (HCALL.out _ ?_).mono ?_; (exact Ext.trans HX.out (Ext.trans HEq.out (by first | exact hF0 | exact Ext.drew (Ext.alloc (Ext.refl wq) _)))); rintro e w7 ⟨hB, he⟩; subst he; have hF1 : Ext wq w7 := Ext.trans (by first | exact hF0 | exact Ext.drew (Ext.alloc (Ext.refl wq) _)) hB; (first | (have HZ := Lib.hid ((hB.block wq.heap.size (by simp)).trans (heap_alloc_new wq _)); have hz := box_facts (w := w7) (b := wq.heap.size) HZ.out; obtain ⟨⟨z0, z1, z2, z3⟩, zf0, zf1, zf2, zf3⟩ := hz) | skip); clear hB))
    all_goals go_wp2_with fail
    all_goals go_meet
    all_goals first
      | (have r2 := put4_below (w' := w7) (g := wq.heap.size) (o := 0) (c0 := .int .i64 0) (c1 := .string ⟨#[]⟩) (c2 := .int .i64 0) (c3 := .slice none 0 0) hF1 (Nat.le_refl _)
         simp only [put4, Nat.zero_add] at r2
         exact ⟨wq.heap.size, rfl, rfl, r2⟩)
      | exact ⟨w7.heap.size, rfl, rfl, hF1.alloc _⟩
  case rest =>
    obtain ⟨B, rfl, rfl, hE⟩ := hcut
    have HE := Lib.hid hE
    obtain ⟨⟨z0, z1, z2, z3⟩, zf0, zf1, zf2, zf3⟩ := box_facts (w := wc) (b := w.heap.size + 1 + 1) (rep_box (Ext.trans HEq.out hE))
    clear hE m3 m4 r0 r1 r2 r3 n0 n1 n2 n3
    go_wp2_with fail
    exact bodyPost_ret (v := .tuple #[.agg #[.int .i64 0, .string ⟨#[]⟩, .int .i64 0, .slice none 0 0], .int .i64 7]) (by simp [results, Tryd.results41, go_sem, z0, z1, z2, z3]) rfl ⟨put4_below (w' := wc) (g := w.heap.size + 1 + 1) (o := 0) (Ext.trans (a := w) HX.out (Ext.trans HEq.out HE.out)) (by omega), rfl⟩

set_option maxHeartbeats 3200000 in
set_option maxRecDepth 100000 in
theorem rrep_none2 (y : Nat) (p : List Int) (k s : Int) (n : ByteArray) (ks : List Tm) (d0 d1 d2 d3 x0 x1 x2 x3 : Value) (base pb po cap kb ko kcap : Nat) (w : World) (hy : y < ks.length) (hx : w.cell? ⟨pb, po, none⟩ = some (.int .i64 (y : Int))) (hpc : p.length + 1 ≤ cap)
    (q0 : w.cell? ⟨kb, ko + y * 4, none⟩ = some d0) (q1 : w.cell? ⟨kb, ko + y * 4 + 1, none⟩ = some d1) (q2 : w.cell? ⟨kb, ko + y * 4 + 2, none⟩ = some d2) (q3 : w.cell? ⟨kb, ko + y * 4 + 3, none⟩ = some d3) (hc1 : ¬ cap = 1)
    (HCALL : Hid (∀ W, Ext w W → Calls Tryd.prog 41 #[.agg #[d0, d1, d2, d3], .slice (some ⟨pb, po + 1, none⟩) p.length (cap - 1), .agg #[x0, x1, x2, x3]] W (RrepPost base W none))) :
    Calls Tryd.prog 41 #[.agg #[.int .i64 k, .string n, .int .i64 s, .slice (some ⟨kb, ko, none⟩) ks.length kcap], .slice (some ⟨pb, po, none⟩) (p.length + 1) cap, .agg #[x0, x1, x2, x3]] w (RrepPost base w none) := by
  have HX : Hid (Ext w (((w.alloc (.cells #[.int .i64 k, .string n, .int .i64 s, .slice (some ⟨kb, ko, none⟩) ks.length kcap] 24)).alloc (.cells #[x0, x1, x2, x3] 24)).alloc (.cells #[.int .i64 0, .string ⟨#[]⟩, .int .i64 0, .slice none 0 0] 24))) := Lib.hid ((((Ext.refl w).alloc _).alloc _).alloc _)
  have hx2 := keep_below HX.out _ _ hx
  have HC : Hid (∀ W, Ext (((w.alloc (.cells #[.int .i64 k, .string n, .int .i64 s, .slice (some ⟨kb, ko, none⟩) ks.length kcap] 24)).alloc (.cells #[x0, x1, x2, x3] 24)).alloc (.cells #[.int .i64 0, .string ⟨#[]⟩, .int .i64 0, .slice none 0 0] 24)) W →
      W.cell? ⟨w.heap.size, 3, none⟩ = some (.slice (some ⟨kb, ko, none⟩) ks.length kcap) ∧ W.cell? ⟨pb, po, none⟩ = some (.int .i64 (y : Int)) ∧ W.cell? ⟨kb, ko + y * 4, none⟩ = some d0 ∧ W.cell? ⟨kb, ko + y * 4 + 1, none⟩ = some d1 ∧ W.cell? ⟨kb, ko + y * 4 + 2, none⟩ = some d2 ∧ W.cell? ⟨kb, ko + y * 4 + 3, none⟩ = some d3 ∧
      W.cell? ⟨w.heap.size + 1, 0, none⟩ = some x0 ∧ W.cell? ⟨w.heap.size + 1, 1, none⟩ = some x1 ∧ W.cell? ⟨w.heap.size + 1, 2, none⟩ = some x2 ∧ W.cell? ⟨w.heap.size + 1, 3, none⟩ = some x3) := fun W h => by
    obtain ⟨⟨_, _, _, m3⟩, n0, n1, n2, n3⟩ := rep_boxes h
    exact ⟨m3, keep_below h _ _ hx2, keep_below h _ _ (keep_below HX.out _ _ q0), keep_below h _ _ (keep_below HX.out _ _ q1), keep_below h _ _ (keep_below HX.out _ _ q2), keep_below h _ _ (keep_below HX.out _ _ q3), n0, n1, n2, n3⟩
  have h0 : ¬ (p.length : Int) + 1 = 0 := by omega
  have i2 : (0 : Int) < (p.length : Int) + 1 := by omega
  have i3 : (1 : Int) ≤ (p.length : Int) + 1 := by omega
  have i4 : (p.length : Int) + 1 ≤ (cap : Int) := by omega
  have hd : decide ((y : Int) < 0) = false := by simp
  have hd2 : ¬ (ks.length : Int) ≤ (y : Int) := by omega
  have j1 : (0 : Int) ≤ (y : Int) := by omega
  have j2 : (y : Int) < (ks.length : Int) := by omega
  obtain ⟨m3, _, r0, r1, r2, r3, n0, n1, n2, n3⟩ := HC.out _ (Ext.refl _)
  clear q0 q1 q2 q3
  go_enter Tryd.func41, Tryd.ntmps41
  go_wp2_with fail
  go_quiet (fail)
  go_upto_region 5 with (fail)
  have hEq : Ext (((w.alloc (.cells #[.int .i64 k, .string n, .int .i64 s, .slice (some ⟨kb, ko, none⟩) ks.length kcap] 24)).alloc (.cells #[x0, x1, x2, x3] 24)).alloc (.cells #[.int .i64 0, .string ⟨#[]⟩, .int .i64 0, .slice none 0 0] 24)) (World.drewN (((w.alloc (.cells #[.int .i64 k, .string n, .int .i64 s, .slice (some ⟨kb, ko, none⟩) ks.length kcap] 24)).alloc (.cells #[x0, x1, x2, x3] 24)).alloc (.cells #[.int .i64 0, .string ⟨#[]⟩, .int .i64 0, .slice none 0 0] 24)) nq) := below_drewN (Ext.refl _) nq
  generalize World.drewN _ nq = wq at hEq ⊢
  have HEq := Lib.hid hEq
  have HCq : Hid (∀ W, Ext wq W → W.cell? ⟨w.heap.size, 3, none⟩ = some (.slice (some ⟨kb, ko, none⟩) ks.length kcap) ∧ W.cell? ⟨pb, po, none⟩ = some (.int .i64 (y : Int)) ∧ W.cell? ⟨kb, ko + y * 4, none⟩ = some d0 ∧ W.cell? ⟨kb, ko + y * 4 + 1, none⟩ = some d1 ∧ W.cell? ⟨kb, ko + y * 4 + 2, none⟩ = some d2 ∧ W.cell? ⟨kb, ko + y * 4 + 3, none⟩ = some d3 ∧
      W.cell? ⟨w.heap.size + 1, 0, none⟩ = some x0 ∧ W.cell? ⟨w.heap.size + 1, 1, none⟩ = some x1 ∧ W.cell? ⟨w.heap.size + 1, 2, none⟩ = some x2 ∧ W.cell? ⟨w.heap.size + 1, 3, none⟩ = some x3) := fun W h => HC.out W (Ext.trans HEq.out h)
  obtain ⟨m3, m4, r0, r1, r2, r3, n0, n1, n2, n3⟩ := HCq.out _ (Ext.refl _)
  have hF0 : Ext wq wq.drew := (Ext.refl wq).drew
  have hqs : w.heap.size + 3 ≤ wq.heap.size := by have := hEq.size; simp at this; omega
  clear hEq
  go_cut [8, 9] (fun v8 v9 wc => ∃ B, v8 = .pointer (some ⟨B, 0, none⟩) ∧ v9 = .int .i64 7 ∧ Ext wq wc)
  case first =>
    go_region_held3 (fun W => W.cell? ⟨w.heap.size, 3, none⟩ = some (.slice (some ⟨kb, ko, none⟩) ks.length kcap) ∧ W.cell? ⟨pb, po, none⟩ = some (.int .i64 (y : Int)) ∧ W.cell? ⟨kb, ko + y * 4, none⟩ = some d0 ∧ W.cell? ⟨kb, ko + y * 4 + 1, none⟩ = some d1 ∧ W.cell? ⟨kb, ko + y * 4 + 2, none⟩ = some d2 ∧ W.cell? ⟨kb, ko + y * 4 + 3, none⟩ = some d3 ∧
      W.cell? ⟨w.heap.size + 1, 0, none⟩ = some x0 ∧ W.cell? ⟨w.heap.size + 1, 1, none⟩ = some x1 ∧ W.cell? ⟨w.heap.size + 1, 2, none⟩ = some x2 ∧ W.cell? ⟨w.heap.size + 1, 3, none⟩ = some x3)
      (first | exact HCq.out _ (by assumption) | exact HCq.out _ (Ext.alloc (by assumption) _) | exact HCq.out _ (Ext.drew (Ext.alloc (Ext.refl wq) _)) | (have r2 := put4_below (w' := w7) (g := wq.heap.size) (o := 0) (c0 := (.int .i64 0)) (c1 := (.string ⟨#[]⟩)) (c2 := (.int .i64 0)) (c3 := (.slice none 0 0)) hF1 (Nat.le_refl _); simp only [put4, Nat.zero_add] at r2; exact HCq.out _ r2) | go_keep)
      (first
        | (go_at_call 41; refine (HCALL.out _ ?_).mono ?_; (exact Ext.trans HX.out (Ext.trans HEq.out (by first | exact hF0 | exact Ext.drew (Ext.alloc (Ext.refl wq) _)))); rintro e w7 ⟨hB, he⟩; subst he; have hF1 : Ext wq w7 := Ext.trans (by first | exact hF0 | exact Ext.drew (Ext.alloc (Ext.refl wq) _)) hB; (first | (have HZ := Lib.hid ((hB.block wq.heap.size (by simp)).trans (heap_alloc_new wq _)); have hz := box_facts (w := w7) (b := wq.heap.size) HZ.out; obtain ⟨⟨z0, z1, z2, z3⟩, zf0, zf1, zf2, zf3⟩ := hz) | skip); clear hB))
    all_goals go_wp2_with fail
    all_goals go_meet
    all_goals first
      | (have r2 := put4_below (w' := w7) (g := wq.heap.size) (o := 0) (c0 := .int .i64 0) (c1 := .string ⟨#[]⟩) (c2 := .int .i64 0) (c3 := .slice none 0 0) hF1 (Nat.le_refl _)
         simp only [put4, Nat.zero_add] at r2
         exact ⟨wq.heap.size, rfl, rfl, r2⟩)
      | exact ⟨w7.heap.size, rfl, rfl, hF1.alloc _⟩
  case rest =>
    obtain ⟨B, rfl, rfl, hE⟩ := hcut
    have HE := Lib.hid hE
    obtain ⟨⟨z0, z1, z2, z3⟩, zf0, zf1, zf2, zf3⟩ := box_facts (w := wc) (b := w.heap.size + 1 + 1) (rep_box (Ext.trans HEq.out hE))
    clear hE m3 m4 r0 r1 r2 r3 n0 n1 n2 n3
    go_wp2_with fail
    exact bodyPost_ret (v := .tuple #[.agg #[.int .i64 0, .string ⟨#[]⟩, .int .i64 0, .slice none 0 0], .int .i64 7]) (by simp [results, Tryd.results41, go_sem, z0, z1, z2, z3]) rfl ⟨put4_below (w' := wc) (g := w.heap.size + 1 + 1) (o := 0) (Ext.trans (a := w) HX.out (Ext.trans HEq.out HE.out)) (by omega), rfl⟩

end Go.Proofs.YthhhmjjgckkdhaaDoor
