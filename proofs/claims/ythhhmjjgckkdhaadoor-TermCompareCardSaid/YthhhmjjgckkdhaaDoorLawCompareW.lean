/-
  THE WALKS OF the law TermCompare, the chapter's examples by hypothesis.
-/
import Derived.Test.YthhhmjjgckkdhaaDoorLawSizesW
import Derived.Test.YthhhmjjgckkdhaaDoorOrd
import Derived.Deep.DeepCutAuto
namespace Go.Proofs.YthhhmjjgckkdhaaDoor
open Go.RowKit

theorem num_range (a b : Int) : num a b = -1 ∨ num a b = 0 ∨ num a b = 1 := by
  unfold num; split
  · exact Or.inl rfl
  · split
    · exact Or.inr (Or.inr rfl)
    · exact Or.inr (Or.inl rfl)
theorem orr_range {a b : Int} (ha : a = -1 ∨ a = 0 ∨ a = 1) (hb : b = -1 ∨ b = 0 ∨ b = 1) : orr a b = -1 ∨ orr a b = 0 ∨ orr a b = 1 := by
  unfold orr; split
  · exact hb
  · exact ha
theorem cmpT_range (t : Tm) : ∀ u, cmpT t u = -1 ∨ cmpT t u = 0 ∨ cmpT t u = 1 := by
  refine Tm.rec (motive_1 := fun t => ∀ u, cmpT t u = -1 ∨ cmpT t u = 0 ∨ cmpT t u = 1) (motive_2 := fun ts => ∀ us, cmpL ts us = -1 ∨ cmpL ts us = 0 ∨ cmpL ts us = 1) ?_ ?_ ?_ t
  · intro k n s ks ih u
    obtain ⟨k', n', s', ks'⟩ := u
    simp only [cmpT]
    exact orr_range (num_range _ _) (orr_range (num_range _ _) (orr_range (str_range _ _) (orr_range (num_range _ _) (orr_range (num_range _ _) (ih _)))))
  · intro us; simp [cmpL]
  · intro t ts h1 h2 us
    cases us with
    | nil => simp [cmpL]
    | cons u us => simp only [cmpL]; exact orr_range (h1 u) (h2 us)
theorem cmpT_smaller {t u : Tm} (h : size t < size u) : cmpT t u = -1 := by
  obtain ⟨k, n, s, ks⟩ := t
  obtain ⟨k', n', s', ks'⟩ := u
  simp only [size] at h
  have e : num ((1 + sizes ks : Nat) : Int) ((1 + sizes ks' : Nat) : Int) = -1 := by
    unfold num; rw [if_pos (by omega)]
  simp only [cmpT]
  rw [e]; rfl
theorem cmpT_kid {k s : Int} {n : ByteArray} {ks : List Tm} (j : Nat) (hj : j < ks.length) : cmpT ks[j] (.mk k n s ks) = -1 := by
  refine cmpT_smaller ?_
  have := size_le_sizes (List.getElem_mem hj)
  simp only [size]; omega

/-- Three boxed terms, one behind the other. -/
def W3 (w : World) (a0 a1 a2 a3 b0 b1 b2 b3 c0 c1 c2 c3 : Value) : World := ((w.alloc (.cells #[a0, a1, a2, a3] 24)).alloc (.cells #[b0, b1, b2, b3] 24)).alloc (.cells #[c0, c1, c2, c3] 24)
theorem W3_ext (w : World) (a0 a1 a2 a3 b0 b1 b2 b3 c0 c1 c2 c3 : Value) : Ext w (W3 w a0 a1 a2 a3 b0 b1 b2 b3 c0 c1 c2 c3) := (((Ext.refl w).alloc _).alloc _).alloc _
theorem W3_size (w : World) (a0 a1 a2 a3 b0 b1 b2 b3 c0 c1 c2 c3 : Value) : (W3 w a0 a1 a2 a3 b0 b1 b2 b3 c0 c1 c2 c3).heap.size = w.heap.size + 1 + 1 + 1 := by simp [W3]
def Cells3 (w : World) (a0 a1 a2 a3 b0 b1 b2 b3 c0 c1 c2 c3 : Value) (W : World) : Prop :=
  W.cell? ⟨w.heap.size, 0, none⟩ = some a0 ∧ W.cell? ⟨w.heap.size, 1, none⟩ = some a1 ∧ W.cell? ⟨w.heap.size, 2, none⟩ = some a2 ∧ W.cell? ⟨w.heap.size, 3, none⟩ = some a3 ∧
  W.cell? ⟨w.heap.size + 1, 0, none⟩ = some b0 ∧ W.cell? ⟨w.heap.size + 1, 1, none⟩ = some b1 ∧ W.cell? ⟨w.heap.size + 1, 2, none⟩ = some b2 ∧ W.cell? ⟨w.heap.size + 1, 3, none⟩ = some b3 ∧
  W.cell? ⟨w.heap.size + 1 + 1, 0, none⟩ = some c0 ∧ W.cell? ⟨w.heap.size + 1 + 1, 1, none⟩ = some c1 ∧ W.cell? ⟨w.heap.size + 1 + 1, 2, none⟩ = some c2 ∧ W.cell? ⟨w.heap.size + 1 + 1, 3, none⟩ = some c3
theorem Cells3_ext {w : World} {a0 a1 a2 a3 b0 b1 b2 b3 c0 c1 c2 c3 : Value} {W : World} (h : Ext (W3 w a0 a1 a2 a3 b0 b1 b2 b3 c0 c1 c2 c3) W) : Cells3 w a0 a1 a2 a3 b0 b1 b2 b3 c0 c1 c2 c3 W := by
  have A := cells_new_at w #[a0, a1, a2, a3] 24 _ rfl
  have B := cells_new_at (w.alloc (.cells #[a0, a1, a2, a3] 24)) #[b0, b1, b2, b3] 24 (w.heap.size + 1) (by simp)
  have C := cells_new_at ((w.alloc (.cells #[a0, a1, a2, a3] 24)).alloc (.cells #[b0, b1, b2, b3] 24)) #[c0, c1, c2, c3] 24 (w.heap.size + 1 + 1) (by simp)
  have KA := fun j u h' => keep_below h _ _ (keep_alloc _ (.cells #[c0, c1, c2, c3] 24) _ _ (keep_alloc _ (.cells #[b0, b1, b2, b3] 24) _ _ (A j u h')))
  have KB := fun j u h' => keep_below h _ _ (keep_alloc _ (.cells #[c0, c1, c2, c3] 24) _ _ (B j u h'))
  have KC := fun j u h' => keep_below h _ _ (C j u h')
  exact ⟨KA 0 _ rfl, KA 1 _ rfl, KA 2 _ rfl, KA 3 _ rfl, KB 0 _ rfl, KB 1 _ rfl, KB 2 _ rfl, KB 3 _ rfl, KC 0 _ rfl, KC 1 _ rfl, KC 2 _ rfl, KC 3 _ rfl⟩

set_option maxHeartbeats 1600000 in
set_option maxRecDepth 100000 in
theorem compare_small (HA : Hid AwakeOk) (a b c : Tm) (a0 a1 a2 a3 b0 b1 b2 b3 c0 c1 c2 c3 : Value) (w : World) (hL : Laid w) (hIa : Is w a a0 a1 a2 a3) (hIb : Is w b b0 b1 b2 b3) (hIc : Is w c c0 c1 c2 c3) (h1 : few [a, b, c] 3 450 = true) :
    Calls Tryd.prog 6 #[.agg #[a0, a1, a2, a3], .agg #[b0, b1, b2, b3], .agg #[c0, c1, c2, c3]] w fun e w' => e = .returned (.bool true) ∧ Below w.heap.size w w' := by
  have hsz : size a ≤ 450 ∧ size b ≤ 450 ∧ size c ≤ 450 := by
    simp only [few] at h1
    rw [if_neg (by simp)] at h1
    have := fewL_sizes [a, b, c] 450 (by omega) h1
    simp only [sizes] at this; omega
  obtain ⟨sza, szb, szc⟩ := hsz
  have H1 := Lib.hid h1
  have HL := Lib.hid hL
  have HIa := Lib.hid hIa
  have HIb := Lib.hid hIb
  have HIc := Lib.hid hIc
  have HK := Lib.hid (fun W => @Cells3_ext w a0 a1 a2 a3 b0 b1 b2 b3 c0 c1 c2 c3 W)
  have HX := Lib.hid (W3_ext w a0 a1 a2 a3 b0 b1 b2 b3 c0 c1 c2 c3)
  have HXe : Hid (Ext (W3 w a0 a1 a2 a3 b0 b1 b2 b3 c0 c1 c2 c3) (W3 w a0 a1 a2 a3 b0 b1 b2 b3 c0 c1 c2 c3)) := Ext.refl _
  clear h1 hL hIb hIc hIa
  go_enter Tryd.func6, Tryd.ntmps6
  go_wp2_with (first
    | (go_at_call 11; refine (HA.out _ ?_).mono ?_; (exact Laid_ext HL.out HX.out); rintro e w1 ⟨he, hB1⟩; subst he; have HB1 : Hid (Ext (W3 w a0 a1 a2 a3 b0 b1 b2 b3 c0 c1 c2 c3) w1) := HXe.out.trans hB1; obtain ⟨p0, p1, p2, p3, q0, q1, q2, q3, r0, r1, r2, r3⟩ := HK.out _ HB1.out; clear hB1)
    | (go_at_call 24; have hX := HX.out.trans (HB1.out.mono (by rw [W3_size]; omega)); refine (few_any [a, b, c] _ 3 3 450 _ (by simp [maxLen]) (by omega) (by omega) (Row_three_at _ rfl (Is_below HIa.out hX) (Is_below HIb.out hX) (Is_below HIc.out hX) 24)).mono ?_; rintro e w2 ⟨he, hB2⟩; rw [H1.out] at he; subst he; have HB2 : Hid (Ext (W3 w a0 a1 a2 a3 b0 b1 b2 b3 c0 c1 c2 c3) w2) := (HB1.out.alloc _).trans hB2; clear hB2 hX p0 p1 p2 p3 q0 q1 q2 q3 r0 r1 r2 r3))
  have HF2 := Lib.hid (HX.out.trans (HB2.out.mono (by rw [W3_size]; omega)))
  have hE0 : Ext w2 w2.drew := (Ext.refl w2).drew
  have HC2 := Lib.hid (fun (W : World) (h : Ext w2 W) => HK.out W (Ext.trans (a := W3 w a0 a1 a2 a3 b0 b1 b2 b3 c0 c1 c2 c3) HB2.out h))
  obtain ⟨x, hx⟩ : ∃ x, cmpT a b = x := ⟨_, rfl⟩
  obtain ⟨y, hy⟩ : ∃ y, cmpT b c = y := ⟨_, rfl⟩
  obtain ⟨z, hz⟩ : ∃ z, cmpT a c = z := ⟨_, rfl⟩
  have HCX := Lib.hid hx
  have HCY := Lib.hid hy
  have HCZ := Lib.hid hz
  clear hx hy hz
  go_cut [7, 8, 9] (fun t7 t8 t9 wc => t7 = .int .i64 x ∧ t8 = .int .i64 y ∧ t9 = .int .i64 z ∧ Ext w2 wc)
  case first =>
    have tok1 : True := trivial
    have tok2 : True := trivial
    have tok3 : True := trivial
    go_region_held3 (fun W => W.cell? ⟨w.heap.size, 0, none⟩ = some a0 ∧ W.cell? ⟨w.heap.size, 1, none⟩ = some a1 ∧ W.cell? ⟨w.heap.size, 2, none⟩ = some a2 ∧ W.cell? ⟨w.heap.size, 3, none⟩ = some a3 ∧ W.cell? ⟨w.heap.size + 1, 0, none⟩ = some b0 ∧ W.cell? ⟨w.heap.size + 1, 1, none⟩ = some b1 ∧ W.cell? ⟨w.heap.size + 1, 2, none⟩ = some b2 ∧ W.cell? ⟨w.heap.size + 1, 3, none⟩ = some b3 ∧ W.cell? ⟨w.heap.size + 1 + 1, 0, none⟩ = some c0 ∧ W.cell? ⟨w.heap.size + 1 + 1, 1, none⟩ = some c1 ∧ W.cell? ⟨w.heap.size + 1 + 1, 2, none⟩ = some c2 ∧ W.cell? ⟨w.heap.size + 1 + 1, 3, none⟩ = some c3)
      (first | exact HC2.out _ (by assumption) | go_keep)
      (first
        | (go_at_call 25; have _t := tok1; refine (Compare_any a b _ _ _ _ _ _ _ _ _ (by omega) (by omega) (Is_below HIa.out (Ext.trans (a := w) HF2.out hE0)) (Is_below HIb.out (Ext.trans (a := w) HF2.out hE0))).mono ?_; rintro e w3 ⟨he, hB⟩; rw [HCX.out] at he; subst he; have hE1 : Ext w2 w3 := hE0.trans hB; clear hB tok1)
        | (go_at_call 25; have _t := tok2; refine (Compare_any b c _ _ _ _ _ _ _ _ _ (by omega) (by omega) (Is_below HIb.out (Ext.trans (a := w) HF2.out hE1)) (Is_below HIc.out (Ext.trans (a := w) HF2.out hE1))).mono ?_; rintro e w4 ⟨he, hB⟩; rw [HCY.out] at he; subst he; have hE2 : Ext w2 w4 := hE1.trans hB; clear hB tok2)
        | (go_at_call 25; have _t := tok3; refine (Compare_any a c _ _ _ _ _ _ _ _ _ (by omega) (by omega) (Is_below HIa.out (Ext.trans (a := w) HF2.out hE2)) (Is_below HIc.out (Ext.trans (a := w) HF2.out hE2))).mono ?_; rintro e w5 ⟨he, hB⟩; rw [HCZ.out] at he; subst he; have hE3 : Ext w2 w5 := hE2.trans hB; clear hB tok3))
    go_wp2_with fail
    go_meet
    exact ⟨rfl, rfl, rfl, hE3⟩
  case rest =>
    obtain ⟨rfl, rfl, rfl, hE⟩ := hcut
    obtain ⟨p0, p1, p2, p3, q0, q1, q2, q3, r0, r1, r2, r3⟩ := HC2.out _ hE
    have HBA : Hid (cmpT b a = -x) := by show _ = _; rw [cmpT_anti a b, HCX.out]
    have hT : T3 x y z := by rw [← HCX.out, ← HCY.out, ← HCZ.out]; exact cmpT_T3 a b c
    have hxr : x = -1 ∨ x = 0 ∨ x = 1 := by rw [← HCX.out]; exact cmpT_range a b
    have hyr : y = -1 ∨ y = 0 ∨ y = 1 := by rw [← HCY.out]; exact cmpT_range b c
    have hzr : z = -1 ∨ z = 0 ∨ z = 1 := by rw [← HCZ.out]; exact cmpT_range a c
    obtain ⟨T1, T2, T4⟩ := hT
    have HFc := Lib.hid (Ext.trans (a := w) HF2.out hE)
    have HEc := Lib.hid hE
    clear hE
    go_upto_region 4 with (fail)
    go_cut [72] (fun v wd => v = .bool false ∧ Ext wc wd)
    case first =>
      have tok1 : True := trivial
      have tok2 : True := trivial
      rcases hxr with rfl | rfl | rfl <;> rcases hyr with rfl | rfl | rfl <;> rcases hzr with rfl | rfl | rfl <;> first
        | (exfalso; omega)
        | (clear T1 T2 T4
           go_wp2_with (first
             | (go_at_call 26; have _t := tok1; refine (rcompare_any _ a b _ _ _ _ _ _ _ _ _ (Nat.le_refl _) (by omega) (by omega) (Is_below HIa.out HFc.out) (Is_below HIb.out HFc.out)).mono ?_; rintro e w3 ⟨he, hB⟩; rw [HCX.out] at he; subst he; have hE1 : Ext wc w3 := hB; have u0 := keep_below hB _ _ p0; have u1 := keep_below hB _ _ p1; have u2 := keep_below hB _ _ p2; have u3 := keep_below hB _ _ p3; have v0 := keep_below hB _ _ q0; have v1 := keep_below hB _ _ q1; have v2 := keep_below hB _ _ q2; have v3 := keep_below hB _ _ q3; have x0 := keep_below hB _ _ r0; have x1 := keep_below hB _ _ r1; have x2 := keep_below hB _ _ r2; have x3 := keep_below hB _ _ r3; clear hB tok1 p0 p1 p2 p3 q0 q1 q2 q3 r0 r1 r2 r3)
             | (go_at_call 26; have _t := tok2; refine (rcompare_any _ b c _ _ _ _ _ _ _ _ _ (Nat.le_refl _) (by omega) (by omega) (Is_below HIb.out (Ext.trans (a := w) HFc.out hE1)) (Is_below HIc.out (Ext.trans (a := w) HFc.out hE1))).mono ?_; rintro e w4 ⟨he, hB⟩; rw [HCY.out] at he; subst he; have hE2 : Ext wc w4 := hE1.trans hB; have y0 := keep_below hB _ _ u0; have y1 := keep_below hB _ _ u1; have y2 := keep_below hB _ _ u2; have y3 := keep_below hB _ _ u3; have z0 := keep_below hB _ _ v0; have z1 := keep_below hB _ _ v1; have z2 := keep_below hB _ _ v2; have z3 := keep_below hB _ _ v3; clear hB tok2 u0 u1 u2 u3 v0 v1 v2 v3 x0 x1 x2 x3)
             | (go_at_call 25; refine (Compare_any b a _ _ _ _ _ _ _ _ _ (by omega) (by omega) (Is_below HIb.out (Ext.trans (a := w) HFc.out hE2)) (Is_below HIa.out (Ext.trans (a := w) HFc.out hE2))).mono ?_; rintro e w5 ⟨he, hB⟩; rw [HBA.out] at he; subst he; have hE3 : Ext wc w5 := hE2.trans hB; clear hB))
           go_meet
           exact ⟨rfl, hE3⟩)
    case rest =>
      obtain ⟨rfl, hE⟩ := hcut
      have HFd := Lib.hid (Ext.trans (a := w) HFc.out hE)
      have k0 := keep_below hE _ _ p0
      have k1 := keep_below hE _ _ p1
      have k2 := keep_below hE _ _ p2
      have k3 := keep_below hE _ _ p3
      clear hE p0 p1 p2 p3 q0 q1 q2 q3 r0 r1 r2 r3 T1 T2 T4 hxr hyr hzr HBA HCX HCY HCZ HC2 HEc HFc HF2 HIb HIc HK HX HXe H1 HL hE0 HB1 HB2
      obtain ⟨k, n, s, ks⟩ := a
      have HI2 := HIa.out
      simp only [Is] at HI2
      obtain ⟨rfl, rfl, rfl, _, _, _, hkl, xa, cap, rfl, hcap, hR⟩ := HI2
      unfold maxLen at hkl
      have HR := Lib.hid hR
      clear hR
      go_wp2_with fail
      go_loopw [76] (fun i wr => ∃ j : Nat, j ≤ ks.length ∧ i = .int .i64 j ∧ Ext wc wr) (fun i _ => ks.length - (intOf i).toNat)
      case atStart => exact ⟨0, Nat.zero_le _, rfl, Ext.refl _⟩
      case round =>
        obtain ⟨j, hj, rfl, hE⟩ := hrel
        have HE := Lib.hid hE
        have u0 := keep_below hE _ _ k0
        have u1 := keep_below hE _ _ k1
        have u2 := keep_below hE _ _ k2
        have u3 := keep_below hE _ _ k3
        by_cases hlt : j < ks.length
        rotate_left
        · clear hE
          go_wp2_with fail
          go_ret
          exact ⟨rfl, Ext.trans (a := w) HFd.out HE.out⟩
        obtain ⟨kb, ko, rfl⟩ := Row_at HR.out (by omega)
        obtain ⟨e0, e1, e2, e3, m0, m1, m2, m3, hKI⟩ := Row_get (Row_below HR.out (Ext.trans (a := w) HFd.out hE)) j hlt
        obtain ⟨k', n', s', x', l', c', rfl, rfl, rfl, rfl⟩ := Is_form hKI
        have HKI := Lib.hid hKI
        have HCK := Lib.hid (cmpT_kid (k := k) (s := s) (n := n) j hlt)
        have hss := size_le_sizes (List.getElem_mem hlt)
        have hs1 : size ks[j] ≤ 450 := by simp only [size] at sza; omega
        have hb0 : w.heap.size < wr.heap.size := World.block_lt_of_cell? wr _ u0
        clear hE hKI hss
        go_wp2_with (go_at_call 25; refine (Compare_any ks[j] (.mk k n s ks) _ _ _ _ _ _ _ _ _ (by omega) (by omega) (Is_alloc HKI.out _) (Is_alloc (Is_below HIa.out (Ext.trans (a := w) HFd.out HE.out)) _)).mono ?_; rintro e w3 ⟨he, hB⟩; rw [HCK.out] at he; subst he; have hE1 : Ext wc w3 := (HE.out.alloc _).trans hB; clear hB)
        go_roundw
        case rel => exact ⟨j + 1, by omega, by go_num, hE1⟩
        case measure => simp [intOf]; omega

set_option maxHeartbeats 1600000 in
set_option maxRecDepth 100000 in
theorem compare_large (HA : Hid AwakeOk) (a b c : Tm) (a0 a1 a2 a3 b0 b1 b2 b3 c0 c1 c2 c3 : Value) (w : World) (hL : Laid w) (hIa : Is w a a0 a1 a2 a3) (hIb : Is w b b0 b1 b2 b3) (hIc : Is w c c0 c1 c2 c3) (h1 : few [a, b, c] 3 450 = false) :
    Calls Tryd.prog 6 #[.agg #[a0, a1, a2, a3], .agg #[b0, b1, b2, b3], .agg #[c0, c1, c2, c3]] w fun e w' => e = .returned (.bool true) ∧ Below w.heap.size w w' := by
  have H1 := Lib.hid h1
  have HL := Lib.hid hL
  have HIa := Lib.hid hIa
  have HIb := Lib.hid hIb
  have HIc := Lib.hid hIc
  have HK := Lib.hid (fun W => @Cells3_ext w a0 a1 a2 a3 b0 b1 b2 b3 c0 c1 c2 c3 W)
  have HX := Lib.hid (W3_ext w a0 a1 a2 a3 b0 b1 b2 b3 c0 c1 c2 c3)
  have HXe : Hid (Ext (W3 w a0 a1 a2 a3 b0 b1 b2 b3 c0 c1 c2 c3) (W3 w a0 a1 a2 a3 b0 b1 b2 b3 c0 c1 c2 c3)) := Ext.refl _
  clear h1 hL hIb hIc hIa
  go_enter Tryd.func6, Tryd.ntmps6
  go_wp2_with (first
    | (go_at_call 11; refine (HA.out _ ?_).mono ?_; (first | exact Laid_ext HL.out HX.out | exact Laid_ext HL.out HB2.out); rintro e w1 ⟨he, hB1⟩; subst he; first | (have HB3 : Hid (Ext w w1) := HB2.out.trans hB1) | (have HB1 : Hid (Ext (W3 w a0 a1 a2 a3 b0 b1 b2 b3 c0 c1 c2 c3) w1) := HXe.out.trans hB1; obtain ⟨p0, p1, p2, p3, q0, q1, q2, q3, r0, r1, r2, r3⟩ := HK.out _ HB1.out; clear hB1))
    | (go_at_call 24; have hX := HX.out.trans (HB1.out.mono (by rw [W3_size]; omega)); refine (few_any [a, b, c] _ 3 3 450 _ (by simp [maxLen]) (by omega) (by omega) (Row_three_at _ rfl (Is_below HIa.out hX) (Is_below HIb.out hX) (Is_below HIc.out hX) 24)).mono ?_; rintro e w2 ⟨he, hB2⟩; rw [H1.out] at he; subst he; have HB2 : Hid (Ext w w2) := (Ext.alloc (a := w) hX _).trans hB2; clear hB2 hX p0 p1 p2 p3 q0 q1 q2 q3 r0 r1 r2 r3))
  go_ret
  exact ⟨rfl, HB3.out⟩

theorem lawCompare_any (HA : AwakeOk) (a b c : Tm) (a0 a1 a2 a3 b0 b1 b2 b3 c0 c1 c2 c3 : Value) (w : World) (hL : Laid w) (hIa : Is w a a0 a1 a2 a3) (hIb : Is w b b0 b1 b2 b3) (hIc : Is w c c0 c1 c2 c3) :
    Calls Tryd.prog 6 #[.agg #[a0, a1, a2, a3], .agg #[b0, b1, b2, b3], .agg #[c0, c1, c2, c3]] w fun e w' => e = .returned (.bool true) ∧ Below w.heap.size w w' := by
  cases h : few [a, b, c] 3 450 with
  | true => exact compare_small (Lib.hid HA) a b c _ _ _ _ _ _ _ _ _ _ _ _ w hL hIa hIb hIc h
  | false => exact compare_large (Lib.hid HA) a b c _ _ _ _ _ _ _ _ _ _ _ _ w hL hIa hIb hIc h

end Go.Proofs.YthhhmjjgckkdhaaDoor
