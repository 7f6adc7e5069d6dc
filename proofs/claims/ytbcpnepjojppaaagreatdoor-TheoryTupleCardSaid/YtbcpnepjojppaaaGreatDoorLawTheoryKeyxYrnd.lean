import Derived.Test.YtbcpnepjojppaaaGreatDoorLawTheoryKeyxYrfn
namespace Go.Proofs.YtbcpnepjojppaaaGreatDoor
open Go.RowKit
set_option maxHeartbeats 3200000 in
set_option maxRecDepth 100000 in
theorem yrnodes_any (m : Nat) : ∀ (t : Tm) (c0 c1 c2 c3 : Value) (w : World), size t ≤ m → m ≤ 1073741824 → Is w t c0 c1 c2 c3 →
    Calls Tryz.prog 55 #[.agg #[c0, c1, c2, c3]] w fun e w' => e = .returned (.int .i64 (ynodesE t)) ∧ Ext w w' := by
  induction m with
  | zero => intro t c0 c1 c2 c3 w h; have := size_pos t; omega
  | succ m ih =>
    intro t c0 c1 c2 c3 w hm hM hI
    obtain ⟨k, n, s, ks⟩ := t
    have hsk : size (.mk k n s ks) = 1 + sizes ks := rfl
    rw [hsk] at hm
    have hE := ynodesE_mk k n s ks
    have hI0 := hI
    simp only [Is] at hI
    obtain ⟨rfl, rfl, rfl, _, _, _, hkl, xa, cap, rfl, hcap, hR⟩ := hI
    unfold maxLen at hkl
    have hkl2 := length_le_sizes ks
    have HIH := Lib.hid ih
    clear hsk ih hcap
    by_cases hk : k = 3
    rotate_left
    · have H : Hid (ynodesE (.mk k n s ks) = 0) := by show _ = _; rw [hE, if_neg hk]
      have q0 : (k != 3) = true := by rw [bne_iff_ne]; exact hk
      clear hE hk hI0 hR
      go_enter Tryz.func55, Tryz.ntmps55
      go_wp2_with fail
      go_ret
      rw [H.out]
      exact ⟨rfl, (Ext.refl w).alloc _⟩
    subst hk
    rw [if_pos rfl] at hE
    have hX0 : Ext w (w.alloc (.cells #[.int .i64 3, .string n, .int .i64 s, .slice xa ks.length cap] 24)) := (Ext.refl w).alloc _
    have HX0 := Lib.hid hX0
    have HR := Lib.hid (Row_carry (keep_below hX0) _ _ hR)
    have HC0 : Hid (∀ W, Ext (w.alloc (.cells #[.int .i64 3, .string n, .int .i64 s, .slice xa ks.length cap] 24)) W → W.cell? ⟨w.heap.size, 0, none⟩ = some (.int .i64 3) ∧ W.cell? ⟨w.heap.size, 1, none⟩ = some (.string n) ∧ W.cell? ⟨w.heap.size, 2, none⟩ = some (.int .i64 s) ∧ W.cell? ⟨w.heap.size, 3, none⟩ = some (.slice xa ks.length cap)) := fun W h => by
      have c := fun j u e => keep_below h _ _ (cells_new_at w #[.int .i64 3, .string n, .int .i64 s, .slice xa ks.length cap] 24 _ rfl j u e)
      exact ⟨c 0 _ rfl, c 1 _ rfl, c 2 _ rfl, c 3 _ rfl⟩
    have HI : Hid (∀ W, Ext (w.alloc (.cells #[.int .i64 3, .string n, .int .i64 s, .slice xa ks.length cap] 24)) W → Is W (.mk 3 n s ks) (.int .i64 3) (.string n) (.int .i64 s) (.slice xa ks.length cap)) := fun W h => Is_carry (keep_below (Ext.trans hX0 h)) _ _ _ _ _ hI0
    have HK : Hid (∀ W, Calls Tryz.prog 60 #[.string n] W fun e w' => e = .returned (.int .i64 (kindS n)) ∧ Ext W w') := fun W => rKind_any n W
    have HF : Hid (∀ W, Ext (w.alloc (.cells #[.int .i64 3, .string n, .int .i64 s, .slice xa ks.length cap] 24)) W → Calls Tryz.prog 84 #[.agg #[.int .i64 3, .string n, .int .i64 s, .slice xa ks.length cap]] W fun e w' => e = .returned (.bool (fitsS n ks)) ∧ Ext W w') := fun W h => yfits_any (.mk 3 n s ks) _ _ _ _ W (HI.out W h)
    clear hI0 hR hX0
    by_cases hz : kindS n = 0
    · have H : Hid (ynodesE (.mk 3 n s ks) = 10) := by show _ = _; rw [hE, show ynodeE n ks = 10 by rw [ynodeE_ref, if_pos hz]]; rfl
      rw [hz] at HK
      clear hE hz
      go_enter Tryz.func55, Tryz.ntmps55
      go_wp2_with (first
        | (go_at_call 60; refine (HK.out _).mono ?_; rintro e w1 ⟨he, hX⟩; subst he; have HX1 : Hid (Ext (w.alloc (.cells #[.int .i64 3, .string n, .int .i64 s, .slice xa ks.length cap] 24)) w1) := Lib.hid hX; obtain ⟨y0, y1, y2, y3⟩ := HC0.out _ HX1.out; clear hX))
      go_ret
      rw [H.out]
      exact ⟨rfl, Ext.trans HX0.out HX1.out⟩
    have hb : (kindS n == 0) = false := by rw [beq_eq_false_iff_ne]; exact hz
    obtain ⟨f, hf⟩ : ∃ f, fitsS n ks = f := ⟨_, rfl⟩
    cases f
    · have H : Hid (ynodesE (.mk 3 n s ks) = 6) := by show _ = _; rw [hE, show ynodeE n ks = 6 by rw [ynodeE_ref, if_neg hz, if_pos hf]]; rfl
      rw [hf] at HF
      generalize kindS n = kd at HK hb
      clear hE hz hf
      go_enter Tryz.func55, Tryz.ntmps55
      go_wp2_with (first
        | (go_at_call 60; refine (HK.out _).mono ?_; rintro e w1 ⟨he, hX⟩; subst he; have HX1 : Hid (Ext (w.alloc (.cells #[.int .i64 3, .string n, .int .i64 s, .slice xa ks.length cap] 24)) w1) := Lib.hid hX; obtain ⟨y0, y1, y2, y3⟩ := HC0.out _ HX1.out; clear hX)
        | (go_at_call 84; refine (HF.out _ HX1.out).mono ?_; rintro e w2 ⟨he, hX⟩; subst he; have HX2 : Hid (Ext (w.alloc (.cells #[.int .i64 3, .string n, .int .i64 s, .slice xa ks.length cap] 24)) w2) := Lib.hid (Ext.trans HX1.out hX); obtain ⟨z0, z1, z2, z3⟩ := HC0.out _ HX2.out; clear hX))
      go_ret
      rw [H.out]
      exact ⟨rfl, Ext.trans HX0.out HX2.out⟩
    have hp : n = nNew → 1 ≤ ks.length := by
      have h := hf
      unfold fitsS at h
      simp only [Bool.and_eq_true, decide_eq_true_eq] at h
      exact (kidsPre_of h.2.1).2.2
    have HA : Hid (∀ W, Ext (w.alloc (.cells #[.int .i64 3, .string n, .int .i64 s, .slice xa ks.length cap] 24)) W → Calls Tryz.prog 85 #[.agg #[.int .i64 3, .string n, .int .i64 s, .slice xa ks.length cap]] W fun e w' => e = .returned (.bool (agentsS n ks)) ∧ Ext W w') := fun W h => yagents_any (.mk 3 n s ks) _ _ _ _ W (HI.out W h) hp
    have hf2 : ¬ fitsS n ks = false := by rw [hf]; simp
    rw [hf] at HF
    clear hf hp HI
    by_cases h2 : kindS n = 2
    rotate_left
    · have H : Hid (ynodesE (.mk 3 n s ks) = ynodesL ks) := by show _ = _; rw [hE, show ynodeE n ks = 0 by rw [ynodeE_ref, if_neg hz, if_neg hf2, if_neg (fun e => h2 e.1)], if_pos rfl]
      have hc : (kindS n == 2) = false := by rw [beq_eq_false_iff_ne]; exact h2
      generalize kindS n = kd at HK hb hc
      clear hE hz h2 hf2
      go_enter Tryz.func55, Tryz.ntmps55
      go_wp2_with (first
        | (go_at_call 60; refine (HK.out _).mono ?_; rintro e w1 ⟨he, hX⟩; subst he; have HX1 : Hid (Ext (w.alloc (.cells #[.int .i64 3, .string n, .int .i64 s, .slice xa ks.length cap] 24)) w1) := Lib.hid hX; obtain ⟨y0, y1, y2, y3⟩ := HC0.out _ HX1.out; clear hX)
        | (go_at_call 84; refine (HF.out _ HX1.out).mono ?_; rintro e w2 ⟨he, hX⟩; subst he; have HX2 : Hid (Ext (w.alloc (.cells #[.int .i64 3, .string n, .int .i64 s, .slice xa ks.length cap] 24)) w2) := Lib.hid (Ext.trans HX1.out hX); obtain ⟨z0, z1, z2, z3⟩ := HC0.out _ HX2.out; clear hX))
      clear y0 y1 y2 y3 z0 z1 z2 z3
      go_loopw [4] (fun i wr => ∃ j : Nat, j ≤ ks.length ∧ i = .int .i64 j ∧ Hid (ynodesE (.mk 3 n s ks) = ynodesL (ks.drop j)) ∧ Hid (Ext (w.alloc (.cells #[.int .i64 3, .string n, .int .i64 s, .slice xa ks.length cap] 24)) wr)) (fun i _ => ks.length - (intOf i).toNat)
      case atStart => exact ⟨0, Nat.zero_le _, rfl, H, HX2⟩
      case round =>
        obtain ⟨j, hj, rfl, HJ, HEr⟩ := hrel
        obtain ⟨x0, x1, x2, x3⟩ := HC0.out _ HEr.out
        clear x0 x1 x2
        by_cases hlt : j < ks.length
        rotate_left
        · have hd : ks.drop j = [] := List.drop_eq_nil_of_le (by omega)
          have H0 : Hid (ynodesE (.mk 3 n s ks) = 0) := by show _ = _; rw [HJ.out, hd]; rfl
          clear hd
          go_wp2_with fail
          go_ret
          rw [H0.out]
          exact ⟨rfl, Ext.trans HX0.out HEr.out⟩
        have hst := ynodesL_drop ks j hlt
        have hsz : size ks[j] ≤ sizes ks := size_le_sizes (List.getElem_mem hlt)
        obtain ⟨kb, ko, rfl⟩ := Row_at HR.out (by omega)
        obtain ⟨e0, e1, e2, e3, k0, k1, k2, k3, hKI⟩ := Row_get (Row_carry (keep_below HEr.out) _ _ HR.out) j hlt
        have HC := Lib.hid (HIH.out ks[j] e0 e1 e2 e3 wr (by omega) (by omega) hKI)
        generalize ynodesE ks[j] = y at hst HC
        have i1 : (0 : Int) ≤ (j : Int) := by omega
        have i2 : (j : Int) < (ks.length : Int) := by omega
        by_cases hy : y = 0
        · have HJ2 : Hid (ynodesE (.mk 3 n s ks) = ynodesL (ks.drop (j + 1))) := by show _ = _; rw [HJ.out, hst, if_pos hy]
          subst hy
          clear hst hsz hKI
          go_wp2_with (go_at_call 55; refine (HC.out).mono ?_; rintro e w9 ⟨he, hX⟩; subst he; have HX9 := Lib.hid (Ext.trans HEr.out hX); clear hX)
          go_roundw
          case rel => exact ⟨j + 1, by omega, by go_num, HJ2, HX9⟩
          case measure => simp [intOf]; omega
        · have HJ2 : Hid (ynodesE (.mk 3 n s ks) = y) := by show _ = _; rw [HJ.out, hst, if_neg hy]
          have hb : (y != 0) = true := by simp [hy]
          clear hst hsz hKI hy
          go_wp2_with (go_at_call 55; refine (HC.out).mono ?_; rintro e w9 ⟨he, hX⟩; subst he; have HX9 := Lib.hid (Ext.trans HEr.out hX); clear hX)
          go_ret
          rw [HJ2.out]
          exact ⟨rfl, Ext.trans HX0.out HX9.out⟩
    have hc : (kindS n == 2) = true := by rw [beq_iff_eq]; exact h2
    obtain ⟨a, ha⟩ : ∃ a, agentsS n ks = a := ⟨_, rfl⟩
    cases a
    · have H : Hid (ynodesE (.mk 3 n s ks) = 10) := by show _ = _; rw [hE, show ynodeE n ks = 10 by rw [ynodeE_ref, if_neg hz, if_neg hf2, if_pos ⟨h2, ha⟩]]; rfl
      rw [ha] at HA
      generalize kindS n = kd at HK hb hc
      clear hE hz h2 hf2 ha
      go_enter Tryz.func55, Tryz.ntmps55
      go_wp2_with (first
        | (go_at_call 60; refine (HK.out _).mono ?_; rintro e w1 ⟨he, hX⟩; subst he; have HX1 : Hid (Ext (w.alloc (.cells #[.int .i64 3, .string n, .int .i64 s, .slice xa ks.length cap] 24)) w1) := Lib.hid hX; obtain ⟨y0, y1, y2, y3⟩ := HC0.out _ HX1.out; clear hX)
        | (go_at_call 84; refine (HF.out _ HX1.out).mono ?_; rintro e w2 ⟨he, hX⟩; subst he; have HX2 : Hid (Ext (w.alloc (.cells #[.int .i64 3, .string n, .int .i64 s, .slice xa ks.length cap] 24)) w2) := Lib.hid (Ext.trans HX1.out hX); obtain ⟨z0, z1, z2, z3⟩ := HC0.out _ HX2.out; clear hX)
        | (go_at_call 85; refine (HA.out _ HX2.out).mono ?_; rintro e w3 ⟨he, hX⟩; subst he; have HX3 : Hid (Ext (w.alloc (.cells #[.int .i64 3, .string n, .int .i64 s, .slice xa ks.length cap] 24)) w3) := Lib.hid (Ext.trans HX2.out hX); obtain ⟨v0, v1, v2, v3⟩ := HC0.out _ HX3.out; clear hX))
      go_ret
      rw [H.out]
      exact ⟨rfl, Ext.trans HX0.out HX3.out⟩
    · have H : Hid (ynodesE (.mk 3 n s ks) = ynodesL ks) := by show _ = _; rw [hE, show ynodeE n ks = 0 by rw [ynodeE_ref, if_neg hz, if_neg hf2, if_neg (fun e => by rw [ha] at e; cases e.2)], if_pos rfl]
      rw [ha] at HA
      generalize kindS n = kd at HK hb hc
      clear hE hz h2 hf2 ha
      go_enter Tryz.func55, Tryz.ntmps55
      go_wp2_with (first
        | (go_at_call 60; refine (HK.out _).mono ?_; rintro e w1 ⟨he, hX⟩; subst he; have HX1 : Hid (Ext (w.alloc (.cells #[.int .i64 3, .string n, .int .i64 s, .slice xa ks.length cap] 24)) w1) := Lib.hid hX; obtain ⟨y0, y1, y2, y3⟩ := HC0.out _ HX1.out; clear hX)
        | (go_at_call 84; refine (HF.out _ HX1.out).mono ?_; rintro e w2 ⟨he, hX⟩; subst he; have HX2 : Hid (Ext (w.alloc (.cells #[.int .i64 3, .string n, .int .i64 s, .slice xa ks.length cap] 24)) w2) := Lib.hid (Ext.trans HX1.out hX); obtain ⟨z0, z1, z2, z3⟩ := HC0.out _ HX2.out; clear hX)
        | (go_at_call 85; refine (HA.out _ HX2.out).mono ?_; rintro e w3 ⟨he, hX⟩; subst he; have HX3 : Hid (Ext (w.alloc (.cells #[.int .i64 3, .string n, .int .i64 s, .slice xa ks.length cap] 24)) w3) := Lib.hid (Ext.trans HX2.out hX); obtain ⟨v0, v1, v2, v3⟩ := HC0.out _ HX3.out; clear hX))
      clear y0 y1 y2 y3 z0 z1 z2 z3 v0 v1 v2 v3
      go_loopw [4] (fun i wr => ∃ j : Nat, j ≤ ks.length ∧ i = .int .i64 j ∧ Hid (ynodesE (.mk 3 n s ks) = ynodesL (ks.drop j)) ∧ Hid (Ext (w.alloc (.cells #[.int .i64 3, .string n, .int .i64 s, .slice xa ks.length cap] 24)) wr)) (fun i _ => ks.length - (intOf i).toNat)
      case atStart => exact ⟨0, Nat.zero_le _, rfl, H, HX3⟩
      case round =>
        obtain ⟨j, hj, rfl, HJ, HEr⟩ := hrel
        obtain ⟨x0, x1, x2, x3⟩ := HC0.out _ HEr.out
        clear x0 x1 x2
        by_cases hlt : j < ks.length
        rotate_left
        · have hd : ks.drop j = [] := List.drop_eq_nil_of_le (by omega)
          have H0 : Hid (ynodesE (.mk 3 n s ks) = 0) := by show _ = _; rw [HJ.out, hd]; rfl
          clear hd
          go_wp2_with fail
          go_ret
          rw [H0.out]
          exact ⟨rfl, Ext.trans HX0.out HEr.out⟩
        have hst := ynodesL_drop ks j hlt
        have hsz : size ks[j] ≤ sizes ks := size_le_sizes (List.getElem_mem hlt)
        obtain ⟨kb, ko, rfl⟩ := Row_at HR.out (by omega)
        obtain ⟨e0, e1, e2, e3, k0, k1, k2, k3, hKI⟩ := Row_get (Row_carry (keep_below HEr.out) _ _ HR.out) j hlt
        have HC := Lib.hid (HIH.out ks[j] e0 e1 e2 e3 wr (by omega) (by omega) hKI)
        generalize ynodesE ks[j] = y at hst HC
        have i1 : (0 : Int) ≤ (j : Int) := by omega
        have i2 : (j : Int) < (ks.length : Int) := by omega
        by_cases hy : y = 0
        · have HJ2 : Hid (ynodesE (.mk 3 n s ks) = ynodesL (ks.drop (j + 1))) := by show _ = _; rw [HJ.out, hst, if_pos hy]
          subst hy
          clear hst hsz hKI
          go_wp2_with (go_at_call 55; refine (HC.out).mono ?_; rintro e w9 ⟨he, hX⟩; subst he; have HX9 := Lib.hid (Ext.trans HEr.out hX); clear hX)
          go_roundw
          case rel => exact ⟨j + 1, by omega, by go_num, HJ2, HX9⟩
          case measure => simp [intOf]; omega
        · have HJ2 : Hid (ynodesE (.mk 3 n s ks) = y) := by show _ = _; rw [HJ.out, hst, if_neg hy]
          have hb : (y != 0) = true := by simp [hy]
          clear hst hsz hKI hy
          go_wp2_with (go_at_call 55; refine (HC.out).mono ?_; rintro e w9 ⟨he, hX⟩; subst he; have HX9 := Lib.hid (Ext.trans HEr.out hX); clear hX)
          go_ret
          rw [HJ2.out]
          exact ⟨rfl, Ext.trans HX0.out HX9.out⟩
set_option maxHeartbeats 1600000 in
set_option maxRecDepth 100000 in
theorem yrValid_any (t : Tm) (c0 c1 c2 c3 : Value) (w : World) (hM : size t ≤ 1073741824) (hI : Is w t c0 c1 c2 c3) :
    Calls Tryz.prog 15 #[.agg #[c0, c1, c2, c3]] w fun e w' => e = .returned (.int .i64 (yvalidE t)) ∧ Ext w w' := by
  obtain ⟨k, n, s, xa, l, cap, rfl, rfl, rfl, rfl⟩ := Is_form hI
  have hX0 : Ext w (w.alloc (.cells #[.int .i64 k, .string n, .int .i64 s, .slice xa l cap] 24)) := (Ext.refl w).alloc _
  have HX0 := Lib.hid hX0
  have HC0 : Hid (∀ W, Ext (w.alloc (.cells #[.int .i64 k, .string n, .int .i64 s, .slice xa l cap] 24)) W → W.cell? ⟨w.heap.size, 0, none⟩ = some (.int .i64 k) ∧ W.cell? ⟨w.heap.size, 1, none⟩ = some (.string n) ∧ W.cell? ⟨w.heap.size, 2, none⟩ = some (.int .i64 s) ∧ W.cell? ⟨w.heap.size, 3, none⟩ = some (.slice xa l cap)) := fun W h => by
    have c := fun j u e => keep_below h _ _ (cells_new_at w #[.int .i64 k, .string n, .int .i64 s, .slice xa l cap] 24 _ rfl j u e)
    exact ⟨c 0 _ rfl, c 1 _ rfl, c 2 _ rfl, c 3 _ rfl⟩
  have HN : Hid (∀ W, Ext (w.alloc (.cells #[.int .i64 k, .string n, .int .i64 s, .slice xa l cap] 24)) W → Calls Tryz.prog 55 #[.agg #[.int .i64 k, .string n, .int .i64 s, .slice xa l cap]] W fun e w' => e = .returned (.int .i64 (ynodesE t)) ∧ Ext W w') := fun W h =>
    yrnodes_any _ t _ _ _ _ W (Nat.le_refl _) hM (Is_carry (keep_below (Ext.trans hX0 h)) _ _ _ _ _ hI)
  have HV := Lib.hid (rValid_any t _ _ _ _ (w.alloc (.cells #[.int .i64 k, .string n, .int .i64 s, .slice xa l cap] 24)) hM (Is_alloc hI _))
  have hv : yvalidE t = if validE t = 0 then ynodesE t else validE t := rfl
  generalize yvalidE t = v at hv ⊢
  generalize validE t = x at hv HV
  clear hI hX0
  by_cases hz : x = 0
  · have H : Hid (v = ynodesE t) := by show _ = _; rw [hv, if_pos hz]
    subst hz
    clear hv
    go_enter Tryz.func15, Tryz.ntmps15
    go_wp2_with (first
      | (go_at_call 54; refine (HV.out).mono ?_; rintro e w1 ⟨he, hB⟩; subst he; have HB1 : Hid (Ext _ w1) := Lib.hid hB; obtain ⟨y0, y1, y2, y3⟩ := HC0.out _ HB1.out; clear hB)
      | (go_at_call 55; refine (HN.out _ HB1.out).mono ?_; rintro e w2 ⟨he, hB⟩; subst he; have HB2 : Hid (Ext _ w2) := Lib.hid (Ext.trans HB1.out hB); clear hB))
    go_ret
    rw [H.out]
    exact ⟨rfl, Ext.trans HX0.out HB2.out⟩
  · have H : Hid (v = x) := by show _ = _; rw [hv, if_neg hz]
    have hb : (x != 0) = true := by simp [hz]
    clear hv hz
    go_enter Tryz.func15, Tryz.ntmps15
    go_wp2_with (go_at_call 54; refine (HV.out).mono ?_; rintro e w1 ⟨he, hB⟩; subst he; have HB1 : Hid (Ext _ w1) := Lib.hid hB; clear hB)
    go_ret
    rw [H.out]
    exact ⟨rfl, Ext.trans HX0.out HB1.out⟩
end Go.Proofs.YtbcpnepjojppaaaGreatDoor
