/-
  THE WALK OF the reference's All.
-/
import Derived.Test.YtcieadjjcpmieaaGreatPall
import Derived.Deep.RegionHeld3
namespace Go.Proofs.YtcieadjjcpmieaaGreat
open Go.RowKit

theorem allM_skip {L : List (List Int)} {mix rest : List Int} {j : Nat} (h : mix.length ≤ j) : allM L mix rest (j + 1) = allM L mix rest j := by
  rw [allM, allStep, if_neg (by omega)]
theorem allM_do {L : List (List Int)} {mix rest : List Int} {j : Nat} (h : j < mix.length) (hL : j < L.length) : allM L mix rest (j + 1) = if (timP (madeP L[j]) mix[j]).2 = 0 then (if (mulP (allM L mix rest j) (timP (madeP L[j]) mix[j]).1).2 = 0 then (mulP (allM L mix rest j) (timP (madeP L[j]) mix[j]).1).1 else allM L mix rest j) else allM L mix rest j := by
  have e1 : L.getD j [] = L[j] := by rw [List.getD_eq_getElem?_getD, List.getElem?_eq_getElem hL]; rfl
  have e2 : mix.getD j 0 = mix[j] := by rw [List.getD_eq_getElem?_getD, List.getElem?_eq_getElem h]; rfl
  rw [allM, allStep, if_pos h, e1, e2]
set_option maxHeartbeats 6400000 in
set_option maxRecDepth 100000 in
theorem rAll_any (L : List (List Int)) (mix rest : List Int) (x0 x1 x2 : Option Addr) (k0 k1 k2 : Nat) (w : World) (hl0 : L.length ≤ maxLen) (_hl1 : mix.length ≤ maxLen) (hl2 : rest.length ≤ maxLen) (hR0 : I8Rows w L x0) (hR1 : I8Row w mix x1) (hR2 : I8Row w rest x2) :
    Calls Tryz.prog 25 #[.agg #[.slice x0 L.length k0, .slice x1 mix.length k1, .slice x2 rest.length k2]] w (AllPost w L mix rest) := by
  have hb1 := heap_alloc_new w (.cells #[.slice x0 L.length k0, .slice x1 mix.length k1, .slice x2 rest.length k2] 46)
  have hE1 : Ext w (w.alloc (.cells #[.slice x0 L.length k0, .slice x1 mix.length k1, .slice x2 rest.length k2] 46)) := (Ext.refl w).alloc _
  have hs1 : (w.alloc (.cells #[.slice x0 L.length k0, .slice x1 mix.length k1, .slice x2 rest.length k2] 46)).heap.size = w.heap.size + 1 := World.size_alloc _ _
  have hLr : ∀ q ∈ L, ∀ x ∈ q, -128 ≤ x ∧ x ≤ 127 := fun q hq => by
    obtain ⟨k, hk, rfl⟩ := List.getElem_of_mem hq
    obtain ⟨_, _, _, _, _, _, _, hr⟩ := hR0 k hk
    exact hr.1
  have HLR := Lib.hid hLr
  have HCP := Lib.hid (allM_cp hLr hR1.1 hR2.1)
  have HMR := Lib.hid (fun W (y : Ext w W) => Made_any rest x2 k2 W hl2 (hR2.ext y))
  unfold PwPost at HMR
  have HCA := Lib.hid (fun i => made_getD hLr i)
  have HCJ : Hid (∀ j (h : j < L.length), Cp 128 6 (madeP L[j])) := fun j h => madeP_cp (hLr _ (List.getElem_mem h))
  have HMX : Hid (∀ j (h : j < mix.length), -128 ≤ mix[j] ∧ mix[j] ≤ 127) := fun j h => hR1.1 _ (List.getElem_mem h)
  have HR0 := Lib.hid (fun W (y : Ext w W) => hR0.ext y)
  have HR1 := Lib.hid (fun W (y : Ext w W) => hR1.ext y)
  have HPO := Lib.hid (fun W j xl lc ys xm cm e (h : AL (w.alloc (.cells #[.slice x0 L.length k0, .slice x1 mix.length k1, .slice x2 rest.length k2] 46)) L j xl lc ys (allM L mix rest j) xm cm W) h8 hl he (hx : Ext w W) hE => h.post (w0 := w) (mix := mix) (rest := rest) h8 hl he hx (e := e) hE)
  have HSK := Lib.hid (fun j h => allM_skip (L := L) (mix := mix) (rest := rest) (j := j) h)
  have HDO := Lib.hid (fun j h h2 => allM_do (L := L) (mix := mix) (rest := rest) (j := j) h h2)
  obtain ⟨i0, hi0, hz0, hz1, hz2⟩ := info_parts infoPs
  have HI0 := Lib.hid (And.intro hi0 (And.intro hz0 (And.intro hz1 hz2)))
  have HX1 : Hid (∀ W, Ext (w.alloc (.cells #[.slice x0 L.length k0, .slice x1 mix.length k1, .slice x2 rest.length k2] 46)) W → (W.cell? ⟨w.heap.size, 0, none⟩ = some (.slice x0 L.length k0) ∧ W.cell? ⟨w.heap.size, 1, none⟩ = some (.slice x1 mix.length k1) ∧ W.cell? ⟨w.heap.size, 2, none⟩ = some (.slice x2 rest.length k2)) ∧ Ext w W) := fun W y => ⟨cells3 ((y.block _ (by rw [hs1]; exact Nat.lt_succ_self _)).trans hb1), Ext.trans hE1 y⟩
  obtain ⟨a0, a1, a2⟩ := cells3 hb1
  have HMD : Hid (∀ j (h : j < L.length) ya c W, I8Row W L[j] ya → L[j].length ≤ maxLen → Calls Tryz.prog 39 #[.slice ya L[j].length c] W fun e w' => ∃ xa c, e = .returned (.slice xa (madeP L[j]).length c) ∧ (madeP L[j]).length ≤ c ∧ PRow w' (madeP L[j]) xa ∧ Below W.heap.size W w' ∧ Fsh W.heap.size xa) := by
    show ∀ _, _
    intro j h ya c W hr hl
    refine (Made_fr L[j] ya c W hl hr).mono fun e w' ⟨⟨xa, c, h1, h2, h3, h4⟩, h5⟩ => ⟨xa, c, h1, h2, h3, h4, fun b o s hx => h5 _ _ _ b o s h1 hx⟩
  unfold maxLen at hl0
  clear hLr hR0 hR1 hR2 hi0 hz0 hz1 hz2 hl2 hb1 hE1 hs1
  go_enter Tryz.func25, Tryz.ntmps25
  go_wp2_with (go_at_call 39; refine (HMR.out _ ((Ext.refl w).alloc _)).mono ?_; rintro e w2 ⟨xm, cm, he, hc, hr, hB⟩; subst he; have HY2 := Lib.hid (show Ext _ w2 from hB); have HA2 : Hid (AL (w.alloc (.cells #[.slice x0 L.length k0, .slice x1 mix.length k1, .slice x2 rest.length k2] 46)) L 0 none 0 [] (allM L mix rest 0) xm cm w2) := Lib.hid ⟨hB, World.ownsRow_nil _ _ _ _, fun k hk => absurd hk (by omega), hr, fun _ b o s _ hx => by simp [Value.ownBlock] at hx, hc⟩; clear hc hr hB)
  clear a0 a1 a2
  generalize w.alloc (.cells #[.slice x0 L.length k0, .slice x1 mix.length k1, .slice x2 rest.length k2] 46) = wn at HX1 HPO HY2 HA2
  go_loopw [4, 5, 6] (fun l m i wr => ∃ (j : Nat) (xl : Option Addr) (lc : Nat) (ys : List Value) (xm : Option Addr) (cm : Nat), j ≤ 8 ∧ j ≤ L.length ∧ i = .int .i64 j ∧ l = .slice xl j lc ∧ m = .slice xm (allM L mix rest j).length cm ∧ AL wn L j xl lc ys (allM L mix rest j) xm cm wr) (fun _ _ i _ => 8 - (intOf i).toNat)
  case atStart => exact ⟨0, none, 0, [], xm, cm, by omega, by omega, rfl, rfl, rfl, HA2.out⟩
  case round =>
    obtain ⟨j, xl, lc, ys, ym, dm, h8, hj, rfl, rfl, rfl, hA⟩ := hrel
    have HA := Lib.hid hA
    have HXr := Lib.hid hA.ext
    obtain ⟨⟨a0, a1, a2⟩, hwr⟩ := HX1.out wr HXr.out
    have HW := Lib.hid hwr
    by_cases hlt : j < L.length
    rotate_left
    · have hF : AllPost w L mix rest (.returned (.tuple #[.slice xl j lc, .slice ym (allM L mix rest j).length dm])) wr := HPO.out wr j xl lc ys ym dm _ hA h8 hj (Or.inr (by omega)) hwr rfl
      have HF := Lib.hid hF
      have q1 : decide ((j : Int) < (L.length : Int)) = false := decide_eq_false (by omega)
      generalize allM L mix rest j = M at HF ⊢
      clear hA hwr hF
      go_wp2_with fail
      exact bodyPost_ret (v := .tuple #[.slice xl j lc, .slice ym M.length dm]) (by simp [results, Tryz.results25, go_sem]) rfl HF.out
    have q1 : decide ((j : Int) < (L.length : Int)) = true := decide_eq_true (by omega)
    by_cases hj8 : j < 8
    rotate_left
    · have hF : AllPost w L mix rest (.returned (.tuple #[.slice xl j lc, .slice ym (allM L mix rest j).length dm])) wr := HPO.out wr j xl lc ys ym dm _ hA h8 hj (Or.inl (by omega)) hwr rfl
      have HF := Lib.hid hF
      have q2 : decide ((j : Int) < 8) = false := decide_eq_false (by omega)
      generalize allM L mix rest j = M at HF ⊢
      clear hA hwr hF
      go_wp2_with fail
      exact bodyPost_ret (v := .tuple #[.slice xl j lc, .slice ym M.length dm]) (by simp [results, Tryz.results25, go_sem]) rfl HF.out
    have q2 : decide ((j : Int) < 8) = true := decide_eq_true (by omega)
    obtain ⟨b, o, ya, c, rfl, g0, hlm, hrj⟩ := HR0.out wr hwr j hlt
    have HCM := Lib.hid (HMD.out j hlt ya c wr hrj hlm)
    have hcj := HCJ.out j hlt
    have hmj := HCP.out j
    have HSKJ := Lib.hid (HSK.out j)
    have HDOJ := Lib.hid (fun h => HDO.out j h hlt)
    have HNX := Lib.hid (fun w5 w8 g q cap ob (hB : Ext wr w5) x5 c5 hc hr hf hown hgr hat hq => AL.next2 (w8 := w8) (g := g) (q := q) (cap := cap) (ob := ob) hA hmj.2.2.2 HLR.out hlt hB (x5 := x5) (c5 := c5) hc hr hf hown hgr hat hq)
    generalize madeP L[j] = P at HCM hcj HDOJ HNX
    obtain ⟨K, hK⟩ : ∃ K, P.length = K := ⟨_, rfl⟩
    have HK := Lib.hid hK
    rw [hK] at HCM
    obtain ⟨N, hN⟩ : ∃ N, L[j].length = N := ⟨_, rfl⟩
    rw [hN] at HCM g0
    have hown := hA.own
    have HO := Lib.hid (fun W (y : Ext wr W) => (hA.grow y).own)
    have i1 : (0 : Int) ≤ (j : Int) := by omega
    have i2 : (j : Int) < (L.length : Int) := by omega
    have ew : IntKind.i64.wrap ((j : Int) + 1) = (j : Int) + 1 := IntWalk.i64_in _ (by omega)
    have hwz : wn.heap.size ≤ wr.heap.size := HXr.out.size
    have HWZ := Lib.hid hwz
    have HCJ2 := Lib.hid hcj
    have HMJ := Lib.hid hmj
    clear hA hwr hrj hlm hK hN hown hcj hmj hwz
    go_upto_region 7 with (first
      | (go_at_call 39; refine (HCM.out).mono ?_; rintro e w5 ⟨x5, c5, he, hc, hr, hB, hf⟩; subst he; have HB5 := Lib.hid (show Ext wr w5 from hB); have HC5 := Lib.hid hc; have HR5 := Lib.hid hr; have HF5 := Lib.hid hf; clear hc hr hB hf)
      | (at_builtin; refine wpList_append_lies _ rfl _ _ _ rfl wn.heap.size 27 i0 _ 1 24 Tryz.underlying36 HI0.out.1 HI0.out.2.1 HI0.out.2.2.1 HI0.out.2.2.2 rfl (by omega) (.slice xl j lc) j ys rfl ((HO.out _ HB5.out).alloc _) ⟨w5.heap.size, 0, none⟩ 1 1 [.slice x5 K c5] rfl rfl (cell_one_new w5 (.slice x5 K c5) 27) (by simp [Value.oneCell']) (by omega) (by unfold maxLen; omega) (by omega) (by rw [World.size_alloc]; have := HWZ.out; have := HB5.out.size; omega) (w5.heap.size + 1) (by simp) ?_; intro g cap w8 hown8 hgrow8 hat8 hlt8; obtain ⟨hA8, hr8, hg8⟩ := HNX.out _ _ _ _ _ _ HB5.out _ _ (by rw [HK.out]; exact HC5.out) HR5.out HF5.out (by rw [HK.out]; exact hown8) hgrow8 hat8 rfl; rw [HK.out] at hg8; have HA8 := Lib.hid hA8; have HR8 := Lib.hid hr8; have HG8 := Lib.hid hg8; clear hA8 hr8 hg8; clear hown8 hgrow8 hat8 hlt8))
    obtain ⟨⟨b0, b1, b2⟩, _⟩ := HX1.out w8 HA8.out.ext
    by_cases hmx : j < mix.length
    rotate_left
    · have HS := Lib.hid (HSKJ.out (by omega))
      have q3 : ¬ (j : Int) < (mix.length : Int) := by omega
      clear hmx
      go_wp2_with fail
      go_roundw
      case rel => exact ⟨j + 1, _, _, _, _, _, by omega, by omega, by go_num, rfl, by rw [HS.out], by rw [HS.out]; exact HA8.out⟩
      case measure => simp [intOf]; omega
    have q3 : (j : Int) < (mix.length : Int) := by omega
    obtain ⟨bm, om, rfl, hz⟩ := (HR1.out w8 (HX1.out w8 HA8.out.ext).2).2 j hmx
    have hzb := HMX.out j hmx
    have HDJ := Lib.hid (HDOJ.out hmx)
    generalize mix[j] = z at hz hzb HDJ
    have HTI := Lib.hid (fun W (y : Ext w8 W) => rTimes_any P z x5 c5 W (by have := HCJ2.out.2.1; unfold maxLen; omega) (HCJ2.out.sz _ (by omega)) (PRow_below (w' := W) HR8.out y))
    have HXC := Lib.hid (HCJ2.out.timR (n := z) (by omega))
    obtain ⟨⟨X, E⟩, hX⟩ : ∃ r, timP P z = r := ⟨_, rfl⟩
    rw [hX] at HTI HXC HDJ
    unfold PePost at HTI
    simp only at HTI HXC HDJ
    rw [HK.out] at HTI
    have HCr : Hid (∀ W, Ext w8 W → (fun W => W.cell? ⟨g, j, none⟩ = some (.slice x5 K c5) ∧ (W.cell? ⟨w.heap.size, 0, none⟩ = some (.slice (some ⟨b, o, none⟩) L.length k0) ∧ W.cell? ⟨w.heap.size, 1, none⟩ = some (.slice (some ⟨bm, om, none⟩) mix.length k1) ∧ W.cell? ⟨w.heap.size, 2, none⟩ = some (.slice x2 rest.length k2)) ∧ W.cell? ⟨bm, om + j, none⟩ = some (.int .i8 z)) W) := fun W y => ⟨keep_below y _ _ HG8.out, (HX1.out W (HA8.out.ext.trans y)).1, keep_below y _ _ hz⟩
    have hF0 : Ext w8 w8.drew := (Ext.refl w8).drew
    obtain ⟨d0, ⟨b0, b1, b2⟩, d3⟩ := HCr.out w8 (Ext.refl w8)
    have ew2 : IntKind.i64.wrap z = z := IntWalk.i64_in _ (by omega)
    have i3 : (j : Int) < (j : Int) + 1 := by omega
    have i4 : (j : Int) < (((j : Nat) + 1 : Nat) : Int) := by omega
    clear hmx hX hz hzb
    by_cases hE : E = 0
    rotate_left
    · have HS : Hid (allM L mix rest (j + 1) = allM L mix rest j) := by show _ = _; rw [HDJ.out, if_neg hE]
      have q4 : (E == 0) = false := by simp [hE]
      clear hE
      go_upto_region 8 with fail
      go_region_held3 (fun W => W.cell? ⟨g, j, none⟩ = some (.slice x5 K c5) ∧ (W.cell? ⟨w.heap.size, 0, none⟩ = some (.slice (some ⟨b, o, none⟩) L.length k0) ∧ W.cell? ⟨w.heap.size, 1, none⟩ = some (.slice (some ⟨bm, om, none⟩) mix.length k1) ∧ W.cell? ⟨w.heap.size, 2, none⟩ = some (.slice x2 rest.length k2)) ∧ W.cell? ⟨bm, om + j, none⟩ = some (.int .i8 z))
        (first | exact HCr.out _ (by assumption) | go_keep)
        (first | (go_at_call 24; refine (HTI.out _ hF0).mono ?_; rintro e w9 ⟨x7, c7, he, hc, hr, hB⟩; subst he; have hF1 : Ext w8 w9 := hF0.trans hB; clear hc hr hB))
      all_goals (go_wp2_with fail)
      all_goals go_roundw
      case rel => exact ⟨j + 1, _, _, _, _, _, by omega, by omega, by go_num, rfl, by rw [HS.out], by rw [HS.out]; exact HA8.out.grow hF1⟩
      case measure => simp [intOf]; omega
    subst hE
    have q4 : ((0 : Int) == 0) = true := rfl
    have HMU := Lib.hid (fun W (y : Ext w8 W) xx (cx : Nat) (hr : PRow W X xx) => rMul_fr (allM L mix rest j) X ym xx dm cx W (by have := HMJ.out.2.1; unfold maxLen; omega) (by have := HXC.out.2.1; unfold maxLen; omega) (HMJ.out.sz _ (by omega)) (HXC.out.sz _ (by omega)) (PRow_below (w' := W) HA8.out.m y) hr)
    obtain ⟨⟨Y, F⟩, hY⟩ : ∃ r, mulP (allM L mix rest j) X = r := ⟨_, rfl⟩
    rw [if_pos rfl, hY] at HDJ
    rw [hY] at HMU
    unfold PeF at HMU
    simp only at HMU HDJ
    obtain ⟨NM, hNM⟩ : ∃ n, (allM L mix rest j).length = n := ⟨_, rfl⟩
    have HNM := Lib.hid hNM
    rw [hNM] at HMU ⊢
    clear hY hNM
    by_cases hF : F = 0
    rotate_left
    · have HS : Hid (allM L mix rest (j + 1) = allM L mix rest j) := by show _ = _; rw [HDJ.out, if_neg hF]
      have q5 : (F == 0) = false := by simp [hF]
      clear hF
      go_upto_region 8 with fail
      go_region_held3 (fun W => W.cell? ⟨g, j, none⟩ = some (.slice x5 K c5) ∧ (W.cell? ⟨w.heap.size, 0, none⟩ = some (.slice (some ⟨b, o, none⟩) L.length k0) ∧ W.cell? ⟨w.heap.size, 1, none⟩ = some (.slice (some ⟨bm, om, none⟩) mix.length k1) ∧ W.cell? ⟨w.heap.size, 2, none⟩ = some (.slice x2 rest.length k2)) ∧ W.cell? ⟨bm, om + j, none⟩ = some (.int .i8 z))
        (first | exact HCr.out _ (by assumption) | go_keep)
        (first | (go_at_call 24; refine (HTI.out _ hF0).mono ?_; rintro e w9 ⟨x7, c7, he, hc, hr, hB⟩; subst he; have hF1 : Ext w8 w9 := hF0.trans hB; have HF1 := Lib.hid hF1; have HR7 := Lib.hid hr; clear hc hr hB))
      all_goals (go_wp2_with (go_at_call 22; refine (HMU.out _ HF1.out _ _ HR7.out).mono ?_; rintro e w10 ⟨x8, c8, he, hc, hr, hB, hf⟩; subst he; have HF2 : Hid (Ext w8 w10) := Ext.trans HF1.out hB; clear hc hr hB hf))
      all_goals go_roundw
      case rel => exact ⟨j + 1, _, _, _, _, _, by omega, by omega, by go_num, rfl, by rw [HS.out, HNM.out], by rw [HS.out]; exact HA8.out.grow HF2.out⟩
      case measure => simp [intOf]; omega
    · have HS : Hid (allM L mix rest (j + 1) = Y) := by show _ = _; rw [HDJ.out, if_pos hF]
      have q5 : (F == 0) = true := by simp [hF]
      clear hF
      go_upto_region 8 with fail
      go_region_held3 (fun W => W.cell? ⟨g, j, none⟩ = some (.slice x5 K c5) ∧ (W.cell? ⟨w.heap.size, 0, none⟩ = some (.slice (some ⟨b, o, none⟩) L.length k0) ∧ W.cell? ⟨w.heap.size, 1, none⟩ = some (.slice (some ⟨bm, om, none⟩) mix.length k1) ∧ W.cell? ⟨w.heap.size, 2, none⟩ = some (.slice x2 rest.length k2)) ∧ W.cell? ⟨bm, om + j, none⟩ = some (.int .i8 z))
        (first | exact HCr.out _ (by assumption) | go_keep)
        (first | (go_at_call 24; refine (HTI.out _ hF0).mono ?_; rintro e w9 ⟨x7, c7, he, hc, hr, hB⟩; subst he; have hF1 : Ext w8 w9 := hF0.trans hB; have HF1 := Lib.hid hF1; have HR7 := Lib.hid hr; clear hc hr hB))
      all_goals (go_wp2_with (go_at_call 22; refine (HMU.out _ HF1.out _ _ HR7.out).mono ?_; rintro e w10 ⟨x8, c8, he, hc, hr, hB, hf⟩; subst he; have HA10 := Lib.hid ((HA8.out.grow HF1.out).setm hB hc hr hf); clear hc hr hB hf))
      all_goals go_roundw
      case rel => exact ⟨j + 1, _, _, _, _, _, by omega, by omega, by go_num, rfl, by rw [HS.out], by rw [HS.out]; exact HA10.out⟩
      case measure => simp [intOf]; omega
end Go.Proofs.YtcieadjjcpmieaaGreat
