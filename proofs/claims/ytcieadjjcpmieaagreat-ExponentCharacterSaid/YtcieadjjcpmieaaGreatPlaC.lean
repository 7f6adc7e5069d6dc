/-
  THE LAW ExponentCharacter's WALK.
-/
import Derived.Test.YtcieadjjcpmieaaGreatPallw
import Derived.Test.YtcieadjjcpmieaaGreatPchar
namespace Go.Proofs.YtcieadjjcpmieaaGreat
open Go.RowKit

theorem all_ok {L : List (List Int)} {mix rest : List Int} (hL : ∀ q ∈ L, ∀ x ∈ q, -128 ≤ x ∧ x ≤ 127) (hm : ∀ x ∈ mix, -128 ≤ x ∧ x ≤ 127) (hr : ∀ x ∈ rest, -128 ≤ x ∧ x ≤ 127) (j : Nat) : prodsE (allL L) (allM L mix rest j) = 0 ∧ (∀ l ∈ allL L, l.length ≤ maxLen ∧ SzP 1073741824 l) ∧ (allL L).length ≤ 8 ∧ (allM L mix rest j).length ≤ 200 ∧ SzP 1073741824 (allM L mix rest j) := by
  have h1 : ∀ l ∈ allL L, Cp 128 6 l := fun l hl => by
    obtain ⟨q, hq, rfl⟩ := List.mem_map.1 hl
    exact madeP_cp (hL q (List.mem_of_mem_take hq))
  have h2 := allM_cp hL hm hr j
  exact ⟨prodsE_mk (fun l hl => (h1 l hl).ok (by decide) (by decide)) (h2.ok (by decide) (by decide)), fun l hl => ⟨by have := (h1 l hl).2.1; unfold maxLen; omega, (h1 l hl).sz _ (by omega)⟩, by rw [allL_len]; omega, h2.2.1, h2.sz _ (by omega)⟩
theorem rows_range {w : World} {L : List (List Int)} {xa : Option Addr} (h : I8Rows w L xa) : ∀ q ∈ L, ∀ x ∈ q, -128 ≤ x ∧ x ≤ 127 := fun q hq => by
  obtain ⟨k, hk, rfl⟩ := List.getElem_of_mem hq
  obtain ⟨_, _, _, _, _, _, _, hr⟩ := h k hk
  exact hr.1
set_option maxHeartbeats 6400000 in
set_option maxRecDepth 100000 in
theorem laC_any (HA0 : Awake6Ok) (L : List (List Int)) (mix rest : List Int) (md : Int) (vs : List Pw) (x0 x1 x2 xv : Option Addr) (k0 k1 k2 cv : Nat) (w : World) (hl0 : L.length ≤ maxLen) (hl1 : mix.length ≤ maxLen) (hl2 : rest.length ≤ maxLen) (hR0 : I8Rows w L x0) (hR1 : I8Row w mix x1) (hR2 : I8Row w rest x2)
    (hmo : i64ok md) (hcv : vs.length ≤ cv) (hb : vs.length * 64 ≤ 140737488355328) (hRv : PRow w vs xv) :
    Calls Tryz.prog 9 #[.agg #[.slice x0 L.length k0, .slice x1 mix.length k1, .slice x2 rest.length k2], .agg #[.int .i64 md, .slice xv vs.length cv]] w fun e w' => e = .returned (.bool true) ∧ Below w.heap.size w w' := by
  have HA := Lib.hid HA0
  have hs1 : (w.alloc (.cells #[.slice x0 L.length k0, .slice x1 mix.length k1, .slice x2 rest.length k2] 46)).heap.size = w.heap.size + 1 := World.size_alloc _ _
  have hs2 : ((w.alloc (.cells #[.slice x0 L.length k0, .slice x1 mix.length k1, .slice x2 rest.length k2] 46)).alloc (.cells #[.int .i64 md, .slice xv vs.length cv] 53)).heap.size = w.heap.size + 2 := by rw [World.size_alloc, hs1]
  have hb2 := heap_alloc_new (w.alloc (.cells #[.slice x0 L.length k0, .slice x1 mix.length k1, .slice x2 rest.length k2] 46)) (.cells #[.int .i64 md, .slice xv vs.length cv] 53)
  rw [hs1] at hb2
  have hb1 : ((w.alloc (.cells #[.slice x0 L.length k0, .slice x1 mix.length k1, .slice x2 rest.length k2] 46)).alloc (.cells #[.int .i64 md, .slice xv vs.length cv] 53)).heap[w.heap.size]? = some _ := (Below.heap_alloc _ _ _ (by rw [hs1]; exact Nat.lt_succ_self _)).trans (heap_alloc_new w (.cells #[.slice x0 L.length k0, .slice x1 mix.length k1, .slice x2 rest.length k2] 46))
  have HX1 : Hid (∀ W, Ext ((w.alloc (.cells #[.slice x0 L.length k0, .slice x1 mix.length k1, .slice x2 rest.length k2] 46)).alloc (.cells #[.int .i64 md, .slice xv vs.length cv] 53)) W → (W.cell? ⟨w.heap.size, 0, none⟩ = some (.slice x0 L.length k0) ∧ W.cell? ⟨w.heap.size, 1, none⟩ = some (.slice x1 mix.length k1) ∧ W.cell? ⟨w.heap.size, 2, none⟩ = some (.slice x2 rest.length k2)) ∧ (W.cell? ⟨w.heap.size + 1, 0, none⟩ = some (.int .i64 md) ∧ W.cell? ⟨w.heap.size + 1, 1, none⟩ = some (.slice xv vs.length cv)) ∧ Ext w W) := fun W y => ⟨cells3 ((y.block _ (by rw [hs2]; omega)).trans hb1), cells2 ((y.block _ (by rw [hs2]; omega)).trans hb2), Ext.trans (((Ext.refl w).alloc _).alloc _) y⟩
  have HFE := Lib.hid (fun W (y : Ext w W) => by
    have h := few06_any [vs] (some ⟨W.heap.size, 0, none⟩) 1 1 1000 (W.alloc (.cells #[.slice xv vs.length cv] 27)) (by simp; omega) (by simp) (fun l hl => by simp only [List.mem_singleton] at hl; subst hl; unfold maxLen; omega) (by omega) (by omega) (PsRow_one rfl hcv (PRow_below (w' := W) hRv y) _)
    rw [few06_one] at h
    exact h)
  clear hs1 hs2 hb1 hb2
  by_cases h8 : 8 < L.length
  · have q1 : (8 : Int) < (L.length : Int) := by omega
    clear h8 hRv hR0 hR1 hR2 hb
    go_enter Tryz.func9, Tryz.ntmps9
    have tok1 : True := trivial
    go_wp2_with (first
      | (go_at_call 10; have _t := tok1; refine (HA.out _).mono ?_; rintro e w1 ⟨he, hB⟩; subst he; have HB1 : Hid (Ext ((w.alloc (.cells #[.slice x0 L.length k0, .slice x1 mix.length k1, .slice x2 rest.length k2] 46)).alloc (.cells #[.int .i64 md, .slice xv vs.length cv] 53)) w1) := hB; obtain ⟨⟨a0, a1, a2⟩, ⟨a3, a4⟩, _⟩ := HX1.out _ hB; clear hB tok1)
      | (go_at_call 10; refine (HA.out _).mono ?_; rintro e w3 ⟨he, hB⟩; subst he; have HB3 := Lib.hid (Ext.trans HB1.out hB); clear hB))
    go_ret
    exact ⟨rfl, (HX1.out _ HB3.out).2.2⟩
  have q1 : (L.length : Int) ≤ 8 := by omega
  cases hfew : few (termsP vs) 1000 1000 with
  | false =>
    rw [hfew] at HFE
    clear h8 hRv hR0 hR1 hR2 hb hfew
    go_enter Tryz.func9, Tryz.ntmps9
    have tok1 : True := trivial
    go_wp2_with (first
      | (go_at_call 10; have _t := tok1; refine (HA.out _).mono ?_; rintro e w1 ⟨he, hB⟩; subst he; have HB1 : Hid (Ext ((w.alloc (.cells #[.slice x0 L.length k0, .slice x1 mix.length k1, .slice x2 rest.length k2] 46)).alloc (.cells #[.int .i64 md, .slice xv vs.length cv] 53)) w1) := hB; obtain ⟨⟨a0, a1, a2⟩, ⟨a3, a4⟩, _⟩ := HX1.out _ hB; clear hB tok1)
      | (go_at_call 16; refine (HFE.out _ (HX1.out _ HB1.out).2.2).mono ?_; rintro e w2 ⟨he, hB⟩; subst he; have HB2 := Lib.hid (Ext.trans (Ext.alloc HB1.out _) hB); obtain ⟨⟨b0, b1, b2⟩, ⟨b3, b4⟩, _⟩ := HX1.out _ HB2.out; clear hB)
      | (go_at_call 10; refine (HA.out _).mono ?_; rintro e w3 ⟨he, hB⟩; subst he; have HB3 := Lib.hid (Ext.trans HB2.out hB); clear hB))
    go_ret
    exact ⟨rfl, (HX1.out _ HB3.out).2.2⟩
  | true =>
    rw [hfew] at HFE
    obtain ⟨hl, hsz⟩ := few_szP (n := 1000) (most := 1000) hfew
    by_cases h210 : 210 < vs.length
    · have q2 : (210 : Int) < (vs.length : Int) := by omega
      clear h8 hRv hR0 hR1 hR2 hb hfew hl hsz h210
      go_enter Tryz.func9, Tryz.ntmps9
      have tok1 : True := trivial
      go_wp2_with (first
        | (go_at_call 10; have _t := tok1; refine (HA.out _).mono ?_; rintro e w1 ⟨he, hB⟩; subst he; have HB1 : Hid (Ext ((w.alloc (.cells #[.slice x0 L.length k0, .slice x1 mix.length k1, .slice x2 rest.length k2] 46)).alloc (.cells #[.int .i64 md, .slice xv vs.length cv] 53)) w1) := hB; obtain ⟨⟨a0, a1, a2⟩, ⟨a3, a4⟩, _⟩ := HX1.out _ hB; clear hB tok1)
        | (go_at_call 16; refine (HFE.out _ (HX1.out _ HB1.out).2.2).mono ?_; rintro e w2 ⟨he, hB⟩; subst he; have HB2 := Lib.hid (Ext.trans (Ext.alloc HB1.out _) hB); obtain ⟨⟨b0, b1, b2⟩, ⟨b3, b4⟩, _⟩ := HX1.out _ HB2.out; clear hB)
        | (go_at_call 10; refine (HA.out _).mono ?_; rintro e w3 ⟨he, hB⟩; subst he; have HB3 := Lib.hid (Ext.trans HB2.out hB); clear hB))
      go_ret
      exact ⟨rfl, (HX1.out _ HB3.out).2.2⟩

    have q2 : (vs.length : Int) ≤ 210 := by omega
    obtain ⟨o1, o2, o3, o4, o5⟩ := all_ok (rows_range hR0) hR1.1 hR2.1 (allL L).length
    have hzv : SzP 1073741824 vs := fun p hp => Nat.le_trans (hsz p hp) (by omega)
    have HAL := Lib.hid (fun W (y : Ext w W) => rAll_any L mix rest x0 x1 x2 k0 k1 k2 W hl0 hl1 hl2 (hR0.ext y) (hR1.ext y) (hR2.ext y))
    unfold AllPost at HAL
    generalize allM L mix rest (allL L).length = m at HAL o1 o2 o3 o4 o5
    generalize allL L = ls at HAL o1 o2 o3
    have HC1 := Lib.hid (fun xa xm ca cm W (y : Ext w W) h1 h2 h3 => cref_any ls m vs md xa xm xv ca cm cv W hmo (by omega) o2 h1 (by unfold maxLen; omega) o5 h2 h3 (by omega) hzv (PRow_below (w' := W) hRv y))
    have HC2 := Lib.hid (fun xa xm ca cm W (y : Ext w W) h1 h2 => rcref_any ls m vs md xa xm xv ca cm cv W hmo (by omega) o2 h1 (by unfold maxLen; omega) o5 h2 (by omega) hzv (PRow_below (w' := W) hRv y) o1)
    generalize crefB ls m md vs = B at HC1 HC2
    have HCV := Lib.hid hcv
    have qB : (B == B) = true := by simp
    clear h8 hRv hR0 hR1 hR2 hb hfew hl hsz h210 o1 o2 o3 o4 o5 hzv
    go_enter Tryz.func9, Tryz.ntmps9
    have tok1 : True := trivial
    go_upto_region 4 with (first
      | (go_at_call 10; have _t := tok1; refine (HA.out _).mono ?_; rintro e w1 ⟨he, hB⟩; subst he; have HB1 : Hid (Ext ((w.alloc (.cells #[.slice x0 L.length k0, .slice x1 mix.length k1, .slice x2 rest.length k2] 46)).alloc (.cells #[.int .i64 md, .slice xv vs.length cv] 53)) w1) := hB; obtain ⟨⟨a0, a1, a2⟩, ⟨a3, a4⟩, _⟩ := HX1.out _ hB; clear hB tok1)
      | (go_at_call 16; refine (HFE.out _ (HX1.out _ HB1.out).2.2).mono ?_; rintro e w2 ⟨he, hB⟩; subst he; have HB2 := Lib.hid (Ext.trans (Ext.alloc HB1.out _) hB); obtain ⟨⟨b0, b1, b2⟩, ⟨b3, b4⟩, _⟩ := HX1.out _ HB2.out; clear hB)
      | (go_at_call 25; refine (HAL.out _ (HX1.out _ HB2.out).2.2).mono ?_; rintro e w3 ⟨xl, cl, xm, cm, he, hcl, hrl, hcm, hrm, hB⟩; subst he; have HB3 := Lib.hid (Ext.trans HB2.out hB); have HRL := Lib.hid hrl; have HRM := Lib.hid hrm; have HCL := Lib.hid hcl; have HCM := Lib.hid hcm; clear hcl hrl hcm hrm hB))
    have HCr : Hid (∀ W, Ext w3 W → (fun W => (W.cell? ⟨w.heap.size + 1, 0, none⟩ = some (.int .i64 md) ∧ W.cell? ⟨w.heap.size + 1, 1, none⟩ = some (.slice xv vs.length cv))) W) := fun W y => (HX1.out W (Ext.trans HB3.out y)).2.1
    have HEW : Hid (∀ W, Ext w3 W → Ext w W) := fun W y => (HX1.out W (Ext.trans HB3.out y)).2.2
    obtain ⟨d0, d1⟩ := HCr.out w3 (Ext.refl w3)
    have hF0 : Ext w3 w3.drew := (Ext.refl w3).drew
    go_region_held3 (fun W => (W.cell? ⟨w.heap.size + 1, 0, none⟩ = some (.int .i64 md) ∧ W.cell? ⟨w.heap.size + 1, 1, none⟩ = some (.slice xv vs.length cv)))
      (first | exact HCr.out _ (by assumption) | go_keep)
      (first
        | (go_at_call 33; refine (HC1.out _ _ _ _ _ (HEW.out _ hF0) (PsRow_below HRL.out hF0) (PRow_below HRM.out hF0) HCV.out).mono ?_; rintro e w4 ⟨he, hB⟩; subst he; have hF1 : Ext w3 w4 := hF0.trans hB; clear hB)
        | (go_at_call 32; refine (HC2.out _ _ _ _ _ (HEW.out _ hF1) (PsRow_below HRL.out hF1) (PRow_below HRM.out hF1)).mono ?_; rintro e w5 ⟨he, hB⟩; subst he; have hF2 : Ext w3 w5 := hF1.trans hB; clear hB))
    all_goals (try go_wp2_with fail)
    all_goals go_ret
    all_goals exact ⟨by first | rfl | simp, HEW.out _ hF2⟩
end Go.Proofs.YtcieadjjcpmieaaGreat
