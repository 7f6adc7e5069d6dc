/-
  THE LAW XorLarge: its walk.
-/
import Derived.Test.YtfbomoginjknlaaDoorOpen
import Derived.Test.YtfbomoginjknlaaDoorQlap
import Derived.Test.YtfbomoginjknlaaDoorQdrp
import Derived.Test.YtfbomoginjknlaaDoorQchw
import Derived.Test.YtfbomoginjknlaaDoorQrdm
import Derived.Test.YtfbomoginjknlaaDoorQldp
import Derived.Test.YtfbomoginjknlaaDoorQinc
namespace Go.Proofs.YtfbomoginjknlaaDoor
open Go.RowKit Go.Lib
section
open Go.ChangeShapes Go.WideShapes Go.ChangeAt Go.RowKit Go.Deep
set_option maxRecDepth 1000000 in
theorem open_u16 {W : World} {r : Reach} {b0 : Nat} {v : Value} (h : Value.okWide Tryd.prog W r b0 38 v) : ∃ z : Nat, v = .int .u16 (z : Int) ∧ z ≤ 65535 := by
  obtain ⟨n, rfl⟩ := okWide_int Tryd.underlying38 h
  simp only [Value.okWide, Tryd.underlying38, Cell.okWide] at h
  have h' : IntKind.u16.has n := by
    simp only [Cell.ok, Tryd.underlying38] at h
    exact h.2
  have h : (0 : Int) ≤ n ∧ n ≤ 65535 := h'
  exact ⟨n.toNat, by rw [Int.toNat_of_nonneg (by omega)], by omega⟩
end
theorem atA_in (S : Nat → Prop) (w : World) : IsIn S w atA (.int .i64 2) (.string ⟨#[97]⟩) (.int .i64 0) (.slice none 0 0) := by
  simp only [atA, IsIn]
  exact ⟨trivial, trivial, trivial, by omega, by omega, by simp [ByteArray.size, maxLen], by simp, none, 0, rfl, Nat.le_refl _, by simp [RowIn]⟩
set_option maxHeartbeats 6400000 in
set_option maxRecDepth 100000 in
theorem lawLg_any (HA : Hid Awake8Ok) (z : Nat) (hz : z ≤ 65535) (w : World) (hT : TabQ w) :
    Calls Tryd.prog 5 #[.int .u16 z] w fun e w' => e = .returned (.bool true) ∧ Below w.heap.size w w' := by
  have HT := Lib.hid hT
  obtain ⟨p, hp⟩ : ∃ p, z % 12 = p := ⟨_, rfl⟩
  have hpl : p ≤ 11 := by omega
  have t1 : (z : Int) % 12 = (p : Int) := by omega
  have t2 : Int.tmod (z : Int) 12 = (p : Int) := by rw [Int.tmod_eq_emod_of_nonneg (by omega)]; omega
  have t3 : IntKind.i64.wrap (p : Int) = (p : Int) := IntWalk.i64_in _ (by omega)
  have t4 : IntKind.i64.wrap (195 + (p : Int)) = ((195 + p : Nat) : Int) := (IntWalk.i64_in _ (by omega)).trans (by omega)
  clear hT hp
  go_enter Tryd.func5, Tryd.ntmps5
  go_upto_region 4 with (go_at_call 6; refine (HA.out _ HT.out).mono ?_; rintro e w1 ⟨he, hB⟩; subst he; have HX1 : Hid (Ext w w1) := Lib.hid hB; clear hB)
  clear t1 t2 t3 t4
  obtain ⟨k, hk⟩ : ∃ k, 195 + p = k := ⟨_, rfl⟩
  have hke : (195 : Int) + (p : Int) = (k : Int) := by omega
  rw [hke]
  have hk1 : 195 ≤ k := by omega
  have hk2 : k ≤ 206 := by omega
  clear hke hk hpl
  have hlen : (List.replicate k atA).length = k := List.length_replicate
  have HRP : Hid (∀ W b cap n, n ≤ 1000 → W.heap[b]? = some (.cells #[.int .i64 2, .string ⟨#[97]⟩, .int .i64 0, .slice none 0 0] 24 (0, 0)) → Calls Tryd.prog 16 #[.slice (some ⟨b, 0, none⟩) 1 cap, .int .i64 (n : Nat)] W (RepPost atA n W)) := by
    show ∀ _, _
    intro W b cap n hn hb
    obtain ⟨⟨m0, m1, m2, m3⟩, _⟩ := box_facts hb
    exact repeat_any atA n b 0 cap _ _ _ _ W (by omega) m0 m1 m2 m3 (IsIn_Is _ _ _ _ _ (atA_in (fun _ => True) W))
  go_upto_region 7 with (first
    | (go_at_call 15; refine (atom_any _ _ _).mono ?_; rintro e w2 ⟨he, hB⟩; subst he; have HX2 : Hid (Ext w w2) := Lib.hid (Ext.trans HX1.out hB); clear hB)
    | (go_at_call 16; refine (HRP.out _ _ _ _ (by omega) (by have := heap_alloc_new (w2.alloc (.cells #[.int .i64 2, .string ⟨#[97]⟩, .int .i64 0, .slice none 0 0] 24)) (.cells #[.int .i64 2, .string ⟨#[97]⟩, .int .i64 0, .slice none 0 0] 24); rw [World.size_alloc] at this; exact this)).mono ?_; rintro e w4 ⟨g, he, hR, hg, hB⟩; subst he; have HR4 := Lib.hid hR; have HB4 := Lib.hid hB; have HG4 := Lib.hid hg; clear hR hB hg))
  obtain ⟨pa, hpa⟩ : ∃ pa, w2.heap.size = pa := ⟨_, rfl⟩
  have hX24 : Ext w2 w4 := (((Ext.refl w2).alloc _).alloc _).trans HB4.out
  have HX4 : Hid (Ext w w4) := HX2.out.trans hX24
  have hbA : w4.heap[pa]? = some (.cells #[.int .i64 2, .string ⟨#[97]⟩, .int .i64 0, .slice none 0 0] 24 (0, 0)) := by
    have h1 := HB4.out.block w2.heap.size (by simp only [World.size_alloc]; omega)
    rw [← hpa, h1]
    exact (((Ext.refl (w2.alloc (.cells #[.int .i64 2, .string ⟨#[97]⟩, .int .i64 0, .slice none 0 0] 24))).alloc (.cells #[.int .i64 2, .string ⟨#[97]⟩, .int .i64 0, .slice none 0 0] 24)).block w2.heap.size (by simp)).trans (heap_alloc_new w2 (.cells #[.int .i64 2, .string ⟨#[97]⟩, .int .i64 0, .slice none 0 0] 24))
  have HBX : Hid (∀ W, Ext w4 W → W.cell? ⟨pa, 0, none⟩ = some (.int .i64 2) ∧ W.cell? ⟨pa, 1, none⟩ = some (.string ⟨#[97]⟩) ∧ W.cell? ⟨pa, 2, none⟩ = some (.int .i64 0) ∧ W.cell? ⟨pa, 3, none⟩ = some (.slice none 0 0)) := by
    show ∀ _, _
    intro W x
    have hl := (Array.getElem?_eq_some_iff.1 hbA).1
    exact (box_facts ((x.block pa hl).trans hbA)).1
  rw [hpa]
  have HRW := Lib.hid (fun W (x : Ext w4 W) => Row_below (w' := W) HR4.out x)
  have HCL : Hid (∀ W, Ext w4 W → Calls Tryd.prog 18 #[.slice (some ⟨g, 0, none⟩) k k] W fun e w' => ∃ xa cap, e = .returned (.slice xa k cap) ∧ k ≤ cap ∧ Row w' (List.replicate k atA) xa ∧ Ext W w') := by
    show ∀ _, _
    intro W x
    have h := cloneT_any w4.heap.size (List.replicate k atA) (some ⟨g, 0, none⟩) k W (by rw [hlen]; omega) x.size (RowIn_carryQ (fun b (hb : b < w4.heap.size) => x.block b hb) _ _ (Row_RowInQ _ _ HR4.out))
    rw [hlen] at h
    refine h.mono fun e w' hp => ?_
    obtain ⟨xa, cap, he, hO, hB⟩ := hp
    rw [hlen] at he
    obtain ⟨r1, r2⟩ := OwnT_rowQ hO
    rw [hlen] at r2
    exact ⟨xa, cap, he, r2, r1, hB⟩
  have hsz : sizes (List.replicate k atA) = k := rep_sizes k
  have hu : ∀ u ∈ List.replicate k atA, size u ≤ 1024 := fun u hu => by rw [(List.mem_replicate.1 hu).2, atA_size]; omega
  have HSM : Hid (∀ W x c, Row W (List.replicate k atA) x → Calls Tryd.prog 17 #[.slice x k c] W (TePost W (sumP (List.replicate k atA)))) := by
    show ∀ _, _
    intro W x c r
    have h := Sum_any (List.replicate k atA) x c W (by rw [hlen]; omega) (by rw [hsz]; omega) r
    rw [hlen] at h
    exact h
  have HRK : Hid (∀ W x c, k ≤ c → Ext w4 W → Row W (List.replicate k atA) x → Calls Tryd.prog 19 #[.slice x k c] W fun e w' => e = .returned (.tuple #[.int .i64 (basP (List.replicate k atA)).1.length, .int .i64 (basP (List.replicate k atA)).2]) ∧ Ext W w') := by
    show ∀ _, _
    intro W x c hc y r
    have h := Rank8_any (List.replicate k atA) x c W (by rw [hlen]; omega) (by rw [hsz]; omega) (by rw [hlen]; exact hc) (HT.out.ext (HX4.out.trans y)) r
    rw [hlen] at h
    exact h
  have HSN : Hid (∀ W x c, k ≤ c → Ext w4 W → Row W (List.replicate k atA) x → Calls Tryd.prog 20 #[.slice x k c, .agg #[.int .i64 2, .string ⟨#[97]⟩, .int .i64 0, .slice none 0 0]] W (SpanPost (List.replicate k atA) atA W)) := by
    show ∀ _, _
    intro W x c hc y r
    have h := Span_any (List.replicate k atA) atA x c _ _ _ _ W (by rw [hlen]; omega) (by rw [hsz, atA_size]; omega) (by rw [hlen]; exact hc) (HT.out.ext (HX4.out.trans y)) r (IsIn_Is _ _ _ _ _ (atA_in (fun _ => True) W))
    rw [hlen] at h
    exact h
  have HCK : Hid (∀ W v, Ext w4 W → IntsV W v [3] → Calls Tryd.prog 21 #[.slice (some ⟨g, 0, none⟩) k k, .agg #[.int .i64 2, .string ⟨#[97]⟩, .int .i64 0, .slice none 0 0], v] W fun e w' => e = .returned (.bool (chkB8 (List.replicate k atA) atA [3])) ∧ Ext W w') := by
    show ∀ _, _
    intro W v y hv
    have h := Check_any (List.replicate k atA) atA [3] (some ⟨g, 0, none⟩) k v _ _ _ _ W (by rw [hlen]; omega) hu (by rw [atA_size]; omega) (by simp) (HRW.out W y) (IsIn_Is _ _ _ _ _ (atA_in (fun _ => True) W)) hv
    rw [hlen] at h
    exact h
  obtain ⟨Q, hQ⟩ : ∃ Q : Int, (if 200 < k then 3 else 0) = Q := ⟨_, rfl⟩
  have hS1 : (sumP (List.replicate k atA)).2 = Q := by
    by_cases h : 200 < k
    · rw [sumP_big h, ← hQ, if_pos h]
    · rw [sumP_rep (by omega), ← hQ, if_neg h]
  have hB1 : (basP (List.replicate k atA)).2 = Q := by
    by_cases h : 200 < k
    · rw [bas_big h, ← hQ, if_pos h]
    · rw [bas_rep (by omega) (by omega), ← hQ, if_neg h]
  have HSE : Hid (∀ c E, SpanR (List.replicate k atA) atA c E → E = Q) := by
    show ∀ _, _
    intro c E h
    rw [span_rep (by omega) h, hQ]
  have HQ0 : Hid ((Q = 3 ∧ chkB8 (List.replicate k atA) atA [3] = false) ∨ (Q = 0 ∧ chkB8 (List.replicate k atA) atA [3] = true ∧ (sumP (List.replicate k atA)).1 = sumTm (List.replicate (k % 2) atA) ∧ (basP (List.replicate k atA)).1.length = 1)) := by
    show _ ∨ _
    by_cases h : 200 < k
    · rw [if_pos h] at hQ
      exact Or.inl ⟨hQ.symm, chk_big h _⟩
    · rw [if_neg h] at hQ
      exact Or.inr ⟨hQ.symm, chk_rep (by omega) (by omega), by rw [sumP_rep (by omega)], by rw [bas_rep (by omega) (by omega)]; rfl⟩
  unfold TePost at HSM
  rw [hS1] at HSM
  rw [hB1] at HRK
  generalize (sumP (List.replicate k atA)).1 = Tt at HSM HQ0
  generalize (basP (List.replicate k atA)).1.length = Bn at HRK HQ0
  generalize chkB8 (List.replicate k atA) atA [3] = Cb at HCK HQ0
  have HQD := Lib.hid hQ
  clear hS1 hB1 hQ hpa hX24 hbA hsz hu hlen
  go_upto_if 25 with fail
  go_cut [6] (fun v wd => v = .int .i64 Q ∧ wd = w4)
  case first =>
    by_cases h : 200 < k
    · have h1 : decide ((200 : Int) < (k : Int)) = true := decide_eq_true (by omega)
      have h2 := HQD.out
      rw [if_pos h] at h2
      have h1n : decide (200 < k) = true := decide_eq_true h
      go_wp2_with fail
      go_meet
      exact ⟨by rw [← h2], rfl⟩
    · have h1 : decide ((200 : Int) < (k : Int)) = false := decide_eq_false (by omega)
      have h2 := HQD.out
      rw [if_neg h] at h2
      have h1n : decide (200 < k) = false := decide_eq_false h
      go_wp2_with fail
      go_meet
      exact ⟨by rw [← h2], rfl⟩
  case rest =>
  obtain ⟨rfl, hw⟩ := hcut
  have hw' := hw.symm
  subst hw'
  have tok1 : True := trivial
  go_upto_region 11 with (first
    | (go_at_call 18; have _t := tok1; refine (HCL.out _ (Ext.refl _)).mono ?_; rintro e w5 ⟨x5, c5, he, hc5, hR5, hB⟩; subst he; have HR5 := Lib.hid hR5; have HX5 := Lib.hid hB; clear hB hR5 hc5 tok1)
    | (go_at_call 17; refine (HSM.out _ _ _ HR5.out).mono ?_; rintro e w6 ⟨tk, tn, tq, tx, tl, tc, he, hI6, hB⟩; subst he; have HI6 := Lib.hid hI6; have HX6 := Lib.hid (HX5.out.trans hB); clear hB hI6)
    | (go_at_call 18; refine (HCL.out _ (HX6.out.alloc _)).mono ?_; rintro e w7 ⟨x7, c7, he, hc7, hR7, hB⟩; subst he; have HR7 := Lib.hid (And.intro hc7 hR7); have HX7 := Lib.hid hB; clear hB hR7 hc7)
    | (go_at_call 19; refine (HRK.out _ _ _ HR7.out.1 ((HX6.out.alloc _).trans HX7.out) HR7.out.2).mono ?_; rintro e w8 ⟨he, hB⟩; subst he; have HX8 := Lib.hid (HX7.out.trans hB); clear hB))
  have HX48 : Hid (Ext w4 w8) := Ext.trans (HX6.out.alloc (.cells #[.int .i64 tk, .string tn, .int .i64 tq, .slice tx tl tc] 24)) HX8.out
  obtain ⟨pt, hpt⟩ : ∃ pt, w6.heap.size = pt := ⟨_, rfl⟩
  have HBT : Hid (∀ W, Ext w8 W → (W.cell? ⟨pt, 0, none⟩ = some (.int .i64 tk) ∧ W.cell? ⟨pt, 1, none⟩ = some (.string tn) ∧ W.cell? ⟨pt, 2, none⟩ = some (.int .i64 tq) ∧ W.cell? ⟨pt, 3, none⟩ = some (.slice tx tl tc)) ∧ Is W Tt (.int .i64 tk) (.string tn) (.int .i64 tq) (.slice tx tl tc)) := by
    show ∀ _, _
    intro W x
    have h1 : W.heap[pt]? = some (.cells #[.int .i64 tk, .string tn, .int .i64 tq, .slice tx tl tc] 24 (0, 0)) := by
      rw [← hpt]
      exact ((HX8.out.trans x).block w6.heap.size (by simp)).trans (heap_alloc_new w6 (.cells #[.int .i64 tk, .string tn, .int .i64 tq, .slice tx tl tc] 24))
    exact ⟨(box_facts h1).1, Is_below (IsIn_Is _ _ _ _ _ HI6.out) (((Ext.refl w6).alloc (.cells #[.int .i64 tk, .string tn, .int .i64 tq, .slice tx tl tc] 24)).trans (HX8.out.trans x))⟩
  rw [hpt]
  obtain ⟨a0, a1, a2, a3⟩ := HBX.out _ HX48.out
  have hF0 : Ext w8 w8.drew := (Ext.refl w8).drew
  clear hpt
  go_cut [12] (fun v wd => v = .int .i64 Q ∧ Ext w8 wd)
  case first =>
    go_region_held3 (fun W => W.cell? ⟨pa, 0, none⟩ = some (.int .i64 2) ∧ W.cell? ⟨pa, 1, none⟩ = some (.string ⟨#[97]⟩) ∧ W.cell? ⟨pa, 2, none⟩ = some (.int .i64 0) ∧ W.cell? ⟨pa, 3, none⟩ = some (.slice none 0 0))
      (first | exact HBX.out _ (HX48.out.trans (by assumption)) | go_keep)
      (first
        | (go_at_call 18; refine (HCL.out _ (HX48.out.trans hF0)).mono ?_; rintro e w9 ⟨x9, c9, he, hc9, hR9, hB⟩; subst he; have hF9 : Ext w8 w9 := hF0.trans hB; have HR9 := Lib.hid (And.intro hc9 hR9); clear hB hR9 hc9)
        | (go_at_call 20; refine (HSN.out _ _ _ HR9.out.1 (HX48.out.trans hF9) HR9.out.2).mono ?_; rintro e w10 ⟨c, E, v, he, hS, _, _, hB⟩; have hz := HSE.out _ _ hS; subst hz; subst he; have hF10 : Ext w8 w10 := hF9.trans hB; clear hB hS))
    all_goals (go_wp2_with fail)
    all_goals go_meet
    all_goals exact ⟨by simp [*], hF10⟩
  case rest =>
  obtain ⟨w9, hw9⟩ : ∃ V : World, V = wc := ⟨_, rfl⟩
  subst hw9
  obtain ⟨rfl, hX9⟩ := hcut
  have HX9 := Lib.hid hX9
  have HX49 : Hid (Ext w4 w9) := HX48.out.trans hX9
  clear hF0 hX9 a0 a1 a2 a3 HSM HRK HSN HSE HCL HRW
  obtain ⟨a0, a1, a2, a3⟩ := HBX.out _ HX49.out
  have HC3 : Hid (∀ W : World, IntsV (W.alloc (.cells #[.int .i64 3] 3)) (.slice (some ⟨W.heap.size, 0, none⟩) 1 1) [3]) := by
    show ∀ _, _
    intro W
    exact intsV_own (OwnI_one W.heap.size W 3 (Nat.le_refl _)) (fun x hx => by rw [List.mem_singleton.1 hx]; omega) (by simp [maxLen])
  rcases HQ0.out with ⟨rfl, rfl⟩ | ⟨rfl, rfl, hTt, rfl⟩
  · go_upto_region 14 with (go_at_call 21; refine (HCK.out _ _ (HX49.out.alloc _) (HC3.out _)).mono ?_; rintro e w10 ⟨he, hB⟩; subst he; have HX10 : Hid (Ext w w10) := Lib.hid (HX4.out.trans ((HX49.out.alloc _).trans hB)); clear hB)
    go_quiet (fail)
    go_wp2_with fail
    go_ret
    exact ⟨rfl, Ext.trans HX10.out (below_drewN (Below.refl _ _) _)⟩
  · obtain ⟨q, hq⟩ : ∃ q, k % 2 = q := ⟨_, rfl⟩
    rw [hq] at hTt
    have HTt := Lib.hid hTt
    have hq1 : q ≤ 1 := by omega
    have r1 : (k : Int) % 2 = (q : Int) := by omega
    have r2 : Int.tmod (k : Int) 2 = (q : Int) := by rw [Int.tmod_eq_emod_of_nonneg (by omega)]; omega
    have HSZ := Lib.hid (sumTm_rep k)
    rw [hq] at HSZ
    clear hTt hq
    go_upto_region 14 with (go_at_call 21; refine (HCK.out _ _ (HX49.out.alloc _) (HC3.out _)).mono ?_; rintro e w10 ⟨he, hB⟩; subst he; have HX10 : Hid (Ext w9 w10) := Lib.hid (((Ext.refl w9).alloc _).trans hB); clear hB)
    have HX810 : Hid (Ext w8 w10) := HX9.out.trans HX10.out
    have HX410 : Hid (Ext w4 w10) := HX49.out.trans HX10.out
    have hF0 : Ext w10 w10.drew := (Ext.refl w10).drew
    obtain ⟨⟨b0, b1, b2, b3⟩, _⟩ := HBT.out _ HX810.out
    clear a0 a1 a2 a3
    obtain ⟨a0, a1, a2, a3⟩ := HBX.out _ HX410.out
    go_region_held3 (fun W => (W.cell? ⟨pa, 0, none⟩ = some (.int .i64 2) ∧ W.cell? ⟨pa, 1, none⟩ = some (.string ⟨#[97]⟩) ∧ W.cell? ⟨pa, 2, none⟩ = some (.int .i64 0) ∧ W.cell? ⟨pa, 3, none⟩ = some (.slice none 0 0)) ∧ (W.cell? ⟨pt, 0, none⟩ = some (.int .i64 tk) ∧ W.cell? ⟨pt, 1, none⟩ = some (.string tn) ∧ W.cell? ⟨pt, 2, none⟩ = some (.int .i64 tq) ∧ W.cell? ⟨pt, 3, none⟩ = some (.slice tx tl tc)))
      (first | exact ⟨HBX.out _ (HX410.out.trans (by assumption)), (HBT.out _ (HX810.out.trans (by assumption))).1⟩ | exact ⟨HBX.out _ (HX410.out.trans (Ext.alloc (by assumption) _)), (HBT.out _ (HX810.out.trans (Ext.alloc (by assumption) _))).1⟩ | go_keep)
      (first
        | (go_at_call 16; refine (HRP.out _ _ _ _ (by omega) (heap_alloc_new w10.drew _)).mono ?_; rintro e w11 ⟨g2, he, hR, _, hB⟩; subst he; have hF11 : Ext w10 w11 := (hF0.alloc _).trans hB; have HR11 := Lib.hid hR; clear hR hB)
        | (go_at_call 22; refine ((by have h := qTerm_any w11.heap.size (List.replicate q atA) (.slice (some ⟨g2, 0, none⟩) q q) w11 (Nat.le_refl _) (by rw [List.length_replicate]; omega) (by have h := Elems_of_RowQ (cap := q) HR11.out (by rw [List.length_replicate]; exact Nat.le_refl _) (by rw [List.length_replicate]; unfold maxLen; omega); rw [List.length_replicate] at h; exact h); exact h : Calls _ _ _ _ (TbPost w11.heap.size w11 (sumTm (List.replicate q atA))))).mono ?_; rintro e w12 ⟨uk, un, us, ux, ul, uc, he, hI, hB⟩; subst he; have hF12 : Ext w10 w12 := hF11.trans hB; have HI12 := Lib.hid (IsIn_Is _ _ _ _ _ hI); clear hI hB)
        | (go_at_call 13; refine (same_any Tt (sumTm (List.replicate q atA)) _ _ _ _ _ _ _ _ w12 (by rw [HTt.out, HSZ.out.2]; omega) (by rw [HSZ.out.2]; omega) (HBT.out _ (HX810.out.trans hF12)).2 HI12.out).mono ?_; rintro e w13 ⟨he, hB⟩; rw [HTt.out, cmpT_self] at he; subst he; have hF13 : Ext w10 w13 := hF12.trans hB; clear hB))
    all_goals (go_wp2_with fail)
    all_goals go_ret
    all_goals exact ⟨by simp, HX4.out.trans (HX410.out.trans hF13)⟩
end Go.Proofs.YtfbomoginjknlaaDoor
