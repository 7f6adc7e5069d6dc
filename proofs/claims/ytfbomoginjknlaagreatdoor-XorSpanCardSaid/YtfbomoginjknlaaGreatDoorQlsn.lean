/-
  THE LAW XorSpan: its walk.
-/
import Derived.Test.YtfbomoginjknlaaGreatDoorQlcr
import Derived.Test.YtfbomoginjknlaaGreatDoorQchw
import Derived.Test.YtfbomoginjknlaaGreatDoorQspw
import Derived.Test.YtfbomoginjknlaaGreatDoorQrdm
namespace Go.Proofs.YtfbomoginjknlaaGreatDoor
open Go.RowKit Go.Lib

theorem nodeE_bnd (t : Tm) : 0 ≤ nodeE t ∧ nodeE t ≤ 3 := by
  obtain ⟨k, n, s, ks⟩ := t
  unfold nodeE
  repeat' split
  all_goals omega
mutual
theorem nodesE_bnd : ∀ t : Tm, 0 ≤ nodesE t ∧ nodesE t ≤ 3
  | .mk k n s ks => by
    rw [nodesE]
    split
    · exact nodesL_bnd ks
    · exact nodeE_bnd _
theorem nodesL_bnd : ∀ l : List Tm, 0 ≤ nodesL l ∧ nodesL l ≤ 3
  | [] => by rw [nodesL]; omega
  | t :: ts => by
    rw [nodesL]
    split
    · exact nodesL_bnd ts
    · exact nodesE_bnd t
end
theorem validE_bnd (t : Tm) : 0 ≤ validE t ∧ validE t ≤ 3 := by
  have := nodesE_bnd t
  unfold validE
  repeat' split
  all_goals omega
theorem firstE_bnd : ∀ l : List Tm, 0 ≤ firstE l ∧ firstE l ≤ 3
  | [] => by rw [firstE]; omega
  | t :: ts => by
    have := validE_bnd t
    have := firstE_bnd ts
    rw [firstE]
    split <;> omega
theorem vE_bnd (ts : List Tm) (t : Tm) : 0 ≤ vE ts t ∧ vE ts t ≤ 3 := by
  have := validE_bnd t
  have := firstE_bnd ts
  unfold vE
  repeat' split
  all_goals omega
/-- What Span and Refute give fits what the reference's Span says. -/
theorem span_all {ts : List Tm} {t : Tm} {c : List Int} {r : List Tm} {E1 E2 : Int} (h1 : SpanR ts t c E1) (h2 : RefuteR ts t r E2) (hr : r.length ≤ 200) :
    (1 ≤ vE ts t ∧ vE ts t ≤ 3 ∧ spE ts t = vE ts t ∧ E1 = vE ts t ∧ E2 = vE ts t ∧ c = [] ∧ r = []) ∨ (spE ts t = 0 ∧ E1 = 0 ∧ chkB8 ts t c = true ∧ E2 = 5 ∧ r = []) ∨ (spE ts t = 4 ∧ E1 = 4 ∧ c = [] ∧ E2 = 0 ∧ sepB ts t r = true) := by
  have hb := vE_bnd ts t
  by_cases hv : vE ts t = 0
  · obtain ⟨C, hC⟩ := cols_ex (ts ++ [t])
    have hs := red_some (C := C) (fun x hx u hu => (hC.mem u).2 ⟨x, List.mem_append_left _ hx, hu⟩) (fun u hu => (hC.mem u).2 ⟨t, by simp, hu⟩) hv
    right
    rcases h1 with ⟨h, _⟩ | ⟨_, e1, hc⟩ | ⟨_, e1, hc, hn⟩
    · exact absurd hv h
    · left
      rcases h2 with ⟨h, _⟩ | ⟨_, _, hx, _⟩ | ⟨_, e2, hr, _⟩
      · exact absurd hv h
      · rw [hx c] at hc; cases hc
      · exact ⟨by unfold spE; rw [if_pos hv, if_pos (hs.2 ⟨c, hc⟩)], e1, hc, e2, hr⟩
    · right
      have hno : ¬ (redT (rowsT ts ts.length).1 (summT t)).length = 0 := fun h => by
        obtain ⟨c', hc'⟩ := hs.1 h
        rw [hn c'] at hc'; cases hc'
      rcases h2 with ⟨h, _⟩ | ⟨_, e2, _, hx⟩ | ⟨_, _, _, c', hc'⟩
      · exact absurd hv h
      · exact ⟨by unfold spE; rw [if_pos hv, if_neg hno], e1, hc, e2, hx hr⟩
      · rw [hn c'] at hc'; cases hc'
  · left
    rcases h1 with ⟨_, e1, hc⟩ | ⟨h, _⟩ | ⟨h, _⟩
    · rcases h2 with ⟨_, e2, hr⟩ | ⟨h, _⟩ | ⟨h, _⟩
      · exact ⟨by omega, hb.2, by unfold spE; rw [if_neg hv], e1, e2, hc, hr⟩
      · exact absurd h hv
      · exact absurd h hv
    · exact absurd h hv
    · exact absurd h hv
set_option maxHeartbeats 6400000 in
set_option maxRecDepth 100000 in
theorem lawSn_any (HA : Hid Awake8Ok) (ts : List Tm) (t : Tm) (xl : Option Addr) (cl : Nat) (c0 c1 c2 c3 : Value) (w : World) (hT : TabQ w) (_hcl : ts.length ≤ cl) (hb : ts.length * 56 ≤ 140737488351232) (hL : Row w ts xl) (hI : Is w t c0 c1 c2 c3) :
    Calls Tryz.prog 5 #[.slice xl ts.length cl, .agg #[c0, c1, c2, c3]] w fun e w' => e = .returned (.bool true) ∧ Below w.heap.size w w' := by
  obtain ⟨k2, n2, s2, ya2, yl2, yc2, rfl, rfl, rfl, rfl⟩ := Is_form hI
  have hB1 : Ext w (w.alloc (.cells #[.int .i64 k2, .string n2, .int .i64 s2, .slice ya2 yl2 yc2] 26)) := (Ext.refl _).alloc _
  have HBK : Hid (∀ W, Ext (w.alloc (.cells #[.int .i64 k2, .string n2, .int .i64 s2, .slice ya2 yl2 yc2] 26)) W → W.cell? ⟨w.heap.size, 0, none⟩ = some (.int .i64 k2) ∧ W.cell? ⟨w.heap.size, 1, none⟩ = some (.string n2) ∧ W.cell? ⟨w.heap.size, 2, none⟩ = some (.int .i64 s2) ∧ W.cell? ⟨w.heap.size, 3, none⟩ = some (.slice ya2 yl2 yc2)) := by
    show ∀ _, _
    intro W x
    have hh := x.block w.heap.size (by simp)
    rw [heap_alloc_new] at hh
    exact (box_facts hh).1
  have HB1 := Lib.hid hB1
  have hsA : (w.alloc (.cells #[.int .i64 k2, .string n2, .int .i64 s2, .slice ya2 yl2 yc2] 26)).heap.size = w.heap.size + 1 := World.size_alloc _ _
  have HT := Lib.hid hT
  have HRI := Lib.hid (Row_RowInQ _ _ hL)
  have HCL := Lib.hid (fun W (x : Ext w W) => cloneT_any w.heap.size ts xl cl W (by omega) x.size (RowIn_carryQ (fun b (hb : b < w.heap.size) => x.block b hb) _ _ (Row_RowInQ _ _ hL)))
  have HIn := Lib.hid (fun W (x : Ext w W) => IsIn_carry (S' := fun q => q < w.heap.size) (fun q (hq : q < w.heap.size) => x.block q hq) (fun _ h => h) _ _ _ _ _ (Is_IsIn _ _ _ _ _ hI))
  have HFP := Lib.hid (fun n (hn : n = ts.length + 1) xa cap W (h : Row W (ts ++ [t]) xa) => few_pushed ts t n hn xa cap W hb h)
  have HSN := Lib.hid (fun (h1 : few (ts ++ [t]) 20 300 = true) W (x : Ext w W) x5 c5 (h5 : ts.length ≤ c5) (r5 : Row W ts x5) => Span_any ts t x5 c5 _ _ _ _ W (by have := few_snoc h1; omega) (by have := few_snoc h1; omega) h5 (hT.ext x) r5 (Is_below (w' := W) hI x))
  have HRF := Lib.hid (fun (h1 : few (ts ++ [t]) 20 300 = true) W (x : Ext w W) x5 c5 (h5 : ts.length ≤ c5) (r5 : Row W ts x5) => Refute_any ts t x5 c5 _ _ _ _ W (by have := few_snoc h1; omega) (by have := few_snoc h1; omega) h5 (hT.ext x) r5 (Is_below (w' := W) hI x))
  have HCK := Lib.hid (fun (h1 : few (ts ++ [t]) 20 300 = true) W (x : Ext w W) c v (hc : c.length ≤ 512) (r6 : IntsV W v c) => rCheck8_any ts t c xl cl v _ _ _ _ W (by have := few_snoc h1; omega) (fun u hu => by have := few_snoc h1; have := size_le_sizes hu; omega) (by have := few_snoc h1; omega) hc (Row_below (w' := W) hL x) (Is_below (w' := W) hI x) r6)
  have HCR := Lib.hid (fun (h1 : few (ts ++ [t]) 20 300 = true) W (x : Ext w W) r xa cap (hr : r.length ≤ 1048576) (hrs : ∀ u ∈ r, size u ≤ 1048576) (r6 : Row W r xa) => rCheckRefute8_any ts t r xl xa cl cap _ _ _ _ W (by have := few_snoc h1; omega) (fun u hu => by have := few_snoc h1; have := size_le_sizes hu; omega) (by have := few_snoc h1; omega) hr (fun u hu => by have := hrs u hu; omega) (Row_below (w' := W) hL x) (Is_below (w' := W) hI x) r6)
  have HRS := Lib.hid (fun (h1 : few (ts ++ [t]) 20 300 = true) W (x : Ext w W) => rSpan8_any ts t xl cl _ _ _ _ W (by have := few_snoc h1; omega) (by have := few_snoc h1; omega) (Row_below (w' := W) hL x) (Is_below (w' := W) hI x))
  obtain ⟨i0, hi0, hz0, hz1, hz2⟩ := info_parts info24
  have HI0 := Lib.hid (And.intro hi0 (And.intro hz0 (And.intro hz1 hz2)))
  obtain ⟨A, hA⟩ : ∃ A, ts.length = A := ⟨_, rfl⟩
  have HAL := Lib.hid hA
  rw [hA] at HFP HCL HSN HRF HCK HCR HRS hb ⊢
  clear hL hI hT hi0 hz0 hz1 hz2 hA
  go_enter Tryz.func5, Tryz.ntmps5
  go_upto_region 1 with (fail)
  obtain ⟨b0q, b1q, b2q, b3q⟩ := HBK.out _ (Ext.refl _)
  generalize hwA : w.alloc (.cells #[.int .i64 k2, .string n2, .int .i64 s2, .slice ya2 yl2 yc2] 26) = wA at HBK HB1 hsA b0q b1q b2q b3q ⊢
  have HNS := Lib.hid hsA
  clear hwA hB1
  have hF0 : Ext wA wA.drew := (Ext.refl wA).drew
  have tok1 : True := trivial
  obtain ⟨R1, h1⟩ : ∃ R1, few (ts ++ [t]) 20 300 = R1 := ⟨_, rfl⟩
  have HE1 := Lib.hid h1
  rw [h1] at HFP
  clear h1
  go_cut [21] (fun tc wc => tc = .bool (!R1) ∧ Ext wA wc)
  case first =>
    clear HSN HRF HCK HCR HRS HE1
    go_region_held3 (fun W => W.cell? ⟨w.heap.size, 0, none⟩ = some (.int .i64 k2) ∧ W.cell? ⟨w.heap.size, 1, none⟩ = some (.string n2) ∧ W.cell? ⟨w.heap.size, 2, none⟩ = some (.int .i64 s2) ∧ W.cell? ⟨w.heap.size, 3, none⟩ = some (.slice ya2 yl2 yc2))
      (first | exact HBK.out _ (by assumption) | exact HBK.out _ (Ext.alloc (by assumption) _) | go_keep)
      (first
          | (go_at_call 9; refine (HA.out _ (HT.out.ext (HB1.out.trans (by first | exact hF0 | exact Ext.refl _)))).mono ?_; rintro e w1 ⟨he, hB⟩; subst he; have hF1 : Ext wA w1 := Ext.trans (by first | exact hF0 | exact Ext.refl _) hB; clear hB)
          | (go_at_call 12; refine (HCL.out _ (HB1.out.trans (by first | exact hF1 | exact hF1.alloc _))).mono ?_; rintro e w2 ⟨xq, cq, he, hO, hB⟩; subst he; obtain ⟨cs, ho, hK⟩ := hO; rw [HAL.out] at ho ⊢; have HO2 := Lib.hid (own_base (base' := w1.heap.size) ho (by first | exact Nat.le_refl _ | (rw [World.size_alloc]; omega))); have HK2 := Lib.hid hK; have hF2 : Ext wA w2 := Ext.trans (by first | exact hF1 | exact hF1.alloc _) hB; have HZ2 : Hid (w1.heap.size ≤ w2.heap.size) := Lib.hid (by have := hB.size; first | exact this | (rw [World.size_alloc] at this; omega)); (first | (have HNB := Lib.hid ((hB.block w1.heap.size (by simp)).trans (heap_alloc_new w1 (.cells #[.int .i64 k2, .string n2, .int .i64 s2, .slice ya2 yl2 yc2] 26)))) | skip); clear hB ho hK)
          | (refine step_append_want (by first | rfl | decide | simp [Region.wanted, yielded, go_sem]) _ _ _ (by rfl) w1.heap.size 26 i0 _ 4 56 Tryz.underlying22 HI0.out.1 HI0.out.2.1 HI0.out.2.2.1 HI0.out.2.2.2 rfl (by omega) (.slice xq A cq) A cs (by rfl) (HO2.out.alloc _) ⟨w2.heap.size, 0, none⟩ 1 1 [.int .i64 k2, .string n2, .int .i64 s2, .slice ya2 yl2 yc2] (by rfl) (by rfl) (World.news_of_block (cs := #[.int .i64 k2, .string n2, .int .i64 s2, .slice ya2 yl2 yc2]) (t := 26) (fr := (0, 0)) (heap_alloc_new w2 _)) (by simp [Value.oneCell']) (by omega) (by unfold maxLen; omega) (by omega) (by rw [World.size_alloc]; have := HZ2.out; omega) (w2.heap.size + 1) (by simp) ?_; intro gg cap8 w8 hown8 hgrow hat hltt; have hp := clone_push (base := w.heap.size) (n := A) HAL.out.symm (KC_carry (fun b (hb : b < w.heap.size) => ((Ext.refl w2).alloc (.cells #[.int .i64 k2, .string n2, .int .i64 s2, .slice ya2 yl2 yc2] 26)).block b (by have := HNS.out; have := hF2.size; omega)) (fun _ h => h) _ _ HK2.out) (HIn.out _ (HB1.out.trans (hF2.alloc (.cells #[.int .i64 k2, .string n2, .int .i64 s2, .slice ya2 yl2 yc2] 26)))) (by have := HNS.out; have := hF1.size; omega) (by rw [World.size_alloc]; have := HZ2.out; omega) (fun q hq => (HO2.out.lt q hq).1) hown8 hgrow; have HR8 := Lib.hid hp.1; have hF8 : Ext wA w8 := Below.trans ((hF2.alloc (.cells #[.int .i64 k2, .string n2, .int .i64 s2, .slice ya2 yl2 yc2] 26))) (hp.2.mono hF1.size); clear hown8 hgrow hat hltt hp)
          | (refine step_append_want (by first | rfl | decide | simp [Region.wanted, yielded, go_sem]) _ _ _ (by rfl) w1.heap.size 26 i0 _ 4 56 Tryz.underlying22 HI0.out.1 HI0.out.2.1 HI0.out.2.2.1 HI0.out.2.2.2 rfl (by omega) (.slice xq A cq) A cs (by rfl) HO2.out ⟨w1.heap.size, 0, none⟩ 1 1 [.int .i64 k2, .string n2, .int .i64 s2, .slice ya2 yl2 yc2] (by rfl) (by rfl) (World.news_of_block (cs := #[.int .i64 k2, .string n2, .int .i64 s2, .slice ya2 yl2 yc2]) (t := 26) (fr := (0, 0)) HNB.out) (by simp [Value.oneCell']) (by omega) (by unfold maxLen; omega) (by omega) HZ2.out w2.heap.size rfl ?_; intro gg cap8 w8 hown8 hgrow hat hltt; have hp := clone_push (base := w.heap.size) (n := A) HAL.out.symm HK2.out (HIn.out _ (HB1.out.trans hF2)) (by have := HNS.out; have := hF1.size; omega) (HZ2.out) (fun q hq => (HO2.out.lt q hq).1) hown8 hgrow; have HR8 := Lib.hid hp.1; have hF8 : Ext wA w8 := Below.trans (hF2) (hp.2.mono hF1.size); clear hown8 hgrow hat hltt hp)
          | (go_at_call 10; have _t := tok1; refine (HFP.out _ rfl _ _ _ HR8.out).mono ?_; rintro e w9 ⟨he, hB⟩; subst he; have hF9 : Ext wA w9 := hF8.trans hB; clear hB tok1))
    all_goals (go_wp2_with fail)
    all_goals go_meet
    all_goals exact ⟨rfl, hF9⟩
  case rest =>
  obtain ⟨rfl, hX⟩ := hcut
  have HX := Lib.hid hX
  clear hF0 tok1 hX
  cases R1
  · clear HSN HRF HCK HCR HRS HE1 HCL HFP HIn HRI
    go_wp2_with (go_at_call 9; refine (HA.out _ (HT.out.ext (HB1.out.trans HX.out))).mono ?_; rintro e w3 ⟨he, hB⟩; subst he; have HX3 := Lib.hid ((HB1.out.trans HX.out).trans hB); clear hB)
    go_ret
    exact ⟨rfl, HX3.out⟩
  have HF := Lib.hid (few_snoc HE1.out)
  have HSN := Lib.hid (HSN.out HE1.out)
  have HRF := Lib.hid (HRF.out HE1.out)
  rw [HAL.out] at HF
  clear HFP
  obtain ⟨b0q, b1q, b2q, b3q⟩ := HBK.out _ HX.out
  have hF0 : Ext wc wc.drew := (Ext.refl wc).drew
  go_upto_region 3 with (fail)
  go_cut [5, 6] (fun v5 v6 wd => ∃ c E, v6 = .int .i64 E ∧ SpanR ts t c E ∧ c.length ≤ ts.length ∧ IntsV wd v5 c ∧ Ext wc wd)
  case first =>
    go_region_held3 (fun W => W.cell? ⟨w.heap.size, 0, none⟩ = some (.int .i64 k2) ∧ W.cell? ⟨w.heap.size, 1, none⟩ = some (.string n2) ∧ W.cell? ⟨w.heap.size, 2, none⟩ = some (.int .i64 s2) ∧ W.cell? ⟨w.heap.size, 3, none⟩ = some (.slice ya2 yl2 yc2))
      (first | exact HBK.out _ (HX.out.trans (by assumption)) | go_keep)
      (first
        | (go_at_call 12; refine (HCL.out _ ((HB1.out.trans HX.out).trans hF0)).mono ?_; rintro e w3 ⟨x3, c3, he, hO, hB⟩; subst he; have hr := OwnT_rowQ hO; rw [HAL.out] at hr ⊢; have hF3 : Ext wc w3 := hF0.trans hB; have HR3 := Lib.hid hr; clear hO hB hr)
        | (go_at_call 21; refine (HSN.out _ ((HB1.out.trans HX.out).trans hF3) _ _ HR3.out.2 HR3.out.1).mono ?_; rintro e w5 ⟨c, E, v, he, hS, hcl, hv, hB⟩; subst he; have hF5 : Ext wc w5 := hF3.trans hB; have HP5 := Lib.hid (And.intro hS (And.intro hcl hv)); clear hB hS hcl hv))
    all_goals (go_wp2_with fail)
    all_goals go_meet
    all_goals exact ⟨_, _, rfl, HP5.out.1, HP5.out.2.1, HP5.out.2.2, hF5⟩
  case rest =>
  obtain ⟨wd5, hwd⟩ : ∃ V : World, V = wc := ⟨_, rfl⟩
  subst hwd
  obtain ⟨c, E1, rfl, hS, hcl, hv, hX5⟩ := hcut
  rw [HAL.out] at hcl
  have HXd := Lib.hid (HX.out.trans hX5)
  obtain ⟨xv, kv, ev, _⟩ := id hv
  subst ev
  have HS1 := Lib.hid hS
  have HV1 := Lib.hid hv
  have HCLN := Lib.hid hcl
  clear hS hcl hv hX5
  obtain ⟨b0q, b1q, b2q, b3q⟩ := HBK.out _ HXd.out
  have hF0 : Ext wd5 wd5.drew := (Ext.refl wd5).drew
  go_upto_region 4 with (fail)
  go_cut [7, 8] (fun v7 v8 wd => ∃ r xa cap E, v7 = .slice xa r.length cap ∧ v8 = .int .i64 E ∧ RefuteR ts t r E ∧ r.length ≤ cap ∧ r.length ≤ ts.length + 1 ∧ (∀ u ∈ r, size u ≤ 1048576) ∧ Row wd r xa ∧ Ext wd5 wd)
  case first =>
    go_region_held3 (fun W => W.cell? ⟨w.heap.size, 0, none⟩ = some (.int .i64 k2) ∧ W.cell? ⟨w.heap.size, 1, none⟩ = some (.string n2) ∧ W.cell? ⟨w.heap.size, 2, none⟩ = some (.int .i64 s2) ∧ W.cell? ⟨w.heap.size, 3, none⟩ = some (.slice ya2 yl2 yc2))
      (first | exact HBK.out _ (HXd.out.trans (by assumption)) | go_keep)
      (first
        | (go_at_call 12; refine (HCL.out _ ((HB1.out.trans HXd.out).trans hF0)).mono ?_; rintro e w3 ⟨x3, c3, he, hO, hB⟩; subst he; have hr := OwnT_rowQ hO; rw [HAL.out] at hr ⊢; have hF3 : Ext wd5 w3 := hF0.trans hB; have HR3 := Lib.hid hr; clear hO hB hr)
        | (go_at_call 22; refine (HRF.out _ ((HB1.out.trans HXd.out).trans hF3) _ _ HR3.out.2 HR3.out.1).mono ?_; rintro e w5 ⟨r, xa, cap, E, he, hS, h1, h2, h3, hv, hB⟩; subst he; have hF5 : Ext wd5 w5 := hF3.trans hB; have HP5 := Lib.hid (And.intro hS (And.intro h1 (And.intro h2 (And.intro h3 hv)))); clear hB hS h1 h2 h3 hv))
    all_goals (go_wp2_with fail)
    all_goals go_meet
    all_goals exact ⟨_, _, _, _, rfl, rfl, HP5.out.1, HP5.out.2.1, HP5.out.2.2.1, HP5.out.2.2.2.1, HP5.out.2.2.2.2, hF5⟩
  case rest =>
  obtain ⟨wd7, hwd⟩ : ∃ V : World, V = wc := ⟨_, rfl⟩
  subst hwd
  obtain ⟨r, xa, cap, E2, rfl, rfl, hS, hrc, hrl, hrs, hr, hX7⟩ := hcut
  rw [HAL.out] at hrl
  have HX7 := Lib.hid (HXd.out.trans hX7)
  have HV7 := Lib.hid (IntsV_below HV1.out hX7)
  have hr200 : r.length ≤ 200 := by have := HF.out; omega
  have hall := span_all HS1.out hS hr200
  have HRS := Lib.hid (fun W (x : Ext wd7 W) => HRS.out HE1.out W ((HB1.out.trans HX7.out).trans x))
  have HCK := Lib.hid (fun W (x : Ext wd7 W) => HCK.out HE1.out W ((HB1.out.trans HX7.out).trans x) c _ (by have := HF.out; have := HCLN.out; omega) (IntsV_below HV7.out x))
  have HCR := Lib.hid (fun W (x : Ext wd7 W) => HCR.out HE1.out W ((HB1.out.trans HX7.out).trans x) r xa cap (by have := HF.out; omega) hrs (Row_below hr x))
  obtain ⟨b0q, b1q, b2q, b3q⟩ := HBK.out _ HX7.out
  have HXW := Lib.hid (HB1.out.trans HX7.out)
  clear hS hrc hrl hrs hr hX7 hr200
  rcases hall with ⟨hz1, hz2, hg, he1, he2, hc, hr⟩ | ⟨hg, he1, hck, he2, hr⟩ | ⟨hg, he1, hc, he2, hse⟩
  · rw [hg] at HRS
    subst he1 he2 hc hr
    have q0 : (vE ts t == 0) = false := beq_eq_false_iff_ne.2 (by omega)
    have q4 : (vE ts t == 4) = false := beq_eq_false_iff_ne.2 (by omega)
    generalize vE ts t = VE at HRS q0 q4 ⊢
    clear hg hz1 hz2 HCK HCR HS1
    go_wp2_with (go_at_call 23; refine (HRS.out _ (Ext.refl _)).mono ?_; rintro e w8 ⟨⟨v8, he⟩, hB⟩; subst he; have HX8 := Lib.hid (HXW.out.trans hB); clear hB)
    go_ret
    exact ⟨rfl, HX8.out⟩
  · rw [hg] at HRS
    subst he1 he2 hr
    rw [hck] at HCK
    clear hg hck HCR HS1
    go_wp2_with (first
      | (go_at_call 23; refine (HRS.out _ (Ext.refl _)).mono ?_; rintro e w8 ⟨⟨v8, he⟩, hB⟩; subst he; obtain ⟨b0q, b1q, b2q, b3q⟩ := HBK.out _ (HX7.out.trans hB); have HX8 := Lib.hid hB; clear hB)
      | (go_at_call 24; refine (HCK.out _ HX8.out).mono ?_; rintro e w9 ⟨he, hB⟩; subst he; have HX9 := Lib.hid (HXW.out.trans (HX8.out.trans hB)); clear hB))
    go_ret
    exact ⟨rfl, HX9.out⟩
  · rw [hg] at HRS
    subst he1 he2 hc
    rw [hse] at HCR
    clear hg hse HCK HS1
    go_wp2_with (first
      | (go_at_call 23; refine (HRS.out _ (Ext.refl _)).mono ?_; rintro e w8 ⟨⟨v8, he⟩, hB⟩; subst he; obtain ⟨b0q, b1q, b2q, b3q⟩ := HBK.out _ (HX7.out.trans hB); have HX8 := Lib.hid hB; clear hB)
      | (go_at_call 25; refine (HCR.out _ HX8.out).mono ?_; rintro e w9 ⟨he, hB⟩; subst he; have HX9 := Lib.hid (HXW.out.trans (HX8.out.trans hB)); clear hB))
    go_ret
    exact ⟨rfl, HX9.out⟩
end Go.Proofs.YtfbomoginjknlaaGreatDoor
