/-
  THE LAW XorCheckRefute: its walk.
-/
import Derived.Test.YtfbomoginjknlaaGreatDoorQlw
namespace Go.Proofs.YtfbomoginjknlaaGreatDoor
open Go.RowKit Go.Lib

def Awake8Ok : Prop := ∀ w : World, TabQ w → Calls Tryz.prog 9 #[] w fun e w' => e = .returned (.bool true) ∧ Below w.heap.size w w'
/-- The list with the term behind it: what few is asked. -/
theorem few_pushed (ts : List Tm) (t : Tm) (n : Nat) (hn : n = ts.length + 1) (xa : Option Addr) (cap : Nat) (w : World) (hb : ts.length * 56 ≤ 140737488351232) (hR : Row w (ts ++ [t]) xa) :
    Calls Tryz.prog 10 #[.slice xa n cap] w fun e w' => e = .returned (.bool (few (ts ++ [t]) 20 300)) ∧ Below w.heap.size w w' := by
  have h := few08_any (ts ++ [t]) xa cap w (by rw [List.length_append]; unfold maxLen; simp; omega) hR
  rw [List.length_append] at h
  rw [hn]; exact h
/-- A term appended to a clone. -/
theorem clone_push {H base n gg cap8 cq : Nat} {ts : List Tm} {t : Tm} {W w8 : World} {xq : Option Addr} {cs : List Value} {c0 c1 c2 c3 : Value} (hn : n = ts.length) (hK : KC (fun q => q < base) W ts cs) (hI : IsIn (fun q => q < base) W t c0 c1 c2 c3) (hb : base ≤ H) (hH : H ≤ W.heap.size) (hov : ∀ q, (Value.slice xq n cq).ownBlock = some q → H ≤ q)
    (hown8 : w8.ownsRow H 26 4 (.slice (some ⟨gg, 0, none⟩) (n + 1) cap8) (n + 1) (cs ++ [c0, c1, c2, c3])) (hg : W.grownBy w8 (Value.slice xq n cq).ownBlock) : Row w8 (ts ++ [t]) (some ⟨gg, 0, none⟩) ∧ Below H W w8 := by
  have hk : ∀ b, b < base → w8.heap[b]? = W.heap[b]? := fun b hb' => hg.block b (by omega) (fun e => by have := hov b e.symm; omega)
  have hO : OwnT H (fun q => q < base) w8 (ts ++ [t]) (.slice (some ⟨gg, 0, none⟩) (ts ++ [t]).length cap8) := by
    refine ⟨cs ++ [c0, c1, c2, c3], by rw [List.length_append]; simpa [hn] using hown8, KC_snoc (IsIn_carry hk (fun _ h => h) _ _ _ _ _ hI) _ _ (KC_carry hk (fun _ h => h) _ _ hK)⟩
  exact ⟨(OwnT_rowQ hO).1, (Below.refl _ _).grown hg hH (fun q hq => hov q hq)⟩
set_option maxHeartbeats 6400000 in
set_option maxRecDepth 100000 in
theorem lawCR_any (HA : Hid Awake8Ok) (ts : List Tm) (t : Tm) (r : List Tm) (xl xr : Option Addr) (cl cr : Nat) (c0 c1 c2 c3 : Value) (w : World) (hT : TabQ w) (_hcl : ts.length ≤ cl) (_hcr : r.length ≤ cr) (hb : ts.length * 56 ≤ 140737488351232) (hbr : r.length * 56 ≤ 140737488351232) (hL : Row w ts xl) (hI : Is w t c0 c1 c2 c3) (hR : Row w r xr) :
    Calls Tryz.prog 8 #[.slice xl ts.length cl, .agg #[c0, c1, c2, c3], .slice xr r.length cr] w fun e w' => e = .returned (.bool true) ∧ Below w.heap.size w w' := by
  obtain ⟨k2, n2, s2, ya2, yl2, yc2, rfl, rfl, rfl, rfl⟩ := Is_form hI
  have hB1 : Ext w (w.alloc (.cells #[.int .i64 k2, .string n2, .int .i64 s2, .slice ya2 yl2 yc2] 26)) := (Ext.refl _).alloc _
  have HBK : Hid (∀ W, Ext (w.alloc (.cells #[.int .i64 k2, .string n2, .int .i64 s2, .slice ya2 yl2 yc2] 26)) W → W.cell? ⟨w.heap.size, 0, none⟩ = some (.int .i64 k2) ∧ W.cell? ⟨w.heap.size, 1, none⟩ = some (.string n2) ∧ W.cell? ⟨w.heap.size, 2, none⟩ = some (.int .i64 s2) ∧ W.cell? ⟨w.heap.size, 3, none⟩ = some (.slice ya2 yl2 yc2)) := by
    show ∀ _, _
    intro W x
    have hh := x.block w.heap.size (by simp)
    rw [heap_alloc_new] at hh
    exact (box_facts hh).1
  have HB1 := Lib.hid hB1
  have hsA : (w.alloc (.cells #[.int .i64 k2, .string n2, .int .i64 s2, .slice ya2 yl2 yc2] 26)).heap.size = w.heap.size + 1 := World.size_alloc _ _
  have HT := Lib.hid hT
  have HRI := Lib.hid (Row_RowInQ _ _ hL)
  have HCL := Lib.hid (fun W (x : Ext w W) => cloneT_any w.heap.size ts xl cl W (by omega) x.size (RowIn_carryQ (fun b (hb : b < w.heap.size) => x.block b hb) _ _ (Row_RowInQ _ _ hL)))
  have HCR := Lib.hid (fun W (x : Ext w W) => cloneT_any w.heap.size r xr cr W (by omega) x.size (RowIn_carryQ (fun b (hb : b < w.heap.size) => x.block b hb) _ _ (Row_RowInQ _ _ hR)))
  have HIn := Lib.hid (fun W (x : Ext w W) => IsIn_carry (S' := fun q => q < w.heap.size) (fun q (hq : q < w.heap.size) => x.block q hq) (fun _ h => h) _ _ _ _ _ (Is_IsIn _ _ _ _ _ hI))
  have HF2 := Lib.hid (fun W (x : Ext w W) => few08_any r xr cr W (by unfold maxLen; omega) (Row_below (w' := W) hR x))
  have HFP := Lib.hid (fun n (hn : n = ts.length + 1) xa cap W (h : Row W (ts ++ [t]) xa) => few_pushed ts t n hn xa cap W hb h)
  have HCK := Lib.hid (fun (h1 : few (ts ++ [t]) 20 300 = true) (h2 : few r 20 300 = true) W (x : Ext w W) x5 x6 c5 c6 (_ : ts.length ≤ c5) (h6 : r.length ≤ c6) (r5 : Row W ts x5) (r6 : Row W r x6) => CheckRefute_any ts t r x5 x6 c5 c6 _ _ _ _ W (by have := few_snoc h1; omega) (fun u hu => by have := few_snoc h1; have := size_le_sizes hu; omega) (by have := few_snoc h1; omega) (by have := few_sizesQ h2; omega) h6 (fun u hu => by have := few_sizesQ h2; have := size_le_sizes hu; omega) r5 (Is_below (w' := W) hI x) r6)
  have HRK := Lib.hid (fun (h1 : few (ts ++ [t]) 20 300 = true) (h2 : few r 20 300 = true) W (x : Ext w W) => rCheckRefute8_any ts t r xl xr cl cr _ _ _ _ W (by have := few_snoc h1; omega) (fun u hu => by have := few_snoc h1; have := size_le_sizes hu; omega) (by have := few_snoc h1; omega) (by have := few_sizesQ h2; omega) (fun u hu => by have := few_sizesQ h2; have := size_le_sizes hu; omega) (Row_below (w' := W) hL x) (Is_below (w' := W) hI x) (Row_below (w' := W) hR x))
  obtain ⟨i0, hi0, hz0, hz1, hz2⟩ := info_parts info24
  have HI0 := Lib.hid (And.intro hi0 (And.intro hz0 (And.intro hz1 hz2)))
  obtain ⟨A, hA⟩ : ∃ A, ts.length = A := ⟨_, rfl⟩
  obtain ⟨B, hB⟩ : ∃ B, r.length = B := ⟨_, rfl⟩
  have HAL := Lib.hid hA
  have HBL := Lib.hid hB
  rw [hA] at HFP HCL HCK HRK hb ⊢
  rw [hB] at HCR HF2 HCK HRK hbr ⊢
  clear hL hI hR hT hi0 hz0 hz1 hz2 hA hB
  go_enter Tryz.func8, Tryz.ntmps8
  go_upto_region 1 with (fail)
  obtain ⟨b0q, b1q, b2q, b3q⟩ := HBK.out _ (Ext.refl _)
  generalize hwA : w.alloc (.cells #[.int .i64 k2, .string n2, .int .i64 s2, .slice ya2 yl2 yc2] 26) = wA at HBK HB1 hsA b0q b1q b2q b3q ⊢
  have HNS := Lib.hid hsA
  clear hwA hB1
  have hF0 : Ext wA wA.drew := (Ext.refl wA).drew
  have tok1 : True := trivial
  obtain ⟨R1, h1⟩ : ∃ R1, few (ts ++ [t]) 20 300 = R1 := ⟨_, rfl⟩
  obtain ⟨R2, h2⟩ : ∃ R2, few r 20 300 = R2 := ⟨_, rfl⟩
  have HE1 := Lib.hid h1
  have HE2 := Lib.hid h2
  rw [h1] at HFP
  rw [h2] at HF2
  clear h1 h2
  go_cut [22] (fun t22 wc => t22 = .bool (!(R1 && R2)) ∧ Ext wA wc)
  case first =>
    cases R1
    · clear HCR HF2 HCK HRK HE1 HE2
      refine wp_region_held_drew (S := (fun W => W.cell? ⟨w.heap.size, 0, none⟩ = some (.int .i64 k2) ∧ W.cell? ⟨w.heap.size, 1, none⟩ = some (.string n2) ∧ W.cell? ⟨w.heap.size, 2, none⟩ = some (.int .i64 s2) ∧ W.cell? ⟨w.heap.size, 3, none⟩ = some (.slice ya2 yl2 yc2))) (by kernel_rfl) (HBK.out _ hF0) (fun hHeld => ?_)
      refine wpAnyH_ready (rs := [0]) (by kernel_rfl) (by simp) ?_
      refine AllReadyH.cons rfl (fun K HKK => ?_) AllReadyH.nil
      go_simp
      (go_at_call 9; refine (HA.out _ (HT.out.ext (HB1.out.trans (by first | exact hF0 | exact Ext.refl _)))).mono ?_; rintro e w1 ⟨he, hB⟩; subst he; have hF1 : Ext wA w1 := Ext.trans (by first | exact hF0 | exact Ext.refl _) hB; clear hB)
      try go_wp2_with fail
      refine HKK.out _ _ (HBK.out _ hF1) (fun hHeld => ?_)
      clear HKK K
      try simp only [Act.put, List.getElem_toArray, List.getElem_cons_zero, List.getElem_cons_succ, List.setIfInBounds_toArray, List.set_cons_zero, List.set_cons_succ]
      refine wpAnyH_take (i := 1) (v := ?v1) rfl (by kernel_rfl) (by kernel_rfl) (by kernel_rfl) (fun _ _ _ h => h) (Or.inl ⟨by rfl, ?hy1⟩) (by assumption) ?rest1
      case hy1 => intro w0 hSw; (try dsimp only at hSw); go_simp; try with_reducible rfl
      try simp only [Act.put, List.getElem_toArray, List.getElem_cons_zero, List.getElem_cons_succ, List.setIfInBounds_toArray, List.set_cons_zero, List.set_cons_succ]
      refine wpAnyH_take (i := 2) (v := ?v2) rfl (by kernel_rfl) (by kernel_rfl) (by kernel_rfl) (fun _ _ _ h => h) (Or.inl ⟨by rfl, ?hy2⟩) (by assumption) ?rest2
      case hy2 => intro w0 hSw; (try dsimp only at hSw); go_simp; try with_reducible rfl
      try simp only [Act.put, List.getElem_toArray, List.getElem_cons_zero, List.getElem_cons_succ, List.setIfInBounds_toArray, List.set_cons_zero, List.set_cons_succ]
      refine wpAnyH_take (i := 3) (v := ?v3) rfl (by kernel_rfl) (by kernel_rfl) (by kernel_rfl) (fun _ _ _ h => h) (Or.inl ⟨by rfl, ?hy3⟩) (by assumption) ?rest3
      case hy3 => intro w0 hSw; (try dsimp only at hSw); go_simp; try with_reducible rfl
      try simp only [Act.put, List.getElem_toArray, List.getElem_cons_zero, List.getElem_cons_succ, List.setIfInBounds_toArray, List.set_cons_zero, List.set_cons_succ]
      refine wpAnyH_take (i := 5) (v := ?v5) rfl (by kernel_rfl) (by kernel_rfl) (by kernel_rfl) (fun _ _ _ h => h) (Or.inl ⟨by rfl, ?hy5⟩) (by assumption) ?rest5
      case hy5 => intro w0 hSw; (try dsimp only at hSw); go_simp; try with_reducible rfl
      try simp only [Act.put, List.getElem_toArray, List.getElem_cons_zero, List.getElem_cons_succ, List.setIfInBounds_toArray, List.set_cons_zero, List.set_cons_succ]
      refine wpAnyH_ready (rs := [4, 6]) (by kernel_rfl) (by simp) ?_
      refine AllReadyH.cons rfl (fun K HKK => ?_) (AllReadyH.cons rfl (fun K HKK => ?_) AllReadyH.nil)
      · go_simp
        (go_at_call 12; refine (HCL.out _ (HB1.out.trans (by first | exact hF1 | exact hF1.alloc _))).mono ?_; rintro e w2 ⟨xq, cq, he, hO, hB⟩; subst he; obtain ⟨cs, ho, hK⟩ := hO; rw [HAL.out] at ho ⊢; have HO2 := Lib.hid (own_base (base' := w1.heap.size) ho (by first | exact Nat.le_refl _ | (rw [World.size_alloc]; omega))); have HK2 := Lib.hid hK; have hF2 : Ext wA w2 := Ext.trans (by first | exact hF1 | exact hF1.alloc _) hB; have HZ2 : Hid (w1.heap.size ≤ w2.heap.size) := Lib.hid (by have := hB.size; first | exact this | (rw [World.size_alloc] at this; omega)); (first | (have HNB := Lib.hid ((hB.block w1.heap.size (by simp)).trans (heap_alloc_new w1 (.cells #[.int .i64 k2, .string n2, .int .i64 s2, .slice ya2 yl2 yc2] 26)))) | skip); clear hB ho hK)
        try go_wp2_with fail
        refine HKK.out _ _ (HBK.out _ hF2) (fun hHeld => ?_)
        clear HKK K
        try simp only [Act.put, List.getElem_toArray, List.getElem_cons_zero, List.getElem_cons_succ, List.setIfInBounds_toArray, List.set_cons_zero, List.set_cons_succ]
        refine wpAnyH_ready (rs := [6]) (by kernel_rfl) (by simp) ?_
        refine AllReadyH.cons rfl (fun K HKK => ?_) AllReadyH.nil
        go_simp
        refine HKK.out _ _ (HBK.out _ (hF2.alloc _)) (fun hHeld => ?_)
        clear HKK K
        try simp only [Act.put, List.getElem_toArray, List.getElem_cons_zero, List.getElem_cons_succ, List.setIfInBounds_toArray, List.set_cons_zero, List.set_cons_succ]
        refine wpAnyH_ready (rs := [7]) (by kernel_rfl) (by simp) ?_
        refine AllReadyH.cons rfl (fun K HKK => ?_) AllReadyH.nil
        (refine step_append_want (by first | rfl | decide | simp [Region.wanted, yielded, go_sem]) _ _ _ (by rfl) w1.heap.size 26 i0 _ 4 56 Tryz.underlying22 HI0.out.1 HI0.out.2.1 HI0.out.2.2.1 HI0.out.2.2.2 rfl (by omega) (.slice xq A cq) A cs (by rfl) (HO2.out.alloc _) ⟨w2.heap.size, 0, none⟩ 1 1 [.int .i64 k2, .string n2, .int .i64 s2, .slice ya2 yl2 yc2] (by rfl) (by rfl) (World.news_of_block (cs := #[.int .i64 k2, .string n2, .int .i64 s2, .slice ya2 yl2 yc2]) (t := 26) (fr := (0, 0)) (heap_alloc_new w2 _)) (by simp [Value.oneCell']) (by omega) (by unfold maxLen; omega) (by omega) (by rw [World.size_alloc]; have := HZ2.out; omega) (w2.heap.size + 1) (by simp) ?_; intro gg cap8 w8 hown8 hgrow hat hltt; have hp := clone_push (base := w.heap.size) (n := A) HAL.out.symm (KC_carry (fun b (hb : b < w.heap.size) => ((Ext.refl w2).alloc (.cells #[.int .i64 k2, .string n2, .int .i64 s2, .slice ya2 yl2 yc2] 26)).block b (by have := HNS.out; have := hF2.size; omega)) (fun _ h => h) _ _ HK2.out) (HIn.out _ (HB1.out.trans (hF2.alloc (.cells #[.int .i64 k2, .string n2, .int .i64 s2, .slice ya2 yl2 yc2] 26)))) (by have := HNS.out; have := hF1.size; omega) (by rw [World.size_alloc]; have := HZ2.out; omega) (fun q hq => (HO2.out.lt q hq).1) hown8 hgrow; have HR8 := Lib.hid hp.1; have hF8 : Ext wA w8 := Below.trans ((hF2.alloc (.cells #[.int .i64 k2, .string n2, .int .i64 s2, .slice ya2 yl2 yc2] 26))) (hp.2.mono hF1.size); clear hown8 hgrow hat hltt hp)
        refine HKK.out _ _ (HBK.out _ hF8) (fun hHeld => ?_)
        clear HKK K
        try simp only [Act.put, List.getElem_toArray, List.getElem_cons_zero, List.getElem_cons_succ, List.setIfInBounds_toArray, List.set_cons_zero, List.set_cons_succ]
        refine wpAnyH_ready (rs := [8]) (by kernel_rfl) (by simp) ?_
        refine AllReadyH.cons rfl (fun K HKK => ?_) AllReadyH.nil
        go_simp
        (go_at_call 10; have _t := tok1; refine (HFP.out _ rfl _ _ _ HR8.out).mono ?_; rintro e w9 ⟨he, hB⟩; subst he; have hF9 : Ext wA w9 := hF8.trans hB; clear hB tok1)
        try go_wp2_with fail
        refine HKK.out _ _ (HBK.out _ hF9) (fun hHeld => ?_)
        clear HKK K
        try simp only [Act.put, List.getElem_toArray, List.getElem_cons_zero, List.getElem_cons_succ, List.setIfInBounds_toArray, List.set_cons_zero, List.set_cons_succ]
        refine wpAnyH_take (i := 9) (v := ?v9) rfl (by kernel_rfl) (by kernel_rfl) (by kernel_rfl) (fun _ _ _ h => h) (Or.inl ⟨by rfl, ?hy9⟩) (by assumption) ?rest9
        case hy9 => intro w0 hSw; (try dsimp only at hSw); go_simp; try with_reducible rfl
        try simp only [Act.put, List.getElem_toArray, List.getElem_cons_zero, List.getElem_cons_succ, List.setIfInBounds_toArray, List.set_cons_zero, List.set_cons_succ]
        refine wpAnyH_take (i := 10) (v := ?v10) rfl (by kernel_rfl) (by kernel_rfl) (by kernel_rfl) (fun _ _ _ h => h) (Or.inl ⟨by rfl, ?hy10⟩) (by assumption) ?rest10
        case hy10 => intro w0 hSw; (try dsimp only at hSw); go_simp; try with_reducible rfl
        try simp only [Act.put, List.getElem_toArray, List.getElem_cons_zero, List.getElem_cons_succ, List.setIfInBounds_toArray, List.set_cons_zero, List.set_cons_succ]
        refine wpAnyH_take (i := 11) (v := ?v11) rfl (by kernel_rfl) (by kernel_rfl) (by kernel_rfl) (fun _ _ _ h => h) (Or.inl ⟨by rfl, ?hy11⟩) (by assumption) ?rest11
        case hy11 => intro w0 hSw; (try dsimp only at hSw); go_simp; try with_reducible rfl
        try simp only [Act.put, List.getElem_toArray, List.getElem_cons_zero, List.getElem_cons_succ, List.setIfInBounds_toArray, List.set_cons_zero, List.set_cons_succ]
        refine wpAnyH_take (i := 12) (v := undef) rfl (by kernel_rfl) (by kernel_rfl) (by kernel_rfl) (fun _ _ _ h => h) (Or.inr ⟨by rfl, rfl⟩) (by assumption) ?_
        try simp only [Act.put, List.getElem_toArray, List.getElem_cons_zero, List.getElem_cons_succ, List.setIfInBounds_toArray, List.set_cons_zero, List.set_cons_succ]
        refine wpAnyH_take (i := 13) (v := undef) rfl (by kernel_rfl) (by kernel_rfl) (by kernel_rfl) (fun _ _ _ h => h) (Or.inr ⟨by rfl, rfl⟩) (by assumption) ?_
        try simp only [Act.put, List.getElem_toArray, List.getElem_cons_zero, List.getElem_cons_succ, List.setIfInBounds_toArray, List.set_cons_zero, List.set_cons_succ]
        refine wpAnyH_take (i := 14) (v := undef) rfl (by kernel_rfl) (by kernel_rfl) (by kernel_rfl) (fun _ _ _ h => h) (Or.inr ⟨by rfl, rfl⟩) (by assumption) ?_
        try simp only [Act.put, List.getElem_toArray, List.getElem_cons_zero, List.getElem_cons_succ, List.setIfInBounds_toArray, List.set_cons_zero, List.set_cons_succ]
        refine wpAnyH_take (i := 15) (v := ?v15) rfl (by kernel_rfl) (by kernel_rfl) (by kernel_rfl) (fun _ _ _ h => h) (Or.inl ⟨by rfl, ?hy15⟩) (by assumption) ?rest15
        case hy15 => intro w0 hSw; (try dsimp only at hSw); go_simp; try with_reducible rfl
        try simp only [Act.put, List.getElem_toArray, List.getElem_cons_zero, List.getElem_cons_succ, List.setIfInBounds_toArray, List.set_cons_zero, List.set_cons_succ]
        refine wpAnyH_done (by kernel_rfl) ?_ _
        go_wp2_with fail
        go_meet
        exact ⟨rfl, hF9⟩
      · go_simp
        refine HKK.out _ _ (HBK.out _ (hF1.alloc _)) (fun hHeld => ?_)
        clear HKK K
        try simp only [Act.put, List.getElem_toArray, List.getElem_cons_zero, List.getElem_cons_succ, List.setIfInBounds_toArray, List.set_cons_zero, List.set_cons_succ]
        refine wpAnyH_ready (rs := [4]) (by kernel_rfl) (by simp) ?_
        refine AllReadyH.cons rfl (fun K HKK => ?_) AllReadyH.nil
        go_simp
        (go_at_call 12; refine (HCL.out _ (HB1.out.trans (by first | exact hF1 | exact hF1.alloc _))).mono ?_; rintro e w2 ⟨xq, cq, he, hO, hB⟩; subst he; obtain ⟨cs, ho, hK⟩ := hO; rw [HAL.out] at ho ⊢; have HO2 := Lib.hid (own_base (base' := w1.heap.size) ho (by first | exact Nat.le_refl _ | (rw [World.size_alloc]; omega))); have HK2 := Lib.hid hK; have hF2 : Ext wA w2 := Ext.trans (by first | exact hF1 | exact hF1.alloc _) hB; have HZ2 : Hid (w1.heap.size ≤ w2.heap.size) := Lib.hid (by have := hB.size; first | exact this | (rw [World.size_alloc] at this; omega)); (first | (have HNB := Lib.hid ((hB.block w1.heap.size (by simp)).trans (heap_alloc_new w1 (.cells #[.int .i64 k2, .string n2, .int .i64 s2, .slice ya2 yl2 yc2] 26)))) | skip); clear hB ho hK)
        try go_wp2_with fail
        refine HKK.out _ _ (HBK.out _ hF2) (fun hHeld => ?_)
        clear HKK K
        try simp only [Act.put, List.getElem_toArray, List.getElem_cons_zero, List.getElem_cons_succ, List.setIfInBounds_toArray, List.set_cons_zero, List.set_cons_succ]
        refine wpAnyH_ready (rs := [7]) (by kernel_rfl) (by simp) ?_
        refine AllReadyH.cons rfl (fun K HKK => ?_) AllReadyH.nil
        (refine step_append_want (by first | rfl | decide | simp [Region.wanted, yielded, go_sem]) _ _ _ (by rfl) w1.heap.size 26 i0 _ 4 56 Tryz.underlying22 HI0.out.1 HI0.out.2.1 HI0.out.2.2.1 HI0.out.2.2.2 rfl (by omega) (.slice xq A cq) A cs (by rfl) HO2.out ⟨w1.heap.size, 0, none⟩ 1 1 [.int .i64 k2, .string n2, .int .i64 s2, .slice ya2 yl2 yc2] (by rfl) (by rfl) (World.news_of_block (cs := #[.int .i64 k2, .string n2, .int .i64 s2, .slice ya2 yl2 yc2]) (t := 26) (fr := (0, 0)) HNB.out) (by simp [Value.oneCell']) (by omega) (by unfold maxLen; omega) (by omega) HZ2.out w2.heap.size rfl ?_; intro gg cap8 w8 hown8 hgrow hat hltt; have hp := clone_push (base := w.heap.size) (n := A) HAL.out.symm HK2.out (HIn.out _ (HB1.out.trans hF2)) (by have := HNS.out; have := hF1.size; omega) (HZ2.out) (fun q hq => (HO2.out.lt q hq).1) hown8 hgrow; have HR8 := Lib.hid hp.1; have hF8 : Ext wA w8 := Below.trans (hF2) (hp.2.mono hF1.size); clear hown8 hgrow hat hltt hp)
        refine HKK.out _ _ (HBK.out _ hF8) (fun hHeld => ?_)
        clear HKK K
        try simp only [Act.put, List.getElem_toArray, List.getElem_cons_zero, List.getElem_cons_succ, List.setIfInBounds_toArray, List.set_cons_zero, List.set_cons_succ]
        refine wpAnyH_ready (rs := [8]) (by kernel_rfl) (by simp) ?_
        refine AllReadyH.cons rfl (fun K HKK => ?_) AllReadyH.nil
        go_simp
        (go_at_call 10; have _t := tok1; refine (HFP.out _ rfl _ _ _ HR8.out).mono ?_; rintro e w9 ⟨he, hB⟩; subst he; have hF9 : Ext wA w9 := hF8.trans hB; clear hB tok1)
        try go_wp2_with fail
        refine HKK.out _ _ (HBK.out _ hF9) (fun hHeld => ?_)
        clear HKK K
        try simp only [Act.put, List.getElem_toArray, List.getElem_cons_zero, List.getElem_cons_succ, List.setIfInBounds_toArray, List.set_cons_zero, List.set_cons_succ]
        refine wpAnyH_take (i := 9) (v := ?vb9) rfl (by kernel_rfl) (by kernel_rfl) (by kernel_rfl) (fun _ _ _ h => h) (Or.inl ⟨by rfl, ?hb9⟩) (by assumption) ?rb9
        case hb9 => intro w0 hSw; (try dsimp only at hSw); go_simp; try with_reducible rfl
        try simp only [Act.put, List.getElem_toArray, List.getElem_cons_zero, List.getElem_cons_succ, List.setIfInBounds_toArray, List.set_cons_zero, List.set_cons_succ]
        refine wpAnyH_take (i := 10) (v := ?vb10) rfl (by kernel_rfl) (by kernel_rfl) (by kernel_rfl) (fun _ _ _ h => h) (Or.inl ⟨by rfl, ?hb10⟩) (by assumption) ?rb10
        case hb10 => intro w0 hSw; (try dsimp only at hSw); go_simp; try with_reducible rfl
        try simp only [Act.put, List.getElem_toArray, List.getElem_cons_zero, List.getElem_cons_succ, List.setIfInBounds_toArray, List.set_cons_zero, List.set_cons_succ]
        refine wpAnyH_take (i := 11) (v := ?vb11) rfl (by kernel_rfl) (by kernel_rfl) (by kernel_rfl) (fun _ _ _ h => h) (Or.inl ⟨by rfl, ?hb11⟩) (by assumption) ?rb11
        case hb11 => intro w0 hSw; (try dsimp only at hSw); go_simp; try with_reducible rfl
        try simp only [Act.put, List.getElem_toArray, List.getElem_cons_zero, List.getElem_cons_succ, List.setIfInBounds_toArray, List.set_cons_zero, List.set_cons_succ]
        refine wpAnyH_take (i := 12) (v := undef) rfl (by kernel_rfl) (by kernel_rfl) (by kernel_rfl) (fun _ _ _ h => h) (Or.inr ⟨by rfl, rfl⟩) (by assumption) ?_
        try simp only [Act.put, List.getElem_toArray, List.getElem_cons_zero, List.getElem_cons_succ, List.setIfInBounds_toArray, List.set_cons_zero, List.set_cons_succ]
        refine wpAnyH_take (i := 13) (v := undef) rfl (by kernel_rfl) (by kernel_rfl) (by kernel_rfl) (fun _ _ _ h => h) (Or.inr ⟨by rfl, rfl⟩) (by assumption) ?_
        try simp only [Act.put, List.getElem_toArray, List.getElem_cons_zero, List.getElem_cons_succ, List.setIfInBounds_toArray, List.set_cons_zero, List.set_cons_succ]
        refine wpAnyH_take (i := 14) (v := undef) rfl (by kernel_rfl) (by kernel_rfl) (by kernel_rfl) (fun _ _ _ h => h) (Or.inr ⟨by rfl, rfl⟩) (by assumption) ?_
        try simp only [Act.put, List.getElem_toArray, List.getElem_cons_zero, List.getElem_cons_succ, List.setIfInBounds_toArray, List.set_cons_zero, List.set_cons_succ]
        refine wpAnyH_take (i := 15) (v := ?vb15) rfl (by kernel_rfl) (by kernel_rfl) (by kernel_rfl) (fun _ _ _ h => h) (Or.inl ⟨by rfl, ?hb15⟩) (by assumption) ?rb15
        case hb15 => intro w0 hSw; (try dsimp only at hSw); go_simp; try with_reducible rfl
        try simp only [Act.put, List.getElem_toArray, List.getElem_cons_zero, List.getElem_cons_succ, List.setIfInBounds_toArray, List.set_cons_zero, List.set_cons_succ]
        refine wpAnyH_done (by kernel_rfl) ?_ _
        go_wp2_with fail
        go_meet
        exact ⟨rfl, hF9⟩
    · go_region_held3 (fun W => W.cell? ⟨w.heap.size, 0, none⟩ = some (.int .i64 k2) ∧ W.cell? ⟨w.heap.size, 1, none⟩ = some (.string n2) ∧ W.cell? ⟨w.heap.size, 2, none⟩ = some (.int .i64 s2) ∧ W.cell? ⟨w.heap.size, 3, none⟩ = some (.slice ya2 yl2 yc2))
        (first | exact HBK.out _ (by assumption) | exact HBK.out _ (Ext.alloc (by assumption) _) | go_keep)
        (first
          | (go_at_call 9; refine (HA.out _ (HT.out.ext (HB1.out.trans (by first | exact hF0 | exact Ext.refl _)))).mono ?_; rintro e w1 ⟨he, hB⟩; subst he; have hF1 : Ext wA w1 := Ext.trans (by first | exact hF0 | exact Ext.refl _) hB; clear hB)
          | (go_at_call 12; refine (HCL.out _ (HB1.out.trans (by first | exact hF1 | exact hF1.alloc _))).mono ?_; rintro e w2 ⟨xq, cq, he, hO, hB⟩; subst he; obtain ⟨cs, ho, hK⟩ := hO; rw [HAL.out] at ho ⊢; have HO2 := Lib.hid (own_base (base' := w1.heap.size) ho (by first | exact Nat.le_refl _ | (rw [World.size_alloc]; omega))); have HK2 := Lib.hid hK; have hF2 : Ext wA w2 := Ext.trans (by first | exact hF1 | exact hF1.alloc _) hB; have HZ2 : Hid (w1.heap.size ≤ w2.heap.size) := Lib.hid (by have := hB.size; first | exact this | (rw [World.size_alloc] at this; omega)); (first | (have HNB := Lib.hid ((hB.block w1.heap.size (by simp)).trans (heap_alloc_new w1 (.cells #[.int .i64 k2, .string n2, .int .i64 s2, .slice ya2 yl2 yc2] 26)))) | skip); clear hB ho hK)
          | (refine step_append_want (by first | rfl | decide | simp [Region.wanted, yielded, go_sem]) _ _ _ (by rfl) w1.heap.size 26 i0 _ 4 56 Tryz.underlying22 HI0.out.1 HI0.out.2.1 HI0.out.2.2.1 HI0.out.2.2.2 rfl (by omega) (.slice xq A cq) A cs (by rfl) (HO2.out.alloc _) ⟨w2.heap.size, 0, none⟩ 1 1 [.int .i64 k2, .string n2, .int .i64 s2, .slice ya2 yl2 yc2] (by rfl) (by rfl) (World.news_of_block (cs := #[.int .i64 k2, .string n2, .int .i64 s2, .slice ya2 yl2 yc2]) (t := 26) (fr := (0, 0)) (heap_alloc_new w2 _)) (by simp [Value.oneCell']) (by omega) (by unfold maxLen; omega) (by omega) (by rw [World.size_alloc]; have := HZ2.out; omega) (w2.heap.size + 1) (by simp) ?_; intro gg cap8 w8 hown8 hgrow hat hltt; have hp := clone_push (base := w.heap.size) (n := A) HAL.out.symm (KC_carry (fun b (hb : b < w.heap.size) => ((Ext.refl w2).alloc (.cells #[.int .i64 k2, .string n2, .int .i64 s2, .slice ya2 yl2 yc2] 26)).block b (by have := HNS.out; have := hF2.size; omega)) (fun _ h => h) _ _ HK2.out) (HIn.out _ (HB1.out.trans (hF2.alloc (.cells #[.int .i64 k2, .string n2, .int .i64 s2, .slice ya2 yl2 yc2] 26)))) (by have := HNS.out; have := hF1.size; omega) (by rw [World.size_alloc]; have := HZ2.out; omega) (fun q hq => (HO2.out.lt q hq).1) hown8 hgrow; have HR8 := Lib.hid hp.1; have hF8 : Ext wA w8 := Below.trans ((hF2.alloc (.cells #[.int .i64 k2, .string n2, .int .i64 s2, .slice ya2 yl2 yc2] 26))) (hp.2.mono hF1.size); clear hown8 hgrow hat hltt hp)
          | (refine step_append_want (by first | rfl | decide | simp [Region.wanted, yielded, go_sem]) _ _ _ (by rfl) w1.heap.size 26 i0 _ 4 56 Tryz.underlying22 HI0.out.1 HI0.out.2.1 HI0.out.2.2.1 HI0.out.2.2.2 rfl (by omega) (.slice xq A cq) A cs (by rfl) HO2.out ⟨w1.heap.size, 0, none⟩ 1 1 [.int .i64 k2, .string n2, .int .i64 s2, .slice ya2 yl2 yc2] (by rfl) (by rfl) (World.news_of_block (cs := #[.int .i64 k2, .string n2, .int .i64 s2, .slice ya2 yl2 yc2]) (t := 26) (fr := (0, 0)) HNB.out) (by simp [Value.oneCell']) (by omega) (by unfold maxLen; omega) (by omega) HZ2.out w2.heap.size rfl ?_; intro gg cap8 w8 hown8 hgrow hat hltt; have hp := clone_push (base := w.heap.size) (n := A) HAL.out.symm HK2.out (HIn.out _ (HB1.out.trans hF2)) (by have := HNS.out; have := hF1.size; omega) (HZ2.out) (fun q hq => (HO2.out.lt q hq).1) hown8 hgrow; have HR8 := Lib.hid hp.1; have hF8 : Ext wA w8 := Below.trans (hF2) (hp.2.mono hF1.size); clear hown8 hgrow hat hltt hp)
          | (go_at_call 10; have _t := tok1; refine (HFP.out _ rfl _ _ _ HR8.out).mono ?_; rintro e w9 ⟨he, hB⟩; subst he; have hF9 : Ext wA w9 := hF8.trans hB; clear hB tok1)
          | (go_at_call 10; refine (HF2.out _ (HB1.out.trans hF9)).mono ?_; rintro e w10 ⟨he, hB⟩; subst he; have hF10 : Ext wA w10 := hF9.trans hB; clear hB))
      all_goals (go_wp2_with fail)
      all_goals go_meet
      all_goals exact ⟨by cases R2 <;> rfl, hF10⟩
  case rest =>
  obtain ⟨rfl, hX⟩ := hcut
  have HX := Lib.hid hX
  clear hF0 tok1 hX
  by_cases hRR : (R1 && R2) = true
  rotate_left
  · have hf : (R1 && R2) = false := by simpa using hRR
    rw [hf]
    clear hf hRR HCR HF2 HCK HRK HE1 HE2 HCL HFP HIn HRI
    go_wp2_with (go_at_call 9; refine (HA.out _ (HT.out.ext (HB1.out.trans HX.out))).mono ?_; rintro e w3 ⟨he, hB⟩; subst he; have HX3 := Lib.hid ((HB1.out.trans HX.out).trans hB); clear hB)
    go_ret
    exact ⟨rfl, HX3.out⟩
  rw [hRR]
  rw [Bool.and_eq_true] at hRR
  obtain ⟨rfl, rfl⟩ := hRR
  have HCK := Lib.hid (HCK.out HE1.out HE2.out)
  have HRK := Lib.hid (HRK.out HE1.out HE2.out)
  clear HFP HF2
  generalize sepB ts t r = Q at HCK HRK
  have tok2 : True := trivial
  obtain ⟨b0q, b1q, b2q, b3q⟩ := HBK.out _ HX.out
  have hF0 : Ext wc wc.drew := (Ext.refl wc).drew
  go_upto_region 3 with (fail)
  go_region_held3 (fun W => W.cell? ⟨w.heap.size, 0, none⟩ = some (.int .i64 k2) ∧ W.cell? ⟨w.heap.size, 1, none⟩ = some (.string n2) ∧ W.cell? ⟨w.heap.size, 2, none⟩ = some (.int .i64 s2) ∧ W.cell? ⟨w.heap.size, 3, none⟩ = some (.slice ya2 yl2 yc2))
    (first | exact HBK.out _ (HX.out.trans (by assumption)) | go_keep)
    (first
      | (go_at_call 12; have _t := tok2; refine (HCL.out _ ((HB1.out.trans HX.out).trans hF0)).mono ?_; rintro e w3 ⟨x3, c3, he, hO, hB⟩; subst he; have hr := OwnT_rowQ hO; rw [HAL.out] at hr ⊢; have hF3 : Ext wc w3 := hF0.trans hB; have HR3 := Lib.hid hr; clear hO hB hr tok2)
      | (go_at_call 12; refine (HCR.out _ ((HB1.out.trans HX.out).trans hF3)).mono ?_; rintro e w4 ⟨x4, c4, he, hO, hB⟩; subst he; have hr := OwnT_rowQ hO; rw [HBL.out] at hr ⊢; have hF4 : Ext wc w4 := hF3.trans hB; have HR4 := Lib.hid (And.intro hr (Row_below HR3.out.1 hB)); clear hO hB hr)
      | (go_at_call 27; refine (HCK.out _ ((HB1.out.trans HX.out).trans hF4) _ _ _ _ HR3.out.2 HR4.out.1.2 HR4.out.2 HR4.out.1.1).mono ?_; rintro e w5 ⟨he, hB⟩; subst he; have hF5 : Ext wc w5 := hF4.trans hB; clear hB)
      | (go_at_call 25; refine (HRK.out _ ((HB1.out.trans HX.out).trans hF5)).mono ?_; rintro e w6 ⟨he, hB⟩; subst he; have hF6 : Ext wc w6 := hF5.trans hB; clear hB))
  all_goals (go_wp2_with fail)
  all_goals go_ret
  all_goals exact ⟨by simp, (HB1.out.trans HX.out).trans hF6⟩
end Go.Proofs.YtfbomoginjknlaaGreatDoor
