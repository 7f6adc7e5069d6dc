/-
  THE LAW XorRank: its walk.
-/
import Derived.Test.YtfbomoginjknlaaGreatDoorQrdm
import Derived.Test.YtfbomoginjknlaaGreatDoorQlw
import Derived.Test.YtfbomoginjknlaaGreatDoorQlz
import Derived.Test.YtfbomoginjknlaaGreatDoorQawk
namespace Go.Proofs.YtfbomoginjknlaaGreatDoor
open Go.RowKit Go.Lib

theorem firstE_zero : ∀ {l : List Tm}, (∀ t ∈ l, validE t = 0) → firstE l = 0
  | [], _ => rfl
  | t :: l, h => by rw [firstE, if_pos (h t (List.mem_cons_self ..))]; exact firstE_zero fun u hu => h u (List.mem_cons_of_mem _ hu)
theorem basP_ok {ts : List Tm} (h : listE ts = 0) : basP ts = ((rowsT ts ts.length).2.map fun (i : Nat) => (i : Int), 0) := by unfold basP; rw [if_pos h]
theorem basP_err {ts : List Tm} (h : ¬ listE ts = 0) : basP ts = ([], listE ts) := by unfold basP; rw [if_neg h]
theorem basP_mem {ts : List Tm} {x : Int} (h : x ∈ (basP ts).1) : ∃ p : Nat, x = (p : Int) ∧ p < ts.length := by
  by_cases h0 : listE ts = 0
  · rw [basP_ok h0] at h
    obtain ⟨i, hi, rfl⟩ := List.mem_map.1 h
    exact ⟨i, rfl, rowsT_mem ts _ i hi⟩
  · rw [basP_err h0] at h
    exact absurd h (by simp)
/-- The elements of the basis have all rows in their span. -/
theorem basis_span {C ts : List Tm} {B : List Nat} (hB : ∀ i, i < ts.length → i ∈ B ∨ InSp (rowV C ts) i (rowV C ts i)) (hlt : ∀ i ∈ B, i < ts.length) :
    ∀ m, m ≤ ts.length → ∀ k, k < m → InSp (rowV C (pickT ts (B.map fun (i : Nat) => (i : Int)))) (pickT ts (B.map fun (i : Nat) => (i : Int))).length (rowV C ts k)
  | 0, _, k, hk => absurd hk (by omega)
  | m + 1, hm, k, hk => by
    have ih := basis_span hB hlt m (by omega)
    rcases Nat.lt_or_ge k m with h | h
    · exact ih k h
    · have e : k = m := by omega
      subst e
      rcases hB k (by omega) with h | ⟨A, hA⟩
      · obtain ⟨j, hj, hjk⟩ := List.mem_iff_getElem.1 h
        have hl : (pickT ts (B.map fun (i : Nat) => (i : Int))).length = B.length := by unfold pickT; rw [List.length_map, List.length_map]
        have hv : rowV C (pickT ts (B.map fun (i : Nat) => (i : Int))) j = rowV C ts k := by
          unfold rowV
          congr 2
          rw [List.getD_eq_getElem?_getD, List.getElem?_eq_getElem (by rw [hl]; exact hj)]
          unfold pickT
          simp [hjk]
        rw [← hv]
        exact (InSp.row _ j).mono (by rw [hl]; omega)
      · rw [← hA]
        have : ∀ q, q ≤ k → InSp (rowV C (pickT ts (B.map fun (i : Nat) => (i : Int)))) (pickT ts (B.map fun (i : Nat) => (i : Int))).length (bsum (rowV C ts) A q) := by
          intro q
          induction q with
          | zero => intro _; exact InSp.zero _ _
          | succ q ihq =>
            intro hq
            rw [bsum]
            refine (ihq (by omega)).bx ?_
            cases A q
            · rw [bm_false]; exact InSp.zero _ _
            · rw [bm_true]; exact ih q (by omega)
        exact this k (Nat.le_refl _)
theorem basis_err {ts : List Tm} (hn : ts.length ≤ 20) (h0 : listE ts = 0) {i : Nat} (hi : i < ts.length) {c : List Int} {E : Int} (h : SpanR (pickT ts (basP ts).1) ts[i] c E) : E = 0 := by
  have hval : ∀ t ∈ ts, validE t = 0 := by
    unfold listE at h0
    rw [if_neg (by omega)] at h0
    exact firstE_all h0
  have hlen := basP_len ts
  obtain ⟨C, hC⟩ := cols_ex ts
  have hC1 : ∀ x ∈ ts, ∀ u ∈ summT x, u ∈ C := fun x hx u hu => (hC.mem u).2 ⟨x, hx, hu⟩
  obtain ⟨_, _, _, h4, _⟩ := rowsT_ech hC1 ts.length (Nat.le_refl _)
  have hmem : ∀ t ∈ pickT ts (basP ts).1, t ∈ ts := fun t ht => by
    unfold pickT at ht
    obtain ⟨x, hx, rfl⟩ := List.mem_map.1 ht
    obtain ⟨p, rfl, hp⟩ := basP_mem hx
    rw [Int.toNat_natCast, List.getD_eq_getElem?_getD, List.getElem?_eq_getElem hp]
    exact List.getElem_mem hp
  have hv : vE (pickT ts (basP ts).1) ts[i] = 0 := by
    unfold vE
    rw [if_neg (by unfold pickT; rw [List.length_map]; omega), firstE_zero (fun t ht => hval t (hmem t ht)), if_pos rfl]
    exact hval _ (List.getElem_mem hi)
  have hsp := basis_span (C := C) (ts := ts) (B := (rowsT ts ts.length).2) (fun k hk => by
    rcases Classical.em (InSp (rowV C ts) k (rowV C ts k)) with h | h
    · exact Or.inr h
    · exact Or.inl ((h4 k).2 ⟨hk, h⟩)) (fun k hk => ((h4 k).1 hk).1) ts.length (Nat.le_refl _) i hi
  have e1 : (basP ts).1 = (rowsT ts ts.length).2.map fun (i : Nat) => (i : Int) := by rw [basP_ok h0]
  rw [← e1] at hsp
  have e2 : rowV C ts i = chiP C (addT ts[i]) := rowV_at hi
  rw [e2] at hsp
  obtain ⟨c', hc'⟩ := (chk_some (C := C) (fun x hx u hu => hC1 x (hmem x hx) u hu) (fun u hu => hC1 _ (List.getElem_mem hi) u hu) hv).1 hsp
  rcases h with ⟨h, _⟩ | ⟨_, h, _⟩ | ⟨_, _, _, h⟩
  · exact absurd hv h
  · exact h
  · rw [h c'] at hc'; cases hc'
set_option maxHeartbeats 6400000 in
set_option maxRecDepth 100000 in
theorem lawRk_any (HA : Hid Awake8Ok) (ts : List Tm) (xl : Option Addr) (cl : Nat) (w : World) (hT : TabQ w) (_hcl : ts.length ≤ cl) (hb : ts.length * 56 ≤ 140737488351232) (hL : Row w ts xl) :
    Calls Tryz.prog 4 #[.slice xl ts.length cl] w fun e w' => e = .returned (.bool true) ∧ Below w.heap.size w w' := by
  have HT := Lib.hid hT
  have HFW := Lib.hid (fun W (x : Ext w W) => few08_any ts xl cl W (by unfold maxLen; omega) (Row_below (w' := W) hL x))
  have HCL := Lib.hid (fun W (x : Ext w W) => cloneT_any w.heap.size ts xl cl W (by omega) x.size (RowIn_carryQ (fun b (hb : b < w.heap.size) => x.block b hb) _ _ (Row_RowInQ _ _ hL)))
  have HRK := Lib.hid (fun (h1 : few ts 20 300 = true) W (x : Ext w W) x5 c5 (h5 : ts.length ≤ c5) (r5 : Row W ts x5) => Rank8_any ts x5 c5 W (by have := few_sizesQ h1; omega) (by have := few_sizesQ h1; omega) h5 (hT.ext x) r5)
  have HBS := Lib.hid (fun (h1 : few ts 20 300 = true) W (x : Ext w W) x5 c5 (h5 : ts.length ≤ c5) (r5 : Row W ts x5) => Basis8_any ts x5 c5 W (by have := few_sizesQ h1; omega) (by have := few_sizesQ h1; omega) h5 (hT.ext x) r5)
  have HRB := Lib.hid (fun (h1 : few ts 20 300 = true) W (x : Ext w W) => rBasis8_any ts xl cl W (by have := few_sizesQ h1; omega) (by have := few_sizesQ h1; omega) (Row_below (w' := W) hL x))
  have HLR := Lib.hid (Row_RowInQ _ _ hL)
  obtain ⟨R1, h1⟩ : ∃ R1, few ts 20 300 = R1 := ⟨_, rfl⟩
  have HE1 := Lib.hid h1
  rw [h1] at HFW
  clear hL hT h1
  have tok1 : True := trivial
  cases R1
  · clear HCL HRK HBS HRB HE1
    go_enter Tryz.func4, Tryz.ntmps4
    go_wp2_with (first
      | (go_at_call 9; have _t := tok1; refine (HA.out _ HT.out).mono ?_; rintro e w1 ⟨he, hB⟩; subst he; have HX1 : Hid (Ext w w1) := Lib.hid hB; clear hB tok1)
      | (go_at_call 10; refine (HFW.out _ HX1.out).mono ?_; rintro e w2 ⟨he, hB⟩; subst he; have HX2 : Hid (Ext w w2) := Lib.hid (Ext.trans HX1.out hB); clear hB)
      | (go_at_call 9; refine (HA.out _ (HT.out.ext HX2.out)).mono ?_; rintro e w3 ⟨he, hB⟩; subst he; have HX3 : Hid (Ext w w3) := Lib.hid (Ext.trans HX2.out hB); clear hB))
    go_ret
    exact ⟨rfl, HX3.out⟩
  have HF := Lib.hid (few_sizesQ HE1.out)
  have HRK := Lib.hid (HRK.out HE1.out)
  have HBS := Lib.hid (HBS.out HE1.out)
  have HRB := Lib.hid (HRB.out HE1.out)
  have HBM : Hid (∀ x ∈ (basP ts).1, ∃ p : Nat, x = (p : Int) ∧ p < ts.length) := fun x hx => basP_mem hx
  have HBL := Lib.hid (basP_len ts)
  have HBE : Hid (listE ts = 0 ∨ (¬ (basP ts).2 = 0 ∧ (basP ts).1 = [])) := by
    show _ ∨ _
    rcases Classical.em (listE ts = 0) with h | h
    · exact Or.inl h
    · exact Or.inr (by rw [basP_err h]; exact ⟨h, rfl⟩)
  have HBZ : Hid (listE ts = 0 → (basP ts).2 = 0) := fun h => by rw [basP_ok h]
  have HSP : Hid (listE ts = 0 → ∀ i (hi : i < ts.length) c E, SpanR (pickT ts (basP ts).1) ts[i] c E → E = 0) := by
    show _ → _
    intro h i hi c E hs
    exact basis_err (by have := HF.out; omega) h hi hs
  unfold BasPost at HBS HRB
  generalize basP ts = Z at HRK HBS HRB HBM HBL HBE HBZ HSP
  obtain ⟨B, E⟩ := Z
  simp only at HRK HBS HRB HBM HBL HBE HBZ HSP
  have tok2 : True := trivial
  go_enter Tryz.func4, Tryz.ntmps4
  go_upto_region 8 with (first
    | (go_at_call 9; refine (HA.out _ HT.out).mono ?_; rintro e w1 ⟨he, hB⟩; subst he; have HX1 : Hid (Ext w w1) := Lib.hid hB; clear hB)
    | (go_at_call 10; refine (HFW.out _ HX1.out).mono ?_; rintro e w2 ⟨he, hB⟩; subst he; have HX2 : Hid (Ext w w2) := Lib.hid (Ext.trans HX1.out hB); clear hB)
    | (go_at_call 12; have _t := tok2; refine (HCL.out _ HX2.out).mono ?_; rintro e w3 ⟨x3, c3, he, hO, hB⟩; subst he; have HR3 := Lib.hid (OwnT_rowQ hO); have HX3 : Hid (Ext w w3) := Lib.hid (Ext.trans HX2.out hB); clear hO hB tok2)
    | (go_at_call 17; refine (HRK.out _ HX3.out _ _ HR3.out.2 HR3.out.1).mono ?_; rintro e w4 ⟨he, hB⟩; subst he; have HX4 : Hid (Ext w w4) := Lib.hid (Ext.trans HX3.out hB); clear hB)
    | (go_at_call 12; refine (HCL.out _ HX4.out).mono ?_; rintro e w5 ⟨x5, c5, he, hO, hB⟩; subst he; have HR5 := Lib.hid (OwnT_rowQ hO); have HX5 : Hid (Ext w w5) := Lib.hid (Ext.trans HX4.out hB); clear hO hB)
    | (go_at_call 18; refine (HBS.out _ HX5.out _ _ HR5.out.2 HR5.out.1).mono ?_; rintro e w6 ⟨v6, he, hV, _, hB⟩; obtain ⟨x6, c6, e6, _⟩ := id hV; subst e6; subst he; have HV6 := Lib.hid hV; have HX6 : Hid (Ext w w6) := Lib.hid (Ext.trans HX5.out hB); clear hV hB)
    | (go_at_call 19; refine (HRB.out _ HX6.out).mono ?_; rintro e w7 ⟨v7, he, hV, _, hB⟩; obtain ⟨x7, c7, e7, _⟩ := id hV; subst e7; subst he; have HV7 := Lib.hid (And.intro (IntsV_below HV6.out hB) hV); have HX7 : Hid (Ext w w7) := Lib.hid (Ext.trans HX6.out hB); clear hV hB)
    | (go_at_call 20; refine (equalz_any B B _ _ _ HV7.out.1 HV7.out.2 (by have := HBL.out; have := HF.out; omega) (by have := HBL.out; have := HF.out; omega)).mono ?_; rintro e w8 ⟨he, hB⟩; rw [beq_self_eq_true] at he; subst he; have HV8 := Lib.hid (IntsV_below HV7.out.2 hB); have HX8 : Hid (Ext w w8) := Lib.hid (Ext.trans HX7.out hB); clear hB))
  have HW8 : Hid (w.heap.size ≤ w8.heap.size) := Lib.hid HX8.out.size
  clear tok1 HFW HRK HBS HRB
  go_wp2_with fail
  go_loopw [9, 62] (fun r i wr => ∃ j : Nat, j ≤ B.length ∧ i = .int .i64 j ∧ OwnT w8.heap.size (fun q => q < w.heap.size) wr (pickT ts (B.take j)) r ∧ Ext w8 wr) (fun _ i _ => B.length - (intOf i).toNat)
  case atStart => exact ⟨0, Nat.zero_le _, rfl, OwnT_nil _ _ _, Ext.refl _⟩
  case round =>
    obtain ⟨j, hj, rfl, hO, hX⟩ := hrel
    have HX := Lib.hid hX
    have HO := Lib.hid hO
    by_cases hlt : j < B.length
    rotate_left
    · have hjl : j = B.length := by omega
      rw [hjl, List.take_length] at hO
      obtain ⟨xs, cs, rfl⟩ := OwnT_form hO
      obtain ⟨hRS, hcs⟩ := OwnT_rowQ hO
      have HRS := Lib.hid hRS
      have HXr := Lib.hid (HX8.out.trans hX)
      have hpl : (pickT ts B).length ≤ 20 := by unfold pickT; rw [List.length_map]; have := HBL.out; have := HF.out; omega
      have hps : sizes (pickT ts B) ≤ 20 * 300 := by
        have h1 := pickT_sizes (ts := ts) (M := 300) (fun u hu => by have := size_le_sizes hu; have := HF.out; omega) (by omega) B
        have h2 := HBL.out
        have h3 := HF.out
        exact Nat.le_trans h1 (Nat.mul_le_mul_right 300 (by omega))
      have HPL := Lib.hid (And.intro hpl hps)
      have HSR : Hid (listE ts = 0 → ∀ i (hi : i < ts.length) c E, SpanR (pickT ts B) ts[i] c E → E = 0) := HSP.out
      clear hO hX hRS hcs hjl HO HX
      generalize pickT ts B = S at HRS HPL HSR hpl hps ⊢
      obtain ⟨w1, hw1⟩ : ∃ v : World, v = wr := ⟨_, rfl⟩
      subst hw1
      go_upto_region 15 with fail
      clear hlt
      go_loopw [12] (fun i wr => ∃ j : Nat, j ≤ ts.length ∧ i = .int .i64 j ∧ Ext w1 wr) (fun i _ => ts.length - (intOf i).toNat)
      case atStart => exact ⟨0, Nat.zero_le _, rfl, Ext.refl _⟩
      case round =>
        obtain ⟨j, hj, rfl, hX⟩ := hrel
        have HXw := Lib.hid (HXr.out.trans hX)
        have HXq := Lib.hid hX
        by_cases hlt : j < ts.length
        rotate_left
        · clear hX
          go_wp2_with fail
          go_ret
          exact ⟨rfl, HXw.out⟩
        by_cases hE : E = 0
        rotate_left
        · have q0 : (E == 0) = false := beq_eq_false_iff_ne.2 hE
          clear hX hE
          go_wp2_with fail
          go_ret
          exact ⟨rfl, HXw.out⟩
        subst hE
        have q0 : ((0 : Int) == 0) = true := rfl
        have hl0 : listE ts = 0 := by
          rcases HBE.out with h | h
          · exact h
          · exact absurd rfl h.1
        have HZE := Lib.hid (HSR.out hl0 j hlt)
        obtain ⟨kb, ko, rfl⟩ := RowIn_at HLR.out (by omega)
        obtain ⟨_, x0, x1, x2, x3, p0, p1, p2, p3, hKI⟩ := LiesIn_carry (w' := wr) (S' := fun q => q < w.heap.size) (fun q (hq : q < w.heap.size) => HXw.out.block q hq) (fun _ h => h) (RowIn_get HLR.out j hlt)
        obtain ⟨k1, n1, s1, ya1, yl1, yc1, rfl, rfl, rfl, rfl⟩ := IsIn_form hKI
        have hI := IsIn_Is _ _ _ _ _ hKI
        have HC : Hid (∀ W, Ext wr W → W.cell? ⟨kb, ko + j * 4, none⟩ = some (.int .i64 k1) ∧ W.cell? ⟨kb, ko + j * 4 + 1, none⟩ = some (.string n1) ∧ W.cell? ⟨kb, ko + j * 4 + 2, none⟩ = some (.int .i64 s1) ∧ W.cell? ⟨kb, ko + j * 4 + 3, none⟩ = some (.slice ya1 yl1 yc1)) := fun W x => ⟨keep_below x _ _ p0, keep_below x _ _ p1, keep_below x _ _ p2, keep_below x _ _ p3⟩
        have hRS2 := Row_below (w' := wr) HRS.out hX
        have HC2 := Lib.hid (fun W (x : Ext wr W) => cloneT_any wr.heap.size S xs cs W (by omega) x.size (RowIn_carryQ (fun b (hb : b < wr.heap.size) => x.block b hb) _ _ (Row_RowInQ _ _ hRS2)))
        have htj : size ts[j] ≤ 300 := by have := size_le_sizes (List.getElem_mem hlt); have := HF.out; omega
        have HSN := Lib.hid (fun W (x : Ext wr W) x5 c5 (h5 : S.length ≤ c5) (r5 : Row W S x5) => Span_any S ts[j] x5 c5 _ _ _ _ W (by omega) (by have := HPL.out; omega) h5 (HT.out.ext (HXw.out.trans x)) r5 (Is_below (w' := W) hI x))
        have hF0 : Ext wr wr.drew := (Ext.refl wr).drew
        have i1 : (0 : Int) ≤ (j : Int) := by omega
        have i2 : (j : Int) < (ts.length : Int) := by omega
        clear hX hKI hI hRS2 htj hl0
        go_upto_region 17 with fail
        go_region_held3 (fun W => W.cell? ⟨kb, ko + j * 4, none⟩ = some (.int .i64 k1) ∧ W.cell? ⟨kb, ko + j * 4 + 1, none⟩ = some (.string n1) ∧ W.cell? ⟨kb, ko + j * 4 + 2, none⟩ = some (.int .i64 s1) ∧ W.cell? ⟨kb, ko + j * 4 + 3, none⟩ = some (.slice ya1 yl1 yc1))
          (first | exact HC.out _ (by assumption) | go_keep)
          (first
            | (go_at_call 12; refine (HC2.out _ hF0).mono ?_; rintro e w3 ⟨x3, c3, he, hO, hB⟩; subst he; have hr := OwnT_rowQ hO; have hF3 : Ext wr w3 := hF0.trans hB; have HR3 := Lib.hid hr; clear hO hB hr)
            | (go_at_call 21; refine (HSN.out _ hF3 _ _ HR3.out.2 HR3.out.1).mono ?_; rintro e w5 ⟨c, E5, v, he, hS, _, hv, hB⟩; have hz := HZE.out _ _ hS; subst hz; subst he; have hF5 : Ext wr w5 := hF3.trans hB; clear hB hS hv))
        all_goals (go_wp2_with fail)
        all_goals go_roundw
        all_goals (first | exact ⟨j + 1, by omega, by go_num, HXq.out.trans hF5⟩ | (simp [intOf]; omega))
    have hOI := IntsV_below HV8.out hX
    obtain ⟨xa', cap', e8, _, _, hcc⟩ := hOI
    simp only [Value.slice.injEq, true_and] at e8
    obtain ⟨rfl, rfl⟩ := e8
    obtain ⟨bb, bo, rfl, hc⟩ := hcc (by omega)
    have hy := hc j hlt
    obtain ⟨p, hp, hpl⟩ := HBM.out _ (List.getElem_mem hlt)
    have htk := pickT_take ts B j hlt
    rw [hp, Int.toNat_natCast, List.getD_eq_getElem?_getD, List.getElem?_eq_getElem hpl, Option.getD_some] at htk
    rw [hp] at hy
    obtain ⟨xr, cr, rfl⟩ := OwnT_form hO
    obtain ⟨kb, ko, rfl⟩ := RowIn_at HLR.out (by omega)
    obtain ⟨_, x0, x1, x2, x3, p0, p1, p2, p3, hKI⟩ := LiesIn_carry (w' := wr) (S' := fun q => q < w.heap.size) (fun q (hq : q < w.heap.size) => (HX8.out.trans hX).block q hq) (fun _ h => h) (RowIn_get HLR.out p hpl)
    obtain ⟨k1, n1, s1, ya1, yl1, yc1, rfl, rfl, rfl, rfl⟩ := IsIn_form hKI
    generalize ts[p] = u at hKI htk
    have HKI := Lib.hid hKI
    have HTK := Lib.hid htk
    have hal : (pickT ts (B.take j)).length ≤ 1048577 := by unfold pickT; rw [List.length_map, List.length_take]; have := HBL.out; have := HF.out; omega
    have HAL := Lib.hid hal
    have HWR := Lib.hid hX.size
    have i1 : (0 : Int) ≤ (j : Int) := by omega
    have i2 : (j : Int) < (B.length : Int) := by omega
    have i3 : (0 : Int) ≤ (p : Int) := by omega
    have i4 : (p : Int) < (ts.length : Int) := by omega
    clear hO hX hKI htk hal hcc hc hp
    go_wp2_with (at_builtin; refine wpList_append_tm rfl _ _ rfl HO.out HW8.out HWR.out HAL.out ⟨rfl, rfl, rfl, rfl⟩ HKI.out rfl rfl rfl ?_; intro v9 w9 hO9 hB9 hs9; have HO9 := Lib.hid hO9; have HB9 : Hid (Ext w8 w9) := Lib.hid (Below.trans HX.out hB9); clear hO9 hB9 hs9)
    go_roundw
    case rel => exact ⟨j + 1, by omega, by go_num, by rw [HTK.out]; exact HO9.out, HB9.out⟩
    case measure => simp [intOf]; omega
end Go.Proofs.YtfbomoginjknlaaGreatDoor
