/-
  Check: the code's, to its end.
-/
import Derived.Test.YtfbomoginjknlaaDoorQlw
import Derived.BigQuiet
namespace Go.Proofs.YtfbomoginjknlaaDoor
open Go.RowKit Go.Lib

/-- A made row of terms of older blocks, the first j of which are set. -/
structure QO (w : World) (g : Nat) (us : List Tm) (j : Nat) (wr : World) : Prop where
  below : Below w.heap.size w wr
  own : w.heap.size ≤ g
  row : ∃ cs zs, wr.ownsRow g 24 4 (.slice (some ⟨g, 0, none⟩) us.length us.length) us.length (cs ++ zs) ∧ cs.length = j * 4 ∧ KC (fun b => b < g) wr (us.take j) cs
theorem QO.lt {w wr : World} {g j : Nat} {us : List Tm} (h : QO w g us j wr) : g < wr.heap.size := by
  obtain ⟨cs, zs, ho, _⟩ := h.row
  exact (ho.lt g rfl).2
theorem QO.cells {w wr : World} {g j : Nat} {us : List Tm} (h : QO w g us j wr) (hj : j < us.length) :
    (∃ z0 z1 z2 z3, wr.cell? ⟨g, j * 4, none⟩ = some z0 ∧ wr.cell? ⟨g, j * 4 + 1, none⟩ = some z1 ∧ wr.cell? ⟨g, j * 4 + 2, none⟩ = some z2 ∧ wr.cell? ⟨g, j * 4 + 3, none⟩ = some z3) ∧ ∀ i, wr.frozen? ⟨g, i, none⟩ = false := by
  obtain ⟨cs, zs, ho, hc, _⟩ := h.row
  have hl := ho.1
  have hz : ∀ i, i < 4 → ∃ z, wr.cell? ⟨g, j * 4 + i, none⟩ = some z := fun i hi => by
    rw [ho.cellAt _ (by omega)]
    exact ⟨_, List.getElem?_eq_getElem (by omega)⟩
  obtain ⟨z0, h0⟩ := hz 0 (by omega)
  obtain ⟨z1, h1⟩ := hz 1 (by omega)
  obtain ⟨z2, h2⟩ := hz 2 (by omega)
  obtain ⟨z3, h3⟩ := hz 3 (by omega)
  exact ⟨⟨z0, z1, z2, z3, h0, h1, h2, h3⟩, fun i => ho.frozenAt i⟩
theorem QO.next {w wr : World} {g j : Nat} {us : List Tm} (h : QO w g us j wr) (hj : j < us.length) {c0 c1 c2 c3 : Value}
    (hI : IsIn (fun b => b < g) wr us[j] c0 c1 c2 c3) : QO w g us (j + 1) (put4 wr g (j * 4) c0 c1 c2 c3) := by
  obtain ⟨cs, zs, ho, hc, hK⟩ := h.row
  have hp : ∀ q, q ≠ g → (put4 wr g (j * 4) c0 c1 c2 c3).heap[q]? = wr.heap[q]? := fun q hq => put4_other _ _ _ _ _ _ _ _ hq
  refine ⟨put4_below h.below h.own, h.own, cs ++ [c0, c1, c2, c3], zs.drop 4, stored4 ho hc hj, ?_, ?_⟩
  · simp only [List.length_append, hc, List.length_cons, List.length_nil]; omega
  · rw [List.take_succ_eq_append_getElem hj]
    exact KC_snoc (IsIn_carry (fun b hb => hp b (by have : b < g := hb; omega)) (fun _ hb => hb) _ _ _ _ _ hI) _ _ (KC_carry (fun b hb => hp b (by have : b < g := hb; omega)) (fun _ hb => hb) _ _ hK)
theorem QO.done {w wr : World} {g : Nat} {us : List Tm} (h : QO w g us us.length wr) : Row wr us (some ⟨g, 0, none⟩) ∧ Below w.heap.size w wr := by
  obtain ⟨cs, zs, ho, hc, hK⟩ := h.row
  rw [List.take_length] at hK
  have hl := ho.1
  rw [List.length_append] at hl
  have hz : zs = [] := List.length_eq_zero_iff.1 (by omega)
  rw [hz, List.append_nil] at ho
  exact ⟨(OwnT_rowQ (H := g) (cap := us.length) ⟨cs, ho, hK⟩).1, h.below⟩
theorem QO_made {w w0 w1 : World} {g : Nat} {us : List Tm} {xs : List Value} (hown : w1.ownsRow g 24 4 (.slice (some ⟨g, 0, none⟩) us.length us.length) us.length xs) (hw : w.heap.size ≤ g) (hz : g ≤ w0.heap.size) (hB : Below w.heap.size w w0) (hg : w0.grownBy w1 none) : QO w g us 0 w1 :=
  ⟨hB.grown hg (by omega) (fun q hq => by simp at hq), hw, [], xs, hown, by simp, rfl⟩
theorem idxB_at {n : Nat} {c : List Int} (h : idxB n c = true) (j : Nat) (hj : j < c.length) : ∃ y : Nat, c[j] = (y : Int) ∧ y < n := by
  have := ((idxG_iff n c (-1)).1 h).2 c[j] (List.getElem_mem hj)
  exact ⟨c[j].toNat, by omega, by omega⟩
set_option maxHeartbeats 6400000 in
set_option maxRecDepth 100000 in
theorem Check_any (ts : List Tm) (t : Tm) (c : List Int) (xl : Option Addr) (cl : Nat) (v c0 c1 c2 c3 : Value) (w : World) (hn : ts.length ≤ 1048576) (hsz : ∀ u ∈ ts, size u ≤ 1024) (hst : size t ≤ 1024) (hcl : c.length ≤ 512) (hL : Row w ts xl) (hI : Is w t c0 c1 c2 c3) (hC : IntsV w v c) :
    Calls Tryd.prog 21 #[.slice xl ts.length cl, .agg #[c0, c1, c2, c3], v] w fun e w' => e = .returned (.bool (chkB8 ts t c)) ∧ Ext w w' := by
  obtain ⟨xa, cap, rfl, hml, hrg, _⟩ := id hC
  obtain ⟨k2, n2, s2, ya2, yl2, yc2, rfl, rfl, rfl, rfl⟩ := Is_form hI
  have hB1 : Ext w (w.alloc (.cells #[.int .i64 k2, .string n2, .int .i64 s2, .slice ya2 yl2 yc2] 24)) := (Ext.refl _).alloc _
  have HBK : Hid (∀ W, Ext (w.alloc (.cells #[.int .i64 k2, .string n2, .int .i64 s2, .slice ya2 yl2 yc2] 24)) W → W.cell? ⟨w.heap.size, 0, none⟩ = some (.int .i64 k2) ∧ W.cell? ⟨w.heap.size, 1, none⟩ = some (.string n2) ∧ W.cell? ⟨w.heap.size, 2, none⟩ = some (.int .i64 s2) ∧ W.cell? ⟨w.heap.size, 3, none⟩ = some (.slice ya2 yl2 yc2)) := by
    show ∀ _, _
    intro W x
    have hh := x.block w.heap.size (by simp)
    rw [heap_alloc_new] at hh
    exact (box_facts hh).1
  obtain ⟨b0, b1, b2, b3⟩ := HBK.out _ (Ext.refl _)
  have hsA : (w.alloc (.cells #[.int .i64 k2, .string n2, .int .i64 s2, .slice ya2 yl2 yc2] 24)).heap.size = w.heap.size + 1 := World.size_alloc _ _
  have HSE := Lib.hid (spanError_any ts t xl cl _ _ _ _ _ hn (fun u hu => by have := hsz u hu; omega) (by omega) (Row_below hL hB1) (Is_below hI hB1))
  have HCI := Lib.hid (fun W (x : Ext w W) => IntsV_below (w' := W) hC x)
  have HAI := Lib.hid (fun W (x : Ext w W) => areIndices_any c ts.length _ W hn (by omega) (IntsV_below (w' := W) hC x))
  have HTI := Lib.hid (fun W (x : Ext w W) => Is_below (w' := W) hI x)
  have HLR := Lib.hid (Row_RowInQ _ _ hL)
  have HB1 := Lib.hid hB1
  have HP : Hid (chkB8 ts t c = if ¬ vE ts t = 0 then false else if idxB ts.length c = false then false else listsEq (sumsR (pickT ts c)) (summT t)) := rfl
  have hps := pickT_sizes hsz (by omega) c
  have hpl := sumsR_sizes (pickT ts c)
  have hpn := sumsR_len (pickT ts c)
  have htn := summT_len t
  have hts := summT_sizes t
  have hul : (pickT ts c).length = c.length := by unfold pickT; rw [List.length_map]
  have hmul : c.length * 1024 ≤ 512 * 1024 := Nat.mul_le_mul_right _ hcl
  obtain ⟨i0, hi0, hz0, hz1, hz2⟩ := info_parts info24
  have HI0 := Lib.hid (And.intro hi0 (And.intro hz0 (And.intro hz1 hz2)))
  generalize chkB8 ts t c = R at HP ⊢
  clear hi0 hz0 hz1 hz2
  by_cases hv : vE ts t = 0
  rotate_left
  · have HR : Hid (R = false) := by show _ = _; rw [HP.out, if_pos hv]
    generalize vE ts t = E at HSE hv
    have q1 : (E != 0) = true := bne_iff_ne.2 hv
    clear hv HP hL hI hC hB1 hsz hst hrg hps hpl hpn htn hts hsA
    go_enter Tryd.func21, Tryd.ntmps21
    go_wp2_with (go_at_call 38; refine (HSE.out).mono ?_; rintro e w3 ⟨he, hB⟩; subst he; have HX3 := Lib.hid (HB1.out.trans hB); clear hB)
    go_ret
    exact ⟨by rw [HR.out]; rfl, HX3.out⟩
  rw [hv] at HSE
  cases hix : idxB ts.length c
  · have HR : Hid (R = false) := by show _ = _; rw [HP.out, if_neg (fun h => h hv), if_pos hix]
    rw [hix] at HAI
    clear hv HP hL hI hC hB1 hsz hst hrg hps hpl hpn htn hts hsA hix
    go_enter Tryd.func21, Tryd.ntmps21
    go_wp2_with (first
      | (go_at_call 38; refine (HSE.out).mono ?_; rintro e w3 ⟨he, hB⟩; subst he; have HX3 := Lib.hid (HB1.out.trans hB); clear hB)
      | (go_at_call 43; refine (HAI.out _ HX3.out).mono ?_; rintro e w4 ⟨he, hw⟩; subst he; subst hw))
    go_ret
    exact ⟨by rw [HR.out]; rfl, HX3.out⟩
  rw [hix] at HAI
  have HR : Hid (R = listsEq (sumsR (pickT ts c)) (summT t)) := by show _ = _; rw [HP.out, if_neg (fun h => h hv), if_neg (by rw [hix]; simp)]
  have HIX := Lib.hid hix
  have HPG : Hid (∀ (j y : Nat) (h : j < c.length) (h' : j < (pickT ts c).length) (hy : y < ts.length), c[j] = (y : Int) → (pickT ts c)[j] = ts[y]) := by
    show ∀ _, _
    intro j y h h' hy e
    have h2 : (pickT ts c)[j]? = some ts[y] := by
      unfold pickT
      rw [List.getElem?_map, List.getElem?_eq_getElem h, Option.map_some, e, Int.toNat_natCast, List.getD_eq_getElem?_getD, List.getElem?_eq_getElem hy]; rfl
    rw [List.getElem?_eq_getElem h'] at h2
    exact Option.some.inj h2
  have HS1 := Lib.hid (fun W xa cap (r : Row W (pickT ts c) xa) => summands_any (pickT ts c) xa cap W (by omega) (by omega) r)
  have HS2 := Lib.hid (fun W H (r : Row W [t] (some ⟨H, 0, none⟩)) => summands_one t H W (by omega) r)
  have HEF := Lib.hid (fun W xq xm cq cm (r1 : Row W (sumsR (pickT ts c)) xq) (r2 : Row W (summT t) xm) => eqfQ_any (sumsR (pickT ts c)) (summT t) xq xm cq cm W (by omega) (by omega) (fun u hu => by have := size_le_sizes hu; omega) (fun u hu => by have := size_le_sizes hu; omega) r1 r2)
  have HRR : Hid (∀ b : Bool, (b = true ↔ sumsR (pickT ts c) = summT t) → b = R) := by
    show ∀ _, _
    intro b hb
    rw [HR.out]
    cases b
    · cases hq : listsEq (sumsR (pickT ts c)) (summT t)
      · rfl
      · exact absurd (hb.2 ((listsEq_iff _ _).1 hq)) (by simp)
    · exact ((listsEq_iff _ _).2 (hb.1 rfl)).symm
  have HCS := Lib.hid hcl
  have HUL := Lib.hid hul
  generalize hus : pickT ts c = us at hul HPG HS1 HEF HRR HUL
  generalize sumsR us = qs at HS1 HEF HRR
  generalize summT t = m at HS2 HEF HRR
  unfold TsPost at HS1 HS2
  clear HP HR hv hL hI hC hB1 hsz hst hrg hps hpl hpn htn hts hix hmul hus
  have q' : c.length = us.length := hul.symm
  rw [q']
  rw [q'] at HAI
  clear q' hul
  go_enter Tryd.func21, Tryd.ntmps21
  go_upto_region 3 with (first
    | (go_at_call 38; refine (HSE.out).mono ?_; rintro e w3 ⟨he, hB⟩; subst he; have HX3 : Hid (Ext (w.alloc (.cells #[.int .i64 k2, .string n2, .int .i64 s2, .slice ya2 yl2 yc2] 24)) w3) := Lib.hid hB; clear hB b0 b1 b2 b3)
    | (go_at_call 43; refine (HAI.out _ (HB1.out.trans HX3.out)).mono ?_; rintro e w4 ⟨he, hw⟩; subst he; subst hw))
  have HSZ3 : Hid (w.heap.size + 1 ≤ w4.heap.size) := by show _ ≤ _; have := HX3.out.size; omega
  go_wp2_with (at_make; refine make_full_at _ w4.heap.size rfl rfl _ _ _ rfl 24 i0 _ 4 Tryd.underlying22 HI0.out.1 HI0.out.2.1 HI0.out.2.2.1 us.length rfl rfl (by rw [HI0.out.2.2.2]; have := HCS.out; have := HUL.out; omega) (by unfold maxLen; have := HCS.out; have := HUL.out; omega) ?_; intro w2 hown1 hgrow; have HM := Lib.hid (QO_made (w := w4) hown1 (Nat.le_refl _) (Nat.le_refl _) (Below.refl w4.heap.size w4) hgrow); clear hown1 hgrow)
  obtain ⟨g, hg⟩ : ∃ g, w4.heap.size = g := ⟨_, rfl⟩
  have HGE : Hid (w4.heap.size ≤ g) := (by omega : w4.heap.size ≤ g)
  rw [hg] at HM ⊢
  clear hg
  go_loopw [26] (fun i wr => ∃ j : Nat, j ≤ us.length ∧ i = .int .i64 j ∧ QO w4 g us j wr) (fun i _ => us.length - (intOf i).toNat)
  case atStart => exact ⟨0, Nat.zero_le _, rfl, HM.out⟩
  case round =>
    obtain ⟨j, hj, rfl, hA⟩ := hrel
    have HA := Lib.hid hA
    by_cases hlt : j < us.length
    rotate_left
    · have hjl : j = us.length := by omega
      have HD := Lib.hid (QO.done (by rw [hjl] at hA; exact hA))
      have hX : Ext (w.alloc (.cells #[.int .i64 k2, .string n2, .int .i64 s2, .slice ya2 yl2 yc2] 24)) wr := HX3.out.trans HD.out.2
      have HXX := Lib.hid hX
      have HKP := Lib.hid (fun W (x : Ext wr W) => HBK.out W (hX.trans x))
      have HRO := Lib.hid (fun W H (hH : W.heap.size = H) (x : Ext wr W) => Row_one_at H hH (HTI.out W ((HB1.out.trans hX).trans x)) 24)
      have HRB : Hid (Row ((wr.alloc (.cells #[.int .i64 k2, .string n2, .int .i64 s2, .slice ya2 yl2 yc2] 24)).drew) [t] (some ⟨wr.heap.size, 0, none⟩)) := Row_below (HRO.out wr _ rfl (Ext.refl _)) ((Ext.refl _).drew)
      obtain ⟨b0, b1, b2, b3⟩ := HBK.out _ hX
      have hF0 : Ext wr wr.drew := (Ext.refl wr).drew
      have hFB : Ext wr (wr.alloc (.cells #[.int .i64 k2, .string n2, .int .i64 s2, .slice ya2 yl2 yc2] 24)).drew := ((Ext.refl wr).alloc _).drew
      have tok1 : True := trivial
      clear hA hjl hX
      go_upto_region 9 with (fail)
      go_region_held3 (fun W => W.cell? ⟨w.heap.size, 0, none⟩ = some (.int .i64 k2) ∧ W.cell? ⟨w.heap.size, 1, none⟩ = some (.string n2) ∧ W.cell? ⟨w.heap.size, 2, none⟩ = some (.int .i64 s2) ∧ W.cell? ⟨w.heap.size, 3, none⟩ = some (.slice ya2 yl2 yc2))
        (first | exact HKP.out _ (by assumption) | exact HKP.out _ (Ext.alloc (by assumption) _) | go_keep)
        (first
          | (go_at_call 28; have _t := tok1; refine (HS1.out _ _ _ (by first | exact Row_below HD.out.1 hF0 | exact Row_below HD.out.1 hFB)).mono ?_; rintro e w5 ⟨x5, c5, he, _, hr, hB⟩; subst he; (first | (have HQ := Lib.hid (Row_below HRB.out hB)) | skip); have hF1 : Ext wr w5 := Ext.trans (by first | exact hF0 | exact hFB) hB; have HR5 := Lib.hid hr; clear hB hr tok1)
          | (go_at_call 28; refine (HS2.out _ _ (by first | exact HQ.out | exact HRO.out w5 _ rfl hF1)).mono ?_; rintro e w6 ⟨x6, c6, he, _, hr, hB⟩; subst he; have hE56 : Ext w5 w6 := Ext.trans (by first | exact Ext.refl w5 | exact (Ext.refl w5).alloc _) hB; have HR6 := Lib.hid (And.intro (Row_below HR5.out hE56) hr); have hF2 : Ext wr w6 := hF1.trans hE56; clear hB hr hE56)
          | (go_at_call 44; refine (HEF.out _ _ _ _ _ HR6.out.1 HR6.out.2).mono ?_; rintro e w7 ⟨⟨bb, he, hbb⟩, hB⟩; subst he; have hbr := HRR.out bb hbb; have hF3 : Ext wr w7 := hF2.trans hB; clear hB hbb))
      all_goals go_wp2_with fail
      all_goals go_ret
      all_goals exact ⟨rfl, HB1.out.trans (HXX.out.trans hF3)⟩
    have hjc : j < c.length := by rw [← HUL.out]; exact hlt
    obtain ⟨y, hy, hyn⟩ := idxB_at HIX.out j hjc
    have hup := HPG.out j y hjc hlt hyn hy
    have hX : Ext w wr := HB1.out.trans (HX3.out.trans hA.below)
    obtain ⟨xb, xo, hxl⟩ := RowIn_at HLR.out (by omega)
    subst hxl
    have hrow := RowIn_get (RowIn_carryQ (fun b (hb : b < w.heap.size) => hX.block b hb) _ _ HLR.out) y hyn
    obtain ⟨_, e0, e1, e2, e3, x0, x1, x2, x3, hI⟩ := hrow
    obtain ⟨k, nm, s, ya, yl, yc, r0, r1, r2, r3⟩ := IsIn_form hI
    subst r0 r1 r2 r3
    obtain ⟨xa1, cap1, hce, _, _, hcc⟩ := HCI.out wr hX
    have hxe : xa = xa1 := by
      simp only [Value.slice.injEq] at hce
      exact hce.1
    obtain ⟨cb, co, hxa, hcell⟩ := hcc (by omega)
    rw [← hxe] at hxa
    subst hxa
    clear hxe
    have hcj := hcell j hjc
    rw [hy] at hcj
    obtain ⟨⟨z0, z1, z2, z3, y0, y1, y2, y3⟩, hz⟩ := hA.cells hlt
    have f0 := hz (j * 4); have f1 := hz (j * 4 + 1); have f2 := hz (j * 4 + 2); have f3 := hz (j * 4 + 3)
    have i1 : (0 : Int) ≤ (j : Int) := by omega
    have i2 : (j : Int) < (us.length : Int) := by omega
    have i3 : (0 : Int) ≤ (y : Int) := by omega
    have i4 : (y : Int) < (ts.length : Int) := by omega
    have HI4 := Lib.hid hI
    rw [← hup] at HI4
    clear hz hA hI hcell hcc hce hX hup
    go_wp2_with fail
    go_roundw
    case rel =>
      refine ⟨j + 1, by omega, by go_num, ?_⟩
      exact HA.out.next hlt (IsIn_carry (fun _ _ => rfl) (fun q (hq : q < w.heap.size) => by have := HGE.out; have := HSZ3.out; omega) _ _ _ _ _ HI4.out)
    case measure => simp [intOf]; omega
end Go.Proofs.YtfbomoginjknlaaDoor

/-
  Check: the reference's, to its end.
-/
namespace Go.Proofs.YtfbomoginjknlaaDoor
open Go.RowKit Go.Lib

end Go.Proofs.YtfbomoginjknlaaDoor
