/-
  THE WALK OF eliminate.
-/
import Derived.Test.YtakeopjpmfgngaaGreatDoorQinc
namespace Go.Proofs.YtakeopjpmfgngaaGreatDoor
open Go.RowKit Go.Lib

theorem Elm.red_supp {V : Nat → Nat → Bool} {n m : Nat} {ps : List PivB} (h : Elm V n m ps) {x : Nat → Bool} (hx : ∀ j, n ≤ j → x j = false) (j : Nat) (hj : n ≤ j) : redS ps x j = false := by
  rw [(red_comb h.apt x x).1]
  show (x j ^^ combS ps x j) = false
  rw [hx j hj, combS_supp h.supp _ j hj]; rfl
theorem Elm.redE_few {V : Nat → Nat → Bool} {n m : Nat} {ps : List PivB} (h : Elm V n m ps) (x : Nat → Bool) (i : Nat) (hi : m ≤ i) : redE ps x b0 i = false := by
  rw [(red_comb h.apt x b0).2, bx_comm, bx_zero]
  exact combE_few h.few x i hi
/-- What first says of a vector whose bits end. -/
theorem first_bits {n m : Nat} {f : Nat → Nat} {X : Nat → Bool} {e : Ending} (h : FirstV n f e) (hX : bitV f = X) (hs : ∀ j, m ≤ j → X j = false) (hm : m ≤ n * 64) :
    (e = .returned (.int .i64 (-1)) ∧ X = b0) ∨ ∃ c : Nat, e = .returned (.int .i64 c) ∧ c < m ∧ X c = true := by
  rcases h with ⟨he, h0⟩ | ⟨c, _, he, h1, _⟩
  · refine Or.inl ⟨he, ?_⟩
    funext j
    rcases Nat.lt_or_ge j (n * 64) with hj | hj
    · rw [← hX]; exact h0 j hj
    · exact hs j (by omega)
  · refine Or.inr ⟨c, he, ?_, by rw [← hX]; exact h1⟩
    rcases Nat.lt_or_ge c m with hc | hc
    · exact hc
    · rw [hX, hs c hc] at h1; cases h1
theorem setV_bone {f : Nat → Nat} {Y : Nat → Bool} {i : Nat} (hf : bitV f = Y) (hi : Y i = false) : bitV (setV f i) = bx Y (bone i) := by
  funext j
  rw [setV_bits, hf]
  show _ = (Y j ^^ decide (j = i))
  by_cases e : j = i
  · rw [e, hi, decide_eq_true rfl]; rfl
  · rw [decide_eq_false e, Bool.false_or, Bool.xor_false]
/-- What eliminate gives back. -/
structure Found (ts us : List Tm) (w : World) (eb : Nat) (C : List Tm) (ps : List PvM) (v : Value) (w' : World) : Prop where
  cols : ColsT C us
  el : EL eb C ((C.length + 63) / 64) ((ts.length + 63) / 64) ps v w'
  elm : Elm (rowV C ts) C.length ts.length (ps.map pvB)
  len : ps.length ≤ ts.length
  new : w.heap.size ≤ eb
  ext : Ext w w'
def EliPost (ts us : List Tm) (w : World) (e : Ending) (w' : World) : Prop :=
  ∃ eb C ps v, e = .returned (.pointer (some ⟨eb, 0, none⟩)) ∧ Found ts us w eb C ps v w'
theorem rowV_at {C ts : List Tm} {j : Nat} (h : j < ts.length) : rowV C ts j = chiP C (addT ts[j]) := by
  unfold rowV
  rw [List.getD_eq_getElem?_getD, List.getElem?_eq_getElem h]; rfl
set_option maxHeartbeats 3200000 in
set_option maxRecDepth 100000 in
theorem eliminate_any (ts fs us : List Tm) (xl xf : Option Addr) (cl cf : Nat) (w : World) (hus : us = ts ++ fs) (hn : us.length ≤ 1048576) (hsz : sizes us ≤ 1048576) (hcl : ts.length ≤ cl) (hcf : fs.length ≤ cf) (hT : TabQ w) (hL : Row w ts xl) (hF : Row w fs xf) :
    Calls Tryz.prog 45 #[.slice xl ts.length cl, .slice xf fs.length cf] w (EliPost ts us w) := by
  have hln := hn
  rw [hus, List.length_append] at hln
  have HCC : Hid (∀ H, w.heap.size = H → Calls Tryz.prog 73 #[.slice (some ⟨H, 0, none⟩) 2 2] (w.alloc (.cells #[.slice xl ts.length cl, .slice xf fs.length cf] 22)) (CatTPost (w.alloc (.cells #[.slice xl ts.length cl, .slice xf fs.length cf] 22)) us)) := by
    show ∀ _, _
    intro H hH
    have h := concatT_any [ts, fs] (some ⟨H, 0, none⟩) 2 (w.alloc (.cells #[.slice xl ts.length cl, .slice xf fs.length cf] 22)) (by simp) (by simp; omega) (TsRow_two hH rfl rfl hcl hcf hL hF _)
    have e : [ts, fs].flatten = us := by rw [hus]; simp
    rw [e] at h
    exact h
  have HCO := Lib.hid (fun (W : World) xa cap (r : Row W us xa) => columnsOfT_any us xa cap W hn hsz r)
  have HLR := Lib.hid hL
  have HT := Lib.hid hT
  have HMEM : Hid (∀ u ∈ ts, size u ≤ 1048576) := fun u hu => by have := size_le_sizes (l := us) (t := u) (by rw [hus]; exact List.mem_append_left fs hu); omega
  have HSUB : Hid (∀ C, ColsT C us → ∀ j (h : j < ts.length), ∀ u ∈ summT ts[j], u ∈ C) := fun C h j hj u hu => (h.mem u).2 ⟨ts[j], by rw [hus]; exact List.mem_append_left fs (List.getElem_mem hj), hu⟩
  have HSZ := Lib.hid hsz
  obtain ⟨n2, hn2⟩ : ∃ n2, (ts.length + 63) / 64 = n2 := ⟨_, rfl⟩
  have HN2 := Lib.hid hn2
  have hn2l : n2 ≤ 1048576 := by omega
  have hn64 : ts.length ≤ n2 * 64 := by omega
  clear hL hF hT hsz hn hn2 hcl hcf hus
  go_enter Tryz.func45, Tryz.ntmps45
  go_upto_region 2 with (first
    | (go_at_call 73; refine (HCC.out _ (by simp)).mono ?_; rintro e w3 ⟨v3, he, hO, hB⟩; subst he; obtain ⟨x3, c3, hv3⟩ := OwnT_form hO; subst hv3; have HX3 := Lib.hid (((Ext.refl w).alloc _).trans hB); have HO3 := Lib.hid (OwnT_rowQ hO).1; clear hO hB)
    | (go_at_call 72; refine (HCO.out _ _ _ HO3.out).mono ?_; rintro e w4 ⟨C, x4, c4, he, h1, h2, h3, h4⟩; subst he; have HX4 := Lib.hid (HX3.out.trans h4); have HC := Lib.hid (And.intro h1 (And.intro h2 h3)); clear h1 h2 h3 h4))
  have hcc := HC.out.2.2.len
  have hcsz := HSZ.out
  have hbn := heap_alloc_new w4 (.cells #[.slice x4 C.length c4, .slice none 0 0] 63)
  have hA : Ext w4 (w4.alloc (.cells #[.slice x4 C.length c4, .slice none 0 0] 63)) := (Ext.refl w4).alloc _
  have hsz5 : (w4.alloc (.cells #[.slice x4 C.length c4, .slice none 0 0] 63)).heap.size = w4.heap.size + 1 := World.size_alloc _ _
  obtain ⟨eb, hH⟩ : ∃ H, w4.heap.size = H := ⟨_, rfl⟩
  obtain ⟨n1, hn1⟩ : ∃ n1, (C.length + 63) / 64 = n1 := ⟨_, rfl⟩
  have hEL0 : EL eb C n1 n2 [] (.slice none 0 0) (w4.alloc (.cells #[.slice x4 C.length c4, .slice none 0 0] 63)) := by
    rw [hH] at hbn
    obtain ⟨⟨e0, e1⟩, ef⟩ := box2_facts hbn
    have hri := Row_RowInQ _ _ HC.out.2.1
    rw [hH] at hri
    exact ⟨⟨x4, c4, e0, HC.out.1, RowIn_carryQ (fun b (hb : b < eb) => hA.block b (by omega)) _ _ hri⟩, HC.out.2.2.asc, fun u hu => by have := HC.out.2.2.small u hu; omega, by omega, e1, ef, World.ownsRow_nil _ _ _ _, fun p hp => absurd hp (by simp), List.Pairwise.nil, fun p hp => absurd hp (by simp)⟩
  have hX5 : Ext w (w4.alloc (.cells #[.slice x4 C.length c4, .slice none 0 0] 63)) := HX4.out.trans hA
  have hwe : w.heap.size ≤ eb := by have := HX4.out.size; omega
  rw [hH] at hsz5 ⊢
  generalize w4.alloc (.cells #[.slice x4 C.length c4, .slice none 0 0] 63) = w5 at hEL0 hX5 hsz5 ⊢
  have HE0 := Lib.hid (And.intro hEL0 (And.intro hX5 hsz5))
  have HWE := Lib.hid hwe
  have HN1 := Lib.hid hn1
  have hn1l : n1 ≤ 1048576 := by omega
  have hn164 : C.length ≤ n1 * 64 := by omega
  have HSB2 := Lib.hid (HSUB.out C HC.out.2.2)
  clear hEL0 hX5 hsz5 hbn hA hcc hn1 hwe hcsz
  go_wp2_with fail
  go_loopw [18] (fun i wr => ∃ (j : Nat) (ps : List PvM) (v : Value), j ≤ ts.length ∧ i = .int .i64 j ∧ EL eb C n1 n2 ps v wr ∧ Hid (Elm (rowV C ts) C.length j (ps.map pvB)) ∧ ps.length ≤ j ∧ Below eb w5 wr) (fun i _ => ts.length - (intOf i).toNat)
  case atStart => exact ⟨0, [], _, Nat.zero_le _, rfl, HE0.out.1, Elm.nil _ _, Nat.le_refl _, Below.refl _ _⟩
  case round =>
    obtain ⟨j, ps, v, hj, rfl, hel, HM, hpl, hB⟩ := hrel
    have hxr : Ext w wr := Below.trans HE0.out.2.1 (hB.mono HWE.out)
    have HXR := Lib.hid hxr
    have HB := Lib.hid hB
    have HEL := Lib.hid hel
    by_cases hlt : j < ts.length
    rotate_left
    · have hjl : j = ts.length := by omega
      have HQ : Hid (EliPost ts us w (.returned (.pointer (some ⟨eb, 0, none⟩))) wr) := by
        refine ⟨eb, C, ps, v, rfl, HC.out.2.2, ?_, ?_, by omega, HWE.out, hxr⟩
        · rw [HN1.out, HN2.out]; exact hel
        · have := HM.out; rw [hjl] at this; exact this
      clear hel hB hxr hjl
      go_wp2_with fail
      go_ret
      exact HQ.out
    obtain ⟨kb, ko, rfl⟩ := Row_at HLR.out (by omega)
    obtain ⟨x0, x1, x2, x3', p0, p1, p2, p3, hKI⟩ := Row_get (Row_below HLR.out hxr) j hlt
    obtain ⟨k1, m1, s1, ya1, yl1, yc1, rfl, rfl, rfl, rfl⟩ := Is_form hKI
    have HRD := Lib.hid (reduced_any eb n1 n2 ts.length C ps v ts[j] _ _ _ _ wr HN1.out HN2.out (by omega) (by omega) hel (HMEM.out _ (List.getElem_mem hlt)) (HSB2.out j hlt) hKI)
    rw [← rowV_at hlt] at HRD
    have hsuppV : ∀ i, C.length ≤ i → rowV C ts j i = false := fun i hi => chiP_supp _ _ _ hi
    have HSUP := Lib.hid (HM.out.red_supp hsuppV)
    have HFEW := Lib.hid (HM.out.redE_few (rowV C ts j) j (Nat.le_refl _))
    have HSKIP := Lib.hid (fun h => HM.out.skip h)
    have HTAKE := Lib.hid (fun c (h : redS (ps.map pvB) (rowV C ts j) c = true) => HM.out.take (c := c) hsuppV h)
    have i1 : (0 : Int) ≤ (j : Int) := by omega
    have i2 : (j : Int) < (ts.length : Int) := by omega
    generalize redS (ps.map pvB) (rowV C ts j) = X at HRD HSUP HSKIP HTAKE
    generalize redE (ps.map pvB) (rowV C ts j) b0 = Y at HRD HFEW HTAKE
    clear hel hB hxr hKI hsuppV
    go_upto_region 6 with (go_at_call 48; refine (HRD.out).mono ?_; rintro e w6 ⟨gs, ge, fs6, fe6, he, hg1, hg2, hg3, hv1, hv2, hb1, hb2, hx⟩; subst he; have HX6 := Lib.hid hx; have HV6 := Lib.hid (And.intro hv1 (And.intro hv2 (And.intro hb1 hb2))); have HG6 := Lib.hid (And.intro hg1 (And.intro hg2 hg3)); clear hx hv1 hv2 hb1 hb2 hg1 hg2 hg3)
    have hbn := heap_alloc_new w6 (.cells #[.slice (some ⟨gs, 0, none⟩) n1 n1, .slice (some ⟨ge, 0, none⟩) n2 n2] 69)
    have hA : Ext w6 (w6.alloc (.cells #[.slice (some ⟨gs, 0, none⟩) n1 n1, .slice (some ⟨ge, 0, none⟩) n2 n2] 69)) := (Ext.refl w6).alloc _
    have hgsl := HV6.out.1.1
    have hgel := HV6.out.2.1.1
    obtain ⟨H, hH⟩ : ∃ H, w6.heap.size = H := ⟨_, rfl⟩
    rw [hH] at hbn ⊢
    have hw7s := World.size_alloc w6 (.cells #[.slice (some ⟨gs, 0, none⟩) n1 n1, .slice (some ⟨ge, 0, none⟩) n2 n2] 69)
    generalize w6.alloc (.cells #[.slice (some ⟨gs, 0, none⟩) n1 n1, .slice (some ⟨ge, 0, none⟩) n2 n2] 69) = w7 at hbn hA hw7s ⊢
    obtain ⟨⟨r0, r1⟩, _⟩ := box2_facts hbn
    have hx7 : Ext wr w7 := HX6.out.trans hA
    have HX7 := Lib.hid hx7
    have HV7 := Lib.hid (And.intro (HV6.out.1.ext hA) (HV6.out.2.1.ext hA))
    have HFI := Lib.hid (first_any gs n1 n1 fs6 w7 hn1l HV7.out.1.2.2 (HT.out.ext (HXR.out.trans hx7)))
    have HSET := Lib.hid (vset_any ge n2 n2 j fe6 w7 (by omega) hn2l HV7.out.2)
    have HR8 : Hid (∀ W, But ge w7 W → W.cell? ⟨H, 0, none⟩ = some (.slice (some ⟨gs, 0, none⟩) n1 n1) ∧ W.cell? ⟨H, 1, none⟩ = some (.slice (some ⟨ge, 0, none⟩) n2 n2)) := by
      show ∀ _, _
      intro W b
      have hh := (b.block H (by omega) (by simp only [ne_eq, Option.some.injEq]; omega)).trans hbn
      exact (box2_facts hh).1
    have HINC : Hid (∀ (W : World) (c : Nat), But ge w7 W → VRow W ge n2 (setV fe6 j) → c < C.length → Calls Tryz.prog 75 #[.pointer (some ⟨eb, 0, none⟩), .agg #[.slice (some ⟨gs, 0, none⟩) n1 n1, .slice (some ⟨ge, 0, none⟩) n2 n2, .int .i64 c, .int .i64 j]] W (IncPost eb n1 n2 C (incM ps ⟨gs, ge, fs6, setV fe6 j, c, j⟩) W)) := by
      show ∀ _, _
      intro W c b hv hc
      have he7 := HEL.out.ext hx7
      have hkq : Kq (fun x => x = ge) w7 W := Kq.ofBut b rfl
      obtain ⟨y1, y2, y3⟩ := HG6.out
      have hlb := HEL.out.lt
      have hvp : ∀ p ∈ ps, p.gs < wr.heap.size ∧ p.ge < wr.heap.size := fun p hp => ⟨(HEL.out.vec p hp).1.1, (HEL.out.vec p hp).2.1.1⟩
      have hvo : ∀ q, v.ownBlock = some q → q < wr.heap.size := fun q hq => (HEL.out.own.lt q hq).2
      refine include_any eb n1 n2 C ps v ⟨gs, ge, fs6, setV fe6 j, c, j⟩ W HN1.out hn2l (by omega) (he7.keep hkq (fun q hq => by subst hq; omega) (fun p hp => ?_) (fun q hq => ?_)) (HV7.out.1.kq hkq y3) hv (by simp only; omega) (by simp only; omega) y3 hc (fun p hp => ?_) (fun hq => ?_) (fun hq => ?_)
      · have := hvp p hp; omega
      · have := hvo q hq; omega
      · have := hvp p hp; simp only; omega
      · have := hvo _ hq; simp only at this; omega
      · have := hvo _ hq; simp only at this; omega
    have HNEW : Hid (∀ c, c < C.length → X c = true → Elm (rowV C ts) C.length (j + 1) ((incM ps ⟨gs, ge, fs6, setV fe6 j, c, j⟩).map pvB)) := by
      show ∀ _, _
      intro c _ hc
      rw [pvB_inc]
      have e : pvB ⟨gs, ge, fs6, setV fe6 j, c, j⟩ = ⟨X, bx Y (bone j), c, j⟩ := by
        unfold pvB
        rw [HV6.out.2.2.1, setV_bone HV6.out.2.2.2 HFEW.out]
      rw [e]
      exact HTAKE.out c hc
    have HFB := Lib.hid (fun e (h : FirstV n1 fs6 e) => first_bits h HV6.out.2.2.1 HSUP.out hn164)
    have HBL : Hid (∀ W, Ext wr W → Below eb w5 W) := fun W x => HB.out.trans (x.mono (Nat.le_of_lt HEL.out.lt))
    clear hbn hA hgsl hgel hw7s hx7
    go_upto_region 7 with (go_at_call 49; refine (HFI.out).mono ?_; rintro e w8 ⟨hf, hw⟩; subst hw; rcases HFB.out _ hf with ⟨he, hz⟩ | ⟨c, he, hc1, hc2⟩ <;> subst he)
    · have HZ := Lib.hid (HSKIP.out hz)
      clear hf hz
      go_wp2_with fail
      go_roundw
      case rel => exact ⟨j + 1, ps, v, by omega, by go_num, HEL.out.ext HX7.out, HZ.out, by omega, HBL.out _ HX7.out⟩
      case measure => simp [intOf]; omega
    · have HN := Lib.hid (HNEW.out c hc1 hc2)
      have q7 : ((c : Int) != -1) = true := by rw [bne_iff_ne]; omega
      clear hf hc2
      go_wp2_with (first
        | (go_at_call 74; refine (HSET.out).mono ?_; rintro e w9 ⟨he, hv, hb⟩; subst he; obtain ⟨r0, r1⟩ := HR8.out _ hb; have HV9 := Lib.hid (And.intro hb hv); clear hv hb)
        | (go_at_call 75; refine (HINC.out _ c HV9.out.1 HV9.out.2 hc1).mono ?_; rintro e w10 ⟨he, v10, h1, h2⟩; subst he; have HI10 := Lib.hid (And.intro h1 h2); clear h1 h2))
      go_roundw
      case rel =>
        refine ⟨j + 1, incM ps ⟨gs, ge, fs6, setV fe6 j, c, j⟩, v10, by omega, by go_num, HI10.out.1, HN.out, by unfold incM; simp; omega, ?_⟩
        have h1 := HBL.out _ HX7.out
        have h2 := HEL.out.lt
        have h3 := HX7.out.size
        have h4 := HG6.out.2.1
        exact h1.trans ((HV9.out.1.toBelow (by omega) (by omega)).trans HI10.out.2)
      case measure => simp [intOf]; omega
end Go.Proofs.YtakeopjpmfgngaaGreatDoor
