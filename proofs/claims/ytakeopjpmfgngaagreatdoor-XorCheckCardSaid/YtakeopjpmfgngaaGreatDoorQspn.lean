/-
  THE WALK OF Span.
-/
import Derived.Test.YtakeopjpmfgngaaGreatDoorQeli
namespace Go.Proofs.YtakeopjpmfgngaaGreatDoor
open Go.RowKit Go.Lib

/-- What Span gives back. -/
def SpanPost (ts : List Tm) (t : Tm) (w : World) (e : Ending) (w' : World) : Prop :=
  ∃ c E v, e = .returned (.tuple #[v, .int .i64 E]) ∧ SpanR ts t c E ∧ c.length ≤ ts.length ∧ IntsV w' v c ∧ Ext w w'
theorem IntsV_none (w : World) : IntsV w (.slice none 0 0) [] := ⟨none, 0, rfl, Nat.zero_le _, fun _ h => absurd h (by simp), fun h => absurd h (by simp)⟩
theorem onesI_range {m : Nat} {A : Nat → Bool} (hm : m ≤ 1048576) : ∀ x ∈ onesI m A, -9223372036854775808 ≤ x ∧ x ≤ 9223372036854775807 := fun x hx => by
  obtain ⟨i, h1, _, rfl⟩ := onesI_mem.1 hx
  omega
theorem onesI_more {m n : Nat} {A : Nat → Bool} (h : ∀ i, m ≤ i → A i = false) (hn : m ≤ n) : onesI n A = onesI m A := by
  unfold onesI
  rw [onesN_more h hn]
def zBox : Obj := .cells #[.slice none 0 0, .slice none 0 0] 69 (0, 0)
/-- What is left of a term, in a box. -/
def LeftAt (ts us : List Tm) (t : Tm) (w3 wc : World) (s7 : Value) : Prop :=
  ∃ (rb gs ge : Nat) (fs fe : Nat → Nat) (C : List Tm) (ps : List PvM), s7 = .pointer (some ⟨rb, 0, none⟩) ∧ (wc.cell? ⟨rb, 0, none⟩ = some (.slice (some ⟨gs, 0, none⟩) ((C.length + 63) / 64) ((C.length + 63) / 64)) ∧ wc.cell? ⟨rb, 1, none⟩ = some (.slice (some ⟨ge, 0, none⟩) ((ts.length + 63) / 64) ((ts.length + 63) / 64))) ∧
    VRow wc gs ((C.length + 63) / 64) fs ∧ VRow wc ge ((ts.length + 63) / 64) fe ∧ bitV fs = redS (ps.map pvB) (chiP C (addT t)) ∧ bitV fe = redE (ps.map pvB) (chiP C (addT t)) b0 ∧ ColsT C us ∧ Elm (rowV C ts) C.length ts.length (ps.map pvB) ∧ C.length ≤ 1048576 ∧ Ext w3 wc
theorem set2_ext {a W : World} {rb : Nat} {x y : Value} (h : Ext a W) (hle : a.heap.size ≤ rb) : Ext a ((W.setCell ⟨rb, 0, none⟩ x).setCell ⟨rb, 1, none⟩ y) :=
  (h.setCell (p := ⟨rb, 0, none⟩) hle x).setCell (p := ⟨rb, 1, none⟩) hle y
theorem left_new {ts us : List Tm} {t : Tm} {w3 w6 : World} {gs ge : Nat} {fs fe : Nat → Nat} {C : List Tm} {ps : List PvM} (v1 : VRow w6 gs ((C.length + 63) / 64) fs) (v2 : VRow w6 ge ((ts.length + 63) / 64) fe) (e1 : bitV fs = redS (ps.map pvB) (chiP C (addT t))) (e2 : bitV fe = redE (ps.map pvB) (chiP C (addT t)) b0) (hc : ColsT C us) (hm : Elm (rowV C ts) C.length ts.length (ps.map pvB)) (hl : C.length ≤ 1048576) (hx : Ext w3 w6) :
    LeftAt ts us t w3 (w6.alloc (.cells #[.slice (some ⟨gs, 0, none⟩) ((C.length + 63) / 64) ((C.length + 63) / 64), .slice (some ⟨ge, 0, none⟩) ((ts.length + 63) / 64) ((ts.length + 63) / 64)] 69)) (.pointer (some ⟨w6.heap.size, 0, none⟩)) := by
  have hA := (Ext.refl w6).alloc (.cells #[.slice (some ⟨gs, 0, none⟩) ((C.length + 63) / 64) ((C.length + 63) / 64), .slice (some ⟨ge, 0, none⟩) ((ts.length + 63) / 64) ((ts.length + 63) / 64)] 69)
  exact ⟨w6.heap.size, gs, ge, fs, fe, C, ps, rfl, (box2_facts (heap_alloc_new w6 _)).1, v1.ext hA, v2.ext hA, e1, e2, hc, hm, hl, hx.trans hA⟩
theorem left_put {ts us : List Tm} {t : Tm} {w3 w6 : World} {gs ge rb : Nat} {fs fe : Nat → Nat} {C : List Tm} {ps : List PvM} (hz : w6.heap[rb]? = some zBox) (hle : w3.heap.size ≤ rb) (hgs : gs ≠ rb) (hge : ge ≠ rb) (v1 : VRow w6 gs ((C.length + 63) / 64) fs) (v2 : VRow w6 ge ((ts.length + 63) / 64) fe) (e1 : bitV fs = redS (ps.map pvB) (chiP C (addT t))) (e2 : bitV fe = redE (ps.map pvB) (chiP C (addT t)) b0) (hc : ColsT C us) (hm : Elm (rowV C ts) C.length ts.length (ps.map pvB)) (hl : C.length ≤ 1048576) (hx : Ext w3 w6) :
    LeftAt ts us t w3 ((w6.setCell ⟨rb, 0, none⟩ (.slice (some ⟨gs, 0, none⟩) ((C.length + 63) / 64) ((C.length + 63) / 64))).setCell ⟨rb, 1, none⟩ (.slice (some ⟨ge, 0, none⟩) ((ts.length + 63) / 64) ((ts.length + 63) / 64))) (.pointer (some ⟨rb, 0, none⟩)) := by
  obtain ⟨⟨z0, z1⟩, _⟩ := box2_facts hz
  have hfar : ∀ b, b ≠ rb → ((w6.setCell ⟨rb, 0, none⟩ (.slice (some ⟨gs, 0, none⟩) ((C.length + 63) / 64) ((C.length + 63) / 64))).setCell ⟨rb, 1, none⟩ (.slice (some ⟨ge, 0, none⟩) ((ts.length + 63) / 64) ((ts.length + 63) / 64))).heap[b]? = w6.heap[b]? := fun b hb => by
    rw [Below.heap_setCell _ _ _ _ (by simp only; omega), Below.heap_setCell _ _ _ _ (by simp only; omega)]
  refine ⟨rb, gs, ge, fs, fe, C, ps, rfl, ⟨?_, ?_⟩, v1.carry (by simp [World.setCell]) (hfar gs hgs), v2.carry (by simp [World.setCell]) (hfar ge hge), e1, e2, hc, hm, hl, set2_ext hx hle⟩
  · rw [setOtherV (fun e => by simp at e)]; exact setSameV z0
  · exact setSameV (u := .slice none 0 0) (by rw [setOtherV (fun e => by simp at e)]; exact z1)
set_option maxHeartbeats 3200000 in
set_option maxRecDepth 100000 in
theorem Span_any (ts : List Tm) (t : Tm) (xl : Option Addr) (cl : Nat) (c0 c1 c2 c3 : Value) (w : World) (hn : ts.length ≤ 1000000) (hsz : sizes ts + size t ≤ 1048576) (hcl : ts.length ≤ cl) (hT : TabQ w) (hL : Row w ts xl) (hI : Is w t c0 c1 c2 c3) :
    Calls Tryz.prog 21 #[.slice xl ts.length cl, .agg #[c0, c1, c2, c3]] w (SpanPost ts t w) := by
  obtain ⟨k2, m2, s2, ya2, yl2, yc2, rfl, rfl, rfl, rfl⟩ := Is_form hI
  have hB1 : Ext w (w.alloc (.cells #[.int .i64 k2, .string m2, .int .i64 s2, .slice ya2 yl2 yc2] 26)) := (Ext.refl _).alloc _
  have HBK : Hid (∀ W, Ext (w.alloc (.cells #[.int .i64 k2, .string m2, .int .i64 s2, .slice ya2 yl2 yc2] 26)) W → W.cell? ⟨w.heap.size, 0, none⟩ = some (.int .i64 k2) ∧ W.cell? ⟨w.heap.size, 1, none⟩ = some (.string m2) ∧ W.cell? ⟨w.heap.size, 2, none⟩ = some (.int .i64 s2) ∧ W.cell? ⟨w.heap.size, 3, none⟩ = some (.slice ya2 yl2 yc2)) := by
    show ∀ _, _
    intro W x
    have hh := x.block w.heap.size (by simp)
    rw [heap_alloc_new] at hh
    exact (box_facts hh).1
  obtain ⟨b0', b1', b2', b3'⟩ := HBK.out _ (Ext.refl _)
  have hszt : size t ≤ 1048576 := by omega
  have hmem : ∀ u ∈ ts, size u ≤ 1048576 := fun u hu => by have := size_le_sizes hu; omega
  have HSE := Lib.hid (spanError_any ts t xl cl _ _ _ _ _ (by omega) (fun u hu => by have := hmem u hu; omega) (by omega) (Row_below hL hB1) (Is_below hI hB1))
  have happ : ∀ (l : List Tm) (u : Tm), sizes (l ++ [u]) = sizes l + size u := by
    intro l u
    induction l with
    | nil => simp [sizes]
    | cons x l ih => rw [List.cons_append, sizes, sizes, ih]; omega
  have HEL : Hid (∀ W x, Ext w W → Row W [t] x → Calls Tryz.prog 45 #[.slice xl ts.length cl, .slice x 1 1] W (EliPost ts (ts ++ [t]) W)) := by
    show ∀ _, _
    intro W x y r
    exact eliminate_any ts [t] (ts ++ [t]) xl x cl 1 W rfl (by simp; omega) (by rw [happ]; omega) hcl (by simp) (hT.ext y) (Row_below hL y) r
  have HRW : Hid (∀ W H, Ext w W → W.heap.size = H → Row (W.alloc (.cells #[.int .i64 k2, .string m2, .int .i64 s2, .slice ya2 yl2 yc2] 26)) [t] (some ⟨H, 0, none⟩)) := fun W H x hH => Row_one_at H hH (Is_below hI x) _
  have HTI := Lib.hid (fun W (x : Ext w W) => Is_below (w' := W) hI x)
  have HT := Lib.hid hT
  have HB1 := Lib.hid hB1
  have HN := Lib.hid hn
  have HZ := Lib.hid hszt
  obtain ⟨VE, hVE⟩ : ∃ VE, vE ts t = VE := ⟨_, rfl⟩
  rw [hVE] at HSE
  have HVE := Lib.hid hVE
  clear hL hI hB1 hsz hszt hmem happ hT hVE hcl
  by_cases hv : VE = 0
  rotate_left
  · have q0 : (VE != 0) = true := bne_iff_ne.2 hv
    have HQ : Hid (∀ W, Ext w W → SpanPost ts t w (.returned (.tuple #[.slice none 0 0, .int .i64 VE])) W) := fun W x => ⟨[], VE, _, rfl, Or.inl ⟨by rw [HVE.out]; exact hv, HVE.out.symm, rfl⟩, Nat.zero_le _, IntsV_none _, x⟩
    clear hv
    go_enter Tryz.func21, Tryz.ntmps21
    go_wp2_with (go_at_call 47; refine (HSE.out).mono ?_; rintro e w3 ⟨he, hB⟩; subst he; have HX3 := Lib.hid (HB1.out.trans hB); clear hB)
    exact bodyPost_ret (v := .tuple #[.slice none 0 0, .int .i64 VE]) (by simp [results, Tryz.results21, go_sem]) rfl (HQ.out _ HX3.out)
  subst hv
  have q0 : ((0 : Int) != 0) = false := rfl
  go_enter Tryz.func21, Tryz.ntmps21
  go_upto_region 4 with (go_at_call 47; refine (HSE.out).mono ?_; rintro e w3 ⟨he, hB⟩; subst he; obtain ⟨b0', b1', b2', b3'⟩ := HBK.out _ hB; have HX3 := Lib.hid hB; clear hB)
  have hF0 : Ext w3 w3.drew := (Ext.refl w3).drew
  have HE3 : Hid (Ext w w3) := Lib.hid (HB1.out.trans HX3.out)
  have HE3L := Lib.hid (fun W x (y : Ext w3 W) (r : Row W [t] x) => (HEL.out W x (HE3.out.trans y) r).mono (R' := fun e w' => ∃ eb C ps v, e = .returned (.pointer (some ⟨eb, 0, none⟩)) ∧ Found ts (ts ++ [t]) W eb C ps v w' ∧ Ext w3 w') (fun e w' ⟨eb, C, ps, v, he, hf⟩ => ⟨eb, C, ps, v, he, hf, y.trans hf.ext⟩))
  have HRD := Lib.hid (fun (W0 w5 W : World) eb C ps v (hf : Found ts (ts ++ [t]) W0 eb C ps v w5) (y : Ext w3 w5) (z : Ext w5 W) => (reduced_any eb _ _ ts.length C ps v t (.int .i64 k2) (.string m2) (.int .i64 s2) (.slice ya2 yl2 yc2) W rfl rfl (by have := HN.out; omega) (by have := hf.len; have := HN.out; omega) (hf.el.ext z) HZ.out (fun u hu => (hf.cols.mem u).2 ⟨t, by simp, hu⟩) (HTI.out _ ((HE3.out.trans y).trans z))))
  have HR1 := Lib.hid (Row_below (HRW.out w3 _ HE3.out rfl) ((Ext.refl _).drew))
  have HR3 := Lib.hid (Row_below (HRW.out w3 _ HE3.out rfl) (((Ext.refl _).alloc (.cells #[.slice none 0 0, .slice none 0 0] 69)).drew))
  have HR4 : Hid (Row (((w3.alloc (.cells #[.slice none 0 0, .slice none 0 0] 69)).alloc (.cells #[.int .i64 k2, .string m2, .int .i64 s2, .slice ya2 yl2 yc2] 26)).drew) [t] (some ⟨w3.heap.size + 1, 0, none⟩)) := Row_below (HRW.out (w3.alloc (.cells #[.slice none 0 0, .slice none 0 0] 69)) _ (HE3.out.alloc _) (by rw [World.size_alloc])) ((Ext.refl _).drew)
  have HZ3 : Hid ((((w3.alloc (.cells #[.int .i64 k2, .string m2, .int .i64 s2, .slice ya2 yl2 yc2] 26)).alloc (.cells #[.slice none 0 0, .slice none 0 0] 69)).drew).heap[w3.heap.size + 1]? = some zBox) := by
    have := heap_alloc_new (w3.alloc (.cells #[.int .i64 k2, .string m2, .int .i64 s2, .slice ya2 yl2 yc2] 26)) (.cells #[.slice none 0 0, .slice none 0 0] 69)
    rw [World.size_alloc] at this
    exact this
  have HZ4 : Hid ((((w3.alloc (.cells #[.slice none 0 0, .slice none 0 0] 69)).alloc (.cells #[.int .i64 k2, .string m2, .int .i64 s2, .slice ya2 yl2 yc2] 26)).drew).heap[w3.heap.size]? = some zBox) := by
    have := ((Ext.refl (w3.alloc (.cells #[.slice none 0 0, .slice none 0 0] 69))).alloc (.cells #[.int .i64 k2, .string m2, .int .i64 s2, .slice ya2 yl2 yc2] 26)).block w3.heap.size (by simp)
    exact this.trans (heap_alloc_new w3 (.cells #[.slice none 0 0, .slice none 0 0] 69))
  go_cut [7] (fun s7 wc => LeftAt ts (ts ++ [t]) t w3 wc s7)
  case first =>
    go_region_held3 (fun W => W.cell? ⟨w.heap.size, 0, none⟩ = some (.int .i64 k2) ∧ W.cell? ⟨w.heap.size, 1, none⟩ = some (.string m2) ∧ W.cell? ⟨w.heap.size, 2, none⟩ = some (.int .i64 s2) ∧ W.cell? ⟨w.heap.size, 3, none⟩ = some (.slice ya2 yl2 yc2))
      (first | exact HBK.out _ (HX3.out.trans (by assumption)) | exact HBK.out _ (HX3.out.trans (Ext.alloc (by assumption) _)) | exact HBK.out _ (HX3.out.trans (set2_ext hF2 HLE.out)) | go_keep)
      (first
        | (go_at_call 45; refine (HE3L.out _ _ (by first | exact ((Ext.refl w3).alloc _).drew | exact (((Ext.refl w3).alloc _).alloc _).drew) (by first | exact HR1.out | exact HR3.out | exact HR4.out)).mono ?_; rintro e w5 ⟨eb, C, ps, v, he, hf, hF1⟩; subst he; (first | (have HY3 := Lib.hid ((hf.ext.block (w3.heap.size + 1) (by first | (simp; omega) | simp)).trans HZ3.out)) | (have HY4 := Lib.hid ((hf.ext.block w3.heap.size (by first | (simp; omega) | simp)).trans HZ4.out)) | skip); have HF5 := Lib.hid hf; clear hf)
        | (go_at_call 48; refine (HRD.out _ _ _ _ _ _ _ HF5.out hF1 (by first | exact Ext.refl _ | exact (Ext.refl _).alloc _)).mono ?_; rintro e w6 ⟨gs, ge, fs6, fe6, he, hg1, hg2, hg3, hv1, hv2, hb1, hb2, hx⟩; subst he; have hF2 : Ext w3 w6 := Ext.trans (Ext.trans hF1 (by first | exact Ext.refl _ | exact (Ext.refl _).alloc _)) hx;
           (first
             | (have hy := (hx.block (w3.heap.size + 1) (Array.getElem?_eq_some_iff.1 HY3.out).1).trans HY3.out; have hle := (Array.getElem?_eq_some_iff.1 HY3.out).1; have HLE : Hid (w3.heap.size ≤ w3.heap.size + 1) := Lib.hid (Nat.le_succ _); have HO := Lib.hid (left_put hy (Nat.le_succ _) (by omega) (by omega) hv1 hv2 hb1 hb2 HF5.out.cols HF5.out.elm HF5.out.el.len hF2); obtain ⟨⟨z0, z1⟩, zf⟩ := box2_facts hy; have zf0 := zf 0; have zf1 := zf 1; clear zf hy hle)
             | (have hy := (hx.block w3.heap.size (Array.getElem?_eq_some_iff.1 HY4.out).1).trans HY4.out; have hle := (Array.getElem?_eq_some_iff.1 HY4.out).1; have HLE : Hid (w3.heap.size ≤ w3.heap.size) := Lib.hid (Nat.le_refl _); have HO := Lib.hid (left_put hy (Nat.le_refl _) (by omega) (by omega) hv1 hv2 hb1 hb2 HF5.out.cols HF5.out.elm HF5.out.el.len hF2); obtain ⟨⟨z0, z1⟩, zf⟩ := box2_facts hy; have zf0 := zf 0; have zf1 := zf 1; clear zf hy hle)
             | (have hy := (hx.block w5.heap.size (by simp)).trans (heap_alloc_new w5 (.cells #[.slice none 0 0, .slice none 0 0] 69)); rw [World.size_alloc] at hg1 hg2; have HLE : Hid (w3.heap.size ≤ w5.heap.size) := Lib.hid hF1.size; have HO := Lib.hid (left_put hy hF1.size (by omega) (by omega) hv1 hv2 hb1 hb2 HF5.out.cols HF5.out.elm HF5.out.el.len hF2); obtain ⟨⟨z0, z1⟩, zf⟩ := box2_facts hy; have zf0 := zf 0; have zf1 := zf 1; clear zf hy)
             | (have HO := Lib.hid (left_new hv1 hv2 hb1 hb2 HF5.out.cols HF5.out.elm HF5.out.el.len hF2)));
           clear hv1 hv2 hb1 hb2 hg1 hg2 hg3 hx))
    all_goals go_wp2_with fail
    all_goals go_meet
    all_goals exact HO.out
  case rest =>
    obtain ⟨H, gs, ge, fs6, fe6, C, ps, he7, hr, hv1, hv2, hb1, hb2, hcc, hmm, hcl, hx7⟩ := hcut
    subst he7
    obtain ⟨n1, hn1⟩ : ∃ n1, (C.length + 63) / 64 = n1 := ⟨_, rfl⟩
    obtain ⟨n2, hn2⟩ : ∃ n2, (ts.length + 63) / 64 = n2 := ⟨_, rfl⟩
    have hnl := HN.out
    have hn64 : C.length ≤ n1 * 64 := by omega
    have hn264 : ts.length ≤ n2 * 64 := by omega
    have hn2l : n2 ≤ 1048576 := by omega
    have hn1l : n1 ≤ 1048576 := by omega
    rw [hn1] at hr hv1
    rw [hn2] at hr hv2
    obtain ⟨r0, r1⟩ := hr
    have HE7 : Hid (Ext w wc) := Lib.hid (HE3.out.trans hx7)
    have hsupp : ∀ i, C.length ≤ i → chiP C (addT t) i = false := fun i hi => chiP_supp _ _ _ hi
    have HFI := Lib.hid (first_any gs n1 n1 fs6 wc hn1l hv1.2.2 (HT.out.ext HE7.out))
    have HON := Lib.hid (ones_any ge n2 n2 fe6 wc hn2l hv2.1 hv2.2.2 (HT.out.ext HE7.out))
    have HFB := Lib.hid (fun e (h : FirstV n1 fs6 e) => first_bits h hb1 (hmm.red_supp hsupp) hn64)
    have hone : onesI (n2 * 64) (bitV fe6) = onesI ts.length (redE (ps.map pvB) (chiP C (addT t)) b0) := by
      rw [hb2]
      exact onesI_more (fun i hi => hmm.redE_few _ i hi) hn264
    rw [hone] at HON
    have hC1 : ∀ x ∈ ts, ∀ u ∈ summT x, u ∈ C := fun x hx u hu => (hcc.mem u).2 ⟨x, List.mem_append_left _ hx, hu⟩
    have hC2 : ∀ u ∈ summT t, u ∈ C := fun u hu => (hcc.mem u).2 ⟨t, by simp, hu⟩
    have HYES : Hid (redS (ps.map pvB) (chiP C (addT t)) = b0 → ∀ W v, OwnI wc.heap.size W (onesI ts.length (redE (ps.map pvB) (chiP C (addT t)) b0)) v → Ext wc W → SpanPost ts t w (.returned (.tuple #[v, .int .i64 0])) W) := by
      show _ → _
      intro h0 W v ho x
      have hl := onesI_len ts.length (redE (ps.map pvB) (chiP C (addT t)) b0)
      exact ⟨_, 0, v, rfl, Or.inr (Or.inl ⟨HVE.out, rfl, span_found hC1 hC2 HVE.out hmm h0⟩), hl, intsV_own ho (onesI_range (by omega)) (by unfold maxLen; omega), HE7.out.trans x⟩
    have HNO : Hid (∀ c, redS (ps.map pvB) (chiP C (addT t)) c = true → SpanPost ts t w (.returned (.tuple #[.slice none 0 0, .int .i64 4])) wc) := by
      show ∀ _, _
      intro c hc
      exact ⟨[], 4, _, rfl, Or.inr (Or.inr ⟨HVE.out, rfl, rfl, span_none hC1 hC2 HVE.out hmm (fun e => by rw [e] at hc; cases hc)⟩), Nat.zero_le _, IntsV_none _, HE7.out⟩
    clear hn1 hn2 hF0 hsupp hone hC1 hC2 hcl hnl hv1 hv2 hb1 hb2 hcc hmm hx7
    go_upto_region 6 with (go_at_call 49; refine (HFI.out).mono ?_; rintro e w8 ⟨hf, hw⟩; subst hw; rcases HFB.out _ hf with ⟨he, hz⟩ | ⟨c, he, hc1, hc2⟩ <;> subst he)
    · have HY := Lib.hid (HYES.out hz)
      clear hf hz
      go_wp2_with (go_at_call 50; refine (HON.out).mono ?_; rintro e w9 ⟨v9, he, ho, hx⟩; subst he; have HQ := Lib.hid (HY.out _ _ ho hx); clear ho hx)
      exact bodyPost_ret (v := .tuple #[v9, .int .i64 0]) (by simp [results, Tryz.results21, go_sem]) rfl HQ.out
    · have HQ := Lib.hid (HNO.out c hc2)
      have q7 : ((c : Int) != -1) = true := by rw [bne_iff_ne]; omega
      clear hf hc2
      go_wp2_with fail
      exact bodyPost_ret (v := .tuple #[.slice none 0 0, .int .i64 4]) (by simp [results, Tryz.results21, go_sem]) rfl HQ.out
end Go.Proofs.YtakeopjpmfgngaaGreatDoor
