/-
  THE WALKS OF the reference's zero, Term, valid and Sum.
-/
import Derived.Test.YtfbomoginjknlaaGreatDoorQparts
namespace Go.Proofs.YtfbomoginjknlaaGreatDoor
open Go.RowKit Go.Lib

def zroT : Tm := .mk 3 ⟨#[122, 101, 114, 111]⟩ 0 []
theorem zroT_in (S : Nat → Prop) (w : World) (x : Option Addr) (c : Nat) : IsIn S w zroT (.int .i64 3) (.string ⟨#[122, 101, 114, 111]⟩) (.int .i64 0) (.slice x 0 c) := by
  simp only [zroT, IsIn]
  exact ⟨trivial, trivial, trivial, by omega, by omega, by simp [ByteArray.size, maxLen], by simp, x, c, rfl, Nat.zero_le _, by simp [RowIn]⟩
/-- What gives back zero(). -/
def ZrPost (w : World) (e : Ending) (w' : World) : Prop := ∃ x, e = .returned (.agg #[.int .i64 3, .string ⟨#[122, 101, 114, 111]⟩, .int .i64 0, .slice x 0 0]) ∧ Ext w w'
set_option maxHeartbeats 1600000 in
set_option maxRecDepth 100000 in
theorem azero_any (w : World) :
    Calls Tryz.prog 30 #[.string ⟨#[122, 101, 114, 111]⟩, .slice none 0 0] w (ZrPost w) := by
  obtain ⟨i0, hi0, hz0, hz1, hz2⟩ := info_parts info24
  have HI0 := Lib.hid (And.intro hi0 (And.intro hz0 (And.intro hz1 hz2)))
  clear hi0 hz0 hz1 hz2
  go_enter Tryz.func30, Tryz.ntmps30
  go_wp2_with (at_builtin; refine wpList_append_zeroQ rfl _ _ 22 rfl 26 i0 Tryz.underlying22 HI0.out.1 (some ⟨w.heap.size + 1, 0, none⟩) 0 0 (by first | rfl | simp) none 0 rfl (Nat.le_refl _) ?_)
  exact bodyPost_ret (v := .agg #[.int .i64 3, .string ⟨#[122, 101, 114, 111]⟩, .int .i64 0, .slice (some ⟨w.heap.size + 1, 0, none⟩) 0 0]) (by simp [results, Tryz.results30, go_sem]) rfl ⟨_, rfl, ((Ext.refl w).alloc _).alloc _⟩
set_option maxHeartbeats 1600000 in
set_option maxRecDepth 100000 in
theorem rzero_any (w : World) : Calls Tryz.prog 39 #[] w (ZrPost w) := by
  have hB0 : Ext w (w.alloc (.cells #[.int .i64 0, .string ⟨#[]⟩, .int .i64 0, .slice none 0 0] 26)) := (Ext.refl _).alloc _
  have hb1 := heap_alloc_new w (.cells #[.int .i64 0, .string ⟨#[]⟩, .int .i64 0, .slice none 0 0] 26)
  have HA := Lib.hid (azero_any (w.alloc (.cells #[.int .i64 0, .string ⟨#[]⟩, .int .i64 0, .slice none 0 0] 26)))
  unfold ZrPost at HA
  have HB0 := Lib.hid hB0
  have HB1 := Lib.hid hb1
  clear hB0 hb1
  go_enter Tryz.func39, Tryz.ntmps39
  go_wp2_with (go_at_call 30; refine (HA.out).mono ?_; rintro e w3 ⟨x3, he, hB⟩; subst he; have hbx := (hB.block w.heap.size (by simp)).trans HB1.out; have HX3 := Lib.hid (HB0.out.trans hB); obtain ⟨⟨m0, m1, m2, m3⟩, n0, n1, n2, n3⟩ := box_facts hbx; clear hB hbx)
  exact bodyPost_ret (v := .agg #[.int .i64 3, .string ⟨#[122, 101, 114, 111]⟩, .int .i64 0, .slice x3 0 0]) (by simp [results, Tryz.results39, go_sem, m0, m1, m2, m3]) rfl ⟨x3, rfl, put4_below (w' := w3) (g := w.heap.size) (o := 0) HX3.out (Nat.le_refl _)⟩
/-- The error of a list and a term, as the reference says it. -/
def vE (ts : List Tm) (t : Tm) : Int := if 200 < ts.length then 3 else if firstE ts = 0 then validE t else firstE ts
theorem vE_zro (ts : List Tm) : vE ts zroT = listE ts := by
  have : validE zroT = 0 := by rfl
  unfold vE listE
  rw [this]
  split
  · rfl
  · split
    · rename_i h; exact h.symm
    · rfl
set_option maxHeartbeats 1600000 in
set_option maxRecDepth 100000 in
theorem rvalid_any (ts : List Tm) (t : Tm) (xa : Option Addr) (cap : Nat) (c0 c1 c2 c3 : Value) (w : World) (hn : ts.length ≤ 1048576) (hsz : ∀ u ∈ ts, size u ≤ 1073741824) (hst : size t ≤ 1073741824) (hR : Row w ts xa) (hI : Is w t c0 c1 c2 c3) :
    Calls Tryz.prog 38 #[.slice xa ts.length cap, .agg #[c0, c1, c2, c3]] w fun e w' => e = .returned (.int .i64 (vE ts t)) ∧ Ext w w' := by
  obtain ⟨k2, n2, s2, ya2, yl2, yc2, rfl, rfl, rfl, rfl⟩ := Is_form hI
  have hB1 : Ext w (w.alloc (.cells #[.int .i64 k2, .string n2, .int .i64 s2, .slice ya2 yl2 yc2] 26)) := (Ext.refl _).alloc _
  have HBK : Hid (∀ W, Ext (w.alloc (.cells #[.int .i64 k2, .string n2, .int .i64 s2, .slice ya2 yl2 yc2] 26)) W → W.cell? ⟨w.heap.size, 0, none⟩ = some (.int .i64 k2) ∧ W.cell? ⟨w.heap.size, 1, none⟩ = some (.string n2) ∧ W.cell? ⟨w.heap.size, 2, none⟩ = some (.int .i64 s2) ∧ W.cell? ⟨w.heap.size, 3, none⟩ = some (.slice ya2 yl2 yc2)) := by
    show ∀ _, _
    intro W x
    have hh := x.block w.heap.size (by simp)
    rw [heap_alloc_new] at hh
    exact (box_facts hh).1
  have HVT := Lib.hid (fun W (x : Ext w W) => rValid_any t _ _ _ _ W hst (Is_below (w' := W) hI x))
  have HR := Lib.hid hR
  have HSZ := Lib.hid hsz
  have HB1 := Lib.hid hB1
  clear hR hsz hI hB1
  by_cases h2 : 200 < ts.length
  · have H : Hid (vE ts t = 3) := by show _ = _; rw [vE, if_pos h2]
    go_enter Tryz.func38, Tryz.ntmps38
    go_wp2_with fail
    go_ret
    exact ⟨by rw [H.out]; rfl, HB1.out⟩
  have HL : Hid (vE ts t = if firstE ts = 0 then validE t else firstE ts) := by show _ = _; rw [vE, if_neg h2]
  go_enter Tryz.func38, Tryz.ntmps38
  go_wp2_with fail
  go_loopw [5] (fun i wr => ∃ j : Nat, j ≤ ts.length ∧ i = .int .i64 j ∧ Hid (firstE ts = firstE (ts.drop j)) ∧ Ext (w.alloc (.cells #[.int .i64 k2, .string n2, .int .i64 s2, .slice ya2 yl2 yc2] 26)) wr) (fun i _ => ts.length - (intOf i).toNat)
  case atStart => exact ⟨0, Nat.zero_le _, rfl, rfl, Ext.refl _⟩
  case round =>
    obtain ⟨j, hj, rfl, HD, hX⟩ := hrel
    have HX := Lib.hid hX
    have HXW := Lib.hid (HB1.out.trans hX)
    by_cases hlt : j < ts.length
    rotate_left
    · have hjl : ts.drop j = [] := List.drop_eq_nil_of_le (by omega)
      have HD3 : Hid (vE ts t = validE t) := by show _ = _; rw [HL.out, HD.out, hjl]; rfl
      obtain ⟨b0, b1, b2, b3⟩ := HBK.out _ hX
      clear hjl hX
      go_wp2_with (go_at_call 43; refine (HVT.out _ HXW.out).mono ?_; rintro e w4 ⟨he, hB⟩; subst he; have HB := Lib.hid hB; clear hB)
      go_ret
      exact ⟨by rw [HD3.out]; rfl, HXW.out.trans HB.out⟩
    obtain ⟨kb, ko, rfl⟩ := Row_at HR.out (by omega)
    obtain ⟨x0, x1, x2, x3, p0, p1, p2, p3, hKI⟩ := Row_get (Row_below HR.out HXW.out) j hlt
    obtain ⟨k1, n1, s1, ya1, yl1, yc1, rfl, rfl, rfl, rfl⟩ := Is_form hKI
    have HC := Lib.hid (rValid_any ts[j] _ _ _ _ wr (HSZ.out _ (List.getElem_mem hlt)) hKI)
    have hd := firstE_drop ts j hlt
    have i1 : (0 : Int) ≤ (j : Int) := by omega
    have i2 : (j : Int) < (ts.length : Int) := by omega
    generalize validE ts[j] = E at HC hd
    by_cases h0 : E = 0
    · have q0 : (E != 0) = false := by simp [h0]
      have HD3 : Hid (firstE ts = firstE (ts.drop (j + 1))) := by show _ = _; rw [HD.out, hd, if_pos h0]
      clear hd hX hKI h0
      go_wp2_with (go_at_call 43; refine (HC.out).mono ?_; rintro e w4 ⟨he, hB⟩; subst he; have HB := Lib.hid hB; clear hB)
      go_roundw
      case rel => exact ⟨j + 1, by omega, by go_num, HD3, HX.out.trans HB.out⟩
      case measure => simp [intOf]; omega
    · have q0 : (E != 0) = true := bne_iff_ne.2 h0
      have HD3 : Hid (vE ts t = E) := by show _ = _; rw [HL.out, HD.out, hd, if_neg h0, if_neg h0]
      clear hd hX hKI h0
      go_wp2_with (go_at_call 43; refine (HC.out).mono ?_; rintro e w4 ⟨he, hB⟩; subst he; have HB := Lib.hid hB; clear hB)
      go_ret
      exact ⟨by rw [HD3.out]; rfl, HXW.out.trans HB.out⟩
/-- A term given back by value that lies in the arguments' blocks and new ones. -/
def TbPost (base : Nat) (w : World) (t : Tm) (e : Ending) (w' : World) : Prop :=
  ∃ k n s xa l c, e = .returned (.agg #[.int .i64 k, .string n, .int .i64 s, .slice xa l c]) ∧ IsIn (fun b => b < base ∨ (w.heap.size < b ∧ b < w'.heap.size)) w' t (.int .i64 k) (.string n) (.int .i64 s) (.slice xa l c) ∧ Ext w w'
theorem put4_in {S : Nat → Prop} {w : World} {t : Tm} {c0 c1 c2 c3 d0 d1 d2 d3 : Value} {g : Nat} (hg : ¬ S g) (h : IsIn S w t c0 c1 c2 c3) : IsIn S (put4 w g 0 d0 d1 d2 d3) t c0 c1 c2 c3 :=
  IsIn_carry (fun q hq => put4_other _ _ _ _ _ _ _ _ (fun (e : q = g) => hg (by rw [← e]; exact hq))) (fun _ h => h) _ _ _ _ _ h
set_option maxHeartbeats 3200000 in
set_option maxRecDepth 100000 in
theorem qTerm_any (base : Nat) (l : List Tm) (v : Value) (w : World) (hbw : base ≤ w.heap.size) (hl : l.length ≤ 1048576) (hE : Elems (fun b => b < base) w l v) :
    Calls Tryz.prog 42 #[v] w (TbPost base w (sumTm l)) := by
  have hB0 : Ext w (w.alloc (.cells #[.int .i64 0, .string ⟨#[]⟩, .int .i64 0, .slice none 0 0] 26)) := (Ext.refl _).alloc _
  have hZ : (w.alloc (.cells #[.int .i64 0, .string ⟨#[]⟩, .int .i64 0, .slice none 0 0] 26)).heap.size = w.heap.size + 1 := World.size_alloc _ _
  have hb1 := heap_alloc_new w (.cells #[.int .i64 0, .string ⟨#[]⟩, .int .i64 0, .slice none 0 0] 26)
  have HBK : Hid (∀ W, Ext (w.alloc (.cells #[.int .i64 0, .string ⟨#[]⟩, .int .i64 0, .slice none 0 0] 26)) W → W.heap[w.heap.size]? = some (.cells #[.int .i64 0, .string ⟨#[]⟩, .int .i64 0, .slice none 0 0] 26 (0, 0))) := by
    show ∀ _, _
    intro W x
    rw [x.block _ (by omega)]; exact hb1
  have HFI : Hid (∀ (W : World) k n s x m c, Ext w W → IsIn (fun b => b < base ∨ (w.heap.size < b ∧ b < W.heap.size)) W (sumTm l) (.int .i64 k) (.string n) (.int .i64 s) (.slice x m c) → TbPost base w (sumTm l) (.returned (.agg #[.int .i64 k, .string n, .int .i64 s, .slice x m c])) (put4 W w.heap.size 0 (.int .i64 k) (.string n) (.int .i64 s) (.slice x m c))) := by
    show ∀ _, _
    intro W k n s x m c hW h
    exact ⟨_, _, _, _, _, _, rfl, IsIn_carry (fun q (hq : q < base ∨ (w.heap.size < q ∧ q < W.heap.size)) => put4_other _ _ _ _ _ _ _ _ (by omega)) (fun q (hq : q < base ∨ (w.heap.size < q ∧ q < W.heap.size)) => by rw [put4_size]; exact hq) _ _ _ _ _ h, put4_below hW (Nat.le_refl _)⟩
  obtain ⟨xa, cap, rfl, _, _, _⟩ := Elems_row hE
  have HEL := Lib.hid hE
  have HB0 := Lib.hid hB0
  have HZ := Lib.hid hZ
  by_cases h0 : l.length = 0
  · have e0 : l = [] := List.length_eq_zero_iff.1 h0
    subst e0
    have HA := Lib.hid (azero_any (w.alloc (.cells #[.int .i64 0, .string ⟨#[]⟩, .int .i64 0, .slice none 0 0] 26)))
    unfold ZrPost at HA
    clear h0 hE hB0 hZ hb1
    go_enter Tryz.func42, Tryz.ntmps42
    go_wp2_with (go_at_call 30; refine (HA.out).mono ?_; rintro e w3 ⟨x3, he, hB⟩; subst he; have hbx := HBK.out _ hB; have HF := Lib.hid (HFI.out w3 3 ⟨#[122, 101, 114, 111]⟩ 0 x3 0 0 (HB0.out.trans hB) (zroT_in _ _ _ _)); obtain ⟨⟨m0, m1, m2, m3⟩, n0, n1, n2, n3⟩ := box_facts hbx; clear hB hbx)
    exact bodyPost_ret (v := .agg #[.int .i64 3, .string ⟨#[122, 101, 114, 111]⟩, .int .i64 0, .slice x3 0 0]) (by simp [results, Tryz.results42, go_sem, m0, m1, m2, m3]) rfl HF.out
  have q0 : ((l.length : Int) == 0) = false := beq_eq_false_iff_ne.2 (by omega)
  by_cases h1 : l.length = 1
  · obtain ⟨t, rfl⟩ := List.length_eq_one_iff.1 h1
    obtain ⟨b, o, cap2, c0, c1, c2, c3, e, x0, x1, x2, x3, hI⟩ := Elems_get hE 0 (by simp)
    simp only [Value.slice.injEq] at e
    obtain ⟨rfl, _, rfl⟩ := e
    simp only [Nat.zero_mul, Nat.add_zero, List.getElem_cons_zero] at x0 x1 x2 x3 hI
    obtain ⟨k, n, s, ya, yl, yc, rfl, rfl, rfl, rfl⟩ := IsIn_form hI
    obtain ⟨⟨m0, m1, m2, m3⟩, _⟩ := box_facts (heap_alloc_new w (.cells #[.int .i64 k, .string n, .int .i64 s, .slice ya yl yc] 26))
    have HF : Hid (TbPost base w (sumTm [t]) (.returned (.agg #[.int .i64 k, .string n, .int .i64 s, .slice ya yl yc])) (w.alloc (.cells #[.int .i64 k, .string n, .int .i64 s, .slice ya yl yc] 26))) := ⟨_, _, _, _, _, _, rfl, IsIn_carry (fun q (hq : q < base) => Below.heap_alloc w _ q (by omega)) (fun q hq => Or.inl hq) _ _ _ _ _ hI, (Ext.refl w).alloc _⟩
    have y0 := keep_below hB0 _ _ x0
    have y1 := keep_below hB0 _ _ x1
    have y2 := keep_below hB0 _ _ x2
    have y3 := keep_below hB0 _ _ x3
    clear h0 h1 hE hl hI hB0 hZ hb1 HFI HBK
    go_enter Tryz.func42, Tryz.ntmps42
    go_wp2_with fail
    exact bodyPost_ret (v := .agg #[.int .i64 k, .string n, .int .i64 s, .slice ya yl yc]) (by simp [results, Tryz.results42, go_sem, m0, m1, m2, m3]) rfl HF.out
  have hs : sumTm l = .mk 3 ⟨#[120, 111, 114]⟩ 0 l := by
    cases l with
    | nil => exact absurd rfl h0
    | cons t l => cases l with
      | nil => exact absurd rfl h1
      | cons u l => rfl
  have q1 : ((l.length : Int) == 1) = false := beq_eq_false_iff_ne.2 (by omega)
  have HAP : Hid (∀ W v', OwnT (w.heap.size + 1) (fun b => b < base) W l v' → ∃ xo co, v' = .slice xo l.length co ∧ IsIn (fun b => b < base ∨ (w.heap.size < b ∧ b < W.heap.size)) W (sumTm l) (.int .i64 3) (.string ⟨#[120, 111, 114]⟩) (.int .i64 0) (.slice xo l.length co)) := by
    show ∀ _, _
    intro W v' h
    obtain ⟨xo, co, rfl⟩ := OwnT_form h
    refine ⟨xo, co, rfl, ?_⟩
    rw [hs]
    have hlt := OwnT_lt h
    obtain ⟨cs, ho, hK⟩ := h
    exact IsIn_app (by simp [ByteArray.size, maxLen]) ho hK (fun b hb => Or.inl hb) (fun g hg => Or.inr (by have := (hlt g hg); omega))
  clear h0 h1 hE hB0 hZ hb1 hs
  go_enter Tryz.func42, Tryz.ntmps42
  go_wp2_with (at_builtin; refine wpList_copy_tm rfl _ _ rfl hbw HEL.out HB0.out (by omega) (by simp only [World.size_alloc]; rfl) rfl ?_; intro v3 w3 hO3 hE3; rw [HZ.out] at hO3; obtain ⟨xo, co, hv, hI3⟩ := HAP.out _ _ hO3; subst hv; have HF := Lib.hid (HFI.out w3 _ _ _ _ _ _ (HB0.out.trans hE3) hI3); have hbx := HBK.out _ hE3; obtain ⟨⟨m0, m1, m2, m3⟩, n0, n1, n2, n3⟩ := box_facts hbx; clear hO3 hE3 hI3 hbx)
  exact bodyPost_ret (v := .agg #[.int .i64 3, .string ⟨#[120, 111, 114]⟩, .int .i64 0, .slice xo l.length co]) (by simp [results, Tryz.results42, go_sem, m0, m1, m2, m3]) rfl HF.out
/-- A term given back by value with an error, wherever it lies. -/
def TrPost (w : World) (r : Tm × Int) (e : Ending) (w' : World) : Prop :=
  ∃ k n s xa l c, e = .returned (.tuple #[.agg #[.int .i64 k, .string n, .int .i64 s, .slice xa l c], .int .i64 r.2]) ∧ Is w' r.1 (.int .i64 k) (.string n) (.int .i64 s) (.slice xa l c) ∧ Ext w w'
theorem TePost.weak {w : World} {r : Tm × Int} {e : Ending} {w' : World} (h : TePost w r e w') : TrPost w r e w' := by
  obtain ⟨k, n, s, xa, l, c, h1, h2, h3⟩ := h
  exact ⟨k, n, s, xa, l, c, h1, IsIn_Is _ _ _ _ _ h2, h3⟩
theorem nodesL_valid : ∀ {l : List Tm}, (∀ t ∈ l, validE t = 0) → nodesL l = 0 := fun h => nodesL_all fun t ht => by
  have := h t ht
  unfold validE at this
  by_cases h0 : nodesE t = 0
  · exact h0
  · rw [if_neg h0] at this; exact absurd this h0
theorem sumP_eq (ts : List Tm) : sumP ts = if listE ts = 0 then (if validE (sumTm (sumsR ts)) = 0 then (sumTm (sumsR ts), 0) else (zilT, 3)) else (zilT, listE ts) := by
  unfold sumP
  by_cases h0 : listE ts = 0
  · rw [if_pos h0, if_pos h0]
    by_cases hv : validE (sumTm (sumsR ts)) = 0
    · rw [if_pos hv, if_pos hv]
    · rw [if_neg hv, if_neg hv]
      have hf : firstE ts = 0 := by
        unfold listE at h0
        split at h0
        · exact absurd h0 (by decide)
        · exact h0
      rcases sumTm_valid (K := sumsR ts) (fun t ht => (sumsR_mem ht).2.1 (nodesL_valid (firstE_all hf))) with h | h
      · exact absurd h hv
      · rw [h]
  · rw [if_neg h0, if_neg h0]
set_option maxHeartbeats 1600000 in
set_option maxRecDepth 100000 in
theorem qSum_any (ts : List Tm) (xa : Option Addr) (cap : Nat) (w : World) (hn : ts.length ≤ 1048576) (hsz : sizes ts ≤ 1048576) (hR : Row w ts xa) :
    Calls Tryz.prog 13 #[.slice xa ts.length cap] w (TrPost w (sumP ts)) := by
  have hB0 : Ext w (w.alloc (.cells #[.int .i64 0, .string ⟨#[]⟩, .int .i64 0, .slice none 0 0] 26)) := (Ext.refl _).alloc _
  have hZ : (w.alloc (.cells #[.int .i64 0, .string ⟨#[]⟩, .int .i64 0, .slice none 0 0] 26)).heap.size = w.heap.size + 1 := World.size_alloc _ _
  have hb1 := heap_alloc_new w (.cells #[.int .i64 0, .string ⟨#[]⟩, .int .i64 0, .slice none 0 0] 26)
  have hmem : ∀ t ∈ ts, size t ≤ 1048576 := fun t ht => by have := size_le_sizes ht; omega
  have HVL := Lib.hid (fun W x3 (x : Ext w W) => (by
    have h := rvalid_any ts zroT xa cap _ _ _ _ W hn (fun t ht => by have := hmem t ht; omega) (by simp [zroT, size, sizes]) (Row_below (w' := W) hR x) (IsIn_Is _ _ _ _ _ (zroT_in (fun _ => True) W x3 0))
    rw [vE_zro] at h
    exact h : Calls Tryz.prog 38 #[.slice xa ts.length cap, .agg #[.int .i64 3, .string ⟨#[122, 101, 114, 111]⟩, .int .i64 0, .slice x3 0 0]] W fun e w' => e = .returned (.int .i64 (listE ts)) ∧ Ext W w'))
  have HZR := Lib.hid rzero_any
  unfold ZrPost at HZR
  have HBK : Hid (∀ W, Ext (w.alloc (.cells #[.int .i64 0, .string ⟨#[]⟩, .int .i64 0, .slice none 0 0] 26)) W → W.heap[w.heap.size]? = some (.cells #[.int .i64 0, .string ⟨#[]⟩, .int .i64 0, .slice none 0 0] 26 (0, 0))) := by
    show ∀ _, _
    intro W x
    rw [x.block _ (by omega)]; exact hb1
  have HB0 := Lib.hid hB0
  have HZ := Lib.hid hZ
  have HRI := Lib.hid (Row_RowInQ _ _ hR)
  have HP := Lib.hid (sumP_eq ts)
  have hl := sumsR_len ts
  have hsT : size (sumTm (sumsR ts)) ≤ 1073741824 := by have := sumTm_size (K := sumsR ts); have := sumsR_sizes ts; omega
  have HST := Lib.hid hsT
  have HMEM := Lib.hid hmem
  have HSZ := Lib.hid hsz
  generalize sumP ts = R at HP ⊢
  by_cases h0 : listE ts = 0
  rotate_left
  · have HP2 : Hid (R = (zilT, listE ts)) := by show _ = _; rw [HP.out, if_neg h0]
    generalize listE ts = E at HVL HP2 h0
    have q0 : (E != 0) = true := bne_iff_ne.2 h0
    have HF : Hid (∀ W, Ext (w.alloc (.cells #[.int .i64 0, .string ⟨#[]⟩, .int .i64 0, .slice none 0 0] 26)) W → TrPost w R (.returned (.tuple #[.agg #[.int .i64 0, .string ⟨#[]⟩, .int .i64 0, .slice none 0 0], .int .i64 E])) (put4 W w.heap.size 0 (.int .i64 0) (.string ⟨#[]⟩) (.int .i64 0) (.slice none 0 0))) := by
      show ∀ _, _
      intro W x
      rw [HP2.out]
      exact ⟨_, _, _, _, _, _, rfl, IsIn_Is _ _ _ _ _ (zilT_in (fun _ => True) _), put4_below (hB0.trans x) (Nat.le_refl _)⟩
    clear h0 hR hB0 hb1 hZ hmem hl hsT HP HST
    go_enter Tryz.func13, Tryz.ntmps13
    go_wp2_with (first
      | (go_at_call 39; refine (HZR.out _).mono ?_; rintro e w2 ⟨x2, he, hB⟩; subst he; have HX2 := Lib.hid hB; clear hB)
      | (go_at_call 38; refine (HVL.out _ _ (HB0.out.trans HX2.out)).mono ?_; rintro e w3 ⟨he, hB⟩; subst he; have HX3 := Lib.hid (HX2.out.trans hB); have hbx := HBK.out _ (HX2.out.trans hB); obtain ⟨⟨m0, m1, m2, m3⟩, n0, n1, n2, n3⟩ := box_facts hbx; clear hB hbx))
    exact bodyPost_ret (v := .tuple #[.agg #[.int .i64 0, .string ⟨#[]⟩, .int .i64 0, .slice none 0 0], .int .i64 E]) (by simp [results, Tryz.results13, go_sem, m0, m1, m2, m3]) rfl (HF.out _ HX3.out)
  rw [h0] at HVL
  have q0 : ((0 : Int) != 0) = false := rfl
  have HV : Hid (∀ W k n s x l c, Is W (sumTm (sumsR ts)) (.int .i64 k) (.string n) (.int .i64 s) (.slice x l c) → Calls Tryz.prog 43 #[.agg #[.int .i64 k, .string n, .int .i64 s, .slice x l c]] W fun e w' => e = .returned (.int .i64 (validE (sumTm (sumsR ts)))) ∧ Below W.heap.size W w') := by
    show ∀ _, _
    exact fun W k n s x l c h => rValid_any (sumTm (sumsR ts)) _ _ _ _ W HST.out h
  have HR2 : Hid (R = if validE (sumTm (sumsR ts)) = 0 then (sumTm (sumsR ts), 0) else (zilT, 3)) := by show _ = _; rw [HP.out, if_pos h0]
  clear h0 hR hB0 hb1 hZ hmem hsT HP
  go_enter Tryz.func13, Tryz.ntmps13
  go_wp2_with (first
    | (go_at_call 39; refine (HZR.out _).mono ?_; rintro e w2 ⟨x2, he, hB⟩; subst he; have HX2 := Lib.hid hB; clear hB)
    | (go_at_call 38; refine (HVL.out _ _ (HB0.out.trans HX2.out)).mono ?_; rintro e w3 ⟨he, hB⟩; subst he; have HX3 := Lib.hid (HX2.out.trans hB); clear hB))
  go_loopw [5, 6] (fun lv i wr => ∃ (j : Nat), j ≤ ts.length ∧ i = .int .i64 j ∧ Elems (fun q => q < w.heap.size) wr (summsT [] (ts.take j)) lv ∧ Ext (w.alloc (.cells #[.int .i64 0, .string ⟨#[]⟩, .int .i64 0, .slice none 0 0] 26)) wr) (fun _ i _ => ts.length - (intOf i).toNat)
  case atStart => exact ⟨0, Nat.zero_le _, rfl, Elems_nil _ _, HX3.out⟩
  case round =>
    obtain ⟨j, hj, rfl, hO, hX⟩ := hrel
    have HX := Lib.hid hX
    have HXW := Lib.hid (HB0.out.trans hX)
    have hrz : w.heap.size + 1 ≤ wr.heap.size := by have := hX.size; rw [HZ.out] at this; exact this
    have HRZ := Lib.hid hrz
    obtain ⟨xr, cr, rfl, _⟩ := Elems_row hO
    by_cases hlt : j < ts.length
    rotate_left
    · have hjl : j = ts.length := by omega
      have hlen : (summsT [] (ts.take j)).length ≤ 1048576 := by rw [hjl, List.take_length]; have := HSZ.out; unfold sumsR at hl; omega
      have HTM := Lib.hid (qTerm_any w.heap.size _ _ wr (by omega) hlen hO)
      have hsr : summsT [] (ts.take j) = sumsR ts := by rw [hjl, List.take_length]; rfl
      rw [hsr] at HTM ⊢
      unfold TbPost at HTM
      generalize (sumsR ts).length = nn at HTM ⊢
      by_cases hv : validE (sumTm (sumsR ts)) = 0
      · have HR3 : Hid (R = (sumTm (sumsR ts), 0)) := by show _ = _; rw [HR2.out, if_pos hv]
        rw [hv] at HV
        have HF : Hid (∀ (W V : World) k n s x l c ob, Ext (V.alloc ob) W → Ext w W → w.heap.size + 1 ≤ V.heap.size → IsIn (fun b => b < w.heap.size ∨ (wr.heap.size < b ∧ b < V.heap.size)) V (sumTm (sumsR ts)) (.int .i64 k) (.string n) (.int .i64 s) (.slice x l c) → TrPost w R (.returned (.tuple #[.agg #[.int .i64 k, .string n, .int .i64 s, .slice x l c], .int .i64 0])) (put4 W w.heap.size 0 (.int .i64 k) (.string n) (.int .i64 s) (.slice x l c))) := by
          show ∀ _, _
          intro W V k n s x l c ob hVW hW hV h
          rw [HR3.out]
          exact ⟨_, _, _, _, _, _, rfl, IsIn_Is _ _ _ _ _ (IsIn_carry (S' := fun _ => True) (fun q (hq : q < w.heap.size ∨ (wr.heap.size < q ∧ q < V.heap.size)) => by
            rw [put4_other _ _ _ _ _ _ _ _ (by omega), hVW.block q (by rw [World.size_alloc]; omega)]
            exact Below.heap_alloc V _ q (by omega)) (fun _ _ => trivial) _ _ _ _ _ h), put4_below hW (Nat.le_refl _)⟩
        generalize sumTm (sumsR ts) = T at HTM HV HF
        clear hO hX hjl hlen hsr hv hrz hl
        go_wp2_with (first
          | (go_at_call 42; refine (HTM.out).mono ?_; rintro e w5 ⟨k5, n5, s5, x5, l5, c5, he, hI5, hB5⟩; subst he; have HI5 := Lib.hid hI5; have HX5 := Lib.hid (HX.out.trans hB5); have HB5 := Lib.hid hB5; clear hI5 hB5)
          | (go_at_call 43; refine (HV.out _ _ _ _ _ _ _ (Is_alloc (IsIn_Is _ _ _ _ _ HI5.out) _)).mono ?_; rintro e w7 ⟨he, hB⟩; subst he; have hX7 := (HX5.out.alloc (.cells #[.int .i64 k5, .string n5, .int .i64 s5, .slice x5 l5 c5] 26)).trans hB; have hbx := HBK.out _ hX7; obtain ⟨⟨m0, m1, m2, m3⟩, n0, n1, n2, n3⟩ := box_facts hbx; have hby := hB.block w5.heap.size (by simp); rw [heap_alloc_new] at hby; obtain ⟨⟨p0, p1, p2, p3⟩, _⟩ := box_facts hby; have HF7 := Lib.hid (HF.out w7 w5 _ _ _ _ _ _ _ hB (HB0.out.trans hX7) (Nat.le_trans HRZ.out HB5.out.size) HI5.out); clear hB hbx hby hX7))
        exact bodyPost_ret (v := .tuple #[.agg #[.int .i64 k5, .string n5, .int .i64 s5, .slice x5 l5 c5], .int .i64 0]) (by simp [results, Tryz.results13, go_sem, m0, m1, m2, m3]) rfl HF7.out
      · have HR3 : Hid (R = (zilT, 3)) := by show _ = _; rw [HR2.out, if_neg hv]
        have HF : Hid (∀ W, Ext w W → TrPost w R (.returned (.tuple #[.agg #[.int .i64 0, .string ⟨#[]⟩, .int .i64 0, .slice none 0 0], .int .i64 3])) (put4 W w.heap.size 0 (.int .i64 0) (.string ⟨#[]⟩) (.int .i64 0) (.slice none 0 0))) := by
          show ∀ _, _
          intro W x
          rw [HR3.out]
          exact ⟨_, _, _, _, _, _, rfl, IsIn_Is _ _ _ _ _ (zilT_in (fun _ => True) _), put4_below x (Nat.le_refl _)⟩
        clear HR2
        generalize sumTm (sumsR ts) = T at HTM HV hv
        generalize validE T = E at HV hv
        have q1 : (E != 0) = true := bne_iff_ne.2 hv
        clear hO hX hjl hlen hsr hv hrz hl
        go_wp2_with (first
          | (go_at_call 42; refine (HTM.out).mono ?_; rintro e w5 ⟨k5, n5, s5, x5, l5, c5, he, hI5, hB5⟩; subst he; have HI5 := Lib.hid hI5; have HX5 := Lib.hid (HX.out.trans hB5); clear hI5 hB5)
          | (go_at_call 43; refine (HV.out _ _ _ _ _ _ _ (Is_alloc (IsIn_Is _ _ _ _ _ HI5.out) _)).mono ?_; rintro e w7 ⟨he, hB⟩; subst he; have hX7 := (HX5.out.alloc (.cells #[.int .i64 k5, .string n5, .int .i64 s5, .slice x5 l5 c5] 26)).trans hB; have hbx := HBK.out _ hX7; obtain ⟨⟨m0, m1, m2, m3⟩, n0, n1, n2, n3⟩ := box_facts hbx; have HF7 := Lib.hid (HF.out w7 (HB0.out.trans hX7)); clear hB hbx hX7))
        exact bodyPost_ret (v := .tuple #[.agg #[.int .i64 0, .string ⟨#[]⟩, .int .i64 0, .slice none 0 0], .int .i64 3]) (by simp [results, Tryz.results13, go_sem, m0, m1, m2, m3]) rfl HF7.out
    obtain ⟨kb, ko, rfl⟩ := RowIn_at HRI.out (by omega)
    obtain ⟨_, x0, x1, x2, x3, p0, p1, p2, p3, hKI⟩ := LiesIn_carry (w' := wr) (S' := fun q => q < w.heap.size) (fun q (hq : q < w.heap.size) => HXW.out.block q hq) (fun _ h => h) (RowIn_get HRI.out j hlt)
    obtain ⟨k1, n1, s1, ya1, yl1, yc1, rfl, rfl, rfl, rfl⟩ := IsIn_form hKI
    have hst := sizes_take ts j hlt
    have hsl := sizes_take_le ts (j + 1)
    have hal := summsT_len (ts.take j) []
    simp only [List.length_nil] at hal
    have hal2 := summT_len ts[j]
    have hz := HSZ.out
    have hmem : ∀ u ∈ summsT [] (ts.take j), size u ≤ 1073741824 := fun u hu => by
      have := (sumsR_mem (ts := ts.take j) hu).2.2.1
      omega
    have hbr : w.heap.size ≤ wr.heap.size := by omega
    have HC := Lib.hid (rsummands_any w.heap.size (size ts[j]) ts[j] _ _ _ _ wr hbr (Nat.le_refl _) (by omega) hKI)
    have HPL : Hid (∀ W v4, Ext wr W → Elems (fun q => q < w.heap.size) W (summT ts[j]) v4 → Calls Tryz.prog 40 #[.slice xr (summsT [] (ts.take j)).length cr, v4] W (TermsPost w.heap.size W (summsT [] (ts.take (j + 1))))) := by
      show ∀ _, _
      intro W v4 x r
      rw [summsT_take ts j hlt]
      exact rplus_any w.heap.size _ _ _ _ W (Nat.le_trans hbr x.size) (by omega) hmem (fun u hu => by have := (summT_mem hu).2.2.1; omega) (Elems_ext hO (fun q (hq : q < w.heap.size) => by omega) x) r
    have i1 : (0 : Int) ≤ (j : Int) := by omega
    have i2 : (j : Int) < (ts.length : Int) := by omega
    clear hO hX hKI hst hsl hal hal2 hmem hbr hrz hz
    go_wp2_with (first
      | (go_at_call 41; refine (HC.out).mono ?_; rintro e w4 ⟨v4, he, h1, h2⟩; subst he; have HF4 := Lib.hid (And.intro h1 h2); clear h1 h2)
      | (go_at_call 40; refine (HPL.out _ _ HF4.out.2 HF4.out.1).mono ?_; rintro e w5 ⟨v5, he, h1, h2⟩; subst he; have HF := Lib.hid (And.intro h1 h2); clear h1 h2))
    go_roundw
    case rel => exact ⟨j + 1, by omega, by go_num, HF.out.1, HX.out.trans (Ext.trans HF4.out.2 HF.out.2)⟩
    case measure => simp [intOf]; omega
end Go.Proofs.YtfbomoginjknlaaGreatDoor
