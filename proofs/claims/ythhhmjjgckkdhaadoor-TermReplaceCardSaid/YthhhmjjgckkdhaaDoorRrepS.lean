/-
  THE WALK OF the reference's Replace, where there is such a position.
-/
import Derived.Test.YthhhmjjgckkdhaaDoorRrepW
import Derived.Test.YthhhmjjgckkdhaaDoorRrep2
namespace Go.Proofs.YthhhmjjgckkdhaaDoor
open Go.RowKit

theorem RrepPost_drew {base : Nat} {w W : World} {r : Option Tm} {e : Ending} (h : RrepPost base w r e W) : RrepPost base w r e W.drew := by
  cases r with
  | none => exact ⟨h.1.drew, h.2⟩
  | some a =>
    obtain ⟨hB, c0, c1, c2, c3, he, hI⟩ := h
    have hd : ∀ b : Nat, W.drew.heap[b]? = W.heap[b]? := fun _ => rfl
    exact ⟨hB.drew, c0, c1, c2, c3, he, IsIn_carry (w' := W.drew) (fun b _ => hd b) (fun _ h => h) _ _ _ _ _ hI⟩

set_option maxHeartbeats 3200000 in
set_option maxRecDepth 100000 in
theorem rrep_some1 (y : Nat) (p : List Int) (k s : Int) (n : ByteArray) (ks : List Tm) (a : Tm) (d0 d1 d2 d3 x0 x1 x2 x3 : Value) (base pb po cap kb ko kcap : Nat) (w : World) (hbw : base ≤ w.heap.size) (hy : y < ks.length) (hkl : ks.length ≤ 9223372036854775807) (hks : ks.length ≤ 1073741824) (hk : -9223372036854775808 ≤ k ∧ k ≤ 9223372036854775807) (hss : -9223372036854775808 ≤ s ∧ s ≤ 9223372036854775807) (hn : n.size ≤ maxLen) (hx : w.cell? ⟨pb, po, none⟩ = some (.int .i64 (y : Int))) (hpc : p.length + 1 ≤ cap)
    (q0 : w.cell? ⟨kb, ko + y * 4, none⟩ = some d0) (q1 : w.cell? ⟨kb, ko + y * 4 + 1, none⟩ = some d1) (q2 : w.cell? ⟨kb, ko + y * 4 + 2, none⟩ = some d2) (q3 : w.cell? ⟨kb, ko + y * 4 + 3, none⟩ = some d3) (hR : RowIn (fun b => b < base) w ks (some ⟨kb, ko, none⟩)) (hc1 : cap = 1)
    (HCALL : Hid (∀ W, Ext w W → Calls Tryd.prog 41 #[.agg #[d0, d1, d2, d3], .slice (some ⟨pb, po, none⟩) p.length 0, .agg #[x0, x1, x2, x3]] W (RrepPost base W (some a)))) :
    Calls Tryd.prog 41 #[.agg #[.int .i64 k, .string n, .int .i64 s, .slice (some ⟨kb, ko, none⟩) ks.length kcap], .slice (some ⟨pb, po, none⟩) (p.length + 1) cap, .agg #[x0, x1, x2, x3]] w (RrepPost base w (some (.mk k n s (ks.set y a)))) := by
  obtain ⟨cs, hKC, hKc⟩ := KC_of_RowIn ks kb ko hR
  have HK := Lib.hid hKC
  have HKc := Lib.hid hKc
  have hxh := Lib.hid hx
  clear hR hKC hKc
  have HX : Hid (Ext w (((w.alloc (.cells #[.int .i64 k, .string n, .int .i64 s, .slice (some ⟨kb, ko, none⟩) ks.length kcap] 24)).alloc (.cells #[x0, x1, x2, x3] 24)).alloc (.cells #[.int .i64 0, .string ⟨#[]⟩, .int .i64 0, .slice none 0 0] 24))) := Lib.hid ((((Ext.refl w).alloc _).alloc _).alloc _)
  have hx2 := keep_below HX.out _ _ hx
  have HC : Hid (∀ W, Ext (((w.alloc (.cells #[.int .i64 k, .string n, .int .i64 s, .slice (some ⟨kb, ko, none⟩) ks.length kcap] 24)).alloc (.cells #[x0, x1, x2, x3] 24)).alloc (.cells #[.int .i64 0, .string ⟨#[]⟩, .int .i64 0, .slice none 0 0] 24)) W →
      W.cell? ⟨w.heap.size, 3, none⟩ = some (.slice (some ⟨kb, ko, none⟩) ks.length kcap) ∧ W.cell? ⟨pb, po, none⟩ = some (.int .i64 (y : Int)) ∧ W.cell? ⟨kb, ko + y * 4, none⟩ = some d0 ∧ W.cell? ⟨kb, ko + y * 4 + 1, none⟩ = some d1 ∧ W.cell? ⟨kb, ko + y * 4 + 2, none⟩ = some d2 ∧ W.cell? ⟨kb, ko + y * 4 + 3, none⟩ = some d3 ∧
      W.cell? ⟨w.heap.size + 1, 0, none⟩ = some x0 ∧ W.cell? ⟨w.heap.size + 1, 1, none⟩ = some x1 ∧ W.cell? ⟨w.heap.size + 1, 2, none⟩ = some x2 ∧ W.cell? ⟨w.heap.size + 1, 3, none⟩ = some x3) := fun W h => by
    obtain ⟨⟨_, _, _, m3⟩, n0, n1, n2, n3⟩ := rep_boxes h
    exact ⟨m3, keep_below h _ _ hx2, keep_below h _ _ (keep_below HX.out _ _ q0), keep_below h _ _ (keep_below HX.out _ _ q1), keep_below h _ _ (keep_below HX.out _ _ q2), keep_below h _ _ (keep_below HX.out _ _ q3), n0, n1, n2, n3⟩
  have h0 : ¬ (p.length : Int) + 1 = 0 := by omega
  have i2 : (0 : Int) < (p.length : Int) + 1 := by omega
  have i3 : (1 : Int) ≤ (p.length : Int) + 1 := by omega
  have i4 : (p.length : Int) + 1 ≤ (cap : Int) := by omega
  have hd : decide ((y : Int) < 0) = false := by simp
  have hd2 : ¬ (ks.length : Int) ≤ (y : Int) := by omega
  have j1 : (0 : Int) ≤ (y : Int) := by omega
  have j2 : (y : Int) < (ks.length : Int) := by omega
  obtain ⟨m3, _, r0, r1, r2, r3, n0, n1, n2, n3⟩ := HC.out _ (Ext.refl _)
  clear q0 q1 q2 q3
  go_enter Tryd.func41, Tryd.ntmps41
  go_wp2_with fail
  go_quiet (fail)
  go_upto_region 5 with (fail)
  have hEq : Ext (((w.alloc (.cells #[.int .i64 k, .string n, .int .i64 s, .slice (some ⟨kb, ko, none⟩) ks.length kcap] 24)).alloc (.cells #[x0, x1, x2, x3] 24)).alloc (.cells #[.int .i64 0, .string ⟨#[]⟩, .int .i64 0, .slice none 0 0] 24)) (World.drewN (((w.alloc (.cells #[.int .i64 k, .string n, .int .i64 s, .slice (some ⟨kb, ko, none⟩) ks.length kcap] 24)).alloc (.cells #[x0, x1, x2, x3] 24)).alloc (.cells #[.int .i64 0, .string ⟨#[]⟩, .int .i64 0, .slice none 0 0] 24)) nq) := below_drewN (Ext.refl _) nq
  generalize World.drewN _ nq = wq at hEq ⊢
  have HEq := Lib.hid hEq
  have HCq : Hid (∀ W, Ext wq W → W.cell? ⟨w.heap.size, 3, none⟩ = some (.slice (some ⟨kb, ko, none⟩) ks.length kcap) ∧ W.cell? ⟨pb, po, none⟩ = some (.int .i64 (y : Int)) ∧ W.cell? ⟨kb, ko + y * 4, none⟩ = some d0 ∧ W.cell? ⟨kb, ko + y * 4 + 1, none⟩ = some d1 ∧ W.cell? ⟨kb, ko + y * 4 + 2, none⟩ = some d2 ∧ W.cell? ⟨kb, ko + y * 4 + 3, none⟩ = some d3 ∧
      W.cell? ⟨w.heap.size + 1, 0, none⟩ = some x0 ∧ W.cell? ⟨w.heap.size + 1, 1, none⟩ = some x1 ∧ W.cell? ⟨w.heap.size + 1, 2, none⟩ = some x2 ∧ W.cell? ⟨w.heap.size + 1, 3, none⟩ = some x3) := fun W h => HC.out W (Ext.trans HEq.out h)
  obtain ⟨m3, m4, r0, r1, r2, r3, n0, n1, n2, n3⟩ := HCq.out _ (Ext.refl _)
  have hF0 : Ext wq wq.drew := (Ext.refl wq).drew
  have hqs : w.heap.size + 3 ≤ wq.heap.size := by have := hEq.size; simp at this; omega
  clear hEq
  go_cut [8, 9] (fun v8 v9 wc => ∃ B, v8 = .pointer (some ⟨B, 0, none⟩) ∧ v9 = .int .i64 0 ∧ BoxIn (fun b => b < base ∨ w.heap.size + 3 ≤ b ∧ b < wc.heap.size) wc a B ∧ Ext wq wc)
  case first =>
    go_region_held3 (fun W => W.cell? ⟨w.heap.size, 3, none⟩ = some (.slice (some ⟨kb, ko, none⟩) ks.length kcap) ∧ W.cell? ⟨pb, po, none⟩ = some (.int .i64 (y : Int)) ∧ W.cell? ⟨kb, ko + y * 4, none⟩ = some d0 ∧ W.cell? ⟨kb, ko + y * 4 + 1, none⟩ = some d1 ∧ W.cell? ⟨kb, ko + y * 4 + 2, none⟩ = some d2 ∧ W.cell? ⟨kb, ko + y * 4 + 3, none⟩ = some d3 ∧
      W.cell? ⟨w.heap.size + 1, 0, none⟩ = some x0 ∧ W.cell? ⟨w.heap.size + 1, 1, none⟩ = some x1 ∧ W.cell? ⟨w.heap.size + 1, 2, none⟩ = some x2 ∧ W.cell? ⟨w.heap.size + 1, 3, none⟩ = some x3)
      (first | exact HCq.out _ (by assumption) | exact HCq.out _ (Ext.alloc (by assumption) _) | exact HCq.out _ (Ext.drew (Ext.alloc (Ext.refl wq) _)) | (have r2 := put4_below (w' := w7) (g := wq.heap.size) (o := 0) (c0 := (.int .i64 k')) (c1 := (.string n')) (c2 := (.int .i64 s')) (c3 := (.slice xk l' c')) hF1 (Nat.le_refl _); simp only [put4, Nat.zero_add] at r2; exact HCq.out _ r2) | go_keep)
      (first
        | (go_at_call 41; refine (HCALL.out _ ?_).mono ?_; (exact Ext.trans HX.out (Ext.trans HEq.out (by first | exact hF0 | exact Ext.drew (Ext.alloc (Ext.refl wq) _)))); rintro e w7 ⟨hB, f0, f1, f2, f3, he, hJ⟩; subst he; obtain ⟨k', n', s', xk, l', c', e0, e1, e2, e3⟩ := IsIn_form hJ; subst e0 e1 e2 e3; have HJ := Lib.hid hJ; have hF1 : Ext wq w7 := Ext.trans (by first | exact hF0 | exact Ext.drew (Ext.alloc (Ext.refl wq) _)) hB; (first | (have HZ := Lib.hid ((hB.block wq.heap.size (by simp)).trans (heap_alloc_new wq _)); have hz := box_facts (w := w7) (b := wq.heap.size) HZ.out; obtain ⟨⟨z0, z1, z2, z3⟩, zf0, zf1, zf2, zf3⟩ := hz) | skip); clear hB hJ))
    all_goals go_wp2_with fail
    all_goals go_meet
    all_goals first
      | (have r := boxin_put (base := base) (lo := w.heap.size + 3) (m := wq.heap.size + 1) HZ.out (by have := HJ.out; simpa using this) (by omega) (by omega) hqs
         have r2 := put4_below (w' := w7) (g := wq.heap.size) (o := 0) (c0 := (.int .i64 k')) (c1 := (.string n')) (c2 := (.int .i64 s')) (c3 := (.slice xk l' c')) hF1 (Nat.le_refl _)
         simp only [put4, Nat.zero_add] at r r2
         exact ⟨wq.heap.size, rfl, rfl, r, r2⟩)
      | exact ⟨w7.heap.size, rfl, rfl, boxin_new (m := wq.heap.size) HJ.out (by have := hF1.size; omega) hqs, hF1.alloc _⟩
  case rest =>
    obtain ⟨B, rfl, rfl, ⟨g0, g1, g2, g3, b0, b1, b2, b3, hA⟩, hE⟩ := hcut
    obtain ⟨ke, ne, se, xe, le, ce, e0, e1, e2, e3⟩ := IsIn_form hA
    subst e0 e1 e2 e3
    have HG := Lib.hid (And.intro b0 (And.intro b1 (And.intro b2 b3)))
    have HE := Lib.hid hE
    have HA := Lib.hid hA
    have HEw := Lib.hid (Ext.trans HEq.out hE)
    have HBw : Hid (Below w.heap.size w wc) := Lib.hid (Ext.trans (a := w) HX.out HEw.out)
    have hsw : w.heap.size + 3 ≤ wc.heap.size := by have := hE.size; omega
    obtain ⟨⟨t0, t1, t2, t3⟩, _⟩ := rep_boxes HEw.out
    have HRES := Lib.hid (rep_box HEw.out)
    have HPOS := Lib.hid (HCq.out _ hE).2.1
    have HKW := Lib.hid (KC_carry (w' := wc) (fun b (hb : b < base) => HBw.out.block b (by omega)) (fun _ h => h) _ _ HK.out)
    have HCW : Hid (∀ j u, cs[j]? = some u → ((wc.alloc (.cells #[.int .i64 k, .string n, .int .i64 s, .slice (some ⟨kb, ko, none⟩) ks.length kcap] 24)).alloc (.cells #[] 24)).cell? ((⟨kb, ko, none⟩ : Addr).add j) = some u) := fun j u hu => keep_alloc _ _ _ _ (keep_alloc wc _ _ _ (keep_below HBw.out _ _ (HKc.out j u hu)))
    obtain ⟨hcl, hone⟩ := KC_one ks cs HK.out
    have HP := Lib.hid hcl
    have HN := Lib.hid hone
    have HO : Hid (((wc.alloc (.cells #[.int .i64 k, .string n, .int .i64 s, .slice (some ⟨kb, ko, none⟩) ks.length kcap] 24)).alloc (.cells #[] 24)).ownsRow (w.heap.size + 3) 24 4 (.slice (some ⟨wc.heap.size + 1, 0, none⟩) 0 0) 0 []) := by
      show World.ownsRow _ _ _ _ _ _ _
      have := World.ownsRow_made (e := 24) (size := 4) (base := w.heap.size + 3) (wc.alloc (.cells #[.int .i64 k, .string n, .int .i64 s, .slice (some ⟨kb, ko, none⟩) ks.length kcap] 24)) #[] 0 (by simp; omega) (by simp [maxLen]) (by simp)
      simpa using this
    obtain ⟨i0, hi0, hz0, hz1, hz2⟩ := info_parts info24
    have HI0 := Lib.hid (And.intro hi0 (And.intro hz0 (And.intro hz1 hz2)))
    have hpos : 0 < ks.length := by omega
    have hbs : w.heap.size < wc.heap.size := by omega
    clear hE hA hcl hone hi0 hz0 hz1 hz2 m3 m4 r0 r1 r2 r3 n0 n1 n2 n3 b0 b1 b2 b3 hF0
    go_upto_region 9 with (fail)
    go_cut [10] (fun v10 wd => ∃ O gg cap', v10 = .pointer (some ⟨O, 0, none⟩) ∧ RepMid base w k s n ks a y pb po B O gg cap' (.int .i64 ke) (.string ne) (.int .i64 se) (.slice xe le ce) wd)
    case first =>
      go_wp2_with (at_builtin; (refine wpList_append_lies _ rfl _ _ _ rfl (w.heap.size + 3) 24 i0 _ 4 56 Tryd.underlying22 HI0.out.1 HI0.out.2.1 HI0.out.2.2.1 HI0.out.2.2.2 rfl (by omega) (.slice (some ⟨wc.heap.size + 1, 0, none⟩) 0 0) 0 [] rfl HO.out ⟨kb, ko, none⟩ ks.length kcap cs rfl HP.out HCW.out HN.out hpos (by unfold maxLen; omega) (by omega) (by simp; omega) (wc.heap.size + 2) (by simp) ?_); intro gg cap' w9 hown1 hgrow hat hlt; have n1 : wc.heap.size < gg := (by rcases hat with e | e; (simp only [Value.ownBlock, Option.some.injEq] at e; omega); omega); obtain ⟨hE9, hb9⟩ := box_grow hgrow; have HB9 := Lib.hid hb9; obtain ⟨⟨y0, y1, y2, y3⟩, z0, z1, z2, z3⟩ := box_facts hb9; have HE9 := Lib.hid hE9; have HO9 := Lib.hid hown1; clear hown1 hgrow hat hb9 hE9)
      go_meet
      exact ⟨wc.heap.size, gg, cap', rfl, rep_mid hbw HBw.out hsw n1 HO9.out HKW.out HE9.out HB9.out HG.out HA.out HPOS.out HRES.out⟩
    case rest =>
      obtain ⟨O, gg, cap', rfl, hM⟩ := hcut
      obtain ⟨cs2, ho2, _⟩ := hM.row
      have hgl := ho2.lt gg rfl
      have HDN := Lib.hid (RrepPost_drew (rep_done hbw hk hss hn (by unfold maxLen; omega) hy hM))
      obtain ⟨⟨a0, a1, a2, a3⟩, af0, af1, af2, af3⟩ := box_facts hM.box
      obtain ⟨⟨r0, r1, r2, r3⟩, rf0, rf1, rf2, rf3⟩ := box_facts hM.res
      obtain ⟨⟨z0, z1, z2, z3, y0, y1, y2, y3⟩, hz⟩ := own_four ho2 hy
      have f0 := hz (y * 4)
      have f1 := hz (y * 4 + 1)
      have f2 := hz (y * 4 + 2)
      have f3 := hz (y * 4 + 3)
      obtain ⟨v0, v1, v2, v3⟩ := hM.arg
      have hpo := hM.pos
      have no1 : ¬ gg = O := fun e => hM.out e.symm
      have no2 : ¬ O = gg := hM.out
      have nr1 : ¬ gg = w.heap.size + 1 + 1 := by omega
      have nr2 : ¬ w.heap.size + 1 + 1 = gg := by omega
      clear hM ho2 hz t0 t1 t2 t3 hbs
      go_wp2_with fail
      go_region
      go_wp2_with fail
      exact bodyPost_ret (v := .tuple #[.agg #[.int .i64 k, .string n, .int .i64 s, .slice (some ⟨gg, 0, none⟩) ks.length cap'], .int .i64 0]) (by simp [results, Tryd.results41, go_sem, r0, r1, r2, r3]) rfl HDN.out

set_option maxHeartbeats 3200000 in
set_option maxRecDepth 100000 in
theorem rrep_some2 (y : Nat) (p : List Int) (k s : Int) (n : ByteArray) (ks : List Tm) (a : Tm) (d0 d1 d2 d3 x0 x1 x2 x3 : Value) (base pb po cap kb ko kcap : Nat) (w : World) (hbw : base ≤ w.heap.size) (hy : y < ks.length) (hkl : ks.length ≤ 9223372036854775807) (hks : ks.length ≤ 1073741824) (hk : -9223372036854775808 ≤ k ∧ k ≤ 9223372036854775807) (hss : -9223372036854775808 ≤ s ∧ s ≤ 9223372036854775807) (hn : n.size ≤ maxLen) (hx : w.cell? ⟨pb, po, none⟩ = some (.int .i64 (y : Int))) (hpc : p.length + 1 ≤ cap)
    (q0 : w.cell? ⟨kb, ko + y * 4, none⟩ = some d0) (q1 : w.cell? ⟨kb, ko + y * 4 + 1, none⟩ = some d1) (q2 : w.cell? ⟨kb, ko + y * 4 + 2, none⟩ = some d2) (q3 : w.cell? ⟨kb, ko + y * 4 + 3, none⟩ = some d3) (hR : RowIn (fun b => b < base) w ks (some ⟨kb, ko, none⟩)) (hc1 : ¬ cap = 1)
    (HCALL : Hid (∀ W, Ext w W → Calls Tryd.prog 41 #[.agg #[d0, d1, d2, d3], .slice (some ⟨pb, po + 1, none⟩) p.length (cap - 1), .agg #[x0, x1, x2, x3]] W (RrepPost base W (some a)))) :
    Calls Tryd.prog 41 #[.agg #[.int .i64 k, .string n, .int .i64 s, .slice (some ⟨kb, ko, none⟩) ks.length kcap], .slice (some ⟨pb, po, none⟩) (p.length + 1) cap, .agg #[x0, x1, x2, x3]] w (RrepPost base w (some (.mk k n s (ks.set y a)))) := by
  obtain ⟨cs, hKC, hKc⟩ := KC_of_RowIn ks kb ko hR
  have HK := Lib.hid hKC
  have HKc := Lib.hid hKc
  have hxh := Lib.hid hx
  clear hR hKC hKc
  have HX : Hid (Ext w (((w.alloc (.cells #[.int .i64 k, .string n, .int .i64 s, .slice (some ⟨kb, ko, none⟩) ks.length kcap] 24)).alloc (.cells #[x0, x1, x2, x3] 24)).alloc (.cells #[.int .i64 0, .string ⟨#[]⟩, .int .i64 0, .slice none 0 0] 24))) := Lib.hid ((((Ext.refl w).alloc _).alloc _).alloc _)
  have hx2 := keep_below HX.out _ _ hx
  have HC : Hid (∀ W, Ext (((w.alloc (.cells #[.int .i64 k, .string n, .int .i64 s, .slice (some ⟨kb, ko, none⟩) ks.length kcap] 24)).alloc (.cells #[x0, x1, x2, x3] 24)).alloc (.cells #[.int .i64 0, .string ⟨#[]⟩, .int .i64 0, .slice none 0 0] 24)) W →
      W.cell? ⟨w.heap.size, 3, none⟩ = some (.slice (some ⟨kb, ko, none⟩) ks.length kcap) ∧ W.cell? ⟨pb, po, none⟩ = some (.int .i64 (y : Int)) ∧ W.cell? ⟨kb, ko + y * 4, none⟩ = some d0 ∧ W.cell? ⟨kb, ko + y * 4 + 1, none⟩ = some d1 ∧ W.cell? ⟨kb, ko + y * 4 + 2, none⟩ = some d2 ∧ W.cell? ⟨kb, ko + y * 4 + 3, none⟩ = some d3 ∧
      W.cell? ⟨w.heap.size + 1, 0, none⟩ = some x0 ∧ W.cell? ⟨w.heap.size + 1, 1, none⟩ = some x1 ∧ W.cell? ⟨w.heap.size + 1, 2, none⟩ = some x2 ∧ W.cell? ⟨w.heap.size + 1, 3, none⟩ = some x3) := fun W h => by
    obtain ⟨⟨_, _, _, m3⟩, n0, n1, n2, n3⟩ := rep_boxes h
    exact ⟨m3, keep_below h _ _ hx2, keep_below h _ _ (keep_below HX.out _ _ q0), keep_below h _ _ (keep_below HX.out _ _ q1), keep_below h _ _ (keep_below HX.out _ _ q2), keep_below h _ _ (keep_below HX.out _ _ q3), n0, n1, n2, n3⟩
  have h0 : ¬ (p.length : Int) + 1 = 0 := by omega
  have i2 : (0 : Int) < (p.length : Int) + 1 := by omega
  have i3 : (1 : Int) ≤ (p.length : Int) + 1 := by omega
  have i4 : (p.length : Int) + 1 ≤ (cap : Int) := by omega
  have hd : decide ((y : Int) < 0) = false := by simp
  have hd2 : ¬ (ks.length : Int) ≤ (y : Int) := by omega
  have j1 : (0 : Int) ≤ (y : Int) := by omega
  have j2 : (y : Int) < (ks.length : Int) := by omega
  obtain ⟨m3, _, r0, r1, r2, r3, n0, n1, n2, n3⟩ := HC.out _ (Ext.refl _)
  clear q0 q1 q2 q3
  go_enter Tryd.func41, Tryd.ntmps41
  go_wp2_with fail
  go_quiet (fail)
  go_upto_region 5 with (fail)
  have hEq : Ext (((w.alloc (.cells #[.int .i64 k, .string n, .int .i64 s, .slice (some ⟨kb, ko, none⟩) ks.length kcap] 24)).alloc (.cells #[x0, x1, x2, x3] 24)).alloc (.cells #[.int .i64 0, .string ⟨#[]⟩, .int .i64 0, .slice none 0 0] 24)) (World.drewN (((w.alloc (.cells #[.int .i64 k, .string n, .int .i64 s, .slice (some ⟨kb, ko, none⟩) ks.length kcap] 24)).alloc (.cells #[x0, x1, x2, x3] 24)).alloc (.cells #[.int .i64 0, .string ⟨#[]⟩, .int .i64 0, .slice none 0 0] 24)) nq) := below_drewN (Ext.refl _) nq
  generalize World.drewN _ nq = wq at hEq ⊢
  have HEq := Lib.hid hEq
  have HCq : Hid (∀ W, Ext wq W → W.cell? ⟨w.heap.size, 3, none⟩ = some (.slice (some ⟨kb, ko, none⟩) ks.length kcap) ∧ W.cell? ⟨pb, po, none⟩ = some (.int .i64 (y : Int)) ∧ W.cell? ⟨kb, ko + y * 4, none⟩ = some d0 ∧ W.cell? ⟨kb, ko + y * 4 + 1, none⟩ = some d1 ∧ W.cell? ⟨kb, ko + y * 4 + 2, none⟩ = some d2 ∧ W.cell? ⟨kb, ko + y * 4 + 3, none⟩ = some d3 ∧
      W.cell? ⟨w.heap.size + 1, 0, none⟩ = some x0 ∧ W.cell? ⟨w.heap.size + 1, 1, none⟩ = some x1 ∧ W.cell? ⟨w.heap.size + 1, 2, none⟩ = some x2 ∧ W.cell? ⟨w.heap.size + 1, 3, none⟩ = some x3) := fun W h => HC.out W (Ext.trans HEq.out h)
  obtain ⟨m3, m4, r0, r1, r2, r3, n0, n1, n2, n3⟩ := HCq.out _ (Ext.refl _)
  have hF0 : Ext wq wq.drew := (Ext.refl wq).drew
  have hqs : w.heap.size + 3 ≤ wq.heap.size := by have := hEq.size; simp at this; omega
  clear hEq
  go_cut [8, 9] (fun v8 v9 wc => ∃ B, v8 = .pointer (some ⟨B, 0, none⟩) ∧ v9 = .int .i64 0 ∧ BoxIn (fun b => b < base ∨ w.heap.size + 3 ≤ b ∧ b < wc.heap.size) wc a B ∧ Ext wq wc)
  case first =>
    go_region_held3 (fun W => W.cell? ⟨w.heap.size, 3, none⟩ = some (.slice (some ⟨kb, ko, none⟩) ks.length kcap) ∧ W.cell? ⟨pb, po, none⟩ = some (.int .i64 (y : Int)) ∧ W.cell? ⟨kb, ko + y * 4, none⟩ = some d0 ∧ W.cell? ⟨kb, ko + y * 4 + 1, none⟩ = some d1 ∧ W.cell? ⟨kb, ko + y * 4 + 2, none⟩ = some d2 ∧ W.cell? ⟨kb, ko + y * 4 + 3, none⟩ = some d3 ∧
      W.cell? ⟨w.heap.size + 1, 0, none⟩ = some x0 ∧ W.cell? ⟨w.heap.size + 1, 1, none⟩ = some x1 ∧ W.cell? ⟨w.heap.size + 1, 2, none⟩ = some x2 ∧ W.cell? ⟨w.heap.size + 1, 3, none⟩ = some x3)
      (first | exact HCq.out _ (by assumption) | exact HCq.out _ (Ext.alloc (by assumption) _) | exact HCq.out _ (Ext.drew (Ext.alloc (Ext.refl wq) _)) | (have r2 := put4_below (w' := w7) (g := wq.heap.size) (o := 0) (c0 := (.int .i64 k')) (c1 := (.string n')) (c2 := (.int .i64 s')) (c3 := (.slice xk l' c')) hF1 (Nat.le_refl _); simp only [put4, Nat.zero_add] at r2; exact HCq.out _ r2) | go_keep)
      (first
        | (go_at_call 41; refine (HCALL.out _ ?_).mono ?_; (exact Ext.trans HX.out (Ext.trans HEq.out (by first | exact hF0 | exact Ext.drew (Ext.alloc (Ext.refl wq) _)))); rintro e w7 ⟨hB, f0, f1, f2, f3, he, hJ⟩; subst he; obtain ⟨k', n', s', xk, l', c', e0, e1, e2, e3⟩ := IsIn_form hJ; subst e0 e1 e2 e3; have HJ := Lib.hid hJ; have hF1 : Ext wq w7 := Ext.trans (by first | exact hF0 | exact Ext.drew (Ext.alloc (Ext.refl wq) _)) hB; (first | (have HZ := Lib.hid ((hB.block wq.heap.size (by simp)).trans (heap_alloc_new wq _)); have hz := box_facts (w := w7) (b := wq.heap.size) HZ.out; obtain ⟨⟨z0, z1, z2, z3⟩, zf0, zf1, zf2, zf3⟩ := hz) | skip); clear hB hJ))
    all_goals go_wp2_with fail
    all_goals go_meet
    all_goals first
      | (have r := boxin_put (base := base) (lo := w.heap.size + 3) (m := wq.heap.size + 1) HZ.out (by have := HJ.out; simpa using this) (by omega) (by omega) hqs
         have r2 := put4_below (w' := w7) (g := wq.heap.size) (o := 0) (c0 := (.int .i64 k')) (c1 := (.string n')) (c2 := (.int .i64 s')) (c3 := (.slice xk l' c')) hF1 (Nat.le_refl _)
         simp only [put4, Nat.zero_add] at r r2
         exact ⟨wq.heap.size, rfl, rfl, r, r2⟩)
      | exact ⟨w7.heap.size, rfl, rfl, boxin_new (m := wq.heap.size) HJ.out (by have := hF1.size; omega) hqs, hF1.alloc _⟩
  case rest =>
    obtain ⟨B, rfl, rfl, ⟨g0, g1, g2, g3, b0, b1, b2, b3, hA⟩, hE⟩ := hcut
    obtain ⟨ke, ne, se, xe, le, ce, e0, e1, e2, e3⟩ := IsIn_form hA
    subst e0 e1 e2 e3
    have HG := Lib.hid (And.intro b0 (And.intro b1 (And.intro b2 b3)))
    have HE := Lib.hid hE
    have HA := Lib.hid hA
    have HEw := Lib.hid (Ext.trans HEq.out hE)
    have HBw : Hid (Below w.heap.size w wc) := Lib.hid (Ext.trans (a := w) HX.out HEw.out)
    have hsw : w.heap.size + 3 ≤ wc.heap.size := by have := hE.size; omega
    obtain ⟨⟨t0, t1, t2, t3⟩, _⟩ := rep_boxes HEw.out
    have HRES := Lib.hid (rep_box HEw.out)
    have HPOS := Lib.hid (HCq.out _ hE).2.1
    have HKW := Lib.hid (KC_carry (w' := wc) (fun b (hb : b < base) => HBw.out.block b (by omega)) (fun _ h => h) _ _ HK.out)
    have HCW : Hid (∀ j u, cs[j]? = some u → ((wc.alloc (.cells #[.int .i64 k, .string n, .int .i64 s, .slice (some ⟨kb, ko, none⟩) ks.length kcap] 24)).alloc (.cells #[] 24)).cell? ((⟨kb, ko, none⟩ : Addr).add j) = some u) := fun j u hu => keep_alloc _ _ _ _ (keep_alloc wc _ _ _ (keep_below HBw.out _ _ (HKc.out j u hu)))
    obtain ⟨hcl, hone⟩ := KC_one ks cs HK.out
    have HP := Lib.hid hcl
    have HN := Lib.hid hone
    have HO : Hid (((wc.alloc (.cells #[.int .i64 k, .string n, .int .i64 s, .slice (some ⟨kb, ko, none⟩) ks.length kcap] 24)).alloc (.cells #[] 24)).ownsRow (w.heap.size + 3) 24 4 (.slice (some ⟨wc.heap.size + 1, 0, none⟩) 0 0) 0 []) := by
      show World.ownsRow _ _ _ _ _ _ _
      have := World.ownsRow_made (e := 24) (size := 4) (base := w.heap.size + 3) (wc.alloc (.cells #[.int .i64 k, .string n, .int .i64 s, .slice (some ⟨kb, ko, none⟩) ks.length kcap] 24)) #[] 0 (by simp; omega) (by simp [maxLen]) (by simp)
      simpa using this
    obtain ⟨i0, hi0, hz0, hz1, hz2⟩ := info_parts info24
    have HI0 := Lib.hid (And.intro hi0 (And.intro hz0 (And.intro hz1 hz2)))
    have hpos : 0 < ks.length := by omega
    have hbs : w.heap.size < wc.heap.size := by omega
    clear hE hA hcl hone hi0 hz0 hz1 hz2 m3 m4 r0 r1 r2 r3 n0 n1 n2 n3 b0 b1 b2 b3 hF0
    go_upto_region 9 with (fail)
    go_cut [10] (fun v10 wd => ∃ O gg cap', v10 = .pointer (some ⟨O, 0, none⟩) ∧ RepMid base w k s n ks a y pb po B O gg cap' (.int .i64 ke) (.string ne) (.int .i64 se) (.slice xe le ce) wd)
    case first =>
      go_wp2_with (at_builtin; (refine wpList_append_lies _ rfl _ _ _ rfl (w.heap.size + 3) 24 i0 _ 4 56 Tryd.underlying22 HI0.out.1 HI0.out.2.1 HI0.out.2.2.1 HI0.out.2.2.2 rfl (by omega) (.slice (some ⟨wc.heap.size + 1, 0, none⟩) 0 0) 0 [] rfl HO.out ⟨kb, ko, none⟩ ks.length kcap cs rfl HP.out HCW.out HN.out hpos (by unfold maxLen; omega) (by omega) (by simp; omega) (wc.heap.size + 2) (by simp) ?_); intro gg cap' w9 hown1 hgrow hat hlt; have n1 : wc.heap.size < gg := (by rcases hat with e | e; (simp only [Value.ownBlock, Option.some.injEq] at e; omega); omega); obtain ⟨hE9, hb9⟩ := box_grow hgrow; have HB9 := Lib.hid hb9; obtain ⟨⟨y0, y1, y2, y3⟩, z0, z1, z2, z3⟩ := box_facts hb9; have HE9 := Lib.hid hE9; have HO9 := Lib.hid hown1; clear hown1 hgrow hat hb9 hE9)
      go_meet
      exact ⟨wc.heap.size, gg, cap', rfl, rep_mid hbw HBw.out hsw n1 HO9.out HKW.out HE9.out HB9.out HG.out HA.out HPOS.out HRES.out⟩
    case rest =>
      obtain ⟨O, gg, cap', rfl, hM⟩ := hcut
      obtain ⟨cs2, ho2, _⟩ := hM.row
      have hgl := ho2.lt gg rfl
      have HDN := Lib.hid (RrepPost_drew (rep_done hbw hk hss hn (by unfold maxLen; omega) hy hM))
      obtain ⟨⟨a0, a1, a2, a3⟩, af0, af1, af2, af3⟩ := box_facts hM.box
      obtain ⟨⟨r0, r1, r2, r3⟩, rf0, rf1, rf2, rf3⟩ := box_facts hM.res
      obtain ⟨⟨z0, z1, z2, z3, y0, y1, y2, y3⟩, hz⟩ := own_four ho2 hy
      have f0 := hz (y * 4)
      have f1 := hz (y * 4 + 1)
      have f2 := hz (y * 4 + 2)
      have f3 := hz (y * 4 + 3)
      obtain ⟨v0, v1, v2, v3⟩ := hM.arg
      have hpo := hM.pos
      have no1 : ¬ gg = O := fun e => hM.out e.symm
      have no2 : ¬ O = gg := hM.out
      have nr1 : ¬ gg = w.heap.size + 1 + 1 := by omega
      have nr2 : ¬ w.heap.size + 1 + 1 = gg := by omega
      clear hM ho2 hz t0 t1 t2 t3 hbs
      go_wp2_with fail
      go_region
      go_wp2_with fail
      exact bodyPost_ret (v := .tuple #[.agg #[.int .i64 k, .string n, .int .i64 s, .slice (some ⟨gg, 0, none⟩) ks.length cap'], .int .i64 0]) (by simp [results, Tryd.results41, go_sem, r0, r1, r2, r3]) rfl HDN.out

theorem rrep_any (u : Tm) (x0 x1 x2 x3 : Value) (base : Nat) : ∀ (p : List Int) (t : Tm) (c0 c1 c2 c3 v : Value) (w : World), size t ≤ 1073741824 → base ≤ w.heap.size → IsIn (fun b => b < base) w t c0 c1 c2 c3 → IntsC w v p → IsIn (fun b => b < base) w u x0 x1 x2 x3 →
    Calls Tryd.prog 41 #[.agg #[c0, c1, c2, c3], v, .agg #[x0, x1, x2, x3]] w (RrepPost base w (repT t p u))
  | [], t, c0, c1, c2, c3, v, w, _, hbw, hI, hp, hJ => rrep_nil t u c0 c1 c2 c3 x0 x1 x2 x3 v base w hbw hI hp hJ
  | i :: p, .mk k n s ks, c0, c1, c2, c3, v, w, hM, hbw, hI, hp, hJ => by
    by_cases hout : i < 0 ∨ (ks.length : Int) ≤ i
    · exact rrep_out i p (.mk k n s ks) u c0 c1 c2 c3 x0 x1 x2 x3 v base w hI hp hout
    have hlo : 0 ≤ i := by omega
    obtain ⟨y, rfl⟩ := Int.eq_ofNat_of_zero_le hlo
    have hy : y < ks.length := by omega
    obtain ⟨pb, po, cap, rfl, hpc, hcm, hir, hx, hpt⟩ := IntsC_cons hp
    unfold maxLen at hcm
    have hkl2 := length_le_sizes ks
    have hsz : size ks[y] ≤ sizes ks := size_le_sizes (List.getElem_mem hy)
    simp only [size] at hM
    simp only [IsIn] at hI
    obtain ⟨rfl, rfl, rfl, hk, hs, hn, hkl, ka, kcap, rfl, hkc, hR⟩ := hI
    unfold maxLen at hkl
    obtain ⟨kb, ko, rfl⟩ := RowIn_at hR (by omega)
    obtain ⟨hkb, d0, d1, d2, d3, q0, q1, q2, q3, hK⟩ := RowIn_get hR y hy
    have HC : ∀ W, Ext w W → Calls Tryd.prog 41 #[.agg #[d0, d1, d2, d3], .slice (if cap = 1 then some ⟨pb, po, none⟩ else some ⟨pb, po + 1, none⟩) p.length (cap - 1), .agg #[x0, x1, x2, x3]] W (RrepPost base W (repT ks[y] p u)) := fun W hW =>
      rrep_any u x0 x1 x2 x3 base p ks[y] d0 d1 d2 d3 _ W (by omega) (Nat.le_trans hbw hW.size) (IsIn_below hK hbw hW) (IntsC_below hpt hW) (IsIn_below hJ hbw hW)
    have hr : repT (.mk k n s ks) ((y : Int) :: p) u = (repT ks[y] p u).map fun x => .mk k n s (ks.set y x) := by
      simp only [repT]
      rw [dif_pos (show 0 ≤ (y : Int) ∧ (y : Int) < ((Tm.mk k n s ks).kids.length : Int) from ⟨by omega, by simp only [Tm.kids]; omega⟩)]
      simp only [Tm.kids, Tm.kind, Tm.name, Tm.sort, Int.toNat_natCast]
    rw [hr]
    by_cases hc1 : cap = 1
    · simp only [hc1, if_true, Nat.sub_self] at HC
      cases ha : repT ks[y] p u with
      | none =>
        rw [ha] at HC
        exact rrep_none1 y p k s n ks d0 d1 d2 d3 x0 x1 x2 x3 base pb po cap kb ko kcap w hy hx hpc q0 q1 q2 q3 hc1 HC
      | some a =>
        rw [ha] at HC
        exact rrep_some1 y p k s n ks a d0 d1 d2 d3 x0 x1 x2 x3 base pb po cap kb ko kcap w hbw hy hkl (by omega) hk hs hn hx hpc q0 q1 q2 q3 hR hc1 HC
    · simp only [hc1, if_false] at HC
      cases ha : repT ks[y] p u with
      | none =>
        rw [ha] at HC
        exact rrep_none2 y p k s n ks d0 d1 d2 d3 x0 x1 x2 x3 base pb po cap kb ko kcap w hy hx hpc q0 q1 q2 q3 hc1 HC
      | some a =>
        rw [ha] at HC
        exact rrep_some2 y p k s n ks a d0 d1 d2 d3 x0 x1 x2 x3 base pb po cap kb ko kcap w hbw hy hkl (by omega) hk hs hn hx hpc q0 q1 q2 q3 hR hc1 HC

end Go.Proofs.YthhhmjjgckkdhaaDoor
