import Derived.Test.YtbcpnepjojppaaaGreatDoorLawTheoryKeyxYnml
namespace Go.Proofs.YtbcpnepjojppaaaGreatDoor
open Go.RowKit
set_option maxHeartbeats 3200000 in
set_option maxRecDepth 100000 in
theorem ycopy_any (t : Tm) (b o : Nat) (w : World) (hM : size t ≤ 1073741824) (hL : Lies w t b o) :
    Calls Tryz.prog 73 #[.pointer (some ⟨b, o, none⟩)] w (CopyPost w t) := by
  obtain ⟨x0, x1, x2, x3, g0, g1, g2, g3, hI⟩ := hL
  have hBw : Ext w (w.alloc (.cells #[.int .i64 0, .string ⟨#[]⟩, .int .i64 0, .slice none 0 0] 24)) := (Ext.refl w).alloc _
  have hZ : (w.alloc (.cells #[.int .i64 0, .string ⟨#[]⟩, .int .i64 0, .slice none 0 0] 24)).heap.size = w.heap.size + 1 := World.size_alloc _ _
  have hb0 := heap_alloc_new w (.cells #[.int .i64 0, .string ⟨#[]⟩, .int .i64 0, .slice none 0 0] 24)
  have hIV : ∀ W, IntsV W (.slice none 0 0) [] := fun W => ⟨none, 0, rfl, Nat.zero_le _, fun x hx => by simp at hx, fun h => by simp at h⟩
  have HA := Lib.hid (At_any t [] x0 x1 x2 x3 (.slice none 0 0) (w.alloc (.cells #[.int .i64 0, .string ⟨#[]⟩, .int .i64 0, .slice none 0 0] 24)) hM (Is_below hI hBw) (hIV _))
  have hat : atT t [] = some t := by simp [atT]
  rw [hat] at HA
  unfold AtPost at HA
  have hblt := World.block_lt_of_cell? w _ g0
  simp only at hblt
  have nb0 : ¬ b = w.heap.size := by omega
  have nb00 : ¬ w.heap.size = b := by omega
  have HB := Lib.hid hBw
  have HZ := Lib.hid hZ
  have HB1 := Lib.hid hb0
  have v0 := keep_below hBw _ _ g0
  have v1 := keep_below hBw _ _ g1
  have v2 := keep_below hBw _ _ g2
  have v3 := keep_below hBw _ _ g3
  clear hI hb0 hBw hZ hIV hat hblt g0 g1 g2 g3
  go_enter Tryz.func73, Tryz.ntmps73
  go_upto_region 2 with (go_at_call 95; refine (HA.out).mono ?_; rintro e w5 ⟨hB5, d0, d1, d2, d3, he, hI⟩; subst he; obtain ⟨rk, rn, rs, rx, rl, rc, e0', e1', e2', e3'⟩ := IsIn_form hI; subst e0'; subst e1'; subst e2'; subst e3'; have HE5 := Lib.hid hB5; have HI5 := Lib.hid hI; clear hB5 hI)
  have hs5 := HE5.out.size
  have hZZ := HZ.out
  have hb : (w5.alloc (.cells #[.int .i64 rk, .string rn, .int .i64 rs, .slice rx rl rc] 24)).heap[w.heap.size]? = some (.cells #[.int .i64 0, .string ⟨#[]⟩, .int .i64 0, .slice none 0 0] 24 (0, 0)) := (Below.heap_alloc _ _ _ (by omega)).trans ((HE5.out.block _ (by omega)).trans HB1.out)
  have hx0 := heap_alloc_new w5 (.cells #[.int .i64 rk, .string rn, .int .i64 rs, .slice rx rl rc] 24)
  have hB6 : Below w.heap.size w (w5.alloc (.cells #[.int .i64 rk, .string rn, .int .i64 rs, .slice rx rl rc] 24)) := Ext.alloc (Ext.trans HB.out HE5.out) _
  have hI6 : IsIn (fun b => w.heap.size + 1 ≤ b ∧ b < w5.heap.size) (w5.alloc (.cells #[.int .i64 rk, .string rn, .int .i64 rs, .slice rx rl rc] 24)) t (.int .i64 rk) (.string rn) (.int .i64 rs) (.slice rx rl rc) := IsIn_carry (fun b hb => Below.heap_alloc _ _ _ hb.2) (fun b hb => ⟨by have := hb.1; omega, hb.2⟩) _ _ _ _ _ HI5.out
  have hs6 : (w5.alloc (.cells #[.int .i64 rk, .string rn, .int .i64 rs, .slice rx rl rc] 24)).heap.size = w5.heap.size + 1 := World.size_alloc _ _
  generalize (w5.alloc (.cells #[.int .i64 rk, .string rn, .int .i64 rs, .slice rx rl rc] 24)) = w6 at hb hx0 hB6 hI6 hs6 ⊢
  obtain ⟨⟨m0, m1, m2, m3⟩, n0, n1, n2, n3⟩ := box_facts hb
  obtain ⟨⟨y0, y1, y2, y3⟩, _⟩ := box_facts hx0
  have HF : Hid (CopyPost w t (.returned (.agg #[.int .i64 rk, .string rn, .int .i64 rs, .slice rx rl rc])) (put4 w6 w.heap.size 0 (.int .i64 rk) (.string rn) (.int .i64 rs) (.slice rx rl rc))) :=
    ⟨_, _, _, _, rfl, IsIn_carry (fun b hb => put4_other _ _ _ _ _ _ _ _ (by have := hb.1; omega)) (fun b hb => ⟨by have := hb.1; omega, by rw [put4_size]; have := hb.2; omega⟩) _ _ _ _ _ hI6, put4_below hB6 (by omega)⟩
  clear hb hx0 hB6 hI6 hs6 hs5 hZZ
  go_wp2_with fail
  exact bodyPost_ret (v := .agg #[.int .i64 rk, .string rn, .int .i64 rs, .slice rx rl rc]) (by simp [results, Tryz.results73, go_sem, m0, m1, m2, m3]) rfl HF.out
set_option maxHeartbeats 3200000 in
set_option maxRecDepth 100000 in
theorem ris_any (t : Tm) (nm : ByteArray) (c0 c1 c2 c3 : Value) (w : World) (hI : Is w t c0 c1 c2 c3) :
    Calls Tryz.prog 29 #[.agg #[c0, c1, c2, c3], .string nm] w fun e w' => e = .returned (.bool (isApp t nm)) ∧ Ext w w' := by
  obtain ⟨k, n, s, ks⟩ := t
  simp only [Is] at hI
  obtain ⟨rfl, rfl, rfl, _, _, _, _, xa, cap, rfl, _⟩ := hI
  have hV : isApp (.mk k n s ks) nm = (decide (k = 3) && decide (n = nm)) := rfl
  have HX : Hid (Ext w (w.alloc (.cells #[.int .i64 k, .string n, .int .i64 s, .slice xa ks.length cap] 24))) := (Ext.refl w).alloc _
  by_cases hk : k = 3
  · have q0 : (k == 3) = true := by rw [beq_iff_eq]; exact hk
    by_cases hn : n = nm
    · have q1 := sameStr hn
      have HV : Hid (isApp (.mk k n s ks) nm = true) := by show _ = _; rw [hV, decide_eq_true hk, decide_eq_true hn]; rfl
      clear hV hk hn
      go_enter Tryz.func29, Tryz.ntmps29
      go_wp2_with fail
      go_ret
      rw [HV.out]
      exact ⟨rfl, HX.out⟩
    · have q1 := otherStr hn
      have HV : Hid (isApp (.mk k n s ks) nm = false) := by show _ = _; rw [hV, decide_eq_false hn, Bool.and_false]
      clear hV hk hn
      go_enter Tryz.func29, Tryz.ntmps29
      go_wp2_with fail
      go_ret
      rw [HV.out]
      exact ⟨rfl, HX.out⟩
  · have q0 : (k == 3) = false := by rw [beq_eq_false_iff_ne]; exact hk
    have HV : Hid (isApp (.mk k n s ks) nm = false) := by show _ = _; rw [hV, decide_eq_false hk, Bool.false_and]
    clear hV hk
    go_enter Tryz.func29, Tryz.ntmps29
    go_wp2_with fail
    go_ret
    rw [HV.out]
    exact ⟨rfl, HX.out⟩
def keyP (t : Tm) : Tm × Int := if yvalidE t = 0 then (if isApp t yEnc = true then (kidT t.kids 1, 0) else if isApp t yAenc = true then (if isApp (kidT t.kids 1) yPk = true then (kidT (kidT t.kids 1).kids 0, 0) else (zilT, 4)) else (zilT, 10)) else (zilT, yvalidE t)
set_option maxHeartbeats 3200000 in
set_option maxRecDepth 100000 in
theorem yKey_any (t : Tm) (c0 c1 c2 c3 : Value) (w : World) (hM : size t ≤ 1073741824) (hI : Is w t c0 c1 c2 c3) (hT : TabY w) :
    Calls Tryz.prog 41 #[.agg #[c0, c1, c2, c3]] w (TrPost w (keyP t)) := by
  obtain ⟨k, n, s, xa, l, cap, rfl, rfl, rfl, rfl⟩ := Is_form hI
  obtain ⟨hb0, hb1, hBw, hZ⟩ := boxes2 w (.int .i64 k) (.string n) (.int .i64 s) (.slice xa l cap) (.int .i64 0) (.string ⟨#[]⟩) (.int .i64 0) (.slice none 0 0) 24
  have hL : Lies ((w.alloc (.cells #[.int .i64 k, .string n, .int .i64 s, .slice xa l cap] 24)).alloc (.cells #[.int .i64 0, .string ⟨#[]⟩, .int .i64 0, .slice none 0 0] 24)) t w.heap.size 0 := ⟨_, _, _, _, (box_facts hb0).1.1, (box_facts hb0).1.2.1, (box_facts hb0).1.2.2.1, (box_facts hb0).1.2.2.2, Is_below hI hBw⟩
  have HBX : Hid (∀ W, Ext ((w.alloc (.cells #[.int .i64 k, .string n, .int .i64 s, .slice xa l cap] 24)).alloc (.cells #[.int .i64 0, .string ⟨#[]⟩, .int .i64 0, .slice none 0 0] 24)) W → W.heap[w.heap.size + 1]? = some (.cells #[.int .i64 0, .string ⟨#[]⟩, .int .i64 0, .slice none 0 0] 24 (0, 0)) ∧ W.heap[w.heap.size]? = some (.cells #[.int .i64 k, .string n, .int .i64 s, .slice xa l cap] 24 (0, 0))) := fun W x => ⟨(x.block _ (by omega)).trans hb1, (x.block _ (by omega)).trans hb0⟩
  have HV := Lib.hid (yValid_any t _ _ _ _ ((w.alloc (.cells #[.int .i64 k, .string n, .int .i64 s, .slice xa l cap] 24)).alloc (.cells #[.int .i64 0, .string ⟨#[]⟩, .int .i64 0, .slice none 0 0] 24)) hM (Is_below hI hBw) (hT.ext hBw))
  have hE : keyP t = if yvalidE t = 0 then (if isApp t yEnc = true then (kidT t.kids 1, 0) else if isApp t yAenc = true then (if isApp (kidT t.kids 1) yPk = true then (kidT (kidT t.kids 1).kids 0, 0) else (zilT, 4)) else (zilT, 10)) else (zilT, yvalidE t) := rfl
  have HBw := Lib.hid hBw
  obtain ⟨⟨p0, p1, p2, p3⟩, _⟩ := box_facts hb0
  obtain ⟨⟨m0, m1, m2, m3⟩, n0, n1, n2, n3⟩ := box_facts hb1
  have hZ1 : w.heap.size ≤ w.heap.size + 1 := by omega
  have HZ1 := Lib.hid hZ1
  by_cases hv : yvalidE t = 0
  rotate_left
  · rw [if_neg hv] at hE
    have HR := Lib.hid hE
    generalize yvalidE t = x at HV HR hv
    have q1 : (x != 0) = true := by rw [bne_iff_ne]; exact hv
    clear hv hE hM hI hb0 hb1 hBw hZ hL hZ1
    go_enter Tryz.func41, Tryz.ntmps41
    go_wp2_with (go_at_call 14; refine (HV.out).mono ?_; rintro e w3 ⟨he, hX⟩; subst he; have HX3 := Lib.hid hX; clear hX; clear m0 m1 m2 m3 n0 n1 n2 n3 p0 p1 p2 p3; obtain ⟨⟨m0, m1, m2, m3⟩, n0, n1, n2, n3⟩ := box_facts (HBX.out _ HX3.out).1; obtain ⟨⟨p0, p1, p2, p3⟩, _⟩ := box_facts (HBX.out _ HX3.out).2)
    exact bodyPost_ret (v := .tuple #[.agg #[.int .i64 0, .string ⟨#[]⟩, .int .i64 0, .slice none 0 0], .int .i64 x]) (by simp [results, Tryz.results41, go_sem, m0, m1, m2, m3]) rfl (TrErr HR.out HZ1.out (Ext.trans HBw.out HX3.out))
  rw [hv] at HV
  obtain ⟨hg, hs4⟩ := yvalid_gd hv
  rw [if_pos hv] at hE
  have HAE : Hid (∀ W, Ext ((w.alloc (.cells #[.int .i64 k, .string n, .int .i64 s, .slice xa l cap] 24)).alloc (.cells #[.int .i64 0, .string ⟨#[]⟩, .int .i64 0, .slice none 0 0] 24)) W → Calls Tryz.prog 72 #[.pointer (some ⟨w.heap.size, 0, none⟩), .string ⟨#[101, 110, 99]⟩] W fun e w' => e = .returned (.bool (isApp t ⟨#[101, 110, 99]⟩)) ∧ w' = W) := fun W x => applies_any t ⟨#[101, 110, 99]⟩ _ _ W (Lies_carry (keep_below x) hL)
  have HAA : Hid (∀ W, Ext ((w.alloc (.cells #[.int .i64 k, .string n, .int .i64 s, .slice xa l cap] 24)).alloc (.cells #[.int .i64 0, .string ⟨#[]⟩, .int .i64 0, .slice none 0 0] 24)) W → Calls Tryz.prog 72 #[.pointer (some ⟨w.heap.size, 0, none⟩), .string ⟨#[97, 101, 110, 99]⟩] W fun e w' => e = .returned (.bool (isApp t ⟨#[97, 101, 110, 99]⟩)) ∧ w' = W) := fun W x => applies_any t ⟨#[97, 101, 110, 99]⟩ _ _ W (Lies_carry (keep_below x) hL)
  cases ha : isApp t ⟨#[101, 110, 99]⟩
  rotate_left
  · rw [if_pos (c := isApp t yEnc = true) ha] at hE
    rw [ha] at HAE
    obtain ⟨s', ks, hkk⟩ := isApp_mk ha
    have hg' := hg
    rw [hkk] at hg'
    have hL' := hL
    rw [hkk] at hL'
    have hkl : ks.length = 2 := ln_enc (gd_mk hg').2.1
    obtain ⟨cb, co, cc, g3, hLk⟩ := Lies_kids hL' (by omega)
    have e3 : xa = some ⟨cb, co, none⟩ ∧ l = 2 ∧ cap = cc := by
      have := p3.symm.trans g3
      simp only [Option.some.injEq, Value.slice.injEq] at this
      exact ⟨this.1, by omega, this.2.2⟩
    obtain ⟨rfl, rfl, rfl⟩ := e3
    have hL1 := hLk 1 (by omega)
    rw [Nat.one_mul] at hL1
    have hg1 := gd_kid hg' (show 1 < ks.length by omega)
    have hz1 : size (kidT ks 1) ≤ 400 := by have := size_kid (n := ⟨#[101, 110, 99]⟩) (s := s') (show 1 < ks.length by omega); rw [hkk] at hs4; omega
    have hKk : t.kids = ks := by rw [hkk]; rfl
    rw [hKk] at hE
    have HR := Lib.hid hE
    have HG := Lib.hid hg1.1
    have HCP : Hid (∀ W, Ext ((w.alloc (.cells #[.int .i64 k, .string n, .int .i64 s, .slice (some ⟨cb, co, none⟩) 2 cap] 24)).alloc (.cells #[.int .i64 0, .string ⟨#[]⟩, .int .i64 0, .slice none 0 0] 24)) W → Calls Tryz.prog 73 #[.pointer (some ⟨cb, co + 4, none⟩)] W (CopyPost W (kidT ks 1))) := fun W x => ycopy_any (kidT ks 1) _ _ W (by omega) (Lies_carry (keep_below x) hL1)
    clear hv hM hI hb0 hb1 hBw hZ hL hs4 hg hZ1 hE ha hkk hg' hL' hkl g3 hLk hL1 hg1 hz1 hKk HAA
    go_enter Tryz.func41, Tryz.ntmps41
    go_wp2_with (first | (go_at_call 14; refine (HV.out).mono ?_; rintro e w3 ⟨he, hX⟩; subst he; have HX3 := Lib.hid hX; clear hX; clear m0 m1 m2 m3 n0 n1 n2 n3 p0 p1 p2 p3; obtain ⟨⟨m0, m1, m2, m3⟩, n0, n1, n2, n3⟩ := box_facts (HBX.out _ HX3.out).1; obtain ⟨⟨p0, p1, p2, p3⟩, _⟩ := box_facts (HBX.out _ HX3.out).2) | (go_at_call 72; refine (HAE.out _ HX3.out).mono ?_; rintro e w4 ⟨he, hw⟩; subst he; have hw' := hw.symm; subst hw') | (go_at_call 73; refine (HCP.out _ HX3.out).mono ?_; rintro e w5 ⟨d0, d1, d2, d3, he, hI5, hX5⟩; subst he; obtain ⟨rk, rn, rs, rx, rl, rc, e0, e1, e2, e3⟩ := IsIn_form hI5; subst e0 e1 e2 e3; have HI5 := Lib.hid (IsIn_Is _ _ _ _ _ hI5); have HX5 := Lib.hid (Ext.trans HX3.out hX5); clear hI5 hX5; clear m0 m1 m2 m3 n0 n1 n2 n3 p0 p1 p2 p3; obtain ⟨⟨m0, m1, m2, m3⟩, n0, n1, n2, n3⟩ := box_facts (HBX.out _ HX5.out).1; obtain ⟨⟨p0, p1, p2, p3⟩, _⟩ := box_facts (HBX.out _ HX5.out).2))
    exact bodyPost_ret (v := .tuple #[.agg #[.int .i64 rk, .string rn, .int .i64 rs, .slice rx rl rc], .int .i64 0]) (by simp [results, Tryz.results41, go_sem, m0, m1, m2, m3]) rfl (TrFin HR.out (HBX.out _ HX5.out).1 HZ1.out (Ext.trans HBw.out HX5.out) HG.out HI5.out)
  rw [if_neg (c := isApp t yEnc = true) (by rw [show isApp t yEnc = false from ha]; exact Bool.false_ne_true)] at hE
  rw [ha] at HAE
  cases hb : isApp t ⟨#[97, 101, 110, 99]⟩
  · rw [if_neg (c := isApp t yAenc = true) (by rw [show isApp t yAenc = false from hb]; exact Bool.false_ne_true)] at hE
    rw [hb] at HAA
    have HR := Lib.hid hE
    clear hv hM hI hb0 hb1 hBw hZ hL hs4 hg hZ1 hE ha hb
    have tok1 : True := trivial
    go_enter Tryz.func41, Tryz.ntmps41
    go_wp2_with (first | (go_at_call 14; refine (HV.out).mono ?_; rintro e w3 ⟨he, hX⟩; subst he; have HX3 := Lib.hid hX; clear hX; clear m0 m1 m2 m3 n0 n1 n2 n3 p0 p1 p2 p3; obtain ⟨⟨m0, m1, m2, m3⟩, n0, n1, n2, n3⟩ := box_facts (HBX.out _ HX3.out).1; obtain ⟨⟨p0, p1, p2, p3⟩, _⟩ := box_facts (HBX.out _ HX3.out).2) | (go_at_call 72; have _t := tok1; refine (HAE.out _ HX3.out).mono ?_; rintro e w4 ⟨he, hw⟩; subst he; have hw' := hw.symm; subst hw'; clear tok1) | (go_at_call 72; refine (HAA.out _ HX3.out).mono ?_; rintro e w4 ⟨he, hw⟩; subst he; have hw' := hw.symm; subst hw'))
    exact bodyPost_ret (v := .tuple #[.agg #[.int .i64 0, .string ⟨#[]⟩, .int .i64 0, .slice none 0 0], .int .i64 10]) (by simp [results, Tryz.results41, go_sem, m0, m1, m2, m3]) rfl (TrErr HR.out HZ1.out (Ext.trans HBw.out HX3.out))
  rw [if_pos (c := isApp t yAenc = true) hb] at hE
  rw [hb] at HAA
  obtain ⟨s', ks, hkk⟩ := isApp_mk hb
  have hg' := hg
  rw [hkk] at hg'
  have hL' := hL
  rw [hkk] at hL'
  have hkl : ks.length = 2 := ln_aenc (gd_mk hg').2.1
  obtain ⟨cb, co, cc, g3, hLk⟩ := Lies_kids hL' (by omega)
  have e3 : xa = some ⟨cb, co, none⟩ ∧ l = 2 ∧ cap = cc := by
    have := p3.symm.trans g3
    simp only [Option.some.injEq, Value.slice.injEq] at this
    exact ⟨this.1, by omega, this.2.2⟩
  obtain ⟨rfl, rfl, rfl⟩ := e3
  have hL1 := hLk 1 (by omega)
  rw [Nat.one_mul] at hL1
  have hg1 := gd_kid hg' (show 1 < ks.length by omega)
  have hz1 : size (kidT ks 1) ≤ 400 := by have := size_kid (n := ⟨#[97, 101, 110, 99]⟩) (s := s') (show 1 < ks.length by omega); rw [hkk] at hs4; omega
  have hKk : t.kids = ks := by rw [hkk]; rfl
  rw [hKk] at hE
  have HAP : Hid (∀ W, Ext ((w.alloc (.cells #[.int .i64 k, .string n, .int .i64 s, .slice (some ⟨cb, co, none⟩) 2 cap] 24)).alloc (.cells #[.int .i64 0, .string ⟨#[]⟩, .int .i64 0, .slice none 0 0] 24)) W → Calls Tryz.prog 72 #[.pointer (some ⟨cb, co + 4, none⟩), .string ⟨#[112, 107]⟩] W fun e w' => e = .returned (.bool (isApp (kidT ks 1) ⟨#[112, 107]⟩)) ∧ w' = W) := fun W x => applies_any (kidT ks 1) ⟨#[112, 107]⟩ _ _ W (Lies_carry (keep_below x) hL1)
  have tok1 : True := trivial
  have tok2 : True := trivial
  cases hc : isApp (kidT ks 1) ⟨#[112, 107]⟩
  · rw [if_neg (c := isApp (kidT ks 1) yPk = true) (by rw [show isApp (kidT ks 1) yPk = false from hc]; exact Bool.false_ne_true)] at hE
    rw [hc] at HAP
    have HR := Lib.hid hE
    clear hv hM hI hb0 hb1 hBw hZ hL hs4 hg hZ1 hE ha hb hc hkk hg' hL' hkl g3 hLk hL1 hg1 hz1 hKk
    go_enter Tryz.func41, Tryz.ntmps41
    go_wp2_with (first | (go_at_call 14; refine (HV.out).mono ?_; rintro e w3 ⟨he, hX⟩; subst he; have HX3 := Lib.hid hX; clear hX; clear m0 m1 m2 m3 n0 n1 n2 n3 p0 p1 p2 p3; obtain ⟨⟨m0, m1, m2, m3⟩, n0, n1, n2, n3⟩ := box_facts (HBX.out _ HX3.out).1; obtain ⟨⟨p0, p1, p2, p3⟩, _⟩ := box_facts (HBX.out _ HX3.out).2) | (go_at_call 72; have _t := tok1; refine (HAE.out _ HX3.out).mono ?_; rintro e w4 ⟨he, hw⟩; subst he; have hw' := hw.symm; subst hw'; clear tok1) | (go_at_call 72; have _t := tok2; refine (HAA.out _ HX3.out).mono ?_; rintro e w4 ⟨he, hw⟩; subst he; have hw' := hw.symm; subst hw'; clear tok2) | (go_at_call 72; refine (HAP.out _ HX3.out).mono ?_; rintro e w4 ⟨he, hw⟩; subst he; have hw' := hw.symm; subst hw'))
    exact bodyPost_ret (v := .tuple #[.agg #[.int .i64 0, .string ⟨#[]⟩, .int .i64 0, .slice none 0 0], .int .i64 4]) (by simp [results, Tryz.results41, go_sem, m0, m1, m2, m3]) rfl (TrErr HR.out HZ1.out (Ext.trans HBw.out HX3.out))
  rw [if_pos (c := isApp (kidT ks 1) yPk = true) hc] at hE
  rw [hc] at HAP
  obtain ⟨s2, ks2, hkk2⟩ := isApp_mk hc
  rw [hkk2] at hL1 hg1 hz1
  have hkl2 : ks2.length = 1 := ln_pk (gd_mk hg1).2.1
  obtain ⟨eb, eo, ec, u3, hLk2⟩ := Lies_kids hL1 (by omega)
  have hL2 := hLk2 0 (by omega)
  rw [Nat.zero_mul, Nat.add_zero] at hL2
  have hg2 := gd_kid hg1 (show 0 < ks2.length by omega)
  have hz2 : size (kidT ks2 0) ≤ 400 := by have := size_kid (n := ⟨#[112, 107]⟩) (s := s2) (show 0 < ks2.length by omega); omega
  have hKk2 : (kidT ks 1).kids = ks2 := by rw [hkk2]; rfl
  rw [hKk2] at hE
  rw [Nat.add_assoc, hkl2] at u3
  have HR := Lib.hid hE
  have HG := Lib.hid hg2.1
  have HU : Hid (∀ W, Ext ((w.alloc (.cells #[.int .i64 k, .string n, .int .i64 s, .slice (some ⟨cb, co, none⟩) 2 cap] 24)).alloc (.cells #[.int .i64 0, .string ⟨#[]⟩, .int .i64 0, .slice none 0 0] 24)) W → W.cell? ⟨cb, co + 7, none⟩ = some (.slice (some ⟨eb, eo, none⟩) 1 ec)) := fun W x => keep_below x _ _ u3
  have HCP : Hid (∀ W, Ext ((w.alloc (.cells #[.int .i64 k, .string n, .int .i64 s, .slice (some ⟨cb, co, none⟩) 2 cap] 24)).alloc (.cells #[.int .i64 0, .string ⟨#[]⟩, .int .i64 0, .slice none 0 0] 24)) W → Calls Tryz.prog 73 #[.pointer (some ⟨eb, eo, none⟩)] W (CopyPost W (kidT ks2 0))) := fun W x => ycopy_any (kidT ks2 0) _ _ W (by omega) (Lies_carry (keep_below x) hL2)
  clear hv hM hI hb0 hb1 hBw hZ hL hs4 hg hZ1 hE ha hb hc hkk hg' hL' hkl g3 hLk hL1 hg1 hz1 hKk hkk2 hkl2 hLk2 hL2 hg2 hz2 hKk2 u3
  go_enter Tryz.func41, Tryz.ntmps41
  go_wp2_with (first | (go_at_call 14; refine (HV.out).mono ?_; rintro e w3 ⟨he, hX⟩; subst he; have HX3 := Lib.hid hX; clear hX; clear m0 m1 m2 m3 n0 n1 n2 n3 p0 p1 p2 p3; obtain ⟨⟨m0, m1, m2, m3⟩, n0, n1, n2, n3⟩ := box_facts (HBX.out _ HX3.out).1; obtain ⟨⟨p0, p1, p2, p3⟩, _⟩ := box_facts (HBX.out _ HX3.out).2; have u3 := HU.out _ HX3.out) | (go_at_call 72; have _t := tok1; refine (HAE.out _ HX3.out).mono ?_; rintro e w4 ⟨he, hw⟩; subst he; have hw' := hw.symm; subst hw'; clear tok1) | (go_at_call 72; have _t := tok2; refine (HAA.out _ HX3.out).mono ?_; rintro e w4 ⟨he, hw⟩; subst he; have hw' := hw.symm; subst hw'; clear tok2) | (go_at_call 72; refine (HAP.out _ HX3.out).mono ?_; rintro e w4 ⟨he, hw⟩; subst he; have hw' := hw.symm; subst hw') | (go_at_call 73; refine (HCP.out _ HX3.out).mono ?_; rintro e w5 ⟨d0, d1, d2, d3, he, hI5, hX5⟩; subst he; obtain ⟨rk, rn, rs, rx, rl, rc, e0, e1, e2, e3⟩ := IsIn_form hI5; subst e0 e1 e2 e3; have HI5 := Lib.hid (IsIn_Is _ _ _ _ _ hI5); have HX5 := Lib.hid (Ext.trans HX3.out hX5); clear hI5 hX5; clear m0 m1 m2 m3 n0 n1 n2 n3 p0 p1 p2 p3; obtain ⟨⟨m0, m1, m2, m3⟩, n0, n1, n2, n3⟩ := box_facts (HBX.out _ HX5.out).1; obtain ⟨⟨p0, p1, p2, p3⟩, _⟩ := box_facts (HBX.out _ HX5.out).2))
  exact bodyPost_ret (v := .tuple #[.agg #[.int .i64 rk, .string rn, .int .i64 rs, .slice rx rl rc], .int .i64 0]) (by simp [results, Tryz.results41, go_sem, m0, m1, m2, m3]) rfl (TrFin HR.out (HBX.out _ HX5.out).1 HZ1.out (Ext.trans HBw.out HX5.out) HG.out HI5.out)
set_option maxHeartbeats 3200000 in
set_option maxRecDepth 100000 in
theorem rKey_any9 (t : Tm) (c0 c1 c2 c3 : Value) (w : World) (hM : size t ≤ 1073741824) (hI : Is w t c0 c1 c2 c3) :
    Calls Tryz.prog 42 #[.agg #[c0, c1, c2, c3]] w (TrPost w (keyP t)) := by
  obtain ⟨k, n, s, xa, l, cap, rfl, rfl, rfl, rfl⟩ := Is_form hI
  obtain ⟨hb0, hb1, hBw, hZ⟩ := boxes2 w (.int .i64 k) (.string n) (.int .i64 s) (.slice xa l cap) (.int .i64 0) (.string ⟨#[]⟩) (.int .i64 0) (.slice none 0 0) 24
  have hL : Lies ((w.alloc (.cells #[.int .i64 k, .string n, .int .i64 s, .slice xa l cap] 24)).alloc (.cells #[.int .i64 0, .string ⟨#[]⟩, .int .i64 0, .slice none 0 0] 24)) t w.heap.size 0 := ⟨_, _, _, _, (box_facts hb0).1.1, (box_facts hb0).1.2.1, (box_facts hb0).1.2.2.1, (box_facts hb0).1.2.2.2, Is_below hI hBw⟩
  have HBX : Hid (∀ W, Ext ((w.alloc (.cells #[.int .i64 k, .string n, .int .i64 s, .slice xa l cap] 24)).alloc (.cells #[.int .i64 0, .string ⟨#[]⟩, .int .i64 0, .slice none 0 0] 24)) W → W.heap[w.heap.size + 1]? = some (.cells #[.int .i64 0, .string ⟨#[]⟩, .int .i64 0, .slice none 0 0] 24 (0, 0)) ∧ W.heap[w.heap.size]? = some (.cells #[.int .i64 k, .string n, .int .i64 s, .slice xa l cap] 24 (0, 0))) := fun W x => ⟨(x.block _ (by omega)).trans hb1, (x.block _ (by omega)).trans hb0⟩
  have HV := Lib.hid (yrValid_any t _ _ _ _ ((w.alloc (.cells #[.int .i64 k, .string n, .int .i64 s, .slice xa l cap] 24)).alloc (.cells #[.int .i64 0, .string ⟨#[]⟩, .int .i64 0, .slice none 0 0] 24)) hM (Is_below hI hBw))
  have hE : keyP t = if yvalidE t = 0 then (if isApp t yEnc = true then (kidT t.kids 1, 0) else if isApp t yAenc = true then (if isApp (kidT t.kids 1) yPk = true then (kidT (kidT t.kids 1).kids 0, 0) else (zilT, 4)) else (zilT, 10)) else (zilT, yvalidE t) := rfl
  have HBw := Lib.hid hBw
  obtain ⟨⟨p0, p1, p2, p3⟩, _⟩ := box_facts hb0
  obtain ⟨⟨m0, m1, m2, m3⟩, n0, n1, n2, n3⟩ := box_facts hb1
  have hZ1 : w.heap.size ≤ w.heap.size + 1 := by omega
  have HZ1 := Lib.hid hZ1
  by_cases hv : yvalidE t = 0
  rotate_left
  · rw [if_neg hv] at hE
    have HR := Lib.hid hE
    generalize yvalidE t = x at HV HR hv
    have q1 : (x != 0) = true := by rw [bne_iff_ne]; exact hv
    clear hv hE hM hI hb0 hb1 hBw hZ hL hZ1
    go_enter Tryz.func42, Tryz.ntmps42
    go_wp2_with (go_at_call 15; refine (HV.out).mono ?_; rintro e w3 ⟨he, hX⟩; subst he; have HX3 := Lib.hid hX; clear hX; clear m0 m1 m2 m3 n0 n1 n2 n3 p0 p1 p2 p3; obtain ⟨⟨m0, m1, m2, m3⟩, n0, n1, n2, n3⟩ := box_facts (HBX.out _ HX3.out).1; obtain ⟨⟨p0, p1, p2, p3⟩, _⟩ := box_facts (HBX.out _ HX3.out).2)
    exact bodyPost_ret (v := .tuple #[.agg #[.int .i64 0, .string ⟨#[]⟩, .int .i64 0, .slice none 0 0], .int .i64 x]) (by simp [results, Tryz.results42, go_sem, m0, m1, m2, m3]) rfl (TrErr HR.out HZ1.out (Ext.trans HBw.out HX3.out))
  rw [hv] at HV
  obtain ⟨hg, hs4⟩ := yvalid_gd hv
  rw [if_pos hv] at hE
  have HAE : Hid (∀ W, Ext ((w.alloc (.cells #[.int .i64 k, .string n, .int .i64 s, .slice xa l cap] 24)).alloc (.cells #[.int .i64 0, .string ⟨#[]⟩, .int .i64 0, .slice none 0 0] 24)) W → Calls Tryz.prog 29 #[.agg #[.int .i64 k, .string n, .int .i64 s, .slice xa l cap], .string ⟨#[101, 110, 99]⟩] W fun e w' => e = .returned (.bool (isApp t ⟨#[101, 110, 99]⟩)) ∧ Ext W w') := fun W x => ris_any t _ _ _ _ _ W (Is_below hI (Ext.trans hBw x))
  have HAA : Hid (∀ W, Ext ((w.alloc (.cells #[.int .i64 k, .string n, .int .i64 s, .slice xa l cap] 24)).alloc (.cells #[.int .i64 0, .string ⟨#[]⟩, .int .i64 0, .slice none 0 0] 24)) W → Calls Tryz.prog 29 #[.agg #[.int .i64 k, .string n, .int .i64 s, .slice xa l cap], .string ⟨#[97, 101, 110, 99]⟩] W fun e w' => e = .returned (.bool (isApp t ⟨#[97, 101, 110, 99]⟩)) ∧ Ext W w') := fun W x => ris_any t _ _ _ _ _ W (Is_below hI (Ext.trans hBw x))
  cases ha : isApp t ⟨#[101, 110, 99]⟩
  rotate_left
  · rw [if_pos (c := isApp t yEnc = true) ha] at hE
    rw [ha] at HAE
    obtain ⟨s', ks, hkk⟩ := isApp_mk ha
    have hg' := hg
    rw [hkk] at hg'
    have hL' := hL
    rw [hkk] at hL'
    have hkl : ks.length = 2 := ln_enc (gd_mk hg').2.1
    obtain ⟨cb, co, cc, g3, hLk⟩ := Lies_kids hL' (by omega)
    have e3 : xa = some ⟨cb, co, none⟩ ∧ l = 2 ∧ cap = cc := by
      have := p3.symm.trans g3
      simp only [Option.some.injEq, Value.slice.injEq] at this
      exact ⟨this.1, by omega, this.2.2⟩
    obtain ⟨rfl, rfl, rfl⟩ := e3
    have hL1 := hLk 1 (by omega)
    rw [Nat.one_mul] at hL1
    have hg1 := gd_kid hg' (show 1 < ks.length by omega)
    have hz1 : size (kidT ks 1) ≤ 400 := by have := size_kid (n := ⟨#[101, 110, 99]⟩) (s := s') (show 1 < ks.length by omega); rw [hkk] at hs4; omega
    have hKk : t.kids = ks := by rw [hkk]; rfl
    rw [hKk] at hE
    have HR := Lib.hid hE
    have HG := Lib.hid hg1.1
    obtain ⟨d0, d1, d2, d3, r0, r1, r2, r3, hId⟩ := hL1
    obtain ⟨rk, rn, rs, rx, rl, rc, rfl, rfl, rfl, rfl⟩ := Is_form hId
    rw [Nat.add_assoc] at r1 r2 r3
    have HS : Hid (∀ W, Ext ((w.alloc (.cells #[.int .i64 k, .string n, .int .i64 s, .slice (some ⟨cb, co, none⟩) 2 cap] 24)).alloc (.cells #[.int .i64 0, .string ⟨#[]⟩, .int .i64 0, .slice none 0 0] 24)) W → (W.cell? ⟨cb, co + 4, none⟩ = some (.int .i64 rk) ∧ W.cell? ⟨cb, co + 5, none⟩ = some (.string rn) ∧ W.cell? ⟨cb, co + 6, none⟩ = some (.int .i64 rs) ∧ W.cell? ⟨cb, co + 7, none⟩ = some (.slice rx rl rc)) ∧ Is W (kidT ks 1) (.int .i64 rk) (.string rn) (.int .i64 rs) (.slice rx rl rc)) := fun W x => by
      have c := keep_below x
      exact ⟨⟨c _ _ r0, c _ _ r1, c _ _ r2, c _ _ r3⟩, Is_below hId x⟩
    clear hv hM hI hb0 hb1 hBw hZ hL hs4 hg hZ1 hE ha hkk hg' hL' hkl g3 hLk hg1 hz1 hKk HAA r0 r1 r2 r3 hId
    go_enter Tryz.func42, Tryz.ntmps42
    go_wp2_with (first | (go_at_call 15; refine (HV.out).mono ?_; rintro e w3 ⟨he, hX⟩; subst he; have HX3 := Lib.hid hX; clear hX; clear m0 m1 m2 m3 n0 n1 n2 n3 p0 p1 p2 p3; obtain ⟨⟨m0, m1, m2, m3⟩, n0, n1, n2, n3⟩ := box_facts (HBX.out _ HX3.out).1; obtain ⟨⟨p0, p1, p2, p3⟩, _⟩ := box_facts (HBX.out _ HX3.out).2) | (go_at_call 29; refine (HAE.out _ HX3.out).mono ?_; rintro e w4 ⟨he, hX⟩; subst he; replace HX3 := Lib.hid (Ext.trans HX3.out hX); clear hX; clear m0 m1 m2 m3 n0 n1 n2 n3 p0 p1 p2 p3; obtain ⟨⟨m0, m1, m2, m3⟩, n0, n1, n2, n3⟩ := box_facts (HBX.out _ HX3.out).1; obtain ⟨⟨p0, p1, p2, p3⟩, _⟩ := box_facts (HBX.out _ HX3.out).2; obtain ⟨⟨r0, r1, r2, r3⟩, _⟩ := HS.out _ HX3.out))
    exact bodyPost_ret (v := .tuple #[.agg #[.int .i64 rk, .string rn, .int .i64 rs, .slice rx rl rc], .int .i64 0]) (by simp [results, Tryz.results42, go_sem, m0, m1, m2, m3]) rfl (TrFin HR.out (HBX.out _ HX3.out).1 HZ1.out (Ext.trans HBw.out HX3.out) HG.out (HS.out _ HX3.out).2)
  rw [if_neg (c := isApp t yEnc = true) (by rw [show isApp t yEnc = false from ha]; exact Bool.false_ne_true)] at hE
  rw [ha] at HAE
  cases hb : isApp t ⟨#[97, 101, 110, 99]⟩
  · rw [if_neg (c := isApp t yAenc = true) (by rw [show isApp t yAenc = false from hb]; exact Bool.false_ne_true)] at hE
    rw [hb] at HAA
    have HR := Lib.hid hE
    clear hv hM hI hb0 hb1 hBw hZ hL hs4 hg hZ1 hE ha hb
    have tok1 : True := trivial
    go_enter Tryz.func42, Tryz.ntmps42
    go_wp2_with (first | (go_at_call 15; refine (HV.out).mono ?_; rintro e w3 ⟨he, hX⟩; subst he; have HX3 := Lib.hid hX; clear hX; clear m0 m1 m2 m3 n0 n1 n2 n3 p0 p1 p2 p3; obtain ⟨⟨m0, m1, m2, m3⟩, n0, n1, n2, n3⟩ := box_facts (HBX.out _ HX3.out).1; obtain ⟨⟨p0, p1, p2, p3⟩, _⟩ := box_facts (HBX.out _ HX3.out).2) | (go_at_call 29; have _t := tok1; refine (HAE.out _ HX3.out).mono ?_; rintro e w4 ⟨he, hX⟩; subst he; replace HX3 := Lib.hid (Ext.trans HX3.out hX); clear hX; clear m0 m1 m2 m3 n0 n1 n2 n3 p0 p1 p2 p3; obtain ⟨⟨m0, m1, m2, m3⟩, n0, n1, n2, n3⟩ := box_facts (HBX.out _ HX3.out).1; obtain ⟨⟨p0, p1, p2, p3⟩, _⟩ := box_facts (HBX.out _ HX3.out).2; clear tok1) | (go_at_call 29; refine (HAA.out _ HX3.out).mono ?_; rintro e w4 ⟨he, hX⟩; subst he; replace HX3 := Lib.hid (Ext.trans HX3.out hX); clear hX; clear m0 m1 m2 m3 n0 n1 n2 n3 p0 p1 p2 p3; obtain ⟨⟨m0, m1, m2, m3⟩, n0, n1, n2, n3⟩ := box_facts (HBX.out _ HX3.out).1; obtain ⟨⟨p0, p1, p2, p3⟩, _⟩ := box_facts (HBX.out _ HX3.out).2))
    exact bodyPost_ret (v := .tuple #[.agg #[.int .i64 0, .string ⟨#[]⟩, .int .i64 0, .slice none 0 0], .int .i64 10]) (by simp [results, Tryz.results42, go_sem, m0, m1, m2, m3]) rfl (TrErr HR.out HZ1.out (Ext.trans HBw.out HX3.out))
  rw [if_pos (c := isApp t yAenc = true) hb] at hE
  rw [hb] at HAA
  obtain ⟨s', ks, hkk⟩ := isApp_mk hb
  have hg' := hg
  rw [hkk] at hg'
  have hL' := hL
  rw [hkk] at hL'
  have hkl : ks.length = 2 := ln_aenc (gd_mk hg').2.1
  obtain ⟨cb, co, cc, g3, hLk⟩ := Lies_kids hL' (by omega)
  have e3 : xa = some ⟨cb, co, none⟩ ∧ l = 2 ∧ cap = cc := by
    have := p3.symm.trans g3
    simp only [Option.some.injEq, Value.slice.injEq] at this
    exact ⟨this.1, by omega, this.2.2⟩
  obtain ⟨rfl, rfl, rfl⟩ := e3
  have hL1 := hLk 1 (by omega)
  rw [Nat.one_mul] at hL1
  have hg1 := gd_kid hg' (show 1 < ks.length by omega)
  have hz1 : size (kidT ks 1) ≤ 400 := by have := size_kid (n := ⟨#[97, 101, 110, 99]⟩) (s := s') (show 1 < ks.length by omega); rw [hkk] at hs4; omega
  have hKk : t.kids = ks := by rw [hkk]; rfl
  rw [hKk] at hE
  obtain ⟨d0, d1, d2, d3, r0, r1, r2, r3, hId⟩ := hL1
  have hL1 : Lies ((w.alloc (.cells #[.int .i64 k, .string n, .int .i64 s, .slice (some ⟨cb, co, none⟩) 2 cap] 24)).alloc (.cells #[.int .i64 0, .string ⟨#[]⟩, .int .i64 0, .slice none 0 0] 24)) (kidT ks 1) cb (co + 4) := ⟨d0, d1, d2, d3, r0, r1, r2, r3, hId⟩
  obtain ⟨rk, rn, rs, rx, rl, rc, rfl, rfl, rfl, rfl⟩ := Is_form hId
  rw [Nat.add_assoc] at r1 r2 r3
  have HS : Hid (∀ W, Ext ((w.alloc (.cells #[.int .i64 k, .string n, .int .i64 s, .slice (some ⟨cb, co, none⟩) 2 cap] 24)).alloc (.cells #[.int .i64 0, .string ⟨#[]⟩, .int .i64 0, .slice none 0 0] 24)) W → (W.cell? ⟨cb, co + 4, none⟩ = some (.int .i64 rk) ∧ W.cell? ⟨cb, co + 5, none⟩ = some (.string rn) ∧ W.cell? ⟨cb, co + 6, none⟩ = some (.int .i64 rs) ∧ W.cell? ⟨cb, co + 7, none⟩ = some (.slice rx rl rc)) ∧ Is W (kidT ks 1) (.int .i64 rk) (.string rn) (.int .i64 rs) (.slice rx rl rc)) := fun W x => by
    have c := keep_below x
    exact ⟨⟨c _ _ r0, c _ _ r1, c _ _ r2, c _ _ r3⟩, Is_below hId x⟩
  have HAP : Hid (∀ W, Ext ((w.alloc (.cells #[.int .i64 k, .string n, .int .i64 s, .slice (some ⟨cb, co, none⟩) 2 cap] 24)).alloc (.cells #[.int .i64 0, .string ⟨#[]⟩, .int .i64 0, .slice none 0 0] 24)) W → Calls Tryz.prog 29 #[.agg #[.int .i64 rk, .string rn, .int .i64 rs, .slice rx rl rc], .string ⟨#[112, 107]⟩] W fun e w' => e = .returned (.bool (isApp (kidT ks 1) ⟨#[112, 107]⟩)) ∧ Ext W w') := fun W x => ris_any (kidT ks 1) _ _ _ _ _ W (Is_below hId x)
  have tok1 : True := trivial
  have tok2 : True := trivial
  cases hc : isApp (kidT ks 1) ⟨#[112, 107]⟩
  · rw [if_neg (c := isApp (kidT ks 1) yPk = true) (by rw [show isApp (kidT ks 1) yPk = false from hc]; exact Bool.false_ne_true)] at hE
    rw [hc] at HAP
    have HR := Lib.hid hE
    clear hv hM hI hb0 hb1 hBw hZ hL hs4 hg hZ1 hE ha hb hc hkk hg' hL' hkl g3 hLk hL1 hg1 hz1 hKk hId
    go_enter Tryz.func42, Tryz.ntmps42
    go_wp2_with (first | (go_at_call 15; refine (HV.out).mono ?_; rintro e w3 ⟨he, hX⟩; subst he; have HX3 := Lib.hid hX; clear hX; clear m0 m1 m2 m3 n0 n1 n2 n3 p0 p1 p2 p3; obtain ⟨⟨m0, m1, m2, m3⟩, n0, n1, n2, n3⟩ := box_facts (HBX.out _ HX3.out).1; obtain ⟨⟨p0, p1, p2, p3⟩, _⟩ := box_facts (HBX.out _ HX3.out).2) | (go_at_call 29; have _t := tok1; refine (HAE.out _ HX3.out).mono ?_; rintro e w4 ⟨he, hX⟩; subst he; replace HX3 := Lib.hid (Ext.trans HX3.out hX); clear hX; clear m0 m1 m2 m3 n0 n1 n2 n3 p0 p1 p2 p3; obtain ⟨⟨m0, m1, m2, m3⟩, n0, n1, n2, n3⟩ := box_facts (HBX.out _ HX3.out).1; obtain ⟨⟨p0, p1, p2, p3⟩, _⟩ := box_facts (HBX.out _ HX3.out).2; clear r0 r1 r2 r3; obtain ⟨⟨r0, r1, r2, r3⟩, _⟩ := HS.out _ HX3.out; clear tok1) | (go_at_call 29; have _t := tok2; refine (HAA.out _ HX3.out).mono ?_; rintro e w4 ⟨he, hX⟩; subst he; replace HX3 := Lib.hid (Ext.trans HX3.out hX); clear hX; clear m0 m1 m2 m3 n0 n1 n2 n3 p0 p1 p2 p3; obtain ⟨⟨m0, m1, m2, m3⟩, n0, n1, n2, n3⟩ := box_facts (HBX.out _ HX3.out).1; obtain ⟨⟨p0, p1, p2, p3⟩, _⟩ := box_facts (HBX.out _ HX3.out).2; clear r0 r1 r2 r3; obtain ⟨⟨r0, r1, r2, r3⟩, _⟩ := HS.out _ HX3.out; clear tok2) | (go_at_call 29; refine (HAP.out _ HX3.out).mono ?_; rintro e w4 ⟨he, hX⟩; subst he; replace HX3 := Lib.hid (Ext.trans HX3.out hX); clear hX; clear m0 m1 m2 m3 n0 n1 n2 n3 p0 p1 p2 p3; obtain ⟨⟨m0, m1, m2, m3⟩, n0, n1, n2, n3⟩ := box_facts (HBX.out _ HX3.out).1; obtain ⟨⟨p0, p1, p2, p3⟩, _⟩ := box_facts (HBX.out _ HX3.out).2; clear r0 r1 r2 r3; obtain ⟨⟨r0, r1, r2, r3⟩, _⟩ := HS.out _ HX3.out))
    exact bodyPost_ret (v := .tuple #[.agg #[.int .i64 0, .string ⟨#[]⟩, .int .i64 0, .slice none 0 0], .int .i64 4]) (by simp [results, Tryz.results42, go_sem, m0, m1, m2, m3]) rfl (TrErr HR.out HZ1.out (Ext.trans HBw.out HX3.out))
  rw [if_pos (c := isApp (kidT ks 1) yPk = true) hc] at hE
  rw [hc] at HAP
  obtain ⟨s2, ks2, hkk2⟩ := isApp_mk hc
  rw [hkk2] at hL1 hg1 hz1
  have hkl2 : ks2.length = 1 := ln_pk (gd_mk hg1).2.1
  obtain ⟨eb, eo, ec, u3, hLk2⟩ := Lies_kids hL1 (by omega)
  have hL2 := hLk2 0 (by omega)
  rw [Nat.zero_mul, Nat.add_zero] at hL2
  have hg2 := gd_kid hg1 (show 0 < ks2.length by omega)
  have hz2 : size (kidT ks2 0) ≤ 400 := by have := size_kid (n := ⟨#[112, 107]⟩) (s := s2) (show 0 < ks2.length by omega); omega
  have hKk2 : (kidT ks 1).kids = ks2 := by rw [hkk2]; rfl
  rw [hKk2] at hE
  rw [Nat.add_assoc, hkl2] at u3
  have HR := Lib.hid hE
  have HG := Lib.hid hg2.1
  obtain ⟨f0, f1, f2, f3, v0, v1, v2, v3, hIf⟩ := hL2
  obtain ⟨qk, qn, qs, qx, ql, qc, rfl, rfl, rfl, rfl⟩ := Is_form hIf
  have e4 : rx = some ⟨eb, eo, none⟩ ∧ rl = 1 ∧ rc = ec := by
    have := r3.symm.trans u3
    simp only [Option.some.injEq, Value.slice.injEq] at this
    exact this
  obtain ⟨rfl, rfl, rfl⟩ := e4
  have HU : Hid (∀ W, Ext ((w.alloc (.cells #[.int .i64 k, .string n, .int .i64 s, .slice (some ⟨cb, co, none⟩) 2 cap] 24)).alloc (.cells #[.int .i64 0, .string ⟨#[]⟩, .int .i64 0, .slice none 0 0] 24)) W → (W.cell? ⟨eb, eo, none⟩ = some (.int .i64 qk) ∧ W.cell? ⟨eb, eo + 1, none⟩ = some (.string qn) ∧ W.cell? ⟨eb, eo + 2, none⟩ = some (.int .i64 qs) ∧ W.cell? ⟨eb, eo + 3, none⟩ = some (.slice qx ql qc)) ∧ Is W (kidT ks2 0) (.int .i64 qk) (.string qn) (.int .i64 qs) (.slice qx ql qc)) := fun W x => by
    have c := keep_below x
    exact ⟨⟨c _ _ v0, c _ _ v1, c _ _ v2, c _ _ v3⟩, Is_below hIf x⟩
  clear hv hM hI hb0 hb1 hBw hZ hL hs4 hg hZ1 hE ha hb hc hkk hg' hL' hkl g3 hLk hL1 hg1 hz1 hKk hkk2 hkl2 hLk2 hg2 hz2 hKk2 u3 v0 v1 v2 v3 hIf hId
  go_enter Tryz.func42, Tryz.ntmps42
  go_wp2_with (first | (go_at_call 15; refine (HV.out).mono ?_; rintro e w3 ⟨he, hX⟩; subst he; have HX3 := Lib.hid hX; clear hX; clear m0 m1 m2 m3 n0 n1 n2 n3 p0 p1 p2 p3; obtain ⟨⟨m0, m1, m2, m3⟩, n0, n1, n2, n3⟩ := box_facts (HBX.out _ HX3.out).1; obtain ⟨⟨p0, p1, p2, p3⟩, _⟩ := box_facts (HBX.out _ HX3.out).2) | (go_at_call 29; have _t := tok1; refine (HAE.out _ HX3.out).mono ?_; rintro e w4 ⟨he, hX⟩; subst he; replace HX3 := Lib.hid (Ext.trans HX3.out hX); clear hX; clear m0 m1 m2 m3 n0 n1 n2 n3 p0 p1 p2 p3; obtain ⟨⟨m0, m1, m2, m3⟩, n0, n1, n2, n3⟩ := box_facts (HBX.out _ HX3.out).1; obtain ⟨⟨p0, p1, p2, p3⟩, _⟩ := box_facts (HBX.out _ HX3.out).2; clear r0 r1 r2 r3; obtain ⟨⟨r0, r1, r2, r3⟩, _⟩ := HS.out _ HX3.out; clear tok1) | (go_at_call 29; have _t := tok2; refine (HAA.out _ HX3.out).mono ?_; rintro e w4 ⟨he, hX⟩; subst he; replace HX3 := Lib.hid (Ext.trans HX3.out hX); clear hX; clear m0 m1 m2 m3 n0 n1 n2 n3 p0 p1 p2 p3; obtain ⟨⟨m0, m1, m2, m3⟩, n0, n1, n2, n3⟩ := box_facts (HBX.out _ HX3.out).1; obtain ⟨⟨p0, p1, p2, p3⟩, _⟩ := box_facts (HBX.out _ HX3.out).2; clear r0 r1 r2 r3; obtain ⟨⟨r0, r1, r2, r3⟩, _⟩ := HS.out _ HX3.out; clear tok2) | (go_at_call 29; refine (HAP.out _ HX3.out).mono ?_; rintro e w4 ⟨he, hX⟩; subst he; replace HX3 := Lib.hid (Ext.trans HX3.out hX); clear hX; clear m0 m1 m2 m3 n0 n1 n2 n3 p0 p1 p2 p3; obtain ⟨⟨m0, m1, m2, m3⟩, n0, n1, n2, n3⟩ := box_facts (HBX.out _ HX3.out).1; obtain ⟨⟨p0, p1, p2, p3⟩, _⟩ := box_facts (HBX.out _ HX3.out).2; clear r0 r1 r2 r3; obtain ⟨⟨r0, r1, r2, r3⟩, _⟩ := HS.out _ HX3.out; obtain ⟨⟨v0, v1, v2, v3⟩, _⟩ := HU.out _ HX3.out))
  exact bodyPost_ret (v := .tuple #[.agg #[.int .i64 qk, .string qn, .int .i64 qs, .slice qx ql qc], .int .i64 0]) (by simp [results, Tryz.results42, go_sem, m0, m1, m2, m3]) rfl (TrFin HR.out (HBX.out _ HX3.out).1 HZ1.out (Ext.trans HBw.out HX3.out) HG.out (HU.out _ HX3.out).2)
end Go.Proofs.YtbcpnepjojppaaaGreatDoor
