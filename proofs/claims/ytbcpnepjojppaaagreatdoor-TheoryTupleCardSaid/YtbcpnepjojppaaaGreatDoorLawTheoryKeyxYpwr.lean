import Derived.Test.YtbcpnepjojppaaaGreatDoorLawTheoryKeyxYpow
namespace Go.Proofs.YtbcpnepjojppaaaGreatDoor
open Go.RowKit
theorem boxes3 (w : World) (o1 o2 : Obj) (c0 c1 c2 c3 : Value) (T : TypeId) : ((((w.alloc o1).alloc o2).alloc (.cells #[c0, c1, c2, c3] T)).heap[w.heap.size + 2]? = some (.cells #[c0, c1, c2, c3] T (0, 0)) ∧ Ext w (((w.alloc o1).alloc o2).alloc (.cells #[c0, c1, c2, c3] T))) ∧ (((w.alloc o1).alloc o2).alloc (.cells #[c0, c1, c2, c3] T)).heap.size = w.heap.size + 3 := by
  refine ⟨⟨?_, ((Ext.refl w).alloc _ |>.alloc _ |>.alloc _)⟩, by simp [World.size_alloc]⟩
  have := heap_alloc_new ((w.alloc o1).alloc o2) (.cells #[c0, c1, c2, c3] T)
  rw [World.size_alloc, World.size_alloc] at this
  exact this
theorem appY_is {w : World} {n : ByteArray} {ks : List Tm} {xa : Option Addr} {cap : Nat} (hn : n.size ≤ maxLen) (hl : ks.length ≤ maxLen) (hc : ks.length ≤ cap) (h : Row w ks xa) : Is w (.mk 3 n 0 ks) (.int .i64 3) (.string n) (.int .i64 0) (.slice xa ks.length cap) := by
  simp only [Is]
  exact ⟨trivial, trivial, trivial, by omega, by omega, hn, hl, xa, cap, rfl, hc, h⟩
set_option maxHeartbeats 6400000 in
set_option maxRecDepth 100000 in
theorem power_core (b e : Tm) (B : Tm) (p1 : List Pw) (e1 : Int) (p2 : List Pw) (e2 : Int) (p3 : List Pw) (e3 : Int) (t4 : Tm) (e4 : Int) (R : Tm × Int) (k : Int) (n : ByteArray) (s : Int) (xa : Option Addr) (l cap : Nat) (k2 : Int) (n2 : ByteArray) (s2 : Int) (xa2 : Option Addr) (l2 cap2 : Nat) (w : World)
    (hgb : gd b) (hsb : size b ≤ 1048570) (hse : size e ≤ 1048570) (hI : Is w b (.int .i64 k) (.string n) (.int .i64 s) (.slice xa l cap)) (hJ : Is w e (.int .i64 k2) (.string n2) (.int .i64 s2) (.slice xa2 l2 cap2))
    (hF : factU b = (B, p1, e1)) (hO : ofP e = (p2, e2)) (hM : mulP p1 p2 = (p3, e3)) (hT : termP p3 = (t4, e4)) (hgB : gd B) (hg4 : e4 = 0 → gd t4) (hs1 : SmP p1) (hs2 : SmP p2) (hs3 : SmP p3)
    (hR : R = if e1 = 0 then (if e2 = 0 then (if e3 = 0 then (if p3.length = 0 then (B, 0) else if e4 = 0 then (.mk 3 ⟨#[101, 120, 112]⟩ 0 [B, t4], 0) else (zilT, e4)) else (zilT, e3)) else (zilT, e2)) else (zilT, e1)) :
    Calls Tryz.prog 113 #[.agg #[.int .i64 k, .string n, .int .i64 s, .slice xa l cap], .agg #[.int .i64 k2, .string n2, .int .i64 s2, .slice xa2 l2 cap2]] w (TrPost w R) := by
  obtain ⟨⟨hb2, hBw⟩, hZ⟩ := boxes3 w (.cells #[.int .i64 k, .string n, .int .i64 s, .slice xa l cap] 24) (.cells #[.int .i64 k2, .string n2, .int .i64 s2, .slice xa2 l2 cap2] 24) (.int .i64 0) (.string ⟨#[]⟩) (.int .i64 0) (.slice none 0 0) 24
  have hb1 : (((w.alloc (.cells #[.int .i64 k, .string n, .int .i64 s, .slice xa l cap] 24)).alloc (.cells #[.int .i64 k2, .string n2, .int .i64 s2, .slice xa2 l2 cap2] 24)).alloc (.cells #[.int .i64 0, .string ⟨#[]⟩, .int .i64 0, .slice none 0 0] 24)).heap[w.heap.size + 1]? = some (.cells #[.int .i64 k2, .string n2, .int .i64 s2, .slice xa2 l2 cap2] 24 (0, 0)) := by
    rw [Below.heap_alloc _ _ _ (by simp [World.size_alloc])]
    have := heap_alloc_new (w.alloc (.cells #[.int .i64 k, .string n, .int .i64 s, .slice xa l cap] 24)) (.cells #[.int .i64 k2, .string n2, .int .i64 s2, .slice xa2 l2 cap2] 24)
    rw [World.size_alloc] at this; exact this
  have hb0 : (((w.alloc (.cells #[.int .i64 k, .string n, .int .i64 s, .slice xa l cap] 24)).alloc (.cells #[.int .i64 k2, .string n2, .int .i64 s2, .slice xa2 l2 cap2] 24)).alloc (.cells #[.int .i64 0, .string ⟨#[]⟩, .int .i64 0, .slice none 0 0] 24)).heap[w.heap.size]? = some (.cells #[.int .i64 k, .string n, .int .i64 s, .slice xa l cap] 24 (0, 0)) := by
    rw [Below.heap_alloc _ _ _ (by simp [World.size_alloc]; omega), Below.heap_alloc _ _ _ (by simp [World.size_alloc])]
    exact heap_alloc_new w _
  have HFA : Hid (∀ W, Ext (((w.alloc (.cells #[.int .i64 k, .string n, .int .i64 s, .slice xa l cap] 24)).alloc (.cells #[.int .i64 k2, .string n2, .int .i64 s2, .slice xa2 l2 cap2] 24)).alloc (.cells #[.int .i64 0, .string ⟨#[]⟩, .int .i64 0, .slice none 0 0] 24)) W → Calls Tryz.prog 151 #[.agg #[.int .i64 k, .string n, .int .i64 s, .slice xa l cap]] W (FacPost W (B, p1, e1))) := fun W x => by
    rw [← hF]; exact factored_any b _ _ _ _ W hgb hsb (Is_below hI (Ext.trans hBw x))
  have HO : Hid (∀ W, Ext (((w.alloc (.cells #[.int .i64 k, .string n, .int .i64 s, .slice xa l cap] 24)).alloc (.cells #[.int .i64 k2, .string n2, .int .i64 s2, .slice xa2 l2 cap2] 24)).alloc (.cells #[.int .i64 0, .string ⟨#[]⟩, .int .i64 0, .slice none 0 0] 24)) W → Calls Tryz.prog 111 #[.agg #[.int .i64 k2, .string n2, .int .i64 s2, .slice xa2 l2 cap2]] W (PePost W (p2, e2))) := fun W x => by
    rw [← hO]; exact Of_any e _ _ _ _ W hse (Is_below hJ (Ext.trans hBw x))
  have HM : Hid (∀ W pa pb ca cb, p1.length ≤ ca → p2.length ≤ cb → PRow W p1 pa → PRow W p2 pb → Calls Tryz.prog 152 #[.slice pa p1.length ca, .slice pb p2.length cb] W (PePost W (p3, e3))) := fun W pa pb ca cb h1 h2 h3 h4 => by
    rw [← hM]; exact Mul_any p1 p2 pa pb ca cb W (by have := hs1.1; unfold maxLen; omega) (by have := hs2.1; unfold maxLen; omega) h1 h2 (fun p hp => by have := hs1.2 p hp; omega) (fun p hp => by have := hs2.2 p hp; omega) h3 h4
  have HT : Hid (∀ W pa ca, PRow W p3 pa → Calls Tryz.prog 112 #[.slice pa p3.length ca] W (TpPost W (t4, e4))) := fun W pa ca h => by
    rw [← hT]; exact Term_any p3 pa ca W (by have := hs3.1; omega) hs3.2 h
  have HK : Hid (∀ w4 bk bn bs bx bl bc pa, Ext (((w.alloc (.cells #[.int .i64 k, .string n, .int .i64 s, .slice xa l cap] 24)).alloc (.cells #[.int .i64 k2, .string n2, .int .i64 s2, .slice xa2 l2 cap2] 24)).alloc (.cells #[.int .i64 0, .string ⟨#[]⟩, .int .i64 0, .slice none 0 0] 24)) w4 → Is w4 B (.int .i64 bk) (.string bn) (.int .i64 bs) (.slice bx bl bc) → PRow w4 p1 pa → ∀ W, Ext (w4.alloc (.cells #[.int .i64 bk, .string bn, .int .i64 bs, .slice bx bl bc] 24)) W → W.heap[w.heap.size + 2]? = some (.cells #[.int .i64 0, .string ⟨#[]⟩, .int .i64 0, .slice none 0 0] 24 (0, 0)) ∧ W.heap[w4.heap.size]? = some (.cells #[.int .i64 bk, .string bn, .int .i64 bs, .slice bx bl bc] 24 (0, 0)) ∧ W.heap[w.heap.size + 1]? = some (.cells #[.int .i64 k2, .string n2, .int .i64 s2, .slice xa2 l2 cap2] 24 (0, 0)) ∧ Is W B (.int .i64 bk) (.string bn) (.int .i64 bs) (.slice bx bl bc) ∧ PRow W p1 pa) := fun w4 bk bn bs bx bl bc pa x4 hI4 hP4 W x => by
    have h3 := x4.size
    have hx : Ext w4 W := Ext.trans ((Ext.refl w4).alloc _) x
    exact ⟨(hx.block _ (by omega)).trans ((x4.block _ (by omega)).trans hb2), (x.block _ (by rw [World.size_alloc]; omega)).trans (heap_alloc_new w4 _), (hx.block _ (by omega)).trans ((x4.block _ (by omega)).trans hb1), Is_below hI4 hx, PRow_below hP4 hx⟩
  have HZ : Hid (∀ (x : Int) (W : World), R = (zilT, x) → Ext (((w.alloc (.cells #[.int .i64 k, .string n, .int .i64 s, .slice xa l cap] 24)).alloc (.cells #[.int .i64 k2, .string n2, .int .i64 s2, .slice xa2 l2 cap2] 24)).alloc (.cells #[.int .i64 0, .string ⟨#[]⟩, .int .i64 0, .slice none 0 0] 24)) W → TrPost w R (.returned (.tuple #[.agg #[.int .i64 0, .string ⟨#[]⟩, .int .i64 0, .slice none 0 0], .int .i64 x])) (put4 W (w.heap.size + 2) 0 (.int .i64 0) (.string ⟨#[]⟩) (.int .i64 0) (.slice none 0 0))) := fun x W h y => TrErr h (by omega) (Ext.trans hBw y)
  have HBw := Lib.hid hBw
  have HGB := Lib.hid hgB.1
  have HG4 := Lib.hid (fun h => (hg4 h).1)
  obtain ⟨⟨x0, x1, x2, x3⟩, _⟩ := box_facts hb0
  clear hF hO hM hT hgb hsb hse hI hJ hgB hg4 hs1 hs2 hs3 hBw hZ hb0 hb1 hb2
  by_cases c1 : e1 = 0
  rotate_left
  · rw [if_neg c1] at hR
    have q1 : (e1 != 0) = true := by rw [bne_iff_ne]; exact c1
    have HR := Lib.hid hR
    clear c1 hR
    go_enter Tryz.func113, Tryz.ntmps113
    go_wp2_with (go_at_call 151; refine (HFA.out _ (Ext.refl _)).mono ?_; rintro e w4 ⟨bk, bn, bs, bx, bl, bc, pa, pc, he, hI4, hc4, hP4, hX4⟩; simp only at he; subst he; have HS4 := Lib.hid (HK.out w4 bk bn bs bx bl bc pa hX4 hI4 hP4); have HC4 := Lib.hid hc4; have HV4 : Hid (Ext (((w.alloc (.cells #[.int .i64 k, .string n, .int .i64 s, .slice xa l cap] 24)).alloc (.cells #[.int .i64 k2, .string n2, .int .i64 s2, .slice xa2 l2 cap2] 24)).alloc (.cells #[.int .i64 0, .string ⟨#[]⟩, .int .i64 0, .slice none 0 0] 24)) (w4.alloc (.cells #[.int .i64 bk, .string bn, .int .i64 bs, .slice bx bl bc] 24))) := Lib.hid (Ext.alloc hX4 _); have hs4 := HS4.out (w4.alloc (.cells #[.int .i64 bk, .string bn, .int .i64 bs, .slice bx bl bc] 24)) (Ext.refl _); obtain ⟨⟨a0, a1, a2, a3⟩, _⟩ := box_facts hs4.2.2.1; obtain ⟨⟨m0, m1, m2, m3⟩, n0, n1, n2, n3⟩ := box_facts hs4.1; clear hI4 hc4 hP4 hX4 hs4)
    exact bodyPost_ret (v := .tuple #[.agg #[.int .i64 0, .string ⟨#[]⟩, .int .i64 0, .slice none 0 0], .int .i64 e1]) (by simp [results, Tryz.results113, go_sem, m0, m1, m2, m3]) rfl (HZ.out _ _ HR.out HV4.out)
  rw [if_pos c1] at hR
  subst c1
  by_cases c2 : e2 = 0
  rotate_left
  · rw [if_neg c2] at hR
    have q1 : (e2 != 0) = true := by rw [bne_iff_ne]; exact c2
    have HR := Lib.hid hR
    clear c2 hR
    go_enter Tryz.func113, Tryz.ntmps113
    go_wp2_with (first | (go_at_call 151; refine (HFA.out _ (Ext.refl _)).mono ?_; rintro e w4 ⟨bk, bn, bs, bx, bl, bc, pa, pc, he, hI4, hc4, hP4, hX4⟩; simp only at he; subst he; have HS4 := Lib.hid (HK.out w4 bk bn bs bx bl bc pa hX4 hI4 hP4); have HC4 := Lib.hid hc4; have HV4 : Hid (Ext (((w.alloc (.cells #[.int .i64 k, .string n, .int .i64 s, .slice xa l cap] 24)).alloc (.cells #[.int .i64 k2, .string n2, .int .i64 s2, .slice xa2 l2 cap2] 24)).alloc (.cells #[.int .i64 0, .string ⟨#[]⟩, .int .i64 0, .slice none 0 0] 24)) (w4.alloc (.cells #[.int .i64 bk, .string bn, .int .i64 bs, .slice bx bl bc] 24))) := Lib.hid (Ext.alloc hX4 _); have hs4 := HS4.out (w4.alloc (.cells #[.int .i64 bk, .string bn, .int .i64 bs, .slice bx bl bc] 24)) (Ext.refl _); obtain ⟨⟨a0, a1, a2, a3⟩, _⟩ := box_facts hs4.2.2.1; obtain ⟨⟨m0, m1, m2, m3⟩, n0, n1, n2, n3⟩ := box_facts hs4.1; clear hI4 hc4 hP4 hX4 hs4) | (go_at_call 111; refine (HO.out _ HV4.out).mono ?_; rintro e w5 ⟨pa2, pc2, he, hc5, hP5, hX5⟩; simp only at he; subst he; have HX5 := Lib.hid hX5; have HP5 := Lib.hid (And.intro hc5 hP5); have hs5 := HS4.out w5 hX5; clear a0 a1 a2 a3 m0 m1 m2 m3 n0 n1 n2 n3; obtain ⟨⟨m0, m1, m2, m3⟩, n0, n1, n2, n3⟩ := box_facts hs5.1; clear hc5 hP5 hX5 hs5))
    exact bodyPost_ret (v := .tuple #[.agg #[.int .i64 0, .string ⟨#[]⟩, .int .i64 0, .slice none 0 0], .int .i64 e2]) (by simp [results, Tryz.results113, go_sem, m0, m1, m2, m3]) rfl (HZ.out _ _ HR.out (Ext.trans HV4.out HX5.out))
  rw [if_pos c2] at hR
  subst c2
  by_cases c3 : e3 = 0
  rotate_left
  · rw [if_neg c3] at hR
    have q1 : (e3 != 0) = true := by rw [bne_iff_ne]; exact c3
    have HR := Lib.hid hR
    clear c3 hR
    go_enter Tryz.func113, Tryz.ntmps113
    go_wp2_with (first | (go_at_call 151; refine (HFA.out _ (Ext.refl _)).mono ?_; rintro e w4 ⟨bk, bn, bs, bx, bl, bc, pa, pc, he, hI4, hc4, hP4, hX4⟩; simp only at he; subst he; have HS4 := Lib.hid (HK.out w4 bk bn bs bx bl bc pa hX4 hI4 hP4); have HC4 := Lib.hid hc4; have HV4 : Hid (Ext (((w.alloc (.cells #[.int .i64 k, .string n, .int .i64 s, .slice xa l cap] 24)).alloc (.cells #[.int .i64 k2, .string n2, .int .i64 s2, .slice xa2 l2 cap2] 24)).alloc (.cells #[.int .i64 0, .string ⟨#[]⟩, .int .i64 0, .slice none 0 0] 24)) (w4.alloc (.cells #[.int .i64 bk, .string bn, .int .i64 bs, .slice bx bl bc] 24))) := Lib.hid (Ext.alloc hX4 _); have hs4 := HS4.out (w4.alloc (.cells #[.int .i64 bk, .string bn, .int .i64 bs, .slice bx bl bc] 24)) (Ext.refl _); obtain ⟨⟨a0, a1, a2, a3⟩, _⟩ := box_facts hs4.2.2.1; obtain ⟨⟨m0, m1, m2, m3⟩, n0, n1, n2, n3⟩ := box_facts hs4.1; clear hI4 hc4 hP4 hX4 hs4) | (go_at_call 111; refine (HO.out _ HV4.out).mono ?_; rintro e w5 ⟨pa2, pc2, he, hc5, hP5, hX5⟩; simp only at he; subst he; have HX5 := Lib.hid hX5; have HP5 := Lib.hid (And.intro hc5 hP5); have hs5 := HS4.out w5 hX5; clear a0 a1 a2 a3 m0 m1 m2 m3 n0 n1 n2 n3; obtain ⟨⟨m0, m1, m2, m3⟩, n0, n1, n2, n3⟩ := box_facts hs5.1; clear hc5 hP5 hX5 hs5) | (go_at_call 152; refine (HM.out w5 pa pa2 pc pc2 HC4.out HP5.out.1 (HS4.out w5 HX5.out).2.2.2.2 HP5.out.2).mono ?_; rintro e w6 ⟨pa3, pc3, he, hc6, hP6, hX6⟩; simp only at he; subst he; have HX6 := Lib.hid (Ext.trans HX5.out hX6); have HP6 := Lib.hid hP6; have hs6 := HS4.out w6 HX6.out; clear m0 m1 m2 m3 n0 n1 n2 n3; obtain ⟨⟨m0, m1, m2, m3⟩, n0, n1, n2, n3⟩ := box_facts hs6.1; obtain ⟨⟨b0, b1, b2, b3⟩, _⟩ := box_facts hs6.2.1; clear hc6 hP6 hX6 hs6))
    exact bodyPost_ret (v := .tuple #[.agg #[.int .i64 0, .string ⟨#[]⟩, .int .i64 0, .slice none 0 0], .int .i64 e3]) (by simp [results, Tryz.results113, go_sem, m0, m1, m2, m3]) rfl (HZ.out _ _ HR.out (Ext.trans HV4.out HX6.out))
  rw [if_pos c3] at hR
  subst c3
  by_cases c4 : p3.length = 0
  · rw [if_pos c4] at hR
    have q1 : ((p3.length : Int) == 0) = true := by rw [c4]; rfl
    have HR := Lib.hid hR
    obtain rfl := List.length_eq_zero_iff.1 c4
    clear c4 hR q1
    go_enter Tryz.func113, Tryz.ntmps113
    go_wp2_with (first | (go_at_call 151; refine (HFA.out _ (Ext.refl _)).mono ?_; rintro e w4 ⟨bk, bn, bs, bx, bl, bc, pa, pc, he, hI4, hc4, hP4, hX4⟩; simp only at he; subst he; have HS4 := Lib.hid (HK.out w4 bk bn bs bx bl bc pa hX4 hI4 hP4); have HC4 := Lib.hid hc4; have HV4 : Hid (Ext (((w.alloc (.cells #[.int .i64 k, .string n, .int .i64 s, .slice xa l cap] 24)).alloc (.cells #[.int .i64 k2, .string n2, .int .i64 s2, .slice xa2 l2 cap2] 24)).alloc (.cells #[.int .i64 0, .string ⟨#[]⟩, .int .i64 0, .slice none 0 0] 24)) (w4.alloc (.cells #[.int .i64 bk, .string bn, .int .i64 bs, .slice bx bl bc] 24))) := Lib.hid (Ext.alloc hX4 _); have hs4 := HS4.out (w4.alloc (.cells #[.int .i64 bk, .string bn, .int .i64 bs, .slice bx bl bc] 24)) (Ext.refl _); obtain ⟨⟨a0, a1, a2, a3⟩, _⟩ := box_facts hs4.2.2.1; obtain ⟨⟨m0, m1, m2, m3⟩, n0, n1, n2, n3⟩ := box_facts hs4.1; clear hI4 hc4 hP4 hX4 hs4) | (go_at_call 111; refine (HO.out _ HV4.out).mono ?_; rintro e w5 ⟨pa2, pc2, he, hc5, hP5, hX5⟩; simp only at he; subst he; have HX5 := Lib.hid hX5; have HP5 := Lib.hid (And.intro hc5 hP5); have hs5 := HS4.out w5 hX5; clear a0 a1 a2 a3 m0 m1 m2 m3 n0 n1 n2 n3; obtain ⟨⟨m0, m1, m2, m3⟩, n0, n1, n2, n3⟩ := box_facts hs5.1; clear hc5 hP5 hX5 hs5) | (go_at_call 152; refine (HM.out w5 pa pa2 pc pc2 HC4.out HP5.out.1 (HS4.out w5 HX5.out).2.2.2.2 HP5.out.2).mono ?_; rintro e w6 ⟨pa3, pc3, he, hc6, hP6, hX6⟩; simp only at he; subst he; have HX6 := Lib.hid (Ext.trans HX5.out hX6); have HP6 := Lib.hid hP6; have hs6 := HS4.out w6 HX6.out; clear m0 m1 m2 m3 n0 n1 n2 n3; obtain ⟨⟨m0, m1, m2, m3⟩, n0, n1, n2, n3⟩ := box_facts hs6.1; obtain ⟨⟨b0, b1, b2, b3⟩, _⟩ := box_facts hs6.2.1; clear hc6 hP6 hX6 hs6))
    have hs6 := HS4.out _ HX6.out
    exact bodyPost_ret (v := .tuple #[.agg #[.int .i64 bk, .string bn, .int .i64 bs, .slice bx bl bc], .int .i64 0]) (by simp [results, Tryz.results113, go_sem, m0, m1, m2, m3]) rfl (TrFin (b := w.heap.size + 2) HR.out hs6.1 (by omega) (Ext.trans HBw.out (Ext.trans HV4.out HX6.out)) HGB.out hs6.2.2.2.1)
  rw [if_neg c4] at hR
  have q4 : ¬ (p3.length : Int) = 0 := by omega
  by_cases c5 : e4 = 0
  rotate_left
  · rw [if_neg c5] at hR
    have q1 : (e4 != 0) = true := by rw [bne_iff_ne]; exact c5
    have HR := Lib.hid hR
    clear c4 c5 hR
    go_enter Tryz.func113, Tryz.ntmps113
    go_wp2_with (first | (go_at_call 151; refine (HFA.out _ (Ext.refl _)).mono ?_; rintro e w4 ⟨bk, bn, bs, bx, bl, bc, pa, pc, he, hI4, hc4, hP4, hX4⟩; simp only at he; subst he; have HS4 := Lib.hid (HK.out w4 bk bn bs bx bl bc pa hX4 hI4 hP4); have HC4 := Lib.hid hc4; have HV4 : Hid (Ext (((w.alloc (.cells #[.int .i64 k, .string n, .int .i64 s, .slice xa l cap] 24)).alloc (.cells #[.int .i64 k2, .string n2, .int .i64 s2, .slice xa2 l2 cap2] 24)).alloc (.cells #[.int .i64 0, .string ⟨#[]⟩, .int .i64 0, .slice none 0 0] 24)) (w4.alloc (.cells #[.int .i64 bk, .string bn, .int .i64 bs, .slice bx bl bc] 24))) := Lib.hid (Ext.alloc hX4 _); have hs4 := HS4.out (w4.alloc (.cells #[.int .i64 bk, .string bn, .int .i64 bs, .slice bx bl bc] 24)) (Ext.refl _); obtain ⟨⟨a0, a1, a2, a3⟩, _⟩ := box_facts hs4.2.2.1; obtain ⟨⟨m0, m1, m2, m3⟩, n0, n1, n2, n3⟩ := box_facts hs4.1; clear hI4 hc4 hP4 hX4 hs4) | (go_at_call 111; refine (HO.out _ HV4.out).mono ?_; rintro e w5 ⟨pa2, pc2, he, hc5, hP5, hX5⟩; simp only at he; subst he; have HX5 := Lib.hid hX5; have HP5 := Lib.hid (And.intro hc5 hP5); have hs5 := HS4.out w5 hX5; clear a0 a1 a2 a3 m0 m1 m2 m3 n0 n1 n2 n3; obtain ⟨⟨m0, m1, m2, m3⟩, n0, n1, n2, n3⟩ := box_facts hs5.1; clear hc5 hP5 hX5 hs5) | (go_at_call 152; refine (HM.out w5 pa pa2 pc pc2 HC4.out HP5.out.1 (HS4.out w5 HX5.out).2.2.2.2 HP5.out.2).mono ?_; rintro e w6 ⟨pa3, pc3, he, hc6, hP6, hX6⟩; simp only at he; subst he; have HX6 := Lib.hid (Ext.trans HX5.out hX6); have HP6 := Lib.hid hP6; have hs6 := HS4.out w6 HX6.out; clear m0 m1 m2 m3 n0 n1 n2 n3; obtain ⟨⟨m0, m1, m2, m3⟩, n0, n1, n2, n3⟩ := box_facts hs6.1; obtain ⟨⟨b0, b1, b2, b3⟩, _⟩ := box_facts hs6.2.1; clear hc6 hP6 hX6 hs6) | (go_at_call 112; refine (HT.out w6 pa3 pc3 HP6.out).mono ?_; rintro e w7 ⟨d0, d1, d2, d3, he, hI7, hX7⟩; simp only at he; subst he; obtain ⟨tk, tn, ts, tx, tl, tc, z0, z1, z2, z3⟩ := Is_form hI7; subst z0 z1 z2 z3; have HX7 := Lib.hid (Ext.trans HX6.out hX7); have HI7 := Lib.hid hI7; have hx7 : Ext (w4.alloc (.cells #[.int .i64 bk, .string bn, .int .i64 bs, .slice bx bl bc] 24)) (w7.alloc (.cells #[.int .i64 tk, .string tn, .int .i64 ts, .slice tx tl tc] 24)) := Ext.alloc HX7.out _; have hs7 := HS4.out (w7.alloc (.cells #[.int .i64 tk, .string tn, .int .i64 ts, .slice tx tl tc] 24)) hx7; clear m0 m1 m2 m3 n0 n1 n2 n3 b0 b1 b2 b3; obtain ⟨⟨m0, m1, m2, m3⟩, n0, n1, n2, n3⟩ := box_facts hs7.1; obtain ⟨⟨b0, b1, b2, b3⟩, _⟩ := box_facts hs7.2.1; clear hI7 hX7 hx7 hs7))
    exact bodyPost_ret (v := .tuple #[.agg #[.int .i64 0, .string ⟨#[]⟩, .int .i64 0, .slice none 0 0], .int .i64 e4]) (by simp [results, Tryz.results113, go_sem, m0, m1, m2, m3]) rfl (HZ.out _ _ HR.out (Ext.trans HV4.out (Ext.alloc HX7.out _)))
  rw [if_pos c5] at hR
  subst c5
  have HG := Lib.hid (HG4.out rfl)
  have HR := Lib.hid hR
  clear c4 hR HG4
  go_enter Tryz.func113, Tryz.ntmps113
  go_wp2_with (first | (go_at_call 151; refine (HFA.out _ (Ext.refl _)).mono ?_; rintro e w4 ⟨bk, bn, bs, bx, bl, bc, pa, pc, he, hI4, hc4, hP4, hX4⟩; simp only at he; subst he; have HS4 := Lib.hid (HK.out w4 bk bn bs bx bl bc pa hX4 hI4 hP4); have HC4 := Lib.hid hc4; have HV4 : Hid (Ext (((w.alloc (.cells #[.int .i64 k, .string n, .int .i64 s, .slice xa l cap] 24)).alloc (.cells #[.int .i64 k2, .string n2, .int .i64 s2, .slice xa2 l2 cap2] 24)).alloc (.cells #[.int .i64 0, .string ⟨#[]⟩, .int .i64 0, .slice none 0 0] 24)) (w4.alloc (.cells #[.int .i64 bk, .string bn, .int .i64 bs, .slice bx bl bc] 24))) := Lib.hid (Ext.alloc hX4 _); have hs4 := HS4.out (w4.alloc (.cells #[.int .i64 bk, .string bn, .int .i64 bs, .slice bx bl bc] 24)) (Ext.refl _); obtain ⟨⟨a0, a1, a2, a3⟩, _⟩ := box_facts hs4.2.2.1; obtain ⟨⟨m0, m1, m2, m3⟩, n0, n1, n2, n3⟩ := box_facts hs4.1; clear hI4 hc4 hP4 hX4 hs4) | (go_at_call 111; refine (HO.out _ HV4.out).mono ?_; rintro e w5 ⟨pa2, pc2, he, hc5, hP5, hX5⟩; simp only at he; subst he; have HX5 := Lib.hid hX5; have HP5 := Lib.hid (And.intro hc5 hP5); have hs5 := HS4.out w5 hX5; clear a0 a1 a2 a3 m0 m1 m2 m3 n0 n1 n2 n3; obtain ⟨⟨m0, m1, m2, m3⟩, n0, n1, n2, n3⟩ := box_facts hs5.1; clear hc5 hP5 hX5 hs5) | (go_at_call 152; refine (HM.out w5 pa pa2 pc pc2 HC4.out HP5.out.1 (HS4.out w5 HX5.out).2.2.2.2 HP5.out.2).mono ?_; rintro e w6 ⟨pa3, pc3, he, hc6, hP6, hX6⟩; simp only at he; subst he; have HX6 := Lib.hid (Ext.trans HX5.out hX6); have HP6 := Lib.hid hP6; have hs6 := HS4.out w6 HX6.out; clear m0 m1 m2 m3 n0 n1 n2 n3; obtain ⟨⟨m0, m1, m2, m3⟩, n0, n1, n2, n3⟩ := box_facts hs6.1; obtain ⟨⟨b0, b1, b2, b3⟩, _⟩ := box_facts hs6.2.1; clear hc6 hP6 hX6 hs6) | (go_at_call 112; refine (HT.out w6 pa3 pc3 HP6.out).mono ?_; rintro e w7 ⟨d0, d1, d2, d3, he, hI7, hX7⟩; simp only at he; subst he; obtain ⟨tk, tn, ts, tx, tl, tc, z0, z1, z2, z3⟩ := Is_form hI7; subst z0 z1 z2 z3; have HX7 := Lib.hid (Ext.trans HX6.out hX7); have HI7 := Lib.hid hI7; have hx7 : Ext (w4.alloc (.cells #[.int .i64 bk, .string bn, .int .i64 bs, .slice bx bl bc] 24)) (w7.alloc (.cells #[.int .i64 tk, .string tn, .int .i64 ts, .slice tx tl tc] 24)) := Ext.alloc HX7.out _; have hs7 := HS4.out (w7.alloc (.cells #[.int .i64 tk, .string tn, .int .i64 ts, .slice tx tl tc] 24)) hx7; clear m0 m1 m2 m3 n0 n1 n2 n3 b0 b1 b2 b3; obtain ⟨⟨m0, m1, m2, m3⟩, n0, n1, n2, n3⟩ := box_facts hs7.1; obtain ⟨⟨b0, b1, b2, b3⟩, _⟩ := box_facts hs7.2.1; clear hI7 hX7 hx7 hs7) | (go_at_call 65; refine (yapplication_any _ _ _ _ _).mono ?_; rintro e w9 ⟨he, hX9⟩; subst he; have HX9 : Hid (Ext ((w7.alloc (.cells #[.int .i64 tk, .string tn, .int .i64 ts, .slice tx tl tc] 24)).alloc (.cells #[.int .i64 bk, .string bn, .int .i64 bs, .slice bx bl bc, .int .i64 tk, .string tn, .int .i64 ts, .slice tx tl tc] 24)) w9) := Lib.hid hX9; have hx9 : Ext (w4.alloc (.cells #[.int .i64 bk, .string bn, .int .i64 bs, .slice bx bl bc] 24)) w9 := Ext.trans (Ext.alloc (Ext.alloc HX7.out _) _) hX9; have hs9 := HS4.out w9 hx9; have HV9 := Lib.hid hx9; clear m0 m1 m2 m3 n0 n1 n2 n3 b0 b1 b2 b3; obtain ⟨⟨m0, m1, m2, m3⟩, n0, n1, n2, n3⟩ := box_facts hs9.1; clear hX9 hx9 hs9))
  have hs9 := HS4.out _ HV9.out
  have hB7 := (HS4.out (w7.alloc (.cells #[.int .i64 tk, .string tn, .int .i64 ts, .slice tx tl tc] 24)) (Ext.alloc HX7.out _)).2.2.2.1
  have hrow := Row_below (Row_two_at (w := (w7.alloc (.cells #[.int .i64 tk, .string tn, .int .i64 ts, .slice tx tl tc] 24))) (w7.heap.size + 1) (World.size_alloc _ _) hB7 (Is_alloc HI7.out _) 24) HX9.out
  have hu : nodesE (.mk 3 ⟨#[101, 120, 112]⟩ 0 [B, t4]) = 0 := by
    have h1 : nodeE (.mk 3 ⟨#[101, 120, 112]⟩ 0 [B, t4]) = 0 := by kernel_rfl
    rw [nodesE, if_pos h1, nodesL, if_pos HGB.out, nodesL, if_pos HG.out, nodesL]
  exact bodyPost_ret (v := .tuple #[.agg #[.int .i64 3, .string ⟨#[101, 120, 112]⟩, .int .i64 0, .slice (some ⟨w7.heap.size + 1, 0, none⟩) 2 2], .int .i64 0]) (by simp [results, Tryz.results113, go_sem, m0, m1, m2, m3]) rfl (TrFin (b := w.heap.size + 2) HR.out hs9.1 (by omega) (Ext.trans HBw.out (Ext.trans HV4.out HV9.out)) hu (appY_is (by simp [ByteArray.size, maxLen]) (by simp [maxLen]) (Nat.le_refl _) hrow))
theorem power_any (b e : Tm) (c0 c1 c2 c3 d0 d1 d2 d3 : Value) (w : World) (hgb : gd b) (hge : gd e) (hsb : size b ≤ 1048570) (hse : size e ≤ 1048570) (hI : Is w b c0 c1 c2 c3) (hJ : Is w e d0 d1 d2 d3) :
    Calls Tryz.prog 113 #[.agg #[c0, c1, c2, c3], .agg #[d0, d1, d2, d3]] w (TrPost w (powU b e)) := by
  obtain ⟨k, n, s, xa, l, cap, rfl, rfl, rfl, rfl⟩ := Is_form hI
  obtain ⟨k2, n2, s2, xa2, l2, cap2, rfl, rfl, rfl, rfl⟩ := Is_form hJ
  obtain ⟨f1, _, f3⟩ := factU_gd hgb
  exact power_core b e (factU b).1 (factU b).2.1 (factU b).2.2 (ofP e).1 (ofP e).2 (mulP (factU b).2.1 (ofP e).1).1 (mulP (factU b).2.1 (ofP e).1).2 (termP (mulP (factU b).2.1 (ofP e).1).1).1 (termP (mulP (factU b).2.1 (ofP e).1).1).2 (powU b e) k n s xa l cap k2 n2 s2 xa2 l2 cap2 w hgb hsb hse hI hJ rfl rfl rfl rfl f1 (fun h => termP_gd (mulP_gd f3 (ofP_gd hge)) h) (factU_sm b) (ofP_sm e) (mulP_sm (factU_sm b) (ofP_sm e)) rfl
end Go.Proofs.YtbcpnepjojppaaaGreatDoor
