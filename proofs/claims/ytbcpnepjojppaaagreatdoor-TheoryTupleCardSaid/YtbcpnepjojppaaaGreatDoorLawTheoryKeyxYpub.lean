import Derived.StillTailTactics
import Derived.Test.YtbcpnepjojppaaaGreatDoorLawTheoryKeyxYgd
import Derived.Test.YtbcpnepjojppaaaGreatDoorLawTheoryKeyxYzb
namespace Go.Proofs.YtbcpnepjojppaaaGreatDoor
open Go.RowKit
theorem Z4box {w : World} {b : Nat} {T : TypeId} (h : w.heap[b]? = some (.cells #[.int .i64 0, .string ⟨#[]⟩, .int .i64 0, .slice none 0 0] T (0, 0))) : Z4 w b 0 := fun r hr v hv => by
  unfold World.cell? at hv
  rw [h] at hv
  have hc : r = 0 ∨ r = 1 ∨ r = 2 ∨ r = 3 := by omega
  rcases hc with rfl | rfl | rfl | rfl <;> simp at hv <;> rw [← hv] <;> rfl
theorem TmFin {w W : World} {b : Nat} {T : TypeId} {u : Tm} {k : Int} {n : ByteArray} {s : Int} {xa : Option Addr} {l c : Nat} (hb : W.heap[b]? = some (.cells #[.int .i64 0, .string ⟨#[]⟩, .int .i64 0, .slice none 0 0] T (0, 0))) (hw : w.heap.size ≤ b) (hE : Ext w W) (hv : nodesE u = 0)
    (hI : Is W u (.int .i64 k) (.string n) (.int .i64 s) (.slice xa l c)) : TmPost w u (.returned (.agg #[.int .i64 k, .string n, .int .i64 s, .slice xa l c])) (put4 W b 0 (.int .i64 k) (.string n) (.int .i64 s) (.slice xa l c)) :=
  ⟨_, _, _, _, _, _, rfl, is_keepZ (put4_only W b 0 _ _ _ _) (Z4box hb) u hv _ _ _ _ hI, put4_below hE hw⟩
theorem TrFin {w W : World} {b : Nat} {T : TypeId} {u : Tm} {x : Int} {r : Tm × Int} (hr : r = (u, x)) {k : Int} {n : ByteArray} {s : Int} {xa : Option Addr} {l c : Nat} (hb : W.heap[b]? = some (.cells #[.int .i64 0, .string ⟨#[]⟩, .int .i64 0, .slice none 0 0] T (0, 0))) (hw : w.heap.size ≤ b) (hE : Ext w W) (hv : nodesE u = 0)
    (hI : Is W u (.int .i64 k) (.string n) (.int .i64 s) (.slice xa l c)) : TrPost w r (.returned (.tuple #[.agg #[.int .i64 k, .string n, .int .i64 s, .slice xa l c], .int .i64 x])) (put4 W b 0 (.int .i64 k) (.string n) (.int .i64 s) (.slice xa l c)) := by
  subst hr
  exact ⟨_, _, _, _, _, _, rfl, is_keepZ (put4_only W b 0 _ _ _ _) (Z4box hb) u hv _ _ _ _ hI, put4_below hE hw⟩
theorem zilT_is (w : World) : Is w zilT (.int .i64 0) (.string ⟨#[]⟩) (.int .i64 0) (.slice none 0 0) := IsIn_Is _ _ _ _ _ (zilT_in (fun _ => True) w)
theorem TrErr {w W : World} {b : Nat} {x : Int} {r : Tm × Int} (hr : r = (zilT, x)) (hw : w.heap.size ≤ b) (hE : Ext w W) : TrPost w r (.returned (.tuple #[.agg #[.int .i64 0, .string ⟨#[]⟩, .int .i64 0, .slice none 0 0], .int .i64 x])) (put4 W b 0 (.int .i64 0) (.string ⟨#[]⟩) (.int .i64 0) (.slice none 0 0)) := by
  subst hr
  exact ⟨_, _, _, _, _, _, rfl, zilT_is _, put4_below hE hw⟩
theorem TrMove {w W : World} {b : Nat} {T : TypeId} {r : Tm × Int} {k : Int} {n : ByteArray} {s : Int} {xa : Option Addr} {l c : Nat} (hb : W.heap[b]? = some (.cells #[.int .i64 0, .string ⟨#[]⟩, .int .i64 0, .slice none 0 0] T (0, 0))) (hw : w.heap.size ≤ b) (hE : Ext w W) (hv : nodesE r.1 = 0 ∨ r.1 = zilT)
    (hI : Is W r.1 (.int .i64 k) (.string n) (.int .i64 s) (.slice xa l c)) : TrPost w r (.returned (.tuple #[.agg #[.int .i64 k, .string n, .int .i64 s, .slice xa l c], .int .i64 r.2])) (put4 W b 0 (.int .i64 k) (.string n) (.int .i64 s) (.slice xa l c)) := by
  rcases hv with hv | hv
  · exact ⟨_, _, _, _, _, _, rfl, is_keepZ (put4_only W b 0 _ _ _ _) (Z4box hb) r.1 hv _ _ _ _ hI, put4_below hE hw⟩
  · refine ⟨_, _, _, _, _, _, rfl, ?_, put4_below hE hw⟩
    rw [hv] at hI ⊢
    simp only [zilT, Is] at hI ⊢
    obtain ⟨e0, e1, e2, _, _, _, _, ya, yc, e3, h4, _⟩ := hI
    exact ⟨e0, e1, e2, by omega, by omega, Nat.zero_le _, Nat.zero_le _, ya, yc, e3, h4, by simp [Row]⟩
set_option maxHeartbeats 1600000 in
set_option maxRecDepth 100000 in
theorem yequal_any (t u : Tm) (c0 c1 c2 c3 d0 d1 d2 d3 : Value) (w : World) (ht : size t ≤ 4611686018427387904) (hu : size u ≤ 4611686018427387904) (hI : Is w t c0 c1 c2 c3) (hJ : Is w u d0 d1 d2 d3) :
    Calls Tryz.prog 62 #[.agg #[c0, c1, c2, c3], .agg #[d0, d1, d2, d3]] w fun e w' => e = .returned (.bool (cmpT t u == 0)) ∧ Ext w w' := by
  have HC := Lib.hid (cmp_grQ t u c0 c1 c2 c3 d0 d1 d2 d3 _ ht hu (Is_alloc (Is_alloc hI (.cells #[c0, c1, c2, c3] 24)) (.cells #[d0, d1, d2, d3] 24)) (Is_alloc (Is_alloc hJ (.cells #[c0, c1, c2, c3] 24)) (.cells #[d0, d1, d2, d3] 24)))
  clear hI hJ
  go_enter Tryz.func62, Tryz.ntmps62
  go_wp2_with (go_at_call 88; refine (HC.out).mono ?_; rintro e w' ⟨he, hB⟩; subst he)
  go_ret
  exact ⟨rfl, ((((Gr.refl w).alloc _).alloc _).trans hB).below⟩
end Go.Proofs.YtbcpnepjojppaaaGreatDoor
namespace Go.Proofs.YtbcpnepjojppaaaGreatDoor
open Go.RowKit
set_option maxHeartbeats 3200000 in
set_option maxRecDepth 100000 in
theorem pubOf_any (p q : Tm) (b o b' o' : Nat) (w : World) (hp : Lies w p b o) (hq : Lies w q b' o') (hg : gd p) (hsp : size p ≤ 1073741824) (hsq : size q ≤ 1073741824) :
    Calls Tryz.prog 139 #[.pointer (some ⟨b, o, none⟩), .pointer (some ⟨b', o', none⟩)] w fun e w' => e = .returned (.bool (pubB p q)) ∧ Ext w w' := by
  have HA : Hid (∀ W, Ext w W → Calls Tryz.prog 72 #[.pointer (some ⟨b, o, none⟩), .string ⟨#[112, 107]⟩] W fun e w' => e = .returned (.bool (isApp p ⟨#[112, 107]⟩)) ∧ w' = W) := fun W x => applies_any p ⟨#[112, 107]⟩ b o W (Lies_carry (keep_below x) hp)
  have hE : pubB p q = (isApp p ⟨#[112, 107]⟩ && (cmpT (kidT p.kids 0) q == 0)) := rfl
  cases ha : isApp p ⟨#[112, 107]⟩
  · have H : Hid (pubB p q = false) := by show _ = _; rw [hE, ha]; rfl
    rw [ha] at HA
    clear hE ha hp hq hg hsp hsq
    go_enter Tryz.func139, Tryz.ntmps139
    go_wp2_with fail
    go_quiet (first | (go_at_call 72; refine Calls.quiet_of_same (HA.out _ (below_drewN (Ext.refl w) _))))
    go_wp2_with fail
    go_ret
    rw [H.out]
    exact ⟨rfl, below_drewN (Ext.refl w) _⟩
  obtain ⟨s, ks, rfl⟩ := isApp_mk ha
  have hl : ks.length = 1 := ln_pk (gd_mk hg).2.1
  have H : Hid (pubB (.mk 3 ⟨#[112, 107]⟩ s ks) q = (cmpT (kidT ks 0) q == 0)) := by show _ = _; rw [hE, ha]; rfl
  rw [ha] at HA
  obtain ⟨g0, g1, g2, _, _, _, _, xa, cap, g3, hcap, hR⟩ := Lies_mk hp
  obtain ⟨kb, ko, rfl⟩ := Row_at hR (by omega)
  have hL0 := Row_get hR 0 (by omega)
  rw [← kidT_eq (by omega : 0 < ks.length)] at hL0
  have hs0 : size (kidT ks 0) ≤ 1073741824 := by have := size_kid (n := ⟨#[112, 107]⟩) (s := s) (show 0 < ks.length by omega); omega
  obtain ⟨k0, k1, k2, k3, y0, y1, y2, y3, hI⟩ := hL0
  obtain ⟨q0, q1, q2, q3, z0, z1, z2, z3, hJ⟩ := hq
  have HE : Hid (∀ W, Ext w W → Calls Tryz.prog 62 #[.agg #[k0, k1, k2, k3], .agg #[q0, q1, q2, q3]] W fun e w' => e = .returned (.bool (cmpT (kidT ks 0) q == 0)) ∧ Ext W w') := fun W x => yequal_any (kidT ks 0) q k0 k1 k2 k3 q0 q1 q2 q3 W (by omega) (by omega) (Is_below hI x) (Is_below hJ x)
  rw [Nat.zero_mul, Nat.add_zero] at y0 y1 y2 y3
  rw [hl] at g3
  have HS : Hid (∀ W, Ext w W → W.cell? ⟨b, o + 3, none⟩ = some (.slice (some ⟨kb, ko, none⟩) 1 cap) ∧ W.cell? ⟨kb, ko, none⟩ = some k0 ∧ W.cell? ⟨kb, ko + 1, none⟩ = some k1 ∧ W.cell? ⟨kb, ko + 2, none⟩ = some k2 ∧ W.cell? ⟨kb, ko + 3, none⟩ = some k3 ∧ W.cell? ⟨b', o', none⟩ = some q0 ∧ W.cell? ⟨b', o' + 1, none⟩ = some q1 ∧ W.cell? ⟨b', o' + 2, none⟩ = some q2 ∧ W.cell? ⟨b', o' + 3, none⟩ = some q3) := fun W x => by
    have c := keep_below x
    exact ⟨c _ _ g3, c _ _ y0, c _ _ y1, c _ _ y2, c _ _ y3, c _ _ z0, c _ _ z1, c _ _ z2, c _ _ z3⟩
  clear hE ha hp hg hsp hsq hR hcap hI hJ hs0 g0 g1 g2 hl
  go_enter Tryz.func139, Tryz.ntmps139
  go_wp2_with fail
  go_region_held3 (fun W => W.cell? ⟨b, o + 3, none⟩ = some (.slice (some ⟨kb, ko, none⟩) 1 cap) ∧ W.cell? ⟨kb, ko, none⟩ = some k0 ∧ W.cell? ⟨kb, ko + 1, none⟩ = some k1 ∧ W.cell? ⟨kb, ko + 2, none⟩ = some k2 ∧ W.cell? ⟨kb, ko + 3, none⟩ = some k3 ∧ W.cell? ⟨b', o', none⟩ = some q0 ∧ W.cell? ⟨b', o' + 1, none⟩ = some q1 ∧ W.cell? ⟨b', o' + 2, none⟩ = some q2 ∧ W.cell? ⟨b', o' + 3, none⟩ = some q3) (first | go_keep | assumption | exact HS.out _ HX3.out) (first | (go_at_call 72; refine (HA.out _ ?_).mono ?_; (first | exact Ext.refl _ | exact below_drewN (Ext.refl w) _ | exact (Ext.refl w).drew); rintro e w3 ⟨he, hw⟩; subst he; have hw' := hw.symm; subst hw') | (go_at_call 62; refine (HE.out _ ?_).mono ?_; (first | exact Ext.refl _ | exact below_drewN (Ext.refl w) _ | exact (Ext.refl w).drew); rintro e w3 ⟨he, hX⟩; subst he; have HX3 := Lib.hid (show Ext w w3 from Ext.trans (by first | exact Ext.refl _ | exact below_drewN (Ext.refl w) _ | exact (Ext.refl w).drew) hX)))
  go_wp2_with fail
  go_ret
  rw [H.out]
  exact ⟨rfl, HX3.out⟩
end Go.Proofs.YtbcpnepjojppaaaGreatDoor
