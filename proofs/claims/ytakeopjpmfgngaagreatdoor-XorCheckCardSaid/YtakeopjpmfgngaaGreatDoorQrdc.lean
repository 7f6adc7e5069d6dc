/-
  THE WALK OF reduced.
-/
import Derived.Test.YtakeopjpmfgngaaGreatDoorQred
namespace Go.Proofs.YtakeopjpmfgngaaGreatDoor
open Go.RowKit Go.Lib

/-- What reduced gives back. -/
def RowPost (w : World) (n1 n2 : Nat) (X Y : Nat → Bool) (e : Ending) (w' : World) : Prop :=
  ∃ gs ge fs fe, e = .returned (.agg #[.slice (some ⟨gs, 0, none⟩) n1 n1, .slice (some ⟨ge, 0, none⟩) n2 n2]) ∧ w.heap.size ≤ gs ∧ w.heap.size ≤ ge ∧ gs ≠ ge ∧ VRow w' gs n1 fs ∧ VRow w' ge n2 fe ∧ bitV fs = X ∧ bitV fe = Y ∧ Ext w w'
theorem box2_facts {w : World} {b : Nat} {y0 y1 : Value} {T : TypeId} (h : w.heap[b]? = some (.cells #[y0, y1] T (0, 0))) : (w.cell? ⟨b, 0, none⟩ = some y0 ∧ w.cell? ⟨b, 1, none⟩ = some y1) ∧ ∀ i, w.frozen? ⟨b, i, none⟩ = false := by
  refine ⟨⟨?_, ?_⟩, fun i => ?_⟩
  · simp [World.cell?, h]
  · simp [World.cell?, h]
  · simp [World.frozen?, h]
set_option maxHeartbeats 3200000 in
set_option maxRecDepth 100000 in
theorem reduced_any (eb n1 n2 N : Nat) (C : List Tm) (ps : List PvM) (v : Value) (t : Tm) (c0 c1 c2 c3 : Value) (w : World) (hn1 : (C.length + 63) / 64 = n1) (hn2 : (N + 63) / 64 = n2) (hN : N ≤ 1048576) (hps : ps.length ≤ 1048576) (hE : EL eb C n1 n2 ps v w) (hst : size t ≤ 1048576) (hsub : ∀ u ∈ summT t, u ∈ C) (hI : Is w t c0 c1 c2 c3) :
    Calls Tryz.prog 48 #[.pointer (some ⟨eb, 0, none⟩), .agg #[c0, c1, c2, c3], .int .i64 N] w (RowPost w n1 n2 (redS (ps.map pvB) (chiP C (addT t))) (redE (ps.map pvB) (chiP C (addT t)) b0)) := by
  obtain ⟨k2, n, s2, ya2, yl2, yc2, rfl, rfl, rfl, rfl⟩ := Is_form hI
  obtain ⟨wB, hwB⟩ : ∃ W, W = (w.alloc (.cells #[.int .i64 k2, .string n, .int .i64 s2, .slice ya2 yl2 yc2] 26)).alloc (.cells #[.slice none 0 0, .slice none 0 0] 69) := ⟨_, rfl⟩
  have hX : Ext w wB := by rw [hwB]; exact ((Ext.refl w).alloc _).alloc _
  have hsB : wB.heap.size = w.heap.size + 2 := by rw [hwB, World.size_alloc, World.size_alloc]
  have hq1 : wB.heap[w.heap.size]? = some (.cells #[.int .i64 k2, .string n, .int .i64 s2, .slice ya2 yl2 yc2] 26 (0, 0)) := by
    rw [hwB]
    have := ((Ext.refl (w.alloc (.cells #[.int .i64 k2, .string n, .int .i64 s2, .slice ya2 yl2 yc2] 26))).alloc (.cells #[.slice none 0 0, .slice none 0 0] 69)).block w.heap.size (by simp)
    rw [this]; exact heap_alloc_new w _
  have hq2 : wB.heap[w.heap.size + 1]? = some (.cells #[.slice none 0 0, .slice none 0 0] 69 (0, 0)) := by
    rw [hwB]
    have := heap_alloc_new (w.alloc (.cells #[.int .i64 k2, .string n, .int .i64 s2, .slice ya2 yl2 yc2] 26)) (.cells #[.slice none 0 0, .slice none 0 0] 69)
    rw [World.size_alloc] at this; exact this
  have HBT : Hid (∀ W, Ext wB W → (W.cell? ⟨w.heap.size, 0, none⟩ = some (.int .i64 k2) ∧ W.cell? ⟨w.heap.size, 1, none⟩ = some (.string n) ∧ W.cell? ⟨w.heap.size, 2, none⟩ = some (.int .i64 s2) ∧ W.cell? ⟨w.heap.size, 3, none⟩ = some (.slice ya2 yl2 yc2))) := by
    show ∀ _, _
    intro W x
    exact (box_facts ((x.block w.heap.size (by omega)).trans hq1)).1
  have HBR : Hid (∀ W, Ext wB W → W.heap[w.heap.size + 1]? = some (.cells #[.slice none 0 0, .slice none 0 0] 69 (0, 0))) := by
    show ∀ _, _
    intro W x
    exact (x.block _ (by omega)).trans hq2
  obtain ⟨b0', b1', b2', b3'⟩ := HBT.out wB (Ext.refl _)
  have HVO := Lib.hid (fun W (x : Ext w W) => vectorOf_any eb C t _ _ _ _ W (hE.colAt.ext x) hst hsub (Is_below (w' := W) hI x))
  have HNV := Lib.hid (fun W => newVector_any N W hN)
  rw [hn1] at HVO
  rw [hn2] at HNV
  have hcl := hE.len
  have HEL := Lib.hid (fun W (x : Ext w W) => hE.ext x)
  have HPV := Lib.hid hE.vec
  have HPC : Hid (∀ W, Ext w W → W.cell? ⟨eb, 1, none⟩ = some v) := fun W x => keep_below x _ _ hE.pv
  have HFORM := Lib.hid hE.form
  obtain ⟨xv, cv, hv⟩ := hE.nlen
  subst hv
  have hn1l : n1 ≤ 1048576 := by omega
  have hn2l : n2 ≤ 1048576 := by omega
  have hn64 : C.length ≤ n1 * 64 := by omega
  have HX := Lib.hid hX
  have HSB := Lib.hid hsB
  have HWB := Lib.hid hwB
  clear hX hsB hq1 hq2 hwB hI hE hn1 hn2 hst hsub hN
  generalize chiP C (addT t) = X at HVO ⊢
  go_enter Tryz.func48, Tryz.ntmps48
  go_upto_region 1 with fail
  rw [← HWB.out]
  go_upto_region 2 with (first
    | (go_at_call 76; refine (HVO.out _ HX.out).mono ?_; rintro e w3 ⟨gs, fs0, he, hg, hv, hb, hx⟩; subst he; have HX3 := Lib.hid hx; have HV3 := Lib.hid hv; have HB3 := Lib.hid hb; have HG3 := Lib.hid hg; clear hx hv hg hb)
    | (go_at_call 77; refine (HNV.out _).mono ?_; rintro e w4 ⟨ge, he, hg, hv, hx⟩; subst he; have HX4 := Lib.hid hx; have HV4 := Lib.hid hv; have HG4 := Lib.hid hg; clear hx hv hg))
  have hgsl := HV3.out.1
  have hgel := HV4.out.1
  have hne : gs ≠ ge := by have := HG4.out; omega
  have hs34 := HX4.out.size
  have hsw := HX.out.size
  have hs3 := HX3.out.size
  have hwg : w.heap.size + 2 ≤ gs := by have := HG3.out; have := HSB.out; omega
  have hwe : w.heap.size + 2 ≤ ge := by have := HG4.out; have := HSB.out; omega
  have hbn := heap_alloc_new w4 (.cells #[.slice (some ⟨gs, 0, none⟩) n1 n1, .slice (some ⟨ge, 0, none⟩) n2 n2] 69)
  have hA : Ext w4 (w4.alloc (.cells #[.slice (some ⟨gs, 0, none⟩) n1 n1, .slice (some ⟨ge, 0, none⟩) n2 n2] 69)) := (Ext.refl w4).alloc _
  obtain ⟨H, hH⟩ : ∃ H, w4.heap.size = H := ⟨_, rfl⟩
  rw [hH] at hbn ⊢
  have hv3 : VRow (w4.alloc (.cells #[.slice (some ⟨gs, 0, none⟩) n1 n1, .slice (some ⟨ge, 0, none⟩) n2 n2] 69)) gs n1 fs0 := (HV3.out.ext HX4.out).ext hA
  have hv4 := HV4.out.ext hA
  have hx5 : Ext wB (w4.alloc (.cells #[.slice (some ⟨gs, 0, none⟩) n1 n1, .slice (some ⟨ge, 0, none⟩) n2 n2] 69)) := (HX3.out.trans HX4.out).trans hA
  generalize w4.alloc (.cells #[.slice (some ⟨gs, 0, none⟩) n1 n1, .slice (some ⟨ge, 0, none⟩) n2 n2] 69) = w5 at hbn hv3 hv4 hx5 ⊢
  have hc1 := HPC.out w5 (HX.out.trans hx5)
  obtain ⟨⟨r0, r1⟩, _⟩ := box2_facts hbn
  have HR5 : Hid (∀ W, Kq (two gs ge) w5 W → W.cell? ⟨H, 0, none⟩ = some (.slice (some ⟨gs, 0, none⟩) n1 n1) ∧ W.cell? ⟨H, 1, none⟩ = some (.slice (some ⟨ge, 0, none⟩) n2 n2)) := by
    show ∀ _, _
    intro W k
    have hnS : ¬ two gs ge H := by unfold two; omega
    exact ⟨cell_kq k hnS r0, cell_kq k hnS r1⟩
  have HX5 : Hid (∀ W, Kq (two gs ge) w5 W → Ext wB W) := fun W k => k.fresh hx5 fun i hi => by have := HSB.out; rcases hi with rfl | rfl <;> omega
  have HA0 := Lib.hid (And.intro hv3 hv4)
  clear hbn hv3 hv4 hx5 hA r0 r1
  go_wp2_with fail
  go_loopw [21] (fun i wr => ∃ (j : Nat) (fs fe : Nat → Nat), j ≤ ps.length ∧ i = .int .i64 j ∧ VRow wr gs n1 fs ∧ VRow wr ge n2 fe ∧ Hid (redS (ps.map pvB) X = redS ((ps.drop j).map pvB) (bitV fs)) ∧ Hid (redE (ps.map pvB) X b0 = redE ((ps.drop j).map pvB) (bitV fs) (bitV fe)) ∧ Kq (two gs ge) w5 wr) (fun i _ => ps.length - (intOf i).toNat)
  case atStart => exact ⟨0, fs0, fun _ => 0, Nat.zero_le _, rfl, HA0.out.1, HA0.out.2, by show _ = _; rw [HB3.out]; rfl, by show _ = _; rw [HB3.out, zeroV_bits]; rfl, Kq.refl _ _⟩
  case round =>
    obtain ⟨j, fs, fe, hj, rfl, hvs, hve, HS, HE, hK⟩ := hrel
    have HVS := Lib.hid hvs
    have HVE := Lib.hid hve
    have HK := Lib.hid hK
    have hxr := HX5.out _ hK
    have HXR := Lib.hid hxr
    obtain ⟨r0, r1⟩ := HR5.out _ hK
    by_cases hlt : j < ps.length
    rotate_left
    · have hjl : j = ps.length := by omega
      have hbr := HBR.out _ hxr
      obtain ⟨⟨m0, m1⟩, mf⟩ := box2_facts hbr
      have mf0 := mf 0
      have mf1 := mf 1
      have HQ : Hid (RowPost w n1 n2 (redS (ps.map pvB) X) (redE (ps.map pvB) X b0) (.returned (.agg #[.slice (some ⟨gs, 0, none⟩) n1 n1, .slice (some ⟨ge, 0, none⟩) n2 n2])) ((wr.setCell ⟨w.heap.size + 1, 0, none⟩ (.slice (some ⟨gs, 0, none⟩) n1 n1)).setCell ⟨w.heap.size + 1, 1, none⟩ (.slice (some ⟨ge, 0, none⟩) n2 n2))) := by
        have hfar : ∀ b, b ≠ w.heap.size + 1 → ((wr.setCell ⟨w.heap.size + 1, 0, none⟩ (.slice (some ⟨gs, 0, none⟩) n1 n1)).setCell ⟨w.heap.size + 1, 1, none⟩ (.slice (some ⟨ge, 0, none⟩) n2 n2)).heap[b]? = wr.heap[b]? := fun b hb => by
          rw [Below.heap_setCell _ _ _ _ (by simp only; omega), Below.heap_setCell _ _ _ _ (by simp only; omega)]
        refine ⟨gs, ge, fs, fe, rfl, by omega, by omega, hne, hvs.carry (by simp [World.setCell]) (hfar gs (by omega)), hve.carry (by simp [World.setCell]) (hfar ge (by omega)), ?_, ?_, ?_⟩
        · rw [HS.out, hjl, List.drop_length]; rfl
        · rw [HE.out, hjl, List.drop_length]; rfl
        · exact (((HX.out.trans hxr).setCell (p := ⟨w.heap.size + 1, 0, none⟩) (by simp only; omega) _).setCell (p := ⟨w.heap.size + 1, 1, none⟩) (by simp only; omega) _)
      clear hvs hve hK hxr hbr hjl mf
      go_wp2_with fail
      exact bodyPost_ret (v := .agg #[.slice (some ⟨gs, 0, none⟩) n1 n1, .slice (some ⟨ge, 0, none⟩) n2 n2]) (by simp [results, Tryz.results48, go_sem, m0, m1]) rfl HQ.out
    have hel := HEL.out wr (HX.out.trans hxr)
    rcases hel.form with ⟨_, e0⟩ | ⟨g, cap, e0, hg1, hg2, hg3⟩
    · rw [e0] at hlt; exact absurd hlt (by simp)
    simp only [Value.slice.injEq, true_and] at e0
    obtain ⟨rfl, rfl⟩ := e0
    obtain ⟨p0, p1, p2, p3⟩ := hel.cells j hlt
    obtain ⟨v1, v2, v3, v4, v5, v6⟩ := HPV.out ps[j] (List.getElem_mem hlt)
    obtain ⟨u1, u2, _⟩ := hel.vec ps[j] (List.getElem_mem hlt)
    have hv1l := v1.1
    have hv2l := v2.1
    have hdr := List.drop_eq_getElem_cons hlt
    have hrS : redS ((ps.drop j).map pvB) (bitV fs) = redS ((ps.drop (j + 1)).map pvB) (if bitV fs ps[j].c = true then bx (bitV fs) (bitV ps[j].s) else bitV fs) := by rw [hdr, List.map_cons, redS]; rfl
    have hrE : redE ((ps.drop j).map pvB) (bitV fs) (bitV fe) = redE ((ps.drop (j + 1)).map pvB) (if bitV fs ps[j].c = true then bx (bitV fs) (bitV ps[j].s) else bitV fs) (if bitV fs ps[j].c = true then bx (bitV fe) (bitV ps[j].e) else bitV fe) := by rw [hdr, List.map_cons, redE]; rfl
    obtain ⟨P, hP⟩ : ∃ P, ps[j] = P := ⟨_, rfl⟩
    rw [hP] at p0 p1 p2 p3 v1 v2 v3 v4 v5 v6 u1 u2 hv1l hv2l hrS hrE
    have hA6 : Ext wr (wr.alloc (.cells #[.slice (some ⟨P.gs, 0, none⟩) n1 n1, .slice (some ⟨P.ge, 0, none⟩) n2 n2, .int .i64 P.c, .int .i64 P.i] 71)) := (Ext.refl wr).alloc _
    have HHAS := Lib.hid (has_any gs n1 n1 P.c fs (wr.alloc (.cells #[.slice (some ⟨P.gs, 0, none⟩) n1 n1, .slice (some ⟨P.ge, 0, none⟩) n2 n2, .int .i64 P.c, .int .i64 P.i] 71)) (by omega) hn1l (hvs.ext hA6).2.2)
    have HADD := Lib.hid (rowadd_any gs ge P.gs P.ge n1 n2 fs fe P.s P.e (wr.alloc (.cells #[.slice (some ⟨P.gs, 0, none⟩) n1 n1, .slice (some ⟨P.ge, 0, none⟩) n2 n2, .int .i64 P.c, .int .i64 P.i] 71)) hn1l hn2l hne (by omega) (by omega) (by omega) (by omega) (hvs.ext hA6) (hve.ext hA6) (u1.ext hA6) (u2.ext hA6))
    have HA6 := Lib.hid hA6
    have hwr : H < wr.heap.size := World.block_lt_of_cell? wr _ r0
    have i1 : (0 : Int) ≤ (j : Int) := by omega
    have i2 : (j : Int) < (ps.length : Int) := by omega
    clear hvs hve hK hxr hel v1 v2 v3 v4 v5 v6 u1 u2 hv1l hv2l hdr hP hA6
    cases hb : bitV fs P.c
    · rw [hb] at HHAS hrS hrE
      have HS2 : Hid (redS (ps.map pvB) X = redS ((ps.drop (j + 1)).map pvB) (bitV fs)) := by show _ = _; rw [HS.out, hrS]; simp
      have HE2 : Hid (redE (ps.map pvB) X b0 = redE ((ps.drop (j + 1)).map pvB) (bitV fs) (bitV fe)) := by show _ = _; rw [HE.out, hrE]; simp
      clear hrS hrE hb
      go_wp2_with (go_at_call 78; refine (HHAS.out).mono ?_; rintro e w6 ⟨he, hw⟩; subst he; subst hw)
      go_roundw
      case rel => exact ⟨j + 1, fs, fe, by omega, by go_num, HVS.out.ext HA6.out, HVE.out.ext HA6.out, HS2, HE2, HK.out.ext HA6.out⟩
      case measure => simp [intOf]; omega
    · rw [hb] at HHAS hrS hrE
      have HS2 : Hid (redS (ps.map pvB) X = redS ((ps.drop (j + 1)).map pvB) (bitV (xorV fs P.s))) := by show _ = _; rw [HS.out, hrS, xorV_bits]; simp
      have HE2 : Hid (redE (ps.map pvB) X b0 = redE ((ps.drop (j + 1)).map pvB) (bitV (xorV fs P.s)) (bitV (xorV fe P.e))) := by show _ = _; rw [HE.out, hrE, xorV_bits, xorV_bits]; simp
      clear hrS hrE hb
      go_wp2_with (first
        | (go_at_call 78; refine (HHAS.out).mono ?_; rintro e w6 ⟨he, hw⟩; subst he; subst hw)
        | (go_at_call 79; refine (HADD.out).mono ?_; rintro e w7 ⟨he, hv1, hv2, hk⟩; subst he; have HV7 := Lib.hid (And.intro hv1 hv2); have HK7 := Lib.hid ((HK.out.ext HA6.out).trans hk); clear hv1 hv2 hk))
      go_roundw
      case rel => exact ⟨j + 1, _, _, by omega, by go_num, HV7.out.1, HV7.out.2, HS2, HE2, HK7.out⟩
      case measure => simp [intOf]; omega
end Go.Proofs.YtakeopjpmfgngaaGreatDoor
