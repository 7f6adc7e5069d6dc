import Derived.Test.YtbcpnepjojppaaaGreatDoorLawTheoryKeyxYred
namespace Go.Proofs.YtbcpnepjojppaaaGreatDoor
open Go.RowKit
theorem redU_zil {n : ByteArray} {s : Int} {us : List Tm} (h : ¬ (redU n s us).2 = 0) : (redU n s us).1 = zilT := by
  unfold redU at h ⊢
  by_cases c1 : isDes n = true
  · rw [if_pos c1] at h; exact absurd rfl h
  rw [if_neg c1] at h ⊢
  by_cases c2 : n = yXor
  · rw [if_pos c2] at h ⊢; exact sumP_zil h
  rw [if_neg c2] at h ⊢
  by_cases c3 : n = nMul ∨ n = nInv ∨ n = nOne
  · rw [if_pos c3] at h ⊢
    unfold prodU at h ⊢
    by_cases c : (ofP (.mk 3 n s us)).2 = 0
    · rw [if_pos c] at h ⊢; exact termP_zil h
    · rw [if_neg c]
  rw [if_neg c3] at h ⊢
  by_cases c4 : n = yExp
  · rw [if_pos c4] at h ⊢; exact powU_zil h
  · rw [if_neg c4] at h; exact absurd rfl h
theorem yLies_is {w : World} {k s : Int} {n : ByteArray} {ks : List Tm} {b o : Nat} (hL : Lies w (.mk k n s ks) b o) : ∃ xa cap, w.cell? ⟨b, o, none⟩ = some (.int .i64 k) ∧ w.cell? ⟨b, o + 1, none⟩ = some (.string n) ∧ w.cell? ⟨b, o + 2, none⟩ = some (.int .i64 s) ∧ w.cell? ⟨b, o + 3, none⟩ = some (.slice xa ks.length cap) ∧ Is w (.mk k n s ks) (.int .i64 k) (.string n) (.int .i64 s) (.slice xa ks.length cap) := by
  obtain ⟨g0, g1, g2, hk, hs, hn, hl, xa, cap, g3, hcap, hR⟩ := Lies_mk hL
  refine ⟨xa, cap, g0, g1, g2, g3, ?_⟩
  simp only [Is]
  exact ⟨trivial, trivial, trivial, hk, hs, hn, hl, xa, cap, rfl, hcap, hR⟩
structure NRel (w : World) (k : Int) (n : ByteArray) (s : Int) (us : List Tm) (j : Nat) (wr : World) : Prop where
  below : Below w.heap.size w wr
  res : wr.heap[w.heap.size]? = some (.cells #[.int .i64 0, .string ⟨#[]⟩, .int .i64 0, .slice none 0 0] 24 (0, 0))
  box : wr.heap[w.heap.size + 1]? = some (.cells #[.int .i64 k, .string n, .int .i64 s, .slice (some ⟨w.heap.size + 2, 0, none⟩) us.length us.length] 24 (0, 0))
  zb : ZB wr (w.heap.size + 2) (us.length * 4) (us.take j)
theorem ZB_nil {w w' : World} {g m : Nat} (h : ZB w g m []) (e : w'.heap[g]? = w.heap[g]?) : ZB w' g m [] := by
  obtain ⟨cur, hc, hm⟩ := h.blk
  exact ⟨⟨cur, e.trans hc, hm⟩, fun i hi => by simp at hi, fun q hq v hv => h.rest q hq v ((cell_block (o := q) e).symm.trans hv)⟩
theorem NRel_made {w w1 : World} {k s : Int} {n : ByteArray} {us : List Tm} {m : Nat} (hown : w1.ownsRow (w.heap.size + 2) 24 4 (.slice (some ⟨w.heap.size + 2, 0, none⟩) us.length us.length) us.length (madeCells #[.int .i64 0, .string ⟨#[]⟩, .int .i64 0, .slice none 0 0] m).toList)
    (hg : (((w.alloc (.cells #[.int .i64 0, .string ⟨#[]⟩, .int .i64 0, .slice none 0 0] 24)).alloc (.cells #[.int .i64 k, .string n, .int .i64 s, .slice none 0 0] 24)).drew).grownBy w1 none) :
    NRel w k n s us 0 (w1.setCell ⟨w.heap.size + 1, 3, none⟩ (.slice (some ⟨w.heap.size + 2, 0, none⟩) us.length us.length)) ∧
    w1.heap[w.heap.size + 1]? = some (.cells #[.int .i64 k, .string n, .int .i64 s, .slice none 0 0] 24 (0, 0)) ∧ Below w.heap.size w w1 := by
  obtain ⟨h1, h2, h3⟩ := copy_made (k := k) (s := s) (n := n) (ks := us) hown hg
  exact ⟨⟨h1.below, h1.res, h1.box, ZB_nil (ZB.made hown) (Below.heap_setCell _ _ _ _ (by simp))⟩, h2, h3⟩
theorem NRel.ext {w wr W : World} {k s : Int} {n : ByteArray} {us : List Tm} {j : Nat} (h : NRel w k n s us j wr) (x : Ext wr W) : NRel w k n s us j W := by
  have hl := h.zb.lt
  exact ⟨Ext.trans h.below x, (x.block _ (by omega)).trans h.res, (x.block _ (by omega)).trans h.box, h.zb.ext x⟩
theorem NRel.cells {w wr : World} {k s : Int} {n : ByteArray} {us : List Tm} {j : Nat} (h : NRel w k n s us j wr) (hj : j < us.length) :
    (∃ z0 z1 z2 z3, wr.cell? ⟨w.heap.size + 2, j * 4, none⟩ = some z0 ∧ wr.cell? ⟨w.heap.size + 2, j * 4 + 1, none⟩ = some z1 ∧ wr.cell? ⟨w.heap.size + 2, j * 4 + 2, none⟩ = some z2 ∧ wr.cell? ⟨w.heap.size + 2, j * 4 + 3, none⟩ = some z3) ∧
    wr.frozen? ⟨w.heap.size + 2, j * 4, none⟩ = false ∧ wr.frozen? ⟨w.heap.size + 2, j * 4 + 1, none⟩ = false ∧ wr.frozen? ⟨w.heap.size + 2, j * 4 + 2, none⟩ = false ∧ wr.frozen? ⟨w.heap.size + 2, j * 4 + 3, none⟩ = false := by
  obtain ⟨⟨z0, g0⟩, f0⟩ := h.zb.cells (q := j * 4) (by omega)
  obtain ⟨⟨z1, g1⟩, f1⟩ := h.zb.cells (q := j * 4 + 1) (by omega)
  obtain ⟨⟨z2, g2⟩, f2⟩ := h.zb.cells (q := j * 4 + 2) (by omega)
  obtain ⟨⟨z3, g3⟩, f3⟩ := h.zb.cells (q := j * 4 + 3) (by omega)
  exact ⟨⟨z0, z1, z2, z3, g0, g1, g2, g3⟩, f0, f1, f2, f3⟩
theorem NRel.next {w wr : World} {k s : Int} {n : ByteArray} {us : List Tm} {j : Nat} (h : NRel w k n s us j wr) (hj : j < us.length) {c0 c1 c2 c3 : Value} (hv : ∀ t ∈ us.take j, nodesE t = 0) (hu : nodesE us[j] = 0) (hI : Is wr us[j] c0 c1 c2 c3) :
    NRel w k n s us (j + 1) (put4 wr (w.heap.size + 2) (j * 4) c0 c1 c2 c3) := by
  have hlen : (us.take j).length = j := by rw [List.length_take]; omega
  refine ⟨put4_below h.below (by omega), (put4_other _ _ _ _ _ _ _ _ (by omega)).trans h.res, (put4_other _ _ _ _ _ _ _ _ (by omega)).trans h.box, ?_⟩
  have := h.zb.put (by rw [hlen]; omega) hv hu hI
  rw [hlen] at this
  rw [List.take_succ_eq_append_getElem hj]
  exact this
theorem Is_any {w : World} {k s : Int} {n : ByteArray} {ks : List Tm} {xa : Option Addr} {cap : Nat} (hk : -9223372036854775808 ≤ k ∧ k ≤ 9223372036854775807) (hs : -9223372036854775808 ≤ s ∧ s ≤ 9223372036854775807) (hn : n.size ≤ maxLen) (hl : ks.length ≤ maxLen) (hc : ks.length ≤ cap) (h : Row w ks xa) : Is w (.mk k n s ks) (.int .i64 k) (.string n) (.int .i64 s) (.slice xa ks.length cap) := by
  simp only [Is]
  exact ⟨trivial, trivial, trivial, hk, hs, hn, hl, xa, cap, rfl, hc, h⟩
set_option maxHeartbeats 3200000 in
set_option maxRecDepth 100000 in
theorem normal_leaf (k : Int) (n : ByteArray) (s : Int) (b o : Nat) (w : World) (hg : gd (.mk k n s [])) (hL : Lies w (.mk k n s []) b o) :
    Calls Tryz.prog 61 #[.pointer (some ⟨b, o, none⟩)] w (TrPost w (nrmT (.mk k n s []))) := by
  obtain ⟨xa, cap, g0, g1, g2, g3, hI⟩ := yLies_is hL
  obtain ⟨_, _, _, hk, hs, hn, _⟩ := Lies_mk hL
  have hblt := World.block_lt_of_cell? w _ g0
  simp only at hblt
  have nb0 : ¬ b = w.heap.size := by omega
  have nb00 : ¬ w.heap.size = b := by omega
  have nb1 : ¬ b = w.heap.size + 1 := by omega
  have nb3 : ¬ w.heap.size + 1 = b := by omega
  have h0' : ([] : List Tm).length = 0 := rfl
  rw [h0'] at g3
  have hX : Ext w (((w.alloc (.cells #[.int .i64 0, .string ⟨#[]⟩, .int .i64 0, .slice none 0 0] 24)).alloc (.cells #[.int .i64 k, .string n, .int .i64 s, .slice none 0 0] 24)).drew) := (((Ext.refl w).alloc _).alloc _).drew
  have hZ : (((w.alloc (.cells #[.int .i64 0, .string ⟨#[]⟩, .int .i64 0, .slice none 0 0] 24)).alloc (.cells #[.int .i64 k, .string n, .int .i64 s, .slice none 0 0] 24)).drew).heap.size = w.heap.size + 2 := (by rw [World.size_alloc, World.size_alloc] : ((w.alloc (.cells #[.int .i64 0, .string ⟨#[]⟩, .int .i64 0, .slice none 0 0] 24)).alloc (.cells #[.int .i64 k, .string n, .int .i64 s, .slice none 0 0] 24)).heap.size = w.heap.size + 2)
  have hr0 : (((w.alloc (.cells #[.int .i64 0, .string ⟨#[]⟩, .int .i64 0, .slice none 0 0] 24)).alloc (.cells #[.int .i64 k, .string n, .int .i64 s, .slice none 0 0] 24)).drew).heap[w.heap.size]? = some (.cells #[.int .i64 0, .string ⟨#[]⟩, .int .i64 0, .slice none 0 0] 24 (0, 0)) := (Below.heap_alloc _ _ _ (by simp)).trans (heap_alloc_new w _)
  have hr1 : (((w.alloc (.cells #[.int .i64 0, .string ⟨#[]⟩, .int .i64 0, .slice none 0 0] 24)).alloc (.cells #[.int .i64 k, .string n, .int .i64 s, .slice none 0 0] 24)).drew).heap[w.heap.size + 1]? = some (.cells #[.int .i64 k, .string n, .int .i64 s, .slice none 0 0] 24 (0, 0)) := by
    have := heap_alloc_new (w.alloc (.cells #[.int .i64 0, .string ⟨#[]⟩, .int .i64 0, .slice none 0 0] 24)) (.cells #[.int .i64 k, .string n, .int .i64 s, .slice none 0 0] 24)
    rw [World.size_alloc] at this; exact this
  have HX := Lib.hid (And.intro hX (And.intro hZ (And.intro hr0 hr1)))
  have HI : Hid (∀ W, Is W (.mk k n s []) (.int .i64 k) (.string n) (.int .i64 s) (.slice none 0 0)) := fun W => Is_any hk hs hn (Nat.zero_le _) (Nat.le_refl _) (by simp [Row])
  have HE : Hid (nrmT (.mk k n s []) = if k = 3 then redU n s [] else (.mk k n s [], 0)) := by
    show _ = _; rw [nrmT_mk, nrmL, if_pos rfl]
  have HG := Lib.hid hg
  clear hg hI hL h0' hX hZ hr0 hr1 hblt
  go_enter Tryz.func61, Tryz.ntmps61
  go_wp2_with fail
  go_region_held3 (fun W => W.cell? ⟨b, o, none⟩ = some (.int .i64 k) ∧ W.cell? ⟨b, o + 1, none⟩ = some (.string n) ∧ W.cell? ⟨b, o + 2, none⟩ = some (.int .i64 s) ∧ W.cell? ⟨b, o + 3, none⟩ = some (.slice xa 0 cap)) (first | go_keep | assumption) (first | fail)
  go_wp2_with fail
  go_loopw [39] (fun i wr => i = .int .i64 0 ∧ wr = (((w.alloc (.cells #[.int .i64 0, .string ⟨#[]⟩, .int .i64 0, .slice none 0 0] 24)).alloc (.cells #[.int .i64 k, .string n, .int .i64 s, .slice none 0 0] 24)).drew)) (fun i _ => 0)
  case atStart => exact ⟨rfl, rfl⟩
  case round =>
    obtain ⟨rfl, hw⟩ := hrel
    obtain ⟨w5, hw5⟩ : ∃ V : World, V = wr := ⟨_, rfl⟩
    subst hw5
    have hx := HX.out
    rw [← hw] at hx
    obtain ⟨hX, hZ, hr0, hr1⟩ := hx
    have hsz : 0 + 1 ≤ w5.heap.size := by omega
    have HX5 := Lib.hid (And.intro hX (And.intro hZ hr0))
    obtain ⟨⟨m0, m1, m2, m3⟩, n0, n1, n2, n3⟩ := box_facts hr0
    obtain ⟨⟨y0, y1, y2, y3⟩, _⟩ := box_facts hr1
    clear hw g0 g1 g2 g3 HX hX hZ hr0 hr1 hsz
    by_cases hk3 : k = 3
    · have HR : Hid (nrmT (.mk k n s []) = redU n s []) := by show _ = _; rw [HE.out, if_pos hk3]
      subst hk3
      have hzz : sizes ([] : List Tm) = 0 := rfl
      have HC : Hid (Calls Tryz.prog 87 #[.agg #[.int .i64 3, .string n, .int .i64 s, .slice none 0 0]] w5 (TrPost w5 (redU n s []))) := yreduced_any n s [] none 0 w5 HG.out (by rw [hzz]; omega) (HI.out w5)
      have HV : Hid (okz (redU n s [])) := Lib.hid (okz_of (fun h => redU_gd HG.out h) redU_zil)
      generalize redU n s [] = S at HC HV HR
      clear hzz
      go_wp2_with (go_at_call 87; refine (HC.out).mono ?_; rintro e w7 ⟨rk, rn, rs, rx, rl, rc, he, hI7, hX7⟩; subst he; have HX7 := Lib.hid hX7; have HI7 := Lib.hid hI7; have hz7 := (hX7.block w.heap.size (by have := HX5.out.2.1; omega)).trans HX5.out.2.2; clear m0 m1 m2 m3 n0 n1 n2 n3; obtain ⟨⟨m0, m1, m2, m3⟩, n0, n1, n2, n3⟩ := box_facts hz7; have HZ7 := Lib.hid hz7; clear hI7 hX7 hz7)
      refine bodyPost_ret (v := .tuple #[.agg #[.int .i64 rk, .string rn, .int .i64 rs, .slice rx rl rc], .int .i64 S.2]) (by simp [results, Tryz.results61, go_sem, m0, m1, m2, m3]) rfl ?_
      rw [HR.out]
      exact TrMove HZ7.out (Nat.le_refl _) (Ext.trans HX5.out.1 HX7.out) HV.out HI7.out
    · have HR : Hid (nrmT (.mk k n s []) = (.mk k n s [], 0)) := by show _ = _; rw [HE.out, if_neg hk3]
      have q1 : (k != 3) = true := by rw [bne_iff_ne]; exact hk3
      clear hk3
      go_wp2_with fail
      exact bodyPost_ret (v := .tuple #[.agg #[.int .i64 k, .string n, .int .i64 s, .slice none 0 0], .int .i64 0]) (by simp [results, Tryz.results61, go_sem, m0, m1, m2, m3]) rfl (TrFin HR.out HX5.out.2.2 (Nat.le_refl _) HX5.out.1 HG.out.1 (HI.out w5))
set_option maxHeartbeats 3200000 in
set_option maxRecDepth 100000 in
theorem normal_node (n : ByteArray) (s : Int) (ks us : List Tm) (b o : Nat) (w : World) (hg : gd (.mk 3 n s ks)) (hsz : size (.mk 3 n s ks) ≤ 400) (hL : Lies w (.mk 3 n s ks) b o) (hne : ¬ ks.length = 0) (hus : us = ks.map fun t => (nrmT t).1)
    (ih : ∀ (j : Nat) (h : j < ks.length) (b o : Nat) (w : World), Lies w ks[j] b o → Calls Tryz.prog 61 #[.pointer (some ⟨b, o, none⟩)] w (TrPost w (nrmT ks[j]))) :
    Calls Tryz.prog 61 #[.pointer (some ⟨b, o, none⟩)] w (TrPost w (nrmT (.mk 3 n s ks))) := by
  obtain ⟨g0, g1, g2, hk, hs, hn, hl, xa, cap, g3, hcap, hR⟩ := Lies_mk hL
  have hkl2 := length_le_sizes ks
  have hsk : size (.mk 3 n s ks) = 1 + sizes ks := rfl
  obtain ⟨kb, ko, rfl⟩ := Row_at hR (by omega)
  have hul : us.length = ks.length := by rw [hus, List.length_map]
  have hkm : us.length ≤ 400 := by omega
  rw [← hul] at g3 hl
  have hpos : (0 : Int) < (us.length : Int) := by omega
  have hbs := World.block_lt_of_cell? w _ g3
  simp only at hbs
  have nb0 : ¬ b = w.heap.size := by omega
  have nb00 : ¬ w.heap.size = b := by omega
  have nb1 : ¬ b = w.heap.size + 1 := by omega
  have nb2 : ¬ b = w.heap.size + 2 := by omega
  have nb3 : ¬ w.heap.size + 1 = b := by omega
  have nb4 : ¬ w.heap.size + 2 = b := by omega
  have hE := nrmT_mk 3 n s ks
  rw [if_pos rfl] at hE
  have hgk := (gd_mk hg).2.2
  have HGET : Hid (∀ (j : Nat) (h : j < us.length) (h2 : j < ks.length), us[j] = (nrmT ks[j]).1) := by
    show ∀ _, _
    intro j h h2
    simp only [hus, List.getElem_map]
  have HVK : Hid (∀ (j : Nat) (h : j < ks.length), (nrmT ks[j]).2 = 0 → nodesE (nrmT ks[j]).1 = 0) := fun j h e => ((nrm_gd _ (hgk _ (List.getElem_mem h))).1 e).1
  have HBAD : Hid (∀ (j : Nat) (h : j < ks.length), (∀ i (hi : i < j), (nrmT (ks[i]'(by omega))).2 = 0) → ¬ (nrmT ks[j]).2 = 0 → nrmT (.mk 3 n s ks) = (zilT, (nrmT ks[j]).2)) := by
    show ∀ _, _
    intro j h h1 h2
    have e := nrmL_bad h h1 h2
    rw [hE, if_neg (by rw [e]; exact h2), e]
  have HALL : Hid ((∀ i (hi : i < ks.length), (nrmT ks[i]).2 = 0) → nrmT (.mk 3 n s ks) = redU n s us ∧ gd (.mk 3 n s us) ∧ 1 + sizes us ≤ 1048570) := by
    show _ → _
    intro h
    have ha : ∀ t ∈ ks, (nrmT t).2 = 0 := fun t ht => by
      obtain ⟨i, hi, rfl⟩ := List.mem_iff_getElem.1 ht
      exact h i hi
    have e := nrmL_ok ha
    rw [← hus] at e
    have h2 := nrmL_gd ks hgk
    rw [e] at h2
    refine ⟨by rw [hE, e, if_pos rfl], gd_like hg hul (h2.1 rfl) (fun i hi hn => ?_), by have := h2.2; simp only at this; omega⟩
    rw [List.getElem?_eq_getElem (by omega)]
    simp only [hus, List.getElem_map, nrm_leaf hn]
  have HUL := Lib.hid hul
  have HW := Lib.hid (And.intro hs (And.intro hn hl))
  clear hus hE hgk hg hsz hsk hcap hne
  go_enter Tryz.func61, Tryz.ntmps61
  go_wp2_with fail
  go_region_held3 (fun W => W.cell? ⟨b, o, none⟩ = some (.int .i64 3) ∧ W.cell? ⟨b, o + 1, none⟩ = some (.string n) ∧ W.cell? ⟨b, o + 2, none⟩ = some (.int .i64 s) ∧ W.cell? ⟨b, o + 3, none⟩ = some (.slice (some ⟨kb, ko, none⟩) us.length cap)) (first | go_keep | assumption) (first | fail)
  have HR := Lib.hid hR
  have HIH := Lib.hid ih
  clear hR hL ih hul hl hkl2
  obtain ⟨i0, hi0, hz0, hz1, hz2⟩ := info_parts info24
  have HI0 := Lib.hid (And.intro hi0 (And.intro hz0 (And.intro hz1 hz2)))
  clear hi0 hz0 hz1 hz2
  go_wp2_with (at_make; refine make_full_at _ (w.heap.size + 2) (by simp) rfl _ _ _ rfl 24 i0 _ 4 Tryz.underlying22 HI0.out.1 HI0.out.2.1 HI0.out.2.2.1 us.length rfl rfl (by rw [HI0.out.2.2.2]; omega) (by unfold maxLen; omega) ?_; intro w1 hown1 hgrow; obtain ⟨hm1, hm2, hm3⟩ := NRel_made hown1 hgrow; have HM := Lib.hid hm1; obtain ⟨⟨x0, x1, x2, x3⟩, x4, x5, x6, x7⟩ := box_facts hm2; have g3' := (hm3.cell (World.block_lt_of_cell? w _ g3)).trans g3; clear hm1 hm2 hown1 hgrow x4 x5 x6)
  go_loopw [39] (fun i wr => ∃ j : Nat, j ≤ us.length ∧ i = .int .i64 j ∧ NRel w 3 n s us j wr ∧ Hid (∀ i (hi : i < j) (h2 : i < ks.length), (nrmT ks[i]).2 = 0)) (fun i _ => us.length - (intOf i).toNat)
  case atStart => exact ⟨0, Nat.zero_le _, rfl, HM.out, fun i hi => by omega⟩
  case round =>
    obtain ⟨j, hj, rfl, hC, HOK⟩ := hrel
    obtain ⟨w5, hw5⟩ : ∃ V : World, V = wr := ⟨_, rfl⟩
    subst hw5
    have hgr : w5.cell? ⟨b, o + 3, none⟩ = some (.slice (some ⟨kb, ko, none⟩) us.length cap) := (hC.below.cell (World.block_lt_of_cell? w _ g3)).trans g3
    have HC := Lib.hid hC
    clear g3' hC
    obtain ⟨⟨m0, m1, m2, m3⟩, n0, n1, n2, n3⟩ := box_facts HC.out.res
    obtain ⟨⟨y0, y1, y2, y3⟩, _⟩ := box_facts HC.out.box
    by_cases hlt : j < us.length
    rotate_left
    · have hjl : j = us.length := by omega
      subst hjl
      obtain ⟨hr1, hr2, hr3⟩ := HALL.out fun i hi => HOK.out i (by have := HUL.out; omega) hi
      have hrow := HC.out.zb.row
      rw [List.take_length] at hrow
      have HRX : Hid (Calls Tryz.prog 87 #[.agg #[.int .i64 3, .string n, .int .i64 s, .slice (some ⟨w.heap.size + 2, 0, none⟩) us.length us.length]] w5 (TrPost w5 (redU n s us))) := yreduced_any n s us _ _ w5 hr2 hr3 (Is_any (by omega) HW.out.1 HW.out.2.1 HW.out.2.2 (Nat.le_refl _) hrow)
      have HV : Hid (okz (redU n s us)) := Lib.hid (okz_of (fun h => redU_gd hr2 h) redU_zil)
      have HRR := Lib.hid hr1
      generalize redU n s us = S at HRX HV HRR
      clear hr1 hr2 hr3 hrow
      go_wp2_with (go_at_call 87; refine (HRX.out).mono ?_; rintro e w7 ⟨rk, rn, rs, rx, rl, rc, he, hI7, hX7⟩; subst he; have HX7 := Lib.hid hX7; have HI7 := Lib.hid hI7; have hz7 := (hX7.block w.heap.size (by have := HC.out.zb.lt; omega)).trans HC.out.res; clear m0 m1 m2 m3 n0 n1 n2 n3; obtain ⟨⟨m0, m1, m2, m3⟩, n0, n1, n2, n3⟩ := box_facts hz7; have HZ7 := Lib.hid hz7; clear hI7 hX7 hz7)
      refine bodyPost_ret (v := .tuple #[.agg #[.int .i64 rk, .string rn, .int .i64 rs, .slice rx rl rc], .int .i64 S.2]) (by simp [results, Tryz.results61, go_sem, m0, m1, m2, m3]) rfl ?_
      rw [HRR.out]
      exact TrMove HZ7.out (Nat.le_refl _) (Ext.trans HC.out.below HX7.out) HV.out HI7.out
    have hjk : j < ks.length := by have := HUL.out; omega
    have HJK := Lib.hid hjk
    have HCC : Hid (Calls Tryz.prog 61 #[.pointer (some ⟨kb, ko + j * 4, none⟩)] w5 (TrPost w5 (nrmT ks[j]))) := HIH.out j hjk kb (ko + j * 4) w5 (Row_get (Row_below HR.out HC.out.below) j hjk)
    have hvj := HVK.out j hjk
    have hbj := HBAD.out j hjk (fun i hi => HOK.out i hi (by omega))
    have hgj := HGET.out j hlt hjk
    have i1 : (0 : Int) ≤ (j : Int) := by omega
    have i2 : (j : Int) < (us.length : Int) := by omega
    by_cases hz : (nrmT ks[j]).2 = 0
    rotate_left
    · have HB := Lib.hid (hbj hz)
      generalize nrmT ks[j] = S at HCC HB hz
      have q1 : (S.2 != 0) = true := by rw [bne_iff_ne]; exact hz
      clear hz hvj hbj hgj hjk
      go_wp2_with (go_at_call 61; refine (HCC.out).mono ?_; rintro e w7 ⟨kk, kn, kt, kx, kl, kc, he, hI7, hX7⟩; subst he; have hX8 : Ext w5 (w7.alloc (.cells #[.int .i64 kk, .string kn, .int .i64 kt, .slice kx kl kc] 24)) := Ext.alloc hX7 _; have HX8 := Lib.hid hX8; have hz8 := (hX8.block w.heap.size (by have := HC.out.zb.lt; omega)).trans HC.out.res; clear m0 m1 m2 m3 n0 n1 n2 n3 y0 y1 y2 y3; obtain ⟨⟨m0, m1, m2, m3⟩, n0, n1, n2, n3⟩ := box_facts hz8; clear hI7 hX7 hX8 hz8)
      exact bodyPost_ret (v := .tuple #[.agg #[.int .i64 0, .string ⟨#[]⟩, .int .i64 0, .slice none 0 0], .int .i64 S.2]) (by simp [results, Tryz.results61, go_sem, m0, m1, m2, m3]) rfl (TrErr HB.out (Nat.le_refl _) (Ext.trans HC.out.below HX8.out))
    have hu := hvj hz
    rw [← hgj] at hu
    have HU := Lib.hid hu
    have HOK2 : Hid (∀ i (hi : i < j + 1) (h2 : i < ks.length), (nrmT ks[i]).2 = 0) := by
      show ∀ _, _
      intro i hi h2
      by_cases hij : i = j
      · subst hij; exact hz
      · exact HOK.out i (by omega) h2
    have HVT : Hid (∀ t ∈ us.take j, nodesE t = 0) := by
      show ∀ _, _
      intro t ht
      obtain ⟨i, hi, rfl⟩ := List.mem_iff_getElem.1 ht
      rw [List.length_take] at hi
      rw [List.getElem_take, HGET.out i (by omega) (by have := HUL.out; omega)]
      exact HVK.out i (by have := HUL.out; omega) (HOK.out i (by omega) (by have := HUL.out; omega))
    have HS1 : Hid ((nrmT ks[j]).1 = us[j]) := hgj.symm
    generalize nrmT ks[j] = S at HCC hz HS1
    obtain ⟨S1, S2⟩ := S
    simp only at hz HS1
    subst hz
    clear hvj hbj hgj hu hjk
    go_wp2_with (go_at_call 61; refine (HCC.out).mono ?_; rintro e w7 ⟨kk, kn, kt, kx, kl, kc, he, hI7, hX7⟩; simp only at he; subst he; rw [HS1.out] at hI7; have hX8 : Ext w5 (w7.alloc (.cells #[.int .i64 kk, .string kn, .int .i64 kt, .slice kx kl kc] 24)) := Ext.alloc hX7 _; have hN8 := HC.out.ext hX8; have HN9 := Lib.hid (hN8.next hlt HVT.out HU.out (Is_alloc hI7 (.cells #[.int .i64 kk, .string kn, .int .i64 kt, .slice kx kl kc] 24))); clear m0 m1 m2 m3 n0 n1 n2 n3 y0 y1 y2 y3; obtain ⟨⟨y0, y1, y2, y3⟩, _⟩ := box_facts hN8.box; obtain ⟨⟨z0, z1, z2, z3, t0, t1, t2, t3⟩, f0, f1, f2, f3⟩ := hN8.cells hlt; clear hI7 hX7 hX8 hN8)
    go_roundw
    case rel => exact ⟨j + 1, by omega, by go_num, HN9.out, HOK2⟩
    case measure => simp [intOf]; omega
theorem normal_any (m : Nat) : ∀ (t : Tm) (b o : Nat) (w : World), size t ≤ m → m ≤ 400 → gd t → Lies w t b o → Calls Tryz.prog 61 #[.pointer (some ⟨b, o, none⟩)] w (TrPost w (nrmT t)) := by
  induction m with
  | zero => intro t b o w h; have := size_pos t; omega
  | succ m ih =>
    intro t b o w hm hM hg hL
    obtain ⟨k, n, s, ks⟩ := t
    have hsk : size (.mk k n s ks) = 1 + sizes ks := rfl
    by_cases h0 : ks.length = 0
    · obtain rfl := List.length_eq_zero_iff.1 h0
      exact normal_leaf k n s b o w hg hL
    · have hk : k = 3 := by
        have h1 := (nodesE_parts hg.1).1
        rw [nodeE] at h1
        by_cases a1 : ¬ (k = 1 ∨ k = 2) ∧ ¬ k = 3
        · rw [if_pos a1] at h1; exact absurd h1 (by decide)
        rw [if_neg a1] at h1
        by_cases a2 : s < 0 ∨ 5 < s
        · rw [if_pos a2] at h1; exact absurd h1 (by decide)
        rw [if_neg a2] at h1
        by_cases a3 : (k = 1 ∨ k = 2) ∧ 0 < ks.length
        · rw [if_pos a3] at h1; exact absurd h1 (by decide)
        · omega
      subst hk
      exact normal_node n s ks _ b o w hg (by omega) hL h0 rfl fun j h b o w hLj => by
        have h2 := size_le_sizes (List.getElem_mem h)
        exact ih ks[j] b o w (by omega) (by omega) ((gd_mk hg).2.2 _ (List.getElem_mem h)) hLj
end Go.Proofs.YtbcpnepjojppaaaGreatDoor
