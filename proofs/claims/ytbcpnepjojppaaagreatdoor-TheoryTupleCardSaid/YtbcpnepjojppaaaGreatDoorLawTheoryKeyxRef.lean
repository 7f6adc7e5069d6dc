import Derived.Deep.DeepCutAuto
import Derived.Test.YtbcpnepjojppaaaGreatDoorLawTheoryKeyxCmp
import Derived.Test.YtbcpnepjojppaaaGreatDoorLawTheoryKeyxPure
namespace Go.Proofs.YtbcpnepjojppaaaGreatDoor
open Go.RowKit
theorem cmp_sz {k k' s s' : Int} {n n' : ByteArray} {ks ks' : List Tm} (h : num ((1 + sizes ks : Nat) : Int) ((1 + sizes ks' : Nat) : Int) ≠ 0) :
    cmpT (.mk k n s ks) (.mk k' n' s' ks') = num ((1 + sizes ks : Nat) : Int) ((1 + sizes ks' : Nat) : Int) := by
  simp only [cmpT, orr, if_neg h]
theorem cmp_k {k k' s s' : Int} {n n' : ByteArray} {ks ks' : List Tm} (h : num ((1 + sizes ks : Nat) : Int) ((1 + sizes ks' : Nat) : Int) = 0) (h2 : num k k' ≠ 0) :
    cmpT (.mk k n s ks) (.mk k' n' s' ks') = num k k' := by
  simp only [cmpT, orr, if_pos h, if_neg h2]
theorem cmp_n {k k' s s' : Int} {n n' : ByteArray} {ks ks' : List Tm} (h : num ((1 + sizes ks : Nat) : Int) ((1 + sizes ks' : Nat) : Int) = 0) (h2 : num k k' = 0) (h3 : str n n' ≠ 0) :
    cmpT (.mk k n s ks) (.mk k' n' s' ks') = str n n' := by
  simp only [cmpT, orr, if_pos h, if_pos h2, if_neg h3]
theorem cmp_s {k k' s s' : Int} {n n' : ByteArray} {ks ks' : List Tm} (h : num ((1 + sizes ks : Nat) : Int) ((1 + sizes ks' : Nat) : Int) = 0) (h2 : num k k' = 0) (h3 : str n n' = 0) (h4 : num s s' ≠ 0) :
    cmpT (.mk k n s ks) (.mk k' n' s' ks') = num s s' := by
  simp only [cmpT, orr, if_pos h, if_pos h2, if_pos h3, if_neg h4]
theorem cmp_l {k k' s s' : Int} {n n' : ByteArray} {ks ks' : List Tm} (h : num ((1 + sizes ks : Nat) : Int) ((1 + sizes ks' : Nat) : Int) = 0) (h2 : num k k' = 0) (h3 : str n n' = 0) (h4 : num s s' = 0) (h5 : num ks.length ks'.length ≠ 0) :
    cmpT (.mk k n s ks) (.mk k' n' s' ks') = num ks.length ks'.length := by
  simp only [cmpT, orr, if_pos h, if_pos h2, if_pos h3, if_pos h4, if_neg h5]
theorem cmp_ks {k k' s s' : Int} {n n' : ByteArray} {ks ks' : List Tm} (h : num ((1 + sizes ks : Nat) : Int) ((1 + sizes ks' : Nat) : Int) = 0) (h2 : num k k' = 0) (h3 : str n n' = 0) (h4 : num s s' = 0) (h5 : num ks.length ks'.length = 0) :
    cmpT (.mk k n s ks) (.mk k' n' s' ks') = cmpL ks ks' := by
  simp only [cmpT, orr, if_pos h, if_pos h2, if_pos h3, if_pos h4, if_pos h5]
theorem boxes_kept {w w' : World} {c0 c1 c2 c3 d0 d1 d2 d3 : Value} {T : TypeId} (hb : Below (w.heap.size + 2) ((w.alloc (.cells #[c0, c1, c2, c3] T)).alloc (.cells #[d0, d1, d2, d3] T)) w') :
    w'.cell? ⟨w.heap.size, 0, none⟩ = some c0 ∧ w'.cell? ⟨w.heap.size, 1, none⟩ = some c1 ∧ w'.cell? ⟨w.heap.size, 2, none⟩ = some c2 ∧ w'.cell? ⟨w.heap.size, 3, none⟩ = some c3 ∧
    w'.cell? ⟨w.heap.size + 1, 0, none⟩ = some d0 ∧ w'.cell? ⟨w.heap.size + 1, 1, none⟩ = some d1 ∧ w'.cell? ⟨w.heap.size + 1, 2, none⟩ = some d2 ∧ w'.cell? ⟨w.heap.size + 1, 3, none⟩ = some d3 := by
  obtain ⟨h0, h1, h2, h3⟩ := box_cells w c0 c1 c2 c3 T
  obtain ⟨k0, k1, k2, k3⟩ := box_cells (w.alloc (.cells #[c0, c1, c2, c3] T)) d0 d1 d2 d3 T
  have ka := keep_alloc (w.alloc (.cells #[c0, c1, c2, c3] T)) (.cells #[d0, d1, d2, d3] T)
  simp only [World.size_alloc] at k0 k1 k2 k3
  refine ⟨?_, ?_, ?_, ?_, ?_, ?_, ?_, ?_⟩ <;> (rw [hb.cell (by simp <;> omega)]; first | assumption | (exact ka _ _ h0) | (exact ka _ _ h1) | (exact ka _ _ h2) | (exact ka _ _ h3))
theorem below_boxes {w w' : World} {o o' : Obj} (hb : Below (w.heap.size + 2) ((w.alloc o).alloc o') w') : Below w.heap.size w w' :=
  (((Below.refl _ _).alloc (Nat.le_refl _) o).alloc (by simp) o').trans (hb.mono (by omega))
set_option maxHeartbeats 1600000 in
set_option maxRecDepth 100000 in
theorem rcompare_any (m : Nat) : ∀ (t u : Tm) (c0 c1 c2 c3 d0 d1 d2 d3 : Value) (w : World), size t ≤ m → m ≤ 4611686018427387904 → size u ≤ 4611686018427387904 → Is w t c0 c1 c2 c3 → Is w u d0 d1 d2 d3 →
    Calls Tryz.prog 64 #[.agg #[c0, c1, c2, c3], .agg #[d0, d1, d2, d3]] w fun e w' => e = .returned (.int .i64 (cmpT t u)) ∧ Below w.heap.size w w' := by
  induction m with
  | zero => intro t u c0 c1 c2 c3 d0 d1 d2 d3 w h; have := size_pos t; omega
  | succ m ih =>
    intro t u c0 c1 c2 c3 d0 d1 d2 d3 w hm hM hU hI hJ
    have hs1 := rsize_any (m + 1) t c0 c1 c2 c3
    have hs2 := rsize_any 4611686018427387904 u d0 d1 d2 d3
    have HS := Lib.hid (And.intro hs1 hs2)
    have HIJ := Lib.hid (And.intro hI hJ)
    obtain ⟨k, n, s, ks⟩ := t
    obtain ⟨k', n', s', ks'⟩ := u
    simp only [Is] at hI hJ
    obtain ⟨rfl, rfl, rfl, _, _, _, hl, xa, cap, rfl, hcap, hR⟩ := hI
    obtain ⟨rfl, rfl, rfl, _, _, _, hl', xa', cap', rfl, hcap', hR'⟩ := hJ
    unfold maxLen at hl hl'
    have hsk : size (.mk k n s ks) = 1 + sizes ks := rfl
    have hsk' : size (.mk k' n' s' ks') = 1 + sizes ks' := rfl
    have hm2 : sizes ks ≤ m := by omega
    have hm2' : sizes ks' < 4611686018427387904 := by omega
    rw [hsk] at HS hm; rw [hsk'] at HS hU
    clear hsk hsk' hs1 hs2
    go_enter Tryz.func64, Tryz.ntmps64
    go_wp2_with fail
    go_cut [5] (fun c wc => c = .int .i64 (num ((1 + sizes ks : Nat) : Int) ((1 + sizes ks' : Nat) : Int)) ∧ Below (w.heap.size + 2) ((w.alloc (.cells #[.int .i64 k, .string n, .int .i64 s, .slice xa ks.length cap] 24)).alloc (.cells #[.int .i64 k', .string n', .int .i64 s', .slice xa' ks'.length cap'] 24)) wc)
    case first =>
      have hB0 : Below (w.heap.size + 2) ((w.alloc (.cells #[.int .i64 k, .string n, .int .i64 s, .slice xa ks.length cap] 24)).alloc (.cells #[.int .i64 k', .string n', .int .i64 s', .slice xa' ks'.length cap'] 24)) ((w.alloc (.cells #[.int .i64 k, .string n, .int .i64 s, .slice xa ks.length cap] 24)).alloc (.cells #[.int .i64 k', .string n', .int .i64 s', .slice xa' ks'.length cap'] 24)).drew := (Below.refl _ _).drew
      clear ih hR hR'
      go_region_held3 (fun W => W.cell? ⟨w.heap.size, 0, none⟩ = some (.int .i64 k) ∧ W.cell? ⟨w.heap.size, 1, none⟩ = some (.string n) ∧ W.cell? ⟨w.heap.size, 2, none⟩ = some (.int .i64 s) ∧ W.cell? ⟨w.heap.size, 3, none⟩ = some (.slice xa ks.length cap) ∧
          W.cell? ⟨w.heap.size + 1, 0, none⟩ = some (.int .i64 k') ∧ W.cell? ⟨w.heap.size + 1, 1, none⟩ = some (.string n') ∧ W.cell? ⟨w.heap.size + 1, 2, none⟩ = some (.int .i64 s') ∧ W.cell? ⟨w.heap.size + 1, 3, none⟩ = some (.slice xa' ks'.length cap'))
        (first | exact boxes_kept (by assumption))
        (first
          | (go_at_call_of 83 xa; refine (HS.out.1 _ (by omega) (by omega) (Is_below HIJ.out.1 (below_boxes hB0))).mono ?_; rintro e w1 ⟨rfl, hB1⟩; have hB2 := hB0.trans (hB1.mono (by simp)))
          | (go_at_call_of 83 xa'; refine (HS.out.2 _ (by omega) (by omega) (Is_below HIJ.out.2 (below_boxes hB2))).mono ?_; rintro e w2 ⟨rfl, hB3⟩; have hB4 := hB2.trans (hB3.mono (by have := hB2.size; simpa using this)))
          | (go_at_call 93; refine (number_any _ _ _).mono ?_; rintro e w3 ⟨rfl, rfl⟩))
      go_wp2_with fail
      go_meet
      exact ⟨by simp, hB4⟩
    case rest =>
      obtain ⟨rfl, hB⟩ := hcut
      obtain ⟨b0, b1, b2, b3, e0, e1, e2, e3⟩ := boxes_kept hB
      have hfin := below_boxes hB
      clear HS HIJ
      generalize hz : num ((1 + sizes ks : Nat) : Int) ((1 + sizes ks' : Nat) : Int) = z
      by_cases h1 : z = 0
      rotate_left
      · have HC : Hid (cmpT (.mk k n s ks) (.mk k' n' s' ks') = z) := by show _ = _; rw [← hz] at h1 ⊢; exact cmp_sz h1
        have hb1 : (z != 0) = true := by simp [h1]
        clear h1 hz ih
        go_wp2_with fail
        go_ret
        exact ⟨by rw [HC.out]; rfl, hfin⟩
      subst h1
      by_cases h2 : num k k' = 0
      rotate_left
      · have HC : Hid (cmpT (.mk k n s ks) (.mk k' n' s' ks') = num k k') := cmp_k hz h2
        have hb1 : (num k k' != 0) = true := by simp [h2]
        clear h2 hz ih
        go_wp2_with (go_at_call 93; refine (number_any _ _ _).mono ?_; rintro e w3 ⟨rfl, rfl⟩)
        go_ret
        exact ⟨by rw [HC.out]; rfl, hfin⟩
      have hb2 : (num k k' != 0) = false := by simp [h2]
      have hl1 := str_less n n'
      have hg1 := str_gtr n n'
      rcases str_range n n' with h3 | h3 | h3
      · have HC : Hid (cmpT (.mk k n s ks) (.mk k' n' s' ks') = -1) := by show _ = _; rw [cmp_n hz h2 (by omega), h3]
        rw [h3] at hl1 hg1
        have hb3 : Op.bytesLess n.toList n'.toList = true := by rw [hl1]; rfl
        clear hl1 hg1 h2 h3 hz ih
        go_wp2_with (go_at_call 93; refine (number_any _ _ _).mono ?_; rintro e w3 ⟨rfl, rfl⟩)
        go_ret
        exact ⟨by rw [HC.out]; rfl, hfin⟩
      rotate_left
      · have HC : Hid (cmpT (.mk k n s ks) (.mk k' n' s' ks') = 1) := by show _ = _; rw [cmp_n hz h2 (by omega), h3]
        rw [h3] at hl1 hg1
        have hb3 : Op.bytesLess n.toList n'.toList = false := by rw [hl1]; rfl
        have hb4 : (n.toList == n'.toList) = false := by rw [hb3] at hg1; simpa using hg1
        clear hl1 hg1 h2 h3 hz ih
        go_wp2_with (go_at_call 93; refine (number_any _ _ _).mono ?_; rintro e w3 ⟨rfl, rfl⟩)
        go_ret
        exact ⟨by rw [HC.out]; rfl, hfin⟩
      have hb3 : Op.bytesLess n.toList n'.toList = false := by rw [hl1, h3]; rfl
      have hb4 : (n.toList == n'.toList) = true := by rw [h3, hb3] at hg1; simpa using hg1
      clear hl1 hg1
      by_cases h4 : num s s' = 0
      rotate_left
      · have HC : Hid (cmpT (.mk k n s ks) (.mk k' n' s' ks') = num s s') := cmp_s hz h2 h3 h4
        have hb5 : (num s s' != 0) = true := by simp [h4]
        clear h2 h3 h4 hz ih
        go_wp2_with (go_at_call 93; refine (number_any _ _ _).mono ?_; rintro e w3 ⟨rfl, rfl⟩)
        go_ret
        exact ⟨by rw [HC.out]; rfl, hfin⟩
      have hb5 : (num s s' != 0) = false := by simp [h4]
      by_cases h5 : num ks.length ks'.length = 0
      rotate_left
      · have HC : Hid (cmpT (.mk k n s ks) (.mk k' n' s' ks') = num ks.length ks'.length) := cmp_l hz h2 h3 h4 h5
        have hb6 : (num ks.length ks'.length != 0) = true := by simp [h5]
        clear h2 h3 h4 h5 hz ih
        go_wp2_with (go_at_call 93; refine (number_any _ _ _).mono ?_; rintro e w3 ⟨rfl, rfl⟩)
        go_ret
        exact ⟨by rw [HC.out]; rfl, hfin⟩
      have hb6 : (num ks.length ks'.length != 0) = false := by simp [h5]
      have HL : Hid (ks.length = ks'.length) := by show _ = _; have := num_zero h5; omega
      have HC : Hid (cmpT (.mk k n s ks) (.mk k' n' s' ks') = cmpL ks ks') := cmp_ks hz h2 h3 h4 h5
      clear h2 h3 h4 h5 hz
      go_wp2_with (go_at_call 93; refine (number_any _ _ _).mono ?_; rintro e w3 ⟨rfl, rfl⟩)
      have hBd : wc = wc := rfl
      clear hBd b0 b1 b2 b3 e0 e1 e2 e3 hfin
      go_loopw [9] (fun i wr => ∃ j : Nat, j ≤ ks.length ∧ i = .int .i64 j ∧ Hid (cmpL ks ks' = cmpL (ks.drop j) (ks'.drop j)) ∧ Below (w.heap.size + 2) ((w.alloc (.cells #[.int .i64 k, .string n, .int .i64 s, .slice xa ks.length cap] 24)).alloc (.cells #[.int .i64 k', .string n', .int .i64 s', .slice xa' ks'.length cap'] 24)) wr) (fun i _ => ks.length - (intOf i).toNat)
      case atStart => exact ⟨0, Nat.zero_le _, rfl, rfl, hB⟩
      case round =>
        obtain ⟨j, hj, rfl, HD, hBr⟩ := hrel
        have hk := boxes_kept hBr
        have g3 := hk.2.2.2.1
        have h3 := hk.2.2.2.2.2.2.2
        clear hk
        by_cases hlt : j < ks.length
        · have hlt' : j < ks'.length := by have := HL.out; omega
          obtain ⟨kb, ko, rfl⟩ := Row_at hR (by omega)
          obtain ⟨kb', ko', rfl⟩ := Row_at hR' (by omega)
          obtain ⟨x0, x1, x2, x3, p0, p1, p2, p3, hKI⟩ := Row_get (Row_below hR (below_boxes hBr)) j hlt
          obtain ⟨y0, y1, y2, y3, q0, q1, q2, q3, hKI'⟩ := Row_get (Row_below hR' (below_boxes hBr)) j hlt'
          have hd := cmpL_drop ks ks' j hlt hlt'
          have hsz := sizes_take ks j hlt
          have hsz' := sizes_take ks' j hlt'
          have hq := sizes_take_le ks (j + 1)
          have hq' := sizes_take_le ks' (j + 1)
          have hsz1 : size ks[j] ≤ m := by omega
          have hsz1' : size ks'[j] ≤ 4611686018427387904 := by omega
          have HIH := Lib.hid (ih ks[j] ks'[j] x0 x1 x2 x3 y0 y1 y2 y3)
          have i1 : (0 : Int) ≤ (j : Int) := by omega
          have i2 : (j : Int) < (ks.length : Int) := by omega
          have i3 : (j : Int) < (ks'.length : Int) := by omega
          have HI := Lib.hid (And.intro hKI hKI')
          generalize hcv : cmpT ks[j] ks'[j] = cv at hd HIH
          have HD2 := Lib.hid hd
          clear hsz hsz' hq hq' hd ih hcv hKI hKI'
          have hw2 : w.heap.size ≤ wr.heap.size := (below_boxes hBr).size
          go_wp2_with fail
          go_region_held3 (fun W => W.cell? ⟨w.heap.size, 3, none⟩ = some (.slice (some ⟨kb, ko, none⟩) ks.length cap) ∧ W.cell? ⟨w.heap.size + 1, 3, none⟩ = some (.slice (some ⟨kb', ko', none⟩) ks'.length cap') ∧
              W.cell? ⟨kb, ko + j * 4, none⟩ = some x0 ∧ W.cell? ⟨kb, ko + j * 4 + 1, none⟩ = some x1 ∧ W.cell? ⟨kb, ko + j * 4 + 2, none⟩ = some x2 ∧ W.cell? ⟨kb, ko + j * 4 + 3, none⟩ = some x3 ∧
              W.cell? ⟨kb', ko' + j * 4, none⟩ = some y0 ∧ W.cell? ⟨kb', ko' + j * 4 + 1, none⟩ = some y1 ∧ W.cell? ⟨kb', ko' + j * 4 + 2, none⟩ = some y2 ∧ W.cell? ⟨kb', ko' + j * 4 + 3, none⟩ = some y3)
            (first | exact ⟨g3, h3, p0, p1, p2, p3, q0, q1, q2, q3⟩ | exact HK2)
            (first
              | (go_at_call 64; refine (HIH.out _ (by omega) (by omega) (by omega) (Is_carry (keep_drew _) _ _ _ _ _ HI.out.1) (Is_carry (keep_drew _) _ _ _ _ _ HI.out.2)).mono ?_; rintro e w2 ⟨rfl, hB2⟩; have hB3 := hBr.drew.trans (hB2.mono (by have := hBr.size; simpa using this));
                 have hkb := keep_below (w := wr.drew) (w' := w2) hB2; have HK2 := And.intro (hkb _ _ g3) (And.intro (hkb _ _ h3) (And.intro (hkb _ _ p0) (And.intro (hkb _ _ p1) (And.intro (hkb _ _ p2) (And.intro (hkb _ _ p3) (And.intro (hkb _ _ q0) (And.intro (hkb _ _ q1) (And.intro (hkb _ _ q2) (hkb _ _ q3)))))))))))
          by_cases hc : cv = 0
          · have hb7 : (cv != 0) = false := by simp [hc]
            have HD3 : Hid (cmpL ks ks' = cmpL (ks.drop (j + 1)) (ks'.drop (j + 1))) := by show _ = _; rw [HD.out, HD2.out, orr, if_pos hc]
            clear hc
            go_wp2_with fail
            go_roundw
            case rel => exact ⟨j + 1, by omega, by go_num, HD3, hB3⟩
            case measure => simp [intOf]; omega
          · have hb7 : (cv != 0) = true := by simp [hc]
            have HD3 : Hid (cmpL ks ks' = cv) := by show _ = _; rw [HD.out, HD2.out, orr, if_neg hc]
            clear hc
            go_wp2_with fail
            go_ret
            exact ⟨by rw [HC.out, HD3.out]; rfl, below_boxes hB3⟩
        · have hjl : ks.drop j = [] := List.drop_eq_nil_of_le (by omega)
          have HD3 : Hid (cmpL ks ks' = 0) := by show _ = _; rw [HD.out, hjl]; simp [cmpL]
          clear hjl
          go_wp2_with fail
          go_ret
          exact ⟨by rw [HC.out, HD3.out]; rfl, below_boxes hBr⟩
end Go.Proofs.YtbcpnepjojppaaaGreatDoor
namespace Go.Proofs.YtbcpnepjojppaaaGreatDoor
open Go.RowKit
set_option maxHeartbeats 400000 in
theorem same_any (t u : Tm) (c0 c1 c2 c3 d0 d1 d2 d3 : Value) (w : World) (ht : size t ≤ 4611686018427387904) (hu : size u ≤ 4611686018427387904) (hI : Is w t c0 c1 c2 c3) (hJ : Is w u d0 d1 d2 d3) :
    Calls Tryz.prog 22 #[.agg #[c0, c1, c2, c3], .agg #[d0, d1, d2, d3]] w fun e w' => e = .returned (.bool (cmpT t u == 0)) ∧ Below w.heap.size w w' := by
  have h0 := boxes_kept (Below.refl (w.heap.size + 2) ((w.alloc (.cells #[c0, c1, c2, c3] 24)).alloc (.cells #[d0, d1, d2, d3] 24)))
  obtain ⟨b0, b1, b2, b3, e0, e1, e2, e3⟩ := h0
  have hb := below_boxes (Below.refl (w.heap.size + 2) ((w.alloc (.cells #[c0, c1, c2, c3] 24)).alloc (.cells #[d0, d1, d2, d3] 24)))
  have HC := Lib.hid (rcompare_any _ t u c0 c1 c2 c3 d0 d1 d2 d3 _ (Nat.le_refl _) ht hu (Is_below hI hb) (Is_below hJ hb))
  clear hI hJ
  go_enter Tryz.func22, Tryz.ntmps22
  go_wp2_with (go_at_call 64; refine (HC.out).mono ?_; rintro e w' ⟨rfl, hB⟩)
  go_ret
  exact ⟨rfl, hb.trans (hB.mono (by have := hb.size; simpa using this))⟩
set_option maxHeartbeats 1600000 in
set_option maxRecDepth 100000 in
theorem lists_any (l m : List Tm) (xa xa' : Option Addr) (cap cap' : Nat) (w : World) (hl : l.length ≤ maxLen) (hl' : m.length ≤ maxLen) (hs : sizes l ≤ 4611686018427387904) (hs' : sizes m ≤ 4611686018427387904) (hR : Row w l xa) (hR' : Row w m xa') :
    Calls Tryz.prog 43 #[.slice xa l.length cap, .slice xa' m.length cap'] w fun e w' => e = .returned (.bool (listsEq l m)) ∧ Below w.heap.size w w' := by
  unfold maxLen at hl hl'
  by_cases hlen : l.length = m.length
  rotate_left
  · have HF : Hid (listsEq l m = false) := by show _ = _; simp [listsEq, hlen]
    have hb : ((l.length : Int) != (m.length : Int)) = true := by simp; omega
    clear hlen
    go_enter Tryz.func43, Tryz.ntmps43
    go_wp2_with fail
    go_ret
    exact ⟨by rw [HF.out]; rfl, Below.refl _ _⟩
  have HF : Hid (listsEq l m = (cmpL l m == 0)) := by show _ = _; simp [listsEq, hlen]
  have HL : Hid (l.length = m.length) := hlen
  have hb : ((l.length : Int) != (m.length : Int)) = false := by simp; omega
  clear hlen
  go_enter Tryz.func43, Tryz.ntmps43
  go_wp2_with fail
  go_loopw [5] (fun i wr => ∃ j : Nat, j ≤ l.length ∧ i = .int .i64 j ∧ Hid (cmpL l m = cmpL (l.drop j) (m.drop j)) ∧ Below w.heap.size w wr) (fun i _ => l.length - (intOf i).toNat)
  case atStart => exact ⟨0, Nat.zero_le _, rfl, rfl, Below.refl _ _⟩
  case round =>
    obtain ⟨j, hj, rfl, HD, hBr⟩ := hrel
    by_cases hlt : j < l.length
    · have hlt' : j < m.length := by have := HL.out; omega
      obtain ⟨kb, ko, rfl⟩ := Row_at hR (by omega)
      obtain ⟨kb', ko', rfl⟩ := Row_at hR' (by omega)
      obtain ⟨x0, x1, x2, x3, p0, p1, p2, p3, hKI⟩ := Row_get (Row_below hR hBr) j hlt
      obtain ⟨y0, y1, y2, y3, q0, q1, q2, q3, hKI'⟩ := Row_get (Row_below hR' hBr) j hlt'
      have hd := cmpL_drop l m j hlt hlt'
      have hsz := sizes_take l j hlt
      have hsz' := sizes_take m j hlt'
      have hq := sizes_take_le l (j + 1)
      have hq' := sizes_take_le m (j + 1)
      have hsz1 : size l[j] ≤ 4611686018427387904 := by omega
      have hsz1' : size m[j] ≤ 4611686018427387904 := by omega
      have HIH := Lib.hid (same_any l[j] m[j] x0 x1 x2 x3 y0 y1 y2 y3)
      have i1 : (0 : Int) ≤ (j : Int) := by omega
      have i2 : (j : Int) < (l.length : Int) := by omega
      have i3 : (j : Int) < (m.length : Int) := by omega
      have HI := Lib.hid (And.intro hKI hKI')
      generalize hcv : cmpT l[j] m[j] = cv at hd HIH
      have HD2 := Lib.hid hd
      clear hsz hsz' hq hq' hd hcv hKI hKI'
      have hw2 : w.heap.size ≤ wr.heap.size := hBr.size
      by_cases hc : cv = 0
      · have hb7 : (cv == 0) = true := by simp [hc]
        rw [hb7] at HIH
        have HD3 : Hid (cmpL l m = cmpL (l.drop (j + 1)) (m.drop (j + 1))) := by show _ = _; rw [HD.out, HD2.out, orr, if_pos hc]
        clear hc hb7
        go_wp2_with fail
        go_region_held3 (fun W => W.cell? ⟨kb, ko + j * 4, none⟩ = some x0 ∧ W.cell? ⟨kb, ko + j * 4 + 1, none⟩ = some x1 ∧ W.cell? ⟨kb, ko + j * 4 + 2, none⟩ = some x2 ∧ W.cell? ⟨kb, ko + j * 4 + 3, none⟩ = some x3 ∧
            W.cell? ⟨kb', ko' + j * 4, none⟩ = some y0 ∧ W.cell? ⟨kb', ko' + j * 4 + 1, none⟩ = some y1 ∧ W.cell? ⟨kb', ko' + j * 4 + 2, none⟩ = some y2 ∧ W.cell? ⟨kb', ko' + j * 4 + 3, none⟩ = some y3)
          (first | exact ⟨p0, p1, p2, p3, q0, q1, q2, q3⟩ | exact HK2)
          (first
            | (go_at_call 22; refine (HIH.out _ (by omega) (by omega) (Is_carry (keep_drew _) _ _ _ _ _ HI.out.1) (Is_carry (keep_drew _) _ _ _ _ _ HI.out.2)).mono ?_; rintro e w2 ⟨rfl, hB2⟩; have hB3 := hBr.drew.trans (hB2.mono (by have := hBr.size; simpa using this));
               have hkb := keep_below (w := wr.drew) (w' := w2) hB2; have HK2 := And.intro (hkb _ _ p0) (And.intro (hkb _ _ p1) (And.intro (hkb _ _ p2) (And.intro (hkb _ _ p3) (And.intro (hkb _ _ q0) (And.intro (hkb _ _ q1) (And.intro (hkb _ _ q2) (hkb _ _ q3)))))))))
        go_wp2_with fail
        go_roundw
        case rel => exact ⟨j + 1, by omega, by go_num, HD3, hB3⟩
        case measure => simp [intOf]; omega
      · have hb7 : (cv == 0) = false := by simp [hc]
        rw [hb7] at HIH
        have HD3 : Hid ((cmpL l m == 0) = false) := by show _ = _; rw [HD.out, HD2.out, orr, if_neg hc, hb7]
        clear hc hb7
        go_wp2_with fail
        go_region_held3 (fun W => W.cell? ⟨kb, ko + j * 4, none⟩ = some x0 ∧ W.cell? ⟨kb, ko + j * 4 + 1, none⟩ = some x1 ∧ W.cell? ⟨kb, ko + j * 4 + 2, none⟩ = some x2 ∧ W.cell? ⟨kb, ko + j * 4 + 3, none⟩ = some x3 ∧
            W.cell? ⟨kb', ko' + j * 4, none⟩ = some y0 ∧ W.cell? ⟨kb', ko' + j * 4 + 1, none⟩ = some y1 ∧ W.cell? ⟨kb', ko' + j * 4 + 2, none⟩ = some y2 ∧ W.cell? ⟨kb', ko' + j * 4 + 3, none⟩ = some y3)
          (first | exact ⟨p0, p1, p2, p3, q0, q1, q2, q3⟩ | exact HK2)
          (first
            | (go_at_call 22; refine (HIH.out _ (by omega) (by omega) (Is_carry (keep_drew _) _ _ _ _ _ HI.out.1) (Is_carry (keep_drew _) _ _ _ _ _ HI.out.2)).mono ?_; rintro e w2 ⟨rfl, hB2⟩; have hB3 := hBr.drew.trans (hB2.mono (by have := hBr.size; simpa using this));
               have hkb := keep_below (w := wr.drew) (w' := w2) hB2; have HK2 := And.intro (hkb _ _ p0) (And.intro (hkb _ _ p1) (And.intro (hkb _ _ p2) (And.intro (hkb _ _ p3) (And.intro (hkb _ _ q0) (And.intro (hkb _ _ q1) (And.intro (hkb _ _ q2) (hkb _ _ q3)))))))))
        go_wp2_with fail
        go_ret
        exact ⟨by rw [HF.out, HD3.out]; rfl, hB3⟩
    · have hjl : l.drop j = [] := List.drop_eq_nil_of_le (by omega)
      have HD3 : Hid (cmpL l m = 0) := by show _ = _; rw [HD.out, hjl]; simp [cmpL]
      clear hjl
      go_wp2_with fail
      go_ret
      exact ⟨by rw [HF.out, HD3.out]; rfl, hBr⟩
set_option maxHeartbeats 800000 in
theorem budget_any (m : Nat) : ∀ (t : Tm) (c0 c1 c2 c3 : Value) (most : Int) (w : World), most ≤ m → m ≤ 4611686018427387904 → -9223372036854775808 ≤ most → Is w t c0 c1 c2 c3 →
    Calls Tryz.prog 74 #[.agg #[c0, c1, c2, c3], .int .i64 most] w fun e w' => e = .returned (.int .i64 (bud t most)) ∧ Below w.heap.size w w' := by
  induction m with
  | zero =>
    intro t c0 c1 c2 c3 most w h hM hlo hI
    have HB : Hid (bud t most = -1) := by show _ = _; cases t; simp only [bud]; rw [if_pos (by omega)]
    have h' : most ≤ 0 := by omega
    have hb := below_box (Below.refl (w.heap.size + 1) (w.alloc (.cells #[c0, c1, c2, c3] 24)))
    go_enter Tryz.func74, Tryz.ntmps74
    go_wp2_with fail
    go_ret
    exact ⟨by rw [HB.out]; rfl, hb⟩
  | succ m ih =>
    intro t c0 c1 c2 c3 most w h hM hlo hI
    have hb := below_box (Below.refl (w.heap.size + 1) (w.alloc (.cells #[c0, c1, c2, c3] 24)))
    by_cases h0 : most ≤ 0
    · have HB : Hid (bud t most = -1) := by show _ = _; cases t; simp only [bud]; rw [if_pos (by omega)]
      clear ih hI
      go_enter Tryz.func74, Tryz.ntmps74
      go_wp2_with fail
      go_ret
      exact ⟨by rw [HB.out]; rfl, hb⟩
    obtain ⟨k, n, s, ks⟩ := t
    simp only [Is] at hI
    obtain ⟨rfl, rfl, rfl, _, _, hn, hl, xa, cap, rfl, hcap, hR⟩ := hI
    unfold maxLen at hl hn
    by_cases h1 : 40 < (n.size : Int)
    · have HB : Hid (bud (.mk k n s ks) most = -1) := by show _ = _; simp only [bud]; rw [if_neg h0, if_pos h1]
      clear ih hR
      go_enter Tryz.func74, Tryz.ntmps74
      go_wp2_with fail
      go_ret
      exact ⟨by rw [HB.out]; rfl, hb⟩
    have HB : Hid (bud (.mk k n s ks) most = budL ks (most - 1)) := by show _ = _; simp only [bud]; rw [if_neg h0, if_neg h1]
    go_enter Tryz.func74, Tryz.ntmps74
    go_wp2_with fail
    go_loopw [1, 5] (fun mo i wr => ∃ (j : Nat) (r : Int), j ≤ ks.length ∧ i = .int .i64 j ∧ mo = .int .i64 r ∧ -1 ≤ r ∧ r ≤ m ∧ Hid (budL ks (most - 1) = budL (ks.drop j) r) ∧ Below (w.heap.size + 1) (w.alloc (.cells #[.int .i64 k, .string n, .int .i64 s, .slice xa ks.length cap] 24)) wr) (fun _ i _ => ks.length - (intOf i).toNat)
    case atStart => exact ⟨0, most - 1, Nat.zero_le _, rfl, rfl, by omega, by omega, rfl, Below.refl _ _⟩
    case round =>
      obtain ⟨j, r, hj, rfl, rfl, hr1, hr2, HD, hBr⟩ := hrel
      obtain ⟨_, _, _, g3⟩ := box_kept hBr
      by_cases hlt : j < ks.length
      · obtain ⟨kb, ko, rfl⟩ := Row_at hR (by omega)
        obtain ⟨x0, x1, x2, x3, p0, p1, p2, p3, hKI⟩ := Row_get (Row_below hR (below_box hBr)) j hlt
        have hd := budL_drop ks j hlt r
        have hrg := bud_range ks[j] r
        have HIH := Lib.hid (ih ks[j] x0 x1 x2 x3 r wr)
        generalize hcv : bud ks[j] r = cv at hd HIH hrg
        have HD2 := Lib.hid hd
        have hc1 : -1 ≤ cv := hrg.1
        have hc2 : cv ≤ m := by omega
        clear hd hcv ih hrg
        by_cases hc : cv < 0
        · have HD3 : Hid (budL ks (most - 1) = -1) := by show _ = _; rw [HD.out, HD2.out, if_pos hc]
          go_wp2_with (go_at_call 74; refine (HIH.out (by omega) (by omega) (by omega) hKI).mono ?_; rintro e w2 ⟨rfl, hB2⟩)
          go_ret
          exact ⟨by rw [HB.out, HD3.out]; rfl, below_box (hBr.trans (hB2.mono (by have := hBr.size; simpa using this)))⟩
        · have HD3 : Hid (budL ks (most - 1) = budL (ks.drop (j + 1)) cv) := by show _ = _; rw [HD.out, HD2.out, if_neg hc]
          go_wp2_with (go_at_call 74; refine (HIH.out (by omega) (by omega) (by omega) hKI).mono ?_; rintro e w2 ⟨rfl, hB2⟩)
          go_roundw
          case rel => exact ⟨j + 1, cv, by omega, by go_num, rfl, by omega, by omega, HD3, hBr.trans (hB2.mono (by have := hBr.size; simpa using this))⟩
          case measure => simp [intOf]; omega
      · have hjl : ks.drop j = [] := List.drop_eq_nil_of_le (by omega)
        have HD3 : Hid (budL ks (most - 1) = r) := by show _ = _; rw [HD.out, hjl]; rfl
        clear hjl
        go_wp2_with fail
        go_ret
        exact ⟨by rw [HB.out, HD3.out]; rfl, below_box hBr⟩
end Go.Proofs.YtbcpnepjojppaaaGreatDoor
namespace Go.Proofs.YtbcpnepjojppaaaGreatDoor
open Go.RowKit
set_option maxHeartbeats 800000 in
theorem few_any (l : List Tm) (xa : Option Addr) (cap : Nat) (n most : Int) (w : World) (hl : l.length ≤ maxLen) (h1 : most ≤ 4611686018427387904) (h2 : -9223372036854775808 ≤ most) (hR : Row w l xa) :
    Calls Tryz.prog 46 #[.slice xa l.length cap, .int .i64 n, .int .i64 most] w fun e w' => e = .returned (.bool (few l n most)) ∧ Below w.heap.size w w' := by
  unfold maxLen at hl
  by_cases hn : n < (l.length : Int)
  · have HF : Hid (few l n most = false) := by show _ = _; simp [few, hn]
    go_enter Tryz.func46, Tryz.ntmps46
    go_wp2_with fail
    go_ret
    exact ⟨by rw [HF.out]; rfl, Below.refl _ _⟩
  have HF : Hid (few l n most = fewL l most) := by show _ = _; simp only [few]; rw [if_neg hn]
  go_enter Tryz.func46, Tryz.ntmps46
  go_wp2_with fail
  go_loopw [2, 7] (fun mo i wr => ∃ (j : Nat) (r : Int), j ≤ l.length ∧ i = .int .i64 j ∧ mo = .int .i64 r ∧ -9223372036854775808 ≤ r ∧ r ≤ 4611686018427387904 ∧ Hid (fewL l most = fewL (l.drop j) r) ∧ Below w.heap.size w wr) (fun _ i _ => l.length - (intOf i).toNat)
  case atStart => exact ⟨0, most, Nat.zero_le _, rfl, rfl, h2, h1, rfl, Below.refl _ _⟩
  case round =>
    obtain ⟨j, r, hj, rfl, rfl, hr1, hr2, HD, hBr⟩ := hrel
    by_cases hlt : j < l.length
    · obtain ⟨kb, ko, rfl⟩ := Row_at hR (by omega)
      obtain ⟨x0, x1, x2, x3, p0, p1, p2, p3, hKI⟩ := Row_get (Row_below hR hBr) j hlt
      have hd := fewL_drop l j hlt r
      have hrg := bud_range l[j] r
      have HIH := Lib.hid (budget_any 4611686018427387904 l[j] x0 x1 x2 x3 r wr)
      generalize hcv : bud l[j] r = cv at hd HIH hrg
      have HD2 := Lib.hid hd
      have hc1 : -1 ≤ cv := hrg.1
      have hc2 : cv ≤ 4611686018427387904 := by omega
      clear hd hcv hrg
      by_cases hc : cv < 0
      · have HD3 : Hid (fewL l most = false) := by show _ = _; rw [HD.out, HD2.out, if_pos hc]
        go_wp2_with (go_at_call 74; refine (HIH.out (by omega) (by omega) (by omega) hKI).mono ?_; rintro e w2 ⟨rfl, hB2⟩)
        go_ret
        exact ⟨by rw [HF.out, HD3.out]; rfl, hBr.trans (hB2.mono hBr.size)⟩
      · have HD3 : Hid (fewL l most = fewL (l.drop (j + 1)) cv) := by show _ = _; rw [HD.out, HD2.out, if_neg hc]
        go_wp2_with (go_at_call 74; refine (HIH.out (by omega) (by omega) (by omega) hKI).mono ?_; rintro e w2 ⟨rfl, hB2⟩)
        go_roundw
        case rel => exact ⟨j + 1, cv, by omega, by go_num, rfl, by omega, by omega, HD3, hBr.trans (hB2.mono hBr.size)⟩
        case measure => simp [intOf]; omega
    · have hjl : l.drop j = [] := List.drop_eq_nil_of_le (by omega)
      have HD3 : Hid (fewL l most = true) := by show _ = _; rw [HD.out, hjl]; rfl
      clear hjl
      go_wp2_with fail
      go_ret
      exact ⟨by rw [HF.out, HD3.out]; rfl, hBr⟩
end Go.Proofs.YtbcpnepjojppaaaGreatDoor
