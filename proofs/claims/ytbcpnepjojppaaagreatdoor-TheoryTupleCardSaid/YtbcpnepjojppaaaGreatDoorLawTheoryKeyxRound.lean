import Derived.BigQuiet
import Derived.Deep.RegionHeld3
import Derived.Test.YtbcpnepjojppaaaGreatDoorLawTheoryKeyxMem
import Derived.Test.YtbcpnepjojppaaaGreatDoorLawTheoryKeyxNodes
import Derived.Test.YtbcpnepjojppaaaGreatDoorLawTheoryKeyxPos
import Derived.Test.YtbcpnepjojppaaaGreatDoorLawTheoryKeyxRef
import Derived.Test.YtbcpnepjojppaaaGreatDoorLawTheoryKeyxValid
import Derived.Test.YtbcpnepjojppaaaGreatDoorLawTheoryKeyxYtab
namespace Go.Proofs.YtbcpnepjojppaaaGreatDoor
open Go.RowKit
end Go.Proofs.YtbcpnepjojppaaaGreatDoor
namespace Go.Proofs.YtbcpnepjojppaaaGreatDoor
open Go.RowKit
theorem nodesE_mk (k : Int) (n : ByteArray) (s : Int) (ks : List Tm) : nodesE (.mk k n s ks) = if nodeE (.mk k n s ks) = 0 then nodesL ks else nodeE (.mk k n s ks) := by rw [nodesE]
set_option maxHeartbeats 1600000 in
set_option maxRecDepth 100000 in
theorem rnodes_any (m : Nat) : ∀ (t : Tm) (c0 c1 c2 c3 : Value) (w : World), size t ≤ m → m ≤ 1073741824 → Is w t c0 c1 c2 c3 →
    Calls Tryz.prog 82 #[.agg #[c0, c1, c2, c3]] w fun e w' => e = .returned (.int .i64 (nodesE t)) ∧ Below w.heap.size w w' := by
  induction m with
  | zero => intro t c0 c1 c2 c3 w h; have := size_pos t; omega
  | succ m ih =>
    intro t c0 c1 c2 c3 w hm hM hI
    obtain ⟨k, n, s, ks⟩ := t
    have hsk : size (.mk k n s ks) = 1 + sizes ks := rfl
    rw [hsk] at hm
    have hE := nodesE_mk k n s ks
    have HN := Lib.hid (rnode_any (.mk k n s ks) c0 c1 c2 c3 _ (Is_alloc hI (.cells #[c0, c1, c2, c3] 24)))
    simp only [Is] at hI
    obtain ⟨rfl, rfl, rfl, _, _, _, hkl, xa, cap, rfl, hcap, hR⟩ := hI
    unfold maxLen at hkl
    have hkl2 := length_le_sizes ks
    have HR := Lib.hid hR
    have HB0 : Hid (Below (w.heap.size + 1) (w.alloc (.cells #[.int .i64 k, .string n, .int .i64 s, .slice xa ks.length cap] 24)) (w.alloc (.cells #[.int .i64 k, .string n, .int .i64 s, .slice xa ks.length cap] 24))) := Lib.hid (Below.refl _ _)
    generalize hx : nodeE (.mk k n s ks) = x at hE HN
    have HIH := Lib.hid ih
    clear hR hsk ih hx
    by_cases hz : x = 0
    rotate_left
    · have H : Hid (nodesE (.mk k n s ks) = x) := by show _ = _; rw [hE, if_neg hz]
      have hb : (x != 0) = true := by simp [hz]
      clear hE hz
      go_enter Tryz.func82, Tryz.ntmps82
      go_wp2_with (go_at_call 108; refine (HN.out).mono ?_; rintro e w1 ⟨he, hB⟩; subst he; have HB := Lib.hid (below_box (by simpa using hB)); clear hB)
      go_ret
      exact ⟨by rw [H.out]; rfl, HB.out⟩
    have H : Hid (nodesE (.mk k n s ks) = nodesL ks) := by show _ = _; rw [hE, if_pos hz]
    subst hz
    clear hE
    go_enter Tryz.func82, Tryz.ntmps82
    go_wp2_with (go_at_call 108; refine (HN.out).mono ?_; rintro e w1 ⟨he, hB⟩; subst he; have HB1 : Hid (Below (w.heap.size + 1) (w.alloc (.cells #[.int .i64 k, .string n, .int .i64 s, .slice xa ks.length cap] 24)) w1) := Lib.hid (by simpa using hB); clear hB)
    go_loopw [4] (fun i wr => ∃ j : Nat, j ≤ ks.length ∧ i = .int .i64 j ∧ Hid (nodesE (.mk k n s ks) = nodesL (ks.drop j)) ∧ Below (w.heap.size + 1) (w.alloc (.cells #[.int .i64 k, .string n, .int .i64 s, .slice xa ks.length cap] 24)) wr) (fun i _ => ks.length - (intOf i).toNat)
    case atStart => exact ⟨0, Nat.zero_le _, rfl, H, HB1.out⟩
    case round =>
      obtain ⟨j, hj, rfl, HJ, hB⟩ := hrel
      obtain ⟨_, _, _, g3⟩ := box_kept hB
      have HB := Lib.hid (below_box hB)
      have HBB := Lib.hid hB
      by_cases hlt : j < ks.length
      rotate_left
      · have hd : ks.drop j = [] := List.drop_eq_nil_of_le (by omega)
        have H0 : Hid (nodesE (.mk k n s ks) = 0) := by show _ = _; rw [HJ.out, hd]; rfl
        clear hB hd
        go_wp2_with fail
        go_ret
        exact ⟨by rw [H0.out]; rfl, HB.out⟩
      have hst := nodesL_drop ks j hlt
      have hsz : size ks[j] ≤ sizes ks := size_le_sizes (List.getElem_mem hlt)
      obtain ⟨kb, ko, rfl⟩ := Row_at HR.out (by omega)
      obtain ⟨x0, x1, x2, x3, k0, k1, k2, k3, hKI⟩ := Row_get (Row_below HR.out HB.out) j hlt
      have HC := Lib.hid (HIH.out ks[j] x0 x1 x2 x3 wr (by omega) (by omega) hKI)
      generalize nodesE ks[j] = y at hst HC
      have i1 : (0 : Int) ≤ (j : Int) := by omega
      have i2 : (j : Int) < (ks.length : Int) := by omega
      by_cases hy : y = 0
      · have HJ2 : Hid (nodesE (.mk k n s ks) = nodesL (ks.drop (j + 1))) := by show _ = _; rw [HJ.out, hst, if_pos hy]
        subst hy
        clear hB hst hsz hKI
        go_wp2_with (go_at_call 82; refine (HC.out).mono ?_; rintro e w2 ⟨he, hB2⟩; subst he; have HB2 := Lib.hid hB2; clear hB2)
        go_roundw
        case rel => exact ⟨j + 1, by omega, by go_num, HJ2, HBB.out.trans (HB2.out.mono (by have := HBB.out.size; simpa using this))⟩
        case measure => simp [intOf]; omega
      · have HJ2 : Hid (nodesE (.mk k n s ks) = y) := by show _ = _; rw [HJ.out, hst, if_neg hy]
        have hb : (y != 0) = true := by simp [hy]
        clear hB hst hsz hKI hy
        go_wp2_with (go_at_call 82; refine (HC.out).mono ?_; rintro e w2 ⟨he, hB2⟩; subst he; have HB2 := Lib.hid hB2; clear hB2)
        go_ret
        exact ⟨by rw [HJ2.out]; rfl, HB.out.trans (HB2.out.mono HB.out.size)⟩
set_option maxHeartbeats 1600000 in
set_option maxRecDepth 100000 in
theorem tnodes_any (m : Nat) : ∀ (t : Tm) (b o : Nat) (w : World), size t ≤ m → m ≤ 1073741824 → Lies w t b o →
    Calls Tryz.prog 78 #[.pointer (some ⟨b, o, none⟩)] w fun e w' => e = .returned (.int .i64 (nodesE t)) ∧ w = w' := by
  induction m with
  | zero => intro t b o w h; have := size_pos t; omega
  | succ m ih =>
    intro t b o w hm hM hL
    obtain ⟨k, n, s, ks⟩ := t
    have hsk : size (.mk k n s ks) = 1 + sizes ks := rfl
    rw [hsk] at hm
    have hE := nodesE_mk k n s ks
    have HN := Lib.hid (tnode_any (.mk k n s ks) b o w hL)
    obtain ⟨_, _, _, _, _, _, hkl, xa, cap, g3, hcap, hR⟩ := Lies_mk hL
    unfold maxLen at hkl
    have hkl2 := length_le_sizes ks
    have HR := Lib.hid hR
    generalize hx : nodeE (.mk k n s ks) = x at hE HN
    have HIH := Lib.hid ih
    clear hR hsk ih hx hL
    by_cases hz : x = 0
    rotate_left
    · have H : Hid (nodesE (.mk k n s ks) = x) := by show _ = _; rw [hE, if_neg hz]
      have hb : (x != 0) = true := by simp [hz]
      clear hE hz
      go_enter Tryz.func78, Tryz.ntmps78
      go_wp2_with (go_at_call 104; refine (HN.out).mono ?_; rintro e w1 ⟨he, hw⟩; subst he hw)
      go_ret
      exact ⟨by rw [H.out]; rfl, rfl⟩
    have H : Hid (nodesE (.mk k n s ks) = nodesL ks) := by show _ = _; rw [hE, if_pos hz]
    subst hz
    clear hE
    go_enter Tryz.func78, Tryz.ntmps78
    go_wp2_with (go_at_call 104; refine (HN.out).mono ?_; rintro e w1 ⟨he, hw⟩; subst he hw)
    go_loop [16] (fun i => ∃ j : Nat, j ≤ ks.length ∧ i = .int .i64 j ∧ Hid (nodesE (.mk k n s ks) = nodesL (ks.drop j))) (fun i => ks.length - (intOf i).toNat)
    case atStart => exact ⟨0, Nat.zero_le _, rfl, H⟩
    case round =>
      obtain ⟨j, hj, rfl, HJ⟩ := hrel
      by_cases hlt : j < ks.length
      rotate_left
      · have hd : ks.drop j = [] := List.drop_eq_nil_of_le (by omega)
        have H0 : Hid (nodesE (.mk k n s ks) = 0) := by show _ = _; rw [HJ.out, hd]; rfl
        clear hd
        go_wp2_with fail
        go_ret
        exact ⟨by rw [H0.out]; rfl, rfl⟩
      have hst := nodesL_drop ks j hlt
      have hsz : size ks[j] ≤ sizes ks := size_le_sizes (List.getElem_mem hlt)
      obtain ⟨kb, ko, rfl⟩ := Row_at HR.out (by omega)
      have HC := Lib.hid (HIH.out ks[j] kb (ko + j * 4) w (by omega) (by omega) (Row_get HR.out j hlt))
      generalize nodesE ks[j] = y at hst HC
      have i1 : (0 : Int) ≤ (j : Int) := by omega
      have i2 : (j : Int) < (ks.length : Int) := by omega
      by_cases hy : y = 0
      · have HJ2 : Hid (nodesE (.mk k n s ks) = nodesL (ks.drop (j + 1))) := by show _ = _; rw [HJ.out, hst, if_pos hy]
        subst hy
        clear hst hsz
        go_wp2_with (go_at_call 78; refine (HC.out).mono ?_; rintro e w2 ⟨he, hw⟩; subst he hw)
        go_round
        case rel => exact ⟨j + 1, by omega, by go_num, HJ2⟩
        case measure => simp [intOf]; omega
      · have HJ2 : Hid (nodesE (.mk k n s ks) = y) := by show _ = _; rw [HJ.out, hst, if_neg hy]
        have hb : (y != 0) = true := by simp [hy]
        clear hst hsz hy
        go_wp2_with (go_at_call 78; refine (HC.out).mono ?_; rintro e w2 ⟨he, hw⟩; subst he hw)
        go_ret
        exact ⟨by rw [HJ2.out]; rfl, rfl⟩
end Go.Proofs.YtbcpnepjojppaaaGreatDoor
namespace Go.Proofs.YtbcpnepjojppaaaGreatDoor
open Go.RowKit
set_option maxHeartbeats 1600000 in
set_option maxRecDepth 100000 in
theorem rValid_any (t : Tm) (c0 c1 c2 c3 : Value) (w : World) (hM : size t ≤ 1073741824) (hI : Is w t c0 c1 c2 c3) :
    Calls Tryz.prog 54 #[.agg #[c0, c1, c2, c3]] w fun e w' => e = .returned (.int .i64 (validE t)) ∧ Below w.heap.size w w' := by
  obtain ⟨k, n, s, xa, l, cap, rfl, rfl, rfl, rfl⟩ := Is_form hI
  obtain ⟨ks, hks⟩ : ∃ ks : List Unit, ks.length = l := ⟨List.replicate l (), by simp⟩
  subst hks
  have hI0 := hI
  have HX : Hid (Ext w (w.alloc (.cells #[.int .i64 k, .string n, .int .i64 s, .slice xa ks.length cap] 24))) := Lib.hid ((Ext.refl w).alloc _)
  have HX0 : Hid (Ext (w.alloc (.cells #[.int .i64 k, .string n, .int .i64 s, .slice xa ks.length cap] 24)) (w.alloc (.cells #[.int .i64 k, .string n, .int .i64 s, .slice xa ks.length cap] 24))) := Lib.hid (Ext.refl _)
  have HI : Hid (∀ W, Ext (w.alloc (.cells #[.int .i64 k, .string n, .int .i64 s, .slice xa ks.length cap] 24)) W → Is W t (.int .i64 k) (.string n) (.int .i64 s) (.slice xa ks.length cap)) := fun W h => Is_below (Is_alloc hI _) h
  have HC : Hid (∀ W, Ext (w.alloc (.cells #[.int .i64 k, .string n, .int .i64 s, .slice xa ks.length cap] 24)) W → W.cell? ⟨w.heap.size, 0, none⟩ = some (.int .i64 k) ∧ W.cell? ⟨w.heap.size, 1, none⟩ = some (.string n) ∧ W.cell? ⟨w.heap.size, 2, none⟩ = some (.int .i64 s) ∧ W.cell? ⟨w.heap.size, 3, none⟩ = some (.slice xa ks.length cap)) := fun W h => box_kept (T := 24) (Below.mono h (by simp))
  have HN := Lib.hid (rnodes_any _ t (.int .i64 k) (.string n) (.int .i64 s) (.slice xa ks.length cap) (w.alloc (.cells #[.int .i64 k, .string n, .int .i64 s, .slice xa ks.length cap] 24)) (Nat.le_refl _) hM (HI.out _ HX0.out))
  have hv : validE t = if nodesE t = 0 then (if 400 < size t ∨ 40 < depth t then 3 else 0) else nodesE t := rfl
  obtain ⟨v, hve⟩ : ∃ v, validE t = v := ⟨_, rfl⟩
  rw [hve] at hv ⊢
  generalize nodesE t = x at hv HN
  clear hI hI0 hve
  by_cases hz : x = 0
  rotate_left
  · have H : Hid (v = x) := by show _ = _; rw [hv, if_neg hz]
    have hb : (x != 0) = true := by simp [hz]
    clear hv hz
    go_enter Tryz.func54, Tryz.ntmps54
    go_wp2_with (go_at_call 82; refine (HN.out).mono ?_; rintro e w1 ⟨he, hB⟩; subst he; have HE1 : Hid (Ext (w.alloc (.cells #[.int .i64 k, .string n, .int .i64 s, .slice xa ks.length cap] 24)) w1) := Lib.hid hB; obtain ⟨a0, a1, a2, a3⟩ := HC.out _ HE1.out; clear hB)
    go_ret
    exact ⟨by rw [H.out]; rfl, Ext.trans (a := w) HX.out HE1.out⟩
  subst hz
  rw [if_pos rfl] at hv
  by_cases h1 : 400 < size t
  · have H : Hid (v = 3) := by show _ = _; rw [hv, if_pos (Or.inl h1)]
    have i1 : (400 : Int) < (size t : Int) := by omega
    clear hv h1
    go_enter Tryz.func54, Tryz.ntmps54
    go_wp2_with (first
      | (go_at_call 82; refine (HN.out).mono ?_; rintro e w1 ⟨he, hB⟩; subst he; have HE1 : Hid (Ext (w.alloc (.cells #[.int .i64 k, .string n, .int .i64 s, .slice xa ks.length cap] 24)) w1) := Lib.hid hB; obtain ⟨a0, a1, a2, a3⟩ := HC.out _ HE1.out; clear hB)
      | (go_at_call 83; refine (rsize_any _ t _ _ _ _ _ (Nat.le_refl _) (by omega) (HI.out _ HE1.out)).mono ?_; rintro e w2 ⟨he, hB⟩; subst he; have HE2 := Lib.hid (Ext.trans HE1.out hB); obtain ⟨a0, a1, a2, a3⟩ := HC.out _ HE2.out; clear hB))
    go_ret
    exact ⟨by rw [H.out]; rfl, Ext.trans (a := w) HX.out HE2.out⟩
  have i1 : ¬ (400 : Int) < (size t : Int) := by omega
  by_cases h2 : 40 < depth t
  · have H : Hid (v = 3) := by show _ = _; rw [hv, if_pos (Or.inr h2)]
    have i2 : (40 : Int) < (depth t : Int) := by omega
    clear hv h1 h2
    go_enter Tryz.func54, Tryz.ntmps54
    go_wp2_with (first
      | (go_at_call 82; refine (HN.out).mono ?_; rintro e w1 ⟨he, hB⟩; subst he; have HE1 : Hid (Ext (w.alloc (.cells #[.int .i64 k, .string n, .int .i64 s, .slice xa ks.length cap] 24)) w1) := Lib.hid hB; obtain ⟨a0, a1, a2, a3⟩ := HC.out _ HE1.out; clear hB)
      | (go_at_call 83; refine (rsize_any _ t _ _ _ _ _ (Nat.le_refl _) (by omega) (HI.out _ HE1.out)).mono ?_; rintro e w2 ⟨he, hB⟩; subst he; have HE2 := Lib.hid (Ext.trans HE1.out hB); obtain ⟨a0, a1, a2, a3⟩ := HC.out _ HE2.out; clear hB)
      | (go_at_call 51; refine (rdepth_any _ t _ _ _ _ _ (Nat.le_refl _) (by omega) (HI.out _ HE2.out)).mono ?_; rintro e w3 ⟨he, hB⟩; subst he; have HE3 := Lib.hid (Ext.trans HE2.out hB); clear hB))
    go_ret
    exact ⟨by rw [H.out]; rfl, Ext.trans (a := w) HX.out HE3.out⟩
  have i2 : ¬ (40 : Int) < (depth t : Int) := by omega
  have H : Hid (v = 0) := by show _ = _; rw [hv, if_neg (by omega)]
  clear hv h1 h2
  go_enter Tryz.func54, Tryz.ntmps54
  go_wp2_with (first
    | (go_at_call 82; refine (HN.out).mono ?_; rintro e w1 ⟨he, hB⟩; subst he; have HE1 : Hid (Ext (w.alloc (.cells #[.int .i64 k, .string n, .int .i64 s, .slice xa ks.length cap] 24)) w1) := Lib.hid hB; obtain ⟨a0, a1, a2, a3⟩ := HC.out _ HE1.out; clear hB)
    | (go_at_call 83; refine (rsize_any _ t _ _ _ _ _ (Nat.le_refl _) (by omega) (HI.out _ HE1.out)).mono ?_; rintro e w2 ⟨he, hB⟩; subst he; have HE2 := Lib.hid (Ext.trans HE1.out hB); obtain ⟨a0, a1, a2, a3⟩ := HC.out _ HE2.out; clear hB)
    | (go_at_call 51; refine (rdepth_any _ t _ _ _ _ _ (Nat.le_refl _) (by omega) (HI.out _ HE2.out)).mono ?_; rintro e w3 ⟨he, hB⟩; subst he; have HE3 := Lib.hid (Ext.trans HE2.out hB); clear hB))
  go_ret
  exact ⟨by rw [H.out]; rfl, Ext.trans (a := w) HX.out HE3.out⟩
set_option maxHeartbeats 1600000 in
set_option maxRecDepth 100000 in
theorem tValid_any (t : Tm) (c0 c1 c2 c3 : Value) (w : World) (hM : size t ≤ 1073741824) (hI : Is w t c0 c1 c2 c3) :
    Calls Tryz.prog 52 #[.agg #[c0, c1, c2, c3]] w fun e w' => e = .returned (.int .i64 (validE t)) ∧ Below w.heap.size w w' := by
  obtain ⟨k, n, s, xa, l, cap, rfl, rfl, rfl, rfl⟩ := Is_form hI
  obtain ⟨ks, hks⟩ : ∃ ks : List Unit, ks.length = l := ⟨List.replicate l (), by simp⟩
  subst hks
  have hI0 := hI
  have HX : Hid (Ext w (w.alloc (.cells #[.int .i64 k, .string n, .int .i64 s, .slice xa ks.length cap] 24))) := Lib.hid ((Ext.refl w).alloc _)
  have HX0 : Hid (Ext (w.alloc (.cells #[.int .i64 k, .string n, .int .i64 s, .slice xa ks.length cap] 24)) (w.alloc (.cells #[.int .i64 k, .string n, .int .i64 s, .slice xa ks.length cap] 24))) := Lib.hid (Ext.refl _)
  have HI : Hid (∀ W, Ext (w.alloc (.cells #[.int .i64 k, .string n, .int .i64 s, .slice xa ks.length cap] 24)) W → Is W t (.int .i64 k) (.string n) (.int .i64 s) (.slice xa ks.length cap)) := fun W h => Is_below (Is_alloc hI _) h
  have HC : Hid (∀ W, Ext (w.alloc (.cells #[.int .i64 k, .string n, .int .i64 s, .slice xa ks.length cap] 24)) W → W.cell? ⟨w.heap.size, 0, none⟩ = some (.int .i64 k) ∧ W.cell? ⟨w.heap.size, 1, none⟩ = some (.string n) ∧ W.cell? ⟨w.heap.size, 2, none⟩ = some (.int .i64 s) ∧ W.cell? ⟨w.heap.size, 3, none⟩ = some (.slice xa ks.length cap)) := fun W h => box_kept (T := 24) (Below.mono h (by simp))
  have HN := Lib.hid (tnodes_any _ t w.heap.size 0 (w.alloc (.cells #[.int .i64 k, .string n, .int .i64 s, .slice xa ks.length cap] 24)) (Nat.le_refl _) hM (Lies_box hI0 24))
  have hv : validE t = if nodesE t = 0 then (if 400 < size t ∨ 40 < depth t then 3 else 0) else nodesE t := rfl
  obtain ⟨v, hve⟩ : ∃ v, validE t = v := ⟨_, rfl⟩
  rw [hve] at hv ⊢
  generalize nodesE t = x at hv HN
  clear hI hI0 hve
  by_cases hz : x = 0
  rotate_left
  · have H : Hid (v = x) := by show _ = _; rw [hv, if_neg hz]
    have hb : (x != 0) = true := by simp [hz]
    clear hv hz
    go_enter Tryz.func52, Tryz.ntmps52
    go_wp2_with (go_at_call 78; refine (HN.out).mono ?_; rintro e w1 ⟨he, hw⟩; subst he hw; have HE1 : Hid (Ext (w.alloc (.cells #[.int .i64 k, .string n, .int .i64 s, .slice xa ks.length cap] 24)) (w.alloc (.cells #[.int .i64 k, .string n, .int .i64 s, .slice xa ks.length cap] 24))) := Ext.refl _; obtain ⟨a0, a1, a2, a3⟩ := HC.out _ HE1.out)
    go_ret
    exact ⟨by rw [H.out]; rfl, Ext.trans (a := w) HX.out HE1.out⟩
  subst hz
  rw [if_pos rfl] at hv
  by_cases h1 : 400 < size t
  · have H : Hid (v = 3) := by show _ = _; rw [hv, if_pos (Or.inl h1)]
    have i1 : (400 : Int) < (size t : Int) := by omega
    clear hv h1
    go_enter Tryz.func52, Tryz.ntmps52
    go_wp2_with (first
      | (go_at_call 78; refine (HN.out).mono ?_; rintro e w1 ⟨he, hw⟩; subst he hw; have HE1 : Hid (Ext (w.alloc (.cells #[.int .i64 k, .string n, .int .i64 s, .slice xa ks.length cap] 24)) (w.alloc (.cells #[.int .i64 k, .string n, .int .i64 s, .slice xa ks.length cap] 24))) := Ext.refl _; obtain ⟨a0, a1, a2, a3⟩ := HC.out _ HE1.out)
      | (go_at_call 79; refine (Size_any t _ _ _ _ _ (by omega) (HI.out _ HE1.out)).mono ?_; rintro e w2 ⟨he, hB⟩; subst he; have HE2 := Lib.hid (Ext.trans HE1.out hB); obtain ⟨a0, a1, a2, a3⟩ := HC.out _ HE2.out; clear hB))
    go_ret
    exact ⟨by rw [H.out]; rfl, Ext.trans (a := w) HX.out HE2.out⟩
  have i1 : ¬ (400 : Int) < (size t : Int) := by omega
  by_cases h2 : 40 < depth t
  · have H : Hid (v = 3) := by show _ = _; rw [hv, if_pos (Or.inr h2)]
    have i2 : (40 : Int) < (depth t : Int) := by omega
    clear hv h1 h2
    go_enter Tryz.func52, Tryz.ntmps52
    go_wp2_with (first
      | (go_at_call 78; refine (HN.out).mono ?_; rintro e w1 ⟨he, hw⟩; subst he hw; have HE1 : Hid (Ext (w.alloc (.cells #[.int .i64 k, .string n, .int .i64 s, .slice xa ks.length cap] 24)) (w.alloc (.cells #[.int .i64 k, .string n, .int .i64 s, .slice xa ks.length cap] 24))) := Ext.refl _; obtain ⟨a0, a1, a2, a3⟩ := HC.out _ HE1.out)
      | (go_at_call 79; refine (Size_any t _ _ _ _ _ (by omega) (HI.out _ HE1.out)).mono ?_; rintro e w2 ⟨he, hB⟩; subst he; have HE2 := Lib.hid (Ext.trans HE1.out hB); obtain ⟨a0, a1, a2, a3⟩ := HC.out _ HE2.out; clear hB)
      | (go_at_call 80; refine (Depth_any t _ _ _ _ _ (by omega) (HI.out _ HE2.out)).mono ?_; rintro e w3 ⟨he, hB⟩; subst he; have HE3 := Lib.hid (Ext.trans HE2.out hB); clear hB))
    go_ret
    exact ⟨by rw [H.out]; rfl, Ext.trans (a := w) HX.out HE3.out⟩
  have i2 : ¬ (40 : Int) < (depth t : Int) := by omega
  have H : Hid (v = 0) := by show _ = _; rw [hv, if_neg (by omega)]
  clear hv h1 h2
  go_enter Tryz.func52, Tryz.ntmps52
  go_wp2_with (first
    | (go_at_call 78; refine (HN.out).mono ?_; rintro e w1 ⟨he, hw⟩; subst he hw; have HE1 : Hid (Ext (w.alloc (.cells #[.int .i64 k, .string n, .int .i64 s, .slice xa ks.length cap] 24)) (w.alloc (.cells #[.int .i64 k, .string n, .int .i64 s, .slice xa ks.length cap] 24))) := Ext.refl _; obtain ⟨a0, a1, a2, a3⟩ := HC.out _ HE1.out)
    | (go_at_call 79; refine (Size_any t _ _ _ _ _ (by omega) (HI.out _ HE1.out)).mono ?_; rintro e w2 ⟨he, hB⟩; subst he; have HE2 := Lib.hid (Ext.trans HE1.out hB); obtain ⟨a0, a1, a2, a3⟩ := HC.out _ HE2.out; clear hB)
    | (go_at_call 80; refine (Depth_any t _ _ _ _ _ (by omega) (HI.out _ HE2.out)).mono ?_; rintro e w3 ⟨he, hB⟩; subst he; have HE3 := Lib.hid (Ext.trans HE2.out hB); clear hB))
  go_ret
  exact ⟨by rw [H.out]; rfl, Ext.trans (a := w) HX.out HE3.out⟩
end Go.Proofs.YtbcpnepjojppaaaGreatDoor
namespace Go.Proofs.YtbcpnepjojppaaaGreatDoor
open Go.RowKit
end Go.Proofs.YtbcpnepjojppaaaGreatDoor
namespace Go.Proofs.YtbcpnepjojppaaaGreatDoor
open Go.RowKit
def wordB (s : Int) : ByteArray := if s = 0 then wAny else if s = 1 then wAgent else if s = 2 then wNonce else if s = 3 then wKey else if s = 4 then wData else wTag
mutual
/-- The text of a valid term. -/
def textT : Tm → ByteArray
  | .mk k n s ks => if k = 1 then (if s = 0 then bQ ++ n else ((bQ ++ n) ++ bColon) ++ wordB s) else if k = 2 then (n ++ bColon) ++ wordB s else textL (n ++ bOpen) false ks ++ bClose
def textL : ByteArray → Bool → List Tm → ByteArray
  | acc, _, [] => acc
  | acc, p, t :: ts => textL ((if p then acc ++ bComma else acc) ++ textT t) true ts
end
set_option maxHeartbeats 800000 in
set_option maxRecDepth 100000 in
theorem rword_any (s : Int) (h : 0 ≤ s ∧ s ≤ 5) (w : World) :
    Calls Tryz.prog 175 #[.int .i64 s] w fun e w' => e = .returned (.string (wordB s)) ∧ Below w.heap.size w w' := by
  have hB := fun o => (Below.refl w.heap.size w).alloc (Nat.le_refl _) o
  have HB := Lib.hid hB
  clear hB
  have hc : s = 0 ∨ s = 1 ∨ s = 2 ∨ s = 3 ∨ s = 4 ∨ s = 5 := by omega
  rcases hc with rfl | rfl | rfl | rfl | rfl | rfl
  all_goals go_enter Tryz.func175, Tryz.ntmps175
  all_goals go_wp2_with fail
  all_goals go_ret
  all_goals exact ⟨rfl, HB.out _⟩
end Go.Proofs.YtbcpnepjojppaaaGreatDoor
namespace Go.Proofs.YtbcpnepjojppaaaGreatDoor
open Go.RowKit
section
variable (w : World) (n : ByteArray) (s : Int) (ks : List Tm) (xa : Option Addr) (cap : Nat)
end
end Go.Proofs.YtbcpnepjojppaaaGreatDoor
namespace Go.Proofs.YtbcpnepjojppaaaGreatDoor
open Go.RowKit
end Go.Proofs.YtbcpnepjojppaaaGreatDoor
namespace Go.Proofs.YtbcpnepjojppaaaGreatDoor
open Go.RowKit
theorem preB_prefix {s p : ByteArray} (h : preB s p = true) : p.data.toList <+: s.data.toList := by
  simp only [preB, Bool.and_eq_true, decide_eq_true_eq, beq_iff_eq, Lib.toList_data, ByteArray.data_extract, Array.toList_extract] at h
  rw [← h.2]
  simp only [List.extract_eq_take_drop, List.drop_zero]
  exact List.take_prefix _ _
theorem takeB_no {s p : ByteArray} (h : preB s p = false) : takeB s p = s := by
  unfold takeB; rw [h]; rfl
def tailJ : List Tm → ByteArray
  | [] => ByteArray.empty
  | t :: ts => bComma ++ (textT t ++ tailJ ts)
theorem textL_tail : ∀ (ts : List Tm) (acc : ByteArray), textL acc true ts = acc ++ tailJ ts
  | [], acc => by simp [textL, tailJ]
  | t :: ts, acc => by
    rw [textL, if_pos rfl, textL_tail ts, tailJ, ByteArray.append_assoc, ByteArray.append_assoc]
end Go.Proofs.YtbcpnepjojppaaaGreatDoor
