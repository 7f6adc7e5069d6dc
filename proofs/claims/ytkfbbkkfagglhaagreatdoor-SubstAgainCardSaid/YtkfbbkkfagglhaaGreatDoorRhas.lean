/-
  THE WALK OF the reference's Has.
-/
import Derived.Test.YtkfbbkkfagglhaaGreatDoorRef
import Derived.Test.YtkfbbkkfagglhaaGreatDoorElems
import Derived.Deep.RegionHeld3
import Derived.Test.YtkfbbkkfagglhaaGreatDoorBval
import Derived.Test.YtkfbbkkfagglhaaGreatDoorSetof
import Derived.Test.YtkfbbkkfagglhaaGreatDoorAddset
import Derived.Test.YtkfbbkkfagglhaaGreatDoorSall
namespace Go.Proofs.YtkfbbkkfagglhaaGreatDoor
open Go.RowKit

def hasT (l : List Tm) (t : Tm) : Bool := l.any (fun u => cmpT u t == 0)
theorem hasT_drop (l : List Tm) (t : Tm) (j : Nat) (h : j < l.length) : hasT (l.drop j) t = (cmpT l[j] t == 0 || hasT (l.drop (j + 1)) t) := by
  rw [List.drop_eq_getElem_cons h]; rfl

set_option maxHeartbeats 1600000 in
set_option maxRecDepth 100000 in
theorem rhas_any (l : List Tm) (t : Tm) (xa : Option Addr) (cap : Nat) (c0 c1 c2 c3 : Value) (w : World) (hl : l.length ≤ maxLen) (hs : ∀ u ∈ l, size u ≤ 1073741824) (ht : size t ≤ 1073741824) (hR : Row w l xa) (hI : Is w t c0 c1 c2 c3) :
    Calls Tryz.prog 57 #[.slice xa l.length cap, .agg #[c0, c1, c2, c3]] w fun e w' => e = .returned (.bool (hasT l t)) ∧ Below w.heap.size w w' := by
  unfold maxLen at hl
  obtain ⟨k2, n2, s2, ya2, yl2, yc2, rfl, rfl, rfl, rfl⟩ := Is_form hI
  obtain ⟨b0, b1, b2, b3⟩ := box_kept (Below.refl (w.heap.size + 1) (w.alloc (.cells #[.int .i64 k2, .string n2, .int .i64 s2, .slice ya2 yl2 yc2] 36)))
  have hB1 : Below w.heap.size w (w.alloc (.cells #[.int .i64 k2, .string n2, .int .i64 s2, .slice ya2 yl2 yc2] 36)) := (Below.refl _ _).alloc (Nat.le_refl _) _
  have hR1 := Row_below hR hB1
  have hI1 := Is_below hI hB1
  clear hR hI
  go_enter Tryz.func57, Tryz.ntmps57
  go_wp2_with fail
  generalize w.alloc (.cells #[.int .i64 k2, .string n2, .int .i64 s2, .slice ya2 yl2 yc2] 36) = w1 at b0 b1 b2 b3 hB1 hR1 hI1 ⊢
  have HB1 := Lib.hid hB1
  clear hB1
  go_loopw [5] (fun i wr => ∃ j : Nat, j ≤ l.length ∧ i = .int .i64 j ∧ Hid (hasT l t = hasT (l.drop j) t) ∧ Ext w1 wr) (fun i _ => l.length - (intOf i).toNat)
  case atStart => exact ⟨0, Nat.zero_le _, rfl, rfl, Ext.refl _⟩
  case round =>
    obtain ⟨j, hj, rfl, HD, hE⟩ := hrel
    have HE := Lib.hid hE
    by_cases hlt : j < l.length
    rotate_left
    · have hjl : l.drop j = [] := List.drop_eq_nil_of_le (by omega)
      have HD3 : Hid (hasT l t = false) := by show _ = _; rw [HD.out, hjl]; rfl
      clear hjl hE b0 b1 b2 b3
      go_wp2_with fail
      go_ret
      exact ⟨by rw [HD3.out]; rfl, Ext.trans HB1.out HE.out⟩
    obtain ⟨kb, ko, rfl⟩ := Row_at hR1 (by omega)
    obtain ⟨x0, x1, x2, x3, p0, p1, p2, p3, hKI⟩ := Row_get (Row_below hR1 hE) j hlt
    obtain ⟨k1, n1, s1, ya1, yl1, yc1, rfl, rfl, rfl, rfl⟩ := Is_form hKI
    have hIr := Is_below (w' := wr) hI1 hE
    have hC := fun W (x : Ext wr W) => same_any l[j] t _ _ _ _ _ _ _ _ W (by have := hs _ (List.getElem_mem hlt); omega) (by omega) (Is_below (w' := W) hKI x) (Is_below (w' := W) hIr x)
    have hd := hasT_drop l t j hlt
    have HCr : Hid (∀ W, Ext wr W → (W.cell? ⟨kb, ko + j * 4, none⟩ = some (.int .i64 k1) ∧ W.cell? ⟨kb, ko + j * 4 + 1, none⟩ = some (.string n1) ∧ W.cell? ⟨kb, ko + j * 4 + 2, none⟩ = some (.int .i64 s1) ∧ W.cell? ⟨kb, ko + j * 4 + 3, none⟩ = some (.slice ya1 yl1 yc1)) ∧ (W.cell? ⟨w.heap.size, 0, none⟩ = some (.int .i64 k2) ∧ W.cell? ⟨w.heap.size, 1, none⟩ = some (.string n2) ∧ W.cell? ⟨w.heap.size, 2, none⟩ = some (.int .i64 s2) ∧ W.cell? ⟨w.heap.size, 3, none⟩ = some (.slice ya2 yl2 yc2))) := fun W h => ⟨⟨keep_below h _ _ p0, keep_below h _ _ p1, keep_below h _ _ p2, keep_below h _ _ p3⟩, ⟨keep_below (hE.trans h) _ _ b0, keep_below (hE.trans h) _ _ b1, keep_below (hE.trans h) _ _ b2, keep_below (hE.trans h) _ _ b3⟩⟩
    have i1 : (0 : Int) ≤ (j : Int) := by omega
    have i2 : (j : Int) < (l.length : Int) := by omega
    have hF0 : Ext wr wr.drew := (Ext.refl wr).drew
    clear p0 p1 p2 p3 b0 b1 b2 b3 hE hKI hIr hR1 hI1
    cases hcv : (cmpT l[j] t == 0)
    · rw [hcv] at hC hd
      have HD3 : Hid (hasT l t = hasT (l.drop (j + 1)) t) := by show _ = _; rw [HD.out, hd]; rfl
      have HC := Lib.hid hC
      clear hC hd hcv
      go_wp2_with fail
      go_region_held3 (fun W => (W.cell? ⟨kb, ko + j * 4, none⟩ = some (.int .i64 k1) ∧ W.cell? ⟨kb, ko + j * 4 + 1, none⟩ = some (.string n1) ∧ W.cell? ⟨kb, ko + j * 4 + 2, none⟩ = some (.int .i64 s1) ∧ W.cell? ⟨kb, ko + j * 4 + 3, none⟩ = some (.slice ya1 yl1 yc1)) ∧ (W.cell? ⟨w.heap.size, 0, none⟩ = some (.int .i64 k2) ∧ W.cell? ⟨w.heap.size, 1, none⟩ = some (.string n2) ∧ W.cell? ⟨w.heap.size, 2, none⟩ = some (.int .i64 s2) ∧ W.cell? ⟨w.heap.size, 3, none⟩ = some (.slice ya2 yl2 yc2)))
          (first | exact HCr.out _ (by assumption) | go_keep)
          (first
            | (go_at_call 27; refine (HC.out _ hF0).mono ?_; rintro e w4 ⟨he, hB⟩; subst he; have hF1 : Ext wr w4 := Ext.trans hF0 hB; clear hB))
      all_goals (try go_wp2_with fail)
      all_goals go_roundw
      case rel => exact ⟨j + 1, by omega, by go_num, HD3, Ext.trans HE.out hF1⟩
      case measure => simp [intOf]; omega
    · rw [hcv] at hC hd
      have HD3 : Hid (hasT l t = true) := by show _ = _; rw [HD.out, hd]; rfl
      have HC := Lib.hid hC
      clear hC hd hcv
      go_wp2_with fail
      go_region_held3 (fun W => (W.cell? ⟨kb, ko + j * 4, none⟩ = some (.int .i64 k1) ∧ W.cell? ⟨kb, ko + j * 4 + 1, none⟩ = some (.string n1) ∧ W.cell? ⟨kb, ko + j * 4 + 2, none⟩ = some (.int .i64 s1) ∧ W.cell? ⟨kb, ko + j * 4 + 3, none⟩ = some (.slice ya1 yl1 yc1)) ∧ (W.cell? ⟨w.heap.size, 0, none⟩ = some (.int .i64 k2) ∧ W.cell? ⟨w.heap.size, 1, none⟩ = some (.string n2) ∧ W.cell? ⟨w.heap.size, 2, none⟩ = some (.int .i64 s2) ∧ W.cell? ⟨w.heap.size, 3, none⟩ = some (.slice ya2 yl2 yc2)))
          (first | exact HCr.out _ (by assumption) | go_keep)
          (first
            | (go_at_call 27; refine (HC.out _ hF0).mono ?_; rintro e w4 ⟨he, hB⟩; subst he; have hF1 : Ext wr w4 := Ext.trans hF0 hB; clear hB))
      all_goals (try go_wp2_with fail)
      all_goals go_ret
      exact ⟨by rw [HD3.out]; rfl, Ext.trans HB1.out (Ext.trans HE.out hF1)⟩
end Go.Proofs.YtkfbbkkfagglhaaGreatDoor

/-
  THE WALK OF the reference's Idempotent.
-/
namespace Go.Proofs.YtkfbbkkfagglhaaGreatDoor
open Go.RowKit

def idemK (bs : List Bd) (v : Tm) : Bool := bs.all (fun c => !hasT (subT c.2) v)
def idemB (all bs : List Bd) : Bool := bs.all (fun b => idemK all b.1)
theorem idemK_drop (bs : List Bd) (v : Tm) (j : Nat) (h : j < bs.length) : idemK (bs.drop j) v = (!hasT (subT bs[j].2) v && idemK (bs.drop (j + 1)) v) := by
  rw [List.drop_eq_getElem_cons h]; rfl
theorem idemB_drop (all bs : List Bd) (j : Nat) (h : j < bs.length) : idemB all (bs.drop j) = (idemK all bs[j].1 && idemB all (bs.drop (j + 1))) := by
  rw [List.drop_eq_getElem_cons h]; rfl

set_option maxHeartbeats 1600000 in
set_option maxRecDepth 100000 in
theorem ridem_any (bs : List Bd) (xa : Option Addr) (cap : Nat) (w : World) (hlen : bs.length ≤ maxLen) (hsz : SzB 1048576 bs) (hR : Row w (flatB bs) xa) :
    Calls Tryz.prog 17 #[.slice xa bs.length cap] w fun e w' => e = .returned (.bool (idemB bs bs)) ∧ Below w.heap.size w w' := by
  unfold maxLen at hlen
  have HR := Lib.hid hR
  have HSZ := Lib.hid hsz
  clear hR hsz
  go_enter Tryz.func17, Tryz.ntmps17
  go_wp2_with fail
  go_loopw [3] (fun i wr => ∃ j : Nat, j ≤ bs.length ∧ i = .int .i64 j ∧ Hid (idemB bs bs = idemB bs (bs.drop j)) ∧ Ext w wr) (fun i _ => bs.length - (intOf i).toNat)
  case atStart => exact ⟨0, Nat.zero_le _, rfl, rfl, Ext.refl _⟩
  case round =>
    obtain ⟨i, hi, rfl, HD, hE⟩ := hrel
    by_cases hlt : i < bs.length
    rotate_left
    · have HE := Lib.hid hE
      have hjl : bs.drop i = [] := List.drop_eq_nil_of_le (by omega)
      have HD3 : Hid (idemB bs bs = true) := by show _ = _; rw [HD.out, hjl]; rfl
      clear hjl hE
      go_wp2_with fail
      go_ret
      exact ⟨by rw [HD3.out]; rfl, HE.out⟩
    have hd := idemB_drop bs bs i hlt
    rw [← HD.out] at hd
    have HDi := Lib.hid hd
    clear hd HD
    obtain ⟨b, o, rfl⟩ := Row_at HR.out (by rw [flatB_length]; omega)
    obtain ⟨w1, hw1⟩ : ∃ v : World, v = wr := ⟨_, rfl⟩
    subst hw1
    have HE1 := Lib.hid hE
    clear hE
    go_wp2_with fail
    go_loopw [4] (fun kk wr => ∃ k : Nat, k ≤ bs.length ∧ kk = .int .i64 k ∧ Hid (idemK bs bs[i].1 = idemK (bs.drop k) bs[i].1) ∧ Ext w1 wr) (fun kk _ => bs.length - (intOf kk).toNat)
    case atStart => exact ⟨0, Nat.zero_le _, rfl, rfl, Ext.refl _⟩
    case round =>
      obtain ⟨k, hk, rfl, HK, hE⟩ := hrel
      have HEw := Lib.hid hE
      have hE := Ext.trans HE1.out hE
      have HE := Lib.hid hE
      by_cases hkl : k < bs.length
      rotate_left
      · have hjl : bs.drop k = [] := List.drop_eq_nil_of_le (by omega)
        have HD3 : Hid (idemB bs bs = idemB bs (bs.drop (i + 1))) := by
          show _ = _
          have h1 := HDi.out
          have h2 := HK.out
          rw [hjl] at h2
          rw [h2] at h1
          exact h1
        clear hjl hE
        go_wp2_with fail
        go_roundw
        case rel => exact ⟨i + 1, by omega, by go_num, HD3, HE.out⟩
        case measure => simp [intOf]; omega
      obtain ⟨⟨v0, v1, v2, v3, g0, g1, g2, g3, hI1⟩, _⟩ := bds_get (Row_below HR.out hE) i hlt
      obtain ⟨_, ⟨u0, u1, u2, u3, g4, g5, g6, g7, hI2⟩⟩ := bds_get (Row_below HR.out hE) k hkl
      obtain ⟨k1, n1, s1, ya1, yl1, yc1, rfl, rfl, rfl, rfl⟩ := Is_form hI1
      obtain ⟨k2, n2, s2, ya2, yl2, yc2, rfl, rfl, rfl, rfl⟩ := Is_form hI2
      rw [Nat.add_assoc] at g5 g6 g7
      have hz1 := HSZ.out bs[i] (List.getElem_mem hlt)
      have hz2 := HSZ.out bs[k] (List.getElem_mem hkl)
      have HC1 := Lib.hid (fun W (x : Ext wr W) => rall_any _ bs[k].2 _ _ _ _ W.heap.size W (Nat.le_refl _) (by omega) (Nat.le_refl _) (Is_IsIn _ _ _ _ _ (Is_below (w' := W) hI2 x)))
      have HC2 := Lib.hid (fun xa cap W (hr : Row W (subT bs[k].2) xa) (x : Ext wr W) => rhas_any (subT bs[k].2) bs[i].1 xa cap _ _ _ _ W (by rw [subT_len]; unfold maxLen; omega) (fun u hu => by have := subT_size _ u hu; omega) (by omega) hr (Is_below (w' := W) hI1 x))
      have hd := idemK_drop bs bs[i].1 k hkl
      have HCr : Hid (∀ W, Ext wr W → (W.cell? ⟨b, o + i * 8, none⟩ = some (.int .i64 k1) ∧ W.cell? ⟨b, o + i * 8 + 1, none⟩ = some (.string n1) ∧ W.cell? ⟨b, o + i * 8 + 2, none⟩ = some (.int .i64 s1) ∧ W.cell? ⟨b, o + i * 8 + 3, none⟩ = some (.slice ya1 yl1 yc1)) ∧ (W.cell? ⟨b, o + k * 8 + 4, none⟩ = some (.int .i64 k2) ∧ W.cell? ⟨b, o + k * 8 + 5, none⟩ = some (.string n2) ∧ W.cell? ⟨b, o + k * 8 + 6, none⟩ = some (.int .i64 s2) ∧ W.cell? ⟨b, o + k * 8 + 7, none⟩ = some (.slice ya2 yl2 yc2))) := fun W h => ⟨⟨keep_below h _ _ g0, keep_below h _ _ g1, keep_below h _ _ g2, keep_below h _ _ g3⟩, ⟨keep_below h _ _ g4, keep_below h _ _ g5, keep_below h _ _ g6, keep_below h _ _ g7⟩⟩
      have i1 : (0 : Int) ≤ (i : Int) := by omega
      have i2 : (i : Int) < (bs.length : Int) := by omega
      have j1 : (0 : Int) ≤ (k : Int) := by omega
      have j2 : (k : Int) < (bs.length : Int) := by omega
      have hF0 : Ext wr wr.drew := (Ext.refl wr).drew
      clear hE hI1 hI2 hz1 hz2 g0 g1 g2 g3 g4 g5 g6 g7
      cases hcv : hasT (subT bs[k].2) bs[i].1
      · rw [hcv] at hd HC2
        have HD3 : Hid (idemK bs bs[i].1 = idemK (bs.drop (k + 1)) bs[i].1) := by show _ = _; rw [HK.out, hd]; rfl
        clear hd hcv
        go_wp2_with fail
        go_region_held3 (fun W => (W.cell? ⟨b, o + i * 8, none⟩ = some (.int .i64 k1) ∧ W.cell? ⟨b, o + i * 8 + 1, none⟩ = some (.string n1) ∧ W.cell? ⟨b, o + i * 8 + 2, none⟩ = some (.int .i64 s1) ∧ W.cell? ⟨b, o + i * 8 + 3, none⟩ = some (.slice ya1 yl1 yc1)) ∧ (W.cell? ⟨b, o + k * 8 + 4, none⟩ = some (.int .i64 k2) ∧ W.cell? ⟨b, o + k * 8 + 5, none⟩ = some (.string n2) ∧ W.cell? ⟨b, o + k * 8 + 6, none⟩ = some (.int .i64 s2) ∧ W.cell? ⟨b, o + k * 8 + 7, none⟩ = some (.slice ya2 yl2 yc2)))
          (first | exact HCr.out _ (by assumption) | go_keep)
          (first
            | (go_at_call 58; refine (HC1.out _ hF0).mono ?_; rintro e w4 ⟨v4, he, hA4, hB⟩; subst he; obtain ⟨xa4, cap4, hv4, _, _, hR4⟩ := Elems_row hA4; subst hv4; have HR4 := Lib.hid hR4; have hF1 : Ext wr w4 := Ext.trans hF0 hB; clear hB hA4 hR4)
            | (go_at_call 57; refine (HC2.out _ _ _ HR4.out hF1).mono ?_; rintro e w5 ⟨he, hB⟩; subst he; have hF2 : Ext wr w5 := Ext.trans hF1 hB; clear hB))
        all_goals (try go_wp2_with fail)
        all_goals go_roundw
        case rel => exact ⟨k + 1, by omega, by go_num, HD3, Ext.trans HEw.out hF2⟩
        case measure => simp [intOf]; omega
      · rw [hcv] at hd HC2
        have HD3 : Hid (idemB bs bs = false) := by
          show _ = _
          have h1 := HDi.out
          have h2 := HK.out
          rw [hd] at h2
          rw [h2] at h1
          exact h1
        clear hd hcv
        go_wp2_with fail
        go_region_held3 (fun W => (W.cell? ⟨b, o + i * 8, none⟩ = some (.int .i64 k1) ∧ W.cell? ⟨b, o + i * 8 + 1, none⟩ = some (.string n1) ∧ W.cell? ⟨b, o + i * 8 + 2, none⟩ = some (.int .i64 s1) ∧ W.cell? ⟨b, o + i * 8 + 3, none⟩ = some (.slice ya1 yl1 yc1)) ∧ (W.cell? ⟨b, o + k * 8 + 4, none⟩ = some (.int .i64 k2) ∧ W.cell? ⟨b, o + k * 8 + 5, none⟩ = some (.string n2) ∧ W.cell? ⟨b, o + k * 8 + 6, none⟩ = some (.int .i64 s2) ∧ W.cell? ⟨b, o + k * 8 + 7, none⟩ = some (.slice ya2 yl2 yc2)))
          (first | exact HCr.out _ (by assumption) | go_keep)
          (first
            | (go_at_call 58; refine (HC1.out _ hF0).mono ?_; rintro e w4 ⟨v4, he, hA4, hB⟩; subst he; obtain ⟨xa4, cap4, hv4, _, _, hR4⟩ := Elems_row hA4; subst hv4; have HR4 := Lib.hid hR4; have hF1 : Ext wr w4 := Ext.trans hF0 hB; clear hB hA4 hR4)
            | (go_at_call 57; refine (HC2.out _ _ _ HR4.out hF1).mono ?_; rintro e w5 ⟨he, hB⟩; subst he; have hF2 : Ext wr w5 := Ext.trans hF1 hB; clear hB))
        all_goals (try go_wp2_with fail)
        all_goals go_ret
        exact ⟨by rw [HD3.out]; rfl, Ext.trans HE.out hF2⟩
end Go.Proofs.YtkfbbkkfagglhaaGreatDoor

/-
  THE WALK OF the reference's Restrict.
-/
namespace Go.Proofs.YtkfbbkkfagglhaaGreatDoor
open Go.RowKit

def keptB (L : List Tm) (bs : List Bd) : List Bd := bs.filter (fun b => hasT L b.1)
theorem keptB_take (L : List Tm) (bs : List Bd) (j : Nat) (h : j < bs.length) : keptB L (bs.take (j + 1)) = keptB L (bs.take j) ++ (if hasT L bs[j].1 = true then [bs[j]] else []) := by
  rw [List.take_succ_eq_append_getElem h]
  unfold keptB
  rw [List.filter_append]
  cases h2 : hasT L bs[j].1 <;> simp [h2]
theorem keptB_len (L : List Tm) (bs : List Bd) : (keptB L bs).length ≤ bs.length := List.length_filter_le _ _
/-- A call that returns a list of bindings, and makes only new memory. -/
def BdsPost (w : World) (bs : List Bd) (e : Ending) (w' : World) : Prop := ∃ ya c, e = .returned (.slice ya bs.length c) ∧ bs.length ≤ c ∧ Row w' (flatB bs) ya ∧ Below w.heap.size w w'

set_option maxHeartbeats 1600000 in
set_option maxRecDepth 100000 in
theorem rrestr_any (bs : List Bd) (ls : List Tm) (xa : Option Addr) (cap : Nat) (lv : Value) (w : World) (hlen : bs.length ≤ 1048576) (hsz : SzB 1048576 bs) (hR : Row w (flatB bs) xa) (hls : sizes ls ≤ 1048576) (hE : Elems (fun b => b < w.heap.size) w ls lv) :
    Calls Tryz.prog 19 #[.slice xa bs.length cap, lv] w (BdsPost w (keptB (setT (subL ls)) bs)) := by
  have HS := Lib.hid (rsub_any ls lv w.heap.size w hls (Nat.le_refl _) hE)
  have HZL := Lib.hid (fun u (hu : u ∈ setT (subL ls)) => (show size u ≤ 1073741824 by have := subL_size ls u ((setT_mem _ _).1 hu); omega))
  have HSZ := Lib.hid hsz
  generalize setT (subL ls) = L at HS HZL ⊢
  obtain ⟨i0, hi0, hz0, hz1, hz2⟩ := info_parts infoBd
  have HI0 := Lib.hid (And.intro hi0 (And.intro hz0 (And.intro hz1 hz2)))
  have HR0 := Lib.hid hR
  clear hR hsz hE hls hi0 hz0 hz1 hz2
  go_enter Tryz.func19, Tryz.ntmps19
  go_wp2_with (go_at_call 59; refine (HS.out).mono ?_; rintro e w2 ⟨v2, he, hE2, hB2⟩; subst he; obtain ⟨xs, caps, hv2, _, hml, hRS⟩ := Elems_row hE2; subst hv2; have HRS := Lib.hid (And.intro hRS hml); have HB2 := Lib.hid hB2; clear hE2 hRS hB2 hml)
  have HR := Lib.hid (Row_below HR0.out HB2.out)
  clear HR0
  go_loopw [5, 7] (fun lv i wr => ∃ j : Nat, j ≤ bs.length ∧ i = .int .i64 j ∧ BdsIn w2.heap.size w2.heap.size wr (keptB L (bs.take j)) lv ∧ Below w2.heap.size w2 wr) (fun _ i _ => bs.length - (intOf i).toNat)
  case atStart => exact ⟨0, Nat.zero_le _, rfl, BdsIn_nil _ _ _, Below.refl _ _⟩
  case round =>
    obtain ⟨j, hj, rfl, hO, hB⟩ := hrel
    obtain ⟨xl, lcap, rfl⟩ := BdsIn_form hO
    by_cases hlt : j < bs.length
    rotate_left
    · have hjl : j = bs.length := by omega
      rw [hjl, List.take_length] at hO ⊢
      have HRO := Lib.hid (BdsIn_row hO)
      have HB := Lib.hid hB
      clear hO hB hjl
      go_wp2_with fail
      go_ret
      exact ⟨xl, lcap, rfl, HRO.out.2, HRO.out.1, Ext.trans HB2.out HB.out⟩
    have hnj := keptB_len L (bs.take j)
    rw [List.length_take] at hnj
    have hHit := keptB_take L bs j hlt
    generalize keptB L (bs.take j) = acc at hO hnj hHit ⊢
    obtain ⟨F, cs, hown, hK, hF⟩ := hO
    obtain ⟨n, hn⟩ : ∃ n, n = acc.length := ⟨_, rfl⟩
    rw [← hn] at hown hF hnj ⊢
    have HNL := Lib.hid hn
    clear hn
    obtain ⟨b, o, rfl⟩ := Row_at HR.out (by rw [flatB_length]; omega)
    obtain ⟨⟨v0, v1, v2, v3, g0, g1, g2, g3, hI1⟩, t0, t1, t2, t3, g4, g5, g6, g7, hI2⟩ := bds_get HR.out j hlt
    obtain ⟨k1, n1, s1, ya1, yl1, yc1, rfl, rfl, rfl, rfl⟩ := Is_form hI1
    obtain ⟨k2, n2, s2, ya2, yl2, yc2, rfl, rfl, rfl, rfl⟩ := Is_form hI2
    rw [Nat.add_assoc] at g5 g6 g7
    have hz1 := HSZ.out bs[j] (List.getElem_mem hlt)
    have HC2 := Lib.hid (rhas_any L bs[j].1 xs caps _ _ _ _ wr HRS.out.2 HZL.out (by omega) (Row_below HRS.out.1 hB) (Is_below hI1 hB))
    have hG : ∀ W, Ext wr W → ((W.cell? ⟨b, o + j * 8, none⟩ = some (.int .i64 k1) ∧ W.cell? ⟨b, o + j * 8 + 1, none⟩ = some (.string n1) ∧ W.cell? ⟨b, o + j * 8 + 2, none⟩ = some (.int .i64 s1) ∧ W.cell? ⟨b, o + j * 8 + 3, none⟩ = some (.slice ya1 yl1 yc1)) ∧ (W.cell? ⟨b, o + j * 8 + 4, none⟩ = some (.int .i64 k2) ∧ W.cell? ⟨b, o + j * 8 + 5, none⟩ = some (.string n2) ∧ W.cell? ⟨b, o + j * 8 + 6, none⟩ = some (.int .i64 s2) ∧ W.cell? ⟨b, o + j * 8 + 7, none⟩ = some (.slice ya2 yl2 yc2))) := fun W h => ⟨⟨keep_below (Ext.trans hB h) _ _ g0, keep_below (Ext.trans hB h) _ _ g1, keep_below (Ext.trans hB h) _ _ g2, keep_below (Ext.trans hB h) _ _ g3⟩, ⟨keep_below (Ext.trans hB h) _ _ g4, keep_below (Ext.trans hB h) _ _ g5, keep_below (Ext.trans hB h) _ _ g6, keep_below (Ext.trans hB h) _ _ g7⟩⟩
    have HG := Lib.hid hG
    have HB := Lib.hid hB
    have HO := Lib.hid (fun W (x : Ext wr W) => own_heap hown (fun q hq => x.block q (hown.lt q hq).2))
    have hws := hB.size
    have hcl : cs.length = n * 8 := hown.1
    have i1 : (0 : Int) ≤ (j : Int) := by omega
    have i2 : (j : Int) < (bs.length : Int) := by omega
    obtain ⟨⟨p0, p1, p2, p3⟩, p4, p5, p6, p7⟩ := hG wr (Ext.refl _)
    clear g0 g1 g2 g3 g4 g5 g6 g7 hG
    cases hcv : hasT L bs[j].1
    · rw [hcv] at HC2 hHit
      have HH : Hid (keptB L (bs.take (j + 1)) = acc) := by show _ = _; rw [hHit]; simp
      have HNO : Hid (∀ W, Ext wr W → BdsIn w2.heap.size w2.heap.size W acc (.slice xl n lcap)) := by
        show ∀ _, _
        intro W x
        have hxs := x.size
        exact ⟨F, cs, by rw [← HNL.out]; exact HO.out W x, KC_carry (fun q hq => x.block q (by have := (hF q hq).1; omega)) (fun _ h => h) _ _ hK, fun q hq => ⟨by have := (hF q hq).1; omega, (hF q hq).2⟩⟩
      clear hHit hcv hown hK hF hI1 hI2 hB hz1
      go_wp2_with (go_at_call 57; refine (HC2.out).mono ?_; rintro e w5 ⟨he, hB⟩; subst he; have HB5 := Lib.hid hB; clear hB)
      go_roundw
      case rel =>
        refine ⟨j + 1, by omega, by go_num, ?_, HB.out.trans (HB5.out.mono HB.out.size)⟩
        rw [HH.out]
        exact HNO.out _ HB5.out
      case measure => simp [intOf]; omega
    · rw [hcv] at HC2 hHit
      have HH : Hid (keptB L (bs.take (j + 1)) = acc ++ [bs[j]]) := by show _ = _; rw [hHit]; simp
      have HPU : Hid (∀ w6, Ext wr w6 → ∀ g cap w8 ob, w8.ownsRow w2.heap.size 53 8 (.slice (some ⟨g, 0, none⟩) (n + 1) cap) (n + 1) (cs ++ [.int .i64 k1, .string n1, .int .i64 s1, .slice ya1 yl1 yc1, .int .i64 k2, .string n2, .int .i64 s2, .slice ya2 yl2 yc2]) → (w6.alloc ob).grownBy w8 (Value.slice xl n lcap).ownBlock → ((Value.slice xl n lcap).ownBlock = some g ∨ g = w6.heap.size + 1) →
          BdsIn w2.heap.size w2.heap.size w8 (keptB L (bs.take (j + 1))) (.slice (some ⟨g, 0, none⟩) (n + 1) cap) ∧ Below w2.heap.size w2 w8) := by
        show ∀ _, _
        intro w6 hE6 g cap w8 ob ho8 hg hat
        have hE2 : Ext w2 w6 := Ext.trans HB.out hE6
        have r := BdsIn_push HNL.out hown hK hF (Nat.le_refl _) hws hE6 (IsIn_carry (fun b hb => hE2.block b hb) (fun b hb => Or.inl hb) _ _ _ _ _ (Is_IsIn _ _ _ _ _ hI1)) (IsIn_carry (fun b hb => hE2.block b hb) (fun b hb => Or.inl hb) _ _ _ _ _ (Is_IsIn _ _ _ _ _ hI2)) ho8 hg hat
        rw [HH.out]
        exact ⟨r.1, HB.out.trans r.2.2⟩
      clear hHit hcv hown hK hF hI1 hI2 hB hz1
      go_wp2_with (first
        | (go_at_call 57; refine (HC2.out).mono ?_; rintro e w5 ⟨he, hB⟩; subst he; have HB5 := Lib.hid hB; have HO5 := Lib.hid (HO.out _ hB); have hw5 : w2.heap.size ≤ w5.heap.size := Nat.le_trans hws hB.size; obtain ⟨⟨q0, q1, q2, q3⟩, q4, q5, q6, q7⟩ := HG.out _ hB; clear hB)
        | (at_builtin; refine wpList_append_lies _ rfl _ _ _ rfl w2.heap.size 53 i0 _ 8 112 Tryz.underlying22 HI0.out.1 HI0.out.2.1 HI0.out.2.2.1 HI0.out.2.2.2 rfl (by omega) (.slice xl n lcap) n cs rfl (HO5.out.alloc _) ⟨w5.heap.size, 0, none⟩ 1 1 [.int .i64 k1, .string n1, .int .i64 s1, .slice ya1 yl1 yc1, .int .i64 k2, .string n2, .int .i64 s2, .slice ya2 yl2 yc2] rfl rfl (World.news_of_block (cs := #[.int .i64 k1, .string n1, .int .i64 s1, .slice ya1 yl1 yc1, .int .i64 k2, .string n2, .int .i64 s2, .slice ya2 yl2 yc2]) (t := 53) (fr := (0, 0)) (heap_alloc_new w5 _)) (by simp [Value.oneCell']) (by omega) (by unfold maxLen; omega) (by omega) (by simp; omega) (w5.heap.size + 1) (by simp) ?_; intro gg cap8 w8 hown8 hgrow hat hltt; have HN := Lib.hid (HPU.out _ HB5.out _ _ _ _ hown8 hgrow hat); clear hown8 hgrow hat hltt))
      go_roundw
      case rel => exact ⟨j + 1, by omega, by go_num, HN.out.1, HN.out.2⟩
      case measure => simp [intOf]; omega
end Go.Proofs.YtkfbbkkfagglhaaGreatDoor
