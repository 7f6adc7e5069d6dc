/-
  THE WALKS OF the reference's Few, One, Atom.
-/
import Derived.Test.YthhhmjjgckkdhaaDoorRefb
namespace Go.Proofs.YthhhmjjgckkdhaaDoor
open Go.RowKit

set_option maxHeartbeats 800000 in
theorem few_any (l : List Tm) (xa : Option Addr) (cap : Nat) (n most : Int) (w : World) (hl : l.length ≤ maxLen) (h1 : most ≤ 4611686018427387904) (h2 : -9223372036854775808 ≤ most) (hR : Row w l xa) :
    Calls Tryd.prog 24 #[.slice xa l.length cap, .int .i64 n, .int .i64 most] w fun e w' => e = .returned (.bool (few l n most)) ∧ Below w.heap.size w w' := by
  unfold maxLen at hl
  by_cases hn : n < (l.length : Int)
  · have HF : Hid (few l n most = false) := by show _ = _; simp [few, hn]
    go_enter Tryd.func24, Tryd.ntmps24
    go_wp2_with fail
    go_ret
    exact ⟨by rw [HF.out]; rfl, Below.refl _ _⟩
  have HF : Hid (few l n most = fewL l most) := by show _ = _; simp only [few]; rw [if_neg hn]
  go_enter Tryd.func24, Tryd.ntmps24
  go_wp2_with fail
  go_loopw [2, 7] (fun mo i wr => ∃ (j : Nat) (r : Int), j ≤ l.length ∧ i = .int .i64 j ∧ mo = .int .i64 r ∧ -9223372036854775808 ≤ r ∧ r ≤ 4611686018427387904 ∧ Hid (fewL l most = fewL (l.drop j) r) ∧ Below w.heap.size w wr) (fun _ i _ => l.length - (intOf i).toNat)
  case atStart => exact ⟨0, most, Nat.zero_le _, rfl, rfl, h2, h1, rfl, Below.refl _ _⟩
  case round =>
    obtain ⟨j, r, hj, rfl, rfl, hr1, hr2, HD, hBr⟩ := hrel
    by_cases hlt : j < l.length
    · obtain ⟨kb, ko, rfl⟩ := Row_at hR (by omega)
      obtain ⟨x0, x1, x2, x3, p0, p1, p2, p3, hKI⟩ := Row_get (Row_below hR hBr) j hlt
      have hd := fewL_drop l j hlt r
      have hrg := bud_range l[j] r
      have HIH := Lib.hid (budget_any 4611686018427387904 l[j] x0 x1 x2 x3 r wr)
      generalize hcv : bud l[j] r = cv at hd HIH hrg
      have HD2 := Lib.hid hd
      have hc1 : -1 ≤ cv := hrg.1
      have hc2 : cv ≤ 4611686018427387904 := by omega
      clear hd hcv hrg
      by_cases hc : cv < 0
      · have HD3 : Hid (fewL l most = false) := by show _ = _; rw [HD.out, HD2.out, if_pos hc]
        go_wp2_with (go_at_call 56; refine (HIH.out (by omega) (by omega) (by omega) hKI).mono ?_; rintro e w2 ⟨rfl, hB2⟩)
        go_ret
        exact ⟨by rw [HF.out, HD3.out]; rfl, hBr.trans (hB2.mono hBr.size)⟩
      · have HD3 : Hid (fewL l most = fewL (l.drop (j + 1)) cv) := by show _ = _; rw [HD.out, HD2.out, if_neg hc]
        go_wp2_with (go_at_call 56; refine (HIH.out (by omega) (by omega) (by omega) hKI).mono ?_; rintro e w2 ⟨rfl, hB2⟩)
        go_roundw
        case rel => exact ⟨j + 1, cv, by omega, by go_num, rfl, by omega, by omega, HD3, hBr.trans (hB2.mono hBr.size)⟩
        case measure => simp [intOf]; omega
    · have hjl : l.drop j = [] := List.drop_eq_nil_of_le (by omega)
      have HD3 : Hid (fewL l most = true) := by show _ = _; rw [HD.out, hjl]; rfl
      clear hjl
      go_wp2_with fail
      go_ret
      exact ⟨by rw [HF.out, HD3.out]; rfl, hBr⟩

set_option maxHeartbeats 400000 in
theorem one_any (t : Tm) (c0 c1 c2 c3 : Value) (w : World) (hI : Is w t c0 c1 c2 c3) :
    Calls Tryd.prog 12 #[.agg #[c0, c1, c2, c3]] w fun e w' => e = .returned (.bool (few [t] 1 450)) ∧ Below w.heap.size w w' := by
  obtain ⟨b0, b1, b2, b3⟩ := box_kept (Below.refl (w.heap.size + 1) (w.alloc (.cells #[c0, c1, c2, c3] 24)))
  have hR : Row ((w.alloc (.cells #[c0, c1, c2, c3] 24)).alloc (.cells #[c0, c1, c2, c3] 24)) [t] (some ⟨w.heap.size + 1, 0, none⟩) := by
    have h1 := Lies_box (Is_alloc hI (.cells #[c0, c1, c2, c3] 24)) 24
    simp only [World.size_alloc] at h1
    exact Row_cons_mk h1 (by simp [Row])
  have HC := Lib.hid (few_any [t] _ 1 1 450 _ (by simp [maxLen]) (by omega) (by omega) hR)
  clear hR hI
  go_enter Tryd.func12, Tryd.ntmps12
  go_wp2_with (go_at_call 24; refine (HC.out).mono ?_; rintro e w' ⟨rfl, hB⟩)
  go_ret
  exact ⟨rfl, (((Below.refl _ _).alloc (Nat.le_refl _) _).alloc (by simp) _).trans (hB.mono (by simp; omega))⟩

theorem one_size {t : Tm} (h : few [t] 1 450 = true) : size t ≤ 450 := by
  simp only [few] at h
  rw [if_neg (by simp)] at h
  have := fewL_sizes [t] 450 (by omega) h
  simp only [sizes] at this; omega

set_option maxHeartbeats 400000 in
theorem atom_any (n : ByteArray) (s : Int) (w : World) :
    Calls Tryd.prog 44 #[.string n, .int .i64 s] w fun e w' => e = .returned (.agg #[.int .i64 2, .string n, .int .i64 s, .slice none 0 0]) ∧ Below w.heap.size w w' := by
  go_enter Tryd.func44, Tryd.ntmps44
  go_wp2_with fail
  exact bodyPost_ret (v := .agg #[.int .i64 2, .string n, .int .i64 s, .slice none 0 0]) (by simp [results, Tryd.results44, go_sem]) rfl ⟨rfl, (Below.refl _ _).alloc (Nat.le_refl _) _⟩

end Go.Proofs.YthhhmjjgckkdhaaDoor
