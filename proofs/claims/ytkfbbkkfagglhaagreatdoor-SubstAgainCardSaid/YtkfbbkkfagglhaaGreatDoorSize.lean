/-
  THE WALKS OF term.size, term.Size, term.depth, term.Depth and of the reference's Size and Depth.
-/
import Derived.Test.YtkfbbkkfagglhaaGreatDoorProg
import Derived.Test.YtkfbbkkfagglhaaGreatDoorMem
import Derived.Outline
namespace Go.Proofs.YtkfbbkkfagglhaaGreatDoor
open Go.RowKit

set_option maxHeartbeats 400000 in
theorem size_any (m : Nat) : ∀ (t : Tm) (b o : Nat) (w : World), size t ≤ m → m ≤ 4611686018427387904 → Lies w t b o →
    Calls Tryz.prog 168 #[.pointer (some ⟨b, o, none⟩)] w fun e w' => e = .returned (.int .i64 (size t)) ∧ w = w' := by
  induction m with
  | zero => intro t b o w h; have := size_pos t; omega
  | succ m ih =>
    intro t b o w hm hM hL
    obtain ⟨k, n, s, ks⟩ := t
    obtain ⟨g0, g1, g2, _, _, _, hl, xa, cap, g3, hcap, hR⟩ := Lies_mk hL
    clear g0 g1 g2 hL
    unfold maxLen at hl
    have hm2 : sizes ks ≤ m := by simp only [size] at hm; omega
    clear hm
    go_enter Tryz.func168, Tryz.ntmps168
    go_wp2_with fail
    go_loop [3, 10] (fun n i => ∃ j : Nat, j ≤ ks.length ∧ i = .int .i64 j ∧ n = .int .i64 ((1 + sizes (ks.take j) : Nat) : Int)) (fun _ i => ks.length - (intOf i).toNat)
    case atStart => exact ⟨0, Nat.zero_le _, rfl, rfl⟩
    case round =>
      obtain ⟨j, hj, rfl, rfl⟩ := hrel
      by_cases hlt : j < ks.length
      · obtain ⟨kb, ko, rfl⟩ := Row_at hR (by omega)
        have hK := Row_get hR j hlt
        have hsz := sizes_take ks j hlt
        have hle := sizes_take_le ks (j + 1)
        have hsz1 : sizes (ks.take j) + size ks[j] ≤ m := by omega
        have H : Hid (sizes (ks.take (j + 1)) = sizes (ks.take j) + size ks[j]) := hsz
        clear hsz hle
        go_wp2_with (go_at_call 168; refine (ih ks[j] kb (ko + j * 4) w (by omega) (by omega) hK).mono ?_; rintro e w' ⟨rfl, rfl⟩)
        go_round
        case rel => exact ⟨j + 1, by omega, by go_num, by rw [H.out]; go_num⟩
        case measure => simp [intOf]; omega
      · have hjl : j = ks.length := by omega
        have hfin : Hid (1 + sizes (ks.take j) = size (.mk k n s ks)) := by show _ = _; rw [hjl, List.take_length]; rfl
        clear hjl
        go_wp2_with fail
        go_ret
        refine ⟨?_, rfl⟩
        rw [← hfin.out]; go_num


set_option maxHeartbeats 400000 in
theorem Size_any (t : Tm) (c0 c1 c2 c3 : Value) (w : World) (hM : size t ≤ 4611686018427387904) (hI : Is w t c0 c1 c2 c3) :
    Calls Tryz.prog 142 #[.agg #[c0, c1, c2, c3]] w fun e w' => e = .returned (.int .i64 (size t)) ∧ Below w.heap.size w w' := by
  go_enter Tryz.func142, Tryz.ntmps142
  go_wp2_with (go_at_call 168; refine (size_any _ t _ _ _ (Nat.le_refl _) hM (Lies_box hI 36)).mono ?_; rintro e w' ⟨rfl, rfl⟩)
  go_ret
  exact ⟨rfl, (Below.refl _ _).alloc (Nat.le_refl _) _⟩

set_option maxHeartbeats 400000 in
theorem rsize_any (m : Nat) : ∀ (t : Tm) (c0 c1 c2 c3 : Value) (w : World), size t ≤ m → m ≤ 4611686018427387904 → Is w t c0 c1 c2 c3 →
    Calls Tryz.prog 76 #[.agg #[c0, c1, c2, c3]] w fun e w' => e = .returned (.int .i64 (size t)) ∧ Below w.heap.size w w' := by
  induction m with
  | zero => intro t c0 c1 c2 c3 w h; have := size_pos t; omega
  | succ m ih =>
    intro t c0 c1 c2 c3 w hm hM hI
    obtain ⟨k, n, s, ks⟩ := t
    simp only [Is] at hI
    obtain ⟨rfl, rfl, rfl, _, _, _, hl, xa, cap, rfl, hcap, hR⟩ := hI
    unfold maxLen at hl
    have hm2 : sizes ks ≤ m := by simp only [size] at hm; omega
    clear hm
    go_enter Tryz.func76, Tryz.ntmps76
    go_wp2_with fail
    go_loopw [3, 4] (fun n' i wr => ∃ j : Nat, j ≤ ks.length ∧ i = .int .i64 j ∧ n' = .int .i64 ((1 + sizes (ks.take j) : Nat) : Int) ∧ Below (w.heap.size + 1) (w.alloc (.cells #[.int .i64 k, .string n, .int .i64 s, .slice xa ks.length cap] 36)) wr) (fun _ i _ => ks.length - (intOf i).toNat)
    case atStart => exact ⟨0, Nat.zero_le _, rfl, rfl, Below.refl _ _⟩
    case round =>
      obtain ⟨j, hj, rfl, rfl, hB⟩ := hrel
      obtain ⟨_, _, _, g3⟩ := box_kept hB
      by_cases hlt : j < ks.length
      · obtain ⟨kb, ko, rfl⟩ := Row_at hR (by omega)
        have hK := Row_get (Row_below hR (below_box hB)) j hlt
        obtain ⟨e0, e1, e2, e3, k0, k1, k2, k3, hKI⟩ := hK
        have hsz := sizes_take ks j hlt
        have hle := sizes_take_le ks (j + 1)
        have hsz1 : sizes (ks.take j) + size ks[j] ≤ m := by omega
        have H : Hid (sizes (ks.take (j + 1)) = sizes (ks.take j) + size ks[j]) := hsz
        clear hsz hle
        go_wp2_with (go_at_call 76; refine (ih ks[j] _ _ _ _ _ (by omega) (by omega) hKI).mono ?_; rintro e w' ⟨rfl, hB'⟩)
        go_roundw
        case rel => exact ⟨j + 1, by omega, by go_num, by rw [H.out]; go_num, hB.trans (hB'.mono (by have := hB.size; simpa using this))⟩
        case measure => simp [intOf]; omega
      · have hjl : j = ks.length := by omega
        have hfin : Hid (1 + sizes (ks.take j) = size (.mk k n s ks)) := by show _ = _; rw [hjl, List.take_length]; rfl
        clear hjl
        go_wp2_with fail
        go_ret
        refine ⟨?_, below_box hB⟩
        rw [← hfin.out]; go_num

end Go.Proofs.YtkfbbkkfagglhaaGreatDoor

/-
  THE WALKS OF term.depth, term.Depth and of the reference's Depth.
-/
namespace Go.Proofs.YtkfbbkkfagglhaaGreatDoor
open Go.RowKit

theorem depths_le_sizes (l : List Tm) : depths l ≤ sizes l := by
  induction l with
  | nil => simp [depths, sizes]
  | cons a l ih => have := depth_le_size a; simp only [depths, sizes]; omega

set_option maxHeartbeats 400000 in
theorem depth_any (m : Nat) : ∀ (t : Tm) (b o : Nat) (w : World), size t ≤ m → m ≤ 4611686018427387904 → Lies w t b o →
    Calls Tryz.prog 191 #[.pointer (some ⟨b, o, none⟩)] w fun e w' => e = .returned (.int .i64 (depth t)) ∧ w = w' := by
  induction m with
  | zero => intro t b o w h; have := size_pos t; omega
  | succ m ih =>
    intro t b o w hm hM hL
    obtain ⟨k, n, s, ks⟩ := t
    obtain ⟨g0, g1, g2, _, _, _, hl, xa, cap, g3, hcap, hR⟩ := Lies_mk hL
    clear g0 g1 g2 hL
    unfold maxLen at hl
    have hm2 : sizes ks ≤ m := by simp only [size] at hm; omega
    clear hm
    go_enter Tryz.func191, Tryz.ntmps191
    go_wp2_with fail
    go_loop [3, 10] (fun n i => ∃ j : Nat, j ≤ ks.length ∧ i = .int .i64 j ∧ n = .int .i64 ((depths (ks.take j) : Nat) : Int)) (fun _ i => ks.length - (intOf i).toNat)
    case atStart => exact ⟨0, Nat.zero_le _, rfl, rfl⟩
    case round =>
      obtain ⟨j, hj, rfl, rfl⟩ := hrel
      by_cases hlt : j < ks.length
      · obtain ⟨kb, ko, rfl⟩ := Row_at hR (by omega)
        have hK := Row_get hR j hlt
        have hsz := sizes_take ks j hlt
        have hle := sizes_take_le ks (j + 1)
        have hsz1 : sizes (ks.take j) + size ks[j] ≤ m := by omega
        have hd1 : depths (ks.take j) ≤ m := by have := depths_le_sizes (ks.take j); omega
        have hd2 : depth ks[j] ≤ m := by have := depth_le_size ks[j]; omega
        have H : Hid (depths (ks.take (j + 1)) = max (depths (ks.take j)) (depth ks[j])) := depths_take ks j hlt
        clear hsz hle
        go_wp2_with (go_at_call 191; refine (ih ks[j] kb (ko + j * 4) w (by omega) (by omega) hK).mono ?_; rintro e w' ⟨rfl, rfl⟩)
        go_round
        case rel => exact ⟨j + 1, by omega, by go_num, by rw [H.out]; go_num⟩
        case measure => simp [intOf]; omega
      · have hjl : j = ks.length := by omega
        have hfin : Hid (depths (ks.take j) + 1 = depth (.mk k n s ks)) := by show _ = _; rw [hjl, List.take_length]; rfl
        have hd1 : depths (ks.take j) ≤ m := by have := depths_le_sizes (ks.take j); have := sizes_take_le ks j; omega
        clear hjl
        go_wp2_with fail
        go_ret
        refine ⟨?_, rfl⟩
        rw [← hfin.out]; go_num


set_option maxHeartbeats 400000 in
theorem Depth_any (t : Tm) (c0 c1 c2 c3 : Value) (w : World) (hM : size t ≤ 4611686018427387904) (hI : Is w t c0 c1 c2 c3) :
    Calls Tryz.prog 151 #[.agg #[c0, c1, c2, c3]] w fun e w' => e = .returned (.int .i64 (depth t)) ∧ Below w.heap.size w w' := by
  go_enter Tryz.func151, Tryz.ntmps151
  go_wp2_with (go_at_call 191; refine (depth_any _ t _ _ _ (Nat.le_refl _) hM (Lies_box hI 36)).mono ?_; rintro e w' ⟨rfl, rfl⟩)
  go_ret
  exact ⟨rfl, (Below.refl _ _).alloc (Nat.le_refl _) _⟩

set_option maxHeartbeats 400000 in
theorem rdepth_any (m : Nat) : ∀ (t : Tm) (c0 c1 c2 c3 : Value) (w : World), size t ≤ m → m ≤ 4611686018427387904 → Is w t c0 c1 c2 c3 →
    Calls Tryz.prog 77 #[.agg #[c0, c1, c2, c3]] w fun e w' => e = .returned (.int .i64 (depth t)) ∧ Below w.heap.size w w' := by
  induction m with
  | zero => intro t c0 c1 c2 c3 w h; have := size_pos t; omega
  | succ m ih =>
    intro t c0 c1 c2 c3 w hm hM hI
    obtain ⟨k, n, s, ks⟩ := t
    simp only [Is] at hI
    obtain ⟨rfl, rfl, rfl, _, _, _, hl, xa, cap, rfl, hcap, hR⟩ := hI
    unfold maxLen at hl
    have hm2 : sizes ks ≤ m := by simp only [size] at hm; omega
    clear hm
    go_enter Tryz.func77, Tryz.ntmps77
    go_wp2_with fail
    go_loopw [3, 4] (fun n' i wr => ∃ j : Nat, j ≤ ks.length ∧ i = .int .i64 j ∧ n' = .int .i64 ((depths (ks.take j) : Nat) : Int) ∧ Below (w.heap.size + 1) (w.alloc (.cells #[.int .i64 k, .string n, .int .i64 s, .slice xa ks.length cap] 36)) wr) (fun _ i _ => ks.length - (intOf i).toNat)
    case atStart => exact ⟨0, Nat.zero_le _, rfl, rfl, Below.refl _ _⟩
    case round =>
      obtain ⟨j, hj, rfl, rfl, hB⟩ := hrel
      obtain ⟨_, _, _, g3⟩ := box_kept hB
      by_cases hlt : j < ks.length
      · obtain ⟨kb, ko, rfl⟩ := Row_at hR (by omega)
        have hK := Row_get (Row_below hR (below_box hB)) j hlt
        obtain ⟨e0, e1, e2, e3, k0, k1, k2, k3, hKI⟩ := hK
        have hsz := sizes_take ks j hlt
        have hle := sizes_take_le ks (j + 1)
        have hsz1 : sizes (ks.take j) + size ks[j] ≤ m := by omega
        have hd1 : depths (ks.take j) ≤ m := by have := depths_le_sizes (ks.take j); omega
        have hd2 : depth ks[j] ≤ m := by have := depth_le_size ks[j]; omega
        have H : Hid (depths (ks.take (j + 1)) = max (depths (ks.take j)) (depth ks[j])) := depths_take ks j hlt
        clear hsz hle
        go_wp2_with (go_at_call 77; refine (ih ks[j] _ _ _ _ _ (by omega) (by omega) hKI).mono ?_; rintro e w' ⟨rfl, hB'⟩)
        go_roundw
        case rel => exact ⟨j + 1, by omega, by go_num, by rw [H.out]; go_num, hB.trans (hB'.mono (by have := hB.size; simpa using this))⟩
        case measure => simp [intOf]; omega
      · have hjl : j = ks.length := by omega
        have hfin : Hid (depths (ks.take j) + 1 = depth (.mk k n s ks)) := by show _ = _; rw [hjl, List.take_length]; rfl
        have hd1 : depths (ks.take j) ≤ m := by have := depths_le_sizes (ks.take j); have := sizes_take_le ks j; omega
        clear hjl
        go_wp2_with fail
        go_ret
        refine ⟨?_, below_box hB⟩
        rw [← hfin.out]; go_num

end Go.Proofs.YtkfbbkkfagglhaaGreatDoor
