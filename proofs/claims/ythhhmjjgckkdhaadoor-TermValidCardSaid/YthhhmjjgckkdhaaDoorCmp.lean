/-
  THE WALKS OF the comparisons: number, cmp.Compare, cmp.Or.
-/
import Derived.Test.YthhhmjjgckkdhaaDoorProg
import Derived.Test.YthhhmjjgckkdhaaDoorSize
import Derived.WalkLawsBesides
import Derived.Outline
namespace Go.Proofs.YthhhmjjgckkdhaaDoor
open Go.RowKit

set_option maxHeartbeats 400000 in
theorem number_any (a b : Int) (w : World) :
    Calls Tryd.prog 58 #[.int .i64 a, .int .i64 b] w fun e w' => e = .returned (.int .i64 (num a b)) ∧ w = w' := by
  by_cases h : a < b
  · go_enter Tryd.func58, Tryd.ntmps58
    go_wp2_with fail
    go_ret
    exact ⟨by simp [num, h], rfl⟩
  · by_cases h2 : b < a
    · go_enter Tryd.func58, Tryd.ntmps58
      go_wp2_with fail
      go_ret
      exact ⟨by simp [num, h2]; omega, rfl⟩
    · go_enter Tryd.func58, Tryd.ntmps58
      go_wp2_with fail
      go_ret
      exact ⟨by simp [num]; omega, rfl⟩

theorem isNaN_any (a : Int) (w : World) :
    Calls Tryd.prog 97 #[.int .i64 a] w fun e w' => e = .returned (.bool false) ∧ w = w' := by
  go_enter Tryd.func97, Tryd.ntmps97
  go_wp2_with fail
  go_ret
  exact ⟨by simp, rfl⟩

set_option maxHeartbeats 400000 in
theorem Compare_int_any (a b : Int) (w : World) :
    Calls Tryd.prog 80 #[.int .i64 a, .int .i64 b] w fun e w' => e = .returned (.int .i64 (num a b)) ∧ w = w' := by
  by_cases h : a < b
  · go_enter Tryd.func80, Tryd.ntmps80
    go_wp2_with (go_at_call 97; refine (isNaN_any _ _).mono ?_; rintro e w' ⟨rfl, rfl⟩)
    go_ret
    exact ⟨by simp [num, h], rfl⟩
  · by_cases h2 : b < a
    · go_enter Tryd.func80, Tryd.ntmps80
      go_wp2_with (go_at_call 97; refine (isNaN_any _ _).mono ?_; rintro e w' ⟨rfl, rfl⟩)
      go_ret
      exact ⟨by simp [num, h2]; omega, rfl⟩
    · go_enter Tryd.func80, Tryd.ntmps80
      go_wp2_with (go_at_call 97; refine (isNaN_any _ _).mono ?_; rintro e w' ⟨rfl, rfl⟩)
      go_ret
      exact ⟨by simp [num]; omega, rfl⟩

theorem orl_drop (xs : List Int) (j : Nat) (h : j < xs.length) : orl (xs.drop j) = orr xs[j] (orl (xs.drop (j + 1))) := by
  rw [List.drop_eq_getElem_cons h]; rfl

set_option maxHeartbeats 400000 in
theorem Or_any (xs : List Int) (b o : Nat) (w : World) (hl : xs.length ≤ 1000) (hc : ∀ i (h : i < xs.length), w.cell? ⟨b, o + i, none⟩ = some (.int .i64 xs[i])) :
    Calls Tryd.prog 79 #[.slice (some ⟨b, o, none⟩) xs.length xs.length] w fun e w' => e = .returned (.int .i64 (orl xs)) ∧ w = w' := by
  have HC : Hid (∀ i (h : i < xs.length), w.cell? ⟨b, o + i, none⟩ = some (.int .i64 xs[i])) := hc
  clear hc
  go_enter Tryd.func79, Tryd.ntmps79
  go_wp2_with fail
  go_loop [8] (fun i => ∃ j : Nat, j ≤ xs.length ∧ i = .int .i64 j ∧ Hid (orl xs = orl (xs.drop j))) (fun i => xs.length - (intOf i).toNat)
  case atStart => exact ⟨0, Nat.zero_le _, rfl, rfl⟩
  case round =>
    obtain ⟨j, hj, rfl, HO⟩ := hrel
    by_cases hlt : j < xs.length
    · have hcj := HC.out j hlt
      have hd := orl_drop xs j hlt
      by_cases hz : xs[j] = 0
      · have HO' : Hid (orl xs = orl (xs.drop (j + 1))) := by show _ = _; rw [HO.out, hd, orr, if_pos hz]
        have hb : (xs[j] != 0) = false := by simp [hz]
        rw [hz] at hcj
        clear hd hz HO hb
        go_wp2_with fail
        go_round
        case rel => exact ⟨j + 1, by omega, by go_num, HO'⟩
        case measure => simp [intOf]; omega
      · have HO' : Hid (orl xs = xs[j]) := by show _ = _; rw [HO.out, hd, orr, if_neg hz]
        have hb : (xs[j] != 0) = true := by simp [hz]
        clear hd HO
        generalize xs[j] = x at *
        clear hz
        go_wp2_with fail
        go_ret
        exact ⟨by rw [HO'.out]; rfl, rfl⟩
    · have hjl : xs.drop j = [] := List.drop_eq_nil_of_le (by omega)
      have HO' : Hid (orl xs = 0) := by show _ = _; rw [HO.out, hjl]; rfl
      clear hjl HO
      go_wp2_with fail
      go_ret
      exact ⟨by rw [HO'.out]; rfl, rfl⟩

theorem Or2_any (x y : Int) (b : Nat) (w : World) (h0 : w.cell? ⟨b, 0, none⟩ = some (.int .i64 x)) (h1 : w.cell? ⟨b, 1, none⟩ = some (.int .i64 y)) :
    Calls Tryd.prog 79 #[.slice (some ⟨b, 0, none⟩) 2 2] w fun e w' => e = .returned (.int .i64 (orr x y)) ∧ w = w' := by
  refine (Or_any [x, y] b 0 w (by simp) ?_).mono ?_
  · intro i h
    match i, h with
    | 0, _ => exact h0
    | 1, _ => exact h1
  · rintro e w' ⟨rfl, rfl⟩
    refine ⟨?_, rfl⟩
    have : orl [x, y] = orr x y := by simp only [orl, orr]; split <;> (try split) <;> simp_all
    rw [this]
theorem Or4_any (x y z u : Int) (b : Nat) (w : World) (h0 : w.cell? ⟨b, 0, none⟩ = some (.int .i64 x)) (h1 : w.cell? ⟨b, 1, none⟩ = some (.int .i64 y)) (h2 : w.cell? ⟨b, 2, none⟩ = some (.int .i64 z)) (h3 : w.cell? ⟨b, 3, none⟩ = some (.int .i64 u)) :
    Calls Tryd.prog 79 #[.slice (some ⟨b, 0, none⟩) 4 4] w fun e w' => e = .returned (.int .i64 (orr x (orr y (orr z u)))) ∧ w = w' := by
  refine (Or_any [x, y, z, u] b 0 w (by simp) ?_).mono ?_
  · intro i h
    match i, h with
    | 0, _ => exact h0
    | 1, _ => exact h1
    | 2, _ => exact h2
    | 3, _ => exact h3
  · rintro e w' ⟨rfl, rfl⟩
    refine ⟨?_, rfl⟩
    have : orl [x, y, z, u] = orr x (orr y (orr z u)) := by
      simp only [orl]
      have : orr u 0 = u := by simp only [orr]; split <;> simp_all
      rw [this]
    rw [this]

theorem cells_new (w : World) (cs : Array Value) (T : TypeId) (i : Nat) (v : Value) (h : cs[i]? = some v) : (w.alloc (.cells cs T)).cell? ⟨w.heap.size, i, none⟩ = some v := by
  unfold World.cell?; rw [heap_alloc_new]; exact h

theorem cells_new_d (w : World) (cs : Array Value) (T : TypeId) (i : Nat) (v : Value) (h : cs[i]? = some v) : (w.alloc (.cells cs T)).drew.cell? ⟨w.heap.size, i, none⟩ = some v := cells_new w cs T i v h

end Go.Proofs.YthhhmjjgckkdhaaDoor
