/-
  THE ORDER OF NODES: term.compareNodes, and the equality that setOf compacts by.
-/
import Derived.Test.YtkfbbkkfagglhaaGreatDoorCmp
import Derived.Sort.Grow
import Derived.Deep.Draws
namespace Go.Proofs.YtkfbbkkfagglhaaGreatDoor
open Go.RowKit

theorem Gr.grow {w w' : World} (h : Gr w w') : ∃ q os, w' = Sort.grow (w.drewN q) os := by
  refine ⟨w'.drawn - w.drawn, w'.heap.extract w.heap.size w'.heap.size, ?_⟩
  have hs := h.below.size
  have hb := h.below.block
  have hd := h.drawn
  have e1 := h.below.os; have e2 := h.below.tape; have e3 := h.below.output
  obtain ⟨hp, tp, dr, os, out⟩ := w
  obtain ⟨hp', tp', dr', os', out'⟩ := w'
  simp only at hs hb hd e1 e2 e3
  subst e1 e2 e3
  simp only [Sort.grow, World.drewN, World.mk.injEq, true_and, and_true]
  refine ⟨?_, by omega⟩
  apply Array.ext_getElem?
  intro i
  rw [Array.getElem?_append]
  split
  · rename_i hi; exact hb i hi
  · rename_i hi
    rw [Array.getElem?_extract]
    split
    · congr 1; omega
    · rw [Array.getElem?_eq_none]; omega

theorem cmpT_sizes (t u : Tm) (h : size t ≠ size u) : cmpT t u = num (size t) (size u) := by
  obtain ⟨k, n, s, ks⟩ := t
  obtain ⟨k', n', s', ks'⟩ := u
  simp only [size] at h ⊢
  simp only [cmpT, orr]
  rw [if_neg]
  simp only [num]; split
  · omega
  · split <;> omega

set_option maxHeartbeats 800000 in
theorem compareNodes_any (t u : Tm) (b o b' o' : Nat) (w : World) (ht : size t ≤ 4611686018427387904) (hL : Lies w t b o) (hL' : Lies w u b' o') :
    Calls Tryz.prog 202 #[.agg #[.pointer (some ⟨b, o, none⟩), .int .i64 (size t)], .agg #[.pointer (some ⟨b', o', none⟩), .int .i64 (size u)]] w fun e w' => e = .returned (.int .i64 (cmpT t u)) ∧ Gr w w' := by
  have HB : Hid (Gr w ((w.alloc (.cells #[.pointer (some ⟨b, o, none⟩), .int .i64 (size t)] 230)).alloc (.cells #[.pointer (some ⟨b', o', none⟩), .int .i64 (size u)] 230))) := ((Gr.refl _).alloc _).alloc _
  by_cases h : size t = size u
  · rw [← h] at HB ⊢
    have HC := Lib.hid (compare_any _ t u b o b' o' ((w.alloc (.cells #[.pointer (some ⟨b, o, none⟩), .int .i64 (size t)] 230)).alloc (.cells #[.pointer (some ⟨b', o', none⟩), .int .i64 (size t)] 230)) (Nat.le_refl _) ht (by omega) (Lies_below hL HB.out.below) (Lies_below hL' HB.out.below))
    clear h
    go_enter Tryz.func202, Tryz.ntmps202
    go_wp2_with (go_at_call 128; refine (HC.out).mono ?_; rintro e w' ⟨rfl, hB⟩)
    go_ret
    exact ⟨rfl, HB.out.trans hB⟩
  · have h2 : ¬ (size t : Int) = (size u : Int) := by omega
    have HD := Lib.hid (cmpT_sizes t u h)
    clear h
    go_enter Tryz.func202, Tryz.ntmps202
    go_wp2_with (go_at_call 147; refine (Compare_int_any _ _ _).mono ?_; rintro e w3 ⟨rfl, rfl⟩)
    go_ret
    exact ⟨by rw [HD.out]; rfl, HB.out⟩

set_option maxHeartbeats 800000 in
theorem nodesEq_any (t u : Tm) (b o b' o' : Nat) (w : World) (ht : size t ≤ 4611686018427387904) (hL : Lies w t b o) (hL' : Lies w u b' o') :
    Calls Tryz.prog 204 #[.agg #[.pointer (some ⟨b, o, none⟩), .int .i64 (size t)], .agg #[.pointer (some ⟨b', o', none⟩), .int .i64 (size u)]] w fun e w' => e = .returned (.bool (decide (cmpT t u = 0))) ∧ Gr w w' := by
  have HB : Hid (Gr w ((w.alloc (.cells #[.pointer (some ⟨b, o, none⟩), .int .i64 (size t)] 230)).alloc (.cells #[.pointer (some ⟨b', o', none⟩), .int .i64 (size u)] 230))) := ((Gr.refl _).alloc _).alloc _
  have HC := Lib.hid (compareNodes_any t u b o b' o' ((w.alloc (.cells #[.pointer (some ⟨b, o, none⟩), .int .i64 (size t)] 230)).alloc (.cells #[.pointer (some ⟨b', o', none⟩), .int .i64 (size u)] 230)) ht (Lies_below hL HB.out.below) (Lies_below hL' HB.out.below))
  go_enter Tryz.func204, Tryz.ntmps204
  go_wp2_with (go_at_call 202; refine (HC.out).mono ?_; rintro e w' ⟨rfl, hB⟩)
  go_ret
  exact ⟨by simp; rfl, HB.out.trans hB⟩

end Go.Proofs.YtkfbbkkfagglhaaGreatDoor
