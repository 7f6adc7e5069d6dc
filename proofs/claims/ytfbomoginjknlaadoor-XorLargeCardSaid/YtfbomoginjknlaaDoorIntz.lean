/-
  slices.Clone AND slices.Equal AT SLICES OF WHATEVER NUMBERS.
-/
import Derived.Test.YtfbomoginjknlaaDoorSep
namespace Go.Proofs.YtfbomoginjknlaaDoor
open Go.RowKit

def zints (p : List Int) : List Value := p.map fun i => Value.int .i64 i
theorem zints_length (p : List Int) : (zints p).length = p.length * 1 := by simp [zints]
theorem zints_one (p : List Int) : ∀ u ∈ zints p, u.oneCell' = true := by
  intro u hu
  simp only [zints, List.mem_map] at hu
  obtain ⟨i, _, rfl⟩ := hu
  rfl

def ClonezPost (w : World) (p : List Int) (e : Ending) (w' : World) : Prop := ∃ v, e = .returned v ∧ IntsV w' v p ∧ Below w.heap.size w w'
theorem intsV_own {w : World} {base : Nat} {v : Value} {p : List Int} {T : TypeId} (h : w.ownsRow base T 1 v p.length (zints p)) (hr : ∀ x ∈ p, -9223372036854775808 ≤ x ∧ x ≤ 9223372036854775807) (hl : p.length ≤ maxLen) : IntsV w v p := by
  obtain ⟨xa, cap, e⟩ := own_form h
  subst e
  refine ⟨xa, cap, rfl, hl, hr, fun hp => ?_⟩
  obtain ⟨g, cap2, e2⟩ := own_form_pos h hp
  simp only [Value.slice.injEq] at e2
  obtain ⟨rfl, _, rfl⟩ := e2
  refine ⟨g, 0, rfl, fun i hi => ?_⟩
  have := h.cells (g := g) rfl i (.int .i64 p[i]) (by simp [zints, hi])
  rw [add_plain] at this
  exact this

theorem eqz_drop (x y : List Int) (j : Nat) (h : j < x.length) (h2 : j < y.length) : (x.drop j == y.drop j) = ((x[j] == y[j]) && (x.drop (j + 1) == y.drop (j + 1))) := by
  rw [List.drop_eq_getElem_cons h, List.drop_eq_getElem_cons h2]; rfl

set_option maxHeartbeats 1600000 in
set_option maxRecDepth 100000 in
theorem equalz_any (x y : List Int) (v u : Value) (w : World) (hx : IntsV w v x) (hy : IntsV w u y) (hlx : x.length ≤ 1099511627776) (hly : y.length ≤ 1099511627776) :
    Calls Tryd.prog 23 #[v, u] w fun e w' => e = .returned (.bool (x == y)) ∧ Below w.heap.size w w' := by
  obtain ⟨xa, xc, rfl, _, _, hxc⟩ := hx
  obtain ⟨ya, yc, rfl, _, _, hyc⟩ := hy
  by_cases hlen : x.length = y.length
  rotate_left
  · have HF : Hid ((x == y) = false) := by show _ = _; rw [beq_eq_false_iff_ne]; intro e; exact hlen (by rw [e])
    have hb : ((x.length : Int) != (y.length : Int)) = true := by simp; omega
    clear hlen hxc hyc
    go_enter Tryd.func23, Tryd.ntmps23
    go_wp2_with fail
    go_ret
    exact ⟨by rw [HF.out]; rfl, Below.refl _ _⟩
  have HL : Hid (x.length = y.length) := hlen
  have hb : ((x.length : Int) != (y.length : Int)) = false := by simp; omega
  have HXC := Lib.hid hxc
  have HYC := Lib.hid hyc
  clear hlen hxc hyc
  go_enter Tryd.func23, Tryd.ntmps23
  go_wp2_with fail
  go_loopw [13] (fun i wr => ∃ j : Nat, j ≤ x.length ∧ i = .int .i64 j ∧ Hid ((x == y) = (x.drop j == y.drop j)) ∧ Below w.heap.size w wr) (fun i _ => x.length - (intOf i).toNat)
  case atStart => exact ⟨0, Nat.zero_le _, rfl, rfl, Below.refl _ _⟩
  case round =>
    obtain ⟨j, hj, rfl, HD, hBr⟩ := hrel
    by_cases hlt : j < x.length
    · have hlt' : j < y.length := by have := HL.out; omega
      obtain ⟨b1, o1, rfl, hc1⟩ := HXC.out (by omega)
      obtain ⟨b2, o2, rfl, hc2⟩ := HYC.out (by omega)
      have p1 := keep_below hBr _ _ (hc1 j hlt)
      have p2 := keep_below hBr _ _ (hc2 j hlt')
      have hd := eqz_drop x y j hlt hlt'
      generalize x[j] = a at p1 hd
      generalize y[j] = c at p2 hd
      have i1 : (0 : Int) ≤ (j : Int) := by omega
      have i2 : (j : Int) < (x.length : Int) := by omega
      have i3 : (j : Int) < (y.length : Int) := by omega
      clear hc1 hc2
      by_cases hac : a = c
      · have hbb : (a != c) = false := by simp [hac]
        have HD2 : Hid ((x == y) = (x.drop (j + 1) == y.drop (j + 1))) := by show _ = _; rw [HD.out, hd, hac]; simp
        clear hd hac
        go_wp2_with fail
        go_region_held3 (fun W => W.cell? ⟨b1, o1 + j, none⟩ = some (.int .i64 a) ∧ W.cell? ⟨b2, o2 + j, none⟩ = some (.int .i64 c)) (first | go_keep) (first | fail)
        go_wp2_with fail
        go_roundw
        case rel => exact ⟨j + 1, by omega, by go_num, HD2, hBr.drew⟩
        case measure => simp [intOf]; omega
      · have hbb : (a != c) = true := by simp [hac]
        have HD2 : Hid ((x == y) = false) := by show _ = _; rw [HD.out, hd]; simp [hac]
        clear hd hac
        go_wp2_with fail
        go_region_held3 (fun W => W.cell? ⟨b1, o1 + j, none⟩ = some (.int .i64 a) ∧ W.cell? ⟨b2, o2 + j, none⟩ = some (.int .i64 c)) (first | go_keep) (first | fail)
        go_wp2_with fail
        go_ret
        exact ⟨by rw [HD2.out]; rfl, hBr.drew⟩
    · have hj1 : x.drop j = [] := List.drop_eq_nil_of_le (by omega)
      have hj2 : y.drop j = [] := List.drop_eq_nil_of_le (by have := HL.out; omega)
      have HD2 : Hid ((x == y) = true) := by show _ = _; rw [HD.out, hj1, hj2]; rfl
      clear hj1 hj2
      go_wp2_with fail
      go_ret
      exact ⟨by rw [HD2.out]; rfl, hBr⟩

end Go.Proofs.YtfbomoginjknlaaDoor
