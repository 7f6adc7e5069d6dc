/-
  THE WALK OF Positions; slices.Equal at []int.
-/
import Derived.Test.YthhhmjjgckkdhaaDoorPosb
import Derived.Test.YthhhmjjgckkdhaaDoorSize
namespace Go.Proofs.YthhhmjjgckkdhaaDoor
open Go.RowKit

def PositionsPost (w : World) (t : Tm) (e : Ending) (w' : World) : Prop :=
  ∃ v vs F, e = .returned v ∧ w'.ownsRow w.heap.size 46 1 v (posT [] t).length vs ∧ PL F w' (posT [] t) vs ∧ Below w.heap.size w w'

set_option maxHeartbeats 800000 in
theorem Positions_any (t : Tm) (c0 c1 c2 c3 : Value) (w : World) (hM : size t ≤ 1073741823) (hI : Is w t c0 c1 c2 c3) :
    Calls Tryd.prog 34 #[.agg #[c0, c1, c2, c3]] w (PositionsPost w t) := by
  have hL := Lies_box hI 24
  have hLI : LiesIn (fun b => b < w.heap.size + 1) (w.alloc (.cells #[c0, c1, c2, c3] 24)) t w.heap.size 0 := by
    obtain ⟨d0, d1, d2, d3, g0, g1, g2, g3, hJ⟩ := hL
    refine ⟨Nat.lt_succ_self _, d0, d1, d2, d3, g0, g1, g2, g3, ?_⟩
    have := Is_IsIn t _ _ _ _ hJ
    rwa [World.size_alloc] at this
  have hpre : PosPre (fun b => b < w.heap.size + 1) (fun _ => False) (w.alloc (.cells #[c0, c1, c2, c3] 24)) (w.heap.size + 1) (.slice none 0 0) [] (.slice none 0 0) [] [] :=
    ⟨fun b hb => ⟨by rw [World.size_alloc]; exact hb, by simp [Value.ownBlock], by simp [Value.ownBlock]⟩, fun b hb => hb.elim, fun b hb => hb, by rw [World.size_alloc]; exact Nat.le_refl _, World.ownsRow_nil _ _ _ _, World.ownsRow_nil _ _ _ _, rfl, fun g hg => by simp [Value.ownBlock] at hg, Or.inl rfl⟩
  have HC := Lib.hid (positions_any _ t _ 0 _ _ _ _ _ _ _ _ _ (Nat.le_refl _) (by omega) hpre hLI (by simp; omega) (by simp; omega))
  clear hL hLI hpre
  go_enter Tryd.func34, Tryd.ntmps34
  go_wp2_with (go_at_call 64; refine (HC.out).mono ?_; rintro e w' ⟨l', vs', F', he, h1, h2, h3, h4, h5⟩; subst he; have HX := Lib.hid (And.intro h1 h5); clear h1 h2 h3 h4 h5)
  go_ret
  refine ⟨_, vs', F', rfl, own_base (by simpa using HX.out.1.row) (Nat.le_succ _), by simpa using HX.out.1.pl, ?_⟩
  exact below_box ⟨HX.out.2.os, HX.out.2.tape, HX.out.2.output, HX.out.2.size, fun k hk => HX.out.2.block k hk⟩

/-- A row of numbers, wherever it lies. -/
def IntRow (w : World) (v : Value) (l : List Nat) : Prop := ∃ xa cap, v = .slice xa l.length cap ∧ (0 < l.length → ∃ b o, xa = some ⟨b, o, none⟩ ∧ ∀ i (h : i < l.length), w.cell? ⟨b, o + i, none⟩ = some (.int .i64 (l[i] : Int)))
theorem IntRow_of_own {w : World} {base : Nat} {v : Value} {l : List Nat} (h : w.ownsRow base 3 1 v l.length (ints l)) : IntRow w v l := by
  rcases h.2 with ⟨rfl, h0⟩ | ⟨g, cap, cur, rfl, _⟩
  · exact ⟨none, 0, by rw [h0], fun h => by omega⟩
  · refine ⟨some ⟨g, 0, none⟩, cap, rfl, fun _ => ⟨g, 0, rfl, fun i hi => ?_⟩⟩
    rw [Nat.zero_add, h.cellAt i (by simpa using hi)]
    simp [ints, hi]
theorem IntRow_below {w w' : World} {v : Value} {l : List Nat} (h : IntRow w v l) (hb : Below w.heap.size w w') : IntRow w' v l := by
  obtain ⟨xa, cap, e, hc⟩ := h
  refine ⟨xa, cap, e, fun h => ?_⟩
  obtain ⟨b, o, e, hc⟩ := hc h
  exact ⟨b, o, e, fun i hi => keep_below hb _ _ (hc i hi)⟩

def eqFrom (x y : List Nat) : Bool := x == y
theorem eq_drop (x y : List Nat) (j : Nat) (h : j < x.length) (h2 : j < y.length) : (x.drop j == y.drop j) = ((x[j] == y[j]) && (x.drop (j + 1) == y.drop (j + 1))) := by
  rw [List.drop_eq_getElem_cons h, List.drop_eq_getElem_cons h2]; rfl

set_option maxHeartbeats 1600000 in
set_option maxRecDepth 100000 in
theorem equal_any (x y : List Nat) (v u : Value) (w : World) (hx : IntRow w v x) (hy : IntRow w u y) (hlx : x.length ≤ 1099511627776) (hly : y.length ≤ 1099511627776) :
    Calls Tryd.prog 38 #[v, u] w fun e w' => e = .returned (.bool (x == y)) ∧ Below w.heap.size w w' := by
  obtain ⟨xa, xc, rfl, hxc⟩ := hx
  obtain ⟨ya, yc, rfl, hyc⟩ := hy
  by_cases hlen : x.length = y.length
  rotate_left
  · have HF : Hid ((x == y) = false) := by show _ = _; rw [beq_eq_false_iff_ne]; intro e; exact hlen (by rw [e])
    have hb : ((x.length : Int) != (y.length : Int)) = true := by simp; omega
    clear hlen hxc hyc
    go_enter Tryd.func38, Tryd.ntmps38
    go_wp2_with fail
    go_ret
    exact ⟨by rw [HF.out]; rfl, Below.refl _ _⟩
  have HL : Hid (x.length = y.length) := hlen
  have hb : ((x.length : Int) != (y.length : Int)) = false := by simp; omega
  have HXC := Lib.hid hxc
  have HYC := Lib.hid hyc
  clear hlen hxc hyc
  go_enter Tryd.func38, Tryd.ntmps38
  go_wp2_with fail
  go_loopw [13] (fun i wr => ∃ j : Nat, j ≤ x.length ∧ i = .int .i64 j ∧ Hid ((x == y) = (x.drop j == y.drop j)) ∧ Below w.heap.size w wr) (fun i _ => x.length - (intOf i).toNat)
  case atStart => exact ⟨0, Nat.zero_le _, rfl, rfl, Below.refl _ _⟩
  case round =>
    obtain ⟨j, hj, rfl, HD, hBr⟩ := hrel
    by_cases hlt : j < x.length
    · have hlt' : j < y.length := by have := HL.out; omega
      obtain ⟨b1, o1, rfl, hc1⟩ := HXC.out (by omega)
      obtain ⟨b2, o2, rfl, hc2⟩ := HYC.out (by omega)
      have p1 := keep_below hBr _ _ (hc1 j hlt)
      have p2 := keep_below hBr _ _ (hc2 j hlt')
      have hd := eq_drop x y j hlt hlt'
      generalize x[j] = a at p1 hd
      generalize y[j] = c at p2 hd
      have i1 : (0 : Int) ≤ (j : Int) := by omega
      have i2 : (j : Int) < (x.length : Int) := by omega
      have i3 : (j : Int) < (y.length : Int) := by omega
      clear hc1 hc2
      by_cases hac : a = c
      · have hbb : ((a : Int) != (c : Int)) = false := by simp [hac]
        have HD2 : Hid ((x == y) = (x.drop (j + 1) == y.drop (j + 1))) := by show _ = _; rw [HD.out, hd, hac]; simp
        clear hd hac
        go_wp2_with fail
        go_region_held3 (fun W => W.cell? ⟨b1, o1 + j, none⟩ = some (.int .i64 (a : Int)) ∧ W.cell? ⟨b2, o2 + j, none⟩ = some (.int .i64 (c : Int))) (first | go_keep) (first | fail)
        go_wp2_with fail
        go_roundw
        case rel => exact ⟨j + 1, by omega, by go_num, HD2, hBr.drew⟩
        case measure => simp [intOf]; omega
      · have hbb : ((a : Int) != (c : Int)) = true := by simp; omega
        have HD2 : Hid ((x == y) = false) := by show _ = _; rw [HD.out, hd]; simp [hac]
        clear hd hac
        go_wp2_with fail
        go_region_held3 (fun W => W.cell? ⟨b1, o1 + j, none⟩ = some (.int .i64 (a : Int)) ∧ W.cell? ⟨b2, o2 + j, none⟩ = some (.int .i64 (c : Int))) (first | go_keep) (first | fail)
        go_wp2_with fail
        go_ret
        exact ⟨by rw [HD2.out]; rfl, hBr.drew⟩
    · have hj1 : x.drop j = [] := List.drop_eq_nil_of_le (by omega)
      have hj2 : y.drop j = [] := List.drop_eq_nil_of_le (by have := HL.out; omega)
      have HD2 : Hid ((x == y) = true) := by show _ = _; rw [HD.out, hj1, hj2]; rfl
      clear hj1 hj2
      go_wp2_with fail
      go_ret
      exact ⟨by rw [HD2.out]; rfl, hBr⟩

end Go.Proofs.YthhhmjjgckkdhaaDoor
