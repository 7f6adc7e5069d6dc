/-
  THE WALK OF subst.copyOfBinding.
-/
import Derived.Test.YtkfbbkkfagglhaaGreatDoorRepl
namespace Go.Proofs.YtkfbbkkfagglhaaGreatDoor
open Go.RowKit

theorem box8_all {w : World} {b : Nat} {c0 c1 c2 c3 c4 c5 c6 c7 : Value} {T : TypeId} (h : w.heap[b]? = some (.cells #[c0, c1, c2, c3, c4, c5, c6, c7] T (0, 0))) : ∀ i, w.frozen? ⟨b, i, none⟩ = false := by
  intro i; unfold World.frozen?; rw [h]; simp
def CopyBPost (w : World) (v t : Tm) (e : Ending) (w' : World) : Prop :=
  ∃ c0 c1 c2 c3 c4 c5 c6 c7, e = .returned (.agg #[c0, c1, c2, c3, c4, c5, c6, c7]) ∧ IsIn (fun b => w.heap.size ≤ b ∧ b < w'.heap.size) w' v c0 c1 c2 c3 ∧ IsIn (fun b => w.heap.size ≤ b ∧ b < w'.heap.size) w' t c4 c5 c6 c7 ∧ Below w.heap.size w w'
/-- Eight stores into a block. -/
def put8 (w : World) (g o : Nat) (c0 c1 c2 c3 c4 c5 c6 c7 : Value) : World := put4 (put4 w g o c0 c1 c2 c3) g (o + 4) c4 c5 c6 c7
theorem put8_other (w : World) (g o k : Nat) (c0 c1 c2 c3 c4 c5 c6 c7 : Value) (hk : k ≠ g) : (put8 w g o c0 c1 c2 c3 c4 c5 c6 c7).heap[k]? = w.heap[k]? := by
  unfold put8; rw [put4_other _ _ _ _ _ _ _ _ hk, put4_other _ _ _ _ _ _ _ _ hk]
theorem put8_size (w : World) (g o : Nat) (c0 c1 c2 c3 c4 c5 c6 c7 : Value) : (put8 w g o c0 c1 c2 c3 c4 c5 c6 c7).heap.size = w.heap.size := by
  unfold put8; rw [put4_size, put4_size]
theorem put8_below {w w' : World} {B g o : Nat} {c0 c1 c2 c3 c4 c5 c6 c7 : Value} (h : Below B w w') (hg : B ≤ g) : Below B w (put8 w' g o c0 c1 c2 c3 c4 c5 c6 c7) := put4_below (put4_below h hg) hg

set_option maxHeartbeats 6400000 in
set_option maxRecDepth 100000 in
theorem sbcopy_any (v t : Tm) (c0 c1 c2 c3 d0 d1 d2 d3 : Value) (w : World) (hv : size v ≤ 1073741824) (ht : size t ≤ 1073741824) (hI : Is w v c0 c1 c2 c3) (hJ : Is w t d0 d1 d2 d3) :
    Calls Tryz.prog 56 #[.agg #[c0, c1, c2, c3, d0, d1, d2, d3]] w (CopyBPost w v t) := by
  obtain ⟨k, n, s, xa, l, cap, rfl, rfl, rfl, rfl⟩ := Is_form hI
  obtain ⟨k2, n2, s2, xa2, l2, cap2, rfl, rfl, rfl, rfl⟩ := Is_form hJ
  have hb0 : ((w.alloc (.cells #[.int .i64 k, .string n, .int .i64 s, .slice xa l cap, .int .i64 k2, .string n2, .int .i64 s2, .slice xa2 l2 cap2] 53)).alloc (.cells #[.int .i64 0, .string ⟨#[]⟩, .int .i64 0, .slice none 0 0, .int .i64 0, .string ⟨#[]⟩, .int .i64 0, .slice none 0 0] 53)).heap[w.heap.size]? = some (.cells #[.int .i64 k, .string n, .int .i64 s, .slice xa l cap, .int .i64 k2, .string n2, .int .i64 s2, .slice xa2 l2 cap2] 53 (0, 0)) := by
    rw [Below.heap_alloc _ _ _ (by simp)]; exact heap_alloc_new w _
  have hb1 : ((w.alloc (.cells #[.int .i64 k, .string n, .int .i64 s, .slice xa l cap, .int .i64 k2, .string n2, .int .i64 s2, .slice xa2 l2 cap2] 53)).alloc (.cells #[.int .i64 0, .string ⟨#[]⟩, .int .i64 0, .slice none 0 0, .int .i64 0, .string ⟨#[]⟩, .int .i64 0, .slice none 0 0] 53)).heap[w.heap.size + 1]? = some (.cells #[.int .i64 0, .string ⟨#[]⟩, .int .i64 0, .slice none 0 0, .int .i64 0, .string ⟨#[]⟩, .int .i64 0, .slice none 0 0] 53 (0, 0)) := by
    have := heap_alloc_new (w.alloc (.cells #[.int .i64 k, .string n, .int .i64 s, .slice xa l cap, .int .i64 k2, .string n2, .int .i64 s2, .slice xa2 l2 cap2] 53)) (.cells #[.int .i64 0, .string ⟨#[]⟩, .int .i64 0, .slice none 0 0, .int .i64 0, .string ⟨#[]⟩, .int .i64 0, .slice none 0 0] 53)
    rw [World.size_alloc] at this; exact this
  have hBw : Below w.heap.size w ((w.alloc (.cells #[.int .i64 k, .string n, .int .i64 s, .slice xa l cap, .int .i64 k2, .string n2, .int .i64 s2, .slice xa2 l2 cap2] 53)).alloc (.cells #[.int .i64 0, .string ⟨#[]⟩, .int .i64 0, .slice none 0 0, .int .i64 0, .string ⟨#[]⟩, .int .i64 0, .slice none 0 0] 53)) := ((Below.refl _ _).alloc (Nat.le_refl _) _).alloc (by simp) _
  have hZ : ((w.alloc (.cells #[.int .i64 k, .string n, .int .i64 s, .slice xa l cap, .int .i64 k2, .string n2, .int .i64 s2, .slice xa2 l2 cap2] 53)).alloc (.cells #[.int .i64 0, .string ⟨#[]⟩, .int .i64 0, .slice none 0 0, .int .i64 0, .string ⟨#[]⟩, .int .i64 0, .slice none 0 0] 53)).heap.size = w.heap.size + 2 := by simp only [World.size_alloc]
  have HC1 := Lib.hid (fun W (x : Ext w W) => scopy_any v _ _ _ _ W hv (Is_below (w' := W) hI x))
  have HC2 := Lib.hid (fun W (x : Ext w W) => scopy_any t _ _ _ _ W ht (Is_below (w' := W) hJ x))
  clear hI hJ hv ht
  go_enter Tryz.func56, Tryz.ntmps56
  go_wp2_with fail
  generalize ((w.alloc (.cells #[.int .i64 k, .string n, .int .i64 s, .slice xa l cap, .int .i64 k2, .string n2, .int .i64 s2, .slice xa2 l2 cap2] 53)).alloc (.cells #[.int .i64 0, .string ⟨#[]⟩, .int .i64 0, .slice none 0 0, .int .i64 0, .string ⟨#[]⟩, .int .i64 0, .slice none 0 0] 53)) = wq at hb0 hb1 hBw hZ ⊢
  have HB0 : Hid (∀ W, Ext wq W → W.heap[w.heap.size]? = some (.cells #[.int .i64 k, .string n, .int .i64 s, .slice xa l cap, .int .i64 k2, .string n2, .int .i64 s2, .slice xa2 l2 cap2] 53 (0, 0)) ∧ W.heap[w.heap.size + 1]? = some (.cells #[.int .i64 0, .string ⟨#[]⟩, .int .i64 0, .slice none 0 0, .int .i64 0, .string ⟨#[]⟩, .int .i64 0, .slice none 0 0] 53 (0, 0))) := fun W h => ⟨(h.block _ (by omega)).trans hb0, (h.block _ (by omega)).trans hb1⟩
  have HCr : Hid (∀ W, Ext wq W → (W.cell? ⟨w.heap.size, 0, none⟩ = some (.int .i64 k) ∧ W.cell? ⟨w.heap.size, 1, none⟩ = some (.string n) ∧ W.cell? ⟨w.heap.size, 2, none⟩ = some (.int .i64 s) ∧ W.cell? ⟨w.heap.size, 3, none⟩ = some (.slice xa l cap)) ∧ W.cell? ⟨w.heap.size, 4, none⟩ = some (.int .i64 k2) ∧ W.cell? ⟨w.heap.size, 5, none⟩ = some (.string n2) ∧ W.cell? ⟨w.heap.size, 6, none⟩ = some (.int .i64 s2) ∧ W.cell? ⟨w.heap.size, 7, none⟩ = some (.slice xa2 l2 cap2)) := fun W h => box8_facts (HB0.out W h).1
  have HC3 : Hid (∀ W : World, W.heap[w.heap.size]? = some (.cells #[.int .i64 k, .string n, .int .i64 s, .slice xa l cap, .int .i64 k2, .string n2, .int .i64 s2, .slice xa2 l2 cap2] 53 (0, 0)) → (W.cell? ⟨w.heap.size, 0, none⟩ = some (.int .i64 k) ∧ W.cell? ⟨w.heap.size, 1, none⟩ = some (.string n) ∧ W.cell? ⟨w.heap.size, 2, none⟩ = some (.int .i64 s) ∧ W.cell? ⟨w.heap.size, 3, none⟩ = some (.slice xa l cap)) ∧ W.cell? ⟨w.heap.size, 4, none⟩ = some (.int .i64 k2) ∧ W.cell? ⟨w.heap.size, 5, none⟩ = some (.string n2) ∧ W.cell? ⟨w.heap.size, 6, none⟩ = some (.int .i64 s2) ∧ W.cell? ⟨w.heap.size, 7, none⟩ = some (.slice xa2 l2 cap2)) := fun W h => box8_facts h
  have HBw := Lib.hid hBw
  have HZ := Lib.hid hZ
  have hF0 : Ext wq wq.drew := (Ext.refl wq).drew
  have tok1 : True := trivial
  have tok2 : True := trivial
  obtain ⟨⟨g0, g1, g2, g3⟩, g4, g5, g6, g7⟩ := HCr.out wq (Ext.refl wq)
  clear hb0 hb1 hBw hZ
  go_region_held3 (fun W => (W.cell? ⟨w.heap.size, 0, none⟩ = some (.int .i64 k) ∧ W.cell? ⟨w.heap.size, 1, none⟩ = some (.string n) ∧ W.cell? ⟨w.heap.size, 2, none⟩ = some (.int .i64 s) ∧ W.cell? ⟨w.heap.size, 3, none⟩ = some (.slice xa l cap)) ∧ W.cell? ⟨w.heap.size, 4, none⟩ = some (.int .i64 k2) ∧ W.cell? ⟨w.heap.size, 5, none⟩ = some (.string n2) ∧ W.cell? ⟨w.heap.size, 6, none⟩ = some (.int .i64 s2) ∧ W.cell? ⟨w.heap.size, 7, none⟩ = some (.slice xa2 l2 cap2))
    (first | (have _t := tok2; exact HCr.out _ (by assumption)) | (refine HC3.out _ ?_; (repeat rw [Below.heap_setCell _ _ _ _ (by show w.heap.size ≠ w.heap.size + 1; omega)]); exact HH5.out) | go_keep)
    (first
      | (go_at_call 103; have _t := tok1; refine (HC1.out _ (Ext.trans HBw.out hF0)).mono ?_; rintro e w4 ⟨p0, p1, p2, p3, he, hI4, hB4⟩; subst he; obtain ⟨k3, n3, s3, xa3, l3, cap3, e0, e1, e2, e3⟩ := IsIn_form hI4; subst e0 e1 e2 e3; have hF1 : Ext wq w4 := hF0.trans hB4; have HI4 := Lib.hid hI4; clear hI4 hB4; clear tok1)
      | (go_at_call 103; refine (HC2.out _ (Ext.trans HBw.out hF1)).mono ?_; rintro e w5 ⟨p0, p1, p2, p3, he, hI5, hB5⟩; subst he; obtain ⟨k4, n4, s4, xa4, l4, cap4, e0, e1, e2, e3⟩ := IsIn_form hI5; subst e0 e1 e2 e3; have hF2 : Ext wq w5 := hF1.trans hB5; have HB5 := Lib.hid hB5; have HI5 := Lib.hid hI5; have HH5 := Lib.hid (HB0.out _ hF2).1; obtain ⟨⟨m0, m1, m2, m3⟩, m4, m5, m6, m7⟩ := box8_facts (HB0.out _ hF2).2; have hfz := box8_all (HB0.out _ hF2).2; have z0 := hfz 0; have z1 := hfz 1; have z2 := hfz 2; have z3 := hfz 3; have z4 := hfz 4; have z5 := hfz 5; have z6 := hfz 6; have z7 := hfz 7; clear hfz hI5 hB5; clear tok2))
  go_wp2_with fail
  have hs1 := hF1.size
  have hs2 := HB5.out.size
  have hZZ := HZ.out
  have HF : Hid (CopyBPost w v t (.returned (.agg #[.int .i64 k3, .string n3, .int .i64 s3, .slice xa3 l3 cap3, .int .i64 k4, .string n4, .int .i64 s4, .slice xa4 l4 cap4])) (put8 w5 (w.heap.size + 1) 0 (.int .i64 k3) (.string n3) (.int .i64 s3) (.slice xa3 l3 cap3) (.int .i64 k4) (.string n4) (.int .i64 s4) (.slice xa4 l4 cap4))) := by
    show CopyBPost _ _ _ _ _
    have hd : wq.drew.heap.size = wq.heap.size := rfl
    refine ⟨_, _, _, _, _, _, _, _, rfl, IsIn_carry (fun b hb => ?_) (fun b hb => ⟨by have := hb.1; omega, by rw [put8_size]; have := hb.2; omega⟩) _ _ _ _ _ HI4.out, IsIn_carry (fun b hb => put8_other _ _ _ _ _ _ _ _ _ _ _ _ (by have := hb.1; omega)) (fun b hb => ⟨by have := hb.1; omega, by rw [put8_size]; exact hb.2⟩) _ _ _ _ _ HI5.out, put8_below (Ext.trans HBw.out hF2) (by omega)⟩
    rw [put8_other _ _ _ _ _ _ _ _ _ _ _ _ (by have := hb.1; omega)]
    exact HB5.out.block b hb.2
  exact bodyPost_ret (v := .agg #[.int .i64 k3, .string n3, .int .i64 s3, .slice xa3 l3 cap3, .int .i64 k4, .string n4, .int .i64 s4, .slice xa4 l4 cap4]) (by simp [results, Tryz.results56, go_sem, m0, m1, m2, m3, m4, m5, m6, m7]) rfl HF.out
end Go.Proofs.YtkfbbkkfagglhaaGreatDoor
