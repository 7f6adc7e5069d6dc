/-
  THE WALK OF the reference's At.
-/
import Derived.Test.YthhhmjjgckkdhaaDoorFind
import Derived.BigQuiet
namespace Go.Proofs.YthhhmjjgckkdhaaDoor
open Go.RowKit

theorem put4_box {w : World} {b : Nat} {f0 f1 f2 f3 y0 y1 y2 y3 : Value} {T : TypeId} (h : w.heap[b]? = some (.cells #[f0, f1, f2, f3] T (0, 0))) : (put4 w b 0 y0 y1 y2 y3).heap[b]? = some (.cells #[y0, y1, y2, y3] T (0, 0)) := by
  simp [put4, World.setCell, Array.getElem?_modify, h]

theorem below_drewN {B : Nat} {a w : World} (h : Below B a w) (n : Nat) : Below B a (w.drewN n) := ⟨h.os, h.tape, h.output, h.size, h.block⟩

def RatPost (w : World) (r : Option Tm) (e : Ending) (w' : World) : Prop :=
  Below w.heap.size w w' ∧ match r with
    | none => e = .returned (.tuple #[.agg #[.int .i64 0, .string ⟨#[]⟩, .int .i64 0, .slice none 0 0], .int .i64 7])
    | some u => ∃ c0 c1 c2 c3, e = .returned (.tuple #[.agg #[c0, c1, c2, c3], .int .i64 0]) ∧ Is w u c0 c1 c2 c3

/-- What holds at the loop's head: the box holds the node that is reached. -/
def RatR (w : World) (t : Tm) (p : List Int) (j : Nat) (wr : World) : Prop :=
  ∃ u f0 f1 f2 f3, Is w u f0 f1 f2 f3 ∧ atT t p = atT u (p.drop j) ∧ wr.heap[w.heap.size]? = some (.cells #[f0, f1, f2, f3] 24 (0, 0)) ∧ wr.heap[w.heap.size + 1]? = some (.cells #[.int .i64 0, .string ⟨#[]⟩, .int .i64 0, .slice none 0 0] 24 (0, 0)) ∧ Below w.heap.size w wr
theorem RatR.next {w wr wd : World} {t v : Tm} {p : List Int} {j : Nat} {f0 f1 f2 f3 d0 d1 d2 d3 : Value} (hI : Is w v d0 d1 d2 d3) (ha : atT t p = atT v (p.drop (j + 1))) (h0 : wr.heap[w.heap.size]? = some (.cells #[f0, f1, f2, f3] 24 (0, 0)))
    (h1 : wr.heap[w.heap.size + 1]? = some (.cells #[.int .i64 0, .string ⟨#[]⟩, .int .i64 0, .slice none 0 0] 24 (0, 0))) (hB : Below w.heap.size w wr) (hd : wd.heap = wr.heap) (hBd : Below w.heap.size wr wd) : RatR w t p (j + 1) (put4 wd w.heap.size 0 d0 d1 d2 d3) :=
  ⟨v, d0, d1, d2, d3, hI, ha, put4_box (by rw [hd]; exact h0), by rw [put4_other _ _ _ _ _ _ _ _ (by omega), hd]; exact h1, put4_below (hB.trans hBd) (Nat.le_refl _)⟩

set_option maxHeartbeats 1600000 in
set_option maxRecDepth 100000 in
theorem rat_any (t : Tm) (p : List Int) (c0 c1 c2 c3 v : Value) (w : World) (hI : Is w t c0 c1 c2 c3) (hp : IntsV w v p) :
    Calls Tryd.prog 42 #[.agg #[c0, c1, c2, c3], v] w (RatPost w (atT t p)) := by
  obtain ⟨xa, cap, rfl, hpl, hrg, hc⟩ := hp
  unfold maxLen at hpl
  have HC := Lib.hid hc
  have HG := Lib.hid hrg
  have HI := Lib.hid hI
  clear hc hI hrg
  go_enter Tryd.func42, Tryd.ntmps42
  go_wp2_with fail
  go_loopw [6] (fun i wr => ∃ j : Nat, j ≤ p.length ∧ i = .int .i64 j ∧ RatR w t p j wr) (fun i _ => p.length - (intOf i).toNat)
  case atStart =>
    refine ⟨0, Nat.zero_le _, rfl, t, c0, c1, c2, c3, HI.out, rfl, ?_, ?_, ((Below.refl _ _).alloc (Nat.le_refl _) _).alloc (by simp) _⟩
    · rw [Below.heap_alloc _ _ _ (by simp)]; exact heap_alloc_new w _
    · have := heap_alloc_new (w.alloc (.cells #[c0, c1, c2, c3] 24)) (.cells #[.int .i64 0, .string ⟨#[]⟩, .int .i64 0, .slice none 0 0] 24)
      rw [World.size_alloc] at this; exact this
  case round =>
    obtain ⟨j, hj, rfl, u, f0, f1, f2, f3, hIu, hat, hb0, hb1, hB⟩ := hrel
    obtain ⟨k, n, s, ks⟩ := u
    have HIu := Lib.hid hIu
    have HAT := Lib.hid hat
    have HB0 := Lib.hid hb0
    have HB1 := Lib.hid hb1
    have HB := Lib.hid hB
    simp only [Is] at hIu
    obtain ⟨rfl, rfl, rfl, _, _, _, hkl, ka, kcap, rfl, hkc, hR⟩ := hIu
    unfold maxLen at hkl
    have HR := Lib.hid hR
    obtain ⟨⟨y0, y1, y2, y3⟩, z0, z1, z2, z3⟩ := box_facts hb0
    obtain ⟨⟨m0, m1, m2, m3⟩, n0, n1, n2, n3⟩ := box_facts hb1
    by_cases hlt : j < p.length
    rotate_left
    · have hd : p.drop j = [] := List.drop_eq_nil_of_le (by omega)
      have HF : Hid (RatPost w (atT t p) (.returned (.tuple #[.agg #[.int .i64 k, .string n, .int .i64 s, .slice ka ks.length kcap], .int .i64 0])) (put4 wr (w.heap.size + 1) 0 (.int .i64 k) (.string n) (.int .i64 s) (.slice ka ks.length kcap))) := by
        show RatPost _ _ _ _
        rw [hat, hd]; exact ⟨put4_below hB (by omega), _, _, _, _, rfl, HIu.out⟩
      clear hd hat hb0 hb1 hB hR
      go_wp2_with fail
      exact bodyPost_ret (v := .tuple #[.agg #[.int .i64 k, .string n, .int .i64 s, .slice ka ks.length kcap], .int .i64 0]) (by simp [results, Tryd.results42, go_sem, m0, m1, m2, m3]) rfl HF.out
    obtain ⟨pb, po, hxa, hpc⟩ := HC.out (by omega)
    subst hxa
    have hx := keep_below hB _ _ (hpc j hlt)
    have hxr := HG.out _ (List.getElem_mem hlt)
    obtain ⟨x, hxe⟩ : ∃ x, p[j] = x := ⟨_, rfl⟩
    rw [hxe] at hx hxr
    have HE := Lib.hid hxe
    have i1 : (0 : Int) ≤ (j : Int) := by omega
    have i2 : (j : Int) < (p.length : Int) := by omega
    have HF : Hid (atT t p = none → ∀ W, Below w.heap.size w W → RatPost w (atT t p) (.returned (.tuple #[.agg #[.int .i64 0, .string ⟨#[]⟩, .int .i64 0, .slice none 0 0], .int .i64 7])) W) := by
      intro h W hW
      rw [h]; exact ⟨hW, rfl⟩
    clear hpc hR hat hb0 hb1 hB hxe
    by_cases hlo : x < 0
    · have hno : atT t p = none := by rw [HAT.out, atT_out hlt (by rw [HE.out]; exact Or.inl hlo)]
      have HNO := Lib.hid hno
      have hd : decide (x < 0) = true := by simp [hlo]
      clear hno
      go_wp2_with fail
      go_quiet (fail)
      go_wp2_with fail
      exact bodyPost_ret (v := .tuple #[.agg #[.int .i64 0, .string ⟨#[]⟩, .int .i64 0, .slice none 0 0], .int .i64 7]) (by simp [results, Tryd.results42, go_sem, m0, m1, m2, m3]) rfl (HF.out HNO.out _ (put4_below (w' := wr.drewN nq) (g := w.heap.size + 1) (o := 0) (below_drewN HB.out nq) (by omega)))
    have hd : decide (x < 0) = false := by simp; omega
    by_cases hhi : (ks.length : Int) ≤ x
    · have hno : atT t p = none := by rw [HAT.out, atT_out hlt (by rw [HE.out]; exact Or.inr hhi)]
      have HNO := Lib.hid hno
      clear hno
      go_wp2_with fail
      go_quiet (fail)
      go_wp2_with fail
      exact bodyPost_ret (v := .tuple #[.agg #[.int .i64 0, .string ⟨#[]⟩, .int .i64 0, .slice none 0 0], .int .i64 7]) (by simp [results, Tryd.results42, go_sem, m0, m1, m2, m3]) rfl (HF.out HNO.out _ (put4_below (w' := wr.drewN nq) (g := w.heap.size + 1) (o := 0) (below_drewN HB.out nq) (by omega)))
    have hlo' : 0 ≤ x := by omega
    have hhi' : x < (ks.length : Int) := by omega
    obtain ⟨y, rfl⟩ := Int.eq_ofNat_of_zero_le hlo'
    have hy : y < ks.length := by omega
    obtain ⟨kb, ko, rfl⟩ := Row_at HR.out (by omega)
    obtain ⟨d0, d1, d2, d3, q0, q1, q2, q3, hK⟩ := Row_get HR.out y hy
    obtain ⟨k', n', s', x', l', c', e0, e1, e2, e3⟩ := Is_form hK
    subst e0 e1 e2 e3
    have r0 := keep_below HB.out _ _ q0
    have r1 := keep_below HB.out _ _ q1
    have r2 := keep_below HB.out _ _ q2
    have r3 := keep_below HB.out _ _ q3
    have HA2 : Hid (atT t p = atT ks[y] (p.drop (j + 1))) := by
      show _ = _
      rw [HAT.out]; exact atT_in (t := .mk k n s ks) hlt hy HE.out
    have HK := Lib.hid hK
    have hh2 : decide ((ks.length : Int) ≤ (y : Int)) = false := by simp; omega
    clear q0 q1 q2 q3 hK
    go_wp2_with fail
    go_quiet (fail)
    go_wp2_with fail
    go_region
    go_wp2_with fail
    go_roundw
    case rel => exact ⟨j + 1, by omega, by go_num, RatR.next (wd := wr.drewN (nq + 1)) HK.out HA2.out HB0.out HB1.out HB.out rfl (below_drewN (Below.refl _ _) _)⟩
    case measure => simp [intOf]; omega

end Go.Proofs.YthhhmjjgckkdhaaDoor
