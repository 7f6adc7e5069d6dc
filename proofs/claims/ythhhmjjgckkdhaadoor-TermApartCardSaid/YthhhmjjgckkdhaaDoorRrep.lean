/-
  THE WALK OF the reference's Replace.
-/
import Derived.Test.YthhhmjjgckkdhaaDoorRat
import Derived.Test.YthhhmjjgckkdhaaDoorSep
import Derived.Test.YthhhmjjgckkdhaaDoorElems
namespace Go.Proofs.YthhhmjjgckkdhaaDoor
open Go.RowKit

/-- A slice of numbers that came in. -/
def IntsC (w : World) (v : Value) (l : List Int) : Prop :=
  ∃ xa cap, v = .slice xa l.length cap ∧ l.length ≤ cap ∧ cap ≤ maxLen ∧ (∀ x ∈ l, -9223372036854775808 ≤ x ∧ x ≤ 9223372036854775807) ∧ (0 < l.length → ∃ b o, xa = some ⟨b, o, none⟩ ∧ ∀ i (h : i < l.length), w.cell? ⟨b, o + i, none⟩ = some (.int .i64 l[i]))
theorem IntsC_V {w : World} {v : Value} {l : List Int} (h : IntsC w v l) : IntsV w v l := by
  obtain ⟨xa, cap, e, h1, h2, h3, h4⟩ := h
  exact ⟨xa, cap, e, by omega, h3, h4⟩
theorem IntsC_below {w w' : World} {v : Value} {l : List Int} (h : IntsC w v l) (hb : Below w.heap.size w w') : IntsC w' v l := by
  obtain ⟨xa, cap, e, h1, h2, h3, hc⟩ := h
  refine ⟨xa, cap, e, h1, h2, h3, fun h => ?_⟩
  obtain ⟨b, o, e, hc⟩ := hc h
  exact ⟨b, o, e, fun i hi => keep_below hb _ _ (hc i hi)⟩
theorem IntsC_cons {w : World} {v : Value} {i : Int} {p : List Int} (h : IntsC w v (i :: p)) : ∃ b o cap, v = .slice (some ⟨b, o, none⟩) (p.length + 1) cap ∧ p.length + 1 ≤ cap ∧ cap ≤ maxLen ∧ (-9223372036854775808 ≤ i ∧ i ≤ 9223372036854775807) ∧ w.cell? ⟨b, o, none⟩ = some (.int .i64 i) ∧ IntsC w (.slice (if cap = 1 then some ⟨b, o, none⟩ else some ⟨b, o + 1, none⟩) p.length (cap - 1)) p := by
  obtain ⟨xa, cap, rfl, h1, h2, h3, hc⟩ := h
  obtain ⟨b, o, rfl, hcc⟩ := hc (by simp)
  simp only [List.length_cons] at h1
  refine ⟨b, o, cap, rfl, h1, h2, h3 i (List.mem_cons_self ..), hcc 0 (by simp), _, cap - 1, rfl, by omega, by omega, fun x hx => h3 x (List.mem_cons_of_mem _ hx), fun hp => ⟨b, o + 1, by rw [if_neg (by omega)], fun j hj => ?_⟩⟩
  have := hcc (j + 1) (by simpa using hj)
  rw [show o + 1 + j = o + (j + 1) by omega]
  simpa using this

theorem RowIn_of_get {S : Nat → Prop} {w : World} : ∀ (l : List Tm) (b o : Nat), S b → (∀ j (h : j < l.length), ∃ c0 c1 c2 c3, w.cell? ⟨b, o + j * 4, none⟩ = some c0 ∧ w.cell? ⟨b, o + j * 4 + 1, none⟩ = some c1 ∧ w.cell? ⟨b, o + j * 4 + 2, none⟩ = some c2 ∧ w.cell? ⟨b, o + j * 4 + 3, none⟩ = some c3 ∧ IsIn S w l[j] c0 c1 c2 c3) → RowIn S w l (some ⟨b, o, none⟩)
  | [], _, _, _, _ => by simp [RowIn]
  | t :: ts, b, o, hb, h => by
    simp only [RowIn]
    obtain ⟨c0, c1, c2, c3, g0, g1, g2, g3, hI⟩ := h 0 (by simp)
    refine ⟨b, o, rfl, hb, ⟨c0, c1, c2, c3, by simpa using g0, by simpa using g1, by simpa using g2, by simpa using g3, hI⟩, RowIn_of_get ts b (o + 4) hb fun j hj => ?_⟩
    obtain ⟨d0, d1, d2, d3, q0, q1, q2, q3, hJ⟩ := h (j + 1) (by simpa using hj)
    rw [show o + (j + 1) * 4 = o + 4 + j * 4 by omega] at q0 q1 q2 q3
    exact ⟨d0, d1, d2, d3, q0, q1, q2, q3, by simpa using hJ⟩

/-- One element of a row of the call's own is written. -/
theorem row_put {S S1 S2 : Nat → Prop} {w : World} {H g cap n y : Nat} {T : TypeId} {ks : List Tm} {cs : List Value} {a : Tm} {d0 d1 d2 d3 : Value} (ho : w.ownsRow H T 4 (.slice (some ⟨g, 0, none⟩) n cap) n cs) (hK : KC S w ks cs) (hy : y < ks.length)
    (hA : IsIn S1 w a d0 d1 d2 d3) (hS : ∀ b, S b → b ≠ g ∧ S2 b) (hS1 : ∀ b, S1 b → b ≠ g ∧ S2 b) (hg : S2 g) : RowIn S2 (put4 w g (y * 4) d0 d1 d2 d3) (ks.set y a) (some ⟨g, 0, none⟩) := by
  have hc : ∀ j u, cs[j]? = some u → w.cell? ⟨g, j, none⟩ = some u := fun j u hu => by
    have := ho.cells (g := g) rfl j u hu
    rw [add_plain, Nat.zero_add] at this; exact this
  obtain ⟨z0, z1, z2, z3, m0, m1, m2, m3, _⟩ := KC_get hK y hy
  obtain ⟨q0, q1, q2, q3⟩ := put4_at (d0 := d0) (d1 := d1) (d2 := d2) (d3 := d3) (hc _ _ m0) (hc _ _ m1) (hc _ _ m2) (hc _ _ m3)
  refine RowIn_of_get _ g 0 hg fun j hj => ?_
  rw [List.length_set] at hj
  rw [Nat.zero_add]
  by_cases e : j = y
  · subst e
    refine ⟨d0, d1, d2, d3, q0, q1, q2, q3, ?_⟩
    rw [List.getElem_set_self]
    exact IsIn_carry (fun b hb => put4_other _ _ _ _ _ _ _ _ (hS1 b hb).1) (fun b hb => (hS1 b hb).2) _ _ _ _ _ hA
  · obtain ⟨c0, c1, c2, c3, g0, g1, g2, g3, hI⟩ := KC_get hK j hj
    refine ⟨c0, c1, c2, c3, ?_, ?_, ?_, ?_, ?_⟩
    · rw [put4_far (by omega)]; exact hc _ _ g0
    · rw [put4_far (by omega)]; exact hc _ _ g1
    · rw [put4_far (by omega)]; exact hc _ _ g2
    · rw [put4_far (by omega)]; exact hc _ _ g3
    · rw [List.getElem_set_ne (by omega)]
      exact IsIn_carry (fun b hb => put4_other _ _ _ _ _ _ _ _ (hS b hb).1) (fun b hb => (hS b hb).2) _ _ _ _ _ hI

def RrepPost (base : Nat) (w : World) (r : Option Tm) (e : Ending) (w' : World) : Prop :=
  Below w.heap.size w w' ∧ match r with
    | none => e = .returned (.tuple #[.agg #[.int .i64 0, .string ⟨#[]⟩, .int .i64 0, .slice none 0 0], .int .i64 7])
    | some a => ∃ c0 c1 c2 c3, e = .returned (.tuple #[.agg #[c0, c1, c2, c3], .int .i64 0]) ∧ IsIn (fun b => b < base ∨ w.heap.size ≤ b ∧ b < w'.heap.size) w' a c0 c1 c2 c3

theorem rep_box {w W : World} {o1 o2 : Obj} (h : Ext (((w.alloc o1).alloc o2).alloc (.cells #[.int .i64 0, .string ⟨#[]⟩, .int .i64 0, .slice none 0 0] 24)) W) :
    W.heap[w.heap.size + 1 + 1]? = some (.cells #[.int .i64 0, .string ⟨#[]⟩, .int .i64 0, .slice none 0 0] 24 (0, 0)) := by
  rw [h.block _ (by simp)]
  have := heap_alloc_new ((w.alloc o1).alloc o2) (.cells #[.int .i64 0, .string ⟨#[]⟩, .int .i64 0, .slice none 0 0] 24)
  rw [World.size_alloc, World.size_alloc] at this; exact this
theorem rep_boxes {w W : World} {a0 a1 a2 a3 b0 b1 b2 b3 : Value} {T : TypeId} {o3 : Obj} (h : Ext (((w.alloc (.cells #[a0, a1, a2, a3] T)).alloc (.cells #[b0, b1, b2, b3] T)).alloc o3) W) :
    (W.cell? ⟨w.heap.size, 0, none⟩ = some a0 ∧ W.cell? ⟨w.heap.size, 1, none⟩ = some a1 ∧ W.cell? ⟨w.heap.size, 2, none⟩ = some a2 ∧ W.cell? ⟨w.heap.size, 3, none⟩ = some a3) ∧
    (W.cell? ⟨w.heap.size + 1, 0, none⟩ = some b0 ∧ W.cell? ⟨w.heap.size + 1, 1, none⟩ = some b1 ∧ W.cell? ⟨w.heap.size + 1, 2, none⟩ = some b2 ∧ W.cell? ⟨w.heap.size + 1, 3, none⟩ = some b3) := by
  have k1 : W.heap[w.heap.size]? = some (.cells #[a0, a1, a2, a3] T (0, 0)) := by
    rw [h.block _ (by simp; omega), Below.heap_alloc _ _ _ (by simp; omega), Below.heap_alloc _ _ _ (by simp)]; exact heap_alloc_new w _
  have k2 : W.heap[w.heap.size + 1]? = some (.cells #[b0, b1, b2, b3] T (0, 0)) := by
    rw [h.block _ (by simp), Below.heap_alloc _ _ _ (by simp)]
    have := heap_alloc_new (w.alloc (.cells #[a0, a1, a2, a3] T)) (.cells #[b0, b1, b2, b3] T)
    rw [World.size_alloc] at this; exact this
  exact ⟨(box_facts k1).1, (box_facts k2).1⟩

end Go.Proofs.YthhhmjjgckkdhaaDoor
