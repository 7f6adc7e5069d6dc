/-
  THE ORDER OF NODES: term.compareNodes, and the equality that setOf compacts by.
-/
import Derived.Test.YtkdnfioihhfmpaaGreatDoorCmp
import Derived.Sort.Grow
import Derived.Deep.Draws
namespace Go.Proofs.YtkdnfioihhfmpaaGreatDoor
open Go.RowKit

theorem Gr.grow {w w' : World} (h : Gr w w') : ∃ q os, w' = Sort.grow (w.drewN q) os := by
  refine ⟨w'.drawn - w.drawn, w'.heap.extract w.heap.size w'.heap.size, ?_⟩
  have hs := h.below.size
  have hb := h.below.block
  have hd := h.drawn
  have e1 := h.below.os; have e2 := h.below.tape; have e3 := h.below.output
  obtain ⟨hp, tp, dr, os, out⟩ := w
  obtain ⟨hp', tp', dr', os', out'⟩ := w'
  simp only at hs hb hd e1 e2 e3
  subst e1 e2 e3
  simp only [Sort.grow, World.drewN, World.mk.injEq, true_and, and_true]
  refine ⟨?_, by omega⟩
  apply Array.ext_getElem?
  intro i
  rw [Array.getElem?_append]
  split
  · rename_i hi; exact hb i hi
  · rename_i hi
    rw [Array.getElem?_extract]
    split
    · congr 1; omega
    · rw [Array.getElem?_eq_none]; omega

theorem cmpT_sizes (t u : Tm) (h : size t ≠ size u) : cmpT t u = num (size t) (size u) := by
  obtain ⟨k, n, s, ks⟩ := t
  obtain ⟨k', n', s', ks'⟩ := u
  simp only [size] at h ⊢
  simp only [cmpT, orr]
  rw [if_neg]
  simp only [num]; split
  · omega
  · split <;> omega

end Go.Proofs.YtkdnfioihhfmpaaGreatDoor
