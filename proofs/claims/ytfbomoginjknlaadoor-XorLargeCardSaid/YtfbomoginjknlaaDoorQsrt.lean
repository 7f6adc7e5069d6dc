/-
  slices.Sort AT NUMBERS OF ONE'S OWN: its laying, as the shelf's command prints it (the numbers are marks), and its contract.
-/
import Derived.Shelf.Sort.Plain
import Derived.Shelf.Slices.In.SortNone
import Derived.Test.YtfbomoginjknlaaDoorQone
namespace Go.Proofs
open Go.Shelf
end Go.Proofs
namespace Go.Proofs.YtfbomoginjknlaaDoor
open Go.RowKit Go.Lib Go.Sort

theorem putRow_int (w : World) (g : Nat) (d : Array Int) : putRow (Value.int .i64) w g 0 d = putRow id w g 0 (d.map (Value.int .i64)) := by
  unfold putRow
  congr 1
  funext c
  unfold putCells
  apply Array.ext_getElem?
  intro k
  simp only [Array.getElem?_mapIdx, Array.size_map]
  cases c[k]? with
  | none => rfl
  | some y =>
    simp only [Option.map_some, Option.some.injEq]
    by_cases h : 0 ≤ k ∧ k < 0 + d.size
    · rw [if_pos h, if_pos h]
      have h1 : k - 0 < d.size := by omega
      rw [getElem!_pos d (k - 0) h1, getElem!_pos (d.map (Value.int .i64)) (k - 0) (by simpa using h1)]
      simp
    · rw [if_neg h, if_neg h]
end Go.Proofs.YtfbomoginjknlaaDoor

/-
  THE WALK OF THE REFERENCE'S flip.
-/
namespace Go.Proofs.YtfbomoginjknlaaDoor
open Go.RowKit Go.Lib

theorem OwnI_one (H : Nat) (w : World) (i : Int) (hH : H ≤ w.heap.size) : OwnI H (w.alloc (.cells #[.int .i64 i] 3)) [i] (.slice (some ⟨w.heap.size, 0, none⟩) 1 1) :=
  ⟨rfl, .inr ⟨w.heap.size, 1, #[.int .i64 i], rfl, hH, heap_alloc_new w _, Nat.le_refl _, by simp [maxLen], rfl, rfl⟩⟩
/-- What flip gives back: some numbers, in new memory. -/
def FlipPost (l : List Int) (w : World) (e : Ending) (w' : World) : Prop :=
  ∃ m v, e = .returned v ∧ m.length ≤ l.length + 1 ∧ (∀ x ∈ m, -9223372036854775808 ≤ x ∧ x ≤ 9223372036854775807) ∧ OwnI w.heap.size w' m v ∧ Ext w w'
theorem rng_snoc {m : List Int} {x : Int} (h : ∀ y ∈ m, -9223372036854775808 ≤ y ∧ y ≤ 9223372036854775807) (hx : -9223372036854775808 ≤ x ∧ x ≤ 9223372036854775807) : ∀ y ∈ m ++ [x], -9223372036854775808 ≤ y ∧ y ≤ 9223372036854775807 := fun y hy => by
  rcases List.mem_append.1 hy with hy | hy
  · exact h y hy
  · rw [List.mem_singleton.1 hy]; exact hx
end Go.Proofs.YtfbomoginjknlaaDoor
