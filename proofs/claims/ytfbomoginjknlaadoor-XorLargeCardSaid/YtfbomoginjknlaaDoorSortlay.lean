/-
  THE LAYING OF slices.SortFunc AT []node, as the shelf's command prints it. Its numbers are marks.
-/
import Derived.Shelf.SlGeneric
import Derived.Shelf.SlLaysF0
import Derived.Shelf.SlSortCmp.WholeK
import Derived.Test.YtfbomoginjknlaaDoorProg
import Derived.Test.YtfbomoginjknlaaDoorNodes
import Derived.Test.YtfbomoginjknlaaDoorPure
namespace Go.Proofs
open Go.Shelf
end Go.Proofs

/-
  THE LAYING OF slices.SortFunc AT []api.Binding, as the shelf's command prints it. Its numbers are marks.
-/
namespace Go.Proofs
open Go.Shelf
end Go.Proofs

/-
  slices.SortFunc AT A ROW OF NODES, by its contract of the shelf.
-/
namespace Go.Proofs.YtfbomoginjknlaaDoor
open Go.RowKit Go.Shelf Go.Lib Go.Sort

/-- A node's place, and what lies there. -/
structure NA (base : Nat) (w : World) where
  t : Tm
  b : Nat
  o : Nat
  lies : LiesIn (fun b => b < base) w t b o
  sz : size t ≤ 4611686018427387904
def encN {base : Nat} {w : World} (x : NA base w) : List Value := [.pointer (some ⟨x.b, x.o, none⟩), .int .i64 (size x.t)]

theorem NL_NA {base : Nat} {w : World} : ∀ (ts : List Tm) (vs : List Value), NL base w ts vs → (∀ t ∈ ts, size t ≤ 4611686018427387904) → ∃ l : List (NA base w), l.map NA.t = ts ∧ vs = l.flatMap encN
  | [], vs, h, _ => ⟨[], rfl, by simpa [NL] using h⟩
  | t :: ts, vs, h, hs => by
    obtain ⟨b, o, r, rfl, hL, hr⟩ := h
    obtain ⟨l, e1, e2⟩ := NL_NA ts r hr (fun u hu => hs u (List.mem_cons_of_mem _ hu))
    exact ⟨⟨t, b, o, hL, hs t (List.mem_cons_self ..)⟩ :: l, by simp [e1], by simp [e2, encN]⟩
theorem NA_NL {base : Nat} {w : World} : ∀ l : List (NA base w), NL base w (l.map NA.t) (l.flatMap encN)
  | [] => rfl
  | x :: l => ⟨x.b, x.o, l.flatMap encN, rfl, x.lies, NA_NL l⟩

theorem flat2 {α : Type} [Inhabited α] (enc : α → List Value) (h2 : ∀ x, (enc x).length = 2) : ∀ (l : List α) (j : Nat), j < l.length * 2 → (l.flatMap enc)[j]? = some ((enc l[j / 2]!)[j % 2]!)
  | [], j, h => by simp at h
  | x :: l, j, h => by
    have hx := h2 x
    obtain ⟨a, b, e⟩ : ∃ a b, enc x = [a, b] := by
      match enc x, hx with
      | [a, b], _ => exact ⟨a, b, rfl⟩
    match j, h with
    | 0, _ => simp [e]
    | 1, _ => simp [e]
    | j + 2, h =>
      have ih := flat2 enc h2 l j (by simp at h; omega)
      have e1 : (j + 2) / 2 = j / 2 + 1 := by omega
      have e2 : (j + 2) % 2 = j % 2 := by omega
      rw [e1, e2]
      simp only [List.flatMap_cons, e, List.cons_append, List.nil_append, List.getElem?_cons_succ]
      simpa using ih
theorem flat_len {α : Type} (enc : α → List Value) (h2 : ∀ x, (enc x).length = 2) : ∀ (l : List α), (l.flatMap enc).length = l.length * 2
  | [] => rfl
  | x :: l => by simp only [List.flatMap_cons, List.length_append, h2, flat_len enc h2 l, List.length_cons]; omega
theorem flatK_list {α : Type} [Inhabited α] (enc : α → List Value) (h2 : ∀ x, (enc x).length = 2) (d : Array α) : (flatK enc 2 d).toList = d.toList.flatMap enc := by
  apply List.ext_getElem?
  intro j
  by_cases hj : j < d.size * 2
  · rw [flat2 enc h2 d.toList j (by simpa using hj), Array.getElem?_toList, Array.getElem?_eq_getElem (by simpa using hj)]
    have := get_flatK enc 2 d j hj
    rw [getElem!_pos _ j (by simpa using hj)] at this
    rw [this]
    have e : d.toList[j / 2]! = d[j / 2]! := by
      rw [getElem!_pos d.toList (j / 2) (by simp; omega), getElem!_pos d (j / 2) (by omega)]; simp
    rw [e]
  · rw [List.getElem?_eq_none (by simpa using hj), List.getElem?_eq_none (by rw [flat_len enc h2]; simpa using hj)]

theorem own_putRow {w : World} {base : Nat} {e : TypeId} {g n k cap q : Nat} {zs ys : List Value} {os : Array Obj} (h : w.ownsRow base e k (.slice (some ⟨g, 0, none⟩) n cap) n zs) (hy : ys.length = n * k) :
    (Sort.grow (putRow id (Sort.ahead w q) g 0 ys.toArray) os).ownsRow base e k (.slice (some ⟨g, 0, none⟩) n cap) n ys := by
  rcases h.2 with ⟨e0, _⟩ | ⟨g', cap', cur, e0, hb, hg, hn, hm, hs, ht⟩
  · cases e0
  · injection e0 with e1 _ e3
    injection e1 with e1
    injection e1 with e1
    subst e1; subst e3
    have hg1 : (putRow id (Sort.ahead w q) g 0 ys.toArray).heap[g]? = some (.cells (putCells id 0 ys.toArray cur) e (0, 0)) := by
      simp [putRow, mapBlock, Sort.ahead, Array.getElem?_modify, hg, onCells]
    have hlt : g < (putRow id (Sort.ahead w q) g 0 ys.toArray).heap.size := by
      rcases Nat.lt_or_ge g (putRow id (Sort.ahead w q) g 0 ys.toArray).heap.size with h | h
      · exact h
      · rw [Array.getElem?_eq_none h] at hg1; cases hg1
    refine ⟨hy, .inr ⟨g, cap, putCells id 0 ys.toArray cur, rfl, hb, ?_, hn, hm, by simpa [putCells] using hs, ?_⟩⟩
    · rw [← hg1]; simp only [Sort.grow]; rw [Array.getElem?_append_left hlt]
    · have hcs : n * k ≤ cur.size := by rw [hs]; exact Nat.mul_le_mul_right k hn
      apply List.ext_getElem?
      intro j
      rw [List.getElem?_take, Array.getElem?_toList]
      by_cases hj : j < n * k
      · have hjc : j < cur.size := by omega
        simp only [if_pos hj, putCells, Array.getElem?_mapIdx, Array.getElem?_eq_getElem hjc, Option.map_some]
        rw [if_pos (by simp; omega), List.getElem?_eq_getElem (by omega)]
        simp [getElem!_pos, show j < ys.length by omega]
      · rw [if_neg hj, List.getElem?_eq_none (by omega)]
theorem putRow_below {w : World} {g q : Nat} {base : Nat} (hb : base ≤ g) (ys : Array Value) (os : Array Obj) (hbw : base ≤ w.heap.size) : Go.RowKit.Below base w (Sort.grow (putRow id (Sort.ahead w q) g 0 ys) os) := by
  have hsz : (putRow id (Sort.ahead w q) g 0 ys).heap.size = w.heap.size := by simp [putRow, mapBlock, Sort.ahead]
  refine ⟨rfl, rfl, rfl, ?_, fun b hlt => ?_⟩
  · simp only [Sort.grow, Array.size_append, hsz]; omega
  · simp only [Sort.grow]
    rw [Array.getElem?_append_left (by rw [hsz]; omega)]
    simp only [putRow, mapBlock, Sort.ahead, Array.getElem?_modify]
    rw [if_neg (by omega)]

end Go.Proofs.YtfbomoginjknlaaDoor
