/-
  A STORE INTO A BOX that holds the zero term leaves valid terms alone.
-/
import Derived.Test.YtcieadjjcpmieaaGreatLawSizesW
import Derived.Test.YtcieadjjcpmieaaGreatExt
namespace Go.Proofs.YtcieadjjcpmieaaGreat
open Go.RowKit Go.Lib

theorem nodesE_parts {k s : Int} {n : ByteArray} {ks : List Tm} (h : nodesE (.mk k n s ks) = 0) : nodeE (.mk k n s ks) = 0 ∧ nodesL ks = 0 := by
  rw [nodesE] at h
  by_cases h0 : nodeE (.mk k n s ks) = 0
  · rw [if_pos h0] at h; exact ⟨h0, h⟩
  · rw [if_neg h0] at h; exact absurd h h0
/-- What a store into a box that holds the zero term leaves alone: valid terms. -/
theorem heap_lt2 {w : World} {b : Nat} {o : Obj} (h : w.heap[b]? = some o) : b < w.heap.size := (Array.getElem?_eq_some_iff.1 h).1
theorem cell_block {w w' : World} {b o : Nat} (h : w'.heap[b]? = w.heap[b]?) : w'.cell? ⟨b, o, none⟩ = w.cell? ⟨b, o, none⟩ := by
  unfold World.cell?; simp only [h]
theorem valid_kind {k s : Int} {n : ByteArray} {ks : List Tm} (h : nodesE (.mk k n s ks) = 0) : ¬ k = 0 := by
  intro e
  subst e
  have := (nodesE_parts h).1
  simp [nodeE] at this
theorem is_keep {w w' : World} {g : Nat} (hk : ∀ b, b ≠ g → w'.heap[b]? = w.heap[b]?) (hz : ∀ (o : Nat) (n : Int), w.cell? ⟨g, o, none⟩ = some (.int .i64 n) → n = 0) (t : Tm) :
    nodesE t = 0 → ∀ c0 c1 c2 c3, Is w t c0 c1 c2 c3 → Is w' t c0 c1 c2 c3 := by
  refine Tm.rec (motive_1 := fun t => nodesE t = 0 → ∀ c0 c1 c2 c3, Is w t c0 c1 c2 c3 → Is w' t c0 c1 c2 c3) (motive_2 := fun ts => nodesL ts = 0 → ∀ xa, Row w ts xa → Row w' ts xa) ?_ ?_ ?_ t
  · intro k n s ks ih h c0 c1 c2 c3 hI
    simp only [Is] at hI ⊢
    obtain ⟨e0, e1, e2, b0, b2, h1, h2, xa, cap, e3, hc, hR⟩ := hI
    exact ⟨e0, e1, e2, b0, b2, h1, h2, xa, cap, e3, hc, ih (nodesE_parts h).2 xa hR⟩
  · intro _ xa _; simp [Row]
  · intro t ts ht hts h xa hR
    rw [nodesL] at h
    by_cases h0 : nodesE t = 0
    · rw [if_pos h0] at h
      simp only [Row] at hR ⊢
      obtain ⟨b, o, e, ⟨c0, c1, c2, c3, g0, g1, g2, g3, hI⟩, hR2⟩ := hR
      have hne : b ≠ g := by
        intro e'
        subst e'
        obtain ⟨k, n, s, ks⟩ := t
        have hI2 := hI
        simp only [Is] at hI2
        obtain ⟨rfl, _⟩ := hI2
        exact valid_kind h0 (hz o k g0)
      have hb := hk b hne
      exact ⟨b, o, e, ⟨c0, c1, c2, c3, by rw [cell_block hb]; exact g0, by rw [cell_block hb]; exact g1, by rw [cell_block hb]; exact g2, by rw [cell_block hb]; exact g3, ht h0 _ _ _ _ hI⟩, hts h _ hR2⟩
    · rw [if_neg h0] at h; exact absurd h h0
theorem row_keep {w w' : World} {g : Nat} (hk : ∀ b, b ≠ g → w'.heap[b]? = w.heap[b]?) (hz : ∀ (o : Nat) (n : Int), w.cell? ⟨g, o, none⟩ = some (.int .i64 n) → n = 0) : ∀ (ts : List Tm) (xa : Option Addr), (∀ t ∈ ts, nodesE t = 0) → Row w ts xa → Row w' ts xa
  | [], _, _, _ => by simp [Row]
  | t :: ts, xa, h, hR => by
    simp only [Row] at hR ⊢
    obtain ⟨b, o, e, ⟨c0, c1, c2, c3, g0, g1, g2, g3, hI⟩, hR2⟩ := hR
    have h0 := h t (List.mem_cons_self ..)
    have hne : b ≠ g := by
      intro e'
      subst e'
      obtain ⟨k, n, s, ks⟩ := t
      have hI2 := hI
      simp only [Is] at hI2
      obtain ⟨rfl, _⟩ := hI2
      exact valid_kind h0 (hz o k g0)
    have hb := hk b hne
    exact ⟨b, o, e, ⟨c0, c1, c2, c3, by rw [cell_block hb]; exact g0, by rw [cell_block hb]; exact g1, by rw [cell_block hb]; exact g2, by rw [cell_block hb]; exact g3, is_keep hk hz t h0 _ _ _ _ hI⟩, row_keep hk hz ts _ (fun u hu => h u (List.mem_cons_of_mem _ hu)) hR2⟩
end Go.Proofs.YtcieadjjcpmieaaGreat
