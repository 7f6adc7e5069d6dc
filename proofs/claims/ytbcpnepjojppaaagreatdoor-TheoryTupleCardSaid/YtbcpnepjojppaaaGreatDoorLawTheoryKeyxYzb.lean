import Derived.Test.YtbcpnepjojppaaaGreatDoorLawTheoryKeyxPuniq
import Derived.Test.YtbcpnepjojppaaaGreatDoorLawTheoryKeyxRound
import Derived.Test.YtbcpnepjojppaaaGreatDoorLawTheoryKeyxYtab
namespace Go.Proofs.YtbcpnepjojppaaaGreatDoor
open Go.RowKit Go.Lib
theorem nodesE_parts {k s : Int} {n : ByteArray} {ks : List Tm} (h : nodesE (.mk k n s ks) = 0) : nodeE (.mk k n s ks) = 0 ∧ nodesL ks = 0 := by
  rw [nodesE] at h
  by_cases h0 : nodeE (.mk k n s ks) = 0
  · rw [if_pos h0] at h; exact ⟨h0, h⟩
  · rw [if_neg h0] at h; exact absurd h h0
theorem cell_block {w w' : World} {b o : Nat} (h : w'.heap[b]? = w.heap[b]?) : w'.cell? ⟨b, o, none⟩ = w.cell? ⟨b, o, none⟩ := by
  unfold World.cell?; simp only [h]
theorem valid_kind {k s : Int} {n : ByteArray} {ks : List Tm} (h : nodesE (.mk k n s ks) = 0) : ¬ k = 0 := by
  intro e
  subst e
  have := (nodesE_parts h).1
  simp [nodeE] at this
end Go.Proofs.YtbcpnepjojppaaaGreatDoor
namespace Go.Proofs.YtbcpnepjojppaaaGreatDoor
open Go.RowKit Go.Lib
def zc (r : Nat) : Value := if r = 1 then .string ⟨#[]⟩ else if r = 3 then .slice none 0 0 else .int .i64 0
def Z4 (w : World) (g o : Nat) : Prop := ∀ r, r < 4 → ∀ v, w.cell? ⟨g, o + r, none⟩ = some v → v = zc r
def Only4 (w w' : World) (g o : Nat) : Prop := ∀ b q, (b = g ∧ o ≤ q ∧ q < o + 4) ∨ w'.cell? ⟨b, q, none⟩ = w.cell? ⟨b, q, none⟩
theorem node_apart {w : World} {g o b q : Nat} (hz : Z4 w g o) {t : Tm} (hv : nodesE t = 0) {c0 c1 c2 c3 : Value} (g0 : w.cell? ⟨b, q, none⟩ = some c0) (g1 : w.cell? ⟨b, q + 1, none⟩ = some c1) (g2 : w.cell? ⟨b, q + 2, none⟩ = some c2) (g3 : w.cell? ⟨b, q + 3, none⟩ = some c3) (hI : Is w t c0 c1 c2 c3) :
    b ≠ g ∨ q + 4 ≤ o ∨ o + 4 ≤ q := by
  obtain ⟨k, n, s, ks⟩ := t
  simp only [Is] at hI
  obtain ⟨rfl, rfl, rfl, _, _, _, _, xa, cap, rfl, _⟩ := hI
  have hk := valid_kind hv
  by_cases hb : b = g
  rotate_left
  · exact Or.inl hb
  subst hb
  refine Or.inr ?_
  by_cases h1 : q + 4 ≤ o
  · exact Or.inl h1
  by_cases h2 : o + 4 ≤ q
  · exact Or.inr h2
  exfalso
  by_cases hq : o ≤ q
  · have h := hz (q - o) (by omega) _ (by rw [Nat.add_sub_cancel' hq]; exact g0)
    have hc : q - o = 0 ∨ q - o = 1 ∨ q - o = 2 ∨ q - o = 3 := by omega
    rcases hc with e | e | e | e <;> rw [e] at h <;> simp [zc] at h <;> exact hk h
  · have hc : o = q + 1 ∨ o = q + 2 ∨ o = q + 3 := by omega
    rcases hc with rfl | rfl | rfl
    · have h := hz 0 (by omega) _ g1; simp [zc] at h
    · have h := hz 1 (by omega) _ g3; simp [zc] at h
    · have h := hz 0 (by omega) _ g3; simp [zc] at h
theorem is_keepZ {w w' : World} {g o : Nat} (hk : Only4 w w' g o) (hz : Z4 w g o) (t : Tm) : nodesE t = 0 → ∀ c0 c1 c2 c3, Is w t c0 c1 c2 c3 → Is w' t c0 c1 c2 c3 := by
  refine Tm.rec (motive_1 := fun t => nodesE t = 0 → ∀ c0 c1 c2 c3, Is w t c0 c1 c2 c3 → Is w' t c0 c1 c2 c3) (motive_2 := fun ts => nodesL ts = 0 → ∀ xa, Row w ts xa → Row w' ts xa) ?_ ?_ ?_ t
  · intro k n s ks ih h c0 c1 c2 c3 hI
    simp only [Is] at hI ⊢
    obtain ⟨e0, e1, e2, b0, b2, h1, h2, xa, cap, e3, hc, hR⟩ := hI
    exact ⟨e0, e1, e2, b0, b2, h1, h2, xa, cap, e3, hc, ih (nodesE_parts h).2 xa hR⟩
  · intro _ xa _; simp [Row]
  · intro t ts ht hts h xa hR
    rw [nodesL] at h
    by_cases h0 : nodesE t = 0
    · rw [if_pos h0] at h
      simp only [Row] at hR ⊢
      obtain ⟨b, q, e, ⟨c0, c1, c2, c3, g0, g1, g2, g3, hI⟩, hR2⟩ := hR
      have ha := node_apart hz h0 g0 g1 g2 g3 hI
      have hs : ∀ r, r < 4 → w'.cell? ⟨b, q + r, none⟩ = w.cell? ⟨b, q + r, none⟩ := fun r hr => by
        rcases hk b (q + r) with ⟨e1, e2, e3⟩ | e1
        · exfalso; rcases ha with h | h | h
          · exact h e1
          · omega
          · omega
        · exact e1
      exact ⟨b, q, e, ⟨c0, c1, c2, c3, (hs 0 (by omega)).trans g0, (hs 1 (by omega)).trans g1, (hs 2 (by omega)).trans g2, (hs 3 (by omega)).trans g3, ht h0 _ _ _ _ hI⟩, hts h _ hR2⟩
    · rw [if_neg h0] at h; exact absurd h h0
theorem lies_keepZ {w w' : World} {g o : Nat} (hk : Only4 w w' g o) (hz : Z4 w g o) {t : Tm} (hv : nodesE t = 0) {b q : Nat} (h : Lies w t b q) : Lies w' t b q := by
  obtain ⟨c0, c1, c2, c3, g0, g1, g2, g3, hI⟩ := h
  have ha := node_apart hz hv g0 g1 g2 g3 hI
  have hs : ∀ r, r < 4 → w'.cell? ⟨b, q + r, none⟩ = w.cell? ⟨b, q + r, none⟩ := fun r hr => by
    rcases hk b (q + r) with ⟨e1, e2, e3⟩ | e1
    · exfalso; rcases ha with h | h | h
      · exact h e1
      · omega
      · omega
    · exact e1
  exact ⟨c0, c1, c2, c3, (hs 0 (by omega)).trans g0, (hs 1 (by omega)).trans g1, (hs 2 (by omega)).trans g2, (hs 3 (by omega)).trans g3, is_keepZ hk hz t hv _ _ _ _ hI⟩
structure ZB (w : World) (g m : Nat) (us : List Tm) : Prop where
  blk : ∃ cur : Array Value, w.heap[g]? = some (.cells cur 24 (0, 0)) ∧ cur.size = m
  done : ∀ i (h : i < us.length), Lies w us[i] g (i * 4)
  rest : ∀ q, us.length * 4 ≤ q → ∀ v, w.cell? ⟨g, q, none⟩ = some v → v = zc (q % 4)
theorem ZB.lt {w : World} {g m : Nat} {us : List Tm} (h : ZB w g m us) : g < w.heap.size := by
  obtain ⟨cur, hc, _⟩ := h.blk
  exact (Array.getElem?_eq_some_iff.1 hc).1
theorem ZB.ext {w W : World} {g m : Nat} {us : List Tm} (h : ZB w g m us) (x : Ext w W) : ZB W g m us := by
  have hb := x.block g h.lt
  obtain ⟨cur, hc, hm⟩ := h.blk
  exact ⟨⟨cur, hb.trans hc, hm⟩, fun i hi => Lies_carry (keep_below x) (h.done i hi), fun q hq v hv => h.rest q hq v ((cell_block (o := q) hb).symm.trans hv)⟩
theorem ZB.z4 {w : World} {g m : Nat} {us : List Tm} (h : ZB w g m us) : Z4 w g (us.length * 4) := fun r hr v hv => by
  have e := h.rest (us.length * 4 + r) (by omega) v hv
  rw [e, show (us.length * 4 + r) % 4 = r by omega]
theorem ZB.cells {w : World} {g m : Nat} {us : List Tm} (h : ZB w g m us) {q : Nat} (hq : q < m) : (∃ z, w.cell? ⟨g, q, none⟩ = some z) ∧ w.frozen? ⟨g, q, none⟩ = false := by
  obtain ⟨cur, hc, hm⟩ := h.blk
  constructor
  · refine ⟨cur[q]'(by omega), ?_⟩
    unfold World.cell?
    rw [hc]
    simp [Array.getElem?_eq_getElem (show q < cur.size by omega)]
  · unfold World.frozen?; rw [hc]; simp
theorem Row_lies {w : World} {b : Nat} : ∀ (us : List Tm) (o : Nat), (∀ i (h : i < us.length), Lies w us[i] b (o + i * 4)) → Row w us (some ⟨b, o, none⟩)
  | [], _, _ => by simp [Row]
  | u :: us, o, h => by
    have h0 := h 0 (by simp)
    rw [Nat.zero_mul, Nat.add_zero] at h0
    refine Row_cons_mk h0 (Row_lies us (o + 4) fun i hi => ?_)
    have := h (i + 1) (by simpa using hi)
    simp only [List.getElem_cons_succ] at this
    rw [show o + 4 + i * 4 = o + (i + 1) * 4 by omega]; exact this
theorem ZB.row {w : World} {g m : Nat} {us : List Tm} (h : ZB w g m us) : Row w us (some ⟨g, 0, none⟩) := Row_lies us 0 fun i hi => by rw [Nat.zero_add]; exact h.done i hi
theorem ZB.step {w w' : World} {g m : Nat} {us : List Tm} {u : Tm} {c0 c1 c2 c3 : Value} (h : ZB w g m us) (hv : ∀ t ∈ us, nodesE t = 0) (hu : nodesE u = 0) (hI : Is w u c0 c1 c2 c3) (hO : Only4 w w' g (us.length * 4))
    (hb : ∃ cur : Array Value, w'.heap[g]? = some (.cells cur 24 (0, 0)) ∧ cur.size = m) (e0 : w'.cell? ⟨g, us.length * 4, none⟩ = some c0) (e1 : w'.cell? ⟨g, us.length * 4 + 1, none⟩ = some c1) (e2 : w'.cell? ⟨g, us.length * 4 + 2, none⟩ = some c2) (e3 : w'.cell? ⟨g, us.length * 4 + 3, none⟩ = some c3) : ZB w' g m (us ++ [u]) := by
  refine ⟨hb, fun i hi => ?_, fun q hq v hv2 => ?_⟩
  · by_cases hlt : i < us.length
    · rw [List.getElem_append_left hlt]
      exact lies_keepZ hO h.z4 (hv _ (List.getElem_mem hlt)) (h.done i hlt)
    · have he : i = us.length := by simp at hi; omega
      subst he
      rw [List.getElem_append_right (Nat.le_refl _)]
      simp only [Nat.sub_self, List.getElem_cons_zero]
      exact ⟨c0, c1, c2, c3, e0, e1, e2, e3, is_keepZ hO h.z4 u hu _ _ _ _ hI⟩
  · simp only [List.length_append, List.length_cons, List.length_nil] at hq
    rcases hO g q with ⟨_, _, hlt⟩ | e
    · omega
    · exact h.rest q (by omega) v (e.symm.trans hv2)
theorem put4_only (w : World) (g o : Nat) (c0 c1 c2 c3 : Value) : Only4 w (put4 w g o c0 c1 c2 c3) g o := fun b q => by
  by_cases h : b = g ∧ o ≤ q ∧ q < o + 4
  · exact Or.inl h
  · exact Or.inr (put4_far (by omega))
theorem setCell_blk {w : World} {g p : Nat} {v : Value} {cur : Array Value} {T : TypeId} {m : Nat} (h : w.heap[g]? = some (.cells cur T (0, 0)) ∧ cur.size = m) : ∃ cur' : Array Value, (w.setCell ⟨g, p, none⟩ v).heap[g]? = some (.cells cur' T (0, 0)) ∧ cur'.size = m := by
  refine ⟨cur.setIfInBounds p v, ?_, by simp [h.2]⟩
  simp [World.setCell, Array.getElem?_modify, h.1]
theorem ZB.put {w : World} {g m : Nat} {us : List Tm} {u : Tm} {c0 c1 c2 c3 : Value} (h : ZB w g m us) (hm : us.length * 4 + 4 ≤ m) (hv : ∀ t ∈ us, nodesE t = 0) (hu : nodesE u = 0) (hI : Is w u c0 c1 c2 c3) : ZB (put4 w g (us.length * 4) c0 c1 c2 c3) g m (us ++ [u]) := by
  obtain ⟨⟨z0, g0⟩, _⟩ := h.cells (q := us.length * 4) (by omega)
  obtain ⟨⟨z1, g1⟩, _⟩ := h.cells (q := us.length * 4 + 1) (by omega)
  obtain ⟨⟨z2, g2⟩, _⟩ := h.cells (q := us.length * 4 + 2) (by omega)
  obtain ⟨⟨z3, g3⟩, _⟩ := h.cells (q := us.length * 4 + 3) (by omega)
  obtain ⟨e0, e1, e2, e3⟩ := put4_at (d0 := c0) (d1 := c1) (d2 := c2) (d3 := c3) g0 g1 g2 g3
  refine h.step hv hu hI (put4_only _ _ _ _ _ _ _) ?_ e0 e1 e2 e3
  obtain ⟨cur, hc⟩ := h.blk
  unfold put4
  obtain ⟨cur, hc⟩ := setCell_blk (p := us.length * 4) (v := c0) hc
  obtain ⟨cur, hc⟩ := setCell_blk (p := us.length * 4 + 1) (v := c1) hc
  obtain ⟨cur, hc⟩ := setCell_blk (p := us.length * 4 + 2) (v := c2) hc
  exact setCell_blk hc
theorem zcA (r : Nat) (h : r < 4) : (#[.int .i64 0, .string ⟨#[]⟩, .int .i64 0, .slice none 0 0] : Array Value)[r]! = zc r := by
  have hc : r = 0 ∨ r = 1 ∨ r = 2 ∨ r = 3 := by omega
  rcases hc with rfl | rfl | rfl | rfl <;> rfl
theorem ZB.made {w : World} {g n : Nat} {H : Nat} {m : Nat} (h : w.ownsRow H 24 4 (.slice (some ⟨g, 0, none⟩) n n) n (madeCells #[.int .i64 0, .string ⟨#[]⟩, .int .i64 0, .slice none 0 0] m).toList) : ZB w g (n * 4) [] := by
  have hl := h.1
  have hm : m = n * 4 := by simpa [madeCells] using hl
  rcases h.2 with ⟨e, _⟩ | ⟨g', cap, cur, e, _, hb, h1, h2, hs, ht⟩
  · simp at e
  · simp only [Value.slice.injEq, Option.some.injEq, Addr.mk.injEq, and_true, true_and] at e
    obtain ⟨rfl, rfl⟩ := e
    refine ⟨⟨cur, hb, hs⟩, fun i hi => by simp at hi, fun q _ v hv => ?_⟩
    have hc : cur.toList = (madeCells #[.int .i64 0, .string ⟨#[]⟩, .int .i64 0, .slice none 0 0] m).toList := by rw [← ht, List.take_of_length_le (by simp [hs])]
    have hc2 : cur = madeCells #[.int .i64 0, .string ⟨#[]⟩, .int .i64 0, .slice none 0 0] m := Array.toList_inj.1 hc
    unfold World.cell? at hv
    rw [hb, hc2] at hv
    have hq : q < m := by
      apply Classical.byContradiction
      intro hq
      simp [madeCells, show ¬ q < m from hq] at hv
    simp [madeCells, hq] at hv
    rw [← hv]
    have := zcA (q % 4) (Nat.mod_lt _ (by omega))
    simpa using this
end Go.Proofs.YtbcpnepjojppaaaGreatDoor
