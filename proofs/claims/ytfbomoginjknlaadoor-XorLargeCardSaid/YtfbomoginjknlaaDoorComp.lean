/-
  WHAT slices.CompactFunc COMPUTES AT NODES, and the laws that its walk wants.
-/
import Derived.Test.YtfbomoginjknlaaDoorSortlay
import Derived.Lib.SliceRun
import Derived.IntWalk
namespace Go.Proofs.YtfbomoginjknlaaDoor
open Go.RowKit Go.Lib

section
variable {base : Nat} {w : World}
/-- Consecutive equals but once, p being the one ahead. -/
def cptN (p : NA base w) : List (NA base w) → List (NA base w)
  | [] => []
  | x :: xs => if cmpT x.t p.t = 0 then cptN x xs else x :: cptN x xs
def compN : List (NA base w) → List (NA base w)
  | [] => []
  | x :: xs => x :: cptN x xs

/-- The first loop: no equals so far. -/
structure CH (L : List (NA base w)) (k : Nat) : Prop where
  lt : k < L.length
  eq : ∀ h : k < L.length, compN L = L.take (k + 1) ++ cptN L[k] (L.drop (k + 1))
theorem CH.start {L : List (NA base w)} (h : 0 < L.length) : CH L 0 := ⟨h, fun _ => by
  cases L with
  | nil => simp at h
  | cons x xs => simp [compN]⟩
theorem CH.step {L : List (NA base w)} {k : Nat} (h : CH L k) (hk : k + 1 < L.length) (hne : ¬ cmpT L[k + 1].t (L[k]'h.lt).t = 0) : CH L (k + 1) := ⟨hk, fun _ => by
  have := h.eq h.lt
  rw [List.drop_eq_getElem_cons hk, cptN, if_neg hne] at this
  rw [this, List.take_succ_eq_append_getElem hk, List.append_assoc]; rfl⟩
theorem CH.done {L : List (NA base w)} {k : Nat} (h : CH L k) (hk : L.length = k + 1) : compN L = L := by
  have := h.eq h.lt
  rw [List.drop_of_length_le (by omega), cptN, List.take_of_length_le (by omega), List.append_nil] at this
  exact this

/-- The second loop: kk places are laid, the place ahead is p. -/
structure CI (L cur : List (NA base w)) (p kk : Nat) : Prop where
  len : cur.length = L.length
  lt : kk ≤ p
  plt : p < L.length
  high : ∀ i, p ≤ i → cur[i]? = L[i]?
  eq : ∀ h : p < L.length, compN L = cur.take kk ++ cptN L[p] (L.drop (p + 1))
theorem CI.start {L : List (NA base w)} {k : Nat} (h : CH L k) (hk : k + 1 < L.length) (he : cmpT L[k + 1].t (L[k]'h.lt).t = 0) : CI L L (k + 1) (k + 1) := ⟨rfl, Nat.le_refl _, hk, fun _ _ => rfl, fun _ => by
  have := h.eq h.lt
  rw [List.drop_eq_getElem_cons hk, cptN, if_pos he] at this
  exact this⟩
theorem CI.skip {L cur : List (NA base w)} {p kk : Nat} (h : CI L cur p kk) (hp : p + 1 < L.length) (he : cmpT L[p + 1].t (L[p]'h.plt).t = 0) : CI L cur (p + 1) kk := ⟨h.len, Nat.le_succ_of_le h.lt, hp, fun i hi => h.high i (by omega), fun _ => by
  have := h.eq h.plt
  rw [List.drop_eq_getElem_cons hp, cptN, if_pos he] at this
  exact this⟩
theorem CI.keep {L cur : List (NA base w)} {p kk : Nat} (h : CI L cur p kk) (hp : p + 1 < L.length) (he : ¬ cmpT L[p + 1].t (L[p]'h.plt).t = 0) : CI L (cur.set kk L[p + 1]) (p + 1) (kk + 1) := by
  have hl := h.lt
  have hc := h.len
  refine ⟨by rw [List.length_set]; exact h.len, by omega, hp, fun i hi => ?_, fun _ => ?_⟩
  · rw [List.getElem?_set_ne (by omega)]; exact h.high i (by omega)
  · have := h.eq h.plt
    rw [List.drop_eq_getElem_cons hp, cptN, if_neg he] at this
    rw [this, List.take_succ_eq_append_getElem (by rw [List.length_set]; omega), List.getElem_set_self, List.take_set_of_le (Nat.le_refl _), List.append_assoc]; rfl
theorem CI.done {L cur : List (NA base w)} {p kk : Nat} (h : CI L cur p kk) (hp : L.length = p + 1) : compN L = cur.take kk ∧ kk ≤ p := by
  have := h.eq h.plt
  rw [List.drop_of_length_le (by omega), cptN, List.append_nil] at this
  exact ⟨this, h.lt⟩
end

/-- 'clear(s)' at elements of whatever many cells. -/
theorem run_clear_row {P : Program} (w : World) (t e ty : TypeId) (z : Value) (zs : List Value) (ht : P.underlying t = some (.slice e)) (hv : ∀ w, (zeroValue e).run P w = .ok z w) (b o n c : Nat) (hn : 0 < n) (hz : (Builtin.zeroCells z.cells n).toList = zs)
    (hc : ∀ j, j < zs.length → (w.cell? ⟨b, o + j, none⟩).isSome = true) (hf : ∀ j, j < zs.length → w.frozen? ⟨b, o + j, none⟩ = false) (h1 : ∀ v ∈ zs, v.oneCell' = true) :
    (Builtin.clear_ #[t] ty #[.slice (some ⟨b, o, none⟩) n c]).run P w = .ok (.tuple #[]) (w.setCells b o zs) := by
  have hst := run_storeCells_cells (P := P) b o zs 0 w (by simpa using hc) (by simpa using hf) h1
  simp only [Nat.add_zero] at hst
  obtain ⟨m, rfl⟩ : ∃ m, n = m + 1 := ⟨n - 1, by omega⟩
  simp [Builtin.clear_, run_underlying ht, hv, hz, hst]

theorem own_setCells {base : Nat} {T : TypeId} {k g n cap : Nat} : ∀ (zs : List Value) (o : Nat) (xs : List Value) (w : World), w.ownsRow base T k (.slice (some ⟨g, 0, none⟩) n cap) n xs →
    ∃ ys, (w.setCells g o zs).ownsRow base T k (.slice (some ⟨g, 0, none⟩) n cap) n ys ∧ ys.take o = xs.take o ∧ Below base w (w.setCells g o zs)
  | [], o, xs, w, h => ⟨xs, h, rfl, Below.refl _ _⟩
  | z :: zs, o, xs, w, h => by
    have h1 := (h.stored o z).1
    obtain ⟨ys, h2, h3, h4⟩ := own_setCells zs (o + 1) _ _ h1
    refine ⟨ys, h2, ?_, ((Below.refl _ _).setCell (h.lt g rfl).1 z).trans h4⟩
    have := congrArg (List.take o) h3
    rw [List.take_take, List.take_take, Nat.min_eq_left (by omega)] at this
    rw [this, List.take_set_of_le (Nat.le_refl _)]

end Go.Proofs.YtfbomoginjknlaaDoor

/-
  THE WALK OF slices.CompactFunc AT NODES.
-/
namespace Go.Proofs.YtfbomoginjknlaaDoor
open Go.RowKit Go.Lib

section
variable {base : Nat} {w : World}
theorem encN_len (x : NA base w) : (encN x).length = 2 := rfl
theorem NA.liesAt (x : NA base w) {wr : World} (h : Below base w wr) : Lies wr x.t x.b x.o := by
  obtain ⟨_, c0, c1, c2, c3, q0, q1, q2, q3, hI⟩ := LiesIn_carry (fun b hb => h.block b hb) (fun _ h => h) x.lies
  exact ⟨c0, c1, c2, c3, q0, q1, q2, q3, IsIn_Is _ _ _ _ _ hI⟩

theorem own_cap {wr : World} {g n cap : Nat} {T : TypeId} {k : Nat} {xs : List Value} (h : wr.ownsRow base T k (.slice (some ⟨g, 0, none⟩) n cap) n xs) : n ≤ cap := by
  rcases h.2 with ⟨e, _⟩ | ⟨g', c, cur, e, _, _, h1, _⟩
  · cases e
  · simp only [Value.slice.injEq] at e; omega

theorem node_below {g kk : Nat} (hg : base ≤ g) (wr : World) (u v : Value) : Below base wr ((wr.setCell ⟨g, kk * 2, none⟩ u).setCell ⟨g, kk * 2 + 1, none⟩ v) := ((Below.refl _ _).setCell hg u).setCell hg v

theorem flat_take : ∀ (l : List (NA base w)) (i : Nat), (l.flatMap encN).take (i * 2) = (l.take i).flatMap encN
  | [], i => by simp
  | x :: l, 0 => by simp
  | x :: l, i + 1 => by
    have := flat_take l i
    simp only [List.flatMap_cons, List.take_succ_cons, ← this]
    simp only [encN, List.cons_append, List.nil_append, show (i + 1) * 2 = i * 2 + 1 + 1 by omega, List.take_succ_cons]
def zeroN (n : Nat) : List Value := (Builtin.zeroCells (Value.agg #[.pointer none, .int .i64 0]).cells n).toList
theorem zeroN_length (n : Nat) : (zeroN n).length = n * 2 := by simp [zeroN, Builtin.zeroCells, Value.cells]
theorem zeroN_one (n : Nat) : ∀ v ∈ zeroN n, v.oneCell' = true := by
  intro v hv
  simp only [zeroN, Builtin.zeroCells, Value.cells, Array.toList_map, List.mem_map] at hv
  obtain ⟨i, _, rfl⟩ := hv
  have : i % 2 = 0 ∨ i % 2 = 1 := by omega
  rcases this with h | h <;> (simp only [List.size_toArray, List.length_cons, List.length_nil]; rw [h]; rfl)
end
end Go.Proofs.YtfbomoginjknlaaDoor
