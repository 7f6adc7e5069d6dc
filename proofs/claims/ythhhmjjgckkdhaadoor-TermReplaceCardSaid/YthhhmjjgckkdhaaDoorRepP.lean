/-
  WHAT A REPLACEMENT COMPUTES, plain; At and Replace, said in one form.
-/
import Derived.Test.YthhhmjjgckkdhaaDoorReplace
import Derived.Test.YthhhmjjgckkdhaaDoorRrepS
import Derived.Test.YthhhmjjgckkdhaaDoorIntz
namespace Go.Proofs.YthhhmjjgckkdhaaDoor
open Go.RowKit

theorem atT_mk {k s : Int} {n : ByteArray} {ks : List Tm} {y : Nat} (h : y < ks.length) (p : List Int) : atT (.mk k n s ks) ((y : Int) :: p) = atT ks[y] p :=
  atT_in (t := .mk k n s ks) (p := (y : Int) :: p) (j := 0) (y := y) (by simp) h rfl
theorem atT_mk_out {k s : Int} {n : ByteArray} {ks : List Tm} {i : Int} (h : i < 0 ∨ (ks.length : Int) ≤ i) (p : List Int) : atT (.mk k n s ks) (i :: p) = none :=
  atT_out (t := .mk k n s ks) (p := i :: p) (j := 0) (by simp) h
theorem repT_mk {k s : Int} {n : ByteArray} {ks : List Tm} {i : Int} {p : List Int} {u a : Tm} (h : repT (.mk k n s ks) (i :: p) u = some a) : ∃ (y : Nat) (hy : y < ks.length) (x : Tm), i = (y : Int) ∧ repT ks[y] p u = some x ∧ a = .mk k n s (ks.set y x) := by
  simp only [repT] at h
  split at h
  · rename_i hh
    rw [Option.map_eq_some_iff] at h
    obtain ⟨x, hx, rfl⟩ := h
    have hh' : 0 ≤ i ∧ i < (ks.length : Int) := hh
    refine ⟨i.toNat, by omega, x, by omega, hx, rfl⟩
  · cases h
theorem rep_at : ∀ (p : List Int) (t u a : Tm), repT t p u = some a → atT a p = some u
  | [], t, u, a, h => by simp only [repT, Option.some.injEq] at h; subst h; rfl
  | i :: p, .mk k n s ks, u, a, h => by
    obtain ⟨y, hy, x, rfl, hx, rfl⟩ := repT_mk h
    rw [atT_mk (by rw [List.length_set]; exact hy), List.getElem_set_self]
    exact rep_at p _ u x hx

theorem rep_other : ∀ (p q : List Int) (t u a : Tm), repT t p u = some a → ¬ p.take (min p.length q.length) = q.take (min p.length q.length) → atT a q = atT t q
  | [], q, t, u, a, _, hd => by simp at hd
  | i :: p, [], t, u, a, _, hd => by simp at hd
  | i :: p, j :: q, .mk k n s ks, u, a, h, hd => by
    obtain ⟨y, hy, x, rfl, hx, rfl⟩ := repT_mk h
    by_cases hj : j < 0 ∨ (ks.length : Int) ≤ j
    · rw [atT_mk_out (by rw [List.length_set]; exact hj), atT_mk_out hj]
    · have hlo : 0 ≤ j := by omega
      obtain ⟨z, rfl⟩ := Int.eq_ofNat_of_zero_le hlo
      have hz : z < ks.length := by omega
      rw [atT_mk (by rw [List.length_set]; exact hz), atT_mk hz]
      by_cases e : y = z
      · subst e
        rw [List.getElem_set_self]
        refine rep_other p q _ u x hx fun e => hd ?_
        simp only [List.length_cons, Nat.succ_min_succ, List.take_succ_cons, e]
      · rw [List.getElem_set_ne e]

theorem set_size : ∀ (ks : List Tm) (y : Nat) (x : Tm) (h : y < ks.length), sizes (ks.set y x) + size ks[y] = sizes ks + size x
  | k :: ks, 0, x, _ => by simp only [List.set_cons_zero, sizes, List.getElem_cons_zero]; omega
  | k :: ks, y + 1, x, h => by
    have := set_size ks y x (by simpa using h)
    simp only [List.set_cons_succ, sizes, List.getElem_cons_succ]; omega
theorem rep_size : ∀ (p : List Int) (t u a : Tm), repT t p u = some a → size a ≤ size t + size u
  | [], t, u, a, h => by simp only [repT, Option.some.injEq] at h; subst h; omega
  | i :: p, .mk k n s ks, u, a, h => by
    obtain ⟨y, hy, x, rfl, hx, rfl⟩ := repT_mk h
    have h1 := rep_size p _ u x hx
    have h2 := set_size ks y x hy
    simp only [size]; omega
theorem rep_some : ∀ (p : List Int) (t u x : Tm), atT t p = some x → ∃ a, repT t p u = some a
  | [], t, u, x, _ => ⟨u, rfl⟩
  | i :: p, t, u, x, h => by
    simp only [atT] at h
    split at h
    · rename_i hh
      obtain ⟨a, ha⟩ := rep_some p _ u x h
      simp only [repT]
      rw [dif_pos hh, ha]
      exact ⟨_, rfl⟩
    · cases h

/-- The term that stands for none. -/
def noneT : Tm := .mk 0 ⟨#[]⟩ 0 []
theorem noneT_is (w : World) : Is w noneT (.int .i64 0) (.string ⟨#[]⟩) (.int .i64 0) (.slice none 0 0) := by
  simp only [noneT, Is]
  exact ⟨trivial, trivial, trivial, by omega, by omega, Nat.zero_le _, Nat.zero_le _, none, 0, rfl, Nat.le_refl _, by simp [Row]⟩

/-- A call that returns a term and an error. -/
def ResE (er : Int) (R : Tm) (w : World) (e : Ending) (w' : World) : Prop :=
  ∃ (k : Int) (n : ByteArray) (s : Int) (xa : Option Addr) (l c : Nat), e = .returned (.tuple #[.agg #[.int .i64 k, .string n, .int .i64 s, .slice xa l c], .int .i64 er]) ∧ Is w' R (.int .i64 k) (.string n) (.int .i64 s) (.slice xa l c) ∧ Below w.heap.size w w'
theorem ResE_none {w : World} {e : Ending} {w' : World} (hB : Below w.heap.size w w') (h : e = .returned (.tuple #[.agg #[.int .i64 0, .string ⟨#[]⟩, .int .i64 0, .slice none 0 0], .int .i64 7])) : ResE 7 noneT w e w' :=
  ⟨_, _, _, _, _, _, h, noneT_is w', hB⟩
theorem ResE_some {w : World} {e : Ending} {w' : World} {R : Tm} {c0 c1 c2 c3 : Value} (hB : Below w.heap.size w w') (h : e = .returned (.tuple #[.agg #[c0, c1, c2, c3], .int .i64 0])) (hI : Is w' R c0 c1 c2 c3) : ResE 0 R w e w' := by
  obtain ⟨k, n, s, xa, l, c, rfl, rfl, rfl, rfl⟩ := Is_form hI
  exact ⟨k, n, s, xa, l, c, h, hI, hB⟩

/-- The same, the term's memory being new. -/
def ResI (er : Int) (R : Tm) (w : World) (e : Ending) (w' : World) : Prop :=
  ∃ (k : Int) (n : ByteArray) (s : Int) (xa : Option Addr) (l c : Nat), e = .returned (.tuple #[.agg #[.int .i64 k, .string n, .int .i64 s, .slice xa l c], .int .i64 er]) ∧ IsIn (fun b => w.heap.size ≤ b) w' R (.int .i64 k) (.string n) (.int .i64 s) (.slice xa l c) ∧ Below w.heap.size w w'
theorem ResI_none {w : World} {e : Ending} {w' : World} (hB : Below w.heap.size w w') (h : e = .returned (.tuple #[.agg #[.int .i64 0, .string ⟨#[]⟩, .int .i64 0, .slice none 0 0], .int .i64 7])) : ResI 7 noneT w e w' :=
  ⟨_, _, _, _, _, _, h, by
    simp only [noneT, IsIn]
    exact ⟨trivial, trivial, trivial, by omega, by omega, Nat.zero_le _, Nat.zero_le _, none, 0, rfl, Nat.le_refl _, by simp [RowIn]⟩, hB⟩
theorem ResI_some {w : World} {e : Ending} {w' : World} {R : Tm} {c0 c1 c2 c3 : Value} (hB : Below w.heap.size w w') (h : e = .returned (.tuple #[.agg #[c0, c1, c2, c3], .int .i64 0])) (hI : IsIn (fun b => w.heap.size ≤ b ∧ b < w'.heap.size) w' R c0 c1 c2 c3) : ResI 0 R w e w' := by
  obtain ⟨k, n, s, xa, l, c, rfl, rfl, rfl, rfl⟩ := IsIn_form hI
  exact ⟨k, n, s, xa, l, c, h, IsIn_carry (fun _ _ => rfl) (fun _ hb => hb.1) _ _ _ _ _ hI, hB⟩

section
variable {t u : Tm} {p : List Int} {c0 c1 c2 c3 x0 x1 x2 x3 v : Value} {w : World}
theorem Replace_N (hM : size t ≤ 1073741824) (hM2 : size u ≤ 1073741824) (hI : Is w t c0 c1 c2 c3) (hJ : Is w u x0 x1 x2 x3) (hp : IntsV w v p) (hr : atT t p = none) : Calls Tryd.prog 39 #[.agg #[c0, c1, c2, c3], v, .agg #[x0, x1, x2, x3]] w (ResI 7 noneT w) := by
  refine (Replace_any t u p c0 c1 c2 c3 x0 x1 x2 x3 v w hM hM2 hI hJ hp).mono fun e w' h => ?_
  rw [rep_none p t u hr] at h
  exact ResI_none h.1 h.2
theorem Replace_S {a : Tm} (hM : size t ≤ 1073741824) (hM2 : size u ≤ 1073741824) (hI : Is w t c0 c1 c2 c3) (hJ : Is w u x0 x1 x2 x3) (hp : IntsV w v p) (hr : repT t p u = some a) : Calls Tryd.prog 39 #[.agg #[c0, c1, c2, c3], v, .agg #[x0, x1, x2, x3]] w (ResI 0 a w) := by
  refine (Replace_any t u p c0 c1 c2 c3 x0 x1 x2 x3 v w hM hM2 hI hJ hp).mono fun e w' h => ?_
  rw [hr] at h
  obtain ⟨hB, d0, d1, d2, d3, he, hA⟩ := h
  exact ResI_some hB he hA
theorem At_N (hM : size t ≤ 1073741824) (hI : Is w t c0 c1 c2 c3) (hp : IntsV w v p) (hr : atT t p = none) : Calls Tryd.prog 37 #[.agg #[c0, c1, c2, c3], v] w (ResE 7 noneT w) := by
  refine (At_any t p c0 c1 c2 c3 v w hM hI hp).mono fun e w' h => ?_
  rw [hr] at h
  exact ResE_none h.1 h.2
theorem At_S {x : Tm} (hM : size t ≤ 1073741824) (hI : Is w t c0 c1 c2 c3) (hp : IntsV w v p) (hr : atT t p = some x) : Calls Tryd.prog 37 #[.agg #[c0, c1, c2, c3], v] w (ResE 0 x w) := by
  refine (At_any t p c0 c1 c2 c3 v w hM hI hp).mono fun e w' h => ?_
  rw [hr] at h
  obtain ⟨hB, d0, d1, d2, d3, he, hA⟩ := h
  exact ResE_some hB he (IsIn_Is _ _ _ _ _ hA)
theorem rat_N (hI : Is w t c0 c1 c2 c3) (hp : IntsV w v p) (hr : atT t p = none) : Calls Tryd.prog 42 #[.agg #[c0, c1, c2, c3], v] w (ResE 7 noneT w) := by
  refine (rat_any t p c0 c1 c2 c3 v w hI hp).mono fun e w' h => ?_
  rw [hr] at h
  exact ResE_none h.1 h.2
theorem rat_S {x : Tm} (hI : Is w t c0 c1 c2 c3) (hp : IntsV w v p) (hr : atT t p = some x) : Calls Tryd.prog 42 #[.agg #[c0, c1, c2, c3], v] w (ResE 0 x w) := by
  refine (rat_any t p c0 c1 c2 c3 v w hI hp).mono fun e w' h => ?_
  rw [hr] at h
  obtain ⟨hB, d0, d1, d2, d3, he, hA⟩ := h
  exact ResE_some hB he (Is_below hA hB)
theorem rrep_N (hM : size t ≤ 1073741824) (hI : Is w t c0 c1 c2 c3) (hJ : Is w u x0 x1 x2 x3) (hp : IntsC w v p) (hr : atT t p = none) : Calls Tryd.prog 41 #[.agg #[c0, c1, c2, c3], v, .agg #[x0, x1, x2, x3]] w (ResE 7 noneT w) := by
  refine (rrep_any u x0 x1 x2 x3 w.heap.size p t c0 c1 c2 c3 v w hM (Nat.le_refl _) (Is_IsIn _ _ _ _ _ hI) hp (Is_IsIn _ _ _ _ _ hJ)).mono fun e w' h => ?_
  rw [rep_none p t u hr] at h
  exact ResE_none h.1 h.2
theorem rrep_S {a : Tm} (hM : size t ≤ 1073741824) (hI : Is w t c0 c1 c2 c3) (hJ : Is w u x0 x1 x2 x3) (hp : IntsC w v p) (hr : repT t p u = some a) : Calls Tryd.prog 41 #[.agg #[c0, c1, c2, c3], v, .agg #[x0, x1, x2, x3]] w (ResE 0 a w) := by
  refine (rrep_any u x0 x1 x2 x3 w.heap.size p t c0 c1 c2 c3 v w hM (Nat.le_refl _) (Is_IsIn _ _ _ _ _ hI) hp (Is_IsIn _ _ _ _ _ hJ)).mono fun e w' h => ?_
  rw [hr] at h
  obtain ⟨hB, d0, d1, d2, d3, he, hA⟩ := h
  exact ResE_some hB he (IsIn_Is _ _ _ _ _ hA)
end

theorem IntsV_take {w : World} {xa : Option Addr} {cap n : Nat} {l : List Int} {m : Nat} (h : IntsV w (.slice xa m cap) l) (hm : m = l.length) (hn : n ≤ l.length) : IntsV w (.slice xa n cap) (l.take n) := by
  subst hm
  obtain ⟨xb, cap', e, h1, h2, hc⟩ := h
  simp only [Value.slice.injEq] at e
  obtain ⟨rfl, _, rfl⟩ := e
  have hl : (l.take n).length = n := by rw [List.length_take]; omega
  refine ⟨xa, cap, by rw [hl], by rw [hl]; omega, fun x hx => h2 x (List.mem_of_mem_take hx), fun hp => ?_⟩
  rw [hl] at hp
  obtain ⟨b, o, e, hc⟩ := hc (by omega)
  refine ⟨b, o, e, fun i hi => ?_⟩
  rw [hl] at hi
  rw [hc i (by omega), List.getElem_take]

end Go.Proofs.YthhhmjjgckkdhaaDoor
