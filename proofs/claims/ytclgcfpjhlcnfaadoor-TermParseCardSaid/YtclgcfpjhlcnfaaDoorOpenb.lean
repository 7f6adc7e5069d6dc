/-
  SLICES OF TERMS AND OF NUMBERS THAT CAME IN, AND STRINGS, OPENED.
-/
import Derived.Test.YtclgcfpjhlcnfaaDoorFrame
import Derived.Test.YtclgcfpjhlcnfaaDoorSep
import Derived.ChangeSlices
namespace Go.Proofs.YtclgcfpjhlcnfaaDoor
open Go.ChangeShapes Go.WideShapes Go.ChangeAt Go.RowKit Go.Deep

section
variable {H : Type} {enc : TypeId × Value → H} {W : World} {base : Nat} {sp : Nat → Bool} {held : Bool}

theorem spot_none {W : World} {base n : Nat} {a : Addr} {cs : List Value} (h : W.cells? base a n = some cs) (hn : 0 < n) : a.spot = none := by
  obtain ⟨hl, _, hc⟩ := World.cells?_some h
  have h0 := hc 0 hn
  have hx : cs[0]? = some cs[0] := List.getElem?_eq_getElem (by omega)
  rw [hx] at h0
  exact World.cell?_spot (by simpa [Addr.add] using h0)

set_option maxRecDepth 100000 in
/-- A SLICE OF TERMS THAT CAME IN. -/
theorem open_terms {v : Value} {d : DataW H} {ps : List MemPlace} {r : Reach} {b0 : Nat} (hv : Value.okWide Tryd.prog W r b0 23 v) (h : DataW.Trod enc Tryd.prog W base sp held 23 v d ps) :
    ∃ (ls : List Tm) (xa : Option Addr) (cap : Nat), v = .slice xa ls.length cap ∧ ls.length ≤ cap ∧ ls.length ≤ maxLen ∧ Row W ls xa := by
  obtain ⟨a0, l0, c0, rfl⟩ := okWide_slice Tryd.underlying23 hv
  obtain ⟨fuel, hf⟩ := h
  have hcs : (Value.slice a0 l0 c0).cells.toList = [.slice a0 l0 c0] := rfl
  rw [hcs] at hf
  rcases DataW.trod_slice Tryd.underlying23 hf with ⟨e3, _⟩ | ⟨a, len, cap, elems, rest, m, hn, e3, _, hb, hlc, hcm, hel, hat, _⟩
  · simp only [List.cons.injEq, and_true, Value.slice.injEq] at e3
    obtain ⟨rfl, rfl, rfl⟩ := e3
    exact ⟨[], none, 0, rfl, Nat.le_refl _, Nat.zero_le _, by simp [Row]⟩
  · simp only [List.cons.injEq, and_true, Value.slice.injEq] at e3
    obtain ⟨rfl, rfl, rfl⟩ := e3
    rw [cellsTerm] at hat
    have hone : ∀ i, i < l0 → ∃ t : Tm, ∃ c0 c1 c2 c3, W.cells? base (a.add (i * 4)) 4 = some [c0, c1, c2, c3] ∧ Is W t c0 c1 c2 c3 := fun i hi => by
      have hi' : i < elems.length := by omega
      have := hat i hi
      rw [List.getElem?_eq_getElem hi'] at this
      obtain ⟨cs', hcs, htr⟩ := Option.bind_eq_some_iff.1 this
      obtain ⟨t, d0, d1, d2, d3, rfl, hI⟩ := open_term_upto m m cs' _ (Nat.le_refl _) htr
      exact ⟨t, d0, d1, d2, d3, hcs, hI⟩
    obtain ⟨f, hf'⟩ := choose_lt hone
    obtain ⟨ab, ao, spot⟩ := a
    have hll : ((List.range l0).map f).length = l0 := by simp
    refine ⟨(List.range l0).map f, some ⟨ab, ao, spot⟩, c0, by rw [hll], by rw [hll]; exact hlc, by rw [hll]; omega, ?_⟩
    by_cases h0 : l0 = 0
    · subst h0; simp [Row]
    · have hspot : spot = none := by
        obtain ⟨d0, d1, d2, d3, hcs, _⟩ := hf' 0 (by omega)
        obtain ⟨_, _, hc⟩ := World.cells?_some hcs
        have := hc 0 (by omega)
        simpa [Addr.add] using World.cell?_spot this
      subst hspot
      have := Row_of_family (w := W) f ab l0 ao 0 (fun i hi => by
        obtain ⟨d0, d1, d2, d3, hcs, hI⟩ := hf' i hi
        obtain ⟨_, _, hc⟩ := World.cells?_some hcs
        have g0 := hc 0 (by omega)
        have g1 := hc 1 (by omega)
        have g2 := hc 2 (by omega)
        have g3 := hc 3 (by omega)
        simp only [Addr.add_lit, List.getElem?_cons_zero, List.getElem?_cons_succ, Nat.add_zero] at g0 g1 g2 g3
        rw [Nat.zero_add]
        exact ⟨d0, d1, d2, d3, g0, g1, g2, g3, hI⟩)
      simpa using this

set_option maxRecDepth 100000 in
/-- A SLICE OF NUMBERS THAT CAME IN. -/
theorem open_ints_any {v : Value} {d : DataW H} {ps : List MemPlace} {r : Reach} {b0 : Nat} (hv : Value.okWide Tryd.prog W r b0 61 v) (h : DataW.Trod enc Tryd.prog W base sp held 61 v d ps) : ∃ l : List Int, IntsC W v l := by
  obtain ⟨a0, l0, c0, rfl⟩ := okWide_slice Tryd.underlying61 hv
  obtain ⟨fuel, hf⟩ := h
  have hcs : (Value.slice a0 l0 c0).cells.toList = [.slice a0 l0 c0] := rfl
  rw [hcs] at hf
  rcases open_ints Tryd.underlying61 Tryd.underlying3 cellsInt hf with ⟨e3, _⟩ | ⟨a, len, cap, zs, e3, _, hlc, hcm, hzl, _, hcell, hwf⟩
  · simp only [List.cons.injEq, and_true, Value.slice.injEq] at e3
    obtain ⟨rfl, rfl, rfl⟩ := e3
    exact ⟨[], none, 0, rfl, Nat.le_refl _, Nat.zero_le _, by simp, by simp⟩
  · simp only [List.cons.injEq, and_true, Value.slice.injEq] at e3
    obtain ⟨rfl, rfl, rfl⟩ := e3
    have hlz : l0 ≤ zs.length := by rw [hzl]; split <;> omega
    have hll : (zs.take l0).length = l0 := by rw [List.length_take]; omega
    refine ⟨zs.take l0, some a, c0, by rw [hll], by rw [hll]; exact hlc, hcm, fun x hx => bounds_i64 (hwf x (List.mem_of_mem_take hx)), fun hp => ?_⟩
    rw [hll] at hp
    obtain ⟨ab, ao, spot⟩ := a
    have h0 := hcell 0 (by omega)
    have hspot : spot = none := by simpa [Addr.add] using World.cell?_spot h0
    subst hspot
    refine ⟨ab, ao, rfl, fun i hi => ?_⟩
    rw [hll] at hi
    have := hcell i (by omega)
    rw [Addr.add_lit] at this
    rw [this, List.getElem_take]
    simp [List.getD_eq_getElem?_getD, List.getElem?_eq_getElem (show i < zs.length by omega)]

set_option maxRecDepth 100000 in
/-- A STRING THAT CAME IN. -/
theorem open_text {v : Value} {d : DataW H} {ps : List MemPlace} {r : Reach} {b0 : Nat} (hv : Value.okWide Tryd.prog W r b0 9 v) (h : DataW.Trod enc Tryd.prog W base sp held 9 v d ps) : ∃ s : ByteArray, v = .string s ∧ s.size ≤ maxLen := by
  obtain ⟨s0, rfl⟩ := okWide_string Tryd.underlying9 hv
  obtain ⟨fuel, hf⟩ := h
  have hcs : (Value.string s0).cells.toList = [.string s0] := rfl
  rw [hcs] at hf
  obtain ⟨s, e1, _, w1⟩ := DataW.trod_string Tryd.underlying9 hf
  simp only [List.cons.injEq, and_true, Value.string.injEq] at e1
  subst e1
  exact ⟨s0, rfl, w1⟩
end

end Go.Proofs.YtclgcfpjhlcnfaaDoor
