/-
  SLICES OF TERMS AND OF NUMBERS THAT CAME IN, AND STRINGS, OPENED.
-/
import Derived.Test.YtdgofofhkebkkaaDoorFrame
import Derived.Test.YtdgofofhkebkkaaDoorSep
import Derived.ChangeSlices
import Derived.Test.YtdgofofhkebkkaaDoorBnd
import Derived.SizedLaws
namespace Go.Proofs.YtdgofofhkebkkaaDoor
open Go.ChangeShapes Go.WideShapes Go.ChangeAt Go.RowKit Go.Deep

section
variable {H : Type} {enc : TypeId × Value → H} {W : World} {base : Nat} {sp : Nat → Bool} {held : Bool}

theorem spot_none {W : World} {base n : Nat} {a : Addr} {cs : List Value} (h : W.cells? base a n = some cs) (hn : 0 < n) : a.spot = none := by
  obtain ⟨hl, _, hc⟩ := World.cells?_some h
  have h0 := hc 0 hn
  have hx : cs[0]? = some cs[0] := List.getElem?_eq_getElem (by omega)
  rw [hx] at h0
  exact World.cell?_spot (by simpa [Addr.add] using h0)

set_option maxRecDepth 100000 in
/-- A SLICE OF TERMS THAT CAME IN. -/
theorem open_terms {v : Value} {d : DataW H} {ps : List MemPlace} {r : Reach} {b0 : Nat} (hv : Value.okWide Tryd.prog W r b0 23 v) (h : DataW.Trod enc Tryd.prog W base sp held 23 v d ps) :
    ∃ (ls : List Tm) (xa : Option Addr) (cap : Nat), v = .slice xa ls.length cap ∧ ls.length ≤ cap ∧ ls.length ≤ maxLen ∧ Row W ls xa := by
  obtain ⟨a0, l0, c0, rfl⟩ := okWide_slice Tryd.underlying23 hv
  obtain ⟨fuel, hf⟩ := h
  have hcs : (Value.slice a0 l0 c0).cells.toList = [.slice a0 l0 c0] := rfl
  rw [hcs] at hf
  rcases DataW.trod_slice Tryd.underlying23 hf with ⟨e3, _⟩ | ⟨a, len, cap, elems, rest, m, hn, e3, _, hb, hlc, hcm, hel, hat, _⟩
  · simp only [List.cons.injEq, and_true, Value.slice.injEq] at e3
    obtain ⟨rfl, rfl, rfl⟩ := e3
    exact ⟨[], none, 0, rfl, Nat.le_refl _, Nat.zero_le _, by simp [Row]⟩
  · simp only [List.cons.injEq, and_true, Value.slice.injEq] at e3
    obtain ⟨rfl, rfl, rfl⟩ := e3
    rw [cellsTerm] at hat
    have hone : ∀ i, i < l0 → ∃ t : Tm, ∃ c0 c1 c2 c3, W.cells? base (a.add (i * 4)) 4 = some [c0, c1, c2, c3] ∧ Is W t c0 c1 c2 c3 := fun i hi => by
      have hi' : i < elems.length := by omega
      have := hat i hi
      rw [List.getElem?_eq_getElem hi'] at this
      obtain ⟨cs', hcs, htr⟩ := Option.bind_eq_some_iff.1 this
      obtain ⟨t, d0, d1, d2, d3, rfl, hI⟩ := open_term_upto m m cs' _ (Nat.le_refl _) htr
      exact ⟨t, d0, d1, d2, d3, hcs, hI⟩
    obtain ⟨f, hf'⟩ := choose_lt hone
    obtain ⟨ab, ao, spot⟩ := a
    have hll : ((List.range l0).map f).length = l0 := by simp
    refine ⟨(List.range l0).map f, some ⟨ab, ao, spot⟩, c0, by rw [hll], by rw [hll]; exact hlc, by rw [hll]; omega, ?_⟩
    by_cases h0 : l0 = 0
    · subst h0; simp [Row]
    · have hspot : spot = none := by
        obtain ⟨d0, d1, d2, d3, hcs, _⟩ := hf' 0 (by omega)
        obtain ⟨_, _, hc⟩ := World.cells?_some hcs
        have := hc 0 (by omega)
        simpa [Addr.add] using World.cell?_spot this
      subst hspot
      have := Row_of_family (w := W) f ab l0 ao 0 (fun i hi => by
        obtain ⟨d0, d1, d2, d3, hcs, hI⟩ := hf' i hi
        obtain ⟨_, _, hc⟩ := World.cells?_some hcs
        have g0 := hc 0 (by omega)
        have g1 := hc 1 (by omega)
        have g2 := hc 2 (by omega)
        have g3 := hc 3 (by omega)
        simp only [Addr.add_lit, List.getElem?_cons_zero, List.getElem?_cons_succ, Nat.add_zero] at g0 g1 g2 g3
        rw [Nat.zero_add]
        exact ⟨d0, d1, d2, d3, g0, g1, g2, g3, hI⟩)
      simpa using this

set_option maxRecDepth 100000 in
/-- A SLICE OF NUMBERS THAT CAME IN. -/
theorem open_ints_any {v : Value} {d : DataW H} {ps : List MemPlace} {r : Reach} {b0 : Nat} (hv : Value.okWide Tryd.prog W r b0 61 v) (h : DataW.Trod enc Tryd.prog W base sp held 61 v d ps) : ∃ l : List Int, IntsC W v l := by
  obtain ⟨a0, l0, c0, rfl⟩ := okWide_slice Tryd.underlying61 hv
  obtain ⟨fuel, hf⟩ := h
  have hcs : (Value.slice a0 l0 c0).cells.toList = [.slice a0 l0 c0] := rfl
  rw [hcs] at hf
  rcases open_ints Tryd.underlying61 Tryd.underlying3 cellsInt hf with ⟨e3, _⟩ | ⟨a, len, cap, zs, e3, _, hlc, hcm, hzl, _, hcell, hwf⟩
  · simp only [List.cons.injEq, and_true, Value.slice.injEq] at e3
    obtain ⟨rfl, rfl, rfl⟩ := e3
    exact ⟨[], none, 0, rfl, Nat.le_refl _, Nat.zero_le _, by simp, by simp⟩
  · simp only [List.cons.injEq, and_true, Value.slice.injEq] at e3
    obtain ⟨rfl, rfl, rfl⟩ := e3
    have hlz : l0 ≤ zs.length := by rw [hzl]; split <;> omega
    have hll : (zs.take l0).length = l0 := by rw [List.length_take]; omega
    refine ⟨zs.take l0, some a, c0, by rw [hll], by rw [hll]; exact hlc, hcm, fun x hx => bounds_i64 (hwf x (List.mem_of_mem_take hx)), fun hp => ?_⟩
    rw [hll] at hp
    obtain ⟨ab, ao, spot⟩ := a
    have h0 := hcell 0 (by omega)
    have hspot : spot = none := by simpa [Addr.add] using World.cell?_spot h0
    subst hspot
    refine ⟨ab, ao, rfl, fun i hi => ?_⟩
    rw [hll] at hi
    have := hcell i (by omega)
    rw [Addr.add_lit] at this
    rw [this, List.getElem_take]
    simp [List.getD_eq_getElem?_getD, List.getElem?_eq_getElem (show i < zs.length by omega)]

set_option maxRecDepth 100000 in
/-- A STRING THAT CAME IN. -/
theorem open_text {v : Value} {d : DataW H} {ps : List MemPlace} {r : Reach} {b0 : Nat} (hv : Value.okWide Tryd.prog W r b0 9 v) (h : DataW.Trod enc Tryd.prog W base sp held 9 v d ps) : ∃ s : ByteArray, v = .string s ∧ s.size ≤ maxLen := by
  obtain ⟨s0, rfl⟩ := okWide_string Tryd.underlying9 hv
  obtain ⟨fuel, hf⟩ := h
  have hcs : (Value.string s0).cells.toList = [.string s0] := rfl
  rw [hcs] at hf
  obtain ⟨s, e1, _, w1⟩ := DataW.trod_string Tryd.underlying9 hf
  simp only [List.cons.injEq, and_true, Value.string.injEq] at e1
  subst e1
  exact ⟨s0, rfl, w1⟩
end

end Go.Proofs.YtdgofofhkebkkaaDoor

/-
  SLICES OF BINDINGS THAT CAME IN, OPENED.
-/
namespace Go.Proofs.YtdgofofhkebkkaaDoor
open Go.ChangeShapes Go.WideShapes Go.ChangeAt Go.RowKit Go.Deep

theorem cellsBinding : Tryd.prog.cellsOf 77 = 8 := by kernel_rfl
theorem bytesBinding : Tryd.prog.bytesOf 77 = 112 := by kernel_rfl

theorem Row_of_familyB {w : World} (f : Nat → Bd) (b : Nat) : ∀ (n o k : Nat), (∀ i, i < n → Lies w (f (k + i)).1 b (o + i * 8) ∧ Lies w (f (k + i)).2 b (o + i * 8 + 4)) → Row w (flatB ((List.range n).map fun i => f (k + i))) (some ⟨b, o, none⟩)
  | 0, o, k, _ => by simp [flatB, Row]
  | n + 1, o, k, h => by
    rw [List.range_succ_eq_map, List.map_cons, List.map_map, flatB]
    have h0 := h 0 (by omega)
    simp only [Nat.add_zero, Nat.zero_mul] at h0 ⊢
    refine Row_cons_mk h0.1 (Row_cons_mk h0.2 ?_)
    have h2 := Row_of_familyB f b n (o + 8) (k + 1) (fun i hi => by
      have := h (i + 1) (by omega)
      rw [show o + 8 + i * 8 = o + (i + 1) * 8 by omega, show k + 1 + i = k + (i + 1) by omega]; exact this)
    have e : (fun i => f (k + 1 + i)) = ((fun i => f (k + i)) ∘ Nat.succ) := by
      funext i; simp only [Function.comp]; rw [show k + 1 + i = k + (i + 1) by omega]
    rw [e] at h2; exact h2

section
variable {H : Type} {enc : TypeId × Value → H} {W : World} {base : Nat} {sp : Nat → Bool} {held : Bool}

set_option maxRecDepth 100000 in
theorem open_binding_upto (fuel : Nat) (cs : List Value) (x : DataW H × List MemPlace) (h : DataW.trod enc Tryd.prog W base sp held fuel 77 cs = some x) :
    ∃ (v t : Tm) (c0 c1 c2 c3 d0 d1 d2 d3 : Value), cs = [c0, c1, c2, c3, d0, d1, d2, d3] ∧ Is W v c0 c1 c2 c3 ∧ Is W t d0 d1 d2 d3 := by
  obtain ⟨xs, n, rfl, rfl, hl, hlen, hfs⟩ := DataW.trod_struct Tryd.underlying77 h
  rw [cellsBinding] at hl
  match cs, hl with
  | [c0, c1, c2, c3, d0, d1, d2, d3], _ =>
    match xs, hlen with
    | [y0, y1], _ =>
      have h0 := hfs 0 _ rfl
      have h1 := hfs 1 _ rfl
      simp [cellsTerm] at h0 h1
      obtain ⟨v, a0, a1, a2, a3, e, hI⟩ := open_term_upto n n _ _ (Nat.le_refl _) h0
      obtain ⟨t, b0, b1, b2, b3, e2, hJ⟩ := open_term_upto n n _ _ (Nat.le_refl _) h1
      simp only [List.cons.injEq, and_true] at e e2
      obtain ⟨rfl, rfl, rfl, rfl⟩ := e
      obtain ⟨rfl, rfl, rfl, rfl⟩ := e2
      exact ⟨v, t, _, _, _, _, _, _, _, _, rfl, hI, hJ⟩

set_option maxRecDepth 100000 in
/-- A SLICE OF BINDINGS THAT CAME IN. -/
theorem open_binds {v : Value} {d : DataW H} {ps : List MemPlace} {r : Reach} {b0 : Nat} (hv : Value.okWide Tryd.prog W r b0 33 v) (h : DataW.Trod enc Tryd.prog W base sp held 33 v d ps) :
    ∃ (bs : List Bd) (xa : Option Addr) (cap : Nat), v = .slice xa bs.length cap ∧ bs.length ≤ cap ∧ Row W (flatB bs) xa ∧ (bs = [] ∨ ∃ elems spare, d = .slice elems spare ∧ elems.length = bs.length) := by
  obtain ⟨a0, l0, c0, rfl⟩ := okWide_slice Tryd.underlying33 hv
  obtain ⟨fuel, hf⟩ := h
  have hcs : (Value.slice a0 l0 c0).cells.toList = [.slice a0 l0 c0] := rfl
  rw [hcs] at hf
  rcases DataW.trod_slice Tryd.underlying33 hf with ⟨e3, _⟩ | ⟨a, len, cap, elems, rest, m, hn, e3, hd, hb, hlc, hcm, hel, hat, _⟩
  · simp only [List.cons.injEq, and_true, Value.slice.injEq] at e3
    obtain ⟨rfl, rfl, rfl⟩ := e3
    exact ⟨[], none, 0, rfl, Nat.le_refl _, by simp [flatB, Row], Or.inl rfl⟩
  · simp only [List.cons.injEq, and_true, Value.slice.injEq] at e3
    obtain ⟨rfl, rfl, rfl⟩ := e3
    rw [cellsBinding] at hat
    have hone : ∀ i, i < l0 → ∃ t : Bd, ∃ c0 c1 c2 c3 d0 d1 d2 d3, W.cells? base (a.add (i * 8)) 8 = some [c0, c1, c2, c3, d0, d1, d2, d3] ∧ Is W t.1 c0 c1 c2 c3 ∧ Is W t.2 d0 d1 d2 d3 := fun i hi => by
      have hi' : i < elems.length := by omega
      have := hat i hi
      rw [List.getElem?_eq_getElem hi'] at this
      obtain ⟨cs', hcs, htr⟩ := Option.bind_eq_some_iff.1 this
      obtain ⟨v, t, x0, x1, x2, x3, y0, y1, y2, y3, rfl, hI, hJ⟩ := open_binding_upto m cs' _ htr
      exact ⟨(v, t), x0, x1, x2, x3, y0, y1, y2, y3, hcs, hI, hJ⟩
    obtain ⟨f, hf'⟩ := choose_lt hone
    obtain ⟨ab, ao, spot⟩ := a
    have hll : ((List.range l0).map f).length = l0 := by simp
    refine ⟨(List.range l0).map f, some ⟨ab, ao, spot⟩, c0, by rw [hll], by rw [hll]; exact hlc, ?_, Or.inr ⟨elems.map (·.1), rest.map (·.1), (Prod.mk.inj hd).1, by rw [hll, List.length_map]; exact hel⟩⟩
    by_cases h0 : l0 = 0
    · subst h0; simp [flatB, Row]
    · have hspot : spot = none := by
        obtain ⟨x0, x1, x2, x3, y0, y1, y2, y3, hcs, _⟩ := hf' 0 (by omega)
        obtain ⟨_, _, hc⟩ := World.cells?_some hcs
        have := hc 0 (by omega)
        simpa [Addr.add] using World.cell?_spot this
      subst hspot
      have := Row_of_familyB (w := W) f ab l0 ao 0 (fun i hi => by
        obtain ⟨x0, x1, x2, x3, y0, y1, y2, y3, hcs, hI, hJ⟩ := hf' i hi
        obtain ⟨_, _, hc⟩ := World.cells?_some hcs
        have g0 := hc 0 (by omega)
        have g1 := hc 1 (by omega)
        have g2 := hc 2 (by omega)
        have g3 := hc 3 (by omega)
        have g4 := hc 4 (by omega)
        have g5 := hc 5 (by omega)
        have g6 := hc 6 (by omega)
        have g7 := hc 7 (by omega)
        simp only [Addr.add_lit, List.getElem?_cons_zero, List.getElem?_cons_succ, Nat.add_zero] at g0 g1 g2 g3 g4 g5 g6 g7
        rw [Nat.zero_add]
        exact ⟨⟨x0, x1, x2, x3, g0, g1, g2, g3, hI⟩, ⟨y0, y1, y2, y3, g4, g5, g6, g7, hJ⟩⟩)
      simpa using this
end
/-- The bulk that the form bears. -/
theorem binds_bytes {H : Type} {ts : List TypeId} {ds : List (DataW H)} (h : (DataW.weightsEach Tryd.prog ts ds).all (· ≤ reachBytes) = true) {j : Nat} {d : DataW H} {bs : List Bd} (ht : ts[j]? = some 33) (hd : ds[j]? = some d) (hb : bs = [] ∨ ∃ elems spare, d = .slice elems spare ∧ elems.length = bs.length) : bs.length * 112 ≤ 140737488355328 := by
  rcases hb with rfl | ⟨elems, spare, rfl, he⟩
  · simp
  · have := sized_slice h ht hd Tryd.underlying33
    rw [bytesBinding] at this
    have h2 := reachBytes_lt
    have h3 : elems.length * 112 ≤ (elems.length + spare.length) * 112 := Nat.mul_le_mul_right _ (Nat.le_add_right _ _)
    omega
end Go.Proofs.YtdgofofhkebkkaaDoor
