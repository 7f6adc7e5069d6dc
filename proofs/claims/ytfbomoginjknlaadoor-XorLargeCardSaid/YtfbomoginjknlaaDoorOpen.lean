/-
  WHAT READS AS A TERM, OPENED: a value of type api.Term that came in is a plain term that lies in memory; a slice of terms is a row of plain terms; a slice of ints a row of numbers. What the listed table gives. The arguments read again behind a call that makes only new memory.
-/
import Derived.Test.YtfbomoginjknlaaDoorChecked
import Derived.Test.YtfbomoginjknlaaDoorTake
import Derived.Deep.Slices
import Derived.Lib.SmallJoins
import Derived.ProofKit
import Derived.OpenShut
import Derived.Test.YtfbomoginjknlaaDoorRows
import Derived.Test.YtfbomoginjknlaaDoorExt
import Derived.Carry
import Derived.MakeChecks
import Derived.Deep.DeepHandedRow
import Derived.Lib.LaidTab
namespace Go.Proofs.YtfbomoginjknlaaDoor
open Go.ChangeShapes Go.WideShapes Go.ChangeAt Go.RowKit Go.Deep

theorem cellsTerm : Tryd.prog.cellsOf 24 = 4 := by kernel_rfl
theorem cellsInt : Tryd.prog.cellsOf 3 = 1 := by kernel_rfl
theorem cellsString : Tryd.prog.cellsOf 9 = 1 := by kernel_rfl
theorem cellsTerms : Tryd.prog.cellsOf 22 = 1 := by kernel_rfl
theorem laidOut : laidOutB Tryd.prog = true := by kernel_rfl
theorem own : ownKnob Tryd.prog.godebug = none := by kernel_rfl

instance : Inhabited Tm := ⟨.mk 0 ⟨#[]⟩ 0 []⟩

/-- A row of terms, each at its place. -/
theorem Row_of_family {w : World} (f : Nat → Tm) (b : Nat) : ∀ (n o k : Nat), (∀ i, i < n → Lies w (f (k + i)) b (o + i * 4)) → Row w ((List.range n).map fun i => f (k + i)) (some ⟨b, o, none⟩)
  | 0, _, _, _ => by simp [Row]
  | n + 1, o, k, h => by
    rw [List.range_succ_eq_map, List.map_cons, List.map_map]
    refine Row_cons_mk (by simpa using h 0 (by omega)) ?_
    have h2 := Row_of_family f b n (o + 4) (k + 1) (fun i hi => by
      have := h (i + 1) (by omega)
      rw [show o + 4 + i * 4 = o + (i + 1) * 4 by omega, show k + 1 + i = k + (i + 1) by omega]; exact this)
    have e : (fun i => f (k + 1 + i)) = ((fun i => f (k + i)) ∘ Nat.succ) := by
      funext i; simp only [Function.comp]; rw [show k + 1 + i = k + (i + 1) by omega]
    rw [e] at h2; exact h2

section
variable {H : Type} {enc : TypeId × Value → H} {W : World} {base : Nat} {sp : Nat → Bool} {held : Bool}

set_option maxRecDepth 100000 in
theorem open_term_upto (N : Nat) : ∀ (fuel : Nat) (cs : List Value) (x : DataW H × List MemPlace), fuel ≤ N → DataW.trod enc Tryd.prog W base sp held fuel 24 cs = some x →
    ∃ (t : Tm) (c0 c1 c2 c3 : Value), cs = [c0, c1, c2, c3] ∧ Is W t c0 c1 c2 c3 := by
  induction N with
  | zero =>
    intro fuel cs x hf h
    obtain rfl : fuel = 0 := by omega
    simp [DataW.trod] at h
  | succ N ih =>
    intro fuel cs x hf h
    obtain ⟨xs, n, rfl, rfl, hl, hlen, hfs⟩ := DataW.trod_struct Tryd.underlying24 h
    rw [cellsTerm] at hl
    match cs, hl with
    | [c0, c1, c2, c3], _ =>
      match xs, hlen with
      | [y0, y1, y2, y3], _ =>
        have h0 := hfs 0 _ rfl
        have h1 := hfs 1 _ rfl
        have h2 := hfs 2 _ rfl
        have h3 := hfs 3 _ rfl
        simp [cellsInt, cellsString, cellsTerms] at h0 h1 h2 h3
        obtain ⟨k, e0, _, w0⟩ := DataW.trod_int Tryd.underlying3 h0
        obtain ⟨s, e1, _, w1⟩ := DataW.trod_string Tryd.underlying9 h1
        obtain ⟨z, e2, _, w2⟩ := DataW.trod_int Tryd.underlying3 h2
        simp only [List.cons.injEq, and_true] at e0 e1 e2
        have b0 := bounds_i64 w0
        have b2 := bounds_i64 w2
        subst e0 e1 e2
        rcases DataW.trod_slice Tryd.underlying22 h3 with ⟨e3, _⟩ | ⟨a, len, cap, elems, rest, m, hn, e3, _, hb, hlc, hcm, hel, hat, _⟩
        · simp only [List.cons.injEq, and_true] at e3
          subst e3
          refine ⟨.mk k s z [], _, _, _, _, rfl, ?_⟩
          simp only [Is]
          exact ⟨trivial, trivial, trivial, b0, b2, w1, Nat.zero_le _, none, 0, rfl, Nat.le_refl _, by simp [Row]⟩
        · simp only [List.cons.injEq, and_true] at e3
          subst e3
          rw [cellsTerm] at hat
          have hone : ∀ i, i < len → ∃ t : Tm, ∃ c0 c1 c2 c3, W.cells? base (a.add (i * 4)) 4 = some [c0, c1, c2, c3] ∧ Is W t c0 c1 c2 c3 := fun i hi => by
            have hi' : i < elems.length := by omega
            have := hat i hi
            rw [List.getElem?_eq_getElem hi'] at this
            obtain ⟨cs', hcs, htr⟩ := Option.bind_eq_some_iff.1 this
            obtain ⟨t, d0, d1, d2, d3, rfl, hI⟩ := ih m cs' _ (by omega) htr
            exact ⟨t, d0, d1, d2, d3, hcs, hI⟩
          obtain ⟨f, hf'⟩ := choose_lt hone
          obtain ⟨ab, ao, spot⟩ := a
          refine ⟨.mk k s z ((List.range len).map f), _, _, _, _, rfl, ?_⟩
          have hll : ((List.range len).map f).length = len := by simp
          simp only [Is]
          refine ⟨trivial, trivial, trivial, b0, b2, w1, by rw [hll]; omega, some ⟨ab, ao, spot⟩, cap, by rw [hll], by rw [hll]; omega, ?_⟩
          by_cases h0 : len = 0
          · subst h0; simp [Row]
          · have hspot : spot = none := by
              obtain ⟨d0, d1, d2, d3, hcs, _⟩ := hf' 0 (by omega)
              obtain ⟨_, _, hc⟩ := World.cells?_some hcs
              have := hc 0 (by omega)
              simpa [Addr.add] using World.cell?_spot this
            subst hspot
            have := Row_of_family (w := W) f ab len ao 0 (fun i hi => by
              obtain ⟨d0, d1, d2, d3, hcs, hI⟩ := hf' i hi
              obtain ⟨_, _, hc⟩ := World.cells?_some hcs
              have g0 := hc 0 (by omega)
              have g1 := hc 1 (by omega)
              have g2 := hc 2 (by omega)
              have g3 := hc 3 (by omega)
              simp only [Addr.add_lit, List.getElem?_cons_zero, List.getElem?_cons_succ, Nat.add_zero] at g0 g1 g2 g3
              rw [Nat.zero_add]
              exact ⟨d0, d1, d2, d3, g0, g1, g2, g3, hI⟩)
            simpa using this

set_option maxRecDepth 100000 in
/-- A TERM THAT CAME IN. -/
theorem open_term {v : Value} {d : DataW H} {ps : List MemPlace} {r : Reach} {b0 : Nat} (hv : Value.okWide Tryd.prog W r b0 24 v) (h : DataW.Trod enc Tryd.prog W base sp held 24 v d ps) : ∃ t : Tm, IsV W t v := by
  obtain ⟨cs, rfl, hsz⟩ := okWide_struct Tryd.underlying24 hv
  obtain ⟨fuel, hf⟩ := h
  obtain ⟨t, c0, c1, c2, c3, hcs, hI⟩ := open_term_upto fuel fuel _ _ (Nat.le_refl _) hf
  refine ⟨t, c0, c1, c2, c3, ?_, hI⟩
  simp only [Value.cells] at hcs
  obtain ⟨l⟩ := cs
  simp only at hcs
  subst hcs
  rfl
end

theorem trod_word {H : Type} {enc : TypeId × Value → H} {P : Program} {w : World} {base : Nat} {sp : Nat → Bool} {held : Bool} {fuel : Nat} {t e : TypeId} {n : Nat} {cs : List Value} {ws : List (List UInt8)} {p : List MemPlace}
    (ht : P.underlying t = some (.array n e)) (he : P.underlying e = some .string) (hce : P.cellsOf e = 1) (h : DataW.trod enc P w base sp held fuel t cs = some (.agg (ws.map fun b => .lit (.string b)), p)) (i : Nat) (b : List UInt8) (hi : ws[i]? = some b) :
    ∃ s : ByteArray, cs[i]? = some (.string s) ∧ s.data.toList = b := by
  obtain ⟨xs, m, _, hx, hl, hn, hel⟩ := DataW.trod_array ht h
  simp only [Prod.mk.injEq, DataW.agg.injEq] at hx
  have hlw : ws.length = n := by have := congrArg List.length hx.1; simpa [hn] using this
  have hin : i < n := by rw [← hlw]; exact (List.getElem?_eq_some_iff.1 hi).1
  have h1 := hel i hin
  rw [hce, List.getElem?_eq_getElem (by omega)] at h1
  obtain ⟨s, hc, hy, _⟩ := DataW.trod_string he h1
  have h2 : cs[i]? = some (.string s) := by
    have := congrArg (·[0]?) hc
    simpa [List.getElem?_take, List.getElem?_drop] using this
  refine ⟨s, h2, ?_⟩
  have h3 := congrArg (·[i]?) hx.1
  simp only [List.getElem?_map, hi, Option.map_some, List.getElem?_eq_getElem (show i < xs.length by omega), hy] at h3
  simpa using h3.symm

theorem ba_eq {s : ByteArray} {l : List UInt8} (h : s.data.toList = l) : s = ⟨l.toArray⟩ := by
  subst h
  cases s
  simp

end Go.Proofs.YtfbomoginjknlaaDoor

/-
  THE FRAME OF EVERY LAW OF THIS SEAT: what the listed table gives; the arguments read again behind a call that makes only new memory; a call that returns true meets the law's specification; a world for the witness.
-/
namespace Go.Proofs.YtfbomoginjknlaaDoor
open Go.ChangeShapes Go.WideShapes Go.ChangeAt Go.RowKit Go.Deep

theorem trodAll_below {H : Type} {enc : TypeId × Value → H} {W W' : World} (hB : Below W.heap.size W W') : ∀ {ts : List TypeId} {vs : List Value} {ds : List (DataW H)} {ps : List MemPlace}, (∀ t ∈ ts, t < Tryd.prog.types.size ∧ Tryd.prog.readableRec t = true) →
    DataW.TrodAll enc Tryd.prog W 0 (fun _ => true) true ts vs ds ps → (∀ x ∈ ps, x.block < W.heap.size) → DataW.TrodAll enc Tryd.prog W' 0 (fun b => decide (b < W.heap.size)) true ts vs ds ps
  | [], [], [], _, _, h, _ => h
  | t :: ts, _ :: _, _ :: _, _, hT, ⟨p, q, h1, h2, e⟩, hs =>
    ⟨p, q, Below.trod laidOut (hT t (List.mem_cons.2 (Or.inl rfl))).2 (hT t (List.mem_cons.2 (Or.inl rfl))).1 h1 hB (fun x hx => hs x (by rw [e]; exact List.mem_append_left _ hx)),
      trodAll_below hB (fun t ht => hT t (List.mem_cons.2 (Or.inr ht))) h2 (fun x hx => hs x (by rw [e]; exact List.mem_append_right _ hx)), e⟩

/-- A CALL THAT RETURNS true AND MAKES ONLY NEW MEMORY MEETS THE LAW. -/
theorem post_true {H : Type} {enc : TypeId × Value → H} {f : Func} {s : ChangeSpec} {W W' : World} {args : Array Value} {ds gs : List (DataW H)} {before : List MemPlace} (hv : s.vars = []) (hs : s.fn H ds = { results := [.lit (.bool true)], args := ds })
    (hr : f.resultTypes = #[4]) (hT : ∀ t ∈ f.params.toList, t < Tryd.prog.types.size ∧ Tryd.prog.readableRec t = true)
    (hW : DataW.Whole enc Tryd.prog f.params.toList s.vars false W args.toList ds gs before) (hB : Below W.heap.size W W') : s.post enc Tryd.prog f false true false false W args (.bool true) W' := by
  have hlt := hW.lt
  have hW' := hW
  rw [hv] at hW'
  obtain ⟨p, q, hA, hV, rfl, hfz, hnd⟩ := hW'
  obtain ⟨rfl, rfl⟩ := trodVars_none hV
  refine ⟨ds, [], p ++ [], [], p, [], hW, ?_, ?_, ?_, hB.frame _, fun h => by cases h⟩
  · rw [List.append_nil, hs, hr]
    exact trodAll_mk1 (shut_bool Tryd.underlying4 _)
  · rw [List.append_nil, hs]
    exact trodAll_below hB hT hA (fun x hx => hlt x (by simpa using hx))
  · rw [List.append_nil, hs, hv]; rfl

def vInts : Value := .slice none 0 0
def vString : Value := .string ⟨#[]⟩

end Go.Proofs.YtfbomoginjknlaaDoor
