import Derived.Carry
import Derived.Deep.DeepHandedRow
import Derived.Deep.Slices
import Derived.Lib.LaidTab
import Derived.Lib.SmallJoins
import Derived.MakeChecks
import Derived.OpenShut
import Derived.ProofKit
import Derived.Test.YtbcpnepjojppaaaGreatDoorChecked
import Derived.Test.YtbcpnepjojppaaaGreatDoorRows
import Derived.Test.YtbcpnepjojppaaaGreatDoorLawTheoryKeyxPos
namespace Go.Proofs.YtbcpnepjojppaaaGreatDoor
open Go.RowKit
def Ext (a b : World) : Prop := Below a.heap.size a b
theorem Ext.refl (a : World) : Ext a a := Below.refl _ _
theorem Ext.trans {a b c : World} (h : Ext a b) (k : Below b.heap.size b c) : Ext a c := Below.trans h (k.mono h.size)
theorem Ext.alloc {a b : World} (h : Ext a b) (o : Obj) : Ext a (b.alloc o) := Below.alloc h h.size o
theorem Ext.drew {a b : World} (h : Ext a b) : Ext a b.drew := Below.drew h
theorem Is_form {w : World} {t : Tm} {c0 c1 c2 c3 : Value} (h : Is w t c0 c1 c2 c3) : ∃ (k : Int) (n : ByteArray) (s : Int) (xa : Option Addr) (l c : Nat), c0 = .int .i64 k ∧ c1 = .string n ∧ c2 = .int .i64 s ∧ c3 = .slice xa l c := by
  obtain ⟨k, n, s, ks⟩ := t
  simp only [Is] at h
  obtain ⟨rfl, rfl, rfl, _, _, _, _, xa, cap, rfl, _⟩ := h
  exact ⟨_, _, _, _, _, _, rfl, rfl, rfl, rfl⟩
theorem eight_cells (w : World) (a0 a1 a2 a3 b0 b1 b2 b3 : Value) (T : TypeId) (j : Nat) (u : Value) (h : #[a0, a1, a2, a3, b0, b1, b2, b3][j]? = some u) : (w.alloc (.cells #[a0, a1, a2, a3, b0, b1, b2, b3] T)).cell? ⟨w.heap.size, j, none⟩ = some u := by
  unfold World.cell?; rw [heap_alloc_new]; simpa using h
theorem Row_two {w : World} {t u : Tm} {a0 a1 a2 a3 b0 b1 b2 b3 : Value} (h : Is w t a0 a1 a2 a3) (k : Is w u b0 b1 b2 b3) (T : TypeId) : Row (w.alloc (.cells #[a0, a1, a2, a3, b0, b1, b2, b3] T)) [t, u] (some ⟨w.heap.size, 0, none⟩) := by
  have c := eight_cells w a0 a1 a2 a3 b0 b1 b2 b3 T
  exact Row_cons_mk ⟨a0, a1, a2, a3, c 0 _ rfl, c 1 _ rfl, c 2 _ rfl, c 3 _ rfl, Is_alloc h _⟩ (Row_cons_mk ⟨b0, b1, b2, b3, c 4 _ rfl, c 5 _ rfl, c 6 _ rfl, c 7 _ rfl, Is_alloc k _⟩ (by simp [Row]))
theorem Row_two_at {w : World} {t u : Tm} {a0 a1 a2 a3 b0 b1 b2 b3 : Value} (H : Nat) (hH : w.heap.size = H) (h : Is w t a0 a1 a2 a3) (k : Is w u b0 b1 b2 b3) (T : TypeId) : Row (w.alloc (.cells #[a0, a1, a2, a3, b0, b1, b2, b3] T)) [t, u] (some ⟨H, 0, none⟩) := by
  subst hH; exact Row_two h k T
theorem Row_one_at {w : World} {t : Tm} {a0 a1 a2 a3 : Value} (H : Nat) (hH : w.heap.size = H) (h : Is w t a0 a1 a2 a3) (T : TypeId) : Row (w.alloc (.cells #[a0, a1, a2, a3] T)) [t] (some ⟨H, 0, none⟩) := by
  subst hH; exact Row_cons_mk (Lies_box h T) (by simp [Row])
theorem cells_new_at (w : World) (cs : Array Value) (T : TypeId) (H : Nat) (hH : w.heap.size = H) (j : Nat) (u : Value) (h : cs[j]? = some u) : (w.alloc (.cells cs T)).cell? ⟨H, j, none⟩ = some u := by
  subst hH; unfold World.cell?; rw [heap_alloc_new]; simpa using h
end Go.Proofs.YtbcpnepjojppaaaGreatDoor
namespace Go.Proofs.YtbcpnepjojppaaaGreatDoor
open Go.ChangeShapes Go.WideShapes Go.ChangeAt Go.RowKit Go.Deep
theorem cellsTerm : Tryz.prog.cellsOf 24 = 4 := by kernel_rfl
theorem cellsInt : Tryz.prog.cellsOf 3 = 1 := by kernel_rfl
theorem cellsString : Tryz.prog.cellsOf 9 = 1 := by kernel_rfl
theorem cellsTerms : Tryz.prog.cellsOf 22 = 1 := by kernel_rfl
theorem laidOut : laidOutB Tryz.prog = true := by kernel_rfl
theorem own : ownKnob Tryz.prog.godebug = none := by kernel_rfl
instance : Inhabited Tm := ⟨.mk 0 ⟨#[]⟩ 0 []⟩
theorem Row_of_family {w : World} (f : Nat → Tm) (b : Nat) : ∀ (n o k : Nat), (∀ i, i < n → Lies w (f (k + i)) b (o + i * 4)) → Row w ((List.range n).map fun i => f (k + i)) (some ⟨b, o, none⟩)
  | 0, _, _, _ => by simp [Row]
  | n + 1, o, k, h => by
    rw [List.range_succ_eq_map, List.map_cons, List.map_map]
    refine Row_cons_mk (by simpa using h 0 (by omega)) ?_
    have h2 := Row_of_family f b n (o + 4) (k + 1) (fun i hi => by
      have := h (i + 1) (by omega)
      rw [show o + 4 + i * 4 = o + (i + 1) * 4 by omega, show k + 1 + i = k + (i + 1) by omega]; exact this)
    have e : (fun i => f (k + 1 + i)) = ((fun i => f (k + i)) ∘ Nat.succ) := by
      funext i; simp only [Function.comp]; rw [show k + 1 + i = k + (i + 1) by omega]
    rw [e] at h2; exact h2
section
variable {H : Type} {enc : TypeId × Value → H} {W : World} {base : Nat} {sp : Nat → Bool} {held : Bool}
set_option maxRecDepth 100000 in
theorem open_term_upto (N : Nat) : ∀ (fuel : Nat) (cs : List Value) (x : DataW H × List MemPlace), fuel ≤ N → DataW.trod enc Tryz.prog W base sp held fuel 24 cs = some x →
    ∃ (t : Tm) (c0 c1 c2 c3 : Value), cs = [c0, c1, c2, c3] ∧ Is W t c0 c1 c2 c3 := by
  induction N with
  | zero =>
    intro fuel cs x hf h
    obtain rfl : fuel = 0 := by omega
    simp [DataW.trod] at h
  | succ N ih =>
    intro fuel cs x hf h
    obtain ⟨xs, n, rfl, rfl, hl, hlen, hfs⟩ := DataW.trod_struct Tryz.underlying24 h
    rw [cellsTerm] at hl
    match cs, hl with
    | [c0, c1, c2, c3], _ =>
      match xs, hlen with
      | [y0, y1, y2, y3], _ =>
        have h0 := hfs 0 _ rfl
        have h1 := hfs 1 _ rfl
        have h2 := hfs 2 _ rfl
        have h3 := hfs 3 _ rfl
        simp [cellsInt, cellsString, cellsTerms] at h0 h1 h2 h3
        obtain ⟨k, e0, _, w0⟩ := DataW.trod_int Tryz.underlying3 h0
        obtain ⟨s, e1, _, w1⟩ := DataW.trod_string Tryz.underlying9 h1
        obtain ⟨z, e2, _, w2⟩ := DataW.trod_int Tryz.underlying3 h2
        simp only [List.cons.injEq, and_true] at e0 e1 e2
        have b0 := bounds_i64 w0
        have b2 := bounds_i64 w2
        subst e0 e1 e2
        rcases DataW.trod_slice Tryz.underlying22 h3 with ⟨e3, _⟩ | ⟨a, len, cap, elems, rest, m, hn, e3, _, hb, hlc, hcm, hel, hat, _⟩
        · simp only [List.cons.injEq, and_true] at e3
          subst e3
          refine ⟨.mk k s z [], _, _, _, _, rfl, ?_⟩
          simp only [Is]
          exact ⟨trivial, trivial, trivial, b0, b2, w1, Nat.zero_le _, none, 0, rfl, Nat.le_refl _, by simp [Row]⟩
        · simp only [List.cons.injEq, and_true] at e3
          subst e3
          rw [cellsTerm] at hat
          have hone : ∀ i, i < len → ∃ t : Tm, ∃ c0 c1 c2 c3, W.cells? base (a.add (i * 4)) 4 = some [c0, c1, c2, c3] ∧ Is W t c0 c1 c2 c3 := fun i hi => by
            have hi' : i < elems.length := by omega
            have := hat i hi
            rw [List.getElem?_eq_getElem hi'] at this
            obtain ⟨cs', hcs, htr⟩ := Option.bind_eq_some_iff.1 this
            obtain ⟨t, d0, d1, d2, d3, rfl, hI⟩ := ih m cs' _ (by omega) htr
            exact ⟨t, d0, d1, d2, d3, hcs, hI⟩
          obtain ⟨f, hf'⟩ := choose_lt hone
          obtain ⟨ab, ao, spot⟩ := a
          refine ⟨.mk k s z ((List.range len).map f), _, _, _, _, rfl, ?_⟩
          have hll : ((List.range len).map f).length = len := by simp
          simp only [Is]
          refine ⟨trivial, trivial, trivial, b0, b2, w1, by rw [hll]; omega, some ⟨ab, ao, spot⟩, cap, by rw [hll], by rw [hll]; omega, ?_⟩
          by_cases h0 : len = 0
          · subst h0; simp [Row]
          · have hspot : spot = none := by
              obtain ⟨d0, d1, d2, d3, hcs, _⟩ := hf' 0 (by omega)
              obtain ⟨_, _, hc⟩ := World.cells?_some hcs
              have := hc 0 (by omega)
              simpa [Addr.add] using World.cell?_spot this
            subst hspot
            have := Row_of_family (w := W) f ab len ao 0 (fun i hi => by
              obtain ⟨d0, d1, d2, d3, hcs, hI⟩ := hf' i hi
              obtain ⟨_, _, hc⟩ := World.cells?_some hcs
              have g0 := hc 0 (by omega)
              have g1 := hc 1 (by omega)
              have g2 := hc 2 (by omega)
              have g3 := hc 3 (by omega)
              simp only [Addr.add_lit, List.getElem?_cons_zero, List.getElem?_cons_succ, Nat.add_zero] at g0 g1 g2 g3
              rw [Nat.zero_add]
              exact ⟨d0, d1, d2, d3, g0, g1, g2, g3, hI⟩)
            simpa using this
set_option maxRecDepth 100000 in
theorem open_term {v : Value} {d : DataW H} {ps : List MemPlace} {r : Reach} {b0 : Nat} (hv : Value.okWide Tryz.prog W r b0 24 v) (h : DataW.Trod enc Tryz.prog W base sp held 24 v d ps) : ∃ t : Tm, IsV W t v := by
  obtain ⟨cs, rfl, hsz⟩ := okWide_struct Tryz.underlying24 hv
  obtain ⟨fuel, hf⟩ := h
  obtain ⟨t, c0, c1, c2, c3, hcs, hI⟩ := open_term_upto fuel fuel _ _ (Nat.le_refl _) hf
  refine ⟨t, c0, c1, c2, c3, ?_, hI⟩
  simp only [Value.cells] at hcs
  obtain ⟨l⟩ := cs
  simp only at hcs
  subst hcs
  rfl
end
theorem ba_eq {s : ByteArray} {l : List UInt8} (h : s.data.toList = l) : s = ⟨l.toArray⟩ := by
  subst h
  cases s
  simp
end Go.Proofs.YtbcpnepjojppaaaGreatDoor
namespace Go.Proofs.YtbcpnepjojppaaaGreatDoor
open Go.ChangeShapes Go.WideShapes Go.ChangeAt Go.RowKit Go.Deep
theorem trodAll_below {H : Type} {enc : TypeId × Value → H} {W W' : World} (hB : Below W.heap.size W W') : ∀ {ts : List TypeId} {vs : List Value} {ds : List (DataW H)} {ps : List MemPlace}, (∀ t ∈ ts, t < Tryz.prog.types.size ∧ Tryz.prog.readableRec t = true) →
    DataW.TrodAll enc Tryz.prog W 0 (fun _ => true) true ts vs ds ps → (∀ x ∈ ps, x.block < W.heap.size) → DataW.TrodAll enc Tryz.prog W' 0 (fun b => decide (b < W.heap.size)) true ts vs ds ps
  | [], [], [], _, _, h, _ => h
  | t :: ts, _ :: _, _ :: _, _, hT, ⟨p, q, h1, h2, e⟩, hs =>
    ⟨p, q, Below.trod laidOut (hT t (List.mem_cons.2 (Or.inl rfl))).2 (hT t (List.mem_cons.2 (Or.inl rfl))).1 h1 hB (fun x hx => hs x (by rw [e]; exact List.mem_append_left _ hx)),
      trodAll_below hB (fun t ht => hT t (List.mem_cons.2 (Or.inr ht))) h2 (fun x hx => hs x (by rw [e]; exact List.mem_append_right _ hx)), e⟩
theorem post_true {H : Type} {enc : TypeId × Value → H} {f : Func} {s : ChangeSpec} {W W' : World} {args : Array Value} {ds gs : List (DataW H)} {before : List MemPlace} (hv : s.vars = []) (hs : s.fn H ds = { results := [.lit (.bool true)], args := ds })
    (hr : f.resultTypes = #[4]) (hT : ∀ t ∈ f.params.toList, t < Tryz.prog.types.size ∧ Tryz.prog.readableRec t = true)
    (hW : DataW.Whole enc Tryz.prog f.params.toList s.vars false W args.toList ds gs before) (hB : Below W.heap.size W W') : s.post enc Tryz.prog f false true false false W args (.bool true) W' := by
  have hlt := hW.lt
  have hW' := hW
  rw [hv] at hW'
  obtain ⟨p, q, hA, hV, rfl, hfz, hnd⟩ := hW'
  obtain ⟨rfl, rfl⟩ := trodVars_none hV
  refine ⟨ds, [], p ++ [], [], p, [], hW, ?_, ?_, ?_, hB.frame _, fun h => by cases h⟩
  · rw [List.append_nil, hs, hr]
    exact trodAll_mk1 (shut_bool Tryz.underlying4 _)
  · rw [List.append_nil, hs]
    exact trodAll_below hB hT hA (fun x hx => hlt x (by simpa using hx))
  · rw [List.append_nil, hs, hv]; rfl
end Go.Proofs.YtbcpnepjojppaaaGreatDoor
namespace Go.Proofs.YtbcpnepjojppaaaGreatDoor
open Go.ChangeShapes Go.WideShapes Go.ChangeAt Go.RowKit Go.Deep
def symL : List (List UInt8 × Int × Int × Int) :=
  [([112, 97, 105, 114], 2, 2, 1), ([101, 110, 99], 2, 2, 1), ([97, 101, 110, 99], 2, 2, 1), ([112, 107], 1, 1, 1), ([115, 105, 103, 110], 2, 2, 1), ([104, 97, 115, 104], 1, 1, 1),
   ([120, 111, 114], 2, 8, 1), ([122, 101, 114, 111], 0, 0, 1), ([101, 120, 112], 2, 2, 1), ([109, 117, 108], 2, 8, 1), ([105, 110, 118], 1, 1, 1), ([111, 110, 101], 0, 0, 1),
   ([115, 107], 1, 1, 2), ([115, 104, 107], 2, 2, 2), ([110, 101, 119], 1, 8, 2),
   ([102, 115, 116], 1, 1, 3), ([115, 110, 100], 1, 1, 3), ([100, 101, 99], 2, 2, 3), ([97, 100, 101, 99], 2, 2, 3), ([111, 112, 101, 110], 2, 2, 3), ([114, 101, 97, 100], 1, 1, 3)]
def symAt (i : Nat) : List UInt8 × Int × Int × Int := symL.getD i ([], 0, 0, 0)
def symP (n : ByteArray) (s : List UInt8 × Int × Int × Int) : Bool := decide ((⟨s.1.toArray⟩ : ByteArray) = n)
def symI (n : ByteArray) : Nat := symL.findIdx (symP n)
def symNm (i : Nat) : ByteArray := ⟨(symAt i).1.toArray⟩
def symLo (i : Nat) : Int := (symAt i).2.1
def symHi (i : Nat) : Int := (symAt i).2.2.1
def symKd (i : Nat) : Int := (symAt i).2.2.2
theorem symI_le (n : ByteArray) : symI n ≤ 21 := by
  have := List.findIdx_le_length (xs := symL) (p := symP n)
  exact this
theorem symAt_eq {i : Nat} (h : i < 21) : symL[i]? = some (symAt i) := by
  unfold symAt
  rw [List.getD_eq_getElem?_getD, List.getElem?_eq_getElem (show i < symL.length from h)]; rfl
theorem symI_nm {n : ByteArray} (h : symI n < 21) : symNm (symI n) = n := by
  have h' : symI n < symL.length := h
  have := List.findIdx_getElem (xs := symL) (p := symP n) (w := h')
  have e := symAt_eq h
  rw [List.getElem?_eq_getElem h'] at e
  have e' := Option.some.inj e
  unfold symNm
  rw [← e']
  exact of_decide_eq_true this
theorem symI_before {n : ByteArray} {i : Nat} (h : i < symI n) : symNm i ≠ n := by
  have h21 : i < 21 := Nat.lt_of_lt_of_le h (symI_le n)
  have := List.not_of_lt_findIdx (xs := symL) (p := symP n) h
  have e := symAt_eq h21
  rw [List.getElem?_eq_getElem (show i < symL.length from h21)] at e
  have e' := Option.some.inj e
  unfold symNm
  rw [← e']
  exact of_decide_eq_false (by first | exact this | exact Bool.eq_false_iff.2 this)
theorem symI_is {n : ByteArray} {j : Nat} (hj : j ≤ 21) (h0 : ∀ k, k < j → symNm k ≠ n) (h1 : j < 21 → symNm j = n) : symI n = j := by
  rcases Nat.lt_trichotomy (symI n) j with h | h | h
  · exact absurd (symI_nm (by omega)) (h0 _ h)
  · exact h
  · exact absurd (h1 (Nat.lt_of_lt_of_le h (symI_le n))) (symI_before h)
def TabY (w : World) : Prop := ∀ i, i < 21 → w.cell? ⟨0, i * 4, none⟩ = some (.string (symNm i)) ∧ w.cell? ⟨0, i * 4 + 1, none⟩ = some (.int .i64 (symLo i)) ∧
  w.cell? ⟨0, i * 4 + 2, none⟩ = some (.int .i64 (symHi i)) ∧ w.cell? ⟨0, i * 4 + 3, none⟩ = some (.int .i64 (symKd i))
theorem TabY.ext {w W : World} (h : TabY w) (x : Below w.heap.size w W) : TabY W := fun i hi => by
  obtain ⟨a, b, c, d⟩ := h i hi
  exact ⟨keep_below x _ _ a, keep_below x _ _ b, keep_below x _ _ c, keep_below x _ _ d⟩
theorem gSym : Tryz.prog.globalNamed "sealring/theory.symbols" = some 0 := by kernel_rfl
theorem gSymType : (Tryz.prog.globals[0]?).map (·.type) = some 72 := by kernel_rfl
theorem take_one {α : Type} {cs : List α} {a b : Nat} {v : α} (h : (((cs.drop a).take 4).drop b).take 1 = [v]) : cs[a + b]? = some v := by
  have := congrArg (·[0]?) h
  simp only [List.getElem?_take, List.getElem?_drop, List.getElem?_cons_zero] at this
  simp at this
  exact this.2
theorem trod_sym {H : Type} {enc : TypeId × Value → H} {P : Program} {w : World} {base : Nat} {sp : Nat → Bool} {held : Bool} {fuel : Nat} {t e ts ti : TypeId} {n : Nat} {f0 f1 f2 f3 : Field} {cs : List Value} {l : List (List UInt8 × Int × Int × Int)} {p : List MemPlace}
    (ht : P.underlying t = some (.array n e)) (he : P.underlying e = some (.struct #[f0, f1, f2, f3])) (hts : P.underlying ts = some .string) (hti : P.underlying ti = some (.int .i64))
    (hce : P.cellsOf e = 4) (hcs : P.cellsOf ts = 1) (hci : P.cellsOf ti = 1) (g0 : f0.type = ts ∧ f0.offset = 0) (g1 : f1.type = ti ∧ f1.offset = 1) (g2 : f2.type = ti ∧ f2.offset = 2) (g3 : f3.type = ti ∧ f3.offset = 3)
    (h : DataW.trod enc P w base sp held fuel t cs = some (.agg (l.map fun s => .agg [.lit (.string s.1), .lit (.int .i64 s.2.1), .lit (.int .i64 s.2.2.1), .lit (.int .i64 s.2.2.2)]), p)) (i : Nat) (s : List UInt8 × Int × Int × Int) (hi : l[i]? = some s) :
    cs[i * 4]? = some (.string ⟨s.1.toArray⟩) ∧ cs[i * 4 + 1]? = some (.int .i64 s.2.1) ∧ cs[i * 4 + 2]? = some (.int .i64 s.2.2.1) ∧ cs[i * 4 + 3]? = some (.int .i64 s.2.2.2) := by
  obtain ⟨xs, m, _, hx, hl, hn, hel⟩ := DataW.trod_array ht h
  simp only [Prod.mk.injEq, DataW.agg.injEq] at hx
  have hlw : l.length = n := by have := congrArg List.length hx.1; simpa [hn] using this
  have hin : i < n := by rw [← hlw]; exact (List.getElem?_eq_some_iff.1 hi).1
  have h1 := hel i hin
  rw [hce, List.getElem?_eq_getElem (by omega)] at h1
  obtain ⟨ys, m2, _, hy, _, hyn, hf⟩ := DataW.trod_struct he h1
  have h3 := congrArg (·[i]?) hx.1
  simp only [List.getElem?_map, hi, Option.map_some, List.getElem?_eq_getElem (show i < xs.length by omega), hy, Option.some.injEq, DataW.agg.injEq] at h3
  match ys, hyn with
  | [y0, y1, y2, y3], _ =>
    simp only [List.map_cons, List.map_nil, List.cons.injEq, and_true] at h3
    obtain ⟨z0, z1, z2, z3⟩ := h3
    have k0 := hf 0 f0 rfl
    have k1 := hf 1 f1 rfl
    have k2 := hf 2 f2 rfl
    have k3 := hf 3 f3 rfl
    rw [g0.1, g0.2, hcs, List.getElem?_cons_zero] at k0
    rw [g1.1, g1.2, hci, List.getElem?_cons_succ, List.getElem?_cons_zero] at k1
    rw [g2.1, g2.2, hci, List.getElem?_cons_succ, List.getElem?_cons_succ, List.getElem?_cons_zero] at k2
    rw [g3.1, g3.2, hci, List.getElem?_cons_succ, List.getElem?_cons_succ, List.getElem?_cons_succ, List.getElem?_cons_zero] at k3
    obtain ⟨b, c0, e0, _⟩ := DataW.trod_string hts k0
    obtain ⟨v1, c1, e1, _⟩ := DataW.trod_int hti k1
    obtain ⟨v2, c2, e2, _⟩ := DataW.trod_int hti k2
    obtain ⟨v3, c3, e3, _⟩ := DataW.trod_int hti k3
    subst e0 e1 e2 e3
    simp only [DataW.lit.injEq, Lit.string.injEq, Lit.int.injEq, true_and] at z0 z1 z2 z3
    subst z1 z2 z3
    have hb := ba_eq z0.symm
    rw [← hb]
    exact ⟨by simpa using take_one c0, take_one c1, take_one c2, take_one c3⟩
end Go.Proofs.YtbcpnepjojppaaaGreatDoor
namespace Go.Proofs.YtbcpnepjojppaaaGreatDoor
open Go.ChangeShapes Go.WideShapes Go.ChangeAt Go.RowKit Go.Deep
theorem laid_ofY {W : World} (h : laidMetH Tryz.prog [("sealring/theory.symbols", Rows.laid_sealring_theory_symbols)] W) : TabY W := by
  rw [MakeChecks.laidMetH_plain _ _ _ (by kernel_rfl)] at h
  obtain ⟨ps, ⟨g, t, cs, f, p, q, hg, ht, hv, hd, _, _⟩, _⟩ := h
  obtain rfl := Option.some.inj (gSym.symm.trans hg)
  obtain rfl := Option.some.inj (gSymType.symm.trans ht)
  have hw := fun i s hi => trod_sym (l := symL) Tryz.underlying72 Tryz.underlying48 Tryz.underlying9 Tryz.underlying3 (by kernel_rfl) (by kernel_rfl) (by kernel_rfl) ⟨rfl, rfl⟩ ⟨rfl, rfl⟩ ⟨rfl, rfl⟩ ⟨rfl, rfl⟩ hd i s hi
  intro i hi
  obtain ⟨a, b, c, d⟩ := hw i _ (symAt_eq hi)
  have hc : ∀ (j : Nat) (v : Value), cs.toList[j]? = some v → W.cell? ⟨0, j, none⟩ = some v := fun j v hj => by
    rw [World.var?_cell hg hv j, ← Array.getElem?_toList]; exact hj
  exact ⟨hc _ _ a, hc _ _ b, hc _ _ c, hc _ _ d⟩
end Go.Proofs.YtbcpnepjojppaaaGreatDoor
