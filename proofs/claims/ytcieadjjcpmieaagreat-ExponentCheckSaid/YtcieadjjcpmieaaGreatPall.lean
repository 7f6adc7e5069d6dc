/-
  DRAFTS OF PRODUCTS: as they come in, on plain data, and the walk of the reference's All.
-/
import Derived.Test.YtcieadjjcpmieaaGreatPgrp
import Derived.Test.YtcieadjjcpmieaaGreatPradd
import Derived.Test.YtcieadjjcpmieaaGreatPinv
import Derived.Test.YtcieadjjcpmieaaGreatPvan
import Derived.Lib.SmallJoins
import Derived.Deep.RegionHeld3
namespace Go.Proofs.YtcieadjjcpmieaaGreat
open Go.ChangeShapes Go.WideShapes Go.ChangeAt Go.RowKit Go.Deep

/-- Slices of int8 in a row. -/
def I8Rows (w : World) (ls : List (List Int)) (xa : Option Addr) : Prop :=
  ∀ k (h : k < ls.length), ∃ b o ya c, xa = some ⟨b, o, none⟩ ∧ w.cell? ⟨b, o + k, none⟩ = some (.slice ya ls[k].length c) ∧ ls[k].length ≤ maxLen ∧ I8Row w ls[k] ya
theorem I8Rows.ext {w W : World} {ls : List (List Int)} {xa : Option Addr} (h : I8Rows w ls xa) (y : Ext w W) : I8Rows W ls xa := fun k hk => by
  obtain ⟨b, o, ya, c, e, hc, hl, hr⟩ := h k hk
  exact ⟨b, o, ya, c, e, keep_below y _ _ hc, hl, hr.ext y⟩
theorem cellsI8 : Tryz.prog.cellsOf 68 = 1 := by kernel_rfl
theorem cellsI8s : Tryz.prog.cellsOf 44 = 1 := by kernel_rfl
section
variable {H : Type} {enc : TypeId × Value → H} {W : World} {base : Nat} {sp : Nat → Bool} {held : Bool}
set_option maxRecDepth 100000 in
theorem open_i8_in {fuel : Nat} {cs : List Value} {x : DataW H × List MemPlace} (h : DataW.trod enc Tryz.prog W base sp held fuel 44 cs = some x) : ∃ (q : List Int) (xa : Option Addr) (c : Nat), cs = [.slice xa q.length c] ∧ q.length ≤ maxLen ∧ I8Row W q xa := by
  rcases open_ints Tryz.underlying44 Tryz.underlying68 cellsI8 h with ⟨e3, _⟩ | ⟨a, len, cap, zs, e3, _, hlc, hcm, hzl, _, hcell, hwf⟩
  · exact ⟨[], none, 0, e3, Nat.zero_le _, fun x hx => by simp at hx, fun i hi => by simp at hi⟩
  · have hlz : len ≤ zs.length := by rw [hzl]; split <;> omega
    have hll : (zs.take len).length = len := by rw [List.length_take]; omega
    refine ⟨zs.take len, some a, cap, by rw [hll]; exact e3, by rw [hll]; omega, fun x hx => bounds_i8 (hwf x (List.mem_of_mem_take hx)), fun i hi => ?_⟩
    rw [hll] at hi
    obtain ⟨ab, ao, spot⟩ := a
    have h0 := hcell 0 (by omega)
    have hspot : spot = none := by simpa [Addr.add] using World.cell?_spot h0
    subst hspot
    have hc := hcell i (by omega)
    rw [Addr.add_lit] at hc
    refine ⟨ab, ao, rfl, ?_⟩
    rw [hc, List.getElem_take]
    simp [List.getD_eq_getElem?_getD, List.getElem?_eq_getElem (show i < zs.length by omega)]
set_option maxRecDepth 100000 in
theorem open_i8 {v : Value} {d : DataW H} {ps : List MemPlace} {r : Reach} {b0 : Nat} (hv : Value.okWide Tryz.prog W r b0 44 v) (h : DataW.Trod enc Tryz.prog W base sp held 44 v d ps) : ∃ (q : List Int) (xa : Option Addr) (c : Nat), v = .slice xa q.length c ∧ q.length ≤ maxLen ∧ I8Row W q xa := by
  obtain ⟨a0, l0, c0, rfl⟩ := okWide_slice Tryz.underlying44 hv
  obtain ⟨fuel, hf⟩ := h
  have hcs : (Value.slice a0 l0 c0).cells.toList = [.slice a0 l0 c0] := rfl
  rw [hcs] at hf
  obtain ⟨q, xa, c, e, h1, h2⟩ := open_i8_in hf
  simp only [List.cons.injEq, and_true] at e
  exact ⟨q, xa, c, e, h1, h2⟩
set_option maxRecDepth 100000 in
theorem open_i8s_in {fuel : Nat} {cs : List Value} {x : DataW H × List MemPlace} (h : DataW.trod enc Tryz.prog W base sp held fuel 43 cs = some x) : ∃ (ls : List (List Int)) (xa : Option Addr) (c : Nat), cs = [.slice xa ls.length c] ∧ ls.length ≤ maxLen ∧ I8Rows W ls xa := by
  rcases DataW.trod_slice Tryz.underlying43 h with ⟨e3, _⟩ | ⟨a, len, cap, elems, rest, m, hn, e3, hd, hb, hlc, hcm, hel, hat, _⟩
  · exact ⟨[], none, 0, e3, Nat.zero_le _, fun i hi => by simp at hi⟩
  · rw [cellsI8s] at hat
    have hone : ∀ i, i < len → ∃ q : List Int, ∃ ya c, W.cells? base (a.add (i * 1)) 1 = some [.slice ya q.length c] ∧ q.length ≤ maxLen ∧ I8Row W q ya := fun i hi => by
      have hi' : i < elems.length := by omega
      have := hat i hi
      rw [List.getElem?_eq_getElem hi'] at this
      obtain ⟨cs', hcs, htr⟩ := Option.bind_eq_some_iff.1 this
      obtain ⟨q, ya, c, rfl, h1, h2⟩ := open_i8_in htr
      exact ⟨q, ya, c, hcs, h1, h2⟩
    obtain ⟨f, hf'⟩ := choose_lt hone
    obtain ⟨ab, ao, spot⟩ := a
    have hll : ((List.range len).map f).length = len := by simp
    refine ⟨(List.range len).map f, some ⟨ab, ao, spot⟩, cap, by rw [hll]; exact e3, by rw [hll]; omega, fun k hk => ?_⟩
    rw [hll] at hk
    obtain ⟨ya, c, hcs, h1, h2⟩ := hf' k hk
    obtain ⟨_, _, hc⟩ := World.cells?_some hcs
    have g0 := hc 0 (by omega)
    have hspot : spot = none := by
      obtain ⟨_, _, hcs0, _⟩ := hf' 0 (by omega)
      obtain ⟨_, _, hc0⟩ := World.cells?_some hcs0
      have := hc0 0 (by omega)
      simpa [Addr.add] using World.cell?_spot this
    subst hspot
    simp only [Addr.add_lit, List.getElem?_cons_zero, Nat.add_zero, Nat.mul_one] at g0
    have e : ((List.range len).map f)[k]'(by rw [hll]; exact hk) = f k := by simp
    rw [e]
    exact ⟨ab, ao, ya, c, rfl, g0, h1, h2⟩
set_option maxRecDepth 100000 in
theorem open_draft6 {v : Value} {d : DataW H} {ps : List MemPlace} {r : Reach} {b0 : Nat} (hv : Value.okWide Tryz.prog W r b0 46 v) (h : DataW.Trod enc Tryz.prog W base sp held 46 v d ps) :
    ∃ (L : List (List Int)) (mix rest : List Int) (x0 x1 x2 : Option Addr) (k0 k1 k2 : Nat), v = .agg #[.slice x0 L.length k0, .slice x1 mix.length k1, .slice x2 rest.length k2] ∧ (L.length ≤ maxLen ∧ mix.length ≤ maxLen ∧ rest.length ≤ maxLen) ∧ I8Rows W L x0 ∧ I8Row W mix x1 ∧ I8Row W rest x2 := by
  obtain ⟨c0, c1, c2, y0, y1, y2, n, rfl, _, _, h0, h1, h2⟩ := Go.Joins.open_agg3 Tryz.underlying46 (by kernel_rfl) (by kernel_rfl) hv h
  obtain ⟨L, x0, k0, e0, l0, r0⟩ := open_i8s_in h0
  obtain ⟨mix, x1, k1, e1, l1, r1⟩ := open_i8_in h1
  obtain ⟨rest, x2, k2, e2, l2, r2⟩ := open_i8_in h2
  simp only [List.cons.injEq, and_true] at e0 e1 e2
  subst e0 e1 e2
  exact ⟨L, mix, rest, x0, x1, x2, k0, k1, k2, rfl, ⟨l0, l1, l2⟩, r0, r1, r2⟩
set_option maxRecDepth 100000 in
theorem open_char {v : Value} {d : DataW H} {ps : List MemPlace} {r : Reach} {b0 : Nat} (hv : Value.okWide Tryz.prog W r b0 53 v) (h : DataW.Trod enc Tryz.prog W base sp held 53 v d ps) :
    ∃ (md : Int) (vs : List Pw) (xv : Option Addr) (cv : Nat), v = .agg #[.int .i64 md, .slice xv vs.length cv] ∧ i64ok md ∧ vs.length ≤ cv ∧ cv ≤ maxLen ∧ PRow W vs xv ∧ ∃ d0 d1, d = .agg [d0, d1] ∧ (vs = [] ∨ ∃ elems spare, d1 = .slice elems spare ∧ elems.length = vs.length) := by
  obtain ⟨c0, c1, y0, y1, n, rfl, rfl, _, h0, h1⟩ := Go.Joins.open_agg2 Tryz.underlying53 (by kernel_rfl) (by kernel_rfl) hv h
  obtain ⟨md, e, _, wf⟩ := DataW.trod_int Tryz.underlying3 h0
  obtain ⟨vs, xv, cv, e1, h2, h3, h4, h5⟩ := open_powers_upto _ _ _ h1
  simp only [List.cons.injEq, and_true] at e e1
  subst e e1
  exact ⟨md, vs, xv, cv, rfl, bounds_i64 wf, h2, h3, h4, _, _, rfl, h5⟩
end
set_option maxRecDepth 100000 in
/-- The bulk that the form bears, of a character's values. -/
theorem char_bytes {H : Type} {ts : List TypeId} {ds : List (DataW H)} (h : (DataW.weightsEach Tryz.prog ts ds).all (· ≤ reachBytes) = true) {j : Nat} {d0 d1 : DataW H} {ps : List Pw} (ht : ts[j]? = some 53) (hd : ds[j]? = some (.agg [d0, d1])) (hb : ps = [] ∨ ∃ elems spare, d1 = .slice elems spare ∧ elems.length = ps.length) : ps.length * 64 ≤ 140737488355328 := by
  rcases hb with rfl | ⟨elems, spare, rfl, he⟩
  · simp
  · have := List.all_eq_true.1 h _ (DataW.weights_mem_each ht hd ((elems.length + spare.length) * Tryz.prog.bytesOf 77) (by simp [DataW.weights, DataW.weightsEach, Tryz.underlying53, Tryz.underlying27]))
    rw [bytesPower, decide_eq_true_iff] at this
    have h2 := reachBytes_lt
    have h3 : elems.length * 64 ≤ (elems.length + spare.length) * 64 := Nat.mul_le_mul_right _ (Nat.le_add_right _ _)
    omega
/-- The generators and the product of a draft. -/
def allStep (L : List (List Int)) (mix : List Int) (m : List Pw) (i : Nat) : List Pw :=
  if i < mix.length then (if (timP (madeP (L.getD i [])) (mix.getD i 0)).2 = 0 then (if (mulP m (timP (madeP (L.getD i [])) (mix.getD i 0)).1).2 = 0 then (mulP m (timP (madeP (L.getD i [])) (mix.getD i 0)).1).1 else m) else m) else m
def allM (L : List (List Int)) (mix rest : List Int) : Nat → List Pw
  | 0 => madeP rest
  | j + 1 => allStep L mix (allM L mix rest j) j
theorem near_of {ps : List Pw} (h : tooG ps = false) : ∀ p ∈ ps, p.2.natAbs ≤ 1000 := fun p hp => by
  have h1 : farP p.2 = false := by
    cases hf : farP p.2 with
    | false => rfl
    | true => rw [show tooG ps = true from List.any_eq_true.2 ⟨p, hp, hf⟩] at h; cases h
  unfold farP at h1
  rw [Bool.or_eq_false_iff, decide_eq_false_iff_not, decide_eq_false_iff_not] at h1
  omega
theorem Cp_nil (K n : Nat) : Cp K n [] := ⟨normP_nil, Nat.zero_le _, fun p hp => by simp at hp, fun p hp => by simp at hp⟩
theorem Cp.timR {a : List Pw} {n : Int} (h : Cp 128 6 a) (hn : n.natAbs ≤ 128) : Cp 1000 6 (timP a n).1 := by
  unfold timP
  split
  · split
    · exact Cp_nil _ _
    · split
      · exact Cp_nil _ _
      · rename_i h0
        split
        · exact Cp_nil _ _
        · rename_i ht
          have hc : n.natAbs * 128 ≤ 1000000 := Nat.le_trans (Nat.mul_le_mul_right _ hn) (by decide)
          have hs := (h.scal hc h0).1
          exact ⟨hs.1, hs.2.1, near_of (by simpa using ht), hs.2.2.2⟩
  · exact Cp_nil _ _
theorem rangeE_zero {ps : List Pw} (h : rangeE ps = 0) : tooG ps = false ∧ ps.length ≤ 200 := by
  unfold rangeE at h
  split at h
  · exact absurd h (by decide)
  · rename_i h1
    split at h
    · exact absurd h (by decide)
    · exact ⟨by simpa using h1, by omega⟩
theorem Cp.mulR {a b : List Pw} (ha : Cp 1000 200 a) (hb : Cp 1000 6 b) : Cp 1000 200 (mulP a b).1 := by
  unfold mulP
  split
  · split
    · split
      · rename_i h
        obtain ⟨h1, h2⟩ := rangeE_zero h
        have hs := (ha.add hb).1
        exact ⟨hs.1, h2, near_of h1, hs.2.2.2⟩
      · exact Cp_nil _ _
    · exact Cp_nil _ _
  · exact Cp_nil _ _
theorem i8_getD {q : List Int} (hq : ∀ x ∈ q, -128 ≤ x ∧ x ≤ 127) (i : Nat) : (q.getD i 0).natAbs ≤ 128 := by
  rw [List.getD_eq_getElem?_getD]
  by_cases hj : i < q.length
  · have := hq _ (List.getElem_mem hj)
    rw [List.getElem?_eq_getElem hj]
    show (q[i]'hj).natAbs ≤ 128
    omega
  · rw [List.getElem?_eq_none (by omega)]; decide
theorem made_getD {L : List (List Int)} (hL : ∀ q ∈ L, ∀ x ∈ q, -128 ≤ x ∧ x ≤ 127) (i : Nat) : Cp 128 6 (madeP (L.getD i [])) := by
  refine madeP_cp fun x hx => ?_
  rw [List.getD_eq_getElem?_getD] at hx
  by_cases hj : i < L.length
  · rw [List.getElem?_eq_getElem hj] at hx
    exact hL _ (List.getElem_mem hj) x hx
  · rw [List.getElem?_eq_none (by omega)] at hx; simp at hx
theorem allM_cp {L : List (List Int)} {mix rest : List Int} (hL : ∀ q ∈ L, ∀ x ∈ q, -128 ≤ x ∧ x ≤ 127) (hm : ∀ x ∈ mix, -128 ≤ x ∧ x ≤ 127) (hr : ∀ x ∈ rest, -128 ≤ x ∧ x ≤ 127) : ∀ j, Cp 1000 200 (allM L mix rest j)
  | 0 => (madeP_cp hr).mono (by decide) (by decide)
  | j + 1 => by
    have ih := allM_cp hL hm hr j
    rw [allM, allStep]
    split
    · split
      · split
        · exact ih.mulR ((made_getD hL j).timR (i8_getD hm j))
        · exact ih
      · exact ih
    · exact ih
def allL (L : List (List Int)) : List (List Pw) := (L.take 8).map madeP
theorem PRow_atoms {w W : World} {ps : List Pw} {xa : Option Addr} (ha : ∀ p ∈ ps, ∃ i, i < 6 ∧ p.1 = atomN i) (h : PRow w ps xa) (hb : 0 < ps.length → ∀ b o s, xa = some ⟨b, o, s⟩ → W.heap[b]? = w.heap[b]?) : PRow W ps xa := by
  rcases h with rfl | ⟨b, o, rfl, h⟩
  · exact Or.inl rfl
  refine Or.inr ⟨b, o, rfl, fun k hk => ?_⟩
  have hW := hb (by omega) b o none rfl
  obtain ⟨⟨c0, c1, c2, c3, g0, g1, g2, g3, hI⟩, h4, h5⟩ := h k hk
  have hc : ∀ q v, w.cell? ⟨b, q, none⟩ = some v → W.cell? ⟨b, q, none⟩ = some v := fun q v hv => by rw [World.cell?_of_block (w := w) (a := ⟨b, q, none⟩) hW]; exact hv
  obtain ⟨i, _, e⟩ := ha _ (List.getElem_mem hk)
  rw [e] at hI ⊢
  refine ⟨⟨c0, c1, c2, c3, hc _ _ g0, hc _ _ g1, hc _ _ g2, hc _ _ g3, ?_⟩, hc _ _ h4, h5⟩
  unfold atomN at hI ⊢
  simp only [Is, Row] at hI ⊢
  exact hI
/-- A row that isn't the block of a slice. -/
def Off (v : Value) (ps : List Pw) (xa : Option Addr) : Prop := 0 < ps.length → ∀ b o s, xa = some ⟨b, o, s⟩ → v.ownBlock ≠ some b
theorem PRow_lt {w : World} {ps : List Pw} {xa : Option Addr} (h : PRow w ps xa) (hp : 0 < ps.length) {b o : Nat} {s : Option Nat} (e : xa = some ⟨b, o, s⟩) : b < w.heap.size := by
  obtain ⟨b', o', rfl⟩ := PRow_at h hp
  simp only [Option.some.injEq, Addr.mk.injEq] at e
  rw [← e.1]
  exact World.block_lt_of_cell? w _ (PRow_get h 0 hp).2.1
theorem keep_row {w5 w8 : World} {v v' : Value} {g q : Nat} {ob : Obj} (hgr : (w5.alloc ob).grownBy w8 v.ownBlock) (hat : v.ownBlock = some g ∨ g = q) (hq : q = w5.heap.size + 1) {ps : List Pw} (ha : ∀ p ∈ ps, ∃ i, i < 6 ∧ p.1 = atomN i) {xa : Option Addr} (h : PRow w5 ps xa) (ho : Off v ps xa) (hv : v'.ownBlock = some g) : PRow w8 ps xa ∧ Off v' ps xa := by
  refine ⟨PRow_atoms ha h fun hp b o s e => ?_, fun hp b o s e hx => ?_⟩
  · have hb := PRow_lt h hp e
    rw [hgr.block b (by rw [World.size_alloc]; omega) (fun x => ho hp b o s e x.symm), Below.heap_alloc _ _ _ hb]
  · have hb := PRow_lt h hp e
    rw [hv, Option.some.injEq] at hx
    rcases hat with h1 | h1
    · exact ho hp b o s e (by rw [h1, hx])
    · omega
/-- What All has made so far. -/
structure AL (w : World) (L : List (List Int)) (j : Nat) (xl : Option Addr) (lc : Nat) (ys : List Value) (M : List Pw) (xm : Option Addr) (cm : Nat) (wr : World) : Prop where
  ext : Ext w wr
  own : wr.ownsRow w.heap.size 27 1 (.slice xl j lc) j ys
  at_ : ∀ k (_ : k < j) (hL : k < L.length), ∃ ya c, ys[k]? = some (.slice ya (madeP L[k]).length c) ∧ (madeP L[k]).length ≤ c ∧ PRow wr (madeP L[k]) ya ∧ Off (.slice xl j lc) (madeP L[k]) ya
  m : PRow wr M xm
  mo : Off (.slice xl j lc) M xm
  mc : M.length ≤ cm
theorem AL.grow {w wr W : World} {L : List (List Int)} {j : Nat} {xl : Option Addr} {lc : Nat} {ys : List Value} {M : List Pw} {xm : Option Addr} {cm : Nat} (h : AL w L j xl lc ys M xm cm wr) (y : Ext wr W) : AL w L j xl lc ys M xm cm W :=
  ⟨h.ext.trans y, own_heap h.own (fun g hg => y.block g (h.own.lt g hg).2), fun k hk hL => by
    obtain ⟨ya, c, h1, h2, h3, h4⟩ := h.at_ k hk hL
    exact ⟨ya, c, h1, h2, PRow_below h3 y, h4⟩, PRow_below h.m y, h.mo, h.mc⟩
theorem AL.setm {w wr : World} {L : List (List Int)} {j : Nat} {xl : Option Addr} {lc : Nat} {ys : List Value} {M : List Pw} {xm : Option Addr} {cm : Nat} (h : AL w L j xl lc ys M xm cm wr) {W : World} (y : Ext wr W) {M2 : List Pw} {x2 : Option Addr} {c2 : Nat} (hc : M2.length ≤ c2) (hr : PRow W M2 x2) (hf : Fsh wr.heap.size x2) : AL w L j xl lc ys M2 x2 c2 W := by
  have h1 := h.grow y
  exact ⟨h1.ext, h1.own, h1.at_, hr, fun _ b o s e hx => by
    have := hf b o s e
    have := (h.own.lt b hx).2
    omega, hc⟩
theorem AL.next {w wr w5 w8 : World} {L : List (List Int)} {j : Nat} {xl : Option Addr} {lc : Nat} {ys : List Value} {M : List Pw} {xm : Option Addr} {cm g q cap : Nat} {ob : Obj} (h : AL w L j xl lc ys M xm cm wr) (hM : ∀ p ∈ M, ∃ i, i < 6 ∧ p.1 = atomN i) (hLr : ∀ q ∈ L, ∀ x ∈ q, -128 ≤ x ∧ x ≤ 127) (hj : j < L.length) (hB : Ext wr w5) {x5 : Option Addr} {c5 : Nat} (hc : (madeP L[j]).length ≤ c5) (hr : PRow w5 (madeP L[j]) x5) (hf : Fsh wr.heap.size x5)
    (hown : w8.ownsRow w.heap.size 27 1 (.slice (some ⟨g, 0, none⟩) (j + 1) cap) (j + 1) (ys ++ [.slice x5 (madeP L[j]).length c5])) (hgr : (w5.alloc ob).grownBy w8 (Value.slice xl j lc).ownBlock) (hat : (Value.slice xl j lc).ownBlock = some g ∨ g = q) (hq : q = w5.heap.size + 1) :
    AL w L (j + 1) (some ⟨g, 0, none⟩) cap (ys ++ [.slice x5 (madeP L[j]).length c5]) M xm cm w8 := by
  have hv : (Value.slice (some ⟨g, 0, none⟩) (j + 1) cap).ownBlock = some g := rfl
  have hyl : ys.length = j := by have := h.own.1; omega
  have h5 := h.grow hB
  have hk := fun (ps : List Pw) (xa : Option Addr) ha (hr : PRow w5 ps xa) ho => keep_row (ps := ps) (xa := xa) hgr hat hq ha hr ho hv
  have hcp : ∀ k (hk : k < L.length), ∀ p ∈ madeP L[k], ∃ i, i < 6 ∧ p.1 = atomN i := fun k hk => (madeP_cp (hLr _ (List.getElem_mem hk))).2.2.2
  refine ⟨?_, hown, fun k hkj hL => ?_, (hk _ _ hM h5.m h5.mo).1, (hk _ _ hM h5.m h5.mo).2, h.mc⟩
  · exact (h5.ext.alloc ob).grown hgr (by rw [World.size_alloc]; have := h5.ext.size; omega) (fun b hb => (h.own.lt b hb).1)
  · by_cases hlt : k < j
    · obtain ⟨ya, c, e1, e2, e3, e4⟩ := h5.at_ k hlt hL
      exact ⟨ya, c, by rw [List.getElem?_append_left (by omega)]; exact e1, e2, hk _ _ (hcp k hL) e3 e4⟩
    · obtain rfl : k = j := by omega
      refine ⟨x5, c5, by rw [List.getElem?_append_right (by omega), hyl]; simp, hc, hk _ _ (hcp k hL) hr fun _ b o s e hx => ?_⟩
      have := hf b o s e
      have := (h.own.lt b hx).2
      omega
theorem AL.next2 {w wr w5 w8 : World} {L : List (List Int)} {j : Nat} {xl : Option Addr} {lc : Nat} {ys : List Value} {M : List Pw} {xm : Option Addr} {cm g q cap : Nat} {ob : Obj} (h : AL w L j xl lc ys M xm cm wr) (hM : ∀ p ∈ M, ∃ i, i < 6 ∧ p.1 = atomN i) (hLr : ∀ q ∈ L, ∀ x ∈ q, -128 ≤ x ∧ x ≤ 127) (hj : j < L.length) (hB : Ext wr w5) {x5 : Option Addr} {c5 : Nat} (hc : (madeP L[j]).length ≤ c5) (hr : PRow w5 (madeP L[j]) x5) (hf : Fsh wr.heap.size x5)
    (hown : w8.ownsRow w.heap.size 27 1 (.slice (some ⟨g, 0, none⟩) (j + 1) cap) (j + 1) (ys ++ [.slice x5 (madeP L[j]).length c5])) (hgr : (w5.alloc ob).grownBy w8 (Value.slice xl j lc).ownBlock) (hat : (Value.slice xl j lc).ownBlock = some g ∨ g = q) (hq : q = w5.heap.size + 1) :
    AL w L (j + 1) (some ⟨g, 0, none⟩) cap (ys ++ [.slice x5 (madeP L[j]).length c5]) M xm cm w8 ∧ PRow w8 (madeP L[j]) x5 ∧ w8.cell? ⟨g, j, none⟩ = some (.slice x5 (madeP L[j]).length c5) := by
  have hn := h.next hM hLr hj hB hc hr hf hown hgr hat hq
  have hyl : ys.length = j := by have := h.own.1; omega
  have e0 : (ys ++ [.slice x5 (madeP L[j]).length c5])[j]? = some (.slice x5 (madeP L[j]).length c5) := by
    rw [List.getElem?_append_right (by omega), hyl]; simp
  have hcl := hn.own.cells rfl j _ e0
  rw [Addr.add_lit, Nat.zero_add] at hcl
  obtain ⟨ya, c, e1, _, e3, _⟩ := hn.at_ j (by omega) hj
  rw [e0] at e1
  simp only [Option.some.injEq, Value.slice.injEq] at e1
  obtain ⟨rfl, _, _⟩ := e1
  exact ⟨hn, e3, hcl⟩
theorem allL_len (L : List (List Int)) : (allL L).length = min 8 L.length := by unfold allL; simp
theorem AL.done {w wr : World} {L : List (List Int)} {j : Nat} {xl : Option Addr} {lc : Nat} {ys : List Value} {M : List Pw} {xm : Option Addr} {cm : Nat} (h : AL w L j xl lc ys M xm cm wr) (hj : j = (allL L).length) : PsRow wr (allL L) xl ∧ j ≤ lc := by
  have hl := allL_len L
  rcases id h.own.2 with ⟨e, e0⟩ | ⟨g, cap', _, e, _, _, hcap, _⟩
  · simp only [Value.slice.injEq] at e
    exact ⟨Or.inl (List.length_eq_zero_iff.1 (by omega)), by omega⟩
  · simp only [Value.slice.injEq, true_and] at e
    obtain ⟨rfl, rfl⟩ := e
    refine ⟨Or.inr ⟨g, 0, rfl, fun k hk => ?_⟩, hcap⟩
    obtain ⟨ya, c, e1, e2, e3, _⟩ := h.at_ k (by omega) (by omega)
    have hg : (allL L)[k] = madeP (L[k]'(by omega)) := by unfold allL; simp
    have hc := h.own.cells rfl k _ e1
    rw [Addr.add_lit, Nat.zero_add] at hc
    rw [hg, Nat.zero_add]
    exact ⟨ya, c, hc, e2, e3⟩
theorem infoPs : (Tryz.prog.info? 27).map (fun i => (i.zero, i.size, i.bytes)) = some (some (.slice none 0 0), 1, 24) := by kernel_rfl
def AllPost (w : World) (L : List (List Int)) (mix rest : List Int) (e : Ending) (w' : World) : Prop :=
  ∃ xl c xm cm, e = .returned (.tuple #[.slice xl (allL L).length c, .slice xm (allM L mix rest (allL L).length).length cm]) ∧ (allL L).length ≤ c ∧ PsRow w' (allL L) xl ∧ (allM L mix rest (allL L).length).length ≤ cm ∧ PRow w' (allM L mix rest (allL L).length) xm ∧ Below w.heap.size w w'
theorem AL.post {w0 w wr : World} {L : List (List Int)} {mix rest : List Int} {j : Nat} {xl : Option Addr} {lc : Nat} {ys : List Value} {xm : Option Addr} {cm : Nat} (h : AL w L j xl lc ys (allM L mix rest j) xm cm wr) (h8 : j ≤ 8) (hl : j ≤ L.length) (he : j = 8 ∨ j = L.length) (hx : Below w0.heap.size w0 wr) {e : Ending} (hE : e = .returned (.tuple #[.slice xl j lc, .slice xm (allM L mix rest j).length cm])) : AllPost w0 L mix rest e wr := by
  have hj : j = (allL L).length := by rw [allL_len]; omega
  obtain ⟨h1, h2⟩ := h.done hj
  refine ⟨xl, lc, xm, cm, ?_, by omega, h1, by rw [← hj]; exact h.mc, by rw [← hj]; exact h.m, hx⟩
  rw [hE, ← hj]
theorem cells3 {w : World} {b : Nat} {c0 c1 c2 : Value} {T : TypeId} (h : w.heap[b]? = some (.cells #[c0, c1, c2] T (0, 0))) : w.cell? ⟨b, 0, none⟩ = some c0 ∧ w.cell? ⟨b, 1, none⟩ = some c1 ∧ w.cell? ⟨b, 2, none⟩ = some c2 := by
  unfold World.cell?
  simp only [h]
  exact ⟨rfl, rfl, rfl⟩
end Go.Proofs.YtcieadjjcpmieaaGreat

/-
  THE WALK OF the reference's All.
-/
namespace Go.Proofs.YtcieadjjcpmieaaGreat
open Go.RowKit

theorem allM_skip {L : List (List Int)} {mix rest : List Int} {j : Nat} (h : mix.length ≤ j) : allM L mix rest (j + 1) = allM L mix rest j := by
  rw [allM, allStep, if_neg (by omega)]
theorem allM_do {L : List (List Int)} {mix rest : List Int} {j : Nat} (h : j < mix.length) (hL : j < L.length) : allM L mix rest (j + 1) = if (timP (madeP L[j]) mix[j]).2 = 0 then (if (mulP (allM L mix rest j) (timP (madeP L[j]) mix[j]).1).2 = 0 then (mulP (allM L mix rest j) (timP (madeP L[j]) mix[j]).1).1 else allM L mix rest j) else allM L mix rest j := by
  have e1 : L.getD j [] = L[j] := by rw [List.getD_eq_getElem?_getD, List.getElem?_eq_getElem hL]; rfl
  have e2 : mix.getD j 0 = mix[j] := by rw [List.getD_eq_getElem?_getD, List.getElem?_eq_getElem h]; rfl
  rw [allM, allStep, if_pos h, e1, e2]
set_option maxHeartbeats 6400000 in
set_option maxRecDepth 100000 in
theorem rAll_any (L : List (List Int)) (mix rest : List Int) (x0 x1 x2 : Option Addr) (k0 k1 k2 : Nat) (w : World) (hl0 : L.length ≤ maxLen) (_hl1 : mix.length ≤ maxLen) (hl2 : rest.length ≤ maxLen) (hR0 : I8Rows w L x0) (hR1 : I8Row w mix x1) (hR2 : I8Row w rest x2) :
    Calls Tryz.prog 25 #[.agg #[.slice x0 L.length k0, .slice x1 mix.length k1, .slice x2 rest.length k2]] w (AllPost w L mix rest) := by
  have hb1 := heap_alloc_new w (.cells #[.slice x0 L.length k0, .slice x1 mix.length k1, .slice x2 rest.length k2] 46)
  have hE1 : Ext w (w.alloc (.cells #[.slice x0 L.length k0, .slice x1 mix.length k1, .slice x2 rest.length k2] 46)) := (Ext.refl w).alloc _
  have hs1 : (w.alloc (.cells #[.slice x0 L.length k0, .slice x1 mix.length k1, .slice x2 rest.length k2] 46)).heap.size = w.heap.size + 1 := World.size_alloc _ _
  have hLr : ∀ q ∈ L, ∀ x ∈ q, -128 ≤ x ∧ x ≤ 127 := fun q hq => by
    obtain ⟨k, hk, rfl⟩ := List.getElem_of_mem hq
    obtain ⟨_, _, _, _, _, _, _, hr⟩ := hR0 k hk
    exact hr.1
  have HLR := Lib.hid hLr
  have HCP := Lib.hid (allM_cp hLr hR1.1 hR2.1)
  have HMR := Lib.hid (fun W (y : Ext w W) => Made_any rest x2 k2 W hl2 (hR2.ext y))
  unfold PwPost at HMR
  have HCA := Lib.hid (fun i => made_getD hLr i)
  have HCJ : Hid (∀ j (h : j < L.length), Cp 128 6 (madeP L[j])) := fun j h => madeP_cp (hLr _ (List.getElem_mem h))
  have HMX : Hid (∀ j (h : j < mix.length), -128 ≤ mix[j] ∧ mix[j] ≤ 127) := fun j h => hR1.1 _ (List.getElem_mem h)
  have HR0 := Lib.hid (fun W (y : Ext w W) => hR0.ext y)
  have HR1 := Lib.hid (fun W (y : Ext w W) => hR1.ext y)
  have HPO := Lib.hid (fun W j xl lc ys xm cm e (h : AL (w.alloc (.cells #[.slice x0 L.length k0, .slice x1 mix.length k1, .slice x2 rest.length k2] 46)) L j xl lc ys (allM L mix rest j) xm cm W) h8 hl he (hx : Ext w W) hE => h.post (w0 := w) (mix := mix) (rest := rest) h8 hl he hx (e := e) hE)
  have HSK := Lib.hid (fun j h => allM_skip (L := L) (mix := mix) (rest := rest) (j := j) h)
  have HDO := Lib.hid (fun j h h2 => allM_do (L := L) (mix := mix) (rest := rest) (j := j) h h2)
  obtain ⟨i0, hi0, hz0, hz1, hz2⟩ := info_parts infoPs
  have HI0 := Lib.hid (And.intro hi0 (And.intro hz0 (And.intro hz1 hz2)))
  have HX1 : Hid (∀ W, Ext (w.alloc (.cells #[.slice x0 L.length k0, .slice x1 mix.length k1, .slice x2 rest.length k2] 46)) W → (W.cell? ⟨w.heap.size, 0, none⟩ = some (.slice x0 L.length k0) ∧ W.cell? ⟨w.heap.size, 1, none⟩ = some (.slice x1 mix.length k1) ∧ W.cell? ⟨w.heap.size, 2, none⟩ = some (.slice x2 rest.length k2)) ∧ Ext w W) := fun W y => ⟨cells3 ((y.block _ (by rw [hs1]; exact Nat.lt_succ_self _)).trans hb1), Ext.trans hE1 y⟩
  obtain ⟨a0, a1, a2⟩ := cells3 hb1
  have HMD : Hid (∀ j (h : j < L.length) ya c W, I8Row W L[j] ya → L[j].length ≤ maxLen → Calls Tryz.prog 39 #[.slice ya L[j].length c] W fun e w' => ∃ xa c, e = .returned (.slice xa (madeP L[j]).length c) ∧ (madeP L[j]).length ≤ c ∧ PRow w' (madeP L[j]) xa ∧ Below W.heap.size W w' ∧ Fsh W.heap.size xa) := by
    show ∀ _, _
    intro j h ya c W hr hl
    refine (Made_fr L[j] ya c W hl hr).mono fun e w' ⟨⟨xa, c, h1, h2, h3, h4⟩, h5⟩ => ⟨xa, c, h1, h2, h3, h4, fun b o s hx => h5 _ _ _ b o s h1 hx⟩
  unfold maxLen at hl0
  clear hLr hR0 hR1 hR2 hi0 hz0 hz1 hz2 hl2 hb1 hE1 hs1
  go_enter Tryz.func25, Tryz.ntmps25
  go_wp2_with (go_at_call 39; refine (HMR.out _ ((Ext.refl w).alloc _)).mono ?_; rintro e w2 ⟨xm, cm, he, hc, hr, hB⟩; subst he; have HY2 := Lib.hid (show Ext _ w2 from hB); have HA2 : Hid (AL (w.alloc (.cells #[.slice x0 L.length k0, .slice x1 mix.length k1, .slice x2 rest.length k2] 46)) L 0 none 0 [] (allM L mix rest 0) xm cm w2) := Lib.hid ⟨hB, World.ownsRow_nil _ _ _ _, fun k hk => absurd hk (by omega), hr, fun _ b o s _ hx => by simp [Value.ownBlock] at hx, hc⟩; clear hc hr hB)
  clear a0 a1 a2
  generalize w.alloc (.cells #[.slice x0 L.length k0, .slice x1 mix.length k1, .slice x2 rest.length k2] 46) = wn at HX1 HPO HY2 HA2
  go_loopw [4, 5, 6] (fun l m i wr => ∃ (j : Nat) (xl : Option Addr) (lc : Nat) (ys : List Value) (xm : Option Addr) (cm : Nat), j ≤ 8 ∧ j ≤ L.length ∧ i = .int .i64 j ∧ l = .slice xl j lc ∧ m = .slice xm (allM L mix rest j).length cm ∧ AL wn L j xl lc ys (allM L mix rest j) xm cm wr) (fun _ _ i _ => 8 - (intOf i).toNat)
  case atStart => exact ⟨0, none, 0, [], xm, cm, by omega, by omega, rfl, rfl, rfl, HA2.out⟩
  case round =>
    obtain ⟨j, xl, lc, ys, ym, dm, h8, hj, rfl, rfl, rfl, hA⟩ := hrel
    have HA := Lib.hid hA
    have HXr := Lib.hid hA.ext
    obtain ⟨⟨a0, a1, a2⟩, hwr⟩ := HX1.out wr HXr.out
    have HW := Lib.hid hwr
    by_cases hlt : j < L.length
    rotate_left
    · have hF : AllPost w L mix rest (.returned (.tuple #[.slice xl j lc, .slice ym (allM L mix rest j).length dm])) wr := HPO.out wr j xl lc ys ym dm _ hA h8 hj (Or.inr (by omega)) hwr rfl
      have HF := Lib.hid hF
      have q1 : decide ((j : Int) < (L.length : Int)) = false := decide_eq_false (by omega)
      generalize allM L mix rest j = M at HF ⊢
      clear hA hwr hF
      go_wp2_with fail
      exact bodyPost_ret (v := .tuple #[.slice xl j lc, .slice ym M.length dm]) (by simp [results, Tryz.results25, go_sem]) rfl HF.out
    have q1 : decide ((j : Int) < (L.length : Int)) = true := decide_eq_true (by omega)
    by_cases hj8 : j < 8
    rotate_left
    · have hF : AllPost w L mix rest (.returned (.tuple #[.slice xl j lc, .slice ym (allM L mix rest j).length dm])) wr := HPO.out wr j xl lc ys ym dm _ hA h8 hj (Or.inl (by omega)) hwr rfl
      have HF := Lib.hid hF
      have q2 : decide ((j : Int) < 8) = false := decide_eq_false (by omega)
      generalize allM L mix rest j = M at HF ⊢
      clear hA hwr hF
      go_wp2_with fail
      exact bodyPost_ret (v := .tuple #[.slice xl j lc, .slice ym M.length dm]) (by simp [results, Tryz.results25, go_sem]) rfl HF.out
    have q2 : decide ((j : Int) < 8) = true := decide_eq_true (by omega)
    obtain ⟨b, o, ya, c, rfl, g0, hlm, hrj⟩ := HR0.out wr hwr j hlt
    have HCM := Lib.hid (HMD.out j hlt ya c wr hrj hlm)
    have hcj := HCJ.out j hlt
    have hmj := HCP.out j
    have HSKJ := Lib.hid (HSK.out j)
    have HDOJ := Lib.hid (fun h => HDO.out j h hlt)
    have HNX := Lib.hid (fun w5 w8 g q cap ob (hB : Ext wr w5) x5 c5 hc hr hf hown hgr hat hq => AL.next2 (w8 := w8) (g := g) (q := q) (cap := cap) (ob := ob) hA hmj.2.2.2 HLR.out hlt hB (x5 := x5) (c5 := c5) hc hr hf hown hgr hat hq)
    generalize madeP L[j] = P at HCM hcj HDOJ HNX
    obtain ⟨K, hK⟩ : ∃ K, P.length = K := ⟨_, rfl⟩
    have HK := Lib.hid hK
    rw [hK] at HCM
    obtain ⟨N, hN⟩ : ∃ N, L[j].length = N := ⟨_, rfl⟩
    rw [hN] at HCM g0
    have hown := hA.own
    have HO := Lib.hid (fun W (y : Ext wr W) => (hA.grow y).own)
    have i1 : (0 : Int) ≤ (j : Int) := by omega
    have i2 : (j : Int) < (L.length : Int) := by omega
    have ew : IntKind.i64.wrap ((j : Int) + 1) = (j : Int) + 1 := IntWalk.i64_in _ (by omega)
    have hwz : wn.heap.size ≤ wr.heap.size := HXr.out.size
    have HWZ := Lib.hid hwz
    have HCJ2 := Lib.hid hcj
    have HMJ := Lib.hid hmj
    clear hA hwr hrj hlm hK hN hown hcj hmj hwz
    go_upto_region 7 with (first
      | (go_at_call 39; refine (HCM.out).mono ?_; rintro e w5 ⟨x5, c5, he, hc, hr, hB, hf⟩; subst he; have HB5 := Lib.hid (show Ext wr w5 from hB); have HC5 := Lib.hid hc; have HR5 := Lib.hid hr; have HF5 := Lib.hid hf; clear hc hr hB hf)
      | (at_builtin; refine wpList_append_lies _ rfl _ _ _ rfl wn.heap.size 27 i0 _ 1 24 Tryz.underlying36 HI0.out.1 HI0.out.2.1 HI0.out.2.2.1 HI0.out.2.2.2 rfl (by omega) (.slice xl j lc) j ys rfl ((HO.out _ HB5.out).alloc _) ⟨w5.heap.size, 0, none⟩ 1 1 [.slice x5 K c5] rfl rfl (cell_one_new w5 (.slice x5 K c5) 27) (by simp [Value.oneCell']) (by omega) (by unfold maxLen; omega) (by omega) (by rw [World.size_alloc]; have := HWZ.out; have := HB5.out.size; omega) (w5.heap.size + 1) (by simp) ?_; intro g cap w8 hown8 hgrow8 hat8 hlt8; obtain ⟨hA8, hr8, hg8⟩ := HNX.out _ _ _ _ _ _ HB5.out _ _ (by rw [HK.out]; exact HC5.out) HR5.out HF5.out (by rw [HK.out]; exact hown8) hgrow8 hat8 rfl; rw [HK.out] at hg8; have HA8 := Lib.hid hA8; have HR8 := Lib.hid hr8; have HG8 := Lib.hid hg8; clear hA8 hr8 hg8; clear hown8 hgrow8 hat8 hlt8))
    obtain ⟨⟨b0, b1, b2⟩, _⟩ := HX1.out w8 HA8.out.ext
    by_cases hmx : j < mix.length
    rotate_left
    · have HS := Lib.hid (HSKJ.out (by omega))
      have q3 : ¬ (j : Int) < (mix.length : Int) := by omega
      clear hmx
      go_wp2_with fail
      go_roundw
      case rel => exact ⟨j + 1, _, _, _, _, _, by omega, by omega, by go_num, rfl, by rw [HS.out], by rw [HS.out]; exact HA8.out⟩
      case measure => simp [intOf]; omega
    have q3 : (j : Int) < (mix.length : Int) := by omega
    obtain ⟨bm, om, rfl, hz⟩ := (HR1.out w8 (HX1.out w8 HA8.out.ext).2).2 j hmx
    have hzb := HMX.out j hmx
    have HDJ := Lib.hid (HDOJ.out hmx)
    generalize mix[j] = z at hz hzb HDJ
    have HTI := Lib.hid (fun W (y : Ext w8 W) => rTimes_any P z x5 c5 W (by have := HCJ2.out.2.1; unfold maxLen; omega) (HCJ2.out.sz _ (by omega)) (PRow_below (w' := W) HR8.out y))
    have HXC := Lib.hid (HCJ2.out.timR (n := z) (by omega))
    obtain ⟨⟨X, E⟩, hX⟩ : ∃ r, timP P z = r := ⟨_, rfl⟩
    rw [hX] at HTI HXC HDJ
    unfold PePost at HTI
    simp only at HTI HXC HDJ
    rw [HK.out] at HTI
    have HCr : Hid (∀ W, Ext w8 W → (fun W => W.cell? ⟨g, j, none⟩ = some (.slice x5 K c5) ∧ (W.cell? ⟨w.heap.size, 0, none⟩ = some (.slice (some ⟨b, o, none⟩) L.length k0) ∧ W.cell? ⟨w.heap.size, 1, none⟩ = some (.slice (some ⟨bm, om, none⟩) mix.length k1) ∧ W.cell? ⟨w.heap.size, 2, none⟩ = some (.slice x2 rest.length k2)) ∧ W.cell? ⟨bm, om + j, none⟩ = some (.int .i8 z)) W) := fun W y => ⟨keep_below y _ _ HG8.out, (HX1.out W (HA8.out.ext.trans y)).1, keep_below y _ _ hz⟩
    have hF0 : Ext w8 w8.drew := (Ext.refl w8).drew
    obtain ⟨d0, ⟨b0, b1, b2⟩, d3⟩ := HCr.out w8 (Ext.refl w8)
    have ew2 : IntKind.i64.wrap z = z := IntWalk.i64_in _ (by omega)
    have i3 : (j : Int) < (j : Int) + 1 := by omega
    have i4 : (j : Int) < (((j : Nat) + 1 : Nat) : Int) := by omega
    clear hmx hX hz hzb
    by_cases hE : E = 0
    rotate_left
    · have HS : Hid (allM L mix rest (j + 1) = allM L mix rest j) := by show _ = _; rw [HDJ.out, if_neg hE]
      have q4 : (E == 0) = false := by simp [hE]
      clear hE
      go_upto_region 8 with fail
      go_region_held3 (fun W => W.cell? ⟨g, j, none⟩ = some (.slice x5 K c5) ∧ (W.cell? ⟨w.heap.size, 0, none⟩ = some (.slice (some ⟨b, o, none⟩) L.length k0) ∧ W.cell? ⟨w.heap.size, 1, none⟩ = some (.slice (some ⟨bm, om, none⟩) mix.length k1) ∧ W.cell? ⟨w.heap.size, 2, none⟩ = some (.slice x2 rest.length k2)) ∧ W.cell? ⟨bm, om + j, none⟩ = some (.int .i8 z))
        (first | exact HCr.out _ (by assumption) | go_keep)
        (first | (go_at_call 24; refine (HTI.out _ hF0).mono ?_; rintro e w9 ⟨x7, c7, he, hc, hr, hB⟩; subst he; have hF1 : Ext w8 w9 := hF0.trans hB; clear hc hr hB))
      all_goals (go_wp2_with fail)
      all_goals go_roundw
      case rel => exact ⟨j + 1, _, _, _, _, _, by omega, by omega, by go_num, rfl, by rw [HS.out], by rw [HS.out]; exact HA8.out.grow hF1⟩
      case measure => simp [intOf]; omega
    subst hE
    have q4 : ((0 : Int) == 0) = true := rfl
    have HMU := Lib.hid (fun W (y : Ext w8 W) xx (cx : Nat) (hr : PRow W X xx) => rMul_fr (allM L mix rest j) X ym xx dm cx W (by have := HMJ.out.2.1; unfold maxLen; omega) (by have := HXC.out.2.1; unfold maxLen; omega) (HMJ.out.sz _ (by omega)) (HXC.out.sz _ (by omega)) (PRow_below (w' := W) HA8.out.m y) hr)
    obtain ⟨⟨Y, F⟩, hY⟩ : ∃ r, mulP (allM L mix rest j) X = r := ⟨_, rfl⟩
    rw [if_pos rfl, hY] at HDJ
    rw [hY] at HMU
    unfold PeF at HMU
    simp only at HMU HDJ
    obtain ⟨NM, hNM⟩ : ∃ n, (allM L mix rest j).length = n := ⟨_, rfl⟩
    have HNM := Lib.hid hNM
    rw [hNM] at HMU ⊢
    clear hY hNM
    by_cases hF : F = 0
    rotate_left
    · have HS : Hid (allM L mix rest (j + 1) = allM L mix rest j) := by show _ = _; rw [HDJ.out, if_neg hF]
      have q5 : (F == 0) = false := by simp [hF]
      clear hF
      go_upto_region 8 with fail
      go_region_held3 (fun W => W.cell? ⟨g, j, none⟩ = some (.slice x5 K c5) ∧ (W.cell? ⟨w.heap.size, 0, none⟩ = some (.slice (some ⟨b, o, none⟩) L.length k0) ∧ W.cell? ⟨w.heap.size, 1, none⟩ = some (.slice (some ⟨bm, om, none⟩) mix.length k1) ∧ W.cell? ⟨w.heap.size, 2, none⟩ = some (.slice x2 rest.length k2)) ∧ W.cell? ⟨bm, om + j, none⟩ = some (.int .i8 z))
        (first | exact HCr.out _ (by assumption) | go_keep)
        (first | (go_at_call 24; refine (HTI.out _ hF0).mono ?_; rintro e w9 ⟨x7, c7, he, hc, hr, hB⟩; subst he; have hF1 : Ext w8 w9 := hF0.trans hB; have HF1 := Lib.hid hF1; have HR7 := Lib.hid hr; clear hc hr hB))
      all_goals (go_wp2_with (go_at_call 22; refine (HMU.out _ HF1.out _ _ HR7.out).mono ?_; rintro e w10 ⟨x8, c8, he, hc, hr, hB, hf⟩; subst he; have HF2 : Hid (Ext w8 w10) := Ext.trans HF1.out hB; clear hc hr hB hf))
      all_goals go_roundw
      case rel => exact ⟨j + 1, _, _, _, _, _, by omega, by omega, by go_num, rfl, by rw [HS.out, HNM.out], by rw [HS.out]; exact HA8.out.grow HF2.out⟩
      case measure => simp [intOf]; omega
    · have HS : Hid (allM L mix rest (j + 1) = Y) := by show _ = _; rw [HDJ.out, if_pos hF]
      have q5 : (F == 0) = true := by simp [hF]
      clear hF
      go_upto_region 8 with fail
      go_region_held3 (fun W => W.cell? ⟨g, j, none⟩ = some (.slice x5 K c5) ∧ (W.cell? ⟨w.heap.size, 0, none⟩ = some (.slice (some ⟨b, o, none⟩) L.length k0) ∧ W.cell? ⟨w.heap.size, 1, none⟩ = some (.slice (some ⟨bm, om, none⟩) mix.length k1) ∧ W.cell? ⟨w.heap.size, 2, none⟩ = some (.slice x2 rest.length k2)) ∧ W.cell? ⟨bm, om + j, none⟩ = some (.int .i8 z))
        (first | exact HCr.out _ (by assumption) | go_keep)
        (first | (go_at_call 24; refine (HTI.out _ hF0).mono ?_; rintro e w9 ⟨x7, c7, he, hc, hr, hB⟩; subst he; have hF1 : Ext w8 w9 := hF0.trans hB; have HF1 := Lib.hid hF1; have HR7 := Lib.hid hr; clear hc hr hB))
      all_goals (go_wp2_with (go_at_call 22; refine (HMU.out _ HF1.out _ _ HR7.out).mono ?_; rintro e w10 ⟨x8, c8, he, hc, hr, hB, hf⟩; subst he; have HA10 := Lib.hid ((HA8.out.grow HF1.out).setm hB hc hr hf); clear hc hr hB hf))
      all_goals go_roundw
      case rel => exact ⟨j + 1, _, _, _, _, _, by omega, by omega, by go_num, rfl, by rw [HS.out], by rw [HS.out]; exact HA10.out⟩
      case measure => simp [intOf]; omega
end Go.Proofs.YtcieadjjcpmieaaGreat
