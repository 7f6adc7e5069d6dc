/-
  DRAFTS OF PRODUCTS: as they come in, on plain data, and the walk of the reference's All.
-/
import Derived.Test.YtcieadjjcpmieaaPgrp
import Derived.Test.YtcieadjjcpmieaaPradd
import Derived.Test.YtcieadjjcpmieaaPinv
import Derived.Test.YtcieadjjcpmieaaPvan
import Derived.Lib.SmallJoins
namespace Go.Proofs.Ytcieadjjcpmieaa
open Go.ChangeShapes Go.WideShapes Go.ChangeAt Go.RowKit Go.Deep

/-- Slices of int8 in a row. -/
def I8Rows (w : World) (ls : List (List Int)) (xa : Option Addr) : Prop :=
  ∀ k (h : k < ls.length), ∃ b o ya c, xa = some ⟨b, o, none⟩ ∧ w.cell? ⟨b, o + k, none⟩ = some (.slice ya ls[k].length c) ∧ ls[k].length ≤ maxLen ∧ I8Row w ls[k] ya
theorem I8Rows.ext {w W : World} {ls : List (List Int)} {xa : Option Addr} (h : I8Rows w ls xa) (y : Ext w W) : I8Rows W ls xa := fun k hk => by
  obtain ⟨b, o, ya, c, e, hc, hl, hr⟩ := h k hk
  exact ⟨b, o, ya, c, e, keep_below y _ _ hc, hl, hr.ext y⟩
theorem cellsI8 : Try.prog.cellsOf 43 = 1 := by kernel_rfl
theorem cellsI8s : Try.prog.cellsOf 22 = 1 := by kernel_rfl
section
variable {H : Type} {enc : TypeId × Value → H} {W : World} {base : Nat} {sp : Nat → Bool} {held : Bool}
set_option maxRecDepth 100000 in
theorem open_i8_in {fuel : Nat} {cs : List Value} {x : DataW H × List MemPlace} (h : DataW.trod enc Try.prog W base sp held fuel 22 cs = some x) : ∃ (q : List Int) (xa : Option Addr) (c : Nat), cs = [.slice xa q.length c] ∧ q.length ≤ maxLen ∧ I8Row W q xa := by
  rcases open_ints Try.underlying22 Try.underlying43 cellsI8 h with ⟨e3, _⟩ | ⟨a, len, cap, zs, e3, _, hlc, hcm, hzl, _, hcell, hwf⟩
  · exact ⟨[], none, 0, e3, Nat.zero_le _, fun x hx => by simp at hx, fun i hi => by simp at hi⟩
  · have hlz : len ≤ zs.length := by rw [hzl]; split <;> omega
    have hll : (zs.take len).length = len := by rw [List.length_take]; omega
    refine ⟨zs.take len, some a, cap, by rw [hll]; exact e3, by rw [hll]; omega, fun x hx => bounds_i8 (hwf x (List.mem_of_mem_take hx)), fun i hi => ?_⟩
    rw [hll] at hi
    obtain ⟨ab, ao, spot⟩ := a
    have h0 := hcell 0 (by omega)
    have hspot : spot = none := by simpa [Addr.add] using World.cell?_spot h0
    subst hspot
    have hc := hcell i (by omega)
    rw [Addr.add_lit] at hc
    refine ⟨ab, ao, rfl, ?_⟩
    rw [hc, List.getElem_take]
    simp [List.getD_eq_getElem?_getD, List.getElem?_eq_getElem (show i < zs.length by omega)]
set_option maxRecDepth 100000 in
theorem open_i8 {v : Value} {d : DataW H} {ps : List MemPlace} {r : Reach} {b0 : Nat} (hv : Value.okWide Try.prog W r b0 22 v) (h : DataW.Trod enc Try.prog W base sp held 22 v d ps) : ∃ (q : List Int) (xa : Option Addr) (c : Nat), v = .slice xa q.length c ∧ q.length ≤ maxLen ∧ I8Row W q xa := by
  obtain ⟨a0, l0, c0, rfl⟩ := okWide_slice Try.underlying22 hv
  obtain ⟨fuel, hf⟩ := h
  have hcs : (Value.slice a0 l0 c0).cells.toList = [.slice a0 l0 c0] := rfl
  rw [hcs] at hf
  obtain ⟨q, xa, c, e, h1, h2⟩ := open_i8_in hf
  simp only [List.cons.injEq, and_true] at e
  exact ⟨q, xa, c, e, h1, h2⟩
set_option maxRecDepth 100000 in
theorem open_char {v : Value} {d : DataW H} {ps : List MemPlace} {r : Reach} {b0 : Nat} (hv : Value.okWide Try.prog W r b0 50 v) (h : DataW.Trod enc Try.prog W base sp held 50 v d ps) :
    ∃ (md : Int) (vs : List Pw) (xv : Option Addr) (cv : Nat), v = .agg #[.int .i64 md, .slice xv vs.length cv] ∧ i64ok md ∧ vs.length ≤ cv ∧ cv ≤ maxLen ∧ PRow W vs xv ∧ ∃ d0 d1, d = .agg [d0, d1] ∧ (vs = [] ∨ ∃ elems spare, d1 = .slice elems spare ∧ elems.length = vs.length) := by
  obtain ⟨c0, c1, y0, y1, n, rfl, rfl, _, h0, h1⟩ := Go.Joins.open_agg2 Try.underlying50 (by kernel_rfl) (by kernel_rfl) hv h
  obtain ⟨md, e, _, wf⟩ := DataW.trod_int Try.underlying3 h0
  obtain ⟨vs, xv, cv, e1, h2, h3, h4, h5⟩ := open_powers_upto _ _ _ h1
  simp only [List.cons.injEq, and_true] at e e1
  subst e e1
  exact ⟨md, vs, xv, cv, rfl, bounds_i64 wf, h2, h3, h4, _, _, rfl, h5⟩
end
set_option maxRecDepth 100000 in
/-- The bulk that the form bears, of a character's values. -/
theorem char_bytes {H : Type} {ts : List TypeId} {ds : List (DataW H)} (h : (DataW.weightsEach Try.prog ts ds).all (· ≤ reachBytes) = true) {j : Nat} {d0 d1 : DataW H} {ps : List Pw} (ht : ts[j]? = some 50) (hd : ds[j]? = some (.agg [d0, d1])) (hb : ps = [] ∨ ∃ elems spare, d1 = .slice elems spare ∧ elems.length = ps.length) : ps.length * 64 ≤ 140737488355328 := by
  rcases hb with rfl | ⟨elems, spare, rfl, he⟩
  · simp
  · have := List.all_eq_true.1 h _ (DataW.weights_mem_each ht hd ((elems.length + spare.length) * Try.prog.bytesOf 54) (by simp [DataW.weights, DataW.weightsEach, Try.underlying50, Try.underlying24]))
    rw [bytesPower, decide_eq_true_iff] at this
    have h2 := reachBytes_lt
    have h3 : elems.length * 64 ≤ (elems.length + spare.length) * 64 := Nat.mul_le_mul_right _ (Nat.le_add_right _ _)
    omega
/-- The generators and the product of a draft. -/
def allStep (L : List (List Int)) (mix : List Int) (m : List Pw) (i : Nat) : List Pw :=
  if i < mix.length then (if (timP (madeP (L.getD i [])) (mix.getD i 0)).2 = 0 then (if (mulP m (timP (madeP (L.getD i [])) (mix.getD i 0)).1).2 = 0 then (mulP m (timP (madeP (L.getD i [])) (mix.getD i 0)).1).1 else m) else m) else m
def allM (L : List (List Int)) (mix rest : List Int) : Nat → List Pw
  | 0 => madeP rest
  | j + 1 => allStep L mix (allM L mix rest j) j
theorem near_of {ps : List Pw} (h : tooG ps = false) : ∀ p ∈ ps, p.2.natAbs ≤ 1000 := fun p hp => by
  have h1 : farP p.2 = false := by
    cases hf : farP p.2 with
    | false => rfl
    | true => rw [show tooG ps = true from List.any_eq_true.2 ⟨p, hp, hf⟩] at h; cases h
  unfold farP at h1
  rw [Bool.or_eq_false_iff, decide_eq_false_iff_not, decide_eq_false_iff_not] at h1
  omega
theorem Cp_nil (K n : Nat) : Cp K n [] := ⟨normP_nil, Nat.zero_le _, fun p hp => by simp at hp, fun p hp => by simp at hp⟩
theorem Cp.timR {a : List Pw} {n : Int} (h : Cp 128 6 a) (hn : n.natAbs ≤ 128) : Cp 1000 6 (timP a n).1 := by
  unfold timP
  split
  · split
    · exact Cp_nil _ _
    · split
      · exact Cp_nil _ _
      · rename_i h0
        split
        · exact Cp_nil _ _
        · rename_i ht
          have hc : n.natAbs * 128 ≤ 1000000 := Nat.le_trans (Nat.mul_le_mul_right _ hn) (by decide)
          have hs := (h.scal hc h0).1
          exact ⟨hs.1, hs.2.1, near_of (by simpa using ht), hs.2.2.2⟩
  · exact Cp_nil _ _
theorem rangeE_zero {ps : List Pw} (h : rangeE ps = 0) : tooG ps = false ∧ ps.length ≤ 200 := by
  unfold rangeE at h
  split at h
  · exact absurd h (by decide)
  · rename_i h1
    split at h
    · exact absurd h (by decide)
    · exact ⟨by simpa using h1, by omega⟩
theorem Cp.mulR {a b : List Pw} (ha : Cp 1000 200 a) (hb : Cp 1000 6 b) : Cp 1000 200 (mulP a b).1 := by
  unfold mulP
  split
  · split
    · split
      · rename_i h
        obtain ⟨h1, h2⟩ := rangeE_zero h
        have hs := (ha.add hb).1
        exact ⟨hs.1, h2, near_of h1, hs.2.2.2⟩
      · exact Cp_nil _ _
    · exact Cp_nil _ _
  · exact Cp_nil _ _
theorem i8_getD {q : List Int} (hq : ∀ x ∈ q, -128 ≤ x ∧ x ≤ 127) (i : Nat) : (q.getD i 0).natAbs ≤ 128 := by
  rw [List.getD_eq_getElem?_getD]
  by_cases hj : i < q.length
  · have := hq _ (List.getElem_mem hj)
    rw [List.getElem?_eq_getElem hj]
    show (q[i]'hj).natAbs ≤ 128
    omega
  · rw [List.getElem?_eq_none (by omega)]; decide
theorem made_getD {L : List (List Int)} (hL : ∀ q ∈ L, ∀ x ∈ q, -128 ≤ x ∧ x ≤ 127) (i : Nat) : Cp 128 6 (madeP (L.getD i [])) := by
  refine madeP_cp fun x hx => ?_
  rw [List.getD_eq_getElem?_getD] at hx
  by_cases hj : i < L.length
  · rw [List.getElem?_eq_getElem hj] at hx
    exact hL _ (List.getElem_mem hj) x hx
  · rw [List.getElem?_eq_none (by omega)] at hx; simp at hx
theorem allM_cp {L : List (List Int)} {mix rest : List Int} (hL : ∀ q ∈ L, ∀ x ∈ q, -128 ≤ x ∧ x ≤ 127) (hm : ∀ x ∈ mix, -128 ≤ x ∧ x ≤ 127) (hr : ∀ x ∈ rest, -128 ≤ x ∧ x ≤ 127) : ∀ j, Cp 1000 200 (allM L mix rest j)
  | 0 => (madeP_cp hr).mono (by decide) (by decide)
  | j + 1 => by
    have ih := allM_cp hL hm hr j
    rw [allM, allStep]
    split
    · split
      · split
        · exact ih.mulR ((made_getD hL j).timR (i8_getD hm j))
        · exact ih
      · exact ih
    · exact ih
def allL (L : List (List Int)) : List (List Pw) := (L.take 8).map madeP
theorem PRow_atoms {w W : World} {ps : List Pw} {xa : Option Addr} (ha : ∀ p ∈ ps, ∃ i, i < 6 ∧ p.1 = atomN i) (h : PRow w ps xa) (hb : 0 < ps.length → ∀ b o s, xa = some ⟨b, o, s⟩ → W.heap[b]? = w.heap[b]?) : PRow W ps xa := by
  rcases h with rfl | ⟨b, o, rfl, h⟩
  · exact Or.inl rfl
  refine Or.inr ⟨b, o, rfl, fun k hk => ?_⟩
  have hW := hb (by omega) b o none rfl
  obtain ⟨⟨c0, c1, c2, c3, g0, g1, g2, g3, hI⟩, h4, h5⟩ := h k hk
  have hc : ∀ q v, w.cell? ⟨b, q, none⟩ = some v → W.cell? ⟨b, q, none⟩ = some v := fun q v hv => by rw [World.cell?_of_block (w := w) (a := ⟨b, q, none⟩) hW]; exact hv
  obtain ⟨i, _, e⟩ := ha _ (List.getElem_mem hk)
  rw [e] at hI ⊢
  refine ⟨⟨c0, c1, c2, c3, hc _ _ g0, hc _ _ g1, hc _ _ g2, hc _ _ g3, ?_⟩, hc _ _ h4, h5⟩
  unfold atomN at hI ⊢
  simp only [Is, Row] at hI ⊢
  exact hI
/-- A row that isn't the block of a slice. -/
def Off (v : Value) (ps : List Pw) (xa : Option Addr) : Prop := 0 < ps.length → ∀ b o s, xa = some ⟨b, o, s⟩ → v.ownBlock ≠ some b
theorem PRow_lt {w : World} {ps : List Pw} {xa : Option Addr} (h : PRow w ps xa) (hp : 0 < ps.length) {b o : Nat} {s : Option Nat} (e : xa = some ⟨b, o, s⟩) : b < w.heap.size := by
  obtain ⟨b', o', rfl⟩ := PRow_at h hp
  simp only [Option.some.injEq, Addr.mk.injEq] at e
  rw [← e.1]
  exact World.block_lt_of_cell? w _ (PRow_get h 0 hp).2.1
theorem keep_row {w5 w8 : World} {v v' : Value} {g q : Nat} {ob : Obj} (hgr : (w5.alloc ob).grownBy w8 v.ownBlock) (hat : v.ownBlock = some g ∨ g = q) (hq : q = w5.heap.size + 1) {ps : List Pw} (ha : ∀ p ∈ ps, ∃ i, i < 6 ∧ p.1 = atomN i) {xa : Option Addr} (h : PRow w5 ps xa) (ho : Off v ps xa) (hv : v'.ownBlock = some g) : PRow w8 ps xa ∧ Off v' ps xa := by
  refine ⟨PRow_atoms ha h fun hp b o s e => ?_, fun hp b o s e hx => ?_⟩
  · have hb := PRow_lt h hp e
    rw [hgr.block b (by rw [World.size_alloc]; omega) (fun x => ho hp b o s e x.symm), Below.heap_alloc _ _ _ hb]
  · have hb := PRow_lt h hp e
    rw [hv, Option.some.injEq] at hx
    rcases hat with h1 | h1
    · exact ho hp b o s e (by rw [h1, hx])
    · omega
/-- What All has made so far. -/
structure AL (w : World) (L : List (List Int)) (j : Nat) (xl : Option Addr) (lc : Nat) (ys : List Value) (M : List Pw) (xm : Option Addr) (cm : Nat) (wr : World) : Prop where
  ext : Ext w wr
  own : wr.ownsRow w.heap.size 24 1 (.slice xl j lc) j ys
  at_ : ∀ k (_ : k < j) (hL : k < L.length), ∃ ya c, ys[k]? = some (.slice ya (madeP L[k]).length c) ∧ (madeP L[k]).length ≤ c ∧ PRow wr (madeP L[k]) ya ∧ Off (.slice xl j lc) (madeP L[k]) ya
  m : PRow wr M xm
  mo : Off (.slice xl j lc) M xm
  mc : M.length ≤ cm
theorem AL.grow {w wr W : World} {L : List (List Int)} {j : Nat} {xl : Option Addr} {lc : Nat} {ys : List Value} {M : List Pw} {xm : Option Addr} {cm : Nat} (h : AL w L j xl lc ys M xm cm wr) (y : Ext wr W) : AL w L j xl lc ys M xm cm W :=
  ⟨h.ext.trans y, own_heap h.own (fun g hg => y.block g (h.own.lt g hg).2), fun k hk hL => by
    obtain ⟨ya, c, h1, h2, h3, h4⟩ := h.at_ k hk hL
    exact ⟨ya, c, h1, h2, PRow_below h3 y, h4⟩, PRow_below h.m y, h.mo, h.mc⟩
theorem AL.setm {w wr : World} {L : List (List Int)} {j : Nat} {xl : Option Addr} {lc : Nat} {ys : List Value} {M : List Pw} {xm : Option Addr} {cm : Nat} (h : AL w L j xl lc ys M xm cm wr) {W : World} (y : Ext wr W) {M2 : List Pw} {x2 : Option Addr} {c2 : Nat} (hc : M2.length ≤ c2) (hr : PRow W M2 x2) (hf : Fsh wr.heap.size x2) : AL w L j xl lc ys M2 x2 c2 W := by
  have h1 := h.grow y
  exact ⟨h1.ext, h1.own, h1.at_, hr, fun _ b o s e hx => by
    have := hf b o s e
    have := (h.own.lt b hx).2
    omega, hc⟩
theorem AL.next {w wr w5 w8 : World} {L : List (List Int)} {j : Nat} {xl : Option Addr} {lc : Nat} {ys : List Value} {M : List Pw} {xm : Option Addr} {cm g q cap : Nat} {ob : Obj} (h : AL w L j xl lc ys M xm cm wr) (hM : ∀ p ∈ M, ∃ i, i < 6 ∧ p.1 = atomN i) (hLr : ∀ q ∈ L, ∀ x ∈ q, -128 ≤ x ∧ x ≤ 127) (hj : j < L.length) (hB : Ext wr w5) {x5 : Option Addr} {c5 : Nat} (hc : (madeP L[j]).length ≤ c5) (hr : PRow w5 (madeP L[j]) x5) (hf : Fsh wr.heap.size x5)
    (hown : w8.ownsRow w.heap.size 24 1 (.slice (some ⟨g, 0, none⟩) (j + 1) cap) (j + 1) (ys ++ [.slice x5 (madeP L[j]).length c5])) (hgr : (w5.alloc ob).grownBy w8 (Value.slice xl j lc).ownBlock) (hat : (Value.slice xl j lc).ownBlock = some g ∨ g = q) (hq : q = w5.heap.size + 1) :
    AL w L (j + 1) (some ⟨g, 0, none⟩) cap (ys ++ [.slice x5 (madeP L[j]).length c5]) M xm cm w8 := by
  have hv : (Value.slice (some ⟨g, 0, none⟩) (j + 1) cap).ownBlock = some g := rfl
  have hyl : ys.length = j := by have := h.own.1; omega
  have h5 := h.grow hB
  have hk := fun (ps : List Pw) (xa : Option Addr) ha (hr : PRow w5 ps xa) ho => keep_row (ps := ps) (xa := xa) hgr hat hq ha hr ho hv
  have hcp : ∀ k (hk : k < L.length), ∀ p ∈ madeP L[k], ∃ i, i < 6 ∧ p.1 = atomN i := fun k hk => (madeP_cp (hLr _ (List.getElem_mem hk))).2.2.2
  refine ⟨?_, hown, fun k hkj hL => ?_, (hk _ _ hM h5.m h5.mo).1, (hk _ _ hM h5.m h5.mo).2, h.mc⟩
  · exact (h5.ext.alloc ob).grown hgr (by rw [World.size_alloc]; have := h5.ext.size; omega) (fun b hb => (h.own.lt b hb).1)
  · by_cases hlt : k < j
    · obtain ⟨ya, c, e1, e2, e3, e4⟩ := h5.at_ k hlt hL
      exact ⟨ya, c, by rw [List.getElem?_append_left (by omega)]; exact e1, e2, hk _ _ (hcp k hL) e3 e4⟩
    · obtain rfl : k = j := by omega
      refine ⟨x5, c5, by rw [List.getElem?_append_right (by omega), hyl]; simp, hc, hk _ _ (hcp k hL) hr fun _ b o s e hx => ?_⟩
      have := hf b o s e
      have := (h.own.lt b hx).2
      omega
theorem AL.next2 {w wr w5 w8 : World} {L : List (List Int)} {j : Nat} {xl : Option Addr} {lc : Nat} {ys : List Value} {M : List Pw} {xm : Option Addr} {cm g q cap : Nat} {ob : Obj} (h : AL w L j xl lc ys M xm cm wr) (hM : ∀ p ∈ M, ∃ i, i < 6 ∧ p.1 = atomN i) (hLr : ∀ q ∈ L, ∀ x ∈ q, -128 ≤ x ∧ x ≤ 127) (hj : j < L.length) (hB : Ext wr w5) {x5 : Option Addr} {c5 : Nat} (hc : (madeP L[j]).length ≤ c5) (hr : PRow w5 (madeP L[j]) x5) (hf : Fsh wr.heap.size x5)
    (hown : w8.ownsRow w.heap.size 24 1 (.slice (some ⟨g, 0, none⟩) (j + 1) cap) (j + 1) (ys ++ [.slice x5 (madeP L[j]).length c5])) (hgr : (w5.alloc ob).grownBy w8 (Value.slice xl j lc).ownBlock) (hat : (Value.slice xl j lc).ownBlock = some g ∨ g = q) (hq : q = w5.heap.size + 1) :
    AL w L (j + 1) (some ⟨g, 0, none⟩) cap (ys ++ [.slice x5 (madeP L[j]).length c5]) M xm cm w8 ∧ PRow w8 (madeP L[j]) x5 ∧ w8.cell? ⟨g, j, none⟩ = some (.slice x5 (madeP L[j]).length c5) := by
  have hn := h.next hM hLr hj hB hc hr hf hown hgr hat hq
  have hyl : ys.length = j := by have := h.own.1; omega
  have e0 : (ys ++ [.slice x5 (madeP L[j]).length c5])[j]? = some (.slice x5 (madeP L[j]).length c5) := by
    rw [List.getElem?_append_right (by omega), hyl]; simp
  have hcl := hn.own.cells rfl j _ e0
  rw [Addr.add_lit, Nat.zero_add] at hcl
  obtain ⟨ya, c, e1, _, e3, _⟩ := hn.at_ j (by omega) hj
  rw [e0] at e1
  simp only [Option.some.injEq, Value.slice.injEq] at e1
  obtain ⟨rfl, _, _⟩ := e1
  exact ⟨hn, e3, hcl⟩
theorem allL_len (L : List (List Int)) : (allL L).length = min 8 L.length := by unfold allL; simp
theorem AL.done {w wr : World} {L : List (List Int)} {j : Nat} {xl : Option Addr} {lc : Nat} {ys : List Value} {M : List Pw} {xm : Option Addr} {cm : Nat} (h : AL w L j xl lc ys M xm cm wr) (hj : j = (allL L).length) : PsRow wr (allL L) xl ∧ j ≤ lc := by
  have hl := allL_len L
  rcases id h.own.2 with ⟨e, e0⟩ | ⟨g, cap', _, e, _, _, hcap, _⟩
  · simp only [Value.slice.injEq] at e
    exact ⟨Or.inl (List.length_eq_zero_iff.1 (by omega)), by omega⟩
  · simp only [Value.slice.injEq, true_and] at e
    obtain ⟨rfl, rfl⟩ := e
    refine ⟨Or.inr ⟨g, 0, rfl, fun k hk => ?_⟩, hcap⟩
    obtain ⟨ya, c, e1, e2, e3, _⟩ := h.at_ k (by omega) (by omega)
    have hg : (allL L)[k] = madeP (L[k]'(by omega)) := by unfold allL; simp
    have hc := h.own.cells rfl k _ e1
    rw [Addr.add_lit, Nat.zero_add] at hc
    rw [hg, Nat.zero_add]
    exact ⟨ya, c, hc, e2, e3⟩
theorem infoPs : (Try.prog.info? 24).map (fun i => (i.zero, i.size, i.bytes)) = some (some (.slice none 0 0), 1, 24) := by kernel_rfl
def AllPost (w : World) (L : List (List Int)) (mix rest : List Int) (e : Ending) (w' : World) : Prop :=
  ∃ xl c xm cm, e = .returned (.tuple #[.slice xl (allL L).length c, .slice xm (allM L mix rest (allL L).length).length cm]) ∧ (allL L).length ≤ c ∧ PsRow w' (allL L) xl ∧ (allM L mix rest (allL L).length).length ≤ cm ∧ PRow w' (allM L mix rest (allL L).length) xm ∧ Below w.heap.size w w'
theorem AL.post {w0 w wr : World} {L : List (List Int)} {mix rest : List Int} {j : Nat} {xl : Option Addr} {lc : Nat} {ys : List Value} {xm : Option Addr} {cm : Nat} (h : AL w L j xl lc ys (allM L mix rest j) xm cm wr) (h8 : j ≤ 8) (hl : j ≤ L.length) (he : j = 8 ∨ j = L.length) (hx : Below w0.heap.size w0 wr) {e : Ending} (hE : e = .returned (.tuple #[.slice xl j lc, .slice xm (allM L mix rest j).length cm])) : AllPost w0 L mix rest e wr := by
  have hj : j = (allL L).length := by rw [allL_len]; omega
  obtain ⟨h1, h2⟩ := h.done hj
  refine ⟨xl, lc, xm, cm, ?_, by omega, h1, by rw [← hj]; exact h.mc, by rw [← hj]; exact h.m, hx⟩
  rw [hE, ← hj]
theorem cells3 {w : World} {b : Nat} {c0 c1 c2 : Value} {T : TypeId} (h : w.heap[b]? = some (.cells #[c0, c1, c2] T (0, 0))) : w.cell? ⟨b, 0, none⟩ = some c0 ∧ w.cell? ⟨b, 1, none⟩ = some c1 ∧ w.cell? ⟨b, 2, none⟩ = some c2 := by
  unfold World.cell?
  simp only [h]
  exact ⟨rfl, rfl, rfl⟩
end Go.Proofs.Ytcieadjjcpmieaa
