/-
  AN ELIMINATION's BOX, and its rows as they are filled (plain part of fill).
-/
import Derived.Test.YtcieadjjcpmieaaGreatPfind
import Derived.Test.YtcieadjjcpmieaaGreatProw
namespace Go.Proofs.YtcieadjjcpmieaaGreat
open Go.RowKit

/-- The six cells of an elimination. -/
structure EBox (w : World) (eb : Nat) (c0 c1 c2 c3 c4 c5 : Value) : Prop where
  a0 : w.cell? ⟨eb, 0, none⟩ = some c0
  a1 : w.cell? ⟨eb, 1, none⟩ = some c1
  a2 : w.cell? ⟨eb, 2, none⟩ = some c2
  a3 : w.cell? ⟨eb, 3, none⟩ = some c3
  a4 : w.cell? ⟨eb, 4, none⟩ = some c4
  a5 : w.cell? ⟨eb, 5, none⟩ = some c5
  fz : ∀ p, w.frozen? ⟨eb, p, none⟩ = false
  lt : eb < w.heap.size
theorem EBox.keep {w W : World} {eb : Nat} {c0 c1 c2 c3 c4 c5 : Value} (h : EBox w eb c0 c1 c2 c3 c4 c5) (hs : w.heap.size ≤ W.heap.size) (hb : W.heap[eb]? = w.heap[eb]?) : EBox W eb c0 c1 c2 c3 c4 c5 := by
  have hc : ∀ p v, w.cell? ⟨eb, p, none⟩ = some v → W.cell? ⟨eb, p, none⟩ = some v := fun p v hv => by rw [World.cell?_of_block (w := w) (a := ⟨eb, p, none⟩) hb]; exact hv
  exact ⟨hc _ _ h.a0, hc _ _ h.a1, hc _ _ h.a2, hc _ _ h.a3, hc _ _ h.a4, hc _ _ h.a5, fun p => frozen_kept hb (h.fz p), Nat.lt_of_lt_of_le h.lt hs⟩
theorem EBox.ext {w W : World} {eb : Nat} {c0 c1 c2 c3 c4 c5 : Value} (h : EBox w eb c0 c1 c2 c3 c4 c5) (y : Ext w W) : EBox W eb c0 c1 c2 c3 c4 c5 := h.keep y.size (y.block _ h.lt)
theorem ebo {w : World} {eb p q : Nat} {v u : Value} (h : w.cell? ⟨eb, p, none⟩ = some v) (hne : q ≠ p) : (w.setCell ⟨eb, q, none⟩ u).cell? ⟨eb, p, none⟩ = some v := by
  rw [setOtherE (fun e => hne (by simp only [Addr.mk.injEq] at e; omega))]; exact h
theorem ebf {w : World} {eb q : Nat} {u : Value} (h : ∀ p, w.frozen? ⟨eb, p, none⟩ = false) : ∀ p, (w.setCell ⟨eb, q, none⟩ u).frozen? ⟨eb, p, none⟩ = false := fun p => by rw [World.frozen?_setCell]; exact h p
theorem EBox.s1 {w : World} {eb : Nat} {c0 c1 c2 c3 c4 c5 v : Value} (h : EBox w eb c0 c1 c2 c3 c4 c5) : EBox (w.setCell ⟨eb, 1, none⟩ v) eb c0 v c2 c3 c4 c5 :=
  ⟨ebo h.a0 (by omega), setSameE h.a1, ebo h.a2 (by omega), ebo h.a3 (by omega), ebo h.a4 (by omega), ebo h.a5 (by omega), ebf h.fz, by rw [World.size_setCell]; exact h.lt⟩
theorem EBox.s2 {w : World} {eb : Nat} {c0 c1 c2 c3 c4 c5 v : Value} (h : EBox w eb c0 c1 c2 c3 c4 c5) : EBox (w.setCell ⟨eb, 2, none⟩ v) eb c0 c1 v c3 c4 c5 :=
  ⟨ebo h.a0 (by omega), ebo h.a1 (by omega), setSameE h.a2, ebo h.a3 (by omega), ebo h.a4 (by omega), ebo h.a5 (by omega), ebf h.fz, by rw [World.size_setCell]; exact h.lt⟩
theorem EBox.s3 {w : World} {eb : Nat} {c0 c1 c2 c3 c4 c5 v : Value} (h : EBox w eb c0 c1 c2 c3 c4 c5) : EBox (w.setCell ⟨eb, 3, none⟩ v) eb c0 c1 c2 v c4 c5 :=
  ⟨ebo h.a0 (by omega), ebo h.a1 (by omega), ebo h.a2 (by omega), setSameE h.a3, ebo h.a4 (by omega), ebo h.a5 (by omega), ebf h.fz, by rw [World.size_setCell]; exact h.lt⟩
theorem EBox.s4 {w : World} {eb : Nat} {c0 c1 c2 c3 c4 c5 v : Value} (h : EBox w eb c0 c1 c2 c3 c4 c5) : EBox (w.setCell ⟨eb, 4, none⟩ v) eb c0 c1 c2 c3 v c5 :=
  ⟨ebo h.a0 (by omega), ebo h.a1 (by omega), ebo h.a2 (by omega), ebo h.a3 (by omega), setSameE h.a4, ebo h.a5 (by omega), ebf h.fz, by rw [World.size_setCell]; exact h.lt⟩
theorem EBox.s5 {w : World} {eb : Nat} {c0 c1 c2 c3 c4 c5 v : Value} (h : EBox w eb c0 c1 c2 c3 c4 c5) : EBox (w.setCell ⟨eb, 5, none⟩ v) eb c0 c1 c2 c3 c4 v :=
  ⟨ebo h.a0 (by omega), ebo h.a1 (by omega), ebo h.a2 (by omega), ebo h.a3 (by omega), ebo h.a4 (by omega), setSameE h.a5, ebf h.fz, by rw [World.size_setCell]; exact h.lt⟩

/-- The row of a generator as it is at first. -/
def rowG (cols : List Pw) (L i : Nat) (ps : List Pw) : List Int := (rowJ cols ps L cols.length).set (cols.length + i) 1
def matF (cols : List Pw) (L : Nat) (ls : List (List Pw)) : Nat → List Int := fun i => rowG cols L i (ls.getD i [])
theorem rowG_len {cols ps : List Pw} {L i : Nat} (h : cols.length ≤ L) : (rowG cols L i ps).length = L := by unfold rowG; rw [List.length_set, rowJ_len (Nat.le_refl _) h]
theorem matF_at {cols : List Pw} {L : Nat} {ls : List (List Pw)} {i : Nat} (h : i < ls.length) : matF cols L ls i = rowG cols L i ls[i] := by
  unfold matF; rw [List.getD_eq_getElem?_getD, List.getElem?_eq_getElem h]; rfl
theorem rowJ_inb {cols ps : List Pw} {L j : Nat} (h : ∀ p ∈ ps, p.2.natAbs ≤ 1000) : InB (rowJ cols ps L j) := by
  intro x hx
  unfold rowJ at hx
  rcases List.mem_append.1 hx with hx | hx
  · obtain ⟨p, _, rfl⟩ := List.mem_map.1 hx
    have := powF_bound h p.1
    omega
  · rw [List.eq_of_mem_replicate hx]; omega
theorem rowG_inb {cols ps : List Pw} {L i : Nat} (h : ∀ p ∈ ps, p.2.natAbs ≤ 1000) : InB (rowG cols L i ps) := by
  intro x hx
  unfold rowG at hx
  rcases List.mem_or_eq_of_mem_set hx with hx | rfl
  · exact rowJ_inb h x hx
  · omega
def slV (L b : Nat) : Value := .slice (some ⟨b, 0, none⟩) L L
/-- The rows of the first generators. -/
structure FL (w0 : World) (eb L : Nat) (cols : List Pw) (ls : List (List Pw)) (c0 : Value) (j : Nat) (v : Value) (rs : List Nat) (wr : World) : Prop where
  ext : Ext w0 wr
  len : rs.length = j
  box : EBox wr eb c0 v (.slice none 0 0) (.slice none 0 0) (.slice none 0 0) (.int .i64 0)
  own : wr.ownsRow (eb + 1) 49 1 v j (rs.map (slV L))
  row : ∀ i (h : i < rs.length), IRow wr rs[i] (matF cols L ls i) ∧ eb < rs[i]
  nd : rs.Nodup
  nv : ∀ b ∈ rs, v.ownBlock ≠ some b
theorem FL.next {w0 wr w5 w8 : World} {eb L j n g g2 cap q : Nat} {cols : List Pw} {ls : List (List Pw)} {c0 v : Value} {rs : List Nat} {ob : Obj} (h : FL w0 eb L cols ls c0 j v rs wr) (he : w0.heap.size ≤ eb) (hj : j < ls.length) (hn : cols.length = n) (hnL : n + j < L)
    (hg : wr.heap.size ≤ g) (hI : IRow w5 g (rowJ cols ls[j] L cols.length)) (hB : Ext wr w5)
    (hown : w8.ownsRow (eb + 1) 49 1 (.slice (some ⟨g2, 0, none⟩) (j + 1) cap) (j + 1) (rs.map (slV L) ++ [.slice (some ⟨g, 0, none⟩) L L]))
    (hgr : ((w5.setCell ⟨g, n + j, none⟩ (.int .i64 1)).alloc ob).grownBy w8 v.ownBlock) (hat : v.ownBlock = some g2 ∨ g2 = q) (hq : q = w5.heap.size + 1) :
    FL w0 eb L cols ls c0 (j + 1) (.slice (some ⟨g2, 0, none⟩) (j + 1) cap) (rs ++ [g]) (w8.setCell ⟨eb, 1, none⟩ (.slice (some ⟨g2, 0, none⟩) (j + 1) cap)) := by
  have hs5 := hB.size
  have hgs := hgr.size
  rw [World.size_alloc, World.size_setCell] at hgs
  have hel := h.box.lt
  have hvl := fun b hb => h.own.lt b hb
  have hk : ∀ b, b < w5.heap.size → b ≠ g → v.ownBlock ≠ some b → w8.heap[b]? = w5.heap[b]? := fun b hb h1 h2 => by
    rw [hgr.block b (by rw [World.size_alloc, World.size_setCell]; omega) (fun e => h2 e.symm), Below.heap_alloc _ _ _ (by rw [World.size_setCell]; exact hb), Below.heap_setCell _ _ _ _ (by simp only [ne_eq]; exact h1)]
  have hes : ∀ b, b ≠ eb → (w8.setCell ⟨eb, 1, none⟩ (.slice (some ⟨g2, 0, none⟩) (j + 1) cap)).heap[b]? = w8.heap[b]? := fun b hb => Below.heap_setCell _ _ _ _ (by simp only [ne_eq]; exact hb)
  have hev : v.ownBlock ≠ some eb := fun e => by have := (hvl _ e).1; omega
  have hsz8 : (w8.setCell ⟨eb, 1, none⟩ (.slice (some ⟨g2, 0, none⟩) (j + 1) cap)).heap.size = w8.heap.size := World.size_setCell _ _ _
  have hg2 : eb < g2 := (hown.lt g2 rfl).1
  have hgv : v.ownBlock ≠ some g := fun e => by have := (hvl _ e).2; omega
  have hgg : g < w5.heap.size := hI.1
  refine ⟨⟨?_, ?_, ?_, ?_, ?_⟩, by rw [List.length_append, h.len]; rfl, ?_, ?_, ?_, ?_, ?_⟩
  · exact hgr.os.trans (hB.os.trans h.ext.os)
  · exact hgr.tape.trans (hB.tape.trans h.ext.tape)
  · exact hgr.output.trans (hB.output.trans h.ext.output)
  · rw [hsz8]; have := h.ext.size; omega
  · intro b hb
    have h1 := h.ext.size
    rw [hes b (by omega), hk b (by omega) (by omega) (fun e => by have := (hvl b e).1; omega), hB.block b (by omega), h.ext.block b hb]
  · exact EBox.s1 ((h.box.ext hB).keep (W := w8) (by omega) (hk eb (by omega) (by omega) hev))
  · rw [List.map_append]
    exact own_heap hown (fun b hb => hes b (by simp only [Value.ownBlock, Option.some.injEq] at hb; omega))
  · intro i hi
    rw [List.length_append, List.length_singleton] at hi
    by_cases hij : i < rs.length
    · rw [List.getElem_append_left hij]
      obtain ⟨h1, h2⟩ := h.row i hij
      have hlt := h1.1
      refine ⟨h1.carry (by rw [hsz8]; omega) ?_, h2⟩
      rw [hes _ (by omega), hk _ (by omega) (by omega) (h.nv _ (List.getElem_mem hij)), hB.block _ hlt]
    · obtain rfl : i = rs.length := by omega
      rw [List.getElem_append_right (Nat.le_refl _)]
      simp only [Nat.sub_self, List.getElem_cons_zero]
      refine ⟨?_, by omega⟩
      have hI2 : IRow (w5.setCell ⟨g, n + j, none⟩ (.int .i64 1)) g (rowG cols L j ls[j]) := by
        unfold rowG
        rw [hn]
        have := hI.set (j := n + j) (x := 1) (by rw [rowJ_len (Nat.le_refl _) (by omega)]; exact hnL)
        rw [hn] at this; exact this
      rw [h.len, matF_at hj]
      refine hI2.carry (by rw [hsz8, World.size_setCell]; omega) ?_
      rw [hes _ (by omega), hgr.block g (by rw [World.size_alloc, World.size_setCell]; omega) (fun e => hgv e.symm), Below.heap_alloc _ _ _ (by rw [World.size_setCell]; exact hgg)]
  · refine List.nodup_append.2 ⟨h.nd, by simp, fun a ha b hb e => ?_⟩
    simp only [List.mem_singleton] at hb
    subst hb
    subst e
    obtain ⟨i, hi, e⟩ := List.getElem_of_mem ha
    have := (h.row i hi).1.1
    omega
  · intro b hb e
    simp only [Value.ownBlock, Option.some.injEq] at e
    subst e
    rcases List.mem_append.1 hb with hb | hb
    · rcases hat with h1 | h1
      · exact h.nv _ hb h1
      · obtain ⟨i, hi, e⟩ := List.getElem_of_mem hb
        have := (h.row i hi).1.1
        omega
    · simp only [List.mem_singleton] at hb
      subst hb
      rcases hat with h1 | h1
      · exact hgv h1
      · omega
end Go.Proofs.YtcieadjjcpmieaaGreat

/-
  THE WALK OF exponent's fill.
-/
namespace Go.Proofs.YtcieadjjcpmieaaGreat
open Go.RowKit

theorem info_bool : (Tryz.prog.info? 4).map (fun i => (i.zero, i.size, i.bytes)) = some (some (.bool false), 1, 1) := by kernel_rfl
/-- What fill leaves. -/
def FillPost (w0 : World) (eb : Nat) (cols : List Pw) (ls : List (List Pw)) (m : List Pw) (c0 : Value) (e : Ending) (w' : World) : Prop :=
  e = .returned (.tuple #[]) ∧ ∃ (A : MA) (lb : Nat), (A.eb = eb ∧ A.k = ls.length ∧ A.l = cols.length + ls.length ∧ A.n = cols.length) ∧ MOk A ∧ Mat A w' (matF cols (cols.length + ls.length) ls) (fun _ => false) ∧ Piv A w' (fun _ => none) ∧
    (w'.cell? ⟨eb, 0, none⟩ = some c0 ∧ w'.cell? ⟨eb, 4, none⟩ = some (.slice (some ⟨lb, 0, none⟩) A.l A.l) ∧ w'.cell? ⟨eb, 5, none⟩ = some (.int .i64 (-1)) ∧ ∀ p, w'.frozen? ⟨eb, p, none⟩ = false) ∧
    IRow w' lb (rowJ cols m A.l cols.length) ∧ (eb < lb ∧ eb < A.ib ∧ eb < A.pb ∧ (∀ i, i < A.k → eb < A.rs i)) ∧ ((∀ i, i < A.k → A.rs i ≠ lb) ∧ lb ≠ A.pb ∧ lb ≠ A.ib ∧ (0 < A.k → eb < A.rb ∧ A.rb ≠ lb)) ∧ eb < w'.heap.size ∧ Ext w0 w'
theorem fill_end {w0 wr w2 w4 w6 : World} {eb L k n h1 h2 g : Nat} {cols m : List Pw} {ls : List (List Pw)} {c0 v : Value} {rs : List Nat} {zs ys : List Value} (h : FL w0 eb L cols ls c0 k v rs wr) (he : w0.heap.size ≤ eb) (hk : ls.length = k) (hn : cols.length = n) (hL : n + k = L) (hin : ∀ l ∈ ls, ∀ p ∈ l, p.2.natAbs ≤ 1000)
    (ho1 : w2.ownsRow h1 4 1 (.slice (some ⟨h1, 0, none⟩) k k) k zs) (hz : zs = List.replicate k (.bool false)) (hg1 : Ext wr w2) (hh1 : wr.heap.size = h1)
    (ho2 : w4.ownsRow h2 49 1 (.slice (some ⟨h2, 0, none⟩) n n) n ys) (hy : ys = List.replicate n (.slice none 0 0)) (hg2 : Ext (w2.setCell ⟨eb, 2, none⟩ (.slice (some ⟨h1, 0, none⟩) k k)) w4) (hh2 : w2.heap.size = h2)
    (hI : IRow w6 g (rowJ cols m L n)) (hg : w4.heap.size ≤ g) (hg3 : Ext (w4.setCell ⟨eb, 3, none⟩ (.slice (some ⟨h2, 0, none⟩) n n)) w6) :
    FillPost w0 eb cols ls m c0 (.returned (.tuple #[])) ((w6.setCell ⟨eb, 4, none⟩ (.slice (some ⟨g, 0, none⟩) L L)).setCell ⟨eb, 5, none⟩ (.int .i64 (-1))) := by
  subst hk
  subst hn
  subst hL
  have hel := h.box.lt
  have hs0 := h.ext.size
  have hs2 := hg1.size
  have hs4 := hg2.size
  have hs6 := hg3.size
  rw [World.size_setCell] at hs4 hs6
  have hl1 := (ho1.lt h1 rfl).2
  have hl2 := (ho2.lt h2 rfl).2
  obtain ⟨W, hW⟩ : ∃ W, (w6.setCell ⟨eb, 4, none⟩ (.slice (some ⟨g, 0, none⟩) (cols.length + ls.length) (cols.length + ls.length))).setCell ⟨eb, 5, none⟩ (.int .i64 (-1)) = W := ⟨_, rfl⟩
  have hsW : W.heap.size = w6.heap.size := by rw [← hW, World.size_setCell, World.size_setCell]
  have k6 : ∀ b, b ≠ eb → W.heap[b]? = w6.heap[b]? := fun b hb => by rw [← hW, Below.heap_setCell _ _ _ _ (by simp only [ne_eq]; exact hb), Below.heap_setCell _ _ _ _ (by simp only [ne_eq]; exact hb)]
  have k4 : ∀ b, b ≠ eb → b < w4.heap.size → W.heap[b]? = w4.heap[b]? := fun b hb hl => by rw [k6 b hb, hg3.block b (by rw [World.size_setCell]; exact hl), Below.heap_setCell _ _ _ _ (by simp only [ne_eq]; exact hb)]
  have k2 : ∀ b, b ≠ eb → b < w2.heap.size → W.heap[b]? = w2.heap[b]? := fun b hb hl => by rw [k4 b hb (by omega), hg2.block b (by rw [World.size_setCell]; exact hl), Below.heap_setCell _ _ _ _ (by simp only [ne_eq]; exact hb)]
  have k0 : ∀ b, b ≠ eb → b < wr.heap.size → W.heap[b]? = wr.heap[b]? := fun b hb hl => by rw [k2 b hb (by omega), hg1.block b hl]
  have hbox : EBox W eb c0 v (.slice (some ⟨h1, 0, none⟩) ls.length ls.length) (.slice (some ⟨h2, 0, none⟩) cols.length cols.length) (.slice (some ⟨g, 0, none⟩) (cols.length + ls.length) (cols.length + ls.length)) (.int .i64 (-1)) := by
    rw [← hW]
    exact ((((((h.box.ext hg1).s2).ext hg2).s3).ext hg3).s4).s5
  have hext : Ext w0 W := by
    refine ⟨?_, ?_, ?_, by omega, fun b hb => by rw [k0 b (by omega) (by omega), h.ext.block b hb]⟩
    · rw [← hW]; exact hg3.os.trans (hg2.os.trans (hg1.os.trans h.ext.os))
    · rw [← hW]; exact hg3.tape.trans (hg2.tape.trans (hg1.tape.trans h.ext.tape))
    · rw [← hW]; exact hg3.output.trans (hg2.output.trans (hg1.output.trans h.ext.output))
  have hgl := hI.1
  obtain ⟨xr, cr, hv⟩ := own_form h.own
  have howW : W.ownsRow (eb + 1) 49 1 v ls.length (rs.map (slV (cols.length + ls.length))) := own_heap h.own (fun b hb => k0 b (by have := (h.own.lt b hb).1; omega) (h.own.lt b hb).2)
  have ho1W : W.ownsRow h1 4 1 (.slice (some ⟨h1, 0, none⟩) ls.length ls.length) ls.length zs := own_heap ho1 (fun b hb => by simp only [Value.ownBlock, Option.some.injEq] at hb; subst hb; exact k2 _ (by omega) hl1)
  have ho2W : W.ownsRow h2 49 1 (.slice (some ⟨h2, 0, none⟩) cols.length cols.length) cols.length ys := own_heap ho2 (fun b hb => by simp only [Value.ownBlock, Option.some.injEq] at hb; subst hb; exact k4 _ (by omega) hl2)
  obtain ⟨rb, hrb⟩ : ∃ rb : Nat, (0 < ls.length → xr = some ⟨rb, 0, none⟩) ∧ (0 < ls.length → v.ownBlock = some rb) ∧ (¬ 0 < ls.length → rb = eb) := by
    by_cases h0 : 0 < ls.length
    · obtain ⟨gg, c, e⟩ := own_form_pos h.own h0
      rw [hv] at e
      simp only [Value.slice.injEq] at e
      exact ⟨gg, fun _ => e.1, fun _ => by rw [hv, e.1]; rfl, fun e => absurd h0 e⟩
    · exact ⟨eb, fun e => absurd e h0, fun e => absurd e h0, fun _ => rfl⟩
  have hrs : ∀ i, i < ls.length → ∃ hi : i < rs.length, rs.getD i 0 = rs[i] := fun i hi => ⟨by rw [h.len]; exact hi, by rw [List.getD_eq_getElem?_getD, List.getElem?_eq_getElem (by rw [h.len]; exact hi)]; rfl⟩
  obtain ⟨A, hA⟩ : ∃ A : MA, A = { eb := eb, rb := rb, ib := h1, ci := ls.length, cr := cr, k := ls.length, l := cols.length + ls.length, xr := xr, rs := fun i => rs.getD i 0, cs := fun _ => cols.length + ls.length, pb := h2, cp := cols.length, n := cols.length } := ⟨_, rfl⟩
  have hrb0 : 0 < ls.length → eb < rb ∧ rb < wr.heap.size := fun h0 => by have := h.own.lt rb (hrb.2.1 h0); omega
  rw [hW]
  refine ⟨rfl, A, g, by subst hA; exact ⟨rfl, rfl, rfl, rfl⟩, ?_, ?_, ?_, ⟨hbox.a0, by subst hA; exact hbox.a4, hbox.a5, hbox.fz⟩, ?_, ?_, ?_, by rw [hsW]; omega, hext⟩
  · subst hA
    refine ⟨fun i j hi hj e => ?_, fun i hi => ?_, fun i hi => ?_, fun i hi => ?_, fun i hi => ?_, ?_, ?_, ?_, ?_, ?_⟩
    · obtain ⟨hi', e1⟩ := hrs i hi
      obtain ⟨hj', e2⟩ := hrs j hj
      simp only [e1, e2] at e
      exact (List.getElem_inj h.nd).1 e
    · obtain ⟨hi', e1⟩ := hrs i hi
      have := (h.row i hi').2
      simp only [e1]; omega
    · obtain ⟨hi', e1⟩ := hrs i hi
      have h0 : 0 < ls.length := by have : i < ls.length := hi; omega
      have := h.nv _ (List.getElem_mem hi')
      rw [hrb.2.1 h0] at this
      simp only [e1]
      exact fun e => this (by rw [e])
    · obtain ⟨hi', e1⟩ := hrs i hi
      have := (h.row i hi').1.1
      simp only [e1]; omega
    · obtain ⟨hi', e1⟩ := hrs i hi
      have := (h.row i hi').1.1
      simp only [e1]; omega
    · show h1 ≠ eb; omega
    · show h1 ≠ rb
      by_cases h0 : 0 < ls.length
      · have := hrb0 h0; omega
      · rw [hrb.2.2 h0]; omega
    · show h1 ≠ h2; omega
    · show h2 ≠ eb; omega
    · show h2 ≠ rb
      by_cases h0 : 0 < ls.length
      · have := hrb0 h0; omega
      · rw [hrb.2.2 h0]; omega
  · subst hA
    refine ⟨by rw [← hv]; exact hbox.a1, hbox.a2, hrb.1, fun i hi => ?_, fun i hi => ?_, fun i hi => ?_, fun i hi => ?_, fun i hi => ?_⟩
    · have hi2 : i < ls.length := hi
      obtain ⟨hi', e1⟩ := hrs i hi
      have hw := howW
      rw [hv, hrb.1 (by omega)] at hw
      have := hw.cellAt i (by omega)
      rw [this, List.getElem?_map, List.getElem?_eq_getElem hi']
      show some (slV _ _) = some (.slice (some ⟨rs.getD i 0, 0, none⟩) _ _)
      rw [e1]; rfl
    · obtain ⟨hi', e1⟩ := hrs i hi
      obtain ⟨h3, h4⟩ := h.row i hi'
      show IRow W (rs.getD i 0) _
      rw [e1]
      exact h3.carry (by omega) (k0 _ (by omega) h3.1)
    · rw [matF_at hi]; exact rowG_len (Nat.le_add_right _ _)
    · have hi2 : i < ls.length := hi
      have := ho1W.cellAt i (by omega)
      rw [this, hz, List.getElem?_replicate, if_pos hi2]
    · rw [matF_at hi]; exact rowG_inb (hin _ (List.getElem_mem hi))
  · subst hA
    refine ⟨hbox.a3, fun i hi => ?_, fun p => ho2W.frozenAt p, fun p => ho1W.frozenAt p, (ho2W.lt h2 rfl).2, (ho1W.lt h1 rfl).2⟩
    have hi2 : i < cols.length := hi
    have := ho2W.cellAt i (by omega)
    rw [this, hy, List.getElem?_replicate, if_pos hi2]; rfl
  · have hI2 := hI.carry (w' := W) (by omega) (k6 _ (by omega))
    subst hA; exact hI2
  · subst hA
    refine ⟨by omega, by show eb < h1; omega, by show eb < h2; omega, fun i hi => ?_⟩
    obtain ⟨hi', e1⟩ := hrs i hi
    show eb < rs.getD i 0
    rw [e1]; exact (h.row i hi').2
  · subst hA
    refine ⟨fun i hi => ?_, by show g ≠ h2; omega, by show g ≠ h1; omega, fun h0 => by have := hrb0 h0; exact ⟨this.1, by show rb ≠ g; omega⟩⟩
    obtain ⟨hi', e1⟩ := hrs i hi
    have := (h.row i hi').1.1
    show rs.getD i 0 ≠ g
    rw [e1]; omega
/-- What fill asks of generators and a product. -/
def GenOk (ls : List (List Pw)) : Prop := ∀ l ∈ ls, l.length ≤ 1073741824 ∧ SzP 1073741824 l ∧ AscP l ∧ ∀ p ∈ l, p.2.natAbs ≤ 1000

set_option maxHeartbeats 12800000 in
set_option maxRecDepth 100000 in
theorem fill_any (eb : Nat) (cols : List Pw) (ls : List (List Pw)) (m : List Pw) (xc xs xm : Option Addr) (cc cap cm : Nat) (w0 w : World) (hw0 : w0.heap.size ≤ eb) (hE : Ext w0 w) (hcl : cols.length + ls.length ≤ 1048576) (hls : GenOk ls) (hm : GenOk [m]) (hcm : m.length ≤ cm) (hsc : SzP 1073741824 cols)
    (hb : EBox w eb (.slice xc cols.length cc) (.slice none 0 0) (.slice none 0 0) (.slice none 0 0) (.slice none 0 0) (.int .i64 0)) (hR : PsRow w0 ls xs) (hM : PRow w0 m xm) (hC : PRow w0 cols xc) :
    Calls Tryz.prog 95 #[.pointer (some ⟨eb, 0, none⟩), .slice xs ls.length cap, .slice xm m.length cm] w (FillPost w0 eb cols ls m (.slice xc cols.length cc)) := by
  have HR := Lib.hid hR
  have HM := Lib.hid hM
  have HC := Lib.hid hC
  have HLS := Lib.hid hls
  have HCM := Lib.hid hcm
  have HRO := Lib.hid (fun (ps : List Pw) ya (c : Nat) W (h1 : ps.length ≤ c) (h2 : GenOk [ps]) (h3 : PRow W ps ya) (h4 : Ext w0 W) (h5 : W.cell? ⟨eb, 0, none⟩ = some (.slice xc cols.length cc)) => rowOf_any cols ps xc ya cc c eb ls.length W hcl h1 (h2 ps (by simp)).1 (h2 ps (by simp)).2.1 hsc (h2 ps (by simp)).2.2.1 h3 (PRow_below (w' := W) hC h4) h5)
  have HMO := Lib.hid hm
  have HW0 := Lib.hid hw0
  have HIN : Hid (∀ l ∈ ls, ∀ p ∈ l, p.2.natAbs ≤ 1000) := fun l hl => (hls l hl).2.2.2
  have HST : Hid (FL w0 eb (cols.length + ls.length) cols ls (.slice xc cols.length cc) 0 (.slice none 0 0) [] w) := ⟨hE, rfl, hb, World.ownsRow_nil _ _ _ _, fun i hi => absurd hi (by simp), List.nodup_nil, fun b hb => absurd hb (by simp)⟩
  obtain ⟨i0, hi0, hz0, hz1, hz2⟩ := info_parts info46
  have HI0 := Lib.hid (And.intro hi0 (And.intro hz0 (And.intro hz1 hz2)))
  obtain ⟨j0, hj0, hy0, hy1, hy2⟩ := info_parts info_bool
  have HJ0 := Lib.hid (And.intro hj0 (And.intro hy0 (And.intro hy1 hy2)))
  obtain ⟨k, hk⟩ : ∃ k, ls.length = k := ⟨_, rfl⟩
  obtain ⟨n, hn⟩ : ∃ n, cols.length = n := ⟨_, rfl⟩
  obtain ⟨L, hL⟩ : ∃ L, n + k = L := ⟨_, rfl⟩
  have HK := Lib.hid hk
  have HN := Lib.hid hn
  have HLL := Lib.hid hL
  rw [hk, hn] at hcl HRO HST ⊢
  rw [hL] at hcl HRO HST
  have hkL : k ≤ L := by omega
  have hnL : n ≤ L := by omega
  clear hR hM hC hls hm hcm hsc hb hE hw0 hi0 hz0 hz1 hz2 hj0 hy0 hy1 hy2 hk hn hL
  go_enter Tryz.func95, Tryz.ntmps95
  go_wp2_with fail
  go_loopw [11] (fun i wr => ∃ (j : Nat) (v : Value) (rs : List Nat), j ≤ k ∧ i = .int .i64 j ∧ FL w0 eb L cols ls (.slice xc n cc) j v rs wr) (fun i _ => k - (intOf i).toNat)
  case atStart => exact ⟨0, _, _, Nat.zero_le _, rfl, HST.out⟩
  case round =>
    obtain ⟨j, v, rs, hj, rfl, hF⟩ := hrel
    have HF := Lib.hid hF
    by_cases hlt : j < k
    · have hltl : j < ls.length := by rw [HK.out]; exact hlt
      obtain ⟨b, o, rfl⟩ := PsRow_at HR.out (by omega)
      obtain ⟨ya, c, g0, hc0, hRj⟩ := PsRow_get HR.out j hltl
      have g1 := keep_below hF.ext _ _ g0
      have a0 := hF.box.a0
      have HCA := Lib.hid (HRO.out ls[j] ya c wr hc0 (fun l hl => by simp only [List.mem_singleton] at hl; subst hl; exact HLS.out _ (List.getElem_mem hltl)) (PRow_below (w' := wr) hRj hF.ext) hF.ext a0)
      obtain ⟨B, hB⟩ : ∃ B, (ls[j]).length = B := ⟨_, rfl⟩
      rw [hB] at g1 HCA
      have hel := hF.box.lt
      have hsw : eb + 1 ≤ wr.heap.size := hel
      obtain ⟨xl, lcap, hv⟩ := own_form hF.own
      subst hv
      have i1 : (0 : Int) ≤ (j : Int) := by omega
      have i2 : (j : Int) < (k : Int) := by omega
      have i3 : (0 : Int) ≤ (n : Int) + (j : Int) := by omega
      have i4 : (n : Int) + (j : Int) < (L : Int) := by have := HLL.out; omega
      have i5 : ((n : Int) + (j : Int)).toNat = n + j := by omega
      have hnj : n + j < L := by have := HLL.out; omega
      clear hF g0 hc0 hRj hB hel
      obtain ⟨F, hF5⟩ : ∃ F : Value, F = .slice xl j lcap := ⟨_, rfl⟩
      go_wp2_with (first
        | (go_at_call 118; refine (HCA.out).mono ?_; rintro e w5 ⟨g, he, hg, hI, hB⟩; subst he; have HI := Lib.hid hI; have HB := Lib.hid hB; have HG := Lib.hid hg; have a1 := (HF.out.box.ext hB).a0; have hlen : n + j < (rowJ cols ls[j] L cols.length).length := (by rw [rowJ_len (Nat.le_refl _) (by rw [HN.out]; exact hnL)]; exact hnj); have b0 := hI.2.2 (n + j) hlen; have b1 := hI.2.1 (n + j); have hw5 : eb < w5.heap.size := Nat.lt_of_lt_of_le (Nat.lt_of_succ_le hsw) hB.size; have nz : ¬ g = eb := (by omega); have nz2 : ¬ eb = g := (by omega); have a2 := (HF.out.box.ext hB).a1; have hgl : g < w5.heap.size := hI.1; generalize (rowJ cols ls[j] L cols.length)[n + j] = Z at b0; have HO5 : Hid (∀ ob : Obj, ((w5.setCell ⟨g, n + j, none⟩ (.int .i64 1)).alloc ob).ownsRow (eb + 1) 49 1 (.slice xl j lcap) j (rs.map (slV L))) := (fun ob => own_heap HF.out.own (fun q hq => by have h1 := (HF.out.own.lt q hq).2; have h2 := HB.out.size; rw [Below.heap_alloc _ _ _ (by rw [World.size_setCell]; omega), Below.heap_setCell _ _ _ _ (by simp only [ne_eq]; have := HG.out; omega), HB.out.block q h1])); have hq5 : (w5.setCell ⟨g, n + j, none⟩ (.int .i64 1)).heap.size = w5.heap.size := World.size_setCell _ _ _; clear hI hB hg hlen)
        | (at_builtin; refine wpList_append_lies _ rfl _ _ _ rfl (eb + 1) 49 i0 _ 1 24 Tryz.underlying88 HI0.out.1 HI0.out.2.1 HI0.out.2.2.1 HI0.out.2.2.2 rfl (by omega) (.slice xl j lcap) j (rs.map (slV L)) rfl (HO5.out _) ⟨w5.heap.size, 0, none⟩ 1 1 [.slice (some ⟨g, 0, none⟩) L L] rfl rfl (by have := cell_one_new (w5.setCell ⟨g, n + j, none⟩ (.int .i64 1)) (.slice (some ⟨g, 0, none⟩) L L) 49; rw [hq5] at this; exact this) (by simp [Value.oneCell']) (by omega) (by unfold maxLen; omega) (by omega) (by simp; omega) (w5.heap.size + 1) (by simp) ?_; intro g2 cap2 w8 hown8 hgrow8 hat8 hlt8; have HNX := Lib.hid (HF.out.next HW0.out hltl HN.out hnj HG.out HI.out HB.out hown8 hgrow8 hat8 rfl); have hbx8 := (HF.out.box.ext HB.out).keep (W := w8) (by have := hgrow8.size; simp at this; omega) (by rw [hgrow8.block eb (by simp; omega) (fun e => by have := (HF.out.own.lt eb e.symm).1; omega), Below.heap_alloc _ _ _ (by rw [hq5]; exact hw5), Below.heap_setCell _ _ _ _ (by simp only [ne_eq]; exact nz2)]); have y1 := hbx8.a1; have y2 := hbx8.fz 1; clear hbx8 hown8 hgrow8 hat8 hlt8)
        )
      go_roundw
      case rel => exact ⟨j + 1, _, _, by omega, by go_num, HNX.out⟩
      case measure => simp [intOf]; omega
    obtain rfl : k = j := by omega
    have hel := hF.box.lt
    have hbr := hF.box
    clear hF
    go_wp2_with (first
      | (at_make; refine make_full_at _ wr.heap.size rfl rfl _ _ _ rfl 4 j0 _ 1 Tryz.underlying89 HJ0.out.1 HJ0.out.2.1 HJ0.out.2.2.1 k rfl rfl (by rw [HJ0.out.2.2.2]; omega) (by unfold maxLen; omega) ?_; intro w2 hown1 hgrow; have hx : Ext wr w2 := (Below.refl wr.heap.size wr).grown hgrow (Nat.le_refl _) (fun q hq => by simp at hq); have HX2 := Lib.hid hx; have HO1 := Lib.hid hown1; have hbx := hbr.ext hx; have p0 := hbx.a0; have p2 := hbx.a2; have p3 := hbx.fz 2; have HB2 := Lib.hid hbx; clear hown1 hgrow hx hbx)
      | (at_make; refine make_full_at _ w2.heap.size (by simp) rfl _ _ _ rfl 49 i0 _ 1 Tryz.underlying88 HI0.out.1 HI0.out.2.1 HI0.out.2.2.1 n rfl rfl (by rw [HI0.out.2.2.2]; omega) (by unfold maxLen; omega) ?_; intro w4 hown2 hgrow2; have hx4 : Ext (w2.setCell ⟨eb, 2, none⟩ (.slice (some ⟨wr.heap.size, 0, none⟩) k k)) w4 := (Below.refl _ _).grown hgrow2 (Nat.le_refl _) (fun q hq => by simp at hq); have HX4 := Lib.hid hx4; have HO2 := Lib.hid hown2; have hbx4 := (HB2.out.s2 (v := .slice (some ⟨wr.heap.size, 0, none⟩) k k)).ext hx4; have q3 := hbx4.a3; have q4 := hbx4.fz 3; have HB4 := Lib.hid hbx4; clear p0 p2 p3 hown2 hgrow2; have hy5 : Ext w0 (w4.setCell ⟨eb, 3, none⟩ (.slice (some ⟨w2.heap.size, 0, none⟩) n n)) := (Below.setCell (Ext.trans (show Ext w0 (w2.setCell ⟨eb, 2, none⟩ (.slice (some ⟨wr.heap.size, 0, none⟩) k k)) from Below.setCell (HF.out.ext.trans HX2.out) HW0.out _) hx4) HW0.out _); have HCA := Lib.hid (HRO.out m xm cm (w4.setCell ⟨eb, 3, none⟩ (.slice (some ⟨w2.heap.size, 0, none⟩) n n)) HCM.out HMO.out (PRow_below (w' := w4.setCell ⟨eb, 3, none⟩ (.slice (some ⟨w2.heap.size, 0, none⟩) n n)) HM.out hy5) hy5 ((hbx4.s3 (v := .slice (some ⟨w2.heap.size, 0, none⟩) n n)).a0)); clear hx4 hbx4 hy5)
      | (go_at_call 118; refine (HCA.out).mono ?_; rintro e w6 ⟨g, he, hg, hI, hB⟩; subst he; have HI := Lib.hid hI; have HB := Lib.hid hB; have HG := Lib.hid hg; have hbx6 := (HB4.out.s3 (v := .slice (some ⟨w2.heap.size, 0, none⟩) n n)).ext hB; have r4 := hbx6.a4; have r5 := hbx6.fz 4; have r6 := hbx6.a5; have r7 := hbx6.fz 5; clear q3 q4 hbx6 hI hB hg))
    exact bodyPost_ret (v := .tuple #[]) (by simp [results, Tryz.results95, go_sem]) rfl (fill_end HF.out HW0.out HK.out HN.out HLL.out HIN.out HO1.out (by rw [Nat.mul_one]; exact toList_madeCells_one _ _) HX2.out rfl HO2.out (by rw [Nat.mul_one]; exact toList_madeCells_one _ _) HX4.out rfl (by rw [HN.out] at HI; exact HI.out) (by have := HG.out; simp at this; exact this) HB.out)
end Go.Proofs.YtcieadjjcpmieaaGreat
