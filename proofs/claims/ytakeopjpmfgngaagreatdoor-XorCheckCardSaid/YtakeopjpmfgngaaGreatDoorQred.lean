/-
  ROWS AND PIVOTS IN MEMORY; THE WALKS OF row.add AND reduced.
-/
import Derived.Test.YtakeopjpmfgngaaGreatDoorQvof
namespace Go.Proofs.YtakeopjpmfgngaaGreatDoor
open Go.RowKit Go.Lib

/-- Nothing but some blocks has changed. -/
structure Kq (S : Nat → Prop) (w w' : World) : Prop where
  os : w'.os = w.os
  tape : w'.tape = w.tape
  output : w'.output = w.output
  size : w.heap.size ≤ w'.heap.size
  block : ∀ b, b < w.heap.size → ¬ S b → w'.heap[b]? = w.heap[b]?
theorem Kq.refl (S : Nat → Prop) (w : World) : Kq S w w := ⟨rfl, rfl, rfl, Nat.le_refl _, fun _ _ _ => rfl⟩
theorem Kq.trans {S : Nat → Prop} {a b c : World} (h : Kq S a b) (k : Kq S b c) : Kq S a c :=
  ⟨k.os.trans h.os, k.tape.trans h.tape, k.output.trans h.output, Nat.le_trans h.size k.size, fun i hi hn => (k.block i (Nat.lt_of_lt_of_le hi h.size) hn).trans (h.block i hi hn)⟩
theorem Kq.mono {S T : Nat → Prop} {a b : World} (h : Kq S a b) (hs : ∀ i, i < a.heap.size → S i → T i) : Kq T a b := ⟨h.os, h.tape, h.output, h.size, fun i hi hn => h.block i hi fun x => hn (hs i hi x)⟩
theorem Kq.ext {S : Nat → Prop} {a b c : World} (h : Kq S a b) (k : Ext b c) : Kq S a c :=
  ⟨k.os.trans h.os, k.tape.trans h.tape, k.output.trans h.output, Nat.le_trans h.size k.size, fun i hi hn => (k.block i (Nat.lt_of_lt_of_le hi h.size)).trans (h.block i hi hn)⟩
theorem Kq.ofExt {S : Nat → Prop} {a b : World} (k : Ext a b) : Kq S a b := (Kq.refl S a).ext k
theorem Kq.ofBut {S : Nat → Prop} {g : Nat} {a b : World} (h : But g a b) (hg : S g) : Kq S a b :=
  ⟨h.os, h.tape, h.output, h.size, fun i hi hn => h.block i hi (by simp only [ne_eq, Option.some.injEq]; intro e; exact hn (by rw [e]; exact hg))⟩
theorem Kq.below {S : Nat → Prop} {B : Nat} {a b : World} (h : Kq S a b) (hs : ∀ i, S i → B ≤ i) (hB : B ≤ a.heap.size) : Below B a b :=
  ⟨h.os, h.tape, h.output, h.size, fun i hi => h.block i (Nat.lt_of_lt_of_le hi hB) fun x => by have := hs i x; omega⟩
/-- Nothing older than a world has changed. -/
theorem Kq.fresh {S : Nat → Prop} {u a b : World} (h : Kq S a b) (hu : Ext u a) (hs : ∀ i, S i → u.heap.size ≤ i) : Ext u b := Below.trans hu (h.below hs hu.size)
theorem VRow.kq {S : Nat → Prop} {w W : World} {g n : Nat} {f : Nat → Nat} (h : VRow w g n f) (k : Kq S w W) (hg : ¬ S g) : VRow W g n f := h.carry k.size (k.block g h.1 hg)
theorem cell_kq {S : Nat → Prop} {w W : World} {b o : Nat} {u : Value} (k : Kq S w W) (hb : ¬ S b) (h : w.cell? ⟨b, o, none⟩ = some u) : W.cell? ⟨b, o, none⟩ = some u := by
  rw [World.cell?_of_block (w := w) (a := ⟨b, o, none⟩) (k.block b (World.block_lt_of_cell? w _ h) hb)]; exact h
def two (g h : Nat) (b : Nat) : Prop := b = g ∨ b = h
def RaPost (gs ge n1 n2 : Nat) (f1 f2 : Nat → Nat) (w : World) (e : Ending) (w' : World) : Prop :=
  e = .returned (.tuple #[]) ∧ VRow w' gs n1 f1 ∧ VRow w' ge n2 f2 ∧ Kq (two gs ge) w w'
set_option maxHeartbeats 1600000 in
set_option maxRecDepth 100000 in
theorem rowadd_any (gs ge hs he n1 n2 : Nat) (f1 f2 e1 e2 : Nat → Nat) (w : World) (hn1 : n1 ≤ 1048576) (hn2 : n2 ≤ 1048576) (hne : gs ≠ ge) (x1 : hs ≠ gs) (_x2 : hs≠ ge) (x3 : he ≠ gs) (x4 : he ≠ ge) (hgs : VRow w gs n1 f1) (hge : VRow w ge n2 f2) (hhs : VRow w hs n1 e1) (hhe : VRow w he n2 e2) :
    Calls Tryz.prog 79 #[.agg #[.slice (some ⟨gs, 0, none⟩) n1 n1, .slice (some ⟨ge, 0, none⟩) n2 n2], .agg #[.slice (some ⟨hs, 0, none⟩) n1 n1, .slice (some ⟨he, 0, none⟩) n2 n2]] w (RaPost gs ge n1 n2 (xorV f1 e1) (xorV f2 e2) w) := by
  obtain ⟨wA, hwA⟩ : ∃ W, W = (w.alloc (.cells #[.slice (some ⟨gs, 0, none⟩) n1 n1, .slice (some ⟨ge, 0, none⟩) n2 n2] 69)).alloc (.cells #[.slice (some ⟨hs, 0, none⟩) n1 n1, .slice (some ⟨he, 0, none⟩) n2 n2] 69) := ⟨_, rfl⟩
  have hX : Ext w wA := by rw [hwA]; exact ((Ext.refl w).alloc _).alloc _
  have hq1 : wA.heap[w.heap.size]? = some (.cells #[.slice (some ⟨gs, 0, none⟩) n1 n1, .slice (some ⟨ge, 0, none⟩) n2 n2] 69 (0, 0)) := by
    rw [hwA]
    have := ((Ext.refl (w.alloc (.cells #[.slice (some ⟨gs, 0, none⟩) n1 n1, .slice (some ⟨ge, 0, none⟩) n2 n2] 69))).alloc (.cells #[.slice (some ⟨hs, 0, none⟩) n1 n1, .slice (some ⟨he, 0, none⟩) n2 n2] 69)).block w.heap.size (by simp)
    rw [this]; exact heap_alloc_new w _
  have hq2 : wA.heap[w.heap.size + 1]? = some (.cells #[.slice (some ⟨hs, 0, none⟩) n1 n1, .slice (some ⟨he, 0, none⟩) n2 n2] 69 (0, 0)) := by
    rw [hwA]
    have := heap_alloc_new (w.alloc (.cells #[.slice (some ⟨gs, 0, none⟩) n1 n1, .slice (some ⟨ge, 0, none⟩) n2 n2] 69)) (.cells #[.slice (some ⟨hs, 0, none⟩) n1 n1, .slice (some ⟨he, 0, none⟩) n2 n2] 69)
    rw [World.size_alloc] at this; exact this
  have HCL : Hid (∀ W, Kq (fun b => b < w.heap.size) wA W → (W.cell? ⟨w.heap.size, 0, none⟩ = some (.slice (some ⟨gs, 0, none⟩) n1 n1) ∧ W.cell? ⟨w.heap.size, 1, none⟩ = some (.slice (some ⟨ge, 0, none⟩) n2 n2)) ∧ W.cell? ⟨w.heap.size + 1, 0, none⟩ = some (.slice (some ⟨hs, 0, none⟩) n1 n1) ∧ W.cell? ⟨w.heap.size + 1, 1, none⟩ = some (.slice (some ⟨he, 0, none⟩) n2 n2)) := by
    show ∀ _, _
    intro W k
    have l1 := (Array.getElem?_eq_some_iff.1 hq1).1
    have l2 := (Array.getElem?_eq_some_iff.1 hq2).1
    have r1 := (k.block _ l1 (by omega)).trans hq1
    have r2 := (k.block _ l2 (by omega)).trans hq2
    refine ⟨⟨?_, ?_⟩, ?_, ?_⟩ <;> simp [World.cell?, r1, r2]
  obtain ⟨⟨q0, q1⟩, q2, q3⟩ := HCL.out wA (Kq.refl _ _)
  have a1 := hgs.ext hX
  have a2 := hge.ext hX
  have a3 := hhs.ext hX
  have a4 := hhe.ext hX
  have HC1 := Lib.hid (vadd_any gs hs n1 n1 n1 f1 e1 wA hn1 x1 a1 a3.1 a3.2.2)
  have HC2 := Lib.hid (fun W (b : But gs wA W) => vadd_any ge he n2 n2 n2 f2 e2 W hn2 x4 (a2.carry b.size (b.block ge a2.1 (by simp only [ne_eq, Option.some.injEq]; exact hne.symm))) (Nat.lt_of_lt_of_le a4.1 b.size) (a4.2.2.but a4.1 x3 b))
  have HK1 : Hid (∀ W, But gs wA W → Kq (fun b => b < w.heap.size) wA W) := fun W b => Kq.ofBut b hgs.1
  have HEND : Hid (∀ W V, VRow W gs n1 (xorV f1 e1) → But gs wA W → VRow V ge n2 (xorV f2 e2) → But ge W V → RaPost gs ge n1 n2 (xorV f1 e1) (xorV f2 e2) w (.returned (.tuple #[])) V) := by
    show ∀ _, _
    intro W V v1 b1 v2 b2
    exact ⟨rfl, v1.carry b2.size (b2.block gs v1.1 (by simp only [ne_eq, Option.some.injEq]; exact hne)), v2, (Kq.ofExt hX).trans ((Kq.ofBut b1 (Or.inl rfl)).trans (Kq.ofBut b2 (Or.inr rfl)))⟩
  have HWA := Lib.hid hwA
  have tok1 : True := trivial
  clear hgs hge hhs hhe a1 a2 a3 a4 hq1 hq2 hX hwA
  go_enter Tryz.func79, Tryz.ntmps79
  go_upto_region 1 with fail
  rw [← HWA.out]
  go_wp2_with (first
    | (have _t := tok1; go_at_call 97; refine (HC1.out).mono ?_; rintro e w3 ⟨he, hv, hb⟩; subst he; obtain ⟨⟨q0, q1⟩, q2, q3⟩ := HCL.out _ (HK1.out _ hb); have HV3 := Lib.hid (And.intro hv hb); clear hv hb tok1 _t)
    | (go_at_call 97; refine (HC2.out _ HV3.out.2).mono ?_; rintro e w4 ⟨he, hv, hb⟩; subst he; have HF := Lib.hid (HEND.out _ _ HV3.out.1 HV3.out.2 hv hb); clear hv hb))
  go_end0
  exact HF.out
/-- A pivot in memory: the blocks of its vectors, their words, its column, its element. -/
structure PvM where
  gs : Nat
  ge : Nat
  s : Nat → Nat
  e : Nat → Nat
  c : Nat
  i : Nat
def pvB (p : PvM) : PivB := ⟨bitV p.s, bitV p.e, p.c, p.i⟩
def encPv (n1 n2 : Nat) (p : PvM) : List Value := [.slice (some ⟨p.gs, 0, none⟩) n1 n1, .slice (some ⟨p.ge, 0, none⟩) n2 n2, .int .i64 p.c, .int .i64 p.i]
theorem encPv_len (n1 n2 : Nat) (p : PvM) : (encPv n1 n2 p).length = 4 := rfl
def pvBs (ps : List PvM) : List Nat := ps.flatMap fun p => [p.gs, p.ge]
/-- An elimination in memory. -/
structure EL (eb : Nat) (C : List Tm) (n1 n2 : Nat) (ps : List PvM) (v : Value) (w : World) : Prop where
  low : ∃ xc cc, w.cell? ⟨eb, 0, none⟩ = some (.slice xc C.length cc) ∧ C.length ≤ cc ∧ RowIn (fun q => q < eb) w C xc
  asc : AscT C
  small : ∀ u ∈ C, size u ≤ 1048576
  len : C.length ≤ 1048576
  pv : w.cell? ⟨eb, 1, none⟩ = some v
  fz : ∀ i, w.frozen? ⟨eb, i, none⟩ = false
  own : w.ownsRow (eb + 1) 71 4 v ps.length (ps.flatMap (encPv n1 n2))
  vec : ∀ p ∈ ps, VRow w p.gs n1 p.s ∧ VRow w p.ge n2 p.e ∧ eb < p.gs ∧ eb < p.ge ∧ p.gs ≠ p.ge ∧ p.c < C.length
  apart : ps.Pairwise fun p q => p.gs ≠ q.gs ∧ p.gs ≠ q.ge ∧ p.ge ≠ q.gs ∧ p.ge ≠ q.ge
  off : ∀ p ∈ ps, v.ownBlock ≠ some p.gs ∧ v.ownBlock ≠ some p.ge
theorem EL.lt {eb n1 n2 : Nat} {C : List Tm} {ps : List PvM} {v : Value} {w : World} (h : EL eb C n1 n2 ps v w) : eb < w.heap.size := World.block_lt_of_cell? w _ h.pv
theorem EL.colAt {eb n1 n2 : Nat} {C : List Tm} {ps : List PvM} {v : Value} {w : World} (h : EL eb C n1 n2 ps v w) : ColAt w eb C := by
  obtain ⟨xc, cc, h1, h2, h3⟩ := h.low
  exact ⟨⟨xc, cc, h1, h2, RowIn_Row _ _ h3⟩, h.asc, h.small, h.len⟩
theorem RowIn_carryQ {S : Nat → Prop} {w w' : World} (hc : ∀ b, S b → w'.heap[b]? = w.heap[b]?) : ∀ (ts : List Tm) (xa : Option Addr), RowIn S w ts xa → RowIn S w' ts xa
  | [], _, _ => by simp [RowIn]
  | t :: ts, xa, h => by
    simp only [RowIn] at h ⊢
    obtain ⟨b, o, e, hb, ⟨c0, c1, c2, c3, g0, g1, g2, g3, hI⟩, h2⟩ := h
    have hk : ∀ i v, w.cell? ⟨b, i, none⟩ = some v → w'.cell? ⟨b, i, none⟩ = some v := fun i v hv => by rw [World.cell?_of_block (w := w) (a := ⟨b, i, none⟩) (hc b hb)]; exact hv
    exact ⟨b, o, e, hb, ⟨c0, c1, c2, c3, hk _ _ g0, hk _ _ g1, hk _ _ g2, hk _ _ g3, IsIn_carry hc (fun _ h => h) _ _ _ _ _ hI⟩, RowIn_carryQ hc ts _ h2⟩
theorem frozen_same {w w' : World} {b : Nat} (h : w'.heap[b]? = w.heap[b]?) (i : Nat) : w'.frozen? ⟨b, i, none⟩ = w.frozen? ⟨b, i, none⟩ := by
  unfold World.frozen?
  rw [h]
/-- What changes other blocks keeps it. -/
theorem EL.keep {S : Nat → Prop} {eb n1 n2 : Nat} {C : List Tm} {ps : List PvM} {v : Value} {w W : World} (h : EL eb C n1 n2 ps v w) (k : Kq S w W) (h0 : ∀ b, S b → eb < b) (h1 : ∀ p ∈ ps, ¬ S p.gs ∧ ¬ S p.ge) (h2 : ∀ b, v.ownBlock = some b → ¬ S b) : EL eb C n1 n2 ps v W := by
  have hl := h.lt
  have hb : ∀ b, b ≤ eb → W.heap[b]? = w.heap[b]? := fun b hb => k.block b (by omega) fun x => by have := h0 b x; omega
  obtain ⟨xc, cc, q1, q2, q3⟩ := h.low
  exact ⟨⟨xc, cc, by rw [World.cell?_of_block (w := w) (a := ⟨eb, 0, none⟩) (hb eb (Nat.le_refl _))]; exact q1, q2, RowIn_carryQ (fun b (hb' : b < eb) => hb b (Nat.le_of_lt hb')) _ _ q3⟩, h.asc, h.small, h.len,
    by rw [World.cell?_of_block (w := w) (a := ⟨eb, 1, none⟩) (hb eb (Nat.le_refl _))]; exact h.pv,
    fun i => by rw [frozen_same (hb eb (Nat.le_refl _))]; exact h.fz i,
    own_heap h.own (fun q hq => k.block q (h.own.lt q hq).2 (h2 q hq)),
    fun p hp => by
      obtain ⟨a, b, c⟩ := h.vec p hp
      exact ⟨a.kq k (h1 p hp).1, b.kq k (h1 p hp).2, c⟩, h.apart, h.off⟩
theorem EL.ext {eb n1 n2 : Nat} {C : List Tm} {ps : List PvM} {v : Value} {w W : World} (h : EL eb C n1 n2 ps v w) (x : Ext w W) : EL eb C n1 n2 ps v W :=
  h.keep (S := fun b => w.heap.size ≤ b) (Kq.ofExt x) (fun b hb => by have := h.lt; omega) (fun p hp => ⟨by have := (h.vec p hp).1.1; omega, by have := (h.vec p hp).2.1.1; omega⟩) (fun b hb => by have := (h.own.lt b hb).2; omega)
/-- The cells of a pivot of the row. -/
def PvAt (W : World) (g o n1 n2 : Nat) (p : PvM) : Prop := W.cell? ⟨g, o, none⟩ = some (.slice (some ⟨p.gs, 0, none⟩) n1 n1) ∧ W.cell? ⟨g, o + 1, none⟩ = some (.slice (some ⟨p.ge, 0, none⟩) n2 n2) ∧ W.cell? ⟨g, o + 2, none⟩ = some (.int .i64 p.c) ∧ W.cell? ⟨g, o + 3, none⟩ = some (.int .i64 p.i)
theorem EL.form {eb n1 n2 : Nat} {C : List Tm} {ps : List PvM} {v : Value} {w : World} (h : EL eb C n1 n2 ps v w) : (v = .slice none 0 0 ∧ ps = []) ∨ ∃ g cap, v = .slice (some ⟨g, 0, none⟩) ps.length cap ∧ eb < g ∧ g < w.heap.size ∧ ps.length ≤ cap := by
  rcases h.own.2 with ⟨rfl, e⟩ | ⟨g, cap, _, rfl, hg, _, hcap, _⟩
  · exact Or.inl ⟨rfl, List.length_eq_zero_iff.1 e⟩
  · exact Or.inr ⟨g, cap, rfl, by have := (h.own.lt g rfl).1; omega, (h.own.lt g rfl).2, hcap⟩
theorem EL.cells {eb n1 n2 g cap : Nat} {C : List Tm} {ps : List PvM} {w : World} (h : EL eb C n1 n2 ps (.slice (some ⟨g, 0, none⟩) ps.length cap) w) (j : Nat) (hj : j < ps.length) : PvAt w g (j * 4) n1 n2 ps[j] := by
  have hl := h.own.1
  rw [flatQ_len (encPv n1 n2) 4 (encPv_len n1 n2)] at hl
  haveI : Inhabited PvM := ⟨ps[j]⟩
  have e : ps[j]! = ps[j] := getElem!_pos ps j hj
  have hq : ∀ i, i < 4 → w.cell? ⟨g, j * 4 + i, none⟩ = (encPv n1 n2 ps[j])[i]? := fun i hi => by
    rw [h.own.cellAt _ (by omega), flatQ (encPv n1 n2) 4 (encPv_len n1 n2) (by omega) ps (j * 4 + i) (by omega), show (j * 4 + i) / 4 = j by omega, show (j * 4 + i) % 4 = i by omega, e]
    have : i < (encPv n1 n2 ps[j]).length := by rw [encPv_len]; exact hi
    rw [getElem!_pos _ i this, List.getElem?_eq_getElem this]
  exact ⟨hq 0 (by omega), hq 1 (by omega), hq 2 (by omega), hq 3 (by omega)⟩
theorem EL.nlen {eb n1 n2 : Nat} {C : List Tm} {ps : List PvM} {v : Value} {w : World} (h : EL eb C n1 n2 ps v w) : ∃ xa cap, v = .slice xa ps.length cap := by
  rcases h.form with ⟨rfl, e⟩ | ⟨g, cap, rfl, _⟩
  · exact ⟨none, 0, by rw [e]; rfl⟩
  · exact ⟨_, cap, rfl⟩
end Go.Proofs.YtakeopjpmfgngaaGreatDoor
