/-
  THE WALK OF include.
-/
import Derived.Test.YtfbomoginjknlaaDoorQvof
namespace Go.Proofs.YtfbomoginjknlaaDoor
open Go.RowKit Go.Lib

/-- A pivot with its words changed. -/
def reM (p : PvM) (f1 f2 : Nat → Nat) : PvM := ⟨p.gs, p.ge, f1, f2, p.c, p.i⟩
/-- A pivot that another one's column is taken out of. -/
def outM (P q : PvM) : PvM := if bitV q.s P.c = true then reM q (xorV q.s P.s) (xorV q.e P.e) else q
def incM (ps : List PvM) (P : PvM) : List PvM := ps.map (outM P) ++ [P]
theorem pvB_out (P q : PvM) : pvB (outM P q) = outP (pvB P) (pvB q) := by
  unfold outM outP
  have e : (pvB q).s (pvB P).c = bitV q.s P.c := rfl
  rw [e]
  split
  · unfold pvB reM
    simp only [xorV_bits]
  · rfl
theorem pvB_inc (ps : List PvM) (P : PvM) : (incM ps P).map pvB = incP (ps.map pvB) (pvB P) := by
  unfold incM incP
  rw [List.map_append, List.map_map, List.map_map]
  congr 1
  exact List.map_congr_left fun q _ => pvB_out P q
theorem outM_gs (P q : PvM) : (outM P q).gs = q.gs ∧ (outM P q).ge = q.ge ∧ (outM P q).c = q.c := by
  unfold outM; split <;> exact ⟨rfl, rfl, rfl⟩
theorem flatMap_setQ {α : Type} {enc : α → List Value} {q : α} : ∀ (l : List α) (j : Nat) (h : j < l.length), enc q = enc l[j] → (l.set j q).flatMap enc = l.flatMap enc
  | [], j, h, _ => by simp at h
  | x :: l, 0, _, e => by simp only [List.set_cons_zero, List.flatMap_cons]; rw [e]; rfl
  | x :: l, j + 1, h, e => by simp only [List.set_cons_succ, List.flatMap_cons]; rw [flatMap_setQ l j (by simpa using h) (by simpa using e)]
theorem pairwise_setQ {α : Type} {R : α → α → Prop} {l : List α} {j : Nat} {q : α} (h : l.Pairwise R) (hj : j < l.length) (h1 : ∀ x, R x l[j] → R x q) (h2 : ∀ x, R l[j] x → R q x) : (l.set j q).Pairwise R := by
  rw [List.pairwise_iff_getElem] at h ⊢
  intro a b ha hb hab
  rw [List.length_set] at ha hb
  rw [List.getElem_set, List.getElem_set]
  have := h a b ha hb hab
  by_cases e1 : j = a
  · by_cases e2 : j = b
    · omega
    · rw [if_pos e1, if_neg e2]
      subst e1
      exact h2 _ this
  · by_cases e2 : j = b
    · rw [if_neg e1, if_pos e2]
      subst e2
      exact h1 _ this
    · rw [if_neg e1, if_neg e2]; exact this
/-- The words of one pivot have changed. -/
theorem EL.upd {eb n1 n2 : Nat} {C : List Tm} {ps : List PvM} {v : Value} {w W : World} (h : EL eb C n1 n2 ps v w) (j : Nat) (hj : j < ps.length) {f1 f2 : Nat → Nat} (hv1 : VRow W ps[j].gs n1 f1) (hv2 : VRow W ps[j].ge n2 f2) (k : Kq (two ps[j].gs ps[j].ge) w W) : EL eb C n1 n2 (ps.set j (reM ps[j] f1 f2)) v W := by
  have hl := h.lt
  have hj' := List.getElem_mem hj
  obtain ⟨_, _, x1, x2, x3, x4⟩ := h.vec _ hj'
  have h0 : ∀ b, two ps[j].gs ps[j].ge b → eb < b := fun b hb => by rcases hb with rfl | rfl <;> assumption
  have hb : ∀ b, b ≤ eb → W.heap[b]? = w.heap[b]? := fun b hb => k.block b (by omega) fun x => by have := h0 b x; omega
  obtain ⟨xc, cc, q1, q2, q3⟩ := h.low
  have hmem : ∀ p, p ∈ ps.set j (reM ps[j] f1 f2) → p = reM ps[j] f1 f2 ∨ ∃ i, ∃ hi : i < ps.length, i ≠ j ∧ p = ps[i] := fun p hp => by
    obtain ⟨i, hi, e⟩ := List.mem_iff_getElem.1 hp
    rw [List.length_set] at hi
    rw [List.getElem_set] at e
    by_cases e1 : j = i
    · rw [if_pos e1] at e; exact Or.inl e.symm
    · rw [if_neg e1] at e; exact Or.inr ⟨i, hi, fun x => e1 x.symm, e.symm⟩
  have hap : ∀ i (hi : i < ps.length), i ≠ j → ¬ two ps[j].gs ps[j].ge ps[i].gs ∧ ¬ two ps[j].gs ps[j].ge ps[i].ge := fun i hi hne => by
    have hp := List.pairwise_iff_getElem.1 h.apart
    unfold two
    rcases Nat.lt_or_gt_of_ne hne with l | l
    · obtain ⟨a, b, c, d⟩ := hp i j hi hj l
      omega
    · obtain ⟨a, b, c, d⟩ := hp j i hj hi l
      omega
  refine ⟨⟨xc, cc, by rw [World.cell?_of_block (w := w) (a := ⟨eb, 0, none⟩) (hb eb (Nat.le_refl _))]; exact q1, q2, RowIn_carryQ (fun b (hb' : b < eb) => hb b (Nat.le_of_lt hb')) _ _ q3⟩, h.asc, h.small, h.len,
    by rw [World.cell?_of_block (w := w) (a := ⟨eb, 1, none⟩) (hb eb (Nat.le_refl _))]; exact h.pv,
    fun i => by rw [frozen_same (hb eb (Nat.le_refl _))]; exact h.fz i, ?_, fun p hp => ?_, ?_, fun p hp => ?_⟩
  · rw [List.length_set, flatMap_setQ (q := reM ps[j] f1 f2) ps j hj rfl]
    exact own_heap h.own (fun q hq => k.block q (h.own.lt q hq).2 fun x => by
      obtain ⟨o1, o2⟩ := h.off _ hj'
      rcases x with rfl | rfl
      · exact o1 hq
      · exact o2 hq)
  · rcases hmem p hp with rfl | ⟨i, hi, hne, rfl⟩
    · exact ⟨hv1, hv2, x1, x2, x3, x4⟩
    · obtain ⟨a, b, c⟩ := h.vec _ (List.getElem_mem hi)
      exact ⟨a.kq k (hap i hi hne).1, b.kq k (hap i hi hne).2, c⟩
  · exact pairwise_setQ h.apart hj (fun x hx => hx) (fun x hx => hx)
  · rcases hmem p hp with rfl | ⟨i, hi, hne, rfl⟩
    · exact (show v.ownBlock ≠ some ps[j].gs ∧ v.ownBlock ≠ some ps[j].ge from h.off _ hj')
    · exact h.off _ (List.getElem_mem hi)
/-- What include leaves. -/
def IncPost (eb n1 n2 : Nat) (C : List Tm) (ps : List PvM) (w : World) (e : Ending) (w' : World) : Prop :=
  e = .returned (.tuple #[]) ∧ ∃ v', EL eb C n1 n2 ps v' w' ∧ Below eb w w'
theorem infoPv : (Tryd.prog.info? 93).map (fun i => (i.zero, i.size, i.bytes)) = some (some (.agg #[.slice none 0 0, .slice none 0 0, .int .i64 0, .int .i64 0]), 4, 64) := by kernel_rfl
/-- A pivot put behind the others. -/
theorem EL.push {eb n1 n2 gg cap n : Nat} {C : List Tm} {ps : List PvM} {v : Value} {P : PvM} {w W w1 : World} (h : EL eb C n1 n2 ps v w) (hx : Ext w W) (hn : n = ps.length)
    (hgs : VRow w P.gs n1 P.s) (hge : VRow w P.ge n2 P.e) (h1 : eb < P.gs) (h2 : eb < P.ge) (h3 : P.gs ≠ P.ge) (h4 : P.c < C.length) (hap : ∀ p ∈ ps, p.gs ≠ P.gs ∧ p.gs ≠ P.ge ∧ p.ge ≠ P.gs ∧ p.ge ≠ P.ge) (ho1 : v.ownBlock ≠ some P.gs) (ho2 : v.ownBlock ≠ some P.ge)
    (hown : w1.ownsRow (eb + 1) 93 4 (.slice (some ⟨gg, 0, none⟩) (n + 1) cap) (n + 1) (ps.flatMap (encPv n1 n2) ++ encPv n1 n2 P)) (hg : W.grownBy w1 v.ownBlock) (hat : v.ownBlock = some gg ∨ w.heap.size ≤ gg) :
    EL eb C n1 n2 (ps ++ [P]) (.slice (some ⟨gg, 0, none⟩) (n + 1) cap) (w1.setCell ⟨eb, 1, none⟩ (.slice (some ⟨gg, 0, none⟩) (n + 1) cap)) ∧ Below eb w (w1.setCell ⟨eb, 1, none⟩ (.slice (some ⟨gg, 0, none⟩) (n + 1) cap)) := by
  subst hn
  have hl := h.lt
  have hgl := hown.lt gg rfl
  have hxs := hx.size
  have hov : ∀ b, v.ownBlock = some b → eb < b := fun b hb => by have := (h.own.lt b hb).1; omega
  have hk : ∀ b, b < w.heap.size → v.ownBlock ≠ some b → w1.heap[b]? = w.heap[b]? := fun b hb hne => (hg.block b (by omega) (fun e => hne e.symm)).trans (hx.block b hb)
  have hk2 : ∀ b, b < w.heap.size → v.ownBlock ≠ some b → b ≠ eb → (w1.setCell ⟨eb, 1, none⟩ (.slice (some ⟨gg, 0, none⟩) (ps.length + 1) cap)).heap[b]? = w.heap[b]? := fun b hb hne he => by
    rw [Below.heap_setCell _ _ _ _ (by simp only; omega)]; exact hk b hb hne
  have hnv : ∀ b, b ≤ eb → v.ownBlock ≠ some b := fun b hb e => by have := hov b e; omega
  have hsz : w.heap.size ≤ (w1.setCell ⟨eb, 1, none⟩ (.slice (some ⟨gg, 0, none⟩) (ps.length + 1) cap)).heap.size := by rw [World.size_setCell]; have := hg.size; omega
  have heb := hk eb hl (hnv eb (Nat.le_refl _))
  obtain ⟨xc, cc, q1, q2, q3⟩ := h.low
  have hvr : ∀ {g m : Nat} {f : Nat → Nat}, VRow w g m f → v.ownBlock ≠ some g → eb < g → VRow (w1.setCell ⟨eb, 1, none⟩ (.slice (some ⟨gg, 0, none⟩) (ps.length + 1) cap)) g m f := fun {g m f} hv hne hlt => hv.carry hsz (hk2 g hv.1 hne (by omega))
  refine ⟨⟨⟨xc, cc, ?_, q2, RowIn_carryQ (fun b (hb' : b < eb) => hk2 b (by omega) (hnv b (by omega)) (by omega)) _ _ q3⟩, h.asc, h.small, h.len, ?_, fun i => ?_, ?_, fun p hp => ?_, ?_, fun p hp => ?_⟩, ?_⟩
  · rw [setOtherV (fun e => by simp at e), World.cell?_of_block (w := w) (a := ⟨eb, 0, none⟩) heb]; exact q1
  · exact setSameV (u := v) (by rw [World.cell?_of_block (w := w) (a := ⟨eb, 1, none⟩) heb]; exact h.pv)
  · rw [World.frozen?_setCell, frozen_same heb]; exact h.fz i
  · rw [List.length_append, List.flatMap_append]
    simp only [List.flatMap_cons, List.flatMap_nil, List.append_nil, List.length_cons, List.length_nil]
    exact own_heap hown (fun q hq => by
      simp only [Value.ownBlock, Option.some.injEq] at hq
      rw [Below.heap_setCell _ _ _ _ (by simp only; omega)])
  · rcases List.mem_append.1 hp with hp | hp
    · obtain ⟨a, b, c, d, r⟩ := h.vec p hp
      obtain ⟨o1, o2⟩ := h.off p hp
      exact ⟨hvr a o1 c, hvr b o2 d, c, d, r⟩
    · rw [List.mem_singleton.1 hp]
      exact ⟨hvr hgs ho1 h1, hvr hge ho2 h2, h1, h2, h3, h4⟩
  · refine List.pairwise_append.2 ⟨h.apart, List.pairwise_singleton _ _, fun p hp q hq => ?_⟩
    rw [List.mem_singleton.1 hq]; exact hap p hp
  · have hnew : ∀ b, b < w.heap.size → v.ownBlock ≠ some b → (Value.slice (some ⟨gg, 0, none⟩) (ps.length + 1) cap).ownBlock ≠ some b := fun b hb hne e => by
      simp only [Value.ownBlock, Option.some.injEq] at e
      subst e
      rcases hat with e | e
      · exact hne e
      · omega
    rcases List.mem_append.1 hp with hp | hp
    · obtain ⟨a, b, _⟩ := h.vec p hp
      obtain ⟨o1, o2⟩ := h.off p hp
      exact ⟨hnew _ a.1 o1, hnew _ b.1 o2⟩
    · rw [List.mem_singleton.1 hp]
      exact ⟨hnew _ hgs.1 ho1, hnew _ hge.1 ho2⟩
  · refine ⟨?_, ?_, ?_, hsz, fun b hb => hk2 b (by omega) (hnv b (by omega)) (by omega)⟩
    · exact hg.os.trans hx.os
    · exact hg.tape.trans hx.tape
    · exact hg.output.trans hx.output
set_option maxHeartbeats 3200000 in
set_option maxRecDepth 100000 in
theorem include_any (eb n1 n2 : Nat) (C : List Tm) (ps : List PvM) (v : Value) (P : PvM) (w : World) (hn1 : (C.length + 63) / 64 = n1) (hn2 : n2 ≤ 1048576) (hps : ps.length ≤ 1048576) (hE : EL eb C n1 n2 ps v w)
    (hgs : VRow w P.gs n1 P.s) (hge : VRow w P.ge n2 P.e) (h1 : eb < P.gs) (h2 : eb < P.ge) (h3 : P.gs ≠ P.ge) (h4 : P.c < C.length) (hap : ∀ p ∈ ps, p.gs ≠ P.gs ∧ p.gs ≠ P.ge ∧ p.ge ≠ P.gs ∧ p.ge ≠ P.ge) (ho1 : v.ownBlock ≠ some P.gs) (ho2 : v.ownBlock ≠ some P.ge) :
    Calls Tryd.prog 63 #[.pointer (some ⟨eb, 0, none⟩), .agg #[.slice (some ⟨P.gs, 0, none⟩) n1 n1, .slice (some ⟨P.ge, 0, none⟩) n2 n2, .int .i64 P.c, .int .i64 P.i]] w (IncPost eb n1 n2 C (incM ps P) w) := by
  obtain ⟨wA, hwA⟩ : ∃ W, W = w.alloc (.cells #[.slice (some ⟨P.gs, 0, none⟩) n1 n1, .slice (some ⟨P.ge, 0, none⟩) n2 n2, .int .i64 P.c, .int .i64 P.i] 93) := ⟨_, rfl⟩
  have hX : Ext w wA := by rw [hwA]; exact (Ext.refl w).alloc _
  have hsA : wA.heap.size = w.heap.size + 1 := by rw [hwA, World.size_alloc]
  have hq1 : wA.heap[w.heap.size]? = some (.cells #[.slice (some ⟨P.gs, 0, none⟩) n1 n1, .slice (some ⟨P.ge, 0, none⟩) n2 n2, .int .i64 P.c, .int .i64 P.i] 93 (0, 0)) := by rw [hwA]; exact heap_alloc_new w _
  have hcl := hE.len
  have hn1l : n1 ≤ 1048576 := by omega
  have hn64 : C.length ≤ n1 * 64 := by omega
  have HBX : Hid (∀ W, Kq (fun b => b ∈ pvBs ps) wA W → W.cell? ⟨w.heap.size, 0, none⟩ = some (.slice (some ⟨P.gs, 0, none⟩) n1 n1) ∧ W.cell? ⟨w.heap.size, 1, none⟩ = some (.slice (some ⟨P.ge, 0, none⟩) n2 n2) ∧ W.cell? ⟨w.heap.size, 2, none⟩ = some (.int .i64 P.c) ∧ W.cell? ⟨w.heap.size, 3, none⟩ = some (.int .i64 P.i)) := by
    show ∀ _, _
    intro W k
    have hn : ¬ w.heap.size ∈ pvBs ps := fun hm => by
      unfold pvBs at hm
      obtain ⟨p, hp, hb⟩ := List.mem_flatMap.1 hm
      simp only [List.mem_cons, List.not_mem_nil, or_false] at hb
      obtain ⟨a, b, _⟩ := hE.vec p hp
      have := a.1
      have := b.1
      omega
    exact (box_facts ((k.block _ (by omega) hn).trans hq1)).1
  have hE1 := hE.ext hX
  have hg1 := hgs.ext hX
  have hg2 := hge.ext hX
  have HNP : Hid (¬ P.gs ∈ pvBs ps ∧ ¬ P.ge ∈ pvBs ps) := by
    constructor
    · intro hm
      unfold pvBs at hm
      obtain ⟨p, hp, hb⟩ := List.mem_flatMap.1 hm
      simp only [List.mem_cons, List.not_mem_nil, or_false] at hb
      have := hap p hp
      omega
    · intro hm
      unfold pvBs at hm
      obtain ⟨p, hp, hb⟩ := List.mem_flatMap.1 hm
      simp only [List.mem_cons, List.not_mem_nil, or_false] at hb
      have := hap p hp
      omega
  have HAP := Lib.hid hap
  have HV0 := Lib.hid hE.vec
  obtain ⟨q0, q1, q2, q3⟩ := HBX.out wA (Kq.refl _ _)
  have hpv := hE1.pv
  have HFORM := Lib.hid hE.form
  obtain ⟨xv, cv, hv⟩ := hE.nlen
  subst hv
  have HLE := Lib.hid hE.lt
  have HST := Lib.hid (And.intro hE1 (And.intro hg1 hg2))
  have HX := Lib.hid hX
  have HWA := Lib.hid hwA
  have HSA := Lib.hid hsA
  have HHY := Lib.hid (And.intro h1 (And.intro h2 (And.intro h3 (And.intro h4 (And.intro ho1 ho2)))))
  obtain ⟨i0, hi0, hz0, hz1, hz2⟩ := info_parts infoPv
  have HI0 := Lib.hid (And.intro hi0 (And.intro hz0 (And.intro hz1 hz2)))
  clear hE hE1 hgs hge hg1 hg2 hap hX hwA hsA hq1 hi0 hz0 hz1 hz2 h1 h2 h3 ho1 ho2 hn1
  go_enter Tryd.func63, Tryd.ntmps63
  go_upto_region 1 with fail
  rw [← HWA.out]
  go_wp2_with fail
  go_loopw [11] (fun i wr => ∃ (j : Nat) (qs : List PvM), j ≤ ps.length ∧ i = .int .i64 j ∧ qs.length = ps.length ∧ Hid (∀ k, qs[k]? = if k < j then (ps[k]?).map (outM P) else ps[k]?) ∧ EL eb C n1 n2 qs (.slice xv ps.length cv) wr ∧ VRow wr P.gs n1 P.s ∧ VRow wr P.ge n2 P.e ∧ Kq (fun b => b ∈ pvBs ps) wA wr) (fun i _ => ps.length - (intOf i).toNat)
  case atStart => exact ⟨0, ps, Nat.zero_le _, rfl, rfl, by show ∀ _, _; intro k; rw [if_neg (by omega)], HST.out.1, HST.out.2.1, HST.out.2.2, Kq.refl _ _⟩
  case round =>
    obtain ⟨j, qs, hj, rfl, hql, HQ, hel, hvs, hve, hK⟩ := hrel
    have HEL := Lib.hid hel
    have HVS := Lib.hid hvs
    have HVE := Lib.hid hve
    have HK := Lib.hid hK
    have HQL := Lib.hid hql
    obtain ⟨q0, q1, q2, q3⟩ := HBX.out _ hK
    have hwl : w.heap.size < wr.heap.size := World.block_lt_of_cell? wr _ q0
    by_cases hlt : j < ps.length
    rotate_left
    · have hjl : j = ps.length := by omega
      have HQE : Hid (qs = ps.map (outM P)) := by
        show _ = _
        apply List.ext_getElem?
        intro k
        rw [HQ.out, List.getElem?_map, hjl]
        split
        · rfl
        · rw [List.getElem?_eq_none (by omega)]; rfl
      have hpc := hel.pv
      have hfz := hel.fz 1
      have hel0 := hel.lt
      have hovb : (Value.slice xv ps.length cv).ownBlock ≠ some eb := fun e => by have := (hel.own.lt eb e).1; omega
      have hown := hel.own
      rw [hql] at hown
      have HO := Lib.hid hown
      have HLO : Hid (∀ q, (Value.slice xv ps.length cv).ownBlock = some q → q < wr.heap.size) := fun q hq => (hel.own.lt q hq).2
      have HPU : Hid (∀ (gg cap8 : Nat) (W w1 : World), Ext wr W → w1.ownsRow (eb + 1) 93 4 (.slice (some ⟨gg, 0, none⟩) (ps.length + 1) cap8) (ps.length + 1) (qs.flatMap (encPv n1 n2) ++ [.slice (some ⟨P.gs, 0, none⟩) n1 n1, .slice (some ⟨P.ge, 0, none⟩) n2 n2, .int .i64 P.c, .int .i64 P.i]) → W.grownBy w1 (Value.slice xv ps.length cv).ownBlock → ((Value.slice xv ps.length cv).ownBlock = some gg ∨ gg = wr.heap.size + 1) → IncPost eb n1 n2 C (incM ps P) w (.returned (.tuple #[])) (w1.setCell ⟨eb, 1, none⟩ (.slice (some ⟨gg, 0, none⟩) (ps.length + 1) cap8))) := by
        show ∀ _, _
        intro gg cap8 W w1 x ho hg hat
        obtain ⟨y1, y2, y3, y4, y5, y6⟩ := HHY.out
        have hp := HEL.out.push (P := P) x HQL.out.symm HVS.out HVE.out y1 y2 y3 y4 (fun p hp => by
          rw [HQE.out] at hp
          obtain ⟨p', hp', rfl⟩ := List.mem_map.1 hp
          obtain ⟨e1, e2, _⟩ := outM_gs P p'
          rw [e1, e2]; exact HAP.out p' hp') y5 y6 ho hg (hat.imp id fun e => by omega)
        refine ⟨rfl, _, by rw [incM, ← HQE.out]; exact hp.1, ?_⟩
        refine Below.trans ((HX.out.mono (Nat.le_of_lt HLE.out)).trans ?_) hp.2
        exact HK.out.below (fun b hb => by
          unfold pvBs at hb
          obtain ⟨p, hp, hb⟩ := List.mem_flatMap.1 hb
          obtain ⟨_, _, z1, z2, _⟩ := HV0.out p hp
          simp only [List.mem_cons, List.not_mem_nil, or_false] at hb
          omega) (by have := HSA.out; have := HLE.out; omega)
      clear hel hvs hve hK hown hjl
      go_upto_region 7 with fail
      go_region_law ((refine step_append_lies _ (by rfl) _ _ _ (by rfl) (eb + 1) 93 i0 _ 4 64 Tryd.underlying89 HI0.out.1 HI0.out.2.1 HI0.out.2.2.1 HI0.out.2.2.2 rfl (by omega) (.slice xv ps.length cv) ps.length (qs.flatMap (encPv n1 n2)) (by rfl) (by first | exact (HO.out.alloc _).drew | exact (own_heap (w' := wr.drew) HO.out (fun _ _ => rfl)).alloc _) ⟨wr.heap.size, 0, none⟩ 1 1 [.slice (some ⟨P.gs, 0, none⟩) n1 n1, .slice (some ⟨P.ge, 0, none⟩) n2 n2, .int .i64 P.c, .int .i64 P.i] (by rfl) (by rfl) (World.news_of_block (cs := #[.slice (some ⟨P.gs, 0, none⟩) n1 n1, .slice (some ⟨P.ge, 0, none⟩) n2 n2, .int .i64 P.c, .int .i64 P.i]) (t := 93) (fr := (0, 0)) (heap_alloc_new wr _)) (by simp [Value.oneCell']) (by omega) (by unfold maxLen; omega) (by omega) (by simp; omega) (wr.heap.size + 1) (by simp) ?_; intro gg cap8 w1 hown1 hgrow hat hltt; have z1 : w1.frozen? ⟨eb, 1, none⟩ = false := (by rw [hgrow.frozen_far _ (by simp; omega) (fun e => hovb e.symm)]; exact (Below.frozen (p := ⟨eb, 1, none⟩) ((Below.refl wr.heap.size wr).alloc (Nat.le_refl _) _) hel0).trans hfz); have z0 : w1.cell? ⟨eb, 1, none⟩ = some (.slice xv ps.length cv) := (by rw [hgrow.cell_far _ (by simp; omega) (fun e => hovb e.symm)]; exact keep_alloc wr _ _ _ hpc); have HP8 := Lib.hid (HPU.out gg cap8 _ w1 (by first | exact ((Ext.refl wr).alloc _).drew | exact ((Ext.refl wr).drew).alloc _) hown1 hgrow hat); clear hown1 hgrow hat hltt))
      all_goals (go_wp2_with fail)
      all_goals (go_end0)
      all_goals (exact HP8.out)
    have hjq : j < qs.length := by rw [hql]; exact hlt
    have hqj : qs[j]'hjq = ps[j] := by
      have := HQ.out j
      rw [if_neg (by omega), List.getElem?_eq_getElem hjq, List.getElem?_eq_getElem hlt] at this
      exact Option.some.inj this
    rcases HFORM.out with ⟨_, e0⟩ | ⟨g, cap, e0, hg1, hg2, hg3⟩
    · rw [e0] at hlt; exact absurd hlt (by simp)
    simp only [Value.slice.injEq, true_and] at e0
    obtain ⟨rfl, rfl⟩ := e0
    obtain ⟨p0, p1, p2, p3⟩ := (by rw [← hql] at hel; exact hel : EL eb C n1 n2 qs (.slice (some ⟨g, 0, none⟩) qs.length cv) wr).cells j hjq
    obtain ⟨u1, u2, u3, u4, u5, u6⟩ := hel.vec (qs[j]'hjq) (List.getElem_mem _)
    obtain ⟨y1, y2, y3, y4⟩ := HAP.out ps[j] (List.getElem_mem hlt)
    have hbm : ps[j].gs ∈ pvBs ps ∧ ps[j].ge ∈ pvBs ps := by
      unfold pvBs
      exact ⟨List.mem_flatMap.2 ⟨_, List.getElem_mem hlt, by simp⟩, List.mem_flatMap.2 ⟨_, List.getElem_mem hlt, by simp⟩⟩
    have hnx : ∀ Q : PvM, outM P ps[j] = Q → ∀ k, (qs.set j Q)[k]? = if k < j + 1 then (ps[k]?).map (outM P) else ps[k]? := fun Q hQ k => by
      rw [List.getElem?_set]
      by_cases e : j = k
      · subst e
        rw [if_pos rfl, if_pos (by omega), if_pos (by omega), List.getElem?_eq_getElem hlt, ← hQ]; rfl
      · rw [if_neg e, HQ.out]
        by_cases l : k < j
        · rw [if_pos l, if_pos (by omega)]
        · rw [if_neg l, if_neg (by omega)]
    rw [hqj] at p0 p1 p2 p3 u1 u2 u3 u4 u5
    have hA6 : Ext wr (wr.alloc (.cells #[.slice (some ⟨ps[j].gs, 0, none⟩) n1 n1, .slice (some ⟨ps[j].ge, 0, none⟩) n2 n2, .int .i64 ps[j].c, .int .i64 ps[j].i] 93)) := (Ext.refl wr).alloc _
    have HHAS := Lib.hid (has_any ps[j].gs n1 n1 P.c ps[j].s (wr.alloc (.cells #[.slice (some ⟨ps[j].gs, 0, none⟩) n1 n1, .slice (some ⟨ps[j].ge, 0, none⟩) n2 n2, .int .i64 ps[j].c, .int .i64 ps[j].i] 93)) (by omega) hn1l (u1.ext hA6).2.2)
    have HADD := Lib.hid (rowadd_any ps[j].gs ps[j].ge P.gs P.ge n1 n2 ps[j].s ps[j].e P.s P.e (wr.alloc (.cells #[.slice (some ⟨ps[j].gs, 0, none⟩) n1 n1, .slice (some ⟨ps[j].ge, 0, none⟩) n2 n2, .int .i64 ps[j].c, .int .i64 ps[j].i] 93)) hn1l hn2 u5 y1.symm y3.symm y2.symm y4.symm (u1.ext hA6) (u2.ext hA6) (hvs.ext hA6) (hve.ext hA6))
    have HA6 := Lib.hid hA6
    have HUP : Hid (∀ W, RaPost ps[j].gs ps[j].ge n1 n2 (xorV ps[j].s P.s) (xorV ps[j].e P.e) (wr.alloc (.cells #[.slice (some ⟨ps[j].gs, 0, none⟩) n1 n1, .slice (some ⟨ps[j].ge, 0, none⟩) n2 n2, .int .i64 ps[j].c, .int .i64 ps[j].i] 93)) (.returned (.tuple #[])) W → EL eb C n1 n2 (qs.set j (reM ps[j] (xorV ps[j].s P.s) (xorV ps[j].e P.e))) (.slice (some ⟨g, 0, none⟩) ps.length cv) W ∧ VRow W P.gs n1 P.s ∧ VRow W P.ge n2 P.e ∧ Kq (fun b => b ∈ pvBs ps) wA W) := by
      show ∀ _, _
      rintro W ⟨_, a1, a2, a3⟩
      have h := (HEL.out.ext HA6.out).upd j hjq (f1 := xorV ps[j].s P.s) (f2 := xorV ps[j].e P.e) (by rw [hqj]; exact a1) (by rw [hqj]; exact a2) (by rw [hqj]; exact a3)
      rw [hqj] at h
      exact ⟨h, (HVS.out.ext HA6.out).kq a3 (by unfold two; omega), (HVE.out.ext HA6.out).kq a3 (by unfold two; omega), (HK.out.ext HA6.out).trans (a3.mono fun b _ hb => by rcases hb with rfl | rfl; exact hbm.1; exact hbm.2)⟩
    have hout : outM P ps[j] = if bitV ps[j].s P.c = true then reM ps[j] (xorV ps[j].s P.s) (xorV ps[j].e P.e) else ps[j] := rfl
    have HNX := Lib.hid hnx
    have HQJ := Lib.hid hqj
    have i1 : (0 : Int) ≤ (j : Int) := by omega
    have i2 : (j : Int) < (ps.length : Int) := by omega
    clear hel hvs hve hK u1 u2 u3 u4 u5 u6 y1 y2 y3 y4 hbm hnx hqj hql hA6
    generalize ps[j] = Z at p0 p1 p2 p3 HHAS HADD HA6 HUP hout HNX HQJ
    cases hb : bitV Z.s P.c
    · rw [hb] at HHAS hout
      have HO2 : Hid (outM P Z = Z) := by show _ = _; rw [hout]; rfl
      clear hout hb
      go_wp2_with (go_at_call 66; refine (HHAS.out).mono ?_; rintro e w6 ⟨he, hw⟩; subst he; subst hw)
      go_roundw
      case rel => exact ⟨j + 1, qs, by omega, by go_num, HQL.out, by show ∀ _, _; intro k; have := HNX.out Z HO2.out k; rw [← HQJ.out, List.set_getElem_self] at this; exact this, HEL.out.ext HA6.out, HVS.out.ext HA6.out, HVE.out.ext HA6.out, HK.out.ext HA6.out⟩
      case measure => simp [intOf]; omega
    · rw [hb] at HHAS hout
      have HO2 : Hid (outM P Z = reM Z (xorV Z.s P.s) (xorV Z.e P.e)) := by show _ = _; rw [hout]; rfl
      clear hout hb
      go_wp2_with (first
        | (go_at_call 66; refine (HHAS.out).mono ?_; rintro e w6 ⟨he, hw⟩; subst he; subst hw)
        | (go_at_call 67; refine (HADD.out).mono ?_; intro e w7 h7; have hu := (have he := h7.1; HUP.out w7 (by rw [← he]; exact h7)); obtain ⟨he, _⟩ := h7; subst he; have HU := Lib.hid hu; clear hu))
      go_roundw
      case rel => exact ⟨j + 1, _, by omega, by go_num, by rw [List.length_set]; exact HQL.out, HNX.out _ HO2.out, HU.out.1, HU.out.2.1, HU.out.2.2.1, HU.out.2.2.2⟩
      case measure => simp [intOf]; omega
end Go.Proofs.YtfbomoginjknlaaDoor

/-
  THE WALK OF eliminate.
-/
namespace Go.Proofs.YtfbomoginjknlaaDoor
open Go.RowKit Go.Lib

theorem Elm.red_supp {V : Nat → Nat → Bool} {n m : Nat} {ps : List PivB} (h : Elm V n m ps) {x : Nat → Bool} (hx : ∀ j, n ≤ j → x j = false) (j : Nat) (hj : n ≤ j) : redS ps x j = false := by
  rw [(red_comb h.apt x x).1]
  show (x j ^^ combS ps x j) = false
  rw [hx j hj, combS_supp h.supp _ j hj]; rfl
theorem Elm.redE_few {V : Nat → Nat → Bool} {n m : Nat} {ps : List PivB} (h : Elm V n m ps) (x : Nat → Bool) (i : Nat) (hi : m ≤ i) : redE ps x b0 i = false := by
  rw [(red_comb h.apt x b0).2, bx_comm, bx_zero]
  exact combE_few h.few x i hi
/-- What first says of a vector whose bits end. -/
theorem first_bits {n m : Nat} {f : Nat → Nat} {X : Nat → Bool} {e : Ending} (h : FirstV n f e) (hX : bitV f = X) (hs : ∀ j, m ≤ j → X j = false) (hm : m ≤ n * 64) :
    (e = .returned (.int .i64 (-1)) ∧ X = b0) ∨ ∃ c : Nat, e = .returned (.int .i64 c) ∧ c < m ∧ X c = true := by
  rcases h with ⟨he, h0⟩ | ⟨c, _, he, h1, _⟩
  · refine Or.inl ⟨he, ?_⟩
    funext j
    rcases Nat.lt_or_ge j (n * 64) with hj | hj
    · rw [← hX]; exact h0 j hj
    · exact hs j (by omega)
  · refine Or.inr ⟨c, he, ?_, by rw [← hX]; exact h1⟩
    rcases Nat.lt_or_ge c m with hc | hc
    · exact hc
    · rw [hX, hs c hc] at h1; cases h1
theorem setV_bone {f : Nat → Nat} {Y : Nat → Bool} {i : Nat} (hf : bitV f = Y) (hi : Y i = false) : bitV (setV f i) = bx Y (bone i) := by
  funext j
  rw [setV_bits, hf]
  show _ = (Y j ^^ decide (j = i))
  by_cases e : j = i
  · rw [e, hi, decide_eq_true rfl]; rfl
  · rw [decide_eq_false e, Bool.false_or, Bool.xor_false]
/-- What eliminate gives back. -/
structure Found (ts us : List Tm) (w : World) (eb : Nat) (C : List Tm) (ps : List PvM) (v : Value) (w' : World) : Prop where
  cols : ColsT C us
  el : EL eb C ((C.length + 63) / 64) ((ts.length + 63) / 64) ps v w'
  elm : Elm (rowV C ts) C.length ts.length (ps.map pvB)
  len : ps.length ≤ ts.length
  new : w.heap.size ≤ eb
  ext : Ext w w'
def EliPost (ts us : List Tm) (w : World) (e : Ending) (w' : World) : Prop :=
  ∃ eb C ps v, e = .returned (.pointer (some ⟨eb, 0, none⟩)) ∧ Found ts us w eb C ps v w'
theorem rowV_at {C ts : List Tm} {j : Nat} (h : j < ts.length) : rowV C ts j = chiP C (addT ts[j]) := by
  unfold rowV
  rw [List.getD_eq_getElem?_getD, List.getElem?_eq_getElem h]; rfl
set_option maxHeartbeats 3200000 in
set_option maxRecDepth 100000 in
theorem eliminate_any (ts fs us : List Tm) (xl xf : Option Addr) (cl cf : Nat) (w : World) (hus : us = ts ++ fs) (hn : us.length ≤ 1048576) (hsz : sizes us ≤ 1048576) (hcl : ts.length ≤ cl) (hcf : fs.length ≤ cf) (hT : TabQ w) (hL : Row w ts xl) (hF : Row w fs xf) :
    Calls Tryd.prog 39 #[.slice xl ts.length cl, .slice xf fs.length cf] w (EliPost ts us w) := by
  have hln := hn
  rw [hus, List.length_append] at hln
  have HCC : Hid (∀ H, w.heap.size = H → Calls Tryd.prog 61 #[.slice (some ⟨H, 0, none⟩) 2 2] (w.alloc (.cells #[.slice xl ts.length cl, .slice xf fs.length cf] 22)) (CatTPost (w.alloc (.cells #[.slice xl ts.length cl, .slice xf fs.length cf] 22)) us)) := by
    show ∀ _, _
    intro H hH
    have h := concatT_any [ts, fs] (some ⟨H, 0, none⟩) 2 (w.alloc (.cells #[.slice xl ts.length cl, .slice xf fs.length cf] 22)) (by simp) (by simp; omega) (TsRow_two hH rfl rfl hcl hcf hL hF _)
    have e : [ts, fs].flatten = us := by rw [hus]; simp
    rw [e] at h
    exact h
  have HCO := Lib.hid (fun (W : World) xa cap (r : Row W us xa) => columnsOfT_any us xa cap W hn hsz r)
  have HLR := Lib.hid hL
  have HT := Lib.hid hT
  have HMEM : Hid (∀ u ∈ ts, size u ≤ 1048576) := fun u hu => by have := size_le_sizes (l := us) (t := u) (by rw [hus]; exact List.mem_append_left fs hu); omega
  have HSUB : Hid (∀ C, ColsT C us → ∀ j (h : j < ts.length), ∀ u ∈ summT ts[j], u ∈ C) := fun C h j hj u hu => (h.mem u).2 ⟨ts[j], by rw [hus]; exact List.mem_append_left fs (List.getElem_mem hj), hu⟩
  have HSZ := Lib.hid hsz
  obtain ⟨n2, hn2⟩ : ∃ n2, (ts.length + 63) / 64 = n2 := ⟨_, rfl⟩
  have HN2 := Lib.hid hn2
  have hn2l : n2 ≤ 1048576 := by omega
  have hn64 : ts.length ≤ n2 * 64 := by omega
  clear hL hF hT hsz hn hn2 hcl hcf hus
  go_enter Tryd.func39, Tryd.ntmps39
  go_upto_region 2 with (first
    | (go_at_call 61; refine (HCC.out _ (by simp)).mono ?_; rintro e w3 ⟨v3, he, hO, hB⟩; subst he; obtain ⟨x3, c3, hv3⟩ := OwnT_form hO; subst hv3; have HX3 := Lib.hid (((Ext.refl w).alloc _).trans hB); have HO3 := Lib.hid (OwnT_rowQ hO).1; clear hO hB)
    | (go_at_call 60; refine (HCO.out _ _ _ HO3.out).mono ?_; rintro e w4 ⟨C, x4, c4, he, h1, h2, h3, h4⟩; subst he; have HX4 := Lib.hid (HX3.out.trans h4); have HC := Lib.hid (And.intro h1 (And.intro h2 h3)); clear h1 h2 h3 h4))
  have hcc := HC.out.2.2.len
  have hcsz := HSZ.out
  have hbn := heap_alloc_new w4 (.cells #[.slice x4 C.length c4, .slice none 0 0] 91)
  have hA : Ext w4 (w4.alloc (.cells #[.slice x4 C.length c4, .slice none 0 0] 91)) := (Ext.refl w4).alloc _
  have hsz5 : (w4.alloc (.cells #[.slice x4 C.length c4, .slice none 0 0] 91)).heap.size = w4.heap.size + 1 := World.size_alloc _ _
  obtain ⟨eb, hH⟩ : ∃ H, w4.heap.size = H := ⟨_, rfl⟩
  obtain ⟨n1, hn1⟩ : ∃ n1, (C.length + 63) / 64 = n1 := ⟨_, rfl⟩
  have hEL0 : EL eb C n1 n2 [] (.slice none 0 0) (w4.alloc (.cells #[.slice x4 C.length c4, .slice none 0 0] 91)) := by
    rw [hH] at hbn
    obtain ⟨⟨e0, e1⟩, ef⟩ := box2_facts hbn
    have hri := Row_RowInQ _ _ HC.out.2.1
    rw [hH] at hri
    exact ⟨⟨x4, c4, e0, HC.out.1, RowIn_carryQ (fun b (hb : b < eb) => hA.block b (by omega)) _ _ hri⟩, HC.out.2.2.asc, fun u hu => by have := HC.out.2.2.small u hu; omega, by omega, e1, ef, World.ownsRow_nil _ _ _ _, fun p hp => absurd hp (by simp), List.Pairwise.nil, fun p hp => absurd hp (by simp)⟩
  have hX5 : Ext w (w4.alloc (.cells #[.slice x4 C.length c4, .slice none 0 0] 91)) := HX4.out.trans hA
  have hwe : w.heap.size ≤ eb := by have := HX4.out.size; omega
  rw [hH] at hsz5 ⊢
  generalize w4.alloc (.cells #[.slice x4 C.length c4, .slice none 0 0] 91) = w5 at hEL0 hX5 hsz5 ⊢
  have HE0 := Lib.hid (And.intro hEL0 (And.intro hX5 hsz5))
  have HWE := Lib.hid hwe
  have HN1 := Lib.hid hn1
  have hn1l : n1 ≤ 1048576 := by omega
  have hn164 : C.length ≤ n1 * 64 := by omega
  have HSB2 := Lib.hid (HSUB.out C HC.out.2.2)
  clear hEL0 hX5 hsz5 hbn hA hcc hn1 hwe hcsz
  go_wp2_with fail
  go_loopw [18] (fun i wr => ∃ (j : Nat) (ps : List PvM) (v : Value), j ≤ ts.length ∧ i = .int .i64 j ∧ EL eb C n1 n2 ps v wr ∧ Hid (Elm (rowV C ts) C.length j (ps.map pvB)) ∧ ps.length ≤ j ∧ Below eb w5 wr) (fun i _ => ts.length - (intOf i).toNat)
  case atStart => exact ⟨0, [], _, Nat.zero_le _, rfl, HE0.out.1, Elm.nil _ _, Nat.le_refl _, Below.refl _ _⟩
  case round =>
    obtain ⟨j, ps, v, hj, rfl, hel, HM, hpl, hB⟩ := hrel
    have hxr : Ext w wr := Below.trans HE0.out.2.1 (hB.mono HWE.out)
    have HXR := Lib.hid hxr
    have HB := Lib.hid hB
    have HEL := Lib.hid hel
    by_cases hlt : j < ts.length
    rotate_left
    · have hjl : j = ts.length := by omega
      have HQ : Hid (EliPost ts us w (.returned (.pointer (some ⟨eb, 0, none⟩))) wr) := by
        refine ⟨eb, C, ps, v, rfl, HC.out.2.2, ?_, ?_, by omega, HWE.out, hxr⟩
        · rw [HN1.out, HN2.out]; exact hel
        · have := HM.out; rw [hjl] at this; exact this
      clear hel hB hxr hjl
      go_wp2_with fail
      go_ret
      exact HQ.out
    obtain ⟨kb, ko, rfl⟩ := Row_at HLR.out (by omega)
    obtain ⟨x0, x1, x2, x3', p0, p1, p2, p3, hKI⟩ := Row_get (Row_below HLR.out hxr) j hlt
    obtain ⟨k1, m1, s1, ya1, yl1, yc1, rfl, rfl, rfl, rfl⟩ := Is_form hKI
    have HRD := Lib.hid (reduced_any eb n1 n2 ts.length C ps v ts[j] _ _ _ _ wr HN1.out HN2.out (by omega) (by omega) hel (HMEM.out _ (List.getElem_mem hlt)) (HSB2.out j hlt) hKI)
    rw [← rowV_at hlt] at HRD
    have hsuppV : ∀ i, C.length ≤ i → rowV C ts j i = false := fun i hi => chiP_supp _ _ _ hi
    have HSUP := Lib.hid (HM.out.red_supp hsuppV)
    have HFEW := Lib.hid (HM.out.redE_few (rowV C ts j) j (Nat.le_refl _))
    have HSKIP := Lib.hid (fun h => HM.out.skip h)
    have HTAKE := Lib.hid (fun c (h : redS (ps.map pvB) (rowV C ts j) c = true) => HM.out.take (c := c) hsuppV h)
    have i1 : (0 : Int) ≤ (j : Int) := by omega
    have i2 : (j : Int) < (ts.length : Int) := by omega
    generalize redS (ps.map pvB) (rowV C ts j) = X at HRD HSUP HSKIP HTAKE
    generalize redE (ps.map pvB) (rowV C ts j) b0 = Y at HRD HFEW HTAKE
    clear hel hB hxr hKI hsuppV
    go_upto_region 6 with (go_at_call 40; refine (HRD.out).mono ?_; rintro e w6 ⟨gs, ge, fs6, fe6, he, hg1, hg2, hg3, hv1, hv2, hb1, hb2, hx⟩; subst he; have HX6 := Lib.hid hx; have HV6 := Lib.hid (And.intro hv1 (And.intro hv2 (And.intro hb1 hb2))); have HG6 := Lib.hid (And.intro hg1 (And.intro hg2 hg3)); clear hx hv1 hv2 hb1 hb2 hg1 hg2 hg3)
    have hbn := heap_alloc_new w6 (.cells #[.slice (some ⟨gs, 0, none⟩) n1 n1, .slice (some ⟨ge, 0, none⟩) n2 n2] 67)
    have hA : Ext w6 (w6.alloc (.cells #[.slice (some ⟨gs, 0, none⟩) n1 n1, .slice (some ⟨ge, 0, none⟩) n2 n2] 67)) := (Ext.refl w6).alloc _
    have hgsl := HV6.out.1.1
    have hgel := HV6.out.2.1.1
    obtain ⟨H, hH⟩ : ∃ H, w6.heap.size = H := ⟨_, rfl⟩
    rw [hH] at hbn ⊢
    have hw7s := World.size_alloc w6 (.cells #[.slice (some ⟨gs, 0, none⟩) n1 n1, .slice (some ⟨ge, 0, none⟩) n2 n2] 67)
    generalize w6.alloc (.cells #[.slice (some ⟨gs, 0, none⟩) n1 n1, .slice (some ⟨ge, 0, none⟩) n2 n2] 67) = w7 at hbn hA hw7s ⊢
    obtain ⟨⟨r0, r1⟩, _⟩ := box2_facts hbn
    have hx7 : Ext wr w7 := HX6.out.trans hA
    have HX7 := Lib.hid hx7
    have HV7 := Lib.hid (And.intro (HV6.out.1.ext hA) (HV6.out.2.1.ext hA))
    have HFI := Lib.hid (first_any gs n1 n1 fs6 w7 hn1l HV7.out.1.2.2 (HT.out.ext (HXR.out.trans hx7)))
    have HSET := Lib.hid (vset_any ge n2 n2 j fe6 w7 (by omega) hn2l HV7.out.2)
    have HR8 : Hid (∀ W, But ge w7 W → W.cell? ⟨H, 0, none⟩ = some (.slice (some ⟨gs, 0, none⟩) n1 n1) ∧ W.cell? ⟨H, 1, none⟩ = some (.slice (some ⟨ge, 0, none⟩) n2 n2)) := by
      show ∀ _, _
      intro W b
      have hh := (b.block H (by omega) (by simp only [ne_eq, Option.some.injEq]; omega)).trans hbn
      exact (box2_facts hh).1
    have HINC : Hid (∀ (W : World) (c : Nat), But ge w7 W → VRow W ge n2 (setV fe6 j) → c < C.length → Calls Tryd.prog 63 #[.pointer (some ⟨eb, 0, none⟩), .agg #[.slice (some ⟨gs, 0, none⟩) n1 n1, .slice (some ⟨ge, 0, none⟩) n2 n2, .int .i64 c, .int .i64 j]] W (IncPost eb n1 n2 C (incM ps ⟨gs, ge, fs6, setV fe6 j, c, j⟩) W)) := by
      show ∀ _, _
      intro W c b hv hc
      have he7 := HEL.out.ext hx7
      have hkq : Kq (fun x => x = ge) w7 W := Kq.ofBut b rfl
      obtain ⟨y1, y2, y3⟩ := HG6.out
      have hlb := HEL.out.lt
      have hvp : ∀ p ∈ ps, p.gs < wr.heap.size ∧ p.ge < wr.heap.size := fun p hp => ⟨(HEL.out.vec p hp).1.1, (HEL.out.vec p hp).2.1.1⟩
      have hvo : ∀ q, v.ownBlock = some q → q < wr.heap.size := fun q hq => (HEL.out.own.lt q hq).2
      refine include_any eb n1 n2 C ps v ⟨gs, ge, fs6, setV fe6 j, c, j⟩ W HN1.out hn2l (by omega) (he7.keep hkq (fun q hq => by subst hq; omega) (fun p hp => ?_) (fun q hq => ?_)) (HV7.out.1.kq hkq y3) hv (by simp only; omega) (by simp only; omega) y3 hc (fun p hp => ?_) (fun hq => ?_) (fun hq => ?_)
      · have := hvp p hp; omega
      · have := hvo q hq; omega
      · have := hvp p hp; simp only; omega
      · have := hvo _ hq; simp only at this; omega
      · have := hvo _ hq; simp only at this; omega
    have HNEW : Hid (∀ c, c < C.length → X c = true → Elm (rowV C ts) C.length (j + 1) ((incM ps ⟨gs, ge, fs6, setV fe6 j, c, j⟩).map pvB)) := by
      show ∀ _, _
      intro c _ hc
      rw [pvB_inc]
      have e : pvB ⟨gs, ge, fs6, setV fe6 j, c, j⟩ = ⟨X, bx Y (bone j), c, j⟩ := by
        unfold pvB
        rw [HV6.out.2.2.1, setV_bone HV6.out.2.2.2 HFEW.out]
      rw [e]
      exact HTAKE.out c hc
    have HFB := Lib.hid (fun e (h : FirstV n1 fs6 e) => first_bits h HV6.out.2.2.1 HSUP.out hn164)
    have HBL : Hid (∀ W, Ext wr W → Below eb w5 W) := fun W x => HB.out.trans (x.mono (Nat.le_of_lt HEL.out.lt))
    clear hbn hA hgsl hgel hw7s hx7
    go_upto_region 7 with (go_at_call 41; refine (HFI.out).mono ?_; rintro e w8 ⟨hf, hw⟩; subst hw; rcases HFB.out _ hf with ⟨he, hz⟩ | ⟨c, he, hc1, hc2⟩ <;> subst he)
    · have HZ := Lib.hid (HSKIP.out hz)
      clear hf hz
      go_wp2_with fail
      go_roundw
      case rel => exact ⟨j + 1, ps, v, by omega, by go_num, HEL.out.ext HX7.out, HZ.out, by omega, HBL.out _ HX7.out⟩
      case measure => simp [intOf]; omega
    · have HN := Lib.hid (HNEW.out c hc1 hc2)
      have q7 : ((c : Int) != -1) = true := by rw [bne_iff_ne]; omega
      clear hf hc2
      go_wp2_with (first
        | (go_at_call 62; refine (HSET.out).mono ?_; rintro e w9 ⟨he, hv, hb⟩; subst he; obtain ⟨r0, r1⟩ := HR8.out _ hb; have HV9 := Lib.hid (And.intro hb hv); clear hv hb)
        | (go_at_call 63; refine (HINC.out _ c HV9.out.1 HV9.out.2 hc1).mono ?_; rintro e w10 ⟨he, v10, h1, h2⟩; subst he; have HI10 := Lib.hid (And.intro h1 h2); clear h1 h2))
      go_roundw
      case rel =>
        refine ⟨j + 1, incM ps ⟨gs, ge, fs6, setV fe6 j, c, j⟩, v10, by omega, by go_num, HI10.out.1, HN.out, by unfold incM; simp; omega, ?_⟩
        have h1 := HBL.out _ HX7.out
        have h2 := HEL.out.lt
        have h3 := HX7.out.size
        have h4 := HG6.out.2.1
        exact h1.trans ((HV9.out.1.toBelow (by omega) (by omega)).trans HI10.out.2)
      case measure => simp [intOf]; omega
end Go.Proofs.YtfbomoginjknlaaDoor

/-
  THE WALK OF Span.
-/
namespace Go.Proofs.YtfbomoginjknlaaDoor
open Go.RowKit Go.Lib

/-- What Span gives back. -/
def SpanPost (ts : List Tm) (t : Tm) (w : World) (e : Ending) (w' : World) : Prop :=
  ∃ c E v, e = .returned (.tuple #[v, .int .i64 E]) ∧ SpanR ts t c E ∧ c.length ≤ ts.length ∧ IntsV w' v c ∧ Ext w w'
theorem IntsV_none (w : World) : IntsV w (.slice none 0 0) [] := ⟨none, 0, rfl, Nat.zero_le _, fun _ h => absurd h (by simp), fun h => absurd h (by simp)⟩
theorem onesI_range {m : Nat} {A : Nat → Bool} (hm : m ≤ 1048576) : ∀ x ∈ onesI m A, -9223372036854775808 ≤ x ∧ x ≤ 9223372036854775807 := fun x hx => by
  obtain ⟨i, h1, _, rfl⟩ := onesI_mem.1 hx
  omega
theorem onesI_more {m n : Nat} {A : Nat → Bool} (h : ∀ i, m ≤ i → A i = false) (hn : m ≤ n) : onesI n A = onesI m A := by
  unfold onesI
  rw [onesN_more h hn]
def zBox : Obj := .cells #[.slice none 0 0, .slice none 0 0] 67 (0, 0)
/-- What is left of a term, in a box. -/
def LeftAt (ts us : List Tm) (t : Tm) (w3 wc : World) (s7 : Value) : Prop :=
  ∃ (rb gs ge : Nat) (fs fe : Nat → Nat) (C : List Tm) (ps : List PvM), s7 = .pointer (some ⟨rb, 0, none⟩) ∧ (wc.cell? ⟨rb, 0, none⟩ = some (.slice (some ⟨gs, 0, none⟩) ((C.length + 63) / 64) ((C.length + 63) / 64)) ∧ wc.cell? ⟨rb, 1, none⟩ = some (.slice (some ⟨ge, 0, none⟩) ((ts.length + 63) / 64) ((ts.length + 63) / 64))) ∧
    VRow wc gs ((C.length + 63) / 64) fs ∧ VRow wc ge ((ts.length + 63) / 64) fe ∧ bitV fs = redS (ps.map pvB) (chiP C (addT t)) ∧ bitV fe = redE (ps.map pvB) (chiP C (addT t)) b0 ∧ ColsT C us ∧ Elm (rowV C ts) C.length ts.length (ps.map pvB) ∧ C.length ≤ 1048576 ∧ Ext w3 wc
theorem set2_ext {a W : World} {rb : Nat} {x y : Value} (h : Ext a W) (hle : a.heap.size ≤ rb) : Ext a ((W.setCell ⟨rb, 0, none⟩ x).setCell ⟨rb, 1, none⟩ y) :=
  (h.setCell (p := ⟨rb, 0, none⟩) hle x).setCell (p := ⟨rb, 1, none⟩) hle y
theorem left_new {ts us : List Tm} {t : Tm} {w3 w6 : World} {gs ge : Nat} {fs fe : Nat → Nat} {C : List Tm} {ps : List PvM} (v1 : VRow w6 gs ((C.length + 63) / 64) fs) (v2 : VRow w6 ge ((ts.length + 63) / 64) fe) (e1 : bitV fs = redS (ps.map pvB) (chiP C (addT t))) (e2 : bitV fe = redE (ps.map pvB) (chiP C (addT t)) b0) (hc : ColsT C us) (hm : Elm (rowV C ts) C.length ts.length (ps.map pvB)) (hl : C.length ≤ 1048576) (hx : Ext w3 w6) :
    LeftAt ts us t w3 (w6.alloc (.cells #[.slice (some ⟨gs, 0, none⟩) ((C.length + 63) / 64) ((C.length + 63) / 64), .slice (some ⟨ge, 0, none⟩) ((ts.length + 63) / 64) ((ts.length + 63) / 64)] 67)) (.pointer (some ⟨w6.heap.size, 0, none⟩)) := by
  have hA := (Ext.refl w6).alloc (.cells #[.slice (some ⟨gs, 0, none⟩) ((C.length + 63) / 64) ((C.length + 63) / 64), .slice (some ⟨ge, 0, none⟩) ((ts.length + 63) / 64) ((ts.length + 63) / 64)] 67)
  exact ⟨w6.heap.size, gs, ge, fs, fe, C, ps, rfl, (box2_facts (heap_alloc_new w6 _)).1, v1.ext hA, v2.ext hA, e1, e2, hc, hm, hl, hx.trans hA⟩
theorem left_put {ts us : List Tm} {t : Tm} {w3 w6 : World} {gs ge rb : Nat} {fs fe : Nat → Nat} {C : List Tm} {ps : List PvM} (hz : w6.heap[rb]? = some zBox) (hle : w3.heap.size ≤ rb) (hgs : gs ≠ rb) (hge : ge ≠ rb) (v1 : VRow w6 gs ((C.length + 63) / 64) fs) (v2 : VRow w6 ge ((ts.length + 63) / 64) fe) (e1 : bitV fs = redS (ps.map pvB) (chiP C (addT t))) (e2 : bitV fe = redE (ps.map pvB) (chiP C (addT t)) b0) (hc : ColsT C us) (hm : Elm (rowV C ts) C.length ts.length (ps.map pvB)) (hl : C.length ≤ 1048576) (hx : Ext w3 w6) :
    LeftAt ts us t w3 ((w6.setCell ⟨rb, 0, none⟩ (.slice (some ⟨gs, 0, none⟩) ((C.length + 63) / 64) ((C.length + 63) / 64))).setCell ⟨rb, 1, none⟩ (.slice (some ⟨ge, 0, none⟩) ((ts.length + 63) / 64) ((ts.length + 63) / 64))) (.pointer (some ⟨rb, 0, none⟩)) := by
  obtain ⟨⟨z0, z1⟩, _⟩ := box2_facts hz
  have hfar : ∀ b, b ≠ rb → ((w6.setCell ⟨rb, 0, none⟩ (.slice (some ⟨gs, 0, none⟩) ((C.length + 63) / 64) ((C.length + 63) / 64))).setCell ⟨rb, 1, none⟩ (.slice (some ⟨ge, 0, none⟩) ((ts.length + 63) / 64) ((ts.length + 63) / 64))).heap[b]? = w6.heap[b]? := fun b hb => by
    rw [Below.heap_setCell _ _ _ _ (by simp only; omega), Below.heap_setCell _ _ _ _ (by simp only; omega)]
  refine ⟨rb, gs, ge, fs, fe, C, ps, rfl, ⟨?_, ?_⟩, v1.carry (by simp [World.setCell]) (hfar gs hgs), v2.carry (by simp [World.setCell]) (hfar ge hge), e1, e2, hc, hm, hl, set2_ext hx hle⟩
  · rw [setOtherV (fun e => by simp at e)]; exact setSameV z0
  · exact setSameV (u := .slice none 0 0) (by rw [setOtherV (fun e => by simp at e)]; exact z1)
set_option maxHeartbeats 3200000 in
set_option maxRecDepth 100000 in
theorem Span_any (ts : List Tm) (t : Tm) (xl : Option Addr) (cl : Nat) (c0 c1 c2 c3 : Value) (w : World) (hn : ts.length ≤ 1000000) (hsz : sizes ts + size t ≤ 1048576) (hcl : ts.length ≤ cl) (hT : TabQ w) (hL : Row w ts xl) (hI : Is w t c0 c1 c2 c3) :
    Calls Tryd.prog 20 #[.slice xl ts.length cl, .agg #[c0, c1, c2, c3]] w (SpanPost ts t w) := by
  obtain ⟨k2, m2, s2, ya2, yl2, yc2, rfl, rfl, rfl, rfl⟩ := Is_form hI
  have hB1 : Ext w (w.alloc (.cells #[.int .i64 k2, .string m2, .int .i64 s2, .slice ya2 yl2 yc2] 24)) := (Ext.refl _).alloc _
  have HBK : Hid (∀ W, Ext (w.alloc (.cells #[.int .i64 k2, .string m2, .int .i64 s2, .slice ya2 yl2 yc2] 24)) W → W.cell? ⟨w.heap.size, 0, none⟩ = some (.int .i64 k2) ∧ W.cell? ⟨w.heap.size, 1, none⟩ = some (.string m2) ∧ W.cell? ⟨w.heap.size, 2, none⟩ = some (.int .i64 s2) ∧ W.cell? ⟨w.heap.size, 3, none⟩ = some (.slice ya2 yl2 yc2)) := by
    show ∀ _, _
    intro W x
    have hh := x.block w.heap.size (by simp)
    rw [heap_alloc_new] at hh
    exact (box_facts hh).1
  obtain ⟨b0', b1', b2', b3'⟩ := HBK.out _ (Ext.refl _)
  have hszt : size t ≤ 1048576 := by omega
  have hmem : ∀ u ∈ ts, size u ≤ 1048576 := fun u hu => by have := size_le_sizes hu; omega
  have HSE := Lib.hid (spanError_any ts t xl cl _ _ _ _ _ (by omega) (fun u hu => by have := hmem u hu; omega) (by omega) (Row_below hL hB1) (Is_below hI hB1))
  have happ : ∀ (l : List Tm) (u : Tm), sizes (l ++ [u]) = sizes l + size u := by
    intro l u
    induction l with
    | nil => simp [sizes]
    | cons x l ih => rw [List.cons_append, sizes, sizes, ih]; omega
  have HEL : Hid (∀ W x, Ext w W → Row W [t] x → Calls Tryd.prog 39 #[.slice xl ts.length cl, .slice x 1 1] W (EliPost ts (ts ++ [t]) W)) := by
    show ∀ _, _
    intro W x y r
    exact eliminate_any ts [t] (ts ++ [t]) xl x cl 1 W rfl (by simp; omega) (by rw [happ]; omega) hcl (by simp) (hT.ext y) (Row_below hL y) r
  have HRW : Hid (∀ W H, Ext w W → W.heap.size = H → Row (W.alloc (.cells #[.int .i64 k2, .string m2, .int .i64 s2, .slice ya2 yl2 yc2] 24)) [t] (some ⟨H, 0, none⟩)) := fun W H x hH => Row_one_at H hH (Is_below hI x) _
  have HTI := Lib.hid (fun W (x : Ext w W) => Is_below (w' := W) hI x)
  have HT := Lib.hid hT
  have HB1 := Lib.hid hB1
  have HN := Lib.hid hn
  have HZ := Lib.hid hszt
  obtain ⟨VE, hVE⟩ : ∃ VE, vE ts t = VE := ⟨_, rfl⟩
  rw [hVE] at HSE
  have HVE := Lib.hid hVE
  clear hL hI hB1 hsz hszt hmem happ hT hVE hcl
  by_cases hv : VE = 0
  rotate_left
  · have q0 : (VE != 0) = true := bne_iff_ne.2 hv
    have HQ : Hid (∀ W, Ext w W → SpanPost ts t w (.returned (.tuple #[.slice none 0 0, .int .i64 VE])) W) := fun W x => ⟨[], VE, _, rfl, Or.inl ⟨by rw [HVE.out]; exact hv, HVE.out.symm, rfl⟩, Nat.zero_le _, IntsV_none _, x⟩
    clear hv
    go_enter Tryd.func20, Tryd.ntmps20
    go_wp2_with (go_at_call 38; refine (HSE.out).mono ?_; rintro e w3 ⟨he, hB⟩; subst he; have HX3 := Lib.hid (HB1.out.trans hB); clear hB)
    exact bodyPost_ret (v := .tuple #[.slice none 0 0, .int .i64 VE]) (by simp [results, Tryd.results20, go_sem]) rfl (HQ.out _ HX3.out)
  subst hv
  have q0 : ((0 : Int) != 0) = false := rfl
  go_enter Tryd.func20, Tryd.ntmps20
  go_upto_region 4 with (go_at_call 38; refine (HSE.out).mono ?_; rintro e w3 ⟨he, hB⟩; subst he; obtain ⟨b0', b1', b2', b3'⟩ := HBK.out _ hB; have HX3 := Lib.hid hB; clear hB)
  have hF0 : Ext w3 w3.drew := (Ext.refl w3).drew
  have HE3 : Hid (Ext w w3) := Lib.hid (HB1.out.trans HX3.out)
  have HE3L := Lib.hid (fun W x (y : Ext w3 W) (r : Row W [t] x) => (HEL.out W x (HE3.out.trans y) r).mono (R' := fun e w' => ∃ eb C ps v, e = .returned (.pointer (some ⟨eb, 0, none⟩)) ∧ Found ts (ts ++ [t]) W eb C ps v w' ∧ Ext w3 w') (fun e w' ⟨eb, C, ps, v, he, hf⟩ => ⟨eb, C, ps, v, he, hf, y.trans hf.ext⟩))
  have HRD := Lib.hid (fun (W0 w5 W : World) eb C ps v (hf : Found ts (ts ++ [t]) W0 eb C ps v w5) (y : Ext w3 w5) (z : Ext w5 W) => (reduced_any eb _ _ ts.length C ps v t (.int .i64 k2) (.string m2) (.int .i64 s2) (.slice ya2 yl2 yc2) W rfl rfl (by have := HN.out; omega) (by have := hf.len; have := HN.out; omega) (hf.el.ext z) HZ.out (fun u hu => (hf.cols.mem u).2 ⟨t, by simp, hu⟩) (HTI.out _ ((HE3.out.trans y).trans z))))
  have HR1 := Lib.hid (Row_below (HRW.out w3 _ HE3.out rfl) ((Ext.refl _).drew))
  have HR3 := Lib.hid (Row_below (HRW.out w3 _ HE3.out rfl) (((Ext.refl _).alloc (.cells #[.slice none 0 0, .slice none 0 0] 67)).drew))
  have HR4 : Hid (Row (((w3.alloc (.cells #[.slice none 0 0, .slice none 0 0] 67)).alloc (.cells #[.int .i64 k2, .string m2, .int .i64 s2, .slice ya2 yl2 yc2] 24)).drew) [t] (some ⟨w3.heap.size + 1, 0, none⟩)) := Row_below (HRW.out (w3.alloc (.cells #[.slice none 0 0, .slice none 0 0] 67)) _ (HE3.out.alloc _) (by rw [World.size_alloc])) ((Ext.refl _).drew)
  have HZ3 : Hid ((((w3.alloc (.cells #[.int .i64 k2, .string m2, .int .i64 s2, .slice ya2 yl2 yc2] 24)).alloc (.cells #[.slice none 0 0, .slice none 0 0] 67)).drew).heap[w3.heap.size + 1]? = some zBox) := by
    have := heap_alloc_new (w3.alloc (.cells #[.int .i64 k2, .string m2, .int .i64 s2, .slice ya2 yl2 yc2] 24)) (.cells #[.slice none 0 0, .slice none 0 0] 67)
    rw [World.size_alloc] at this
    exact this
  have HZ4 : Hid ((((w3.alloc (.cells #[.slice none 0 0, .slice none 0 0] 67)).alloc (.cells #[.int .i64 k2, .string m2, .int .i64 s2, .slice ya2 yl2 yc2] 24)).drew).heap[w3.heap.size]? = some zBox) := by
    have := ((Ext.refl (w3.alloc (.cells #[.slice none 0 0, .slice none 0 0] 67))).alloc (.cells #[.int .i64 k2, .string m2, .int .i64 s2, .slice ya2 yl2 yc2] 24)).block w3.heap.size (by simp)
    exact this.trans (heap_alloc_new w3 (.cells #[.slice none 0 0, .slice none 0 0] 67))
  go_cut [7] (fun s7 wc => LeftAt ts (ts ++ [t]) t w3 wc s7)
  case first =>
    go_region_held3 (fun W => W.cell? ⟨w.heap.size, 0, none⟩ = some (.int .i64 k2) ∧ W.cell? ⟨w.heap.size, 1, none⟩ = some (.string m2) ∧ W.cell? ⟨w.heap.size, 2, none⟩ = some (.int .i64 s2) ∧ W.cell? ⟨w.heap.size, 3, none⟩ = some (.slice ya2 yl2 yc2))
      (first | exact HBK.out _ (HX3.out.trans (by assumption)) | exact HBK.out _ (HX3.out.trans (Ext.alloc (by assumption) _)) | exact HBK.out _ (HX3.out.trans (set2_ext hF2 HLE.out)) | go_keep)
      (first
        | (go_at_call 39; refine (HE3L.out _ _ (by first | exact ((Ext.refl w3).alloc _).drew | exact (((Ext.refl w3).alloc _).alloc _).drew) (by first | exact HR1.out | exact HR3.out | exact HR4.out)).mono ?_; rintro e w5 ⟨eb, C, ps, v, he, hf, hF1⟩; subst he; (first | (have HY3 := Lib.hid ((hf.ext.block (w3.heap.size + 1) (by first | (simp; omega) | simp)).trans HZ3.out)) | (have HY4 := Lib.hid ((hf.ext.block w3.heap.size (by first | (simp; omega) | simp)).trans HZ4.out)) | skip); have HF5 := Lib.hid hf; clear hf)
        | (go_at_call 40; refine (HRD.out _ _ _ _ _ _ _ HF5.out hF1 (by first | exact Ext.refl _ | exact (Ext.refl _).alloc _)).mono ?_; rintro e w6 ⟨gs, ge, fs6, fe6, he, hg1, hg2, hg3, hv1, hv2, hb1, hb2, hx⟩; subst he; have hF2 : Ext w3 w6 := Ext.trans (Ext.trans hF1 (by first | exact Ext.refl _ | exact (Ext.refl _).alloc _)) hx;
           (first
             | (have hy := (hx.block (w3.heap.size + 1) (Array.getElem?_eq_some_iff.1 HY3.out).1).trans HY3.out; have hle := (Array.getElem?_eq_some_iff.1 HY3.out).1; have HLE : Hid (w3.heap.size ≤ w3.heap.size + 1) := Lib.hid (Nat.le_succ _); have HO := Lib.hid (left_put hy (Nat.le_succ _) (by omega) (by omega) hv1 hv2 hb1 hb2 HF5.out.cols HF5.out.elm HF5.out.el.len hF2); obtain ⟨⟨z0, z1⟩, zf⟩ := box2_facts hy; have zf0 := zf 0; have zf1 := zf 1; clear zf hy hle)
             | (have hy := (hx.block w3.heap.size (Array.getElem?_eq_some_iff.1 HY4.out).1).trans HY4.out; have hle := (Array.getElem?_eq_some_iff.1 HY4.out).1; have HLE : Hid (w3.heap.size ≤ w3.heap.size) := Lib.hid (Nat.le_refl _); have HO := Lib.hid (left_put hy (Nat.le_refl _) (by omega) (by omega) hv1 hv2 hb1 hb2 HF5.out.cols HF5.out.elm HF5.out.el.len hF2); obtain ⟨⟨z0, z1⟩, zf⟩ := box2_facts hy; have zf0 := zf 0; have zf1 := zf 1; clear zf hy hle)
             | (have hy := (hx.block w5.heap.size (by simp)).trans (heap_alloc_new w5 (.cells #[.slice none 0 0, .slice none 0 0] 67)); rw [World.size_alloc] at hg1 hg2; have HLE : Hid (w3.heap.size ≤ w5.heap.size) := Lib.hid hF1.size; have HO := Lib.hid (left_put hy hF1.size (by omega) (by omega) hv1 hv2 hb1 hb2 HF5.out.cols HF5.out.elm HF5.out.el.len hF2); obtain ⟨⟨z0, z1⟩, zf⟩ := box2_facts hy; have zf0 := zf 0; have zf1 := zf 1; clear zf hy)
             | (have HO := Lib.hid (left_new hv1 hv2 hb1 hb2 HF5.out.cols HF5.out.elm HF5.out.el.len hF2)));
           clear hv1 hv2 hb1 hb2 hg1 hg2 hg3 hx))
    all_goals go_wp2_with fail
    all_goals go_meet
    all_goals exact HO.out
  case rest =>
    obtain ⟨H, gs, ge, fs6, fe6, C, ps, he7, hr, hv1, hv2, hb1, hb2, hcc, hmm, hcl, hx7⟩ := hcut
    subst he7
    obtain ⟨n1, hn1⟩ : ∃ n1, (C.length + 63) / 64 = n1 := ⟨_, rfl⟩
    obtain ⟨n2, hn2⟩ : ∃ n2, (ts.length + 63) / 64 = n2 := ⟨_, rfl⟩
    have hnl := HN.out
    have hn64 : C.length ≤ n1 * 64 := by omega
    have hn264 : ts.length ≤ n2 * 64 := by omega
    have hn2l : n2 ≤ 1048576 := by omega
    have hn1l : n1 ≤ 1048576 := by omega
    rw [hn1] at hr hv1
    rw [hn2] at hr hv2
    obtain ⟨r0, r1⟩ := hr
    have HE7 : Hid (Ext w wc) := Lib.hid (HE3.out.trans hx7)
    have hsupp : ∀ i, C.length ≤ i → chiP C (addT t) i = false := fun i hi => chiP_supp _ _ _ hi
    have HFI := Lib.hid (first_any gs n1 n1 fs6 wc hn1l hv1.2.2 (HT.out.ext HE7.out))
    have HON := Lib.hid (ones_any ge n2 n2 fe6 wc hn2l hv2.1 hv2.2.2 (HT.out.ext HE7.out))
    have HFB := Lib.hid (fun e (h : FirstV n1 fs6 e) => first_bits h hb1 (hmm.red_supp hsupp) hn64)
    have hone : onesI (n2 * 64) (bitV fe6) = onesI ts.length (redE (ps.map pvB) (chiP C (addT t)) b0) := by
      rw [hb2]
      exact onesI_more (fun i hi => hmm.redE_few _ i hi) hn264
    rw [hone] at HON
    have hC1 : ∀ x ∈ ts, ∀ u ∈ summT x, u ∈ C := fun x hx u hu => (hcc.mem u).2 ⟨x, List.mem_append_left _ hx, hu⟩
    have hC2 : ∀ u ∈ summT t, u ∈ C := fun u hu => (hcc.mem u).2 ⟨t, by simp, hu⟩
    have HYES : Hid (redS (ps.map pvB) (chiP C (addT t)) = b0 → ∀ W v, OwnI wc.heap.size W (onesI ts.length (redE (ps.map pvB) (chiP C (addT t)) b0)) v → Ext wc W → SpanPost ts t w (.returned (.tuple #[v, .int .i64 0])) W) := by
      show _ → _
      intro h0 W v ho x
      have hl := onesI_len ts.length (redE (ps.map pvB) (chiP C (addT t)) b0)
      exact ⟨_, 0, v, rfl, Or.inr (Or.inl ⟨HVE.out, rfl, span_found hC1 hC2 HVE.out hmm h0⟩), hl, intsV_own ho (onesI_range (by omega)) (by unfold maxLen; omega), HE7.out.trans x⟩
    have HNO : Hid (∀ c, redS (ps.map pvB) (chiP C (addT t)) c = true → SpanPost ts t w (.returned (.tuple #[.slice none 0 0, .int .i64 4])) wc) := by
      show ∀ _, _
      intro c hc
      exact ⟨[], 4, _, rfl, Or.inr (Or.inr ⟨HVE.out, rfl, rfl, span_none hC1 hC2 HVE.out hmm (fun e => by rw [e] at hc; cases hc)⟩), Nat.zero_le _, IntsV_none _, HE7.out⟩
    clear hn1 hn2 hF0 hsupp hone hC1 hC2 hcl hnl hv1 hv2 hb1 hb2 hcc hmm hx7
    go_upto_region 6 with (go_at_call 41; refine (HFI.out).mono ?_; rintro e w8 ⟨hf, hw⟩; subst hw; rcases HFB.out _ hf with ⟨he, hz⟩ | ⟨c, he, hc1, hc2⟩ <;> subst he)
    · have HY := Lib.hid (HYES.out hz)
      clear hf hz
      go_wp2_with (go_at_call 42; refine (HON.out).mono ?_; rintro e w9 ⟨v9, he, ho, hx⟩; subst he; have HQ := Lib.hid (HY.out _ _ ho hx); clear ho hx)
      exact bodyPost_ret (v := .tuple #[v9, .int .i64 0]) (by simp [results, Tryd.results20, go_sem]) rfl HQ.out
    · have HQ := Lib.hid (HNO.out c hc2)
      have q7 : ((c : Int) != -1) = true := by rw [bne_iff_ne]; omega
      clear hf hc2
      go_wp2_with fail
      exact bodyPost_ret (v := .tuple #[.slice none 0 0, .int .i64 4]) (by simp [results, Tryd.results20, go_sem]) rfl HQ.out
end Go.Proofs.YtfbomoginjknlaaDoor
