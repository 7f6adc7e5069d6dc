/-
  THE WALK OF include.
-/
import Derived.Test.YtakeopjpmfgngaaGreatDoorQrdc
namespace Go.Proofs.YtakeopjpmfgngaaGreatDoor
open Go.RowKit Go.Lib

/-- A pivot with its words changed. -/
def reM (p : PvM) (f1 f2 : Nat → Nat) : PvM := ⟨p.gs, p.ge, f1, f2, p.c, p.i⟩
/-- A pivot that another one's column is taken out of. -/
def outM (P q : PvM) : PvM := if bitV q.s P.c = true then reM q (xorV q.s P.s) (xorV q.e P.e) else q
def incM (ps : List PvM) (P : PvM) : List PvM := ps.map (outM P) ++ [P]
theorem pvB_out (P q : PvM) : pvB (outM P q) = outP (pvB P) (pvB q) := by
  unfold outM outP
  have e : (pvB q).s (pvB P).c = bitV q.s P.c := rfl
  rw [e]
  split
  · unfold pvB reM
    simp only [xorV_bits]
  · rfl
theorem pvB_inc (ps : List PvM) (P : PvM) : (incM ps P).map pvB = incP (ps.map pvB) (pvB P) := by
  unfold incM incP
  rw [List.map_append, List.map_map, List.map_map]
  congr 1
  exact List.map_congr_left fun q _ => pvB_out P q
theorem outM_gs (P q : PvM) : (outM P q).gs = q.gs ∧ (outM P q).ge = q.ge ∧ (outM P q).c = q.c := by
  unfold outM; split <;> exact ⟨rfl, rfl, rfl⟩
theorem flatMap_setQ {α : Type} {enc : α → List Value} {q : α} : ∀ (l : List α) (j : Nat) (h : j < l.length), enc q = enc l[j] → (l.set j q).flatMap enc = l.flatMap enc
  | [], j, h, _ => by simp at h
  | x :: l, 0, _, e => by simp only [List.set_cons_zero, List.flatMap_cons]; rw [e]; rfl
  | x :: l, j + 1, h, e => by simp only [List.set_cons_succ, List.flatMap_cons]; rw [flatMap_setQ l j (by simpa using h) (by simpa using e)]
theorem pairwise_setQ {α : Type} {R : α → α → Prop} {l : List α} {j : Nat} {q : α} (h : l.Pairwise R) (hj : j < l.length) (h1 : ∀ x, R x l[j] → R x q) (h2 : ∀ x, R l[j] x → R q x) : (l.set j q).Pairwise R := by
  rw [List.pairwise_iff_getElem] at h ⊢
  intro a b ha hb hab
  rw [List.length_set] at ha hb
  rw [List.getElem_set, List.getElem_set]
  have := h a b ha hb hab
  by_cases e1 : j = a
  · by_cases e2 : j = b
    · omega
    · rw [if_pos e1, if_neg e2]
      subst e1
      exact h2 _ this
  · by_cases e2 : j = b
    · rw [if_neg e1, if_pos e2]
      subst e2
      exact h1 _ this
    · rw [if_neg e1, if_neg e2]; exact this
/-- The words of one pivot have changed. -/
theorem EL.upd {eb n1 n2 : Nat} {C : List Tm} {ps : List PvM} {v : Value} {w W : World} (h : EL eb C n1 n2 ps v w) (j : Nat) (hj : j < ps.length) {f1 f2 : Nat → Nat} (hv1 : VRow W ps[j].gs n1 f1) (hv2 : VRow W ps[j].ge n2 f2) (k : Kq (two ps[j].gs ps[j].ge) w W) : EL eb C n1 n2 (ps.set j (reM ps[j] f1 f2)) v W := by
  have hl := h.lt
  have hj' := List.getElem_mem hj
  obtain ⟨_, _, x1, x2, x3, x4⟩ := h.vec _ hj'
  have h0 : ∀ b, two ps[j].gs ps[j].ge b → eb < b := fun b hb => by rcases hb with rfl | rfl <;> assumption
  have hb : ∀ b, b ≤ eb → W.heap[b]? = w.heap[b]? := fun b hb => k.block b (by omega) fun x => by have := h0 b x; omega
  obtain ⟨xc, cc, q1, q2, q3⟩ := h.low
  have hmem : ∀ p, p ∈ ps.set j (reM ps[j] f1 f2) → p = reM ps[j] f1 f2 ∨ ∃ i, ∃ hi : i < ps.length, i ≠ j ∧ p = ps[i] := fun p hp => by
    obtain ⟨i, hi, e⟩ := List.mem_iff_getElem.1 hp
    rw [List.length_set] at hi
    rw [List.getElem_set] at e
    by_cases e1 : j = i
    · rw [if_pos e1] at e; exact Or.inl e.symm
    · rw [if_neg e1] at e; exact Or.inr ⟨i, hi, fun x => e1 x.symm, e.symm⟩
  have hap : ∀ i (hi : i < ps.length), i ≠ j → ¬ two ps[j].gs ps[j].ge ps[i].gs ∧ ¬ two ps[j].gs ps[j].ge ps[i].ge := fun i hi hne => by
    have hp := List.pairwise_iff_getElem.1 h.apart
    unfold two
    rcases Nat.lt_or_gt_of_ne hne with l | l
    · obtain ⟨a, b, c, d⟩ := hp i j hi hj l
      omega
    · obtain ⟨a, b, c, d⟩ := hp j i hj hi l
      omega
  refine ⟨⟨xc, cc, by rw [World.cell?_of_block (w := w) (a := ⟨eb, 0, none⟩) (hb eb (Nat.le_refl _))]; exact q1, q2, RowIn_carryQ (fun b (hb' : b < eb) => hb b (Nat.le_of_lt hb')) _ _ q3⟩, h.asc, h.small, h.len,
    by rw [World.cell?_of_block (w := w) (a := ⟨eb, 1, none⟩) (hb eb (Nat.le_refl _))]; exact h.pv,
    fun i => by rw [frozen_same (hb eb (Nat.le_refl _))]; exact h.fz i, ?_, fun p hp => ?_, ?_, fun p hp => ?_⟩
  · rw [List.length_set, flatMap_setQ (q := reM ps[j] f1 f2) ps j hj rfl]
    exact own_heap h.own (fun q hq => k.block q (h.own.lt q hq).2 fun x => by
      obtain ⟨o1, o2⟩ := h.off _ hj'
      rcases x with rfl | rfl
      · exact o1 hq
      · exact o2 hq)
  · rcases hmem p hp with rfl | ⟨i, hi, hne, rfl⟩
    · exact ⟨hv1, hv2, x1, x2, x3, x4⟩
    · obtain ⟨a, b, c⟩ := h.vec _ (List.getElem_mem hi)
      exact ⟨a.kq k (hap i hi hne).1, b.kq k (hap i hi hne).2, c⟩
  · exact pairwise_setQ h.apart hj (fun x hx => hx) (fun x hx => hx)
  · rcases hmem p hp with rfl | ⟨i, hi, hne, rfl⟩
    · exact (show v.ownBlock ≠ some ps[j].gs ∧ v.ownBlock ≠ some ps[j].ge from h.off _ hj')
    · exact h.off _ (List.getElem_mem hi)
/-- What include leaves. -/
def IncPost (eb n1 n2 : Nat) (C : List Tm) (ps : List PvM) (w : World) (e : Ending) (w' : World) : Prop :=
  e = .returned (.tuple #[]) ∧ ∃ v', EL eb C n1 n2 ps v' w' ∧ Below eb w w'
theorem infoPv : (Tryz.prog.info? 71).map (fun i => (i.zero, i.size, i.bytes)) = some (some (.agg #[.slice none 0 0, .slice none 0 0, .int .i64 0, .int .i64 0]), 4, 64) := by kernel_rfl
/-- A pivot put behind the others. -/
theorem EL.push {eb n1 n2 gg cap n : Nat} {C : List Tm} {ps : List PvM} {v : Value} {P : PvM} {w W w1 : World} (h : EL eb C n1 n2 ps v w) (hx : Ext w W) (hn : n = ps.length)
    (hgs : VRow w P.gs n1 P.s) (hge : VRow w P.ge n2 P.e) (h1 : eb < P.gs) (h2 : eb < P.ge) (h3 : P.gs ≠ P.ge) (h4 : P.c < C.length) (hap : ∀ p ∈ ps, p.gs ≠ P.gs ∧ p.gs ≠ P.ge ∧ p.ge ≠ P.gs ∧ p.ge ≠ P.ge) (ho1 : v.ownBlock ≠ some P.gs) (ho2 : v.ownBlock ≠ some P.ge)
    (hown : w1.ownsRow (eb + 1) 71 4 (.slice (some ⟨gg, 0, none⟩) (n + 1) cap) (n + 1) (ps.flatMap (encPv n1 n2) ++ encPv n1 n2 P)) (hg : W.grownBy w1 v.ownBlock) (hat : v.ownBlock = some gg ∨ w.heap.size ≤ gg) :
    EL eb C n1 n2 (ps ++ [P]) (.slice (some ⟨gg, 0, none⟩) (n + 1) cap) (w1.setCell ⟨eb, 1, none⟩ (.slice (some ⟨gg, 0, none⟩) (n + 1) cap)) ∧ Below eb w (w1.setCell ⟨eb, 1, none⟩ (.slice (some ⟨gg, 0, none⟩) (n + 1) cap)) := by
  subst hn
  have hl := h.lt
  have hgl := hown.lt gg rfl
  have hxs := hx.size
  have hov : ∀ b, v.ownBlock = some b → eb < b := fun b hb => by have := (h.own.lt b hb).1; omega
  have hk : ∀ b, b < w.heap.size → v.ownBlock ≠ some b → w1.heap[b]? = w.heap[b]? := fun b hb hne => (hg.block b (by omega) (fun e => hne e.symm)).trans (hx.block b hb)
  have hk2 : ∀ b, b < w.heap.size → v.ownBlock ≠ some b → b ≠ eb → (w1.setCell ⟨eb, 1, none⟩ (.slice (some ⟨gg, 0, none⟩) (ps.length + 1) cap)).heap[b]? = w.heap[b]? := fun b hb hne he => by
    rw [Below.heap_setCell _ _ _ _ (by simp only; omega)]; exact hk b hb hne
  have hnv : ∀ b, b ≤ eb → v.ownBlock ≠ some b := fun b hb e => by have := hov b e; omega
  have hsz : w.heap.size ≤ (w1.setCell ⟨eb, 1, none⟩ (.slice (some ⟨gg, 0, none⟩) (ps.length + 1) cap)).heap.size := by rw [World.size_setCell]; have := hg.size; omega
  have heb := hk eb hl (hnv eb (Nat.le_refl _))
  obtain ⟨xc, cc, q1, q2, q3⟩ := h.low
  have hvr : ∀ {g m : Nat} {f : Nat → Nat}, VRow w g m f → v.ownBlock ≠ some g → eb < g → VRow (w1.setCell ⟨eb, 1, none⟩ (.slice (some ⟨gg, 0, none⟩) (ps.length + 1) cap)) g m f := fun {g m f} hv hne hlt => hv.carry hsz (hk2 g hv.1 hne (by omega))
  refine ⟨⟨⟨xc, cc, ?_, q2, RowIn_carryQ (fun b (hb' : b < eb) => hk2 b (by omega) (hnv b (by omega)) (by omega)) _ _ q3⟩, h.asc, h.small, h.len, ?_, fun i => ?_, ?_, fun p hp => ?_, ?_, fun p hp => ?_⟩, ?_⟩
  · rw [setOtherV (fun e => by simp at e), World.cell?_of_block (w := w) (a := ⟨eb, 0, none⟩) heb]; exact q1
  · exact setSameV (u := v) (by rw [World.cell?_of_block (w := w) (a := ⟨eb, 1, none⟩) heb]; exact h.pv)
  · rw [World.frozen?_setCell, frozen_same heb]; exact h.fz i
  · rw [List.length_append, List.flatMap_append]
    simp only [List.flatMap_cons, List.flatMap_nil, List.append_nil, List.length_cons, List.length_nil]
    exact own_heap hown (fun q hq => by
      simp only [Value.ownBlock, Option.some.injEq] at hq
      rw [Below.heap_setCell _ _ _ _ (by simp only; omega)])
  · rcases List.mem_append.1 hp with hp | hp
    · obtain ⟨a, b, c, d, r⟩ := h.vec p hp
      obtain ⟨o1, o2⟩ := h.off p hp
      exact ⟨hvr a o1 c, hvr b o2 d, c, d, r⟩
    · rw [List.mem_singleton.1 hp]
      exact ⟨hvr hgs ho1 h1, hvr hge ho2 h2, h1, h2, h3, h4⟩
  · refine List.pairwise_append.2 ⟨h.apart, List.pairwise_singleton _ _, fun p hp q hq => ?_⟩
    rw [List.mem_singleton.1 hq]; exact hap p hp
  · have hnew : ∀ b, b < w.heap.size → v.ownBlock ≠ some b → (Value.slice (some ⟨gg, 0, none⟩) (ps.length + 1) cap).ownBlock ≠ some b := fun b hb hne e => by
      simp only [Value.ownBlock, Option.some.injEq] at e
      subst e
      rcases hat with e | e
      · exact hne e
      · omega
    rcases List.mem_append.1 hp with hp | hp
    · obtain ⟨a, b, _⟩ := h.vec p hp
      obtain ⟨o1, o2⟩ := h.off p hp
      exact ⟨hnew _ a.1 o1, hnew _ b.1 o2⟩
    · rw [List.mem_singleton.1 hp]
      exact ⟨hnew _ hgs.1 ho1, hnew _ hge.1 ho2⟩
  · refine ⟨?_, ?_, ?_, hsz, fun b hb => hk2 b (by omega) (hnv b (by omega)) (by omega)⟩
    · exact hg.os.trans hx.os
    · exact hg.tape.trans hx.tape
    · exact hg.output.trans hx.output
set_option maxHeartbeats 3200000 in
set_option maxRecDepth 100000 in
theorem include_any (eb n1 n2 : Nat) (C : List Tm) (ps : List PvM) (v : Value) (P : PvM) (w : World) (hn1 : (C.length + 63) / 64 = n1) (hn2 : n2 ≤ 1048576) (hps : ps.length ≤ 1048576) (hE : EL eb C n1 n2 ps v w)
    (hgs : VRow w P.gs n1 P.s) (hge : VRow w P.ge n2 P.e) (h1 : eb < P.gs) (h2 : eb < P.ge) (h3 : P.gs ≠ P.ge) (h4 : P.c < C.length) (hap : ∀ p ∈ ps, p.gs ≠ P.gs ∧ p.gs ≠ P.ge ∧ p.ge ≠ P.gs ∧ p.ge ≠ P.ge) (ho1 : v.ownBlock ≠ some P.gs) (ho2 : v.ownBlock ≠ some P.ge) :
    Calls Tryz.prog 75 #[.pointer (some ⟨eb, 0, none⟩), .agg #[.slice (some ⟨P.gs, 0, none⟩) n1 n1, .slice (some ⟨P.ge, 0, none⟩) n2 n2, .int .i64 P.c, .int .i64 P.i]] w (IncPost eb n1 n2 C (incM ps P) w) := by
  obtain ⟨wA, hwA⟩ : ∃ W, W = w.alloc (.cells #[.slice (some ⟨P.gs, 0, none⟩) n1 n1, .slice (some ⟨P.ge, 0, none⟩) n2 n2, .int .i64 P.c, .int .i64 P.i] 71) := ⟨_, rfl⟩
  have hX : Ext w wA := by rw [hwA]; exact (Ext.refl w).alloc _
  have hsA : wA.heap.size = w.heap.size + 1 := by rw [hwA, World.size_alloc]
  have hq1 : wA.heap[w.heap.size]? = some (.cells #[.slice (some ⟨P.gs, 0, none⟩) n1 n1, .slice (some ⟨P.ge, 0, none⟩) n2 n2, .int .i64 P.c, .int .i64 P.i] 71 (0, 0)) := by rw [hwA]; exact heap_alloc_new w _
  have hcl := hE.len
  have hn1l : n1 ≤ 1048576 := by omega
  have hn64 : C.length ≤ n1 * 64 := by omega
  have HBX : Hid (∀ W, Kq (fun b => b ∈ pvBs ps) wA W → W.cell? ⟨w.heap.size, 0, none⟩ = some (.slice (some ⟨P.gs, 0, none⟩) n1 n1) ∧ W.cell? ⟨w.heap.size, 1, none⟩ = some (.slice (some ⟨P.ge, 0, none⟩) n2 n2) ∧ W.cell? ⟨w.heap.size, 2, none⟩ = some (.int .i64 P.c) ∧ W.cell? ⟨w.heap.size, 3, none⟩ = some (.int .i64 P.i)) := by
    show ∀ _, _
    intro W k
    have hn : ¬ w.heap.size ∈ pvBs ps := fun hm => by
      unfold pvBs at hm
      obtain ⟨p, hp, hb⟩ := List.mem_flatMap.1 hm
      simp only [List.mem_cons, List.not_mem_nil, or_false] at hb
      obtain ⟨a, b, _⟩ := hE.vec p hp
      have := a.1
      have := b.1
      omega
    exact (box_facts ((k.block _ (by omega) hn).trans hq1)).1
  have hE1 := hE.ext hX
  have hg1 := hgs.ext hX
  have hg2 := hge.ext hX
  have HNP : Hid (¬ P.gs ∈ pvBs ps ∧ ¬ P.ge ∈ pvBs ps) := by
    constructor
    · intro hm
      unfold pvBs at hm
      obtain ⟨p, hp, hb⟩ := List.mem_flatMap.1 hm
      simp only [List.mem_cons, List.not_mem_nil, or_false] at hb
      have := hap p hp
      omega
    · intro hm
      unfold pvBs at hm
      obtain ⟨p, hp, hb⟩ := List.mem_flatMap.1 hm
      simp only [List.mem_cons, List.not_mem_nil, or_false] at hb
      have := hap p hp
      omega
  have HAP := Lib.hid hap
  have HV0 := Lib.hid hE.vec
  obtain ⟨q0, q1, q2, q3⟩ := HBX.out wA (Kq.refl _ _)
  have hpv := hE1.pv
  have HFORM := Lib.hid hE.form
  obtain ⟨xv, cv, hv⟩ := hE.nlen
  subst hv
  have HLE := Lib.hid hE.lt
  have HST := Lib.hid (And.intro hE1 (And.intro hg1 hg2))
  have HX := Lib.hid hX
  have HWA := Lib.hid hwA
  have HSA := Lib.hid hsA
  have HHY := Lib.hid (And.intro h1 (And.intro h2 (And.intro h3 (And.intro h4 (And.intro ho1 ho2)))))
  obtain ⟨i0, hi0, hz0, hz1, hz2⟩ := info_parts infoPv
  have HI0 := Lib.hid (And.intro hi0 (And.intro hz0 (And.intro hz1 hz2)))
  clear hE hE1 hgs hge hg1 hg2 hap hX hwA hsA hq1 hi0 hz0 hz1 hz2 h1 h2 h3 ho1 ho2 hn1
  go_enter Tryz.func75, Tryz.ntmps75
  go_upto_region 1 with fail
  rw [← HWA.out]
  go_wp2_with fail
  go_loopw [11] (fun i wr => ∃ (j : Nat) (qs : List PvM), j ≤ ps.length ∧ i = .int .i64 j ∧ qs.length = ps.length ∧ Hid (∀ k, qs[k]? = if k < j then (ps[k]?).map (outM P) else ps[k]?) ∧ EL eb C n1 n2 qs (.slice xv ps.length cv) wr ∧ VRow wr P.gs n1 P.s ∧ VRow wr P.ge n2 P.e ∧ Kq (fun b => b ∈ pvBs ps) wA wr) (fun i _ => ps.length - (intOf i).toNat)
  case atStart => exact ⟨0, ps, Nat.zero_le _, rfl, rfl, by show ∀ _, _; intro k; rw [if_neg (by omega)], HST.out.1, HST.out.2.1, HST.out.2.2, Kq.refl _ _⟩
  case round =>
    obtain ⟨j, qs, hj, rfl, hql, HQ, hel, hvs, hve, hK⟩ := hrel
    have HEL := Lib.hid hel
    have HVS := Lib.hid hvs
    have HVE := Lib.hid hve
    have HK := Lib.hid hK
    have HQL := Lib.hid hql
    obtain ⟨q0, q1, q2, q3⟩ := HBX.out _ hK
    have hwl : w.heap.size < wr.heap.size := World.block_lt_of_cell? wr _ q0
    by_cases hlt : j < ps.length
    rotate_left
    · have hjl : j = ps.length := by omega
      have HQE : Hid (qs = ps.map (outM P)) := by
        show _ = _
        apply List.ext_getElem?
        intro k
        rw [HQ.out, List.getElem?_map, hjl]
        split
        · rfl
        · rw [List.getElem?_eq_none (by omega)]; rfl
      have hpc := hel.pv
      have hfz := hel.fz 1
      have hel0 := hel.lt
      have hovb : (Value.slice xv ps.length cv).ownBlock ≠ some eb := fun e => by have := (hel.own.lt eb e).1; omega
      have hown := hel.own
      rw [hql] at hown
      have HO := Lib.hid hown
      have HLO : Hid (∀ q, (Value.slice xv ps.length cv).ownBlock = some q → q < wr.heap.size) := fun q hq => (hel.own.lt q hq).2
      have HPU : Hid (∀ (gg cap8 : Nat) (W w1 : World), Ext wr W → w1.ownsRow (eb + 1) 71 4 (.slice (some ⟨gg, 0, none⟩) (ps.length + 1) cap8) (ps.length + 1) (qs.flatMap (encPv n1 n2) ++ [.slice (some ⟨P.gs, 0, none⟩) n1 n1, .slice (some ⟨P.ge, 0, none⟩) n2 n2, .int .i64 P.c, .int .i64 P.i]) → W.grownBy w1 (Value.slice xv ps.length cv).ownBlock → ((Value.slice xv ps.length cv).ownBlock = some gg ∨ gg = wr.heap.size + 1) → IncPost eb n1 n2 C (incM ps P) w (.returned (.tuple #[])) (w1.setCell ⟨eb, 1, none⟩ (.slice (some ⟨gg, 0, none⟩) (ps.length + 1) cap8))) := by
        show ∀ _, _
        intro gg cap8 W w1 x ho hg hat
        obtain ⟨y1, y2, y3, y4, y5, y6⟩ := HHY.out
        have hp := HEL.out.push (P := P) x HQL.out.symm HVS.out HVE.out y1 y2 y3 y4 (fun p hp => by
          rw [HQE.out] at hp
          obtain ⟨p', hp', rfl⟩ := List.mem_map.1 hp
          obtain ⟨e1, e2, _⟩ := outM_gs P p'
          rw [e1, e2]; exact HAP.out p' hp') y5 y6 ho hg (hat.imp id fun e => by omega)
        refine ⟨rfl, _, by rw [incM, ← HQE.out]; exact hp.1, ?_⟩
        refine Below.trans ((HX.out.mono (Nat.le_of_lt HLE.out)).trans ?_) hp.2
        exact HK.out.below (fun b hb => by
          unfold pvBs at hb
          obtain ⟨p, hp, hb⟩ := List.mem_flatMap.1 hb
          obtain ⟨_, _, z1, z2, _⟩ := HV0.out p hp
          simp only [List.mem_cons, List.not_mem_nil, or_false] at hb
          omega) (by have := HSA.out; have := HLE.out; omega)
      clear hel hvs hve hK hown hjl
      go_upto_region 7 with fail
      go_region_law ((refine step_append_lies _ (by rfl) _ _ _ (by rfl) (eb + 1) 71 i0 _ 4 64 Tryz.underlying61 HI0.out.1 HI0.out.2.1 HI0.out.2.2.1 HI0.out.2.2.2 rfl (by omega) (.slice xv ps.length cv) ps.length (qs.flatMap (encPv n1 n2)) (by rfl) (by first | exact (HO.out.alloc _).drew | exact (own_heap (w' := wr.drew) HO.out (fun _ _ => rfl)).alloc _) ⟨wr.heap.size, 0, none⟩ 1 1 [.slice (some ⟨P.gs, 0, none⟩) n1 n1, .slice (some ⟨P.ge, 0, none⟩) n2 n2, .int .i64 P.c, .int .i64 P.i] (by rfl) (by rfl) (World.news_of_block (cs := #[.slice (some ⟨P.gs, 0, none⟩) n1 n1, .slice (some ⟨P.ge, 0, none⟩) n2 n2, .int .i64 P.c, .int .i64 P.i]) (t := 71) (fr := (0, 0)) (heap_alloc_new wr _)) (by simp [Value.oneCell']) (by omega) (by unfold maxLen; omega) (by omega) (by simp; omega) (wr.heap.size + 1) (by simp) ?_; intro gg cap8 w1 hown1 hgrow hat hltt; have z1 : w1.frozen? ⟨eb, 1, none⟩ = false := (by rw [hgrow.frozen_far _ (by simp; omega) (fun e => hovb e.symm)]; exact (Below.frozen (p := ⟨eb, 1, none⟩) ((Below.refl wr.heap.size wr).alloc (Nat.le_refl _) _) hel0).trans hfz); have z0 : w1.cell? ⟨eb, 1, none⟩ = some (.slice xv ps.length cv) := (by rw [hgrow.cell_far _ (by simp; omega) (fun e => hovb e.symm)]; exact keep_alloc wr _ _ _ hpc); have HP8 := Lib.hid (HPU.out gg cap8 _ w1 (by first | exact ((Ext.refl wr).alloc _).drew | exact ((Ext.refl wr).drew).alloc _) hown1 hgrow hat); clear hown1 hgrow hat hltt))
      all_goals (go_wp2_with fail)
      all_goals (go_end0)
      all_goals (exact HP8.out)
    have hjq : j < qs.length := by rw [hql]; exact hlt
    have hqj : qs[j]'hjq = ps[j] := by
      have := HQ.out j
      rw [if_neg (by omega), List.getElem?_eq_getElem hjq, List.getElem?_eq_getElem hlt] at this
      exact Option.some.inj this
    rcases HFORM.out with ⟨_, e0⟩ | ⟨g, cap, e0, hg1, hg2, hg3⟩
    · rw [e0] at hlt; exact absurd hlt (by simp)
    simp only [Value.slice.injEq, true_and] at e0
    obtain ⟨rfl, rfl⟩ := e0
    obtain ⟨p0, p1, p2, p3⟩ := (by rw [← hql] at hel; exact hel : EL eb C n1 n2 qs (.slice (some ⟨g, 0, none⟩) qs.length cv) wr).cells j hjq
    obtain ⟨u1, u2, u3, u4, u5, u6⟩ := hel.vec (qs[j]'hjq) (List.getElem_mem _)
    obtain ⟨y1, y2, y3, y4⟩ := HAP.out ps[j] (List.getElem_mem hlt)
    have hbm : ps[j].gs ∈ pvBs ps ∧ ps[j].ge ∈ pvBs ps := by
      unfold pvBs
      exact ⟨List.mem_flatMap.2 ⟨_, List.getElem_mem hlt, by simp⟩, List.mem_flatMap.2 ⟨_, List.getElem_mem hlt, by simp⟩⟩
    have hnx : ∀ Q : PvM, outM P ps[j] = Q → ∀ k, (qs.set j Q)[k]? = if k < j + 1 then (ps[k]?).map (outM P) else ps[k]? := fun Q hQ k => by
      rw [List.getElem?_set]
      by_cases e : j = k
      · subst e
        rw [if_pos rfl, if_pos (by omega), if_pos (by omega), List.getElem?_eq_getElem hlt, ← hQ]; rfl
      · rw [if_neg e, HQ.out]
        by_cases l : k < j
        · rw [if_pos l, if_pos (by omega)]
        · rw [if_neg l, if_neg (by omega)]
    rw [hqj] at p0 p1 p2 p3 u1 u2 u3 u4 u5
    have hA6 : Ext wr (wr.alloc (.cells #[.slice (some ⟨ps[j].gs, 0, none⟩) n1 n1, .slice (some ⟨ps[j].ge, 0, none⟩) n2 n2, .int .i64 ps[j].c, .int .i64 ps[j].i] 71)) := (Ext.refl wr).alloc _
    have HHAS := Lib.hid (has_any ps[j].gs n1 n1 P.c ps[j].s (wr.alloc (.cells #[.slice (some ⟨ps[j].gs, 0, none⟩) n1 n1, .slice (some ⟨ps[j].ge, 0, none⟩) n2 n2, .int .i64 ps[j].c, .int .i64 ps[j].i] 71)) (by omega) hn1l (u1.ext hA6).2.2)
    have HADD := Lib.hid (rowadd_any ps[j].gs ps[j].ge P.gs P.ge n1 n2 ps[j].s ps[j].e P.s P.e (wr.alloc (.cells #[.slice (some ⟨ps[j].gs, 0, none⟩) n1 n1, .slice (some ⟨ps[j].ge, 0, none⟩) n2 n2, .int .i64 ps[j].c, .int .i64 ps[j].i] 71)) hn1l hn2 u5 y1.symm y3.symm y2.symm y4.symm (u1.ext hA6) (u2.ext hA6) (hvs.ext hA6) (hve.ext hA6))
    have HA6 := Lib.hid hA6
    have HUP : Hid (∀ W, RaPost ps[j].gs ps[j].ge n1 n2 (xorV ps[j].s P.s) (xorV ps[j].e P.e) (wr.alloc (.cells #[.slice (some ⟨ps[j].gs, 0, none⟩) n1 n1, .slice (some ⟨ps[j].ge, 0, none⟩) n2 n2, .int .i64 ps[j].c, .int .i64 ps[j].i] 71)) (.returned (.tuple #[])) W → EL eb C n1 n2 (qs.set j (reM ps[j] (xorV ps[j].s P.s) (xorV ps[j].e P.e))) (.slice (some ⟨g, 0, none⟩) ps.length cv) W ∧ VRow W P.gs n1 P.s ∧ VRow W P.ge n2 P.e ∧ Kq (fun b => b ∈ pvBs ps) wA W) := by
      show ∀ _, _
      rintro W ⟨_, a1, a2, a3⟩
      have h := (HEL.out.ext HA6.out).upd j hjq (f1 := xorV ps[j].s P.s) (f2 := xorV ps[j].e P.e) (by rw [hqj]; exact a1) (by rw [hqj]; exact a2) (by rw [hqj]; exact a3)
      rw [hqj] at h
      exact ⟨h, (HVS.out.ext HA6.out).kq a3 (by unfold two; omega), (HVE.out.ext HA6.out).kq a3 (by unfold two; omega), (HK.out.ext HA6.out).trans (a3.mono fun b _ hb => by rcases hb with rfl | rfl; exact hbm.1; exact hbm.2)⟩
    have hout : outM P ps[j] = if bitV ps[j].s P.c = true then reM ps[j] (xorV ps[j].s P.s) (xorV ps[j].e P.e) else ps[j] := rfl
    have HNX := Lib.hid hnx
    have HQJ := Lib.hid hqj
    have i1 : (0 : Int) ≤ (j : Int) := by omega
    have i2 : (j : Int) < (ps.length : Int) := by omega
    clear hel hvs hve hK u1 u2 u3 u4 u5 u6 y1 y2 y3 y4 hbm hnx hqj hql hA6
    generalize ps[j] = Z at p0 p1 p2 p3 HHAS HADD HA6 HUP hout HNX HQJ
    cases hb : bitV Z.s P.c
    · rw [hb] at HHAS hout
      have HO2 : Hid (outM P Z = Z) := by show _ = _; rw [hout]; rfl
      clear hout hb
      go_wp2_with (go_at_call 78; refine (HHAS.out).mono ?_; rintro e w6 ⟨he, hw⟩; subst he; subst hw)
      go_roundw
      case rel => exact ⟨j + 1, qs, by omega, by go_num, HQL.out, by show ∀ _, _; intro k; have := HNX.out Z HO2.out k; rw [← HQJ.out, List.set_getElem_self] at this; exact this, HEL.out.ext HA6.out, HVS.out.ext HA6.out, HVE.out.ext HA6.out, HK.out.ext HA6.out⟩
      case measure => simp [intOf]; omega
    · rw [hb] at HHAS hout
      have HO2 : Hid (outM P Z = reM Z (xorV Z.s P.s) (xorV Z.e P.e)) := by show _ = _; rw [hout]; rfl
      clear hout hb
      go_wp2_with (first
        | (go_at_call 78; refine (HHAS.out).mono ?_; rintro e w6 ⟨he, hw⟩; subst he; subst hw)
        | (go_at_call 79; refine (HADD.out).mono ?_; intro e w7 h7; have hu := (have he := h7.1; HUP.out w7 (by rw [← he]; exact h7)); obtain ⟨he, _⟩ := h7; subst he; have HU := Lib.hid hu; clear hu))
      go_roundw
      case rel => exact ⟨j + 1, _, by omega, by go_num, by rw [List.length_set]; exact HQL.out, HNX.out _ HO2.out, HU.out.1, HU.out.2.1, HU.out.2.2.1, HU.out.2.2.2⟩
      case measure => simp [intOf]; omega
end Go.Proofs.YtakeopjpmfgngaaGreatDoor
