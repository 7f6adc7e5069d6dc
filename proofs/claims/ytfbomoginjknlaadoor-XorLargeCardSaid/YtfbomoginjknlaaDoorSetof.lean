/-
  THE WALK OF term.setOf: sorted, each once, copied.
-/
import Derived.Test.YtfbomoginjknlaaDoorComp
import Derived.Test.YtfbomoginjknlaaDoorNodes
import Derived.Test.YtfbomoginjknlaaDoorPure
namespace Go.Proofs.YtfbomoginjknlaaDoor
open Go.RowKit Go.Lib

/-- The list that is sorted, each once, with the members of another. -/
def IsSet (us ts : List Tm) : Prop := us.Pairwise (fun a b => cmpT a b < 0) ∧ ∀ t, t ∈ us ↔ t ∈ ts

theorem RowIn_Row {S : Nat → Prop} {w : World} : ∀ (ts : List Tm) (xa : Option Addr), RowIn S w ts xa → Row w ts xa
  | [], _, _ => by simp [Row]
  | t :: ts, xa, h => by
    simp only [RowIn] at h; simp only [Row]
    obtain ⟨b, o, e, _, ⟨c0, c1, c2, c3, g0, g1, g2, g3, hI⟩, hR⟩ := h
    exact ⟨b, o, e, ⟨c0, c1, c2, c3, g0, g1, g2, g3, IsIn_Is _ _ _ _ _ hI⟩, RowIn_Row ts _ hR⟩

section
variable {base : Nat} {w : World}
theorem cptN_spec : ∀ (xs : List (NA base w)) (p : NA base w), (p :: xs).Pairwise (fun a b => ¬ cmpT b.t a.t < 0) →
    ((cptN p xs).map NA.t).Pairwise (fun a b => cmpT a b < 0) ∧ (∀ x ∈ (cptN p xs).map NA.t, cmpT p.t x < 0) ∧ (∀ t, t = p.t ∨ t ∈ (cptN p xs).map NA.t ↔ t = p.t ∨ t ∈ xs.map NA.t)
  | [], p, _ => by simp [cptN]
  | x :: xs, p, h => by
    have hp := (List.pairwise_cons.1 h).1
    have ht := (List.pairwise_cons.1 h).2
    obtain ⟨h1, h2, h3⟩ := cptN_spec xs x ht
    by_cases he : cmpT x.t p.t = 0
    · have e := cmpT_zero _ _ he
      rw [cptN, if_pos he]
      refine ⟨h1, fun y hy => by rw [← e]; exact h2 y hy, fun t => ?_⟩
      have := h3 t
      rw [e] at this
      rw [this]
      simp only [List.map_cons, List.mem_cons, e]
      constructor
      · rintro (h | h); exact Or.inl h; exact Or.inr (Or.inr h)
      · rintro (h | h | h); exact Or.inl h; exact Or.inl h; exact Or.inr h
    · rw [cptN, if_neg he]
      have hlt : cmpT p.t x.t < 0 := by
        have h4 := hp x (List.mem_cons_self ..)
        rw [cmpT_anti x.t p.t]; omega
      refine ⟨?_, ?_, fun t => ?_⟩
      · rw [List.map_cons, List.pairwise_cons]; exact ⟨h2, h1⟩
      · intro y hy
        rw [List.map_cons, List.mem_cons] at hy
        rcases hy with rfl | hy
        · exact hlt
        · exact cmpT_trans hlt (h2 y hy)
      · rw [List.map_cons, List.mem_cons, h3 t, List.map_cons, List.mem_cons]
theorem compN_spec (L : List (NA base w)) (ts : List Tm) (hp : (L.map NA.t).Perm ts) (hs : (L.map NA.t).Pairwise (fun a b => ¬ cmpT b a < 0)) : IsSet ((compN L).map NA.t) ts := by
  cases L with
  | nil => 
    refine ⟨by simp [compN], fun t => ?_⟩
    rw [← hp.mem_iff]; simp [compN]
  | cons x xs =>
    obtain ⟨h1, h2, h3⟩ := cptN_spec xs x (by rw [List.pairwise_map] at hs; exact hs)
    refine ⟨?_, fun t => ?_⟩
    · rw [compN, List.map_cons, List.pairwise_cons]; exact ⟨h2, h1⟩
    · rw [← hp.mem_iff, compN, List.map_cons, List.mem_cons, h3 t, List.map_cons, List.mem_cons]

/-- What holds at the head of setOf's loop: j places are laid. -/
structure SR (H n : Nat) (us : List Tm) (j : Nat) (w1 wr : World) : Prop where
  below : Below H w1 wr
  row : ∃ cs zs, wr.ownsRow H 24 4 (.slice (some ⟨H, 0, none⟩) n n) n (cs ++ zs) ∧ cs.length = j * 4 ∧ KC (fun b => H < b ∧ b < wr.heap.size) wr (us.take j) cs
theorem SR.cells {H n j : Nat} {us : List Tm} {w1 wr w3 : World} (h : SR H n us j w1 wr) (hj : j < n) (hB : Below wr.heap.size wr w3) :
    (∃ z0 z1 z2 z3, w3.cell? ⟨H, j * 4, none⟩ = some z0 ∧ w3.cell? ⟨H, j * 4 + 1, none⟩ = some z1 ∧ w3.cell? ⟨H, j * 4 + 2, none⟩ = some z2 ∧ w3.cell? ⟨H, j * 4 + 3, none⟩ = some z3) ∧ ∀ i, w3.frozen? ⟨H, i, none⟩ = false := by
  obtain ⟨cs, zs, ho, hc, _⟩ := h.row
  have ho3 := own_heap (w' := w3) ho (fun q hq => hB.block q (ho.lt q hq).2)
  have hl := ho3.1
  have hz : ∀ i, i < 4 → ∃ z, w3.cell? ⟨H, j * 4 + i, none⟩ = some z := fun i hi => by
    rw [ho3.cellAt _ (by omega)]
    exact ⟨_, List.getElem?_eq_getElem (by omega)⟩
  obtain ⟨z0, h0⟩ := hz 0 (by omega)
  obtain ⟨z1, h1⟩ := hz 1 (by omega)
  obtain ⟨z2, h2⟩ := hz 2 (by omega)
  obtain ⟨z3, h3⟩ := hz 3 (by omega)
  exact ⟨⟨z0, z1, z2, z3, h0, h1, h2, h3⟩, fun i => ho3.frozenAt i⟩
theorem SR.next {H n j : Nat} {us : List Tm} {w1 wr w3 : World} {m : Nat} (h : SR H n us j w1 wr) (hn : us.length = n) (hj : j < us.length) {c0 c1 c2 c3 : Value} (hm : H < m)
    (hI : IsIn (fun b => m ≤ b ∧ b < w3.heap.size) w3 us[j] c0 c1 c2 c3) (hB : Below wr.heap.size wr w3) : SR H n us (j + 1) w1 (put4 w3 H (j * 4) c0 c1 c2 c3) := by
  obtain ⟨cs, zs, ho, hc, hK⟩ := h.row
  have hlt := ho.lt H rfl
  have ho3 := own_heap (w' := w3) ho (fun q hq => hB.block q (ho.lt q hq).2)
  have hs := hB.size
  have hp : ∀ q, q ≠ H → (put4 w3 H (j * 4) c0 c1 c2 c3).heap[q]? = w3.heap[q]? := fun q hq => put4_other _ _ _ _ _ _ _ _ hq
  have hb3 : Below H w1 w3 := h.below.trans (hB.mono (by omega))
  refine ⟨?_, cs ++ [c0, c1, c2, c3], zs.drop 4, ?_, ?_, ?_⟩
  · unfold put4
    exact (((hb3.setCell (Nat.le_refl _) _).setCell (Nat.le_refl _) _).setCell (Nat.le_refl _) _).setCell (Nat.le_refl _) _
  · have h1 := ((((((ho3.stored (j * 4) c0).1).stored (j * 4 + 1) c1).1).stored (j * 4 + 2) c2).1.stored (j * 4 + 3) c3).1
    obtain ⟨z0, z1, z2, z3, r, rfl⟩ : ∃ z0 z1 z2 z3 r, zs = z0 :: z1 :: z2 :: z3 :: r := by
      have hl := ho3.1
      rw [List.length_append] at hl
      exact four_of zs (by omega)
    have e : ((((cs ++ z0 :: z1 :: z2 :: z3 :: r).set (j * 4) c0).set (j * 4 + 1) c1).set (j * 4 + 2) c2).set (j * 4 + 3) c3 = (cs ++ [c0, c1, c2, c3]) ++ List.drop 4 (z0 :: z1 :: z2 :: z3 :: r) := by
      rw [← hc]
      simp only [List.set_append_right _ _ (Nat.le_refl _), List.set_append_right _ _ (Nat.le_add_right _ _), Nat.sub_self, Nat.add_sub_cancel_left, List.set_cons_zero, List.set_cons_succ, List.drop_succ_cons, List.drop_zero, List.append_assoc, List.cons_append, List.nil_append]
    rw [e] at h1
    exact h1
  · simp only [List.length_append, hc, List.length_cons, List.length_nil]; omega
  · rw [List.take_succ_eq_append_getElem hj]
    have hsz : (put4 w3 H (j * 4) c0 c1 c2 c3).heap.size = w3.heap.size := put4_size _ _ _ _ _ _ _
    refine KC_snoc (IsIn_carry (fun b hb => hp b (by omega)) (fun b hb => ⟨by omega, by rw [hsz]; exact hb.2⟩) _ _ _ _ _ hI) _ _ (KC_carry (fun b hb => (hp b (by omega)).trans (hB.block b hb.2)) (fun b hb => ⟨hb.1, by rw [hsz]; omega⟩) _ _ hK)
theorem SR.done {H n : Nat} {us : List Tm} {w1 wr : World} (h : SR H n us n w1 wr) (hn : us.length = n) : Row wr us (some ⟨H, 0, none⟩) := by
  obtain ⟨cs, zs, ho, hc, hK⟩ := h.row
  have e : us.take n = us := by rw [← hn]; exact List.take_length
  rw [e] at hK
  have hR : RowIn (fun _ => True) wr us (some ⟨H, 0, none⟩) := RowIn_of_KC (g := H) trivial us cs 0 (KC_carry (fun _ _ => rfl) (fun _ _ => trivial) us cs hK) fun i u hu => by
    have hi : i < cs.length := by
      rcases Nat.lt_or_ge i cs.length with h | h
      · exact h
      · rw [List.getElem?_eq_none h] at hu; cases hu
    rw [Nat.zero_add, ho.cellAt i (by omega), List.getElem?_append_left hi]; exact hu
  exact RowIn_Row us _ hR
theorem NL_sizes_le {base : Nat} {w : World} (ts : List Tm) (vs : List Value) (h : NL base w ts vs) : vs.length = ts.length * 2 := NL_length ts vs h

def SetPost (base : Nat) (ts : List Tm) (w0 : World) (e : Ending) (w' : World) : Prop :=
  ∃ us H, e = .returned (.slice (some ⟨H, 0, none⟩) us.length us.length) ∧ IsSet us ts ∧ us.length ≤ ts.length ∧ Row w' us (some ⟨H, 0, none⟩) ∧ Below base w0 w'

theorem cptN_len : ∀ (xs : List (NA base w)) (p : NA base w), (cptN p xs).length ≤ xs.length
  | [], _ => by simp [cptN]
  | x :: xs, p => by
    have := cptN_len xs x
    unfold cptN; split <;> simp only [List.length_cons] <;> omega
theorem compN_len (L : List (NA base w)) : (compN L).length ≤ L.length := by
  cases L with
  | nil => simp [compN]
  | cons x xs => have := cptN_len xs x; simp only [compN, List.length_cons]; omega

end

end Go.Proofs.YtfbomoginjknlaaDoor

/-
  THE WALK OF term.Subterms.
-/
namespace Go.Proofs.YtfbomoginjknlaaDoor
open Go.RowKit Go.Lib

theorem subT_size (t : Tm) : ∀ u ∈ subT t, size u ≤ size t := by
  refine Tm.rec (motive_1 := fun t => ∀ u ∈ subT t, size u ≤ size t) (motive_2 := fun ts => ∀ u ∈ subL ts, size u ≤ sizes ts) ?_ ?_ ?_ t
  · intro k n s ks ih u hu
    simp only [subT, List.mem_cons] at hu
    rcases hu with rfl | hu
    · exact Nat.le_refl _
    · have := ih u hu; simp only [size]; omega
  · intro u hu; simp [subL] at hu
  · intro t ts h1 h2 u hu
    simp only [subL, List.mem_append] at hu
    simp only [sizes]
    rcases hu with hu | hu
    · have := h1 u hu; omega
    · have := h2 u hu; omega
theorem subL_size : ∀ (ts : List Tm), ∀ u ∈ subL ts, size u ≤ sizes ts
  | [], u, hu => by simp [subL] at hu
  | t :: ts, u, hu => by
    simp only [subL, List.mem_append] at hu
    simp only [sizes]
    rcases hu with hu | hu
    · have := subT_size t u hu; omega
    · have := subL_size ts u hu; omega

end Go.Proofs.YtfbomoginjknlaaDoor

/-
  THE WALKS OF the reference's Add, Set.
-/
namespace Go.Proofs.YtfbomoginjknlaaDoor
open Go.RowKit

/-- One term appended to a row of the call's own. -/
theorem OwnT_push {H base n g cap lcap : Nat} {w w' : World} {os : List Tm} {xl : Option Addr} {cs : List Value} {t : Tm} {c0 c1 c2 c3 : Value} {o : Obj} (hown0 : w.ownsRow H 24 4 (.slice xl n lcap) n cs) (hK : KC (fun b => b < base) w os cs) (hn : n = os.length) (hI : IsIn (fun b => b < base) w t c0 c1 c2 c3)
    (hb : base ≤ H) (hHw : H ≤ w.heap.size) (hown : w'.ownsRow H 24 4 (.slice (some ⟨g, 0, none⟩) (n + 1) cap) (n + 1) (cs ++ [c0, c1, c2, c3])) (hg : (w.alloc o).grownBy w' (Value.slice xl n lcap).ownBlock) :
    OwnT H (fun b => b < base) w' (os ++ [t]) (.slice (some ⟨g, 0, none⟩) (n + 1) cap) ∧ Below H w w' := by
  subst hn
  have hB : Below H w w' := ((Below.refl H w).alloc hHw _).grown hg (by rw [World.size_alloc]; omega) (fun q hq => (hown0.lt q hq).1)
  have hBl : Below base w w' := hB.mono hb
  refine ⟨⟨cs ++ [c0, c1, c2, c3], by simpa using hown, ?_⟩, hB⟩
  exact KC_append _ _ _ _ (KC_carry (fun b hb' => hBl.block b hb') (fun _ h => h) _ _ hK) (KC_one_term (IsIn_carry (fun b hb' => hBl.block b hb') (fun _ h => h) _ _ _ _ _ hI))

/-- At the head of Add's loop: what is out, whether the new term is done. -/
def AddR (base H : Nat) (B : World) (t : Tm) (ts : List Tm) (j n : Nat) (d : Bool) (v : Value) (wr : World) : Prop :=
  ∃ os, n = os.length ∧ OwnT H (fun b => b < base) wr os v ∧ Below H B wr ∧ os ++ addR t (ts.drop j) d = addR t ts false

theorem TermsPost_add {base : Nat} {w wr : World} {t : Tm} {ts os : List Tm} {v : Value} (hO : OwnT (w.heap.size + 1) (fun b => b < base) wr os v) (hB : Below w.heap.size w wr) (he : os = addR t ts false) : TermsPost base w (addR t ts false) (.returned v) wr :=
  ⟨v, rfl, by rw [← he]; exact OwnT_elems hO, hB⟩

set_option maxHeartbeats 3200000 in
set_option maxRecDepth 100000 in
theorem add_any (t : Tm) (ts : List Tm) (c0 c1 c2 c3 lv : Value) (base : Nat) (w : World) (hln : ts.length ≤ 1048576) (hst : size t ≤ 1073741824) (hss : ∀ x ∈ ts, size x ≤ 1073741824) (hbw : base ≤ w.heap.size)
    (hI : IsIn (fun b => b < base) w t c0 c1 c2 c3) (hE : Elems (fun b => b < base) w ts lv) :
    Calls Tryd.prog 88 #[lv, .agg #[c0, c1, c2, c3]] w (TermsPost base w (addR t ts false)) := by
  obtain ⟨k, nm, s, ya, yl, yc, rfl, rfl, rfl, rfl⟩ := IsIn_form hI
  have HE := Lib.hid hE
  have hBX : Below w.heap.size w (w.alloc (.cells #[.int .i64 k, .string nm, .int .i64 s, .slice ya yl yc] 24)) := (Below.refl _ _).alloc (Nat.le_refl _) _
  have HIB : Hid (∀ W, Below w.heap.size w W → IsIn (fun b => b < base) W t (.int .i64 k) (.string nm) (.int .i64 s) (.slice ya yl yc)) := fun W hW => IsIn_below hI hbw hW
  have HW : Hid (AddR base (w.heap.size + 1) (w.alloc (.cells #[.int .i64 k, .string nm, .int .i64 s, .slice ya yl yc] 24)) t ts 0 0 false (.slice none 0 0) (w.alloc (.cells #[.int .i64 k, .string nm, .int .i64 s, .slice ya yl yc] 24))) := ⟨[], rfl, OwnT_nil _ _ _, Below.refl _ _, rfl⟩
  obtain ⟨xa, cap, hlv, hcap, hml, hrow⟩ := Elems_row hE
  subst hlv
  have HRW := Lib.hid hrow
  obtain ⟨i0, hi0, hz0, hz1, hz2⟩ := info_parts info24
  have HI0 := Lib.hid (And.intro hi0 (And.intro hz0 (And.intro hz1 hz2)))
  clear hE hi0 hz0 hz1 hz2 hBX hI hrow
  go_enter Tryd.func88, Tryd.ntmps88
  go_wp2_with fail
  go_loopw [5, 6, 7] (fun v d i wr => ∃ (j n : Nat) (b : Bool), j ≤ ts.length ∧ n ≤ j + b.toNat ∧ i = .int .i64 j ∧ d = .bool b ∧ AddR base (w.heap.size + 1) (w.alloc (.cells #[.int .i64 k, .string nm, .int .i64 s, .slice ya yl yc] 24)) t ts j n b v wr) (fun _ _ i _ => ts.length - (intOf i).toNat)
  case atStart => exact ⟨0, 0, false, Nat.zero_le _, Nat.zero_le _, rfl, rfl, HW.out⟩
  case round =>
    obtain ⟨j, n, b, hj, hnj', rfl, rfl, os, hn, ⟨cs, hown, hKC⟩, hB, hos⟩ := hrel
    have hnj : n ≤ j + 1 := by have := Bool.toNat_le b; omega
    have HNJ := Lib.hid hnj'
    clear hnj'
    rw [← hn] at hown
    obtain ⟨xl, lcap, hv⟩ := own_form hown
    subst hv
    obtain ⟨p0, p1, p2, p3⟩ := box_kept hB
    have HB := Lib.hid hB
    have HO := Lib.hid hown
    have HK := Lib.hid hKC
    have HN := Lib.hid hn
    have HS := Lib.hid hos
    have hwr : w.heap.size + 1 ≤ wr.heap.size := by have := hB.size; simpa using this
    by_cases hlt : j < ts.length
    rotate_left
    · have hd : ts.drop j = [] := List.drop_eq_nil_of_le (by omega)
      have HD := Lib.hid hd
      clear hB hown hKC hn hos hd
      cases b with
      | true =>
        have HF : Hid (TermsPost base w (addR t ts false) (.returned (.slice xl n lcap)) wr) := TermsPost_add ⟨cs, by rw [← HN.out]; exact HO.out, HK.out⟩ (below_box HB.out) (by have := HS.out; rw [HD.out] at this; simpa [addR] using this)
        go_wp2_with fail
        go_ret
        exact HF.out
      | false =>
        have tok1 : True := trivial
        go_wp2_with (at_builtin; have _t := tok1; refine wpList_append_lies _ rfl _ _ _ rfl (w.heap.size + 1) 24 i0 _ 4 56 Tryd.underlying22 HI0.out.1 HI0.out.2.1 HI0.out.2.2.1 HI0.out.2.2.2 rfl (by omega) (.slice xl n lcap) (n) cs rfl (HO.out.alloc _) ⟨wr.heap.size, 0, none⟩ 1 1 [.int .i64 k, .string nm, .int .i64 s, .slice ya yl yc] rfl rfl (World.news_of_block (cs := #[.int .i64 k, .string nm, .int .i64 s, .slice ya yl yc]) (t := 24) (fr := (0, 0)) (heap_alloc_new wr _)) (by simp [Value.oneCell']) (by omega) (by unfold maxLen; omega) (by omega) (by simp; omega) (wr.heap.size + 1) (by simp) ?_; intro g cap2 w4 hown4 hgrow4 hat4 hlt4; have HP := Lib.hid (OwnT_push HO.out HK.out HN.out (HIB.out _ (below_box HB.out)) (by omega) hwr hown4 hgrow4); clear hown4 hgrow4 hat4 hlt4; clear tok1)
        go_ret
        exact TermsPost_add HP.out.1 ((below_box HB.out).trans (HP.out.2.mono (by omega))) (by have := HS.out; rw [HD.out] at this; simpa [addR] using this)
    obtain ⟨kb, ko, rfl⟩ := Row_at HRW.out (by omega)
    have HKB : kb < w.heap.size + 1 := by
      obtain ⟨kb', ko', cap', x0, x1, x2, x3, hve, m0, _⟩ := Elems_get HE.out j hlt
      simp only [Value.slice.injEq, Option.some.injEq, Addr.mk.injEq, and_true, true_and] at hve
      have := World.block_lt_of_cell? w _ m0
      simp only at this; omega
    obtain ⟨kb', ko', cap', x0, x1, x2, x3, hve, m0, m1, m2, m3, hKI⟩ := Elems_get (Elems_ext HE.out (fun b hb => by omega) (below_box hB)) j hlt
    simp only [Value.slice.injEq, Option.some.injEq, Addr.mk.injEq, and_true, true_and] at hve
    obtain ⟨⟨rfl, rfl⟩, rfl⟩ := hve
    obtain ⟨k', nm', s', ya', yl', yc', rfl, rfl, rfl, rfl⟩ := IsIn_form hKI
    have HKI := Lib.hid hKI
    have hsx := hss _ (List.getElem_mem hlt)
    have hdr := addR_drop t ts j hlt b
    obtain ⟨x, hx⟩ : ∃ x, ts[j] = x := ⟨_, rfl⟩
    rw [hx] at HKI hsx hdr
    have HDR := Lib.hid hdr
    obtain ⟨c, hc⟩ : ∃ c, cmpT t x = c := ⟨_, rfl⟩
    have HC := Lib.hid hc
    have HCr : Hid (∀ W, Ext wr W → W.cell? ⟨w.heap.size, 0, none⟩ = some (.int .i64 k) ∧ W.cell? ⟨w.heap.size, 1, none⟩ = some (.string nm) ∧ W.cell? ⟨w.heap.size, 2, none⟩ = some (.int .i64 s) ∧ W.cell? ⟨w.heap.size, 3, none⟩ = some (.slice ya yl yc) ∧ W.cell? ⟨kb, ko + j * 4, none⟩ = some (.int .i64 k') ∧ W.cell? ⟨kb, ko + j * 4 + 1, none⟩ = some (.string nm') ∧ W.cell? ⟨kb, ko + j * 4 + 2, none⟩ = some (.int .i64 s') ∧ W.cell? ⟨kb, ko + j * 4 + 3, none⟩ = some (.slice ya' yl' yc')) := fun W h => ⟨keep_below h _ _ p0, keep_below h _ _ p1, keep_below h _ _ p2, keep_below h _ _ p3, keep_below h _ _ m0, keep_below h _ _ m1, keep_below h _ _ m2, keep_below h _ _ m3⟩
    have i1 : (0 : Int) ≤ (j : Int) := by omega
    have i2 : (j : Int) < (ts.length : Int) := by omega
    have hF0 : Ext wr wr.drew := (Ext.refl wr).drew
    clear hB hown hKC hn hos hKI hdr hc hx
    go_upto_region 6 with (fail)
    go_cut [8] (fun v8 wc => v8 = .int .i64 c ∧ Ext wr wc)
    case first =>
      go_region_held3 (fun W => W.cell? ⟨w.heap.size, 0, none⟩ = some (.int .i64 k) ∧ W.cell? ⟨w.heap.size, 1, none⟩ = some (.string nm) ∧ W.cell? ⟨w.heap.size, 2, none⟩ = some (.int .i64 s) ∧ W.cell? ⟨w.heap.size, 3, none⟩ = some (.slice ya yl yc) ∧ W.cell? ⟨kb, ko + j * 4, none⟩ = some (.int .i64 k') ∧ W.cell? ⟨kb, ko + j * 4 + 1, none⟩ = some (.string nm') ∧ W.cell? ⟨kb, ko + j * 4 + 2, none⟩ = some (.int .i64 s') ∧ W.cell? ⟨kb, ko + j * 4 + 3, none⟩ = some (.slice ya' yl' yc'))
        (first | exact HCr.out _ (by assumption) | go_keep)
        (first
          | (go_at_call 33; refine (rcompare_any _ t x _ _ _ _ _ _ _ _ _ (Nat.le_refl _) (by omega) (by omega) (Is_below (IsIn_Is _ _ _ _ _ (HIB.out _ (below_box HB.out))) hF0) (Is_below (IsIn_Is _ _ _ _ _ HKI.out) hF0)).mono ?_; rintro e w3 ⟨he, hB⟩; rw [HC.out] at he; subst he; have hF1 : Ext wr w3 := hF0.trans hB; clear hB))
      go_wp2_with fail
      go_meet
      exact ⟨rfl, hF1⟩
    case rest =>
      obtain ⟨rfl, hEx⟩ := hcut
      have HEx := Lib.hid hEx
      obtain ⟨q0, q1, q2, q3, r0, r1, r2, r3⟩ := HCr.out _ hEx
      have HBc := Lib.hid (HB.out.trans (hEx.mono hwr))
      have HOc := Lib.hid (own_heap HO.out (fun q hq => hEx.block q (HO.out.lt q hq).2))
      have HKc := Lib.hid (KC_carry (fun b' (hb' : b' < base) => hEx.block b' (by omega)) (fun _ h => h) _ _ HK.out)
      have HIt := Lib.hid (HIB.out _ (below_box HBc.out))
      have HIx := Lib.hid (IsIn_below HKI.out (by omega) hEx)
      have hwc : wr.heap.size ≤ wc.heap.size := hEx.size
      have tok1 : True := trivial
      have tok2 : True := trivial
      clear hEx p0 p1 p2 p3 m0 m1 m2 m3
      cases b with
      | true =>
        clear tok2
        go_wp2_with (at_builtin; have _t := tok1; refine wpList_append_lies _ rfl _ _ _ rfl (w.heap.size + 1) 24 i0 _ 4 56 Tryd.underlying22 HI0.out.1 HI0.out.2.1 HI0.out.2.2.1 HI0.out.2.2.2 rfl (by omega) (.slice xl n lcap) (n) cs rfl (HOc.out.alloc _) ⟨wc.heap.size, 0, none⟩ 1 1 [.int .i64 k', .string nm', .int .i64 s', .slice ya' yl' yc'] rfl rfl (World.news_of_block (cs := #[.int .i64 k', .string nm', .int .i64 s', .slice ya' yl' yc']) (t := 24) (fr := (0, 0)) (heap_alloc_new wc _)) (by simp [Value.oneCell']) (by omega) (by unfold maxLen; omega) (by omega) (by simp; omega) (wc.heap.size + 1) (by simp) ?_; intro g cap2 w4 hown4 hgrow4 hat4 hlt4; have HP := Lib.hid (OwnT_push HOc.out HKc.out HN.out HIx.out (by omega) (by omega) hown4 hgrow4); clear hown4 hgrow4 hat4 hlt4; clear tok1)
        go_roundw
        case rel =>
          refine ⟨j + 1, n + 1, true, by omega, by simp only [Bool.toNat_true]; omega, by go_num, rfl, os ++ [x], by rw [List.length_append, ← HN.out]; rfl, HP.out.1, HBc.out.trans HP.out.2, ?_⟩
          rw [← HS.out, HDR.out]; simp
        case measure => simp [intOf]; omega
      | false =>
        by_cases h1 : c < 0
        · have h2 : ¬ 0 < c := by omega
          go_wp2_with (first
            | (at_builtin; have _t := tok1; refine wpList_append_lies _ rfl _ _ _ rfl (w.heap.size + 1) 24 i0 _ 4 56 Tryd.underlying22 HI0.out.1 HI0.out.2.1 HI0.out.2.2.1 HI0.out.2.2.2 rfl (by omega) (.slice xl n lcap) (n) cs rfl (HOc.out.alloc _) ⟨wc.heap.size, 0, none⟩ 1 1 [.int .i64 k, .string nm, .int .i64 s, .slice ya yl yc] rfl rfl (World.news_of_block (cs := #[.int .i64 k, .string nm, .int .i64 s, .slice ya yl yc]) (t := 24) (fr := (0, 0)) (heap_alloc_new wc _)) (by simp [Value.oneCell']) (by omega) (by unfold maxLen; omega) (by omega) (by simp; omega) (wc.heap.size + 1) (by simp) ?_; intro g cap2 w4 hown4 hgrow4 hat4 hlt4; have HP := Lib.hid (OwnT_push HOc.out HKc.out HN.out HIt.out (by omega) (by omega) hown4 hgrow4); obtain ⟨cs4, hown5, hKC5⟩ := HP.out.1; rw [List.length_append, List.length_singleton, ← HN.out] at hown5; have HO4 := Lib.hid hown5; have HK4 := Lib.hid hKC5; have hwr4 := HP.out.2.size; have HX4 := Lib.hid (IsIn_carry (fun b' (hb' : b' < base) => HP.out.2.block b' (by omega)) (fun _ h => h) _ _ _ _ _ HIx.out); have s0 := (HP.out.2.cell (p := ⟨kb, ko + j * 4, none⟩) HKB).trans r0; have s1 := (HP.out.2.cell (p := ⟨kb, ko + j * 4 + 1, none⟩) HKB).trans r1; have s2 := (HP.out.2.cell (p := ⟨kb, ko + j * 4 + 2, none⟩) HKB).trans r2; have s3 := (HP.out.2.cell (p := ⟨kb, ko + j * 4 + 3, none⟩) HKB).trans r3; clear hown4 hgrow4 hat4 hlt4 hown5 hKC5; clear tok1)
            | (at_builtin; have _t := tok2; refine wpList_append_lies _ rfl _ _ _ rfl (w.heap.size + 1) 24 i0 _ 4 56 Tryd.underlying22 HI0.out.1 HI0.out.2.1 HI0.out.2.2.1 HI0.out.2.2.2 rfl (by omega) (.slice (some ⟨g, 0, none⟩) (n + 1) cap2) (n + 1) cs4 rfl (HO4.out.alloc _) ⟨w4.heap.size, 0, none⟩ 1 1 [.int .i64 k', .string nm', .int .i64 s', .slice ya' yl' yc'] rfl rfl (World.news_of_block (cs := #[.int .i64 k', .string nm', .int .i64 s', .slice ya' yl' yc']) (t := 24) (fr := (0, 0)) (heap_alloc_new w4 _)) (by simp [Value.oneCell']) (by omega) (by unfold maxLen; omega) (by omega) (by simp; omega) (w4.heap.size + 1) (by simp) ?_; intro g5 cap5 w5 hown6 hgrow6 hat6 hlt6; have HP2 := Lib.hid (OwnT_push (os := os ++ [t]) HO4.out HK4.out (by rw [List.length_append, ← HN.out]; rfl) HX4.out (by omega) (by omega) hown6 hgrow6); clear hown6 hgrow6 hat6 hlt6; clear tok2))
          go_roundw
          case rel =>
            refine ⟨j + 1, n + 1 + 1, true, by omega, by have := HNJ.out; simp only [Bool.toNat_true, Bool.toNat_false] at *; omega, by go_num, rfl, os ++ [t] ++ [x], by rw [List.length_append, List.length_append, ← HN.out]; rfl, HP2.out.1, (HBc.out.trans HP.out.2).trans HP2.out.2, ?_⟩
            rw [← HS.out, HDR.out, HC.out, if_neg (by simp), if_pos h1]; simp
          case measure => simp [intOf]; omega
        · by_cases h2 : c = 0
          · have h3 : c ≤ 0 := by omega
            clear tok2
            go_wp2_with (at_builtin; have _t := tok1; refine wpList_append_lies _ rfl _ _ _ rfl (w.heap.size + 1) 24 i0 _ 4 56 Tryd.underlying22 HI0.out.1 HI0.out.2.1 HI0.out.2.2.1 HI0.out.2.2.2 rfl (by omega) (.slice xl n lcap) (n) cs rfl (HOc.out.alloc _) ⟨wc.heap.size, 0, none⟩ 1 1 [.int .i64 k', .string nm', .int .i64 s', .slice ya' yl' yc'] rfl rfl (World.news_of_block (cs := #[.int .i64 k', .string nm', .int .i64 s', .slice ya' yl' yc']) (t := 24) (fr := (0, 0)) (heap_alloc_new wc _)) (by simp [Value.oneCell']) (by omega) (by unfold maxLen; omega) (by omega) (by simp; omega) (wc.heap.size + 1) (by simp) ?_; intro g cap2 w4 hown4 hgrow4 hat4 hlt4; have HP := Lib.hid (OwnT_push HOc.out HKc.out HN.out HIx.out (by omega) (by omega) hown4 hgrow4); clear hown4 hgrow4 hat4 hlt4; clear tok1)
            go_roundw
            case rel =>
              refine ⟨j + 1, n + 1, true, by omega, by simp only [Bool.toNat_true]; omega, by go_num, rfl, os ++ [x], by rw [List.length_append, ← HN.out]; rfl, HP.out.1, HBc.out.trans HP.out.2, ?_⟩
              rw [← HS.out, HDR.out, HC.out, if_neg (by simp), if_neg h1, if_pos h2]; simp
            case measure => simp [intOf]; omega
          · have h3 : 0 < c := by omega
            clear tok2
            go_wp2_with (at_builtin; have _t := tok1; refine wpList_append_lies _ rfl _ _ _ rfl (w.heap.size + 1) 24 i0 _ 4 56 Tryd.underlying22 HI0.out.1 HI0.out.2.1 HI0.out.2.2.1 HI0.out.2.2.2 rfl (by omega) (.slice xl n lcap) (n) cs rfl (HOc.out.alloc _) ⟨wc.heap.size, 0, none⟩ 1 1 [.int .i64 k', .string nm', .int .i64 s', .slice ya' yl' yc'] rfl rfl (World.news_of_block (cs := #[.int .i64 k', .string nm', .int .i64 s', .slice ya' yl' yc']) (t := 24) (fr := (0, 0)) (heap_alloc_new wc _)) (by simp [Value.oneCell']) (by omega) (by unfold maxLen; omega) (by omega) (by simp; omega) (wc.heap.size + 1) (by simp) ?_; intro g cap2 w4 hown4 hgrow4 hat4 hlt4; have HP := Lib.hid (OwnT_push HOc.out HKc.out HN.out HIx.out (by omega) (by omega) hown4 hgrow4); clear hown4 hgrow4 hat4 hlt4; clear tok1)
            go_roundw
            case rel =>
              refine ⟨j + 1, n + 1, false, by omega, by have := HNJ.out; simp only [Bool.toNat_false] at *; omega, by go_num, rfl, os ++ [x], by rw [List.length_append, ← HN.out]; rfl, HP.out.1, HBc.out.trans HP.out.2, ?_⟩
              rw [← HS.out, HDR.out, HC.out, if_neg (by simp), if_neg h1, if_neg h2]; simp
            case measure => simp [intOf]; omega

end Go.Proofs.YtfbomoginjknlaaDoor

/-
  THE WALKS OF the reference's Set, Subterms, kind, Vars, Atoms.
-/
namespace Go.Proofs.YtfbomoginjknlaaDoor
open Go.RowKit

theorem setG_mem (ts : List Tm) (u : Tm) : u ∈ setG [] ts ↔ u ∈ ts := setT_mem ts u

/-- The terms of a kind. -/
def ofK (k : Int) (l : List Tm) : List Tm := l.filter fun t => t.kind == k
theorem ofK_take (k : Int) (l : List Tm) (j : Nat) (h : j < l.length) : ofK k (l.take (j + 1)) = ofK k (l.take j) ++ if l[j].kind == k then [l[j]] else [] := by
  rw [List.take_succ_eq_append_getElem h, ofK, ofK, List.filter_append]
  congr 1
  simp only [List.filter_cons, List.filter_nil]
theorem ofK_len (k : Int) (l : List Tm) : (ofK k l).length ≤ l.length := List.length_filter_le _ _

def KindR (base : Nat) (B : World) (k : Int) (ts : List Tm) (j n : Nat) (v : Value) (wr : World) : Prop :=
  n = (ofK k (ts.take j)).length ∧ OwnT B.heap.size (fun b => b < base) wr (ofK k (ts.take j)) v ∧ Below B.heap.size B wr

end Go.Proofs.YtfbomoginjknlaaDoor

/-
  THE WALK OF the reference's Subterms: the subterms of a list, each once, in order.
-/
namespace Go.Proofs.YtfbomoginjknlaaDoor
open Go.RowKit

end Go.Proofs.YtfbomoginjknlaaDoor
