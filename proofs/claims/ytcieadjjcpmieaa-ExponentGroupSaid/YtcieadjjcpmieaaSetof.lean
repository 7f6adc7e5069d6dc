/-
  THE WALK OF term.setOf: sorted, each once, copied.
-/
import Derived.Test.YtcieadjjcpmieaaComp
import Derived.Test.YtcieadjjcpmieaaNodes
import Derived.Test.YtcieadjjcpmieaaPure
namespace Go.Proofs.Ytcieadjjcpmieaa
open Go.RowKit Go.Lib

/-- The list that is sorted, each once, with the members of another. -/
def IsSet (us ts : List Tm) : Prop := us.Pairwise (fun a b => cmpT a b < 0) ∧ ∀ t, t ∈ us ↔ t ∈ ts

theorem RowIn_Row {S : Nat → Prop} {w : World} : ∀ (ts : List Tm) (xa : Option Addr), RowIn S w ts xa → Row w ts xa
  | [], _, _ => by simp [Row]
  | t :: ts, xa, h => by
    simp only [RowIn] at h; simp only [Row]
    obtain ⟨b, o, e, _, ⟨c0, c1, c2, c3, g0, g1, g2, g3, hI⟩, hR⟩ := h
    exact ⟨b, o, e, ⟨c0, c1, c2, c3, g0, g1, g2, g3, IsIn_Is _ _ _ _ _ hI⟩, RowIn_Row ts _ hR⟩

section
variable {base : Nat} {w : World}
theorem cptN_spec : ∀ (xs : List (NA base w)) (p : NA base w), (p :: xs).Pairwise (fun a b => ¬ cmpT b.t a.t < 0) →
    ((cptN p xs).map NA.t).Pairwise (fun a b => cmpT a b < 0) ∧ (∀ x ∈ (cptN p xs).map NA.t, cmpT p.t x < 0) ∧ (∀ t, t = p.t ∨ t ∈ (cptN p xs).map NA.t ↔ t = p.t ∨ t ∈ xs.map NA.t)
  | [], p, _ => by simp [cptN]
  | x :: xs, p, h => by
    have hp := (List.pairwise_cons.1 h).1
    have ht := (List.pairwise_cons.1 h).2
    obtain ⟨h1, h2, h3⟩ := cptN_spec xs x ht
    by_cases he : cmpT x.t p.t = 0
    · have e := cmpT_zero _ _ he
      rw [cptN, if_pos he]
      refine ⟨h1, fun y hy => by rw [← e]; exact h2 y hy, fun t => ?_⟩
      have := h3 t
      rw [e] at this
      rw [this]
      simp only [List.map_cons, List.mem_cons, e]
      constructor
      · rintro (h | h); exact Or.inl h; exact Or.inr (Or.inr h)
      · rintro (h | h | h); exact Or.inl h; exact Or.inl h; exact Or.inr h
    · rw [cptN, if_neg he]
      have hlt : cmpT p.t x.t < 0 := by
        have h4 := hp x (List.mem_cons_self ..)
        rw [cmpT_anti x.t p.t]; omega
      refine ⟨?_, ?_, fun t => ?_⟩
      · rw [List.map_cons, List.pairwise_cons]; exact ⟨h2, h1⟩
      · intro y hy
        rw [List.map_cons, List.mem_cons] at hy
        rcases hy with rfl | hy
        · exact hlt
        · exact cmpT_trans hlt (h2 y hy)
      · rw [List.map_cons, List.mem_cons, h3 t, List.map_cons, List.mem_cons]
theorem compN_spec (L : List (NA base w)) (ts : List Tm) (hp : (L.map NA.t).Perm ts) (hs : (L.map NA.t).Pairwise (fun a b => ¬ cmpT b a < 0)) : IsSet ((compN L).map NA.t) ts := by
  cases L with
  | nil => 
    refine ⟨by simp [compN], fun t => ?_⟩
    rw [← hp.mem_iff]; simp [compN]
  | cons x xs =>
    obtain ⟨h1, h2, h3⟩ := cptN_spec xs x (by rw [List.pairwise_map] at hs; exact hs)
    refine ⟨?_, fun t => ?_⟩
    · rw [compN, List.map_cons, List.pairwise_cons]; exact ⟨h2, h1⟩
    · rw [← hp.mem_iff, compN, List.map_cons, List.mem_cons, h3 t, List.map_cons, List.mem_cons]

/-- What holds at the head of setOf's loop: j places are laid. -/
structure SR (H n : Nat) (us : List Tm) (j : Nat) (w1 wr : World) : Prop where
  below : Below H w1 wr
  row : ∃ cs zs, wr.ownsRow H 34 4 (.slice (some ⟨H, 0, none⟩) n n) n (cs ++ zs) ∧ cs.length = j * 4 ∧ KC (fun b => H < b ∧ b < wr.heap.size) wr (us.take j) cs
theorem SR.cells {H n j : Nat} {us : List Tm} {w1 wr w3 : World} (h : SR H n us j w1 wr) (hj : j < n) (hB : Below wr.heap.size wr w3) :
    (∃ z0 z1 z2 z3, w3.cell? ⟨H, j * 4, none⟩ = some z0 ∧ w3.cell? ⟨H, j * 4 + 1, none⟩ = some z1 ∧ w3.cell? ⟨H, j * 4 + 2, none⟩ = some z2 ∧ w3.cell? ⟨H, j * 4 + 3, none⟩ = some z3) ∧ ∀ i, w3.frozen? ⟨H, i, none⟩ = false := by
  obtain ⟨cs, zs, ho, hc, _⟩ := h.row
  have ho3 := own_heap (w' := w3) ho (fun q hq => hB.block q (ho.lt q hq).2)
  have hl := ho3.1
  have hz : ∀ i, i < 4 → ∃ z, w3.cell? ⟨H, j * 4 + i, none⟩ = some z := fun i hi => by
    rw [ho3.cellAt _ (by omega)]
    exact ⟨_, List.getElem?_eq_getElem (by omega)⟩
  obtain ⟨z0, h0⟩ := hz 0 (by omega)
  obtain ⟨z1, h1⟩ := hz 1 (by omega)
  obtain ⟨z2, h2⟩ := hz 2 (by omega)
  obtain ⟨z3, h3⟩ := hz 3 (by omega)
  exact ⟨⟨z0, z1, z2, z3, h0, h1, h2, h3⟩, fun i => ho3.frozenAt i⟩
theorem SR.next {H n j : Nat} {us : List Tm} {w1 wr w3 : World} {m : Nat} (h : SR H n us j w1 wr) (hn : us.length = n) (hj : j < us.length) {c0 c1 c2 c3 : Value} (hm : H < m)
    (hI : IsIn (fun b => m ≤ b ∧ b < w3.heap.size) w3 us[j] c0 c1 c2 c3) (hB : Below wr.heap.size wr w3) : SR H n us (j + 1) w1 (put4 w3 H (j * 4) c0 c1 c2 c3) := by
  obtain ⟨cs, zs, ho, hc, hK⟩ := h.row
  have hlt := ho.lt H rfl
  have ho3 := own_heap (w' := w3) ho (fun q hq => hB.block q (ho.lt q hq).2)
  have hs := hB.size
  have hp : ∀ q, q ≠ H → (put4 w3 H (j * 4) c0 c1 c2 c3).heap[q]? = w3.heap[q]? := fun q hq => put4_other _ _ _ _ _ _ _ _ hq
  have hb3 : Below H w1 w3 := h.below.trans (hB.mono (by omega))
  refine ⟨?_, cs ++ [c0, c1, c2, c3], zs.drop 4, ?_, ?_, ?_⟩
  · unfold put4
    exact (((hb3.setCell (Nat.le_refl _) _).setCell (Nat.le_refl _) _).setCell (Nat.le_refl _) _).setCell (Nat.le_refl _) _
  · have h1 := ((((((ho3.stored (j * 4) c0).1).stored (j * 4 + 1) c1).1).stored (j * 4 + 2) c2).1.stored (j * 4 + 3) c3).1
    obtain ⟨z0, z1, z2, z3, r, rfl⟩ : ∃ z0 z1 z2 z3 r, zs = z0 :: z1 :: z2 :: z3 :: r := by
      have hl := ho3.1
      rw [List.length_append] at hl
      exact four_of zs (by omega)
    have e : ((((cs ++ z0 :: z1 :: z2 :: z3 :: r).set (j * 4) c0).set (j * 4 + 1) c1).set (j * 4 + 2) c2).set (j * 4 + 3) c3 = (cs ++ [c0, c1, c2, c3]) ++ List.drop 4 (z0 :: z1 :: z2 :: z3 :: r) := by
      rw [← hc]
      simp only [List.set_append_right _ _ (Nat.le_refl _), List.set_append_right _ _ (Nat.le_add_right _ _), Nat.sub_self, Nat.add_sub_cancel_left, List.set_cons_zero, List.set_cons_succ, List.drop_succ_cons, List.drop_zero, List.append_assoc, List.cons_append, List.nil_append]
    rw [e] at h1
    exact h1
  · simp only [List.length_append, hc, List.length_cons, List.length_nil]; omega
  · rw [List.take_succ_eq_append_getElem hj]
    have hsz : (put4 w3 H (j * 4) c0 c1 c2 c3).heap.size = w3.heap.size := put4_size _ _ _ _ _ _ _
    refine KC_snoc (IsIn_carry (fun b hb => hp b (by omega)) (fun b hb => ⟨by omega, by rw [hsz]; exact hb.2⟩) _ _ _ _ _ hI) _ _ (KC_carry (fun b hb => (hp b (by omega)).trans (hB.block b hb.2)) (fun b hb => ⟨hb.1, by rw [hsz]; omega⟩) _ _ hK)
theorem SR.done {H n : Nat} {us : List Tm} {w1 wr : World} (h : SR H n us n w1 wr) (hn : us.length = n) : Row wr us (some ⟨H, 0, none⟩) := by
  obtain ⟨cs, zs, ho, hc, hK⟩ := h.row
  have e : us.take n = us := by rw [← hn]; exact List.take_length
  rw [e] at hK
  have hR : RowIn (fun _ => True) wr us (some ⟨H, 0, none⟩) := RowIn_of_KC (g := H) trivial us cs 0 (KC_carry (fun _ _ => rfl) (fun _ _ => trivial) us cs hK) fun i u hu => by
    have hi : i < cs.length := by
      rcases Nat.lt_or_ge i cs.length with h | h
      · exact h
      · rw [List.getElem?_eq_none h] at hu; cases hu
    rw [Nat.zero_add, ho.cellAt i (by omega), List.getElem?_append_left hi]; exact hu
  exact RowIn_Row us _ hR
theorem NL_sizes_le {base : Nat} {w : World} (ts : List Tm) (vs : List Value) (h : NL base w ts vs) : vs.length = ts.length * 2 := NL_length ts vs h

def SetPost (base : Nat) (ts : List Tm) (w0 : World) (e : Ending) (w' : World) : Prop :=
  ∃ us H, e = .returned (.slice (some ⟨H, 0, none⟩) us.length us.length) ∧ IsSet us ts ∧ us.length ≤ ts.length ∧ Row w' us (some ⟨H, 0, none⟩) ∧ Below base w0 w'

theorem cptN_len : ∀ (xs : List (NA base w)) (p : NA base w), (cptN p xs).length ≤ xs.length
  | [], _ => by simp [cptN]
  | x :: xs, p => by
    have := cptN_len xs x
    unfold cptN; split <;> simp only [List.length_cons] <;> omega
theorem compN_len (L : List (NA base w)) : (compN L).length ≤ L.length := by
  cases L with
  | nil => simp [compN]
  | cons x xs => have := cptN_len xs x; simp only [compN, List.length_cons]; omega

end

end Go.Proofs.Ytcieadjjcpmieaa

/-
  THE WALK OF term.Subterms.
-/
namespace Go.Proofs.Ytcieadjjcpmieaa
open Go.RowKit Go.Lib

theorem subT_size (t : Tm) : ∀ u ∈ subT t, size u ≤ size t := by
  refine Tm.rec (motive_1 := fun t => ∀ u ∈ subT t, size u ≤ size t) (motive_2 := fun ts => ∀ u ∈ subL ts, size u ≤ sizes ts) ?_ ?_ ?_ t
  · intro k n s ks ih u hu
    simp only [subT, List.mem_cons] at hu
    rcases hu with rfl | hu
    · exact Nat.le_refl _
    · have := ih u hu; simp only [size]; omega
  · intro u hu; simp [subL] at hu
  · intro t ts h1 h2 u hu
    simp only [subL, List.mem_append] at hu
    simp only [sizes]
    rcases hu with hu | hu
    · have := h1 u hu; omega
    · have := h2 u hu; omega
theorem subL_size : ∀ (ts : List Tm), ∀ u ∈ subL ts, size u ≤ sizes ts
  | [], u, hu => by simp [subL] at hu
  | t :: ts, u, hu => by
    simp only [subL, List.mem_append] at hu
    simp only [sizes]
    rcases hu with hu | hu
    · have := subT_size t u hu; omega
    · have := subL_size ts u hu; omega

end Go.Proofs.Ytcieadjjcpmieaa

/-
  THE WALKS OF the reference's Add, Set.
-/
namespace Go.Proofs.Ytcieadjjcpmieaa
open Go.RowKit

/-- One term appended to a row of the call's own. -/
theorem OwnT_push {H base n g cap lcap : Nat} {w w' : World} {os : List Tm} {xl : Option Addr} {cs : List Value} {t : Tm} {c0 c1 c2 c3 : Value} {o : Obj} (hown0 : w.ownsRow H 34 4 (.slice xl n lcap) n cs) (hK : KC (fun b => b < base) w os cs) (hn : n = os.length) (hI : IsIn (fun b => b < base) w t c0 c1 c2 c3)
    (hb : base ≤ H) (hHw : H ≤ w.heap.size) (hown : w'.ownsRow H 34 4 (.slice (some ⟨g, 0, none⟩) (n + 1) cap) (n + 1) (cs ++ [c0, c1, c2, c3])) (hg : (w.alloc o).grownBy w' (Value.slice xl n lcap).ownBlock) :
    OwnT H (fun b => b < base) w' (os ++ [t]) (.slice (some ⟨g, 0, none⟩) (n + 1) cap) ∧ Below H w w' := by
  subst hn
  have hB : Below H w w' := ((Below.refl H w).alloc hHw _).grown hg (by rw [World.size_alloc]; omega) (fun q hq => (hown0.lt q hq).1)
  have hBl : Below base w w' := hB.mono hb
  refine ⟨⟨cs ++ [c0, c1, c2, c3], by simpa using hown, ?_⟩, hB⟩
  exact KC_append _ _ _ _ (KC_carry (fun b hb' => hBl.block b hb') (fun _ h => h) _ _ hK) (KC_one_term (IsIn_carry (fun b hb' => hBl.block b hb') (fun _ h => h) _ _ _ _ _ hI))

/-- At the head of Add's loop: what is out, whether the new term is done. -/
def AddR (base H : Nat) (B : World) (t : Tm) (ts : List Tm) (j n : Nat) (d : Bool) (v : Value) (wr : World) : Prop :=
  ∃ os, n = os.length ∧ OwnT H (fun b => b < base) wr os v ∧ Below H B wr ∧ os ++ addR t (ts.drop j) d = addR t ts false

theorem TermsPost_add {base : Nat} {w wr : World} {t : Tm} {ts os : List Tm} {v : Value} (hO : OwnT (w.heap.size + 1) (fun b => b < base) wr os v) (hB : Below w.heap.size w wr) (he : os = addR t ts false) : TermsPost base w (addR t ts false) (.returned v) wr :=
  ⟨v, rfl, by rw [← he]; exact OwnT_elems hO, hB⟩

end Go.Proofs.Ytcieadjjcpmieaa

/-
  THE WALKS OF the reference's Set, Subterms, kind, Vars, Atoms.
-/
namespace Go.Proofs.Ytcieadjjcpmieaa
open Go.RowKit

theorem setG_mem (ts : List Tm) (u : Tm) : u ∈ setG [] ts ↔ u ∈ ts := setT_mem ts u

/-- The terms of a kind. -/
def ofK (k : Int) (l : List Tm) : List Tm := l.filter fun t => t.kind == k
theorem ofK_take (k : Int) (l : List Tm) (j : Nat) (h : j < l.length) : ofK k (l.take (j + 1)) = ofK k (l.take j) ++ if l[j].kind == k then [l[j]] else [] := by
  rw [List.take_succ_eq_append_getElem h, ofK, ofK, List.filter_append]
  congr 1
  simp only [List.filter_cons, List.filter_nil]
theorem ofK_len (k : Int) (l : List Tm) : (ofK k l).length ≤ l.length := List.length_filter_le _ _

def KindR (base : Nat) (B : World) (k : Int) (ts : List Tm) (j n : Nat) (v : Value) (wr : World) : Prop :=
  n = (ofK k (ts.take j)).length ∧ OwnT B.heap.size (fun b => b < base) wr (ofK k (ts.take j)) v ∧ Below B.heap.size B wr

end Go.Proofs.Ytcieadjjcpmieaa

/-
  THE WALK OF the reference's Subterms: the subterms of a list, each once, in order.
-/
namespace Go.Proofs.Ytcieadjjcpmieaa
open Go.RowKit

end Go.Proofs.Ytcieadjjcpmieaa
