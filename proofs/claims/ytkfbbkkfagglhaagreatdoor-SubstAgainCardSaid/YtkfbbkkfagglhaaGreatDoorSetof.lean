/-
  THE WALK OF term.setOf: sorted, each once, copied.
-/
import Derived.Test.YtkfbbkkfagglhaaGreatDoorComp
import Derived.Test.YtkfbbkkfagglhaaGreatDoorCopy
namespace Go.Proofs.YtkfbbkkfagglhaaGreatDoor
open Go.RowKit Go.Lib

/-- The list that is sorted, each once, with the members of another. -/
def IsSet (us ts : List Tm) : Prop := us.Pairwise (fun a b => cmpT a b < 0) ∧ ∀ t, t ∈ us ↔ t ∈ ts

theorem RowIn_Row {S : Nat → Prop} {w : World} : ∀ (ts : List Tm) (xa : Option Addr), RowIn S w ts xa → Row w ts xa
  | [], _, _ => by simp [Row]
  | t :: ts, xa, h => by
    simp only [RowIn] at h; simp only [Row]
    obtain ⟨b, o, e, _, ⟨c0, c1, c2, c3, g0, g1, g2, g3, hI⟩, hR⟩ := h
    exact ⟨b, o, e, ⟨c0, c1, c2, c3, g0, g1, g2, g3, IsIn_Is _ _ _ _ _ hI⟩, RowIn_Row ts _ hR⟩

section
variable {base : Nat} {w : World}
theorem cptN_spec : ∀ (xs : List (NA base w)) (p : NA base w), (p :: xs).Pairwise (fun a b => ¬ cmpT b.t a.t < 0) →
    ((cptN p xs).map NA.t).Pairwise (fun a b => cmpT a b < 0) ∧ (∀ x ∈ (cptN p xs).map NA.t, cmpT p.t x < 0) ∧ (∀ t, t = p.t ∨ t ∈ (cptN p xs).map NA.t ↔ t = p.t ∨ t ∈ xs.map NA.t)
  | [], p, _ => by simp [cptN]
  | x :: xs, p, h => by
    have hp := (List.pairwise_cons.1 h).1
    have ht := (List.pairwise_cons.1 h).2
    obtain ⟨h1, h2, h3⟩ := cptN_spec xs x ht
    by_cases he : cmpT x.t p.t = 0
    · have e := cmpT_zero _ _ he
      rw [cptN, if_pos he]
      refine ⟨h1, fun y hy => by rw [← e]; exact h2 y hy, fun t => ?_⟩
      have := h3 t
      rw [e] at this
      rw [this]
      simp only [List.map_cons, List.mem_cons, e]
      constructor
      · rintro (h | h); exact Or.inl h; exact Or.inr (Or.inr h)
      · rintro (h | h | h); exact Or.inl h; exact Or.inl h; exact Or.inr h
    · rw [cptN, if_neg he]
      have hlt : cmpT p.t x.t < 0 := by
        have h4 := hp x (List.mem_cons_self ..)
        rw [cmpT_anti x.t p.t]; omega
      refine ⟨?_, ?_, fun t => ?_⟩
      · rw [List.map_cons, List.pairwise_cons]; exact ⟨h2, h1⟩
      · intro y hy
        rw [List.map_cons, List.mem_cons] at hy
        rcases hy with rfl | hy
        · exact hlt
        · exact cmpT_trans hlt (h2 y hy)
      · rw [List.map_cons, List.mem_cons, h3 t, List.map_cons, List.mem_cons]
theorem compN_spec (L : List (NA base w)) (ts : List Tm) (hp : (L.map NA.t).Perm ts) (hs : (L.map NA.t).Pairwise (fun a b => ¬ cmpT b a < 0)) : IsSet ((compN L).map NA.t) ts := by
  cases L with
  | nil => 
    refine ⟨by simp [compN], fun t => ?_⟩
    rw [← hp.mem_iff]; simp [compN]
  | cons x xs =>
    obtain ⟨h1, h2, h3⟩ := cptN_spec xs x (by rw [List.pairwise_map] at hs; exact hs)
    refine ⟨?_, fun t => ?_⟩
    · rw [compN, List.map_cons, List.pairwise_cons]; exact ⟨h2, h1⟩
    · rw [← hp.mem_iff, compN, List.map_cons, List.mem_cons, h3 t, List.map_cons, List.mem_cons]

/-- What holds at the head of setOf's loop: j places are laid. -/
structure SR (H n : Nat) (us : List Tm) (j : Nat) (w1 wr : World) : Prop where
  below : Below H w1 wr
  row : ∃ cs zs, wr.ownsRow H 36 4 (.slice (some ⟨H, 0, none⟩) n n) n (cs ++ zs) ∧ cs.length = j * 4 ∧ KC (fun b => H < b ∧ b < wr.heap.size) wr (us.take j) cs
theorem SR.cells {H n j : Nat} {us : List Tm} {w1 wr w3 : World} (h : SR H n us j w1 wr) (hj : j < n) (hB : Below wr.heap.size wr w3) :
    (∃ z0 z1 z2 z3, w3.cell? ⟨H, j * 4, none⟩ = some z0 ∧ w3.cell? ⟨H, j * 4 + 1, none⟩ = some z1 ∧ w3.cell? ⟨H, j * 4 + 2, none⟩ = some z2 ∧ w3.cell? ⟨H, j * 4 + 3, none⟩ = some z3) ∧ ∀ i, w3.frozen? ⟨H, i, none⟩ = false := by
  obtain ⟨cs, zs, ho, hc, _⟩ := h.row
  have ho3 := own_heap (w' := w3) ho (fun q hq => hB.block q (ho.lt q hq).2)
  have hl := ho3.1
  have hz : ∀ i, i < 4 → ∃ z, w3.cell? ⟨H, j * 4 + i, none⟩ = some z := fun i hi => by
    rw [ho3.cellAt _ (by omega)]
    exact ⟨_, List.getElem?_eq_getElem (by omega)⟩
  obtain ⟨z0, h0⟩ := hz 0 (by omega)
  obtain ⟨z1, h1⟩ := hz 1 (by omega)
  obtain ⟨z2, h2⟩ := hz 2 (by omega)
  obtain ⟨z3, h3⟩ := hz 3 (by omega)
  exact ⟨⟨z0, z1, z2, z3, h0, h1, h2, h3⟩, fun i => ho3.frozenAt i⟩
theorem SR.next {H n j : Nat} {us : List Tm} {w1 wr w3 : World} {m : Nat} (h : SR H n us j w1 wr) (hn : us.length = n) (hj : j < us.length) {c0 c1 c2 c3 : Value} (hm : H < m)
    (hI : IsIn (fun b => m ≤ b ∧ b < w3.heap.size) w3 us[j] c0 c1 c2 c3) (hB : Below wr.heap.size wr w3) : SR H n us (j + 1) w1 (put4 w3 H (j * 4) c0 c1 c2 c3) := by
  obtain ⟨cs, zs, ho, hc, hK⟩ := h.row
  have hlt := ho.lt H rfl
  have ho3 := own_heap (w' := w3) ho (fun q hq => hB.block q (ho.lt q hq).2)
  have hs := hB.size
  have hp : ∀ q, q ≠ H → (put4 w3 H (j * 4) c0 c1 c2 c3).heap[q]? = w3.heap[q]? := fun q hq => put4_other _ _ _ _ _ _ _ _ hq
  have hb3 : Below H w1 w3 := h.below.trans (hB.mono (by omega))
  refine ⟨?_, cs ++ [c0, c1, c2, c3], zs.drop 4, ?_, ?_, ?_⟩
  · unfold put4
    exact (((hb3.setCell (Nat.le_refl _) _).setCell (Nat.le_refl _) _).setCell (Nat.le_refl _) _).setCell (Nat.le_refl _) _
  · have h1 := ((((((ho3.stored (j * 4) c0).1).stored (j * 4 + 1) c1).1).stored (j * 4 + 2) c2).1.stored (j * 4 + 3) c3).1
    obtain ⟨z0, z1, z2, z3, r, rfl⟩ : ∃ z0 z1 z2 z3 r, zs = z0 :: z1 :: z2 :: z3 :: r := by
      have hl := ho3.1
      rw [List.length_append] at hl
      exact four_of zs (by omega)
    have e : ((((cs ++ z0 :: z1 :: z2 :: z3 :: r).set (j * 4) c0).set (j * 4 + 1) c1).set (j * 4 + 2) c2).set (j * 4 + 3) c3 = (cs ++ [c0, c1, c2, c3]) ++ List.drop 4 (z0 :: z1 :: z2 :: z3 :: r) := by
      rw [← hc]
      simp only [List.set_append_right _ _ (Nat.le_refl _), List.set_append_right _ _ (Nat.le_add_right _ _), Nat.sub_self, Nat.add_sub_cancel_left, List.set_cons_zero, List.set_cons_succ, List.drop_succ_cons, List.drop_zero, List.append_assoc, List.cons_append, List.nil_append]
    rw [e] at h1
    exact h1
  · simp only [List.length_append, hc, List.length_cons, List.length_nil]; omega
  · rw [List.take_succ_eq_append_getElem hj]
    have hsz : (put4 w3 H (j * 4) c0 c1 c2 c3).heap.size = w3.heap.size := put4_size _ _ _ _ _ _ _
    refine KC_snoc (IsIn_carry (fun b hb => hp b (by omega)) (fun b hb => ⟨by omega, by rw [hsz]; exact hb.2⟩) _ _ _ _ _ hI) _ _ (KC_carry (fun b hb => (hp b (by omega)).trans (hB.block b hb.2)) (fun b hb => ⟨hb.1, by rw [hsz]; omega⟩) _ _ hK)
theorem SR.done {H n : Nat} {us : List Tm} {w1 wr : World} (h : SR H n us n w1 wr) (hn : us.length = n) : Row wr us (some ⟨H, 0, none⟩) := by
  obtain ⟨cs, zs, ho, hc, hK⟩ := h.row
  have e : us.take n = us := by rw [← hn]; exact List.take_length
  rw [e] at hK
  have hR : RowIn (fun _ => True) wr us (some ⟨H, 0, none⟩) := RowIn_of_KC (g := H) trivial us cs 0 (KC_carry (fun _ _ => rfl) (fun _ _ => trivial) us cs hK) fun i u hu => by
    have hi : i < cs.length := by
      rcases Nat.lt_or_ge i cs.length with h | h
      · exact h
      · rw [List.getElem?_eq_none h] at hu; cases hu
    rw [Nat.zero_add, ho.cellAt i (by omega), List.getElem?_append_left hi]; exact hu
  exact RowIn_Row us _ hR
theorem NL_sizes_le {base : Nat} {w : World} (ts : List Tm) (vs : List Value) (h : NL base w ts vs) : vs.length = ts.length * 2 := NL_length ts vs h

def SetPost (base : Nat) (ts : List Tm) (w0 : World) (e : Ending) (w' : World) : Prop :=
  ∃ us H, e = .returned (.slice (some ⟨H, 0, none⟩) us.length us.length) ∧ IsSet us ts ∧ us.length ≤ ts.length ∧ Row w' us (some ⟨H, 0, none⟩) ∧ Below base w0 w'

theorem cptN_len : ∀ (xs : List (NA base w)) (p : NA base w), (cptN p xs).length ≤ xs.length
  | [], _ => by simp [cptN]
  | x :: xs, p => by
    have := cptN_len xs x
    unfold cptN; split <;> simp only [List.length_cons] <;> omega
theorem compN_len (L : List (NA base w)) : (compN L).length ≤ L.length := by
  cases L with
  | nil => simp [compN]
  | cons x xs => have := cptN_len xs x; simp only [compN, List.length_cons]; omega

set_option maxHeartbeats 3200000 in
set_option maxRecDepth 100000 in
theorem setOf_any {base g n cap : Nat} {ts : List Tm} {vs : List Value} {w0 : World} (hown : w0.ownsRow base 230 2 (.slice (some ⟨g, 0, none⟩) n cap) n vs) (hN : NL base w0 ts vs) (hbw : base ≤ w0.heap.size) (hn : 0 < n) (hsz : ∀ t ∈ ts, size t ≤ 1073741824) (hlt : n ≤ 1073741824) :
    Calls Tryz.prog 163 #[.slice (some ⟨g, 0, none⟩) n cap] w0 (SetPost base ts w0) := by
  have HSORT := Lib.hid (sort_nodes hown hN hbw hn (fun t ht => by have := hsz t ht; omega) (by omega))
  have hnt : n = ts.length := by have := hown.1; have := NL_length ts vs hN; omega
  have HSZ := Lib.hid hsz
  have HNT := Lib.hid hnt
  clear hown hN hsz hnt
  obtain ⟨i0, hi0, hz0, hz1, hz2⟩ := info_parts info24
  have HI0 := Lib.hid (And.intro hi0 (And.intro hz0 (And.intro hz1 hz2)))
  clear hi0 hz0 hz1 hz2
  go_enter Tryz.func163, Tryz.ntmps163
  go_wp2_with (first
    | (go_at_call 201; refine (HSORT.out).mono ?_; rintro e wa ⟨he, ts', vs', q1, q2, q3, q4, q5⟩; subst he; have HA := Lib.hid (And.intro q1 (And.intro q2 (And.intro q3 (And.intro q4 q5)))); clear q1 q2 q3 q4 q5)
    | (go_at_call 203; obtain ⟨L, e1, e2⟩ := NL_NA ts' vs' HA.out.2.1 (fun t ht => by have := HSZ.out t (HA.out.2.2.1.mem_iff.1 ht); omega); have hL : n = L.length := (by have h1 := HA.out.2.2.1.length_eq; have h2 := HNT.out; rw [← e1, List.length_map] at h1; omega); have hbb : base ≤ wa.heap.size := Nat.le_trans hbw HA.out.2.2.2.2.size; have HC := Lib.hid (compact_nodes (w := wa) (cap := cap) L wa (by rw [← hL, ← e2]; exact HA.out.1) (Below.refl _ _) hbb (by omega) (by omega)); rw [← hL] at HC; refine (HC.out).mono ?_; rintro e wb ⟨he, r1, r2⟩; subst he; have HBW := Lib.hid (And.intro r1 (And.intro r2 (And.intro e1 (And.intro hL hbb)))); have HM := Lib.hid (compN_spec L ts (by rw [e1]; exact HA.out.2.2.1) (by rw [e1]; exact HA.out.2.2.2.1.imp (fun h => by omega))); have hml := compN_len L; have HMS : Hid (∀ x ∈ (compN L).map NA.t, size x ≤ 1073741824) := (fun x hx => HSZ.out x ((HM.out.2 x).1 hx)); clear HC r1 r2 e1 e2; generalize compN L = M at HBW HM hml HMS ⊢; obtain ⟨H, hH⟩ : ∃ H, wb.heap.size = H := ⟨_, rfl⟩; have HHH := Lib.hid hH)
    | (at_make; refine make_full_at _ H HHH.out rfl _ _ _ rfl 36 i0 _ 4 Tryz.underlying23 HI0.out.1 HI0.out.2.1 HI0.out.2.2.1 M.length rfl rfl (by rw [HI0.out.2.2.2]; omega) (by unfold maxLen; omega) ?_; intro wc hown1 hgrow; have hBC : Below H wb wc := ((Below.refl _ _).grown hgrow (by rw [hH]; exact Nat.le_refl _) (fun q hq => by simp at hq)); have HSR := Lib.hid (SR.mk (us := M.map NA.t) (j := 0) hBC ⟨[], _, hown1, rfl, rfl⟩); clear hH hown1 hgrow hBC))
  have hgH : g < H := by have := HBW.out.1.lt g rfl; rw [HHH.out] at this; exact this.2
  have ng1 : ¬ g = H := by omega
  have ng2 : ¬ H = g := by omega
  go_loopw [15] (fun i wr => ∃ j : Nat, j ≤ M.length ∧ i = .int .i64 j ∧ SR H M.length (M.map NA.t) j wb wr) (fun i _ => M.length - (intOf i).toNat)
  case atStart => exact ⟨0, Nat.zero_le _, rfl, HSR.out⟩
  case round =>
    obtain ⟨j, hj, rfl, hR⟩ := hrel
    by_cases hjl : j < M.length
    · have HX := Lib.hid hR
      have hOr := own_heap (w' := wr) HBW.out.1 (fun q hq => hR.below.block q (by have := (HBW.out.1.lt q hq).2; rw [HHH.out] at this; exact this))
      obtain ⟨⟨x0, x1⟩, _⟩ := node_cells hOr j hjl
      have hBw : Below base wa wr := HBW.out.2.1.trans (hR.below.mono (by have := HBW.out.2.1.size; have := HBW.out.2.2.2.2; have := HHH.out; omega))
      have hHr : H < wr.heap.size := by obtain ⟨cs, zs, ho, _⟩ := hR.row; exact (ho.lt H rfl).2
      have hmj : size M[j].t ≤ 1073741824 := HMS.out _ (List.mem_map_of_mem (List.getElem_mem hjl))
      generalize hx : M[j] = x at x0 x1 hmj
      have HE := Lib.hid hx
      have i1 : (0 : Int) ≤ (j : Int) := by omega
      have i2 : (j : Int) < (M.length : Int) := by omega
      have HCO := Lib.hid (copyOf_any 1073741824 x.t x.b x.o (wr.alloc (.cells #[.pointer (some ⟨x.b, x.o, none⟩), .int .i64 (size x.t)] 230)) hmj (Nat.le_refl _) (Lies_carry (keep_alloc _ _) (x.liesAt hBw)))
      clear hx hOr hBw hR
      go_wp2_with (go_at_call 189; refine (HCO.out).mono ?_; rintro e w3 ⟨c0, c1, c2, c3, he, hI, hB⟩; subst he; obtain ⟨k', n', s', x', l', c', e0, e1, e2, e3⟩ := IsIn_form hI; subst e0 e1 e2 e3; have hB' : Below wr.heap.size wr w3 := ((Below.refl _ _).alloc (Nat.le_refl _) _).trans (hB.mono (by simp)); obtain ⟨⟨z0, z1, z2, z3, y0, y1, y2, y3⟩, hz⟩ := HX.out.cells hjl hB'; have f0 := hz (j * 4); have f1 := hz (j * 4 + 1); have f2 := hz (j * 4 + 2); have f3 := hz (j * 4 + 3); rw [World.size_alloc] at hI; have HN := Lib.hid (HX.out.next (m := wr.heap.size + 1) (by simp) (by simpa using hjl) (by omega) (by rw [List.getElem_map, HE.out]; exact hI) hB'); clear hI hB hB' hz)
      go_roundw
      case rel => exact ⟨j + 1, by omega, by go_num, HN.out⟩
      case measure => simp [intOf]; omega
    · have hje : j = M.length := by omega
      subst hje
      have HD := Lib.hid (hR.done (by simp))
      have HBL := Lib.hid hR.below
      clear hR
      go_wp2_with fail
      go_ret
      refine ⟨M.map NA.t, H, by simp, HM.out, ?_, HD.out, ?_⟩
      · have h1 := HNT.out; have h2 := HBW.out.2.2.2.1; simp only [List.length_map]; omega
      · have h1 := HBW.out.2.1.size; have h2 := HBW.out.2.2.2.2; have h3 := HHH.out
        exact (HA.out.2.2.2.2.trans HBW.out.2.1).trans (HBL.out.mono (by omega))

end

end Go.Proofs.YtkfbbkkfagglhaaGreatDoor

/-
  THE WALK OF term.Subterms.
-/
namespace Go.Proofs.YtkfbbkkfagglhaaGreatDoor
open Go.RowKit Go.Lib

theorem subT_size (t : Tm) : ∀ u ∈ subT t, size u ≤ size t := by
  refine Tm.rec (motive_1 := fun t => ∀ u ∈ subT t, size u ≤ size t) (motive_2 := fun ts => ∀ u ∈ subL ts, size u ≤ sizes ts) ?_ ?_ ?_ t
  · intro k n s ks ih u hu
    simp only [subT, List.mem_cons] at hu
    rcases hu with rfl | hu
    · exact Nat.le_refl _
    · have := ih u hu; simp only [size]; omega
  · intro u hu; simp [subL] at hu
  · intro t ts h1 h2 u hu
    simp only [subL, List.mem_append] at hu
    simp only [sizes]
    rcases hu with hu | hu
    · have := h1 u hu; omega
    · have := h2 u hu; omega
theorem subL_size : ∀ (ts : List Tm), ∀ u ∈ subL ts, size u ≤ sizes ts
  | [], u, hu => by simp [subL] at hu
  | t :: ts, u, hu => by
    simp only [subL, List.mem_append] at hu
    simp only [sizes]
    rcases hu with hu | hu
    · have := subT_size t u hu; omega
    · have := subL_size ts u hu; omega

/-- What holds at the head of the loop. -/
def SubRel (w : World) (l : List Tm) (al : Value) (wr : World) : Prop :=
  ∃ vs, wr.ownsRow w.heap.size 230 2 al (sizes l) vs ∧ NL w.heap.size wr (subL l) vs ∧ Below w.heap.size w wr
theorem SubRel.next {w wr w3 : World} {ls : List Tm} {j : Nat} (hj : j < ls.length) {vs us : List Value} {l2 : Value} (hN : NL w.heap.size wr (subL (ls.take j)) vs) (hB : Below w.heap.size w wr)
    (h : w3.ownsRow w.heap.size 230 2 l2 (sizes (ls.take j) + size ls[j]) (vs ++ us)) (hN2 : NL w.heap.size w3 (subT ls[j]) us) (hB2 : Below w.heap.size wr w3) : SubRel w (ls.take (j + 1)) l2 w3 := by
  refine ⟨vs ++ us, ?_, ?_, hB.trans hB2⟩
  · have := sizes_take ls j hj; rw [this]; exact h
  · rw [subL_take ls j hj]; exact NL_append _ _ _ _ (NL_carry (fun b hb => hB2.block b hb) _ _ hN) hN2

end Go.Proofs.YtkfbbkkfagglhaaGreatDoor
