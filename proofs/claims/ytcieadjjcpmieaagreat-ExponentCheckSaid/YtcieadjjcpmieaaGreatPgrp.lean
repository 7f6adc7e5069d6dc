/-
  THE GROUP OF PRODUCTS OF SIX NONCES, on plain data.
-/
import Derived.Test.YtcieadjjcpmieaaGreatPcoll
import Derived.Test.YtcieadjjcpmieaaGreatPtim
import Derived.Test.YtcieadjjcpmieaaGreatPmade
namespace Go.Proofs.YtcieadjjcpmieaaGreat
open Go.RowKit

theorem atom_facts : ∀ i, i < 6 → nodesE (atomN i) = 0 ∧ expo (atomN i) = false ∧ size (atomN i) = 1 ∧ depth (atomN i) = 1
  | 0, _ => ⟨by kernel_rfl, by kernel_rfl, rfl, rfl⟩
  | 1, _ => ⟨by kernel_rfl, by kernel_rfl, rfl, rfl⟩
  | 2, _ => ⟨by kernel_rfl, by kernel_rfl, rfl, rfl⟩
  | 3, _ => ⟨by kernel_rfl, by kernel_rfl, rfl, rfl⟩
  | 4, _ => ⟨by kernel_rfl, by kernel_rfl, rfl, rfl⟩
  | 5, _ => ⟨by kernel_rfl, by kernel_rfl, rfl, rfl⟩
  | n + 6, h => absurd h (by omega)
theorem atom_valid {i : Nat} (h : i < 6) : validE (atomN i) = 0 := by
  obtain ⟨h1, _, h3, h4⟩ := atom_facts i h
  rw [validE, if_pos h1, if_neg (by omega)]
theorem atom_asc : ∀ j, j < 6 → ∀ i, i < j → cmpT (atomN i) (atomN j) < 0 := by
  have h : (List.range 6).all (fun j => (List.range j).all fun i => decide (cmpT (atomN i) (atomN j) < 0)) = true := by kernel_rfl
  intro j hj i hi
  have h1 := List.all_eq_true.1 h j (List.mem_range.2 hj)
  exact of_decide_eq_true (List.all_eq_true.1 h1 i (List.mem_range.2 hi))
/-- A product of the six nonces, with numbers up to K and at most n factors. -/
def Cp (K n : Nat) (ps : List Pw) : Prop := NormP ps ∧ ps.length ≤ n ∧ (∀ p ∈ ps, p.2.natAbs ≤ K) ∧ ∀ p ∈ ps, ∃ i, i < 6 ∧ p.1 = atomN i
theorem madeJ_ok {q : List Int} (hq : ∀ x ∈ q, -128 ≤ x ∧ x ≤ 127) : ∀ j, j ≤ 6 → AscP (madeJ q j) ∧ ∀ p ∈ madeJ q j, ¬ p.2 = 0 ∧ p.2.natAbs ≤ 128 ∧ ∃ i, i < j ∧ p.1 = atomN i
  | 0, _ => ⟨List.Pairwise.nil, fun p hp => by simp [madeJ] at hp⟩
  | j + 1, h => by
    obtain ⟨i1, i2⟩ := madeJ_ok hq j (by omega)
    rw [madeJ]
    by_cases h0 : q.getD j 0 = 0
    · rw [if_pos h0, List.append_nil]
      exact ⟨i1, fun p hp => ⟨(i2 p hp).1, (i2 p hp).2.1, by obtain ⟨i, hi, e⟩ := (i2 p hp).2.2; exact ⟨i, by omega, e⟩⟩⟩
    · rw [if_neg h0]
      have hr : (q.getD j 0).natAbs ≤ 128 := by
        rw [List.getD_eq_getElem?_getD]
        by_cases hj : j < q.length
        · have := hq _ (List.getElem_mem hj)
          rw [List.getElem?_eq_getElem hj]
          show (q[j]'hj).natAbs ≤ 128
          omega
        · rw [List.getElem?_eq_none (by omega)]; decide
      refine ⟨List.pairwise_append.2 ⟨i1, List.pairwise_singleton _ _, fun p hp r hr => ?_⟩, fun p hp => ?_⟩
      · simp only [List.mem_cons, List.not_mem_nil, or_false] at hr
        obtain ⟨i, hi, e⟩ := (i2 p hp).2.2
        rw [hr, e]; exact atom_asc j (by omega) i hi
      · rcases List.mem_append.1 hp with hp | hp
        · exact ⟨(i2 p hp).1, (i2 p hp).2.1, by obtain ⟨i, hi, e⟩ := (i2 p hp).2.2; exact ⟨i, by omega, e⟩⟩
        · simp only [List.mem_cons, List.not_mem_nil, or_false] at hp
          rw [hp]; exact ⟨h0, hr, j, by omega, rfl⟩
theorem madeP_cp {q : List Int} (hq : ∀ x ∈ q, -128 ≤ x ∧ x ≤ 127) : Cp 128 6 (madeP q) := by
  obtain ⟨h1, h2⟩ := madeJ_ok hq (min 6 q.length) (by omega)
  have h3 := madeJ_len q (min 6 q.length)
  exact ⟨⟨h1, fun p hp => (h2 p hp).1⟩, by unfold madeP; omega, fun p hp => (h2 p hp).2.1, fun p hp => by obtain ⟨i, hi, e⟩ := (h2 p hp).2.2; exact ⟨i, by omega, e⟩⟩
theorem Cp.mono {K L m n : Nat} {ps : List Pw} (h : Cp K m ps) (hK : K ≤ L) (hm : m ≤ n) : Cp L n ps := ⟨h.1, Nat.le_trans h.2.1 hm, fun p hp => Nat.le_trans (h.2.2.1 p hp) hK, h.2.2.2⟩
theorem Cp.ok {K n : Nat} {ps : List Pw} (h : Cp K n ps) (hK : K ≤ 1000) (hn : n ≤ 200) : powE 1000 ps = 0 :=
  powE_mk (Nat.le_trans h.2.1 hn) (fun p hp => by
    obtain ⟨i, hi, e⟩ := h.2.2.2 p hp
    have := h.2.2.1 p hp
    exact pwE_mk (by rw [e]; exact atom_valid hi) (by rw [e]; exact (atom_facts i hi).2.1) (h.1.2 p hp) (by omega) (by omega)) h.1.1
theorem Cp.sz {K n : Nat} {ps : List Pw} (h : Cp K n ps) (N : Nat) (hN : 1 ≤ N) : SzP N ps := fun p hp => by
  obtain ⟨i, hi, e⟩ := h.2.2.2 p hp
  rw [e, (atom_facts i hi).2.2.1]; exact hN
theorem pwr_le {K : Nat} {ps : List Pw} (h : NormP ps) (hK : ∀ p ∈ ps, p.2.natAbs ≤ K) (t : Tm) : (pwr ps t).natAbs ≤ K := by
  by_cases hx : ∃ p ∈ ps, p.1 = t
  · obtain ⟨p, hp, rfl⟩ := hx
    rw [norm_get h hp]; exact hK p hp
  · rw [pwr_none (fun p hp e => hx ⟨p, hp, e⟩)]; omega
theorem Cp.add {K L m n : Nat} {a b : List Pw} (ha : Cp K m a) (hb : Cp L n b) : Cp (K + L) (m + n) (addsP a b) ∧ ∀ u, pwr (addsP a b) u = pwr a u + pwr b u := by
  obtain ⟨h1, h2, h3⟩ := addsP_norm b ha.1 hb.1.2
  have h4 : (addsP a b).length ≤ a.length + b.length := addsP_len b a
  refine ⟨⟨h1, by have := ha.2.1; have := hb.2.1; omega, fun p hp => ?_, fun p hp => ?_⟩, h3⟩
  · have e := norm_get h1 hp
    rw [h3] at e
    have := pwr_le ha.1 ha.2.2.1 p.1
    have := pwr_le hb.1 hb.2.2.1 p.1
    omega
  · rcases h2 p hp with ⟨r, hr, e⟩ | ⟨r, hr, e⟩
    · rw [e]; exact hb.2.2.2 r hr
    · rw [e]; exact ha.2.2.2 r hr
theorem Cp.near {K n : Nat} {ps : List Pw} (h : Cp K n ps) (hK : K ≤ 1000) : tooG ps = false := tooG_none fun p hp => by
  have := h.2.2.1 p (List.mem_of_mem_take hp)
  unfold farP
  rw [decide_eq_false (by omega), decide_eq_false (by omega)]; rfl
theorem Cp.mul {K L m n : Nat} {a b : List Pw} (ha : Cp K m a) (hb : Cp L n b) (hK : K + L ≤ 1000) (hn : m + n ≤ 200) : mulP a b = (addsP a b, 0) := by
  have hc := (ha.add hb).1
  unfold mulP
  rw [if_pos (ha.ok (by omega) (by omega)), if_pos (hb.ok (by omega) (by omega)), if_pos]
  exact rangeE_ok (hc.near hK) (by have := hc.2.1; omega)
theorem scal_map {K n : Nat} {ps : List Pw} (h : Cp K n ps) (c : Int) (hc : c.natAbs * K ≤ 1000000) : scalP c ps = ps.map fun p => (p.1, c * p.2) := by
  unfold scalP
  refine List.map_congr_left fun p hp => ?_
  have h1 := h.2.2.1 p hp
  have h2 : (p.2 * c).natAbs ≤ 1000000 := by
    rw [Int.natAbs_mul, Nat.mul_comm]
    exact Nat.le_trans (Nat.mul_le_mul_left _ h1) hc
  rw [IntWalk.wrap64_in _ (by constructor <;> omega), Int.mul_comm]
theorem pwr_map (c : Int) (u : Tm) : ∀ ps : List Pw, pwr (ps.map fun p => (p.1, c * p.2)) u = c * pwr ps u
  | [] => by simp [pwr]
  | p :: ps => by
    rw [List.map_cons, pwr, pwr, pwr_map c u ps, Int.mul_add]
    by_cases h : cmpT p.1 u = 0
    · rw [if_pos h, if_pos h]
    · rw [if_neg h, if_neg h, Int.mul_zero]
theorem Cp.scal {K n : Nat} {ps : List Pw} (h : Cp K n ps) {c : Int} (hc : c.natAbs * K ≤ 1000000) (h0 : ¬ c = 0) : Cp (c.natAbs * K) n (scalP c ps) ∧ ∀ u, pwr (scalP c ps) u = c * pwr ps u := by
  rw [scal_map h c hc]
  refine ⟨⟨⟨?_, fun p hp => ?_⟩, by rw [List.length_map]; exact h.2.1, fun p hp => ?_, fun p hp => ?_⟩, fun u => pwr_map c u ps⟩
  · exact List.pairwise_map.2 h.1.1
  · obtain ⟨r, hr, rfl⟩ := List.mem_map.1 hp
    exact Int.mul_ne_zero h0 (h.1.2 r hr)
  · obtain ⟨r, hr, rfl⟩ := List.mem_map.1 hp
    show (c * r.2).natAbs ≤ _
    rw [Int.natAbs_mul]
    exact Nat.mul_le_mul_left _ (h.2.2.1 r hr)
  · obtain ⟨r, hr, rfl⟩ := List.mem_map.1 hp
    exact h.2.2.2 r hr
theorem Cp.tim {K n : Nat} {ps : List Pw} (h : Cp K n ps) {c : Int} (hc : c.natAbs * K ≤ 1000) (hK : K ≤ 1000) (h1 : c.natAbs ≤ 1000) (hn : n ≤ 200) (h0 : ¬ c = 0) : timP ps c = (scalP c ps, 0) := by
  unfold timP
  rw [if_pos (h.ok hK hn), show farP c = false by unfold farP; rw [decide_eq_false (by omega), decide_eq_false (by omega)]; rfl, if_neg (by decide), if_neg h0, (h.scal (Nat.le_trans hc (by decide)) h0).1.near hc, if_neg (by decide)]
/-- The laws of the group. -/
structure Grp (x y z p q r c s : List Pw) : Prop where
  xy : mulP x y = (p, 0)
  yx : mulP y x = (p, 0)
  yz : mulP y z = (q, 0)
  left : mulP p z = (r, 0)
  right : mulP x q = (r, 0)
  none : mulP x (scalP (-1) x) = ([], 0)
  t3 : timP x 3 = (c, 0)
  again : timP c (-2) = (s, 0)
  six : timP x (-6) = (s, 0)
  cx : Cp 128 6 x
  cy : Cp 128 6 y
  cz : Cp 128 6 z
  cxy : Cp 256 12 p
  cyz : Cp 256 12 q
  cr : Cp 384 18 r
  ci : Cp 128 6 (scalP (-1) x)
  c3 : Cp 384 6 c
  c6 : Cp 768 6 s
theorem grp_any {x y z : List Pw} (cx : Cp 128 6 x) (cy : Cp 128 6 y) (cz : Cp 128 6 z) : ∃ xy yz r t3 s6, Grp x y z xy yz r t3 s6 := by
  obtain ⟨cxy, pxy⟩ := cx.add cy
  obtain ⟨cyx, pyx⟩ := cy.add cx
  obtain ⟨cyz, pyz⟩ := cy.add cz
  obtain ⟨cl, pl⟩ := cxy.add cz
  obtain ⟨cr, pr⟩ := cx.add cyz
  obtain ⟨ci, pi⟩ := cx.scal (c := -1) (by decide) (by decide)
  obtain ⟨c3, p3⟩ := cx.scal (c := 3) (by decide) (by decide)
  obtain ⟨c6, p6⟩ := c3.scal (c := -2) (by decide) (by decide)
  obtain ⟨d6, q6⟩ := cx.scal (c := -6) (by decide) (by decide)
  obtain ⟨cn, pn⟩ := cx.add ci
  have e1 : addsP y x = addsP x y := norm_ext cyx.1 cxy.1 fun t => by rw [pxy, pyx]; omega
  have e2 : addsP x (addsP y z) = addsP (addsP x y) z := norm_ext cr.1 cl.1 fun t => by rw [pl, pr, pxy, pyz]; omega
  have e3 : addsP x (scalP (-1) x) = [] := norm_ext cn.1 normP_nil fun t => by rw [pn, pi, pwr]; omega
  have e4 : scalP (-6) x = scalP (-2) (scalP 3 x) := norm_ext d6.1 c6.1 fun t => by rw [p6, p3, q6]; omega
  refine ⟨addsP x y, addsP y z, addsP (addsP x y) z, scalP 3 x, scalP (-2) (scalP 3 x), ?_⟩
  exact {
    xy := cx.mul cy (by decide) (by decide)
    yx := by rw [cy.mul cx (by decide) (by decide), e1]
    yz := cy.mul cz (by decide) (by decide)
    left := cxy.mul cz (by decide) (by decide)
    right := by rw [cx.mul cyz (by decide) (by decide), e2]
    none := by rw [cx.mul ci (by decide) (by decide), e3]
    t3 := cx.tim (by decide) (by decide) (by decide) (by decide) (by decide)
    again := c3.tim (by decide) (by decide) (by decide) (by decide) (by decide)
    six := by rw [cx.tim (c := -6) (by decide) (by decide) (by decide) (by decide) (by decide), e4]
    cx := cx
    cy := cy
    cz := cz
    cxy := cxy
    cyz := cyz
    cr := cl
    ci := ci
    c3 := c3
    c6 := c6 }
/-- The term of such a product, where it is small enough. -/
theorem cp_term {K n : Nat} {ps : List Pw} (h : Cp K n ps) (ht : (termP ps).2 = 0) : nodesE (termP ps).1 = 0 ∧ size (termP ps).1 ≤ 20 ∧ depth (termP ps).1 ≤ 10 ∧ arityT (termP ps).1 = true ∧ ∀ u, pwr (occT (termP ps).1 1) u = pwr ps u := by
  unfold termP at ht ⊢
  by_cases h1 : powE 1000 ps = 0
  rotate_left
  · rw [if_neg h1] at ht; exact absurd ht h1
  rw [if_pos h1] at ht ⊢
  by_cases h8 : 8 < absS ps
  · rw [if_pos h8] at ht; exact absurd ht (by decide)
  rw [if_neg h8] at ht ⊢
  by_cases hv : validE (prodT (posO ps ++ negO ps)) = 0
  rotate_left
  · rw [if_neg hv] at ht; exact absurd ht hv
  rw [if_pos hv]
  have hx : ∀ p ∈ ps, expo p.1 = false := fun p hp => by obtain ⟨i, hi, e⟩ := h.2.2.2 p hp; rw [e]; exact (atom_facts i hi).2.1
  have hm : ∀ u ∈ posO ps ++ negO ps, size u ≤ 2 ∧ depth u ≤ 2 ∧ arityT u = true := fun u hu => by
    rcases List.mem_append.1 hu with hu | hu
    · obtain ⟨p, hp, rfl⟩ := mem_posO hu
      refine ⟨?_, ?_, arityT_no (hx p hp)⟩
      all_goals (obtain ⟨i, hi, e⟩ := h.2.2.2 p hp; rw [e]; have := atom_facts i hi; omega)
    · obtain ⟨p, hp, rfl⟩ := mem_negO hu
      refine ⟨?_, ?_, arityT_inv (hx p hp)⟩
      all_goals (obtain ⟨i, hi, e⟩ := h.2.2.2 p hp; rw [e]; have := atom_facts i hi; simp only [tInv, size, sizes, depth, depths]; omega)
  have hlen : (posO ps ++ negO ps).length ≤ 8 := by rw [List.length_append, ops_len]; omega
  have hsz := sizes_leE _ (fun u hu => (hm u hu).1)
  have hdz : depths (posO ps ++ negO ps) ≤ 2 := by
    have : ∀ l : List Tm, (∀ u ∈ l, depth u ≤ 2) → depths l ≤ 2 := fun l => by
      induction l with
      | nil => intro _; simp [depths]
      | cons a l ih => intro hl; have h1 := hl a (List.mem_cons_self ..); have h2 := ih (fun u hu => hl u (List.mem_cons_of_mem _ hu)); rw [depths]; omega
    exact this _ fun u hu => (hm u hu).2.1
  refine ⟨(valid_parts hv).1, ?_, ?_, arity_prod (arityL_all fun u hu => (hm u hu).2.2), fun u => ?_⟩
  · show size (prodT (posO ps ++ negO ps)) ≤ 20
    match e : posO ps ++ negO ps with
    | [] => rw [prodT]; decide
    | [t] => rw [prodT]; have := (hm t (by rw [e]; exact List.mem_cons_self ..)).1; omega
    | t :: u :: l => rw [e] at hsz hlen; rw [prodT, size]; omega
  · show depth (prodT (posO ps ++ negO ps)) ≤ 10
    match e : posO ps ++ negO ps with
    | [] => rw [prodT]; decide
    | [t] => rw [prodT]; have := (hm t (by rw [e]; exact List.mem_cons_self ..)).2.1; omega
    | t :: u :: l => rw [e] at hdz; rw [prodT, depth]; omega
  · show pwr (occT (prodT (posO ps ++ negO ps)) 1) u = _
    rw [occ_prod, occL_app, pwr_app, pwr_ops u hx]
def mulT (t u : Tm) : Tm := .mk 3 ⟨#[109, 117, 108]⟩ 0 [t, u]
theorem cp_back {x y xy : List Pw} (cx : Cp 128 6 x) (cy : Cp 128 6 y) (h : mulP x y = (xy, 0)) (h1 : (termP x).2 = 0) (h2 : (termP y).2 = 0) : ofP (mulT (termP x).1 (termP y).1) = (xy, 0) := by
  obtain ⟨a1, a2, a3, a4, a5⟩ := cp_term cx h1
  obtain ⟨b1, b2, b3, b4, b5⟩ := cp_term cy h2
  generalize (termP x).1 = t at *
  generalize (termP y).1 = u at *
  obtain ⟨cxy, pxy⟩ := cx.add cy
  rw [cx.mul cy (by decide) (by decide)] at h
  have e := congrArg Prod.fst h
  simp only at e
  rw [e] at cxy pxy
  have ho : occT (mulT t u) 1 = occL [t, u] 1 := occ_prod [t, u]
  have hs : addsP [] (occT (mulT t u) 1) = xy := by
    refine (gath_adds (fun p hp => ?_) cxy.1 (fun v => ?_)).symm
    · rcases (occT_one _ 1 (Or.inl rfl) p hp).1 with e | e <;> rw [e] <;> decide
    · rw [ho, pxy, occL, occL, occL, List.append_nil, pwr_app, a5, b5]
  have hv : validE (mulT t u) = 0 := by
    have hn : nodesE (mulT t u) = 0 := nodes_prod (l := [t, u]) (by simp) (fun v hv => by
      simp only [List.mem_cons, List.not_mem_nil, or_false] at hv
      rcases hv with rfl | rfl
      · exact a1
      · exact b1)
    have hz : size (mulT t u) = 1 + (size t + (size u + 0)) := rfl
    have hd : depth (mulT t u) = max (depth t) (max (depth u) 0) + 1 := rfl
    rw [validE, if_pos hn, if_neg (by omega)]
  have ha : arityT (mulT t u) = true := arity_prod (l := [t, u]) (by rw [arityL, arityL, arityL, a4, b4]; rfl)
  unfold ofP
  rw [if_pos hv, if_pos ha, hs, if_neg (by have := cxy.2.1; omega)]
end Go.Proofs.YtcieadjjcpmieaaGreat
