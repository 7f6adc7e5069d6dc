import Derived.BigQuiet
import Derived.Deep.RegionHeld3
import Derived.Laws.Shifts
import Derived.Test.YtbcpnepjojppaaaGreatDoorLawTheoryKeyxFind
import Derived.Test.YtbcpnepjojppaaaGreatDoorLawTheoryKeyxQsort
namespace Go.Proofs.YtbcpnepjojppaaaGreatDoor
open Go.RowKit
def AscT (ts : List Tm) : Prop := ts.Pairwise (fun a b => cmpT a b < 0)
def cntT : List Tm → Tm → Nat
  | [], _ => 0
  | p :: ps, t => (if cmpT p t = 0 then 1 else 0) + cntT ps t
theorem cntT_app : ∀ (ps qs : List Tm) (t : Tm), cntT (ps ++ qs) t = cntT ps t + cntT qs t
  | [], qs, t => by simp [cntT]
  | p :: ps, qs, t => by rw [List.cons_append, cntT, cntT, cntT_app ps qs t]; omega
theorem cntT_perm {ps qs : List Tm} (h : ps.Perm qs) (t : Tm) : cntT ps t = cntT qs t := by
  induction h with
  | nil => rfl
  | cons x _ ih => rw [cntT, cntT, ih]
  | swap x y l => simp only [cntT]; omega
  | trans _ _ i1 i2 => exact i1.trans i2
theorem cntT_none {ps : List Tm} {t : Tm} (h : ∀ p ∈ ps, ¬ p = t) : cntT ps t = 0 := by
  induction ps with
  | nil => rfl
  | cons p ps ih =>
    rw [cntT, ih (fun q hq => h q (List.mem_cons_of_mem _ hq)), if_neg (fun e => h p (List.mem_cons_self ..) (cmpT_zero _ _ e))]
theorem cntT_mem {ps : List Tm} {t : Tm} (h : 0 < cntT ps t) : t ∈ ps := by
  induction ps with
  | nil => simp [cntT] at h
  | cons p ps ih =>
    rw [cntT] at h
    by_cases hc : cmpT p t = 0
    · rw [cmpT_zero _ _ hc]; exact List.mem_cons_self ..
    · rw [if_neg hc] at h; exact List.mem_cons_of_mem _ (ih (by omega))
theorem cntT_rep (x t : Tm) : ∀ n : Nat, cntT (List.replicate n x) t = if cmpT x t = 0 then n else 0
  | 0 => by simp [cntT]
  | n + 1 => by
    rw [List.replicate_succ, cntT, cntT_rep x t n]
    by_cases h : cmpT x t = 0
    · rw [if_pos h, if_pos h, if_pos h]; omega
    · rw [if_neg h, if_neg h, if_neg h]
theorem cntT_asc : ∀ {ps : List Tm} (_ : AscT ps) (t : Tm), cntT ps t ≤ 1 ∧ (t ∈ ps ↔ cntT ps t = 1)
  | [], _, t => ⟨by simp [cntT], by simp [cntT]⟩
  | p :: ps, h, t => by
    obtain ⟨p1, p2⟩ := List.pairwise_cons.1 h
    obtain ⟨i1, i2⟩ := cntT_asc (ps := ps) p2 t
    rw [cntT, List.mem_cons]
    by_cases hc : cmpT p t = 0
    · have e := cmpT_zero _ _ hc
      have h0 : cntT ps t = 0 := cntT_none fun q hq e2 => by
        have := p1 q hq
        rw [e2, e, cmpT_self] at this
        omega
      rw [if_pos hc, h0]
      exact ⟨by omega, ⟨fun _ => rfl, fun _ => Or.inl e.symm⟩⟩
    · rw [if_neg hc, Nat.zero_add]
      refine ⟨i1, ?_⟩
      rw [← i2]
      exact ⟨fun x => x.elim (fun e => absurd (by rw [e]; exact cmpT_self p) hc) id, Or.inr⟩
structure OddS (K P : List Tm) : Prop where
  asc : AscT K
  odd : ∀ t, t ∈ K ↔ cntT P t % 2 = 1
theorem asc_oneQ : ∀ (l m : List Tm), l.Pairwise (fun a b => cmpT a b < 0) → m.Pairwise (fun a b => cmpT a b < 0) → (∀ t, t ∈ l ↔ t ∈ m) → l = m
  | [], [], _, _, _ => rfl
  | [], u :: m, _, _, h => absurd ((h u).2 (by simp)) (by simp)
  | t :: l, [], _, _, h => absurd ((h t).1 (by simp)) (by simp)
  | t :: l, u :: m, hl, hm, h => by
    have hself : ∀ x : Tm, ¬ cmpT x x < 0 := fun x => by rw [cmpT_self]; omega
    have l1 := (List.pairwise_cons.1 hl).1
    have m1 := (List.pairwise_cons.1 hm).1
    have e : t = u := by
      rcases List.mem_cons.1 ((h t).1 (by simp)) with e | h1
      · exact e
      · rcases List.mem_cons.1 ((h u).2 (by simp)) with e | h2
        · exact e.symm
        · exact absurd (cmpT_trans (m1 t h1) (l1 u h2)) (hself u)
    subst e
    rw [asc_oneQ l m (List.pairwise_cons.1 hl).2 (List.pairwise_cons.1 hm).2 (fun x => ?_)]
    constructor
    · intro hx
      rcases List.mem_cons.1 ((h x).1 (List.mem_cons_of_mem _ hx)) with e | h1
      · subst e; exact absurd (l1 x hx) (hself x)
      · exact h1
    · intro hx
      rcases List.mem_cons.1 ((h x).2 (List.mem_cons_of_mem _ hx)) with e | h1
      · subst e; exact absurd (m1 x hx) (hself x)
      · exact h1
theorem OddS.one {K L P Q : List Tm} (h : OddS K P) (k : OddS L Q) (he : ∀ t, cntT P t % 2 = cntT Q t % 2) : K = L :=
  asc_oneQ K L h.asc k.asc fun t => by rw [h.odd, k.odd, he]
theorem OddS.perm {K P Q : List Tm} (h : OddS K P) (hp : P.Perm Q) : OddS K Q := ⟨h.asc, fun t => by rw [h.odd, cntT_perm hp]⟩
theorem OddS.nil : OddS [] [] := ⟨List.Pairwise.nil, fun t => by simp [cntT]⟩
theorem OddS.sub {K P : List Tm} (h : OddS K P) : ∀ t ∈ K, t ∈ P := fun t ht => cntT_mem (by have := (h.odd t).1 ht; omega)
theorem OddS.run {K P : List Tm} {x : Tm} {n : Nat} (h : OddS K P) (hx : ∀ p ∈ P, cmpT p x < 0) : OddS (if n % 2 = 1 then K ++ [x] else K) (P ++ List.replicate n x) := by
  have hP0 : cntT P x = 0 := cntT_none fun p hp e => by have := hx p hp; rw [e, cmpT_self] at this; omega
  have hc : ∀ t, cntT (P ++ List.replicate n x) t = cntT P t + if cmpT x t = 0 then n else 0 := fun t => by rw [cntT_app, cntT_rep]
  by_cases h1 : n % 2 = 1
  · rw [if_pos h1]
    refine ⟨List.pairwise_append.2 ⟨h.asc, List.pairwise_singleton _ _, fun a ha b hb => ?_⟩, fun t => ?_⟩
    · simp only [List.mem_singleton] at hb
      rw [hb]; exact hx a (h.sub a ha)
    · rw [hc, List.mem_append, List.mem_singleton, h.odd]
      by_cases he : cmpT x t = 0
      · have e := cmpT_zero _ _ he
        subst e
        rw [if_pos he, hP0, Nat.zero_add]
        exact ⟨fun _ => h1, fun _ => Or.inr rfl⟩
      · rw [if_neg he, Nat.add_zero]
        exact ⟨fun x' => x'.elim id (fun e => absurd (by rw [e]; exact cmpT_self x) he), Or.inl⟩
  · rw [if_neg h1]
    refine ⟨h.asc, fun t => ?_⟩
    rw [hc, h.odd]
    by_cases he : cmpT x t = 0
    · have e := cmpT_zero _ _ he
      subst e
      rw [if_pos he, hP0]; omega
    · rw [if_neg he]; omega
structure QR (H g cap n : Nat) (S : Nat → Prop) (w0 : World) (K R : List Tm) (i : Nat) (wr : World) : Prop where
  below : Below H w0 wr
  same : ∀ b, b < w0.heap.size → b ≠ g → wr.heap[b]? = w0.heap[b]?
  row : ∃ cs mid ds, wr.ownsRow H 24 4 (.slice (some ⟨g, 0, none⟩) n cap) n (cs ++ (mid ++ ds)) ∧ KC S wr K cs ∧ KC S wr R ds ∧ K.length ≤ i ∧ mid.length = (i - K.length) * 4 ∧ R.length + i = n
theorem QR.lt {H g cap n i : Nat} {S : Nat → Prop} {w0 wr : World} {K R : List Tm} (h : QR H g cap n S w0 K R i wr) : g < wr.heap.size := by
  obtain ⟨_, _, _, ho, _⟩ := h.row
  exact (ho.lt g rfl).2
theorem QR.ext {H g cap n i : Nat} {S : Nat → Prop} {w0 wr W : World} {K R : List Tm} (h : QR H g cap n S w0 K R i wr) (x : Ext wr W) (hS : ∀ b, S b → b < w0.heap.size ∧ b ≠ g) : QR H g cap n S w0 K R i W := by
  obtain ⟨cs, mid, ds, ho, h1, h2, h3⟩ := h.row
  have hw := h.below.size
  have hH : H ≤ wr.heap.size := Nat.le_of_lt (Nat.lt_of_le_of_lt (ho.lt g rfl).1 (ho.lt g rfl).2)
  exact ⟨h.below.trans (x.mono hH), fun b hb hne => (x.block b (by omega)).trans (h.same b hb hne), cs, mid, ds, own_heap ho (fun q hq => x.block q (ho.lt q hq).2), KC_carry (fun b hb => x.block b (by have := (hS b hb).1; omega)) (fun _ h => h) _ _ h1, KC_carry (fun b hb => x.block b (by have := (hS b hb).1; omega)) (fun _ h => h) _ _ h2, h3⟩
theorem QR.head {H g cap n i : Nat} {S : Nat → Prop} {w0 wr : World} {K R : List Tm} {x : Tm} (h : QR H g cap n S w0 K (x :: R) i wr) :
    ∃ c0 c1 c2 c3, wr.cell? ⟨g, i * 4, none⟩ = some c0 ∧ wr.cell? ⟨g, i * 4 + 1, none⟩ = some c1 ∧ wr.cell? ⟨g, i * 4 + 2, none⟩ = some c2 ∧ wr.cell? ⟨g, i * 4 + 3, none⟩ = some c3 ∧ IsIn S wr x c0 c1 c2 c3 ∧ i < n ∧ QR H g cap n S w0 K R (i + 1) wr := by
  obtain ⟨cs, mid, ds, ho, h1, h2, h3, h4, h5⟩ := h.row
  obtain ⟨c0, c1, c2, c3, r, rfl, hI, hr⟩ := h2
  have hc := (KC_one _ _ h1).1
  have hl := ho.1
  simp only [List.length_append, List.length_cons] at hl
  have hp : cs.length + mid.length = i * 4 := by rw [hc, h4, ← Nat.add_mul]; congr 1; omega
  have hg : ∀ j v, (c0 :: c1 :: c2 :: c3 :: r)[j]? = some v → wr.cell? ⟨g, i * 4 + j, none⟩ = some v := fun j v hv => by
    have hj : j < (c0 :: c1 :: c2 :: c3 :: r).length := by
      rcases Nat.lt_or_ge j (c0 :: c1 :: c2 :: c3 :: r).length with h | h
      · exact h
      · rw [List.getElem?_eq_none h] at hv; cases hv
    simp only [List.length_cons] at hj
    rw [ho.cellAt _ (by omega), ← List.append_assoc, List.getElem?_append_right (by rw [List.length_append]; omega), List.length_append, hp, Nat.add_sub_cancel_left]
    exact hv
  simp only [List.length_cons] at h5
  refine ⟨c0, c1, c2, c3, hg 0 _ rfl, hg 1 _ rfl, hg 2 _ rfl, hg 3 _ rfl, hI, by omega, h.below, h.same, cs, mid ++ [c0, c1, c2, c3], r, ?_, h1, hr, by omega, ?_, by omega⟩
  · rw [List.append_assoc]; exact ho
  · rw [List.length_append, h4]
    simp only [List.length_cons, List.length_nil]
    have : i + 1 - K.length = (i - K.length) + 1 := by omega
    rw [this, Nat.add_mul]
theorem QR.room {H g cap n i : Nat} {S : Nat → Prop} {w0 wr : World} {K R : List Tm} (h : QR H g cap n S w0 K R i wr) (hk : K.length < i) :
    (∃ z0 z1 z2 z3, wr.cell? ⟨g, K.length * 4, none⟩ = some z0 ∧ wr.cell? ⟨g, K.length * 4 + 1, none⟩ = some z1 ∧ wr.cell? ⟨g, K.length * 4 + 2, none⟩ = some z2 ∧ wr.cell? ⟨g, K.length * 4 + 3, none⟩ = some z3) ∧ (∀ q, wr.frozen? ⟨g, q, none⟩ = false) ∧ K.length < n := by
  obtain ⟨cs, mid, ds, ho, h1, h2, h3, h4, h5⟩ := h.row
  have hl := ho.1
  have hz : ∀ q, q < 4 → ∃ z, wr.cell? ⟨g, K.length * 4 + q, none⟩ = some z := fun q hq => by
    rw [ho.cellAt _ (by omega)]
    exact ⟨_, List.getElem?_eq_getElem (by omega)⟩
  obtain ⟨z0, e0⟩ := hz 0 (by omega)
  obtain ⟨z1, e1⟩ := hz 1 (by omega)
  obtain ⟨z2, e2⟩ := hz 2 (by omega)
  obtain ⟨z3, e3⟩ := hz 3 (by omega)
  exact ⟨⟨z0, z1, z2, z3, e0, e1, e2, e3⟩, fun q => ho.frozenAt q, by omega⟩
theorem stored4 {w : World} {base : Nat} {T : TypeId} {g n cap j : Nat} {cs zs : List Value} {c0 c1 c2 c3 : Value} (ho : w.ownsRow base T 4 (.slice (some ⟨g, 0, none⟩) n cap) n (cs ++ zs)) (hc : cs.length = j * 4) (hj : j < n) :
    (put4 w g (j * 4) c0 c1 c2 c3).ownsRow base T 4 (.slice (some ⟨g, 0, none⟩) n cap) n ((cs ++ [c0, c1, c2, c3]) ++ zs.drop 4) := by
  have h1 := (((((ho.stored (j * 4) c0).1).stored (j * 4 + 1) c1).1).stored (j * 4 + 2) c2).1.stored (j * 4 + 3) c3 |>.1
  have hz : ∃ z0 z1 z2 z3 r, zs = z0 :: z1 :: z2 :: z3 :: r := by
    have hl := ho.1
    rw [List.length_append] at hl
    exact four_of zs (by omega)
  obtain ⟨z0, z1, z2, z3, r, rfl⟩ := hz
  have e : ((((cs ++ z0 :: z1 :: z2 :: z3 :: r).set (j * 4) c0).set (j * 4 + 1) c1).set (j * 4 + 2) c2).set (j * 4 + 3) c3 = (cs ++ [c0, c1, c2, c3]) ++ List.drop 4 (z0 :: z1 :: z2 :: z3 :: r) := by
    rw [← hc]
    simp only [List.set_append_right _ _ (Nat.le_refl _), List.set_append_right _ _ (Nat.le_add_right _ _), Nat.sub_self, Nat.add_sub_cancel_left, List.set_cons_zero, List.set_cons_succ, List.drop_succ_cons, List.drop_zero, List.append_assoc, List.cons_append, List.nil_append]
  rw [e] at h1
  exact h1
theorem QR.put {H g cap n i : Nat} {S : Nat → Prop} {w0 wr : World} {K R : List Tm} (h : QR H g cap n S w0 K R i wr) (hk : K.length < i) (hS : ∀ b, S b → b < w0.heap.size ∧ b ≠ g) {t : Tm} {c0 c1 c2 c3 : Value} (hI : IsIn S wr t c0 c1 c2 c3) :
    QR H g cap n S w0 (K ++ [t]) R i (put4 wr g (K.length * 4) c0 c1 c2 c3) := by
  obtain ⟨cs, mid, ds, ho, h1, h2, h3, h4, h5⟩ := h.row
  have hp : ∀ q, q ≠ g → (put4 wr g (K.length * 4) c0 c1 c2 c3).heap[q]? = wr.heap[q]? := fun q hq => put4_other _ _ _ _ _ _ _ _ hq
  have hH := (ho.lt g rfl).1
  have hc := (KC_one _ _ h1).1
  have hm : 4 ≤ mid.length := by rw [h4]; have : 1 ≤ i - K.length := by omega
                                 omega
  refine ⟨put4_below h.below hH, fun b hb hne => (hp b hne).trans (h.same b hb hne), cs ++ [c0, c1, c2, c3], mid.drop 4, ds, ?_, ?_, KC_carry (fun b hb => hp b (hS b hb).2) (fun _ h => h) _ _ h2, by rw [List.length_append]; simp only [List.length_cons, List.length_nil]; omega, ?_, h5⟩
  · have := stored4 (c0 := c0) (c1 := c1) (c2 := c2) (c3 := c3) ho hc (by omega)
    rw [List.drop_append_of_le_length hm] at this
    exact this
  · exact KC_append _ _ _ _ (KC_carry (fun b hb => hp b (hS b hb).2) (fun _ h => h) _ _ h1) (KC_one_term (IsIn_carry (fun b hb => hp b (hS b hb).2) (fun _ h => h) _ _ _ _ _ hI))
  · rw [List.length_drop, h4, List.length_append]
    simp only [List.length_cons, List.length_nil]
    have : i - K.length = (i - (K.length + 1)) + 1 := by omega
    omega
theorem QR.done {H g cap n : Nat} {S : Nat → Prop} {w0 wr : World} {K : List Tm} (h : QR H g cap n S w0 K [] n wr) : OwnT H S wr K (.slice (some ⟨g, 0, none⟩) K.length cap) := by
  obtain ⟨cs, mid, ds, ho, h1, h2, h3, h4, h5⟩ := h.row
  have hc := (KC_one _ _ h1).1
  rcases ho.2 with ⟨e, _⟩ | ⟨g', cap', cur, e, hH, hh, hcap, hmax, hsz, htk⟩
  · simp at e
  · simp only [Value.slice.injEq, Option.some.injEq, Addr.mk.injEq, true_and, and_true] at e
    obtain ⟨rfl, rfl⟩ := e
    refine ⟨cs, ⟨hc, Or.inr ⟨g, cap, cur, rfl, hH, hh, by omega, hmax, hsz, ?_⟩⟩, h1⟩
    have : List.take (K.length * 4) (List.take (n * 4) cur.toList) = cs := by
      rw [htk, ← hc, List.take_left']
      rfl
    rw [List.take_take, Nat.min_eq_left (Nat.mul_le_mul_right 4 h3)] at this
    exact this
end Go.Proofs.YtbcpnepjojppaaaGreatDoor
namespace Go.Proofs.YtbcpnepjojppaaaGreatDoor
open Go.RowKit
def memT (l : List Tm) (t : Tm) : Bool := l.any (fun u => cmpT u t == 0)
theorem memT_iff (l : List Tm) (t : Tm) : memT l t = true ↔ t ∈ l := by
  unfold memT
  rw [List.any_eq_true]
  constructor
  · rintro ⟨u, hu, h⟩
    rw [beq_iff_eq] at h
    rw [← cmpT_zero u t h]; exact hu
  · intro h
    exact ⟨t, h, by rw [beq_iff_eq]; exact cmpT_self t⟩
def togT (l : List Tm) (t : Tm) : List Tm := if memT l t = true then l.filter (fun u => !(cmpT u t == 0)) else addR t l false
theorem togT_len (l : List Tm) (t : Tm) : (togT l t).length ≤ l.length + 1 := by
  unfold togT
  split
  · exact Nat.le_succ_of_le (List.length_filter_le _ _)
  · exact addR_len t l false
def plusT : List Tm → List Tm → List Tm
  | a, [] => a
  | a, t :: b => plusT (togT a t) b
theorem plusT_len : ∀ (b a : List Tm), (plusT a b).length ≤ a.length + b.length
  | [], a => by simp [plusT]
  | t :: b, a => by
    rw [plusT]
    have := plusT_len b (togT a t)
    have := togT_len a t
    simp only [List.length_cons]; omega
theorem AscT.mem_cnt {K : List Tm} (h : AscT K) (u : Tm) : (u ∈ K → cntT K u % 2 = 1) ∧ (¬ u ∈ K → cntT K u % 2 = 0) := by
  obtain ⟨h1, h2⟩ := cntT_asc h u
  refine ⟨fun hm => by rw [h2.1 hm], fun hm => ?_⟩
  have : ¬ cntT K u = 1 := fun e => hm (h2.2 e)
  omega
theorem OddS.cnt {K P : List Tm} (h : OddS K P) (u : Tm) : cntT K u % 2 = cntT P u % 2 := by
  obtain ⟨h1, h2⟩ := h.asc.mem_cnt u
  by_cases hm : u ∈ K
  · rw [h1 hm, (h.odd u).1 hm]
  · rw [h2 hm]
    have : ¬ cntT P u % 2 = 1 := fun e => hm ((h.odd u).2 e)
    omega
theorem OddS.congr {K P Q : List Tm} (h : OddS K P) (he : ∀ t, cntT P t % 2 = cntT Q t % 2) : OddS K Q := ⟨h.asc, fun t => by rw [h.odd, he]⟩
theorem OddS.self {K : List Tm} (h : AscT K) : OddS K K := ⟨h, fun t => (cntT_asc h t).2.trans ⟨fun e => by rw [e], fun e => by have := (cntT_asc h t).1; omega⟩⟩
theorem cntT_self (t : Tm) : cntT [t] t = 1 := by rw [cntT, cntT, if_pos (cmpT_self t)]
theorem cntT_not {t u : Tm} (h : ¬ u = t) : cntT [t] u = 0 := by rw [cntT, cntT, if_neg fun e => h (cmpT_zero _ _ e).symm]
theorem OddS.tog {K P : List Tm} (h : OddS K P) (t : Tm) : OddS (togT K t) (P ++ [t]) := by
  unfold togT
  by_cases hm : memT K t = true
  · rw [if_pos hm]
    refine ⟨h.asc.sublist List.filter_sublist, fun u => ?_⟩
    rw [List.mem_filter, h.odd, cntT_app]
    have hk := (h.odd t).1 ((memT_iff _ _).1 hm)
    by_cases he : u = t
    · subst he
      rw [cntT_self, cmpT_self]
      exact ⟨fun x => absurd x.2 (by decide), fun x => by omega⟩
    · rw [cntT_not he, Nat.add_zero]
      have : (!(cmpT u t == 0)) = true := by
        rw [Bool.not_eq_true', beq_eq_false_iff_ne]
        exact fun e => he (cmpT_zero _ _ e)
      rw [this]
      exact ⟨fun x => x.1, fun x => ⟨x, rfl⟩⟩
  · rw [if_neg hm]
    obtain ⟨a1, a2⟩ := addR_set t K h.asc
    refine ⟨a1, fun u => ?_⟩
    rw [a2, h.odd, cntT_app]
    have hk : ¬ cntT P t % 2 = 1 := fun e => hm ((memT_iff _ _).2 ((h.odd t).2 e))
    by_cases he : u = t
    · subst he
      rw [cntT_self]
      exact ⟨fun _ => by omega, fun _ => Or.inl rfl⟩
    · rw [cntT_not he, Nat.add_zero]
      exact ⟨fun x => x.elim (fun e => absurd e he) id, Or.inr⟩
theorem OddS.plus : ∀ (b : List Tm) {K P : List Tm}, OddS K P → OddS (plusT K b) (P ++ b)
  | [], K, P, h => by rw [List.append_nil]; exact h
  | t :: b, K, P, h => by
    have := OddS.plus b (h.tog t)
    rw [List.append_assoc] at this
    exact this
mutual
/-- The summands of a term, as the reference finds them. -/
def summT : Tm → List Tm
  | .mk k n s ks => if k = 3 ∧ n.toList = [122, 101, 114, 111] ∧ ks.length = 0 then [] else if k = 3 ∧ n.toList = [120, 111, 114] then summsT [] ks else [.mk k n s ks]
def summsT : List Tm → List Tm → List Tm
  | out, [] => out
  | out, t :: ts => summsT (plusT out (summT t)) ts
end
theorem OddS.app {K P : List Tm} (h : OddS K P) {L Q : List Tm} (k : OddS L Q) : OddS (plusT K L) (P ++ Q) :=
  (h.plus L).congr fun t => by
    rw [cntT_app, cntT_app]
    have := k.cnt t
    omega
mutual
theorem summT_odd : ∀ t : Tm, OddS (summT t) (addT t)
  | .mk k n s ks => by
    rw [summT, addT, sumB_mk]
    by_cases h1 : k = 3 ∧ n.toList = [122, 101, 114, 111] ∧ ks.length = 0
    · rw [if_pos h1]
      obtain ⟨a, b, c⟩ := h1
      have hk : ks = [] := List.length_eq_zero_iff.1 c
      subst a; subst hk
      simp only [b, decide_true, Bool.true_and, List.length_nil]
      simp [addsT]
      exact OddS.nil
    · rw [if_neg h1]
      by_cases h2 : k = 3 ∧ n.toList = [120, 111, 114]
      · rw [if_pos h2]
        obtain ⟨a, b⟩ := h2
        subst a
        simp only [b, decide_true, Bool.true_and, beq_self_eq_true, Bool.true_or, if_true]
        have := summsT_odd ks OddS.nil
        rw [List.nil_append] at this
        exact this
      · rw [if_neg h2]
        have hf : (decide (k = 3) && (n.toList == [120, 111, 114] || n.toList == [122, 101, 114, 111] && decide (ks.length = 0))) = false := by
          by_cases hk : k = 3
          · have e1 : (n.toList == [120, 111, 114]) = false := beq_eq_false_iff_ne.2 fun e => h2 ⟨hk, e⟩
            rw [e1]
            by_cases e2 : n.toList = [122, 101, 114, 111]
            · have e3 : ¬ ks.length = 0 := fun e => h1 ⟨hk, e2, e⟩
              rw [decide_eq_false e3]; simp
            · rw [beq_eq_false_iff_ne.2 e2]; simp
          · rw [decide_eq_false hk]; rfl
        rw [hf, if_neg (by decide)]
        exact OddS.self (List.pairwise_singleton _ _)
theorem summsT_odd : ∀ (ts : List Tm) {out P : List Tm}, OddS out P → OddS (summsT out ts) (P ++ addsT ts)
  | [], out, P, h => by rw [summsT, addsT, List.append_nil]; exact h
  | t :: ts, out, P, h => by
    rw [summsT, addsT, ← List.append_assoc]
    exact summsT_odd ts (h.app (summT_odd t))
end
def sumsR (ts : List Tm) : List Tm := summsT [] ts
theorem sumsR_odd (ts : List Tm) : OddS (sumsR ts) (addsT ts) := by
  have := summsT_odd ts OddS.nil
  rw [List.nil_append] at this
  exact this
theorem sumsR_eq {K : List Tm} {ts : List Tm} (h : OddS K (addsT ts)) : K = sumsR ts := h.one (sumsR_odd ts) fun _ => rfl
mutual
theorem summT_len : ∀ t : Tm, (summT t).length ≤ size t
  | .mk k n s ks => by
    rw [summT, size]
    split
    · simp
    · split
      · have := summsT_len ks []
        simp only [List.length_nil] at this
        omega
      · simp
theorem summsT_len : ∀ (ts out : List Tm), (summsT out ts).length ≤ out.length + sizes ts
  | [], out => by rw [summsT]; omega
  | t :: ts, out => by
    rw [summsT, sizes]
    have := summsT_len ts (plusT out (summT t))
    have := plusT_len (summT t) out
    have := summT_len t
    omega
end
theorem sumsR_len (ts : List Tm) : (sumsR ts).length ≤ sizes ts := by have := summsT_len ts []; simp only [List.length_nil] at this; unfold sumsR; omega
theorem sumsR_mem {ts : List Tm} {u : Tm} (h : u ∈ sumsR ts) : sumB u = false ∧ (nodesL ts = 0 → nodesE u = 0) ∧ size u ≤ sizes ts ∧ depth u ≤ depths ts := addsT_mem ts u ((sumsR_odd ts).sub u h)
def sumTm : List Tm → Tm
  | [] => .mk 3 ⟨#[122, 101, 114, 111]⟩ 0 []
  | [t] => t
  | l => .mk 3 ⟨#[120, 111, 114]⟩ 0 l
theorem nodesL_all : ∀ {l : List Tm}, (∀ t ∈ l, nodesE t = 0) → nodesL l = 0
  | [], _ => rfl
  | t :: l, h => by rw [nodesL, if_pos (h t (List.mem_cons_self ..))]; exact nodesL_all fun u hu => h u (List.mem_cons_of_mem _ hu)
end Go.Proofs.YtbcpnepjojppaaaGreatDoor
namespace Go.Proofs.YtbcpnepjojppaaaGreatDoor
open Go.RowKit
def IVQ (qs K : List Tm) (j : Nat) : Prop := OddS K (qs.take j) ∧ ∀ (h : j < qs.length), ∀ p ∈ qs.take j, cmpT p qs[j] < 0
theorem IVQ.zero (qs : List Tm) : IVQ qs [] 0 := ⟨by simpa using OddS.nil, fun _ p hp => by simp at hp⟩
theorem IVQ.step {qs K : List Tm} {j j2 : Nat} (ha : AscQ qs) (h : IVQ qs K j) (hjl : j < qs.length) (h1 : j < j2) (h2 : j2 ≤ qs.length) (he : ∀ i (hi : i < qs.length), j ≤ i → i < j2 → qs[i] = qs[j]) (hn : ∀ h : j2 < qs.length, ¬ cmpT qs[j] qs[j2] = 0) :
    IVQ qs (if (j2 - j) % 2 = 1 then K ++ [qs[j]] else K) j2 := by
  have et : qs.take j2 = qs.take j ++ List.replicate (j2 - j) qs[j] := by
    have e1 : j2 = j + (j2 - j) := by omega
    rw [e1, List.take_add]
    congr 1
    rw [List.eq_replicate_iff]
    refine ⟨by rw [List.length_take, List.length_drop]; omega, fun b hb => ?_⟩
    obtain ⟨i, hi, rfl⟩ := List.mem_iff_getElem.1 hb
    rw [List.length_take, List.length_drop] at hi
    rw [List.getElem_take, List.getElem_drop]
    exact he _ (by omega) (by omega) (by omega)
  refine ⟨by rw [et]; exact h.1.run (h.2 hjl), fun hl p hp => ?_⟩
  have hlt : cmpT qs[j] qs[j2] < 0 := by
    have a1 := List.pairwise_iff_getElem.1 ha j j2 hjl hl h1
    have a2 := cmpT_anti qs[j] qs[j2]
    have a3 := hn hl
    omega
  rw [et, List.mem_append] at hp
  rcases hp with hp | hp
  · exact cmpT_trans (h.2 hjl p hp) hlt
  · rw [List.eq_of_mem_replicate hp]; exact hlt
theorem QR.skip {H g cap n j : Nat} {S : Nat → Prop} {w0 wr : World} {K qs : List Tm} (h : QR H g cap n S w0 K (qs.drop j) j wr) : ∀ m : Nat, j + m ≤ qs.length → QR H g cap n S w0 K (qs.drop (j + m)) (j + m) wr
  | 0, _ => h
  | m + 1, hm => by
    have r := QR.skip h m (by omega)
    rw [List.drop_eq_getElem_cons (by omega)] at r
    obtain ⟨_, _, _, _, _, _, _, _, _, _, r2⟩ := r.head
    exact r2
set_option maxHeartbeats 1600000 in
set_option maxRecDepth 100000 in
theorem xequal_any (t u : Tm) (c0 c1 c2 c3 d0 d1 d2 d3 : Value) (w : World) (ht : size t ≤ 4611686018427387904) (hu : size u ≤ 4611686018427387904) (hI : Is w t c0 c1 c2 c3) (hJ : Is w u d0 d1 d2 d3) :
    Calls Tryz.prog 203 #[.agg #[c0, c1, c2, c3], .agg #[d0, d1, d2, d3]] w fun e w' => e = .returned (.bool (cmpT t u == 0)) ∧ Gr w w' := by
  have HC := Lib.hid (cmp_grQ t u c0 c1 c2 c3 d0 d1 d2 d3 _ ht hu (Is_alloc (Is_alloc hI (.cells #[c0, c1, c2, c3] 24)) (.cells #[d0, d1, d2, d3] 24)) (Is_alloc (Is_alloc hJ (.cells #[c0, c1, c2, c3] 24)) (.cells #[d0, d1, d2, d3] 24)))
  clear hI hJ
  go_enter Tryz.func203, Tryz.ntmps203
  go_wp2_with (go_at_call 88; refine (HC.out).mono ?_; rintro e w' ⟨he, hB⟩; subst he)
  go_ret
  exact ⟨rfl, (((Gr.refl w).alloc _).alloc _).trans hB⟩
def CanPost (H : Nat) (S : Nat → Prop) (w : World) (xa : Option Addr) (cap : Nat) (ps : List Tm) (e : Ending) (w' : World) : Prop :=
  ∃ K : List Tm, e = .returned (.slice xa K.length cap) ∧ OwnT H S w' K (.slice xa K.length cap) ∧ K.length ≤ ps.length ∧ OddS K ps ∧ Below H w w'
set_option maxHeartbeats 6400000 in
set_option maxRecDepth 100000 in
theorem cancelled_pos {H g n cap : Nat} {S : Nat → Prop} {ps : List Tm} {w : World} (hown : OwnT H S w ps (.slice (some ⟨g, 0, none⟩) n cap)) (hnp : n = ps.length) (hS : ∀ b, S b → b < w.heap.size ∧ b ≠ g) (hHw : H ≤ w.heap.size) (hn : 0 < n) (hsz : ∀ t ∈ ps, size t ≤ 1073741824) (hlt : n < 1073741824) :
    Calls Tryz.prog 178 #[.slice (some ⟨g, 0, none⟩) n cap] w (CanPost H S w (some ⟨g, 0, none⟩) cap ps) := by
  obtain ⟨cs, ho, hK⟩ := hown
  rw [← hnp] at ho
  have hgl := (ho.lt g rfl).2
  have HST := Lib.hid (sort_terms ho hK hS hHw hn hsz hlt)
  have HSb := Lib.hid hS
  have HHw := Lib.hid hHw
  have HSZ := Lib.hid hsz
  have HNP := Lib.hid hnp
  have HGL := Lib.hid hgl
  clear ho hK hS hHw hn hsz hnp hgl
  go_enter Tryz.func178, Tryz.ntmps178
  go_wp2_with (go_at_call 202; refine (HST.out).mono ?_; rintro e w5 ⟨he, qs, vs, ho, hK, hp, ha, hB, hsz5, hsm⟩; subst he; have HO5 := Lib.hid ho; have HK5 := Lib.hid hK; have HP := Lib.hid hp; have HA := Lib.hid ha; have HB5 := Lib.hid hB; have HSM := Lib.hid hsm; have HS5 := Lib.hid hsz5; clear ho hK hp ha hB hsz5 hsm)
  have HQL : Hid (qs.length = n) := by show _ = _; rw [HP.out.length_eq, HNP.out]
  have HQZ : Hid (∀ q ∈ qs, size q ≤ 1073741824) := by show ∀ _, _; exact fun q hq => HSZ.out q (HP.out.mem_iff.1 hq)
  have HSb5 : Hid (∀ b, S b → b < w5.heap.size ∧ b ≠ g) := fun b hb => ⟨Nat.lt_of_lt_of_le (HSb.out b hb).1 HS5.out, (HSb.out b hb).2⟩
  have HR0 : Hid (QR H g cap n S w5 [] qs 0 w5) := ⟨Below.refl _ _, fun _ _ _ => rfl, [], [], vs, HO5.out, rfl, HK5.out, Nat.le_refl _, by simp, HQL.out⟩
  have HEND : Hid (∀ W (K : List Tm), QR H g cap n S w5 K [] n W → K.length ≤ n → IVQ qs K n → CanPost H S w (some ⟨g, 0, none⟩) cap ps (.returned (.slice (some ⟨g, 0, none⟩) K.length cap)) W) := by
    show ∀ _, _
    intro W K hg hl hi
    refine ⟨K, rfl, hg.done, by rw [← HNP.out]; exact hl, ?_, HB5.out.trans hg.below⟩
    have := hi.1
    rw [← HQL.out, List.take_length] at this
    exact this.perm HP.out
  clear HST HO5 HK5 HSM
  go_loopw [3, 4] (fun kk i wr => ∃ (K : List Tm) (j : Nat), j ≤ n ∧ kk = .int .i64 K.length ∧ i = .int .i64 j ∧ Hid (IVQ qs K j) ∧ QR H g cap n S w5 K (qs.drop j) j wr) (fun _ i _ => n - (intOf i).toNat)
  case atStart => exact ⟨[], 0, Nat.zero_le _, rfl, rfl, IVQ.zero qs, HR0.out⟩
  case round =>
    obtain ⟨K, j, hj, rfl, rfl, HE, hr⟩ := hrel
    have HR := Lib.hid hr
    by_cases hjn : j < n
    rotate_left
    · have hnil : qs.drop j = [] := List.drop_eq_nil_of_le (by have := HQL.out; omega)
      have hjl : j = n := by omega
      have hkn : K.length ≤ n := by obtain ⟨_, _, _, _, _, _, h3, _⟩ := hr.row; omega
      have HQ : Hid (CanPost H S w (some ⟨g, 0, none⟩) cap ps (.returned (.slice (some ⟨g, 0, none⟩) K.length cap)) wr) := by
        show CanPost _ _ _ _ _ _ _ _
        refine HEND.out wr K ?_ hkn ?_
        · rw [hnil, hjl] at hr; exact hr
        · rw [← hjl]; exact HE.out
      have hnc : n ≤ cap := by obtain ⟨_, _, _, ho, _⟩ := hr.row; rcases ho.2 with ⟨e, _⟩ | ⟨_, _, _, e, _, _, h, _⟩ <;> simp at e; omega
      clear hr hnil
      go_wp2_with fail
      go_ret
      exact HQ.out
    obtain ⟨w1, hw1⟩ : ∃ v : World, v = wr := ⟨_, rfl⟩
    subst hw1
    have hjq : j < qs.length := by rw [HQL.out]; exact hjn
    have hdr := List.drop_eq_getElem_cons hjq
    rw [hdr] at hr
    obtain ⟨c0, c1, c2, c3, g0, g1, g2, g3, hI, _, _⟩ := hr.head
    have hkj : K.length ≤ j := by obtain ⟨_, _, _, _, _, _, h3, _⟩ := hr.row; exact h3
    obtain ⟨k, nm, s, ya, yl, yc, rfl, rfl, rfl, rfl⟩ := IsIn_form hI
    have hSw : ∀ b, S b → b < w1.heap.size := fun b hb => Nat.lt_of_lt_of_le (HSb5.out b hb).1 hr.below.size
    have HIx : Hid (∀ W, Ext w1 W → IsIn S W qs[j] (.int .i64 k) (.string nm) (.int .i64 s) (.slice ya yl yc)) := by show ∀ _, _; exact fun W x => IsIn_carry (S' := S) (fun b hb => x.block b (hSw b hb)) (fun _ h => h) _ _ _ _ _ hI
    have hgw := hr.lt
    have HCx : Hid (∀ W, Ext w1 W → W.cell? ⟨g, j * 4, none⟩ = some (.int .i64 k) ∧ W.cell? ⟨g, j * 4 + 1, none⟩ = some (.string nm) ∧ W.cell? ⟨g, j * 4 + 2, none⟩ = some (.int .i64 s) ∧ W.cell? ⟨g, j * 4 + 3, none⟩ = some (.slice ya yl yc)) := fun W x => ⟨keep_below x _ _ g0, keep_below x _ _ g1, keep_below x _ _ g2, keep_below x _ _ g3⟩
    have HRS : Hid (∀ W (j2 : Nat), j2 ≤ n → j ≤ j2 → Ext w1 W → QR H g cap n S w5 K (qs.drop j2) j2 W) := by
      show ∀ _, _
      intro W j2 h2 h1 x
      have e : j2 = j + (j2 - j) := by omega
      rw [e]
      exact (HR.out.ext x HSb5.out).skip _ (by rw [HQL.out]; omega)
    have HSTEP : Hid (∀ j2, j < j2 → j2 ≤ n → (∀ i (hi : i < qs.length), j ≤ i → i < j2 → qs[i] = qs[j]) → (∀ h : j2 < qs.length, ¬ cmpT qs[j] qs[j2] = 0) → IVQ qs (if (j2 - j) % 2 = 1 then K ++ [qs[j]] else K) j2) := by
      show ∀ _, _
      exact fun j2 a b c d => HE.out.step HA.out hjq a (by rw [HQL.out]; exact b) c d
    have hzT := HQZ.out _ (List.getElem_mem hjq)
    obtain ⟨T, hT⟩ : ∃ T, qs[j] = T := ⟨_, rfl⟩
    rw [hT] at HIx HSTEP hzT
    have HTJ := Lib.hid hT
    have hqn : qs.length = n := HQL.out
    clear hr hdr hI hT g0 g1 g2 g3
    go_wp2_with fail
    go_loopw [4] (fun i wr => ∃ (j2 : Nat), j ≤ j2 ∧ j2 ≤ n ∧ i = .int .i64 j2 ∧ Hid (∀ i (hi : i < qs.length), j ≤ i → i < j2 → qs[i] = T) ∧ Ext w1 wr) (fun i _ => n - (intOf i).toNat)
    case atStart => exact ⟨j, Nat.le_refl _, by omega, rfl, fun i hi h1 h2 => by omega, Ext.refl _⟩
    case round =>
      obtain ⟨j2, hj1, hj2, rfl, HEQ, hX⟩ := hrel
      obtain ⟨wx, hwx⟩ : ∃ v : World, v = wr := ⟨_, rfl⟩
      subst hwx
      have HXW := Lib.hid hX
      clear hX
      by_cases hjn2 : j2 < n
      rotate_left
      · have HNE : Hid (∀ h : j2 < qs.length, ¬ cmpT T qs[j2] = 0) := fun h => absurd h (by omega)
        have q5 : decide ((j2 : Int) < (n : Int)) = false := decide_eq_false (by omega)
        have hjj : j < j2 := by omega
        go_upto_region 6 with fail
        go_quiet (fail)
        by_cases hpar : (j2 - j) % 2 = 1
        rotate_left
        · have q34 : (((j2 : Int) - (j : Int)) % 2 == 1) = false := beq_eq_false_iff_ne.2 (by omega)
          have HI2 : Hid (IVQ qs K j2) := by show IVQ _ _ _; have := HSTEP.out j2 hjj hj2 HEQ.out HNE.out; rw [if_neg hpar] at this; exact this
          have HRE := Lib.hid (fun W x => HRS.out W j2 hj2 hj1 (HXW.out.trans x))
          clear hpar
          go_wp2_with fail
          go_roundw
          case rel => exact ⟨K, j2, by omega, rfl, rfl, HI2, HRE.out _ (by first | exact Ext.refl _ | exact below_drewN (Below.refl _ _) _)⟩
          case measure => simp [intOf]; omega
        · have q34 : (((j2 : Int) - (j : Int)) % 2 == 1) = true := beq_iff_eq.2 (by omega)
          have HI2 : Hid (IVQ qs (K ++ [T]) j2) := by show IVQ _ _ _; have := HSTEP.out j2 hjj hj2 HEQ.out HNE.out; rw [if_pos hpar] at this; exact this
          have hkj2 : K.length < j2 := by omega
          obtain ⟨⟨z0, z1, z2, z3, y0, y1, y2, y3⟩, hz, hkn⟩ := (HRS.out _ j2 hj2 hj1 HXW.out).room hkj2
          have v0 := hz (K.length * 4)
          have v1 := hz (K.length * 4 + 1)
          have v2 := hz (K.length * 4 + 2)
          have v3 := hz (K.length * 4 + 3)
          have HP6 := Lib.hid (fun W (x : Ext wx W) => (HRS.out W j2 hj2 hj1 (HXW.out.trans x)).put (t := T) hkj2 HSb5.out (HIx.out W (HXW.out.trans x)))
          obtain ⟨x0, x1, x2, x3⟩ := HCx.out _ HXW.out
          have k1 : (0 : Int) ≤ (K.length : Int) := by omega
          have k2 : (K.length : Int) < (n : Int) := by omega
          clear hpar hz
          go_wp2_with fail
          go_roundw
          case rel => exact ⟨K ++ [T], j2, by omega, by rw [List.length_append]; go_num, rfl, HI2, HP6.out _ (by first | exact Ext.refl _ | exact below_drewN (Below.refl _ _) _)⟩
          case measure => simp [intOf]; omega

      have hjq2 : j2 < qs.length := by omega
      have hG := HRS.out wx j2 hj2 hj1 HXW.out
      have hdr2 := List.drop_eq_getElem_cons hjq2
      rw [hdr2] at hG
      obtain ⟨d0, d1, d2, d3, b0, b1, b2, b3, hJ, _, _⟩ := hG.head
      obtain ⟨k3, n3, s3, ya3, yl3, yc3, rfl, rfl, rfl, rfl⟩ := IsIn_form hJ
      have hIv : Is wx T (.int .i64 k) (.string nm) (.int .i64 s) (.slice ya yl yc) := IsIn_Is _ _ _ _ _ (HIx.out wx HXW.out)
      have hJv := IsIn_Is _ _ _ _ _ hJ
      have hzJ := HQZ.out _ (List.getElem_mem hjq2)
      have HCM := Lib.hid (fun W (x : Ext wx W) => xequal_any T qs[j2] _ _ _ _ _ _ _ _ W (by omega) (by omega) (Is_below (w' := W) hIv x) (Is_below (w' := W) hJv x))
      have HCr : Hid (∀ W, Ext wx W → ((W.cell? ⟨g, j * 4, none⟩ = some (.int .i64 k) ∧ W.cell? ⟨g, j * 4 + 1, none⟩ = some (.string nm) ∧ W.cell? ⟨g, j * 4 + 2, none⟩ = some (.int .i64 s) ∧ W.cell? ⟨g, j * 4 + 3, none⟩ = some (.slice ya yl yc)) ∧ (W.cell? ⟨g, j2 * 4, none⟩ = some (.int .i64 k3) ∧ W.cell? ⟨g, j2 * 4 + 1, none⟩ = some (.string n3) ∧ W.cell? ⟨g, j2 * 4 + 2, none⟩ = some (.int .i64 s3) ∧ W.cell? ⟨g, j2 * 4 + 3, none⟩ = some (.slice ya3 yl3 yc3)))) := fun W x => ⟨HCx.out W (HXW.out.trans x), keep_below x _ _ b0, keep_below x _ _ b1, keep_below x _ _ b2, keep_below x _ _ b3⟩
      obtain ⟨x0, x1, x2, x3⟩ := HCx.out _ HXW.out
      have q5 : decide ((j2 : Int) < (n : Int)) = true := decide_eq_true (by omega)
      have i1 : (0 : Int) ≤ (j : Int) := by omega
      have i2 : (j : Int) < (n : Int) := by omega
      have i3 : (0 : Int) ≤ (j2 : Int) := by omega
      have i4 : (j2 : Int) < (n : Int) := by omega
      have hF0 : Ext wx wx.drew := (Ext.refl wx).drew
      obtain ⟨cz, hcz⟩ : ∃ cz, cmpT T qs[j2] = cz := ⟨_, rfl⟩
      have HCZ := Lib.hid hcz
      rw [hcz] at HCM
      clear hG hJ hIv hJv hdr2 hzJ hcz
      by_cases hz : cz = 0
      · have q7 : (cz == 0) = true := by simp [hz]
        rw [q7] at HCM
        have HE2 : Hid (∀ i (hi : i < qs.length), j ≤ i → i < j2 + 1 → qs[i] = T) := by
          show ∀ _, _
          intro i hi h1 h2
          by_cases he : i = j2
          · subst he; exact (cmpT_zero _ _ (by rw [HCZ.out]; exact hz)).symm
          · exact HEQ.out i hi h1 (by omega)
        clear hz q7
        go_upto_region 6 with fail
        go_region_held3 (fun W => ((W.cell? ⟨g, j * 4, none⟩ = some (.int .i64 k) ∧ W.cell? ⟨g, j * 4 + 1, none⟩ = some (.string nm) ∧ W.cell? ⟨g, j * 4 + 2, none⟩ = some (.int .i64 s) ∧ W.cell? ⟨g, j * 4 + 3, none⟩ = some (.slice ya yl yc)) ∧ (W.cell? ⟨g, j2 * 4, none⟩ = some (.int .i64 k3) ∧ W.cell? ⟨g, j2 * 4 + 1, none⟩ = some (.string n3) ∧ W.cell? ⟨g, j2 * 4 + 2, none⟩ = some (.int .i64 s3) ∧ W.cell? ⟨g, j2 * 4 + 3, none⟩ = some (.slice ya3 yl3 yc3))))
          (first | exact HCr.out _ (by assumption) | go_keep)
          (first | (go_at_call 203; refine (HCM.out _ hF0).mono ?_; rintro e w6 ⟨he, hB⟩; subst he; have hF1 : Ext wx w6 := hF0.trans hB.below; clear hB))
        have HX6 := Lib.hid (HXW.out.trans hF1)
        clear x0 x1 x2 x3 b0 b1 b2 b3 hF1 hF0
        go_wp2_with fail
        go_roundw
        case rel => exact ⟨j2 + 1, by omega, by omega, by go_num, HE2, HX6.out⟩
        case measure => simp [intOf]; omega
      · have q7 : (cz == 0) = false := by simp [hz]
        rw [q7] at HCM
        have HNE : Hid (∀ h : j2 < qs.length, ¬ cmpT T qs[j2] = 0) := by show ∀ _, _; intro _; rw [HCZ.out]; exact hz
        have hjj : j < j2 := by
          rcases Nat.lt_or_ge j j2 with h | h
          · exact h
          · have e : j2 = j := by omega
            subst e
            exact absurd (by have := HTJ.out; rw [this]; exact cmpT_self _) (HNE.out hjq2)
        clear hz q7
        go_upto_region 6 with fail
        go_region_held3 (fun W => ((W.cell? ⟨g, j * 4, none⟩ = some (.int .i64 k) ∧ W.cell? ⟨g, j * 4 + 1, none⟩ = some (.string nm) ∧ W.cell? ⟨g, j * 4 + 2, none⟩ = some (.int .i64 s) ∧ W.cell? ⟨g, j * 4 + 3, none⟩ = some (.slice ya yl yc)) ∧ (W.cell? ⟨g, j2 * 4, none⟩ = some (.int .i64 k3) ∧ W.cell? ⟨g, j2 * 4 + 1, none⟩ = some (.string n3) ∧ W.cell? ⟨g, j2 * 4 + 2, none⟩ = some (.int .i64 s3) ∧ W.cell? ⟨g, j2 * 4 + 3, none⟩ = some (.slice ya3 yl3 yc3))))
          (first | exact HCr.out _ (by assumption) | go_keep)
          (first | (go_at_call 203; refine (HCM.out _ hF0).mono ?_; rintro e w6 ⟨he, hB⟩; subst he; have hF1 : Ext wx w6 := hF0.trans hB.below; clear hB))
        have HX6 := Lib.hid (HXW.out.trans hF1)
        clear x0 x1 x2 x3 b0 b1 b2 b3 hF1 hF0 HXW HCr HCM
        obtain ⟨wx, hwx⟩ : ∃ v : World, v = w6 := ⟨_, rfl⟩
        subst hwx
        have HXW := HX6
        clear HX6
        by_cases hpar : (j2 - j) % 2 = 1
        rotate_left
        · have q34 : (((j2 : Int) - (j : Int)) % 2 == 1) = false := beq_eq_false_iff_ne.2 (by omega)
          have HI2 : Hid (IVQ qs K j2) := by show IVQ _ _ _; have := HSTEP.out j2 hjj hj2 HEQ.out HNE.out; rw [if_neg hpar] at this; exact this
          have HRE := Lib.hid (fun W x => HRS.out W j2 hj2 hj1 (HXW.out.trans x))
          clear hpar
          go_wp2_with fail
          go_roundw
          case rel => exact ⟨K, j2, by omega, rfl, rfl, HI2, HRE.out _ (by first | exact Ext.refl _ | exact below_drewN (Below.refl _ _) _)⟩
          case measure => simp [intOf]; omega
        · have q34 : (((j2 : Int) - (j : Int)) % 2 == 1) = true := beq_iff_eq.2 (by omega)
          have HI2 : Hid (IVQ qs (K ++ [T]) j2) := by show IVQ _ _ _; have := HSTEP.out j2 hjj hj2 HEQ.out HNE.out; rw [if_pos hpar] at this; exact this
          have hkj2 : K.length < j2 := by omega
          obtain ⟨⟨z0, z1, z2, z3, y0, y1, y2, y3⟩, hz, hkn⟩ := (HRS.out _ j2 hj2 hj1 HXW.out).room hkj2
          have v0 := hz (K.length * 4)
          have v1 := hz (K.length * 4 + 1)
          have v2 := hz (K.length * 4 + 2)
          have v3 := hz (K.length * 4 + 3)
          have HP6 := Lib.hid (fun W (x : Ext wx W) => (HRS.out W j2 hj2 hj1 (HXW.out.trans x)).put (t := T) hkj2 HSb5.out (HIx.out W (HXW.out.trans x)))
          obtain ⟨x0, x1, x2, x3⟩ := HCx.out _ HXW.out
          have k1 : (0 : Int) ≤ (K.length : Int) := by omega
          have k2 : (K.length : Int) < (n : Int) := by omega
          clear hpar hz
          go_wp2_with fail
          go_roundw
          case rel => exact ⟨K ++ [T], j2, by omega, by rw [List.length_append]; go_num, rfl, HI2, HP6.out _ (by first | exact Ext.refl _ | exact below_drewN (Below.refl _ _) _)⟩
          case measure => simp [intOf]; omega
end Go.Proofs.YtbcpnepjojppaaaGreatDoor
namespace Go.Proofs.YtbcpnepjojppaaaGreatDoor
open Go.RowKit
set_option maxHeartbeats 1600000 in
set_option maxRecDepth 100000 in
theorem cancelled_nil (g cap : Nat) (w : World) :
    Calls Tryz.prog 178 #[.slice (some ⟨g, 0, none⟩) 0 cap] w fun e w' => e = .returned (.slice (some ⟨g, 0, none⟩) 0 cap) ∧ w' = w := by
  have HST := Lib.hid (AnyF.slices_SortFunc_none Tryz.sortTerms (some ⟨g, 0, none⟩) cap (.func (.func 88) #[] #[]) w)
  go_enter Tryz.func178, Tryz.ntmps178
  go_wp2_with (go_at_call 202; refine (HST.out).mono ?_; rintro e w9 ⟨he, hw⟩; subst he; subst hw)
  go_loopw [3, 4] (fun kk i wr => kk = .int .i64 0 ∧ i = .int .i64 0 ∧ wr = w9) (fun _ i _ => (intOf i).toNat)
  case atStart => exact ⟨rfl, rfl, rfl⟩
  case round =>
    obtain ⟨rfl, rfl, rfl⟩ := hrel
    go_wp2_with fail
    go_ret
    exact ⟨rfl, rfl⟩
set_option maxHeartbeats 1600000 in
set_option maxRecDepth 100000 in
theorem cancelled_none (w : World) :
    Calls Tryz.prog 178 #[.slice none 0 0] w fun e w' => e = .returned (.slice none 0 0) ∧ w' = w := by
  have HST := Lib.hid (AnyF.slices_SortFunc_none Tryz.sortTerms none 0 (.func (.func 88) #[] #[]) w)
  go_enter Tryz.func178, Tryz.ntmps178
  go_wp2_with (go_at_call 202; refine (HST.out).mono ?_; rintro e w9 ⟨he, hw⟩; subst he; subst hw)
  go_loopw [3, 4] (fun kk i wr => kk = .int .i64 0 ∧ i = .int .i64 0 ∧ wr = w9) (fun _ i _ => (intOf i).toNat)
  case atStart => exact ⟨rfl, rfl, rfl⟩
  case round =>
    obtain ⟨rfl, rfl, rfl⟩ := hrel
    go_wp2_with fail
    go_ret
    exact ⟨rfl, rfl⟩
theorem Row_cellsQ {w : World} {S : Nat → Prop} (b : Nat) : ∀ (ts : List Tm) (o : Nat) (cs : List Value), KC S w ts cs → (∀ j u, cs[j]? = some u → w.cell? ⟨b, o + j, none⟩ = some u) → Row w ts (some ⟨b, o, none⟩)
  | [], o, cs, _, _ => by simp [Row]
  | t :: ts, o, cs, h, hc => by
    obtain ⟨c0, c1, c2, c3, r, rfl, hI, hr⟩ := h
    refine Row_cons_mk ⟨c0, c1, c2, c3, hc 0 _ rfl, hc 1 _ rfl, hc 2 _ rfl, hc 3 _ rfl, IsIn_Is _ _ _ _ _ hI⟩ (Row_cellsQ b ts (o + 4) r hr (fun j u hu => ?_))
    have := hc (j + 4) u (by simpa using hu)
    rw [show o + 4 + j = o + (j + 4) by omega]; exact this
theorem OwnT_rowQ {H : Nat} {S : Nat → Prop} {w : World} {ts : List Tm} {xa : Option Addr} {cap : Nat} (h : OwnT H S w ts (.slice xa ts.length cap)) : Row w ts xa ∧ ts.length ≤ cap := by
  obtain ⟨cs, ho, hK⟩ := h
  rcases ho.2 with ⟨e, h0⟩ | ⟨g, cap', cur, e, _, _, h1, h2, _⟩
  · have : ts = [] := List.length_eq_zero_iff.1 h0
    subst this
    exact ⟨by simp [Row], Nat.zero_le _⟩
  · simp only [Value.slice.injEq] at e
    obtain ⟨rfl, _, rfl⟩ := e
    refine ⟨Row_cellsQ g _ 0 cs hK (fun j u hu => ?_), h1⟩
    have := ho.cells (g := g) rfl j u hu
    rw [add_plain] at this; exact this
def CaPost (H : Nat) (S : Nat → Prop) (w : World) (ps : List Tm) (e : Ending) (w' : World) : Prop :=
  ∃ (K : List Tm) (xa : Option Addr) (cap : Nat), e = .returned (.slice xa K.length cap) ∧ Row w' K xa ∧ K.length ≤ cap ∧ K.length ≤ ps.length ∧ OddS K ps ∧ Below H w w' ∧ OwnT H S w' K (.slice xa K.length cap)
theorem cancelled_any {H : Nat} {S : Nat → Prop} {ps : List Tm} {v : Value} {w : World} (hown : OwnT H S w ps v) (hS : ∀ b, S b → b < H) (hHw : H ≤ w.heap.size) (hsz : ∀ t ∈ ps, size t ≤ 1073741824) (hlt : ps.length < 1073741824) :
    Calls Tryz.prog 178 #[v] w (CaPost H S w ps) := by
  obtain ⟨cs, ho, hK⟩ := id hown
  have hl := fun q hq => ho.lt q hq
  rcases id ho.2 with ⟨rfl, e⟩ | ⟨g, cap, _, rfl, hg, _, hcap, _⟩
  · have hn : ps = [] := List.length_eq_zero_iff.1 e
    subst hn
    refine (cancelled_none w).mono fun e w' h => ?_
    obtain ⟨rfl, rfl⟩ := h
    exact ⟨[], none, 0, rfl, by simp [Row], Nat.le_refl _, Nat.le_refl _, OddS.nil, Below.refl _ _, hown⟩
  · by_cases h0 : ps.length = 0
    · have hn : ps = [] := List.length_eq_zero_iff.1 h0
      subst hn
      refine (cancelled_nil g cap w).mono fun e w' h => ?_
      obtain ⟨rfl, rfl⟩ := h
      exact ⟨[], _, cap, rfl, by simp [Row], Nat.zero_le _, Nat.le_refl _, OddS.nil, Below.refl _ _, hown⟩
    · have hgl := (hl g rfl).2
      refine (cancelled_pos (n := ps.length) hown rfl (fun b hb => ⟨by have := hS b hb; omega, by have := hS b hb; omega⟩) hHw (by omega) hsz hlt).mono fun e w' h => ?_
      obtain ⟨qs, rfl, h1, h2, h3, h6⟩ := h
      obtain ⟨r1, r2⟩ := OwnT_rowQ h1
      exact ⟨qs, _, cap, rfl, r1, r2, h2, h3, h6, h1⟩
def newQ (g : Nat) (w : World) (b : Nat) : Prop := g < b ∧ b < w.heap.size
structure QC (w : World) (g : Nat) (us : List Tm) (j : Nat) (wr : World) : Prop where
  below : Below w.heap.size w wr
  own : w.heap.size ≤ g
  row : ∃ cs zs, wr.ownsRow g 24 4 (.slice (some ⟨g, 0, none⟩) us.length us.length) us.length (cs ++ zs) ∧ cs.length = j * 4 ∧ KC (newQ g wr) wr (us.take j) cs
theorem QC.lt {w wr : World} {g j : Nat} {us : List Tm} (h : QC w g us j wr) : g < wr.heap.size := by
  obtain ⟨cs, zs, ho, _⟩ := h.row
  exact (ho.lt g rfl).2
theorem QC.ext {w wr w3 : World} {g j : Nat} {us : List Tm} (h : QC w g us j wr) (hB : Ext wr w3) : QC w g us j w3 := by
  obtain ⟨cs, zs, ho, hc, hK⟩ := h.row
  exact ⟨Ext.trans h.below hB, h.own, cs, zs, own_heap ho (fun q hq => hB.block q (ho.lt q hq).2), hc, KC_carry (fun b hb => hB.block b hb.2) (fun b hb => ⟨hb.1, Nat.lt_of_lt_of_le hb.2 hB.size⟩) _ _ hK⟩
theorem QC.cells {w wr : World} {g j : Nat} {us : List Tm} (h : QC w g us j wr) (hj : j < us.length) :
    (∃ z0 z1 z2 z3, wr.cell? ⟨g, j * 4, none⟩ = some z0 ∧ wr.cell? ⟨g, j * 4 + 1, none⟩ = some z1 ∧ wr.cell? ⟨g, j * 4 + 2, none⟩ = some z2 ∧ wr.cell? ⟨g, j * 4 + 3, none⟩ = some z3) ∧ ∀ i, wr.frozen? ⟨g, i, none⟩ = false := by
  obtain ⟨cs, zs, ho, hc, _⟩ := h.row
  have hl := ho.1
  have hz : ∀ i, i < 4 → ∃ z, wr.cell? ⟨g, j * 4 + i, none⟩ = some z := fun i hi => by
    rw [ho.cellAt _ (by omega)]
    exact ⟨_, List.getElem?_eq_getElem (by omega)⟩
  obtain ⟨z0, h0⟩ := hz 0 (by omega)
  obtain ⟨z1, h1⟩ := hz 1 (by omega)
  obtain ⟨z2, h2⟩ := hz 2 (by omega)
  obtain ⟨z3, h3⟩ := hz 3 (by omega)
  exact ⟨⟨z0, z1, z2, z3, h0, h1, h2, h3⟩, fun i => ho.frozenAt i⟩
theorem QC.next {w wr : World} {g j : Nat} {us : List Tm} (h : QC w g us j wr) (hj : j < us.length) {c0 c1 c2 c3 : Value}
    (hI : IsIn (newQ g wr) wr us[j] c0 c1 c2 c3) : QC w g us (j + 1) (put4 wr g (j * 4) c0 c1 c2 c3) := by
  obtain ⟨cs, zs, ho, hc, hK⟩ := h.row
  have hp : ∀ q, q ≠ g → (put4 wr g (j * 4) c0 c1 c2 c3).heap[q]? = wr.heap[q]? := fun q hq => put4_other _ _ _ _ _ _ _ _ hq
  have hsz : (put4 wr g (j * 4) c0 c1 c2 c3).heap.size = wr.heap.size := put4_size _ _ _ _ _ _ _
  have hS : ∀ b, newQ g wr b → newQ g (put4 wr g (j * 4) c0 c1 c2 c3) b := fun b hb => ⟨hb.1, by rw [hsz]; exact hb.2⟩
  refine ⟨put4_below h.below h.own, h.own, cs ++ [c0, c1, c2, c3], zs.drop 4, stored4 ho hc hj, ?_, ?_⟩
  · simp only [List.length_append, hc, List.length_cons, List.length_nil]; omega
  · rw [List.take_succ_eq_append_getElem hj]
    exact KC_snoc (IsIn_carry (fun b hb => hp b (by have := hb.1; omega)) hS _ _ _ _ _ hI) _ _ (KC_carry (fun b hb => hp b (by have := hb.1; omega)) hS _ _ hK)
theorem QC.done {w wr : World} {g : Nat} {us : List Tm} (h : QC w g us us.length wr) : Row wr us (some ⟨g, 0, none⟩) ∧ RowIn (fun b => w.heap.size ≤ b) wr us (some ⟨g, 0, none⟩) ∧ Below w.heap.size w wr := by
  obtain ⟨cs, zs, ho, hc, hK⟩ := h.row
  have hw := h.own
  rw [List.take_length] at hK
  have hl := ho.1
  rw [List.length_append] at hl
  have hz : zs = [] := List.length_eq_zero_iff.1 (by omega)
  rw [hz, List.append_nil] at ho
  have hK2 : KC (fun b => w.heap.size ≤ b) wr us cs := KC_carry (fun _ _ => rfl) (fun b hb => by have := hb.1; omega) _ _ hK
  refine ⟨(OwnT_rowQ (H := g) (cap := us.length) ⟨cs, ho, hK⟩).1, RowIn_of_KC (S := fun b => w.heap.size ≤ b) hw us cs 0 hK2 (fun j u hu => ?_), h.below⟩
  have := ho.cells (g := g) rfl j u hu
  rw [add_plain] at this; exact this
theorem QC_made {w w0 w1 : World} {g : Nat} {us : List Tm} {xs : List Value} (hown : w1.ownsRow g 24 4 (.slice (some ⟨g, 0, none⟩) us.length us.length) us.length xs) (hw : w.heap.size ≤ g) (hz : g ≤ w0.heap.size) (hB : Below w.heap.size w w0) (hg : w0.grownBy w1 none) : QC w g us 0 w1 :=
  ⟨hB.grown hg (by omega) (fun q hq => by simp at hq), hw, [], xs, hown, by simp, rfl⟩
def CpPost (w : World) (us : List Tm) (e : Ending) (w' : World) : Prop := ∃ xa c, e = .returned (.slice xa us.length c) ∧ us.length ≤ c ∧ Row w' us xa ∧ RowIn (fun b => w.heap.size ≤ b) w' us xa ∧ Below w.heap.size w w'
def TsPost (w : World) (us : List Tm) (e : Ending) (w' : World) : Prop := ∃ xa c, e = .returned (.slice xa us.length c) ∧ us.length ≤ c ∧ Row w' us xa ∧ Below w.heap.size w w'
set_option maxHeartbeats 3200000 in
set_option maxRecDepth 100000 in
theorem copies_any (us : List Tm) (xa : Option Addr) (cap : Nat) (w : World) (hlen : us.length ≤ 1048576) (hsz : ∀ t ∈ us, size t ≤ 1073741824) (hR : Row w us xa) :
    Calls Tryz.prog 143 #[.slice xa us.length cap] w (CpPost w us) := by
  obtain ⟨i0, hi0, hz0, hz1, hz2⟩ := info_parts info24
  have HI0 := Lib.hid (And.intro hi0 (And.intro hz0 (And.intro hz1 hz2)))
  have HR := Lib.hid hR
  have HSZ := Lib.hid hsz
  clear hR hsz hi0 hz0 hz1 hz2
  go_enter Tryz.func143, Tryz.ntmps143
  go_wp2_with (at_make; refine make_full_at _ w.heap.size rfl rfl _ _ _ rfl 24 i0 _ 4 Tryz.underlying22 HI0.out.1 HI0.out.2.1 HI0.out.2.2.1 us.length rfl rfl (by rw [HI0.out.2.2.2]; omega) (by unfold maxLen; omega) ?_; intro w2 hown1 hgrow; have HM := Lib.hid (QC_made hown1 (Nat.le_refl _) (Nat.le_refl _) (Below.refl w.heap.size w) hgrow); clear hown1 hgrow)
  obtain ⟨g, hg⟩ : ∃ g, w.heap.size = g := ⟨_, rfl⟩
  have HGE : Hid (w.heap.size ≤ g) := (by omega : w.heap.size ≤ g)
  rw [hg] at HM ⊢
  clear hg
  go_loopw [10] (fun i wr => ∃ j : Nat, j ≤ us.length ∧ i = .int .i64 j ∧ QC w g us j wr) (fun i _ => us.length - (intOf i).toNat)
  case atStart => exact ⟨0, Nat.zero_le _, rfl, HM.out⟩
  case round =>
    obtain ⟨j, hj, rfl, hA⟩ := hrel
    have HA := Lib.hid hA
    by_cases hlt : j < us.length
    rotate_left
    · have hjl : j = us.length := by omega
      have HD := Lib.hid (QC.done (by rw [hjl] at hA; exact hA))
      clear hA hjl
      go_wp2_with fail
      go_ret
      exact ⟨_, _, rfl, Nat.le_refl _, HD.out.1, HD.out.2.1, HD.out.2.2⟩
    obtain ⟨b, o, rfl⟩ := Row_at HR.out (by omega)
    obtain ⟨c0, c1, c2, c3, x0, x1, x2, x3, hI⟩ := Row_get (Row_below HR.out hA.below) j hlt
    obtain ⟨k, nm, s, ya, yl, yc, rfl, rfl, rfl, rfl⟩ := Is_form hI
    have HC := Lib.hid (At_any us[j] [] _ _ _ _ (.slice none 0 0) wr (HSZ.out _ (List.getElem_mem hlt)) hI ⟨none, 0, rfl, Nat.zero_le _, fun x hx => by simp at hx, fun h => by simp at h⟩)
    have hat : atT us[j] [] = some us[j] := by simp [atT]
    rw [hat] at HC
    unfold AtPost at HC
    have hgl := hA.lt
    have HGL := Lib.hid hgl
    have i1 : (0 : Int) ≤ (j : Int) := by omega
    have i2 : (j : Int) < (us.length : Int) := by omega
    clear hA hI hat hgl
    go_wp2_with (go_at_call 95; refine (HC.out).mono ?_; rintro e w4 ⟨hB4, c0, c1, c2, c3, he, hI4⟩; subst he; obtain ⟨k6, n6, s6, xa6, l6, cap6, e0, e1, e2, e3⟩ := IsIn_form hI4; subst e0 e1 e2 e3; have hA4 := HA.out.ext hB4; have HA4 := Lib.hid hA4; have HI4 := Lib.hid hI4; obtain ⟨⟨z0, z1, z2, z3, y0, y1, y2, y3⟩, hz⟩ := hA4.cells hlt; have f0 := hz (j * 4); have f1 := hz (j * 4 + 1); have f2 := hz (j * 4 + 2); have f3 := hz (j * 4 + 3); clear hz hA4 hI4 hB4)
    go_roundw
    case rel =>
      refine ⟨j + 1, by omega, by go_num, ?_⟩
      exact HA4.out.next hlt (IsIn_carry (fun _ _ => rfl) (fun q hq => ⟨by have := HGL.out; have : wr.heap.size ≤ q := hq.1; omega, hq.2⟩) _ _ _ _ _ HI4.out)
    case measure => simp [intOf]; omega
end Go.Proofs.YtbcpnepjojppaaaGreatDoor
