/-
  SUMMANDS: what occurs an odd number of times, on plain data, and a row that is kept in place.
-/
import Derived.Test.YtakeopjpmfgngaaGreatDoorQsort
import Derived.Test.YtakeopjpmfgngaaGreatDoorFind
namespace Go.Proofs.YtakeopjpmfgngaaGreatDoor
open Go.RowKit

def AscT (ts : List Tm) : Prop := ts.Pairwise (fun a b => cmpT a b < 0)
/-- How often a term stands in a list. -/
def cntT : List Tm → Tm → Nat
  | [], _ => 0
  | p :: ps, t => (if cmpT p t = 0 then 1 else 0) + cntT ps t
theorem cntT_app : ∀ (ps qs : List Tm) (t : Tm), cntT (ps ++ qs) t = cntT ps t + cntT qs t
  | [], qs, t => by simp [cntT]
  | p :: ps, qs, t => by rw [List.cons_append, cntT, cntT, cntT_app ps qs t]; omega
theorem cntT_perm {ps qs : List Tm} (h : ps.Perm qs) (t : Tm) : cntT ps t = cntT qs t := by
  induction h with
  | nil => rfl
  | cons x _ ih => rw [cntT, cntT, ih]
  | swap x y l => simp only [cntT]; omega
  | trans _ _ i1 i2 => exact i1.trans i2
theorem cntT_none {ps : List Tm} {t : Tm} (h : ∀ p ∈ ps, ¬ p = t) : cntT ps t = 0 := by
  induction ps with
  | nil => rfl
  | cons p ps ih =>
    rw [cntT, ih (fun q hq => h q (List.mem_cons_of_mem _ hq)), if_neg (fun e => h p (List.mem_cons_self ..) (cmpT_zero _ _ e))]
theorem cntT_mem {ps : List Tm} {t : Tm} (h : 0 < cntT ps t) : t ∈ ps := by
  induction ps with
  | nil => simp [cntT] at h
  | cons p ps ih =>
    rw [cntT] at h
    by_cases hc : cmpT p t = 0
    · rw [cmpT_zero _ _ hc]; exact List.mem_cons_self ..
    · rw [if_neg hc] at h; exact List.mem_cons_of_mem _ (ih (by omega))
theorem cntT_rep (x t : Tm) : ∀ n : Nat, cntT (List.replicate n x) t = if cmpT x t = 0 then n else 0
  | 0 => by simp [cntT]
  | n + 1 => by
    rw [List.replicate_succ, cntT, cntT_rep x t n]
    by_cases h : cmpT x t = 0
    · rw [if_pos h, if_pos h, if_pos h]; omega
    · rw [if_neg h, if_neg h, if_neg h]
theorem cntT_asc : ∀ {ps : List Tm} (_ : AscT ps) (t : Tm), cntT ps t ≤ 1 ∧ (t ∈ ps ↔ cntT ps t = 1)
  | [], _, t => ⟨by simp [cntT], by simp [cntT]⟩
  | p :: ps, h, t => by
    obtain ⟨p1, p2⟩ := List.pairwise_cons.1 h
    obtain ⟨i1, i2⟩ := cntT_asc (ps := ps) p2 t
    rw [cntT, List.mem_cons]
    by_cases hc : cmpT p t = 0
    · have e := cmpT_zero _ _ hc
      have h0 : cntT ps t = 0 := cntT_none fun q hq e2 => by
        have := p1 q hq
        rw [e2, e, cmpT_self] at this
        omega
      rw [if_pos hc, h0]
      exact ⟨by omega, ⟨fun _ => rfl, fun _ => Or.inl e.symm⟩⟩
    · rw [if_neg hc, Nat.zero_add]
      refine ⟨i1, ?_⟩
      rw [← i2]
      exact ⟨fun x => x.elim (fun e => absurd (by rw [e]; exact cmpT_self p) hc) id, Or.inr⟩
/-- The terms that occur an odd number of times, ascending. -/
structure OddS (K P : List Tm) : Prop where
  asc : AscT K
  odd : ∀ t, t ∈ K ↔ cntT P t % 2 = 1
theorem asc_oneQ : ∀ (l m : List Tm), l.Pairwise (fun a b => cmpT a b < 0) → m.Pairwise (fun a b => cmpT a b < 0) → (∀ t, t ∈ l ↔ t ∈ m) → l = m
  | [], [], _, _, _ => rfl
  | [], u :: m, _, _, h => absurd ((h u).2 (by simp)) (by simp)
  | t :: l, [], _, _, h => absurd ((h t).1 (by simp)) (by simp)
  | t :: l, u :: m, hl, hm, h => by
    have hself : ∀ x : Tm, ¬ cmpT x x < 0 := fun x => by rw [cmpT_self]; omega
    have l1 := (List.pairwise_cons.1 hl).1
    have m1 := (List.pairwise_cons.1 hm).1
    have e : t = u := by
      rcases List.mem_cons.1 ((h t).1 (by simp)) with e | h1
      · exact e
      · rcases List.mem_cons.1 ((h u).2 (by simp)) with e | h2
        · exact e.symm
        · exact absurd (cmpT_trans (m1 t h1) (l1 u h2)) (hself u)
    subst e
    rw [asc_oneQ l m (List.pairwise_cons.1 hl).2 (List.pairwise_cons.1 hm).2 (fun x => ?_)]
    constructor
    · intro hx
      rcases List.mem_cons.1 ((h x).1 (List.mem_cons_of_mem _ hx)) with e | h1
      · subst e; exact absurd (l1 x hx) (hself x)
      · exact h1
    · intro hx
      rcases List.mem_cons.1 ((h x).2 (List.mem_cons_of_mem _ hx)) with e | h1
      · subst e; exact absurd (m1 x hx) (hself x)
      · exact h1
theorem OddS.one {K L P Q : List Tm} (h : OddS K P) (k : OddS L Q) (he : ∀ t, cntT P t % 2 = cntT Q t % 2) : K = L :=
  asc_oneQ K L h.asc k.asc fun t => by rw [h.odd, k.odd, he]
theorem OddS.perm {K P Q : List Tm} (h : OddS K P) (hp : P.Perm Q) : OddS K Q := ⟨h.asc, fun t => by rw [h.odd, cntT_perm hp]⟩
theorem OddS.nil : OddS [] [] := ⟨List.Pairwise.nil, fun t => by simp [cntT]⟩
theorem OddS.sub {K P : List Tm} (h : OddS K P) : ∀ t ∈ K, t ∈ P := fun t ht => cntT_mem (by have := (h.odd t).1 ht; omega)
/-- A run of equal terms behind what is less. -/
theorem OddS.run {K P : List Tm} {x : Tm} {n : Nat} (h : OddS K P) (hx : ∀ p ∈ P, cmpT p x < 0) : OddS (if n % 2 = 1 then K ++ [x] else K) (P ++ List.replicate n x) := by
  have hP0 : cntT P x = 0 := cntT_none fun p hp e => by have := hx p hp; rw [e, cmpT_self] at this; omega
  have hc : ∀ t, cntT (P ++ List.replicate n x) t = cntT P t + if cmpT x t = 0 then n else 0 := fun t => by rw [cntT_app, cntT_rep]
  by_cases h1 : n % 2 = 1
  · rw [if_pos h1]
    refine ⟨List.pairwise_append.2 ⟨h.asc, List.pairwise_singleton _ _, fun a ha b hb => ?_⟩, fun t => ?_⟩
    · simp only [List.mem_singleton] at hb
      rw [hb]; exact hx a (h.sub a ha)
    · rw [hc, List.mem_append, List.mem_singleton, h.odd]
      by_cases he : cmpT x t = 0
      · have e := cmpT_zero _ _ he
        subst e
        rw [if_pos he, hP0, Nat.zero_add]
        exact ⟨fun _ => h1, fun _ => Or.inr rfl⟩
      · rw [if_neg he, Nat.add_zero]
        exact ⟨fun x' => x'.elim id (fun e => absurd (by rw [e]; exact cmpT_self x) he), Or.inl⟩
  · rw [if_neg h1]
    refine ⟨h.asc, fun t => ?_⟩
    rw [hc, h.odd]
    by_cases he : cmpT x t = 0
    · have e := cmpT_zero _ _ he
      subst e
      rw [if_pos he, hP0]; omega
    · rw [if_neg he]; omega
/-- A row of terms: what is kept, what may be written over, and what is still to come. -/
structure QR (H g cap n : Nat) (S : Nat → Prop) (w0 : World) (K R : List Tm) (i : Nat) (wr : World) : Prop where
  below : Below H w0 wr
  same : ∀ b, b < w0.heap.size → b ≠ g → wr.heap[b]? = w0.heap[b]?
  row : ∃ cs mid ds, wr.ownsRow H 26 4 (.slice (some ⟨g, 0, none⟩) n cap) n (cs ++ (mid ++ ds)) ∧ KC S wr K cs ∧ KC S wr R ds ∧ K.length ≤ i ∧ mid.length = (i - K.length) * 4 ∧ R.length + i = n
theorem QR.lt {H g cap n i : Nat} {S : Nat → Prop} {w0 wr : World} {K R : List Tm} (h : QR H g cap n S w0 K R i wr) : g < wr.heap.size := by
  obtain ⟨_, _, _, ho, _⟩ := h.row
  exact (ho.lt g rfl).2
theorem QR.ext {H g cap n i : Nat} {S : Nat → Prop} {w0 wr W : World} {K R : List Tm} (h : QR H g cap n S w0 K R i wr) (x : Ext wr W) (hS : ∀ b, S b → b < w0.heap.size ∧ b ≠ g) : QR H g cap n S w0 K R i W := by
  obtain ⟨cs, mid, ds, ho, h1, h2, h3⟩ := h.row
  have hw := h.below.size
  have hH : H ≤ wr.heap.size := Nat.le_of_lt (Nat.lt_of_le_of_lt (ho.lt g rfl).1 (ho.lt g rfl).2)
  exact ⟨h.below.trans (x.mono hH), fun b hb hne => (x.block b (by omega)).trans (h.same b hb hne), cs, mid, ds, own_heap ho (fun q hq => x.block q (ho.lt q hq).2), KC_carry (fun b hb => x.block b (by have := (hS b hb).1; omega)) (fun _ h => h) _ _ h1, KC_carry (fun b hb => x.block b (by have := (hS b hb).1; omega)) (fun _ h => h) _ _ h2, h3⟩
theorem QR.head {H g cap n i : Nat} {S : Nat → Prop} {w0 wr : World} {K R : List Tm} {x : Tm} (h : QR H g cap n S w0 K (x :: R) i wr) :
    ∃ c0 c1 c2 c3, wr.cell? ⟨g, i * 4, none⟩ = some c0 ∧ wr.cell? ⟨g, i * 4 + 1, none⟩ = some c1 ∧ wr.cell? ⟨g, i * 4 + 2, none⟩ = some c2 ∧ wr.cell? ⟨g, i * 4 + 3, none⟩ = some c3 ∧ IsIn S wr x c0 c1 c2 c3 ∧ i < n ∧ QR H g cap n S w0 K R (i + 1) wr := by
  obtain ⟨cs, mid, ds, ho, h1, h2, h3, h4, h5⟩ := h.row
  obtain ⟨c0, c1, c2, c3, r, rfl, hI, hr⟩ := h2
  have hc := (KC_one _ _ h1).1
  have hl := ho.1
  simp only [List.length_append, List.length_cons] at hl
  have hp : cs.length + mid.length = i * 4 := by rw [hc, h4, ← Nat.add_mul]; congr 1; omega
  have hg : ∀ j v, (c0 :: c1 :: c2 :: c3 :: r)[j]? = some v → wr.cell? ⟨g, i * 4 + j, none⟩ = some v := fun j v hv => by
    have hj : j < (c0 :: c1 :: c2 :: c3 :: r).length := by
      rcases Nat.lt_or_ge j (c0 :: c1 :: c2 :: c3 :: r).length with h | h
      · exact h
      · rw [List.getElem?_eq_none h] at hv; cases hv
    simp only [List.length_cons] at hj
    rw [ho.cellAt _ (by omega), ← List.append_assoc, List.getElem?_append_right (by rw [List.length_append]; omega), List.length_append, hp, Nat.add_sub_cancel_left]
    exact hv
  simp only [List.length_cons] at h5
  refine ⟨c0, c1, c2, c3, hg 0 _ rfl, hg 1 _ rfl, hg 2 _ rfl, hg 3 _ rfl, hI, by omega, h.below, h.same, cs, mid ++ [c0, c1, c2, c3], r, ?_, h1, hr, by omega, ?_, by omega⟩
  · rw [List.append_assoc]; exact ho
  · rw [List.length_append, h4]
    simp only [List.length_cons, List.length_nil]
    have : i + 1 - K.length = (i - K.length) + 1 := by omega
    rw [this, Nat.add_mul]
theorem QR.room {H g cap n i : Nat} {S : Nat → Prop} {w0 wr : World} {K R : List Tm} (h : QR H g cap n S w0 K R i wr) (hk : K.length < i) :
    (∃ z0 z1 z2 z3, wr.cell? ⟨g, K.length * 4, none⟩ = some z0 ∧ wr.cell? ⟨g, K.length * 4 + 1, none⟩ = some z1 ∧ wr.cell? ⟨g, K.length * 4 + 2, none⟩ = some z2 ∧ wr.cell? ⟨g, K.length * 4 + 3, none⟩ = some z3) ∧ (∀ q, wr.frozen? ⟨g, q, none⟩ = false) ∧ K.length < n := by
  obtain ⟨cs, mid, ds, ho, h1, h2, h3, h4, h5⟩ := h.row
  have hl := ho.1
  have hz : ∀ q, q < 4 → ∃ z, wr.cell? ⟨g, K.length * 4 + q, none⟩ = some z := fun q hq => by
    rw [ho.cellAt _ (by omega)]
    exact ⟨_, List.getElem?_eq_getElem (by omega)⟩
  obtain ⟨z0, e0⟩ := hz 0 (by omega)
  obtain ⟨z1, e1⟩ := hz 1 (by omega)
  obtain ⟨z2, e2⟩ := hz 2 (by omega)
  obtain ⟨z3, e3⟩ := hz 3 (by omega)
  exact ⟨⟨z0, z1, z2, z3, e0, e1, e2, e3⟩, fun q => ho.frozenAt q, by omega⟩
theorem stored4 {w : World} {base : Nat} {T : TypeId} {g n cap j : Nat} {cs zs : List Value} {c0 c1 c2 c3 : Value} (ho : w.ownsRow base T 4 (.slice (some ⟨g, 0, none⟩) n cap) n (cs ++ zs)) (hc : cs.length = j * 4) (hj : j < n) :
    (put4 w g (j * 4) c0 c1 c2 c3).ownsRow base T 4 (.slice (some ⟨g, 0, none⟩) n cap) n ((cs ++ [c0, c1, c2, c3]) ++ zs.drop 4) := by
  have h1 := (((((ho.stored (j * 4) c0).1).stored (j * 4 + 1) c1).1).stored (j * 4 + 2) c2).1.stored (j * 4 + 3) c3 |>.1
  have hz : ∃ z0 z1 z2 z3 r, zs = z0 :: z1 :: z2 :: z3 :: r := by
    have hl := ho.1
    rw [List.length_append] at hl
    exact four_of zs (by omega)
  obtain ⟨z0, z1, z2, z3, r, rfl⟩ := hz
  have e : ((((cs ++ z0 :: z1 :: z2 :: z3 :: r).set (j * 4) c0).set (j * 4 + 1) c1).set (j * 4 + 2) c2).set (j * 4 + 3) c3 = (cs ++ [c0, c1, c2, c3]) ++ List.drop 4 (z0 :: z1 :: z2 :: z3 :: r) := by
    rw [← hc]
    simp only [List.set_append_right _ _ (Nat.le_refl _), List.set_append_right _ _ (Nat.le_add_right _ _), Nat.sub_self, Nat.add_sub_cancel_left, List.set_cons_zero, List.set_cons_succ, List.drop_succ_cons, List.drop_zero, List.append_assoc, List.cons_append, List.nil_append]
  rw [e] at h1
  exact h1
theorem QR.put {H g cap n i : Nat} {S : Nat → Prop} {w0 wr : World} {K R : List Tm} (h : QR H g cap n S w0 K R i wr) (hk : K.length < i) (hS : ∀ b, S b → b < w0.heap.size ∧ b ≠ g) {t : Tm} {c0 c1 c2 c3 : Value} (hI : IsIn S wr t c0 c1 c2 c3) :
    QR H g cap n S w0 (K ++ [t]) R i (put4 wr g (K.length * 4) c0 c1 c2 c3) := by
  obtain ⟨cs, mid, ds, ho, h1, h2, h3, h4, h5⟩ := h.row
  have hp : ∀ q, q ≠ g → (put4 wr g (K.length * 4) c0 c1 c2 c3).heap[q]? = wr.heap[q]? := fun q hq => put4_other _ _ _ _ _ _ _ _ hq
  have hH := (ho.lt g rfl).1
  have hc := (KC_one _ _ h1).1
  have hm : 4 ≤ mid.length := by rw [h4]; have : 1 ≤ i - K.length := by omega
                                 omega
  refine ⟨put4_below h.below hH, fun b hb hne => (hp b hne).trans (h.same b hb hne), cs ++ [c0, c1, c2, c3], mid.drop 4, ds, ?_, ?_, KC_carry (fun b hb => hp b (hS b hb).2) (fun _ h => h) _ _ h2, by rw [List.length_append]; simp only [List.length_cons, List.length_nil]; omega, ?_, h5⟩
  · have := stored4 (c0 := c0) (c1 := c1) (c2 := c2) (c3 := c3) ho hc (by omega)
    rw [List.drop_append_of_le_length hm] at this
    exact this
  · exact KC_append _ _ _ _ (KC_carry (fun b hb => hp b (hS b hb).2) (fun _ h => h) _ _ h1) (KC_one_term (IsIn_carry (fun b hb => hp b (hS b hb).2) (fun _ h => h) _ _ _ _ _ hI))
  · rw [List.length_drop, h4, List.length_append]
    simp only [List.length_cons, List.length_nil]
    have : i - K.length = (i - (K.length + 1)) + 1 := by omega
    omega
theorem QR.done {H g cap n : Nat} {S : Nat → Prop} {w0 wr : World} {K : List Tm} (h : QR H g cap n S w0 K [] n wr) : OwnT H S wr K (.slice (some ⟨g, 0, none⟩) K.length cap) := by
  obtain ⟨cs, mid, ds, ho, h1, h2, h3, h4, h5⟩ := h.row
  have hc := (KC_one _ _ h1).1
  rcases ho.2 with ⟨e, _⟩ | ⟨g', cap', cur, e, hH, hh, hcap, hmax, hsz, htk⟩
  · simp at e
  · simp only [Value.slice.injEq, Option.some.injEq, Addr.mk.injEq, true_and, and_true] at e
    obtain ⟨rfl, rfl⟩ := e
    refine ⟨cs, ⟨hc, Or.inr ⟨g, cap, cur, rfl, hH, hh, by omega, hmax, hsz, ?_⟩⟩, h1⟩
    have : List.take (K.length * 4) (List.take (n * 4) cur.toList) = cs := by
      rw [htk, ← hc, List.take_left']
      rfl
    rw [List.take_take, Nat.min_eq_left (Nat.mul_le_mul_right 4 h3)] at this
    exact this
end Go.Proofs.YtakeopjpmfgngaaGreatDoor
