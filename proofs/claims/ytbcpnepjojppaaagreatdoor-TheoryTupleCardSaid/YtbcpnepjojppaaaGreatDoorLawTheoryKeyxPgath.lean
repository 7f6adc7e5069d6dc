import Derived.BigQuiet
import Derived.Deep.RegionHeld3
import Derived.Test.YtbcpnepjojppaaaGreatDoorLawTheoryKeyxPsort
namespace Go.Proofs.YtbcpnepjojppaaaGreatDoor
open Go.RowKit
def pwr : List Pw → Tm → Int
  | [], _ => 0
  | p :: ps, t => (if cmpT p.1 t = 0 then p.2 else 0) + pwr ps t
theorem pwr_app : ∀ (ps qs : List Pw) (t : Tm), pwr (ps ++ qs) t = pwr ps t + pwr qs t
  | [], qs, t => by simp [pwr]
  | p :: ps, qs, t => by rw [List.cons_append, pwr, pwr, pwr_app ps qs t]; omega
theorem pwr_perm {ps qs : List Pw} (h : ps.Perm qs) (t : Tm) : pwr ps t = pwr qs t := by
  induction h with
  | nil => rfl
  | cons x _ ih => rw [pwr, pwr, ih]
  | swap x y l => simp only [pwr]; omega
  | trans _ _ i1 i2 => exact i1.trans i2
def absS : List Pw → Nat
  | [] => 0
  | p :: ps => p.2.natAbs + absS ps
theorem absS_perm {ps qs : List Pw} (h : ps.Perm qs) : absS ps = absS qs := by
  induction h with
  | nil => rfl
  | cons x _ ih => rw [absS, absS, ih]
  | swap x y l => simp only [absS]; omega
  | trans _ _ i1 i2 => exact i1.trans i2
theorem absS_app : ∀ ps qs : List Pw, absS (ps ++ qs) = absS ps + absS qs
  | [], qs => by simp [absS]
  | p :: ps, qs => by rw [List.cons_append, absS, absS, absS_app ps qs]; omega
theorem absS_drop (ps : List Pw) (i : Nat) (h : i < ps.length) : absS (ps.drop i) = ps[i].2.natAbs + absS (ps.drop (i + 1)) := by
  rw [List.drop_eq_getElem_cons h, absS]
theorem absS_drop_le : ∀ (ps : List Pw) (i : Nat), absS (ps.drop i) ≤ absS ps
  | [], i => by simp
  | p :: ps, 0 => Nat.le_refl _
  | p :: ps, i + 1 => by have := absS_drop_le ps i; simp only [List.drop_succ_cons, absS]; omega
def absorb (c : Pw) : List Pw → List Pw
  | [] => if c.2 = 0 then [] else [c]
  | x :: xs => if cmpT c.1 x.1 = 0 then absorb (c.1, c.2 + x.2) xs else if c.2 = 0 then absorb x xs else c :: absorb x xs
def gathS : List Pw → List Pw
  | [] => []
  | x :: xs => absorb x xs
theorem absorb_pwr : ∀ (xs : List Pw) (c : Pw) (t : Tm), pwr (absorb c xs) t = pwr (c :: xs) t
  | [], c, t => by
    rw [absorb]
    by_cases h : c.2 = 0
    · rw [if_pos h]; simp [pwr, h]
    · rw [if_neg h]
  | x :: xs, c, t => by
    rw [absorb]
    by_cases h : cmpT c.1 x.1 = 0
    · rw [if_pos h, absorb_pwr xs]
      have e := cmpT_zero _ _ h
      simp only [pwr, e]
      by_cases h2 : cmpT x.1 t = 0
      · simp only [if_pos h2]; omega
      · simp only [if_neg h2]; omega
    · rw [if_neg h]
      by_cases h0 : c.2 = 0
      · rw [if_pos h0, absorb_pwr xs x]
        simp only [pwr, h0]; split <;> omega
      · rw [if_neg h0, pwr, absorb_pwr xs x]; rfl
theorem gathS_pwr (ps : List Pw) (t : Tm) : pwr (gathS ps) t = pwr ps t := by
  cases ps with
  | nil => rfl
  | cons x xs => exact absorb_pwr xs x t
def NormP (ps : List Pw) : Prop := AscP ps ∧ ∀ p ∈ ps, ¬ p.2 = 0
theorem absorb_mem : ∀ (xs : List Pw) (c q : Pw), q ∈ absorb c xs → ∃ p ∈ c :: xs, q.1 = p.1
  | [], c, q, h => by
    rw [absorb] at h
    by_cases h0 : c.2 = 0
    · rw [if_pos h0] at h; simp at h
    · rw [if_neg h0] at h; simp only [List.mem_cons, List.not_mem_nil, or_false] at h; exact ⟨c, by simp, by rw [h]⟩
  | x :: xs, c, q, h => by
    rw [absorb] at h
    by_cases h1 : cmpT c.1 x.1 = 0
    · rw [if_pos h1] at h
      obtain ⟨p, hp, e⟩ := absorb_mem xs _ q h
      rcases List.mem_cons.1 hp with rfl | hp
      · exact ⟨c, by simp, e⟩
      · exact ⟨p, by simp [hp], e⟩
    · rw [if_neg h1] at h
      by_cases h0 : c.2 = 0
      · rw [if_pos h0] at h
        obtain ⟨p, hp, e⟩ := absorb_mem xs x q h
        exact ⟨p, List.mem_cons_of_mem _ hp, e⟩
      · rw [if_neg h0] at h
        rcases List.mem_cons.1 h with rfl | h
        · exact ⟨q, by simp, rfl⟩
        · obtain ⟨p, hp, e⟩ := absorb_mem xs x q h
          exact ⟨p, List.mem_cons_of_mem _ hp, e⟩
theorem absorb_norm : ∀ (xs : List Pw) (c : Pw), AscW (c :: xs) → NormP (absorb c xs)
  | [], c, _ => by
    rw [absorb]
    by_cases h0 : c.2 = 0
    · rw [if_pos h0]; exact ⟨List.Pairwise.nil, fun p hp => by simp at hp⟩
    · rw [if_neg h0]; exact ⟨List.pairwise_singleton _ _, fun p hp => by simp only [List.mem_cons, List.not_mem_nil, or_false] at hp; rw [hp]; exact h0⟩
  | x :: xs, c, h => by
    obtain ⟨h1, h2⟩ := List.pairwise_cons.1 h
    rw [absorb]
    by_cases hc : cmpT c.1 x.1 = 0
    · rw [if_pos hc]
      refine absorb_norm xs _ (List.pairwise_cons.2 ⟨fun y hy => h1 y (List.mem_cons_of_mem _ hy), (List.pairwise_cons.1 h2).2⟩)
    · rw [if_neg hc]
      have ih := absorb_norm xs x h2
      by_cases h0 : c.2 = 0
      · rw [if_pos h0]; exact ih
      · rw [if_neg h0]
        have hlt : cmpT c.1 x.1 < 0 := by
          have a := h1 x (List.mem_cons_self ..)
          have b := cmpT_anti c.1 x.1
          omega
        refine ⟨List.pairwise_cons.2 ⟨fun q hq => ?_, ih.1⟩, fun p hp => ?_⟩
        · obtain ⟨p, hp, e⟩ := absorb_mem xs x q hq
          rw [e]
          rcases List.mem_cons.1 hp with rfl | hp
          · exact hlt
          · have a := (List.pairwise_cons.1 h2).1 p hp
            have b := cmpT_anti x.1 p.1
            by_cases e0 : cmpT x.1 p.1 = 0
            · rw [← cmpT_zero _ _ e0]; exact hlt
            · exact cmpT_trans hlt (by omega)
        · rcases List.mem_cons.1 hp with rfl | hp
          · exact h0
          · exact ih.2 p hp
theorem gathS_norm {ps : List Pw} (h : AscW ps) : NormP (gathS ps) := by
  cases ps with
  | nil => exact ⟨List.Pairwise.nil, fun p hp => by simp [gathS] at hp⟩
  | cons x xs => exact absorb_norm xs x h
theorem pwr_none {ps : List Pw} {t : Tm} (h : ∀ p ∈ ps, ¬ p.1 = t) : pwr ps t = 0 := by
  induction ps with
  | nil => rfl
  | cons p ps ih => rw [pwr, if_neg (fun e => h p (List.mem_cons_self ..) (cmpT_zero _ _ e)), ih (fun q hq => h q (List.mem_cons_of_mem _ hq))]; rfl
theorem norm_ext : ∀ {ps qs : List Pw}, NormP ps → NormP qs → (∀ t, pwr ps t = pwr qs t) → ps = qs
  | [], [], _, _, _ => rfl
  | [], q :: qs, _, hq, h => by
    have := h q.1
    rw [pwr, pwr, if_pos (cmpT_self _), pwr_none (ps := qs) (fun x hx e => by have := (List.pairwise_cons.1 hq.1).1 x hx; rw [e, cmpT_self] at this; omega)] at this
    exact absurd (by omega) (hq.2 q (List.mem_cons_self ..))
  | p :: ps, [], hp, _, h => by
    have := h p.1
    rw [pwr, pwr, if_pos (cmpT_self _), pwr_none (ps := ps) (fun x hx e => by have := (List.pairwise_cons.1 hp.1).1 x hx; rw [e, cmpT_self] at this; omega)] at this
    exact absurd (by omega) (hp.2 p (List.mem_cons_self ..))
  | p :: ps, q :: qs, hp, hq, h => by
    obtain ⟨p1, p2⟩ := List.pairwise_cons.1 hp.1
    obtain ⟨q1, q2⟩ := List.pairwise_cons.1 hq.1
    have hpp : pwr ps p.1 = 0 := pwr_none fun x hx e => by have := p1 x hx; rw [e, cmpT_self] at this; omega
    have hqq : pwr qs q.1 = 0 := pwr_none fun x hx e => by have := q1 x hx; rw [e, cmpT_self] at this; omega
    have hp0 := hp.2 p (List.mem_cons_self ..)
    have hq0 := hq.2 q (List.mem_cons_self ..)
    have e1 : cmpT p.1 q.1 = 0 := by
      rcases Int.lt_trichotomy (cmpT p.1 q.1) 0 with hlt | he | hgt
      · have := h p.1
        have hn : pwr qs p.1 = 0 := pwr_none fun x hx e => by
          have a := q1 x hx
          rw [e] at a
          have := cmpT_trans hlt a
          rw [cmpT_self] at this; omega
        rw [pwr, pwr, if_pos (cmpT_self _), hpp, hn, if_neg (by rw [cmpT_anti]; omega)] at this
        omega
      · exact he
      · have := h q.1
        have hlt : cmpT q.1 p.1 < 0 := by rw [cmpT_anti]; omega
        have hn : pwr ps q.1 = 0 := pwr_none fun x hx e => by
          have a := p1 x hx
          rw [e] at a
          have := cmpT_trans hlt a
          rw [cmpT_self] at this; omega
        rw [pwr, pwr, if_pos (cmpT_self q.1), hqq, hn, if_neg (by omega)] at this
        omega
    have e2 := cmpT_zero _ _ e1
    have e3 : p.2 = q.2 := by
      have := h p.1
      rw [pwr, pwr, if_pos (cmpT_self _), hpp, e2, if_pos (cmpT_self _), hqq] at this
      omega
    have e4 : ps = qs := norm_ext ⟨p2, fun x hx => hp.2 x (List.mem_cons_of_mem _ hx)⟩ ⟨q2, fun x hx => hq.2 x (List.mem_cons_of_mem _ hx)⟩ fun t => by
      have := h t
      rw [pwr, pwr, e2, e3] at this
      omega
    rw [e4]
    exact congrArg (· :: qs) (Prod.ext e2 e3)
theorem pwr_abs : ∀ (ps : List Pw) (t : Tm), (pwr ps t).natAbs ≤ absS ps
  | [], t => by simp [pwr, absS]
  | p :: ps, t => by
    have := pwr_abs ps t
    rw [pwr, absS]
    split <;> omega
theorem norm_get {ps : List Pw} (h : NormP ps) {p : Pw} (hp : p ∈ ps) : pwr ps p.1 = p.2 := by
  induction ps with
  | nil => simp at hp
  | cons x xs ih =>
    obtain ⟨h1, h2⟩ := List.pairwise_cons.1 h.1
    rw [pwr]
    rcases List.mem_cons.1 hp with rfl | hp
    · rw [if_pos (cmpT_self _), pwr_none (fun y hy e => by have := h1 y hy; rw [e, cmpT_self] at this; omega)]; omega
    · rw [ih ⟨h2, fun y hy => h.2 y (List.mem_cons_of_mem _ hy)⟩ hp, if_neg (by have := h1 p hp; omega)]; omega
structure GR (H g cap n : Nat) (S : Nat → Prop) (w0 : World) (K R : List Pw) (i : Nat) (wr : World) : Prop where
  below : Below H w0 wr
  same : ∀ b, b < w0.heap.size → b ≠ g → wr.heap[b]? = w0.heap[b]?
  row : ∃ cs mid ds, wr.ownsRow H 145 5 (.slice (some ⟨g, 0, none⟩) n cap) n (cs ++ (mid ++ ds)) ∧ KP S wr K cs ∧ KP S wr R ds ∧ K.length ≤ i ∧ mid.length = (i - K.length) * 5 ∧ R.length + i = n
theorem GR.lt {H g cap n i : Nat} {S : Nat → Prop} {w0 wr : World} {K R : List Pw} (h : GR H g cap n S w0 K R i wr) : g < wr.heap.size := by
  obtain ⟨cs, mid, ds, ho, _⟩ := h.row
  exact (ho.lt g rfl).2
theorem GR.ext {H g cap n i : Nat} {S : Nat → Prop} {w0 wr W : World} {K R : List Pw} (h : GR H g cap n S w0 K R i wr) (x : Ext wr W) (hS : ∀ b, S b → b < w0.heap.size ∧ b ≠ g) : GR H g cap n S w0 K R i W := by
  obtain ⟨cs, mid, ds, ho, h1, h2, h3⟩ := h.row
  have hw := h.below.size
  have hH : H ≤ wr.heap.size := Nat.le_of_lt (Nat.lt_of_le_of_lt (ho.lt g rfl).1 (ho.lt g rfl).2)
  exact ⟨h.below.trans (x.mono hH), fun b hb hne => (x.block b (by omega)).trans (h.same b hb hne), cs, mid, ds, own_heap ho (fun q hq => x.block q (ho.lt q hq).2), KP_carry (fun b hb => x.block b (by have := (hS b hb).1; omega)) (fun _ h => h) h1, KP_carry (fun b hb => x.block b (by have := (hS b hb).1; omega)) (fun _ h => h) h2, h3⟩
theorem GR.head {H g cap n i : Nat} {S : Nat → Prop} {w0 wr : World} {K R : List Pw} {x : Pw} (h : GR H g cap n S w0 K (x :: R) i wr) :
    ∃ c0 c1 c2 c3, wr.cell? ⟨g, i * 5, none⟩ = some c0 ∧ wr.cell? ⟨g, i * 5 + 1, none⟩ = some c1 ∧ wr.cell? ⟨g, i * 5 + 2, none⟩ = some c2 ∧ wr.cell? ⟨g, i * 5 + 3, none⟩ = some c3 ∧ wr.cell? ⟨g, i * 5 + 4, none⟩ = some (.int .i64 x.2) ∧ IsIn S wr x.1 c0 c1 c2 c3 ∧ i64ok x.2 ∧ i < n ∧ GR H g cap n S w0 K R (i + 1) wr := by
  obtain ⟨cs, mid, ds, ho, h1, h2, h3, h4, h5⟩ := h.row
  obtain ⟨c0, c1, c2, c3, r, rfl, hI, hn, hr⟩ := h2
  have hc := KP_len h1
  have hl := ho.1
  simp only [List.length_append, List.length_cons] at hl
  have hp : cs.length + mid.length = i * 5 := by rw [hc, h4, ← Nat.add_mul]; congr 1; omega
  have hg : ∀ j v, (c0 :: c1 :: c2 :: c3 :: Value.int .i64 x.2 :: r)[j]? = some v → wr.cell? ⟨g, i * 5 + j, none⟩ = some v := fun j v hv => by
    have hj : j < (c0 :: c1 :: c2 :: c3 :: Value.int .i64 x.2 :: r).length := by
      rcases Nat.lt_or_ge j (c0 :: c1 :: c2 :: c3 :: Value.int .i64 x.2 :: r).length with h | h
      · exact h
      · rw [List.getElem?_eq_none h] at hv; cases hv
    simp only [List.length_cons] at hj
    rw [ho.cellAt _ (by omega), ← List.append_assoc, List.getElem?_append_right (by rw [List.length_append]; omega), List.length_append, hp, Nat.add_sub_cancel_left]
    exact hv
  simp only [List.length_cons] at h5
  refine ⟨c0, c1, c2, c3, hg 0 _ rfl, hg 1 _ rfl, hg 2 _ rfl, hg 3 _ rfl, hg 4 _ rfl, hI, hn, by omega, h.below, h.same, cs, mid ++ [c0, c1, c2, c3, .int .i64 x.2], r, ?_, h1, hr, by omega, ?_, by omega⟩
  · rw [List.append_assoc]; exact ho
  · rw [List.length_append, h4]
    simp only [List.length_cons, List.length_nil]
    have : i + 1 - K.length = (i - K.length) + 1 := by omega
    rw [this, Nat.add_mul]
theorem GR.room {H g cap n i : Nat} {S : Nat → Prop} {w0 wr : World} {K R : List Pw} (h : GR H g cap n S w0 K R i wr) (hk : K.length < i) :
    (∃ z0 z1 z2 z3 z4, wr.cell? ⟨g, K.length * 5, none⟩ = some z0 ∧ wr.cell? ⟨g, K.length * 5 + 1, none⟩ = some z1 ∧ wr.cell? ⟨g, K.length * 5 + 2, none⟩ = some z2 ∧ wr.cell? ⟨g, K.length * 5 + 3, none⟩ = some z3 ∧ wr.cell? ⟨g, K.length * 5 + 4, none⟩ = some z4) ∧ (∀ q, wr.frozen? ⟨g, q, none⟩ = false) ∧ K.length < n := by
  obtain ⟨cs, mid, ds, ho, h1, h2, h3, h4, h5⟩ := h.row
  have hl := ho.1
  have hz : ∀ q, q < 5 → ∃ z, wr.cell? ⟨g, K.length * 5 + q, none⟩ = some z := fun q hq => by
    rw [ho.cellAt _ (by omega)]
    exact ⟨_, List.getElem?_eq_getElem (by omega)⟩
  obtain ⟨z0, e0⟩ := hz 0 (by omega)
  obtain ⟨z1, e1⟩ := hz 1 (by omega)
  obtain ⟨z2, e2⟩ := hz 2 (by omega)
  obtain ⟨z3, e3⟩ := hz 3 (by omega)
  obtain ⟨z4, e4⟩ := hz 4 (by omega)
  exact ⟨⟨z0, z1, z2, z3, z4, e0, e1, e2, e3, e4⟩, fun q => ho.frozenAt q, by omega⟩
theorem GR.put {H g cap n i : Nat} {S : Nat → Prop} {w0 wr : World} {K R : List Pw} (h : GR H g cap n S w0 K R i wr) (hk : K.length < i) (hS : ∀ b, S b → b < w0.heap.size ∧ b ≠ g) {t : Tm} {N : Int} {c0 c1 c2 c3 : Value} (hI : IsIn S wr t c0 c1 c2 c3) (hn : i64ok N) :
    GR H g cap n S w0 (K ++ [(t, N)]) R i (put5 wr g (K.length * 5) c0 c1 c2 c3 (.int .i64 N)) := by
  obtain ⟨cs, mid, ds, ho, h1, h2, h3, h4, h5⟩ := h.row
  have hp : ∀ q, q ≠ g → (put5 wr g (K.length * 5) c0 c1 c2 c3 (.int .i64 N)).heap[q]? = wr.heap[q]? := fun q hq => put5_other _ _ _ _ _ _ _ _ _ hq
  have hH := (ho.lt g rfl).1
  have hc := KP_len h1
  have hm : 5 ≤ mid.length := by rw [h4]; have : 1 ≤ i - K.length := by omega
                                 omega
  refine ⟨put5_below h.below hH, fun b hb hne => (hp b hne).trans (h.same b hb hne), cs ++ [c0, c1, c2, c3, .int .i64 N], mid.drop 5, ds, ?_, ?_, KP_carry (fun b hb => hp b (hS b hb).2) (fun _ h => h) h2, by rw [List.length_append]; simp only [List.length_cons, List.length_nil]; omega, ?_, h5⟩
  · have := stored5 (c0 := c0) (c1 := c1) (c2 := c2) (c3 := c3) (c4 := .int .i64 N) ho hc (by omega)
    rw [List.drop_append_of_le_length hm] at this
    exact this
  · exact KP_app (KP_carry (fun b hb => hp b (hS b hb).2) (fun _ h => h) h1) (KP_one (IsIn_carry (fun b hb => hp b (hS b hb).2) (fun _ h => h) _ _ _ _ _ hI) hn)
  · rw [List.length_drop, h4, List.length_append]
    simp only [List.length_cons, List.length_nil]
    have : i - K.length = (i - (K.length + 1)) + 1 := by omega
    omega
end Go.Proofs.YtbcpnepjojppaaaGreatDoor
namespace Go.Proofs.YtbcpnepjojppaaaGreatDoor
open Go.RowKit Go.Shelf
theorem setOtherE {w : World} {a b : Addr} {v : Value} (h : a ≠ b) : (w.setCell a v).cell? b = w.cell? b := by
  apply World.cell?_setCell_other; exact h
theorem setSameE {w : World} {a : Addr} {v u : Value} (h : w.cell? a = some u) : (w.setCell a v).cell? a = some v := by
  apply World.cell?_setCell_same; exact h
theorem absorb_same {T : Tm} {M : Int} {x : Pw} {R : List Pw} (h : cmpT T x.1 = 0) : absorb (T, M) (x :: R) = absorb (T, M + x.2) R := by rw [absorb, if_pos h]
def SumAt (W : World) (q : Nat) (k : Int) (nm : ByteArray) (s : Int) (xa : Option Addr) (l c : Nat) (M : Int) : Prop :=
  ((W.cell? ⟨q, 0, none⟩ = some (.int .i64 k) ∧ W.cell? ⟨q, 1, none⟩ = some (.string nm) ∧ W.cell? ⟨q, 2, none⟩ = some (.int .i64 s) ∧ W.cell? ⟨q, 3, none⟩ = some (.slice xa l c)) ∧ W.cell? ⟨q, 4, none⟩ = some (.int .i64 M)) ∧ W.frozen? ⟨q, 4, none⟩ = false ∧ q < W.heap.size
theorem SumAt.ext {w W : World} {q : Nat} {k : Int} {nm : ByteArray} {s : Int} {xa : Option Addr} {l c : Nat} {M : Int} (h : SumAt w q k nm s xa l c M) (x : Ext w W) : SumAt W q k nm s xa l c M :=
  ⟨⟨⟨keep_below x _ _ h.1.1.1, keep_below x _ _ h.1.1.2.1, keep_below x _ _ h.1.1.2.2.1, keep_below x _ _ h.1.1.2.2.2⟩, keep_below x _ _ h.1.2⟩, (Below.frozen (p := ⟨q, 4, none⟩) x h.2.2).trans h.2.1, Nat.lt_of_lt_of_le h.2.2 x.size⟩
theorem SumAt.set {w : World} {q : Nat} {k : Int} {nm : ByteArray} {s : Int} {xa : Option Addr} {l c : Nat} {M N : Int} (h : SumAt w q k nm s xa l c M) : SumAt (w.setCell ⟨q, 4, none⟩ (.int .i64 N)) q k nm s xa l c N := by
  have ho : ∀ i v, i ≠ 4 → w.cell? ⟨q, i, none⟩ = some v → (w.setCell ⟨q, 4, none⟩ (.int .i64 N)).cell? ⟨q, i, none⟩ = some v := fun i v hi hv => by rw [setOtherE (fun e => hi (by simp only [Addr.mk.injEq] at e; omega))]; exact hv
  exact ⟨⟨⟨ho _ _ (by omega) h.1.1.1, ho _ _ (by omega) h.1.1.2.1, ho _ _ (by omega) h.1.1.2.2.1, ho _ _ (by omega) h.1.1.2.2.2⟩, setSameE h.1.2⟩, by rw [World.frozen?_setCell]; exact h.2.1, by rw [World.size_setCell]; exact h.2.2⟩
theorem SumAt.new (w : World) (k : Int) (nm : ByteArray) (s : Int) (xa : Option Addr) (l c : Nat) (M : Int) : SumAt (w.alloc (.cells #[.int .i64 k, .string nm, .int .i64 s, .slice xa l c, .int .i64 M] 145)) w.heap.size k nm s xa l c M := by
  have h := heap_alloc_new w (.cells #[.int .i64 k, .string nm, .int .i64 s, .slice xa l c, .int .i64 M] 145)
  refine ⟨⟨⟨?_, ?_, ?_, ?_⟩, ?_⟩, ?_, by rw [World.size_alloc]; omega⟩
  · unfold World.cell?; rw [h]; rfl
  · unfold World.cell?; rw [h]; rfl
  · unfold World.cell?; rw [h]; rfl
  · unfold World.cell?; rw [h]; rfl
  · unfold World.cell?; rw [h]; rfl
  · unfold World.frozen?; rw [h]; simp
theorem GR.box {H g cap n i : Nat} {S : Nat → Prop} {w0 wr : World} {K R : List Pw} {q p : Nat} {v : Value} (h : GR H g cap n S w0 K R i wr) (hq : w0.heap.size ≤ q) (hg : g < w0.heap.size) (hHw : H ≤ w0.heap.size) (hS : ∀ b, S b → b < w0.heap.size ∧ b ≠ g) : GR H g cap n S w0 K R i (wr.setCell ⟨q, p, none⟩ v) := by
  obtain ⟨cs, mid, ds, ho, h1, h2, h3⟩ := h.row
  have hk : ∀ b, b < w0.heap.size → (wr.setCell ⟨q, p, none⟩ v).heap[b]? = wr.heap[b]? := fun b hb => Below.heap_setCell _ _ _ _ (by simp only [ne_eq]; omega)
  exact ⟨h.below.setCell (p := ⟨q, p, none⟩) (by show H ≤ q; omega) v, fun b hb hne => (hk b hb).trans (h.same b hb hne), cs, mid, ds, own_heap ho (fun b hb => hk b (by simp only [Value.ownBlock, Option.some.injEq] at hb; omega)), KP_carry (fun b hb => hk b (hS b hb).1) (fun _ h => h) h1, KP_carry (fun b hb => hk b (hS b hb).1) (fun _ h => h) h2, h3⟩
def GathPost (H : Nat) (S : Nat → Prop) (w : World) (xa : Option Addr) (cap : Nat) (ps : List Pw) (e : Ending) (w' : World) : Prop :=
  ∃ qs, e = .returned (.slice xa qs.length cap) ∧ OwnP H S w' qs (.slice xa qs.length cap) ∧ qs.length ≤ ps.length ∧ NormP qs ∧ (∀ t, pwr qs t = pwr ps t) ∧ (∀ q ∈ qs, size q.1 ≤ 1073741824) ∧ Below H w w'
theorem absorb_len : ∀ (xs : List Pw) (c : Pw), (absorb c xs).length ≤ xs.length + 1
  | [], c => by rw [absorb]; split <;> simp
  | x :: xs, c => by
    have h1 := absorb_len xs (c.1, c.2 + x.2)
    have h2 := absorb_len xs x
    rw [absorb]
    split
    · simp only [List.length_cons]; omega
    · split
      · simp only [List.length_cons]; omega
      · simp only [List.length_cons]; omega
theorem gathS_len (ps : List Pw) : (gathS ps).length ≤ ps.length := by
  cases ps with
  | nil => exact Nat.le_refl _
  | cons x xs => exact absorb_len xs x
theorem GR.done {H g cap n : Nat} {S : Nat → Prop} {w0 wr : World} {K : List Pw} (h : GR H g cap n S w0 K [] n wr) : OwnP H S wr K (.slice (some ⟨g, 0, none⟩) K.length cap) := by
  obtain ⟨cs, mid, ds, ho, h1, h2, h3, h4, h5⟩ := h.row
  have hc := KP_len h1
  rcases ho.2 with ⟨e, _⟩ | ⟨g', cap', cur, e, hH, hh, hcap, hmax, hsz, htk⟩
  · simp at e
  · simp only [Value.slice.injEq, Option.some.injEq, Addr.mk.injEq, true_and, and_true] at e
    obtain ⟨rfl, rfl⟩ := e
    refine ⟨cs, ⟨hc, Or.inr ⟨g, cap, cur, rfl, hH, hh, by omega, hmax, hsz, ?_⟩⟩, h1⟩
    have : List.take (K.length * 5) (List.take (n * 5) cur.toList) = cs := by
      rw [htk, ← hc, List.take_left']
      rfl
    rw [List.take_take, Nat.min_eq_left (Nat.mul_le_mul_right 5 h3)] at this
    exact this
set_option maxHeartbeats 12800000 in
set_option maxRecDepth 100000 in
theorem gathered_pos {H g n cap : Nat} {S : Nat → Prop} {ps : List Pw} {w : World} (hown : OwnP H S w ps (.slice (some ⟨g, 0, none⟩) n cap)) (hnp : n = ps.length) (hS : ∀ b, S b → b < w.heap.size ∧ b ≠ g) (hHw : H ≤ w.heap.size) (hn : 0 < n) (hsz : SzP 1073741824 ps) (hlt : n < 1073741824) (habs : absS ps ≤ 4611686018427387904) :
    Calls Tryz.prog 145 #[.slice (some ⟨g, 0, none⟩) n cap] w (GathPost H S w (some ⟨g, 0, none⟩) cap ps) := by
  obtain ⟨cs, ho, hK⟩ := hown
  rw [← hnp] at ho
  have hgl := (ho.lt g rfl).2
  have HST := Lib.hid (sort_powers ho hK hS hHw hn hsz hlt)
  have HSb := Lib.hid hS
  have HHw := Lib.hid hHw
  have HSZ := Lib.hid hsz
  have HNP := Lib.hid hnp
  have HAB := Lib.hid habs
  have HGL := Lib.hid hgl
  clear ho hK hS hHw hn hsz habs hnp hgl
  go_enter Tryz.func145, Tryz.ntmps145
  go_wp2_with (go_at_call 181; refine (HST.out).mono ?_; rintro e w5 ⟨he, qs, vs, ho, hK, hp, ha, hB, hsz5, hsm⟩; subst he; have HO5 := Lib.hid ho; have HK5 := Lib.hid hK; have HP := Lib.hid hp; have HA := Lib.hid ha; have HB5 := Lib.hid hB; have HSM := Lib.hid hsm; have HS5 := Lib.hid hsz5; clear ho hK hp ha hB hsz5 hsm)
  have HQL : Hid (qs.length = n) := by show _ = _; rw [HP.out.length_eq, HNP.out]
  have HQZ : Hid (∀ q ∈ qs, size q.1 ≤ 1073741824) := by show ∀ _, _; exact fun q hq => HSZ.out q (HP.out.mem_iff.1 hq)
  have HQA : Hid (absS qs ≤ 4611686018427387904) := by show _ ≤ _; rw [absS_perm HP.out]; exact HAB.out
  have HSb5 : Hid (∀ b, S b → b < w5.heap.size ∧ b ≠ g) := fun b hb => ⟨Nat.lt_of_lt_of_le (HSb.out b hb).1 HS5.out, (HSb.out b hb).2⟩
  have HGL5 : Hid (g < w5.heap.size) := Nat.lt_of_lt_of_le HGL.out HS5.out
  have HHw5 : Hid (H ≤ w5.heap.size) := Nat.le_trans HHw.out HS5.out
  have HR0 : Hid (GR H g cap n S w5 [] qs 0 w5) := ⟨Below.refl _ _, fun _ _ _ => rfl, [], [], vs, HO5.out, rfl, HK5.out, Nat.le_refl _, by simp, HQL.out⟩
  have HEND : Hid (∀ W (K : List Pw), GR H g cap n S w5 K [] n W → gathS qs = K → GathPost H S w (some ⟨g, 0, none⟩) cap ps (.returned (.slice (some ⟨g, 0, none⟩) K.length cap)) W) := by
    show ∀ _, _
    intro W K hg he
    have hnm := gathS_norm HA.out
    have hln := gathS_len qs
    rw [he] at hnm hln
    refine ⟨K, rfl, hg.done, by rw [← HP.out.length_eq]; exact hln, hnm, fun t => by rw [← he, gathS_pwr]; exact pwr_perm HP.out t, fun q hq => ?_, HB5.out.trans hg.below⟩
    rw [← he] at hq
    cases hqs : qs with
    | nil => rw [hqs] at hq; simp [gathS] at hq
    | cons x xs =>
      rw [hqs] at hq
      obtain ⟨p, hp, e⟩ := absorb_mem xs x q hq
      rw [e]; exact HQZ.out p (by rw [hqs]; exact hp)
  clear HST HO5 HK5 HP HA HSM
  go_loopw [3, 4] (fun kk i wr => ∃ (K : List Pw) (j : Nat), j ≤ n ∧ kk = .int .i64 K.length ∧ i = .int .i64 j ∧ Hid (gathS qs = K ++ gathS (qs.drop j)) ∧ GR H g cap n S w5 K (qs.drop j) j wr) (fun _ i _ => n - (intOf i).toNat)
  case atStart => exact ⟨[], 0, Nat.zero_le _, rfl, rfl, rfl, HR0.out⟩
  case round =>
    obtain ⟨K, j, hj, rfl, rfl, HE, hr⟩ := hrel
    have HR := Lib.hid hr
    by_cases hjn : j < n
    rotate_left
    · have hnil : qs.drop j = [] := List.drop_eq_nil_of_le (by have := HQL.out; omega)
      have hjl : j = n := by omega
      have HQ : Hid (GathPost H S w (some ⟨g, 0, none⟩) cap ps (.returned (.slice (some ⟨g, 0, none⟩) K.length cap)) wr) := by
        show GathPost _ _ _ _ _ _ _ _
        refine HEND.out wr K ?_ ?_
        · rw [hnil, hjl] at hr; exact hr
        · rw [HE.out, hnil]; exact List.append_nil _
      have hkn : K.length ≤ n := by obtain ⟨_, _, _, _, _, _, h3, _⟩ := hr.row; omega
      have hnc : n ≤ cap := by obtain ⟨_, _, _, ho, _⟩ := hr.row; rcases ho.2 with ⟨e, _⟩ | ⟨_, _, _, e, _, _, h, _⟩ <;> simp at e; omega
      clear hr hnil
      go_wp2_with fail
      go_ret
      exact HQ.out
    obtain ⟨w1, hw1⟩ : ∃ v : World, v = wr := ⟨_, rfl⟩
    subst hw1
    have hjq : j < qs.length := by rw [HQL.out]; exact hjn
    have hdr := List.drop_eq_getElem_cons hjq
    rw [hdr] at hr
    obtain ⟨c0, c1, c2, c3, g0, g1, g2, g3, g4, hI, hno, _, hr1⟩ := hr.head
    have hkj : K.length ≤ j := by obtain ⟨_, _, _, _, _, _, h3, _⟩ := hr.row; exact h3
    obtain ⟨k, nm, s, ya, yl, yc, rfl, rfl, rfl, rfl⟩ := IsIn_form hI
    have HI := Lib.hid hI
    have HST : Hid (gathS (qs.drop j) = absorb (qs[j].1, qs[j].2) (qs.drop (j + 1))) := by show _ = _; rw [hdr]; rfl
    have hab : qs[j].2.natAbs + absS (qs.drop (j + 1)) ≤ 4611686018427387904 := by rw [← absS_drop qs j hjq]; exact Nat.le_trans (absS_drop_le qs j) HQA.out
    have hzT := HQZ.out _ (List.getElem_mem hjq)
    obtain ⟨N0, hN0⟩ : ∃ N0, qs[j].2 = N0 := ⟨_, rfl⟩
    rw [hN0] at g4 HST hab hno
    obtain ⟨T, hT⟩ : ∃ T, qs[j].1 = T := ⟨_, rfl⟩
    rw [hT] at HST HI hzT
    have HIS := Lib.hid (IsIn_Is _ _ _ _ _ HI.out)
    have hwl := hr.lt
    have HNW := Lib.hid (SumAt.new w1 k nm s ya yl yc N0)
    have HN1 := Lib.hid (GR.ext hr1 ((Ext.refl w1).alloc (.cells #[.int .i64 k, .string nm, .int .i64 s, .slice ya yl yc, .int .i64 N0] 145)) HSb5.out)
    have HXW : Hid (Ext w1 (w1.alloc (.cells #[.int .i64 k, .string nm, .int .i64 s, .slice ya yl yc, .int .i64 N0] 145))) := (Ext.refl w1).alloc _
    have HWS : Hid (w5.heap.size ≤ w1.heap.size) := hr.below.size
    have i1 : (0 : Int) ≤ (j : Int) := by omega
    have i2 : (j : Int) < (n : Int) := by omega
    clear hr hr1 hdr hI hN0 hT hjq
    go_wp2_with fail
    obtain ⟨q, hq⟩ : ∃ q, w1.heap.size = q := ⟨_, rfl⟩
    have HQW : Hid (w1.heap.size = q) := hq
    rw [hq] at HNW ⊢
    clear hq g0 g1 g2 g3 g4
    generalize w1.alloc (.cells #[.int .i64 k, .string nm, .int .i64 s, .slice ya yl yc, .int .i64 N0] 145) = wn at HNW HN1 HXW ⊢
    go_loopw [4] (fun i wr => ∃ (j2 : Nat) (M : Int), j + 1 ≤ j2 ∧ j2 ≤ n ∧ i = .int .i64 j2 ∧ Hid (gathS (qs.drop j) = absorb (T, M) (qs.drop j2)) ∧ Hid (M.natAbs + absS (qs.drop j2) ≤ 4611686018427387904) ∧ SumAt wr q k nm s ya yl yc M ∧ GR H g cap n S w5 K (qs.drop j2) j2 wr) (fun i _ => n - (intOf i).toNat)
    case atStart => exact ⟨j + 1, N0, Nat.le_refl _, by omega, by go_num, HST, hab, HNW.out, HN1.out⟩
    case round =>
      obtain ⟨j2, M, hj1, hj2, rfl, HEQ, HMA, hU, hG⟩ := hrel
      have HU := Lib.hid hU
      have HG := Lib.hid hG
      have HMO : Hid (i64ok M) := by show i64ok M; unfold i64ok; have := HMA.out; omega
      by_cases hjn2 : j2 < n
      rotate_left
      · have hnil : qs.drop j2 = [] := List.drop_eq_nil_of_le (by have := HQL.out; omega)
        have HX : Hid (gathS (qs.drop j) = (if M = 0 then [] else [(T, M)]) ++ gathS (qs.drop j2)) := by
          show _ = _
          rw [HEQ.out, hnil, absorb, gathS, List.append_nil]
        have q5 : decide ((j2 : Int) < (n : Int)) = false := decide_eq_false (by omega)
        have HU6 := HU
        have HG6 := HG
        obtain ⟨⟨⟨x0, x1, x2, x3⟩, x4⟩, _⟩ := hU
        clear hnil hG
        go_upto_region 7 with fail
        go_quiet (fail)
        by_cases hM0 : M = 0
        · have q9 : (M != 0) = false := by simp [hM0]
          have HE3 : Hid (gathS qs = K ++ gathS (qs.drop j2)) := by show _ = _; rw [HE.out, HX.out, if_pos hM0]; rfl
          clear hM0
          go_wp2_with fail
          go_roundw
          case rel => exact ⟨K, j2, by omega, rfl, rfl, HE3, HG6.out.ext (below_drewN (Below.refl _ _) _) HSb5.out⟩
          case measure => simp [intOf]; omega
        · have q9 : (M != 0) = true := by rw [bne_iff_ne]; exact hM0
          have HE3 : Hid (gathS qs = (K ++ [(T, M)]) ++ gathS (qs.drop j2)) := by show _ = _; rw [HE.out, HX.out, if_neg hM0, List.append_assoc]
          obtain ⟨⟨z0, z1, z2, z3, z4, y0, y1, y2, y3, y4⟩, hz, hkn⟩ := HG6.out.room (by omega)
          have v0 := hz (K.length * 5)
          have v1 := hz (K.length * 5 + 1)
          have v2 := hz (K.length * 5 + 2)
          have v3 := hz (K.length * 5 + 3)
          have v4 := hz (K.length * 5 + 4)
          have hIT := IsIn_carry (S' := S) (fun b hb => (HG6.out.same b (HSb5.out b hb).1 (HSb5.out b hb).2).trans (HR.out.same b (HSb5.out b hb).1 (HSb5.out b hb).2).symm) (fun _ h => h) _ _ _ _ _ HI.out
          have HP6 := Lib.hid (fun W (x : Ext _ W) => (HG6.out.ext x HSb5.out).put (t := T) (N := M) (by omega) HSb5.out (IsIn_carry (S' := S) (fun b hb => ((HG6.out.ext x HSb5.out).same b (HSb5.out b hb).1 (HSb5.out b hb).2).trans (HG6.out.same b (HSb5.out b hb).1 (HSb5.out b hb).2).symm) (fun _ h => h) _ _ _ _ _ hIT) HMO.out)
          obtain ⟨⟨⟨x0, x1, x2, x3⟩, x4⟩, _⟩ := HU6.out
          have k1 : (0 : Int) ≤ (K.length : Int) := by omega
          have k2 : (K.length : Int) < (n : Int) := by omega
          clear hM0 hz hIT
          go_wp2_with fail
          go_roundw
          case rel => exact ⟨K ++ [(T, M)], j2, by omega, by rw [List.length_append]; go_num, rfl, HE3, HP6.out _ (below_drewN (Below.refl _ _) _)⟩
          case measure => simp [intOf]; omega
      have hjq2 : j2 < qs.length := by rw [HQL.out]; exact hjn2
      have hdr2 := List.drop_eq_getElem_cons hjq2
      rw [hdr2] at hG
      obtain ⟨d0, d1, d2, d3, b0, b1, b2, b3, b4, hJ, hno2, _, hG1⟩ := hG.head
      obtain ⟨k3, n3, s3, ya3, yl3, yc3, rfl, rfl, rfl, rfl⟩ := IsIn_form hJ
      have hIv : Is wr T (.int .i64 k) (.string nm) (.int .i64 s) (.slice ya yl yc) := IsIn_Is _ _ _ _ _ (IsIn_carry (S' := S) (fun b hb => (HG.out.same b (HSb5.out b hb).1 (HSb5.out b hb).2).trans (HR.out.same b (HSb5.out b hb).1 (HSb5.out b hb).2).symm) (fun _ h => h) _ _ _ _ _ HI.out)
      have hJv := IsIn_Is _ _ _ _ _ hJ
      have hzJ := HQZ.out _ (List.getElem_mem hjq2)
      have hab2 := absS_drop qs j2 hjq2
      have hEQ2 := HEQ.out
      rw [hdr2] at hEQ2
      have hG2 : gathS (qs.drop j2) = absorb qs[j2] (qs.drop (j2 + 1)) := by rw [hdr2]; rfl
      obtain ⟨X, hX⟩ : ∃ X, qs[j2] = X := ⟨_, rfl⟩
      rw [hX] at hJ b4 hno2 hJv hzJ hab2 hEQ2 hG2
      obtain ⟨U, N2⟩ := X
      simp only at hJ b4 hno2 hJv hzJ hab2 hEQ2 hG2
      have HCM := Lib.hid (fun W (x : Ext wr W) => cfac_any T U k s nm ya yl yc M k3 s3 n3 ya3 yl3 yc3 N2 W hzT hzJ (Is_below (w' := W) hIv x) (Is_below (w' := W) hJv x))
      have HCr : Hid (∀ W, Ext wr W → (((W.cell? ⟨q, 0, none⟩ = some (.int .i64 k) ∧ W.cell? ⟨q, 1, none⟩ = some (.string nm) ∧ W.cell? ⟨q, 2, none⟩ = some (.int .i64 s) ∧ W.cell? ⟨q, 3, none⟩ = some (.slice ya yl yc)) ∧ W.cell? ⟨q, 4, none⟩ = some (.int .i64 M)) ∧ (W.cell? ⟨g, j2 * 5, none⟩ = some (.int .i64 k3) ∧ W.cell? ⟨g, j2 * 5 + 1, none⟩ = some (.string n3) ∧ W.cell? ⟨g, j2 * 5 + 2, none⟩ = some (.int .i64 s3) ∧ W.cell? ⟨g, j2 * 5 + 3, none⟩ = some (.slice ya3 yl3 yc3)) ∧ W.cell? ⟨g, j2 * 5 + 4, none⟩ = some (.int .i64 N2))) := fun W x => ⟨(HU.out.ext x).1, ⟨keep_below x _ _ b0, keep_below x _ _ b1, keep_below x _ _ b2, keep_below x _ _ b3⟩, keep_below x _ _ b4⟩
      have HG1 := Lib.hid hG1
      obtain ⟨⟨⟨x0, x1, x2, x3⟩, x4⟩, _⟩ := hU
      have q5 : decide ((j2 : Int) < (n : Int)) = true := decide_eq_true (by omega)
      have i3 : (0 : Int) ≤ (j2 : Int) := by omega
      have i4 : (j2 : Int) < (n : Int) := by omega
      have hF0 : Ext wr wr.drew := (Ext.refl wr).drew
      have HUC : Hid (∀ c, cmpT T U = c → (c = 0 → absorb (T, M) ((U, N2) :: qs.drop (j2 + 1)) = absorb (T, M + N2) (qs.drop (j2 + 1))) ∧ (¬ c = 0 → absorb (T, M) ((U, N2) :: qs.drop (j2 + 1)) = (if M = 0 then [] else [(T, M)]) ++ absorb (U, N2) (qs.drop (j2 + 1)))) := by
        show ∀ _, _
        intro c hc
        refine ⟨fun h => absorb_same (x := (U, N2)) (by rw [hc]; exact h), fun h => ?_⟩
        rw [absorb, if_neg (by rw [hc]; exact h)]
        by_cases hm : M = 0
        · rw [if_pos hm, if_pos hm]; rfl
        · rw [if_neg hm, if_neg hm]; rfl
      have HEQ2 := Lib.hid hEQ2
      have HG2 := Lib.hid hG2
      have HAB2 := Lib.hid hab2
      obtain ⟨c, hc⟩ : ∃ c, cmpT T U = c := ⟨_, rfl⟩
      have HUC2 := Lib.hid (HUC.out c hc)
      rw [hc] at HCM
      clear hG hG1 hJ hIv hJv hdr2 hX hEQ2 hG2 hab2 hc HUC hzJ
      by_cases hz : c = 0
      · have q6 : decide (c = 0) = true := decide_eq_true hz
        have q7 : (c == 0) = true := by simp [hz]
        have HE2 : Hid (gathS (qs.drop j) = absorb (T, M + N2) (qs.drop (j2 + 1))) := by show _ = _; rw [HEQ2.out, HUC2.out.1 hz]
        have HM2 : Hid ((M + N2).natAbs + absS (qs.drop (j2 + 1)) ≤ 4611686018427387904) := by show _ ≤ _; have := HMA.out; have := HAB2.out; omega
        have hw : IntKind.i64.wrap (M + N2) = M + N2 := IntWalk.i64_in _ (by have := HM2.out; omega)
        have hw2 : -9223372036854775808 ≤ M + N2 := by have := HM2.out; omega
        have hw3 : M + N2 ≤ 9223372036854775807 := by have := HM2.out; omega
        clear hz HUC2
        go_upto_region 7 with fail
        go_region_held3 (fun W => (((W.cell? ⟨q, 0, none⟩ = some (.int .i64 k) ∧ W.cell? ⟨q, 1, none⟩ = some (.string nm) ∧ W.cell? ⟨q, 2, none⟩ = some (.int .i64 s) ∧ W.cell? ⟨q, 3, none⟩ = some (.slice ya yl yc)) ∧ W.cell? ⟨q, 4, none⟩ = some (.int .i64 M)) ∧ (W.cell? ⟨g, j2 * 5, none⟩ = some (.int .i64 k3) ∧ W.cell? ⟨g, j2 * 5 + 1, none⟩ = some (.string n3) ∧ W.cell? ⟨g, j2 * 5 + 2, none⟩ = some (.int .i64 s3) ∧ W.cell? ⟨g, j2 * 5 + 3, none⟩ = some (.slice ya3 yl3 yc3)) ∧ W.cell? ⟨g, j2 * 5 + 4, none⟩ = some (.int .i64 N2)))
          (first | exact HCr.out _ (by assumption) | go_keep)
          (first | (go_at_call 182; refine (HCM.out _ hF0).mono ?_; rintro e w6 ⟨he, hB⟩; subst he; have hF1 : Ext wr w6 := hF0.trans hB; clear hB))
        have HU6 := Lib.hid (HU.out.ext hF1)
        have HG6 := Lib.hid (HG1.out.ext hF1 HSb5.out)
        clear x0 x1 x2 x3 x4 b0 b1 b2 b3 b4
        obtain ⟨⟨_, x4⟩, _, b4⟩ := HCr.out _ hF1
        have x5 := HU6.out.2.1
        go_upto_region 9 with fail
        go_region
        go_wp2_with fail
        go_roundw
        case rel =>
          refine ⟨j2 + 1, M + N2, by omega, by omega, by go_num, HE2, HM2, ?_, ?_⟩
          · exact (SumAt.set (N := M + N2) HU6.out).ext (Ext.drew (Ext.refl _))
          · exact (HG6.out.box (p := 4) (v := .int .i64 (M + N2)) (by have := HWS.out; have := HQW.out; omega) HGL5.out HHw5.out HSb5.out).ext (Ext.drew (Ext.refl _)) HSb5.out
        case measure => simp [intOf]; omega
      · have q6 : decide (c = 0) = false := decide_eq_false hz
        have q7 : (c == 0) = false := by simp [hz]
        have HX : Hid (gathS (qs.drop j) = (if M = 0 then [] else [(T, M)]) ++ gathS (qs.drop j2)) := by show _ = _; rw [HEQ2.out, HUC2.out.2 hz, HG2.out]
        clear hz HUC2
        go_upto_region 7 with fail
        go_region_held3 (fun W => (((W.cell? ⟨q, 0, none⟩ = some (.int .i64 k) ∧ W.cell? ⟨q, 1, none⟩ = some (.string nm) ∧ W.cell? ⟨q, 2, none⟩ = some (.int .i64 s) ∧ W.cell? ⟨q, 3, none⟩ = some (.slice ya yl yc)) ∧ W.cell? ⟨q, 4, none⟩ = some (.int .i64 M)) ∧ (W.cell? ⟨g, j2 * 5, none⟩ = some (.int .i64 k3) ∧ W.cell? ⟨g, j2 * 5 + 1, none⟩ = some (.string n3) ∧ W.cell? ⟨g, j2 * 5 + 2, none⟩ = some (.int .i64 s3) ∧ W.cell? ⟨g, j2 * 5 + 3, none⟩ = some (.slice ya3 yl3 yc3)) ∧ W.cell? ⟨g, j2 * 5 + 4, none⟩ = some (.int .i64 N2)))
          (first | exact HCr.out _ (by assumption) | go_keep)
          (first | (go_at_call 182; refine (HCM.out _ hF0).mono ?_; rintro e w6 ⟨he, hB⟩; subst he; have hF1 : Ext wr w6 := hF0.trans hB; clear hB))
        have HU6 := Lib.hid (HU.out.ext hF1)
        have HG6 := Lib.hid (HG.out.ext hF1 HSb5.out)
        clear x0 x1 x2 x3 x4 b0 b1 b2 b3 b4
        obtain ⟨⟨⟨x0, x1, x2, x3⟩, x4⟩, _⟩ := HU6.out
        by_cases hM0 : M = 0
        · have q9 : (M != 0) = false := by simp [hM0]
          have HE3 : Hid (gathS qs = K ++ gathS (qs.drop j2)) := by show _ = _; rw [HE.out, HX.out, if_pos hM0]; rfl
          clear hM0
          go_wp2_with fail
          go_roundw
          case rel => exact ⟨K, j2, by omega, rfl, rfl, HE3, HG6.out.ext (Ext.refl _) HSb5.out⟩
          case measure => simp [intOf]; omega
        · have q9 : (M != 0) = true := by rw [bne_iff_ne]; exact hM0
          have HE3 : Hid (gathS qs = (K ++ [(T, M)]) ++ gathS (qs.drop j2)) := by show _ = _; rw [HE.out, HX.out, if_neg hM0, List.append_assoc]
          obtain ⟨⟨z0, z1, z2, z3, z4, y0, y1, y2, y3, y4⟩, hz, hkn⟩ := HG6.out.room (by omega)
          have v0 := hz (K.length * 5)
          have v1 := hz (K.length * 5 + 1)
          have v2 := hz (K.length * 5 + 2)
          have v3 := hz (K.length * 5 + 3)
          have v4 := hz (K.length * 5 + 4)
          have hIT := IsIn_carry (S' := S) (fun b hb => (HG6.out.same b (HSb5.out b hb).1 (HSb5.out b hb).2).trans (HR.out.same b (HSb5.out b hb).1 (HSb5.out b hb).2).symm) (fun _ h => h) _ _ _ _ _ HI.out
          have HP6 := Lib.hid (fun W (x : Ext _ W) => (HG6.out.ext x HSb5.out).put (t := T) (N := M) (by omega) HSb5.out (IsIn_carry (S' := S) (fun b hb => ((HG6.out.ext x HSb5.out).same b (HSb5.out b hb).1 (HSb5.out b hb).2).trans (HG6.out.same b (HSb5.out b hb).1 (HSb5.out b hb).2).symm) (fun _ h => h) _ _ _ _ _ hIT) HMO.out)
          obtain ⟨⟨⟨x0, x1, x2, x3⟩, x4⟩, _⟩ := HU6.out
          have k1 : (0 : Int) ≤ (K.length : Int) := by omega
          have k2 : (K.length : Int) < (n : Int) := by omega
          clear hM0 hz hIT
          go_wp2_with fail
          go_roundw
          case rel => exact ⟨K ++ [(T, M)], j2, by omega, by rw [List.length_append]; go_num, rfl, HE3, HP6.out _ (Ext.refl _)⟩
          case measure => simp [intOf]; omega
set_option maxHeartbeats 1600000 in
set_option maxRecDepth 100000 in
theorem gathered_nil (g cap : Nat) (w : World) :
    Calls Tryz.prog 145 #[.slice (some ⟨g, 0, none⟩) 0 cap] w fun e w' => e = .returned (.slice (some ⟨g, 0, none⟩) 0 cap) ∧ w' = w := by
  have HST := Lib.hid (AnyF.slices_SortFunc_none Tryz.sortPowers (some ⟨g, 0, none⟩) cap (.func (.func 182) #[] #[]) w)
  go_enter Tryz.func145, Tryz.ntmps145
  go_wp2_with (go_at_call 181; refine (HST.out).mono ?_; rintro e w9 ⟨he, hw⟩; subst he; subst hw)
  go_loopw [3, 4] (fun kk i wr => kk = .int .i64 0 ∧ i = .int .i64 0 ∧ wr = w9) (fun _ i _ => (intOf i).toNat)
  case atStart => exact ⟨rfl, rfl, rfl⟩
  case round =>
    obtain ⟨rfl, rfl, rfl⟩ := hrel
    go_wp2_with fail
    go_ret
    exact ⟨rfl, rfl⟩
set_option maxHeartbeats 1600000 in
set_option maxRecDepth 100000 in
theorem gathered_none (w : World) :
    Calls Tryz.prog 145 #[.slice none 0 0] w fun e w' => e = .returned (.slice none 0 0) ∧ w' = w := by
  have HST := Lib.hid (AnyF.slices_SortFunc_none Tryz.sortPowers none 0 (.func (.func 182) #[] #[]) w)
  go_enter Tryz.func145, Tryz.ntmps145
  go_wp2_with (go_at_call 181; refine (HST.out).mono ?_; rintro e w9 ⟨he, hw⟩; subst he; subst hw)
  go_loopw [3, 4] (fun kk i wr => kk = .int .i64 0 ∧ i = .int .i64 0 ∧ wr = w9) (fun _ i _ => (intOf i).toNat)
  case atStart => exact ⟨rfl, rfl, rfl⟩
  case round =>
    obtain ⟨rfl, rfl, rfl⟩ := hrel
    go_wp2_with fail
    go_ret
    exact ⟨rfl, rfl⟩
def GaPost (H : Nat) (w : World) (ps : List Pw) (e : Ending) (w' : World) : Prop :=
  ∃ qs xa cap, e = .returned (.slice xa qs.length cap) ∧ PRow w' qs xa ∧ qs.length ≤ cap ∧ qs.length ≤ ps.length ∧ NormP qs ∧ (∀ t, pwr qs t = pwr ps t) ∧ (∀ q ∈ qs, size q.1 ≤ 1073741824) ∧ Below H w w' ∧ w.heap.size ≤ w'.heap.size
theorem gathered_any {H : Nat} {S : Nat → Prop} {ps : List Pw} {v : Value} {w : World} (hown : OwnP H S w ps v) (hS : ∀ b, S b → b < H) (hHw : H ≤ w.heap.size) (hsz : SzP 1073741824 ps) (hlt : ps.length < 1073741824) (habs : absS ps ≤ 4611686018427387904) :
    Calls Tryz.prog 145 #[v] w (GaPost H w ps) := by
  obtain ⟨cs, ho, hK⟩ := id hown
  have hl := fun q hq => ho.lt q hq
  rcases id ho.2 with ⟨rfl, e⟩ | ⟨g, cap, _, rfl, hg, _, hcap, _⟩
  · have hn : ps = [] := List.length_eq_zero_iff.1 e
    subst hn
    refine (gathered_none w).mono fun e w' h => ?_
    obtain ⟨rfl, rfl⟩ := h
    exact ⟨[], none, 0, rfl, Or.inl rfl, Nat.le_refl _, Nat.le_refl _, ⟨List.Pairwise.nil, fun p hp => by simp at hp⟩, fun _ => rfl, fun q hq => by simp at hq, Below.refl _ _, Nat.le_refl _⟩
  · by_cases h0 : ps.length = 0
    · have hn : ps = [] := List.length_eq_zero_iff.1 h0
      subst hn
      refine (gathered_nil g cap w).mono fun e w' h => ?_
      obtain ⟨rfl, rfl⟩ := h
      exact ⟨[], _, cap, rfl, Or.inl rfl, Nat.zero_le _, Nat.le_refl _, ⟨List.Pairwise.nil, fun p hp => by simp at hp⟩, fun _ => rfl, fun q hq => by simp at hq, Below.refl _ _, Nat.le_refl _⟩
    · have hgl := (hl g rfl).2
      refine (gathered_pos (n := ps.length) hown rfl (fun b hb => ⟨by have := hS b hb; omega, by have := hS b hb; omega⟩) hHw (by omega) hsz hlt habs).mono fun e w' h => ?_
      obtain ⟨qs, rfl, h1, h2, h3, h4, h5, h6⟩ := h
      obtain ⟨r1, r2⟩ := OwnP_row h1
      exact ⟨qs, _, cap, rfl, r1, r2, h2, h3, h4, h5, h6, h6.size⟩
end Go.Proofs.YtbcpnepjojppaaaGreatDoor
