/-
  ELIMINATION OVER TWO ELEMENTS, on functions from coordinates to bits.
-/
import Derived.Test.YtfbomoginjknlaaDoorQidx
namespace Go.Proofs.YtfbomoginjknlaaDoor

/-- The sum of two functions. -/
def bx (f g : Nat → Bool) : Nat → Bool := fun i => f i ^^ g i
def b0 : Nat → Bool := fun _ => false
theorem bx_zero (f : Nat → Bool) : bx f b0 = f := by funext i; simp [bx, b0]
theorem bx_self (f : Nat → Bool) : bx f f = b0 := by funext i; simp [bx, b0]
theorem bx_comm (f g : Nat → Bool) : bx f g = bx g f := by funext i; simp [bx, Bool.xor_comm]
theorem bx_assoc (f g h : Nat → Bool) : bx (bx f g) h = bx f (bx g h) := by funext i; simp [bx]
theorem bx_eq_zero {f g : Nat → Bool} (h : bx f g = b0) : f = g := by
  funext i
  have := congrFun h i
  simp only [bx, b0] at this
  revert this
  cases f i <;> cases g i <;> simp
/-- A function, or none. -/
def bm (c : Bool) (f : Nat → Bool) : Nat → Bool := fun i => c && f i
theorem bm_true (f : Nat → Bool) : bm true f = f := by funext i; simp [bm]
theorem bm_false (f : Nat → Bool) : bm false f = b0 := by funext i; simp [bm, b0]
theorem bm_xor (c d : Bool) (f : Nat → Bool) : bm (c ^^ d) f = bx (bm c f) (bm d f) := by
  funext i; cases c <;> cases d <;> simp [bm, bx]
theorem bm_bx (c : Bool) (f g : Nat → Bool) : bm c (bx f g) = bx (bm c f) (bm c g) := by
  funext i; cases c <;> simp [bm, bx]
theorem bm_bm (c d : Bool) (f : Nat → Bool) : bm c (bm d f) = bm (c && d) f := by
  funext i; cases c <;> cases d <;> simp [bm]
theorem bm_zero (c : Bool) : bm c b0 = b0 := by funext i; simp [bm, b0]
/-- The sum of the rows that A chooses among the first m. -/
def bsum (V : Nat → Nat → Bool) (A : Nat → Bool) : Nat → Nat → Bool
  | 0 => b0
  | m + 1 => bx (bsum V A m) (bm (A m) (V m))
theorem bsum_bx (V : Nat → Nat → Bool) (A B : Nat → Bool) : ∀ m, bsum V (bx A B) m = bx (bsum V A m) (bsum V B m)
  | 0 => by simp [bsum, bx_zero]
  | m + 1 => by
    rw [bsum, bsum, bsum, bsum_bx V A B m]
    show bx (bx _ _) (bm (A m ^^ B m) (V m)) = _
    rw [bm_xor]
    funext i
    simp only [bx, Bool.xor_assoc, Bool.xor_left_comm]
theorem bsum_zero (V : Nat → Nat → Bool) : ∀ m, bsum V b0 m = b0
  | 0 => rfl
  | m + 1 => by rw [bsum, bsum_zero V m]; show bx b0 (bm false _) = _; rw [bm_false, bx_zero]
theorem bsum_bm (V : Nat → Nat → Bool) (c : Bool) (A : Nat → Bool) (m : Nat) : bsum V (bm c A) m = bm c (bsum V A m) := by
  cases c
  · rw [bm_false, bm_false, bsum_zero]
  · rw [bm_true, bm_true]
theorem bsum_congr (V : Nat → Nat → Bool) {A B : Nat → Bool} : ∀ {m : Nat}, (∀ i, i < m → A i = B i) → bsum V A m = bsum V B m
  | 0, _ => rfl
  | m + 1, h => by rw [bsum, bsum, bsum_congr V (m := m) fun i hi => h i (by omega), h m (by omega)]
/-- Nothing chosen from m on: more rows add nothing. -/
theorem bsum_more (V : Nat → Nat → Bool) {A : Nat → Bool} {m : Nat} (h : ∀ i, m ≤ i → A i = false) : ∀ d, bsum V A (m + d) = bsum V A m
  | 0 => rfl
  | d + 1 => by
    rw [show m + (d + 1) = (m + d) + 1 by omega, bsum, bsum_more V h d, h _ (by omega), bm_false, bx_zero]
theorem bsum_le (V : Nat → Nat → Bool) {A : Nat → Bool} {m n : Nat} (h : ∀ i, m ≤ i → A i = false) (hn : m ≤ n) : bsum V A n = bsum V A m := by
  have := bsum_more V h (n - m)
  rw [show m + (n - m) = n by omega] at this
  exact this
/-- One index. -/
def bone (k : Nat) : Nat → Bool := fun i => decide (i = k)
theorem bsum_one_lt (V : Nat → Nat → Bool) (k : Nat) : ∀ m, m ≤ k → bsum V (bone k) m = b0
  | 0, _ => rfl
  | m + 1, h => by
    rw [bsum, bsum_one_lt V k m (by omega)]
    have : bone k m = false := decide_eq_false (by omega)
    rw [this, bm_false, bx_zero]
theorem bsum_one (V : Nat → Nat → Bool) (k : Nat) : bsum V (bone k) (k + 1) = V k := by
  rw [bsum, bsum_one_lt V k k (Nat.le_refl _)]
  have : bone k k = true := decide_eq_true rfl
  rw [this, bm_true, bx_comm, bx_zero]
/-- x is a sum of some of the first m rows. -/
def InSp (V : Nat → Nat → Bool) (m : Nat) (x : Nat → Bool) : Prop := ∃ A, bsum V A m = x
theorem InSp.bx {V : Nat → Nat → Bool} {m : Nat} {x y : Nat → Bool} (h : InSp V m x) (k : InSp V m y) : InSp V m (bx x y) := by
  obtain ⟨A, rfl⟩ := h
  obtain ⟨B, rfl⟩ := k
  exact ⟨_, bsum_bx V A B m⟩
/-- A pivot: its row, the elements whose sum it is, its column, its element. -/
structure PivB where
  s : Nat → Bool
  e : Nat → Bool
  c : Nat
  i : Nat
/-- What the pivots' columns choose. -/
def combS : List PivB → (Nat → Bool) → Nat → Bool
  | [], _ => b0
  | p :: ps, x => bx (bm (x p.c) p.s) (combS ps x)
def combE : List PivB → (Nat → Bool) → Nat → Bool
  | [], _ => b0
  | p :: ps, x => bx (bm (x p.c) p.e) (combE ps x)
theorem combS_bx : ∀ (ps : List PivB) (x y : Nat → Bool), combS ps (bx x y) = bx (combS ps x) (combS ps y)
  | [], x, y => by simp [combS, bx_zero]
  | p :: ps, x, y => by
    rw [combS, combS, combS, combS_bx ps x y]
    show bx (bm (x p.c ^^ y p.c) p.s) _ = _
    rw [bm_xor]
    funext i
    simp only [bx, Bool.xor_assoc, Bool.xor_left_comm]
theorem combS_zero : ∀ ps : List PivB, combS ps b0 = b0
  | [] => rfl
  | p :: ps => by rw [combS, combS_zero ps]; show bx (bm false p.s) _ = _; rw [bm_false, bx_zero]
/-- The way of the code: the pivots are added one after another. -/
def redS : List PivB → (Nat → Bool) → Nat → Bool
  | [], x => x
  | p :: ps, x => redS ps (if x p.c = true then bx x p.s else x)
def redE : List PivB → (Nat → Bool) → (Nat → Bool) → Nat → Bool
  | [], _, y => y
  | p :: ps, x, y => redE ps (if x p.c = true then bx x p.s else x) (if x p.c = true then bx y p.e else y)
/-- No pivot has another one's column. -/
def Apt (ps : List PivB) : Prop := (∀ p ∈ ps, p.s p.c = true) ∧ ps.Pairwise (fun p q => p.s q.c = false ∧ q.s p.c = false)
theorem Apt.tail {p : PivB} {ps : List PivB} (h : Apt (p :: ps)) : Apt ps := ⟨fun q hq => h.1 q (List.mem_cons_of_mem _ hq), (List.pairwise_cons.1 h.2).2⟩
theorem combS_same : ∀ {ps : List PivB} {x y : Nat → Bool}, (∀ p ∈ ps, x p.c = y p.c) → combS ps x = combS ps y ∧ combE ps x = combE ps y
  | [], _, _, _ => ⟨rfl, rfl⟩
  | p :: ps, x, y, h => by
    obtain ⟨h1, h2⟩ := combS_same (ps := ps) (x := x) (y := y) fun q hq => h q (List.mem_cons_of_mem _ hq)
    rw [combS, combS, combE, combE, h1, h2, h p (List.mem_cons_self ..)]
    exact ⟨rfl, rfl⟩
theorem red_comb : ∀ {ps : List PivB} (_ : Apt ps) (x y : Nat → Bool), redS ps x = bx x (combS ps x) ∧ redE ps x y = bx y (combE ps x)
  | [], _, x, y => ⟨(bx_zero x).symm, (bx_zero y).symm⟩
  | p :: ps, h, x, y => by
    obtain ⟨i1, i2⟩ := red_comb h.tail (if x p.c = true then bx x p.s else x) (if x p.c = true then bx y p.e else y)
    have hs : ∀ q ∈ ps, (if x p.c = true then bx x p.s else x) q.c = x q.c := fun q hq => by
      split
      · show (x q.c ^^ p.s q.c) = _
        rw [((List.pairwise_cons.1 h.2).1 q hq).1, Bool.xor_false]
      · rfl
    obtain ⟨e1, e2⟩ := combS_same hs
    rw [redS, redE, combS, combE, i1, i2, e1, e2]
    cases hx : x p.c
    · simp only [bm_false, Bool.false_eq_true, if_false]
      rw [bx_comm b0, bx_zero, bx_comm b0, bx_zero]
      exact ⟨rfl, rfl⟩
    · simp only [if_true, bm_true]
      rw [bx_assoc, bx_assoc]
      exact ⟨rfl, rfl⟩
theorem combS_at : ∀ {ps : List PivB} (_ : Apt ps) (x : Nat → Bool) (p : PivB) (_ : p ∈ ps), combS ps x p.c = x p.c
  | q :: ps, h, x, p, hp => by
    rw [combS]
    show (bm (x q.c) q.s p.c ^^ combS ps x p.c) = _
    rcases List.mem_cons.1 hp with e | hp
    · subst e
      have h0 : ∀ {ps' : List PivB}, (∀ q ∈ ps', q.s p.c = false) → combS ps' x p.c = false := by
        intro ps'
        induction ps' with
        | nil => intro _; rfl
        | cons r ps' ih =>
          intro hq
          show (bm (x r.c) r.s p.c ^^ combS ps' x p.c) = _
          rw [ih fun q hq' => hq q (List.mem_cons_of_mem _ hq')]
          simp [bm, hq r (List.mem_cons_self ..)]
      rw [h0 fun q hq => ((List.pairwise_cons.1 h.2).1 q hq).2]
      simp [bm, h.1 p (List.mem_cons_self ..)]
    · rw [combS_at h.tail x p hp]
      simp [bm, ((List.pairwise_cons.1 h.2).1 p hp).1]
theorem red_at {ps : List PivB} (h : Apt ps) (x : Nat → Bool) {p : PivB} (hp : p ∈ ps) : redS ps x p.c = false := by
  rw [(red_comb h x x).1]
  show (x p.c ^^ combS ps x p.c) = _
  rw [combS_at h x p hp, Bool.xor_self]
/-- The state behind the first m rows: n coordinates, pivots that are sums of rows, and span them. -/
structure Elm (V : Nat → Nat → Bool) (n m : Nat) (ps : List PivB) : Prop where
  apt : Apt ps
  sum : ∀ p ∈ ps, p.s = bsum V p.e m
  few : ∀ p ∈ ps, ∀ i, m ≤ i → p.e i = false
  spans : ∀ i, i < m → combS ps (V i) = V i
  supp : ∀ p ∈ ps, ∀ j, n ≤ j → p.s j = false
  col : ∀ p ∈ ps, p.c < n
  asc : (ps.map (·.i)).Pairwise (· < ·)
  basis : ∀ i, i ∈ ps.map (·.i) ↔ (i < m ∧ ¬ InSp V i (V i))
theorem Elm.nil (V : Nat → Nat → Bool) (n : Nat) : Elm V n 0 [] where
  apt := ⟨fun _ h => absurd h (by simp), List.Pairwise.nil⟩
  sum := fun _ h => absurd h (by simp)
  few := fun _ h => absurd h (by simp)
  spans := fun _ h => absurd h (by omega)
  supp := fun _ h => absurd h (by simp)
  col := fun _ h => absurd h (by simp)
  asc := List.Pairwise.nil
  basis := fun i => by simp
theorem combS_sum {V : Nat → Nat → Bool} {m : Nat} : ∀ {ps : List PivB} (_ : ∀ p ∈ ps, p.s = bsum V p.e m) (x : Nat → Bool), combS ps x = bsum V (combE ps x) m
  | [], _, _ => (bsum_zero V m).symm
  | p :: ps, h, x => by
    rw [combS, combE, bsum_bx, bsum_bm, ← h p (List.mem_cons_self ..), ← combS_sum fun q hq => h q (List.mem_cons_of_mem _ hq)]
theorem combE_few {m : Nat} : ∀ {ps : List PivB} (_ : ∀ p ∈ ps, ∀ i, m ≤ i → p.e i = false) (x : Nat → Bool) (i : Nat), m ≤ i → combE ps x i = false
  | [], _, _, _, _ => rfl
  | p :: ps, h, x, i, hi => by
    show (bm (x p.c) p.e i ^^ combE ps x i) = false
    rw [combE_few (fun q hq => h q (List.mem_cons_of_mem _ hq)) x i hi]
    simp [bm, h p (List.mem_cons_self ..) i hi]
theorem combS_supp {n : Nat} : ∀ {ps : List PivB} (_ : ∀ p ∈ ps, ∀ j, n ≤ j → p.s j = false) (x : Nat → Bool) (j : Nat), n ≤ j → combS ps x j = false
  | [], _, _, _, _ => rfl
  | p :: ps, h, x, i, hi => by
    show (bm (x p.c) p.s i ^^ combS ps x i) = false
    rw [combS_supp (fun q hq => h q (List.mem_cons_of_mem _ hq)) x i hi]
    simp [bm, h p (List.mem_cons_self ..) i hi]
theorem Elm.span_comb {V : Nat → Nat → Bool} {n m : Nat} {ps : List PivB} (h : Elm V n m ps) (A : Nat → Bool) : ∀ k, k ≤ m → combS ps (bsum V A k) = bsum V A k
  | 0, _ => combS_zero ps
  | k + 1, hk => by
    rw [bsum, combS_bx, h.span_comb A k (by omega)]
    congr 1
    cases A k
    · rw [bm_false, combS_zero]
    · rw [bm_true, h.spans k (by omega)]
/-- Nothing is left exactly of what lies in the span. -/
theorem Elm.left {V : Nat → Nat → Bool} {n m : Nat} {ps : List PivB} (h : Elm V n m ps) (x : Nat → Bool) : redS ps x = b0 ↔ InSp V m x := by
  rw [(red_comb h.apt x x).1]
  constructor
  · intro e
    exact ⟨combE ps x, by rw [← combS_sum h.sum]; exact (bx_eq_zero e).symm⟩
  · rintro ⟨A, rfl⟩
    rw [h.span_comb A m (Nat.le_refl _), bx_self]
theorem InSp.mono {V : Nat → Nat → Bool} {m n : Nat} {x : Nat → Bool} (h : InSp V m x) (hn : m ≤ n) : InSp V n x := by
  obtain ⟨A, rfl⟩ := h
  refine ⟨fun i => decide (i < m) && A i, ?_⟩
  rw [bsum_le V (m := m) (fun i hi => by simp [decide_eq_false (by omega : ¬ i < m)]) hn]
  exact bsum_congr V fun i hi => by simp [hi]
/-- A row of which nothing is left. -/
theorem Elm.skip {V : Nat → Nat → Bool} {n m : Nat} {ps : List PivB} (h : Elm V n m ps) (h0 : redS ps (V m) = b0) : Elm V n (m + 1) ps where
  apt := h.apt
  sum := fun p hp => by rw [bsum, h.few p hp m (Nat.le_refl _), bm_false, bx_zero]; exact h.sum p hp
  few := fun p hp i hi => h.few p hp i (by omega)
  spans := fun i hi => by
    by_cases e : i = m
    · subst e
      rw [(red_comb h.apt _ (V i)).1] at h0
      exact (bx_eq_zero h0).symm
    · exact h.spans i (by omega)
  supp := h.supp
  col := h.col
  asc := h.asc
  basis := fun i => by
    rw [h.basis]
    by_cases e : i = m
    · subst e
      exact ⟨fun x => absurd x.1 (by omega), fun x => absurd ((h.left _).1 h0) x.2⟩
    · exact ⟨fun x => ⟨by omega, x.2⟩, fun x => ⟨by omega, x.2⟩⟩
/-- A pivot taken in: its column is taken out of the others. -/
def outP (p q : PivB) : PivB := if q.s p.c = true then ⟨bx q.s p.s, bx q.e p.e, q.c, q.i⟩ else q
def incP (ps : List PivB) (p : PivB) : List PivB := ps.map (outP p) ++ [p]
theorem outP_c (p q : PivB) : (outP p q).c = q.c := by unfold outP; split <;> rfl
theorem outP_i (p q : PivB) : (outP p q).i = q.i := by unfold outP; split <;> rfl
theorem outP_s (p q : PivB) : (outP p q).s = bx q.s (bm (q.s p.c) p.s) := by
  unfold outP
  cases h : q.s p.c
  · simp only [Bool.false_eq_true, if_false, bm_false, bx_zero]
  · simp only [if_true, bm_true]
theorem outP_e (p q : PivB) : (outP p q).e = bx q.e (bm (q.s p.c) p.e) := by
  unfold outP
  cases h : q.s p.c
  · simp only [Bool.false_eq_true, if_false, bm_false, bx_zero]
  · simp only [if_true, bm_true]
theorem combS_out (p : PivB) (x : Nat → Bool) : ∀ ps : List PivB, combS (ps.map (outP p)) x = bx (combS ps x) (bm (combS ps x p.c) p.s)
  | [] => by show b0 = bx b0 (bm false p.s); rw [bm_false, bx_zero]
  | q :: ps => by
    rw [List.map_cons, combS, combS, outP_c, outP_s, combS_out p x ps]
    show _ = bx _ (bm (bm (x q.c) q.s p.c ^^ combS ps x p.c) p.s)
    rw [bm_xor, bm_bx, bm_bm]
    show bx (bx (bm (x q.c) q.s) (bm (x q.c && q.s p.c) p.s)) _ = bx _ (bx (bm (x q.c && q.s p.c) p.s) _)
    funext i
    simp only [bx, Bool.xor_assoc, Bool.xor_left_comm]
theorem combS_app (x : Nat → Bool) (p : PivB) : ∀ ps : List PivB, combS (ps ++ [p]) x = bx (combS ps x) (bm (x p.c) p.s)
  | [] => by rw [List.nil_append, combS, combS, combS, bx_zero, bx_comm, bx_zero]
  | q :: ps => by rw [List.cons_append, combS, combS, combS_app x p ps, bx_assoc]
theorem Elm.take {V : Nat → Nat → Bool} {n m : Nat} {ps : List PivB} (h : Elm V n m ps) {c : Nat} (hV : ∀ j, n ≤ j → V m j = false) (hc : redS ps (V m) c = true) :
    Elm V n (m + 1) (incP ps ⟨redS ps (V m), bx (redE ps (V m) b0) (bone m), c, m⟩) := by
  obtain ⟨hr, he⟩ := red_comb h.apt (V m) b0
  have hat := fun p hp => red_at h.apt (V m) (p := p) hp
  have hsup : ∀ j, n ≤ j → redS ps (V m) j = false := fun j hj => by
    rw [hr]
    show (V m j ^^ combS ps (V m) j) = false
    rw [hV j hj, combS_supp h.supp _ j hj]; rfl
  have hcn : c < n := by
    rcases Nat.lt_or_ge c n with e | e
    · exact e
    · rw [hsup c e] at hc; cases hc
  have hfew : ∀ i, m + 1 ≤ i → bx (redE ps (V m) b0) (bone m) i = false := fun i hi => by
    rw [he]
    show ((b0 i ^^ combE ps (V m) i) ^^ decide (i = m)) = false
    rw [combE_few h.few _ i (by omega), decide_eq_false (by omega)]; rfl
  have hsum : redS ps (V m) = bsum V (bx (redE ps (V m) b0) (bone m)) (m + 1) := by
    rw [bsum_bx, bsum_one, he, hr, bx_comm b0, bx_zero, bsum, combE_few h.few _ m (Nat.le_refl _), bm_false, bx_zero, ← combS_sum h.sum, bx_comm]
  generalize hP : (⟨redS ps (V m), bx (redE ps (V m) b0) (bone m), c, m⟩ : PivB) = P
  have p1 : P.s = redS ps (V m) := by rw [← hP]
  have p2 : P.e = bx (redE ps (V m) b0) (bone m) := by rw [← hP]
  have p3 : P.c = c := by rw [← hP]
  have p4 : P.i = m := by rw [← hP]
  have hold : ∀ q ∈ ps, q.s = bsum V q.e (m + 1) := fun q hq => by rw [bsum, h.few q hq m (Nat.le_refl _), bm_false, bx_zero]; exact h.sum q hq
  have hmem : ∀ q, q ∈ incP ps P → (∃ r ∈ ps, outP P r = q) ∨ q = P := fun q hq => by
    rcases List.mem_append.1 hq with hq | hq
    · exact Or.inl (List.mem_map.1 hq)
    · exact Or.inr (List.mem_singleton.1 hq)
  have houtc : ∀ r ∈ ps, ∀ q ∈ ps, (outP P r).s q.c = r.s q.c := fun r _ q hq => by
    rw [outP_s]
    show (r.s q.c ^^ (r.s P.c && P.s q.c)) = _
    rw [p1, hat q hq]; simp
  have houtP : ∀ r ∈ ps, (outP P r).s P.c = false := fun r _ => by
    rw [outP_s]
    show (r.s P.c ^^ (r.s P.c && P.s P.c)) = _
    rw [p1, p3, hc]; simp
  have hmapi : (incP ps P).map (·.i) = ps.map (·.i) ++ [m] := by
    unfold incP
    rw [List.map_append, List.map_map]
    congr 1
    · exact List.map_congr_left fun q _ => outP_i P q
    · simp [p4]
  refine ⟨⟨fun q hq => ?_, ?_⟩, fun q hq => ?_, fun q hq i hi => ?_, fun i hi => ?_, fun q hq j hj => ?_, fun q hq => ?_, ?_, fun i => ?_⟩
  · rcases hmem q hq with ⟨r, hr', rfl⟩ | rfl
    · rw [outP_c, houtc r hr' r hr']; exact h.apt.1 r hr'
    · rw [p1, p3]; exact hc
  · refine List.pairwise_append.2 ⟨?_, List.pairwise_singleton _ _, fun q hq p hp => ?_⟩
    · rw [List.pairwise_map]
      refine List.Pairwise.imp_of_mem ?_ h.apt.2
      intro r q hr' hq hrq
      rw [outP_c, outP_c, houtc r hr' q hq, houtc q hq r hr']
      exact hrq
    · obtain ⟨r, hr', rfl⟩ := List.mem_map.1 hq
      rw [List.mem_singleton.1 hp]
      refine ⟨houtP r hr', ?_⟩
      rw [outP_c, p1]; exact hat r hr'
  · rcases hmem q hq with ⟨r, hr', rfl⟩ | rfl
    · rw [outP_s, outP_e, bsum_bx, bsum_bm, ← hold r hr', p2, p1, ← hsum]
    · rw [p1, p2]; exact hsum
  · rcases hmem q hq with ⟨r, hr', rfl⟩ | rfl
    · rw [outP_e]
      show (r.e i ^^ (r.s P.c && P.e i)) = false
      rw [p2, hfew i hi, h.few r hr' i (by omega)]; simp
    · rw [p2]; exact hfew i hi
  · unfold incP
    rw [combS_app, combS_out]
    by_cases e : i = m
    · subst e
      have h1 : V i P.c = !(combS ps (V i) P.c) := by
        have h2 : (V i P.c ^^ combS ps (V i) P.c) = true := by
          have := hc
          rw [hr] at this
          rw [p3]; exact this
        revert h2
        cases V i P.c <;> cases combS ps (V i) P.c <;> simp
      rw [h1, bx_assoc, ← bm_xor]
      have : (combS ps (V i) P.c ^^ !(combS ps (V i) P.c)) = true := by cases combS ps (V i) P.c <;> rfl
      rw [this, bm_true, p1, hr, bx_comm (V i), ← bx_assoc, bx_self, bx_comm b0, bx_zero]
    · rw [h.spans i (by omega), bx_assoc, bx_self, bx_zero]
  · rcases hmem q hq with ⟨r, hr', rfl⟩ | rfl
    · rw [outP_s]
      show (r.s j ^^ (r.s P.c && P.s j)) = false
      rw [p1, hsup j hj, h.supp r hr' j hj]; simp
    · rw [p1]; exact hsup j hj
  · rcases hmem q hq with ⟨r, hr', rfl⟩ | rfl
    · rw [outP_c]; exact h.col r hr'
    · rw [p3]; exact hcn
  · rw [hmapi]
    refine List.pairwise_append.2 ⟨h.asc, List.pairwise_singleton _ _, fun a ha b hb => ?_⟩
    rw [List.mem_singleton.1 hb]
    exact ((h.basis a).1 ha).1
  · rw [hmapi, List.mem_append, List.mem_singleton, h.basis]
    by_cases e : i = m
    · subst e
      refine ⟨fun _ => ⟨by omega, fun hin => ?_⟩, fun _ => Or.inr rfl⟩
      rw [(h.left _).2 hin] at hc
      cases hc
    · exact ⟨fun x => x.elim (fun y => ⟨by omega, y.2⟩) (fun y => absurd y e), fun x => Or.inl ⟨by omega, x.2⟩⟩
/-- A choice of rows for x, where nothing is left of it. -/
theorem Elm.choice {V : Nat → Nat → Bool} {n m : Nat} {ps : List PivB} (h : Elm V n m ps) {x : Nat → Bool} (h0 : redS ps x = b0) : bsum V (redE ps x b0) m = x ∧ ∀ i, m ≤ i → redE ps x b0 i = false := by
  obtain ⟨hr, he⟩ := red_comb h.apt x b0
  rw [he, bx_comm b0, bx_zero]
  rw [hr] at h0
  exact ⟨by rw [← combS_sum h.sum]; exact (bx_eq_zero h0).symm, combE_few h.few x⟩
end Go.Proofs.YtfbomoginjknlaaDoor

/-
  WHAT INDICES CHOOSE, on plain data (for the walks of Check; the reference's is begun in wip/open).
-/
namespace Go.Proofs.YtfbomoginjknlaaDoor
open Go.RowKit Go.Lib

/-- The terms that indices choose. -/
def pickT (ts : List Tm) (c : List Int) : List Tm := c.map fun i => ts.getD i.toNat zilT
theorem pickT_size {ts : List Tm} {M : Nat} (h : ∀ u ∈ ts, size u ≤ M) (h1 : 1 ≤ M) {c : List Int} {u : Tm} (hu : u ∈ pickT ts c) : size u ≤ M := by
  unfold pickT at hu
  obtain ⟨i, _, rfl⟩ := List.mem_map.1 hu
  rw [List.getD_eq_getElem?_getD]
  rcases Nat.lt_or_ge i.toNat ts.length with hl | hl
  · rw [List.getElem?_eq_getElem hl]; exact h _ (List.getElem_mem hl)
  · rw [List.getElem?_eq_none hl]
    have : size zilT = 1 := by simp [zilT, size, sizes]
    show size zilT ≤ M
    omega
theorem pickT_sizes {ts : List Tm} {M : Nat} (h : ∀ u ∈ ts, size u ≤ M) (h1 : 1 ≤ M) (c : List Int) : sizes (pickT ts c) ≤ c.length * M := by
  have := sizes_of (l := pickT ts c) (M := M) fun u hu => pickT_size h h1 hu
  unfold pickT at this
  rw [List.length_map] at this
  exact this
theorem pickT_take (ts : List Tm) (c : List Int) (j : Nat) (h : j < c.length) : pickT ts (c.take (j + 1)) = pickT ts (c.take j) ++ [ts.getD c[j].toNat zilT] := by
  unfold pickT
  rw [List.take_succ_eq_append_getElem h, List.map_append]; rfl
theorem summsT_snoc : ∀ (ts out : List Tm) (t : Tm), summsT out (ts ++ [t]) = plusT (summsT out ts) (summT t)
  | [], out, t => by simp [summsT]
  | u :: ts, out, t => by rw [List.cons_append, summsT, summsT, summsT_snoc ts]
def chkB8 (ts : List Tm) (t : Tm) (c : List Int) : Bool :=
  if ¬ vE ts t = 0 then false else if idxB ts.length c = false then false else listsEq (sumsR (pickT ts c)) (summT t)
end Go.Proofs.YtfbomoginjknlaaDoor

/-
  SUMMANDS AS BITS: the columns' bits of a list of terms, choices as sums of rows, separations.
-/
namespace Go.Proofs.YtfbomoginjknlaaDoor

theorem cmpL_zeroQ : ∀ (l m : List Tm), l.length = m.length → cmpL l m = 0 → l = m
  | [], [], _, _ => rfl
  | [], _ :: _, h, _ => by simp at h
  | _ :: _, [], h, _ => by simp at h
  | t :: l, u :: m, hl, h => by
    simp only [cmpL] at h
    obtain ⟨h1, h2⟩ := orr_zero h
    rw [cmpT_zero _ _ h1, cmpL_zeroQ l m (by simpa using hl) h2]
theorem listsEq_iff (l m : List Tm) : listsEq l m = true ↔ l = m := by
  constructor
  · intro h
    unfold listsEq at h
    rw [Bool.and_eq_true, decide_eq_true_eq, beq_iff_eq] at h
    exact cmpL_zeroQ _ _ h.1 h.2
  · rintro rfl
    have h : ∀ l : List Tm, cmpL l l = 0 := by
      intro l
      induction l with
      | nil => simp [cmpL]
      | cons t l ih => simp only [cmpL, ih, cmpT_self, orr, if_true]
    unfold listsEq
    rw [h]; simp
/-- Whether a term stands an odd number of times in a list. -/
def parB (P : List Tm) : Option Tm → Bool
  | none => false
  | some u => decide (cntT P u % 2 = 1)
/-- Which columns stand an odd number of times in a list. -/
def chiP (C P : List Tm) : Nat → Bool := fun j => parB P C[j]?
theorem parB_app (P Q : List Tm) (o : Option Tm) : parB (P ++ Q) o = (parB P o ^^ parB Q o) := by
  cases o with
  | none => rfl
  | some u =>
    show decide (cntT (P ++ Q) u % 2 = 1) = (decide (cntT P u % 2 = 1) ^^ decide (cntT Q u % 2 = 1))
    rw [cntT_app]
    by_cases h1 : cntT P u % 2 = 1
    · by_cases h2 : cntT Q u % 2 = 1
      · rw [decide_eq_true h1, decide_eq_true h2, decide_eq_false (by omega)]; rfl
      · rw [decide_eq_true h1, decide_eq_false h2, decide_eq_true (by omega)]; rfl
    · by_cases h2 : cntT Q u % 2 = 1
      · rw [decide_eq_false h1, decide_eq_true h2, decide_eq_true (by omega)]; rfl
      · rw [decide_eq_false h1, decide_eq_false h2, decide_eq_false (by omega)]; rfl
theorem chiP_app (C P Q : List Tm) : chiP C (P ++ Q) = bx (chiP C P) (chiP C Q) := by
  funext j
  exact parB_app P Q _
theorem chiP_nil (C : List Tm) : chiP C [] = b0 := by
  funext j
  unfold chiP b0
  cases C[j]? with
  | none => rfl
  | some u => simp [parB, cntT]
theorem chiP_supp (C P : List Tm) (j : Nat) (h : C.length ≤ j) : chiP C P j = false := by
  unfold chiP
  rw [List.getElem?_eq_none h]; rfl
/-- The row of an element. -/
def rowV (C ts : List Tm) (i : Nat) : Nat → Bool := chiP C (addT (ts.getD i zilT))
theorem chiP_odd {C K P : List Tm} (h : OddS K P) : chiP C K = chiP C P := by
  funext j
  unfold chiP
  cases C[j]? with
  | none => rfl
  | some u => show decide (cntT K u % 2 = 1) = decide (cntT P u % 2 = 1); rw [h.cnt u]
theorem chi_sum (C : List Tm) (t : Tm) : chiP C (summT t) = chiP C (addT t) := chiP_odd (summT_odd t)
theorem chi_sums (C ts : List Tm) : chiP C (sumsR ts) = chiP C (addsT ts) := chiP_odd (sumsR_odd ts)
theorem chi_mem {C K : List Tm} (hK : AscT K) (j : Nat) (u : Tm) (hj : C[j]? = some u) : chiP C K j = true ↔ u ∈ K := by
  unfold chiP
  rw [hj]
  show decide (cntT K u % 2 = 1) = true ↔ _
  have h := hK.mem_cnt u
  constructor
  · intro e
    rw [decide_eq_true_eq] at e
    rcases Classical.em (u ∈ K) with hm | hm
    · exact hm
    · have := h.2 hm; omega
  · intro hm
    exact decide_eq_true (h.1 hm)
/-- Lists of columns with the same bits are one. -/
theorem chi_one {C K L : List Tm} (hK : AscT K) (hL : AscT L) (h1 : ∀ u ∈ K, u ∈ C) (h2 : ∀ u ∈ L, u ∈ C) (e : chiP C K = chiP C L) : K = L := by
  refine asc_oneQ K L hK hL fun u => ?_
  have go : ∀ {A B : List Tm}, AscT A → AscT B → (∀ u ∈ A, u ∈ C) → chiP C A = chiP C B → u ∈ A → u ∈ B := by
    intro A B hA hB h e hu
    obtain ⟨j, hj⟩ := List.mem_iff_getElem?.1 (h u hu)
    have := (chi_mem hA j u hj).2 hu
    rw [e] at this
    exact (chi_mem hB j u hj).1 this
  exact ⟨go hK hL h1 e, go hL hK h2 e.symm⟩
theorem addsT_snoc : ∀ (ts : List Tm) (t : Tm), addsT (ts ++ [t]) = addsT ts ++ addT t
  | [], t => by rw [List.nil_append, addsT_one, addsT]; rfl
  | u :: ts, t => by rw [List.cons_append, addsT, addsT, addsT_snoc ts, List.append_assoc]
/-- The indices below m that are chosen, ascending. -/
def onesN (m : Nat) (A : Nat → Bool) : List Nat := (List.range m).filter A
def onesI (m : Nat) (A : Nat → Bool) : List Int := (onesN m A).map fun (i : Nat) => (i : Int)
theorem onesN_succ (m : Nat) (A : Nat → Bool) : onesN (m + 1) A = onesN m A ++ (if A m = true then [m] else []) := by
  unfold onesN
  rw [List.range_succ, List.filter_append]
  congr 1
  cases h : A m <;> simp [h]
theorem onesI_succ (m : Nat) (A : Nat → Bool) : onesI (m + 1) A = onesI m A ++ (if A m = true then [(m : Int)] else []) := by
  unfold onesI
  rw [onesN_succ, List.map_append]
  congr 1
  split <;> rfl
theorem onesN_congr {m : Nat} {A B : Nat → Bool} (h : ∀ i, i < m → A i = B i) : onesN m A = onesN m B := by
  unfold onesN
  exact List.filter_congr fun i hi => h i (List.mem_range.1 hi)
theorem onesN_le {m : Nat} {A : Nat → Bool} (h : ∀ i, m ≤ i → A i = false) : ∀ d, onesN (m + d) A = onesN m A
  | 0 => rfl
  | d + 1 => by rw [show m + (d + 1) = (m + d) + 1 by omega, onesN_succ, h _ (by omega), onesN_le h d]; simp
theorem onesN_more {m n : Nat} {A : Nat → Bool} (h : ∀ i, m ≤ i → A i = false) (hn : m ≤ n) : onesN n A = onesN m A := by
  have := onesN_le h (n - m)
  rw [show m + (n - m) = n by omega] at this
  exact this
theorem onesN_len (m : Nat) (A : Nat → Bool) : (onesN m A).length ≤ m := by
  have := List.length_filter_le A (List.range m)
  rw [List.length_range] at this
  exact this
theorem onesN_mem {m : Nat} {A : Nat → Bool} {i : Nat} : i ∈ onesN m A ↔ i < m ∧ A i = true := by
  unfold onesN
  rw [List.mem_filter, List.mem_range]
theorem onesI_mem {m : Nat} {A : Nat → Bool} {x : Int} : x ∈ onesI m A ↔ ∃ i : Nat, i < m ∧ A i = true ∧ x = (i : Int) := by
  unfold onesI
  rw [List.mem_map]
  constructor
  · rintro ⟨i, hi, rfl⟩
    obtain ⟨h1, h2⟩ := onesN_mem.1 hi
    exact ⟨i, h1, h2, rfl⟩
  · rintro ⟨i, h1, h2, rfl⟩
    exact ⟨i, onesN_mem.2 ⟨h1, h2⟩, rfl⟩
theorem onesN_asc (m : Nat) (A : Nat → Bool) : (onesN m A).Pairwise (· < ·) := List.Pairwise.sublist List.filter_sublist List.pairwise_lt_range
theorem onesI_asc (m : Nat) (A : Nat → Bool) : (onesI m A).Pairwise (· < ·) := by
  unfold onesI
  rw [List.pairwise_map]
  exact (onesN_asc m A).imp fun h => by omega
theorem asc_oneI : ∀ (l m : List Int), l.Pairwise (· < ·) → m.Pairwise (· < ·) → (∀ t, t ∈ l ↔ t ∈ m) → l = m
  | [], [], _, _, _ => rfl
  | [], u :: m, _, _, h => absurd ((h u).2 (by simp)) (by simp)
  | t :: l, [], _, _, h => absurd ((h t).1 (by simp)) (by simp)
  | t :: l, u :: m, hl, hm, h => by
    have l1 := (List.pairwise_cons.1 hl).1
    have m1 := (List.pairwise_cons.1 hm).1
    have e : t = u := by
      rcases List.mem_cons.1 ((h t).1 (by simp)) with e | h1
      · exact e
      · rcases List.mem_cons.1 ((h u).2 (by simp)) with e | h2
        · exact e.symm
        · have := m1 t h1
          have := l1 u h2
          omega
    subst e
    rw [asc_oneI l m (List.pairwise_cons.1 hl).2 (List.pairwise_cons.1 hm).2 (fun x => ?_)]
    constructor
    · intro hx
      rcases List.mem_cons.1 ((h x).1 (List.mem_cons_of_mem _ hx)) with e | h1
      · subst e; exact absurd (l1 x hx) (by omega)
      · exact h1
    · intro hx
      rcases List.mem_cons.1 ((h x).2 (List.mem_cons_of_mem _ hx)) with e | h1
      · subst e; exact absurd (m1 x hx) (by omega)
      · exact h1
theorem idxG_iff (n : Nat) : ∀ (l : List Int) (y : Int), idxG n y l = true ↔ l.Pairwise (· < ·) ∧ ∀ x ∈ l, 0 ≤ x ∧ x < (n : Int) ∧ y < x
  | [], y => by simp [idxG]
  | x :: l, y => by
    rw [idxG, Bool.and_eq_true, Bool.and_eq_true, Bool.and_eq_true, decide_eq_true_eq, decide_eq_true_eq, decide_eq_true_eq, idxG_iff n l x, List.pairwise_cons]
    constructor
    · rintro ⟨⟨⟨h1, h2⟩, h3⟩, h4, h5⟩
      refine ⟨⟨fun z hz => (h5 z hz).2.2, h4⟩, fun z hz => ?_⟩
      rcases List.mem_cons.1 hz with rfl | hz
      · exact ⟨h1, h2, h3⟩
      · have := h5 z hz; exact ⟨this.1, this.2.1, by omega⟩
    · rintro ⟨⟨h1, h2⟩, h3⟩
      have h0 := h3 x (List.mem_cons_self ..)
      refine ⟨⟨⟨h0.1, h0.2.1⟩, h0.2.2⟩, h2, fun z hz => ?_⟩
      have := h3 z (List.mem_cons_of_mem _ hz)
      exact ⟨this.1, this.2.1, h1 z hz⟩
theorem idxB_ones (n : Nat) (A : Nat → Bool) : idxB n (onesI n A) = true := by
  unfold idxB
  rw [idxG_iff]
  refine ⟨onesI_asc n A, fun x hx => ?_⟩
  obtain ⟨i, h1, _, rfl⟩ := onesI_mem.1 hx
  omega
/-- Indices as a choice. -/
def chosen (c : List Int) : Nat → Bool := fun i => decide ((i : Int) ∈ c)
theorem idxB_is {n : Nat} {c : List Int} (h : idxB n c = true) : c = onesI n (chosen c) := by
  unfold idxB at h
  rw [idxG_iff] at h
  refine asc_oneI c _ h.1 (onesI_asc _ _) fun x => ?_
  rw [onesI_mem]
  constructor
  · intro hx
    obtain ⟨h1, h2, _⟩ := h.2 x hx
    refine ⟨x.toNat, by omega, ?_, by omega⟩
    unfold chosen
    rw [decide_eq_true_eq, show ((x.toNat : Nat) : Int) = x by omega]
    exact hx
  · rintro ⟨i, _, h2, rfl⟩
    unfold chosen at h2
    exact of_decide_eq_true h2
theorem pickT_ones (ts : List Tm) (A : Nat → Bool) (C : List Tm) : ∀ m, chiP C (addsT (pickT ts (onesI m A))) = bsum (rowV C ts) A m
  | 0 => by
    have e : onesI 0 A = [] := rfl
    rw [e, bsum]
    exact chiP_nil C
  | m + 1 => by
    rw [onesI_succ, bsum, ← pickT_ones ts A C m]
    cases h : A m
    · rw [if_neg (by decide), List.append_nil, bm_false, bx_zero]
    · rw [if_pos rfl, bm_true]
      have e : pickT ts (onesI m A ++ [(m : Int)]) = pickT ts (onesI m A) ++ [ts.getD m zilT] := by
        unfold pickT
        rw [List.map_append]; rfl
      rw [e, addsT_snoc, chiP_app]; rfl
theorem sums_sub {ts : List Tm} {u : Tm} (h : u ∈ sumsR ts) : ∃ x ∈ ts, u ∈ summT x := by
  have h1 := ((sumsR_odd ts).odd u).1 h
  clear h
  induction ts with
  | nil => rw [addsT] at h1; simp [cntT] at h1
  | cons x ts ih =>
    rw [addsT, cntT_app] at h1
    rcases Classical.em (u ∈ summT x) with hm | hm
    · exact ⟨x, List.mem_cons_self .., hm⟩
    · have h2 : ¬ cntT (addT x) u % 2 = 1 := fun e => hm (((summT_odd x).odd u).2 e)
      obtain ⟨y, hy, hu⟩ := ih (by omega)
      exact ⟨y, List.mem_cons_of_mem _ hy, hu⟩
/-- A choice is a sum of rows. -/
theorem chk_iff {C ts : List Tm} {t : Tm} (hC : ∀ x ∈ ts, ∀ u ∈ summT x, u ∈ C) (ht : ∀ u ∈ summT t, u ∈ C) (c : List Int) (hz : vE ts t = 0) :
    chkB8 ts t c = true ↔ idxB ts.length c = true ∧ bsum (rowV C ts) (chosen c) ts.length = chiP C (addT t) := by
  unfold chkB8
  rw [if_neg (fun h => h hz)]
  by_cases hi : idxB ts.length c = true
  · rw [if_neg (by rw [hi]; decide), listsEq_iff]
    have hp := pickT_ones ts (chosen c) C ts.length
    rw [← idxB_is hi] at hp
    rw [← hp, ← chi_sums, ← chi_sum]
    have hsub : ∀ u ∈ sumsR (pickT ts c), u ∈ C := fun u hu => by
      obtain ⟨x, hx, hux⟩ := sums_sub hu
      unfold pickT at hx
      obtain ⟨i, hic, rfl⟩ := List.mem_map.1 hx
      have hii := hi
      unfold idxB at hii
      obtain ⟨h1, h2, _⟩ := ((idxG_iff _ _ _).1 hii).2 i hic
      have hl : i.toNat < ts.length := by omega
      rw [List.getD_eq_getElem?_getD, List.getElem?_eq_getElem hl] at hux
      exact hC _ (List.getElem_mem hl) u hux
    constructor
    · intro e; exact ⟨hi, by rw [e]⟩
    · rintro ⟨_, e⟩
      exact chi_one (sumsR_odd _).asc (summT_odd _).asc hsub ht e
  · have hi' : idxB ts.length c = false := by simpa using hi
    rw [if_pos hi']
    exact ⟨fun h => (by cases h), fun h => absurd h.1 hi⟩
theorem chosen_ones (m : Nat) (A : Nat → Bool) : ∀ i, i < m → chosen (onesI m A) i = A i := fun i hi => by
  unfold chosen
  cases h : A i
  · refine decide_eq_false fun hm => ?_
    obtain ⟨k, _, h2, e⟩ := onesI_mem.1 hm
    have : i = k := by omega
    rw [← this, h] at h2
    cases h2
  · exact decide_eq_true (onesI_mem.2 ⟨i, hi, h, rfl⟩)
/-- What Span gives back. -/
def SpanR (ts : List Tm) (t : Tm) (c : List Int) (e : Int) : Prop :=
  (¬ vE ts t = 0 ∧ e = vE ts t ∧ c = []) ∨ (vE ts t = 0 ∧ e = 0 ∧ chkB8 ts t c = true) ∨ (vE ts t = 0 ∧ e = 4 ∧ c = [] ∧ ∀ c', chkB8 ts t c' = false)
theorem span_found {C ts : List Tm} {t : Tm} {n : Nat} {ps : List PivB} (hC : ∀ x ∈ ts, ∀ u ∈ summT x, u ∈ C) (ht : ∀ u ∈ summT t, u ∈ C) (hz : vE ts t = 0) (h : Elm (rowV C ts) n ts.length ps) (h0 : redS ps (chiP C (addT t)) = b0) :
    chkB8 ts t (onesI ts.length (redE ps (chiP C (addT t)) b0)) = true := by
  rw [chk_iff hC ht _ hz]
  refine ⟨idxB_ones _ _, ?_⟩
  rw [bsum_congr _ (chosen_ones ts.length _)]
  exact (h.choice h0).1
theorem span_none {C ts : List Tm} {t : Tm} {n : Nat} {ps : List PivB} (hC : ∀ x ∈ ts, ∀ u ∈ summT x, u ∈ C) (ht : ∀ u ∈ summT t, u ∈ C) (hz : vE ts t = 0) (h : Elm (rowV C ts) n ts.length ps) (h0 : ¬ redS ps (chiP C (addT t)) = b0) (c : List Int) : chkB8 ts t c = false := by
  cases hc : chkB8 ts t c
  · rfl
  · rw [chk_iff hC ht _ hz] at hc
    exact absurd ((h.left _).2 ⟨_, hc.2⟩) h0
end Go.Proofs.YtfbomoginjknlaaDoor
