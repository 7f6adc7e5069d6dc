/-
  SEPARATIONS AS BITS, on plain data.
-/
import Derived.Test.YtfbomoginjknlaaDoorQgf
namespace Go.Proofs.YtfbomoginjknlaaDoor

/-- The sum of some coordinates. -/
def xsum (X : Nat → Bool) : List Nat → Bool
  | [] => false
  | i :: l => X i ^^ xsum X l
theorem xsum_bx (X Y : Nat → Bool) : ∀ l, xsum (bx X Y) l = (xsum X l ^^ xsum Y l)
  | [] => rfl
  | i :: l => by
    rw [xsum, xsum, xsum, xsum_bx X Y l]
    show ((X i ^^ Y i) ^^ _) = _
    cases X i <;> cases Y i <;> cases xsum X l <;> cases xsum Y l <;> rfl
theorem xsum_b0 : ∀ l, xsum b0 l = false
  | [] => rfl
  | i :: l => by rw [xsum, xsum_b0 l]; rfl
theorem xsum_perm (X : Nat → Bool) {l m : List Nat} (h : l.Perm m) : xsum X l = xsum X m := by
  induction h with
  | nil => rfl
  | cons i _ ih => rw [xsum, xsum, ih]
  | swap i j l => rw [xsum, xsum, xsum, xsum]; cases X i <;> cases X j <;> cases xsum X l <;> rfl
  | trans _ _ h1 h2 => exact h1.trans h2
theorem oddB_from (r : List Tm) : ∀ (l : List Tm) (b : Bool), oddB r l b = (b ^^ oddB r l false)
  | [], b => by rw [oddB, oddB]; cases b <;> rfl
  | s :: l, b => by
    rw [oddB, oddB, oddB_from r l (if memT r s = true then !b else b), oddB_from r l (if memT r s = true then !false else false)]
    cases memT r s <;> cases b <;> cases oddB r l false <;> rfl
/-- The terms of some columns. -/
def sepT (C : List Tm) (l : List Nat) : List Tm := l.map fun i => C.getD i zilT
theorem chi_single (C : List Tm) (k : Tm) (i : Nat) : chiP C [k] i = true ↔ C[i]? = some k := by
  unfold chiP
  cases hc : C[i]? with
  | none => simp [parB]
  | some u =>
    show decide (cntT [k] u % 2 = 1) = true ↔ _
    rw [decide_eq_true_eq]
    simp only [cntT, Option.some.injEq]
    by_cases e : cmpT k u = 0
    · rw [if_pos e, cmpT_zero _ _ e]; simp
    · rw [if_neg e]
      constructor
      · intro h; simp at h
      · intro h; rw [h] at e; exact absurd (cmpT_self k) e
theorem memT_sep {C : List Tm} (hC : AscT C) (k : Tm) : ∀ l : List Nat, l.Pairwise (· < ·) → (∀ i ∈ l, i < C.length) → memT (sepT C l) k = xsum (chiP C [k]) l
  | [], _, _ => rfl
  | i :: l, h, hl => by
    have hi := hl i (List.mem_cons_self ..)
    have hr := memT_sep hC k l (List.pairwise_cons.1 h).2 fun j hj => hl j (List.mem_cons_of_mem _ hj)
    have hu : sepT C (i :: l) = C[i] :: sepT C l := by
      unfold sepT
      rw [List.map_cons, List.getD_eq_getElem?_getD, List.getElem?_eq_getElem hi]; rfl
    rw [xsum, ← hr, hu]
    by_cases e : C[i]? = some k
    · have e' : C[i] = k := by rw [List.getElem?_eq_getElem hi] at e; exact Option.some.inj e
      rw [(chi_single C k i).2 e, (memT_iff _ k).2 (by rw [e']; exact List.mem_cons_self ..)]
      have : memT (sepT C l) k = false := by
        cases hm : memT (sepT C l) k
        · rfl
        · exfalso
          have hk := (memT_iff _ k).1 hm
          unfold sepT at hk
          obtain ⟨j, hj, hjk⟩ := List.mem_map.1 hk
          have hjl := hl j (List.mem_cons_of_mem _ hj)
          rw [List.getD_eq_getElem?_getD, List.getElem?_eq_getElem hjl, Option.getD_some] at hjk
          have hij := (List.pairwise_cons.1 h).1 j hj
          have := (List.pairwise_iff_getElem.1 hC) i j hi hjl hij
          rw [e', hjk, cmpT_self] at this
          omega
      rw [this]; rfl
    · have hne : chiP C [k] i = false := by
        cases hh : chiP C [k] i
        · rfl
        · exact absurd ((chi_single C k i).1 hh) e
      rw [hne, Bool.false_xor]
      cases hm : memT (sepT C l) k
      · cases hm2 : memT (C[i] :: sepT C l) k
        · rfl
        · exfalso
          rcases List.mem_cons.1 ((memT_iff _ k).1 hm2) with hk | hk
          · exact e (by rw [List.getElem?_eq_getElem hi, hk])
          · rw [(memT_iff _ k).2 hk] at hm; cases hm
      · exact (memT_iff _ k).2 (List.mem_cons_of_mem _ ((memT_iff _ k).1 hm))
theorem oddB_sep {C : List Tm} (hC : AscT C) {l : List Nat} (h : l.Pairwise (· < ·)) (hl : ∀ i ∈ l, i < C.length) : ∀ K : List Tm, oddB (sepT C l) K false = xsum (chiP C K) l
  | [] => by rw [oddB, chiP_nil, xsum_b0]
  | k :: K => by
    have e : chiP C (k :: K) = bx (chiP C [k]) (chiP C K) := chiP_app C [k] K
    rw [oddB, oddB_from, oddB_sep hC h hl K, e, xsum_bx, ← memT_sep hC k l h hl]
    cases memT (sepT C l) k <;> rfl
/-- The columns that separation chooses, in its order. -/
def sepN (ps : List PivB) (c : Nat) : List Nat := c :: (ps.filter (fun p => p.s c)).map (·.c)
theorem xsum_piv (X : Nat → Bool) (c : Nat) : ∀ ps : List PivB, xsum X ((ps.filter (fun p => p.s c)).map (·.c)) = combS ps X c
  | [] => rfl
  | p :: ps => by
    show _ = (bm (X p.c) p.s c ^^ combS ps X c)
    rw [List.filter_cons, ← xsum_piv X c ps]
    cases h : p.s c
    · simp [bm, h]
    · simp [bm, h, xsum]
theorem xsum_sep {ps : List PivB} (h : Apt ps) (X : Nat → Bool) (c : Nat) : xsum X (sepN ps c) = redS ps X c := by
  rw [(red_comb h X X).1, sepN, xsum, xsum_piv]; rfl
theorem sepN_nodup {ps : List PivB} (h : Apt ps) {X : Nat → Bool} {c : Nat} (hc : redS ps X c = true) : (sepN ps c).Nodup := by
  unfold sepN
  refine List.nodup_cons.2 ⟨fun hm => ?_, ?_⟩
  · obtain ⟨p, hp, e⟩ := List.mem_map.1 hm
    have := red_at h X (p := p) (List.mem_filter.1 hp).1
    rw [e, hc] at this
    cases this
  · unfold List.Nodup
    rw [List.pairwise_map]
    refine List.Pairwise.filter _ ?_
    refine List.Pairwise.imp_of_mem ?_ h.2
    intro p q hp hq hpq e
    have := h.1 p hp
    rw [e, hpq.1] at this
    cases this
/-- The chosen columns, sorted. -/
def sepS (ps : List PivB) (c : Nat) : List Nat := (sepN ps c).mergeSort (fun x y => decide (x ≤ y))
theorem sepS_perm (ps : List PivB) (c : Nat) : (sepS ps c).Perm (sepN ps c) := List.mergeSort_perm _ _
theorem sepS_asc {ps : List PivB} (h : Apt ps) {X : Nat → Bool} {c : Nat} (hc : redS ps X c = true) : (sepS ps c).Pairwise (· < ·) := by
  have h1 : (sepS ps c).Pairwise (fun x y => decide (x ≤ y) = true) := List.pairwise_mergeSort (fun a b c h1 h2 => by simp only [decide_eq_true_eq] at *; omega) (fun a b => by simp only [Bool.or_eq_true, decide_eq_true_eq]; omega) _
  have h2 : (sepS ps c).Nodup := (sepS_perm ps c).nodup_iff.2 (sepN_nodup h hc)
  refine (h1.and h2).imp fun {a b} hab => ?_
  have := hab.1
  have := hab.2
  simp only [decide_eq_true_eq] at *
  omega
theorem sepN_lt {ps : List PivB} {n c : Nat} (h : ∀ p ∈ ps, p.c < n) (hc : c < n) : ∀ i ∈ sepN ps c, i < n := by
  intro i hi
  rcases List.mem_cons.1 hi with rfl | hi
  · exact hc
  · obtain ⟨p, hp, rfl⟩ := List.mem_map.1 hi
    exact h p (List.mem_filter.1 hp).1
theorem sepS_lt {ps : List PivB} {n c : Nat} (h : ∀ p ∈ ps, p.c < n) (hc : c < n) : ∀ i ∈ sepS ps c, i < n := fun i hi => sepN_lt h hc i ((sepS_perm ps c).mem_iff.1 hi)
theorem sepN_len (ps : List PivB) (c : Nat) : (sepN ps c).length ≤ ps.length + 1 := by
  unfold sepN
  have := List.length_filter_le (fun p : PivB => p.s c) ps
  simp only [List.length_cons, List.length_map]
  omega
theorem sepS_len (ps : List PivB) (c : Nat) : (sepS ps c).length ≤ ps.length + 1 := by
  rw [(sepS_perm ps c).length_eq]; exact sepN_len ps c
theorem sepT_asc {C : List Tm} (hC : AscT C) {l : List Nat} (h : l.Pairwise (· < ·)) (hl : ∀ i ∈ l, i < C.length) : AscT (sepT C l) := by
  unfold AscT sepT
  rw [List.pairwise_map]
  refine List.Pairwise.imp_of_mem ?_ h
  intro i j hi hj hij
  have h1 := hl i hi
  have h2 := hl j hj
  rw [List.getD_eq_getElem?_getD, List.getD_eq_getElem?_getD, List.getElem?_eq_getElem h1, List.getElem?_eq_getElem h2]
  exact (List.pairwise_iff_getElem.1 hC) i j h1 h2 hij
/-- A column that is left gives a separation. -/
theorem sep_found {C ts : List Tm} {t : Tm} {ps : List PivB} {c : Nat} (hC : AscT C) (hz : vE ts t = 0) (h : Elm (rowV C ts) C.length ts.length ps) (hcn : c < C.length) (hc : redS ps (chiP C (addT t)) c = true) (hlen : (sepT C (sepS ps c)).length ≤ 200) : sepB ts t (sepT C (sepS ps c)) = true := by
  have hA := sepS_asc h.apt hc
  have hL := sepS_lt (ps := ps) h.col hcn
  have hO : ∀ u : Tm, oddB (sepT C (sepS ps c)) (summT u) false = redS ps (chiP C (addT u)) c := fun u => by
    rw [oddB_sep hC hA hL, chi_sum, xsum_perm _ (sepS_perm ps c), xsum_sep h.apt]
  unfold sepB
  rw [if_neg (by omega), if_neg (fun e => e hz), if_neg (by rw [(ascB_iff _).2 (sepT_asc hC hA hL)]; decide), hO t, hc, Bool.and_true]
  rw [List.all_eq_true]
  intro u hu
  obtain ⟨i, hi, rfl⟩ := List.mem_iff_getElem.1 hu
  have e : chiP C (addT ts[i]) = rowV C ts i := by
    unfold rowV
    rw [List.getD_eq_getElem?_getD, List.getElem?_eq_getElem hi]; rfl
  rw [hO, e, (h.left _).2 ⟨_, (bsum_le (rowV C ts) (A := bone i) (m := i + 1) (fun j hj => decide_eq_false (by omega)) (by omega)).trans (bsum_one _ i)⟩]
  rfl
/-- What Refute gives back. -/
def RefuteR (ts : List Tm) (t : Tm) (r : List Tm) (e : Int) : Prop :=
  (¬ vE ts t = 0 ∧ e = vE ts t ∧ r = []) ∨ (vE ts t = 0 ∧ e = 0 ∧ (∀ c, chkB8 ts t c = false) ∧ (r.length ≤ 200 → sepB ts t r = true)) ∨ (vE ts t = 0 ∧ e = 5 ∧ r = [] ∧ ∃ c, chkB8 ts t c = true)
end Go.Proofs.YtfbomoginjknlaaDoor
