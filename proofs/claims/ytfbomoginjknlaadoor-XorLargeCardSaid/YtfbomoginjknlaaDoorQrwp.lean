/-
  THE REFERENCE'S ROWS, on plain data.
-/
import Derived.Test.YtfbomoginjknlaaDoorQspr
import Derived.Test.YtfbomoginjknlaaDoorQplus
import Derived.Test.YtfbomoginjknlaaDoorQone
namespace Go.Proofs.YtfbomoginjknlaaDoor

theorem InSp.zero (V : Nat → Nat → Bool) (m : Nat) : InSp V m b0 := ⟨b0, bsum_zero V m⟩
theorem InSp.row (V : Nat → Nat → Bool) (m : Nat) : InSp V (m + 1) (V m) := ⟨bone m, bsum_one V m⟩
/-- Rows with a column each, added one after another. -/
def redP : List ((Nat → Bool) × Nat) → (Nat → Bool) → Nat → Bool
  | [], x => x
  | r :: rs, x => redP rs (if x r.2 = true then bx x r.1 else x)
theorem step_bm (x s : Nat → Bool) (c : Nat) : (if x c = true then bx x s else x) = bx x (bm (x c) s) := by
  cases x c
  · rw [if_neg (by decide), bm_false, bx_zero]
  · rw [if_pos rfl, bm_true]
theorem redP_bx : ∀ (rs : List ((Nat → Bool) × Nat)) (x y : Nat → Bool), redP rs (bx x y) = bx (redP rs x) (redP rs y)
  | [], _, _ => rfl
  | r :: rs, x, y => by
    rw [redP, redP, redP, ← redP_bx rs, step_bm, step_bm, step_bm]
    congr 1
    show bx (bx x y) (bm (x r.2 ^^ y r.2) r.1) = _
    rw [bm_xor]
    funext i
    simp only [bx, Bool.xor_assoc, Bool.xor_left_comm]
theorem redP_b0 : ∀ rs : List ((Nat → Bool) × Nat), redP rs b0 = b0
  | [] => rfl
  | r :: rs => by
    rw [redP, if_neg (by simp [b0] : ¬ b0 r.2 = true)]
    exact redP_b0 rs
theorem redP_app (r : (Nat → Bool) × Nat) : ∀ (rs : List ((Nat → Bool) × Nat)) (x : Nat → Bool), redP (rs ++ [r]) x = (if redP rs x r.2 = true then bx (redP rs x) r.1 else redP rs x)
  | [], _ => rfl
  | q :: rs, x => by rw [List.cons_append, redP, redP, redP_app r rs]
theorem redP_keep {c : Nat} : ∀ {rs : List ((Nat → Bool) × Nat)} (_ : ∀ q ∈ rs, q.1 c = false) (y : Nat → Bool), redP rs y c = y c
  | [], _, _ => rfl
  | q :: rs, h, y => by
    rw [redP, redP_keep (fun p hp => h p (List.mem_cons_of_mem _ hp)), step_bm]
    show (y c ^^ (y q.2 && q.1 c)) = _
    rw [h q (List.mem_cons_self ..)]; simp
theorem redP_col : ∀ {rs : List ((Nat → Bool) × Nat)} (_ : ∀ r ∈ rs, r.1 r.2 = true) (_ : rs.Pairwise fun p q => q.1 p.2 = false) (x : Nat → Bool) (r : (Nat → Bool) × Nat), r ∈ rs → redP rs x r.2 = false
  | q :: rs, h1, h2, x, r, hr => by
    rw [redP]
    rcases List.mem_cons.1 hr with rfl | hr
    · rw [redP_keep (fun p hp => (List.pairwise_cons.1 h2).1 p hp), step_bm]
      show (x r.2 ^^ (x r.2 && r.1 r.2)) = _
      rw [h1 r (List.mem_cons_self ..)]; simp
    · exact redP_col (fun p hp => h1 p (List.mem_cons_of_mem _ hp)) (List.pairwise_cons.1 h2).2 _ r hr
theorem redP_sp {V : Nat → Nat → Bool} {m : Nat} : ∀ {rs : List ((Nat → Bool) × Nat)} (_ : ∀ r ∈ rs, InSp V m r.1) (x : Nat → Bool), InSp V m (bx x (redP rs x))
  | [], _, x => by rw [redP, bx_self]; exact InSp.zero V m
  | r :: rs, h, x => by
    rw [redP, step_bm]
    have ih := redP_sp (fun p hp => h p (List.mem_cons_of_mem _ hp)) (bx x (bm (x r.2) r.1))
    have h1 : InSp V m (bm (x r.2) r.1) := by
      cases x r.2
      · rw [bm_false]; exact InSp.zero V m
      · rw [bm_true]; exact h r (List.mem_cons_self ..)
    have := h1.bx ih
    rw [bx_assoc, ← bx_assoc (bm (x r.2) r.1) x, bx_comm (bm (x r.2) r.1) x, bx_assoc x, ← bx_assoc (bm (x r.2) r.1) (bm (x r.2) r.1), bx_self, bx_comm b0, bx_zero] at this
    exact this
/-- The state behind m rows. -/
structure Ech (V : Nat → Nat → Bool) (m : Nat) (rs : List ((Nat → Bool) × Nat)) : Prop where
  one : ∀ r ∈ rs, r.1 r.2 = true
  ech : rs.Pairwise fun p q => q.1 p.2 = false
  sp : ∀ r ∈ rs, InSp V m r.1
  red : ∀ k, k < m → redP rs (V k) = b0
theorem Ech.nil (V : Nat → Nat → Bool) : Ech V 0 [] := ⟨fun _ h => absurd h (by simp), List.Pairwise.nil, fun _ h => absurd h (by simp), fun _ h => absurd h (by omega)⟩
theorem Ech.sum {V : Nat → Nat → Bool} {m : Nat} {rs : List ((Nat → Bool) × Nat)} (h : Ech V m rs) (A : Nat → Bool) : ∀ k, k ≤ m → redP rs (bsum V A k) = b0
  | 0, _ => redP_b0 rs
  | k + 1, hk => by
    rw [bsum, redP_bx, h.sum A k (by omega)]
    cases A k
    · rw [bm_false, redP_b0, bx_zero]
    · rw [bm_true, h.red k (by omega), bx_zero]
theorem Ech.left {V : Nat → Nat → Bool} {m : Nat} {rs : List ((Nat → Bool) × Nat)} (h : Ech V m rs) (x : Nat → Bool) : redP rs x = b0 ↔ InSp V m x := by
  constructor
  · intro e
    have := redP_sp h.sp x
    rw [e, bx_zero] at this
    exact this
  · rintro ⟨A, rfl⟩
    exact h.sum A m (Nat.le_refl _)
theorem Ech.skip {V : Nat → Nat → Bool} {m : Nat} {rs : List ((Nat → Bool) × Nat)} (h : Ech V m rs) (h0 : redP rs (V m) = b0) : Ech V (m + 1) rs :=
  ⟨h.one, h.ech, fun r hr => (h.sp r hr).mono (Nat.le_succ _), fun k hk => by
    by_cases e : k = m
    · rw [e]; exact h0
    · exact h.red k (by omega)⟩
theorem Ech.push {V : Nat → Nat → Bool} {m : Nat} {rs : List ((Nat → Bool) × Nat)} (h : Ech V m rs) {c : Nat} (hc : redP rs (V m) c = true) : Ech V (m + 1) (rs ++ [(redP rs (V m), c)]) := by
  have hs := (InSp.row V m).bx ((redP_sp h.sp (V m)).mono (Nat.le_succ m))
  rw [← bx_assoc, bx_self, bx_comm b0, bx_zero] at hs
  refine ⟨fun r hr => ?_, List.pairwise_append.2 ⟨h.ech, List.pairwise_singleton _ _, fun p hp q hq => ?_⟩, fun r hr => ?_, fun k hk => ?_⟩
  · rcases List.mem_append.1 hr with hr | hr
    · exact h.one r hr
    · rw [List.mem_singleton.1 hr]; exact hc
  · rw [List.mem_singleton.1 hq]
    exact redP_col h.one h.ech (V m) p hp
  · rcases List.mem_append.1 hr with hr | hr
    · exact (h.sp r hr).mono (Nat.le_succ _)
    · rw [List.mem_singleton.1 hr]; exact hs
  · rw [redP_app]
    by_cases e : k = m
    · rw [e, if_pos hc, bx_self]
    · rw [h.red k (by omega), if_neg (by simp [b0])]
/-- The greatest summand of a row. -/
def lastT (a : List Tm) : Tm := a.getD (a.length - 1) zilT
theorem lastT_mem {a : List Tm} (h : 0 < a.length) : lastT a ∈ a := by
  unfold lastT
  rw [List.getD_eq_getElem?_getD, List.getElem?_eq_getElem (by omega)]
  exact List.getElem_mem _
/-- The reference's way. -/
def redT : List (List Tm) → List Tm → List Tm
  | [], x => x
  | a :: rs, x => redT rs (if memT x (lastT a) = true then plusT x a else x)
theorem redT_nil : ∀ rs : List (List Tm), redT rs [] = []
  | [] => rfl
  | a :: rs => by
    rw [redT, if_neg (by simp [memT])]
    exact redT_nil rs
def rowsT (ts : List Tm) : Nat → List (List Tm) × List Nat
  | 0 => ([], [])
  | m + 1 => if (redT (rowsT ts m).1 (summT (ts.getD m zilT))).length = 0 then rowsT ts m else ((rowsT ts m).1 ++ [redT (rowsT ts m).1 (summT (ts.getD m zilT))], (rowsT ts m).2 ++ [m])
/-- A row among columns. -/
structure RowC (C : List Tm) (p : List Tm × Nat) : Prop where
  asc : AscT p.1
  sub : ∀ u ∈ p.1, u ∈ C
  pos : 0 < p.1.length
  col : C[p.2]? = some (lastT p.1)
def chR (C : List Tm) (p : List Tm × Nat) : (Nat → Bool) × Nat := (chiP C p.1, p.2)
theorem redT_chi {C : List Tm} : ∀ (L : List (List Tm × Nat)) (_ : ∀ p ∈ L, RowC C p) (x : List Tm) (_ : AscT x) (_ : ∀ u ∈ x, u ∈ C),
    chiP C (redT (L.map (·.1)) x) = redP (L.map (chR C)) (chiP C x) ∧ AscT (redT (L.map (·.1)) x) ∧ ∀ u ∈ redT (L.map (·.1)) x, u ∈ C
  | [], _, x, h1, h2 => ⟨rfl, h1, h2⟩
  | p :: L, h, x, h1, h2 => by
    have hp := h p (List.mem_cons_self ..)
    have ho := OddS.plus p.1 (OddS.self h1)
    have hm : memT x (lastT p.1) = chiP C x p.2 := by
      have a := (memT_iff x (lastT p.1))
      have b := chi_mem h1 p.2 _ hp.col
      cases h3 : memT x (lastT p.1) <;> cases h4 : chiP C x p.2
      · rfl
      · rw [a.2 (b.1 h4)] at h3; cases h3
      · rw [b.2 (a.1 h3)] at h4; cases h4
      · rfl
    rw [List.map_cons, List.map_cons, redT, redP, hm]
    show _ = redP _ (if chiP C x p.2 = true then bx (chiP C x) (chiP C p.1) else chiP C x) ∧ _
    cases chiP C x p.2
    · exact redT_chi L (fun q hq => h q (List.mem_cons_of_mem _ hq)) x h1 h2
    · rw [if_pos rfl, if_pos rfl, ← chiP_app, ← chiP_odd ho]
      exact redT_chi L (fun q hq => h q (List.mem_cons_of_mem _ hq)) _ ho.asc fun u hu => (plusT_mem hu).elim (h2 u) (hp.sub u)
theorem chi_empty {C x : List Tm} (h1 : AscT x) (h2 : ∀ u ∈ x, u ∈ C) : chiP C x = b0 ↔ x.length = 0 := by
  constructor
  · intro e
    rw [chi_one (K := x) (L := []) h1 List.Pairwise.nil h2 (fun u hu => absurd hu (by simp)) (by rw [e, chiP_nil])]; rfl
  · intro e
    rw [List.length_eq_zero_iff.1 e, chiP_nil]
theorem summT_asc (t : Tm) : AscT (summT t) := (summT_odd t).asc
/-- What the rows are, and what the basis is. -/
theorem rowsT_ech {C ts : List Tm} (hC : ∀ x ∈ ts, ∀ u ∈ summT x, u ∈ C) : ∀ m, m ≤ ts.length →
    (rowsT ts m).2.length = (rowsT ts m).1.length ∧ (rowsT ts m).1.length ≤ m ∧ (rowsT ts m).2.Pairwise (· < ·) ∧ (∀ i, i ∈ (rowsT ts m).2 ↔ (i < m ∧ ¬ InSp (rowV C ts) i (rowV C ts i))) ∧
    ∃ L : List (List Tm × Nat), (rowsT ts m).1 = L.map (·.1) ∧ (∀ p ∈ L, RowC C p) ∧ Ech (rowV C ts) m (L.map (chR C))
  | 0, _ => ⟨rfl, Nat.le_refl _, List.Pairwise.nil, fun i => by simp [rowsT], [], rfl, fun _ h => absurd h (by simp), Ech.nil _⟩
  | m + 1, hm => by
    obtain ⟨h1, h2, h3, h4, L, h5, h6, h7⟩ := rowsT_ech hC m (by omega)
    have hml : m < ts.length := by omega
    have hg : ts.getD m zilT = ts[m] := by rw [List.getD_eq_getElem?_getD, List.getElem?_eq_getElem hml]; rfl
    have hs := hC ts[m] (List.getElem_mem hml)
    obtain ⟨r1, r2, r3⟩ := redT_chi L h6 (summT ts[m]) (summT_asc _) hs
    have hV : chiP C (summT ts[m]) = rowV C ts m := by unfold rowV; rw [hg, chi_sum]
    rw [hV] at r1
    have hx : redT (rowsT ts m).1 (summT (ts.getD m zilT)) = redT (L.map (·.1)) (summT ts[m]) := by rw [h5, hg]
    rw [rowsT, hx]
    generalize redT (L.map (·.1)) (summT ts[m]) = x at r1 r2 r3
    by_cases h0 : x.length = 0
    · rw [if_pos h0]
      rw [(chi_empty r2 r3).2 h0] at r1
      have hin := (h7.left _).1 r1.symm
      refine ⟨h1, by omega, h3, fun i => ?_, L, h5, h6, h7.skip r1.symm⟩
      rw [h4]
      by_cases e : i = m
      · subst e
        exact ⟨fun y => absurd y.1 (by omega), fun y => absurd hin y.2⟩
      · exact ⟨fun y => ⟨by omega, y.2⟩, fun y => ⟨by omega, y.2⟩⟩
    · rw [if_neg h0]
      have hpos : 0 < x.length := by omega
      obtain ⟨c, hc⟩ := List.mem_iff_getElem?.1 (r3 _ (lastT_mem hpos))
      have hcx : chiP C x c = true := (chi_mem r2 c _ hc).2 (lastT_mem hpos)
      rw [r1] at hcx
      have hnin : ¬ InSp (rowV C ts) m (rowV C ts m) := fun y => h0 ((chi_empty r2 r3).1 (by rw [r1]; exact (h7.left _).2 y))
      refine ⟨by simp [h1], by simp; omega, ?_, fun i => ?_, L ++ [(x, c)], by simp [h5], fun p hp => ?_, ?_⟩
      · refine List.pairwise_append.2 ⟨h3, List.pairwise_singleton _ _, fun a ha b hb => ?_⟩
        rw [List.mem_singleton.1 hb]
        exact ((h4 a).1 ha).1
      · rw [List.mem_append, h4, List.mem_singleton]
        by_cases e : i = m
        · subst e
          exact ⟨fun _ => ⟨by omega, hnin⟩, fun _ => Or.inr rfl⟩
        · constructor
          · rintro (y | y)
            · exact ⟨by omega, y.2⟩
            · exact absurd y e
          · intro y
            exact Or.inl ⟨by omega, y.2⟩
      · rcases List.mem_append.1 hp with hp | hp
        · exact h6 p hp
        · rw [List.mem_singleton.1 hp]; exact ⟨r2, r3, hpos, hc⟩
      · have := h7.push hcx
        rw [List.map_append, List.map_cons, List.map_nil]
        show Ech _ _ (_ ++ [(chiP C x, c)])
        rw [r1]
        exact this
/-- Ascending terms among ascending ones are few. -/
theorem asc_sub_len : ∀ (C x : List Tm), AscT C → AscT x → (∀ u ∈ x, u ∈ C) → x.length ≤ C.length
  | [], x, _, _, h => by
    cases x with
    | nil => exact Nat.le_refl _
    | cons y x => exact absurd (h y (List.mem_cons_self ..)) (by simp)
  | c :: C, [], _, _, _ => Nat.zero_le _
  | c :: C, y :: x, hC, hx, h => by
    have c1 := (List.pairwise_cons.1 hC).1
    have x1 := (List.pairwise_cons.1 hx).1
    have hlow : ∀ u ∈ x, u ∈ C := fun u hu => by
      rcases List.mem_cons.1 (h u (List.mem_cons_of_mem _ hu)) with e | h2
      · exfalso
        have h3 := x1 u hu
        rw [e] at h3
        rcases List.mem_cons.1 (h y (List.mem_cons_self ..)) with e2 | h4
        · rw [e2, cmpT_self] at h3; omega
        · have := cmpT_trans h3 (c1 y h4)
          rw [cmpT_self] at this; omega
      · exact h2
    have := asc_sub_len C x (List.pairwise_cons.1 hC).2 (List.pairwise_cons.1 hx).2 hlow
    simp only [List.length_cons]
    omega
/-- The reference's basis is the code's. -/
theorem basis_eq {C ts : List Tm} {n : Nat} {ps : List PivB} (hC : ∀ x ∈ ts, ∀ u ∈ summT x, u ∈ C) (h : Elm (rowV C ts) n ts.length ps) : (rowsT ts ts.length).2 = ps.map (·.i) := by
  obtain ⟨_, _, h3, h4, _⟩ := rowsT_ech hC ts.length (Nat.le_refl _)
  exact asc_oneN _ _ h3 h.asc fun i => by rw [h4, h.basis]
theorem chk_some {C ts : List Tm} {t : Tm} (hC : ∀ x ∈ ts, ∀ u ∈ summT x, u ∈ C) (ht : ∀ u ∈ summT t, u ∈ C) (hz : vE ts t = 0) : InSp (rowV C ts) ts.length (chiP C (addT t)) ↔ ∃ c, chkB8 ts t c = true := by
  constructor
  · rintro ⟨A, hA⟩
    refine ⟨onesI ts.length A, (chk_iff hC ht _ hz).2 ⟨idxB_ones _ _, ?_⟩⟩
    rw [bsum_congr _ (chosen_ones ts.length A)]
    exact hA
  · rintro ⟨c, hc⟩
    exact ⟨_, ((chk_iff hC ht c hz).1 hc).2⟩
theorem red_some {C ts : List Tm} {t : Tm} (hC : ∀ x ∈ ts, ∀ u ∈ summT x, u ∈ C) (ht : ∀ u ∈ summT t, u ∈ C) (hz : vE ts t = 0) : (redT (rowsT ts ts.length).1 (summT t)).length = 0 ↔ ∃ c, chkB8 ts t c = true := by
  obtain ⟨_, _, _, _, L, h5, h6, h7⟩ := rowsT_ech hC ts.length (Nat.le_refl _)
  obtain ⟨r1, r2, r3⟩ := redT_chi L h6 (summT t) (summT_asc t) ht
  rw [h5, ← chk_some hC ht hz, ← h7.left, ← chi_sum, ← r1, chi_empty r2 r3]
end Go.Proofs.YtfbomoginjknlaaDoor
