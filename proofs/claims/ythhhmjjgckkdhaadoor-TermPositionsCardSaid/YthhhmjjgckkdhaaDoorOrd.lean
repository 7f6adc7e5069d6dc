/-
  THE ORDER OF TERMS: zero only at equals, against the other side, transitive. No program stands here.
-/
import Derived.Test.YthhhmjjgckkdhaaDoorPure
namespace Go.Proofs.YthhhmjjgckkdhaaDoor

/-- Three comparisons that belong to one order. -/
def T3 (p q r : Int) : Prop := (p < 0 → q < 0 → r < 0) ∧ (p = 0 → r = q) ∧ (q = 0 → r = p)

theorem T3.orr {p q r p' q' r' : Int} (h : T3 p q r) (h' : p = 0 → q = 0 → T3 p' q' r') : T3 (orr p p') (orr q q') (orr r r') := by
  obtain ⟨h1, h2, h3⟩ := h
  unfold T3 Go.Proofs.YthhhmjjgckkdhaaDoor.orr
  by_cases hp : p = 0
  · have hr := h2 hp
    by_cases hq : q = 0
    · obtain ⟨g1, g2, g3⟩ := h' hp hq
      have hr0 : r = 0 := by omega
      simp only [hp, hq, hr0, if_true]
      exact ⟨g1, g2, g3⟩
    · have hr0 : ¬ r = 0 := by omega
      simp only [hp, hq, hr0, if_true, if_false]
      refine ⟨fun _ h => by omega, fun _ => hr, fun h => by simp_all⟩
  · by_cases hq : q = 0
    · have hr := h3 hq
      have hr0 : ¬ r = 0 := by omega
      simp only [hp, hq, hr0, if_true, if_false]
      exact ⟨fun h _ => by omega, fun h => by simp_all, fun _ => hr⟩
    · simp only [hp, hq, if_false]
      refine ⟨fun a b => ?_, fun h => by simp_all, fun h => by simp_all⟩
      have := h1 a b
      rw [if_neg (by omega)]; exact this

theorem num_T3 (a b c : Int) : T3 (num a b) (num b c) (num a c) := by
  unfold T3 num
  refine ⟨?_, ?_, ?_⟩ <;> (intros; repeat' split) <;> omega
theorem num_anti (a b : Int) : num b a = -num a b := by
  unfold num; repeat' split <;> omega
theorem num_self (a : Int) : num a a = 0 := by simp [num]
theorem str_T3 (a b c : ByteArray) : T3 (str a b) (str b c) (str a c) := by
  refine ⟨fun h1 h2 => ?_, fun h => ?_, fun h => ?_⟩
  · have e1 : str a b = -1 := by rcases str_range a b with h | h | h <;> omega
    have e2 : str b c = -1 := by rcases str_range b c with h | h | h <;> omega
    have : str a c = -1 := compareBytes_trans _ _ _ e1 e2
    omega
  · rw [(str_zero a b).1 h]
  · rw [(str_zero b c).1 h]
theorem orr_anti (a b : Int) : orr (-a) (-b) = -orr a b := by
  unfold orr; split <;> split <;> omega
theorem T3_zero : T3 0 0 0 := ⟨fun h => by omega, fun _ => rfl, fun _ => rfl⟩

theorem cmpT_self (t : Tm) : cmpT t t = 0 := by
  refine Tm.rec (motive_1 := fun t => cmpT t t = 0) (motive_2 := fun ts => cmpL ts ts = 0) ?_ ?_ ?_ t
  · intro k n s ks ih
    simp only [cmpT, num_self, ih, orr, if_true, (str_zero n n).2 rfl]
  · simp [cmpL]
  · intro t ts h1 h2; simp only [cmpL, h1, h2, orr, if_true]
theorem cmpT_anti (t : Tm) : ∀ u, cmpT u t = -cmpT t u := by
  refine Tm.rec (motive_1 := fun t => ∀ u, cmpT u t = -cmpT t u) (motive_2 := fun ts => ∀ us, cmpL us ts = -cmpL ts us) ?_ ?_ ?_ t
  · intro k n s ks ih u
    obtain ⟨k', n', s', ks'⟩ := u
    simp only [cmpT]
    rw [num_anti ((1 + sizes ks : Nat) : Int), num_anti k, str_anti n, num_anti s, num_anti (ks.length : Int), ih ks', orr_anti, orr_anti, orr_anti, orr_anti, orr_anti]
  · intro us; cases us <;> simp [cmpL]
  · intro t ts h1 h2 us
    cases us with
    | nil => simp [cmpL]
    | cons u us => simp only [cmpL, h1 u, h2 us, orr_anti]
theorem cmpT_T3 (t : Tm) : ∀ u v, T3 (cmpT t u) (cmpT u v) (cmpT t v) := by
  refine Tm.rec (motive_1 := fun t => ∀ u v, T3 (cmpT t u) (cmpT u v) (cmpT t v)) (motive_2 := fun ts => ∀ us vs, ts.length = us.length → us.length = vs.length → T3 (cmpL ts us) (cmpL us vs) (cmpL ts vs)) ?_ ?_ ?_ t
  · intro k n s ks ih u v
    obtain ⟨k', n', s', ks'⟩ := u
    obtain ⟨k'', n'', s'', ks''⟩ := v
    simp only [cmpT]
    refine (num_T3 _ _ _).orr fun _ _ => (num_T3 _ _ _).orr fun _ _ => (str_T3 _ _ _).orr fun _ _ => (num_T3 _ _ _).orr fun _ _ => (num_T3 _ _ _).orr fun h1 h2 => ih ks' ks'' ?_ ?_
    · unfold num at h1; split at h1 <;> (try split at h1) <;> omega
    · unfold num at h2; split at h2 <;> (try split at h2) <;> omega
  · intro us vs h1 h2
    cases us with
    | nil => cases vs with
      | nil => simp only [cmpL]; exact T3_zero
      | cons v vs => simp at h2
    | cons u us => simp at h1
  · intro t ts ht hts us vs h1 h2
    cases us with
    | nil => simp at h1
    | cons u us => cases vs with
      | nil => simp at h2
      | cons v vs =>
        simp only [cmpL]
        exact (ht u v).orr fun _ _ => hts us vs (by simpa using h1) (by simpa using h2)
theorem orr_zero {a b : Int} (h : orr a b = 0) : a = 0 ∧ b = 0 := by
  unfold orr at h; split at h
  · exact ⟨by assumption, h⟩
  · exact absurd h (by assumption)
theorem num_zero' {a b : Int} (h : num a b = 0) : a = b := by
  unfold num at h; split at h <;> (try split at h) <;> omega
theorem cmpT_zero (t : Tm) : ∀ u, cmpT t u = 0 → t = u := by
  refine Tm.rec (motive_1 := fun t => ∀ u, cmpT t u = 0 → t = u) (motive_2 := fun ts => ∀ us, ts.length = us.length → cmpL ts us = 0 → ts = us) ?_ ?_ ?_ t
  · intro k n s ks ih u h
    obtain ⟨k', n', s', ks'⟩ := u
    simp only [cmpT] at h
    obtain ⟨_, h⟩ := orr_zero h
    obtain ⟨h1, h⟩ := orr_zero h
    obtain ⟨h2, h⟩ := orr_zero h
    obtain ⟨h3, h⟩ := orr_zero h
    obtain ⟨h4, h⟩ := orr_zero h
    have h4' := num_zero' h4
    rw [num_zero' h1, (str_zero n n').1 h2, num_zero' h3, ih ks' (by omega) h]
  · intro us hl _
    cases us with
    | nil => rfl
    | cons u us => simp at hl
  · intro t ts ht hts us hl h
    cases us with
    | nil => simp at hl
    | cons u us =>
      simp only [cmpL] at h
      obtain ⟨h1, h2⟩ := orr_zero h
      rw [ht u h1, hts us (by simpa using hl) h2]
theorem cmpT_trans {t u v : Tm} (h1 : cmpT t u < 0) (h2 : cmpT u v < 0) : cmpT t v < 0 := (cmpT_T3 t u v).1 h1 h2
theorem cmpT_ntrans {t u v : Tm} (h1 : ¬ cmpT t u < 0) (h2 : ¬ cmpT u v < 0) : ¬ cmpT t v < 0 := by
  obtain ⟨g1, g2, g3⟩ := cmpT_T3 v u t
  rw [cmpT_anti u v, cmpT_anti t u, cmpT_anti t v] at *
  rcases Int.lt_trichotomy (cmpT u v) 0 with h | h | h
  · omega
  · have := g2 (by omega); omega
  · rcases Int.lt_trichotomy (cmpT t u) 0 with h' | h' | h'
    · omega
    · have := g3 (by omega); omega
    · have := g1 (by omega) (by omega); omega

end Go.Proofs.YthhhmjjgckkdhaaDoor
