/-
  THE LAW SubstAgain, pure part: the marks say what occurs; a restriction does the same; an idempotent substitution has no further effect.
-/
import Derived.Test.YtkfbbkkfagglhaaGreatDoorSought
import Derived.Test.YtkfbbkkfagglhaaGreatDoorRhas
import Derived.BigQuiet
import Derived.Laws.OwnMore
import Derived.Deep.RegionHeld3
import Derived.Test.YtkfbbkkfagglhaaGreatDoorSbcopy
import Derived.Test.YtkfbbkkfagglhaaGreatDoorExs
import Derived.Test.YtkfbbkkfagglhaaGreatDoorLawFitsW
namespace Go.Proofs.YtkfbbkkfagglhaaGreatDoor
open Go.RowKit

theorem cmp_iff (t u : Tm) : cmpT t u = 0 ↔ t = u := ⟨cmpT_zero t u, fun h => by rw [h]; exact cmpT_self u⟩
theorem hasT_iff (L : List Tm) (v : Tm) : hasT L v = true ↔ v ∈ L := by
  unfold hasT
  simp only [List.any_eq_true, beq_iff_eq, cmp_iff]
  constructor
  · rintro ⟨u, hu, rfl⟩; exact hu
  · exact fun h => ⟨v, h, rfl⟩
theorem hasT_same {L M : List Tm} (h : ∀ u, u ∈ L ↔ u ∈ M) (v : Tm) : hasT L v = hasT M v := by
  rw [Bool.eq_iff_iff, hasT_iff, hasT_iff]; exact h v
mutual
theorem post_sub : ∀ (t u : Tm), u ∈ postT t ↔ u ∈ subT t
  | .mk k n s ks, u => by
    simp only [postT, subT, List.mem_append, List.mem_cons, postL_sub ks u, List.not_mem_nil, or_false]
    exact Or.comm
theorem postL_sub : ∀ (ts : List Tm) (u : Tm), u ∈ postL ts ↔ u ∈ subL ts
  | [], u => by rw [postL, subL]
  | t :: ts, u => by rw [postL, subL, List.mem_append, List.mem_append, post_sub t u, postL_sub ts u]
end
/-- What marking one term does to the marks. -/
theorem mark1_f : ∀ (vs : List Sv) (x : Tm) (i : Nat) (h : i < vs.length) (h' : i < (mark1 vs x).length), (mark1 vs x)[i].f = true ↔ vs[i].f = true ∨ (vs[i].t = x ∧ ∀ j (hj : j < i), ¬ (vs[j]'(by omega)).t = x)
  | v :: vs, x, i, h, h' => by
    by_cases hc : cmpT v.t x = 0
    · have he := cmpT_zero _ _ hc
      have e : mark1 (v :: vs) x = { v with f := true } :: vs := by rw [mark1, if_pos hc]
      simp only [e]
      cases i with
      | zero => simp [he]
      | succ i =>
        simp only [List.getElem_cons_succ]
        constructor
        · exact Or.inl
        · rintro (h1 | ⟨_, h2⟩)
          · exact h1
          · exact absurd he (h2 0 (by omega))
    · have hne : ¬ v.t = x := fun e => hc ((cmp_iff _ _).2 e)
      have e : mark1 (v :: vs) x = v :: mark1 vs x := by rw [mark1, if_neg hc]
      simp only [e]
      cases i with
      | zero => simp [hne]
      | succ i =>
        have hi : i < vs.length := by simpa using h
        simp only [List.getElem_cons_succ]
        rw [mark1_f vs x i hi (by rw [(mark1_alike vs x).1]; exact hi)]
        constructor
        · rintro (h1 | ⟨h1, h2⟩)
          · exact Or.inl h1
          · refine Or.inr ⟨h1, fun j hj => ?_⟩
            cases j with
            | zero => exact hne
            | succ j => exact h2 j (by omega)
        · rintro (h1 | ⟨h1, h2⟩)
          · exact Or.inl h1
          · exact Or.inr ⟨h1, fun j hj => h2 (j + 1) (by omega)⟩
/-- No equal term stands before it. -/
def FirstV (vs : List Sv) (i : Nat) (h : i < vs.length) : Prop := ∀ j (hj : j < i), ¬ (vs[j]'(by omega)).t = vs[i].t
theorem markP_f : ∀ (L : List Tm) (vs : List Sv) (i : Nat) (h : i < vs.length) (h' : i < (markP vs L).length), (markP vs L)[i].f = true ↔ vs[i].f = true ∨ (vs[i].t ∈ L ∧ FirstV vs i h)
  | [], vs, i, h, h' => by
    have e : markP vs [] = vs := rfl
    simp [e]
  | x :: L, vs, i, h, h' => by
    have e : markP vs (x :: L) = markP (mark1 vs x) L := rfl
    have ha := mark1_alike vs x
    have hi : i < (mark1 vs x).length := by rw [ha.1]; exact h
    simp only [e]
    rw [markP_f L (mark1 vs x) i hi (by rw [(markP_alike _ L).1]; exact hi), mark1_f vs x i h hi, (ha.2 i h hi).1]
    have hF : FirstV (mark1 vs x) i hi ↔ FirstV vs i h := by
      unfold FirstV
      constructor
      · intro g j hj
        have := g j hj
        rw [(ha.2 j (by omega) (by omega)).1, (ha.2 i h hi).1] at this
        exact this
      · intro g j hj
        rw [(ha.2 j (by omega) (by omega)).1, (ha.2 i h hi).1]
        exact g j hj
    rw [hF, List.mem_cons]
    constructor
    · rintro ((h1 | ⟨h1, h2⟩) | ⟨h1, h2⟩)
      · exact Or.inl h1
      · exact Or.inr ⟨Or.inl h1, fun j hj => by rw [h1]; exact h2 j hj⟩
      · exact Or.inr ⟨Or.inr h1, h2⟩
    · rintro (h1 | ⟨h1 | h1, h2⟩)
      · exact Or.inl (Or.inl h1)
      · exact Or.inl (Or.inr ⟨h1, fun j hj => by rw [← h1]; exact h2 j hj⟩)
      · exact Or.inr ⟨h1, h2⟩
/-- In a sorted list the first one of equal terms has another term before it, or none. -/
theorem first_pred {vs : List Sv} (hs : SortedV vs) {i : Nat} (h : i + 1 < vs.length) (hc : ¬ cmpT vs[i + 1].t vs[i].t = 0) : FirstV vs (i + 1) h := fun j hj e => by
  rcases Nat.lt_or_ge j i with hji | hji
  · have h1 := hs j i (by omega) (by omega) hji
    have h2 := hs i (i + 1) (by omega) h (by omega)
    rw [e] at h1
    have h3 := cmpT_anti vs[i].t vs[i + 1].t
    exact hc (by omega)
  · obtain rfl : j = i := by omega
    exact hc ((cmp_iff _ _).2 e.symm)
theorem first_zero {vs : List Sv} (h : 0 < vs.length) : FirstV vs 0 h := fun _ hj => absurd hj (Nat.not_lt_zero _)
/-- The variables of bindings, as they are sought. -/
def SoughtOf (bs : List Bd) (vs : List Sv) : Prop := vs.length = bs.length ∧ SortedV vs ∧ (∀ v ∈ vs, v.f = false ∧ ∃ h : v.i < bs.length, v.t = bs[v.i].1) ∧ ∀ i, i < bs.length → ∃ v ∈ vs, v.i = i
/-- The marks while equal terms are gone through: those before j say what occurs, the others are as they were. -/
def OccAt (L : List Tm) (vs us : List Sv) (j : Nat) : Prop := Alike vs us ∧ ∀ k (h : k < vs.length) (h' : k < us.length), us[k].f = if k < j then hasT L vs[k].t else (markP vs L)[k]'(by rw [(markP_alike vs L).1]; exact h) |>.f
theorem occ_start (L : List Tm) (vs : List Sv) : OccAt L vs (markP vs L) 0 := ⟨markP_alike vs L, fun k h h' => by rw [if_neg (Nat.not_lt_zero _)]⟩
theorem occ_first {L : List Tm} {vs us : List Sv} {j : Nat} (hu : OccAt L vs us j) (hf : ∀ v ∈ vs, v.f = false) (h : j < vs.length) (h' : j < us.length) (hF : FirstV vs j h) : us[j].f = hasT L vs[j].t ∧ OccAt L vs us (j + 1) := by
  have e : us[j].f = hasT L vs[j].t := by
    rw [hu.2 j h h', if_neg (Nat.lt_irrefl _), Bool.eq_iff_iff, markP_f L vs j h, hasT_iff, hf _ (List.getElem_mem h)]
    constructor
    · rintro (h1 | ⟨h1, _⟩)
      · cases h1
      · exact h1
    · exact fun h1 => Or.inr ⟨h1, hF⟩
  refine ⟨e, hu.1, fun k hk hk' => ?_⟩
  by_cases hkj : k = j
  · subst hkj; rw [if_pos (by omega)]; exact e
  · rw [hu.2 k hk hk']
    by_cases hlt : k < j
    · rw [if_pos hlt, if_pos (by omega)]
    · rw [if_neg hlt, if_neg (by omega)]
theorem occ_next {L : List Tm} {vs us : List Sv} {j : Nat} (hu : OccAt L vs us (j + 1)) (h : j + 1 < vs.length) (h' : j + 1 < us.length) (hc : cmpT us[j + 1].t us[j].t = 0) : us[j].f = hasT L vs[j + 1].t ∧ OccAt L vs (us.set (j + 1) { us[j + 1] with f := us[j].f }) (j + 2) := by
  have e1 : vs[j + 1].t = vs[j].t := by
    have := cmpT_zero _ _ hc
    rw [(hu.1.2 (j + 1) h h').1, (hu.1.2 j (by omega) (by omega)).1] at this
    exact this
  have e : us[j].f = hasT L vs[j + 1].t := by rw [hu.2 j (by omega) (by omega), if_pos (by omega), e1]
  refine ⟨e, ⟨by rw [List.length_set]; exact hu.1.1, fun k hk hk' => ?_⟩, fun k hk hk' => ?_⟩
  · have hku : k < us.length := by simpa using hk'
    rw [List.getElem_set]
    by_cases hkj : j + 1 = k
    · subst hkj; rw [if_pos rfl]; exact hu.1.2 _ hk hku
    · rw [if_neg hkj]; exact hu.1.2 k hk hku
  · have hku : k < us.length := by simpa using hk'
    rw [List.getElem_set]
    by_cases hkj : j + 1 = k
    · subst hkj; rw [if_pos rfl, if_pos (by omega)]; exact e
    · rw [if_neg hkj, hu.2 k hk hku]
      by_cases hlt : k < j + 1
      · rw [if_pos hlt, if_pos (by omega)]
      · rw [if_neg hlt, if_neg (by omega)]
/-- Which variables of bindings are in a list. -/
def occB (L : List Tm) (bs : List Bd) : List Bool := bs.map (fun b => hasT L b.1)
/-- What has been written down of the first j sought terms. -/
def OutAt (L : List Tm) (vs : List Sv) (os : List Bool) (j : Nat) : Prop := ∀ k (h : k < vs.length), k < j → os[vs[k].i]? = some (hasT L vs[k].t)
theorem out_next {L : List Tm} {vs : List Sv} {os : List Bool} {j : Nat} (ho : OutAt L vs os j) (h : j < vs.length) (hi : vs[j].i < os.length) {bs : List Bd} (hb : ∀ v ∈ vs, ∃ h : v.i < bs.length, v.t = bs[v.i].1) : OutAt L vs (os.set vs[j].i (hasT L vs[j].t)) (j + 1) := fun k hk hkj => by
  rw [List.getElem?_set]
  by_cases e : vs[j].i = vs[k].i
  · rw [if_pos e, if_pos hi]
    obtain ⟨h1, e1⟩ := hb _ (List.getElem_mem h)
    obtain ⟨h2, e2⟩ := hb _ (List.getElem_mem hk)
    have : vs[j].t = vs[k].t := by rw [e1, e2]; simp only [e]
    rw [this]
  · rw [if_neg e]
    exact ho k hk (by
      rcases Nat.lt_or_ge k j with h3 | h3
      · exact h3
      · obtain rfl : k = j := by omega
        exact absurd rfl e)
theorem out_done {L : List Tm} {bs : List Bd} {vs : List Sv} {os : List Bool} (hs : SoughtOf bs vs) (hl : os.length = bs.length) (ho : OutAt L vs os vs.length) : os = occB L bs := by
  refine List.ext_getElem (by rw [occB, List.length_map, hl]) fun i hi hi' => ?_
  obtain ⟨v, hv, rfl⟩ := hs.2.2.2 i (by omega)
  obtain ⟨k, hk, rfl⟩ := List.getElem_of_mem hv
  obtain ⟨_, hb, e⟩ := hs.2.2.1 _ hv
  have := ho k hk hk
  rw [List.getElem?_eq_getElem hi, Option.some.injEq] at this
  rw [this, e]
  simp [occB]
theorem idemB_occ (bs : List Bd) : idemB bs bs = !((occB (postL (bs.map (·.2))) bs).any (fun x => x == true)) := by
  rw [Bool.eq_iff_iff]
  simp only [idemB, idemK, occB, List.all_eq_true, Bool.not_eq_true', List.any_map, List.any_eq_false, Function.comp_apply, beq_iff_eq]
  have hm : ∀ (bs : List Bd) (u : Tm), u ∈ postL (bs.map (·.2)) ↔ ∃ c ∈ bs, u ∈ subT c.2 := by
    intro bs u
    induction bs with
    | nil => simp [postL]
    | cons b bs ih => rw [List.map_cons, postL, List.mem_append, ih, post_sub]; simp
  constructor
  · intro h b hb e
    rw [hasT_iff, hm] at e
    obtain ⟨c, hc, hu⟩ := e
    have := h b hb c hc
    rw [← Bool.not_eq_true, hasT_iff] at this
    exact this hu
  · intro h b hb c hc
    rw [← Bool.not_eq_true, hasT_iff]
    intro hu
    exact h b hb ((hasT_iff _ _).2 ((hm bs _).2 ⟨c, hc, hu⟩))
theorem keptB_same {L M : List Tm} (h : ∀ u, u ∈ L ↔ u ∈ M) (bs : List Bd) : keptB L bs = keptB M bs := by
  unfold keptB
  exact List.filter_congr fun b _ => hasT_same h b.1
theorem set_post (l : List Tm) : ∀ u, u ∈ setT (subL l) ↔ u ∈ postL l := fun u => by rw [setT_mem, postL_sub]

theorem getB_kept {L : List Tm} {x : Tm} (hx : x ∈ L) : ∀ bs : List Bd, getB (keptB L bs) x = getB bs x
  | [] => rfl
  | b :: bs => by
    have ih := getB_kept hx bs
    unfold keptB at ih ⊢
    rw [List.filter_cons, getB]
    by_cases hc : cmpT b.1 x = 0
    · have : hasT L b.1 = true := by rw [hasT_iff, cmpT_zero _ _ hc]; exact hx
      rw [if_pos this, getB, if_pos hc, if_pos hc]
    · rw [if_neg hc]
      by_cases hh : hasT L b.1 = true
      · rw [if_pos hh, getB, if_neg hc]; exact ih
      · rw [if_neg hh]; exact ih
mutual
theorem apT_kept {L : List Tm} (bs : List Bd) : ∀ t : Tm, (∀ u ∈ subT t, u ∈ L) → apT (keptB L bs) t = apT bs t
  | .mk k n s ks, h => by
    have h1 := getB_kept (h (.mk k n s ks) (by rw [subT]; exact List.mem_cons_self ..)) bs
    have h2 := apL_kept bs ks (fun u hu => h u (by rw [subT]; exact List.mem_cons_of_mem _ hu))
    rw [apT, apT, h1, h2]
theorem apL_kept {L : List Tm} (bs : List Bd) : ∀ ts : List Tm, (∀ u ∈ subL ts, u ∈ L) → apL (keptB L bs) ts = apL bs ts
  | [], _ => by rw [apL, apL]
  | t :: ts, h => by
    rw [apL, apL, apT_kept bs t (fun u hu => h u (by rw [subL]; exact List.mem_append_left _ hu)), apL_kept bs ts (fun u hu => h u (by rw [subL]; exact List.mem_append_right _ hu))]
end
mutual
theorem apT_free {bs : List Bd} : ∀ t : Tm, (∀ b ∈ bs, b.1 ∉ subT t) → apT bs t = t
  | .mk k n s ks, h => by
    have h1 : getB bs (.mk k n s ks) = none := getB_none fun b hb hc => h b hb (by rw [cmpT_zero _ _ hc, subT]; exact List.mem_cons_self ..)
    have h2 := apL_free ks (fun b hb hu => h b hb (by rw [subT]; exact List.mem_cons_of_mem _ hu))
    rw [apT, h1, h2]
    by_cases hk : k = 1
    · rw [if_pos hk]
    · rw [if_neg hk]
theorem apL_free {bs : List Bd} : ∀ ts : List Tm, (∀ b ∈ bs, b.1 ∉ subL ts) → apL bs ts = ts
  | [], _ => by rw [apL]
  | t :: ts, h => by
    rw [apL, apT_free t (fun b hb hu => h b hb (by rw [subL]; exact List.mem_append_left _ hu)), apL_free ts (fun b hb hu => h b hb (by rw [subL]; exact List.mem_append_right _ hu))]
end
theorem getB_mem {bs : List Bd} {x u : Tm} (h : getB bs x = some u) : ∃ b ∈ bs, b.1 = x ∧ b.2 = u := by
  induction bs with
  | nil => simp [getB] at h
  | cons b bs ih =>
    rw [getB] at h
    by_cases hc : cmpT b.1 x = 0
    · rw [if_pos hc, Option.some.injEq] at h
      exact ⟨b, List.mem_cons_self .., cmpT_zero _ _ hc, h⟩
    · rw [if_neg hc] at h
      obtain ⟨c, hm, e⟩ := ih h
      exact ⟨c, List.mem_cons_of_mem _ hm, e⟩
theorem nodesL_parts {t : Tm} {ts : List Tm} (h : nodesL (t :: ts) = 0) : nodesE t = 0 ∧ nodesL ts = 0 := by
  rw [nodesL] at h
  by_cases h0 : nodesE t = 0
  · rw [if_pos h0] at h; exact ⟨h0, h⟩
  · rw [if_neg h0] at h; exact absurd h h0
mutual
theorem apT_idem {bs : List Bd} (hi : idemB bs bs = true) : ∀ t : Tm, nodesE t = 0 → apT bs (apT bs t) = apT bs t
  | .mk k n s ks, h => by
    obtain ⟨h0, h1⟩ := nodesE_parts h
    by_cases hk : k = 1
    · subst hk
      obtain rfl := nodeE_var h0
      cases hg : getB bs (.mk 1 n s []) with
      | none =>
        have e : apT bs (.mk 1 n s []) = .mk 1 n s [] := by rw [apT, if_pos rfl, hg, apL]
        rw [e, e]
      | some u =>
        have e : apT bs (.mk 1 n s []) = u := by rw [apT, if_pos rfl, hg]
        rw [e]
        obtain ⟨c, hc, _, rfl⟩ := getB_mem hg
        refine apT_free c.2 fun b hb hu => ?_
        simp only [idemB, idemK, List.all_eq_true, Bool.not_eq_true'] at hi
        have := hi b hb c hc
        rw [← Bool.not_eq_true, hasT_iff] at this
        exact this hu
    · have e : ∀ ts, apT bs (.mk k n s ts) = .mk k n s (apL bs ts) := fun ts => by rw [apT, if_neg hk]
      rw [e, e, apL_idem hi ks h1]
theorem apL_idem {bs : List Bd} (hi : idemB bs bs = true) : ∀ ts : List Tm, nodesL ts = 0 → apL bs (apL bs ts) = apL bs ts
  | [], _ => by rw [apL, apL]
  | t :: ts, h => by
    obtain ⟨h1, h2⟩ := nodesL_parts h
    rw [apL, apL, apT_idem hi t h1, apL_idem hi ts h2]
end
theorem vloop_kept : ∀ (bs : List Bd) (p : Option Tm), (∀ b ∈ bs, bindE b.1 b.2 = 0) → bs.Pairwise (fun a b => cmpT a.1 b.1 < 0) → (∀ q, p = some q → ∀ b ∈ bs, cmpT q b.1 < 0) → vloop p bs = 0
  | [], p, _, _, _ => by cases p <;> rfl
  | b :: bs, p, h1, h2, h3 => by
    have ih := vloop_kept bs (some b.1) (fun c hc => h1 c (List.mem_cons_of_mem _ hc)) (List.pairwise_cons.1 h2).2 (fun q hq c hc => by simp only [Option.some.injEq] at hq; subst hq; exact (List.pairwise_cons.1 h2).1 c hc)
    rw [vloop_cons, if_pos (h1 b (List.mem_cons_self ..))]
    cases p with
    | none => exact ih
    | some q =>
      simp only
      have := h3 q rfl b (List.mem_cons_self ..)
      rw [if_neg (by omega)]; exact ih
theorem validB_kept (L : List Tm) {bs : List Bd} (h : validB bs = 0) : validB (keptB L bs) = 0 := by
  obtain ⟨h1, h2, h3⟩ := validB_ok h
  have hp : bs.Pairwise (fun a b => cmpT a.1 b.1 < 0) := by
    rw [List.pairwise_iff_getElem]
    exact fun i j hi hj hij => h3 i j hi hj hij
  have hl := keptB_len L bs
  unfold validB
  rw [if_neg (by omega)]
  exact vloop_kept _ _ (fun b hb => h2 b ((List.mem_filter.1 hb).1)) (hp.filter _) (fun q hq => by simp at hq)
theorem applyP_at {bs : List Bd} {t : Tm} (h : (applyP bs t).2 = 0) : applyP bs t = (apT bs t, 0) ∧ validE t = 0 ∧ validE (apT bs t) = 0 := by
  unfold applyP at h ⊢
  by_cases e1 : validE t = 0
  · rw [if_pos e1] at h ⊢
    by_cases e2 : validE (apT bs t) = 0
    · rw [if_pos e2]; exact ⟨rfl, e1, e2⟩
    · rw [if_neg e2] at h; exact absurd h e2
  · rw [if_neg e1] at h; exact absurd h e1
theorem allP_ok : ∀ {bs : List Bd} {l : List Tm}, (allP bs l).2 = 0 → (∀ t ∈ l, validE t = 0 ∧ validE (apT bs t) = 0) ∧ (allP bs l).1 = l.map (apT bs)
  | bs, [], _ => ⟨fun t ht => by simp at ht, rfl⟩
  | bs, t :: ts, h => by
    rw [allP] at h
    by_cases h0 : (applyP bs t).2 = 0
    · rw [if_pos h0] at h
      by_cases h1 : (allP bs ts).2 = 0
      · obtain ⟨i1, i2⟩ := allP_ok h1
        obtain ⟨a1, a2, a3⟩ := applyP_at h0
        refine ⟨fun u hu => ?_, ?_⟩
        · rcases List.mem_cons.1 hu with rfl | hu
          · exact ⟨a2, a3⟩
          · exact i1 u hu
        · rw [allP, if_pos h0, if_pos h1, i2, a1]; rfl
      · rw [if_neg h1] at h; exact absurd h h1
    · rw [if_neg h0] at h; exact absurd h h0
theorem allP_mk {bs : List Bd} : ∀ {l : List Tm}, (∀ t ∈ l, validE t = 0 ∧ validE (apT bs t) = 0) → allP bs l = (l.map (apT bs), 0)
  | [], _ => rfl
  | t :: ts, h => by
    have ih := allP_mk (l := ts) (fun u hu => h u (List.mem_cons_of_mem _ hu))
    obtain ⟨h1, h2⟩ := h t (List.mem_cons_self ..)
    have e : applyP bs t = (apT bs t, 0) := by unfold applyP; rw [if_pos h1, if_pos h2]
    rw [allP, e, ih]; rfl
theorem allV_ok {bs : List Bd} {l : List Tm} (h : (allV bs l).2 = 0) : validB bs = 0 ∧ l.length ≤ 200 ∧ (∀ t ∈ l, validE t = 0 ∧ validE (apT bs t) = 0) ∧ (allV bs l).1 = l.map (apT bs) := by
  unfold allV at h ⊢
  by_cases h0 : validB bs = 0
  · rw [if_pos h0] at h ⊢
    by_cases h1 : 200 < l.length
    · rw [if_pos h1] at h; simp at h
    · rw [if_neg h1] at h ⊢
      obtain ⟨a, b⟩ := allP_ok h
      exact ⟨h0, by omega, a, b⟩
  · rw [if_neg h0] at h; exact absurd h h0
theorem allV_mk {bs : List Bd} {l : List Tm} (h0 : validB bs = 0) (h1 : l.length ≤ 200) (h : ∀ t ∈ l, validE t = 0 ∧ validE (apT bs t) = 0) : allV bs l = (l.map (apT bs), 0) := by
  unfold allV
  rw [if_pos h0, if_neg (by omega)]
  exact allP_mk h
theorem subL_of {l : List Tm} {t u : Tm} (ht : t ∈ l) (hu : u ∈ subT t) : u ∈ subL l := by
  induction l with
  | nil => simp at ht
  | cons x l ih =>
    rw [subL, List.mem_append]
    rcases List.mem_cons.1 ht with rfl | ht
    · exact Or.inl hu
    · exact Or.inr (ih ht)
/-- The restriction does the same to the terms. -/
theorem again_kept {bs : List Bd} {l : List Tm} (h : (allV bs l).2 = 0) : allV (keptB (setT (subL l)) bs) l = allV bs l := by
  obtain ⟨h1, h2, h3, h4⟩ := allV_ok h
  have hk : ∀ t ∈ l, apT (keptB (setT (subL l)) bs) t = apT bs t := fun t ht => apT_kept bs t fun u hu => (setT_mem _ _).2 (subL_of ht hu)
  rw [allV_mk (validB_kept _ h1) h2 (fun t ht => by rw [hk t ht]; exact h3 t ht), allV_mk h1 h2 h3]
  exact Prod.ext (List.map_congr_left hk) rfl
/-- An idempotent substitution has no further effect. -/
theorem again_idem {bs : List Bd} {l : List Tm} (h : (allV bs l).2 = 0) (hi : idemB bs bs = true) : allV bs (allV bs l).1 = allV bs l := by
  obtain ⟨h1, h2, h3, h4⟩ := allV_ok h
  have hk : ∀ t ∈ l, apT bs (apT bs t) = apT bs t := fun t ht => apT_idem hi t (validE_nodes (h3 t ht).1)
  have e := allV_mk h1 h2 h3
  rw [e, allV_mk h1 (by simpa using h2) (fun u hu => by
    obtain ⟨t, ht, rfl⟩ := List.mem_map.1 hu
    rw [hk t ht]; exact ⟨(h3 t ht).2, (h3 t ht).2⟩), List.map_map]
  exact Prod.ext (List.map_congr_left hk) rfl
end Go.Proofs.YtkfbbkkfagglhaaGreatDoor

/-
  THE WALK OF subst.variablesOf.
-/
namespace Go.Proofs.YtkfbbkkfagglhaaGreatDoor
open Go.RowKit Go.Shelf Go.Lib Go.Sort

theorem infoSv : (Tryz.prog.info? 126).map (fun i => (i.zero, i.size, i.bytes)) = some (some (.agg #[.pointer none, .int .i64 0, .int .i64 0, .bool false]), 4, 32) := by kernel_rfl
theorem encV_len (v : Sv) : (encV v).length = 4 := rfl
/-- The variables of bindings that lie in a row, as they are sought, in their order. -/
def svOf (bs : List Bd) (b o : Nat) : List Sv := bs.mapIdx fun i x => ⟨x.1, b, o + i * 8, i, false⟩
theorem svOf_len (bs : List Bd) (b o : Nat) : (svOf bs b o).length = bs.length := by simp [svOf]
theorem svOf_get (bs : List Bd) (b o i : Nat) (h : i < (svOf bs b o).length) (h' : i < bs.length) : (svOf bs b o)[i] = ⟨bs[i].1, b, o + i * 8, i, false⟩ := by simp [svOf]
/-- A made row of sought terms, the first j of which are set. -/
structure VR (w : World) (g : Nat) (vs : List Sv) (j : Nat) (wr : World) : Prop where
  below : Below w.heap.size w wr
  own : w.heap.size ≤ g
  row : ∃ zs, wr.ownsRow g 126 4 (.slice (some ⟨g, 0, none⟩) vs.length vs.length) vs.length ((vs.take j).flatMap encV ++ zs)
theorem VR.lt {w wr : World} {g j : Nat} {vs : List Sv} (h : VR w g vs j wr) : g < wr.heap.size := by
  obtain ⟨zs, ho⟩ := h.row
  exact (ho.lt g rfl).2
theorem VR.ext {w wr w3 : World} {g j : Nat} {vs : List Sv} (h : VR w g vs j wr) (hB : Ext wr w3) : VR w g vs j w3 := by
  obtain ⟨zs, ho⟩ := h.row
  exact ⟨Ext.trans h.below hB, h.own, zs, own_heap ho (fun q hq => hB.block q (ho.lt q hq).2)⟩
theorem VR.flat {vs : List Sv} {j : Nat} (h : j ≤ vs.length) : ((vs.take j).flatMap encV).length = j * 4 := by
  rw [flatG_len encV 4 encV_len, List.length_take, Nat.min_eq_left h]
theorem VR.cells {w wr : World} {g j : Nat} {vs : List Sv} (h : VR w g vs j wr) (hj : j < vs.length) :
    (∃ z0 z1 z2 z3, wr.cell? ⟨g, j * 4, none⟩ = some z0 ∧ wr.cell? ⟨g, j * 4 + 1, none⟩ = some z1 ∧ wr.cell? ⟨g, j * 4 + 2, none⟩ = some z2 ∧ wr.cell? ⟨g, j * 4 + 3, none⟩ = some z3) ∧ ∀ i, wr.frozen? ⟨g, i, none⟩ = false := by
  obtain ⟨zs, ho⟩ := h.row
  have hl := ho.1
  have hz : ∀ i, i < 4 → ∃ z, wr.cell? ⟨g, j * 4 + i, none⟩ = some z := fun i hi => by
    rw [ho.cellAt _ (by omega)]
    exact ⟨_, List.getElem?_eq_getElem (by omega)⟩
  obtain ⟨z0, h0⟩ := hz 0 (by omega)
  obtain ⟨z1, h1⟩ := hz 1 (by omega)
  obtain ⟨z2, h2⟩ := hz 2 (by omega)
  obtain ⟨z3, h3⟩ := hz 3 (by omega)
  exact ⟨⟨z0, z1, z2, z3, h0, h1, h2, h3⟩, fun i => ho.frozenAt i⟩
theorem VR.next {w wr : World} {g j : Nat} {vs : List Sv} (h : VR w g vs j wr) (hj : j < vs.length) {c0 c1 c2 c3 : Value} (he : encV vs[j] = [c0, c1, c2, c3]) : VR w g vs (j + 1) (put4 wr g (j * 4) c0 c1 c2 c3) := by
  obtain ⟨zs, ho⟩ := h.row
  have hc := VR.flat (vs := vs) (j := j) (by omega)
  refine ⟨put4_below h.below h.own, h.own, zs.drop 4, ?_⟩
  have h1 := ((((((ho.stored (j * 4) c0).1).stored (j * 4 + 1) c1).1).stored (j * 4 + 2) c2).1.stored (j * 4 + 3) c3).1
  rw [List.take_succ_eq_append_getElem hj, List.flatMap_append]
  have e1 : [vs[j]].flatMap encV = [c0, c1, c2, c3] := by rw [List.flatMap_cons, he]; rfl
  rw [e1]
  generalize (vs.take j).flatMap encV = cs at ho hc h1 ⊢
  have hz : ∃ z0 z1 z2 z3 r, zs = z0 :: z1 :: z2 :: z3 :: r := by
    have hl := ho.1
    rw [List.length_append] at hl
    exact four_of zs (by omega)
  obtain ⟨z0, z1, z2, z3, r, rfl⟩ := hz
  have e : ((((cs ++ z0 :: z1 :: z2 :: z3 :: r).set (j * 4) c0).set (j * 4 + 1) c1).set (j * 4 + 2) c2).set (j * 4 + 3) c3 = (cs ++ [c0, c1, c2, c3]) ++ List.drop 4 (z0 :: z1 :: z2 :: z3 :: r) := by
    rw [← hc]
    simp only [List.set_append_right _ _ (Nat.le_refl _), List.set_append_right _ _ (Nat.le_add_right _ _), Nat.sub_self, Nat.add_sub_cancel_left, List.set_cons_zero, List.set_cons_succ, List.drop_succ_cons, List.drop_zero, List.append_assoc, List.cons_append, List.nil_append]
  rw [e] at h1
  exact h1
theorem VR_made {w w0 w1 : World} {g : Nat} {vs : List Sv} {xs : List Value} (hown : w1.ownsRow g 126 4 (.slice (some ⟨g, 0, none⟩) vs.length vs.length) vs.length xs) (hw : w.heap.size ≤ g) (hz : g ≤ w0.heap.size) (hB : Below w.heap.size w w0) (hg : w0.grownBy w1 none) : VR w g vs 0 w1 :=
  ⟨hB.grown hg (by omega) (fun q hq => by simp at hq), hw, xs, hown⟩
theorem VR.done {w wr : World} {g : Nat} {vs : List Sv} (h : VR w g vs vs.length wr) : wr.ownsRow g 126 4 (.slice (some ⟨g, 0, none⟩) vs.length vs.length) vs.length (vs.flatMap encV) := by
  obtain ⟨zs, ho⟩ := h.row
  have hc := VR.flat (vs := vs) (j := vs.length) (Nat.le_refl _)
  rw [List.take_length] at ho hc
  have hl := ho.1
  rw [List.length_append] at hl
  have : zs = [] := List.length_eq_zero_iff.1 (by omega)
  rw [this, List.append_nil] at ho
  exact ho

/-- What variablesOf gives back. -/
def VarsPost (w : World) (bs : List Bd) (e : Ending) (w' : World) : Prop :=
  ∃ g vs, e = .returned (.slice (some ⟨g, 0, none⟩) bs.length bs.length) ∧ w.heap.size ≤ g ∧ g < w'.heap.size ∧ SoughtOf bs vs ∧ (∀ v ∈ vs, size v.t ≤ 1073741824) ∧ SvIn g w' vs g ∧ Below w.heap.size w w'
theorem SvIn_own {g : Nat} {w : World} {vs : List Sv} {n : Nat} (ho : w.ownsRow g 126 4 (.slice (some ⟨g, 0, none⟩) n n) n (vs.flatMap encV)) (hL : ∀ v ∈ vs, LiesIn (fun b => b < g) w v.t v.b v.o) : SvIn g w vs g := by
  refine ⟨fun p => ho.frozenAt p, fun k hk => ?_⟩
  have hl := flatG_len encV 4 encV_len vs
  have hn := ho.1
  haveI : Inhabited Sv := ⟨vs[k]⟩
  have hg : ∀ i, i < 4 → w.cell? ⟨g, k * 4 + i, none⟩ = some ((encV vs[k])[i]!) := fun i hi => by
    have := ho.cellAt (k * 4 + i) (by omega)
    rw [this, flatG encV 4 encV_len (by omega) vs (k * 4 + i) (by omega)]
    have e1 : (k * 4 + i) / 4 = k := by omega
    have e2 : (k * 4 + i) % 4 = i := by omega
    rw [e1, e2, getElem!_pos vs k hk]
  exact ⟨hg 0 (by omega), hg 1 (by omega), hg 2 (by omega), hg 3 (by omega), hL _ (List.getElem_mem hk)⟩
theorem vars_end {w w5 w9 : World} {g n : Nat} {bs : List Bd} {b o : Nat} (hn : n = bs.length) (hg : w.heap.size ≤ g) (hB : Below w.heap.size w w5) (hsz : ∀ x ∈ bs, size x.1 ≤ 1073741824) {e : Ending} (h : SortVPost g w5 g n n (svOf bs b o) e w9) : VarsPost w bs (.returned (.slice (some ⟨g, 0, none⟩) n n)) w9 := by
  obtain ⟨_, ss, ho, hp, hs, hL, hB9⟩ := h
  subst hn
  have hm : ∀ v ∈ ss, v.f = false ∧ ∃ h : v.i < bs.length, v.t = bs[v.i].1 := by
    intro v hv
    obtain ⟨i, hi, rfl⟩ := List.getElem_of_mem (hp.mem_iff.1 hv)
    have hi' : i < bs.length := by rw [svOf_len] at hi; exact hi
    rw [svOf_get bs b o i hi hi']
    exact ⟨rfl, hi', rfl⟩
  refine ⟨g, ss, rfl, hg, (ho.lt g rfl).2, ⟨by rw [hp.length_eq, svOf_len], hs, hm, fun i hi => ⟨(svOf bs b o)[i]'(by rw [svOf_len]; exact hi), hp.mem_iff.2 (List.getElem_mem _), by rw [svOf_get bs b o i _ hi]⟩⟩, fun v hv => ?_, SvIn_own ho hL, hB.trans (hB9.mono hg)⟩
  obtain ⟨_, h2, e⟩ := hm v hv
  rw [e]; exact hsz _ (List.getElem_mem h2)

theorem Row_RowIn {w : World} : ∀ (ts : List Tm) (xa : Option Addr), Row w ts xa → RowIn (fun q => q < w.heap.size) w ts xa
  | [], _, _ => by simp [RowIn]
  | t :: ts, xa, h => by
    obtain ⟨b, o, rfl, ⟨c0, c1, c2, c3, g0, g1, g2, g3, hI⟩, hR⟩ := Row_cons h
    simp only [RowIn]
    exact ⟨b, o, rfl, World.block_lt_of_cell? w _ g0, ⟨c0, c1, c2, c3, g0, g1, g2, g3, Is_IsIn _ _ _ _ _ hI⟩, Row_RowIn ts _ hR⟩

set_option maxHeartbeats 3200000 in
set_option maxRecDepth 100000 in
theorem varsof_any (bs : List Bd) (xa : Option Addr) (cap : Nat) (w : World) (hlen : bs.length ≤ 1048576) (hsz : SzB 1048576 bs) (hR0 : Row w (flatB bs) xa) :
    Calls Tryz.prog 100 #[.slice xa bs.length cap] w (VarsPost w bs) := by
  have hR := Row_RowIn _ _ hR0
  clear hR0
  have hsz1 : ∀ x ∈ bs, size x.1 ≤ 1073741824 := fun x hx => by have := (hsz x hx).1; omega
  have HSZ := Lib.hid hsz1
  obtain ⟨i0, hi0, hz0, hz1, hz2⟩ := info_parts infoSv
  have HI0 := Lib.hid (And.intro hi0 (And.intro hz0 (And.intro hz1 hz2)))
  obtain ⟨b, o, hbo⟩ : ∃ b o, 0 < bs.length → xa = some ⟨b, o, none⟩ := by
    by_cases h0 : 0 < bs.length
    · obtain ⟨b, o, e⟩ := RowIn_at hR (by rw [flatB_length]; omega)
      exact ⟨b, o, fun _ => e⟩
    · exact ⟨0, 0, fun h => absurd h h0⟩
  have HBO := Lib.hid hbo
  have HR := Lib.hid hR
  obtain ⟨vs, hvs⟩ : ∃ vs, svOf bs b o = vs := ⟨_, rfl⟩
  have hvl : vs.length = bs.length := by rw [← hvs]; exact svOf_len bs b o
  have HVS := Lib.hid hvs
  have HVL := Lib.hid hvl
  have HGT : Hid (∀ j (h : j < bs.length) (h' : j < vs.length), vs[j] = ⟨bs[j].1, b, o + j * 8, j, false⟩) := by
    show ∀ _, _
    intro j h h'
    subst hvs
    exact svOf_get bs b o j h' h
  rw [← hvl] at hlen ⊢
  clear hsz hsz1 hi0 hz0 hz1 hz2 hbo hR hvs hvl
  go_enter Tryz.func100, Tryz.ntmps100
  go_wp2_with (at_make; refine make_full_at _ w.heap.size rfl rfl _ _ _ rfl 126 i0 _ 4 Tryz.underlying119 HI0.out.1 HI0.out.2.1 HI0.out.2.2.1 vs.length rfl rfl (by rw [HI0.out.2.2.2]; omega) (by unfold maxLen; omega) ?_; intro w2 hown1 hgrow; have HM := Lib.hid (VR_made hown1 (Nat.le_refl _) (Nat.le_refl _) (Below.refl w.heap.size w) hgrow); clear hown1 hgrow)
  obtain ⟨g, hg⟩ : ∃ g, w.heap.size = g := ⟨_, rfl⟩
  have HGE : Hid (w.heap.size ≤ g) := (by omega : w.heap.size ≤ g)
  have HGG := Lib.hid hg
  rw [hg] at HM ⊢
  clear hg
  go_loopw [11] (fun i wr => ∃ j : Nat, j ≤ vs.length ∧ i = .int .i64 j ∧ VR w g vs j wr) (fun i _ => vs.length - (intOf i).toNat)
  case atStart => exact ⟨0, Nat.zero_le _, rfl, HM.out⟩
  case round =>
    obtain ⟨j, hj, rfl, hA⟩ := hrel
    have HA := Lib.hid hA
    by_cases hlt : j < vs.length
    rotate_left
    · have hjl : j = vs.length := by omega
      rw [hjl] at hA ⊢
      have HD := Lib.hid hA.done
      have HAB := Lib.hid hA.below
      have HLT := Lib.hid hA.lt
      by_cases h0 : vs.length = 0
      · have HST := Lib.hid (AnyF.slices_SortFunc_none Tryz.sortSought (some ⟨g, 0, none⟩) 0 (.func (.func 144) #[] #[]) wr)
        have hnil : vs = [] := List.length_eq_zero_iff.1 h0
        have HQ : Hid (VarsPost w bs (.returned (.slice (some ⟨g, 0, none⟩) 0 0)) wr) := by
          show VarsPost _ _ _ _
          have hb : bs = [] := List.length_eq_zero_iff.1 (by rw [← HVL.out]; exact h0)
          subst hb
          have ho := HD.out
          subst hnil
          exact ⟨g, [], rfl, HGE.out, HLT.out, ⟨rfl, fun i j hi => by simp at hi, fun v hv => by simp at hv, fun i hi => by simp at hi⟩, fun v hv => by simp at hv, ⟨fun p => ho.frozenAt p, fun k hk => by simp at hk⟩, HAB.out⟩
        rw [h0]
        clear hA hjl h0 hnil hlt
        go_wp2_with (go_at_call 143; refine (HST.out).mono ?_; rintro e w9 ⟨he, hw⟩; subst he; subst hw)
        go_ret
        exact HQ.out
      · have hL : ∀ v ∈ vs, LiesIn (fun q => q < g) wr v.t v.b v.o ∧ size v.t ≤ 1073741824 := by
          intro v hv
          obtain ⟨i, hi, rfl⟩ := List.getElem_of_mem hv
          have hib : i < bs.length := by rw [← HVL.out]; exact hi
          rw [HGT.out i hib hi]
          refine ⟨?_, HSZ.out _ (List.getElem_mem hib)⟩
          have hr := HR.out
          rw [HBO.out (by omega)] at hr
          have e := (flatB_even bs i hib).1
          have hl2 := flatB_length bs
          rw [List.getElem?_eq_getElem (by omega), Option.some.injEq] at e
          have h1 := RowIn_get hr (2 * i) (by omega)
          rw [e] at h1
          have e8 : o + 2 * i * 4 = o + i * 8 := by omega
          rw [e8] at h1
          exact LiesIn_carry (fun q hq => HAB.out.block q hq) (fun q hq => Nat.lt_of_lt_of_le hq HGE.out) h1
        have HST := Lib.hid (sort_sought HD.out hL (Nat.le_of_lt HLT.out) (by omega) (by omega))
        clear hA hjl hL h0 hlt
        go_wp2_with (go_at_call 143; refine (HST.out).mono ?_; rintro e w9 hS; have HS := Lib.hid hS; obtain ⟨he, _⟩ := hS; subst he)
        go_ret
        exact vars_end HVL.out HGE.out HAB.out HSZ.out (by rw [HVS.out]; exact HS.out)
    have hlb : j < bs.length := by rw [← HVL.out]; exact hlt
    have hxa := HBO.out (by omega)
    subst hxa
    have e := (flatB_even bs j hlb).1
    have hl2 := flatB_length bs
    rw [List.getElem?_eq_getElem (by omega), Option.some.injEq] at e
    have hLs := RowIn_get HR.out (2 * j) (by omega)
    rw [e] at hLs
    have e8 : o + 2 * j * 4 = o + j * 8 := by omega
    rw [e8] at hLs
    obtain ⟨c0, c1, c2, c3, p0, p1, p2, p3, hI⟩ := Lies_below (LiesIn_lies hLs) hA.below
    obtain ⟨k6, n6, s6, xa6, l6, cap6, rfl, rfl, rfl, rfl⟩ := Is_form hI
    have HC := Lib.hid (Size_any bs[j].1 _ _ _ _ wr (by have := HSZ.out _ (List.getElem_mem hlb); omega) hI)
    have HEN : Hid (∀ c0 c1 c2 c3, c0 = Value.pointer (some ⟨b, o + j * 8, none⟩) → c1 = Value.int .i64 (size bs[j].1) → c2 = Value.int .i64 j → c3 = Value.bool false → encV vs[j] = [c0, c1, c2, c3]) := by
      show ∀ _, _
      intro c0 c1 c2 c3 h0 h1 h2 h3
      rw [HGT.out j hlb hlt, h0, h1, h2, h3]; rfl
    generalize (size bs[j].1 : Int) = sz at HC HEN
    have i1 : (0 : Int) ≤ (j : Int) := by omega
    have i2 : (j : Int) < (vs.length : Int) := by omega
    have hgl := HA.out.lt
    clear hA e hl2 hLs hI hlb
    go_wp2_with (go_at_call 142; refine (HC.out).mono ?_; rintro e w4 ⟨he, hB4⟩; subst he; have hA4 := HA.out.ext hB4; have HA4 := Lib.hid hA4; obtain ⟨⟨z0, z1, z2, z3, y0, y1, y2, y3⟩, hz⟩ := hA4.cells hlt; have f0 := hz (j * 4); have f1 := hz (j * 4 + 1); have f2 := hz (j * 4 + 2); have f3 := hz (j * 4 + 3); clear hz hB4 hA4)
    go_roundw
    case rel => exact ⟨j + 1, by omega, by go_num, HA4.out.next hlt (HEN.out _ _ _ _ rfl rfl rfl rfl)⟩
    case measure => simp [intOf]; omega
end Go.Proofs.YtkfbbkkfagglhaaGreatDoor

/-
  THE WALK OF subst.occurring.
-/
namespace Go.Proofs.YtkfbbkkfagglhaaGreatDoor
open Go.RowKit

theorem infoBool : (Tryz.prog.info? 4).map (fun i => (i.zero, i.size, i.bytes)) = some (some (.bool false), 1, 1) := by kernel_rfl
theorem SvIn_setf {base : Nat} {w : World} {vs : List Sv} {g i : Nat} {f : Bool} (h : SvIn base w vs g) (hi : i < vs.length) (hg : base ≤ g) (hw : base ≤ w.heap.size) : SvIn base (w.setCell ⟨g, i * 4 + 3, none⟩ (.bool f)) (vs.set i { vs[i] with f := f }) g := ⟨fun p => by rw [World.frozen?_setCell]; exact h.1 p, fun k hk => by
  have hk' : k < vs.length := by simpa using hk
  obtain ⟨a, b, c, d, e⟩ := h.2 k hk'
  have hne : ∀ p, p ≠ i * 4 + 3 → ∀ v, w.cell? ⟨g, p, none⟩ = some v → (w.setCell ⟨g, i * 4 + 3, none⟩ (.bool f)).cell? ⟨g, p, none⟩ = some v := fun p hp v hv => by
    rw [setOther (fun e => hp (by simp only [Addr.mk.injEq] at e; omega))]; exact hv
  have hT : ∀ {t : Tm} {b o : Nat}, LiesIn (fun q => q < base) w t b o → LiesIn (fun q => q < base) (w.setCell ⟨g, i * 4 + 3, none⟩ (.bool f)) t b o := fun h =>
    LiesIn_carry (fun q hq => ((But.refl g w).setCell (i * 4 + 3) (.bool f)).block q (Nat.lt_of_lt_of_le hq hw) (by have : q < base := hq; simp only [ne_eq, Option.some.injEq]; omega)) (fun _ h => h) h
  by_cases hki : k = i
  · subst hki
    rw [List.getElem_set_self]
    exact ⟨hne _ (by omega) _ a, hne _ (by omega) _ b, hne _ (by omega) _ c, setSame d, hT e⟩
  · rw [List.getElem_set_ne (Ne.symm hki)]
    exact ⟨hne _ (by omega) _ a, hne _ (by omega) _ b, hne _ (by omega) _ c, hne _ (by omega) _ d, hT e⟩⟩
theorem SvIn_other {base : Nat} {w : World} {vs : List Sv} {g h p : Nat} {v : Value} (hv : SvIn base w vs g) (hg : base ≤ g) (hgh : g < h) : SvIn base (w.setCell ⟨h, p, none⟩ v) vs g := by
  have hb : ∀ q, q < h → (w.setCell ⟨h, p, none⟩ v).heap[q]? = w.heap[q]? := fun q hq => Below.heap_setCell _ _ _ _ (by simp only [ne_eq]; omega)
  have hc : ∀ i v', w.cell? ⟨g, i, none⟩ = some v' → (w.setCell ⟨h, p, none⟩ v).cell? ⟨g, i, none⟩ = some v' := fun i v' hx => by rw [World.cell?_of_block (w := w) (a := ⟨g, i, none⟩) (hb g hgh)]; exact hx
  refine ⟨fun i => by rw [World.frozen?_setCell]; exact hv.1 i, fun k hk => ?_⟩
  obtain ⟨a, b, c, d, e⟩ := hv.2 k hk
  exact ⟨hc _ _ a, hc _ _ b, hc _ _ c, hc _ _ d, LiesIn_carry (fun q hq => hb q (by have : q < base := hq; omega)) (fun _ h => h) e⟩
/-- What holds when j sought terms have been gone through. -/
structure ORel (w : World) (g h : Nat) (L : List Tm) (bs : List Bd) (vs : List Sv) (j : Nat) (us : List Sv) (os : List Bool) (wr : World) : Prop where
  below : Below w.heap.size w wr
  hg : w.heap.size ≤ g
  gh : g < h
  hl : h < wr.heap.size
  at_ : OccAt L vs us j
  out : OutAt L vs os j
  len : os.length = bs.length
  sv : SvIn g wr us g
  row : ∀ k (hk : k < os.length), wr.cell? ⟨h, k, none⟩ = some (.bool os[k])
  fz : ∀ p, wr.frozen? ⟨h, p, none⟩ = false
theorem ORel.ext {w wr W : World} {g h j : Nat} {L : List Tm} {bs : List Bd} {vs us : List Sv} {os : List Bool} (r : ORel w g h L bs vs j us os wr) (x : Ext wr W) : ORel w g h L bs vs j us os W :=
  ⟨Ext.trans r.below x, r.hg, r.gh, Nat.lt_of_lt_of_le r.hl x.size, r.at_, r.out, r.len, SvIn_ext r.sv x (by have := r.gh; have := r.hl; omega) (by have := r.gh; have := r.hl; omega), fun k hk => keep_below x _ _ (r.row k hk), fun p => (Below.frozen (p := ⟨h, p, none⟩) x r.hl).trans (r.fz p)⟩
theorem ORel.set {w wr : World} {g h j i : Nat} {L : List Tm} {bs : List Bd} {vs us : List Sv} {os : List Bool} {f : Bool} (r : ORel w g h L bs vs j us os wr) (hi : i < us.length) : SvIn g (wr.setCell ⟨g, i * 4 + 3, none⟩ (.bool f)) (us.set i { us[i] with f := f }) g ∧ (∀ k (hk : k < os.length), (wr.setCell ⟨g, i * 4 + 3, none⟩ (.bool f)).cell? ⟨h, k, none⟩ = some (.bool os[k])) ∧ (∀ p, (wr.setCell ⟨g, i * 4 + 3, none⟩ (.bool f)).frozen? ⟨h, p, none⟩ = false) ∧ Below w.heap.size w (wr.setCell ⟨g, i * 4 + 3, none⟩ (.bool f)) ∧ h < (wr.setCell ⟨g, i * 4 + 3, none⟩ (.bool f)).heap.size := by
  have hgw : g < wr.heap.size := by have := r.gh; have := r.hl; omega
  refine ⟨SvIn_setf r.sv hi (Nat.le_refl _) (Nat.le_of_lt hgw), fun k hk => ?_, fun p => by rw [World.frozen?_setCell]; exact r.fz p, r.below.setCell r.hg _, by rw [World.size_setCell]; exact r.hl⟩
  rw [setOther (fun e => by simp only [Addr.mk.injEq] at e; have := r.gh; omega)]; exact r.row k hk
theorem ORel.put {w wr : World} {g h j : Nat} {L : List Tm} {bs : List Bd} {vs us : List Sv} {os : List Bool} {f : Bool} (hB : Below w.heap.size w wr) (hg : w.heap.size ≤ g) (gh : g < h) (hl : h < wr.heap.size) (ha : OccAt L vs us (j + 1)) (ho : OutAt L vs os j) (hlen : os.length = bs.length) (hsv : SvIn g wr us g) (hrow : ∀ k (hk : k < os.length), wr.cell? ⟨h, k, none⟩ = some (.bool os[k])) (hfz : ∀ p, wr.frozen? ⟨h, p, none⟩ = false)
    (hs : SoughtOf bs vs) (hj : j < vs.length) (hf : f = hasT L vs[j].t) : ORel w g h L bs vs (j + 1) us (os.set vs[j].i f) (wr.setCell ⟨h, vs[j].i, none⟩ (.bool f)) := by
  have hi : vs[j].i < os.length := by obtain ⟨_, h2, _⟩ := hs.2.2.1 _ (List.getElem_mem hj); omega
  subst hf
  refine ⟨hB.setCell (show w.heap.size ≤ h by omega) _, hg, gh, by rw [World.size_setCell]; exact hl, ha, out_next ho hj hi (fun v hv => (hs.2.2.1 v hv).2), by rw [List.length_set]; exact hlen, SvIn_other hsv (Nat.le_refl _) gh, fun k hk => ?_, fun p => by rw [World.frozen?_setCell]; exact hfz p⟩
  have hk' : k < os.length := by simpa using hk
  rw [List.getElem_set]
  by_cases e : vs[j].i = k
  · subst e; rw [if_pos rfl]; exact setSame (hrow _ hk')
  · rw [if_neg e, setOther (fun h => by simp only [Addr.mk.injEq] at h; omega)]; exact hrow k hk'
theorem occ_start_rel {w w1 w0 : World} {g h : Nat} {L : List Tm} {bs : List Bd} {vs : List Sv} {xs : List Value} {n : Nat} (hown : w1.ownsRow h 4 1 (.slice (some ⟨h, 0, none⟩) n n) n xs) (hxs : xs = List.replicate n (.bool false)) (hn : n = bs.length) (hgw : w0.grownBy w1 none) (hB : Below w.heap.size w w0) (hg : w.heap.size ≤ g) (gh : g < h) (hh : h ≤ w0.heap.size) (hsv : SvIn g w0 (markP vs L) g) : ORel w g h L bs vs 0 (markP vs L) (List.replicate n false) w1 := by
  have hx : Below w0.heap.size w0 w1 := (Below.refl w0.heap.size w0).grown hgw (Nat.le_refl _) (fun q hq => by simp at hq)
  refine ⟨Ext.trans hB hx, hg, gh, (hown.lt h rfl).2, occ_start L vs, fun k _ hk => absurd hk (Nat.not_lt_zero _), by rw [List.length_replicate, hn], SvIn_ext hsv hx (by omega) (by omega), fun k hk => ?_, fun p => hown.frozenAt p⟩
  have hk' : k < n := by simpa using hk
  have hl := hown.1
  rw [hown.cellAt k (by omega), hxs, List.getElem?_replicate, if_pos hk', List.getElem_replicate]
def OccPost (w : World) (os : List Bool) (e : Ending) (w' : World) : Prop :=
  ∃ h, e = .returned (.slice (some ⟨h, 0, none⟩) os.length os.length) ∧ (∀ k (hk : k < os.length), w'.cell? ⟨h, k, none⟩ = some (.bool os[k])) ∧ Below w.heap.size w w'
theorem occ_end {w wr : World} {g h : Nat} {L : List Tm} {bs : List Bd} {vs us : List Sv} {os : List Bool} (hs : SoughtOf bs vs) (r : ORel w g h L bs vs vs.length us os wr) {e : Ending} (he : e = .returned (.slice (some ⟨h, 0, none⟩) bs.length bs.length)) : OccPost w (occB L bs) e wr := by
  have ho := out_done hs r.len r.out
  have hl := r.len
  rw [ho] at hl
  refine ⟨h, by rw [he, hl], ?_, r.below⟩
  rw [← ho]; exact r.row

set_option maxHeartbeats 6400000 in
set_option maxRecDepth 100000 in
theorem occur_any (bs : List Bd) (l : List Tm) (xa xl : Option Addr) (cap cl : Nat) (w : World) (hlen : bs.length ≤ 1048576) (hsz : SzB 1048576 bs) (hR : Row w (flatB bs) xa) (hll : l.length ≤ 1048576) (hsl : sizes l ≤ 1073741824) (hRl : Row w l xl) :
    Calls Tryz.prog 55 #[.slice xa bs.length cap, .slice xl l.length cl] w (OccPost w (occB (postL l) bs)) := by
  have HV := Lib.hid (varsof_any bs xa cap w hlen hsz hR)
  have HRL := Lib.hid (Row_RowIn _ _ hRl)
  have HSL := Lib.hid hsl
  obtain ⟨i0, hi0, hz0, hz1, hz2⟩ := info_parts infoBool
  have HI0 := Lib.hid (And.intro hi0 (And.intro hz0 (And.intro hz1 hz2)))
  obtain ⟨L, hL⟩ : ∃ L, postL l = L := ⟨_, rfl⟩
  have HLL := Lib.hid hL
  rw [hL]
  clear hsz hR hsl hRl hi0 hz0 hz1 hz2 hL
  go_enter Tryz.func55, Tryz.ntmps55
  go_wp2_with (go_at_call 100; refine (HV.out).mono ?_; rintro e w5 ⟨g, vs, he, hg, hgl, hS, hz, hv, hB⟩; subst he; have HS := Lib.hid hS; have HZ := Lib.hid hz; have HG := Lib.hid hg; have HGL := Lib.hid hgl; have HV5 := Lib.hid hv; have HB5 := Lib.hid hB; clear hg hgl hS hz hv hB)
  have HVL : Hid (vs.length = bs.length) := HS.out.1
  go_loopw [14] (fun i wr => ∃ j : Nat, j ≤ l.length ∧ i = .int .i64 j ∧ But g w5 wr ∧ SvIn g wr (markP vs (postL (l.take j))) g) (fun i _ => l.length - (intOf i).toNat)
  case atStart => exact ⟨0, Nat.zero_le _, rfl, But.refl _ _, HV5.out⟩
  case round =>
    obtain ⟨j, hj, rfl, hB, hV⟩ := hrel
    have HB := Lib.hid hB
    have HVr := Lib.hid hV
    by_cases hlt : j < l.length
    · obtain ⟨b, o, rfl⟩ := RowIn_at HRL.out (by omega)
      have hl0 := RowIn_get HRL.out j hlt
      have hl1 : LiesIn (fun q => q < g) wr l[j] b (o + j * 4) := LiesIn_carry (fun q hq => by
        have hq' : q < w.heap.size := hq
        have := HG.out
        have := HB5.out.size
        rw [hB.block q (by omega) (by simp only [ne_eq, Option.some.injEq]; omega)]
        exact HB5.out.block q hq') (fun q hq => Nat.lt_of_lt_of_le hq HG.out) hl0
      have ha := markP_alike vs (postL (l.take j))
      have hst := sizes_take l j hlt
      have hsl := sizes_take_le l (j + 1)
      have hsm : ∀ v ∈ markP vs (postL (l.take j)), size v.t ≤ 1073741824 := fun v hv => by
        obtain ⟨i, hi, rfl⟩ := List.getElem_of_mem hv
        have hi' : i < vs.length := by rw [← ha.1]; exact hi
        rw [(ha.2 i hi' hi).1]
        exact HZ.out _ (List.getElem_mem hi')
      have HC := Lib.hid (mark_any (size l[j]) l[j] b (o + j * 4) (markP vs (postL (l.take j))) bs.length g bs.length g wr (Nat.le_refl _) (by have := HSL.out; omega) (ha.1.trans HVL.out) (Nat.le_refl _) (by omega) (Nat.le_refl _) (Nat.lt_of_lt_of_le HGL.out hB.size) hsm (SortedV_alike ha HS.out.2.1) hV hl1)
      have HPT : Hid (markP (markP vs (postL (l.take j))) (postT l[j]) = markP vs (postL (l.take (j + 1)))) := by show _ = _; rw [postL_take l j hlt, markP_app]
      have i1 : (0 : Int) ≤ (j : Int) := by omega
      have i2 : (j : Int) < (l.length : Int) := by omega
      generalize (size l[j] : Int) = sz at HC
      clear hB hV hl0 hl1 ha hst hsl hsm
      go_wp2_with (go_at_call 101; refine (HC.out).mono ?_; rintro e w4 ⟨he, hB4, hV4⟩; subst he; have HB4 := Lib.hid (HB.out.trans hB4); have HV4 := Lib.hid hV4; clear hB4 hV4)
      go_roundw
      case rel => exact ⟨j + 1, by omega, by go_num, HB4.out, by rw [← HPT.out]; exact HV4.out⟩
      case measure => simp [intOf]; omega
    · have hjl : j = l.length := by omega
      have HV6 : Hid (SvIn g wr (markP vs L) g) := by
        show SvIn _ _ _ _
        have := HVr.out
        rw [hjl, List.take_length, HLL.out] at this
        exact this
      have HBS : Hid (w5.heap.size ≤ wr.heap.size) := HB.out.size
      have HB6 : Hid (Below w.heap.size w wr) := HB5.out.trans (HB.out.toBelow HG.out HB5.out.size)
      clear hB hV HVr
      go_wp2_with (at_make; refine make_full_at _ wr.heap.size (by simp) rfl _ _ _ rfl 4 i0 _ 1 Tryz.underlying61 HI0.out.1 HI0.out.2.1 HI0.out.2.2.1 bs.length rfl rfl (by rw [HI0.out.2.2.2]; omega) (by unfold maxLen; omega) ?_; intro w2 hown1 hgrow; have HO := Lib.hid (And.intro hown1 hgrow); clear hown1 hgrow)
      have HR0 := Lib.hid (occ_start_rel (L := L) HO.out.1 (by rw [Nat.mul_one]; exact toList_madeCells_one _ _) rfl HO.out.2 HB6.out HG.out (by have := HGL.out; have := HBS.out; omega) (Nat.le_refl _) HV6.out)
      obtain ⟨h, hh⟩ : ∃ h, wr.heap.size = h := ⟨_, rfl⟩
      rw [hh] at HR0 ⊢
      clear HO HV6 HB6 hh
      go_loopw [28] (fun i wr => ∃ (j : Nat) (us : List Sv) (os : List Bool), j ≤ bs.length ∧ i = .int .i64 j ∧ ORel w g h L bs vs j us os wr) (fun i _ => bs.length - (intOf i).toNat)
      case atStart => exact ⟨0, _, _, Nat.zero_le _, rfl, HR0.out⟩
      case round =>
        obtain ⟨j, us, os, hj, rfl, hr⟩ := hrel
        by_cases hlt : j < bs.length
        rotate_left
        · have hjl : j = vs.length := by have := HVL.out; omega
          rw [hjl] at hr
          have HE := Lib.hid (occ_end HS.out hr rfl)
          clear hr
          go_wp2_with fail
          go_ret
          exact HE.out
        have hjv : j < vs.length := by rw [HVL.out]; exact hlt
        have hul : us.length = vs.length := hr.at_.1.1
        have hju : j < us.length := by omega
        obtain ⟨h1, h2, h3, h4⟩ := hr.at_.1.2 j hjv hju
        have hib : vs[j].i < bs.length := (HS.out.2.2.1 _ (List.getElem_mem hjv)).2.1
        have HF0 := Lib.hid (fun v hv => (HS.out.2.2.1 v hv).1)
        have HR := Lib.hid hr
        obtain ⟨p, hp⟩ : ∃ p, vs[j].i = p := ⟨_, rfl⟩
        have HCx : Hid (∀ W, Ext wr W → W.cell? ⟨g, j * 4, none⟩ = some (.pointer (some ⟨us[j].b, us[j].o, none⟩)) ∧ W.cell? ⟨g, j * 4 + 1, none⟩ = some (.int .i64 (size us[j].t)) ∧ W.cell? ⟨g, j * 4 + 2, none⟩ = some (.int .i64 p) ∧ W.cell? ⟨g, j * 4 + 3, none⟩ = some (.bool us[j].f)) := by
          show ∀ _, _
          intro W x
          obtain ⟨a0, a1, a2, a3, _⟩ := (HR.out.ext x).sv.2 j hju
          rw [h4, hp] at a2
          exact ⟨a0, a1, a2, a3⟩
        have hpb : p < bs.length := by rw [← hp]; exact hib
        have HPE := Lib.hid hp
        have HOU : Hid (∀ W, Ext wr W → (∃ z, W.cell? ⟨h, p, none⟩ = some z) ∧ W.frozen? ⟨h, p, none⟩ = false) := fun W x => ⟨⟨_, (HR.out.ext x).row p (by have := HR.out.len; omega)⟩, (HR.out.ext x).fz p⟩
        have i1 : (0 : Int) ≤ (j : Int) := by omega
        have i2 : (j : Int) < (bs.length : Int) := by omega
        have p1 : (0 : Int) ≤ (p : Int) := by omega
        have p2 : (p : Int) < (bs.length : Int) := by omega
        have hgh := hr.gh
        have hng : ¬ h = g := by omega
        have hng2 : ¬ g = h := by omega
        clear hr h1 h2 h3 h4 hib hp hpb
        cases j with
        | zero =>
          have HO1 := Lib.hid (occ_first HR.out.at_ HF0.out hjv hju (first_zero hjv))
          have HN : Hid (∀ W, Ext wr W → ORel w g h L bs vs (0 + 1) us (os.set p us[0].f) (W.setCell ⟨h, p, none⟩ (.bool us[0].f))) := by
            show ∀ _, _
            intro W x
            have r := HR.out.ext x
            rw [← HPE.out]
            exact ORel.put r.below r.hg r.gh r.hl HO1.out.2 r.out r.len r.sv r.row r.fz HS.out hjv HO1.out.1
          have q3 : decide ((0 : Int) < ((0 : Nat) : Int)) = false := rfl
          obtain ⟨a0, a1, a2, a3⟩ := HCx.out wr (Ext.refl wr)
          obtain ⟨⟨z, y0⟩, y1⟩ := HOU.out wr (Ext.refl wr)
          simp only [Nat.zero_mul, Nat.zero_add] at a0 a1 a2 a3
          generalize us[0].f = f at a3 HN
          clear HO1 HF0 hul
          go_upto_region 12 with fail
          go_quiet (fail)
          go_upto_region 14 with fail
          go_region
          go_wp2_with fail
          go_roundw
          case rel => exact ⟨1, us, _, by omega, rfl, HN.out _ (below_drewN (Below.refl _ _) _)⟩
          case measure => simp [intOf]; omega
        | succ j =>
          have hjp : j < us.length := by omega
          have hjq : j < vs.length := by omega
          have hs2 := HR.out.at_.1.2 j hjq hjp
          have hs1 := HR.out.at_.1.2 (j + 1) hjv hju
          have HCp : Hid (∀ W, Ext wr W → W.cell? ⟨g, j * 4, none⟩ = some (.pointer (some ⟨us[j].b, us[j].o, none⟩)) ∧ W.cell? ⟨g, j * 4 + 1, none⟩ = some (.int .i64 (size us[j].t)) ∧ W.cell? ⟨g, j * 4 + 3, none⟩ = some (.bool us[j].f)) := by
            show ∀ _, _
            intro W x
            obtain ⟨a0, a1, a2, a3, _⟩ := (HR.out.ext x).sv.2 j hjp
            exact ⟨a0, a1, a3⟩
          have HCM := Lib.hid (fun W (x : Ext wr W) => sized_any us[j + 1].t us[j].t us[j + 1].b us[j + 1].o us[j].b us[j].o W (by rw [hs1.1]; exact HZ.out _ (List.getElem_mem hjv)) (by rw [hs2.1]; exact HZ.out _ (List.getElem_mem hjq)) (LiesIn_lies ((HR.out.ext x).sv.2 (j + 1) hju).2.2.2.2) (LiesIn_lies ((HR.out.ext x).sv.2 j hjp).2.2.2.2))
          have q3 : decide ((0 : Int) < ((j + 1 : Nat) : Int)) = true := decide_eq_true (by omega)
          have HNE : Hid (¬ cmpT us[j + 1].t us[j].t = 0 → us[j + 1].f = hasT L vs[j + 1].t ∧ OccAt L vs us (j + 2)) := fun hc => by
            rw [hs1.1, hs2.1] at hc
            exact occ_first HR.out.at_ HF0.out hjv hju (first_pred HS.out.2.1 hjv hc)
          have HEQ := Lib.hid (fun hc => occ_next HR.out.at_ hjv hju hc)
          obtain ⟨c, hc⟩ : ∃ c, cmpT us[j + 1].t us[j].t = c := ⟨_, rfl⟩
          rw [hc] at HCM HNE HEQ
          generalize (size us[j + 1].t : Int) = sz1 at HCx HCM
          generalize (size us[j].t : Int) = sz2 at HCp HCM
          generalize us[j + 1].b = b1 at HCx HCM
          generalize us[j + 1].o = o1 at HCx HCM
          generalize us[j].b = b2 at HCp HCM
          generalize us[j].o = o2 at HCp HCM
          have HCr : Hid (∀ W, Ext wr W → (W.cell? ⟨g, (j + 1) * 4, none⟩ = some (.pointer (some ⟨b1, o1, none⟩)) ∧ W.cell? ⟨g, (j + 1) * 4 + 1, none⟩ = some (.int .i64 sz1)) ∧ W.cell? ⟨g, j * 4, none⟩ = some (.pointer (some ⟨b2, o2, none⟩)) ∧ W.cell? ⟨g, j * 4 + 1, none⟩ = some (.int .i64 sz2)) := fun W x => ⟨⟨(HCx.out W x).1, (HCx.out W x).2.1⟩, (HCp.out W x).1, (HCp.out W x).2.1⟩
          obtain ⟨⟨a0, a1⟩, a2, a3⟩ := HCr.out wr (Ext.refl wr)
          have hF0 : Ext wr wr.drew := (Ext.refl wr).drew
          have hw1 : IntKind.i64.wrap (((j + 1 : Nat) : Int) - 1) = (j : Int) := (IntWalk.i64_in _ (by omega)).trans (by omega)
          have hw2 : IntKind.i64.wrap ((j : Int) + 1 - 1) = (j : Int) := (IntWalk.i64_in _ (by omega)).trans (by omega)
          have hw3 : IntKind.i64.wrap (j : Int) = (j : Int) := IntWalk.i64_in _ (by omega)
          have j1 : (0 : Int) ≤ (j : Int) := by omega
          have j2 : (j : Int) < (bs.length : Int) := by omega
          have hg4 : j * 4 + 3 ≠ (j + 1) * 4 + 3 := by omega
          by_cases hz : c = 0
          · have q4 : decide (c = 0) = true := decide_eq_true hz
            have q5 : (c == 0) = true := by simp [hz]
            have HO1 := Lib.hid (HEQ.out hz)
            have HN : Hid (∀ W, Ext wr W → (W.setCell ⟨g, (j + 1) * 4 + 3, none⟩ (.bool us[j].f)).cell? ⟨g, (j + 1) * 4 + 2, none⟩ = some (.int .i64 p) ∧ (W.setCell ⟨g, (j + 1) * 4 + 3, none⟩ (.bool us[j].f)).cell? ⟨g, (j + 1) * 4 + 3, none⟩ = some (.bool us[j].f) ∧ (∃ z, (W.setCell ⟨g, (j + 1) * 4 + 3, none⟩ (.bool us[j].f)).cell? ⟨h, p, none⟩ = some z) ∧ (W.setCell ⟨g, (j + 1) * 4 + 3, none⟩ (.bool us[j].f)).frozen? ⟨h, p, none⟩ = false ∧
                ∀ V, Ext (W.setCell ⟨g, (j + 1) * 4 + 3, none⟩ (.bool us[j].f)) V → ORel w g h L bs vs (j + 2) (us.set (j + 1) { us[j + 1] with f := us[j].f }) (os.set p us[j].f) (V.setCell ⟨h, p, none⟩ (.bool us[j].f))) := by
              show ∀ _, _
              intro W x
              have r := HR.out.ext x
              obtain ⟨s1, s2, s3, s4, s5⟩ := r.set (f := us[j].f) hju
              obtain ⟨_, _, x2, x3⟩ := HCx.out W x
              refine ⟨by rw [setOther (fun e => by simp only [Addr.mk.injEq] at e; omega)]; exact x2, setSame x3, ⟨_, s2 p (by have := r.len; omega)⟩, s3 p, fun V y => ?_⟩
              rw [← HPE.out]
              have hgl : g < (W.setCell ⟨g, (j + 1) * 4 + 3, none⟩ (.bool us[j].f)).heap.size := by rw [World.size_setCell]; have := r.gh; have := r.hl; omega
              exact ORel.put (Ext.trans s4 y) r.hg r.gh (Nat.lt_of_lt_of_le s5 y.size) HO1.out.2 r.out r.len (SvIn_ext s1 y (Nat.le_of_lt hgl) hgl) (fun k hk => keep_below y _ _ (s2 k hk)) (fun q => (Below.frozen (p := ⟨h, q, none⟩) y s5).trans (s3 q)) HS.out hjv HO1.out.1
            have HFZ : Hid (∀ W, Ext wr W → W.frozen? ⟨g, (j + 1) * 4 + 3, none⟩ = false ∧ ∃ z, W.cell? ⟨g, (j + 1) * 4 + 3, none⟩ = some z) := fun W x => ⟨(HR.out.ext x).sv.1 _, _, (HCx.out W x).2.2.2⟩
            obtain ⟨f, hf⟩ : ∃ f, us[j].f = f := ⟨_, rfl⟩
            rw [hf] at HN HCp
            clear HO1 HF0 hul hc hz hs1 hs2 hf
            go_upto_region 12 with fail
            go_region_held3 (fun W => (W.cell? ⟨g, (j + 1) * 4, none⟩ = some (.pointer (some ⟨b1, o1, none⟩)) ∧ W.cell? ⟨g, (j + 1) * 4 + 1, none⟩ = some (.int .i64 sz1)) ∧ W.cell? ⟨g, j * 4, none⟩ = some (.pointer (some ⟨b2, o2, none⟩)) ∧ W.cell? ⟨g, j * 4 + 1, none⟩ = some (.int .i64 sz2))
              (first | exact HCr.out _ (by assumption) | go_keep)
              (first | (go_at_call 102; refine (HCM.out _ hF0).mono ?_; rintro e w4 ⟨he, hB⟩; subst he; have hF1 : Ext wr w4 := hF0.trans hB; clear hB))
            obtain ⟨_, _, xf⟩ := HCp.out _ hF1
            obtain ⟨y2, z2, y3⟩ := HFZ.out _ hF1
            have HNw := Lib.hid (HN.out _ hF1)
            go_upto_region 14 with fail
            obtain ⟨n0, n1, ⟨z, n2⟩, n3, n4⟩ := HNw.out
            have HN4 := Lib.hid n4
            clear n4 HNw HN xf y2 y3
            generalize w4.setCell ⟨g, (j + 1) * 4 + 3, none⟩ (.bool f) = w5' at n0 n1 n2 n3 HN4 ⊢
            go_region
            go_wp2_with fail
            go_roundw
            case rel => exact ⟨j + 2, _, _, by omega, by go_num, HN4.out _ (Ext.drew (Ext.refl _))⟩
            case measure => simp [intOf]; omega
          · have q4 : decide (c = 0) = false := decide_eq_false hz
            have q5 : (c == 0) = false := by simp [hz]
            have HO1 := Lib.hid (HNE.out hz)
            have HN : Hid (∀ W, Ext wr W → ORel w g h L bs vs (j + 2) us (os.set p us[j + 1].f) (W.setCell ⟨h, p, none⟩ (.bool us[j + 1].f))) := by
              show ∀ _, _
              intro W x
              have r := HR.out.ext x
              rw [← HPE.out]
              exact ORel.put r.below r.hg r.gh r.hl HO1.out.2 r.out r.len r.sv r.row r.fz HS.out hjv HO1.out.1
            obtain ⟨f, hf⟩ : ∃ f, us[j + 1].f = f := ⟨_, rfl⟩
            rw [hf] at HN HCx
            clear HO1 HF0 hul hc hz hs1 hs2 hf
            go_upto_region 12 with fail
            go_region_held3 (fun W => (W.cell? ⟨g, (j + 1) * 4, none⟩ = some (.pointer (some ⟨b1, o1, none⟩)) ∧ W.cell? ⟨g, (j + 1) * 4 + 1, none⟩ = some (.int .i64 sz1)) ∧ W.cell? ⟨g, j * 4, none⟩ = some (.pointer (some ⟨b2, o2, none⟩)) ∧ W.cell? ⟨g, j * 4 + 1, none⟩ = some (.int .i64 sz2))
              (first | exact HCr.out _ (by assumption) | go_keep)
              (first | (go_at_call 102; refine (HCM.out _ hF0).mono ?_; rintro e w4 ⟨he, hB⟩; subst he; have hF1 : Ext wr w4 := hF0.trans hB; clear hB))
            obtain ⟨_, _, n0, n1⟩ := HCx.out _ hF1
            obtain ⟨⟨z, n2⟩, n3⟩ := HOU.out _ hF1
            have HN4 := Lib.hid (fun V (y : Ext w4 V) => HN.out V (hF1.trans y))
            go_upto_region 14 with fail
            go_region
            go_wp2_with fail
            go_roundw
            case rel => exact ⟨j + 2, _, _, by omega, by go_num, HN4.out _ (Ext.drew (Ext.refl _))⟩
            case measure => simp [intOf]; omega
end Go.Proofs.YtkfbbkkfagglhaaGreatDoor

/-
  THE WALKS OF slices.Contains at bools, of subst.Idempotent and of subst.Restrict.
-/
namespace Go.Proofs.YtkfbbkkfagglhaaGreatDoor
open Go.RowKit

set_option maxHeartbeats 800000 in
set_option maxRecDepth 100000 in
theorem bindex_any (os : List Bool) (h cap : Nat) (w : World) (hl : os.length ≤ maxLen) (hc : ∀ k (hk : k < os.length), w.cell? ⟨h, k, none⟩ = some (.bool os[k])) :
    Calls Tryz.prog 99 #[.slice (some ⟨h, 0, none⟩) os.length cap, .bool true] w fun e w' => (∃ i : Int, e = .returned (.int .i64 i) ∧ os.any (fun x => x == true) = decide (0 ≤ i)) ∧ w' = w := by
  unfold maxLen at hl
  have HC := Lib.hid hc
  clear hc
  go_enter Tryz.func99, Tryz.ntmps99
  go_wp2_with fail
  go_loopw [8] (fun i wr => ∃ j : Nat, j ≤ os.length ∧ i = .int .i64 j ∧ Hid (∀ k (hk : k < os.length), k < j → os[k] = false) ∧ wr = w) (fun i _ => os.length - (intOf i).toNat)
  case atStart => exact ⟨0, Nat.zero_le _, rfl, fun k _ h => absurd h (Nat.not_lt_zero _), rfl⟩
  case round =>
    obtain ⟨j, hj, rfl, HF, rfl⟩ := hrel
    by_cases hlt : j < os.length
    rotate_left
    · have HQ : Hid (os.any (fun x => x == true) = false) := by
        show _ = _
        rw [List.any_eq_false]
        intro x hx
        obtain ⟨k, hk, rfl⟩ := List.getElem_of_mem hx
        rw [HF.out k hk (by omega)]; simp
      go_wp2_with fail
      go_ret
      exact ⟨⟨-1, rfl, by rw [HQ.out]; rfl⟩, rfl⟩
    have c0 := HC.out j hlt
    have i1 : (0 : Int) ≤ (j : Int) := by omega
    have i2 : (j : Int) < (os.length : Int) := by omega
    cases hb : os[j] with
    | false =>
      rw [hb] at c0
      have HF2 : Hid (∀ k (hk : k < os.length), k < j + 1 → os[k] = false) := by
        show ∀ _, _
        intro k hk hkj
        by_cases e : k = j
        · subst e; exact hb
        · exact HF.out k hk (by omega)
      clear hb
      go_wp2_with fail
      go_roundw
      case rel => exact ⟨j + 1, by omega, by go_num, HF2, trivial⟩
      case measure => simp [intOf]; omega
    | true =>
      rw [hb] at c0
      have HQ : Hid (os.any (fun x => x == true) = true) := by
        show _ = _
        rw [List.any_eq_true]
        exact ⟨os[j], List.getElem_mem hlt, by rw [hb]; rfl⟩
      clear hb
      go_wp2_with fail
      go_ret
      exact ⟨⟨j, rfl, by rw [HQ.out]; simp⟩, rfl⟩
theorem bcontains_any (os : List Bool) (h cap : Nat) (w : World) (hl : os.length ≤ maxLen) (hc : ∀ k (hk : k < os.length), w.cell? ⟨h, k, none⟩ = some (.bool os[k])) :
    Calls Tryz.prog 54 #[.slice (some ⟨h, 0, none⟩) os.length cap, .bool true] w fun e w' => e = .returned (.bool (os.any (fun x => x == true))) ∧ w' = w := by
  have HC := Lib.hid (bindex_any os h cap w hl hc)
  clear hc hl
  go_enter Tryz.func54, Tryz.ntmps54
  go_wp2_with (go_at_call 99; refine (HC.out).mono ?_; rintro e w3 ⟨⟨i, he, hq⟩, hw⟩; subst he; subst hw; have HQ := Lib.hid hq; clear hq)
  go_ret
  exact ⟨by rw [HQ.out]; rfl, rfl⟩

/-- A made row of terms of older blocks, the first j of which are set. -/
structure AO (w : World) (g : Nat) (us : List Tm) (j : Nat) (wr : World) : Prop where
  below : Below w.heap.size w wr
  own : w.heap.size ≤ g
  row : ∃ cs zs, wr.ownsRow g 36 4 (.slice (some ⟨g, 0, none⟩) us.length us.length) us.length (cs ++ zs) ∧ cs.length = j * 4 ∧ KC (fun b => b < g) wr (us.take j) cs
theorem AO.cells {w wr : World} {g j : Nat} {us : List Tm} (h : AO w g us j wr) (hj : j < us.length) :
    (∃ z0 z1 z2 z3, wr.cell? ⟨g, j * 4, none⟩ = some z0 ∧ wr.cell? ⟨g, j * 4 + 1, none⟩ = some z1 ∧ wr.cell? ⟨g, j * 4 + 2, none⟩ = some z2 ∧ wr.cell? ⟨g, j * 4 + 3, none⟩ = some z3) ∧ ∀ i, wr.frozen? ⟨g, i, none⟩ = false := by
  obtain ⟨cs, zs, ho, hc, _⟩ := h.row
  have hl := ho.1
  have hz : ∀ i, i < 4 → ∃ z, wr.cell? ⟨g, j * 4 + i, none⟩ = some z := fun i hi => by
    rw [ho.cellAt _ (by omega)]
    exact ⟨_, List.getElem?_eq_getElem (by omega)⟩
  obtain ⟨z0, h0⟩ := hz 0 (by omega)
  obtain ⟨z1, h1⟩ := hz 1 (by omega)
  obtain ⟨z2, h2⟩ := hz 2 (by omega)
  obtain ⟨z3, h3⟩ := hz 3 (by omega)
  exact ⟨⟨z0, z1, z2, z3, h0, h1, h2, h3⟩, fun i => ho.frozenAt i⟩
theorem AO.next {w wr : World} {g j : Nat} {us : List Tm} (h : AO w g us j wr) (hj : j < us.length) {c0 c1 c2 c3 : Value}
    (hI : IsIn (fun b => b < g) wr us[j] c0 c1 c2 c3) : AO w g us (j + 1) (put4 wr g (j * 4) c0 c1 c2 c3) := by
  obtain ⟨cs, zs, ho, hc, hK⟩ := h.row
  have hp : ∀ q, q ≠ g → (put4 wr g (j * 4) c0 c1 c2 c3).heap[q]? = wr.heap[q]? := fun q hq => put4_other _ _ _ _ _ _ _ _ hq
  refine ⟨put4_below h.below h.own, h.own, cs ++ [c0, c1, c2, c3], zs.drop 4, ?_, ?_, ?_⟩
  · have h1 := ((((((ho.stored (j * 4) c0).1).stored (j * 4 + 1) c1).1).stored (j * 4 + 2) c2).1.stored (j * 4 + 3) c3).1
    have hz : ∃ z0 z1 z2 z3 r, zs = z0 :: z1 :: z2 :: z3 :: r := by
      have hl := ho.1
      rw [List.length_append] at hl
      exact four_of zs (by omega)
    obtain ⟨z0, z1, z2, z3, r, rfl⟩ := hz
    have e : ((((cs ++ z0 :: z1 :: z2 :: z3 :: r).set (j * 4) c0).set (j * 4 + 1) c1).set (j * 4 + 2) c2).set (j * 4 + 3) c3 = (cs ++ [c0, c1, c2, c3]) ++ List.drop 4 (z0 :: z1 :: z2 :: z3 :: r) := by
      rw [← hc]
      simp only [List.set_append_right _ _ (Nat.le_refl _), List.set_append_right _ _ (Nat.le_add_right _ _), Nat.sub_self, Nat.add_sub_cancel_left, List.set_cons_zero, List.set_cons_succ, List.drop_succ_cons, List.drop_zero, List.append_assoc, List.cons_append, List.nil_append]
    rw [e] at h1
    exact h1
  · simp only [List.length_append, hc, List.length_cons, List.length_nil]; omega
  · rw [List.take_succ_eq_append_getElem hj]
    exact KC_snoc (IsIn_carry (fun b hb => hp b (by have : b < g := hb; omega)) (fun _ hb => hb) _ _ _ _ _ hI) _ _ (KC_carry (fun b hb => hp b (by have : b < g := hb; omega)) (fun _ hb => hb) _ _ hK)
theorem AO.done {w wr : World} {g : Nat} {us : List Tm} (h : AO w g us us.length wr) : Row wr us (some ⟨g, 0, none⟩) ∧ Below w.heap.size w wr := by
  obtain ⟨cs, zs, ho, hc, hK⟩ := h.row
  rw [List.take_length] at hK
  refine ⟨Row_cells g us 0 cs hK (fun i u hu => ?_), h.below⟩
  have hi : i < cs.length := by
    rcases Nat.lt_or_ge i cs.length with h | h
    · exact h
    · rw [List.getElem?_eq_none h] at hu; cases hu
  have hl := ho.1
  rw [List.length_append] at hl
  rw [Nat.zero_add, ho.cellAt i (by omega), List.getElem?_append_left hi]; exact hu
theorem AO_made {w w0 w1 : World} {g : Nat} {us : List Tm} {xs : List Value} (hown : w1.ownsRow g 36 4 (.slice (some ⟨g, 0, none⟩) us.length us.length) us.length xs) (hw : w.heap.size ≤ g) (hz : g ≤ w0.heap.size) (hB : Below w.heap.size w w0) (hg : w0.grownBy w1 none) : AO w g us 0 w1 :=
  ⟨hB.grown hg (by omega) (fun q hq => by simp at hq), hw, [], xs, hown, by simp, rfl⟩

set_option maxHeartbeats 3200000 in
set_option maxRecDepth 100000 in
theorem sidem_any (bs : List Bd) (xa : Option Addr) (cap : Nat) (w : World) (hlen : bs.length ≤ 1048576) (hsz : SzB 1048576 bs) (hss : sizes (bs.map (·.2)) ≤ 1073741824) (hR : Row w (flatB bs) xa) :
    Calls Tryz.prog 15 #[.slice xa bs.length cap] w fun e w' => e = .returned (.bool (idemB bs bs)) ∧ Below w.heap.size w w' := by
  obtain ⟨i0, hi0, hz0, hz1, hz2⟩ := info_parts info24
  have HI0 := Lib.hid (And.intro hi0 (And.intro hz0 (And.intro hz1 hz2)))
  have HR := Lib.hid hR
  have HRI := Lib.hid (Row_RowIn _ _ hR)
  obtain ⟨us, hus⟩ : ∃ us, bs.map (·.2) = us := ⟨_, rfl⟩
  have hul : us.length = bs.length := by rw [← hus, List.length_map]
  rw [hus] at hss
  have HUL := Lib.hid hul
  have HGT : Hid (∀ j (h : j < bs.length) (h' : j < us.length), us[j] = bs[j].2) := by
    show ∀ _, _
    intro j h h'
    subst hus
    simp
  have HID : Hid (idemB bs bs = !((occB (postL us) bs).any (fun x => x == true))) := by show _ = _; rw [← hus]; exact idemB_occ bs
  have HO := Lib.hid (fun W (x : Ext w W) (cl : Nat) (xl : Option Addr) (hr : Row W us xl) => occur_any bs us xa xl cap cl W hlen hsz (Row_below (w' := W) hR x) (by omega) hss hr)
  have HOL : Hid ((occB (postL us) bs).length = bs.length) := by show _ = _; rw [occB, List.length_map]
  generalize occB (postL us) bs = os at HID HO HOL
  obtain ⟨bb, hbb⟩ : ∃ bb, os.any (fun x => x == true) = bb := ⟨_, rfl⟩
  rw [hbb] at HID
  have HBB := Lib.hid hbb
  rw [← hul] at hlen
  have q : (bs.length : Int) = (us.length : Int) := by omega
  have q' : bs.length = us.length := hul.symm
  rw [q']
  rw [q'] at HO HOL
  clear hsz hss hR hi0 hz0 hz1 hz2 hus hul q q' hbb
  go_enter Tryz.func15, Tryz.ntmps15
  go_wp2_with (at_make; refine make_full_at _ w.heap.size rfl rfl _ _ _ rfl 36 i0 _ 4 Tryz.underlying23 HI0.out.1 HI0.out.2.1 HI0.out.2.2.1 us.length rfl rfl (by rw [HI0.out.2.2.2]; omega) (by unfold maxLen; omega) ?_; intro w2 hown1 hgrow; have HM := Lib.hid (AO_made hown1 (Nat.le_refl _) (Nat.le_refl _) (Below.refl w.heap.size w) hgrow); clear hown1 hgrow)
  obtain ⟨g, hg⟩ : ∃ g, w.heap.size = g := ⟨_, rfl⟩
  have HGE : Hid (w.heap.size ≤ g) := (by omega : w.heap.size ≤ g)
  rw [hg] at HM ⊢
  clear hg
  go_loopw [10] (fun i wr => ∃ j : Nat, j ≤ us.length ∧ i = .int .i64 j ∧ AO w g us j wr) (fun i _ => us.length - (intOf i).toNat)
  case atStart => exact ⟨0, Nat.zero_le _, rfl, HM.out⟩
  case round =>
    obtain ⟨j, hj, rfl, hA⟩ := hrel
    have HA := Lib.hid hA
    by_cases hlt : j < us.length
    rotate_left
    · have hjl : j = us.length := by omega
      have hD := AO.done (by rw [hjl] at hA; exact hA)
      have HC := Lib.hid (HO.out wr hD.2 us.length _ hD.1)
      have HAB := Lib.hid hD.2
      clear hA hD
      go_wp2_with (first
        | (go_at_call 55; refine (HC.out).mono ?_; rintro e w4 ⟨h, he, hc, hB⟩; subst he; have hCC := bcontains_any os h os.length w4 (by have := HOL.out; unfold maxLen; omega) hc; rw [HBB.out] at hCC; have HCC := Lib.hid hCC; have HB4 := Lib.hid (Ext.trans (a := w) HAB.out hB); clear hc hB hCC)
        | (go_at_call 54; refine (HCC.out).mono ?_; rintro e w5 ⟨he, hw⟩; subst he; subst hw))
      go_ret
      exact ⟨by rw [HID.out]; rfl, HB4.out⟩
    have hlb : j < bs.length := by rw [← HUL.out]; exact hlt
    obtain ⟨b, o, rfl⟩ := RowIn_at HRI.out (by rw [flatB_length]; omega)
    have e := (flatB_even bs j hlb).2
    have hl2 := flatB_length bs
    rw [List.getElem?_eq_getElem (by omega), Option.some.injEq] at e
    have hLs := RowIn_get HRI.out (2 * j + 1) (by omega)
    rw [e, ← HGT.out j hlb hlt] at hLs
    have e8 : o + (2 * j + 1) * 4 = o + j * 8 + 4 := by omega
    rw [e8] at hLs
    obtain ⟨_, c0, c1, c2, c3, p0, p1, p2, p3, hI⟩ := LiesIn_carry (w' := wr) (S' := fun q => q < g) (fun q hq => HA.out.below.block q hq) (fun q hq => Nat.lt_of_lt_of_le hq HGE.out) hLs
    obtain ⟨k6, n6, s6, xa6, l6, cap6, rfl, rfl, rfl, rfl⟩ := IsIn_form hI
    rw [Nat.add_assoc] at p1 p2 p3
    obtain ⟨⟨z0, z1, z2, z3, y0, y1, y2, y3⟩, hz⟩ := hA.cells hlt
    have f0 := hz (j * 4)
    have f1 := hz (j * 4 + 1)
    have f2 := hz (j * 4 + 2)
    have f3 := hz (j * 4 + 3)
    have HN := Lib.hid (hA.next hlt hI)
    have i1 : (0 : Int) ≤ (j : Int) := by omega
    have i2 : (j : Int) < (us.length : Int) := by omega
    clear hA e hl2 hLs hI hz hlb
    go_wp2_with fail
    go_roundw
    case rel => exact ⟨j + 1, by omega, by go_num, HN.out⟩
    case measure => simp [intOf]; omega

set_option maxHeartbeats 3200000 in
set_option maxRecDepth 100000 in
theorem srestr_any (bs : List Bd) (ls : List Tm) (xa xl : Option Addr) (cap cl : Nat) (w : World) (hlen : bs.length ≤ 1048576) (hsz : SzB 1048576 bs) (hR : Row w (flatB bs) xa) (hll : ls.length ≤ 1048576) (hsl : sizes ls ≤ 1073741824) (hRl : Row w ls xl) :
    Calls Tryz.prog 16 #[.slice xa bs.length cap, .slice xl ls.length cl] w (BdsPost w (keptB (postL ls) bs)) := by
  have HS := Lib.hid (occur_any bs ls xa xl cap cl w hlen hsz hR hll hsl hRl)
  have HSZ := Lib.hid hsz
  generalize postL ls = L at HS ⊢
  have HOL : Hid ((occB L bs).length = bs.length) := by show _ = _; rw [occB, List.length_map]
  have HOG : Hid (∀ j (h : j < bs.length) (h' : j < (occB L bs).length), (occB L bs)[j] = hasT L bs[j].1) := by
    show ∀ _, _
    intro j h h'
    simp [occB]
  generalize occB L bs = os at HS HOL HOG
  obtain ⟨i0, hi0, hz0, hz1, hz2⟩ := info_parts infoBd
  have HI0 := Lib.hid (And.intro hi0 (And.intro hz0 (And.intro hz1 hz2)))
  have HR0 := Lib.hid hR
  clear hR hsz hll hsl hRl hi0 hz0 hz1 hz2
  go_enter Tryz.func16, Tryz.ntmps16
  go_wp2_with (go_at_call 55; refine (HS.out).mono ?_; rintro e w2 ⟨h, he, hc, hB2⟩; rw [HOL.out] at he; subst he; have HC2 := Lib.hid hc; have HB2 := Lib.hid hB2; clear hc hB2)
  have HR := Lib.hid (Row_below HR0.out HB2.out)
  clear HR0
  go_loopw [5, 12] (fun lv i wr => ∃ j : Nat, j ≤ bs.length ∧ i = .int .i64 j ∧ BdsIn w2.heap.size w2.heap.size wr (keptB L (bs.take j)) lv ∧ Below w2.heap.size w2 wr) (fun _ i _ => bs.length - (intOf i).toNat)
  case atStart => exact ⟨0, Nat.zero_le _, rfl, BdsIn_nil _ _ _, Below.refl _ _⟩
  case round =>
    obtain ⟨j, hj, rfl, hO, hB⟩ := hrel
    obtain ⟨xk, lcap, rfl⟩ := BdsIn_form hO
    by_cases hlt : j < bs.length
    rotate_left
    · have hjl : j = bs.length := by omega
      rw [hjl, List.take_length] at hO ⊢
      have HRO := Lib.hid (BdsIn_row hO)
      have HB := Lib.hid hB
      clear hO hB hjl
      go_wp2_with fail
      go_ret
      exact ⟨xk, lcap, rfl, HRO.out.2, HRO.out.1, Ext.trans HB2.out HB.out⟩
    have hnj := keptB_len L (bs.take j)
    rw [List.length_take] at hnj
    have hHit := keptB_take L bs j hlt
    rw [← HOG.out j hlt (by rw [HOL.out]; exact hlt)] at hHit
    have hjo : j < os.length := by rw [HOL.out]; exact hlt
    have o0 := keep_below hB _ _ (HC2.out j hjo)
    generalize keptB L (bs.take j) = acc at hO hnj hHit ⊢
    obtain ⟨F, cs, hown, hK, hF⟩ := hO
    obtain ⟨n, hn⟩ : ∃ n, n = acc.length := ⟨_, rfl⟩
    rw [← hn] at hown hF hnj ⊢
    have HNL := Lib.hid hn
    clear hn
    obtain ⟨b, o, rfl⟩ := Row_at HR.out (by rw [flatB_length]; omega)
    obtain ⟨⟨v0, v1, v2, v3, g0, g1, g2, g3, hI1⟩, t0, t1, t2, t3, g4, g5, g6, g7, hI2⟩ := bds_get HR.out j hlt
    obtain ⟨k1, n1, s1, ya1, yl1, yc1, rfl, rfl, rfl, rfl⟩ := Is_form hI1
    obtain ⟨k2, n2, s2, ya2, yl2, yc2, rfl, rfl, rfl, rfl⟩ := Is_form hI2
    rw [Nat.add_assoc] at g5 g6 g7
    have hz1 := HSZ.out bs[j] (List.getElem_mem hlt)
    have HC := Lib.hid (sbcopy_any bs[j].1 bs[j].2 _ _ _ _ _ _ _ _ wr (by omega) (by omega) (Is_below hI1 hB) (Is_below hI2 hB))
    have p0 := keep_below hB _ _ g0
    have p1 := keep_below hB _ _ g1
    have p2 := keep_below hB _ _ g2
    have p3 := keep_below hB _ _ g3
    have p4 := keep_below hB _ _ g4
    have p5 := keep_below hB _ _ g5
    have p6 := keep_below hB _ _ g6
    have p7 := keep_below hB _ _ g7
    have HB := Lib.hid hB
    have HO := Lib.hid (fun W (x : Ext wr W) => own_heap hown (fun q hq => x.block q (hown.lt q hq).2))
    have hws := hB.size
    have hcl : cs.length = n * 8 := hown.1
    have i1 : (0 : Int) ≤ (j : Int) := by omega
    have i2 : (j : Int) < (bs.length : Int) := by omega
    clear g0 g1 g2 g3 g4 g5 g6 g7
    cases hcv : os[j]
    · rw [hcv] at hHit o0
      have HN : Hid (BdsIn w2.heap.size w2.heap.size wr (keptB L (bs.take (j + 1))) (.slice xk n lcap)) := by
        show BdsIn _ _ _ _ _
        rw [hHit]
        simp only [Bool.false_eq_true, if_false, List.append_nil]
        exact ⟨F, cs, by rw [← HNL.out]; exact hown, hK, hF⟩
      clear hHit hcv hown hK hF hI1 hI2 hB hz1
      go_wp2_with fail
      go_roundw
      case rel => exact ⟨j + 1, by omega, by go_num, HN.out, HB.out⟩
      case measure => simp [intOf]; omega
    · rw [hcv] at hHit o0
      have HH : Hid (keptB L (bs.take (j + 1)) = acc ++ [bs[j]]) := by show _ = _; rw [hHit]; simp
      have HPU : Hid (∀ w6 c0 c1 c2 c3 d0 d1 d2 d3, Ext wr w6 → IsIn (fun b => wr.heap.size ≤ b ∧ b < w6.heap.size) w6 bs[j].1 c0 c1 c2 c3 → IsIn (fun b => wr.heap.size ≤ b ∧ b < w6.heap.size) w6 bs[j].2 d0 d1 d2 d3 → ∀ g cap w8 ob, w8.ownsRow w2.heap.size 53 8 (.slice (some ⟨g, 0, none⟩) (n + 1) cap) (n + 1) (cs ++ [c0, c1, c2, c3, d0, d1, d2, d3]) → (w6.alloc ob).grownBy w8 (Value.slice xk n lcap).ownBlock → ((Value.slice xk n lcap).ownBlock = some g ∨ g = w6.heap.size + 1) →
          BdsIn w2.heap.size w2.heap.size w8 (keptB L (bs.take (j + 1))) (.slice (some ⟨g, 0, none⟩) (n + 1) cap) ∧ Below w2.heap.size w2 w8) := by
        show ∀ _, _
        intro w6 c0 c1 c2 c3 d0 d1 d2 d3 hE6 h1 h2 g cap w8 ob ho8 hg hat
        have r := BdsIn_push HNL.out hown hK hF (Nat.le_refl _) hws hE6 (IsIn_carry (fun b hb => rfl) (fun b hb => Or.inr hb) _ _ _ _ _ h1) (IsIn_carry (fun b hb => rfl) (fun b hb => Or.inr hb) _ _ _ _ _ h2) ho8 hg hat
        rw [HH.out]
        exact ⟨r.1, HB.out.trans r.2.2⟩
      clear hHit hcv hown hK hF hI1 hI2 hB hz1
      go_wp2_with (first
        | (go_at_call 56; refine (HC.out).mono ?_; rintro e w5 ⟨c0, c1, c2, c3, d0, d1, d2, d3, he, hI5, hJ5, hB⟩; subst he; obtain ⟨k6, n6, s6, xa6, l6, cap6, e0, e1, e2, e3⟩ := IsIn_form hI5; subst e0 e1 e2 e3; obtain ⟨k7, n7, s7, xa7, l7, cap7, e0, e1, e2, e3⟩ := IsIn_form hJ5; subst e0 e1 e2 e3; have HP5 := Lib.hid (HPU.out w5 _ _ _ _ _ _ _ _ hB hI5 hJ5); have HO5 := Lib.hid (HO.out _ hB); have hw5 : w2.heap.size ≤ w5.heap.size := Nat.le_trans hws hB.size; clear hI5 hJ5 hB)
        | (at_builtin; refine wpList_append_lies _ rfl _ _ _ rfl w2.heap.size 53 i0 _ 8 112 Tryz.underlying22 HI0.out.1 HI0.out.2.1 HI0.out.2.2.1 HI0.out.2.2.2 rfl (by omega) (.slice xk n lcap) n cs rfl (HO5.out.alloc _) ⟨w5.heap.size, 0, none⟩ 1 1 [.int .i64 k6, .string n6, .int .i64 s6, .slice xa6 l6 cap6, .int .i64 k7, .string n7, .int .i64 s7, .slice xa7 l7 cap7] rfl rfl (World.news_of_block (cs := #[.int .i64 k6, .string n6, .int .i64 s6, .slice xa6 l6 cap6, .int .i64 k7, .string n7, .int .i64 s7, .slice xa7 l7 cap7]) (t := 53) (fr := (0, 0)) (heap_alloc_new w5 _)) (by simp [Value.oneCell']) (by omega) (by unfold maxLen; omega) (by omega) (by simp; omega) (w5.heap.size + 1) (by simp) ?_; intro gg cap8 w8 hown8 hgrow hat hltt; have HN := Lib.hid (HP5.out _ _ _ _ hown8 hgrow hat); clear hown8 hgrow hat hltt))
      go_roundw
      case rel => exact ⟨j + 1, by omega, by go_num, HN.out.1, HN.out.2⟩
      case measure => simp [intOf]; omega
end Go.Proofs.YtkfbbkkfagglhaaGreatDoor

/-
  THE WALKS OF the law SubstAgain, the chapter's examples by hypothesis.
-/
namespace Go.Proofs.YtkfbbkkfagglhaaGreatDoor
open Go.RowKit

theorem row_elems {w : World} {ls : List Tm} {xa : Option Addr} {cap : Nat} (h : Row w ls xa) (hc : ls.length ≤ cap) (hl : ls.length ≤ maxLen) : Elems (fun b => b < w.heap.size) w ls (.slice xa ls.length cap) := by
  cases ls with
  | nil => exact ⟨xa, cap, [], rfl, hc, hl, rfl, fun h => by simp at h⟩
  | cons t ts =>
    obtain ⟨b, o, rfl⟩ := Row_at h (by simp)
    obtain ⟨cs, hK, hcs⟩ := KC_of_Row _ b o h
    exact ⟨_, cap, cs, rfl, hc, hl, hK, fun _ => ⟨b, o, rfl, fun j u hu => by have := hcs j u hu; rw [add_plain] at this; exact this⟩⟩
theorem valid_400 {t : Tm} (h : validE t = 0) : size t ≤ 400 := by
  unfold validE at h
  by_cases h0 : nodesE t = 0
  · rw [if_pos h0] at h
    by_cases h1 : 400 < size t ∨ 40 < depth t
    · rw [if_pos h1] at h; omega
    · omega
  · rw [if_neg h0] at h; exact absurd h h0

set_option maxHeartbeats 3200000 in
set_option maxRecDepth 100000 in
theorem sagain_N1 (HA : Hid Awake2Ok) (bs : List Bd) (l : List Tm) (xs xl : Option Addr) (cs cl : Nat) (w : World) (hL : Laid w) (hb : bs.length * 112 ≤ 140737488355328) (hR : Row w (flatB bs) xs) (h1 : few (flatB bs) (2 * 20) 600 = false) :
    Calls Tryz.prog 3 #[.slice xs bs.length cs, .slice xl l.length cl] w fun e w' => e = .returned (.bool true) ∧ Below w.heap.size w w' := by
  have HL := Lib.hid hL
  have HF := Lib.hid (fun W (x : Ext w W) => few02_any bs xs cs 20 600 W hb (by omega) (by omega) (by omega) (Row_below (w' := W) hR x))
  rw [h1] at HF
  have tok1 : True := trivial
  clear h1 hL hb hR
  go_enter Tryz.func3, Tryz.ntmps3
  go_wp2_with (first
    | (go_at_call 12; have _t := tok1; refine (HA.out _ HL.out).mono ?_; rintro e w1 ⟨he, hB1⟩; subst he; have HB1 := Lib.hid (show Ext w w1 from hB1); clear hB1 tok1)
    | (go_at_call 12; refine (HA.out _ (Laid_ext HL.out HB2.out)).mono ?_; rintro e w3 ⟨he, hB⟩; subst he; have HB3 := Lib.hid (Ext.trans HB2.out hB); clear hB)
    | (go_at_call 13; refine (HF.out _ HB1.out).mono ?_; rintro e w2 ⟨he, hB2⟩; subst he; have HB2 := Lib.hid (Ext.trans HB1.out hB2); clear hB2))
  go_ret
  exact ⟨rfl, HB3.out⟩
set_option maxHeartbeats 3200000 in
set_option maxRecDepth 100000 in
theorem sagain_N2 (HA : Hid Awake2Ok) (bs : List Bd) (l : List Tm) (xs xl : Option Addr) (cs cl : Nat) (w : World) (hL : Laid w) (hb : bs.length * 112 ≤ 140737488355328) (hR : Row w (flatB bs) xs) (hll : l.length ≤ maxLen) (hRl : Row w l xl) (h1 : few (flatB bs) (2 * 20) 600 = true) (h2 : few l 20 600 = false) :
    Calls Tryz.prog 3 #[.slice xs bs.length cs, .slice xl l.length cl] w fun e w' => e = .returned (.bool true) ∧ Below w.heap.size w w' := by
  have HL := Lib.hid hL
  have HF := Lib.hid (fun W (x : Ext w W) => few02_any bs xs cs 20 600 W hb (by omega) (by omega) (by omega) (Row_below (w' := W) hR x))
  have HG := Lib.hid (fun W (x : Ext w W) => few_any l xl cl 20 600 W hll (by omega) (by omega) (Row_below (w' := W) hRl x))
  rw [h1] at HF
  rw [h2] at HG
  have tok1 : True := trivial
  clear h1 h2 hL hb hR hll hRl
  go_enter Tryz.func3, Tryz.ntmps3
  go_wp2_with (first
    | (go_at_call 12; have _t := tok1; refine (HA.out _ HL.out).mono ?_; rintro e w1 ⟨he, hB1⟩; subst he; have HB1 := Lib.hid (show Ext w w1 from hB1); clear hB1 tok1)
    | (go_at_call 12; refine (HA.out _ (Laid_ext HL.out HB3.out)).mono ?_; rintro e w4 ⟨he, hB⟩; subst he; have HB4 := Lib.hid (Ext.trans HB3.out hB); clear hB)
    | (go_at_call 13; refine (HF.out _ HB1.out).mono ?_; rintro e w2 ⟨he, hB2⟩; subst he; have HB2 := Lib.hid (Ext.trans HB1.out hB2); clear hB2)
    | (go_at_call 14; refine (HG.out _ HB2.out).mono ?_; rintro e w3 ⟨he, hB3⟩; subst he; have HB3 := Lib.hid (Ext.trans HB2.out hB3); clear hB3))
  go_ret
  exact ⟨rfl, HB4.out⟩

set_option maxHeartbeats 6400000 in
set_option maxRecDepth 100000 in
theorem sagain_S (HA : Hid Awake2Ok) (bs : List Bd) (l : List Tm) (xs xl : Option Addr) (cs cl : Nat) (w : World) (hL : Laid w) (hcs : bs.length ≤ cs) (hb : bs.length * 112 ≤ 140737488355328) (hR : Row w (flatB bs) xs) (hcl : l.length ≤ cl) (hRl : Row w l xl) (h1 : few (flatB bs) (2 * ((20 : Nat) : Int)) ((600 : Nat) : Int) = true) (h2 : few l ((20 : Nat) : Int) ((600 : Nat) : Int) = true) :
    Calls Tryz.prog 3 #[.slice xs bs.length cs, .slice xl l.length cl] w fun e w' => e = .returned (.bool true) ∧ Below w.heap.size w w' := by
  obtain ⟨hl, hz⟩ := few_binds h1
  obtain ⟨hl2, hz2⟩ := few_terms h2
  have hsz : SzB 1073741824 bs := fun b hb => ⟨by have := (hz b hb).1; omega, by have := (hz b hb).2; omega⟩
  have hsz1 : SzB 1048576 bs := fun b hb => ⟨by have := (hz b hb).1; omega, by have := (hz b hb).2; omega⟩
  have hss : sizes (bs.map (·.2)) ≤ 1073741824 := by
    have h := sizes_le (M := 600) (bs.map (·.2)) (fun t ht => by obtain ⟨b, hb, rfl⟩ := List.mem_map.1 ht; exact (hz b hb).2)
    have h3 : (bs.map (·.2)).length * 600 ≤ 20 * 600 := Nat.mul_le_mul_right _ (by rw [List.length_map]; exact hl)
    omega
  have hsl : sizes l ≤ 12000 := by
    have h := sizes_le (M := 600) l hz2
    have h3 : l.length * 600 ≤ 20 * 600 := Nat.mul_le_mul_right _ hl2
    omega
  have hN : ∀ b ∈ bs, size b.2 ≤ 600 := fun b hb => (hz b hb).2
  have hsn : ∀ t ∈ l, size t * 600 ≤ 1073741824 := fun t ht => by have := hz2 t ht; omega
  have hk : keptB (setT (subL l)) bs = keptB (postL l) bs := keptB_same (set_post l) bs
  have hKm : ∀ b ∈ keptB (postL l) bs, b ∈ bs := fun b hb => (List.mem_filter.1 hb).1
  have hKl := keptB_len (postL l) bs
  have HL := Lib.hid hL
  have HF := Lib.hid (fun W (x : Ext w W) => few02_any bs xs cs 20 600 W hb (by omega) (by omega) (by omega) (Row_below (w' := W) hR x))
  have HG := Lib.hid (fun W (x : Ext w W) => few_any l xl cl 20 600 W (by unfold maxLen; omega) (by omega) (by omega) (Row_below (w' := W) hRl x))
  have h1' : few (flatB bs) (2 * 20) 600 = true := h1
  have h2' : few l 20 600 = true := h2
  rw [h1'] at HF
  rw [h2'] at HG
  have HI1 := Lib.hid (fun W (x : Ext w W) => sidem_any bs xs cs W (by omega) hsz1 hss (Row_below (w' := W) hR x))
  have HI2 := Lib.hid (fun W (x : Ext w W) => ridem_any bs xs cs W (by unfold maxLen; omega) hsz1 (Row_below (w' := W) hR x))
  have HR1 := Lib.hid (fun W (x : Ext w W) => srestr_any bs l xs xl cs cl W (by omega) hsz1 (Row_below (w' := W) hR x) (by omega) (by omega) (Row_below (w' := W) hRl x))
  have HR2 := Lib.hid (fun W (x : Ext w W) => rrestr_any bs l xs cs (.slice xl l.length cl) W (by omega) hsz1 (Row_below (w' := W) hR x) (by omega) (row_elems (Row_below (w' := W) hRl x) hcl (by unfold maxLen; omega)))
  rw [hk] at HR2
  have HS1 := Lib.hid (fun W (x : Ext w W) => sall_any bs l xs xl cs cl 600 W hcs (by omega) hsz (Row_below (w' := W) hR x) hcl (by omega) (Row_below (w' := W) hRl x) hN (by omega) hsn)
  have HS2 := Lib.hid (fun xc cc W (x : Ext w W) (p : (keptB (postL l) bs).length ≤ cc) (r : Row W (flatB (keptB (postL l) bs)) xc) => sall_any (keptB (postL l) bs) l xc xl cc cl 600 W p (by omega) (fun b hb => hsz b (hKm b hb)) r hcl (by omega) (Row_below (w' := W) hRl x) (fun b hb => hN b (hKm b hb)) (by omega) hsn)
  have HSM := Lib.hid (fun xa ya ca cb W (p : (keptB (postL l) bs).length ≤ ca) (r : Row W (flatB (keptB (postL l) bs)) xa) (q : (keptB (postL l) bs).length ≤ cb) (r2 : Row W (flatB (keptB (postL l) bs)) ya) => bsame_eq (keptB (postL l) bs) xa ya ca cb W p q (by unfold maxLen; omega) (fun b hb => hsz b (hKm b hb)) r r2)
  have hKE : (allV bs l).2 = 0 → allV (keptB (postL l) bs) l = allV bs l := fun h => by rw [← hk]; exact again_kept h
  have hIE : (allV bs l).2 = 0 → idemB bs bs = true → allV bs (allV bs l).1 = allV bs l := fun h => again_idem h
  have hUS : (allV bs l).2 = 0 → ∀ t ∈ (allV bs l).1, size t ≤ 400 := fun h t ht => by
    obtain ⟨_, _, h3, h4⟩ := allV_ok h
    rw [h4] at ht
    obtain ⟨u, hu, rfl⟩ := List.mem_map.1 ht
    exact valid_400 (h3 u hu).2
  obtain ⟨al1, al2⟩ := allV_small hN (by omega) hsn
  have HS3 := Lib.hid (fun (hE : (allV bs l).2 = 0) xa ca W (x : Ext w W) (p : (allV bs l).1.length ≤ ca) (r : Row W (allV bs l).1 xa) => sall_any bs (allV bs l).1 xs xa cs ca 600 W hcs (by omega) hsz (Row_below (w' := W) hR x) p (by omega) r hN (by omega) (fun t ht => by have := hUS hE t ht; omega))
  have HLS := Lib.hid (fun (xa ya : Option Addr) (c1 c2 : Nat) W (r1 : Row W (allV bs l).1 xa) (r2 : Row W (allV bs l).1 ya) => (by have h := lists_any (allV bs l).1 (allV bs l).1 xa ya c1 c2 W (by unfold maxLen; omega) (by unfold maxLen; omega) (by omega) (by omega) r1 r2; rw [lists_eq] at h; exact h : Calls Tryz.prog 21 #[.slice xa (allV bs l).1.length c1, .slice ya (allV bs l).1.length c2] W fun e w' => e = .returned (.bool true) ∧ Below W.heap.size W w'))
  generalize keptB (postL l) bs = K at HR1 HR2 HS2 HSM hKE
  have HKE := Lib.hid hKE
  have HIE := Lib.hid hIE
  unfold BdsPost at HR1 HR2
  obtain ⟨V2, hV2⟩ : ∃ V2, allV bs (allV bs l).1 = V2 := ⟨_, rfl⟩
  rw [hV2] at HS3 HIE
  obtain ⟨V3, hV3⟩ : ∃ V3, allV K l = V3 := ⟨_, rfl⟩
  rw [hV3] at HS2 HKE
  clear hUS hV2 hV3 hKE hIE
  generalize allV bs l = R at HS1 HS3 HLS HKE HIE
  obtain ⟨us, E⟩ := R
  generalize idemB bs bs = I at HI1 HI2 HIE
  unfold RtPost at HS1 HS2 HS3
  have hII : (I != I) = false := by simp
  have hee : (E == E) = true := by simp
  clear h1 h1' h2 h2' hL hcs hb hR hcl hRl hl hz hz2 hsz hN hsn al1 al2 hsz1 hss hsl hk hKm hKl
  have tok1 : True := trivial
  by_cases hE : E = 0
  rotate_left
  · have q : (E != 0) = true := by rw [bne_iff_ne]; exact hE
    clear HS2 HS3 HLS HKE HIE
    go_enter Tryz.func3, Tryz.ntmps3
    go_wp2_with (first
      | (go_at_call 12; refine (HA.out _ HL.out).mono ?_; rintro e w1 ⟨he, hB1⟩; subst he; have HB1 := Lib.hid (show Ext w w1 from hB1); clear hB1)
      | (go_at_call 13; refine (HF.out _ HB1.out).mono ?_; rintro e w2 ⟨he, hB2⟩; subst he; have HB2 := Lib.hid (Ext.trans HB1.out hB2); clear hB2)
      | (go_at_call 14; refine (HG.out _ HB2.out).mono ?_; rintro e w3 ⟨he, hB3⟩; subst he; have HB3 := Lib.hid (Ext.trans HB2.out hB3); clear hB3)
      | (go_at_call 15; refine (HI1.out _ HB3.out).mono ?_; rintro e w4 ⟨he, hB⟩; subst he; have HB4 := Lib.hid (Ext.trans HB3.out hB); clear hB)
      | (go_at_call 16; refine (HR1.out _ HB4.out).mono ?_; rintro e w5 ⟨ya, ca, he, pc, rc, hB⟩; subst he; have HB5 := Lib.hid (Ext.trans HB4.out hB); have HRC := Lib.hid (fun W (x : Ext w5 W) => And.intro pc (Row_below (w' := W) rc x)); clear hB pc rc)
      | (go_at_call 17; refine (HI2.out _ HB5.out).mono ?_; rintro e w6 ⟨he, hB⟩; subst he; have HX6 := Lib.hid (show Ext w5 w6 from hB); have HB6 := Lib.hid (Ext.trans HB5.out hB); clear hB)
      | (go_at_call 19; refine (HR2.out _ HB6.out).mono ?_; rintro e w7 ⟨yb, cb, he, pc, rc, hB⟩; subst he; have HX7 := Lib.hid (Ext.trans HX6.out hB); have HB7 := Lib.hid (Ext.trans HB6.out hB); have HRD := Lib.hid (And.intro pc rc); clear hB pc rc)
      | (go_at_call 18; refine (HSM.out _ _ _ _ _ (HRC.out _ HX7.out).1 (HRC.out _ HX7.out).2 HRD.out.1 HRD.out.2).mono ?_; rintro e w8 ⟨he, hB⟩; subst he; have HX8 := Lib.hid (Ext.trans HX7.out hB); have HB8 := Lib.hid (Ext.trans HB7.out hB); clear hB)
      | (go_at_call 20; refine (HS1.out _ HB8.out).mono ?_; rintro e w9 ⟨xa9, c9, he, p9, r9, hB⟩; subst he; have HB9 := Lib.hid (Ext.trans HB8.out hB); clear hB p9 r9))
    go_ret
    exact ⟨rfl, HB9.out⟩
  subst hE
  have HS3' := Lib.hid (HS3.out rfl)
  have e3 := HKE.out rfl
  rw [e3] at HS2
  have HIE' := Lib.hid (HIE.out rfl)
  clear HS3 HKE HIE e3
  have tok2 : True := trivial
  have tok3 : True := trivial
  have tok4 : True := trivial
  cases I with
  | false =>
    obtain ⟨us2, E2⟩ := V2
    clear HIE'
    go_enter Tryz.func3, Tryz.ntmps3
    go_wp2_with (first
      | (go_at_call 12; refine (HA.out _ HL.out).mono ?_; rintro e w1 ⟨he, hB1⟩; subst he; have HB1 := Lib.hid (show Ext w w1 from hB1); clear hB1)
      | (go_at_call 13; refine (HF.out _ HB1.out).mono ?_; rintro e w2 ⟨he, hB2⟩; subst he; have HB2 := Lib.hid (Ext.trans HB1.out hB2); clear hB2)
      | (go_at_call 14; refine (HG.out _ HB2.out).mono ?_; rintro e w3 ⟨he, hB3⟩; subst he; have HB3 := Lib.hid (Ext.trans HB2.out hB3); clear hB3)
      | (go_at_call 15; refine (HI1.out _ HB3.out).mono ?_; rintro e w4 ⟨he, hB⟩; subst he; have HB4 := Lib.hid (Ext.trans HB3.out hB); clear hB)
      | (go_at_call 16; refine (HR1.out _ HB4.out).mono ?_; rintro e w5 ⟨ya, ca, he, pc, rc, hB⟩; subst he; have HB5 := Lib.hid (Ext.trans HB4.out hB); have HRC := Lib.hid (fun W (x : Ext w5 W) => And.intro pc (Row_below (w' := W) rc x)); clear hB pc rc)
      | (go_at_call 17; refine (HI2.out _ HB5.out).mono ?_; rintro e w6 ⟨he, hB⟩; subst he; have HX6 := Lib.hid (show Ext w5 w6 from hB); have HB6 := Lib.hid (Ext.trans HB5.out hB); clear hB)
      | (go_at_call 19; refine (HR2.out _ HB6.out).mono ?_; rintro e w7 ⟨yb, cb, he, pc, rc, hB⟩; subst he; have HX7 := Lib.hid (Ext.trans HX6.out hB); have HB7 := Lib.hid (Ext.trans HB6.out hB); have HRD := Lib.hid (And.intro pc rc); clear hB pc rc)
      | (go_at_call 18; refine (HSM.out _ _ _ _ _ (HRC.out _ HX7.out).1 (HRC.out _ HX7.out).2 HRD.out.1 HRD.out.2).mono ?_; rintro e w8 ⟨he, hB⟩; subst he; have HX8 := Lib.hid (Ext.trans HX7.out hB); have HB8 := Lib.hid (Ext.trans HB7.out hB); clear hB)
      | (go_at_call 20; have _t := tok1; refine (HS1.out _ HB8.out).mono ?_; rintro e w9 ⟨xa9, c9, he, p9, r9, hB⟩; subst he; have HX9 := Lib.hid (Ext.trans HX8.out hB); have HB9 := Lib.hid (Ext.trans HB8.out hB); have HR9 := Lib.hid (fun W (x : Ext w9 W) => And.intro p9 (Row_below (w' := W) r9 x)); clear hB p9 r9 tok1)
      | (go_at_call 20; have _t := tok2; refine (HS2.out _ _ _ HB9.out (HRC.out _ HX9.out).1 (HRC.out _ HX9.out).2).mono ?_; rintro e wa ⟨xaa, ca2, he, pa, ra, hB⟩; subst he; have HXa := Lib.hid (show Ext w9 wa from hB); have HBa := Lib.hid (Ext.trans HB9.out hB); have HRa := Lib.hid (fun W (x : Ext wa W) => Row_below (w' := W) ra x); clear hB pa ra tok2)
      | (go_at_call 20; refine (HS3'.out _ _ _ HBa.out (HR9.out _ HXa.out).1 (HR9.out _ HXa.out).2).mono ?_; rintro e wb ⟨xab, cb2, he, pb, rb, hB⟩; subst he; have HXb := Lib.hid (show Ext wa wb from hB); have HXb9 := Lib.hid (Ext.trans HXa.out hB); have HBb := Lib.hid (Ext.trans HBa.out hB); clear hB pb rb)
      | (go_at_call 21; refine (HLS.out _ _ _ _ _ (HR9.out _ HXb9.out).2 (HRa.out _ HXb.out)).mono ?_; rintro e wc ⟨he, hB⟩; subst he; have HBc := Lib.hid (Ext.trans HBb.out hB); clear hB))
    go_ret
    exact ⟨rfl, HBc.out⟩
  | true =>
    have e2 := HIE'.out rfl
    subst e2
    clear HIE'
    go_enter Tryz.func3, Tryz.ntmps3
    go_wp2_with (first
      | (go_at_call 12; refine (HA.out _ HL.out).mono ?_; rintro e w1 ⟨he, hB1⟩; subst he; have HB1 := Lib.hid (show Ext w w1 from hB1); clear hB1)
      | (go_at_call 13; refine (HF.out _ HB1.out).mono ?_; rintro e w2 ⟨he, hB2⟩; subst he; have HB2 := Lib.hid (Ext.trans HB1.out hB2); clear hB2)
      | (go_at_call 14; refine (HG.out _ HB2.out).mono ?_; rintro e w3 ⟨he, hB3⟩; subst he; have HB3 := Lib.hid (Ext.trans HB2.out hB3); clear hB3)
      | (go_at_call 15; refine (HI1.out _ HB3.out).mono ?_; rintro e w4 ⟨he, hB⟩; subst he; have HB4 := Lib.hid (Ext.trans HB3.out hB); clear hB)
      | (go_at_call 16; refine (HR1.out _ HB4.out).mono ?_; rintro e w5 ⟨ya, ca, he, pc, rc, hB⟩; subst he; have HB5 := Lib.hid (Ext.trans HB4.out hB); have HRC := Lib.hid (fun W (x : Ext w5 W) => And.intro pc (Row_below (w' := W) rc x)); clear hB pc rc)
      | (go_at_call 17; refine (HI2.out _ HB5.out).mono ?_; rintro e w6 ⟨he, hB⟩; subst he; have HX6 := Lib.hid (show Ext w5 w6 from hB); have HB6 := Lib.hid (Ext.trans HB5.out hB); clear hB)
      | (go_at_call 19; refine (HR2.out _ HB6.out).mono ?_; rintro e w7 ⟨yb, cb, he, pc, rc, hB⟩; subst he; have HX7 := Lib.hid (Ext.trans HX6.out hB); have HB7 := Lib.hid (Ext.trans HB6.out hB); have HRD := Lib.hid (And.intro pc rc); clear hB pc rc)
      | (go_at_call 18; refine (HSM.out _ _ _ _ _ (HRC.out _ HX7.out).1 (HRC.out _ HX7.out).2 HRD.out.1 HRD.out.2).mono ?_; rintro e w8 ⟨he, hB⟩; subst he; have HX8 := Lib.hid (Ext.trans HX7.out hB); have HB8 := Lib.hid (Ext.trans HB7.out hB); clear hB)
      | (go_at_call 20; have _t := tok1; refine (HS1.out _ HB8.out).mono ?_; rintro e w9 ⟨xa9, c9, he, p9, r9, hB⟩; subst he; have HX9 := Lib.hid (Ext.trans HX8.out hB); have HB9 := Lib.hid (Ext.trans HB8.out hB); have HR9 := Lib.hid (fun W (x : Ext w9 W) => And.intro p9 (Row_below (w' := W) r9 x)); clear hB p9 r9 tok1)
      | (go_at_call 20; have _t := tok2; refine (HS2.out _ _ _ HB9.out (HRC.out _ HX9.out).1 (HRC.out _ HX9.out).2).mono ?_; rintro e wa ⟨xaa, ca2, he, pa, ra, hB⟩; subst he; have HXa := Lib.hid (show Ext w9 wa from hB); have HBa := Lib.hid (Ext.trans HB9.out hB); have HRa := Lib.hid (fun W (x : Ext wa W) => Row_below (w' := W) ra x); clear hB pa ra tok2)
      | (go_at_call 20; refine (HS3'.out _ _ _ HBa.out (HR9.out _ HXa.out).1 (HR9.out _ HXa.out).2).mono ?_; rintro e wb ⟨xab, cb2, he, pb, rb, hB⟩; subst he; have HXb := Lib.hid (show Ext wa wb from hB); have HXb9 := Lib.hid (Ext.trans HXa.out hB); have HBb := Lib.hid (Ext.trans HBa.out hB); have HRb := Lib.hid (fun W (x : Ext wb W) => Row_below (w' := W) rb x); clear hB pb rb)
      | (go_at_call 21; have _t := tok3; refine (HLS.out _ _ _ _ _ (HR9.out _ HXb9.out).2 (HRa.out _ HXb.out)).mono ?_; rintro e wc ⟨he, hB⟩; subst he; have HXc := Lib.hid (show Ext wb wc from hB); have HXc9 := Lib.hid (Ext.trans HXb9.out hB); have HBc := Lib.hid (Ext.trans HBb.out hB); clear hB tok3)
      | (go_at_call 21; refine (HLS.out _ _ _ _ _ (HR9.out _ HXc9.out).2 (HRb.out _ HXc.out)).mono ?_; rintro e wd ⟨he, hB⟩; subst he; have HBd := Lib.hid (Ext.trans HBc.out hB); clear hB))
    go_ret
    exact ⟨rfl, HBd.out⟩
theorem lawSg_any (HA : Awake2Ok) (bs : List Bd) (l : List Tm) (xs xl : Option Addr) (cs cl : Nat) (w : World) (hL : Laid w) (hcs : bs.length ≤ cs) (hb : bs.length * 112 ≤ 140737488355328) (hR : Row w (flatB bs) xs) (hcl : l.length ≤ cl) (hll : l.length ≤ maxLen) (hRl : Row w l xl) :
    Calls Tryz.prog 3 #[.slice xs bs.length cs, .slice xl l.length cl] w fun e w' => e = .returned (.bool true) ∧ Below w.heap.size w w' := by
  cases h : few (flatB bs) (2 * 20) 600 with
  | false => exact sagain_N1 (Lib.hid HA) bs l xs xl cs cl w hL hb hR h
  | true =>
    cases h2 : few l 20 600 with
    | false => exact sagain_N2 (Lib.hid HA) bs l xs xl cs cl w hL hb hR hll hRl h h2
    | true => exact sagain_S (Lib.hid HA) bs l xs xl cs cl w hL hcs hb hR hcl hRl h h2
end Go.Proofs.YtkfbbkkfagglhaaGreatDoor
