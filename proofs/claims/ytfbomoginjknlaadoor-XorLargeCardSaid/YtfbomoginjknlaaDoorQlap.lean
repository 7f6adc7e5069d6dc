/-
  LISTS OF EQUAL ATOMS, on plain data.
-/
import Derived.Test.YtfbomoginjknlaaDoorQrwp
import Derived.Test.YtfbomoginjknlaaDoorQrdm
namespace Go.Proofs.YtfbomoginjknlaaDoor

/-- The atom a. -/
def atA : Tm := .mk 2 ⟨#[97]⟩ 0 []
theorem atA_valid : validE atA = 0 := by rfl
theorem atA_size : size atA = 1 := by simp [atA, size, sizes]
theorem atA_sum : summT atA = [atA] := by
  unfold atA
  rw [summT, if_neg (by simp), if_neg (by simp)]
theorem tog_none : plusT [] [atA] = [atA] := by
  rw [plusT, plusT]
  unfold togT
  rw [if_neg (by simp [memT]), addR]
  simp
theorem tog_one : plusT [atA] [atA] = [] := by
  rw [plusT, plusT]
  unfold togT
  rw [if_pos ((memT_iff _ _).2 (List.mem_cons_self ..))]
  simp [cmpT_self]
theorem firstE_rep : ∀ k, firstE (List.replicate k atA) = 0
  | 0 => rfl
  | k + 1 => by rw [List.replicate_succ, firstE, if_pos atA_valid]; exact firstE_rep k
theorem listE_rep (k : Nat) : listE (List.replicate k atA) = if 200 < k then 3 else 0 := by
  unfold listE
  rw [List.length_replicate, firstE_rep]
theorem vE_rep (k : Nat) : vE (List.replicate k atA) atA = if 200 < k then 3 else 0 := by
  unfold vE
  rw [List.length_replicate, firstE_rep, atA_valid, if_pos rfl]
theorem summs_rep : ∀ k, summsT [] (List.replicate k atA) = (if k % 2 = 1 then [atA] else []) ∧ summsT [atA] (List.replicate k atA) = (if k % 2 = 1 then [] else [atA])
  | 0 => ⟨by simp [summsT], by simp [summsT]⟩
  | k + 1 => by
    obtain ⟨h1, h2⟩ := summs_rep k
    rw [List.replicate_succ, summsT, summsT, atA_sum, tog_none, tog_one, h1, h2]
    by_cases h : k % 2 = 1
    · rw [if_pos h, if_pos h, if_neg (by omega), if_neg (by omega)]; exact ⟨rfl, rfl⟩
    · rw [if_neg h, if_neg h, if_pos (by omega), if_pos (by omega)]; exact ⟨rfl, rfl⟩
theorem sums_rep (k : Nat) : sumsR (List.replicate k atA) = List.replicate (k % 2) atA := by
  unfold sumsR
  rw [(summs_rep k).1]
  rcases Nat.mod_two_eq_zero_or_one k with h | h <;> rw [h] <;> rfl
theorem sumTm_rep (k : Nat) : validE (sumTm (List.replicate (k % 2) atA)) = 0 ∧ size (sumTm (List.replicate (k % 2) atA)) = 1 := by
  rcases Nat.mod_two_eq_zero_or_one k with h | h <;> rw [h]
  · exact ⟨by rfl, by simp [sumTm, size, sizes]⟩
  · exact ⟨atA_valid, atA_size⟩
theorem sumP_rep {k : Nat} (h : k ≤ 200) : sumP (List.replicate k atA) = (sumTm (List.replicate (k % 2) atA), 0) := by
  unfold sumP
  have e : listE (List.replicate k atA) = 0 := by rw [listE_rep, if_neg (by omega)]
  rw [if_pos e, sums_rep, if_pos (sumTm_rep k).1]
theorem sumP_big {k : Nat} (h : 200 < k) : sumP (List.replicate k atA) = (zilT, 3) := by
  have e : listE (List.replicate k atA) = 3 := by rw [listE_rep, if_pos h]
  unfold sumP
  rw [if_neg (by rw [e]; decide), e]
theorem rep_get {k m : Nat} (h : m < k) : (List.replicate k atA).getD m zilT = atA := by
  rw [List.getD_eq_getElem?_getD, List.getElem?_eq_getElem (by rw [List.length_replicate]; exact h), List.getElem_replicate]; rfl
theorem rows_rep (k : Nat) : ∀ m, 0 < m → m ≤ k → rowsT (List.replicate k atA) m = ([[atA]], [0])
  | 0, h, _ => absurd h (by omega)
  | m + 1, _, h => by
    rw [rowsT, rep_get (by omega), atA_sum]
    by_cases h0 : m = 0
    · subst h0
      rw [rowsT, redT, if_neg (by simp)]
      rfl
    · rw [rows_rep k m (by omega) (by omega)]
      have e : redT [[atA]] [atA] = [] := by
        rw [redT, redT, if_pos ((memT_iff _ _).2 (lastT_mem (by simp))), tog_one]
      rw [show (([[atA]], [0]) : List (List Tm) × List Nat).1 = [[atA]] from rfl, e]
      rfl
theorem bas_rep {k : Nat} (h0 : 0 < k) (h : k ≤ 200) : basP (List.replicate k atA) = ([0], 0) := by
  unfold basP
  have e : listE (List.replicate k atA) = 0 := by rw [listE_rep, if_neg (by omega)]
  rw [if_pos e, List.length_replicate, rows_rep k k h0 (Nat.le_refl _)]; rfl
theorem bas_big {k : Nat} (h : 200 < k) : basP (List.replicate k atA) = ([], 3) := by
  have e : listE (List.replicate k atA) = 3 := by rw [listE_rep, if_pos h]
  unfold basP
  rw [if_neg (by rw [e]; decide), e]
theorem chk_rep {k : Nat} (h3 : 3 < k) (h : k ≤ 200) : chkB8 (List.replicate k atA) atA [3] = true := by
  unfold chkB8
  have hi : idxB (List.replicate k atA).length [3] = true := by
    rw [List.length_replicate]
    unfold idxB
    rw [idxG_iff]
    exact ⟨List.pairwise_singleton _ _, fun x hx => by rw [List.mem_singleton.1 hx]; omega⟩
  have hv : vE (List.replicate k atA) atA = 0 := by rw [vE_rep, if_neg (by omega)]
  rw [if_neg (fun e => e hv), if_neg (by rw [hi]; decide)]
  have hp : pickT (List.replicate k atA) [3] = List.replicate 1 atA := by
    unfold pickT
    rw [List.map_cons, List.map_nil, show (3 : Int).toNat = 3 from rfl, rep_get h3]; rfl
  rw [hp, sums_rep, atA_sum]
  exact (listsEq_iff _ _).2 rfl
theorem chk_big {k : Nat} (h : 200 < k) (c : List Int) : chkB8 (List.replicate k atA) atA c = false := by
  have hv : vE (List.replicate k atA) atA = 3 := by rw [vE_rep, if_pos h]
  unfold chkB8
  rw [if_pos (by rw [hv]; decide)]
theorem span_rep {k : Nat} {c : List Int} {E : Int} (h3 : 3 < k) (h : SpanR (List.replicate k atA) atA c E) : E = if 200 < k then 3 else 0 := by
  rw [← vE_rep]
  rcases h with ⟨_, h, _⟩ | ⟨h1, h2, _⟩ | ⟨h1, _, _, h4⟩
  · exact h
  · rw [h2, h1]
  · exfalso
    have : k ≤ 200 := by
      rw [vE_rep] at h1
      split at h1
      · cases h1
      · omega
    have h5 := chk_rep h3 this
    rw [h4] at h5
    cases h5
theorem rep_sizes (k : Nat) : sizes (List.replicate k atA) = k := by
  induction k with
  | zero => simp [sizes]
  | succ k ih => rw [List.replicate_succ, sizes, ih, atA_size]; omega
end Go.Proofs.YtfbomoginjknlaaDoor
