/-
  SUMS ON PLAIN DATA: a term put into an ascending list or taken out, sums of lists, the summands of a term.
-/
import Derived.Test.YtakeopjpmfgngaaGreatDoorQcan
namespace Go.Proofs.YtakeopjpmfgngaaGreatDoor
open Go.RowKit

def memT (l : List Tm) (t : Tm) : Bool := l.any (fun u => cmpT u t == 0)
theorem memT_iff (l : List Tm) (t : Tm) : memT l t = true ↔ t ∈ l := by
  unfold memT
  rw [List.any_eq_true]
  constructor
  · rintro ⟨u, hu, h⟩
    rw [beq_iff_eq] at h
    rw [← cmpT_zero u t h]; exact hu
  · intro h
    exact ⟨t, h, by rw [beq_iff_eq]; exact cmpT_self t⟩
/-- A term put in, or taken out. -/
def togT (l : List Tm) (t : Tm) : List Tm := if memT l t = true then l.filter (fun u => !(cmpT u t == 0)) else addR t l false
theorem togT_len (l : List Tm) (t : Tm) : (togT l t).length ≤ l.length + 1 := by
  unfold togT
  split
  · exact Nat.le_succ_of_le (List.length_filter_le _ _)
  · exact addR_len t l false
/-- The sum of two lists. -/
def plusT : List Tm → List Tm → List Tm
  | a, [] => a
  | a, t :: b => plusT (togT a t) b
theorem plusT_len : ∀ (b a : List Tm), (plusT a b).length ≤ a.length + b.length
  | [], a => by simp [plusT]
  | t :: b, a => by
    rw [plusT]
    have := plusT_len b (togT a t)
    have := togT_len a t
    simp only [List.length_cons]; omega
theorem plusT_take (b : List Tm) (j : Nat) (h : j < b.length) (a : List Tm) : plusT a (b.take (j + 1)) = togT (plusT a (b.take j)) b[j] := by
  induction b generalizing a j with
  | nil => simp at h
  | cons t b ih =>
    cases j with
    | zero => simp [plusT]
    | succ j =>
      rw [List.take_succ_cons, List.take_succ_cons, plusT, plusT, ih j (by simpa using h)]; rfl
theorem AscT.mem_cnt {K : List Tm} (h : AscT K) (u : Tm) : (u ∈ K → cntT K u % 2 = 1) ∧ (¬ u ∈ K → cntT K u % 2 = 0) := by
  obtain ⟨h1, h2⟩ := cntT_asc h u
  refine ⟨fun hm => by rw [h2.1 hm], fun hm => ?_⟩
  have : ¬ cntT K u = 1 := fun e => hm (h2.2 e)
  omega
theorem OddS.cnt {K P : List Tm} (h : OddS K P) (u : Tm) : cntT K u % 2 = cntT P u % 2 := by
  obtain ⟨h1, h2⟩ := h.asc.mem_cnt u
  by_cases hm : u ∈ K
  · rw [h1 hm, (h.odd u).1 hm]
  · rw [h2 hm]
    have : ¬ cntT P u % 2 = 1 := fun e => hm ((h.odd u).2 e)
    omega
theorem OddS.congr {K P Q : List Tm} (h : OddS K P) (he : ∀ t, cntT P t % 2 = cntT Q t % 2) : OddS K Q := ⟨h.asc, fun t => by rw [h.odd, he]⟩
theorem OddS.self {K : List Tm} (h : AscT K) : OddS K K := ⟨h, fun t => (cntT_asc h t).2.trans ⟨fun e => by rw [e], fun e => by have := (cntT_asc h t).1; omega⟩⟩
theorem cntT_self (t : Tm) : cntT [t] t = 1 := by rw [cntT, cntT, if_pos (cmpT_self t)]
theorem cntT_not {t u : Tm} (h : ¬ u = t) : cntT [t] u = 0 := by rw [cntT, cntT, if_neg fun e => h (cmpT_zero _ _ e).symm]
theorem OddS.tog {K P : List Tm} (h : OddS K P) (t : Tm) : OddS (togT K t) (P ++ [t]) := by
  unfold togT
  by_cases hm : memT K t = true
  · rw [if_pos hm]
    refine ⟨h.asc.sublist List.filter_sublist, fun u => ?_⟩
    rw [List.mem_filter, h.odd, cntT_app]
    have hk := (h.odd t).1 ((memT_iff _ _).1 hm)
    by_cases he : u = t
    · subst he
      rw [cntT_self, cmpT_self]
      exact ⟨fun x => absurd x.2 (by decide), fun x => by omega⟩
    · rw [cntT_not he, Nat.add_zero]
      have : (!(cmpT u t == 0)) = true := by
        rw [Bool.not_eq_true', beq_eq_false_iff_ne]
        exact fun e => he (cmpT_zero _ _ e)
      rw [this]
      exact ⟨fun x => x.1, fun x => ⟨x, rfl⟩⟩
  · rw [if_neg hm]
    obtain ⟨a1, a2⟩ := addR_set t K h.asc
    refine ⟨a1, fun u => ?_⟩
    rw [a2, h.odd, cntT_app]
    have hk : ¬ cntT P t % 2 = 1 := fun e => hm ((memT_iff _ _).2 ((h.odd t).2 e))
    by_cases he : u = t
    · subst he
      rw [cntT_self]
      exact ⟨fun _ => by omega, fun _ => Or.inl rfl⟩
    · rw [cntT_not he, Nat.add_zero]
      exact ⟨fun x => x.elim (fun e => absurd e he) id, Or.inr⟩
theorem OddS.plus : ∀ (b : List Tm) {K P : List Tm}, OddS K P → OddS (plusT K b) (P ++ b)
  | [], K, P, h => by rw [List.append_nil]; exact h
  | t :: b, K, P, h => by
    have := OddS.plus b (h.tog t)
    rw [List.append_assoc] at this
    exact this
mutual
/-- The summands of a term, as the reference finds them. -/
def summT : Tm → List Tm
  | .mk k n s ks => if k = 3 ∧ n.toList = [122, 101, 114, 111] ∧ ks.length = 0 then [] else if k = 3 ∧ n.toList = [120, 111, 114] then summsT [] ks else [.mk k n s ks]
def summsT : List Tm → List Tm → List Tm
  | out, [] => out
  | out, t :: ts => summsT (plusT out (summT t)) ts
end
theorem summsT_take (ts : List Tm) (j : Nat) (h : j < ts.length) (a : List Tm) : summsT a (ts.take (j + 1)) = plusT (summsT a (ts.take j)) (summT ts[j]) := by
  induction ts generalizing a j with
  | nil => simp at h
  | cons t ts ih =>
    cases j with
    | zero => simp [summsT]
    | succ j =>
      rw [List.take_succ_cons, List.take_succ_cons, summsT, summsT, ih j (by simpa using h)]; rfl
theorem OddS.app {K P : List Tm} (h : OddS K P) {L Q : List Tm} (k : OddS L Q) : OddS (plusT K L) (P ++ Q) :=
  (h.plus L).congr fun t => by
    rw [cntT_app, cntT_app]
    have := k.cnt t
    omega
mutual
theorem summT_odd : ∀ t : Tm, OddS (summT t) (addT t)
  | .mk k n s ks => by
    rw [summT, addT, sumB_mk]
    by_cases h1 : k = 3 ∧ n.toList = [122, 101, 114, 111] ∧ ks.length = 0
    · rw [if_pos h1]
      obtain ⟨a, b, c⟩ := h1
      have hk : ks = [] := List.length_eq_zero_iff.1 c
      subst a; subst hk
      simp only [b, decide_true, Bool.true_and, List.length_nil]
      simp [addsT]
      exact OddS.nil
    · rw [if_neg h1]
      by_cases h2 : k = 3 ∧ n.toList = [120, 111, 114]
      · rw [if_pos h2]
        obtain ⟨a, b⟩ := h2
        subst a
        simp only [b, decide_true, Bool.true_and, beq_self_eq_true, Bool.true_or, if_true]
        have := summsT_odd ks OddS.nil
        rw [List.nil_append] at this
        exact this
      · rw [if_neg h2]
        have hf : (decide (k = 3) && (n.toList == [120, 111, 114] || n.toList == [122, 101, 114, 111] && decide (ks.length = 0))) = false := by
          by_cases hk : k = 3
          · have e1 : (n.toList == [120, 111, 114]) = false := beq_eq_false_iff_ne.2 fun e => h2 ⟨hk, e⟩
            rw [e1]
            by_cases e2 : n.toList = [122, 101, 114, 111]
            · have e3 : ¬ ks.length = 0 := fun e => h1 ⟨hk, e2, e⟩
              rw [decide_eq_false e3]; simp
            · rw [beq_eq_false_iff_ne.2 e2]; simp
          · rw [decide_eq_false hk]; rfl
        rw [hf, if_neg (by decide)]
        exact OddS.self (List.pairwise_singleton _ _)
theorem summsT_odd : ∀ (ts : List Tm) {out P : List Tm}, OddS out P → OddS (summsT out ts) (P ++ addsT ts)
  | [], out, P, h => by rw [summsT, addsT, List.append_nil]; exact h
  | t :: ts, out, P, h => by
    rw [summsT, addsT, ← List.append_assoc]
    exact summsT_odd ts (h.app (summT_odd t))
end
/-- The summands of a list of terms. -/
def sumsR (ts : List Tm) : List Tm := summsT [] ts
theorem sumsR_odd (ts : List Tm) : OddS (sumsR ts) (addsT ts) := by
  have := summsT_odd ts OddS.nil
  rw [List.nil_append] at this
  exact this
theorem sumsR_eq {K : List Tm} {ts : List Tm} (h : OddS K (addsT ts)) : K = sumsR ts := h.one (sumsR_odd ts) fun _ => rfl
theorem summT_eq {K : List Tm} {t : Tm} (h : OddS K (addT t)) : K = summT t := h.one (summT_odd t) fun _ => rfl
theorem addsT_one (t : Tm) : addsT [t] = addT t := by rw [addsT, addsT, List.append_nil]
theorem sumsR_one (t : Tm) : sumsR [t] = summT t := summT_eq (by have := sumsR_odd [t]; rw [addsT_one] at this; exact this)
mutual
theorem summT_len : ∀ t : Tm, (summT t).length ≤ size t
  | .mk k n s ks => by
    rw [summT, size]
    split
    · simp
    · split
      · have := summsT_len ks []
        simp only [List.length_nil] at this
        omega
      · simp
theorem summsT_len : ∀ (ts out : List Tm), (summsT out ts).length ≤ out.length + sizes ts
  | [], out => by rw [summsT]; omega
  | t :: ts, out => by
    rw [summsT, sizes]
    have := summsT_len ts (plusT out (summT t))
    have := plusT_len (summT t) out
    have := summT_len t
    omega
end
theorem sumsR_len (ts : List Tm) : (sumsR ts).length ≤ sizes ts := by have := summsT_len ts []; simp only [List.length_nil] at this; unfold sumsR; omega
theorem sumsR_mem {ts : List Tm} {u : Tm} (h : u ∈ sumsR ts) : sumB u = false ∧ (nodesL ts = 0 → nodesE u = 0) ∧ size u ≤ sizes ts ∧ depth u ≤ depths ts := addsT_mem ts u ((sumsR_odd ts).sub u h)
theorem summT_mem {t u : Tm} (h : u ∈ summT t) : sumB u = false ∧ (nodesE t = 0 → nodesE u = 0) ∧ size u ≤ size t ∧ depth u ≤ depth t := addT_mem t u ((summT_odd t).sub u h)
/-- The term that has some summands. -/
def sumTm : List Tm → Tm
  | [] => .mk 3 ⟨#[122, 101, 114, 111]⟩ 0 []
  | [t] => t
  | l => .mk 3 ⟨#[120, 111, 114]⟩ 0 l
theorem addT_of {t : Tm} (h : sumB t = false) : addT t = [t] := by
  obtain ⟨k, n, s, ks⟩ := t
  rw [addT, h]; rfl
theorem addsT_of : ∀ {l : List Tm}, (∀ t ∈ l, sumB t = false) → addsT l = l
  | [], _ => rfl
  | t :: l, h => by rw [addsT, addT_of (h t (List.mem_cons_self ..)), addsT_of (l := l) fun u hu => h u (List.mem_cons_of_mem _ hu)]; rfl
theorem addT_sumTm {K : List Tm} (h : ∀ t ∈ K, sumB t = false) : addT (sumTm K) = K := by
  cases K with
  | nil => rw [sumTm, addT, if_pos (by rw [sumB_mk]; kernel_rfl)]; rfl
  | cons t K =>
    cases K with
    | nil => exact addT_of (h t (List.mem_cons_self ..))
    | cons u K =>
      have e : sumTm (t :: u :: K) = .mk 3 ⟨#[120, 111, 114]⟩ 0 (t :: u :: K) := rfl
      rw [e, addT, if_pos (by rw [sumB_mk, show ((⟨#[120, 111, 114]⟩ : ByteArray).toList == [120, 111, 114]) = true by kernel_rfl]; rfl)]
      exact addsT_of h
theorem summT_sumTm {K : List Tm} (ha : AscT K) (h : ∀ t ∈ K, sumB t = false) : summT (sumTm K) = K :=
  (summT_eq (by rw [addT_sumTm h]; exact OddS.self ha)).symm
theorem nodesL_all : ∀ {l : List Tm}, (∀ t ∈ l, nodesE t = 0) → nodesL l = 0
  | [], _ => rfl
  | t :: l, h => by rw [nodesL, if_pos (h t (List.mem_cons_self ..))]; exact nodesL_all fun u hu => h u (List.mem_cons_of_mem _ hu)
theorem sumTm_valid {K : List Tm} (h : ∀ t ∈ K, nodesE t = 0) : validE (sumTm K) = 0 ∨ validE (sumTm K) = 3 := by
  have hn : nodesE (sumTm K) = 0 ∨ nodesE (sumTm K) = 3 := by
    cases K with
    | nil => left; rfl
    | cons t K =>
      cases K with
      | nil => left; exact h t (List.mem_cons_self ..)
      | cons u K =>
        have e : sumTm (t :: u :: K) = .mk 3 ⟨#[120, 111, 114]⟩ 0 (t :: u :: K) := rfl
        rw [e, nodesE, nodesL_all h]
        have hi : nodeE (.mk 3 ⟨#[120, 111, 114]⟩ 0 (t :: u :: K)) = if 8 < (t :: u :: K).length then 3 else 0 := rfl
        rw [hi]
        by_cases h8 : 8 < (t :: u :: K).length
        · rw [if_pos h8]; right; rfl
        · rw [if_neg h8]; left; rfl
  unfold validE
  rcases hn with hn | hn
  · rw [hn, if_pos rfl]
    split
    · exact Or.inr rfl
    · exact Or.inl rfl
  · rw [hn, if_neg (by decide)]; exact Or.inr rfl
end Go.Proofs.YtakeopjpmfgngaaGreatDoor
