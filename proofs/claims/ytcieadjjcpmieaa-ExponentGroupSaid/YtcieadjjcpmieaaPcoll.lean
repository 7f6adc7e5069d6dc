/-
  THE REFERENCE'S collect, pure part: lists that grow by single powers.
-/
import Derived.Test.YtcieadjjcpmieaaPradd
import Derived.Test.YtcieadjjcpmieaaPterm
namespace Go.Proofs.Ytcieadjjcpmieaa
open Go.RowKit

/-- A list in the normal form with at most k powers, none past k. -/
def Okl (k : Nat) (l : List Pw) : Prop := NormP l ∧ l.length ≤ k ∧ (∀ u, (pwr l u).natAbs ≤ k) ∧ SzP 1073741824 l
theorem Okl_nil : Okl 0 [] := ⟨normP_nil, Nat.le_refl _, fun u => by simp [pwr], fun p hp => by simp at hp⟩
theorem Okl.num {k : Nat} {l : List Pw} (h : Okl k l) {p : Pw} (hp : p ∈ l) : p.2.natAbs ≤ k := by
  have := h.2.2.1 p.1
  rw [norm_get h.1 hp] at this
  exact this
theorem Okl.add {k : Nat} {l : List Pw} {t : Tm} {n : Int} (h : Okl k l) (hn : n = 1 ∨ n = -1) (ht : size t ≤ 1073741824) : Okl (k + 1) (addP l (t, n)) := by
  obtain ⟨a1, a2, a3⟩ := addG_norm (t := t) (n := n) (by omega) h.1
  refine ⟨a1, ?_, fun u => ?_, fun q hq => ?_⟩
  · have h2 : (addP l (t, n)).length ≤ l.length + 1 := addG_len t n l false
    have := h.2.1
    omega
  · have h1 := h.2.2.1 u
    rw [show pwr (addP l (t, n)) u = pwr l u + (if cmpT t u = 0 then n else 0) from a3 u]
    split <;> omega
  · rcases a2 q hq with e | ⟨p, hp, e⟩
    · rw [e]; exact ht
    · rw [e]; exact h.2.2.2 p hp
theorem Okl.adds : ∀ (ps : List Pw) {k : Nat} {l : List Pw}, Okl k l → (∀ p ∈ ps, (p.2 = 1 ∨ p.2 = -1) ∧ size p.1 ≤ 1073741824) → Okl (k + ps.length) (addsP l ps)
  | [], _, _, h, _ => h
  | p :: ps, k, l, h, hp => by
    have h1 := Okl.add h (hp p (List.mem_cons_self ..)).1 (hp p (List.mem_cons_self ..)).2
    have h2 := Okl.adds ps h1 (fun q hq => hp q (List.mem_cons_of_mem _ hq))
    rw [show addsP l (p :: ps) = addsP (addP l p) ps from rfl, List.length_cons, show k + (ps.length + 1) = k + 1 + ps.length by omega]
    exact h2
theorem Okl.mono {k k' : Nat} {l : List Pw} (h : Okl k l) (hk : k ≤ k') : Okl k' l := ⟨h.1, Nat.le_trans h.2.1 hk, fun u => Nat.le_trans (h.2.2.1 u) hk, h.2.2.2⟩
theorem Row_some {w : World} {ts : List Tm} {xa : Option Addr} (h : Row w ts xa) (hne : 0 < ts.length) : ∃ b o, xa = some ⟨b, o, none⟩ := by
  cases ts with
  | nil => simp at hne
  | cons t ts => obtain ⟨b, o, e, _⟩ := Row_cons h; exact ⟨b, o, e⟩
theorem Okl_occ {k0 m : Nat} {l : List Pw} {ks : List Tm} {x : Int} (h : Okl k0 l) (hx : x = 1 ∨ x = -1) (hm : sizes ks ≤ m) (hm2 : m ≤ 1073741824) (j : Nat) : Okl (k0 + sizes (ks.take j)) (addsP l (occL (ks.take j) x)) := by
  have h1 := occL_len (ks.take j) x
  have h3 := sizes_take_le ks j
  refine (Okl.adds _ h fun p hp => ?_).mono (by omega)
  have h2 := occL_one (ks.take j) x hx p hp
  exact ⟨h2.1, by have := h2.2.2.2.1; omega⟩
end Go.Proofs.Ytcieadjjcpmieaa

/-
  THE REFERENCE'S arity.
-/
namespace Go.Proofs.Ytcieadjjcpmieaa
open Go.RowKit

end Go.Proofs.Ytcieadjjcpmieaa

/-
  THE REFERENCE'S Of: the product of a term.
-/
namespace Go.Proofs.Ytcieadjjcpmieaa
open Go.RowKit

end Go.Proofs.Ytcieadjjcpmieaa

/-
  THE PRODUCT OF THE TERM OF A PRODUCT, on plain data.
-/
namespace Go.Proofs.Ytcieadjjcpmieaa
open Go.RowKit

theorem itsKids_mk (k : Int) (n : ByteArray) (s : Int) (ks : List Tm) : itsKids (.mk k n s ks) = if (n.toList == [109, 117, 108]) = true then decide (2 ≤ ks.length) else if (n.toList == [105, 110, 118]) = true then decide (ks.length = 1) else decide (ks.length = 0) := rfl
theorem isMul : ((⟨#[109, 117, 108]⟩ : ByteArray).toList == [109, 117, 108]) = true := by kernel_rfl
theorem invMul : ¬ ((⟨#[105, 110, 118]⟩ : ByteArray).toList == [109, 117, 108]) = true := Bool.eq_false_iff.1 (by kernel_rfl)
theorem isInv : ((⟨#[105, 110, 118]⟩ : ByteArray).toList == [105, 110, 118]) = true := by kernel_rfl
theorem oneMul : ¬ ((⟨#[111, 110, 101]⟩ : ByteArray).toList == [109, 117, 108]) = true := Bool.eq_false_iff.1 (by kernel_rfl)
theorem oneInv : ¬ ((⟨#[111, 110, 101]⟩ : ByteArray).toList == [105, 110, 118]) = true := Bool.eq_false_iff.1 (by kernel_rfl)
theorem valid_parts {t : Tm} (h : validE t = 0) : nodesE t = 0 ∧ size t ≤ 400 ∧ depth t ≤ 40 := by
  unfold validE at h
  by_cases h0 : nodesE t = 0
  · rw [if_pos h0] at h
    by_cases h1 : 400 < size t ∨ 40 < depth t
    · rw [if_pos h1] at h; exact absurd h (by decide)
    · exact ⟨h0, by omega, by omega⟩
  · rw [if_neg h0] at h; exact absurd h h0
theorem occL_app (m : Int) : ∀ a b : List Tm, occL (a ++ b) m = occL a m ++ occL b m
  | [], b => by simp [occL]
  | t :: a, b => by rw [List.cons_append, occL, occL, occL_app m a b, List.append_assoc]
theorem arityL_app : ∀ a b : List Tm, arityL (a ++ b) = (arityL a && arityL b)
  | [], b => by simp [arityL]
  | t :: a, b => by rw [List.cons_append, arityL, arityL, arityL_app a b, Bool.and_assoc]
theorem arityL_all : ∀ {l : List Tm}, (∀ t ∈ l, arityT t = true) → arityL l = true
  | [], _ => rfl
  | t :: l, h => by rw [arityL, h t (List.mem_cons_self ..), arityL_all (fun u hu => h u (List.mem_cons_of_mem _ hu))]; rfl
theorem nodesL_all : ∀ {l : List Tm}, (∀ t ∈ l, nodesE t = 0) → nodesL l = 0
  | [], _ => rfl
  | t :: l, h => by rw [nodesL, if_pos (h t (List.mem_cons_self ..)), nodesL_all (fun u hu => h u (List.mem_cons_of_mem _ hu))]
theorem occT_no {t : Tm} (h : expo t = false) (m : Int) : occT t m = [(t, m)] := by
  obtain ⟨k, n, s, ks⟩ := t
  rw [occT, h]; rfl
theorem arityT_no {t : Tm} (h : expo t = false) : arityT t = true := by
  obtain ⟨k, n, s, ks⟩ := t
  rw [arityT, h]; rfl
theorem occT_inv {t : Tm} (h : expo t = false) (m : Int) : occT (tInv t) m = [(t, -m)] := by
  have e : expo (tInv t) = true := by rw [tInv, expo_mk]; kernel_rfl
  rw [tInv] at e ⊢
  rw [occT, if_pos e, show ((⟨#[105, 110, 118]⟩ : ByteArray).toList == [105, 110, 118]) = true by kernel_rfl, if_pos rfl, occL, occL, occT_no h, List.append_nil]
theorem arityT_inv {t : Tm} (h : expo t = false) : arityT (tInv t) = true := by
  have e : expo (tInv t) = true := by rw [tInv, expo_mk]; kernel_rfl
  rw [tInv] at e ⊢
  rw [arityT, if_pos e, arityL, arityL, arityT_no h, Bool.and_true, Bool.and_true, itsKids_mk, if_neg invMul, if_pos isInv]
  rfl
theorem occL_rep {t u : Tm} {x m : Int} (h : occT t m = [(u, x)]) : ∀ n : Nat, occL (List.replicate n t) m = List.replicate n (u, x)
  | 0 => rfl
  | n + 1 => by rw [List.replicate_succ, List.replicate_succ, occL, h, occL_rep h n]; rfl
theorem pwr_rep (t u : Tm) (x : Int) : ∀ n : Nat, pwr (List.replicate n (t, x)) u = if cmpT t u = 0 then n * x else 0
  | 0 => by simp [pwr]
  | n + 1 => by
    rw [List.replicate_succ, pwr, pwr_rep t u x n]
    by_cases h : cmpT t u = 0
    · rw [if_pos h, if_pos h, if_pos h]; push_cast; rw [Int.add_mul]; omega
    · rw [if_neg h, if_neg h, if_neg h]; rfl
theorem pwr_ops (u : Tm) : ∀ {ps : List Pw}, (∀ p ∈ ps, expo p.1 = false) → pwr (occL (posO ps) 1) u + pwr (occL (negO ps) 1) u = pwr ps u
  | [], _ => rfl
  | p :: ps, h => by
    have ih := pwr_ops u (fun q hq => h q (List.mem_cons_of_mem _ hq))
    have hp := h p (List.mem_cons_self ..)
    have e1 : posO (p :: ps) = List.replicate p.2.toNat p.1 ++ posO ps := rfl
    have e2 : negO (p :: ps) = List.replicate (-p.2).toNat (tInv p.1) ++ negO ps := rfl
    rw [e1, e2, occL_app, occL_app, pwr_app, pwr_app, occL_rep (occT_no hp 1), occL_rep (occT_inv hp 1), pwr_rep, pwr_rep, pwr, ← ih]
    by_cases hc : cmpT p.1 u = 0
    · rw [if_pos hc, if_pos hc, if_pos hc]; omega
    · rw [if_neg hc, if_neg hc, if_neg hc]; omega
theorem occ_prod (l : List Tm) : occT (prodT l) 1 = occL l 1 := by
  match l with
  | [] => rw [prodT, occT, if_pos (by rw [expo_mk]; kernel_rfl), occL, occL]
  | [t] => rw [prodT, occL, occL, List.append_nil]
  | t :: u :: l =>
    rw [prodT, occT, if_pos (by rw [expo_mk]; kernel_rfl), show ((⟨#[109, 117, 108]⟩ : ByteArray).toList == [105, 110, 118]) = false by kernel_rfl]
    rfl
theorem arity_prod {l : List Tm} (h : arityL l = true) : arityT (prodT l) = true := by
  match l, h with
  | [], _ => rw [prodT, arityT, if_pos (by rw [expo_mk]; kernel_rfl), itsKids_mk, if_neg oneMul, if_neg oneInv]; rfl
  | [t], h => rw [arityL, arityL, Bool.and_true] at h; exact h
  | t :: u :: l, h =>
    rw [prodT, arityT, if_pos (by rw [expo_mk]; kernel_rfl), h, Bool.and_true, itsKids_mk, if_pos isMul, decide_eq_true (by simp)]
theorem nodes_prod {l : List Tm} (h8 : l.length ≤ 8) (h : ∀ t ∈ l, nodesE t = 0) : nodesE (prodT l) = 0 := by
  match l, h8, h with
  | [], _, _ => rfl
  | [t], _, h => exact h t (List.mem_cons_self ..)
  | t :: u :: l, h8, h =>
    have e : nodeE (.mk 3 ⟨#[109, 117, 108]⟩ 0 (t :: u :: l)) = 0 := by
      rw [nodeE, if_neg (by omega), if_neg (by omega), if_neg (by omega), if_neg (by omega), if_pos (by kernel_rfl), if_neg (by omega)]
    rw [prodT, nodesE, if_pos e, nodesL_all h]
theorem nodes_inv {t : Tm} (h : nodesE t = 0) : nodesE (tInv t) = 0 := by
  have e : nodeE (tInv t) = 0 := by
    rw [tInv, nodeE, if_neg (by omega), if_neg (by omega), if_neg (by omega), if_neg (by omega), if_pos (by kernel_rfl), if_neg (by simp)]
  rw [tInv] at e ⊢
  rw [nodesE, if_pos e, nodesL, if_pos h, nodesL]
theorem mem_posO {ps : List Pw} {t : Tm} (h : t ∈ posO ps) : ∃ p ∈ ps, t = p.1 := by
  obtain ⟨p, hp, h2⟩ := List.mem_flatMap.1 h
  exact ⟨p, hp, List.eq_of_mem_replicate h2⟩
theorem mem_negO {ps : List Pw} {t : Tm} (h : t ∈ negO ps) : ∃ p ∈ ps, t = tInv p.1 := by
  obtain ⟨p, hp, h2⟩ := List.mem_flatMap.1 h
  exact ⟨p, hp, List.eq_of_mem_replicate h2⟩
/-- What the product of a small term is like. -/
theorem ofP_ok {t : Tm} {l : List Pw} (h : ofP t = (l, 0)) : NormP l ∧ l.length ≤ 200 ∧ powE 1000 l = 0 := by
  unfold ofP at h
  by_cases hv : validE t = 0
  rotate_left
  · rw [if_neg hv] at h; exact absurd (congrArg Prod.snd h) hv
  rw [if_pos hv] at h
  by_cases ha : arityT t = true
  rotate_left
  · rw [if_neg ha] at h; exact absurd (show _ = (0 : Int) from congrArg Prod.snd h) (by decide)
  rw [if_pos ha] at h
  by_cases hl : 200 < (addsP [] (occT t 1)).length
  · rw [if_pos hl] at h; exact absurd (show _ = (0 : Int) from congrArg Prod.snd h) (by decide)
  rw [if_neg hl] at h
  have e : addsP [] (occT t 1) = l := congrArg Prod.fst h
  obtain ⟨hn, hs, hd⟩ := valid_parts hv
  have h1 := occT_one t 1 (Or.inl rfl)
  obtain ⟨b1, b2, b3⟩ := addsP_norm (occT t 1) normP_nil (fun p hp => by rcases (h1 p hp).1 with e | e <;> rw [e] <;> decide)
  rw [e] at b1 b2 b3 hl
  refine ⟨b1, by omega, powE_mk (by omega) (fun p hp => ?_) b1.1⟩
  have hab : p.2.natAbs ≤ 400 := by
    have c1 := norm_get b1 hp
    have c2 := pwr_abs (occT t 1) p.1
    have c3 := occT_len t 1
    rw [abs_ones (fun q hq => (h1 q hq).1)] at c2
    rw [b3, pwr] at c1
    omega
  rcases b2 p hp with ⟨q, hq, e⟩ | ⟨q, hq, _⟩
  · obtain ⟨_, g2, g3, g4, g5⟩ := h1 q hq
    refine pwE_mk ?_ (by rw [e]; exact g2) (b1.2 p hp) (by omega) (by omega)
    rw [e, validE, if_pos (g3 hn), if_neg (by omega)]
  · simp at hq
theorem ofP_back {t : Tm} {l : List Pw} (h : ofP t = (l, 0)) : ((termP l).2 = 0 → ofP (termP l).1 = (l, 0)) ∧ ((termP l).2 = 0 ∨ (termP l).2 = 3) := by
  obtain ⟨h1, h2, h3⟩ := ofP_ok h
  obtain ⟨_, h4, _⟩ := powE_ok h3
  have hx : ∀ p ∈ l, validE p.1 = 0 ∧ expo p.1 = false := fun p hp => ⟨(pwE_ok (h4 p hp)).1, (pwE_ok (h4 p hp)).2.1⟩
  unfold termP
  rw [if_pos h3]
  by_cases h8 : 8 < absS l
  · rw [if_pos h8]; exact ⟨fun h => absurd h (by decide), Or.inr rfl⟩
  rw [if_neg h8]
  have hlen : (posO l ++ negO l).length ≤ 8 := by rw [List.length_append, ops_len]; omega
  have hnn : nodesE (prodT (posO l ++ negO l)) = 0 := nodes_prod hlen (fun u hu => by
    rcases List.mem_append.1 hu with hu | hu
    · obtain ⟨p, hp, rfl⟩ := mem_posO hu; exact (valid_parts (hx p hp).1).1
    · obtain ⟨p, hp, rfl⟩ := mem_negO hu; exact nodes_inv (valid_parts (hx p hp).1).1)
  have haa : arityT (prodT (posO l ++ negO l)) = true := arity_prod (arityL_all (fun u hu => by
    rcases List.mem_append.1 hu with hu | hu
    · obtain ⟨p, hp, rfl⟩ := mem_posO hu; exact arityT_no (hx p hp).2
    · obtain ⟨p, hp, rfl⟩ := mem_negO hu; exact arityT_inv (hx p hp).2))
  by_cases hv : validE (prodT (posO l ++ negO l)) = 0
  · rw [if_pos hv]
    refine ⟨fun _ => ?_, Or.inl rfl⟩
    have e : addsP [] (occT (prodT (posO l ++ negO l)) 1) = l := by
      refine (gath_adds (fun p hp => ?_) h1 (fun u => ?_)).symm
      · rcases (occT_one _ 1 (Or.inl rfl) p hp).1 with e | e <;> rw [e] <;> decide
      · rw [occ_prod, occL_app, pwr_app, pwr_ops u (fun p hp => (hx p hp).2)]
    show ofP (prodT (posO l ++ negO l)) = (l, 0)
    unfold ofP
    rw [if_pos hv, if_pos haa, e, if_neg (by omega)]
  · rw [if_neg hv]
    refine ⟨fun h => absurd h hv, ?_⟩
    unfold validE at hv ⊢
    rw [if_pos hnn] at hv ⊢
    by_cases c : 400 < size (prodT (posO l ++ negO l)) ∨ 40 < depth (prodT (posO l ++ negO l))
    · rw [if_pos c]; exact Or.inr rfl
    · rw [if_neg c]; exact Or.inl rfl
end Go.Proofs.Ytcieadjjcpmieaa
