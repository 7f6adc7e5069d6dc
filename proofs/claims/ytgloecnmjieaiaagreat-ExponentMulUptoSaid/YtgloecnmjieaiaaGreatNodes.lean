/-
  THE WALK OF term.nodes: the subterms of a term, as a row of nodes that the call owns.
-/
import Derived.Test.YtgloecnmjieaiaaGreatPos
import Derived.Test.YtgloecnmjieaiaaGreatCmp
namespace Go.Proofs.YtgloecnmjieaiaaGreat
open Go.RowKit

mutual
/-- The subterms in preorder. -/
def subT : Tm → List Tm
  | .mk k n s ks => .mk k n s ks :: subL ks
def subL : List Tm → List Tm
  | [] => []
  | t :: ts => subT t ++ subL ts
end
theorem subL_append : ∀ (l m : List Tm), subL (l ++ m) = subL l ++ subL m
  | [], m => by simp [subL]
  | t :: l, m => by simp only [List.cons_append, subL, subL_append l m, List.append_assoc]
theorem subL_take (l : List Tm) (j : Nat) (h : j < l.length) : subL (l.take (j + 1)) = subL (l.take j) ++ subT l[j] := by
  rw [List.take_succ_eq_append_getElem h, subL_append]; simp [subL]

/-- A row of nodes: a term that lies, and its size. -/
def NL (base : Nat) (w : World) : List Tm → List Value → Prop
  | [], vs => vs = []
  | t :: ts, vs => ∃ b o r, vs = .pointer (some ⟨b, o, none⟩) :: .int .i64 (size t) :: r ∧ LiesIn (fun b => b < base) w t b o ∧ NL base w ts r
theorem NL_carry {base : Nat} {w w' : World} (h : ∀ b, b < base → w'.heap[b]? = w.heap[b]?) : ∀ (ts : List Tm) (vs : List Value), NL base w ts vs → NL base w' ts vs
  | [], vs, hn => hn
  | t :: ts, vs, hn => by
    obtain ⟨b, o, r, e, hL, hr⟩ := hn
    exact ⟨b, o, r, e, LiesIn_carry h (fun _ hb => hb) hL, NL_carry h ts r hr⟩
theorem NL_append {base : Nat} {w : World} : ∀ (ts us : List Tm) (vs xs : List Value), NL base w ts vs → NL base w us xs → NL base w (ts ++ us) (vs ++ xs)
  | [], us, vs, xs, h1, h2 => by subst h1; exact h2
  | t :: ts, us, vs, xs, h1, h2 => by
    obtain ⟨b, o, r, rfl, hL, hr⟩ := h1
    exact ⟨b, o, r ++ xs, rfl, hL, NL_append ts us r xs hr h2⟩
theorem NL_length {base : Nat} {w : World} : ∀ (ts : List Tm) (vs : List Value), NL base w ts vs → vs.length = ts.length * 2
  | [], vs, h => by subst h; rfl
  | t :: ts, vs, h => by
    obtain ⟨b, o, r, rfl, _, hr⟩ := h
    simp only [List.length_cons, NL_length ts r hr]; omega

end Go.Proofs.YtgloecnmjieaiaaGreat
