/-
  slices.Reverse AT A ROW OF TERMS OF ONE'S OWN: the same terms in some order.
-/
import Derived.Test.YtakeopjpmfgngaaDoorQlw
namespace Go.Proofs.YtakeopjpmfgngaaDoor
open Go.RowKit Go.Lib

section
variable {S : Nat → Prop} {w : World}
end
/-- What Reverse leaves. -/
def RevPost (H : Nat) (S : Nat → Prop) (w : World) (ts : List Tm) (v : Value) (e : Ending) (w' : World) : Prop := e = .returned (.tuple #[]) ∧ ∃ us : List Tm, us.Perm ts ∧ OwnT H S w' us v ∧ Below H w w' ∧ w.heap.size ≤ w'.heap.size
end Go.Proofs.YtakeopjpmfgngaaDoor
