/-
  THE LAW TermReplace AT WHATEVER ARGUMENTS, the chapter's examples by hypothesis.
-/
import Derived.Test.YthhhmjjgckkdhaaDoorLawRepS
namespace Go.Proofs.YthhhmjjgckkdhaaDoor
open Go.RowKit

theorem lawReplace_any (HA : AwakeOk) (t u : Tm) (p : List Int) (t0 t1 t2 t3 u0 u1 u2 u3 v : Value) (w : World) (hL : Laid w) (hI : Is w t t0 t1 t2 t3) (hJ : Is w u u0 u1 u2 u3) (hp : IntsC w v p) :
    Calls Tryd.prog 9 #[.agg #[t0, t1, t2, t3], .agg #[u0, u1, u2, u3], v] w fun e w' => e = .returned (.bool true) ∧ Below w.heap.size w w' := by
  cases h : few [t, u] 2 200 with
  | false => exact replace_large (Lib.hid HA) t u p t0 t1 t2 t3 u0 u1 u2 u3 v w hL hI hJ hp h
  | true =>
    by_cases h60 : p.length ≤ 60
    · cases hx : atT t p with
      | none => exact replace_N (Lib.hid HA) t u p t0 t1 t2 t3 u0 u1 u2 u3 v w hL hI hJ hp h h60 hx
      | some x =>
        obtain ⟨a, ha⟩ := rep_some p t u x hx
        exact replace_S (Lib.hid HA) t u p t0 t1 t2 t3 u0 u1 u2 u3 v w hL hI hJ hp h h60 a x ha hx
    · exact replace_long (Lib.hid HA) t u p t0 t1 t2 t3 u0 u1 u2 u3 v w hL hI hJ hp h (by omega)

end Go.Proofs.YthhhmjjgckkdhaaDoor
