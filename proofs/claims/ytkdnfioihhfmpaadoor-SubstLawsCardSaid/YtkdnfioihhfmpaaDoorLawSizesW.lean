/-
  THE WALKS OF the law TermSizes, the chapter's examples by hypothesis.
-/
import Derived.Test.YtkdnfioihhfmpaaDoorExt
import Derived.Test.YtkdnfioihhfmpaaDoorRefb
import Derived.Test.YtkdnfioihhfmpaaDoorSize
import Derived.Deep.RegionHeld3
namespace Go.Proofs.YtkdnfioihhfmpaaDoor
open Go.RowKit

/-- What every law's first test gives. -/
def AwakeOk : Prop := ∀ w : World, Laid w → Calls Tryd.prog 10 #[] w fun e w' => e = .returned (.bool true) ∧ Below w.heap.size w w'

end Go.Proofs.YtkdnfioihhfmpaaDoor
