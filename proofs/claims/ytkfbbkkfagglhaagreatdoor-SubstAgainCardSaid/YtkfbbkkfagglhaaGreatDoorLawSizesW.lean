/-
  THE WALKS OF the law TermSizes, the chapter's examples by hypothesis.
-/
import Derived.Test.YtkfbbkkfagglhaaGreatDoorExt
import Derived.Test.YtkfbbkkfagglhaaGreatDoorRef
import Derived.Test.YtkfbbkkfagglhaaGreatDoorSize
import Derived.Deep.RegionHeld3
namespace Go.Proofs.YtkfbbkkfagglhaaGreatDoor
open Go.RowKit

end Go.Proofs.YtkfbbkkfagglhaaGreatDoor
