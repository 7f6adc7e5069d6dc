/-
  THE WALKS OF the law TermSizes, the chapter's examples by hypothesis.
-/
import Derived.Test.YtkdnfioihhfmpaaGreatDoorExt
import Derived.Test.YtkdnfioihhfmpaaGreatDoorRefb
import Derived.Test.YtkdnfioihhfmpaaGreatDoorSize
import Derived.Deep.RegionHeld3
namespace Go.Proofs.YtkdnfioihhfmpaaGreatDoor
open Go.RowKit

end Go.Proofs.YtkdnfioihhfmpaaGreatDoor
