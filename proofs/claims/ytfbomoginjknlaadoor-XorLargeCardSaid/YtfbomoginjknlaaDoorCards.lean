/-
  DERIVED. GIVEN WITH THE SEED: THE CARDS: each row of YtfbomoginjknlaaDoorRows.lean that lists a variable, with what it lists TIED to the program's text (the seventh form; the later family's looks); each row that meets fmt, with fmt's text TOLD by the authors' own Lean function (tested against real Go, not proved from fmt's source: count such statements apart). THE CARD IS WHAT COUNTS. Prove the row's statement (the work); the ties are given (YtfbomoginjknlaaDoorTie.lean); close each card by the builder's one call (the guide's Derived/Test/ToyasCard.lean, 'card_holds'). Laid BY PROGRAM, IN A SANDBOX (cutbox-door.mjs). By AI agents, Wed Nov 11 2026. No macro, syntax, notation, axiom, sorry.
-/
import Derived.Test.YtfbomoginjknlaaDoorRows
import GoSem.ClaimSeven
namespace Go.Proofs.YtfbomoginjknlaaDoor
namespace Rows

/-- THE TIED CARD OF 'sealringlaw08.XorParts'. -/
def xorPartsCard : Claim7 := { stood := { row := xorPartsRow, standIns := [], harness := (true, "e07e71660bc152491b86f47cf56e858b3e519d5b7f60bf1ede2f02cfcfe33b4e"), looks := false }, kinds := [], alts := [], laidByText := true, laidKinds := [.data], laidTests := true, laidLooks := .later }
def XorPartsCardSaid : Prop := Claim7.holds Tryd.pinned (.plain (OpenSpec.ofChange xorPartsSpec)) xorPartsCard

/-- THE TIED CARD OF 'sealringlaw08.XorLaws'. -/
def xorLawsCard : Claim7 := { stood := { row := xorLawsRow, standIns := [], harness := (true, "e07e71660bc152491b86f47cf56e858b3e519d5b7f60bf1ede2f02cfcfe33b4e"), looks := false }, kinds := [], alts := [], laidByText := true, laidKinds := [.data], laidTests := true, laidLooks := .later }
def XorLawsCardSaid : Prop := Claim7.holds Tryd.pinned (.plain (OpenSpec.ofChange xorLawsSpec)) xorLawsCard

/-- THE TIED CARD OF 'sealringlaw08.XorLarge'. -/
def xorLargeCard : Claim7 := { stood := { row := xorLargeRow, standIns := [], harness := (true, "e07e71660bc152491b86f47cf56e858b3e519d5b7f60bf1ede2f02cfcfe33b4e"), looks := false }, kinds := [], alts := [], laidByText := true, laidKinds := [.data], laidTests := true, laidLooks := .later }
def XorLargeCardSaid : Prop := Claim7.holds Tryd.pinned (.plain (OpenSpec.ofChange xorLargeSpec)) xorLargeCard

/-- THE SECOND FORM's CARD OF 'sealringlaw08.XorParts'. -/
def xorPartsUptoCard : Claim7 := { stood := { row := xorPartsUptoRow, standIns := [], harness := (true, "e07e71660bc152491b86f47cf56e858b3e519d5b7f60bf1ede2f02cfcfe33b4e"), looks := false }, kinds := [], alts := [], laidByText := true, laidKinds := [.data], laidTests := true, laidLooks := .later }
def XorPartsUptoCardSaid : Prop := Claim7.holds Tryd.pinned (.plain (OpenSpec.upto xorPartsSpec)) xorPartsUptoCard

/-- THE SECOND FORM's CARD OF 'sealringlaw08.XorLaws'. -/
def xorLawsUptoCard : Claim7 := { stood := { row := xorLawsUptoRow, standIns := [], harness := (true, "e07e71660bc152491b86f47cf56e858b3e519d5b7f60bf1ede2f02cfcfe33b4e"), looks := false }, kinds := [], alts := [], laidByText := true, laidKinds := [.data], laidTests := true, laidLooks := .later }
def XorLawsUptoCardSaid : Prop := Claim7.holds Tryd.pinned (.plain (OpenSpec.upto xorLawsSpec)) xorLawsUptoCard

/-- THE SECOND FORM's CARD OF 'sealringlaw08.XorLarge'. -/
def xorLargeUptoCard : Claim7 := { stood := { row := xorLargeUptoRow, standIns := [], harness := (true, "e07e71660bc152491b86f47cf56e858b3e519d5b7f60bf1ede2f02cfcfe33b4e"), looks := false }, kinds := [], alts := [], laidByText := true, laidKinds := [.data], laidTests := true, laidLooks := .later }
def XorLargeUptoCardSaid : Prop := Claim7.holds Tryd.pinned (.plain (OpenSpec.upto xorLargeSpec)) xorLargeUptoCard
end Rows
end Go.Proofs.YtfbomoginjknlaaDoor
