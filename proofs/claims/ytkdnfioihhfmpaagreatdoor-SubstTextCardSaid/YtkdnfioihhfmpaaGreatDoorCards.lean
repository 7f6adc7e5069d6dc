/-
  DERIVED. GIVEN WITH THE SEED: THE CARDS: each row of YtkdnfioihhfmpaaGreatDoorRows.lean that lists a variable, with what it lists TIED to the program's text (the seventh form; the later family's looks); each row that meets fmt, with fmt's text TOLD by the authors' own Lean function (tested against real Go, not proved from fmt's source: count such statements apart). THE CARD IS WHAT COUNTS. Prove the row's statement (the work); the ties are given (YtkdnfioihhfmpaaGreatDoorTie.lean); close each card by the builder's one call (the guide's Derived/Test/ToyasCard.lean, 'card_holds'). Laid BY PROGRAM, IN A SANDBOX (cutbox-door.mjs). By AI agents, Wed Nov 11 2026. No macro, syntax, notation, axiom, sorry.
-/
import Derived.Test.YtkdnfioihhfmpaaGreatDoorRows
import GoSem.ClaimSeven
namespace Go.Proofs.YtkdnfioihhfmpaaGreatDoor
namespace Rows

/-- THE TIED CARD OF 'sealringlaw02.SubstAgain'. -/
def substAgainCard : Claim7 := { stood := { row := substAgainRow, standIns := [], harness := (true, "c22f56963f681fbeefc8a96278815af3fc1896d75bf8373b8689d8f042067669"), looks := false }, kinds := [], alts := [], laidByText := true, laidKinds := [.data], laidTests := true, laidLooks := .later }
def SubstAgainCardSaid : Prop := Claim7.holds Tryz.pinned (.plain (OpenSpec.ofChange substAgainSpec)) substAgainCard

/-- THE TIED CARD OF 'sealringlaw02.SubstText'. -/
def substTextCard : Claim7 := { stood := { row := substTextRow, standIns := [], harness := (true, "c22f56963f681fbeefc8a96278815af3fc1896d75bf8373b8689d8f042067669"), looks := false }, kinds := [], alts := [], laidByText := true, laidKinds := [.data], laidTests := true, laidLooks := .later }
def SubstTextCardSaid : Prop := Claim7.holds Tryz.pinned (.plain (OpenSpec.ofChange substTextSpec)) substTextCard

/-- THE TIED CARD OF 'sealringlaw02.SubstParse'. -/
def substParseCard : Claim7 := { stood := { row := substParseRow, standIns := [], harness := (true, "c22f56963f681fbeefc8a96278815af3fc1896d75bf8373b8689d8f042067669"), looks := false }, kinds := [], alts := [], laidByText := true, laidKinds := [.data], laidTests := true, laidLooks := .later }
def SubstParseCardSaid : Prop := Claim7.holds Tryz.pinned (.plain (OpenSpec.ofChange substParseSpec)) substParseCard

/-- THE SECOND FORM's CARD OF 'sealringlaw02.SubstAgain'. -/
def substAgainUptoCard : Claim7 := { stood := { row := substAgainUptoRow, standIns := [], harness := (true, "c22f56963f681fbeefc8a96278815af3fc1896d75bf8373b8689d8f042067669"), looks := false }, kinds := [], alts := [], laidByText := true, laidKinds := [.data], laidTests := true, laidLooks := .later }
def SubstAgainUptoCardSaid : Prop := Claim7.holds Tryz.pinned (.plain (OpenSpec.upto substAgainSpec)) substAgainUptoCard

/-- THE SECOND FORM's CARD OF 'sealringlaw02.SubstText'. -/
def substTextUptoCard : Claim7 := { stood := { row := substTextUptoRow, standIns := [], harness := (true, "c22f56963f681fbeefc8a96278815af3fc1896d75bf8373b8689d8f042067669"), looks := false }, kinds := [], alts := [], laidByText := true, laidKinds := [.data], laidTests := true, laidLooks := .later }
def SubstTextUptoCardSaid : Prop := Claim7.holds Tryz.pinned (.plain (OpenSpec.upto substTextSpec)) substTextUptoCard

/-- THE SECOND FORM's CARD OF 'sealringlaw02.SubstParse'. -/
def substParseUptoCard : Claim7 := { stood := { row := substParseUptoRow, standIns := [], harness := (true, "c22f56963f681fbeefc8a96278815af3fc1896d75bf8373b8689d8f042067669"), looks := false }, kinds := [], alts := [], laidByText := true, laidKinds := [.data], laidTests := true, laidLooks := .later }
def SubstParseUptoCardSaid : Prop := Claim7.holds Tryz.pinned (.plain (OpenSpec.upto substParseSpec)) substParseUptoCard
end Rows
end Go.Proofs.YtkdnfioihhfmpaaGreatDoor
