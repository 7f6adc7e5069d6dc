/-
  DERIVED. GIVEN WITH THE SEED: THE CARDS: each row of YtkfbbkkfagglhaaGreatDoorRows.lean that lists a variable, with what it lists TIED to the program's text (the seventh form; the later family's looks); each row that meets fmt, with fmt's text TOLD by the authors' own Lean function (tested against real Go, not proved from fmt's source: count such statements apart). THE CARD IS WHAT COUNTS. Prove the row's statement (the work); the ties are given (YtkfbbkkfagglhaaGreatDoorTie.lean); close each card by the builder's one call (the guide's Derived/Test/ToyasCard.lean, 'card_holds'). Laid BY PROGRAM, IN A SANDBOX (cutbox-door.mjs). By AI agents, Wed Nov 11 2026. No macro, syntax, notation, axiom, sorry.
-/
import Derived.Test.YtkfbbkkfagglhaaGreatDoorRows
import GoSem.ClaimSeven
namespace Go.Proofs.YtkfbbkkfagglhaaGreatDoor
namespace Rows

/-- THE TIED CARD OF 'sealringlaw02.SubstAgain'. -/
def substAgainCard : Claim7 := { stood := { row := substAgainRow, standIns := [], harness := (true, "38c029b61b7d31db7e6353e8364e83f0b462e7b0b63ebc82a5ae1dc7e37c63e8"), looks := false }, kinds := [], alts := [], laidByText := true, laidKinds := [.data], laidTests := true, laidLooks := .later }
def SubstAgainCardSaid : Prop := Claim7.holds Tryz.pinned (.plain (OpenSpec.ofChange substAgainSpec)) substAgainCard

/-- THE TIED CARD OF 'sealringlaw03.UnifyMatch'. -/
def unifyMatchCard : Claim7 := { stood := { row := unifyMatchRow, standIns := [], harness := (true, "38c029b61b7d31db7e6353e8364e83f0b462e7b0b63ebc82a5ae1dc7e37c63e8"), looks := false }, kinds := [], alts := [], laidByText := true, laidKinds := [.data, .data, .data, .data], laidTests := true, laidLooks := .later }
def UnifyMatchCardSaid : Prop := Claim7.holds Tryz.pinned (.plain (OpenSpec.ofChange unifyMatchSpec)) unifyMatchCard

/-- THE TIED CARD OF 'sealringlaw03.UnifyTerms'. -/
def unifyTermsCard : Claim7 := { stood := { row := unifyTermsRow, standIns := [], harness := (true, "38c029b61b7d31db7e6353e8364e83f0b462e7b0b63ebc82a5ae1dc7e37c63e8"), looks := false }, kinds := [], alts := [], laidByText := true, laidKinds := [.data, .data, .data, .data], laidTests := true, laidLooks := .later }
def UnifyTermsCardSaid : Prop := Claim7.holds Tryz.pinned (.plain (OpenSpec.ofChange unifyTermsSpec)) unifyTermsCard

/-- THE TIED CARD OF 'sealringlaw03.UnifyLists'. -/
def unifyListsCard : Claim7 := { stood := { row := unifyListsRow, standIns := [], harness := (true, "38c029b61b7d31db7e6353e8364e83f0b462e7b0b63ebc82a5ae1dc7e37c63e8"), looks := false }, kinds := [], alts := [], laidByText := true, laidKinds := [.data, .data, .data, .data], laidTests := true, laidLooks := .later }
def UnifyListsCardSaid : Prop := Claim7.holds Tryz.pinned (.plain (OpenSpec.ofChange unifyListsSpec)) unifyListsCard

/-- THE TIED CARD OF 'sealringlaw03.UnifyInstances'. -/
def unifyInstancesCard : Claim7 := { stood := { row := unifyInstancesRow, standIns := [], harness := (true, "38c029b61b7d31db7e6353e8364e83f0b462e7b0b63ebc82a5ae1dc7e37c63e8"), looks := false }, kinds := [], alts := [], laidByText := true, laidKinds := [.data, .data, .data, .data], laidTests := true, laidLooks := .later }
def UnifyInstancesCardSaid : Prop := Claim7.holds Tryz.pinned (.plain (OpenSpec.ofChange unifyInstancesSpec)) unifyInstancesCard

/-- THE TIED CARD OF 'sealringlaw03.UnifyMost'. -/
def unifyMostCard : Claim7 := { stood := { row := unifyMostRow, standIns := [], harness := (true, "38c029b61b7d31db7e6353e8364e83f0b462e7b0b63ebc82a5ae1dc7e37c63e8"), looks := false }, kinds := [], alts := [], laidByText := true, laidKinds := [.data, .data, .data, .data], laidTests := true, laidLooks := .later }
def UnifyMostCardSaid : Prop := Claim7.holds Tryz.pinned (.plain (OpenSpec.ofChange unifyMostSpec)) unifyMostCard

/-- THE TIED CARD OF 'sealringlaw03.UnifyVariants'. -/
def unifyVariantsCard : Claim7 := { stood := { row := unifyVariantsRow, standIns := [], harness := (true, "38c029b61b7d31db7e6353e8364e83f0b462e7b0b63ebc82a5ae1dc7e37c63e8"), looks := false }, kinds := [], alts := [], laidByText := true, laidKinds := [.data, .data, .data, .data], laidTests := true, laidLooks := .later }
def UnifyVariantsCardSaid : Prop := Claim7.holds Tryz.pinned (.plain (OpenSpec.ofChange unifyVariantsSpec)) unifyVariantsCard

/-- THE TIED CARD OF 'sealringlaw03.UnifyGeneral'. -/
def unifyGeneralCard : Claim7 := { stood := { row := unifyGeneralRow, standIns := [], harness := (true, "38c029b61b7d31db7e6353e8364e83f0b462e7b0b63ebc82a5ae1dc7e37c63e8"), looks := false }, kinds := [], alts := [], laidByText := true, laidKinds := [.data, .data, .data, .data], laidTests := true, laidLooks := .later }
def UnifyGeneralCardSaid : Prop := Claim7.holds Tryz.pinned (.plain (OpenSpec.ofChange unifyGeneralSpec)) unifyGeneralCard

/-- THE TIED CARD OF 'sealringlaw03.UnifyDisjoint'. -/
def unifyDisjointCard : Claim7 := { stood := { row := unifyDisjointRow, standIns := [], harness := (true, "38c029b61b7d31db7e6353e8364e83f0b462e7b0b63ebc82a5ae1dc7e37c63e8"), looks := false }, kinds := [], alts := [], laidByText := true, laidKinds := [.data, .data, .data, .data], laidTests := true, laidLooks := .later }
def UnifyDisjointCardSaid : Prop := Claim7.holds Tryz.pinned (.plain (OpenSpec.ofChange unifyDisjointSpec)) unifyDisjointCard

/-- THE SECOND FORM's CARD OF 'sealringlaw02.SubstAgain'. -/
def substAgainUptoCard : Claim7 := { stood := { row := substAgainUptoRow, standIns := [], harness := (true, "38c029b61b7d31db7e6353e8364e83f0b462e7b0b63ebc82a5ae1dc7e37c63e8"), looks := false }, kinds := [], alts := [], laidByText := true, laidKinds := [.data], laidTests := true, laidLooks := .later }
def SubstAgainUptoCardSaid : Prop := Claim7.holds Tryz.pinned (.plain (OpenSpec.upto substAgainSpec)) substAgainUptoCard

/-- THE SECOND FORM's CARD OF 'sealringlaw03.UnifyMatch'. -/
def unifyMatchUptoCard : Claim7 := { stood := { row := unifyMatchUptoRow, standIns := [], harness := (true, "38c029b61b7d31db7e6353e8364e83f0b462e7b0b63ebc82a5ae1dc7e37c63e8"), looks := false }, kinds := [], alts := [], laidByText := true, laidKinds := [.data, .data, .data, .data], laidTests := true, laidLooks := .later }
def UnifyMatchUptoCardSaid : Prop := Claim7.holds Tryz.pinned (.plain (OpenSpec.upto unifyMatchSpec)) unifyMatchUptoCard

/-- THE SECOND FORM's CARD OF 'sealringlaw03.UnifyTerms'. -/
def unifyTermsUptoCard : Claim7 := { stood := { row := unifyTermsUptoRow, standIns := [], harness := (true, "38c029b61b7d31db7e6353e8364e83f0b462e7b0b63ebc82a5ae1dc7e37c63e8"), looks := false }, kinds := [], alts := [], laidByText := true, laidKinds := [.data, .data, .data, .data], laidTests := true, laidLooks := .later }
def UnifyTermsUptoCardSaid : Prop := Claim7.holds Tryz.pinned (.plain (OpenSpec.upto unifyTermsSpec)) unifyTermsUptoCard

/-- THE SECOND FORM's CARD OF 'sealringlaw03.UnifyLists'. -/
def unifyListsUptoCard : Claim7 := { stood := { row := unifyListsUptoRow, standIns := [], harness := (true, "38c029b61b7d31db7e6353e8364e83f0b462e7b0b63ebc82a5ae1dc7e37c63e8"), looks := false }, kinds := [], alts := [], laidByText := true, laidKinds := [.data, .data, .data, .data], laidTests := true, laidLooks := .later }
def UnifyListsUptoCardSaid : Prop := Claim7.holds Tryz.pinned (.plain (OpenSpec.upto unifyListsSpec)) unifyListsUptoCard

/-- THE SECOND FORM's CARD OF 'sealringlaw03.UnifyInstances'. -/
def unifyInstancesUptoCard : Claim7 := { stood := { row := unifyInstancesUptoRow, standIns := [], harness := (true, "38c029b61b7d31db7e6353e8364e83f0b462e7b0b63ebc82a5ae1dc7e37c63e8"), looks := false }, kinds := [], alts := [], laidByText := true, laidKinds := [.data, .data, .data, .data], laidTests := true, laidLooks := .later }
def UnifyInstancesUptoCardSaid : Prop := Claim7.holds Tryz.pinned (.plain (OpenSpec.upto unifyInstancesSpec)) unifyInstancesUptoCard

/-- THE SECOND FORM's CARD OF 'sealringlaw03.UnifyMost'. -/
def unifyMostUptoCard : Claim7 := { stood := { row := unifyMostUptoRow, standIns := [], harness := (true, "38c029b61b7d31db7e6353e8364e83f0b462e7b0b63ebc82a5ae1dc7e37c63e8"), looks := false }, kinds := [], alts := [], laidByText := true, laidKinds := [.data, .data, .data, .data], laidTests := true, laidLooks := .later }
def UnifyMostUptoCardSaid : Prop := Claim7.holds Tryz.pinned (.plain (OpenSpec.upto unifyMostSpec)) unifyMostUptoCard

/-- THE SECOND FORM's CARD OF 'sealringlaw03.UnifyVariants'. -/
def unifyVariantsUptoCard : Claim7 := { stood := { row := unifyVariantsUptoRow, standIns := [], harness := (true, "38c029b61b7d31db7e6353e8364e83f0b462e7b0b63ebc82a5ae1dc7e37c63e8"), looks := false }, kinds := [], alts := [], laidByText := true, laidKinds := [.data, .data, .data, .data], laidTests := true, laidLooks := .later }
def UnifyVariantsUptoCardSaid : Prop := Claim7.holds Tryz.pinned (.plain (OpenSpec.upto unifyVariantsSpec)) unifyVariantsUptoCard

/-- THE SECOND FORM's CARD OF 'sealringlaw03.UnifyGeneral'. -/
def unifyGeneralUptoCard : Claim7 := { stood := { row := unifyGeneralUptoRow, standIns := [], harness := (true, "38c029b61b7d31db7e6353e8364e83f0b462e7b0b63ebc82a5ae1dc7e37c63e8"), looks := false }, kinds := [], alts := [], laidByText := true, laidKinds := [.data, .data, .data, .data], laidTests := true, laidLooks := .later }
def UnifyGeneralUptoCardSaid : Prop := Claim7.holds Tryz.pinned (.plain (OpenSpec.upto unifyGeneralSpec)) unifyGeneralUptoCard

/-- THE SECOND FORM's CARD OF 'sealringlaw03.UnifyDisjoint'. -/
def unifyDisjointUptoCard : Claim7 := { stood := { row := unifyDisjointUptoRow, standIns := [], harness := (true, "38c029b61b7d31db7e6353e8364e83f0b462e7b0b63ebc82a5ae1dc7e37c63e8"), looks := false }, kinds := [], alts := [], laidByText := true, laidKinds := [.data, .data, .data, .data], laidTests := true, laidLooks := .later }
def UnifyDisjointUptoCardSaid : Prop := Claim7.holds Tryz.pinned (.plain (OpenSpec.upto unifyDisjointSpec)) unifyDisjointUptoCard
end Rows
end Go.Proofs.YtkfbbkkfagglhaaGreatDoor
