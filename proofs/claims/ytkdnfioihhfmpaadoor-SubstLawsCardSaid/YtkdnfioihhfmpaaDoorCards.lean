/-
  DERIVED. GIVEN WITH THE SEED: THE CARDS: each row of YtkdnfioihhfmpaaDoorRows.lean that lists a variable, with what it lists TIED to the program's text (the seventh form; the later family's looks); each row that meets fmt, with fmt's text TOLD by the authors' own Lean function (tested against real Go, not proved from fmt's source: count such statements apart). THE CARD IS WHAT COUNTS. Prove the row's statement (the work); the ties are given (YtkdnfioihhfmpaaDoorTie.lean); close each card by the builder's one call (the guide's Derived/Test/ToyasCard.lean, 'card_holds'). Laid BY PROGRAM, IN A SANDBOX (cutbox-door.mjs). By AI agents, Wed Nov 11 2026. No macro, syntax, notation, axiom, sorry.
-/
import Derived.Test.YtkdnfioihhfmpaaDoorRows
import GoSem.ClaimSeven
namespace Go.Proofs.YtkdnfioihhfmpaaDoor
namespace Rows

/-- THE TIED CARD OF 'sealringlaw01.TermParse'. -/
def termParseCard : Claim7 := { stood := { row := termParseRow, standIns := [], harness := (true, "76df74c12888d203989da7c40337613e99d670f644d210966b5213d84abed81b"), looks := false }, kinds := [], alts := [], laidByText := true, laidKinds := [.data], laidTests := true, laidLooks := .later }
def TermParseCardSaid : Prop := Claim7.holds Tryd.pinned (.plain (OpenSpec.ofChange termParseSpec)) termParseCard

/-- THE TIED CARD OF 'sealringlaw02.SubstValid'. -/
def substValidCard : Claim7 := { stood := { row := substValidRow, standIns := [], harness := (true, "76df74c12888d203989da7c40337613e99d670f644d210966b5213d84abed81b"), looks := false }, kinds := [], alts := [], laidByText := true, laidKinds := [.data], laidTests := true, laidLooks := .later }
def SubstValidCardSaid : Prop := Claim7.holds Tryd.pinned (.plain (OpenSpec.ofChange substValidSpec)) substValidCard

/-- THE TIED CARD OF 'sealringlaw02.SubstFits'. -/
def substFitsCard : Claim7 := { stood := { row := substFitsRow, standIns := [], harness := (true, "76df74c12888d203989da7c40337613e99d670f644d210966b5213d84abed81b"), looks := false }, kinds := [], alts := [], laidByText := true, laidKinds := [.data], laidTests := true, laidLooks := .later }
def SubstFitsCardSaid : Prop := Claim7.holds Tryd.pinned (.plain (OpenSpec.ofChange substFitsSpec)) substFitsCard

/-- THE TIED CARD OF 'sealringlaw02.SubstApply'. -/
def substApplyCard : Claim7 := { stood := { row := substApplyRow, standIns := [], harness := (true, "76df74c12888d203989da7c40337613e99d670f644d210966b5213d84abed81b"), looks := false }, kinds := [], alts := [], laidByText := true, laidKinds := [.data], laidTests := true, laidLooks := .later }
def SubstApplyCardSaid : Prop := Claim7.holds Tryd.pinned (.plain (OpenSpec.ofChange substApplySpec)) substApplyCard

/-- THE TIED CARD OF 'sealringlaw02.SubstCompose'. -/
def substComposeCard : Claim7 := { stood := { row := substComposeRow, standIns := [], harness := (true, "76df74c12888d203989da7c40337613e99d670f644d210966b5213d84abed81b"), looks := false }, kinds := [], alts := [], laidByText := true, laidKinds := [.data], laidTests := true, laidLooks := .later }
def SubstComposeCardSaid : Prop := Claim7.holds Tryd.pinned (.plain (OpenSpec.ofChange substComposeSpec)) substComposeCard

/-- THE TIED CARD OF 'sealringlaw02.SubstLaws'. -/
def substLawsCard : Claim7 := { stood := { row := substLawsRow, standIns := [], harness := (true, "76df74c12888d203989da7c40337613e99d670f644d210966b5213d84abed81b"), looks := false }, kinds := [], alts := [], laidByText := true, laidKinds := [.data], laidTests := true, laidLooks := .later }
def SubstLawsCardSaid : Prop := Claim7.holds Tryd.pinned (.plain (OpenSpec.ofChange substLawsSpec)) substLawsCard

/-- THE TIED CARD OF 'sealringlaw02.SubstRename'. -/
def substRenameCard : Claim7 := { stood := { row := substRenameRow, standIns := [], harness := (true, "76df74c12888d203989da7c40337613e99d670f644d210966b5213d84abed81b"), looks := false }, kinds := [], alts := [], laidByText := true, laidKinds := [.data], laidTests := true, laidLooks := .later }
def SubstRenameCardSaid : Prop := Claim7.holds Tryd.pinned (.plain (OpenSpec.ofChange substRenameSpec)) substRenameCard

/-- THE SECOND FORM's CARD OF 'sealringlaw01.TermParse'. -/
def termParseUptoCard : Claim7 := { stood := { row := termParseUptoRow, standIns := [], harness := (true, "76df74c12888d203989da7c40337613e99d670f644d210966b5213d84abed81b"), looks := false }, kinds := [], alts := [], laidByText := true, laidKinds := [.data], laidTests := true, laidLooks := .later }
def TermParseUptoCardSaid : Prop := Claim7.holds Tryd.pinned (.plain (OpenSpec.upto termParseSpec)) termParseUptoCard

/-- THE SECOND FORM's CARD OF 'sealringlaw02.SubstValid'. -/
def substValidUptoCard : Claim7 := { stood := { row := substValidUptoRow, standIns := [], harness := (true, "76df74c12888d203989da7c40337613e99d670f644d210966b5213d84abed81b"), looks := false }, kinds := [], alts := [], laidByText := true, laidKinds := [.data], laidTests := true, laidLooks := .later }
def SubstValidUptoCardSaid : Prop := Claim7.holds Tryd.pinned (.plain (OpenSpec.upto substValidSpec)) substValidUptoCard

/-- THE SECOND FORM's CARD OF 'sealringlaw02.SubstFits'. -/
def substFitsUptoCard : Claim7 := { stood := { row := substFitsUptoRow, standIns := [], harness := (true, "76df74c12888d203989da7c40337613e99d670f644d210966b5213d84abed81b"), looks := false }, kinds := [], alts := [], laidByText := true, laidKinds := [.data], laidTests := true, laidLooks := .later }
def SubstFitsUptoCardSaid : Prop := Claim7.holds Tryd.pinned (.plain (OpenSpec.upto substFitsSpec)) substFitsUptoCard

/-- THE SECOND FORM's CARD OF 'sealringlaw02.SubstApply'. -/
def substApplyUptoCard : Claim7 := { stood := { row := substApplyUptoRow, standIns := [], harness := (true, "76df74c12888d203989da7c40337613e99d670f644d210966b5213d84abed81b"), looks := false }, kinds := [], alts := [], laidByText := true, laidKinds := [.data], laidTests := true, laidLooks := .later }
def SubstApplyUptoCardSaid : Prop := Claim7.holds Tryd.pinned (.plain (OpenSpec.upto substApplySpec)) substApplyUptoCard

/-- THE SECOND FORM's CARD OF 'sealringlaw02.SubstCompose'. -/
def substComposeUptoCard : Claim7 := { stood := { row := substComposeUptoRow, standIns := [], harness := (true, "76df74c12888d203989da7c40337613e99d670f644d210966b5213d84abed81b"), looks := false }, kinds := [], alts := [], laidByText := true, laidKinds := [.data], laidTests := true, laidLooks := .later }
def SubstComposeUptoCardSaid : Prop := Claim7.holds Tryd.pinned (.plain (OpenSpec.upto substComposeSpec)) substComposeUptoCard

/-- THE SECOND FORM's CARD OF 'sealringlaw02.SubstLaws'. -/
def substLawsUptoCard : Claim7 := { stood := { row := substLawsUptoRow, standIns := [], harness := (true, "76df74c12888d203989da7c40337613e99d670f644d210966b5213d84abed81b"), looks := false }, kinds := [], alts := [], laidByText := true, laidKinds := [.data], laidTests := true, laidLooks := .later }
def SubstLawsUptoCardSaid : Prop := Claim7.holds Tryd.pinned (.plain (OpenSpec.upto substLawsSpec)) substLawsUptoCard

/-- THE SECOND FORM's CARD OF 'sealringlaw02.SubstRename'. -/
def substRenameUptoCard : Claim7 := { stood := { row := substRenameUptoRow, standIns := [], harness := (true, "76df74c12888d203989da7c40337613e99d670f644d210966b5213d84abed81b"), looks := false }, kinds := [], alts := [], laidByText := true, laidKinds := [.data], laidTests := true, laidLooks := .later }
def SubstRenameUptoCardSaid : Prop := Claim7.holds Tryd.pinned (.plain (OpenSpec.upto substRenameSpec)) substRenameUptoCard
end Rows
end Go.Proofs.YtkdnfioihhfmpaaDoor
