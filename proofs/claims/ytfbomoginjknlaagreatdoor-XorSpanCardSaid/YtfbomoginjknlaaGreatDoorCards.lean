/-
  DERIVED. GIVEN WITH THE SEED: THE CARDS: each row of YtfbomoginjknlaaGreatDoorRows.lean that lists a variable, with what it lists TIED to the program's text (the seventh form; the later family's looks); each row that meets fmt, with fmt's text TOLD by the authors' own Lean function (tested against real Go, not proved from fmt's source: count such statements apart). THE CARD IS WHAT COUNTS. Prove the row's statement (the work); the ties are given (YtfbomoginjknlaaGreatDoorTie.lean); close each card by the builder's one call (the guide's Derived/Test/ToyasCard.lean, 'card_holds'). Laid BY PROGRAM, IN A SANDBOX (cutbox-door.mjs). By AI agents, Wed Nov 11 2026. No macro, syntax, notation, axiom, sorry.
-/
import Derived.Test.YtfbomoginjknlaaGreatDoorRows
import GoSem.ClaimSeven
namespace Go.Proofs.YtfbomoginjknlaaGreatDoor
namespace Rows

/-- THE TIED CARD OF 'sealringlaw08.XorSum'. -/
def xorSumCard : Claim7 := { stood := { row := xorSumRow, standIns := [], harness := (true, "0b37f21314dca51a2cfa22961a0606e3f1725bc6de5d413d3438b4fee2d361fe"), looks := false }, kinds := [], alts := [], laidByText := true, laidKinds := [.data], laidTests := true, laidLooks := .later }
def XorSumCardSaid : Prop := Claim7.holds Tryz.pinned (.plain (OpenSpec.ofChange xorSumSpec)) xorSumCard

/-- THE TIED CARD OF 'sealringlaw08.XorRank'. -/
def xorRankCard : Claim7 := { stood := { row := xorRankRow, standIns := [], harness := (true, "0b37f21314dca51a2cfa22961a0606e3f1725bc6de5d413d3438b4fee2d361fe"), looks := false }, kinds := [], alts := [], laidByText := true, laidKinds := [.data], laidTests := true, laidLooks := .later }
def XorRankCardSaid : Prop := Claim7.holds Tryz.pinned (.plain (OpenSpec.ofChange xorRankSpec)) xorRankCard

/-- THE TIED CARD OF 'sealringlaw08.XorSpan'. -/
def xorSpanCard : Claim7 := { stood := { row := xorSpanRow, standIns := [], harness := (true, "0b37f21314dca51a2cfa22961a0606e3f1725bc6de5d413d3438b4fee2d361fe"), looks := false }, kinds := [], alts := [], laidByText := true, laidKinds := [.data], laidTests := true, laidLooks := .later }
def XorSpanCardSaid : Prop := Claim7.holds Tryz.pinned (.plain (OpenSpec.ofChange xorSpanSpec)) xorSpanCard

/-- THE TIED CARD OF 'sealringlaw08.XorAccepts'. -/
def xorAcceptsCard : Claim7 := { stood := { row := xorAcceptsRow, standIns := [], harness := (true, "0b37f21314dca51a2cfa22961a0606e3f1725bc6de5d413d3438b4fee2d361fe"), looks := false }, kinds := [], alts := [], laidByText := true, laidKinds := [.data], laidTests := true, laidLooks := .later }
def XorAcceptsCardSaid : Prop := Claim7.holds Tryz.pinned (.plain (OpenSpec.ofChange xorAcceptsSpec)) xorAcceptsCard

/-- THE TIED CARD OF 'sealringlaw08.XorCheck'. -/
def xorCheckCard : Claim7 := { stood := { row := xorCheckRow, standIns := [], harness := (true, "0b37f21314dca51a2cfa22961a0606e3f1725bc6de5d413d3438b4fee2d361fe"), looks := false }, kinds := [], alts := [], laidByText := true, laidKinds := [.data], laidTests := true, laidLooks := .later }
def XorCheckCardSaid : Prop := Claim7.holds Tryz.pinned (.plain (OpenSpec.ofChange xorCheckSpec)) xorCheckCard

/-- THE TIED CARD OF 'sealringlaw08.XorCheckRefute'. -/
def xorCheckRefuteCard : Claim7 := { stood := { row := xorCheckRefuteRow, standIns := [], harness := (true, "0b37f21314dca51a2cfa22961a0606e3f1725bc6de5d413d3438b4fee2d361fe"), looks := false }, kinds := [], alts := [], laidByText := true, laidKinds := [.data], laidTests := true, laidLooks := .later }
def XorCheckRefuteCardSaid : Prop := Claim7.holds Tryz.pinned (.plain (OpenSpec.ofChange xorCheckRefuteSpec)) xorCheckRefuteCard

/-- THE SECOND FORM's CARD OF 'sealringlaw08.XorSum'. -/
def xorSumUptoCard : Claim7 := { stood := { row := xorSumUptoRow, standIns := [], harness := (true, "0b37f21314dca51a2cfa22961a0606e3f1725bc6de5d413d3438b4fee2d361fe"), looks := false }, kinds := [], alts := [], laidByText := true, laidKinds := [.data], laidTests := true, laidLooks := .later }
def XorSumUptoCardSaid : Prop := Claim7.holds Tryz.pinned (.plain (OpenSpec.upto xorSumSpec)) xorSumUptoCard

/-- THE SECOND FORM's CARD OF 'sealringlaw08.XorRank'. -/
def xorRankUptoCard : Claim7 := { stood := { row := xorRankUptoRow, standIns := [], harness := (true, "0b37f21314dca51a2cfa22961a0606e3f1725bc6de5d413d3438b4fee2d361fe"), looks := false }, kinds := [], alts := [], laidByText := true, laidKinds := [.data], laidTests := true, laidLooks := .later }
def XorRankUptoCardSaid : Prop := Claim7.holds Tryz.pinned (.plain (OpenSpec.upto xorRankSpec)) xorRankUptoCard

/-- THE SECOND FORM's CARD OF 'sealringlaw08.XorSpan'. -/
def xorSpanUptoCard : Claim7 := { stood := { row := xorSpanUptoRow, standIns := [], harness := (true, "0b37f21314dca51a2cfa22961a0606e3f1725bc6de5d413d3438b4fee2d361fe"), looks := false }, kinds := [], alts := [], laidByText := true, laidKinds := [.data], laidTests := true, laidLooks := .later }
def XorSpanUptoCardSaid : Prop := Claim7.holds Tryz.pinned (.plain (OpenSpec.upto xorSpanSpec)) xorSpanUptoCard

/-- THE SECOND FORM's CARD OF 'sealringlaw08.XorAccepts'. -/
def xorAcceptsUptoCard : Claim7 := { stood := { row := xorAcceptsUptoRow, standIns := [], harness := (true, "0b37f21314dca51a2cfa22961a0606e3f1725bc6de5d413d3438b4fee2d361fe"), looks := false }, kinds := [], alts := [], laidByText := true, laidKinds := [.data], laidTests := true, laidLooks := .later }
def XorAcceptsUptoCardSaid : Prop := Claim7.holds Tryz.pinned (.plain (OpenSpec.upto xorAcceptsSpec)) xorAcceptsUptoCard

/-- THE SECOND FORM's CARD OF 'sealringlaw08.XorCheck'. -/
def xorCheckUptoCard : Claim7 := { stood := { row := xorCheckUptoRow, standIns := [], harness := (true, "0b37f21314dca51a2cfa22961a0606e3f1725bc6de5d413d3438b4fee2d361fe"), looks := false }, kinds := [], alts := [], laidByText := true, laidKinds := [.data], laidTests := true, laidLooks := .later }
def XorCheckUptoCardSaid : Prop := Claim7.holds Tryz.pinned (.plain (OpenSpec.upto xorCheckSpec)) xorCheckUptoCard

/-- THE SECOND FORM's CARD OF 'sealringlaw08.XorCheckRefute'. -/
def xorCheckRefuteUptoCard : Claim7 := { stood := { row := xorCheckRefuteUptoRow, standIns := [], harness := (true, "0b37f21314dca51a2cfa22961a0606e3f1725bc6de5d413d3438b4fee2d361fe"), looks := false }, kinds := [], alts := [], laidByText := true, laidKinds := [.data], laidTests := true, laidLooks := .later }
def XorCheckRefuteUptoCardSaid : Prop := Claim7.holds Tryz.pinned (.plain (OpenSpec.upto xorCheckRefuteSpec)) xorCheckRefuteUptoCard
end Rows
end Go.Proofs.YtfbomoginjknlaaGreatDoor
