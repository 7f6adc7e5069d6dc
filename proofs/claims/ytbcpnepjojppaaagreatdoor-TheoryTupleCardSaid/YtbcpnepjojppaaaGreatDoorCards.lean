/-
  DERIVED. GIVEN WITH THE SEED: THE CARDS: each row of YtbcpnepjojppaaaGreatDoorRows.lean that lists a variable, with what it lists TIED to the program's text (the seventh form; the later family's looks); each row that meets fmt, with fmt's text TOLD by the authors' own Lean function (tested against real Go, not proved from fmt's source: count such statements apart). THE CARD IS WHAT COUNTS. Prove the row's statement (the work); the ties are given (YtbcpnepjojppaaaGreatDoorTie.lean); close each card by the builder's one call (the guide's Derived/Test/ToyasCard.lean, 'card_holds'). Laid BY PROGRAM, IN A SANDBOX (cutbox-door.mjs). By AI agents, Wed Nov 11 2026. No macro, syntax, notation, axiom, sorry.
-/
import Derived.Test.YtbcpnepjojppaaaGreatDoorRows
import GoSem.ClaimSeven
namespace Go.Proofs.YtbcpnepjojppaaaGreatDoor
namespace Rows

/-- THE TIED CARD OF 'sealringlaw09.TheoryValid'. -/
def theoryValidCard : Claim7 := { stood := { row := theoryValidRow, standIns := [], harness := (true, "942d938cf9777eb2fc3bd99dbda3256a64e8154c04b01e3e84eeaf3692fd4f27"), looks := false }, kinds := [], alts := [], laidByText := true, laidKinds := [.data], laidTests := true, laidLooks := .later }
def TheoryValidCardSaid : Prop := Claim7.holds Tryz.pinned (.plain (OpenSpec.ofChange theoryValidSpec)) theoryValidCard

/-- THE TIED CARD OF 'sealringlaw09.TheoryNormal'. -/
def theoryNormalCard : Claim7 := { stood := { row := theoryNormalRow, standIns := [], harness := (true, "942d938cf9777eb2fc3bd99dbda3256a64e8154c04b01e3e84eeaf3692fd4f27"), looks := false }, kinds := [], alts := [], laidByText := true, laidKinds := [.data], laidTests := true, laidLooks := .later }
def TheoryNormalCardSaid : Prop := Claim7.holds Tryz.pinned (.plain (OpenSpec.ofChange theoryNormalSpec)) theoryNormalCard

/-- THE TIED CARD OF 'sealringlaw09.TheoryEqual'. -/
def theoryEqualCard : Claim7 := { stood := { row := theoryEqualRow, standIns := [], harness := (true, "942d938cf9777eb2fc3bd99dbda3256a64e8154c04b01e3e84eeaf3692fd4f27"), looks := false }, kinds := [], alts := [], laidByText := true, laidKinds := [.data], laidTests := true, laidLooks := .later }
def TheoryEqualCardSaid : Prop := Claim7.holds Tryz.pinned (.plain (OpenSpec.ofChange theoryEqualSpec)) theoryEqualCard

/-- THE TIED CARD OF 'sealringlaw09.TheoryReplace'. -/
def theoryReplaceCard : Claim7 := { stood := { row := theoryReplaceRow, standIns := [], harness := (true, "942d938cf9777eb2fc3bd99dbda3256a64e8154c04b01e3e84eeaf3692fd4f27"), looks := false }, kinds := [], alts := [], laidByText := true, laidKinds := [.data], laidTests := true, laidLooks := .later }
def TheoryReplaceCardSaid : Prop := Claim7.holds Tryz.pinned (.plain (OpenSpec.ofChange theoryReplaceSpec)) theoryReplaceCard

/-- THE TIED CARD OF 'sealringlaw09.TheorySums'. -/
def theorySumsCard : Claim7 := { stood := { row := theorySumsRow, standIns := [], harness := (true, "942d938cf9777eb2fc3bd99dbda3256a64e8154c04b01e3e84eeaf3692fd4f27"), looks := false }, kinds := [], alts := [], laidByText := true, laidKinds := [.data], laidTests := true, laidLooks := .later }
def TheorySumsCardSaid : Prop := Claim7.holds Tryz.pinned (.plain (OpenSpec.ofChange theorySumsSpec)) theorySumsCard

/-- THE TIED CARD OF 'sealringlaw09.TheoryPowers'. -/
def theoryPowersCard : Claim7 := { stood := { row := theoryPowersRow, standIns := [], harness := (true, "942d938cf9777eb2fc3bd99dbda3256a64e8154c04b01e3e84eeaf3692fd4f27"), looks := false }, kinds := [], alts := [], laidByText := true, laidKinds := [.data], laidTests := true, laidLooks := .later }
def TheoryPowersCardSaid : Prop := Claim7.holds Tryz.pinned (.plain (OpenSpec.ofChange theoryPowersSpec)) theoryPowersCard

/-- THE TIED CARD OF 'sealringlaw09.TheoryRules'. -/
def theoryRulesCard : Claim7 := { stood := { row := theoryRulesRow, standIns := [], harness := (true, "942d938cf9777eb2fc3bd99dbda3256a64e8154c04b01e3e84eeaf3692fd4f27"), looks := false }, kinds := [], alts := [], laidByText := true, laidKinds := [.data], laidTests := true, laidLooks := .later }
def TheoryRulesCardSaid : Prop := Claim7.holds Tryz.pinned (.plain (OpenSpec.ofChange theoryRulesSpec)) theoryRulesCard

/-- THE TIED CARD OF 'sealringlaw09.TheoryKey'. -/
def theoryKeyCard : Claim7 := { stood := { row := theoryKeyRow, standIns := [], harness := (true, "942d938cf9777eb2fc3bd99dbda3256a64e8154c04b01e3e84eeaf3692fd4f27"), looks := false }, kinds := [], alts := [], laidByText := true, laidKinds := [.data], laidTests := true, laidLooks := .later }
def TheoryKeyCardSaid : Prop := Claim7.holds Tryz.pinned (.plain (OpenSpec.ofChange theoryKeySpec)) theoryKeyCard

/-- THE TIED CARD OF 'sealringlaw09.TheoryTuple'. -/
def theoryTupleCard : Claim7 := { stood := { row := theoryTupleRow, standIns := [], harness := (true, "942d938cf9777eb2fc3bd99dbda3256a64e8154c04b01e3e84eeaf3692fd4f27"), looks := false }, kinds := [], alts := [], laidByText := true, laidKinds := [.data], laidTests := true, laidLooks := .later }
def TheoryTupleCardSaid : Prop := Claim7.holds Tryz.pinned (.plain (OpenSpec.ofChange theoryTupleSpec)) theoryTupleCard

/-- THE SECOND FORM's CARD OF 'sealringlaw09.TheoryValid'. -/
def theoryValidUptoCard : Claim7 := { stood := { row := theoryValidUptoRow, standIns := [], harness := (true, "942d938cf9777eb2fc3bd99dbda3256a64e8154c04b01e3e84eeaf3692fd4f27"), looks := false }, kinds := [], alts := [], laidByText := true, laidKinds := [.data], laidTests := true, laidLooks := .later }
def TheoryValidUptoCardSaid : Prop := Claim7.holds Tryz.pinned (.plain (OpenSpec.upto theoryValidSpec)) theoryValidUptoCard

/-- THE SECOND FORM's CARD OF 'sealringlaw09.TheoryNormal'. -/
def theoryNormalUptoCard : Claim7 := { stood := { row := theoryNormalUptoRow, standIns := [], harness := (true, "942d938cf9777eb2fc3bd99dbda3256a64e8154c04b01e3e84eeaf3692fd4f27"), looks := false }, kinds := [], alts := [], laidByText := true, laidKinds := [.data], laidTests := true, laidLooks := .later }
def TheoryNormalUptoCardSaid : Prop := Claim7.holds Tryz.pinned (.plain (OpenSpec.upto theoryNormalSpec)) theoryNormalUptoCard

/-- THE SECOND FORM's CARD OF 'sealringlaw09.TheoryEqual'. -/
def theoryEqualUptoCard : Claim7 := { stood := { row := theoryEqualUptoRow, standIns := [], harness := (true, "942d938cf9777eb2fc3bd99dbda3256a64e8154c04b01e3e84eeaf3692fd4f27"), looks := false }, kinds := [], alts := [], laidByText := true, laidKinds := [.data], laidTests := true, laidLooks := .later }
def TheoryEqualUptoCardSaid : Prop := Claim7.holds Tryz.pinned (.plain (OpenSpec.upto theoryEqualSpec)) theoryEqualUptoCard

/-- THE SECOND FORM's CARD OF 'sealringlaw09.TheoryReplace'. -/
def theoryReplaceUptoCard : Claim7 := { stood := { row := theoryReplaceUptoRow, standIns := [], harness := (true, "942d938cf9777eb2fc3bd99dbda3256a64e8154c04b01e3e84eeaf3692fd4f27"), looks := false }, kinds := [], alts := [], laidByText := true, laidKinds := [.data], laidTests := true, laidLooks := .later }
def TheoryReplaceUptoCardSaid : Prop := Claim7.holds Tryz.pinned (.plain (OpenSpec.upto theoryReplaceSpec)) theoryReplaceUptoCard

/-- THE SECOND FORM's CARD OF 'sealringlaw09.TheorySums'. -/
def theorySumsUptoCard : Claim7 := { stood := { row := theorySumsUptoRow, standIns := [], harness := (true, "942d938cf9777eb2fc3bd99dbda3256a64e8154c04b01e3e84eeaf3692fd4f27"), looks := false }, kinds := [], alts := [], laidByText := true, laidKinds := [.data], laidTests := true, laidLooks := .later }
def TheorySumsUptoCardSaid : Prop := Claim7.holds Tryz.pinned (.plain (OpenSpec.upto theorySumsSpec)) theorySumsUptoCard

/-- THE SECOND FORM's CARD OF 'sealringlaw09.TheoryPowers'. -/
def theoryPowersUptoCard : Claim7 := { stood := { row := theoryPowersUptoRow, standIns := [], harness := (true, "942d938cf9777eb2fc3bd99dbda3256a64e8154c04b01e3e84eeaf3692fd4f27"), looks := false }, kinds := [], alts := [], laidByText := true, laidKinds := [.data], laidTests := true, laidLooks := .later }
def TheoryPowersUptoCardSaid : Prop := Claim7.holds Tryz.pinned (.plain (OpenSpec.upto theoryPowersSpec)) theoryPowersUptoCard

/-- THE SECOND FORM's CARD OF 'sealringlaw09.TheoryRules'. -/
def theoryRulesUptoCard : Claim7 := { stood := { row := theoryRulesUptoRow, standIns := [], harness := (true, "942d938cf9777eb2fc3bd99dbda3256a64e8154c04b01e3e84eeaf3692fd4f27"), looks := false }, kinds := [], alts := [], laidByText := true, laidKinds := [.data], laidTests := true, laidLooks := .later }
def TheoryRulesUptoCardSaid : Prop := Claim7.holds Tryz.pinned (.plain (OpenSpec.upto theoryRulesSpec)) theoryRulesUptoCard

/-- THE SECOND FORM's CARD OF 'sealringlaw09.TheoryKey'. -/
def theoryKeyUptoCard : Claim7 := { stood := { row := theoryKeyUptoRow, standIns := [], harness := (true, "942d938cf9777eb2fc3bd99dbda3256a64e8154c04b01e3e84eeaf3692fd4f27"), looks := false }, kinds := [], alts := [], laidByText := true, laidKinds := [.data], laidTests := true, laidLooks := .later }
def TheoryKeyUptoCardSaid : Prop := Claim7.holds Tryz.pinned (.plain (OpenSpec.upto theoryKeySpec)) theoryKeyUptoCard

/-- THE SECOND FORM's CARD OF 'sealringlaw09.TheoryTuple'. -/
def theoryTupleUptoCard : Claim7 := { stood := { row := theoryTupleUptoRow, standIns := [], harness := (true, "942d938cf9777eb2fc3bd99dbda3256a64e8154c04b01e3e84eeaf3692fd4f27"), looks := false }, kinds := [], alts := [], laidByText := true, laidKinds := [.data], laidTests := true, laidLooks := .later }
def TheoryTupleUptoCardSaid : Prop := Claim7.holds Tryz.pinned (.plain (OpenSpec.upto theoryTupleSpec)) theoryTupleUptoCard
end Rows
end Go.Proofs.YtbcpnepjojppaaaGreatDoor
