/-
  NARROWER THAN 'FOR EVERY INPUT', by the rows' own cells (each row's printed sentence says how): TheoryValid: loops, laid · TheoryNormal: loops, laid · TheoryEqual: loops, laid · TheoryReplace: loops, laid · TheorySums: loops, laid · TheoryPowers: loops, laid · TheoryRules: loops, laid · TheoryKey: loops, laid · TheoryTuple: loops, laid.
  DERIVED. THE GIVEN ROWS OF THIS SEAT. 9 by the template 'for every input the law returns true; each argument reads behind the call as it read before'; 0 by the template 'total and deterministic' (their statements: YtbcpnepjojppaaaGreatDoorTotals.lean).
  GIVEN WITH THE SEED: the statements are not yours to turn. If you find one false, say at which input.
  Laid BY PROGRAM, IN A SANDBOX (cutbox-rows.mjs): the forced cells as the released guide's own fill.sh prints them over the translation 248c78d083f40231… (all of the seat's roots in one cut). By AI agents, Wed Nov 11 2026. No macro, syntax, notation, axiom, sorry.
-/
import Derived.Test.YtbcpnepjojppaaaGreatDoorChecked
import GoSem.Claim
import GoSem.ClaimJoined
import GoSem.ClaimMapViews
import Derived.JoinedTies
import Derived.KernelRfl
namespace Go.Proofs.YtbcpnepjojppaaaGreatDoor
/- THE CELL 'sum', in the pinned program and in every row, IS THE sha256 OF THE DUMP (.gsa) THAT YtbcpnepjojppaaaGreatDoorProg.lean LOADS. Nothing in Lean hashes anything: it is a label: what it is worth is what the hold of that sum in a sandbox is worth. -/
noncomputable def Tryz.pinned : Pinned := { name := "ytbcpnepjojppaaagreatdoor", sum := "248c78d083f402319c74b577061cff5e190eddc64dc6318b3718e7c8040b44d5", checked := Tryz.checked }
namespace Rows
def none {H : Type} : Left H := { results := [], args := [] }

/- WHAT THE LISTED PACKAGE-LEVEL VARIABLES READ AS WHEN THE CALL BEGINS. Each datum BY PROGRAM (the guide's laid-datum.mjs) off the statement by which the dump's own 'gosem.cut.vars' lays the variable. In a bare row this is a premise. The card (YtbcpnepjojppaaaGreatDoorCards.lean) ties it to the program's text. -/
def laid_sealring_theory_symbols {H : Type} : DataW H := .agg [.agg [.lit (.string [112, 97, 105, 114]), .lit (.int .i64 2), .lit (.int .i64 2), .lit (.int .i64 1)], .agg [.lit (.string [101, 110, 99]), .lit (.int .i64 2), .lit (.int .i64 2), .lit (.int .i64 1)], .agg [.lit (.string [97, 101, 110, 99]), .lit (.int .i64 2), .lit (.int .i64 2), .lit (.int .i64 1)], .agg [.lit (.string [112, 107]), .lit (.int .i64 1), .lit (.int .i64 1), .lit (.int .i64 1)], .agg [.lit (.string [115, 105, 103, 110]), .lit (.int .i64 2), .lit (.int .i64 2), .lit (.int .i64 1)], .agg [.lit (.string [104, 97, 115, 104]), .lit (.int .i64 1), .lit (.int .i64 1), .lit (.int .i64 1)], .agg [.lit (.string [120, 111, 114]), .lit (.int .i64 2), .lit (.int .i64 8), .lit (.int .i64 1)], .agg [.lit (.string [122, 101, 114, 111]), .lit (.int .i64 0), .lit (.int .i64 0), .lit (.int .i64 1)], .agg [.lit (.string [101, 120, 112]), .lit (.int .i64 2), .lit (.int .i64 2), .lit (.int .i64 1)], .agg [.lit (.string [109, 117, 108]), .lit (.int .i64 2), .lit (.int .i64 8), .lit (.int .i64 1)], .agg [.lit (.string [105, 110, 118]), .lit (.int .i64 1), .lit (.int .i64 1), .lit (.int .i64 1)], .agg [.lit (.string [111, 110, 101]), .lit (.int .i64 0), .lit (.int .i64 0), .lit (.int .i64 1)], .agg [.lit (.string [115, 107]), .lit (.int .i64 1), .lit (.int .i64 1), .lit (.int .i64 2)], .agg [.lit (.string [115, 104, 107]), .lit (.int .i64 2), .lit (.int .i64 2), .lit (.int .i64 2)], .agg [.lit (.string [110, 101, 119]), .lit (.int .i64 1), .lit (.int .i64 8), .lit (.int .i64 2)], .agg [.lit (.string [102, 115, 116]), .lit (.int .i64 1), .lit (.int .i64 1), .lit (.int .i64 3)], .agg [.lit (.string [115, 110, 100]), .lit (.int .i64 1), .lit (.int .i64 1), .lit (.int .i64 3)], .agg [.lit (.string [100, 101, 99]), .lit (.int .i64 2), .lit (.int .i64 2), .lit (.int .i64 3)], .agg [.lit (.string [97, 100, 101, 99]), .lit (.int .i64 2), .lit (.int .i64 2), .lit (.int .i64 3)], .agg [.lit (.string [111, 112, 101, 110]), .lit (.int .i64 2), .lit (.int .i64 2), .lit (.int .i64 3)], .agg [.lit (.string [114, 101, 97, 100]), .lit (.int .i64 1), .lit (.int .i64 1), .lit (.int .i64 3)]]

/-- 'sealringlaw09.TheoryValid': WHATEVER THE INPUT: true; the input reads as it did. -/
def theoryValidSpec : ChangeSpec := { name := "theoryValid", fn := fun _ => fun
  | [d] => { results := [.lit (.bool true)], args := [d] }
  | _ => none }
def theoryValidRow : OpenClaim := { program := "ytbcpnepjojppaaagreatdoor", sum := "248c78d083f402319c74b577061cff5e190eddc64dc6318b3718e7c8040b44d5", func := "sealring/sealringlaw09.TheoryValid", spec := "theoryValid", inPlace := ["internal/bytealg.abigen_runtime_cmpstring"], unfollowed := true, recurses := true, named := ["sealring/theory.symbols"], loops := true, plainKeys := false, apart := false, laid := [("sealring/theory.symbols", laid_sealring_theory_symbols)] }
def TheoryValidSaid : Prop := theoryValidRow.holds Tryz.pinned (OpenSpec.ofChange theoryValidSpec)

/-- ITS FALSE NEIGHBOUR: 'it returns false'. Refute it at one input. -/
def theoryValidWrong : ChangeSpec := { name := "theoryValid", fn := fun _ => fun
  | [d] => { results := [.lit (.bool false)], args := [d] }
  | _ => none }
def TheoryValidWrongFalsely : Prop := theoryValidRow.holds Tryz.pinned (OpenSpec.ofChange theoryValidWrong)

/-- 'sealringlaw09.TheoryNormal': WHATEVER THE INPUT: true; the input reads as it did. -/
def theoryNormalSpec : ChangeSpec := { name := "theoryNormal", fn := fun _ => fun
  | [d] => { results := [.lit (.bool true)], args := [d] }
  | _ => none }
def theoryNormalRow : OpenClaim := { program := "ytbcpnepjojppaaagreatdoor", sum := "248c78d083f402319c74b577061cff5e190eddc64dc6318b3718e7c8040b44d5", func := "sealring/sealringlaw09.TheoryNormal", spec := "theoryNormal", inPlace := ["internal/bytealg.abigen_runtime_cmpstring"], unfollowed := true, recurses := true, named := ["sealring/theory.symbols"], loops := true, plainKeys := false, apart := false, laid := [("sealring/theory.symbols", laid_sealring_theory_symbols)] }
def TheoryNormalSaid : Prop := theoryNormalRow.holds Tryz.pinned (OpenSpec.ofChange theoryNormalSpec)

/-- ITS FALSE NEIGHBOUR: 'it returns false'. Refute it at one input. -/
def theoryNormalWrong : ChangeSpec := { name := "theoryNormal", fn := fun _ => fun
  | [d] => { results := [.lit (.bool false)], args := [d] }
  | _ => none }
def TheoryNormalWrongFalsely : Prop := theoryNormalRow.holds Tryz.pinned (OpenSpec.ofChange theoryNormalWrong)

/-- 'sealringlaw09.TheoryEqual': WHATEVER THE INPUT: true; the input reads as it did. -/
def theoryEqualSpec : ChangeSpec := { name := "theoryEqual", fn := fun _ => fun
  | [d1, d2, d3] => { results := [.lit (.bool true)], args := [d1, d2, d3] }
  | _ => none }
def theoryEqualRow : OpenClaim := { program := "ytbcpnepjojppaaagreatdoor", sum := "248c78d083f402319c74b577061cff5e190eddc64dc6318b3718e7c8040b44d5", func := "sealring/sealringlaw09.TheoryEqual", spec := "theoryEqual", inPlace := ["internal/bytealg.abigen_runtime_cmpstring"], unfollowed := true, recurses := true, named := ["sealring/theory.symbols"], loops := true, plainKeys := false, apart := false, laid := [("sealring/theory.symbols", laid_sealring_theory_symbols)] }
def TheoryEqualSaid : Prop := theoryEqualRow.holds Tryz.pinned (OpenSpec.ofChange theoryEqualSpec)

/-- ITS FALSE NEIGHBOUR: 'it returns false'. Refute it at one input. -/
def theoryEqualWrong : ChangeSpec := { name := "theoryEqual", fn := fun _ => fun
  | [d1, d2, d3] => { results := [.lit (.bool false)], args := [d1, d2, d3] }
  | _ => none }
def TheoryEqualWrongFalsely : Prop := theoryEqualRow.holds Tryz.pinned (OpenSpec.ofChange theoryEqualWrong)

/-- 'sealringlaw09.TheoryReplace': WHATEVER THE INPUT: true; the input reads as it did. -/
def theoryReplaceSpec : ChangeSpec := { name := "theoryReplace", fn := fun _ => fun
  | [d1, d2] => { results := [.lit (.bool true)], args := [d1, d2] }
  | _ => none }
def theoryReplaceRow : OpenClaim := { program := "ytbcpnepjojppaaagreatdoor", sum := "248c78d083f402319c74b577061cff5e190eddc64dc6318b3718e7c8040b44d5", func := "sealring/sealringlaw09.TheoryReplace", spec := "theoryReplace", inPlace := ["internal/bytealg.abigen_runtime_cmpstring"], unfollowed := true, recurses := true, named := ["sealring/theory.symbols"], loops := true, plainKeys := false, apart := false, laid := [("sealring/theory.symbols", laid_sealring_theory_symbols)] }
def TheoryReplaceSaid : Prop := theoryReplaceRow.holds Tryz.pinned (OpenSpec.ofChange theoryReplaceSpec)

/-- ITS FALSE NEIGHBOUR: 'it returns false'. Refute it at one input. -/
def theoryReplaceWrong : ChangeSpec := { name := "theoryReplace", fn := fun _ => fun
  | [d1, d2] => { results := [.lit (.bool false)], args := [d1, d2] }
  | _ => none }
def TheoryReplaceWrongFalsely : Prop := theoryReplaceRow.holds Tryz.pinned (OpenSpec.ofChange theoryReplaceWrong)

/-- 'sealringlaw09.TheorySums': WHATEVER THE INPUT: true; the input reads as it did. -/
def theorySumsSpec : ChangeSpec := { name := "theorySums", fn := fun _ => fun
  | [d1, d2, d3] => { results := [.lit (.bool true)], args := [d1, d2, d3] }
  | _ => none }
def theorySumsRow : OpenClaim := { program := "ytbcpnepjojppaaagreatdoor", sum := "248c78d083f402319c74b577061cff5e190eddc64dc6318b3718e7c8040b44d5", func := "sealring/sealringlaw09.TheorySums", spec := "theorySums", inPlace := ["internal/bytealg.abigen_runtime_cmpstring"], unfollowed := true, recurses := true, named := ["sealring/theory.symbols"], loops := true, plainKeys := false, apart := false, laid := [("sealring/theory.symbols", laid_sealring_theory_symbols)] }
def TheorySumsSaid : Prop := theorySumsRow.holds Tryz.pinned (OpenSpec.ofChange theorySumsSpec)

/-- ITS FALSE NEIGHBOUR: 'it returns false'. Refute it at one input. -/
def theorySumsWrong : ChangeSpec := { name := "theorySums", fn := fun _ => fun
  | [d1, d2, d3] => { results := [.lit (.bool false)], args := [d1, d2, d3] }
  | _ => none }
def TheorySumsWrongFalsely : Prop := theorySumsRow.holds Tryz.pinned (OpenSpec.ofChange theorySumsWrong)

/-- 'sealringlaw09.TheoryPowers': WHATEVER THE INPUT: true; the input reads as it did. -/
def theoryPowersSpec : ChangeSpec := { name := "theoryPowers", fn := fun _ => fun
  | [d1, d2, d3] => { results := [.lit (.bool true)], args := [d1, d2, d3] }
  | _ => none }
def theoryPowersRow : OpenClaim := { program := "ytbcpnepjojppaaagreatdoor", sum := "248c78d083f402319c74b577061cff5e190eddc64dc6318b3718e7c8040b44d5", func := "sealring/sealringlaw09.TheoryPowers", spec := "theoryPowers", inPlace := ["internal/bytealg.abigen_runtime_cmpstring"], unfollowed := true, recurses := true, named := ["sealring/theory.symbols"], loops := true, plainKeys := false, apart := false, laid := [("sealring/theory.symbols", laid_sealring_theory_symbols)] }
def TheoryPowersSaid : Prop := theoryPowersRow.holds Tryz.pinned (OpenSpec.ofChange theoryPowersSpec)

/-- ITS FALSE NEIGHBOUR: 'it returns false'. Refute it at one input. -/
def theoryPowersWrong : ChangeSpec := { name := "theoryPowers", fn := fun _ => fun
  | [d1, d2, d3] => { results := [.lit (.bool false)], args := [d1, d2, d3] }
  | _ => none }
def TheoryPowersWrongFalsely : Prop := theoryPowersRow.holds Tryz.pinned (OpenSpec.ofChange theoryPowersWrong)

/-- 'sealringlaw09.TheoryRules': WHATEVER THE INPUT: true; the input reads as it did. -/
def theoryRulesSpec : ChangeSpec := { name := "theoryRules", fn := fun _ => fun
  | [d] => { results := [.lit (.bool true)], args := [d] }
  | _ => none }
def theoryRulesRow : OpenClaim := { program := "ytbcpnepjojppaaagreatdoor", sum := "248c78d083f402319c74b577061cff5e190eddc64dc6318b3718e7c8040b44d5", func := "sealring/sealringlaw09.TheoryRules", spec := "theoryRules", inPlace := ["internal/bytealg.abigen_runtime_cmpstring"], unfollowed := true, recurses := true, named := ["sealring/theory.symbols"], loops := true, plainKeys := false, apart := false, laid := [("sealring/theory.symbols", laid_sealring_theory_symbols)] }
def TheoryRulesSaid : Prop := theoryRulesRow.holds Tryz.pinned (OpenSpec.ofChange theoryRulesSpec)

/-- ITS FALSE NEIGHBOUR: 'it returns false'. Refute it at one input. -/
def theoryRulesWrong : ChangeSpec := { name := "theoryRules", fn := fun _ => fun
  | [d] => { results := [.lit (.bool false)], args := [d] }
  | _ => none }
def TheoryRulesWrongFalsely : Prop := theoryRulesRow.holds Tryz.pinned (OpenSpec.ofChange theoryRulesWrong)

/-- 'sealringlaw09.TheoryKey': WHATEVER THE INPUT: true; the input reads as it did. -/
def theoryKeySpec : ChangeSpec := { name := "theoryKey", fn := fun _ => fun
  | [d] => { results := [.lit (.bool true)], args := [d] }
  | _ => none }
def theoryKeyRow : OpenClaim := { program := "ytbcpnepjojppaaagreatdoor", sum := "248c78d083f402319c74b577061cff5e190eddc64dc6318b3718e7c8040b44d5", func := "sealring/sealringlaw09.TheoryKey", spec := "theoryKey", inPlace := ["internal/bytealg.abigen_runtime_cmpstring"], unfollowed := true, recurses := true, named := ["sealring/theory.symbols"], loops := true, plainKeys := false, apart := false, laid := [("sealring/theory.symbols", laid_sealring_theory_symbols)] }
def TheoryKeySaid : Prop := theoryKeyRow.holds Tryz.pinned (OpenSpec.ofChange theoryKeySpec)

/-- ITS FALSE NEIGHBOUR: 'it returns false'. Refute it at one input. -/
def theoryKeyWrong : ChangeSpec := { name := "theoryKey", fn := fun _ => fun
  | [d] => { results := [.lit (.bool false)], args := [d] }
  | _ => none }
def TheoryKeyWrongFalsely : Prop := theoryKeyRow.holds Tryz.pinned (OpenSpec.ofChange theoryKeyWrong)

/-- 'sealringlaw09.TheoryTuple': WHATEVER THE INPUT: true; the input reads as it did. -/
def theoryTupleSpec : ChangeSpec := { name := "theoryTuple", fn := fun _ => fun
  | [d] => { results := [.lit (.bool true)], args := [d] }
  | _ => none }
def theoryTupleRow : OpenClaim := { program := "ytbcpnepjojppaaagreatdoor", sum := "248c78d083f402319c74b577061cff5e190eddc64dc6318b3718e7c8040b44d5", func := "sealring/sealringlaw09.TheoryTuple", spec := "theoryTuple", inPlace := ["internal/bytealg.abigen_runtime_cmpstring"], unfollowed := true, recurses := true, named := ["sealring/theory.symbols"], loops := true, plainKeys := false, apart := false, laid := [("sealring/theory.symbols", laid_sealring_theory_symbols)] }
def TheoryTupleSaid : Prop := theoryTupleRow.holds Tryz.pinned (OpenSpec.ofChange theoryTupleSpec)

/-- ITS FALSE NEIGHBOUR: 'it returns false'. Refute it at one input. -/
def theoryTupleWrong : ChangeSpec := { name := "theoryTuple", fn := fun _ => fun
  | [d] => { results := [.lit (.bool false)], args := [d] }
  | _ => none }
def TheoryTupleWrongFalsely : Prop := theoryTupleRow.holds Tryz.pinned (OpenSpec.ofChange theoryTupleWrong)

/- THE SECOND FORM. 'bulk': how many values and letters a reading holds, each counted each time it is reached (what is shared counts as often as it is met; a slice's spare places count too). A statement '..UptoSaid' is the law's where the arguments, and the package variables that the reading takes, are together of bulk at most 1048576: NARROWER than '..Said'. Prove '..Said' where nothing that the law and all that it calls make is longer than what came in: it says more and counts as full. Else prove '..UptoSaid'. A law counts once. -/
mutual
def uptoBulk {H : Type} : DataW H → Nat
  | .lit (.string bytes) => bytes.length + 1
  | .lit _ => 1
  | .nil => 1
  | .ptr d => uptoBulk d + 1
  | .slice elems spare => uptoBulkAll elems + uptoBulkAll spare + 1
  | .agg parts => uptoBulkAll parts + 1
  | .iface _ d => uptoBulk d + 1
  | .map entries => uptoBulkEntries entries + 1
  | .held _ => 1
def uptoBulkAll {H : Type} : List (DataW H) → Nat
  | [] => 0
  | d :: r => uptoBulk d + uptoBulkAll r
def uptoBulkEntries {H : Type} : List (Lit × DataW H) → Nat
  | [] => 0
  | x :: r => uptoBulkEntry x + uptoBulkEntries r
def uptoBulkEntry {H : Type} : Lit × DataW H → Nat
  | (.string bytes, d) => bytes.length + uptoBulk d + 1
  | (_, d) => uptoBulk d + 1
 end
def uptoSmall : (H : Type) → List (DataW H) → Bool := fun _ ds => decide (uptoBulkAll ds ≤ 1048576)
def OpenSpec.upto (s : _root_.Go.ChangeSpec) : _root_.Go.OpenSpec := { _root_.Go.OpenSpec.ofChange s with cond := some uptoSmall }

/-- 'sealringlaw09.TheoryValid', WHERE WHAT IT READS IS OF BULK AT MOST 1048576: true; the input reads as it did. -/
def theoryValidUptoRow : OpenClaim := { program := "ytbcpnepjojppaaagreatdoor", sum := "248c78d083f402319c74b577061cff5e190eddc64dc6318b3718e7c8040b44d5", func := "sealring/sealringlaw09.TheoryValid", spec := "theoryValid", inPlace := ["internal/bytealg.abigen_runtime_cmpstring"], unfollowed := true, recurses := true, named := ["sealring/theory.symbols"], loops := true, plainKeys := false, apart := false, laid := [("sealring/theory.symbols", laid_sealring_theory_symbols)], narrowed := true }
def TheoryValidUptoSaid : Prop := theoryValidUptoRow.holds Tryz.pinned (OpenSpec.upto theoryValidSpec)

/-- 'sealringlaw09.TheoryNormal', WHERE WHAT IT READS IS OF BULK AT MOST 1048576: true; the input reads as it did. -/
def theoryNormalUptoRow : OpenClaim := { program := "ytbcpnepjojppaaagreatdoor", sum := "248c78d083f402319c74b577061cff5e190eddc64dc6318b3718e7c8040b44d5", func := "sealring/sealringlaw09.TheoryNormal", spec := "theoryNormal", inPlace := ["internal/bytealg.abigen_runtime_cmpstring"], unfollowed := true, recurses := true, named := ["sealring/theory.symbols"], loops := true, plainKeys := false, apart := false, laid := [("sealring/theory.symbols", laid_sealring_theory_symbols)], narrowed := true }
def TheoryNormalUptoSaid : Prop := theoryNormalUptoRow.holds Tryz.pinned (OpenSpec.upto theoryNormalSpec)

/-- 'sealringlaw09.TheoryEqual', WHERE WHAT IT READS IS OF BULK AT MOST 1048576: true; the input reads as it did. -/
def theoryEqualUptoRow : OpenClaim := { program := "ytbcpnepjojppaaagreatdoor", sum := "248c78d083f402319c74b577061cff5e190eddc64dc6318b3718e7c8040b44d5", func := "sealring/sealringlaw09.TheoryEqual", spec := "theoryEqual", inPlace := ["internal/bytealg.abigen_runtime_cmpstring"], unfollowed := true, recurses := true, named := ["sealring/theory.symbols"], loops := true, plainKeys := false, apart := false, laid := [("sealring/theory.symbols", laid_sealring_theory_symbols)], narrowed := true }
def TheoryEqualUptoSaid : Prop := theoryEqualUptoRow.holds Tryz.pinned (OpenSpec.upto theoryEqualSpec)

/-- 'sealringlaw09.TheoryReplace', WHERE WHAT IT READS IS OF BULK AT MOST 1048576: true; the input reads as it did. -/
def theoryReplaceUptoRow : OpenClaim := { program := "ytbcpnepjojppaaagreatdoor", sum := "248c78d083f402319c74b577061cff5e190eddc64dc6318b3718e7c8040b44d5", func := "sealring/sealringlaw09.TheoryReplace", spec := "theoryReplace", inPlace := ["internal/bytealg.abigen_runtime_cmpstring"], unfollowed := true, recurses := true, named := ["sealring/theory.symbols"], loops := true, plainKeys := false, apart := false, laid := [("sealring/theory.symbols", laid_sealring_theory_symbols)], narrowed := true }
def TheoryReplaceUptoSaid : Prop := theoryReplaceUptoRow.holds Tryz.pinned (OpenSpec.upto theoryReplaceSpec)

/-- 'sealringlaw09.TheorySums', WHERE WHAT IT READS IS OF BULK AT MOST 1048576: true; the input reads as it did. -/
def theorySumsUptoRow : OpenClaim := { program := "ytbcpnepjojppaaagreatdoor", sum := "248c78d083f402319c74b577061cff5e190eddc64dc6318b3718e7c8040b44d5", func := "sealring/sealringlaw09.TheorySums", spec := "theorySums", inPlace := ["internal/bytealg.abigen_runtime_cmpstring"], unfollowed := true, recurses := true, named := ["sealring/theory.symbols"], loops := true, plainKeys := false, apart := false, laid := [("sealring/theory.symbols", laid_sealring_theory_symbols)], narrowed := true }
def TheorySumsUptoSaid : Prop := theorySumsUptoRow.holds Tryz.pinned (OpenSpec.upto theorySumsSpec)

/-- 'sealringlaw09.TheoryPowers', WHERE WHAT IT READS IS OF BULK AT MOST 1048576: true; the input reads as it did. -/
def theoryPowersUptoRow : OpenClaim := { program := "ytbcpnepjojppaaagreatdoor", sum := "248c78d083f402319c74b577061cff5e190eddc64dc6318b3718e7c8040b44d5", func := "sealring/sealringlaw09.TheoryPowers", spec := "theoryPowers", inPlace := ["internal/bytealg.abigen_runtime_cmpstring"], unfollowed := true, recurses := true, named := ["sealring/theory.symbols"], loops := true, plainKeys := false, apart := false, laid := [("sealring/theory.symbols", laid_sealring_theory_symbols)], narrowed := true }
def TheoryPowersUptoSaid : Prop := theoryPowersUptoRow.holds Tryz.pinned (OpenSpec.upto theoryPowersSpec)

/-- 'sealringlaw09.TheoryRules', WHERE WHAT IT READS IS OF BULK AT MOST 1048576: true; the input reads as it did. -/
def theoryRulesUptoRow : OpenClaim := { program := "ytbcpnepjojppaaagreatdoor", sum := "248c78d083f402319c74b577061cff5e190eddc64dc6318b3718e7c8040b44d5", func := "sealring/sealringlaw09.TheoryRules", spec := "theoryRules", inPlace := ["internal/bytealg.abigen_runtime_cmpstring"], unfollowed := true, recurses := true, named := ["sealring/theory.symbols"], loops := true, plainKeys := false, apart := false, laid := [("sealring/theory.symbols", laid_sealring_theory_symbols)], narrowed := true }
def TheoryRulesUptoSaid : Prop := theoryRulesUptoRow.holds Tryz.pinned (OpenSpec.upto theoryRulesSpec)

/-- 'sealringlaw09.TheoryKey', WHERE WHAT IT READS IS OF BULK AT MOST 1048576: true; the input reads as it did. -/
def theoryKeyUptoRow : OpenClaim := { program := "ytbcpnepjojppaaagreatdoor", sum := "248c78d083f402319c74b577061cff5e190eddc64dc6318b3718e7c8040b44d5", func := "sealring/sealringlaw09.TheoryKey", spec := "theoryKey", inPlace := ["internal/bytealg.abigen_runtime_cmpstring"], unfollowed := true, recurses := true, named := ["sealring/theory.symbols"], loops := true, plainKeys := false, apart := false, laid := [("sealring/theory.symbols", laid_sealring_theory_symbols)], narrowed := true }
def TheoryKeyUptoSaid : Prop := theoryKeyUptoRow.holds Tryz.pinned (OpenSpec.upto theoryKeySpec)

/-- 'sealringlaw09.TheoryTuple', WHERE WHAT IT READS IS OF BULK AT MOST 1048576: true; the input reads as it did. -/
def theoryTupleUptoRow : OpenClaim := { program := "ytbcpnepjojppaaagreatdoor", sum := "248c78d083f402319c74b577061cff5e190eddc64dc6318b3718e7c8040b44d5", func := "sealring/sealringlaw09.TheoryTuple", spec := "theoryTuple", inPlace := ["internal/bytealg.abigen_runtime_cmpstring"], unfollowed := true, recurses := true, named := ["sealring/theory.symbols"], loops := true, plainKeys := false, apart := false, laid := [("sealring/theory.symbols", laid_sealring_theory_symbols)], narrowed := true }
def TheoryTupleUptoSaid : Prop := theoryTupleUptoRow.holds Tryz.pinned (OpenSpec.upto theoryTupleSpec)

end Rows
end Go.Proofs.YtbcpnepjojppaaaGreatDoor
