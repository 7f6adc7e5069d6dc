/-
  NARROWER THAN 'FOR EVERY INPUT', by the rows' own cells (each row's printed sentence says how): SubstAgain: loops, laid · SubstText: loops, laid · SubstParse: laid.
  DERIVED. THE GIVEN ROWS OF THIS SEAT. 3 by the template 'for every input the law returns true; each argument reads behind the call as it read before'; 0 by the template 'total and deterministic' (their statements: YtkdnfioihhfmpaaGreatDoorTotals.lean).
  GIVEN WITH THE SEED: the statements are not yours to turn. If you find one false, say at which input.
  Laid BY PROGRAM, IN A SANDBOX (cutbox-rows.mjs): the forced cells as the released guide's own fill.sh prints them over the translation 30c6a37dd931e4d1… (all of the seat's roots in one cut). By AI agents, Wed Nov 11 2026. No macro, syntax, notation, axiom, sorry.
-/
import Derived.Test.YtkdnfioihhfmpaaGreatDoorChecked
import GoSem.Claim
import GoSem.ClaimJoined
import GoSem.ClaimMapViews
import Derived.JoinedTies
import Derived.KernelRfl
namespace Go.Proofs.YtkdnfioihhfmpaaGreatDoor
/- THE CELL 'sum', in the pinned program and in every row, IS THE sha256 OF THE DUMP (.gsa) THAT YtkdnfioihhfmpaaGreatDoorProg.lean LOADS. Nothing in Lean hashes anything: it is a label: what it is worth is what the hold of that sum in a sandbox is worth. -/
noncomputable def Tryz.pinned : Pinned := { name := "ytkdnfioihhfmpaagreatdoor", sum := "30c6a37dd931e4d11556b461efb9a42742eb92b0bc4b05658fdec37df81dffa6", checked := Tryz.checked }
namespace Rows
def none {H : Type} : Left H := { results := [], args := [] }

/- WHAT THE LISTED PACKAGE-LEVEL VARIABLES READ AS WHEN THE CALL BEGINS. Each datum BY PROGRAM (the guide's laid-datum.mjs) off the statement by which the dump's own 'gosem.cut.vars' lays the variable. In a bare row this is a premise. The card (YtkdnfioihhfmpaaGreatDoorCards.lean) ties it to the program's text. -/
def laid_sealring_term_sortWords {H : Type} : DataW H := .agg [.lit (.string [97, 110, 121]), .lit (.string [97, 103, 101, 110, 116]), .lit (.string [110, 111, 110, 99, 101]), .lit (.string [107, 101, 121]), .lit (.string [100, 97, 116, 97]), .lit (.string [116, 97, 103])]

/-- 'sealringlaw02.SubstAgain': WHATEVER THE INPUT: true; the input reads as it did. -/
def substAgainSpec : ChangeSpec := { name := "substAgain", fn := fun _ => fun
  | [d1, d2] => { results := [.lit (.bool true)], args := [d1, d2] }
  | _ => none }
def substAgainRow : OpenClaim := { program := "ytkdnfioihhfmpaagreatdoor", sum := "30c6a37dd931e4d11556b461efb9a42742eb92b0bc4b05658fdec37df81dffa6", func := "sealring/sealringlaw02.SubstAgain", spec := "substAgain", inPlace := ["internal/bytealg.abigen_runtime_cmpstring", "internal/abi.NoEscape"], unfollowed := true, recurses := true, named := ["sealring/term.sortWords"], loops := true, apart := false, laid := [("sealring/term.sortWords", laid_sealring_term_sortWords)] }
def SubstAgainSaid : Prop := substAgainRow.holds Tryz.pinned (OpenSpec.ofChange substAgainSpec)

/-- ITS FALSE NEIGHBOUR: 'it returns false'. Refute it at one input. -/
def substAgainWrong : ChangeSpec := { name := "substAgain", fn := fun _ => fun
  | [d1, d2] => { results := [.lit (.bool false)], args := [d1, d2] }
  | _ => none }
def SubstAgainWrongFalsely : Prop := substAgainRow.holds Tryz.pinned (OpenSpec.ofChange substAgainWrong)

/-- 'sealringlaw02.SubstText': WHATEVER THE INPUT: true; the input reads as it did. -/
def substTextSpec : ChangeSpec := { name := "substText", fn := fun _ => fun
  | [d] => { results := [.lit (.bool true)], args := [d] }
  | _ => none }
def substTextRow : OpenClaim := { program := "ytkdnfioihhfmpaagreatdoor", sum := "30c6a37dd931e4d11556b461efb9a42742eb92b0bc4b05658fdec37df81dffa6", func := "sealring/sealringlaw02.SubstText", spec := "substText", inPlace := ["internal/bytealg.abigen_runtime_cmpstring", "internal/abi.NoEscape", "internal/bytealg.IndexByteString", "internal/bytealg.IndexString"], unfollowed := true, recurses := true, named := ["sealring/term.sortWords", "internal/bytealg.MaxLen"], loops := true, apart := false, laid := [("sealring/term.sortWords", laid_sealring_term_sortWords)] }
def SubstTextSaid : Prop := substTextRow.holds Tryz.pinned (OpenSpec.ofChange substTextSpec)

/-- ITS FALSE NEIGHBOUR: 'it returns false'. Refute it at one input. -/
def substTextWrong : ChangeSpec := { name := "substText", fn := fun _ => fun
  | [d] => { results := [.lit (.bool false)], args := [d] }
  | _ => none }
def SubstTextWrongFalsely : Prop := substTextRow.holds Tryz.pinned (OpenSpec.ofChange substTextWrong)

/-- 'sealringlaw02.SubstParse': WHATEVER THE INPUT: true; the input reads as it did. -/
def substParseSpec : ChangeSpec := { name := "substParse", fn := fun _ => fun
  | [d] => { results := [.lit (.bool true)], args := [d] }
  | _ => none }
def substParseRow : OpenClaim := { program := "ytkdnfioihhfmpaagreatdoor", sum := "30c6a37dd931e4d11556b461efb9a42742eb92b0bc4b05658fdec37df81dffa6", func := "sealring/sealringlaw02.SubstParse", spec := "substParse", inPlace := ["internal/bytealg.abigen_runtime_cmpstring", "internal/abi.NoEscape", "internal/bytealg.IndexByteString", "internal/bytealg.IndexString"], unfollowed := true, recurses := true, named := ["sealring/term.sortWords", "internal/bytealg.MaxLen"], apart := false, laid := [("sealring/term.sortWords", laid_sealring_term_sortWords)] }
def SubstParseSaid : Prop := substParseRow.holds Tryz.pinned (OpenSpec.ofChange substParseSpec)

/-- ITS FALSE NEIGHBOUR: 'it returns false'. Refute it at one input. -/
def substParseWrong : ChangeSpec := { name := "substParse", fn := fun _ => fun
  | [d] => { results := [.lit (.bool false)], args := [d] }
  | _ => none }
def SubstParseWrongFalsely : Prop := substParseRow.holds Tryz.pinned (OpenSpec.ofChange substParseWrong)

/- THE SECOND FORM. 'bulk': how many values and letters a reading holds, each counted each time it is reached (what is shared counts as often as it is met; a slice's spare places count too). A statement '..UptoSaid' is the law's where the arguments, and the package variables that the reading takes, are together of bulk at most 1048576: NARROWER than '..Said'. Prove '..Said' where nothing that the law and all that it calls make is longer than what came in: it says more and counts as full. Else prove '..UptoSaid'. A law counts once. -/
mutual
def uptoBulk {H : Type} : DataW H → Nat
  | .lit (.string bytes) => bytes.length + 1
  | .lit _ => 1
  | .nil => 1
  | .ptr d => uptoBulk d + 1
  | .slice elems spare => uptoBulkAll elems + uptoBulkAll spare + 1
  | .agg parts => uptoBulkAll parts + 1
  | .iface _ d => uptoBulk d + 1
  | .map entries => uptoBulkEntries entries + 1
  | .held _ => 1
def uptoBulkAll {H : Type} : List (DataW H) → Nat
  | [] => 0
  | d :: r => uptoBulk d + uptoBulkAll r
def uptoBulkEntries {H : Type} : List (Lit × DataW H) → Nat
  | [] => 0
  | x :: r => uptoBulkEntry x + uptoBulkEntries r
def uptoBulkEntry {H : Type} : Lit × DataW H → Nat
  | (.string bytes, d) => bytes.length + uptoBulk d + 1
  | (_, d) => uptoBulk d + 1
 end
def uptoSmall : (H : Type) → List (DataW H) → Bool := fun _ ds => decide (uptoBulkAll ds ≤ 1048576)
def OpenSpec.upto (s : _root_.Go.ChangeSpec) : _root_.Go.OpenSpec := { _root_.Go.OpenSpec.ofChange s with cond := some uptoSmall }

/-- 'sealringlaw02.SubstAgain', WHERE WHAT IT READS IS OF BULK AT MOST 1048576: true; the input reads as it did. -/
def substAgainUptoRow : OpenClaim := { program := "ytkdnfioihhfmpaagreatdoor", sum := "30c6a37dd931e4d11556b461efb9a42742eb92b0bc4b05658fdec37df81dffa6", func := "sealring/sealringlaw02.SubstAgain", spec := "substAgain", inPlace := ["internal/bytealg.abigen_runtime_cmpstring", "internal/abi.NoEscape"], unfollowed := true, recurses := true, named := ["sealring/term.sortWords"], loops := true, apart := false, laid := [("sealring/term.sortWords", laid_sealring_term_sortWords)], narrowed := true }
def SubstAgainUptoSaid : Prop := substAgainUptoRow.holds Tryz.pinned (OpenSpec.upto substAgainSpec)

/-- 'sealringlaw02.SubstText', WHERE WHAT IT READS IS OF BULK AT MOST 1048576: true; the input reads as it did. -/
def substTextUptoRow : OpenClaim := { program := "ytkdnfioihhfmpaagreatdoor", sum := "30c6a37dd931e4d11556b461efb9a42742eb92b0bc4b05658fdec37df81dffa6", func := "sealring/sealringlaw02.SubstText", spec := "substText", inPlace := ["internal/bytealg.abigen_runtime_cmpstring", "internal/abi.NoEscape", "internal/bytealg.IndexByteString", "internal/bytealg.IndexString"], unfollowed := true, recurses := true, named := ["sealring/term.sortWords", "internal/bytealg.MaxLen"], loops := true, apart := false, laid := [("sealring/term.sortWords", laid_sealring_term_sortWords)], narrowed := true }
def SubstTextUptoSaid : Prop := substTextUptoRow.holds Tryz.pinned (OpenSpec.upto substTextSpec)

/-- 'sealringlaw02.SubstParse', WHERE WHAT IT READS IS OF BULK AT MOST 1048576: true; the input reads as it did. -/
def substParseUptoRow : OpenClaim := { program := "ytkdnfioihhfmpaagreatdoor", sum := "30c6a37dd931e4d11556b461efb9a42742eb92b0bc4b05658fdec37df81dffa6", func := "sealring/sealringlaw02.SubstParse", spec := "substParse", inPlace := ["internal/bytealg.abigen_runtime_cmpstring", "internal/abi.NoEscape", "internal/bytealg.IndexByteString", "internal/bytealg.IndexString"], unfollowed := true, recurses := true, named := ["sealring/term.sortWords", "internal/bytealg.MaxLen"], apart := false, laid := [("sealring/term.sortWords", laid_sealring_term_sortWords)], narrowed := true }
def SubstParseUptoSaid : Prop := substParseUptoRow.holds Tryz.pinned (OpenSpec.upto substParseSpec)

end Rows
end Go.Proofs.YtkdnfioihhfmpaaGreatDoor
