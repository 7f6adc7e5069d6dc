/-
  NARROWER THAN 'FOR EVERY INPUT', by the rows' own cells (each row's printed sentence says how): TermParse: laid · SubstValid: loops, laid · SubstFits: loops, laid · SubstApply: loops, laid · SubstCompose: loops, laid · SubstLaws: laid · SubstRename: loops, laid.
  DERIVED. THE GIVEN ROWS OF THIS SEAT. 7 by the template 'for every input the law returns true; each argument reads behind the call as it read before'; 0 by the template 'total and deterministic' (their statements: YtkdnfioihhfmpaaDoorTotals.lean).
  GIVEN WITH THE SEED: the statements are not yours to turn. If you find one false, say at which input.
  Laid BY PROGRAM, IN A SANDBOX (cutbox-rows.mjs): the forced cells as the released guide's own fill.sh prints them over the translation c329698fa2a2ddae… (all of the seat's roots in one cut). By AI agents, Wed Nov 11 2026. No macro, syntax, notation, axiom, sorry.
-/
import Derived.Test.YtkdnfioihhfmpaaDoorChecked
import GoSem.Claim
import GoSem.ClaimJoined
import GoSem.ClaimMapViews
import Derived.JoinedTies
import Derived.KernelRfl
namespace Go.Proofs.YtkdnfioihhfmpaaDoor
/- THE CELL 'sum', in the pinned program and in every row, IS THE sha256 OF THE DUMP (.gsa) THAT YtkdnfioihhfmpaaDoorProg.lean LOADS. Nothing in Lean hashes anything: it is a label: what it is worth is what the hold of that sum in a sandbox is worth. -/
noncomputable def Tryd.pinned : Pinned := { name := "ytkdnfioihhfmpaadoor", sum := "c329698fa2a2ddaec3054cd771163c218ad8ad0ed59a693fc5ffd23995460094", checked := Tryd.checked }
namespace Rows
def none {H : Type} : Left H := { results := [], args := [] }

/- WHAT THE LISTED PACKAGE-LEVEL VARIABLES READ AS WHEN THE CALL BEGINS. Each datum BY PROGRAM (the guide's laid-datum.mjs) off the statement by which the dump's own 'gosem.cut.vars' lays the variable. In a bare row this is a premise. The card (YtkdnfioihhfmpaaDoorCards.lean) ties it to the program's text. -/
def laid_sealring_term_sortWords {H : Type} : DataW H := .agg [.lit (.string [97, 110, 121]), .lit (.string [97, 103, 101, 110, 116]), .lit (.string [110, 111, 110, 99, 101]), .lit (.string [107, 101, 121]), .lit (.string [100, 97, 116, 97]), .lit (.string [116, 97, 103])]

/-- 'sealringlaw01.TermParse': WHATEVER THE INPUT: true; the input reads as it did. -/
def termParseSpec : ChangeSpec := { name := "termParse", fn := fun _ => fun
  | [d] => { results := [.lit (.bool true)], args := [d] }
  | _ => none }
def termParseRow : OpenClaim := { program := "ytkdnfioihhfmpaadoor", sum := "c329698fa2a2ddaec3054cd771163c218ad8ad0ed59a693fc5ffd23995460094", func := "sealring/sealringlaw01.TermParse", spec := "termParse", inPlace := ["internal/bytealg.abigen_runtime_cmpstring", "internal/abi.NoEscape"], unfollowed := true, recurses := true, named := ["sealring/term.sortWords"], apart := false, laid := [("sealring/term.sortWords", laid_sealring_term_sortWords)] }
def TermParseSaid : Prop := termParseRow.holds Tryd.pinned (OpenSpec.ofChange termParseSpec)

/-- ITS FALSE NEIGHBOUR: 'it returns false'. Refute it at one input. -/
def termParseWrong : ChangeSpec := { name := "termParse", fn := fun _ => fun
  | [d] => { results := [.lit (.bool false)], args := [d] }
  | _ => none }
def TermParseWrongFalsely : Prop := termParseRow.holds Tryd.pinned (OpenSpec.ofChange termParseWrong)

/-- 'sealringlaw02.SubstValid': WHATEVER THE INPUT: true; the input reads as it did. -/
def substValidSpec : ChangeSpec := { name := "substValid", fn := fun _ => fun
  | [d] => { results := [.lit (.bool true)], args := [d] }
  | _ => none }
def substValidRow : OpenClaim := { program := "ytkdnfioihhfmpaadoor", sum := "c329698fa2a2ddaec3054cd771163c218ad8ad0ed59a693fc5ffd23995460094", func := "sealring/sealringlaw02.SubstValid", spec := "substValid", inPlace := ["internal/bytealg.abigen_runtime_cmpstring", "internal/abi.NoEscape"], unfollowed := true, recurses := true, named := ["sealring/term.sortWords"], loops := true, apart := false, laid := [("sealring/term.sortWords", laid_sealring_term_sortWords)] }
def SubstValidSaid : Prop := substValidRow.holds Tryd.pinned (OpenSpec.ofChange substValidSpec)

/-- ITS FALSE NEIGHBOUR: 'it returns false'. Refute it at one input. -/
def substValidWrong : ChangeSpec := { name := "substValid", fn := fun _ => fun
  | [d] => { results := [.lit (.bool false)], args := [d] }
  | _ => none }
def SubstValidWrongFalsely : Prop := substValidRow.holds Tryd.pinned (OpenSpec.ofChange substValidWrong)

/-- 'sealringlaw02.SubstFits': WHATEVER THE INPUT: true; the input reads as it did. -/
def substFitsSpec : ChangeSpec := { name := "substFits", fn := fun _ => fun
  | [d1, d2] => { results := [.lit (.bool true)], args := [d1, d2] }
  | _ => none }
def substFitsRow : OpenClaim := { program := "ytkdnfioihhfmpaadoor", sum := "c329698fa2a2ddaec3054cd771163c218ad8ad0ed59a693fc5ffd23995460094", func := "sealring/sealringlaw02.SubstFits", spec := "substFits", inPlace := ["internal/bytealg.abigen_runtime_cmpstring", "internal/abi.NoEscape"], unfollowed := true, recurses := true, named := ["sealring/term.sortWords"], loops := true, apart := false, laid := [("sealring/term.sortWords", laid_sealring_term_sortWords)] }
def SubstFitsSaid : Prop := substFitsRow.holds Tryd.pinned (OpenSpec.ofChange substFitsSpec)

/-- ITS FALSE NEIGHBOUR: 'it returns false'. Refute it at one input. -/
def substFitsWrong : ChangeSpec := { name := "substFits", fn := fun _ => fun
  | [d1, d2] => { results := [.lit (.bool false)], args := [d1, d2] }
  | _ => none }
def SubstFitsWrongFalsely : Prop := substFitsRow.holds Tryd.pinned (OpenSpec.ofChange substFitsWrong)

/-- 'sealringlaw02.SubstApply': WHATEVER THE INPUT: true; the input reads as it did. -/
def substApplySpec : ChangeSpec := { name := "substApply", fn := fun _ => fun
  | [d1, d2] => { results := [.lit (.bool true)], args := [d1, d2] }
  | _ => none }
def substApplyRow : OpenClaim := { program := "ytkdnfioihhfmpaadoor", sum := "c329698fa2a2ddaec3054cd771163c218ad8ad0ed59a693fc5ffd23995460094", func := "sealring/sealringlaw02.SubstApply", spec := "substApply", inPlace := ["internal/bytealg.abigen_runtime_cmpstring", "internal/abi.NoEscape"], unfollowed := true, recurses := true, named := ["sealring/term.sortWords"], loops := true, apart := false, laid := [("sealring/term.sortWords", laid_sealring_term_sortWords)] }
def SubstApplySaid : Prop := substApplyRow.holds Tryd.pinned (OpenSpec.ofChange substApplySpec)

/-- ITS FALSE NEIGHBOUR: 'it returns false'. Refute it at one input. -/
def substApplyWrong : ChangeSpec := { name := "substApply", fn := fun _ => fun
  | [d1, d2] => { results := [.lit (.bool false)], args := [d1, d2] }
  | _ => none }
def SubstApplyWrongFalsely : Prop := substApplyRow.holds Tryd.pinned (OpenSpec.ofChange substApplyWrong)

/-- 'sealringlaw02.SubstCompose': WHATEVER THE INPUT: true; the input reads as it did. -/
def substComposeSpec : ChangeSpec := { name := "substCompose", fn := fun _ => fun
  | [d1, d2] => { results := [.lit (.bool true)], args := [d1, d2] }
  | _ => none }
def substComposeRow : OpenClaim := { program := "ytkdnfioihhfmpaadoor", sum := "c329698fa2a2ddaec3054cd771163c218ad8ad0ed59a693fc5ffd23995460094", func := "sealring/sealringlaw02.SubstCompose", spec := "substCompose", inPlace := ["internal/bytealg.abigen_runtime_cmpstring", "internal/abi.NoEscape"], unfollowed := true, recurses := true, named := ["sealring/term.sortWords"], loops := true, apart := false, laid := [("sealring/term.sortWords", laid_sealring_term_sortWords)] }
def SubstComposeSaid : Prop := substComposeRow.holds Tryd.pinned (OpenSpec.ofChange substComposeSpec)

/-- ITS FALSE NEIGHBOUR: 'it returns false'. Refute it at one input. -/
def substComposeWrong : ChangeSpec := { name := "substCompose", fn := fun _ => fun
  | [d1, d2] => { results := [.lit (.bool false)], args := [d1, d2] }
  | _ => none }
def SubstComposeWrongFalsely : Prop := substComposeRow.holds Tryd.pinned (OpenSpec.ofChange substComposeWrong)

/-- 'sealringlaw02.SubstLaws': WHATEVER THE INPUT: true; the input reads as it did. -/
def substLawsSpec : ChangeSpec := { name := "substLaws", fn := fun _ => fun
  | [d1, d2, d3] => { results := [.lit (.bool true)], args := [d1, d2, d3] }
  | _ => none }
def substLawsRow : OpenClaim := { program := "ytkdnfioihhfmpaadoor", sum := "c329698fa2a2ddaec3054cd771163c218ad8ad0ed59a693fc5ffd23995460094", func := "sealring/sealringlaw02.SubstLaws", spec := "substLaws", inPlace := ["internal/bytealg.abigen_runtime_cmpstring", "internal/abi.NoEscape"], unfollowed := true, recurses := true, named := ["sealring/term.sortWords"], apart := false, laid := [("sealring/term.sortWords", laid_sealring_term_sortWords)] }
def SubstLawsSaid : Prop := substLawsRow.holds Tryd.pinned (OpenSpec.ofChange substLawsSpec)

/-- ITS FALSE NEIGHBOUR: 'it returns false'. Refute it at one input. -/
def substLawsWrong : ChangeSpec := { name := "substLaws", fn := fun _ => fun
  | [d1, d2, d3] => { results := [.lit (.bool false)], args := [d1, d2, d3] }
  | _ => none }
def SubstLawsWrongFalsely : Prop := substLawsRow.holds Tryd.pinned (OpenSpec.ofChange substLawsWrong)

/-- 'sealringlaw02.SubstRename': WHATEVER THE INPUT: true; the input reads as it did. -/
def substRenameSpec : ChangeSpec := { name := "substRename", fn := fun _ => fun
  | [d1, d2] => { results := [.lit (.bool true)], args := [d1, d2] }
  | _ => none }
def substRenameRow : OpenClaim := { program := "ytkdnfioihhfmpaadoor", sum := "c329698fa2a2ddaec3054cd771163c218ad8ad0ed59a693fc5ffd23995460094", func := "sealring/sealringlaw02.SubstRename", spec := "substRename", inPlace := ["internal/bytealg.abigen_runtime_cmpstring", "internal/abi.NoEscape"], unfollowed := true, recurses := true, named := ["sealring/term.sortWords"], loops := true, apart := false, laid := [("sealring/term.sortWords", laid_sealring_term_sortWords)] }
def SubstRenameSaid : Prop := substRenameRow.holds Tryd.pinned (OpenSpec.ofChange substRenameSpec)

/-- ITS FALSE NEIGHBOUR: 'it returns false'. Refute it at one input. -/
def substRenameWrong : ChangeSpec := { name := "substRename", fn := fun _ => fun
  | [d1, d2] => { results := [.lit (.bool false)], args := [d1, d2] }
  | _ => none }
def SubstRenameWrongFalsely : Prop := substRenameRow.holds Tryd.pinned (OpenSpec.ofChange substRenameWrong)

/- THE SECOND FORM. 'bulk': how many values and letters a reading holds, each counted each time it is reached (what is shared counts as often as it is met; a slice's spare places count too). A statement '..UptoSaid' is the law's where the arguments, and the package variables that the reading takes, are together of bulk at most 1048576: NARROWER than '..Said'. Prove '..Said' where nothing that the law and all that it calls make is longer than what came in: it says more and counts as full. Else prove '..UptoSaid'. A law counts once. -/
mutual
def uptoBulk {H : Type} : DataW H → Nat
  | .lit (.string bytes) => bytes.length + 1
  | .lit _ => 1
  | .nil => 1
  | .ptr d => uptoBulk d + 1
  | .slice elems spare => uptoBulkAll elems + uptoBulkAll spare + 1
  | .agg parts => uptoBulkAll parts + 1
  | .iface _ d => uptoBulk d + 1
  | .map entries => uptoBulkEntries entries + 1
  | .held _ => 1
def uptoBulkAll {H : Type} : List (DataW H) → Nat
  | [] => 0
  | d :: r => uptoBulk d + uptoBulkAll r
def uptoBulkEntries {H : Type} : List (Lit × DataW H) → Nat
  | [] => 0
  | x :: r => uptoBulkEntry x + uptoBulkEntries r
def uptoBulkEntry {H : Type} : Lit × DataW H → Nat
  | (.string bytes, d) => bytes.length + uptoBulk d + 1
  | (_, d) => uptoBulk d + 1
 end
def uptoSmall : (H : Type) → List (DataW H) → Bool := fun _ ds => decide (uptoBulkAll ds ≤ 1048576)
def OpenSpec.upto (s : _root_.Go.ChangeSpec) : _root_.Go.OpenSpec := { _root_.Go.OpenSpec.ofChange s with cond := some uptoSmall }

/-- 'sealringlaw01.TermParse', WHERE WHAT IT READS IS OF BULK AT MOST 1048576: true; the input reads as it did. -/
def termParseUptoRow : OpenClaim := { program := "ytkdnfioihhfmpaadoor", sum := "c329698fa2a2ddaec3054cd771163c218ad8ad0ed59a693fc5ffd23995460094", func := "sealring/sealringlaw01.TermParse", spec := "termParse", inPlace := ["internal/bytealg.abigen_runtime_cmpstring", "internal/abi.NoEscape"], unfollowed := true, recurses := true, named := ["sealring/term.sortWords"], apart := false, laid := [("sealring/term.sortWords", laid_sealring_term_sortWords)], narrowed := true }
def TermParseUptoSaid : Prop := termParseUptoRow.holds Tryd.pinned (OpenSpec.upto termParseSpec)

/-- 'sealringlaw02.SubstValid', WHERE WHAT IT READS IS OF BULK AT MOST 1048576: true; the input reads as it did. -/
def substValidUptoRow : OpenClaim := { program := "ytkdnfioihhfmpaadoor", sum := "c329698fa2a2ddaec3054cd771163c218ad8ad0ed59a693fc5ffd23995460094", func := "sealring/sealringlaw02.SubstValid", spec := "substValid", inPlace := ["internal/bytealg.abigen_runtime_cmpstring", "internal/abi.NoEscape"], unfollowed := true, recurses := true, named := ["sealring/term.sortWords"], loops := true, apart := false, laid := [("sealring/term.sortWords", laid_sealring_term_sortWords)], narrowed := true }
def SubstValidUptoSaid : Prop := substValidUptoRow.holds Tryd.pinned (OpenSpec.upto substValidSpec)

/-- 'sealringlaw02.SubstFits', WHERE WHAT IT READS IS OF BULK AT MOST 1048576: true; the input reads as it did. -/
def substFitsUptoRow : OpenClaim := { program := "ytkdnfioihhfmpaadoor", sum := "c329698fa2a2ddaec3054cd771163c218ad8ad0ed59a693fc5ffd23995460094", func := "sealring/sealringlaw02.SubstFits", spec := "substFits", inPlace := ["internal/bytealg.abigen_runtime_cmpstring", "internal/abi.NoEscape"], unfollowed := true, recurses := true, named := ["sealring/term.sortWords"], loops := true, apart := false, laid := [("sealring/term.sortWords", laid_sealring_term_sortWords)], narrowed := true }
def SubstFitsUptoSaid : Prop := substFitsUptoRow.holds Tryd.pinned (OpenSpec.upto substFitsSpec)

/-- 'sealringlaw02.SubstApply', WHERE WHAT IT READS IS OF BULK AT MOST 1048576: true; the input reads as it did. -/
def substApplyUptoRow : OpenClaim := { program := "ytkdnfioihhfmpaadoor", sum := "c329698fa2a2ddaec3054cd771163c218ad8ad0ed59a693fc5ffd23995460094", func := "sealring/sealringlaw02.SubstApply", spec := "substApply", inPlace := ["internal/bytealg.abigen_runtime_cmpstring", "internal/abi.NoEscape"], unfollowed := true, recurses := true, named := ["sealring/term.sortWords"], loops := true, apart := false, laid := [("sealring/term.sortWords", laid_sealring_term_sortWords)], narrowed := true }
def SubstApplyUptoSaid : Prop := substApplyUptoRow.holds Tryd.pinned (OpenSpec.upto substApplySpec)

/-- 'sealringlaw02.SubstCompose', WHERE WHAT IT READS IS OF BULK AT MOST 1048576: true; the input reads as it did. -/
def substComposeUptoRow : OpenClaim := { program := "ytkdnfioihhfmpaadoor", sum := "c329698fa2a2ddaec3054cd771163c218ad8ad0ed59a693fc5ffd23995460094", func := "sealring/sealringlaw02.SubstCompose", spec := "substCompose", inPlace := ["internal/bytealg.abigen_runtime_cmpstring", "internal/abi.NoEscape"], unfollowed := true, recurses := true, named := ["sealring/term.sortWords"], loops := true, apart := false, laid := [("sealring/term.sortWords", laid_sealring_term_sortWords)], narrowed := true }
def SubstComposeUptoSaid : Prop := substComposeUptoRow.holds Tryd.pinned (OpenSpec.upto substComposeSpec)

/-- 'sealringlaw02.SubstLaws', WHERE WHAT IT READS IS OF BULK AT MOST 1048576: true; the input reads as it did. -/
def substLawsUptoRow : OpenClaim := { program := "ytkdnfioihhfmpaadoor", sum := "c329698fa2a2ddaec3054cd771163c218ad8ad0ed59a693fc5ffd23995460094", func := "sealring/sealringlaw02.SubstLaws", spec := "substLaws", inPlace := ["internal/bytealg.abigen_runtime_cmpstring", "internal/abi.NoEscape"], unfollowed := true, recurses := true, named := ["sealring/term.sortWords"], apart := false, laid := [("sealring/term.sortWords", laid_sealring_term_sortWords)], narrowed := true }
def SubstLawsUptoSaid : Prop := substLawsUptoRow.holds Tryd.pinned (OpenSpec.upto substLawsSpec)

/-- 'sealringlaw02.SubstRename', WHERE WHAT IT READS IS OF BULK AT MOST 1048576: true; the input reads as it did. -/
def substRenameUptoRow : OpenClaim := { program := "ytkdnfioihhfmpaadoor", sum := "c329698fa2a2ddaec3054cd771163c218ad8ad0ed59a693fc5ffd23995460094", func := "sealring/sealringlaw02.SubstRename", spec := "substRename", inPlace := ["internal/bytealg.abigen_runtime_cmpstring", "internal/abi.NoEscape"], unfollowed := true, recurses := true, named := ["sealring/term.sortWords"], loops := true, apart := false, laid := [("sealring/term.sortWords", laid_sealring_term_sortWords)], narrowed := true }
def SubstRenameUptoSaid : Prop := substRenameUptoRow.holds Tryd.pinned (OpenSpec.upto substRenameSpec)

end Rows
end Go.Proofs.YtkdnfioihhfmpaaDoor
