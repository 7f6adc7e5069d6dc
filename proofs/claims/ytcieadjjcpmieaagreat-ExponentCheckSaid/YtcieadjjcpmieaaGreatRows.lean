/-
  NARROWER THAN 'FOR EVERY INPUT', by the rows' own cells (each row's printed sentence says how): ExponentOf: loops · ExponentTerm: loops · ExponentMul: loops · ExponentErrors: loops · ExponentCharacter: loops.
  DERIVED. THE GIVEN ROWS OF THIS SEAT. 7 by the template 'for every input the law returns true; each argument reads behind the call as it read before'; 0 by the template 'total and deterministic' (their statements: YtcieadjjcpmieaaGreatTotals.lean).
  GIVEN WITH THE SEED: the statements are not yours to turn. If you find one false, say at which input.
  Laid BY PROGRAM, IN A SANDBOX (cutbox-rows.mjs): the forced cells as the released guide's own fill.sh prints them over the translation 4fda28eef2826a0c… (all of the seat's roots in one cut). By AI agents, Wed Nov 11 2026. No macro, syntax, notation, axiom, sorry.
-/
import Derived.Test.YtcieadjjcpmieaaGreatChecked
import GoSem.Claim
import GoSem.ClaimJoined
import GoSem.ClaimMapViews
import Derived.JoinedTies
import Derived.KernelRfl
namespace Go.Proofs.YtcieadjjcpmieaaGreat
/- THE CELL 'sum', in the pinned program and in every row, IS THE sha256 OF THE DUMP (.gsa) THAT YtcieadjjcpmieaaGreatProg.lean LOADS. Nothing in Lean hashes anything: it is a label: what it is worth is what the hold of that sum in a sandbox is worth. -/
noncomputable def Tryz.pinned : Pinned := { name := "ytcieadjjcpmieaagreat", sum := "4fda28eef2826a0c03b631374b1b3c01ee282c91dabfd7ea267aaba3f357db6c", checked := Tryz.checked }
namespace Rows
def none {H : Type} : Left H := { results := [], args := [] }

/-- 'sealringlaw06.ExponentOf': WHATEVER THE INPUT: true; the input reads as it did. -/
def exponentOfSpec : ChangeSpec := { name := "exponentOf", fn := fun _ => fun
  | [d] => { results := [.lit (.bool true)], args := [d] }
  | _ => none }
def exponentOfRow : OpenClaim := { program := "ytcieadjjcpmieaagreat", sum := "4fda28eef2826a0c03b631374b1b3c01ee282c91dabfd7ea267aaba3f357db6c", func := "sealring/sealringlaw06.ExponentOf", spec := "exponentOf", inPlace := ["internal/bytealg.abigen_runtime_cmpstring"], unfollowed := true, recurses := true, loops := true, apart := false }
def ExponentOfSaid : Prop := exponentOfRow.holds Tryz.pinned (OpenSpec.ofChange exponentOfSpec)

/-- ITS FALSE NEIGHBOUR: 'it returns false'. Refute it at one input. -/
def exponentOfWrong : ChangeSpec := { name := "exponentOf", fn := fun _ => fun
  | [d] => { results := [.lit (.bool false)], args := [d] }
  | _ => none }
def ExponentOfWrongFalsely : Prop := exponentOfRow.holds Tryz.pinned (OpenSpec.ofChange exponentOfWrong)

/-- 'sealringlaw06.ExponentTerm': WHATEVER THE INPUT: true; the input reads as it did. -/
def exponentTermSpec : ChangeSpec := { name := "exponentTerm", fn := fun _ => fun
  | [d] => { results := [.lit (.bool true)], args := [d] }
  | _ => none }
def exponentTermRow : OpenClaim := { program := "ytcieadjjcpmieaagreat", sum := "4fda28eef2826a0c03b631374b1b3c01ee282c91dabfd7ea267aaba3f357db6c", func := "sealring/sealringlaw06.ExponentTerm", spec := "exponentTerm", inPlace := ["internal/bytealg.abigen_runtime_cmpstring"], unfollowed := true, recurses := true, loops := true, apart := false }
def ExponentTermSaid : Prop := exponentTermRow.holds Tryz.pinned (OpenSpec.ofChange exponentTermSpec)

/-- ITS FALSE NEIGHBOUR: 'it returns false'. Refute it at one input. -/
def exponentTermWrong : ChangeSpec := { name := "exponentTerm", fn := fun _ => fun
  | [d] => { results := [.lit (.bool false)], args := [d] }
  | _ => none }
def ExponentTermWrongFalsely : Prop := exponentTermRow.holds Tryz.pinned (OpenSpec.ofChange exponentTermWrong)

/-- 'sealringlaw06.ExponentMul': WHATEVER THE INPUT: true; the input reads as it did. -/
def exponentMulSpec : ChangeSpec := { name := "exponentMul", fn := fun _ => fun
  | [d1, d2, d3] => { results := [.lit (.bool true)], args := [d1, d2, d3] }
  | _ => none }
def exponentMulRow : OpenClaim := { program := "ytcieadjjcpmieaagreat", sum := "4fda28eef2826a0c03b631374b1b3c01ee282c91dabfd7ea267aaba3f357db6c", func := "sealring/sealringlaw06.ExponentMul", spec := "exponentMul", inPlace := ["internal/bytealg.abigen_runtime_cmpstring"], unfollowed := true, recurses := true, loops := true, apart := false }
def ExponentMulSaid : Prop := exponentMulRow.holds Tryz.pinned (OpenSpec.ofChange exponentMulSpec)

/-- ITS FALSE NEIGHBOUR: 'it returns false'. Refute it at one input. -/
def exponentMulWrong : ChangeSpec := { name := "exponentMul", fn := fun _ => fun
  | [d1, d2, d3] => { results := [.lit (.bool false)], args := [d1, d2, d3] }
  | _ => none }
def ExponentMulWrongFalsely : Prop := exponentMulRow.holds Tryz.pinned (OpenSpec.ofChange exponentMulWrong)

/-- 'sealringlaw06.ExponentMember': WHATEVER THE INPUT: true; the input reads as it did. -/
def exponentMemberSpec : ChangeSpec := { name := "exponentMember", fn := fun _ => fun
  | [d] => { results := [.lit (.bool true)], args := [d] }
  | _ => none }
def exponentMemberRow : OpenClaim := { program := "ytcieadjjcpmieaagreat", sum := "4fda28eef2826a0c03b631374b1b3c01ee282c91dabfd7ea267aaba3f357db6c", func := "sealring/sealringlaw06.ExponentMember", spec := "exponentMember", inPlace := ["internal/bytealg.abigen_runtime_cmpstring"], unfollowed := true, recurses := true, apart := false }
def ExponentMemberSaid : Prop := exponentMemberRow.holds Tryz.pinned (OpenSpec.ofChange exponentMemberSpec)

/-- ITS FALSE NEIGHBOUR: 'it returns false'. Refute it at one input. -/
def exponentMemberWrong : ChangeSpec := { name := "exponentMember", fn := fun _ => fun
  | [d] => { results := [.lit (.bool false)], args := [d] }
  | _ => none }
def ExponentMemberWrongFalsely : Prop := exponentMemberRow.holds Tryz.pinned (OpenSpec.ofChange exponentMemberWrong)

/-- 'sealringlaw06.ExponentErrors': WHATEVER THE INPUT: true; the input reads as it did. -/
def exponentErrorsSpec : ChangeSpec := { name := "exponentErrors", fn := fun _ => fun
  | [d1, d2] => { results := [.lit (.bool true)], args := [d1, d2] }
  | _ => none }
def exponentErrorsRow : OpenClaim := { program := "ytcieadjjcpmieaagreat", sum := "4fda28eef2826a0c03b631374b1b3c01ee282c91dabfd7ea267aaba3f357db6c", func := "sealring/sealringlaw06.ExponentErrors", spec := "exponentErrors", inPlace := ["internal/bytealg.abigen_runtime_cmpstring"], unfollowed := true, recurses := true, loops := true, apart := false }
def ExponentErrorsSaid : Prop := exponentErrorsRow.holds Tryz.pinned (OpenSpec.ofChange exponentErrorsSpec)

/-- ITS FALSE NEIGHBOUR: 'it returns false'. Refute it at one input. -/
def exponentErrorsWrong : ChangeSpec := { name := "exponentErrors", fn := fun _ => fun
  | [d1, d2] => { results := [.lit (.bool false)], args := [d1, d2] }
  | _ => none }
def ExponentErrorsWrongFalsely : Prop := exponentErrorsRow.holds Tryz.pinned (OpenSpec.ofChange exponentErrorsWrong)

/-- 'sealringlaw06.ExponentCheck': WHATEVER THE INPUT: true; the input reads as it did. -/
def exponentCheckSpec : ChangeSpec := { name := "exponentCheck", fn := fun _ => fun
  | [d1, d2] => { results := [.lit (.bool true)], args := [d1, d2] }
  | _ => none }
def exponentCheckRow : OpenClaim := { program := "ytcieadjjcpmieaagreat", sum := "4fda28eef2826a0c03b631374b1b3c01ee282c91dabfd7ea267aaba3f357db6c", func := "sealring/sealringlaw06.ExponentCheck", spec := "exponentCheck", inPlace := ["internal/bytealg.abigen_runtime_cmpstring"], unfollowed := true, recurses := true, apart := false }
def ExponentCheckSaid : Prop := exponentCheckRow.holds Tryz.pinned (OpenSpec.ofChange exponentCheckSpec)

/-- ITS FALSE NEIGHBOUR: 'it returns false'. Refute it at one input. -/
def exponentCheckWrong : ChangeSpec := { name := "exponentCheck", fn := fun _ => fun
  | [d1, d2] => { results := [.lit (.bool false)], args := [d1, d2] }
  | _ => none }
def ExponentCheckWrongFalsely : Prop := exponentCheckRow.holds Tryz.pinned (OpenSpec.ofChange exponentCheckWrong)

/-- 'sealringlaw06.ExponentCharacter': WHATEVER THE INPUT: true; the input reads as it did. -/
def exponentCharacterSpec : ChangeSpec := { name := "exponentCharacter", fn := fun _ => fun
  | [d1, d2] => { results := [.lit (.bool true)], args := [d1, d2] }
  | _ => none }
def exponentCharacterRow : OpenClaim := { program := "ytcieadjjcpmieaagreat", sum := "4fda28eef2826a0c03b631374b1b3c01ee282c91dabfd7ea267aaba3f357db6c", func := "sealring/sealringlaw06.ExponentCharacter", spec := "exponentCharacter", inPlace := ["internal/bytealg.abigen_runtime_cmpstring"], unfollowed := true, recurses := true, loops := true, apart := false }
def ExponentCharacterSaid : Prop := exponentCharacterRow.holds Tryz.pinned (OpenSpec.ofChange exponentCharacterSpec)

/-- ITS FALSE NEIGHBOUR: 'it returns false'. Refute it at one input. -/
def exponentCharacterWrong : ChangeSpec := { name := "exponentCharacter", fn := fun _ => fun
  | [d1, d2] => { results := [.lit (.bool false)], args := [d1, d2] }
  | _ => none }
def ExponentCharacterWrongFalsely : Prop := exponentCharacterRow.holds Tryz.pinned (OpenSpec.ofChange exponentCharacterWrong)

/- THE SECOND FORM. 'bulk': how many values and letters a reading holds, each counted each time it is reached (what is shared counts as often as it is met; a slice's spare places count too). A statement '..UptoSaid' is the law's where the arguments, and the package variables that the reading takes, are together of bulk at most 1048576: NARROWER than '..Said'. Prove '..Said' where nothing that the law and all that it calls make is longer than what came in: it says more and counts as full. Else prove '..UptoSaid'. A law counts once. -/
mutual
def uptoBulk {H : Type} : DataW H → Nat
  | .lit (.string bytes) => bytes.length + 1
  | .lit _ => 1
  | .nil => 1
  | .ptr d => uptoBulk d + 1
  | .slice elems spare => uptoBulkAll elems + uptoBulkAll spare + 1
  | .agg parts => uptoBulkAll parts + 1
  | .iface _ d => uptoBulk d + 1
  | .map entries => uptoBulkEntries entries + 1
  | .held _ => 1
def uptoBulkAll {H : Type} : List (DataW H) → Nat
  | [] => 0
  | d :: r => uptoBulk d + uptoBulkAll r
def uptoBulkEntries {H : Type} : List (Lit × DataW H) → Nat
  | [] => 0
  | x :: r => uptoBulkEntry x + uptoBulkEntries r
def uptoBulkEntry {H : Type} : Lit × DataW H → Nat
  | (.string bytes, d) => bytes.length + uptoBulk d + 1
  | (_, d) => uptoBulk d + 1
 end
def uptoSmall : (H : Type) → List (DataW H) → Bool := fun _ ds => decide (uptoBulkAll ds ≤ 1048576)
def OpenSpec.upto (s : _root_.Go.ChangeSpec) : _root_.Go.OpenSpec := { _root_.Go.OpenSpec.ofChange s with cond := some uptoSmall }

/-- 'sealringlaw06.ExponentOf', WHERE WHAT IT READS IS OF BULK AT MOST 1048576: true; the input reads as it did. -/
def exponentOfUptoRow : OpenClaim := { program := "ytcieadjjcpmieaagreat", sum := "4fda28eef2826a0c03b631374b1b3c01ee282c91dabfd7ea267aaba3f357db6c", func := "sealring/sealringlaw06.ExponentOf", spec := "exponentOf", inPlace := ["internal/bytealg.abigen_runtime_cmpstring"], unfollowed := true, recurses := true, loops := true, apart := false, narrowed := true }
def ExponentOfUptoSaid : Prop := exponentOfUptoRow.holds Tryz.pinned (OpenSpec.upto exponentOfSpec)

/-- 'sealringlaw06.ExponentTerm', WHERE WHAT IT READS IS OF BULK AT MOST 1048576: true; the input reads as it did. -/
def exponentTermUptoRow : OpenClaim := { program := "ytcieadjjcpmieaagreat", sum := "4fda28eef2826a0c03b631374b1b3c01ee282c91dabfd7ea267aaba3f357db6c", func := "sealring/sealringlaw06.ExponentTerm", spec := "exponentTerm", inPlace := ["internal/bytealg.abigen_runtime_cmpstring"], unfollowed := true, recurses := true, loops := true, apart := false, narrowed := true }
def ExponentTermUptoSaid : Prop := exponentTermUptoRow.holds Tryz.pinned (OpenSpec.upto exponentTermSpec)

/-- 'sealringlaw06.ExponentMul', WHERE WHAT IT READS IS OF BULK AT MOST 1048576: true; the input reads as it did. -/
def exponentMulUptoRow : OpenClaim := { program := "ytcieadjjcpmieaagreat", sum := "4fda28eef2826a0c03b631374b1b3c01ee282c91dabfd7ea267aaba3f357db6c", func := "sealring/sealringlaw06.ExponentMul", spec := "exponentMul", inPlace := ["internal/bytealg.abigen_runtime_cmpstring"], unfollowed := true, recurses := true, loops := true, apart := false, narrowed := true }
def ExponentMulUptoSaid : Prop := exponentMulUptoRow.holds Tryz.pinned (OpenSpec.upto exponentMulSpec)

/-- 'sealringlaw06.ExponentMember', WHERE WHAT IT READS IS OF BULK AT MOST 1048576: true; the input reads as it did. -/
def exponentMemberUptoRow : OpenClaim := { program := "ytcieadjjcpmieaagreat", sum := "4fda28eef2826a0c03b631374b1b3c01ee282c91dabfd7ea267aaba3f357db6c", func := "sealring/sealringlaw06.ExponentMember", spec := "exponentMember", inPlace := ["internal/bytealg.abigen_runtime_cmpstring"], unfollowed := true, recurses := true, apart := false, narrowed := true }
def ExponentMemberUptoSaid : Prop := exponentMemberUptoRow.holds Tryz.pinned (OpenSpec.upto exponentMemberSpec)

/-- 'sealringlaw06.ExponentErrors', WHERE WHAT IT READS IS OF BULK AT MOST 1048576: true; the input reads as it did. -/
def exponentErrorsUptoRow : OpenClaim := { program := "ytcieadjjcpmieaagreat", sum := "4fda28eef2826a0c03b631374b1b3c01ee282c91dabfd7ea267aaba3f357db6c", func := "sealring/sealringlaw06.ExponentErrors", spec := "exponentErrors", inPlace := ["internal/bytealg.abigen_runtime_cmpstring"], unfollowed := true, recurses := true, loops := true, apart := false, narrowed := true }
def ExponentErrorsUptoSaid : Prop := exponentErrorsUptoRow.holds Tryz.pinned (OpenSpec.upto exponentErrorsSpec)

/-- 'sealringlaw06.ExponentCheck', WHERE WHAT IT READS IS OF BULK AT MOST 1048576: true; the input reads as it did. -/
def exponentCheckUptoRow : OpenClaim := { program := "ytcieadjjcpmieaagreat", sum := "4fda28eef2826a0c03b631374b1b3c01ee282c91dabfd7ea267aaba3f357db6c", func := "sealring/sealringlaw06.ExponentCheck", spec := "exponentCheck", inPlace := ["internal/bytealg.abigen_runtime_cmpstring"], unfollowed := true, recurses := true, apart := false, narrowed := true }
def ExponentCheckUptoSaid : Prop := exponentCheckUptoRow.holds Tryz.pinned (OpenSpec.upto exponentCheckSpec)

/-- 'sealringlaw06.ExponentCharacter', WHERE WHAT IT READS IS OF BULK AT MOST 1048576: true; the input reads as it did. -/
def exponentCharacterUptoRow : OpenClaim := { program := "ytcieadjjcpmieaagreat", sum := "4fda28eef2826a0c03b631374b1b3c01ee282c91dabfd7ea267aaba3f357db6c", func := "sealring/sealringlaw06.ExponentCharacter", spec := "exponentCharacter", inPlace := ["internal/bytealg.abigen_runtime_cmpstring"], unfollowed := true, recurses := true, loops := true, apart := false, narrowed := true }
def ExponentCharacterUptoSaid : Prop := exponentCharacterUptoRow.holds Tryz.pinned (OpenSpec.upto exponentCharacterSpec)

end Rows
end Go.Proofs.YtcieadjjcpmieaaGreat
