/-
  NARROWER THAN 'FOR EVERY INPUT', by the rows' own cells (each row's printed sentence says how): SubstAgain: loops, laid · UnifyMatch: loops, laid · UnifyTerms: loops, laid · UnifyLists: loops, laid · UnifyInstances: loops, laid · UnifyMost: loops, laid · UnifyVariants: loops, laid · UnifyGeneral: loops, laid · UnifyDisjoint: loops, laid.
  DERIVED. THE GIVEN ROWS OF THIS SEAT. 9 by the template 'for every input the law returns true; each argument reads behind the call as it read before'; 0 by the template 'total and deterministic' (their statements: YtkfbbkkfagglhaaGreatDoorTotals.lean).
  GIVEN WITH THE SEED: the statements are not yours to turn. If you find one false, say at which input.
  Laid BY PROGRAM, IN A SANDBOX (cutbox-rows.mjs): the forced cells as the released guide's own fill.sh prints them over the translation adaae634254e7ff7… (all of the seat's roots in one cut). By AI agents, Wed Nov 11 2026. No macro, syntax, notation, axiom, sorry.
-/
import Derived.Test.YtkfbbkkfagglhaaGreatDoorChecked
import GoSem.Claim
import GoSem.ClaimJoined
import GoSem.ClaimMapViews
import Derived.JoinedTies
import Derived.KernelRfl
namespace Go.Proofs.YtkfbbkkfagglhaaGreatDoor
/- THE CELL 'sum', in the pinned program and in every row, IS THE sha256 OF THE DUMP (.gsa) THAT YtkfbbkkfagglhaaGreatDoorProg.lean LOADS. Nothing in Lean hashes anything: it is a label: what it is worth is what the hold of that sum in a sandbox is worth. -/
noncomputable def Tryz.pinned : Pinned := { name := "ytkfbbkkfagglhaagreatdoor", sum := "adaae634254e7ff79711679154e2f267e3fd5a5e384f26827c320311b9ad2c37", checked := Tryz.checked }
namespace Rows
def none {H : Type} : Left H := { results := [], args := [] }

/- WHAT THE LISTED PACKAGE-LEVEL VARIABLES READ AS WHEN THE CALL BEGINS. Each datum BY PROGRAM (the guide's laid-datum.mjs) off the statement by which the dump's own 'gosem.cut.vars' lays the variable. In a bare row this is a premise. The card (YtkfbbkkfagglhaaGreatDoorCards.lean) ties it to the program's text. -/
def laid_sealring_term_sortWords {H : Type} : DataW H := .agg [.lit (.string [97, 110, 121]), .lit (.string [97, 103, 101, 110, 116]), .lit (.string [110, 111, 110, 99, 101]), .lit (.string [107, 101, 121]), .lit (.string [100, 97, 116, 97]), .lit (.string [116, 97, 103])]
def laid_math_bits_deBruijn32tab {H : Type} : DataW H := .agg [.lit (.int .u8 0), .lit (.int .u8 1), .lit (.int .u8 28), .lit (.int .u8 2), .lit (.int .u8 29), .lit (.int .u8 14), .lit (.int .u8 24), .lit (.int .u8 3), .lit (.int .u8 30), .lit (.int .u8 22), .lit (.int .u8 20), .lit (.int .u8 15), .lit (.int .u8 25), .lit (.int .u8 17), .lit (.int .u8 4), .lit (.int .u8 8), .lit (.int .u8 31), .lit (.int .u8 27), .lit (.int .u8 13), .lit (.int .u8 23), .lit (.int .u8 21), .lit (.int .u8 19), .lit (.int .u8 16), .lit (.int .u8 7), .lit (.int .u8 26), .lit (.int .u8 12), .lit (.int .u8 18), .lit (.int .u8 6), .lit (.int .u8 11), .lit (.int .u8 5), .lit (.int .u8 10), .lit (.int .u8 9)]
def laid_math_bits_deBruijn64tab {H : Type} : DataW H := .agg [.lit (.int .u8 0), .lit (.int .u8 1), .lit (.int .u8 56), .lit (.int .u8 2), .lit (.int .u8 57), .lit (.int .u8 49), .lit (.int .u8 28), .lit (.int .u8 3), .lit (.int .u8 61), .lit (.int .u8 58), .lit (.int .u8 42), .lit (.int .u8 50), .lit (.int .u8 38), .lit (.int .u8 29), .lit (.int .u8 17), .lit (.int .u8 4), .lit (.int .u8 62), .lit (.int .u8 47), .lit (.int .u8 59), .lit (.int .u8 36), .lit (.int .u8 45), .lit (.int .u8 43), .lit (.int .u8 51), .lit (.int .u8 22), .lit (.int .u8 53), .lit (.int .u8 39), .lit (.int .u8 33), .lit (.int .u8 30), .lit (.int .u8 24), .lit (.int .u8 18), .lit (.int .u8 12), .lit (.int .u8 5), .lit (.int .u8 63), .lit (.int .u8 55), .lit (.int .u8 48), .lit (.int .u8 27), .lit (.int .u8 60), .lit (.int .u8 41), .lit (.int .u8 37), .lit (.int .u8 16), .lit (.int .u8 46), .lit (.int .u8 35), .lit (.int .u8 44), .lit (.int .u8 21), .lit (.int .u8 52), .lit (.int .u8 32), .lit (.int .u8 23), .lit (.int .u8 11), .lit (.int .u8 54), .lit (.int .u8 26), .lit (.int .u8 40), .lit (.int .u8 15), .lit (.int .u8 34), .lit (.int .u8 20), .lit (.int .u8 31), .lit (.int .u8 10), .lit (.int .u8 25), .lit (.int .u8 14), .lit (.int .u8 19), .lit (.int .u8 9), .lit (.int .u8 13), .lit (.int .u8 8), .lit (.int .u8 7), .lit (.int .u8 6)]
def laid_internal_strconv_uint64pow10 {H : Type} : DataW H := .agg [.lit (.int .u64 1), .lit (.int .u64 10), .lit (.int .u64 100), .lit (.int .u64 1000), .lit (.int .u64 10000), .lit (.int .u64 100000), .lit (.int .u64 1000000), .lit (.int .u64 10000000), .lit (.int .u64 100000000), .lit (.int .u64 1000000000), .lit (.int .u64 10000000000), .lit (.int .u64 100000000000), .lit (.int .u64 1000000000000), .lit (.int .u64 10000000000000), .lit (.int .u64 100000000000000), .lit (.int .u64 1000000000000000), .lit (.int .u64 10000000000000000), .lit (.int .u64 100000000000000000), .lit (.int .u64 1000000000000000000), .lit (.int .u64 10000000000000000000)]

/-- 'sealringlaw02.SubstAgain': WHATEVER THE INPUT: true; the input reads as it did. -/
def substAgainSpec : ChangeSpec := { name := "substAgain", fn := fun _ => fun
  | [d1, d2] => { results := [.lit (.bool true)], args := [d1, d2] }
  | _ => none }
def substAgainRow : OpenClaim := { program := "ytkfbbkkfagglhaagreatdoor", sum := "adaae634254e7ff79711679154e2f267e3fd5a5e384f26827c320311b9ad2c37", func := "sealring/sealringlaw02.SubstAgain", spec := "substAgain", inPlace := ["internal/bytealg.abigen_runtime_cmpstring", "internal/abi.NoEscape"], unfollowed := true, recurses := true, named := ["sealring/term.sortWords"], loops := true, plainKeys := false, apart := false, laid := [("sealring/term.sortWords", laid_sealring_term_sortWords)] }
def SubstAgainSaid : Prop := substAgainRow.holds Tryz.pinned (OpenSpec.ofChange substAgainSpec)

/-- ITS FALSE NEIGHBOUR: 'it returns false'. Refute it at one input. -/
def substAgainWrong : ChangeSpec := { name := "substAgain", fn := fun _ => fun
  | [d1, d2] => { results := [.lit (.bool false)], args := [d1, d2] }
  | _ => none }
def SubstAgainWrongFalsely : Prop := substAgainRow.holds Tryz.pinned (OpenSpec.ofChange substAgainWrong)

/-- 'sealringlaw03.UnifyMatch': WHATEVER THE INPUT: true; the input reads as it did. -/
def unifyMatchSpec : ChangeSpec := { name := "unifyMatch", fn := fun _ => fun
  | [d1, d2] => { results := [.lit (.bool true)], args := [d1, d2] }
  | _ => none }
def unifyMatchRow : OpenClaim := { program := "ytkfbbkkfagglhaagreatdoor", sum := "adaae634254e7ff79711679154e2f267e3fd5a5e384f26827c320311b9ad2c37", func := "sealring/sealringlaw03.UnifyMatch", spec := "unifyMatch", inPlace := ["internal/bytealg.abigen_runtime_cmpstring", "internal/abi.NoEscape"], unfollowed := true, recurses := true, named := ["sealring/term.sortWords", "internal/strconv.uint64pow10", "math/bits.deBruijn32tab", "math/bits.deBruijn64tab"], loops := true, plainKeys := false, apart := false, laid := [("math/bits.deBruijn32tab", laid_math_bits_deBruijn32tab), ("math/bits.deBruijn64tab", laid_math_bits_deBruijn64tab), ("internal/strconv.uint64pow10", laid_internal_strconv_uint64pow10), ("sealring/term.sortWords", laid_sealring_term_sortWords)] }
def UnifyMatchSaid : Prop := unifyMatchRow.holds Tryz.pinned (OpenSpec.ofChange unifyMatchSpec)

/-- ITS FALSE NEIGHBOUR: 'it returns false'. Refute it at one input. -/
def unifyMatchWrong : ChangeSpec := { name := "unifyMatch", fn := fun _ => fun
  | [d1, d2] => { results := [.lit (.bool false)], args := [d1, d2] }
  | _ => none }
def UnifyMatchWrongFalsely : Prop := unifyMatchRow.holds Tryz.pinned (OpenSpec.ofChange unifyMatchWrong)

/-- 'sealringlaw03.UnifyTerms': WHATEVER THE INPUT: true; the input reads as it did. -/
def unifyTermsSpec : ChangeSpec := { name := "unifyTerms", fn := fun _ => fun
  | [d1, d2] => { results := [.lit (.bool true)], args := [d1, d2] }
  | _ => none }
def unifyTermsRow : OpenClaim := { program := "ytkfbbkkfagglhaagreatdoor", sum := "adaae634254e7ff79711679154e2f267e3fd5a5e384f26827c320311b9ad2c37", func := "sealring/sealringlaw03.UnifyTerms", spec := "unifyTerms", inPlace := ["internal/bytealg.abigen_runtime_cmpstring", "internal/abi.NoEscape"], unfollowed := true, recurses := true, named := ["sealring/term.sortWords", "internal/strconv.uint64pow10", "math/bits.deBruijn32tab", "math/bits.deBruijn64tab"], loops := true, plainKeys := false, apart := false, laid := [("math/bits.deBruijn32tab", laid_math_bits_deBruijn32tab), ("math/bits.deBruijn64tab", laid_math_bits_deBruijn64tab), ("internal/strconv.uint64pow10", laid_internal_strconv_uint64pow10), ("sealring/term.sortWords", laid_sealring_term_sortWords)] }
def UnifyTermsSaid : Prop := unifyTermsRow.holds Tryz.pinned (OpenSpec.ofChange unifyTermsSpec)

/-- ITS FALSE NEIGHBOUR: 'it returns false'. Refute it at one input. -/
def unifyTermsWrong : ChangeSpec := { name := "unifyTerms", fn := fun _ => fun
  | [d1, d2] => { results := [.lit (.bool false)], args := [d1, d2] }
  | _ => none }
def UnifyTermsWrongFalsely : Prop := unifyTermsRow.holds Tryz.pinned (OpenSpec.ofChange unifyTermsWrong)

/-- 'sealringlaw03.UnifyLists': WHATEVER THE INPUT: true; the input reads as it did. -/
def unifyListsSpec : ChangeSpec := { name := "unifyLists", fn := fun _ => fun
  | [d1, d2] => { results := [.lit (.bool true)], args := [d1, d2] }
  | _ => none }
def unifyListsRow : OpenClaim := { program := "ytkfbbkkfagglhaagreatdoor", sum := "adaae634254e7ff79711679154e2f267e3fd5a5e384f26827c320311b9ad2c37", func := "sealring/sealringlaw03.UnifyLists", spec := "unifyLists", inPlace := ["internal/bytealg.abigen_runtime_cmpstring", "internal/abi.NoEscape"], unfollowed := true, recurses := true, named := ["sealring/term.sortWords", "internal/strconv.uint64pow10", "math/bits.deBruijn32tab", "math/bits.deBruijn64tab"], loops := true, plainKeys := false, apart := false, laid := [("math/bits.deBruijn32tab", laid_math_bits_deBruijn32tab), ("math/bits.deBruijn64tab", laid_math_bits_deBruijn64tab), ("internal/strconv.uint64pow10", laid_internal_strconv_uint64pow10), ("sealring/term.sortWords", laid_sealring_term_sortWords)] }
def UnifyListsSaid : Prop := unifyListsRow.holds Tryz.pinned (OpenSpec.ofChange unifyListsSpec)

/-- ITS FALSE NEIGHBOUR: 'it returns false'. Refute it at one input. -/
def unifyListsWrong : ChangeSpec := { name := "unifyLists", fn := fun _ => fun
  | [d1, d2] => { results := [.lit (.bool false)], args := [d1, d2] }
  | _ => none }
def UnifyListsWrongFalsely : Prop := unifyListsRow.holds Tryz.pinned (OpenSpec.ofChange unifyListsWrong)

/-- 'sealringlaw03.UnifyInstances': WHATEVER THE INPUT: true; the input reads as it did. -/
def unifyInstancesSpec : ChangeSpec := { name := "unifyInstances", fn := fun _ => fun
  | [d1, d2, d3] => { results := [.lit (.bool true)], args := [d1, d2, d3] }
  | _ => none }
def unifyInstancesRow : OpenClaim := { program := "ytkfbbkkfagglhaagreatdoor", sum := "adaae634254e7ff79711679154e2f267e3fd5a5e384f26827c320311b9ad2c37", func := "sealring/sealringlaw03.UnifyInstances", spec := "unifyInstances", inPlace := ["internal/bytealg.abigen_runtime_cmpstring", "internal/abi.NoEscape"], unfollowed := true, recurses := true, named := ["sealring/term.sortWords", "internal/strconv.uint64pow10", "math/bits.deBruijn32tab", "math/bits.deBruijn64tab"], loops := true, plainKeys := false, apart := false, laid := [("math/bits.deBruijn32tab", laid_math_bits_deBruijn32tab), ("math/bits.deBruijn64tab", laid_math_bits_deBruijn64tab), ("internal/strconv.uint64pow10", laid_internal_strconv_uint64pow10), ("sealring/term.sortWords", laid_sealring_term_sortWords)] }
def UnifyInstancesSaid : Prop := unifyInstancesRow.holds Tryz.pinned (OpenSpec.ofChange unifyInstancesSpec)

/-- ITS FALSE NEIGHBOUR: 'it returns false'. Refute it at one input. -/
def unifyInstancesWrong : ChangeSpec := { name := "unifyInstances", fn := fun _ => fun
  | [d1, d2, d3] => { results := [.lit (.bool false)], args := [d1, d2, d3] }
  | _ => none }
def UnifyInstancesWrongFalsely : Prop := unifyInstancesRow.holds Tryz.pinned (OpenSpec.ofChange unifyInstancesWrong)

/-- 'sealringlaw03.UnifyMost': WHATEVER THE INPUT: true; the input reads as it did. -/
def unifyMostSpec : ChangeSpec := { name := "unifyMost", fn := fun _ => fun
  | [d1, d2, d3] => { results := [.lit (.bool true)], args := [d1, d2, d3] }
  | _ => none }
def unifyMostRow : OpenClaim := { program := "ytkfbbkkfagglhaagreatdoor", sum := "adaae634254e7ff79711679154e2f267e3fd5a5e384f26827c320311b9ad2c37", func := "sealring/sealringlaw03.UnifyMost", spec := "unifyMost", inPlace := ["internal/bytealg.abigen_runtime_cmpstring", "internal/abi.NoEscape"], unfollowed := true, recurses := true, named := ["sealring/term.sortWords", "internal/strconv.uint64pow10", "math/bits.deBruijn32tab", "math/bits.deBruijn64tab"], loops := true, plainKeys := false, apart := false, laid := [("math/bits.deBruijn32tab", laid_math_bits_deBruijn32tab), ("math/bits.deBruijn64tab", laid_math_bits_deBruijn64tab), ("internal/strconv.uint64pow10", laid_internal_strconv_uint64pow10), ("sealring/term.sortWords", laid_sealring_term_sortWords)] }
def UnifyMostSaid : Prop := unifyMostRow.holds Tryz.pinned (OpenSpec.ofChange unifyMostSpec)

/-- ITS FALSE NEIGHBOUR: 'it returns false'. Refute it at one input. -/
def unifyMostWrong : ChangeSpec := { name := "unifyMost", fn := fun _ => fun
  | [d1, d2, d3] => { results := [.lit (.bool false)], args := [d1, d2, d3] }
  | _ => none }
def UnifyMostWrongFalsely : Prop := unifyMostRow.holds Tryz.pinned (OpenSpec.ofChange unifyMostWrong)

/-- 'sealringlaw03.UnifyVariants': WHATEVER THE INPUT: true; the input reads as it did. -/
def unifyVariantsSpec : ChangeSpec := { name := "unifyVariants", fn := fun _ => fun
  | [d1, d2] => { results := [.lit (.bool true)], args := [d1, d2] }
  | _ => none }
def unifyVariantsRow : OpenClaim := { program := "ytkfbbkkfagglhaagreatdoor", sum := "adaae634254e7ff79711679154e2f267e3fd5a5e384f26827c320311b9ad2c37", func := "sealring/sealringlaw03.UnifyVariants", spec := "unifyVariants", inPlace := ["internal/bytealg.abigen_runtime_cmpstring", "internal/abi.NoEscape"], unfollowed := true, recurses := true, named := ["sealring/term.sortWords", "internal/strconv.uint64pow10", "math/bits.deBruijn32tab", "math/bits.deBruijn64tab"], loops := true, plainKeys := false, apart := false, laid := [("math/bits.deBruijn32tab", laid_math_bits_deBruijn32tab), ("math/bits.deBruijn64tab", laid_math_bits_deBruijn64tab), ("internal/strconv.uint64pow10", laid_internal_strconv_uint64pow10), ("sealring/term.sortWords", laid_sealring_term_sortWords)] }
def UnifyVariantsSaid : Prop := unifyVariantsRow.holds Tryz.pinned (OpenSpec.ofChange unifyVariantsSpec)

/-- ITS FALSE NEIGHBOUR: 'it returns false'. Refute it at one input. -/
def unifyVariantsWrong : ChangeSpec := { name := "unifyVariants", fn := fun _ => fun
  | [d1, d2] => { results := [.lit (.bool false)], args := [d1, d2] }
  | _ => none }
def UnifyVariantsWrongFalsely : Prop := unifyVariantsRow.holds Tryz.pinned (OpenSpec.ofChange unifyVariantsWrong)

/-- 'sealringlaw03.UnifyGeneral': WHATEVER THE INPUT: true; the input reads as it did. -/
def unifyGeneralSpec : ChangeSpec := { name := "unifyGeneral", fn := fun _ => fun
  | [d1, d2, d3] => { results := [.lit (.bool true)], args := [d1, d2, d3] }
  | _ => none }
def unifyGeneralRow : OpenClaim := { program := "ytkfbbkkfagglhaagreatdoor", sum := "adaae634254e7ff79711679154e2f267e3fd5a5e384f26827c320311b9ad2c37", func := "sealring/sealringlaw03.UnifyGeneral", spec := "unifyGeneral", inPlace := ["internal/bytealg.abigen_runtime_cmpstring", "internal/abi.NoEscape"], unfollowed := true, recurses := true, named := ["sealring/term.sortWords", "internal/strconv.uint64pow10", "math/bits.deBruijn32tab", "math/bits.deBruijn64tab"], loops := true, plainKeys := false, apart := false, laid := [("math/bits.deBruijn32tab", laid_math_bits_deBruijn32tab), ("math/bits.deBruijn64tab", laid_math_bits_deBruijn64tab), ("internal/strconv.uint64pow10", laid_internal_strconv_uint64pow10), ("sealring/term.sortWords", laid_sealring_term_sortWords)] }
def UnifyGeneralSaid : Prop := unifyGeneralRow.holds Tryz.pinned (OpenSpec.ofChange unifyGeneralSpec)

/-- ITS FALSE NEIGHBOUR: 'it returns false'. Refute it at one input. -/
def unifyGeneralWrong : ChangeSpec := { name := "unifyGeneral", fn := fun _ => fun
  | [d1, d2, d3] => { results := [.lit (.bool false)], args := [d1, d2, d3] }
  | _ => none }
def UnifyGeneralWrongFalsely : Prop := unifyGeneralRow.holds Tryz.pinned (OpenSpec.ofChange unifyGeneralWrong)

/-- 'sealringlaw03.UnifyDisjoint': WHATEVER THE INPUT: true; the input reads as it did. -/
def unifyDisjointSpec : ChangeSpec := { name := "unifyDisjoint", fn := fun _ => fun
  | [d1, d2] => { results := [.lit (.bool true)], args := [d1, d2] }
  | _ => none }
def unifyDisjointRow : OpenClaim := { program := "ytkfbbkkfagglhaagreatdoor", sum := "adaae634254e7ff79711679154e2f267e3fd5a5e384f26827c320311b9ad2c37", func := "sealring/sealringlaw03.UnifyDisjoint", spec := "unifyDisjoint", inPlace := ["internal/bytealg.abigen_runtime_cmpstring", "internal/abi.NoEscape"], unfollowed := true, recurses := true, named := ["sealring/term.sortWords", "internal/strconv.uint64pow10", "math/bits.deBruijn32tab", "math/bits.deBruijn64tab"], loops := true, plainKeys := false, apart := false, laid := [("math/bits.deBruijn32tab", laid_math_bits_deBruijn32tab), ("math/bits.deBruijn64tab", laid_math_bits_deBruijn64tab), ("internal/strconv.uint64pow10", laid_internal_strconv_uint64pow10), ("sealring/term.sortWords", laid_sealring_term_sortWords)] }
def UnifyDisjointSaid : Prop := unifyDisjointRow.holds Tryz.pinned (OpenSpec.ofChange unifyDisjointSpec)

/-- ITS FALSE NEIGHBOUR: 'it returns false'. Refute it at one input. -/
def unifyDisjointWrong : ChangeSpec := { name := "unifyDisjoint", fn := fun _ => fun
  | [d1, d2] => { results := [.lit (.bool false)], args := [d1, d2] }
  | _ => none }
def UnifyDisjointWrongFalsely : Prop := unifyDisjointRow.holds Tryz.pinned (OpenSpec.ofChange unifyDisjointWrong)

/- THE SECOND FORM. 'bulk': how many values and letters a reading holds, each counted each time it is reached (what is shared counts as often as it is met; a slice's spare places count too). A statement '..UptoSaid' is the law's where the arguments, and the package variables that the reading takes, are together of bulk at most 1048576: NARROWER than '..Said'. Prove '..Said' where nothing that the law and all that it calls make is longer than what came in: it says more and counts as full. Else prove '..UptoSaid'. A law counts once. -/
mutual
def uptoBulk {H : Type} : DataW H → Nat
  | .lit (.string bytes) => bytes.length + 1
  | .lit _ => 1
  | .nil => 1
  | .ptr d => uptoBulk d + 1
  | .slice elems spare => uptoBulkAll elems + uptoBulkAll spare + 1
  | .agg parts => uptoBulkAll parts + 1
  | .iface _ d => uptoBulk d + 1
  | .map entries => uptoBulkEntries entries + 1
  | .held _ => 1
def uptoBulkAll {H : Type} : List (DataW H) → Nat
  | [] => 0
  | d :: r => uptoBulk d + uptoBulkAll r
def uptoBulkEntries {H : Type} : List (Lit × DataW H) → Nat
  | [] => 0
  | x :: r => uptoBulkEntry x + uptoBulkEntries r
def uptoBulkEntry {H : Type} : Lit × DataW H → Nat
  | (.string bytes, d) => bytes.length + uptoBulk d + 1
  | (_, d) => uptoBulk d + 1
 end
def uptoSmall : (H : Type) → List (DataW H) → Bool := fun _ ds => decide (uptoBulkAll ds ≤ 1048576)
def OpenSpec.upto (s : _root_.Go.ChangeSpec) : _root_.Go.OpenSpec := { _root_.Go.OpenSpec.ofChange s with cond := some uptoSmall }

/-- 'sealringlaw02.SubstAgain', WHERE WHAT IT READS IS OF BULK AT MOST 1048576: true; the input reads as it did. -/
def substAgainUptoRow : OpenClaim := { program := "ytkfbbkkfagglhaagreatdoor", sum := "adaae634254e7ff79711679154e2f267e3fd5a5e384f26827c320311b9ad2c37", func := "sealring/sealringlaw02.SubstAgain", spec := "substAgain", inPlace := ["internal/bytealg.abigen_runtime_cmpstring", "internal/abi.NoEscape"], unfollowed := true, recurses := true, named := ["sealring/term.sortWords"], loops := true, plainKeys := false, apart := false, laid := [("sealring/term.sortWords", laid_sealring_term_sortWords)], narrowed := true }
def SubstAgainUptoSaid : Prop := substAgainUptoRow.holds Tryz.pinned (OpenSpec.upto substAgainSpec)

/-- 'sealringlaw03.UnifyMatch', WHERE WHAT IT READS IS OF BULK AT MOST 1048576: true; the input reads as it did. -/
def unifyMatchUptoRow : OpenClaim := { program := "ytkfbbkkfagglhaagreatdoor", sum := "adaae634254e7ff79711679154e2f267e3fd5a5e384f26827c320311b9ad2c37", func := "sealring/sealringlaw03.UnifyMatch", spec := "unifyMatch", inPlace := ["internal/bytealg.abigen_runtime_cmpstring", "internal/abi.NoEscape"], unfollowed := true, recurses := true, named := ["sealring/term.sortWords", "internal/strconv.uint64pow10", "math/bits.deBruijn32tab", "math/bits.deBruijn64tab"], loops := true, plainKeys := false, apart := false, laid := [("math/bits.deBruijn32tab", laid_math_bits_deBruijn32tab), ("math/bits.deBruijn64tab", laid_math_bits_deBruijn64tab), ("internal/strconv.uint64pow10", laid_internal_strconv_uint64pow10), ("sealring/term.sortWords", laid_sealring_term_sortWords)], narrowed := true }
def UnifyMatchUptoSaid : Prop := unifyMatchUptoRow.holds Tryz.pinned (OpenSpec.upto unifyMatchSpec)

/-- 'sealringlaw03.UnifyTerms', WHERE WHAT IT READS IS OF BULK AT MOST 1048576: true; the input reads as it did. -/
def unifyTermsUptoRow : OpenClaim := { program := "ytkfbbkkfagglhaagreatdoor", sum := "adaae634254e7ff79711679154e2f267e3fd5a5e384f26827c320311b9ad2c37", func := "sealring/sealringlaw03.UnifyTerms", spec := "unifyTerms", inPlace := ["internal/bytealg.abigen_runtime_cmpstring", "internal/abi.NoEscape"], unfollowed := true, recurses := true, named := ["sealring/term.sortWords", "internal/strconv.uint64pow10", "math/bits.deBruijn32tab", "math/bits.deBruijn64tab"], loops := true, plainKeys := false, apart := false, laid := [("math/bits.deBruijn32tab", laid_math_bits_deBruijn32tab), ("math/bits.deBruijn64tab", laid_math_bits_deBruijn64tab), ("internal/strconv.uint64pow10", laid_internal_strconv_uint64pow10), ("sealring/term.sortWords", laid_sealring_term_sortWords)], narrowed := true }
def UnifyTermsUptoSaid : Prop := unifyTermsUptoRow.holds Tryz.pinned (OpenSpec.upto unifyTermsSpec)

/-- 'sealringlaw03.UnifyLists', WHERE WHAT IT READS IS OF BULK AT MOST 1048576: true; the input reads as it did. -/
def unifyListsUptoRow : OpenClaim := { program := "ytkfbbkkfagglhaagreatdoor", sum := "adaae634254e7ff79711679154e2f267e3fd5a5e384f26827c320311b9ad2c37", func := "sealring/sealringlaw03.UnifyLists", spec := "unifyLists", inPlace := ["internal/bytealg.abigen_runtime_cmpstring", "internal/abi.NoEscape"], unfollowed := true, recurses := true, named := ["sealring/term.sortWords", "internal/strconv.uint64pow10", "math/bits.deBruijn32tab", "math/bits.deBruijn64tab"], loops := true, plainKeys := false, apart := false, laid := [("math/bits.deBruijn32tab", laid_math_bits_deBruijn32tab), ("math/bits.deBruijn64tab", laid_math_bits_deBruijn64tab), ("internal/strconv.uint64pow10", laid_internal_strconv_uint64pow10), ("sealring/term.sortWords", laid_sealring_term_sortWords)], narrowed := true }
def UnifyListsUptoSaid : Prop := unifyListsUptoRow.holds Tryz.pinned (OpenSpec.upto unifyListsSpec)

/-- 'sealringlaw03.UnifyInstances', WHERE WHAT IT READS IS OF BULK AT MOST 1048576: true; the input reads as it did. -/
def unifyInstancesUptoRow : OpenClaim := { program := "ytkfbbkkfagglhaagreatdoor", sum := "adaae634254e7ff79711679154e2f267e3fd5a5e384f26827c320311b9ad2c37", func := "sealring/sealringlaw03.UnifyInstances", spec := "unifyInstances", inPlace := ["internal/bytealg.abigen_runtime_cmpstring", "internal/abi.NoEscape"], unfollowed := true, recurses := true, named := ["sealring/term.sortWords", "internal/strconv.uint64pow10", "math/bits.deBruijn32tab", "math/bits.deBruijn64tab"], loops := true, plainKeys := false, apart := false, laid := [("math/bits.deBruijn32tab", laid_math_bits_deBruijn32tab), ("math/bits.deBruijn64tab", laid_math_bits_deBruijn64tab), ("internal/strconv.uint64pow10", laid_internal_strconv_uint64pow10), ("sealring/term.sortWords", laid_sealring_term_sortWords)], narrowed := true }
def UnifyInstancesUptoSaid : Prop := unifyInstancesUptoRow.holds Tryz.pinned (OpenSpec.upto unifyInstancesSpec)

/-- 'sealringlaw03.UnifyMost', WHERE WHAT IT READS IS OF BULK AT MOST 1048576: true; the input reads as it did. -/
def unifyMostUptoRow : OpenClaim := { program := "ytkfbbkkfagglhaagreatdoor", sum := "adaae634254e7ff79711679154e2f267e3fd5a5e384f26827c320311b9ad2c37", func := "sealring/sealringlaw03.UnifyMost", spec := "unifyMost", inPlace := ["internal/bytealg.abigen_runtime_cmpstring", "internal/abi.NoEscape"], unfollowed := true, recurses := true, named := ["sealring/term.sortWords", "internal/strconv.uint64pow10", "math/bits.deBruijn32tab", "math/bits.deBruijn64tab"], loops := true, plainKeys := false, apart := false, laid := [("math/bits.deBruijn32tab", laid_math_bits_deBruijn32tab), ("math/bits.deBruijn64tab", laid_math_bits_deBruijn64tab), ("internal/strconv.uint64pow10", laid_internal_strconv_uint64pow10), ("sealring/term.sortWords", laid_sealring_term_sortWords)], narrowed := true }
def UnifyMostUptoSaid : Prop := unifyMostUptoRow.holds Tryz.pinned (OpenSpec.upto unifyMostSpec)

/-- 'sealringlaw03.UnifyVariants', WHERE WHAT IT READS IS OF BULK AT MOST 1048576: true; the input reads as it did. -/
def unifyVariantsUptoRow : OpenClaim := { program := "ytkfbbkkfagglhaagreatdoor", sum := "adaae634254e7ff79711679154e2f267e3fd5a5e384f26827c320311b9ad2c37", func := "sealring/sealringlaw03.UnifyVariants", spec := "unifyVariants", inPlace := ["internal/bytealg.abigen_runtime_cmpstring", "internal/abi.NoEscape"], unfollowed := true, recurses := true, named := ["sealring/term.sortWords", "internal/strconv.uint64pow10", "math/bits.deBruijn32tab", "math/bits.deBruijn64tab"], loops := true, plainKeys := false, apart := false, laid := [("math/bits.deBruijn32tab", laid_math_bits_deBruijn32tab), ("math/bits.deBruijn64tab", laid_math_bits_deBruijn64tab), ("internal/strconv.uint64pow10", laid_internal_strconv_uint64pow10), ("sealring/term.sortWords", laid_sealring_term_sortWords)], narrowed := true }
def UnifyVariantsUptoSaid : Prop := unifyVariantsUptoRow.holds Tryz.pinned (OpenSpec.upto unifyVariantsSpec)

/-- 'sealringlaw03.UnifyGeneral', WHERE WHAT IT READS IS OF BULK AT MOST 1048576: true; the input reads as it did. -/
def unifyGeneralUptoRow : OpenClaim := { program := "ytkfbbkkfagglhaagreatdoor", sum := "adaae634254e7ff79711679154e2f267e3fd5a5e384f26827c320311b9ad2c37", func := "sealring/sealringlaw03.UnifyGeneral", spec := "unifyGeneral", inPlace := ["internal/bytealg.abigen_runtime_cmpstring", "internal/abi.NoEscape"], unfollowed := true, recurses := true, named := ["sealring/term.sortWords", "internal/strconv.uint64pow10", "math/bits.deBruijn32tab", "math/bits.deBruijn64tab"], loops := true, plainKeys := false, apart := false, laid := [("math/bits.deBruijn32tab", laid_math_bits_deBruijn32tab), ("math/bits.deBruijn64tab", laid_math_bits_deBruijn64tab), ("internal/strconv.uint64pow10", laid_internal_strconv_uint64pow10), ("sealring/term.sortWords", laid_sealring_term_sortWords)], narrowed := true }
def UnifyGeneralUptoSaid : Prop := unifyGeneralUptoRow.holds Tryz.pinned (OpenSpec.upto unifyGeneralSpec)

/-- 'sealringlaw03.UnifyDisjoint', WHERE WHAT IT READS IS OF BULK AT MOST 1048576: true; the input reads as it did. -/
def unifyDisjointUptoRow : OpenClaim := { program := "ytkfbbkkfagglhaagreatdoor", sum := "adaae634254e7ff79711679154e2f267e3fd5a5e384f26827c320311b9ad2c37", func := "sealring/sealringlaw03.UnifyDisjoint", spec := "unifyDisjoint", inPlace := ["internal/bytealg.abigen_runtime_cmpstring", "internal/abi.NoEscape"], unfollowed := true, recurses := true, named := ["sealring/term.sortWords", "internal/strconv.uint64pow10", "math/bits.deBruijn32tab", "math/bits.deBruijn64tab"], loops := true, plainKeys := false, apart := false, laid := [("math/bits.deBruijn32tab", laid_math_bits_deBruijn32tab), ("math/bits.deBruijn64tab", laid_math_bits_deBruijn64tab), ("internal/strconv.uint64pow10", laid_internal_strconv_uint64pow10), ("sealring/term.sortWords", laid_sealring_term_sortWords)], narrowed := true }
def UnifyDisjointUptoSaid : Prop := unifyDisjointUptoRow.holds Tryz.pinned (OpenSpec.upto unifyDisjointSpec)

end Rows
end Go.Proofs.YtkfbbkkfagglhaaGreatDoor
