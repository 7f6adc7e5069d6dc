/- The law TermParse: for every text of at most 2000 bytes, Parse returns the term whose text it is, or the specified error, as the reference does, and Format leads back; the law returns true for every text. No condition. -/
import Derived.Test.YtclgcfpjhlcnfaaDoorFrame
import Derived.Test.YtclgcfpjhlcnfaaDoorLawParseW
import Derived.Test.YtclgcfpjhlcnfaaDoorOpenb
import Derived.Test.YtclgcfpjhlcnfaaDoorAwake
import Derived.Test.YtclgcfpjhlcnfaaDoorCards
import Derived.Test.YtclgcfpjhlcnfaaDoorTie
namespace Go.Proofs.YtclgcfpjhlcnfaaDoor.lawParse
open Go.ChangeShapes Go.WideShapes Go.ChangeAt Go.RowKit

theorem params : Tryd.f3.params.toList = [9] := by kernel_rfl
theorem types_ok : ∀ t ∈ Tryd.f3.params.toList, t < Tryd.prog.types.size ∧ Tryd.prog.readableRec t = true := by
  rw [params]; intro t ht
  have h_string : 9 < Tryd.prog.types.size ∧ Tryd.prog.readableRec 9 = true := ⟨of_decide_eq_true (by kernel_rfl), by kernel_rfl⟩
  simp only [List.mem_cons, List.not_mem_nil, or_false] at ht
  subst ht; exact h_string

set_option maxRecDepth 100000 in
theorem contract (HA : AwakeOk) (H : Type) (enc : TypeId × Value → H) (W : World) (base : Nat) (args : Array Value) (ds gs : List (DataW H)) (before : List MemPlace)
    (hval : ∀ (j : Nat) t v, Tryd.f3.params[j]? = some t → args[j]? = some v → Value.okWide Tryd.prog W .any base t v)
    (hW : DataW.Whole enc Tryd.prog Tryd.f3.params.toList Rows.termParseSpec.vars false W args.toList ds gs before) (hL : laidMetH Tryd.prog Rows.termParseRow.laid W) :
    Calls Tryd.prog 3 args W fun e W' => ∃ v, e = .returned v ∧ Rows.termParseSpec.post enc Tryd.prog Tryd.f3 false true false false W args v W' := by
  have hL' := laid_of hL
  have hW' := hW
  obtain ⟨p, q, hA, hV, rfl, hfz, hnd⟩ := hW
  rw [params] at hA
  obtain ⟨v0, d0, rfl, rfl, h0⟩ := trodAll_one hA
  obtain ⟨t0, rfl, hI0⟩ := open_text (hval 0 9 v0 (by kernel_rfl) rfl) h0
  refine (termParse_any HA t0 W hL' hI0).mono fun e W' ⟨he, hB⟩ => ?_
  exact ⟨_, he, post_true rfl rfl (by kernel_rfl) types_ok hW' hB⟩

theorem laid_met (os : Os) : laidMet Tryd.prog Rows.termParseRow.laid ((laidWorld os).forCall (fun _ _ => 0) ⟨#[], #[vString], []⟩).memory :=
  laidMet_of_run' 8 (by kernel_rfl) (by kernel_rfl)
theorem reads (os : Os) {H : Type} (enc : TypeId × Value → H) : ∃ places, DataW.whole enc Tryd.prog ((laidWorld os).forCall (fun _ _ => 0) ⟨#[], #[vString], []⟩).memory Tryd.f3.params.toList Rows.termParseSpec.vars false (#[vString] : Array Value).toList 8 = some ([.lit (.string [])], [], places) :=
  ⟨[], by kernel_rfl⟩

set_option maxRecDepth 100000 in
theorem lifted (HA : AwakeOk) (os : Os) (started : os.Started) (H : Type) (enc : TypeId × Value → H) (F : Stop.Interp) :
    ReturnsInHanded {} Tryd.checked os 3 .any ((OpenSpec.ofChange Rows.termParseSpec).preRow enc Tryd.prog Tryd.f3 Rows.termParseRow.domain false Rows.termParseRow.laid) (((OpenSpec.ofChange Rows.termParseSpec).at F).post enc Tryd.prog Tryd.f3 false true false false) := by
  obtain ⟨places, hx⟩ := reads os enc
  refine returnsInHanded_of_row (C := Tryd.checked) (s := OpenSpec.ofChange Rows.termParseSpec) own started (by kernel_rfl) Tryd.func3
    (witness_row_at (enc := enc) (C := Tryd.checked) false (laidWorld os) #[vString] rfl (by kernel_rfl) (by kernel_rfl) (by kernel_rfl)
      (OpenSpec.preRow_of_cond 8 hx (by kernel_rfl) (fun k hk => by cases hk) (by kernel_rfl) (laid_met os))) ?_
  intro W base args ds gs before hval hW _ _ _ hL _ _
  exact contract HA H enc W base args ds gs before hval hW hL

theorem said (HA : AwakeOk) : Rows.TermParseSaid :=
  OpenClaim.holds_of_cond 3 Tryd.f3 rfl rfl rfl rfl rfl rfl rfl ⟨rfl, rfl, rfl, rfl, rfl⟩ rfl rfl rfl rfl rfl (by kernel_rfl) Tryd.func3 (by kernel_rfl)
    (of_decide_eq_true (by kernel_rfl)) (by unfold Func.isWrapper; first | (rw [if_pos (by decide +kernel)]; kernel_rfl) | (rw [if_neg (by decide +kernel)]; exact ⟨rfl, rfl⟩))
    (fun os started H enc _ F => by rw [OpenClaim.pre_eq_preRow]; exact lifted HA os started H enc F)

theorem plain (f : FuncId) (fn : Func) (hf : Tryd.pinned.checked.prog.funcNamed "sealring/sealringlaw01.TermParse" = some f) (hfn : Tryd.pinned.checked.prog.funcs[f]? = some fn) :
    false = Tryd.pinned.checked.prog.looks [] ∧ ∀ (j : Nat) t, fn.params[j]? = some t → Tryd.pinned.checked.prog.wantsStandIn t = false := by
  obtain rfl : f = 3 := Option.some.inj ((show Tryd.prog.funcNamed "sealring/sealringlaw01.TermParse" = some 3 by kernel_rfl).symm.trans hf) |>.symm
  obtain rfl : fn = Tryd.f3 := (Option.some.inj (Tryd.func3.symm.trans hfn)).symm
  refine ⟨by kernel_rfl, fun j t ht => ?_⟩
  have hm : t ∈ Tryd.f3.params.toList := by
    rw [← Array.getElem?_toList] at ht; exact List.mem_of_getElem? ht
  rw [params] at hm
  have hall : ([9].all fun u => !Tryd.prog.wantsStandIn u) = true := by kernel_rfl
  exact (show Tryd.prog.wantsStandIn t = false by simpa using List.all_eq_true.1 hall t hm)

theorem card : Rows.TermParseCardSaid :=
  Claim7.holds_tied_plain_at .later [] _ _ _ _ (said awake_any) (fun _ h => by cases h) (by kernel_rfl) (fun _ h => by cases h) termParse_row_tie rfl ⟨rfl, rfl⟩ (by kernel_rfl) rfl plain (by kernel_rfl)
end Go.Proofs.YtclgcfpjhlcnfaaDoor.lawParse
