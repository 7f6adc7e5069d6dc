/- The law SubstParse: for every text, Parse returns the substitution with this text, or the specified error, as the reference does, and Format gives the text back; the law returns true, and the text reads as it did. No condition. -/
import Derived.Test.YtkdnfioihhfmpaaGreatDoorFrame
import Derived.Test.YtkdnfioihhfmpaaGreatDoorPieces
import Derived.Test.YtkdnfioihhfmpaaGreatDoorSep
import Derived.Test.YtkdnfioihhfmpaaGreatDoorExs
import Derived.Test.YtkdnfioihhfmpaaGreatDoorCards
import Derived.Test.YtkdnfioihhfmpaaGreatDoorTie
namespace Go.Proofs.YtkdnfioihhfmpaaGreatDoor.lawSp
open Go.ChangeShapes Go.WideShapes Go.ChangeAt Go.RowKit

theorem params : Tryz.f5.params.toList = [9] := by kernel_rfl
theorem types_ok : ∀ t ∈ Tryz.f5.params.toList, t < Tryz.prog.types.size ∧ Tryz.prog.readableRec t = true := by
  rw [params]; intro t ht
  have h_string : 9 < Tryz.prog.types.size ∧ Tryz.prog.readableRec 9 = true := ⟨of_decide_eq_true (by kernel_rfl), by kernel_rfl⟩
  simp only [List.mem_cons, List.not_mem_nil, or_false] at ht
  subst ht; exact h_string

set_option maxRecDepth 100000 in
theorem contract (HA : Awake2Ok) (H : Type) (enc : TypeId × Value → H) (W : World) (base : Nat) (args : Array Value) (ds gs : List (DataW H)) (before : List MemPlace) (vs : List TypeId)
    (hval : ∀ (j : Nat) t v, Tryz.f5.params[j]? = some t → args[j]? = some v → Value.okWide Tryz.prog W .any base t v)
    (hW : DataW.Whole enc Tryz.prog Tryz.f5.params.toList Rows.substParseSpec.vars false W args.toList ds gs before) (hS : (DataW.weightsEach Tryz.prog (Tryz.f5.params.toList ++ vs) (ds ++ gs)).all (· ≤ reachBytes) = true) (hL : laidMetH Tryz.prog Rows.substParseRow.laid W) (hM : MaxL W) :
    Calls Tryz.prog 5 args W fun e W' => ∃ v, e = .returned v ∧ Rows.substParseSpec.post enc Tryz.prog Tryz.f5 false true false false W args v W' := by
  have hL' := laid_of hL
  have hW' := hW
  obtain ⟨p, q, hA, hV, rfl, hfz, hnd⟩ := hW
  rw [params] at hA
  obtain ⟨v0, d0, rfl, rfl, h0⟩ := trodAll_one hA
  obtain ⟨t0, rfl, hI0⟩ := open_text (hval 0 9 v0 (by kernel_rfl) rfl) h0
  refine (lawSp_any HA t0 W hL' hM hI0).mono fun e W' ⟨he, hB⟩ => ?_
  exact ⟨_, he, post_true rfl rfl (by kernel_rfl) types_ok hW' hB⟩

theorem laid_met (os : Os) : laidMet Tryz.prog Rows.substParseRow.laid ((laidWorld os).forCall (fun _ _ => 0) ⟨#[], #[vString], []⟩).memory :=
  laidMet_of_run' 8 (by kernel_rfl) (by kernel_rfl)
theorem reads (os : Os) {H : Type} (enc : TypeId × Value → H) : ∃ places, DataW.whole enc Tryz.prog ((laidWorld os).forCall (fun _ _ => 0) ⟨#[], #[vString], []⟩).memory Tryz.f5.params.toList Rows.substParseSpec.vars false (#[vString] : Array Value).toList 8 = some ([.lit (.string [])], [], places) :=
  ⟨[], by kernel_rfl⟩

set_option maxRecDepth 100000 in
theorem lifted (HA : Awake2Ok) (os : Os) (started : os.Started) (H : Type) (enc : TypeId × Value → H) (F : Stop.Interp) :
    ReturnsInHanded {} Tryz.checked os 5 .any ((OpenSpec.ofChange Rows.substParseSpec).preRow enc Tryz.prog Tryz.f5 Rows.substParseRow.domain false Rows.substParseRow.laid) (((OpenSpec.ofChange Rows.substParseSpec).at F).post enc Tryz.prog Tryz.f5 false true false false) := by
  obtain ⟨places, hx⟩ := reads os enc
  refine returnsInHanded_of_row (C := Tryz.checked) (s := OpenSpec.ofChange Rows.substParseSpec) own started (by kernel_rfl) Tryz.func5
    (witness_row_at (enc := enc) (C := Tryz.checked) false (laidWorld os) #[vString] rfl (by kernel_rfl) (by kernel_rfl) (by kernel_rfl)
      (OpenSpec.preRow_of_cond 8 hx (by kernel_rfl) (fun k hk => by cases hk) (by kernel_rfl) (laid_met os))) ?_
  intro W base args ds gs before hval hW _ _ hS hL hsh _
  exact contract HA H enc W base args ds gs before _ hval hW hS hL (maxL_shaped hsh)

theorem said (HA : Awake2Ok) : Rows.SubstParseSaid :=
  OpenClaim.holds_of_cond 5 Tryz.f5 rfl rfl rfl rfl rfl rfl rfl ⟨rfl, rfl, rfl, rfl, rfl⟩ rfl rfl rfl rfl rfl (by kernel_rfl) Tryz.func5 (by kernel_rfl)
    (of_decide_eq_true (by kernel_rfl)) (by unfold Func.isWrapper; first | (rw [if_pos (by decide +kernel)]; kernel_rfl) | (rw [if_neg (by decide +kernel)]; exact ⟨rfl, rfl⟩))
    (fun os started H enc _ F => by rw [OpenClaim.pre_eq_preRow]; exact lifted HA os started H enc F)

theorem plain (f : FuncId) (fn : Func) (hf : Tryz.pinned.checked.prog.funcNamed "sealring/sealringlaw02.SubstParse" = some f) (hfn : Tryz.pinned.checked.prog.funcs[f]? = some fn) :
    false = Tryz.pinned.checked.prog.looks [] ∧ ∀ (j : Nat) t, fn.params[j]? = some t → Tryz.pinned.checked.prog.wantsStandIn t = false := by
  obtain rfl : f = 5 := Option.some.inj ((show Tryz.prog.funcNamed "sealring/sealringlaw02.SubstParse" = some 5 by kernel_rfl).symm.trans hf) |>.symm
  obtain rfl : fn = Tryz.f5 := (Option.some.inj (Tryz.func5.symm.trans hfn)).symm
  refine ⟨by kernel_rfl, fun j t ht => ?_⟩
  have hm : t ∈ Tryz.f5.params.toList := by
    rw [← Array.getElem?_toList] at ht; exact List.mem_of_getElem? ht
  rw [params] at hm
  have hall : ([9].all fun u => !Tryz.prog.wantsStandIn u) = true := by kernel_rfl
  exact (show Tryz.prog.wantsStandIn t = false by simpa using List.all_eq_true.1 hall t hm)

theorem card : Rows.SubstParseCardSaid :=
  Claim7.holds_tied_plain_at .later [] _ _ _ _ (said awake2_any) (fun _ h => by cases h) (by kernel_rfl) (fun _ h => by cases h) substParse_row_tie rfl ⟨rfl, rfl⟩ (by kernel_rfl) rfl plain (by kernel_rfl)
end Go.Proofs.YtkdnfioihhfmpaaGreatDoor.lawSp
