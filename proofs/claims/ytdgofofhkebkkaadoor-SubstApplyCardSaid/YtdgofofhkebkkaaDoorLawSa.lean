/- The law SubstApply: for every list of bindings and every list of terms, Apply and All return the terms in which the variables are replaced, or the specified error, as the reference does, and do not change the bindings; the law returns true, and both lists read as they did. No condition. -/
import Derived.Test.YtdgofofhkebkkaaDoorFrame
import Derived.Test.YtdgofofhkebkkaaDoorSall
import Derived.Test.YtdgofofhkebkkaaDoorOpenb
import Derived.Test.YtdgofofhkebkkaaDoorExs
import Derived.Test.YtdgofofhkebkkaaDoorCards
import Derived.Test.YtdgofofhkebkkaaDoorTie
namespace Go.Proofs.YtdgofofhkebkkaaDoor.lawSa
open Go.ChangeShapes Go.WideShapes Go.ChangeAt Go.RowKit

theorem params : Tryd.f6.params.toList = [33, 23] := by kernel_rfl
theorem types_ok : ∀ t ∈ Tryd.f6.params.toList, t < Tryd.prog.types.size ∧ Tryd.prog.readableRec t = true := by
  rw [params]; intro t ht
  have h_binds : 33 < Tryd.prog.types.size ∧ Tryd.prog.readableRec 33 = true := ⟨of_decide_eq_true (by kernel_rfl), by kernel_rfl⟩
  have h_terms : 23 < Tryd.prog.types.size ∧ Tryd.prog.readableRec 23 = true := ⟨of_decide_eq_true (by kernel_rfl), by kernel_rfl⟩
  simp only [List.mem_cons, List.not_mem_nil, or_false] at ht
  rcases ht with rfl | rfl
  · exact h_binds
  · exact h_terms

set_option maxRecDepth 100000 in
theorem contract (HA : Awake2Ok) (H : Type) (enc : TypeId × Value → H) (W : World) (base : Nat) (args : Array Value) (ds gs : List (DataW H)) (before : List MemPlace) (vs : List TypeId)
    (hval : ∀ (j : Nat) t v, Tryd.f6.params[j]? = some t → args[j]? = some v → Value.okWide Tryd.prog W .any base t v)
    (hW : DataW.Whole enc Tryd.prog Tryd.f6.params.toList Rows.substApplySpec.vars false W args.toList ds gs before) (hS : (DataW.weightsEach Tryd.prog (Tryd.f6.params.toList ++ vs) (ds ++ gs)).all (· ≤ reachBytes) = true) (hL : laidMetH Tryd.prog Rows.substApplyRow.laid W) :
    Calls Tryd.prog 6 args W fun e W' => ∃ v, e = .returned v ∧ Rows.substApplySpec.post enc Tryd.prog Tryd.f6 false true false false W args v W' := by
  have hL' := laid_of hL
  have hW' := hW
  obtain ⟨p, q, hA, hV, rfl, hfz, hnd⟩ := hW
  rw [params] at hA
  obtain ⟨v0, v1, d0, d1, p0, p1, rfl, rfl, rfl, h0, h1⟩ := trodAll_two hA
  obtain ⟨t0, xa0, cap0, rfl, hc0, hI0, hd0⟩ := open_binds (hval 0 33 v0 (by kernel_rfl) rfl) h0
  have hb0 := binds_bytes hS (j := 0) (by rw [params]; rfl) rfl hd0
  obtain ⟨t1, xa1, cap1, rfl, hc1, hn1, hI1⟩ := open_terms (hval 1 23 v1 (by kernel_rfl) rfl) h1
  refine (lawSa_any HA t0 t1 xa0 xa1 cap0 cap1 W hL' hc0 hb0 hI0 hc1 hn1 hI1).mono fun e W' ⟨he, hB⟩ => ?_
  exact ⟨_, he, post_true rfl rfl (by kernel_rfl) types_ok hW' hB⟩

theorem laid_met (os : Os) : laidMet Tryd.prog Rows.substApplyRow.laid ((laidWorld os).forCall (fun _ _ => 0) ⟨#[], #[vInts, vInts], []⟩).memory :=
  laidMet_of_run' 8 (by kernel_rfl) (by kernel_rfl)
theorem reads (os : Os) {H : Type} (enc : TypeId × Value → H) : ∃ places, DataW.whole enc Tryd.prog ((laidWorld os).forCall (fun _ _ => 0) ⟨#[], #[vInts, vInts], []⟩).memory Tryd.f6.params.toList Rows.substApplySpec.vars false (#[vInts, vInts] : Array Value).toList 8 = some ([.nil, .nil], [], places) :=
  ⟨[], by kernel_rfl⟩

set_option maxRecDepth 100000 in
theorem lifted (HA : Awake2Ok) (os : Os) (started : os.Started) (H : Type) (enc : TypeId × Value → H) (F : Stop.Interp) :
    ReturnsInHanded {} Tryd.checked os 6 .any ((OpenSpec.ofChange Rows.substApplySpec).preRow enc Tryd.prog Tryd.f6 Rows.substApplyRow.domain false Rows.substApplyRow.laid) (((OpenSpec.ofChange Rows.substApplySpec).at F).post enc Tryd.prog Tryd.f6 false true false false) := by
  obtain ⟨places, hx⟩ := reads os enc
  refine returnsInHanded_of_row (C := Tryd.checked) (s := OpenSpec.ofChange Rows.substApplySpec) own started (by kernel_rfl) Tryd.func6
    (witness_row_at (enc := enc) (C := Tryd.checked) false (laidWorld os) #[vInts, vInts] rfl (by kernel_rfl) (by kernel_rfl) (by kernel_rfl)
      (OpenSpec.preRow_of_cond 8 hx (by kernel_rfl) (fun k hk => by cases hk) (by kernel_rfl) (laid_met os))) ?_
  intro W base args ds gs before hval hW _ _ hS hL _ _
  exact contract HA H enc W base args ds gs before _ hval hW hS hL

theorem said (HA : Awake2Ok) : Rows.SubstApplySaid :=
  OpenClaim.holds_of_cond 6 Tryd.f6 rfl rfl rfl rfl rfl rfl rfl ⟨rfl, rfl, rfl, rfl, rfl⟩ rfl rfl rfl rfl rfl (by kernel_rfl) Tryd.func6 (by kernel_rfl)
    (of_decide_eq_true (by kernel_rfl)) (by unfold Func.isWrapper; first | (rw [if_pos (by decide +kernel)]; kernel_rfl) | (rw [if_neg (by decide +kernel)]; exact ⟨rfl, rfl⟩))
    (fun os started H enc _ F => by rw [OpenClaim.pre_eq_preRow]; exact lifted HA os started H enc F)

theorem plain (f : FuncId) (fn : Func) (hf : Tryd.pinned.checked.prog.funcNamed "sealring/sealringlaw02.SubstApply" = some f) (hfn : Tryd.pinned.checked.prog.funcs[f]? = some fn) :
    false = Tryd.pinned.checked.prog.looks [] ∧ ∀ (j : Nat) t, fn.params[j]? = some t → Tryd.pinned.checked.prog.wantsStandIn t = false := by
  obtain rfl : f = 6 := Option.some.inj ((show Tryd.prog.funcNamed "sealring/sealringlaw02.SubstApply" = some 6 by kernel_rfl).symm.trans hf) |>.symm
  obtain rfl : fn = Tryd.f6 := (Option.some.inj (Tryd.func6.symm.trans hfn)).symm
  refine ⟨by kernel_rfl, fun j t ht => ?_⟩
  have hm : t ∈ Tryd.f6.params.toList := by
    rw [← Array.getElem?_toList] at ht; exact List.mem_of_getElem? ht
  rw [params] at hm
  have hall : ([33, 23].all fun u => !Tryd.prog.wantsStandIn u) = true := by kernel_rfl
  exact (show Tryd.prog.wantsStandIn t = false by simpa using List.all_eq_true.1 hall t hm)

theorem card : Rows.SubstApplyCardSaid :=
  Claim7.holds_tied_plain_at .later [] _ _ _ _ (said awake2_any) (fun _ h => by cases h) (by kernel_rfl) (fun _ h => by cases h) substApply_row_tie rfl ⟨rfl, rfl⟩ (by kernel_rfl) rfl plain (by kernel_rfl)
end Go.Proofs.YtdgofofhkebkkaaDoor.lawSa
