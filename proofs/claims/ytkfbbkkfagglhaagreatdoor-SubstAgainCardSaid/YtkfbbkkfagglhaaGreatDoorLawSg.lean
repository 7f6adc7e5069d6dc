/- The law SubstAgain: for every list of bindings and every list of terms, Idempotent reports whether no variable occurs in one of the terms of the bindings, and Restrict returns the bindings whose variables occur in the terms, as the reference does; an idempotent substitution has no further effect when it is applied again, and the other bindings do not matter; the law returns true, and both lists read as they did. No condition. -/
import Derived.Test.YtkfbbkkfagglhaaGreatDoorOpen
import Derived.Test.YtkfbbkkfagglhaaGreatDoorAgain
import Derived.Test.YtkfbbkkfagglhaaGreatDoorSep
import Derived.Test.YtkfbbkkfagglhaaGreatDoorExs
import Derived.Test.YtkfbbkkfagglhaaGreatDoorCards
import Derived.Test.YtkfbbkkfagglhaaGreatDoorTie
namespace Go.Proofs.YtkfbbkkfagglhaaGreatDoor.lawSg
open Go.ChangeShapes Go.WideShapes Go.ChangeAt Go.RowKit

theorem params : Tryz.f3.params.toList = [22, 23] := by kernel_rfl
theorem types_ok : ∀ t ∈ Tryz.f3.params.toList, t < Tryz.prog.types.size ∧ Tryz.prog.readableRec t = true := by
  rw [params]; intro t ht
  have h_binds : 22 < Tryz.prog.types.size ∧ Tryz.prog.readableRec 22 = true := ⟨of_decide_eq_true (by kernel_rfl), by kernel_rfl⟩
  have h_terms : 23 < Tryz.prog.types.size ∧ Tryz.prog.readableRec 23 = true := ⟨of_decide_eq_true (by kernel_rfl), by kernel_rfl⟩
  simp only [List.mem_cons, List.not_mem_nil, or_false] at ht
  rcases ht with rfl | rfl
  · exact h_binds
  · exact h_terms

set_option maxRecDepth 100000 in
theorem contract (HA : Awake2Ok) (H : Type) (enc : TypeId × Value → H) (W : World) (base : Nat) (args : Array Value) (ds gs : List (DataW H)) (before : List MemPlace) (vs : List TypeId)
    (hval : ∀ (j : Nat) t v, Tryz.f3.params[j]? = some t → args[j]? = some v → Value.okWide Tryz.prog W .any base t v)
    (hW : DataW.Whole enc Tryz.prog Tryz.f3.params.toList Rows.substAgainSpec.vars false W args.toList ds gs before) (hS : (DataW.weightsEach Tryz.prog (Tryz.f3.params.toList ++ vs) (ds ++ gs)).all (· ≤ reachBytes) = true) (hL : laidMetH Tryz.prog Rows.substAgainRow.laid W) :
    Calls Tryz.prog 3 args W fun e W' => ∃ v, e = .returned v ∧ Rows.substAgainSpec.post enc Tryz.prog Tryz.f3 false true false false W args v W' := by
  have hL' := laid_of hL
  have hW' := hW
  obtain ⟨p, q, hA, hV, rfl, hfz, hnd⟩ := hW
  rw [params] at hA
  obtain ⟨v0, v1, d0, d1, p0, p1, rfl, rfl, rfl, h0, h1⟩ := trodAll_two hA
  obtain ⟨t0, xa0, cap0, rfl, hc0, hI0, hd0⟩ := open_binds (hval 0 22 v0 (by kernel_rfl) rfl) h0
  have hb0 := binds_bytes hS (j := 0) (by rw [params]; rfl) rfl hd0
  obtain ⟨t1, xa1, cap1, rfl, hc1, hn1, hI1⟩ := open_terms (hval 1 23 v1 (by kernel_rfl) rfl) h1
  refine (lawSg_any HA t0 t1 xa0 xa1 cap0 cap1 W hL' hc0 hb0 hI0 hc1 hn1 hI1).mono fun e W' ⟨he, hB⟩ => ?_
  exact ⟨_, he, post_true rfl rfl (by kernel_rfl) types_ok hW' hB⟩

theorem laid_met (os : Os) : laidMet Tryz.prog Rows.substAgainRow.laid ((laidWorld os).forCall (fun _ _ => 0) ⟨#[], #[vInts, vInts], []⟩).memory :=
  laidMet_of_run' 8 (by kernel_rfl) (by kernel_rfl)
theorem reads (os : Os) {H : Type} (enc : TypeId × Value → H) : ∃ places, DataW.whole enc Tryz.prog ((laidWorld os).forCall (fun _ _ => 0) ⟨#[], #[vInts, vInts], []⟩).memory Tryz.f3.params.toList Rows.substAgainSpec.vars false (#[vInts, vInts] : Array Value).toList 8 = some ([.nil, .nil], [], places) :=
  ⟨[], by kernel_rfl⟩

set_option maxRecDepth 100000 in
theorem lifted (HA : Awake2Ok) (os : Os) (started : os.Started) (H : Type) (enc : TypeId × Value → H) (F : Stop.Interp) :
    ReturnsInHanded {} Tryz.checked os 3 .any ((OpenSpec.ofChange Rows.substAgainSpec).preRow enc Tryz.prog Tryz.f3 Rows.substAgainRow.domain false Rows.substAgainRow.laid) (((OpenSpec.ofChange Rows.substAgainSpec).at F).post enc Tryz.prog Tryz.f3 false true false false) := by
  obtain ⟨places, hx⟩ := reads os enc
  refine returnsInHanded_of_row (C := Tryz.checked) (s := OpenSpec.ofChange Rows.substAgainSpec) own started (by kernel_rfl) Tryz.func3
    (witness_row_at (enc := enc) (C := Tryz.checked) false (laidWorld os) #[vInts, vInts] rfl (by kernel_rfl) (by kernel_rfl) (by kernel_rfl)
      (OpenSpec.preRow_of_cond 8 hx (by kernel_rfl) (fun k hk => by cases hk) (by kernel_rfl) (laid_met os))) ?_
  intro W base args ds gs before hval hW _ _ hS hL _ _
  exact contract HA H enc W base args ds gs before _ hval hW hS hL

theorem said (HA : Awake2Ok) : Rows.SubstAgainSaid :=
  OpenClaim.holds_of_cond 3 Tryz.f3 rfl rfl rfl rfl rfl rfl rfl ⟨rfl, rfl, rfl, rfl, rfl⟩ rfl rfl rfl rfl rfl (by kernel_rfl) Tryz.func3 (by kernel_rfl)
    (of_decide_eq_true (by kernel_rfl)) (by unfold Func.isWrapper; first | (rw [if_pos (by decide +kernel)]; kernel_rfl) | (rw [if_neg (by decide +kernel)]; exact ⟨rfl, rfl⟩))
    (fun os started H enc _ F => by rw [OpenClaim.pre_eq_preRow]; exact lifted HA os started H enc F)

theorem plain (f : FuncId) (fn : Func) (hf : Tryz.pinned.checked.prog.funcNamed "sealring/sealringlaw02.SubstAgain" = some f) (hfn : Tryz.pinned.checked.prog.funcs[f]? = some fn) :
    false = Tryz.pinned.checked.prog.looks [] ∧ ∀ (j : Nat) t, fn.params[j]? = some t → Tryz.pinned.checked.prog.wantsStandIn t = false := by
  obtain rfl : f = 3 := Option.some.inj ((show Tryz.prog.funcNamed "sealring/sealringlaw02.SubstAgain" = some 3 by kernel_rfl).symm.trans hf) |>.symm
  obtain rfl : fn = Tryz.f3 := (Option.some.inj (Tryz.func3.symm.trans hfn)).symm
  refine ⟨by kernel_rfl, fun j t ht => ?_⟩
  have hm : t ∈ Tryz.f3.params.toList := by
    rw [← Array.getElem?_toList] at ht; exact List.mem_of_getElem? ht
  rw [params] at hm
  have hall : ([22, 23].all fun u => !Tryz.prog.wantsStandIn u) = true := by kernel_rfl
  exact (show Tryz.prog.wantsStandIn t = false by simpa using List.all_eq_true.1 hall t hm)

theorem card : Rows.SubstAgainCardSaid :=
  Claim7.holds_tied_plain_at .later [] _ _ _ _ (said awake2_any) (fun _ h => by cases h) (by kernel_rfl) (fun _ h => by cases h) substAgain_row_tie rfl ⟨rfl, rfl⟩ (by kernel_rfl) rfl plain (by kernel_rfl)
end Go.Proofs.YtkfbbkkfagglhaaGreatDoor.lawSg
