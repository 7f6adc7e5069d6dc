/- The law SubstValid: for every list of bindings, Valid returns the specified error, as the reference does; the law returns true, and the list reads as it did. No condition. -/
import Derived.Test.YtdgofofhkebkkaaDoorFrame
import Derived.Test.YtdgofofhkebkkaaDoorLawFitsW
import Derived.Test.YtdgofofhkebkkaaDoorOpenb
import Derived.Test.YtdgofofhkebkkaaDoorExs
import Derived.Test.YtdgofofhkebkkaaDoorCards
import Derived.Test.YtdgofofhkebkkaaDoorTie
namespace Go.Proofs.YtdgofofhkebkkaaDoor.lawSv
open Go.ChangeShapes Go.WideShapes Go.ChangeAt Go.RowKit

theorem params : Tryd.f4.params.toList = [33] := by kernel_rfl
theorem types_ok : ∀ t ∈ Tryd.f4.params.toList, t < Tryd.prog.types.size ∧ Tryd.prog.readableRec t = true := by
  rw [params]; intro t ht
  have h_binds : 33 < Tryd.prog.types.size ∧ Tryd.prog.readableRec 33 = true := ⟨of_decide_eq_true (by kernel_rfl), by kernel_rfl⟩
  simp only [List.mem_cons, List.not_mem_nil, or_false] at ht
  subst ht; exact h_binds

set_option maxRecDepth 100000 in
theorem contract (HA : Awake2Ok) (H : Type) (enc : TypeId × Value → H) (W : World) (base : Nat) (args : Array Value) (ds gs : List (DataW H)) (before : List MemPlace) (vs : List TypeId)
    (hval : ∀ (j : Nat) t v, Tryd.f4.params[j]? = some t → args[j]? = some v → Value.okWide Tryd.prog W .any base t v)
    (hW : DataW.Whole enc Tryd.prog Tryd.f4.params.toList Rows.substValidSpec.vars false W args.toList ds gs before) (hS : (DataW.weightsEach Tryd.prog (Tryd.f4.params.toList ++ vs) (ds ++ gs)).all (· ≤ reachBytes) = true) (hL : laidMetH Tryd.prog Rows.substValidRow.laid W) :
    Calls Tryd.prog 4 args W fun e W' => ∃ v, e = .returned v ∧ Rows.substValidSpec.post enc Tryd.prog Tryd.f4 false true false false W args v W' := by
  have hL' := laid_of hL
  have hW' := hW
  obtain ⟨p, q, hA, hV, rfl, hfz, hnd⟩ := hW
  rw [params] at hA
  obtain ⟨v0, d0, rfl, rfl, h0⟩ := trodAll_one hA
  obtain ⟨t0, xa0, cap0, rfl, hc0, hI0, hd0⟩ := open_binds (hval 0 33 v0 (by kernel_rfl) rfl) h0
  have hb0 := binds_bytes hS (j := 0) (by rw [params]; rfl) rfl hd0
  refine (lawSv_any HA t0 xa0 cap0 W hL' hc0 hb0 hI0).mono fun e W' ⟨he, hB⟩ => ?_
  exact ⟨_, he, post_true rfl rfl (by kernel_rfl) types_ok hW' hB⟩

theorem laid_met (os : Os) : laidMet Tryd.prog Rows.substValidRow.laid ((laidWorld os).forCall (fun _ _ => 0) ⟨#[], #[vInts], []⟩).memory :=
  laidMet_of_run' 8 (by kernel_rfl) (by kernel_rfl)
theorem reads (os : Os) {H : Type} (enc : TypeId × Value → H) : ∃ places, DataW.whole enc Tryd.prog ((laidWorld os).forCall (fun _ _ => 0) ⟨#[], #[vInts], []⟩).memory Tryd.f4.params.toList Rows.substValidSpec.vars false (#[vInts] : Array Value).toList 8 = some ([.nil], [], places) :=
  ⟨[], by kernel_rfl⟩

set_option maxRecDepth 100000 in
theorem lifted (HA : Awake2Ok) (os : Os) (started : os.Started) (H : Type) (enc : TypeId × Value → H) (F : Stop.Interp) :
    ReturnsInHanded {} Tryd.checked os 4 .any ((OpenSpec.ofChange Rows.substValidSpec).preRow enc Tryd.prog Tryd.f4 Rows.substValidRow.domain false Rows.substValidRow.laid) (((OpenSpec.ofChange Rows.substValidSpec).at F).post enc Tryd.prog Tryd.f4 false true false false) := by
  obtain ⟨places, hx⟩ := reads os enc
  refine returnsInHanded_of_row (C := Tryd.checked) (s := OpenSpec.ofChange Rows.substValidSpec) own started (by kernel_rfl) Tryd.func4
    (witness_row_at (enc := enc) (C := Tryd.checked) false (laidWorld os) #[vInts] rfl (by kernel_rfl) (by kernel_rfl) (by kernel_rfl)
      (OpenSpec.preRow_of_cond 8 hx (by kernel_rfl) (fun k hk => by cases hk) (by kernel_rfl) (laid_met os))) ?_
  intro W base args ds gs before hval hW _ _ hS hL _ _
  exact contract HA H enc W base args ds gs before _ hval hW hS hL

theorem said (HA : Awake2Ok) : Rows.SubstValidSaid :=
  OpenClaim.holds_of_cond 4 Tryd.f4 rfl rfl rfl rfl rfl rfl rfl ⟨rfl, rfl, rfl, rfl, rfl⟩ rfl rfl rfl rfl rfl (by kernel_rfl) Tryd.func4 (by kernel_rfl)
    (of_decide_eq_true (by kernel_rfl)) (by unfold Func.isWrapper; first | (rw [if_pos (by decide +kernel)]; kernel_rfl) | (rw [if_neg (by decide +kernel)]; exact ⟨rfl, rfl⟩))
    (fun os started H enc _ F => by rw [OpenClaim.pre_eq_preRow]; exact lifted HA os started H enc F)

theorem plain (f : FuncId) (fn : Func) (hf : Tryd.pinned.checked.prog.funcNamed "sealring/sealringlaw02.SubstValid" = some f) (hfn : Tryd.pinned.checked.prog.funcs[f]? = some fn) :
    false = Tryd.pinned.checked.prog.looks [] ∧ ∀ (j : Nat) t, fn.params[j]? = some t → Tryd.pinned.checked.prog.wantsStandIn t = false := by
  obtain rfl : f = 4 := Option.some.inj ((show Tryd.prog.funcNamed "sealring/sealringlaw02.SubstValid" = some 4 by kernel_rfl).symm.trans hf) |>.symm
  obtain rfl : fn = Tryd.f4 := (Option.some.inj (Tryd.func4.symm.trans hfn)).symm
  refine ⟨by kernel_rfl, fun j t ht => ?_⟩
  have hm : t ∈ Tryd.f4.params.toList := by
    rw [← Array.getElem?_toList] at ht; exact List.mem_of_getElem? ht
  rw [params] at hm
  have hall : ([33].all fun u => !Tryd.prog.wantsStandIn u) = true := by kernel_rfl
  exact (show Tryd.prog.wantsStandIn t = false by simpa using List.all_eq_true.1 hall t hm)

theorem card : Rows.SubstValidCardSaid :=
  Claim7.holds_tied_plain_at .later [] _ _ _ _ (said awake2_any) (fun _ h => by cases h) (by kernel_rfl) (fun _ h => by cases h) substValid_row_tie rfl ⟨rfl, rfl⟩ (by kernel_rfl) rfl plain (by kernel_rfl)
end Go.Proofs.YtdgofofhkebkkaaDoor.lawSv
