/- The law XorLarge: for every number, a list of 195 to 206 equal atoms is too large for Sum, Rank, Span and Check exactly if it has more than 200, and else these return its sum, its rank, and that the atom is in its span; the law returns true. No condition. -/
import Derived.Test.YtfbomoginjknlaaDoorOpen
import Derived.Test.YtfbomoginjknlaaDoorQlld
import Derived.Test.YtfbomoginjknlaaDoorQtab
import Derived.Test.YtfbomoginjknlaaDoorCards
import Derived.Test.YtfbomoginjknlaaDoorTie
namespace Go.Proofs.YtfbomoginjknlaaDoor.lawdX
open Go.ChangeShapes Go.WideShapes Go.ChangeAt Go.RowKit

theorem params : Tryd.f5.params.toList = [38] := by kernel_rfl
theorem types_ok : ∀ t ∈ Tryd.f5.params.toList, t < Tryd.prog.types.size ∧ Tryd.prog.readableRec t = true := by
  rw [params]; intro t ht
  have h_u16 : 38 < Tryd.prog.types.size ∧ Tryd.prog.readableRec 38 = true := ⟨of_decide_eq_true (by kernel_rfl), by kernel_rfl⟩
  simp only [List.mem_cons, List.not_mem_nil, or_false] at ht
  subst ht; exact h_u16

set_option maxRecDepth 100000 in
theorem contract (HA : Awake8Ok) (H : Type) (enc : TypeId × Value → H) (W : World) (base : Nat) (args : Array Value) (ds gs : List (DataW H)) (before : List MemPlace) (vs : List TypeId)
    (hval : ∀ (j : Nat) t v, Tryd.f5.params[j]? = some t → args[j]? = some v → Value.okWide Tryd.prog W .any base t v)
    (hW : DataW.Whole enc Tryd.prog Tryd.f5.params.toList Rows.xorLargeSpec.vars false W args.toList ds gs before) (hS : (DataW.weightsEach Tryd.prog (Tryd.f5.params.toList ++ vs) (ds ++ gs)).all (· ≤ reachBytes) = true) (hL : laidMetH Tryd.prog Rows.xorLargeRow.laid W) :
    Calls Tryd.prog 5 args W fun e W' => ∃ v, e = .returned v ∧ Rows.xorLargeSpec.post enc Tryd.prog Tryd.f5 false true false false W args v W' := by
  have hL' := laid_of8 hL
  have hW' := hW
  obtain ⟨p, q, hA, hV, rfl, hfz, hnd⟩ := hW
  rw [params] at hA
  obtain ⟨v0, d0, rfl, rfl, h0⟩ := trodAll_one hA
  obtain ⟨z0, rfl, hz0⟩ := open_u16 (hval 0 38 v0 (by kernel_rfl) rfl)
  refine (lawLg_any (Lib.hid HA) z0 hz0 W hL').mono fun e W' ⟨he, hB⟩ => ?_
  exact ⟨_, he, post_true rfl rfl (by kernel_rfl) types_ok hW' hB⟩

theorem laid_met (os : Os) : laidMet Tryd.prog Rows.xorLargeRow.laid ((laidWorld8 os).forCall (fun _ _ => 0) ⟨#[], #[(.int .u16 0 : Value)], []⟩).memory :=
  laidMet_of_run' 8 (by kernel_rfl) (by kernel_rfl)
theorem reads (os : Os) {H : Type} (enc : TypeId × Value → H) : ∃ places, DataW.whole enc Tryd.prog ((laidWorld8 os).forCall (fun _ _ => 0) ⟨#[], #[(.int .u16 0 : Value)], []⟩).memory Tryd.f5.params.toList Rows.xorLargeSpec.vars false (#[(.int .u16 0 : Value)] : Array Value).toList 8 = some ([.lit (.int .u16 0)], [], places) :=
  ⟨[], by kernel_rfl⟩

set_option maxRecDepth 100000 in
theorem lifted (HA : Awake8Ok) (os : Os) (started : os.Started) (H : Type) (enc : TypeId × Value → H) (F : Stop.Interp) :
    ReturnsInHanded {} Tryd.checked os 5 .any ((OpenSpec.ofChange Rows.xorLargeSpec).preRow enc Tryd.prog Tryd.f5 Rows.xorLargeRow.domain false Rows.xorLargeRow.laid) (((OpenSpec.ofChange Rows.xorLargeSpec).at F).post enc Tryd.prog Tryd.f5 false true false false) := by
  obtain ⟨places, hx⟩ := reads os enc
  refine returnsInHanded_of_row (C := Tryd.checked) (s := OpenSpec.ofChange Rows.xorLargeSpec) own started (by kernel_rfl) Tryd.func5
    (witness_row_at (enc := enc) (C := Tryd.checked) false (laidWorld8 os) #[(.int .u16 0 : Value)] rfl (by kernel_rfl) (by kernel_rfl) (by kernel_rfl)
      (OpenSpec.preRow_of_cond 8 hx (by kernel_rfl) (fun k hk => by cases hk) (by kernel_rfl) (laid_met os))) ?_
  intro W base args ds gs before hval hW _ _ hS hL _ _
  exact contract HA H enc W base args ds gs before _ hval hW hS hL

theorem said (HA : Awake8Ok) : Rows.XorLargeSaid :=
  OpenClaim.holds_of_cond 5 Tryd.f5 rfl rfl rfl rfl rfl rfl rfl ⟨rfl, rfl, rfl, rfl, rfl⟩ rfl rfl rfl rfl rfl (by kernel_rfl) Tryd.func5 (by kernel_rfl)
    (of_decide_eq_true (by kernel_rfl)) (by unfold Func.isWrapper; first | (rw [if_pos (by decide +kernel)]; kernel_rfl) | (rw [if_neg (by decide +kernel)]; exact ⟨rfl, rfl⟩))
    (fun os started H enc _ F => by rw [OpenClaim.pre_eq_preRow]; exact lifted HA os started H enc F)

theorem plain (f : FuncId) (fn : Func) (hf : Tryd.pinned.checked.prog.funcNamed "sealring/sealringlaw08.XorLarge" = some f) (hfn : Tryd.pinned.checked.prog.funcs[f]? = some fn) :
    false = Tryd.pinned.checked.prog.looks [] ∧ ∀ (j : Nat) t, fn.params[j]? = some t → Tryd.pinned.checked.prog.wantsStandIn t = false := by
  obtain rfl : f = 5 := Option.some.inj ((show Tryd.prog.funcNamed "sealring/sealringlaw08.XorLarge" = some 5 by kernel_rfl).symm.trans hf) |>.symm
  obtain rfl : fn = Tryd.f5 := (Option.some.inj (Tryd.func5.symm.trans hfn)).symm
  refine ⟨by kernel_rfl, fun j t ht => ?_⟩
  have hm : t ∈ Tryd.f5.params.toList := by
    rw [← Array.getElem?_toList] at ht; exact List.mem_of_getElem? ht
  rw [params] at hm
  have hall : ([38].all fun u => !Tryd.prog.wantsStandIn u) = true := by kernel_rfl
  exact (show Tryd.prog.wantsStandIn t = false by simpa using List.all_eq_true.1 hall t hm)

theorem card : Rows.XorLargeCardSaid :=
  Claim7.holds_tied_plain_at .later [] _ _ _ _ (said (fun w h => awake8_any w h)) (fun _ h => by cases h) (by kernel_rfl) (fun _ h => by cases h) xorLarge_row_tie rfl ⟨rfl, rfl⟩ (by kernel_rfl) rfl plain (by kernel_rfl)
end Go.Proofs.YtfbomoginjknlaaDoor.lawdX
