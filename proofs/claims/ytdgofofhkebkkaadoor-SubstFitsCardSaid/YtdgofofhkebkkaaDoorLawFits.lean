/- The law SubstFits: for every two terms, Fits reports whether the second fits the first, as the reference does; the law returns true, and the terms read as they did. No condition. -/
import Derived.Test.YtdgofofhkebkkaaDoorFrame
import Derived.Test.YtdgofofhkebkkaaDoorLawFitsW
import Derived.Test.YtdgofofhkebkkaaDoorExs
import Derived.Test.YtdgofofhkebkkaaDoorCards
import Derived.Test.YtdgofofhkebkkaaDoorTie
namespace Go.Proofs.YtdgofofhkebkkaaDoor.lawFits
open Go.ChangeShapes Go.WideShapes Go.ChangeAt Go.RowKit

theorem params : Tryd.f5.params.toList = [25, 25] := by kernel_rfl
theorem types_ok : ∀ t ∈ Tryd.f5.params.toList, t < Tryd.prog.types.size ∧ Tryd.prog.readableRec t = true := by
  rw [params]; intro t ht
  have h_term : 25 < Tryd.prog.types.size ∧ Tryd.prog.readableRec 25 = true := ⟨of_decide_eq_true (by kernel_rfl), by kernel_rfl⟩
  simp only [List.mem_cons, List.not_mem_nil, or_false] at ht
  rcases ht with rfl | rfl
  · exact h_term
  · exact h_term

set_option maxRecDepth 100000 in
theorem contract (HA : Awake2Ok) (H : Type) (enc : TypeId × Value → H) (W : World) (base : Nat) (args : Array Value) (ds gs : List (DataW H)) (before : List MemPlace)
    (hval : ∀ (j : Nat) t v, Tryd.f5.params[j]? = some t → args[j]? = some v → Value.okWide Tryd.prog W .any base t v)
    (hW : DataW.Whole enc Tryd.prog Tryd.f5.params.toList Rows.substFitsSpec.vars false W args.toList ds gs before) (hL : laidMetH Tryd.prog Rows.substFitsRow.laid W) :
    Calls Tryd.prog 5 args W fun e W' => ∃ v, e = .returned v ∧ Rows.substFitsSpec.post enc Tryd.prog Tryd.f5 false true false false W args v W' := by
  have hL' := laid_of hL
  have hW' := hW
  obtain ⟨p, q, hA, hV, rfl, hfz, hnd⟩ := hW
  rw [params] at hA
  obtain ⟨v0, v1, d0, d1, p0, p1, rfl, rfl, rfl, h0, h1⟩ := trodAll_two hA
  obtain ⟨t0, a0, b0, c0, e0, rfl, hI0⟩ := open_term (hval 0 25 v0 (by kernel_rfl) rfl) h0
  obtain ⟨t1, a1, b1, c1, e1, rfl, hI1⟩ := open_term (hval 1 25 v1 (by kernel_rfl) rfl) h1
  refine (lawFits_any HA t0 t1 a0 b0 c0 e0 a1 b1 c1 e1 W hL' hI0 hI1).mono fun e W' ⟨he, hB⟩ => ?_
  exact ⟨_, he, post_true rfl rfl (by kernel_rfl) types_ok hW' hB⟩

theorem laid_met (os : Os) : laidMet Tryd.prog Rows.substFitsRow.laid ((laidWorld os).forCall (fun _ _ => 0) ⟨#[], #[vTerm, vTerm], []⟩).memory :=
  laidMet_of_run' 8 (by kernel_rfl) (by kernel_rfl)
theorem reads (os : Os) {H : Type} (enc : TypeId × Value → H) : ∃ places, DataW.whole enc Tryd.prog ((laidWorld os).forCall (fun _ _ => 0) ⟨#[], #[vTerm, vTerm], []⟩).memory Tryd.f5.params.toList Rows.substFitsSpec.vars false (#[vTerm, vTerm] : Array Value).toList 8 = some ([.agg [.lit (.int .i64 0), .lit (.string []), .lit (.int .i64 0), .nil], .agg [.lit (.int .i64 0), .lit (.string []), .lit (.int .i64 0), .nil]], [], places) :=
  ⟨[], by kernel_rfl⟩

set_option maxRecDepth 100000 in
theorem lifted (HA : Awake2Ok) (os : Os) (started : os.Started) (H : Type) (enc : TypeId × Value → H) (F : Stop.Interp) :
    ReturnsInHanded {} Tryd.checked os 5 .any ((OpenSpec.ofChange Rows.substFitsSpec).preRow enc Tryd.prog Tryd.f5 Rows.substFitsRow.domain false Rows.substFitsRow.laid) (((OpenSpec.ofChange Rows.substFitsSpec).at F).post enc Tryd.prog Tryd.f5 false true false false) := by
  obtain ⟨places, hx⟩ := reads os enc
  refine returnsInHanded_of_row (C := Tryd.checked) (s := OpenSpec.ofChange Rows.substFitsSpec) own started (by kernel_rfl) Tryd.func5
    (witness_row_at (enc := enc) (C := Tryd.checked) false (laidWorld os) #[vTerm, vTerm] rfl (by kernel_rfl) (by kernel_rfl) (by kernel_rfl)
      (OpenSpec.preRow_of_cond 8 hx (by kernel_rfl) (fun k hk => by cases hk) (by kernel_rfl) (laid_met os))) ?_
  intro W base args ds gs before hval hW _ _ _ hL _ _
  exact contract HA H enc W base args ds gs before hval hW hL

theorem said (HA : Awake2Ok) : Rows.SubstFitsSaid :=
  OpenClaim.holds_of_cond 5 Tryd.f5 rfl rfl rfl rfl rfl rfl rfl ⟨rfl, rfl, rfl, rfl, rfl⟩ rfl rfl rfl rfl rfl (by kernel_rfl) Tryd.func5 (by kernel_rfl)
    (of_decide_eq_true (by kernel_rfl)) (by unfold Func.isWrapper; first | (rw [if_pos (by decide +kernel)]; kernel_rfl) | (rw [if_neg (by decide +kernel)]; exact ⟨rfl, rfl⟩))
    (fun os started H enc _ F => by rw [OpenClaim.pre_eq_preRow]; exact lifted HA os started H enc F)

theorem plain (f : FuncId) (fn : Func) (hf : Tryd.pinned.checked.prog.funcNamed "sealring/sealringlaw02.SubstFits" = some f) (hfn : Tryd.pinned.checked.prog.funcs[f]? = some fn) :
    false = Tryd.pinned.checked.prog.looks [] ∧ ∀ (j : Nat) t, fn.params[j]? = some t → Tryd.pinned.checked.prog.wantsStandIn t = false := by
  obtain rfl : f = 5 := Option.some.inj ((show Tryd.prog.funcNamed "sealring/sealringlaw02.SubstFits" = some 5 by kernel_rfl).symm.trans hf) |>.symm
  obtain rfl : fn = Tryd.f5 := (Option.some.inj (Tryd.func5.symm.trans hfn)).symm
  refine ⟨by kernel_rfl, fun j t ht => ?_⟩
  have hm : t ∈ Tryd.f5.params.toList := by
    rw [← Array.getElem?_toList] at ht; exact List.mem_of_getElem? ht
  rw [params] at hm
  have hall : ([25, 25].all fun u => !Tryd.prog.wantsStandIn u) = true := by kernel_rfl
  exact (show Tryd.prog.wantsStandIn t = false by simpa using List.all_eq_true.1 hall t hm)

theorem card : Rows.SubstFitsCardSaid :=
  Claim7.holds_tied_plain_at .later [] _ _ _ _ (said awake2_any) (fun _ h => by cases h) (by kernel_rfl) (fun _ h => by cases h) substFits_row_tie rfl ⟨rfl, rfl⟩ (by kernel_rfl) rfl plain (by kernel_rfl)
end Go.Proofs.YtdgofofhkebkkaaDoor.lawFits
