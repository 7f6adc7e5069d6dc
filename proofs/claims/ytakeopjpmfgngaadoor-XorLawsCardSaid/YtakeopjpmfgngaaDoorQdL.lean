/- The law XorLaws: Add is commutative and associative, zero() is neutral, and a term added to itself is zero(), for all valid terms whose sums are valid; the law returns true. No condition. -/
import Derived.Test.YtakeopjpmfgngaaDoorOpen
import Derived.Test.YtakeopjpmfgngaaDoorQldk
import Derived.Test.YtakeopjpmfgngaaDoorQtab
import Derived.Test.YtakeopjpmfgngaaDoorCards
import Derived.Test.YtakeopjpmfgngaaDoorTie
namespace Go.Proofs.YtakeopjpmfgngaaDoor.lawdL
open Go.ChangeShapes Go.WideShapes Go.ChangeAt Go.RowKit

theorem params : Tryd.f4.params.toList = [24, 24, 24] := by kernel_rfl
theorem types_ok : ∀ t ∈ Tryd.f4.params.toList, t < Tryd.prog.types.size ∧ Tryd.prog.readableRec t = true := by
  rw [params]; intro t ht
  have h_term : 24 < Tryd.prog.types.size ∧ Tryd.prog.readableRec 24 = true := ⟨of_decide_eq_true (by kernel_rfl), by kernel_rfl⟩
  simp only [List.mem_cons, List.not_mem_nil, or_false] at ht
  rcases ht with rfl | rfl | rfl
  · exact h_term
  · exact h_term
  · exact h_term

set_option maxRecDepth 100000 in
theorem contract (HA : Awake8Ok) (H : Type) (enc : TypeId × Value → H) (W : World) (base : Nat) (args : Array Value) (ds gs : List (DataW H)) (before : List MemPlace) (vs : List TypeId)
    (hval : ∀ (j : Nat) t v, Tryd.f4.params[j]? = some t → args[j]? = some v → Value.okWide Tryd.prog W .any base t v)
    (hW : DataW.Whole enc Tryd.prog Tryd.f4.params.toList Rows.xorLawsSpec.vars false W args.toList ds gs before) (hS : (DataW.weightsEach Tryd.prog (Tryd.f4.params.toList ++ vs) (ds ++ gs)).all (· ≤ reachBytes) = true) (hL : laidMetH Tryd.prog Rows.xorLawsRow.laid W) :
    Calls Tryd.prog 4 args W fun e W' => ∃ v, e = .returned v ∧ Rows.xorLawsSpec.post enc Tryd.prog Tryd.f4 false true false false W args v W' := by
  have hL' := laid_of8 hL
  have hW' := hW
  obtain ⟨p, q, hA, hV, rfl, hfz, hnd⟩ := hW
  rw [params] at hA
  obtain ⟨v0, v1, v2, d0, d1, d2, p0, p1, p2, rfl, rfl, rfl, h0, h1, h2⟩ := trodAll_three hA
  obtain ⟨t0, a0, b0, c0, e0, rfl, hI0⟩ := open_term (hval 0 24 v0 (by kernel_rfl) rfl) h0
  obtain ⟨t1, a1, b1, c1, e1, rfl, hI1⟩ := open_term (hval 1 24 v1 (by kernel_rfl) rfl) h1
  obtain ⟨t2, a2, b2, c2, e2, rfl, hI2⟩ := open_term (hval 2 24 v2 (by kernel_rfl) rfl) h2
  refine (lawL_any (Lib.hid HA) t0 t1 t2 _ _ _ _ _ _ _ _ _ _ _ _ W hL' hI0 hI1 hI2).mono fun e W' ⟨he, hB⟩ => ?_
  exact ⟨_, he, post_true rfl rfl (by kernel_rfl) types_ok hW' hB⟩

theorem laid_met (os : Os) : laidMet Tryd.prog Rows.xorLawsRow.laid ((laidWorld8 os).forCall (fun _ _ => 0) ⟨#[], #[(.agg #[.int .i64 0, .string ⟨#[]⟩, .int .i64 0, .slice none 0 0] : Value), (.agg #[.int .i64 0, .string ⟨#[]⟩, .int .i64 0, .slice none 0 0] : Value), (.agg #[.int .i64 0, .string ⟨#[]⟩, .int .i64 0, .slice none 0 0] : Value)], []⟩).memory :=
  laidMet_of_run' 8 (by kernel_rfl) (by kernel_rfl)
theorem reads (os : Os) {H : Type} (enc : TypeId × Value → H) : ∃ places, DataW.whole enc Tryd.prog ((laidWorld8 os).forCall (fun _ _ => 0) ⟨#[], #[(.agg #[.int .i64 0, .string ⟨#[]⟩, .int .i64 0, .slice none 0 0] : Value), (.agg #[.int .i64 0, .string ⟨#[]⟩, .int .i64 0, .slice none 0 0] : Value), (.agg #[.int .i64 0, .string ⟨#[]⟩, .int .i64 0, .slice none 0 0] : Value)], []⟩).memory Tryd.f4.params.toList Rows.xorLawsSpec.vars false (#[(.agg #[.int .i64 0, .string ⟨#[]⟩, .int .i64 0, .slice none 0 0] : Value), (.agg #[.int .i64 0, .string ⟨#[]⟩, .int .i64 0, .slice none 0 0] : Value), (.agg #[.int .i64 0, .string ⟨#[]⟩, .int .i64 0, .slice none 0 0] : Value)] : Array Value).toList 8 = some ([.agg [.lit (.int .i64 0), .lit (.string []), .lit (.int .i64 0), .nil], .agg [.lit (.int .i64 0), .lit (.string []), .lit (.int .i64 0), .nil], .agg [.lit (.int .i64 0), .lit (.string []), .lit (.int .i64 0), .nil]], [], places) :=
  ⟨[], by kernel_rfl⟩

set_option maxRecDepth 100000 in
theorem lifted (HA : Awake8Ok) (os : Os) (started : os.Started) (H : Type) (enc : TypeId × Value → H) (F : Stop.Interp) :
    ReturnsInHanded {} Tryd.checked os 4 .any ((OpenSpec.ofChange Rows.xorLawsSpec).preRow enc Tryd.prog Tryd.f4 Rows.xorLawsRow.domain false Rows.xorLawsRow.laid) (((OpenSpec.ofChange Rows.xorLawsSpec).at F).post enc Tryd.prog Tryd.f4 false true false false) := by
  obtain ⟨places, hx⟩ := reads os enc
  refine returnsInHanded_of_row (C := Tryd.checked) (s := OpenSpec.ofChange Rows.xorLawsSpec) own started (by kernel_rfl) Tryd.func4
    (witness_row_at (enc := enc) (C := Tryd.checked) false (laidWorld8 os) #[(.agg #[.int .i64 0, .string ⟨#[]⟩, .int .i64 0, .slice none 0 0] : Value), (.agg #[.int .i64 0, .string ⟨#[]⟩, .int .i64 0, .slice none 0 0] : Value), (.agg #[.int .i64 0, .string ⟨#[]⟩, .int .i64 0, .slice none 0 0] : Value)] rfl (by kernel_rfl) (by kernel_rfl) (by kernel_rfl)
      (OpenSpec.preRow_of_cond 8 hx (by kernel_rfl) (fun k hk => by cases hk) (by kernel_rfl) (laid_met os))) ?_
  intro W base args ds gs before hval hW _ _ hS hL _ _
  exact contract HA H enc W base args ds gs before _ hval hW hS hL

theorem said (HA : Awake8Ok) : Rows.XorLawsSaid :=
  OpenClaim.holds_of_cond 4 Tryd.f4 rfl rfl rfl rfl rfl rfl rfl ⟨rfl, rfl, rfl, rfl, rfl⟩ rfl rfl rfl rfl rfl (by kernel_rfl) Tryd.func4 (by kernel_rfl)
    (of_decide_eq_true (by kernel_rfl)) (by unfold Func.isWrapper; first | (rw [if_pos (by decide +kernel)]; kernel_rfl) | (rw [if_neg (by decide +kernel)]; exact ⟨rfl, rfl⟩))
    (fun os started H enc _ F => by rw [OpenClaim.pre_eq_preRow]; exact lifted HA os started H enc F)

theorem plain (f : FuncId) (fn : Func) (hf : Tryd.pinned.checked.prog.funcNamed "sealring/sealringlaw08.XorLaws" = some f) (hfn : Tryd.pinned.checked.prog.funcs[f]? = some fn) :
    false = Tryd.pinned.checked.prog.looks [] ∧ ∀ (j : Nat) t, fn.params[j]? = some t → Tryd.pinned.checked.prog.wantsStandIn t = false := by
  obtain rfl : f = 4 := Option.some.inj ((show Tryd.prog.funcNamed "sealring/sealringlaw08.XorLaws" = some 4 by kernel_rfl).symm.trans hf) |>.symm
  obtain rfl : fn = Tryd.f4 := (Option.some.inj (Tryd.func4.symm.trans hfn)).symm
  refine ⟨by kernel_rfl, fun j t ht => ?_⟩
  have hm : t ∈ Tryd.f4.params.toList := by
    rw [← Array.getElem?_toList] at ht; exact List.mem_of_getElem? ht
  rw [params] at hm
  have hall : ([24, 24, 24].all fun u => !Tryd.prog.wantsStandIn u) = true := by kernel_rfl
  exact (show Tryd.prog.wantsStandIn t = false by simpa using List.all_eq_true.1 hall t hm)

theorem card : Rows.XorLawsCardSaid :=
  Claim7.holds_tied_plain_at .later [] _ _ _ _ (said (fun w h => awake8_any w h)) (fun _ h => by cases h) (by kernel_rfl) (fun _ h => by cases h) xorLaws_row_tie rfl ⟨rfl, rfl⟩ (by kernel_rfl) rfl plain (by kernel_rfl)
end Go.Proofs.YtakeopjpmfgngaaDoor.lawdL
