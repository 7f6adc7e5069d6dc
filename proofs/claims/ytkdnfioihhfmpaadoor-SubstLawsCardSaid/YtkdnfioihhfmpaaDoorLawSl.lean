/- The law SubstLaws: for every two drafts and every bytes, the composition of the substitutions that the drafts describe has the effect of both, one after the other, and is associative, where nothing is too large; otherwise its error is that something is too large; the law returns true, and the drafts and the bytes read as they did. No condition. -/
import Derived.Test.YtkdnfioihhfmpaaDoorFrame
import Derived.Test.YtkdnfioihhfmpaaDoorLawLawsW
import Derived.Test.YtkdnfioihhfmpaaDoorGrow
import Derived.Test.YtkdnfioihhfmpaaDoorExs
import Derived.Test.YtkdnfioihhfmpaaDoorCards
import Derived.Test.YtkdnfioihhfmpaaDoorTie
namespace Go.Proofs.YtkdnfioihhfmpaaDoor.lawSl
open Go.ChangeShapes Go.WideShapes Go.ChangeAt Go.RowKit

theorem params : Tryd.f8.params.toList = [49, 49, 47] := by kernel_rfl
theorem types_ok : ∀ t ∈ Tryd.f8.params.toList, t < Tryd.prog.types.size ∧ Tryd.prog.readableRec t = true := by
  rw [params]; intro t ht
  have h_draft : 49 < Tryd.prog.types.size ∧ Tryd.prog.readableRec 49 = true := ⟨of_decide_eq_true (by kernel_rfl), by kernel_rfl⟩
  have h_bytes : 47 < Tryd.prog.types.size ∧ Tryd.prog.readableRec 47 = true := ⟨of_decide_eq_true (by kernel_rfl), by kernel_rfl⟩
  simp only [List.mem_cons, List.not_mem_nil, or_false] at ht
  rcases ht with rfl | rfl | rfl
  · exact h_draft
  · exact h_draft
  · exact h_bytes

set_option maxRecDepth 100000 in
theorem contract (HA : Awake2Ok) (H : Type) (enc : TypeId × Value → H) (W : World) (base : Nat) (args : Array Value) (ds gs : List (DataW H)) (before : List MemPlace) (vs : List TypeId)
    (hval : ∀ (j : Nat) t v, Tryd.f8.params[j]? = some t → args[j]? = some v → Value.okWide Tryd.prog W .any base t v)
    (hW : DataW.Whole enc Tryd.prog Tryd.f8.params.toList Rows.substLawsSpec.vars false W args.toList ds gs before) (hS : (DataW.weightsEach Tryd.prog (Tryd.f8.params.toList ++ vs) (ds ++ gs)).all (· ≤ reachBytes) = true) (hL : laidMetH Tryd.prog Rows.substLawsRow.laid W) :
    Calls Tryd.prog 8 args W fun e W' => ∃ v, e = .returned v ∧ Rows.substLawsSpec.post enc Tryd.prog Tryd.f8 false true false false W args v W' := by
  have hL' := laid_of hL
  have hW' := hW
  obtain ⟨p, q, hA, hV, rfl, hfz, hnd⟩ := hW
  rw [params] at hA
  obtain ⟨v0, v1, v2, d0, d1, d2, p0, p1, p2, rfl, rfl, rfl, h0, h1, h2⟩ := trodAll_three hA
  obtain ⟨xa0, xb0, xc0, la0, lb0, lc0, ka0, kb0, kc0, m0, rfl, hm0, hA0, hB0, hC0⟩ := open_draft (hval 0 49 v0 (by kernel_rfl) rfl) h0
  obtain ⟨xa1, xb1, xc1, la1, lb1, lc1, ka1, kb1, kc1, m1, rfl, hm1, hA1, hB1, hC1⟩ := open_draft (hval 1 49 v1 (by kernel_rfl) rfl) h1
  obtain ⟨xa2, la2, ka2, rfl, hA2⟩ := open_bytes (hval 2 47 v2 (by kernel_rfl) rfl) h2
  refine (lawSl_any HA xa0 xb0 xc0 xa1 xb1 xc1 xa2 la0 lb0 lc0 ka0 kb0 kc0 la1 lb1 lc1 ka1 kb1 kc1 la2 ka2 m0 m1 W hL' hm0 hm1 hA0 hB0 hC0 hA1 hB1 hC1 hA2).mono fun e W' ⟨he, hB⟩ => ?_
  exact ⟨_, he, post_true rfl rfl (by kernel_rfl) types_ok hW' hB⟩

theorem laid_met (os : Os) : laidMet Tryd.prog Rows.substLawsRow.laid ((laidWorld os).forCall (fun _ _ => 0) ⟨#[], #[(.agg #[.slice none 0 0, .slice none 0 0, .slice none 0 0, .int .u8 0] : Value), (.agg #[.slice none 0 0, .slice none 0 0, .slice none 0 0, .int .u8 0] : Value), vInts], []⟩).memory :=
  laidMet_of_run' 8 (by kernel_rfl) (by kernel_rfl)
theorem reads (os : Os) {H : Type} (enc : TypeId × Value → H) : ∃ places, DataW.whole enc Tryd.prog ((laidWorld os).forCall (fun _ _ => 0) ⟨#[], #[(.agg #[.slice none 0 0, .slice none 0 0, .slice none 0 0, .int .u8 0] : Value), (.agg #[.slice none 0 0, .slice none 0 0, .slice none 0 0, .int .u8 0] : Value), vInts], []⟩).memory Tryd.f8.params.toList Rows.substLawsSpec.vars false (#[(.agg #[.slice none 0 0, .slice none 0 0, .slice none 0 0, .int .u8 0] : Value), (.agg #[.slice none 0 0, .slice none 0 0, .slice none 0 0, .int .u8 0] : Value), vInts] : Array Value).toList 8 = some ([.agg [.nil, .nil, .nil, .lit (.int .u8 0)], .agg [.nil, .nil, .nil, .lit (.int .u8 0)], .nil], [], places) :=
  ⟨[], by kernel_rfl⟩

set_option maxRecDepth 100000 in
theorem lifted (HA : Awake2Ok) (os : Os) (started : os.Started) (H : Type) (enc : TypeId × Value → H) (F : Stop.Interp) :
    ReturnsInHanded {} Tryd.checked os 8 .any ((OpenSpec.ofChange Rows.substLawsSpec).preRow enc Tryd.prog Tryd.f8 Rows.substLawsRow.domain false Rows.substLawsRow.laid) (((OpenSpec.ofChange Rows.substLawsSpec).at F).post enc Tryd.prog Tryd.f8 false true false false) := by
  obtain ⟨places, hx⟩ := reads os enc
  refine returnsInHanded_of_row (C := Tryd.checked) (s := OpenSpec.ofChange Rows.substLawsSpec) own started (by kernel_rfl) Tryd.func8
    (witness_row_at (enc := enc) (C := Tryd.checked) false (laidWorld os) #[(.agg #[.slice none 0 0, .slice none 0 0, .slice none 0 0, .int .u8 0] : Value), (.agg #[.slice none 0 0, .slice none 0 0, .slice none 0 0, .int .u8 0] : Value), vInts] rfl (by kernel_rfl) (by kernel_rfl) (by kernel_rfl)
      (OpenSpec.preRow_of_cond 8 hx (by kernel_rfl) (fun k hk => by cases hk) (by kernel_rfl) (laid_met os))) ?_
  intro W base args ds gs before hval hW _ _ hS hL _ _
  exact contract HA H enc W base args ds gs before _ hval hW hS hL

theorem said (HA : Awake2Ok) : Rows.SubstLawsSaid :=
  OpenClaim.holds_of_cond 8 Tryd.f8 rfl rfl rfl rfl rfl rfl rfl ⟨rfl, rfl, rfl, rfl, rfl⟩ rfl rfl rfl rfl rfl (by kernel_rfl) Tryd.func8 (by kernel_rfl)
    (of_decide_eq_true (by kernel_rfl)) (by unfold Func.isWrapper; first | (rw [if_pos (by decide +kernel)]; kernel_rfl) | (rw [if_neg (by decide +kernel)]; exact ⟨rfl, rfl⟩))
    (fun os started H enc _ F => by rw [OpenClaim.pre_eq_preRow]; exact lifted HA os started H enc F)

theorem plain (f : FuncId) (fn : Func) (hf : Tryd.pinned.checked.prog.funcNamed "sealring/sealringlaw02.SubstLaws" = some f) (hfn : Tryd.pinned.checked.prog.funcs[f]? = some fn) :
    false = Tryd.pinned.checked.prog.looks [] ∧ ∀ (j : Nat) t, fn.params[j]? = some t → Tryd.pinned.checked.prog.wantsStandIn t = false := by
  obtain rfl : f = 8 := Option.some.inj ((show Tryd.prog.funcNamed "sealring/sealringlaw02.SubstLaws" = some 8 by kernel_rfl).symm.trans hf) |>.symm
  obtain rfl : fn = Tryd.f8 := (Option.some.inj (Tryd.func8.symm.trans hfn)).symm
  refine ⟨by kernel_rfl, fun j t ht => ?_⟩
  have hm : t ∈ Tryd.f8.params.toList := by
    rw [← Array.getElem?_toList] at ht; exact List.mem_of_getElem? ht
  rw [params] at hm
  have hall : ([49, 49, 47].all fun u => !Tryd.prog.wantsStandIn u) = true := by kernel_rfl
  exact (show Tryd.prog.wantsStandIn t = false by simpa using List.all_eq_true.1 hall t hm)

theorem card : Rows.SubstLawsCardSaid :=
  Claim7.holds_tied_plain_at .later [] _ _ _ _ (said awake2_any) (fun _ h => by cases h) (by kernel_rfl) (fun _ h => by cases h) substLaws_row_tie rfl ⟨rfl, rfl⟩ (by kernel_rfl) rfl plain (by kernel_rfl)
end Go.Proofs.YtkdnfioihhfmpaaDoor.lawSl
