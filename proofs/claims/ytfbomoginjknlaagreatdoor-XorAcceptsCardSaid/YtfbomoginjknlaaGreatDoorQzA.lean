/- The law XorAccepts: for every list of terms and every term, Check accepts what Span returns, and CheckRefute what Refute returns; the law returns true. No condition. -/
import Derived.Test.YtfbomoginjknlaaGreatDoorOpen
import Derived.Test.YtfbomoginjknlaaGreatDoorQlac
import Derived.Test.YtfbomoginjknlaaGreatDoorQtab
import Derived.Test.YtfbomoginjknlaaGreatDoorCards
import Derived.Test.YtfbomoginjknlaaGreatDoorTie
namespace Go.Proofs.YtfbomoginjknlaaGreatDoor.lawzA
open Go.ChangeShapes Go.WideShapes Go.ChangeAt Go.RowKit

theorem params : Tryz.f6.params.toList = [22, 26] := by kernel_rfl
theorem types_ok : ∀ t ∈ Tryz.f6.params.toList, t < Tryz.prog.types.size ∧ Tryz.prog.readableRec t = true := by
  rw [params]; intro t ht
  have h_terms : 22 < Tryz.prog.types.size ∧ Tryz.prog.readableRec 22 = true := ⟨of_decide_eq_true (by kernel_rfl), by kernel_rfl⟩
  have h_term : 26 < Tryz.prog.types.size ∧ Tryz.prog.readableRec 26 = true := ⟨of_decide_eq_true (by kernel_rfl), by kernel_rfl⟩
  simp only [List.mem_cons, List.not_mem_nil, or_false] at ht
  rcases ht with rfl | rfl
  · exact h_terms
  · exact h_term

set_option maxRecDepth 100000 in
theorem contract (HA : Awake8Ok) (H : Type) (enc : TypeId × Value → H) (W : World) (base : Nat) (args : Array Value) (ds gs : List (DataW H)) (before : List MemPlace) (vs : List TypeId)
    (hval : ∀ (j : Nat) t v, Tryz.f6.params[j]? = some t → args[j]? = some v → Value.okWide Tryz.prog W .any base t v)
    (hW : DataW.Whole enc Tryz.prog Tryz.f6.params.toList Rows.xorAcceptsSpec.vars false W args.toList ds gs before) (hS : (DataW.weightsEach Tryz.prog (Tryz.f6.params.toList ++ vs) (ds ++ gs)).all (· ≤ reachBytes) = true) (hL : laidMetH Tryz.prog Rows.xorAcceptsRow.laid W) :
    Calls Tryz.prog 6 args W fun e W' => ∃ v, e = .returned v ∧ Rows.xorAcceptsSpec.post enc Tryz.prog Tryz.f6 false true false false W args v W' := by
  have hL' := laid_of8 hL
  have hW' := hW
  obtain ⟨p, q, hA, hV, rfl, hfz, hnd⟩ := hW
  rw [params] at hA
  obtain ⟨v0, v1, d0, d1, p0, p1, rfl, rfl, rfl, h0, h1⟩ := trodAll_two hA
  obtain ⟨t0, xa0, cap0, rfl, hc0, hn0, hI0, hd0⟩ := open_termsQ (hval 0 22 v0 (by kernel_rfl) rfl) h0
  have hb0 := terms_bytes hS (j := 0) (by rw [params]; rfl) rfl hd0
  obtain ⟨t1, a1, b1, c1, e1, rfl, hI1⟩ := open_term (hval 1 26 v1 (by kernel_rfl) rfl) h1
  refine (lawAc_any (Lib.hid HA) t0 t1 xa0 cap0 _ _ _ _ W hL' hc0 hb0 hI0 hI1).mono fun e W' ⟨he, hB⟩ => ?_
  exact ⟨_, he, post_true rfl rfl (by kernel_rfl) types_ok hW' hB⟩

theorem laid_met (os : Os) : laidMet Tryz.prog Rows.xorAcceptsRow.laid ((laidWorld8 os).forCall (fun _ _ => 0) ⟨#[], #[(.slice none 0 0 : Value), (.agg #[.int .i64 0, .string ⟨#[]⟩, .int .i64 0, .slice none 0 0] : Value)], []⟩).memory :=
  laidMet_of_run' 8 (by kernel_rfl) (by kernel_rfl)
theorem reads (os : Os) {H : Type} (enc : TypeId × Value → H) : ∃ places, DataW.whole enc Tryz.prog ((laidWorld8 os).forCall (fun _ _ => 0) ⟨#[], #[(.slice none 0 0 : Value), (.agg #[.int .i64 0, .string ⟨#[]⟩, .int .i64 0, .slice none 0 0] : Value)], []⟩).memory Tryz.f6.params.toList Rows.xorAcceptsSpec.vars false (#[(.slice none 0 0 : Value), (.agg #[.int .i64 0, .string ⟨#[]⟩, .int .i64 0, .slice none 0 0] : Value)] : Array Value).toList 8 = some ([.nil, .agg [.lit (.int .i64 0), .lit (.string []), .lit (.int .i64 0), .nil]], [], places) :=
  ⟨[], by kernel_rfl⟩

set_option maxRecDepth 100000 in
theorem lifted (HA : Awake8Ok) (os : Os) (started : os.Started) (H : Type) (enc : TypeId × Value → H) (F : Stop.Interp) :
    ReturnsInHanded {} Tryz.checked os 6 .any ((OpenSpec.ofChange Rows.xorAcceptsSpec).preRow enc Tryz.prog Tryz.f6 Rows.xorAcceptsRow.domain false Rows.xorAcceptsRow.laid) (((OpenSpec.ofChange Rows.xorAcceptsSpec).at F).post enc Tryz.prog Tryz.f6 false true false false) := by
  obtain ⟨places, hx⟩ := reads os enc
  refine returnsInHanded_of_row (C := Tryz.checked) (s := OpenSpec.ofChange Rows.xorAcceptsSpec) own started (by kernel_rfl) Tryz.func6
    (witness_row_at (enc := enc) (C := Tryz.checked) false (laidWorld8 os) #[(.slice none 0 0 : Value), (.agg #[.int .i64 0, .string ⟨#[]⟩, .int .i64 0, .slice none 0 0] : Value)] rfl (by kernel_rfl) (by kernel_rfl) (by kernel_rfl)
      (OpenSpec.preRow_of_cond 8 hx (by kernel_rfl) (fun k hk => by cases hk) (by kernel_rfl) (laid_met os))) ?_
  intro W base args ds gs before hval hW _ _ hS hL _ _
  exact contract HA H enc W base args ds gs before _ hval hW hS hL

theorem said (HA : Awake8Ok) : Rows.XorAcceptsSaid :=
  OpenClaim.holds_of_cond 6 Tryz.f6 rfl rfl rfl rfl rfl rfl rfl ⟨rfl, rfl, rfl, rfl, rfl⟩ rfl rfl rfl rfl rfl (by kernel_rfl) Tryz.func6 (by kernel_rfl)
    (of_decide_eq_true (by kernel_rfl)) (by unfold Func.isWrapper; first | (rw [if_pos (by decide +kernel)]; kernel_rfl) | (rw [if_neg (by decide +kernel)]; exact ⟨rfl, rfl⟩))
    (fun os started H enc _ F => by rw [OpenClaim.pre_eq_preRow]; exact lifted HA os started H enc F)

theorem plain (f : FuncId) (fn : Func) (hf : Tryz.pinned.checked.prog.funcNamed "sealring/sealringlaw08.XorAccepts" = some f) (hfn : Tryz.pinned.checked.prog.funcs[f]? = some fn) :
    false = Tryz.pinned.checked.prog.looks [] ∧ ∀ (j : Nat) t, fn.params[j]? = some t → Tryz.pinned.checked.prog.wantsStandIn t = false := by
  obtain rfl : f = 6 := Option.some.inj ((show Tryz.prog.funcNamed "sealring/sealringlaw08.XorAccepts" = some 6 by kernel_rfl).symm.trans hf) |>.symm
  obtain rfl : fn = Tryz.f6 := (Option.some.inj (Tryz.func6.symm.trans hfn)).symm
  refine ⟨by kernel_rfl, fun j t ht => ?_⟩
  have hm : t ∈ Tryz.f6.params.toList := by
    rw [← Array.getElem?_toList] at ht; exact List.mem_of_getElem? ht
  rw [params] at hm
  have hall : ([22, 26].all fun u => !Tryz.prog.wantsStandIn u) = true := by kernel_rfl
  exact (show Tryz.prog.wantsStandIn t = false by simpa using List.all_eq_true.1 hall t hm)

theorem card : Rows.XorAcceptsCardSaid :=
  Claim7.holds_tied_plain_at .later [] _ _ _ _ (said (fun w h => awake8_any w h)) (fun _ h => by cases h) (by kernel_rfl) (fun _ h => by cases h) xorAccepts_row_tie rfl ⟨rfl, rfl⟩ (by kernel_rfl) rfl plain (by kernel_rfl)
end Go.Proofs.YtfbomoginjknlaaGreatDoor.lawzA
