/- The law XorCheck: for every list of terms, every term and every list of indices, Check answers as the reference does; the law returns true. No condition. -/
import Derived.Test.YtakeopjpmfgngaaGreatDoorOpen
import Derived.Test.YtakeopjpmfgngaaGreatDoorQlzk
import Derived.Test.YtakeopjpmfgngaaGreatDoorQtab
import Derived.Test.YtakeopjpmfgngaaGreatDoorCards
import Derived.Test.YtakeopjpmfgngaaGreatDoorTie
namespace Go.Proofs.YtakeopjpmfgngaaGreatDoor.lawzK
open Go.ChangeShapes Go.WideShapes Go.ChangeAt Go.RowKit

theorem params : Tryz.f7.params.toList = [22, 26, 37] := by kernel_rfl
theorem types_ok : ∀ t ∈ Tryz.f7.params.toList, t < Tryz.prog.types.size ∧ Tryz.prog.readableRec t = true := by
  rw [params]; intro t ht
  have h_terms : 22 < Tryz.prog.types.size ∧ Tryz.prog.readableRec 22 = true := ⟨of_decide_eq_true (by kernel_rfl), by kernel_rfl⟩
  have h_term : 26 < Tryz.prog.types.size ∧ Tryz.prog.readableRec 26 = true := ⟨of_decide_eq_true (by kernel_rfl), by kernel_rfl⟩
  have h_ints : 37 < Tryz.prog.types.size ∧ Tryz.prog.readableRec 37 = true := ⟨of_decide_eq_true (by kernel_rfl), by kernel_rfl⟩
  simp only [List.mem_cons, List.not_mem_nil, or_false] at ht
  rcases ht with rfl | rfl | rfl
  · exact h_terms
  · exact h_term
  · exact h_ints

set_option maxRecDepth 100000 in
theorem contract (HA : Awake8Ok) (H : Type) (enc : TypeId × Value → H) (W : World) (base : Nat) (args : Array Value) (ds gs : List (DataW H)) (before : List MemPlace) (vs : List TypeId)
    (hval : ∀ (j : Nat) t v, Tryz.f7.params[j]? = some t → args[j]? = some v → Value.okWide Tryz.prog W .any base t v)
    (hW : DataW.Whole enc Tryz.prog Tryz.f7.params.toList Rows.xorCheckSpec.vars false W args.toList ds gs before) (hS : (DataW.weightsEach Tryz.prog (Tryz.f7.params.toList ++ vs) (ds ++ gs)).all (· ≤ reachBytes) = true) (hL : laidMetH Tryz.prog Rows.xorCheckRow.laid W) :
    Calls Tryz.prog 7 args W fun e W' => ∃ v, e = .returned v ∧ Rows.xorCheckSpec.post enc Tryz.prog Tryz.f7 false true false false W args v W' := by
  have hL' := laid_of8 hL
  have hW' := hW
  obtain ⟨p, q, hA, hV, rfl, hfz, hnd⟩ := hW
  rw [params] at hA
  obtain ⟨v0, v1, v2, d0, d1, d2, p0, p1, p2, rfl, rfl, rfl, h0, h1, h2⟩ := trodAll_three hA
  obtain ⟨t0, xa0, cap0, rfl, hc0, hn0, hI0, hd0⟩ := open_termsQ (hval 0 22 v0 (by kernel_rfl) rfl) h0
  have hb0 := terms_bytes hS (j := 0) (by rw [params]; rfl) rfl hd0
  obtain ⟨t1, a1, b1, c1, e1, rfl, hI1⟩ := open_term (hval 1 26 v1 (by kernel_rfl) rfl) h1
  obtain ⟨t2, hI2⟩ := open_ints_any (hval 2 37 v2 (by kernel_rfl) rfl) h2
  refine (lawCk_any (Lib.hid HA) t0 t1 t2 xa0 cap0 v2 _ _ _ _ W hL' hb0 hI0 hI1 hI2).mono fun e W' ⟨he, hB⟩ => ?_
  exact ⟨_, he, post_true rfl rfl (by kernel_rfl) types_ok hW' hB⟩

theorem laid_met (os : Os) : laidMet Tryz.prog Rows.xorCheckRow.laid ((laidWorld8 os).forCall (fun _ _ => 0) ⟨#[], #[(.slice none 0 0 : Value), (.agg #[.int .i64 0, .string ⟨#[]⟩, .int .i64 0, .slice none 0 0] : Value), (.slice none 0 0 : Value)], []⟩).memory :=
  laidMet_of_run' 8 (by kernel_rfl) (by kernel_rfl)
theorem reads (os : Os) {H : Type} (enc : TypeId × Value → H) : ∃ places, DataW.whole enc Tryz.prog ((laidWorld8 os).forCall (fun _ _ => 0) ⟨#[], #[(.slice none 0 0 : Value), (.agg #[.int .i64 0, .string ⟨#[]⟩, .int .i64 0, .slice none 0 0] : Value), (.slice none 0 0 : Value)], []⟩).memory Tryz.f7.params.toList Rows.xorCheckSpec.vars false (#[(.slice none 0 0 : Value), (.agg #[.int .i64 0, .string ⟨#[]⟩, .int .i64 0, .slice none 0 0] : Value), (.slice none 0 0 : Value)] : Array Value).toList 8 = some ([.nil, .agg [.lit (.int .i64 0), .lit (.string []), .lit (.int .i64 0), .nil], .nil], [], places) :=
  ⟨[], by kernel_rfl⟩

set_option maxRecDepth 100000 in
theorem lifted (HA : Awake8Ok) (os : Os) (started : os.Started) (H : Type) (enc : TypeId × Value → H) (F : Stop.Interp) :
    ReturnsInHanded {} Tryz.checked os 7 .any ((OpenSpec.ofChange Rows.xorCheckSpec).preRow enc Tryz.prog Tryz.f7 Rows.xorCheckRow.domain false Rows.xorCheckRow.laid) (((OpenSpec.ofChange Rows.xorCheckSpec).at F).post enc Tryz.prog Tryz.f7 false true false false) := by
  obtain ⟨places, hx⟩ := reads os enc
  refine returnsInHanded_of_row (C := Tryz.checked) (s := OpenSpec.ofChange Rows.xorCheckSpec) own started (by kernel_rfl) Tryz.func7
    (witness_row_at (enc := enc) (C := Tryz.checked) false (laidWorld8 os) #[(.slice none 0 0 : Value), (.agg #[.int .i64 0, .string ⟨#[]⟩, .int .i64 0, .slice none 0 0] : Value), (.slice none 0 0 : Value)] rfl (by kernel_rfl) (by kernel_rfl) (by kernel_rfl)
      (OpenSpec.preRow_of_cond 8 hx (by kernel_rfl) (fun k hk => by cases hk) (by kernel_rfl) (laid_met os))) ?_
  intro W base args ds gs before hval hW _ _ hS hL _ _
  exact contract HA H enc W base args ds gs before _ hval hW hS hL

theorem said (HA : Awake8Ok) : Rows.XorCheckSaid :=
  OpenClaim.holds_of_cond 7 Tryz.f7 rfl rfl rfl rfl rfl rfl rfl ⟨rfl, rfl, rfl, rfl, rfl⟩ rfl rfl rfl rfl rfl (by kernel_rfl) Tryz.func7 (by kernel_rfl)
    (of_decide_eq_true (by kernel_rfl)) (by unfold Func.isWrapper; first | (rw [if_pos (by decide +kernel)]; kernel_rfl) | (rw [if_neg (by decide +kernel)]; exact ⟨rfl, rfl⟩))
    (fun os started H enc _ F => by rw [OpenClaim.pre_eq_preRow]; exact lifted HA os started H enc F)

theorem plain (f : FuncId) (fn : Func) (hf : Tryz.pinned.checked.prog.funcNamed "sealring/sealringlaw08.XorCheck" = some f) (hfn : Tryz.pinned.checked.prog.funcs[f]? = some fn) :
    false = Tryz.pinned.checked.prog.looks [] ∧ ∀ (j : Nat) t, fn.params[j]? = some t → Tryz.pinned.checked.prog.wantsStandIn t = false := by
  obtain rfl : f = 7 := Option.some.inj ((show Tryz.prog.funcNamed "sealring/sealringlaw08.XorCheck" = some 7 by kernel_rfl).symm.trans hf) |>.symm
  obtain rfl : fn = Tryz.f7 := (Option.some.inj (Tryz.func7.symm.trans hfn)).symm
  refine ⟨by kernel_rfl, fun j t ht => ?_⟩
  have hm : t ∈ Tryz.f7.params.toList := by
    rw [← Array.getElem?_toList] at ht; exact List.mem_of_getElem? ht
  rw [params] at hm
  have hall : ([22, 26, 37].all fun u => !Tryz.prog.wantsStandIn u) = true := by kernel_rfl
  exact (show Tryz.prog.wantsStandIn t = false by simpa using List.all_eq_true.1 hall t hm)

theorem card : Rows.XorCheckCardSaid :=
  Claim7.holds_tied_plain_at .later [] _ _ _ _ (said (fun w h => awake8_any w h)) (fun _ h => by cases h) (by kernel_rfl) (fun _ h => by cases h) xorCheck_row_tie rfl ⟨rfl, rfl⟩ (by kernel_rfl) rfl plain (by kernel_rfl)
end Go.Proofs.YtakeopjpmfgngaaGreatDoor.lawzK
