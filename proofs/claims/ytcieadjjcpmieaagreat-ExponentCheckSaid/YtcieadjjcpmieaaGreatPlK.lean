/- The law ExponentCheck: for every draft and every list of integers, Check reports what the reference reports, where both are short; the law returns true, and the arguments read behind the call as they did. No condition. -/
import Derived.Test.YtcieadjjcpmieaaGreatOpen
import Derived.Test.YtcieadjjcpmieaaGreatPrck
import Derived.Test.YtcieadjjcpmieaaGreatPawk2
import Derived.Test.YtcieadjjcpmieaaGreatRows
namespace Go.Proofs.YtcieadjjcpmieaaGreat.lawPlK
open Go.ChangeShapes Go.WideShapes Go.ChangeAt Go.RowKit

theorem params : Tryz.f8.params.toList = [46, 49] := by kernel_rfl
theorem types_ok : ∀ t ∈ Tryz.f8.params.toList, t < Tryz.prog.types.size ∧ Tryz.prog.readableRec t = true := by
  rw [params]; intro t ht
  have h_0 : 46 < Tryz.prog.types.size ∧ Tryz.prog.readableRec 46 = true := ⟨of_decide_eq_true (by kernel_rfl), by kernel_rfl⟩
  have h_1 : 49 < Tryz.prog.types.size ∧ Tryz.prog.readableRec 49 = true := ⟨of_decide_eq_true (by kernel_rfl), by kernel_rfl⟩
  simp only [List.mem_cons, List.not_mem_nil, or_false] at ht
  rcases ht with rfl | rfl
  · exact h_0
  · exact h_1

set_option maxRecDepth 100000 in
theorem contract (HA : Awake6Ok) (H : Type) (enc : TypeId × Value → H) (W : World) (base : Nat) (args : Array Value) (ds gs : List (DataW H)) (before : List MemPlace)
    (hval : ∀ (j : Nat) t v, Tryz.f8.params[j]? = some t → args[j]? = some v → Value.okWide Tryz.prog W .any base t v)
    (hW : DataW.Whole enc Tryz.prog Tryz.f8.params.toList Rows.exponentCheckSpec.vars false W args.toList ds gs before) :
    Calls Tryz.prog 8 args W fun e W' => ∃ v, e = .returned v ∧ Rows.exponentCheckSpec.post enc Tryz.prog Tryz.f8 false true false false W args v W' := by
  have hW' := hW
  obtain ⟨p, q, hA, hV, rfl, hfz, hnd⟩ := hW
  rw [params] at hA
  obtain ⟨v0, v1, d0, d1, p0, p1, rfl, rfl, rfl, h0, h1⟩ := trodAll_two hA
  obtain ⟨L, mix, rest, x0, x1, x2, k0, k1, k2, rfl, ⟨hl0, hl1, hl2⟩, hR0, hR1, hR2⟩ := open_draft6 (hval 0 46 v0 (by kernel_rfl) rfl) h0
  obtain ⟨cs, hC⟩ := open_ints_any (hval 1 49 v1 (by kernel_rfl) rfl) h1
  obtain ⟨xc, kc, rfl, hI⟩ := IntR_of (IntsC_V hC)
  refine (laK_any HA L mix rest cs x0 x1 x2 xc k0 k1 k2 kc W hl0 hl1 hl2 hR0 hR1 hR2 hI hC).mono fun e W' ⟨he, hB⟩ => ?_
  exact ⟨_, he, post_true rfl rfl (by kernel_rfl) types_ok hW' hB⟩

/-- A world with nothing laid: the law speaks of no package variable. -/
noncomputable def startW (os : Os) : World := World.holding Tryz.prog os ⟨#[], #[], []⟩

theorem laid_met (os : Os) : laidMet Tryz.prog Rows.exponentCheckRow.laid ((startW os).forCall (fun _ _ => 0) ⟨#[], #[.agg #[.slice none 0 0, .slice none 0 0, .slice none 0 0], .slice none 0 0], []⟩).memory :=
  laidMet_of_run' 8 (by kernel_rfl) (by kernel_rfl)
theorem reads (os : Os) {H : Type} (enc : TypeId × Value → H) : ∃ places, DataW.whole enc Tryz.prog ((startW os).forCall (fun _ _ => 0) ⟨#[], #[.agg #[.slice none 0 0, .slice none 0 0, .slice none 0 0], .slice none 0 0], []⟩).memory Tryz.f8.params.toList Rows.exponentCheckSpec.vars false (#[.agg #[.slice none 0 0, .slice none 0 0, .slice none 0 0], .slice none 0 0] : Array Value).toList 8 = some ([.agg [.nil, .nil, .nil], .nil], [], places) :=
  ⟨[], by kernel_rfl⟩

set_option maxRecDepth 100000 in
theorem lifted (HA : Awake6Ok) (os : Os) (started : os.Started) (H : Type) (enc : TypeId × Value → H) (F : Stop.Interp) :
    ReturnsInHanded {} Tryz.checked os 8 .any ((OpenSpec.ofChange Rows.exponentCheckSpec).preRow enc Tryz.prog Tryz.f8 Rows.exponentCheckRow.domain false Rows.exponentCheckRow.laid) (((OpenSpec.ofChange Rows.exponentCheckSpec).at F).post enc Tryz.prog Tryz.f8 false true false false) := by
  obtain ⟨places, hx⟩ := reads os enc
  refine returnsInHanded_of_row (C := Tryz.checked) (s := OpenSpec.ofChange Rows.exponentCheckSpec) own started (by kernel_rfl) Tryz.func8
    (witness_row_at (enc := enc) (C := Tryz.checked) false (startW os) #[.agg #[.slice none 0 0, .slice none 0 0, .slice none 0 0], .slice none 0 0] rfl (by kernel_rfl) (by kernel_rfl) (by kernel_rfl)
      (OpenSpec.preRow_of_cond 8 hx (by kernel_rfl) (fun k hk => by cases hk) (by kernel_rfl) (laid_met os))) ?_
  intro W base args ds gs before hval hW _ _ _ _ _ _
  exact contract HA H enc W base args ds gs before hval hW

theorem said : Rows.ExponentCheckSaid :=
  OpenClaim.holds_of_cond 8 Tryz.f8 rfl rfl rfl rfl rfl rfl rfl ⟨rfl, rfl, rfl, rfl, rfl⟩ rfl rfl rfl rfl rfl (by kernel_rfl) Tryz.func8 (by kernel_rfl)
    (of_decide_eq_true (by kernel_rfl)) (by unfold Func.isWrapper; first | (rw [if_pos (by decide +kernel)]; kernel_rfl) | (rw [if_neg (by decide +kernel)]; exact ⟨rfl, rfl⟩))
    (fun os started H enc _ F => by rw [OpenClaim.pre_eq_preRow]; exact lifted awake6_any os started H enc F)
end Go.Proofs.YtcieadjjcpmieaaGreat.lawPlK
