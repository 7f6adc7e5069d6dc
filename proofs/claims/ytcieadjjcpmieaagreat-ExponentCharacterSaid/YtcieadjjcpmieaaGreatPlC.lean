/- The law ExponentCharacter: for every draft and every character, CheckRefute reports what the reference reports, where both are small; the law returns true, and the arguments read behind the call as they did. No condition. -/
import Derived.Test.YtcieadjjcpmieaaGreatOpen
import Derived.Test.YtcieadjjcpmieaaGreatPlaC
import Derived.Test.YtcieadjjcpmieaaGreatPawk2
import Derived.Test.YtcieadjjcpmieaaGreatRows
namespace Go.Proofs.YtcieadjjcpmieaaGreat.lawPlC
open Go.ChangeShapes Go.WideShapes Go.ChangeAt Go.RowKit

theorem params : Tryz.f9.params.toList = [46, 53] := by kernel_rfl
theorem types_ok : ∀ t ∈ Tryz.f9.params.toList, t < Tryz.prog.types.size ∧ Tryz.prog.readableRec t = true := by
  rw [params]; intro t ht
  have h_0 : 46 < Tryz.prog.types.size ∧ Tryz.prog.readableRec 46 = true := ⟨of_decide_eq_true (by kernel_rfl), by kernel_rfl⟩
  have h_1 : 53 < Tryz.prog.types.size ∧ Tryz.prog.readableRec 53 = true := ⟨of_decide_eq_true (by kernel_rfl), by kernel_rfl⟩
  simp only [List.mem_cons, List.not_mem_nil, or_false] at ht
  rcases ht with rfl | rfl
  · exact h_0
  · exact h_1

set_option maxRecDepth 100000 in
theorem contract (HA : Awake6Ok) (H : Type) (enc : TypeId × Value → H) (W : World) (base : Nat) (args : Array Value) (ds gs : List (DataW H)) (before : List MemPlace) (vs : List TypeId)
    (hval : ∀ (j : Nat) t v, Tryz.f9.params[j]? = some t → args[j]? = some v → Value.okWide Tryz.prog W .any base t v)
    (hW : DataW.Whole enc Tryz.prog Tryz.f9.params.toList Rows.exponentCharacterSpec.vars false W args.toList ds gs before) (hS : (DataW.weightsEach Tryz.prog (Tryz.f9.params.toList ++ vs) (ds ++ gs)).all (· ≤ reachBytes) = true) :
    Calls Tryz.prog 9 args W fun e W' => ∃ v, e = .returned v ∧ Rows.exponentCharacterSpec.post enc Tryz.prog Tryz.f9 false true false false W args v W' := by
  have hW' := hW
  obtain ⟨p, q, hA, hV, rfl, hfz, hnd⟩ := hW
  rw [params] at hA hS
  obtain ⟨v0, v1, d0, d1, p0, p1, rfl, rfl, rfl, h0, h1⟩ := trodAll_two hA
  obtain ⟨L, mix, rest, x0, x1, x2, k0, k1, k2, rfl, ⟨hl0, hl1, hl2⟩, hR0, hR1, hR2⟩ := open_draft6 (hval 0 46 v0 (by kernel_rfl) rfl) h0
  obtain ⟨md, vs, xv, cv, rfl, hmo, hcv, _, hRv, e0, e1, rfl, hd⟩ := open_char (hval 1 53 v1 (by kernel_rfl) rfl) h1
  have hb := char_bytes hS (j := 1) rfl rfl hd
  refine (laC_any HA L mix rest md vs x0 x1 x2 xv k0 k1 k2 cv W hl0 hl1 hl2 hR0 hR1 hR2 hmo hcv hb hRv).mono fun e W' ⟨he, hB⟩ => ?_
  exact ⟨_, he, post_true rfl rfl (by kernel_rfl) types_ok hW' hB⟩

/-- A world with nothing laid: the law speaks of no package variable. -/
noncomputable def startW (os : Os) : World := World.holding Tryz.prog os ⟨#[], #[], []⟩

theorem laid_met (os : Os) : laidMet Tryz.prog Rows.exponentCharacterRow.laid ((startW os).forCall (fun _ _ => 0) ⟨#[], #[.agg #[.slice none 0 0, .slice none 0 0, .slice none 0 0], .agg #[.int .i64 0, .slice none 0 0]], []⟩).memory :=
  laidMet_of_run' 8 (by kernel_rfl) (by kernel_rfl)
theorem reads (os : Os) {H : Type} (enc : TypeId × Value → H) : ∃ places, DataW.whole enc Tryz.prog ((startW os).forCall (fun _ _ => 0) ⟨#[], #[.agg #[.slice none 0 0, .slice none 0 0, .slice none 0 0], .agg #[.int .i64 0, .slice none 0 0]], []⟩).memory Tryz.f9.params.toList Rows.exponentCharacterSpec.vars false (#[.agg #[.slice none 0 0, .slice none 0 0, .slice none 0 0], .agg #[.int .i64 0, .slice none 0 0]] : Array Value).toList 8 = some ([.agg [.nil, .nil, .nil], .agg [.lit (.int .i64 0), .nil]], [], places) :=
  ⟨[], by kernel_rfl⟩

set_option maxRecDepth 100000 in
theorem lifted (HA : Awake6Ok) (os : Os) (started : os.Started) (H : Type) (enc : TypeId × Value → H) (F : Stop.Interp) :
    ReturnsInHanded {} Tryz.checked os 9 .any ((OpenSpec.ofChange Rows.exponentCharacterSpec).preRow enc Tryz.prog Tryz.f9 Rows.exponentCharacterRow.domain false Rows.exponentCharacterRow.laid) (((OpenSpec.ofChange Rows.exponentCharacterSpec).at F).post enc Tryz.prog Tryz.f9 false true false false) := by
  obtain ⟨places, hx⟩ := reads os enc
  refine returnsInHanded_of_row (C := Tryz.checked) (s := OpenSpec.ofChange Rows.exponentCharacterSpec) own started (by kernel_rfl) Tryz.func9
    (witness_row_at (enc := enc) (C := Tryz.checked) false (startW os) #[.agg #[.slice none 0 0, .slice none 0 0, .slice none 0 0], .agg #[.int .i64 0, .slice none 0 0]] rfl (by kernel_rfl) (by kernel_rfl) (by kernel_rfl)
      (OpenSpec.preRow_of_cond 8 hx (by kernel_rfl) (fun k hk => by cases hk) (by kernel_rfl) (laid_met os))) ?_
  intro W base args ds gs before hval hW _ _ hS _ _ _
  exact contract HA H enc W base args ds gs before _ hval hW hS

theorem said : Rows.ExponentCharacterSaid :=
  OpenClaim.holds_of_cond 9 Tryz.f9 rfl rfl rfl rfl rfl rfl rfl ⟨rfl, rfl, rfl, rfl, rfl⟩ rfl rfl rfl rfl rfl (by kernel_rfl) Tryz.func9 (by kernel_rfl)
    (of_decide_eq_true (by kernel_rfl)) (by unfold Func.isWrapper; first | (rw [if_pos (by decide +kernel)]; kernel_rfl) | (rw [if_neg (by decide +kernel)]; exact ⟨rfl, rfl⟩))
    (fun os started H enc _ F => by rw [OpenClaim.pre_eq_preRow]; exact lifted awake6_any os started H enc F)
end Go.Proofs.YtcieadjjcpmieaaGreat.lawPlC
