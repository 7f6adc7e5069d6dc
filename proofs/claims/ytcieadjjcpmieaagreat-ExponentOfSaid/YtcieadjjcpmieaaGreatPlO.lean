/- The law ExponentOf: for every term, Of returns what the reference returns, where the term is small, and the term of a product has that product; the law returns true, and the term reads behind the call as it did. No condition. -/
import Derived.Test.YtcieadjjcpmieaaGreatOpen
import Derived.Test.YtcieadjjcpmieaaGreatPlaO
import Derived.Test.YtcieadjjcpmieaaGreatPawk2
import Derived.Test.YtcieadjjcpmieaaGreatRows
namespace Go.Proofs.YtcieadjjcpmieaaGreat.lawPlO
open Go.ChangeShapes Go.WideShapes Go.ChangeAt Go.RowKit

def vTm : Value := .agg #[.int .i64 0, .string ⟨#[]⟩, .int .i64 0, .slice none 0 0]
theorem params : Tryz.f3.params.toList = [24] := by kernel_rfl
theorem types_ok : ∀ t ∈ Tryz.f3.params.toList, t < Tryz.prog.types.size ∧ Tryz.prog.readableRec t = true := by
  rw [params]; intro t ht
  have h_0 : 24 < Tryz.prog.types.size ∧ Tryz.prog.readableRec 24 = true := ⟨of_decide_eq_true (by kernel_rfl), by kernel_rfl⟩
  simp only [List.mem_cons, List.not_mem_nil, or_false] at ht
  subst ht; exact h_0

set_option maxRecDepth 100000 in
theorem contract (HA : Awake6Ok) (H : Type) (enc : TypeId × Value → H) (W : World) (base : Nat) (args : Array Value) (ds gs : List (DataW H)) (before : List MemPlace)
    (hval : ∀ (j : Nat) t v, Tryz.f3.params[j]? = some t → args[j]? = some v → Value.okWide Tryz.prog W .any base t v)
    (hW : DataW.Whole enc Tryz.prog Tryz.f3.params.toList Rows.exponentOfSpec.vars false W args.toList ds gs before) :
    Calls Tryz.prog 3 args W fun e W' => ∃ v, e = .returned v ∧ Rows.exponentOfSpec.post enc Tryz.prog Tryz.f3 false true false false W args v W' := by
  have hW' := hW
  obtain ⟨p, q, hA, hV, rfl, hfz, hnd⟩ := hW
  rw [params] at hA
  obtain ⟨v0, d0, rfl, rfl, h0⟩ := trodAll_one hA
  obtain ⟨t0, a0, b0, c0, e0, rfl, hI0⟩ := open_term (hval 0 24 v0 (by kernel_rfl) rfl) h0
  refine (laO_any HA t0 a0 b0 c0 e0 W hI0).mono fun e W' ⟨he, hB⟩ => ?_
  exact ⟨_, he, post_true rfl rfl (by kernel_rfl) types_ok hW' hB⟩

/-- A world with nothing laid: the law speaks of no package variable. -/
noncomputable def startW (os : Os) : World := World.holding Tryz.prog os ⟨#[], #[], []⟩

theorem laid_met (os : Os) : laidMet Tryz.prog Rows.exponentOfRow.laid ((startW os).forCall (fun _ _ => 0) ⟨#[], #[vTm], []⟩).memory :=
  laidMet_of_run' 8 (by kernel_rfl) (by kernel_rfl)
theorem reads (os : Os) {H : Type} (enc : TypeId × Value → H) : ∃ places, DataW.whole enc Tryz.prog ((startW os).forCall (fun _ _ => 0) ⟨#[], #[vTm], []⟩).memory Tryz.f3.params.toList Rows.exponentOfSpec.vars false (#[vTm] : Array Value).toList 8 = some ([.agg [.lit (.int .i64 0), .lit (.string []), .lit (.int .i64 0), .nil]], [], places) :=
  ⟨[], by kernel_rfl⟩

set_option maxRecDepth 100000 in
theorem lifted (HA : Awake6Ok) (os : Os) (started : os.Started) (H : Type) (enc : TypeId × Value → H) (F : Stop.Interp) :
    ReturnsInHanded {} Tryz.checked os 3 .any ((OpenSpec.ofChange Rows.exponentOfSpec).preRow enc Tryz.prog Tryz.f3 Rows.exponentOfRow.domain false Rows.exponentOfRow.laid) (((OpenSpec.ofChange Rows.exponentOfSpec).at F).post enc Tryz.prog Tryz.f3 false true false false) := by
  obtain ⟨places, hx⟩ := reads os enc
  refine returnsInHanded_of_row (C := Tryz.checked) (s := OpenSpec.ofChange Rows.exponentOfSpec) own started (by kernel_rfl) Tryz.func3
    (witness_row_at (enc := enc) (C := Tryz.checked) false (startW os) #[vTm] rfl (by kernel_rfl) (by kernel_rfl) (by kernel_rfl)
      (OpenSpec.preRow_of_cond 8 hx (by kernel_rfl) (fun k hk => by cases hk) (by kernel_rfl) (laid_met os))) ?_
  intro W base args ds gs before hval hW _ _ _ _ _ _
  exact contract HA H enc W base args ds gs before hval hW

theorem said : Rows.ExponentOfSaid :=
  OpenClaim.holds_of_cond 3 Tryz.f3 rfl rfl rfl rfl rfl rfl rfl ⟨rfl, rfl, rfl, rfl, rfl⟩ rfl rfl rfl rfl rfl (by kernel_rfl) Tryz.func3 (by kernel_rfl)
    (of_decide_eq_true (by kernel_rfl)) (by unfold Func.isWrapper; first | (rw [if_pos (by decide +kernel)]; kernel_rfl) | (rw [if_neg (by decide +kernel)]; exact ⟨rfl, rfl⟩))
    (fun os started H enc _ F => by rw [OpenClaim.pre_eq_preRow]; exact lifted awake6_any os started H enc F)
end Go.Proofs.YtcieadjjcpmieaaGreat.lawPlO
