/- The law ExponentTerm: for every list of powers, Term and Inverse return what the reference returns, where the list is small; the law returns true, and the list reads behind the call as it did. No condition. -/
import Derived.Test.YtgloecnmjieaiaaGreatOpen
import Derived.Test.YtgloecnmjieaiaaGreatPinv
import Derived.Test.YtgloecnmjieaiaaGreatPawk2
import Derived.Test.YtgloecnmjieaiaaGreatRows
namespace Go.Proofs.YtgloecnmjieaiaaGreat.lawPlT
open Go.ChangeShapes Go.WideShapes Go.ChangeAt Go.RowKit

theorem params : Tryz.f4.params.toList = [27] := by kernel_rfl
theorem types_ok : ∀ t ∈ Tryz.f4.params.toList, t < Tryz.prog.types.size ∧ Tryz.prog.readableRec t = true := by
  rw [params]; intro t ht
  have h_0 : 27 < Tryz.prog.types.size ∧ Tryz.prog.readableRec 27 = true := ⟨of_decide_eq_true (by kernel_rfl), by kernel_rfl⟩
  simp only [List.mem_cons, List.not_mem_nil, or_false] at ht
  subst ht; exact h_0

set_option maxRecDepth 100000 in
theorem contract (HA : Awake6Ok) (H : Type) (enc : TypeId × Value → H) (W : World) (base : Nat) (args : Array Value) (ds gs : List (DataW H)) (before : List MemPlace) (vs : List TypeId)
    (hval : ∀ (j : Nat) t v, Tryz.f4.params[j]? = some t → args[j]? = some v → Value.okWide Tryz.prog W .any base t v)
    (hW : DataW.Whole enc Tryz.prog Tryz.f4.params.toList Rows.exponentTermSpec.vars false W args.toList ds gs before) (hS : (DataW.weightsEach Tryz.prog (Tryz.f4.params.toList ++ vs) (ds ++ gs)).all (· ≤ reachBytes) = true) :
    Calls Tryz.prog 4 args W fun e W' => ∃ v, e = .returned v ∧ Rows.exponentTermSpec.post enc Tryz.prog Tryz.f4 false true false false W args v W' := by
  have hW' := hW
  obtain ⟨p, q, hA, hV, rfl, hfz, hnd⟩ := hW
  rw [params] at hA hS
  obtain ⟨v0, d0, rfl, rfl, h0⟩ := trodAll_one hA
  obtain ⟨ps, xa, cap, rfl, hcap, _, hR, hd⟩ := open_powers (hval 0 27 v0 (by kernel_rfl) rfl) h0
  have hb := powers_bytes hS (j := 0) rfl rfl hd
  refine (laT_any HA ps xa cap W hcap hb hR).mono fun e W' ⟨he, hB⟩ => ?_
  exact ⟨_, he, post_true rfl rfl (by kernel_rfl) types_ok hW' hB⟩

/-- A world with nothing laid: the law speaks of no package variable. -/
noncomputable def startW (os : Os) : World := World.holding Tryz.prog os ⟨#[], #[], []⟩

theorem laid_met (os : Os) : laidMet Tryz.prog Rows.exponentTermRow.laid ((startW os).forCall (fun _ _ => 0) ⟨#[], #[vInts], []⟩).memory :=
  laidMet_of_run' 8 (by kernel_rfl) (by kernel_rfl)
theorem reads (os : Os) {H : Type} (enc : TypeId × Value → H) : ∃ places, DataW.whole enc Tryz.prog ((startW os).forCall (fun _ _ => 0) ⟨#[], #[vInts], []⟩).memory Tryz.f4.params.toList Rows.exponentTermSpec.vars false (#[vInts] : Array Value).toList 8 = some ([.nil], [], places) :=
  ⟨[], by kernel_rfl⟩

set_option maxRecDepth 100000 in
theorem lifted (HA : Awake6Ok) (os : Os) (started : os.Started) (H : Type) (enc : TypeId × Value → H) (F : Stop.Interp) :
    ReturnsInHanded {} Tryz.checked os 4 .any ((OpenSpec.ofChange Rows.exponentTermSpec).preRow enc Tryz.prog Tryz.f4 Rows.exponentTermRow.domain false Rows.exponentTermRow.laid) (((OpenSpec.ofChange Rows.exponentTermSpec).at F).post enc Tryz.prog Tryz.f4 false true false false) := by
  obtain ⟨places, hx⟩ := reads os enc
  refine returnsInHanded_of_row (C := Tryz.checked) (s := OpenSpec.ofChange Rows.exponentTermSpec) own started (by kernel_rfl) Tryz.func4
    (witness_row_at (enc := enc) (C := Tryz.checked) false (startW os) #[vInts] rfl (by kernel_rfl) (by kernel_rfl) (by kernel_rfl)
      (OpenSpec.preRow_of_cond 8 hx (by kernel_rfl) (fun k hk => by cases hk) (by kernel_rfl) (laid_met os))) ?_
  intro W base args ds gs before hval hW _ _ hS _ _ _
  exact contract HA H enc W base args ds gs before _ hval hW hS

theorem said : Rows.ExponentTermSaid :=
  OpenClaim.holds_of_cond 4 Tryz.f4 rfl rfl rfl rfl rfl rfl rfl ⟨rfl, rfl, rfl, rfl, rfl⟩ rfl rfl rfl rfl rfl (by kernel_rfl) Tryz.func4 (by kernel_rfl)
    (of_decide_eq_true (by kernel_rfl)) (by unfold Func.isWrapper; first | (rw [if_pos (by decide +kernel)]; kernel_rfl) | (rw [if_neg (by decide +kernel)]; exact ⟨rfl, rfl⟩))
    (fun os started H enc _ F => by rw [OpenClaim.pre_eq_preRow]; exact lifted awake6_any os started H enc F)
end Go.Proofs.YtgloecnmjieaiaaGreat.lawPlT
