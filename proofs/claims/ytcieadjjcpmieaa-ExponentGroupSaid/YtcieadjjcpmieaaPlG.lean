/- The law ExponentGroup: for every three lists of powers of the six nonces, products form a commutative group, and the product of a mul of terms is the product of theirs; the law returns true, and the lists read behind the call as they did. No condition. -/
import Derived.Test.YtcieadjjcpmieaaOpen
import Derived.Test.YtcieadjjcpmieaaPlaG
import Derived.Test.YtcieadjjcpmieaaPall
import Derived.Test.YtcieadjjcpmieaaPawk2
import Derived.Test.YtcieadjjcpmieaaRows
namespace Go.Proofs.Ytcieadjjcpmieaa.lawPlG
open Go.ChangeShapes Go.WideShapes Go.ChangeAt Go.RowKit

theorem params : Try.f3.params.toList = [22, 22, 22] := by kernel_rfl
theorem types_ok : ∀ t ∈ Try.f3.params.toList, t < Try.prog.types.size ∧ Try.prog.readableRec t = true := by
  rw [params]; intro t ht
  have h_0 : 22 < Try.prog.types.size ∧ Try.prog.readableRec 22 = true := ⟨of_decide_eq_true (by kernel_rfl), by kernel_rfl⟩
  simp only [List.mem_cons, List.not_mem_nil, or_false] at ht
  rcases ht with rfl | rfl | rfl
  · exact h_0
  · exact h_0
  · exact h_0

set_option maxRecDepth 100000 in
theorem contract (HA : Awake6Ok) (H : Type) (enc : TypeId × Value → H) (W : World) (base : Nat) (args : Array Value) (ds gs : List (DataW H)) (before : List MemPlace)
    (hval : ∀ (j : Nat) t v, Try.f3.params[j]? = some t → args[j]? = some v → Value.okWide Try.prog W .any base t v)
    (hW : DataW.Whole enc Try.prog Try.f3.params.toList Rows.exponentGroupSpec.vars false W args.toList ds gs before) :
    Calls Try.prog 3 args W fun e W' => ∃ v, e = .returned v ∧ Rows.exponentGroupSpec.post enc Try.prog Try.f3 false true false false W args v W' := by
  have hW' := hW
  obtain ⟨p, q, hA, hV, rfl, hfz, hnd⟩ := hW
  rw [params] at hA
  obtain ⟨v0, v1, v2, d0, d1, d2, p0, p1, p2, rfl, rfl, rfl, h0, h1, h2⟩ := trodAll_three hA
  obtain ⟨a, xa, ca, rfl, hla, hRa⟩ := open_i8 (hval 0 22 v0 (by kernel_rfl) rfl) h0
  obtain ⟨b, xb, cb, rfl, hlb, hRb⟩ := open_i8 (hval 1 22 v1 (by kernel_rfl) rfl) h1
  obtain ⟨c, xc, cc, rfl, hlc, hRc⟩ := open_i8 (hval 2 22 v2 (by kernel_rfl) rfl) h2
  refine (laG_any HA a b c xa xb xc ca cb cc W hla hlb hlc hRa hRb hRc).mono fun e W' ⟨he, hB⟩ => ?_
  exact ⟨_, he, post_true rfl rfl (by kernel_rfl) types_ok hW' hB⟩

/-- A world with nothing laid: the law speaks of no package variable. -/
noncomputable def startW (os : Os) : World := World.holding Try.prog os ⟨#[], #[], []⟩

theorem laid_met (os : Os) : laidMet Try.prog Rows.exponentGroupRow.laid ((startW os).forCall (fun _ _ => 0) ⟨#[], #[.slice none 0 0, .slice none 0 0, .slice none 0 0], []⟩).memory :=
  laidMet_of_run' 8 (by kernel_rfl) (by kernel_rfl)
theorem reads (os : Os) {H : Type} (enc : TypeId × Value → H) : ∃ places, DataW.whole enc Try.prog ((startW os).forCall (fun _ _ => 0) ⟨#[], #[.slice none 0 0, .slice none 0 0, .slice none 0 0], []⟩).memory Try.f3.params.toList Rows.exponentGroupSpec.vars false (#[.slice none 0 0, .slice none 0 0, .slice none 0 0] : Array Value).toList 8 = some ([.nil, .nil, .nil], [], places) :=
  ⟨[], by kernel_rfl⟩

set_option maxRecDepth 100000 in
theorem lifted (HA : Awake6Ok) (os : Os) (started : os.Started) (H : Type) (enc : TypeId × Value → H) (F : Stop.Interp) :
    ReturnsInHanded {} Try.checked os 3 .any ((OpenSpec.ofChange Rows.exponentGroupSpec).preRow enc Try.prog Try.f3 Rows.exponentGroupRow.domain false Rows.exponentGroupRow.laid) (((OpenSpec.ofChange Rows.exponentGroupSpec).at F).post enc Try.prog Try.f3 false true false false) := by
  obtain ⟨places, hx⟩ := reads os enc
  refine returnsInHanded_of_row (C := Try.checked) (s := OpenSpec.ofChange Rows.exponentGroupSpec) own started (by kernel_rfl) Try.func3
    (witness_row_at (enc := enc) (C := Try.checked) false (startW os) #[.slice none 0 0, .slice none 0 0, .slice none 0 0] rfl (by kernel_rfl) (by kernel_rfl) (by kernel_rfl)
      (OpenSpec.preRow_of_cond 8 hx (by kernel_rfl) (fun k hk => by cases hk) (by kernel_rfl) (laid_met os))) ?_
  intro W base args ds gs before hval hW _ _ _ _ _ _
  exact contract HA H enc W base args ds gs before hval hW

theorem said : Rows.ExponentGroupSaid :=
  OpenClaim.holds_of_cond 3 Try.f3 rfl rfl rfl rfl rfl rfl rfl ⟨rfl, rfl, rfl, rfl, rfl⟩ rfl rfl rfl rfl rfl (by kernel_rfl) Try.func3 (by kernel_rfl)
    (of_decide_eq_true (by kernel_rfl)) (by unfold Func.isWrapper; first | (rw [if_pos (by decide +kernel)]; kernel_rfl) | (rw [if_neg (by decide +kernel)]; exact ⟨rfl, rfl⟩))
    (fun os started H enc _ F => by rw [OpenClaim.pre_eq_preRow]; exact lifted awake6_any os started H enc F)
end Go.Proofs.Ytcieadjjcpmieaa.lawPlG
