/- The law ExponentMul, second form: for every two lists of powers and every number, Mul and Times return what the reference's return, where the lists are small; the law returns true, and the arguments read behind the call as they did. Condition: what is read is of bulk at most 1048576. -/
import Derived.Test.YtgloecnmjieaiaaGreatOpen
import Derived.Test.YtgloecnmjieaiaaGreatPlaM
import Derived.Test.YtgloecnmjieaiaaGreatPawk2
import Derived.Test.YtgloecnmjieaiaaGreatRows
namespace Go.Proofs.YtgloecnmjieaiaaGreat.lawPlM
open Go.ChangeShapes Go.WideShapes Go.ChangeAt Go.RowKit

theorem bulk_one {H : Type} (d : DataW H) : 1 ≤ Rows.uptoBulk d := by
  cases d with
  | lit l => cases l <;> simp [Rows.uptoBulk]
  | nil => simp [Rows.uptoBulk]
  | ptr d => simp [Rows.uptoBulk]
  | slice elems spare => simp [Rows.uptoBulk]
  | agg parts => simp [Rows.uptoBulk]
  | iface t d => simp [Rows.uptoBulk]
  | map es => simp [Rows.uptoBulk]
  | held x => simp [Rows.uptoBulk]
theorem bulk_all {H : Type} : ∀ l : List (DataW H), l.length ≤ Rows.uptoBulkAll l
  | [] => by simp
  | d :: r => by
    have h1 := bulk_one d
    have h2 := bulk_all r
    rw [Rows.uptoBulkAll, List.length_cons]; omega
theorem bulk_pow {H : Type} {ps : List Pw} {d : DataW H} (h : ps = [] ∨ ∃ elems spare, d = .slice elems spare ∧ elems.length = ps.length) : ps.length ≤ Rows.uptoBulk d := by
  rcases h with rfl | ⟨elems, spare, rfl, e⟩
  · simp
  · have := bulk_all elems
    rw [Rows.uptoBulk]; omega

theorem params : Tryz.f5.params.toList = [27, 27, 3] := by kernel_rfl
theorem types_ok : ∀ t ∈ Tryz.f5.params.toList, t < Tryz.prog.types.size ∧ Tryz.prog.readableRec t = true := by
  rw [params]; intro t ht
  have h_0 : 27 < Tryz.prog.types.size ∧ Tryz.prog.readableRec 27 = true := ⟨of_decide_eq_true (by kernel_rfl), by kernel_rfl⟩
  have h_1 : 3 < Tryz.prog.types.size ∧ Tryz.prog.readableRec 3 = true := ⟨of_decide_eq_true (by kernel_rfl), by kernel_rfl⟩
  simp only [List.mem_cons, List.not_mem_nil, or_false] at ht
  rcases ht with rfl | rfl | rfl
  · exact h_0
  · exact h_0
  · exact h_1
set_option maxRecDepth 100000 in
theorem contract (HA : Awake6Ok) (H : Type) (enc : TypeId × Value → H) (W : World) (base : Nat) (args : Array Value) (ds gs : List (DataW H)) (before : List MemPlace)
    (hval : ∀ (j : Nat) t v, Tryz.f5.params[j]? = some t → args[j]? = some v → Value.okWide Tryz.prog W .any base t v)
    (hW : DataW.Whole enc Tryz.prog Tryz.f5.params.toList Rows.exponentMulSpec.vars false W args.toList ds gs before) (hk : Rows.uptoSmall H (ds ++ gs) = true) :
    Calls Tryz.prog 5 args W fun e W' => ∃ v, e = .returned v ∧ Rows.exponentMulSpec.post enc Tryz.prog Tryz.f5 false true false false W args v W' := by
  have hW' := hW
  obtain ⟨p, q, hA, hV, rfl, hfz, hnd⟩ := hW
  rw [params] at hA
  obtain ⟨v0, v1, v2, d0, d1, d2, p0, p1, p2, rfl, rfl, rfl, h0, h1, h2⟩ := trodAll_three hA
  obtain ⟨a, xa, ca, rfl, hca, _, hRa, hda⟩ := open_powers (hval 0 27 v0 (by kernel_rfl) rfl) h0
  obtain ⟨b, xb, cb, rfl, hcb, _, hRb, hdb⟩ := open_powers (hval 1 27 v1 (by kernel_rfl) rfl) h1
  obtain ⟨n, rfl⟩ := okWide_int Tryz.underlying3 (hval 2 3 v2 (by kernel_rfl) rfl)
  have h : Rows.uptoBulkAll ([d0, d1, d2] ++ gs) ≤ 1048576 := of_decide_eq_true hk
  simp only [List.cons_append, List.nil_append, Rows.uptoBulkAll] at h
  have ha := bulk_pow hda
  have hb := bulk_pow hdb
  refine (laM_any HA a b n xa xb ca cb W hca hcb (by omega) hRa hRb).mono fun e W' ⟨he, hB⟩ => ?_
  exact ⟨_, he, post_true rfl rfl (by kernel_rfl) types_ok hW' hB⟩

/-- A world with nothing laid: the law speaks of no package variable. -/
noncomputable def startW (os : Os) : World := World.holding Tryz.prog os ⟨#[], #[], []⟩

theorem laid_met (os : Os) : laidMet Tryz.prog Rows.exponentMulUptoRow.laid ((startW os).forCall (fun _ _ => 0) ⟨#[], #[vInts, vInts, .int .i64 0], []⟩).memory :=
  laidMet_of_run' 8 (by kernel_rfl) (by kernel_rfl)
theorem reads (os : Os) {H : Type} (enc : TypeId × Value → H) : ∃ places, DataW.whole enc Tryz.prog ((startW os).forCall (fun _ _ => 0) ⟨#[], #[vInts, vInts, .int .i64 0], []⟩).memory Tryz.f5.params.toList Rows.exponentMulSpec.vars false (#[vInts, vInts, .int .i64 0] : Array Value).toList 8 = some ([.nil, .nil, .lit (.int .i64 0)], [], places) :=
  ⟨[], by kernel_rfl⟩

set_option maxRecDepth 100000 in
theorem lifted (HA : Awake6Ok) (os : Os) (started : os.Started) (H : Type) (enc : TypeId × Value → H) (F : Stop.Interp) :
    ReturnsInHanded {} Tryz.checked os 5 .any ((Rows.OpenSpec.upto Rows.exponentMulSpec).preRow enc Tryz.prog Tryz.f5 Rows.exponentMulUptoRow.domain false Rows.exponentMulUptoRow.laid) (((Rows.OpenSpec.upto Rows.exponentMulSpec).at F).post enc Tryz.prog Tryz.f5 false true false false) := by
  obtain ⟨places, hx⟩ := reads os enc
  refine returnsInHanded_of_row (C := Tryz.checked) (s := Rows.OpenSpec.upto Rows.exponentMulSpec) own started (by kernel_rfl) Tryz.func5
    (witness_row_at (enc := enc) (C := Tryz.checked) false (startW os) #[vInts, vInts, .int .i64 0] rfl (by kernel_rfl) (by kernel_rfl) (by kernel_rfl)
      (OpenSpec.preRow_of_cond 8 hx (by kernel_rfl) (fun k hk => by cases hk; kernel_rfl) (by kernel_rfl) (laid_met os))) ?_
  intro W base args ds gs before hval hW _ hcond _ _ _ _
  exact contract HA H enc W base args ds gs before hval hW (hcond _ rfl)

theorem said : Rows.ExponentMulUptoSaid :=
  OpenClaim.holds_of_cond 5 Tryz.f5 rfl rfl rfl rfl rfl rfl rfl ⟨rfl, rfl, rfl, rfl, rfl⟩ rfl rfl rfl rfl rfl (by kernel_rfl) Tryz.func5 (by kernel_rfl)
    (of_decide_eq_true (by kernel_rfl)) (by unfold Func.isWrapper; first | (rw [if_pos (by decide +kernel)]; kernel_rfl) | (rw [if_neg (by decide +kernel)]; exact ⟨rfl, rfl⟩))
    (fun os started H enc _ F => by rw [OpenClaim.pre_eq_preRow]; exact lifted awake6_any os started H enc F)
end Go.Proofs.YtgloecnmjieaiaaGreat.lawPlM
