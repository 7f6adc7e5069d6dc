/-
  THE PARSER's RECORD IN MEMORY; THE WALK OF take.
-/
import Derived.Test.YtkdnfioihhfmpaaGreatDoorName
import Derived.Test.YtkdnfioihhfmpaaGreatDoorMem
import Derived.Deep.RegionHeld3
import Derived.StillTactics
namespace Go.Proofs.YtkdnfioihhfmpaaGreatDoor
open Go.RowKit

/-- The parser's block: what has not been read, the open applications, and the rest of its fields. -/
def PS (w : World) (pb : Nat) (rest : ByteArray) (ov : Value) (nodes : Int) (large whole : Bool) (r0 r1 r2 r3 : Value) : Prop :=
  w.heap[pb]? = some (.cells #[.string rest, ov, .int .i64 nodes, .bool large, .bool whole, r0, r1, r2, r3] 125 (0, 0))

section
variable {w w' : World} {pb : Nat} {rest : ByteArray} {ov : Value} {nodes : Int} {large whole : Bool} {r0 r1 r2 r3 : Value}

theorem PS.cells (h : PS w pb rest ov nodes large whole r0 r1 r2 r3) :
    w.cell? ⟨pb, 0, none⟩ = some (.string rest) ∧ w.cell? ⟨pb, 1, none⟩ = some ov ∧ w.cell? ⟨pb, 2, none⟩ = some (.int .i64 nodes) ∧ w.cell? ⟨pb, 3, none⟩ = some (.bool large) ∧ w.cell? ⟨pb, 4, none⟩ = some (.bool whole) ∧
    w.cell? ⟨pb, 5, none⟩ = some r0 ∧ w.cell? ⟨pb, 6, none⟩ = some r1 ∧ w.cell? ⟨pb, 7, none⟩ = some r2 ∧ w.cell? ⟨pb, 8, none⟩ = some r3 := by
  unfold PS at h
  refine ⟨?_, ?_, ?_, ?_, ?_, ?_, ?_, ?_, ?_⟩ <;> (unfold World.cell?; rw [h]; rfl)
theorem PS.free (h : PS w pb rest ov nodes large whole r0 r1 r2 r3) (i : Nat) : w.frozen? ⟨pb, i, none⟩ = false := by
  unfold PS at h
  unfold World.frozen?; rw [h]; simp
theorem PS.lt (h : PS w pb rest ov nodes large whole r0 r1 r2 r3) : pb < w.heap.size := (Array.getElem?_eq_some_iff.1 h).1
theorem PS.set (h : PS w pb rest ov nodes large whole r0 r1 r2 r3) (i : Nat) (v : Value) :
    (w.setCell ⟨pb, i, none⟩ v).heap[pb]? = some (.cells (#[.string rest, ov, .int .i64 nodes, .bool large, .bool whole, r0, r1, r2, r3].setIfInBounds i v) 125 (0, 0)) := by
  unfold PS at h
  simp [World.setCell, Array.getElem?_modify, h]
theorem PS.rest_ (h : PS w pb rest ov nodes large whole r0 r1 r2 r3) (x : ByteArray) : PS (w.setCell ⟨pb, 0, none⟩ (.string x)) pb x ov nodes large whole r0 r1 r2 r3 := by
  unfold PS; rw [h.set]; rfl
theorem PS.open_ (h : PS w pb rest ov nodes large whole r0 r1 r2 r3) (x : Value) : PS (w.setCell ⟨pb, 1, none⟩ x) pb rest x nodes large whole r0 r1 r2 r3 := by
  unfold PS; rw [h.set]; rfl
theorem PS.nodes_ (h : PS w pb rest ov nodes large whole r0 r1 r2 r3) (x : Int) : PS (w.setCell ⟨pb, 2, none⟩ (.int .i64 x)) pb rest ov x large whole r0 r1 r2 r3 := by
  unfold PS; rw [h.set]; rfl
theorem PS.large_ (h : PS w pb rest ov nodes large whole r0 r1 r2 r3) (x : Bool) : PS (w.setCell ⟨pb, 3, none⟩ (.bool x)) pb rest ov nodes x whole r0 r1 r2 r3 := by
  unfold PS; rw [h.set]; rfl
theorem PS.whole_ (h : PS w pb rest ov nodes large whole r0 r1 r2 r3) (x : Bool) : PS (w.setCell ⟨pb, 4, none⟩ (.bool x)) pb rest ov nodes large x r0 r1 r2 r3 := by
  unfold PS; rw [h.set]; rfl
theorem PS.kept (h : PS w pb rest ov nodes large whole r0 r1 r2 r3) (hb : w'.heap[pb]? = w.heap[pb]?) : PS w' pb rest ov nodes large whole r0 r1 r2 r3 := by
  unfold PS; rw [hb]; exact h
theorem PS.below (h : PS w pb rest ov nodes large whole r0 r1 r2 r3) (hb : Below w.heap.size w w') : PS w' pb rest ov nodes large whole r0 r1 r2 r3 := h.kept (hb.block pb h.lt)
end

/-- w' is w but for block b and new blocks. -/
def But (b : Nat) (w w' : World) : Prop := w.grownBy w' (some b)
theorem But.refl (b : Nat) (w : World) : But b w w := ⟨rfl, rfl, rfl, Nat.le_refl _, fun _ _ _ => rfl⟩
theorem But.trans {b : Nat} {w w' w'' : World} (h : But b w w') (k : But b w' w'') : But b w w'' :=
  ⟨k.os.trans h.os, k.tape.trans h.tape, k.output.trans h.output, Nat.le_trans h.size k.size, fun i hi hne => (k.block i (Nat.lt_of_lt_of_le hi h.size) hne).trans (h.block i hi hne)⟩
theorem But.below {b : Nat} {w w' w'' : World} (h : But b w w') (k : Below w'.heap.size w' w'') : But b w w'' :=
  ⟨k.os.trans h.os, k.tape.trans h.tape, k.output.trans h.output, Nat.le_trans h.size k.size, fun i hi hne => (k.block i (Nat.lt_of_lt_of_le hi h.size)).trans (h.block i hi hne)⟩
theorem But.setCell {b : Nat} {w w' : World} (h : But b w w') (i : Nat) (v : Value) : But b w (w'.setCell ⟨b, i, none⟩ v) :=
  ⟨h.os, h.tape, h.output, by have := h.size; simpa [World.setCell] using this, fun k hk hne => by
    rw [Below.heap_setCell _ _ _ _ (by intro e; exact hne (by rw [e]))]; exact h.block k hk hne⟩
theorem But.drew {b : Nat} {w w' : World} (h : But b w w') : But b w w'.drew := ⟨h.os, h.tape, h.output, h.size, h.block⟩
theorem But.alloc {b : Nat} {w w' : World} (h : But b w w') (o : Obj) : But b w (w'.alloc o) := h.below ((Below.refl _ _).alloc (Nat.le_refl _) _)
theorem But.ofBelow {b : Nat} {w w' : World} (k : Below w.heap.size w w') : But b w w' := (But.refl b w).below k
theorem But.toBelow {b B : Nat} {w w' : World} (h : But b w w') (hB : B ≤ b) (hB2 : B ≤ w.heap.size) : Below B w w' :=
  ⟨h.os, h.tape, h.output, h.size, fun k hk => h.block k (by omega) (by intro e; simp only [Option.some.injEq] at e; omega)⟩

/-- What take gives: whether the word stands there, and what remains. -/
def takeB (s p : ByteArray) : ByteArray := if preB s p then s.extract p.size s.size else s

set_option maxHeartbeats 800000 in
theorem take_any (pb : Nat) (rest p : ByteArray) (ov : Value) (nodes : Int) (large whole : Bool) (r0 r1 r2 r3 : Value) (w : World) (h : PS w pb rest ov nodes large whole r0 r1 r2 r3) :
    Calls Tryz.prog 128 #[.pointer (some ⟨pb, 0, none⟩), .string p] w fun e w' => e = .returned (.bool (preB rest p)) ∧ PS w' pb (takeB rest p) ov nodes large whole r0 r1 r2 r3 ∧ But pb w w' := by
  have HC := Lib.hid (hasPrefix_any rest p w)
  have c0 := h.cells.1
  have f0 := h.free 0
  by_cases hb : preB rest p = true
  · have HF : Hid (takeB rest p = rest.extract p.size rest.size ∧ preB rest p = true) := ⟨by simp [takeB, hb], hb⟩
    have hle : p.size ≤ rest.size := by simp only [preB, Bool.and_eq_true, decide_eq_true_eq] at hb; exact hb.1
    rw [hb] at HC
    clear hb
    have HP := Lib.hid h
    clear h
    go_enter Tryz.func128, Tryz.ntmps128
    go_wp2_with (go_at_call 65; refine (HC.out).mono ?_; rintro e w' ⟨rfl, rfl⟩)
    go_ret
    exact ⟨by rw [HF.out.2]; rfl, by rw [HF.out.1]; exact HP.out.rest_ _, (But.refl _ _).setCell _ _⟩
  · have hb' : preB rest p = false := by simpa using hb
    have HF : Hid (takeB rest p = rest ∧ preB rest p = false) := ⟨by simp [takeB, hb'], hb'⟩
    rw [hb'] at HC
    clear hb hb'
    have HP := Lib.hid h
    clear h
    go_enter Tryz.func128, Tryz.ntmps128
    go_wp2_with (go_at_call 65; refine (HC.out).mono ?_; rintro e w' ⟨rfl, rfl⟩)
    go_ret
    exact ⟨by rw [HF.out.2]; rfl, by rw [HF.out.1]; exact HP.out, But.refl _ _⟩

end Go.Proofs.YtkdnfioihhfmpaaGreatDoor
