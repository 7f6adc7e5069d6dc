/-
  THE WALKS OF sort, variableSort, node.
-/
import Derived.Test.YthhhmjjgckkdhaaDoorTake
import Derived.Laws.Rows
namespace Go.Proofs.YthhhmjjgckkdhaaDoor
open Go.RowKit

def wAny : ByteArray := ⟨#[97, 110, 121]⟩
def wAgent : ByteArray := ⟨#[97, 103, 101, 110, 116]⟩
def wNonce : ByteArray := ⟨#[110, 111, 110, 99, 101]⟩
def wKey : ByteArray := ⟨#[107, 101, 121]⟩
def wData : ByteArray := ⟨#[100, 97, 116, 97]⟩
def wTag : ByteArray := ⟨#[116, 97, 103]⟩

/-- The table of the sorts' words lies as its initialiser lays it. -/
def Laid (w : World) : Prop :=
  w.cell? ⟨0, 0, none⟩ = some (.string wAny) ∧ w.cell? ⟨0, 1, none⟩ = some (.string wAgent) ∧ w.cell? ⟨0, 2, none⟩ = some (.string wNonce) ∧
  w.cell? ⟨0, 3, none⟩ = some (.string wKey) ∧ w.cell? ⟨0, 4, none⟩ = some (.string wData) ∧ w.cell? ⟨0, 5, none⟩ = some (.string wTag)

def sortW : List ByteArray := [wAny, wAgent, wNonce, wKey, wData, wTag]
/-- The first word of a list that stands there, its number, and what remains. -/
def sortP (rest : ByteArray) : Int → List ByteArray → Int × Bool × ByteArray
  | _, [] => (0, false, rest)
  | i, p :: ps => if preB rest p then (i, true, takeB rest p) else sortP rest (i + 1) ps

set_option maxHeartbeats 1600000 in
theorem sort_any (pb : Nat) (rest : ByteArray) (ov : Value) (nodes : Int) (large whole : Bool) (r0 r1 r2 r3 : Value) (w : World) (h : PS w pb rest ov nodes large whole r0 r1 r2 r3) (hL : Laid w) :
    Calls Tryd.prog 92 #[.pointer (some ⟨pb, 0, none⟩)] w fun e w' => e = .returned (.tuple #[.int .i64 (sortP rest 0 sortW).1, .bool (sortP rest 0 sortW).2.1]) ∧ PS w' pb (sortP rest 0 sortW).2.2 ov nodes large whole r0 r1 r2 r3 ∧ But pb w w' := by
  obtain ⟨l0, l1, l2, l3, l4, l5⟩ := hL
  go_enter Tryd.func92, Tryd.ntmps92
  go_wp2_with fail
  clear l0 l1 l2 l3 l4 l5
  go_loopw [7] (fun i wr => ∃ j : Nat, j ≤ 6 ∧ i = .int .i64 j ∧ Hid (sortP rest 0 sortW = sortP rest j (sortW.drop j)) ∧ PS wr pb rest ov nodes large whole r0 r1 r2 r3 ∧ But pb w wr) (fun i _ => 6 - (intOf i).toNat)
  case atStart => exact ⟨0, by omega, rfl, rfl, h, But.refl _ _⟩
  case round =>
    obtain ⟨j, hj, rfl, HS, hP, hB⟩ := hrel
    have hjj : j = 0 ∨ j = 1 ∨ j = 2 ∨ j = 3 ∨ j = 4 ∨ j = 5 ∨ j = 6 := by omega
    rcases hjj with rfl | rfl | rfl | rfl | rfl | rfl | rfl
    · have hix : ∀ w, (Instr.index 86 (.agg #[.string wAny, .string wAgent, .string wNonce, .string wKey, .string wData, .string wTag]) (.int .i64 0)).run Tryd.prog w = .ok (.string wAny) w := fun _ => by kernel_rfl
      have HT := Lib.hid (take_any pb rest wAny ov nodes large whole r0 r1 r2 r3 wr hP)
      by_cases hb : preB rest wAny = true
      · have HS2 : Hid (sortP rest 0 sortW = ((0 : Int), true, takeB rest wAny)) := by show _ = _; rw [HS.out]; simp [sortP, sortW, hb]
        rw [hb] at HT
        clear hb
        go_wp2_with (go_at_call 73; refine (HT.out).mono ?_; rintro e w2 ⟨rfl, hP2, hB2⟩)
        go_ret2
        exact ⟨by rw [HS2.out]; rfl, by rw [HS2.out]; exact hP2, hB.trans hB2⟩
      · have hb' : preB rest wAny = false := by simpa using hb
        have HS2 : Hid (sortP rest 0 sortW = sortP rest 1 (sortW.drop 1)) := by show _ = _; rw [HS.out]; simp [sortP, sortW, hb']
        have hte : takeB rest wAny = rest := by simp [takeB, hb']
        rw [hb', hte] at HT
        clear hb hb' hte
        go_wp2_with (go_at_call 73; refine (HT.out).mono ?_; rintro e w2 ⟨rfl, hP2, hB2⟩)
        go_roundw
        case rel => exact ⟨1, by omega, rfl, HS2, hP2, hB.trans hB2⟩
        case measure => simp [intOf]
    · have hix : ∀ w, (Instr.index 86 (.agg #[.string wAny, .string wAgent, .string wNonce, .string wKey, .string wData, .string wTag]) (.int .i64 1)).run Tryd.prog w = .ok (.string wAgent) w := fun _ => by kernel_rfl
      have HT := Lib.hid (take_any pb rest wAgent ov nodes large whole r0 r1 r2 r3 wr hP)
      by_cases hb : preB rest wAgent = true
      · have HS2 : Hid (sortP rest 0 sortW = ((1 : Int), true, takeB rest wAgent)) := by show _ = _; rw [HS.out]; simp [sortP, sortW, hb]
        rw [hb] at HT
        clear hb
        go_wp2_with (go_at_call 73; refine (HT.out).mono ?_; rintro e w2 ⟨rfl, hP2, hB2⟩)
        go_ret2
        exact ⟨by rw [HS2.out]; rfl, by rw [HS2.out]; exact hP2, hB.trans hB2⟩
      · have hb' : preB rest wAgent = false := by simpa using hb
        have HS2 : Hid (sortP rest 0 sortW = sortP rest 2 (sortW.drop 2)) := by show _ = _; rw [HS.out]; simp [sortP, sortW, hb']
        have hte : takeB rest wAgent = rest := by simp [takeB, hb']
        rw [hb', hte] at HT
        clear hb hb' hte
        go_wp2_with (go_at_call 73; refine (HT.out).mono ?_; rintro e w2 ⟨rfl, hP2, hB2⟩)
        go_roundw
        case rel => exact ⟨2, by omega, rfl, HS2, hP2, hB.trans hB2⟩
        case measure => simp [intOf]
    · have hix : ∀ w, (Instr.index 86 (.agg #[.string wAny, .string wAgent, .string wNonce, .string wKey, .string wData, .string wTag]) (.int .i64 2)).run Tryd.prog w = .ok (.string wNonce) w := fun _ => by kernel_rfl
      have HT := Lib.hid (take_any pb rest wNonce ov nodes large whole r0 r1 r2 r3 wr hP)
      by_cases hb : preB rest wNonce = true
      · have HS2 : Hid (sortP rest 0 sortW = ((2 : Int), true, takeB rest wNonce)) := by show _ = _; rw [HS.out]; simp [sortP, sortW, hb]
        rw [hb] at HT
        clear hb
        go_wp2_with (go_at_call 73; refine (HT.out).mono ?_; rintro e w2 ⟨rfl, hP2, hB2⟩)
        go_ret2
        exact ⟨by rw [HS2.out]; rfl, by rw [HS2.out]; exact hP2, hB.trans hB2⟩
      · have hb' : preB rest wNonce = false := by simpa using hb
        have HS2 : Hid (sortP rest 0 sortW = sortP rest 3 (sortW.drop 3)) := by show _ = _; rw [HS.out]; simp [sortP, sortW, hb']
        have hte : takeB rest wNonce = rest := by simp [takeB, hb']
        rw [hb', hte] at HT
        clear hb hb' hte
        go_wp2_with (go_at_call 73; refine (HT.out).mono ?_; rintro e w2 ⟨rfl, hP2, hB2⟩)
        go_roundw
        case rel => exact ⟨3, by omega, rfl, HS2, hP2, hB.trans hB2⟩
        case measure => simp [intOf]
    · have hix : ∀ w, (Instr.index 86 (.agg #[.string wAny, .string wAgent, .string wNonce, .string wKey, .string wData, .string wTag]) (.int .i64 3)).run Tryd.prog w = .ok (.string wKey) w := fun _ => by kernel_rfl
      have HT := Lib.hid (take_any pb rest wKey ov nodes large whole r0 r1 r2 r3 wr hP)
      by_cases hb : preB rest wKey = true
      · have HS2 : Hid (sortP rest 0 sortW = ((3 : Int), true, takeB rest wKey)) := by show _ = _; rw [HS.out]; simp [sortP, sortW, hb]
        rw [hb] at HT
        clear hb
        go_wp2_with (go_at_call 73; refine (HT.out).mono ?_; rintro e w2 ⟨rfl, hP2, hB2⟩)
        go_ret2
        exact ⟨by rw [HS2.out]; rfl, by rw [HS2.out]; exact hP2, hB.trans hB2⟩
      · have hb' : preB rest wKey = false := by simpa using hb
        have HS2 : Hid (sortP rest 0 sortW = sortP rest 4 (sortW.drop 4)) := by show _ = _; rw [HS.out]; simp [sortP, sortW, hb']
        have hte : takeB rest wKey = rest := by simp [takeB, hb']
        rw [hb', hte] at HT
        clear hb hb' hte
        go_wp2_with (go_at_call 73; refine (HT.out).mono ?_; rintro e w2 ⟨rfl, hP2, hB2⟩)
        go_roundw
        case rel => exact ⟨4, by omega, rfl, HS2, hP2, hB.trans hB2⟩
        case measure => simp [intOf]
    · have hix : ∀ w, (Instr.index 86 (.agg #[.string wAny, .string wAgent, .string wNonce, .string wKey, .string wData, .string wTag]) (.int .i64 4)).run Tryd.prog w = .ok (.string wData) w := fun _ => by kernel_rfl
      have HT := Lib.hid (take_any pb rest wData ov nodes large whole r0 r1 r2 r3 wr hP)
      by_cases hb : preB rest wData = true
      · have HS2 : Hid (sortP rest 0 sortW = ((4 : Int), true, takeB rest wData)) := by show _ = _; rw [HS.out]; simp [sortP, sortW, hb]
        rw [hb] at HT
        clear hb
        go_wp2_with (go_at_call 73; refine (HT.out).mono ?_; rintro e w2 ⟨rfl, hP2, hB2⟩)
        go_ret2
        exact ⟨by rw [HS2.out]; rfl, by rw [HS2.out]; exact hP2, hB.trans hB2⟩
      · have hb' : preB rest wData = false := by simpa using hb
        have HS2 : Hid (sortP rest 0 sortW = sortP rest 5 (sortW.drop 5)) := by show _ = _; rw [HS.out]; simp [sortP, sortW, hb']
        have hte : takeB rest wData = rest := by simp [takeB, hb']
        rw [hb', hte] at HT
        clear hb hb' hte
        go_wp2_with (go_at_call 73; refine (HT.out).mono ?_; rintro e w2 ⟨rfl, hP2, hB2⟩)
        go_roundw
        case rel => exact ⟨5, by omega, rfl, HS2, hP2, hB.trans hB2⟩
        case measure => simp [intOf]
    · have hix : ∀ w, (Instr.index 86 (.agg #[.string wAny, .string wAgent, .string wNonce, .string wKey, .string wData, .string wTag]) (.int .i64 5)).run Tryd.prog w = .ok (.string wTag) w := fun _ => by kernel_rfl
      have HT := Lib.hid (take_any pb rest wTag ov nodes large whole r0 r1 r2 r3 wr hP)
      by_cases hb : preB rest wTag = true
      · have HS2 : Hid (sortP rest 0 sortW = ((5 : Int), true, takeB rest wTag)) := by show _ = _; rw [HS.out]; simp [sortP, sortW, hb]
        rw [hb] at HT
        clear hb
        go_wp2_with (go_at_call 73; refine (HT.out).mono ?_; rintro e w2 ⟨rfl, hP2, hB2⟩)
        go_ret2
        exact ⟨by rw [HS2.out]; rfl, by rw [HS2.out]; exact hP2, hB.trans hB2⟩
      · have hb' : preB rest wTag = false := by simpa using hb
        have HS2 : Hid (sortP rest 0 sortW = sortP rest 6 (sortW.drop 6)) := by show _ = _; rw [HS.out]; simp [sortP, sortW, hb']
        have hte : takeB rest wTag = rest := by simp [takeB, hb']
        rw [hb', hte] at HT
        clear hb hb' hte
        go_wp2_with (go_at_call 73; refine (HT.out).mono ?_; rintro e w2 ⟨rfl, hP2, hB2⟩)
        go_roundw
        case rel => exact ⟨6, by omega, rfl, HS2, hP2, hB.trans hB2⟩
        case measure => simp [intOf]
    · have HS2 : Hid (sortP rest 0 sortW = ((0 : Int), false, rest)) := by show _ = _; rw [HS.out]; simp [sortP, sortW]
      go_wp2_with fail
      go_ret2
      exact ⟨by rw [HS2.out]; rfl, by rw [HS2.out]; exact hP, hB⟩

end Go.Proofs.YthhhmjjgckkdhaaDoor
