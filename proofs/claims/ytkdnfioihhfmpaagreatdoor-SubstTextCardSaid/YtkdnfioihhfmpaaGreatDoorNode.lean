/-
  THE WALKS OF sort, variableSort, node.
-/
import Derived.Test.YtkdnfioihhfmpaaGreatDoorTake
import Derived.Laws.Rows
namespace Go.Proofs.YtkdnfioihhfmpaaGreatDoor
open Go.RowKit

def wAny : ByteArray := ⟨#[97, 110, 121]⟩
def wAgent : ByteArray := ⟨#[97, 103, 101, 110, 116]⟩
def wNonce : ByteArray := ⟨#[110, 111, 110, 99, 101]⟩
def wKey : ByteArray := ⟨#[107, 101, 121]⟩
def wData : ByteArray := ⟨#[100, 97, 116, 97]⟩
def wTag : ByteArray := ⟨#[116, 97, 103]⟩

/-- The table of the sorts' words lies as its initialiser lays it. -/
def Laid (w : World) : Prop :=
  w.cell? ⟨0, 0, none⟩ = some (.string wAny) ∧ w.cell? ⟨0, 1, none⟩ = some (.string wAgent) ∧ w.cell? ⟨0, 2, none⟩ = some (.string wNonce) ∧
  w.cell? ⟨0, 3, none⟩ = some (.string wKey) ∧ w.cell? ⟨0, 4, none⟩ = some (.string wData) ∧ w.cell? ⟨0, 5, none⟩ = some (.string wTag)

def sortW : List ByteArray := [wAny, wAgent, wNonce, wKey, wData, wTag]
/-- The first word of a list that stands there, its number, and what remains. -/
def sortP (rest : ByteArray) : Int → List ByteArray → Int × Bool × ByteArray
  | _, [] => (0, false, rest)
  | i, p :: ps => if preB rest p then (i, true, takeB rest p) else sortP rest (i + 1) ps

set_option maxHeartbeats 1600000 in
theorem sort_any (pb : Nat) (rest : ByteArray) (ov : Value) (nodes : Int) (large whole : Bool) (r0 r1 r2 r3 : Value) (w : World) (h : PS w pb rest ov nodes large whole r0 r1 r2 r3) (hL : Laid w) :
    Calls Tryz.prog 152 #[.pointer (some ⟨pb, 0, none⟩)] w fun e w' => e = .returned (.tuple #[.int .i64 (sortP rest 0 sortW).1, .bool (sortP rest 0 sortW).2.1]) ∧ PS w' pb (sortP rest 0 sortW).2.2 ov nodes large whole r0 r1 r2 r3 ∧ But pb w w' := by
  obtain ⟨l0, l1, l2, l3, l4, l5⟩ := hL
  go_enter Tryz.func152, Tryz.ntmps152
  go_wp2_with fail
  clear l0 l1 l2 l3 l4 l5
  go_loopw [7] (fun i wr => ∃ j : Nat, j ≤ 6 ∧ i = .int .i64 j ∧ Hid (sortP rest 0 sortW = sortP rest j (sortW.drop j)) ∧ PS wr pb rest ov nodes large whole r0 r1 r2 r3 ∧ But pb w wr) (fun i _ => 6 - (intOf i).toNat)
  case atStart => exact ⟨0, by omega, rfl, rfl, h, But.refl _ _⟩
  case round =>
    obtain ⟨j, hj, rfl, HS, hP, hB⟩ := hrel
    have hjj : j = 0 ∨ j = 1 ∨ j = 2 ∨ j = 3 ∨ j = 4 ∨ j = 5 ∨ j = 6 := by omega
    rcases hjj with rfl | rfl | rfl | rfl | rfl | rfl | rfl
    · have hix : ∀ w, (Instr.index 148 (.agg #[.string wAny, .string wAgent, .string wNonce, .string wKey, .string wData, .string wTag]) (.int .i64 0)).run Tryz.prog w = .ok (.string wAny) w := fun _ => by kernel_rfl
      have HT := Lib.hid (take_any pb rest wAny ov nodes large whole r0 r1 r2 r3 wr hP)
      by_cases hb : preB rest wAny = true
      · have HS2 : Hid (sortP rest 0 sortW = ((0 : Int), true, takeB rest wAny)) := by show _ = _; rw [HS.out]; simp [sortP, sortW, hb]
        rw [hb] at HT
        clear hb
        go_wp2_with (go_at_call 128; refine (HT.out).mono ?_; rintro e w2 ⟨rfl, hP2, hB2⟩)
        go_ret2
        exact ⟨by rw [HS2.out]; rfl, by rw [HS2.out]; exact hP2, hB.trans hB2⟩
      · have hb' : preB rest wAny = false := by simpa using hb
        have HS2 : Hid (sortP rest 0 sortW = sortP rest 1 (sortW.drop 1)) := by show _ = _; rw [HS.out]; simp [sortP, sortW, hb']
        have hte : takeB rest wAny = rest := by simp [takeB, hb']
        rw [hb', hte] at HT
        clear hb hb' hte
        go_wp2_with (go_at_call 128; refine (HT.out).mono ?_; rintro e w2 ⟨rfl, hP2, hB2⟩)
        go_roundw
        case rel => exact ⟨1, by omega, rfl, HS2, hP2, hB.trans hB2⟩
        case measure => simp [intOf]
    · have hix : ∀ w, (Instr.index 148 (.agg #[.string wAny, .string wAgent, .string wNonce, .string wKey, .string wData, .string wTag]) (.int .i64 1)).run Tryz.prog w = .ok (.string wAgent) w := fun _ => by kernel_rfl
      have HT := Lib.hid (take_any pb rest wAgent ov nodes large whole r0 r1 r2 r3 wr hP)
      by_cases hb : preB rest wAgent = true
      · have HS2 : Hid (sortP rest 0 sortW = ((1 : Int), true, takeB rest wAgent)) := by show _ = _; rw [HS.out]; simp [sortP, sortW, hb]
        rw [hb] at HT
        clear hb
        go_wp2_with (go_at_call 128; refine (HT.out).mono ?_; rintro e w2 ⟨rfl, hP2, hB2⟩)
        go_ret2
        exact ⟨by rw [HS2.out]; rfl, by rw [HS2.out]; exact hP2, hB.trans hB2⟩
      · have hb' : preB rest wAgent = false := by simpa using hb
        have HS2 : Hid (sortP rest 0 sortW = sortP rest 2 (sortW.drop 2)) := by show _ = _; rw [HS.out]; simp [sortP, sortW, hb']
        have hte : takeB rest wAgent = rest := by simp [takeB, hb']
        rw [hb', hte] at HT
        clear hb hb' hte
        go_wp2_with (go_at_call 128; refine (HT.out).mono ?_; rintro e w2 ⟨rfl, hP2, hB2⟩)
        go_roundw
        case rel => exact ⟨2, by omega, rfl, HS2, hP2, hB.trans hB2⟩
        case measure => simp [intOf]
    · have hix : ∀ w, (Instr.index 148 (.agg #[.string wAny, .string wAgent, .string wNonce, .string wKey, .string wData, .string wTag]) (.int .i64 2)).run Tryz.prog w = .ok (.string wNonce) w := fun _ => by kernel_rfl
      have HT := Lib.hid (take_any pb rest wNonce ov nodes large whole r0 r1 r2 r3 wr hP)
      by_cases hb : preB rest wNonce = true
      · have HS2 : Hid (sortP rest 0 sortW = ((2 : Int), true, takeB rest wNonce)) := by show _ = _; rw [HS.out]; simp [sortP, sortW, hb]
        rw [hb] at HT
        clear hb
        go_wp2_with (go_at_call 128; refine (HT.out).mono ?_; rintro e w2 ⟨rfl, hP2, hB2⟩)
        go_ret2
        exact ⟨by rw [HS2.out]; rfl, by rw [HS2.out]; exact hP2, hB.trans hB2⟩
      · have hb' : preB rest wNonce = false := by simpa using hb
        have HS2 : Hid (sortP rest 0 sortW = sortP rest 3 (sortW.drop 3)) := by show _ = _; rw [HS.out]; simp [sortP, sortW, hb']
        have hte : takeB rest wNonce = rest := by simp [takeB, hb']
        rw [hb', hte] at HT
        clear hb hb' hte
        go_wp2_with (go_at_call 128; refine (HT.out).mono ?_; rintro e w2 ⟨rfl, hP2, hB2⟩)
        go_roundw
        case rel => exact ⟨3, by omega, rfl, HS2, hP2, hB.trans hB2⟩
        case measure => simp [intOf]
    · have hix : ∀ w, (Instr.index 148 (.agg #[.string wAny, .string wAgent, .string wNonce, .string wKey, .string wData, .string wTag]) (.int .i64 3)).run Tryz.prog w = .ok (.string wKey) w := fun _ => by kernel_rfl
      have HT := Lib.hid (take_any pb rest wKey ov nodes large whole r0 r1 r2 r3 wr hP)
      by_cases hb : preB rest wKey = true
      · have HS2 : Hid (sortP rest 0 sortW = ((3 : Int), true, takeB rest wKey)) := by show _ = _; rw [HS.out]; simp [sortP, sortW, hb]
        rw [hb] at HT
        clear hb
        go_wp2_with (go_at_call 128; refine (HT.out).mono ?_; rintro e w2 ⟨rfl, hP2, hB2⟩)
        go_ret2
        exact ⟨by rw [HS2.out]; rfl, by rw [HS2.out]; exact hP2, hB.trans hB2⟩
      · have hb' : preB rest wKey = false := by simpa using hb
        have HS2 : Hid (sortP rest 0 sortW = sortP rest 4 (sortW.drop 4)) := by show _ = _; rw [HS.out]; simp [sortP, sortW, hb']
        have hte : takeB rest wKey = rest := by simp [takeB, hb']
        rw [hb', hte] at HT
        clear hb hb' hte
        go_wp2_with (go_at_call 128; refine (HT.out).mono ?_; rintro e w2 ⟨rfl, hP2, hB2⟩)
        go_roundw
        case rel => exact ⟨4, by omega, rfl, HS2, hP2, hB.trans hB2⟩
        case measure => simp [intOf]
    · have hix : ∀ w, (Instr.index 148 (.agg #[.string wAny, .string wAgent, .string wNonce, .string wKey, .string wData, .string wTag]) (.int .i64 4)).run Tryz.prog w = .ok (.string wData) w := fun _ => by kernel_rfl
      have HT := Lib.hid (take_any pb rest wData ov nodes large whole r0 r1 r2 r3 wr hP)
      by_cases hb : preB rest wData = true
      · have HS2 : Hid (sortP rest 0 sortW = ((4 : Int), true, takeB rest wData)) := by show _ = _; rw [HS.out]; simp [sortP, sortW, hb]
        rw [hb] at HT
        clear hb
        go_wp2_with (go_at_call 128; refine (HT.out).mono ?_; rintro e w2 ⟨rfl, hP2, hB2⟩)
        go_ret2
        exact ⟨by rw [HS2.out]; rfl, by rw [HS2.out]; exact hP2, hB.trans hB2⟩
      · have hb' : preB rest wData = false := by simpa using hb
        have HS2 : Hid (sortP rest 0 sortW = sortP rest 5 (sortW.drop 5)) := by show _ = _; rw [HS.out]; simp [sortP, sortW, hb']
        have hte : takeB rest wData = rest := by simp [takeB, hb']
        rw [hb', hte] at HT
        clear hb hb' hte
        go_wp2_with (go_at_call 128; refine (HT.out).mono ?_; rintro e w2 ⟨rfl, hP2, hB2⟩)
        go_roundw
        case rel => exact ⟨5, by omega, rfl, HS2, hP2, hB.trans hB2⟩
        case measure => simp [intOf]
    · have hix : ∀ w, (Instr.index 148 (.agg #[.string wAny, .string wAgent, .string wNonce, .string wKey, .string wData, .string wTag]) (.int .i64 5)).run Tryz.prog w = .ok (.string wTag) w := fun _ => by kernel_rfl
      have HT := Lib.hid (take_any pb rest wTag ov nodes large whole r0 r1 r2 r3 wr hP)
      by_cases hb : preB rest wTag = true
      · have HS2 : Hid (sortP rest 0 sortW = ((5 : Int), true, takeB rest wTag)) := by show _ = _; rw [HS.out]; simp [sortP, sortW, hb]
        rw [hb] at HT
        clear hb
        go_wp2_with (go_at_call 128; refine (HT.out).mono ?_; rintro e w2 ⟨rfl, hP2, hB2⟩)
        go_ret2
        exact ⟨by rw [HS2.out]; rfl, by rw [HS2.out]; exact hP2, hB.trans hB2⟩
      · have hb' : preB rest wTag = false := by simpa using hb
        have HS2 : Hid (sortP rest 0 sortW = sortP rest 6 (sortW.drop 6)) := by show _ = _; rw [HS.out]; simp [sortP, sortW, hb']
        have hte : takeB rest wTag = rest := by simp [takeB, hb']
        rw [hb', hte] at HT
        clear hb hb' hte
        go_wp2_with (go_at_call 128; refine (HT.out).mono ?_; rintro e w2 ⟨rfl, hP2, hB2⟩)
        go_roundw
        case rel => exact ⟨6, by omega, rfl, HS2, hP2, hB.trans hB2⟩
        case measure => simp [intOf]
    · have HS2 : Hid (sortP rest 0 sortW = ((0 : Int), false, rest)) := by show _ = _; rw [HS.out]; simp [sortP, sortW]
      go_wp2_with fail
      go_ret2
      exact ⟨by rw [HS2.out]; rfl, by rw [HS2.out]; exact hP, hB⟩

end Go.Proofs.YtkdnfioihhfmpaaGreatDoor

/-
  THE WALKS OF variableSort, node.
-/
namespace Go.Proofs.YtkdnfioihhfmpaaGreatDoor
open Go.RowKit

theorem Laid_but {pb : Nat} {w w' : World} (h : Laid w) (hb : But pb w w') (hne : pb ≠ 0) : Laid w' := by
  obtain ⟨l0, l1, l2, l3, l4, l5⟩ := h
  have hlt := World.block_lt_of_cell? w _ l0
  have hk : w'.heap[0]? = w.heap[0]? := hb.block _ hlt (by simp; omega)
  refine ⟨?_, ?_, ?_, ?_, ?_, ?_⟩ <;> (rw [World.cell?_of_block (w := w) hk]; assumption)

def bQ : ByteArray := ⟨#[63]⟩
def bColon : ByteArray := ⟨#[58]⟩
def bOpen : ByteArray := ⟨#[40]⟩
def bClose : ByteArray := ⟨#[41]⟩
def bComma : ByteArray := ⟨#[44, 32]⟩

def vsortP (rest : ByteArray) : Int × Bool × ByteArray :=
  if preB rest bColon then ((sortP (takeB rest bColon) 0 sortW).1, (sortP (takeB rest bColon) 0 sortW).2.1 && ((sortP (takeB rest bColon) 0 sortW).1 != 0), (sortP (takeB rest bColon) 0 sortW).2.2) else (0, true, rest)

set_option maxHeartbeats 1600000 in
theorem vsort_any (pb : Nat) (rest : ByteArray) (ov : Value) (nodes : Int) (large whole : Bool) (r0 r1 r2 r3 : Value) (w : World) (h : PS w pb rest ov nodes large whole r0 r1 r2 r3) (hL : Laid w) (hne : pb ≠ 0) :
    Calls Tryz.prog 151 #[.pointer (some ⟨pb, 0, none⟩)] w fun e w' => e = .returned (.tuple #[.int .i64 (vsortP rest).1, .bool (vsortP rest).2.1]) ∧ PS w' pb (vsortP rest).2.2 ov nodes large whole r0 r1 r2 r3 ∧ But pb w w' := by
  have HT := Lib.hid (take_any pb rest bColon ov nodes large whole r0 r1 r2 r3 w h)
  by_cases hb : preB rest bColon = true
  · rw [hb] at HT
    have HS := Lib.hid (sort_any pb (takeB rest bColon) ov nodes large whole r0 r1 r2 r3)
    have HV : Hid (vsortP rest = ((sortP (takeB rest bColon) 0 sortW).1, (sortP (takeB rest bColon) 0 sortW).2.1 && ((sortP (takeB rest bColon) 0 sortW).1 != 0), (sortP (takeB rest bColon) 0 sortW).2.2)) := by show _ = _; simp only [vsortP, hb, if_true]
    generalize hq : sortP (takeB rest bColon) 0 sortW = q at HS HV
    obtain ⟨s, ok, r'⟩ := q
    simp only at HS HV
    have HL := Lib.hid hL
    clear hb hq hL
    cases ok with
    | false =>
      go_enter Tryz.func151, Tryz.ntmps151
      go_wp2_with (first
        | (go_at_call 128; refine (HT.out).mono ?_; rintro e w2 ⟨rfl, hP2, hB2⟩)
        | (go_at_call 152; refine (HS.out _ hP2 (Laid_but HL.out hB2 hne)).mono ?_; rintro e w3 ⟨rfl, hP3, hB3⟩))
      go_ret2
      exact ⟨by rw [HV.out]; rfl, by rw [HV.out]; exact hP3, hB2.trans hB3⟩
    | true =>
      by_cases hs : s = 0
      · have hb2 : (s != 0) = false := by simp [hs]
        rw [hb2] at HV
        clear hs
        go_enter Tryz.func151, Tryz.ntmps151
        go_wp2_with (first
          | (go_at_call 128; refine (HT.out).mono ?_; rintro e w2 ⟨rfl, hP2, hB2⟩)
          | (go_at_call 152; refine (HS.out _ hP2 (Laid_but HL.out hB2 hne)).mono ?_; rintro e w3 ⟨rfl, hP3, hB3⟩))
        go_ret2
        exact ⟨by rw [HV.out]; rfl, by rw [HV.out]; exact hP3, hB2.trans hB3⟩
      · have hb2 : (s != 0) = true := by simp [hs]
        rw [hb2] at HV
        clear hs
        go_enter Tryz.func151, Tryz.ntmps151
        go_wp2_with (first
          | (go_at_call 128; refine (HT.out).mono ?_; rintro e w2 ⟨rfl, hP2, hB2⟩)
          | (go_at_call 152; refine (HS.out _ hP2 (Laid_but HL.out hB2 hne)).mono ?_; rintro e w3 ⟨rfl, hP3, hB3⟩))
        go_ret2
        exact ⟨by rw [HV.out]; rfl, by rw [HV.out]; exact hP3, hB2.trans hB3⟩
  · have hb' : preB rest bColon = false := by simpa using hb
    have hte : takeB rest bColon = rest := by simp [takeB, hb']
    have HV : Hid (vsortP rest = (0, true, rest)) := by show _ = _; simp [vsortP, hb']
    rw [hb', hte] at HT
    clear hb hb' hte
    go_enter Tryz.func151, Tryz.ntmps151
    go_wp2_with (go_at_call 128; refine (HT.out).mono ?_; rintro e w2 ⟨rfl, hP2, hB2⟩)
    go_ret2
    exact ⟨by rw [HV.out]; rfl, by rw [HV.out]; exact hP2, hB2⟩

/-- A node's beginning: its kind, name, sort, whether it is one, and what remains. -/
def nodeName (rest : ByteArray) : ByteArray := (takeB rest bQ).extract 0 (nameLen (takeB rest bQ).data.toList)
def nodeRest (rest : ByteArray) : ByteArray := (takeB rest bQ).extract (nodeName rest).size (takeB rest bQ).size
def nodeP (rest : ByteArray) : Int × ByteArray × Int × Bool × ByteArray :=
  if isNameB (nodeName rest).data.toList = false then (0, ByteArray.empty, 0, false, takeB rest bQ)
  else if preB rest bQ then (1, nodeName rest, (vsortP (nodeRest rest)).1, (vsortP (nodeRest rest)).2.1, (vsortP (nodeRest rest)).2.2)
  else if preB (nodeRest rest) bOpen then (3, nodeName rest, 0, true, takeB (nodeRest rest) bOpen)
  else if preB (nodeRest rest) bColon = false then (0, ByteArray.empty, 0, false, nodeRest rest)
  else (2, nodeName rest, (sortP (takeB (nodeRest rest) bColon) 0 sortW).1, (sortP (takeB (nodeRest rest) bColon) 0 sortW).2.1, (sortP (takeB (nodeRest rest) bColon) 0 sortW).2.2)

theorem takeB_size (s p : ByteArray) : (takeB s p).size ≤ s.size := by
  unfold takeB; split
  · simp only [ByteArray.size_extract]; omega
  · omega

/-- The result's cell of a function that gives a term, behind calls that leave it alone. -/
theorem res_kept {pb : Nat} {w w' : World} (hb : But pb (w.alloc (.cells #[.int .i64 0, .string ByteArray.empty, .int .i64 0, .slice none 0 0] 41)) w') (hlt : pb < w.heap.size) :
    w'.heap[w.heap.size]? = some (.cells #[.int .i64 0, .string ByteArray.empty, .int .i64 0, .slice none 0 0] 41 (0, 0)) := by
  rw [hb.block w.heap.size (by simp) (by simp; omega), heap_alloc_new]
theorem cells_of_block4 {w : World} {b : Nat} {c0 c1 c2 c3 : Value} {T : TypeId} (h : w.heap[b]? = some (.cells #[c0, c1, c2, c3] T (0, 0))) :
    w.cell? ⟨b, 0, none⟩ = some c0 ∧ w.cell? ⟨b, 1, none⟩ = some c1 ∧ w.cell? ⟨b, 2, none⟩ = some c2 ∧ w.cell? ⟨b, 3, none⟩ = some c3 ∧ ∀ i, w.frozen? ⟨b, i, none⟩ = false := by
  refine ⟨?_, ?_, ?_, ?_, fun i => ?_⟩ <;> (first | (unfold World.cell?; rw [h]; rfl) | (unfold World.frozen?; rw [h]; simp))

/-- Four stores into a block of four. -/
theorem set4 {w : World} {b : Nat} {T : TypeId} {a0 a1 a2 a3 v0 v1 v2 v3 : Value} (h : w.heap[b]? = some (.cells #[a0, a1, a2, a3] T (0, 0))) :
    ((((w.setCell ⟨b, 0, none⟩ v0).setCell ⟨b, 1, none⟩ v1).setCell ⟨b, 2, none⟩ v2).setCell ⟨b, 3, none⟩ v3).heap[b]? = some (.cells #[v0, v1, v2, v3] T (0, 0)) := by
  simp [World.setCell, Array.getElem?_modify, h]
theorem set4_other (w : World) (b k : Nat) (v0 v1 v2 v3 : Value) (hk : k ≠ b) :
    ((((w.setCell ⟨b, 0, none⟩ v0).setCell ⟨b, 1, none⟩ v1).setCell ⟨b, 2, none⟩ v2).setCell ⟨b, 3, none⟩ v3).heap[k]? = w.heap[k]? := by
  rw [Below.heap_setCell _ _ _ _ hk, Below.heap_setCell _ _ _ _ hk, Below.heap_setCell _ _ _ _ hk, Below.heap_setCell _ _ _ _ hk]
theorem But.fresh {b r : Nat} {w w' w'' : World} (h : But b w w') (hr : w.heap.size ≤ r) (ho : w''.os = w'.os) (ht : w''.tape = w'.tape) (hu : w''.output = w'.output) (hs : w'.heap.size ≤ w''.heap.size) (hk : ∀ k, k ≠ r → w''.heap[k]? = w'.heap[k]?) : But b w w'' :=
  ⟨ho.trans h.os, ht.trans h.tape, hu.trans h.output, Nat.le_trans h.size hs, fun k hk1 hne => (hk k (by omega)).trans (h.block k hk1 hne)⟩
theorem But.set4 {b r : Nat} {w w' : World} (h : But b w w') (hr : w.heap.size ≤ r) (v0 v1 v2 v3 : Value) : But b w ((((w'.setCell ⟨r, 0, none⟩ v0).setCell ⟨r, 1, none⟩ v1).setCell ⟨r, 2, none⟩ v2).setCell ⟨r, 3, none⟩ v3) :=
  h.fresh hr rfl rfl rfl (by simp [World.setCell]) (fun k hk => set4_other _ _ _ _ _ _ _ hk)

set_option maxHeartbeats 1600000 in
set_option maxRecDepth 100000 in
theorem node_any (pb : Nat) (rest : ByteArray) (ov : Value) (nodes : Int) (large whole : Bool) (r0 r1 r2 r3 : Value) (w : World) (h : PS w pb rest ov nodes large whole r0 r1 r2 r3) (hL : Laid w) (hne : pb ≠ 0) (hsz : rest.size ≤ maxLen) :
    Calls Tryz.prog 127 #[.pointer (some ⟨pb, 0, none⟩)] w fun e w' => e = .returned (.tuple #[.agg #[.int .i64 (nodeP rest).1, .string (nodeP rest).2.1, .int .i64 (nodeP rest).2.2.1, .slice none 0 0], .bool (nodeP rest).2.2.2.1]) ∧ PS w' pb (nodeP rest).2.2.2.2 ov nodes large whole r0 r1 r2 r3 ∧ But pb w w' := by
  have hplt := h.lt
  have hP0 : PS (w.alloc (.cells #[.int .i64 0, .string ByteArray.empty, .int .i64 0, .slice none 0 0] 41)) pb rest ov nodes large whole r0 r1 r2 r3 := h.below ((Below.refl _ _).alloc (Nat.le_refl _) _)
  have HT := Lib.hid (take_any pb rest bQ ov nodes large whole r0 r1 r2 r3 _ hP0)
  have HL := Lib.hid (Laid_but hL ((But.refl pb w).alloc (.cells #[.int .i64 0, .string ByteArray.empty, .int .i64 0, .slice none 0 0] 41)) hne)
  have HW : Hid (But pb w (w.alloc (.cells #[.int .i64 0, .string ByteArray.empty, .int .i64 0, .slice none 0 0] 41))) := (But.refl pb w).alloc _
  have hts := takeB_size rest bQ
  have HD : Hid (nodeP rest = nodeP rest) := rfl
  have HNn : Hid (nodeName rest = (takeB rest bQ).extract 0 (nameLen (takeB rest bQ).data.toList)) := rfl
  have HNr : Hid (nodeRest rest = (takeB rest bQ).extract (nodeName rest).size (takeB rest bQ).size) := rfl
  have hq := nameLen_le (takeB rest bQ).data.toList
  have hsl : (takeB rest bQ).data.toList.length = (takeB rest bQ).size := by simp
  rw [hsl] at hq
  clear hP0 h hL hsl
  go_enter Tryz.func127, Tryz.ntmps127
  go_wp2_with (go_at_call 128; refine (HT.out).mono ?_; rintro e w2 ⟨rfl, hP2, hB2⟩)
  have c0 := hP2.cells.1
  have HN := Lib.hid (nameLength_any (takeB rest bQ))
  have hnmsz : (nodeName rest).size ≤ (takeB rest bQ).size := by rw [HNn.out, ByteArray.size_extract]; omega
  have HNM := Lib.hid (isName_any (nodeName rest))
  have hm1 : (takeB rest bQ).size ≤ maxLen := by omega
  have hm2 : (nodeName rest).size ≤ maxLen := by omega
  have HM := Lib.hid (And.intro hm1 hm2)
  have HTd : Hid (takeB rest bQ = takeB rest bQ) := rfl
  have HPD : Hid (isNameB (nodeName rest).data.toList = false → nodeP rest = (0, ByteArray.empty, 0, false, takeB rest bQ)) := fun hh => by simp [nodeP, hh]
  have HPV : Hid (isNameB (nodeName rest).data.toList = true → preB rest bQ = true → nodeP rest = (1, nodeName rest, (vsortP (nodeRest rest)).1, (vsortP (nodeRest rest)).2.1, (vsortP (nodeRest rest)).2.2)) := fun hh h2 => by simp [nodeP, hh, h2]
  have HPA : Hid (isNameB (nodeName rest).data.toList = true → preB rest bQ = false → preB (nodeRest rest) bOpen = true → nodeP rest = (3, nodeName rest, 0, true, takeB (nodeRest rest) bOpen)) := fun hh h2 h3 => by simp [nodeP, hh, h2, h3]
  have HPN : Hid (isNameB (nodeName rest).data.toList = true → preB rest bQ = false → preB (nodeRest rest) bOpen = false → preB (nodeRest rest) bColon = false → nodeP rest = (0, ByteArray.empty, 0, false, nodeRest rest)) := fun hh h2 h3 h4 => by simp [nodeP, hh, h2, h3, h4]
  have HPL : Hid (isNameB (nodeName rest).data.toList = true → preB rest bQ = false → preB (nodeRest rest) bOpen = false → preB (nodeRest rest) bColon = true → nodeP rest = (2, nodeName rest, (sortP (takeB (nodeRest rest) bColon) 0 sortW).1, (sortP (takeB (nodeRest rest) bColon) 0 sortW).2.1, (sortP (takeB (nodeRest rest) bColon) 0 sortW).2.2)) := fun hh h2 h3 h4 => by simp [nodeP, hh, h2, h3, h4]
  clear HTd HD HT hts hsz hm1 hm2
  generalize hNP : nodeP rest = NP at *
  have HNP := Lib.hid hNP
  clear hNP
  generalize nodeRest rest = nr at *
  generalize nodeName rest = nm at *
  generalize preB rest bQ = isv at *
  generalize takeB rest bQ = t1 at *
  generalize hqd : nameLen t1.data.toList = q at *
  clear hqd
  have hqi : (q : Int) ≤ (t1.size : Int) := by omega
  have hqi0 : (0 : Int) ≤ (q : Int) := by omega
  go_region_held3 (fun W => W.cell? ⟨pb, 0, none⟩ = some (.string t1)) (first | go_keep)
    (first | (go_at_call 150; refine (HN.out _ HM.out.1).mono ?_; rintro e w3 ⟨rfl, rfl⟩))
  rw [← HNn.out]
  rename_i hHeld
  clear hHeld c0 HN HNn hqi hqi0 hq
  have hB3 := hB2.drew
  have hP3 : PS w2.drew pb t1 ov nodes large whole r0 r1 r2 r3 := hP2
  generalize w2.drew = w3 at *
  clear hB2 hP2 w2
  have c0 := hP3.cells.1
  have f0 := hP3.free 0
  by_cases hn : isNameB nm.data.toList = true
  rotate_left
  · have hn' : isNameB nm.data.toList = false := by simpa using hn
    have HP1 := Lib.hid (HPD.out hn')
    have HNM2 := Lib.hid (HNM.out w3 HM.out.2)
    rw [hn'] at HNM2
    have hres := res_kept hB3 hplt
    obtain ⟨k0, k1, k2, k3, kf⟩ := cells_of_block4 hres
    have kf0 := kf 0; have kf1 := kf 1; have kf2 := kf 2; have kf3 := kf 3
    have HR := Lib.hid hres
    clear hn hn' HPD HPV HPA HPN HPL kf hres
    go_wp2_with (go_at_call 147; refine (HNM2.out).mono ?_; rintro e w4 ⟨rfl, rfl⟩)
    obtain ⟨s0, s1, s2, s3, _⟩ := cells_of_block4 (set4 (v0 := .int .i64 0) (v1 := .string ⟨#[]⟩) (v2 := .int .i64 0) (v3 := .slice none 0 0) HR.out)
    exact bodyPost_ret (v := .tuple #[.agg #[.int .i64 0, .string ⟨#[]⟩, .int .i64 0, .slice none 0 0], .bool false]) (by simp [results, Tryz.results127, go_sem, s0, s1, s2, s3]) rfl
      ⟨by first | (rw [HNP.out, HP1.out]; done) | (rw [HNP.out, HP1.out]; rfl), by rw [HNP.out, HP1.out]; exact hP3.kept (set4_other _ _ _ _ _ _ _ (by omega)), (HW.out.trans hB3).set4 (Nat.le_refl _) _ _ _ _⟩
  have HNM2 := Lib.hid (HNM.out w3 HM.out.2)
  rw [hn] at HNM2
  obtain rfl : nr = t1.extract nm.size t1.size := HNr.out
  have hP4 := hP3.rest_ (t1.extract nm.size t1.size)
  have hB4 := hB3.setCell 0 (.string (t1.extract nm.size t1.size))
  have HL4 := Lib.hid (Laid_but HL.out hB4 hne)
  have hte := HNr
  clear hte
  cases isv with
  | true =>
    have HP1 := Lib.hid (HPV.out hn rfl)
    have HV := Lib.hid (vsort_any pb _ ov nodes large whole r0 r1 r2 r3 _ hP4 HL4.out hne)
    clear hn HPD HPV HPA HPN HPL
    have HP4 := Lib.hid (And.intro hP4 hB4)
    clear hP4 hB4
    generalize hvq : vsortP (t1.extract nm.size t1.size) = vq at HV HP1
    obtain ⟨vs, vok, vr⟩ := vq
    clear hvq
    go_wp2_with (first
      | (go_at_call 147; refine (HNM2.out).mono ?_; rintro e w4 ⟨rfl, rfl⟩)
      | (go_at_call 151; refine (HV.out).mono ?_; rintro e w5 ⟨rfl, hP5, hB5⟩; have hr5 := res_kept (HP4.out.2.trans hB5) hplt; obtain ⟨k0, k1, k2, k3, kf⟩ := cells_of_block4 hr5; have kf0 := kf 0; have kf1 := kf 1; have kf2 := kf 2; have kf3 := kf 3; have HR := Lib.hid hr5; clear hr5 kf))
    · obtain ⟨s0, s1, s2, s3, _⟩ := cells_of_block4 (set4 (v0 := .int .i64 1) (v1 := .string nm) (v2 := .int .i64 vs) (v3 := .slice none 0 0) HR.out)
      exact bodyPost_ret (v := .tuple #[.agg #[.int .i64 1, .string nm, .int .i64 vs, .slice none 0 0], .bool vok]) (by simp [results, Tryz.results127, go_sem, s0, s1, s2, s3]) rfl
        ⟨by first | (rw [HNP.out, HP1.out]; done) | (rw [HNP.out, HP1.out]; rfl), by rw [HNP.out, HP1.out]; exact hP5.kept (set4_other _ _ _ _ _ _ _ (by omega)), (HW.out.trans (HP4.out.2.trans hB5)).set4 (Nat.le_refl _) _ _ _ _⟩
  | false =>
    have HO := Lib.hid (take_any pb _ bOpen ov nodes large whole r0 r1 r2 r3 _ hP4)
    by_cases ho : preB (t1.extract nm.size t1.size) bOpen = true
    · have HP1 := Lib.hid (HPA.out hn rfl ho)
      rw [ho] at HO
      clear hn HPD HPV HPA HPN HPL ho
      have HP4 := Lib.hid (And.intro hP4 hB4)
      clear hP4 hB4
      go_wp2_with (first
        | (go_at_call 147; refine (HNM2.out).mono ?_; rintro e w4 ⟨rfl, rfl⟩)
        | (go_at_call 128; refine (HO.out).mono ?_; rintro e w5 ⟨rfl, hP5, hB5⟩; have hr5 := res_kept (HP4.out.2.trans hB5) hplt; obtain ⟨k0, k1, k2, k3, kf⟩ := cells_of_block4 hr5; have kf0 := kf 0; have kf1 := kf 1; have kf2 := kf 2; have kf3 := kf 3; have HR := Lib.hid hr5; clear hr5 kf))
      obtain ⟨s0, s1, s2, s3, _⟩ := cells_of_block4 (set4 (v0 := .int .i64 3) (v1 := .string nm) (v2 := .int .i64 0) (v3 := .slice none 0 0) HR.out)
      exact bodyPost_ret (v := .tuple #[.agg #[.int .i64 3, .string nm, .int .i64 0, .slice none 0 0], .bool true]) (by simp [results, Tryz.results127, go_sem, s0, s1, s2, s3]) rfl
        ⟨by first | (rw [HNP.out, HP1.out]; done) | (rw [HNP.out, HP1.out]; rfl), by rw [HNP.out, HP1.out]; exact hP5.kept (set4_other _ _ _ _ _ _ _ (by omega)), (HW.out.trans (HP4.out.2.trans hB5)).set4 (Nat.le_refl _) _ _ _ _⟩
    · have ho' : preB (t1.extract nm.size t1.size) bOpen = false := by simpa using ho
      have hto : takeB (t1.extract nm.size t1.size) bOpen = t1.extract nm.size t1.size := by simp [takeB, ho']
      rw [ho', hto] at HO
      have HC := Lib.hid (take_any pb (t1.extract nm.size t1.size) bColon ov nodes large whole r0 r1 r2 r3)
      by_cases hc : preB (t1.extract nm.size t1.size) bColon = true
      rotate_left
      · have hc' : preB (t1.extract nm.size t1.size) bColon = false := by simpa using hc
        have htc : takeB (t1.extract nm.size t1.size) bColon = t1.extract nm.size t1.size := by simp [takeB, hc']
        have HP1 := Lib.hid (HPN.out hn rfl ho' hc')
        rw [hc', htc] at HC
        clear hn HPD HPV HPA HPN HPL ho ho' hto hc hc' htc
        have HP4 := Lib.hid (And.intro hP4 hB4)
        clear hP4 hB4
        go_wp2_with (first
          | (go_at_call 147; refine (HNM2.out).mono ?_; rintro e w4 ⟨rfl, rfl⟩)
          | (go_at_call_of 128 (Value.string ⟨#[40]⟩); refine (HO.out).mono ?_; rintro e w5 ⟨rfl, hP5, hB5⟩)
          | (go_at_call_of 128 (Value.string ⟨#[58]⟩); refine (HC.out _ hP5).mono ?_; rintro e w6 ⟨rfl, hP6, hB6⟩; have hr6 := res_kept (HP4.out.2.trans (hB5.trans hB6)) hplt; obtain ⟨k0, k1, k2, k3, kf⟩ := cells_of_block4 hr6; have kf0 := kf 0; have kf1 := kf 1; have kf2 := kf 2; have kf3 := kf 3; have HR := Lib.hid hr6; clear hr6 kf))
        obtain ⟨s0, s1, s2, s3, _⟩ := cells_of_block4 (set4 (v0 := .int .i64 0) (v1 := .string ⟨#[]⟩) (v2 := .int .i64 0) (v3 := .slice none 0 0) HR.out)
        exact bodyPost_ret (v := .tuple #[.agg #[.int .i64 0, .string ⟨#[]⟩, .int .i64 0, .slice none 0 0], .bool false]) (by simp [results, Tryz.results127, go_sem, s0, s1, s2, s3]) rfl
          ⟨by first | (rw [HNP.out, HP1.out]; done) | (rw [HNP.out, HP1.out]; rfl), by rw [HNP.out, HP1.out]; exact hP6.kept (set4_other _ _ _ _ _ _ _ (by omega)), (HW.out.trans (HP4.out.2.trans (hB5.trans hB6))).set4 (Nat.le_refl _) _ _ _ _⟩
      · have HP1 := Lib.hid (HPL.out hn rfl ho' hc)
        have HS := Lib.hid (sort_any pb (takeB (t1.extract nm.size t1.size) bColon) ov nodes large whole r0 r1 r2 r3)
        rw [hc] at HC
        clear hn HPD HPV HPA HPN HPL ho ho' hto hc
        have HP4 := Lib.hid (And.intro hP4 hB4)
        clear hP4 hB4
        generalize takeB (t1.extract nm.size t1.size) bColon = tr at HS HP1 HC
        generalize hvq : sortP tr 0 sortW = vq at HS HP1
        obtain ⟨vs, vok, vr⟩ := vq
        clear hvq
        go_wp2_with (first
          | (go_at_call 147; refine (HNM2.out).mono ?_; rintro e w4 ⟨rfl, rfl⟩)
          | (go_at_call_of 128 (Value.string ⟨#[40]⟩); refine (HO.out).mono ?_; rintro e w5 ⟨rfl, hP5, hB5⟩)
          | (go_at_call_of 128 (Value.string ⟨#[58]⟩); refine (HC.out _ hP5).mono ?_; rintro e w6 ⟨rfl, hP6, hB6⟩)
          | (go_at_call 152; refine (HS.out _ hP6 (Laid_but (Laid_but HL4.out hB5 hne) hB6 hne)).mono ?_; rintro e w7 ⟨rfl, hP7, hB7⟩; have hr7 := res_kept (HP4.out.2.trans ((hB5.trans hB6).trans hB7)) hplt; obtain ⟨k0, k1, k2, k3, kf⟩ := cells_of_block4 hr7; have kf0 := kf 0; have kf1 := kf 1; have kf2 := kf 2; have kf3 := kf 3; have HR := Lib.hid hr7; clear hr7 kf))
        obtain ⟨s0, s1, s2, s3, _⟩ := cells_of_block4 (set4 (v0 := .int .i64 2) (v1 := .string nm) (v2 := .int .i64 vs) (v3 := .slice none 0 0) HR.out)
        exact bodyPost_ret (v := .tuple #[.agg #[.int .i64 2, .string nm, .int .i64 vs, .slice none 0 0], .bool vok]) (by simp [results, Tryz.results127, go_sem, s0, s1, s2, s3]) rfl
          ⟨by first | (rw [HNP.out, HP1.out]; done) | (rw [HNP.out, HP1.out]; rfl), by rw [HNP.out, HP1.out]; exact hP7.kept (set4_other _ _ _ _ _ _ _ (by omega)), (HW.out.trans (HP4.out.2.trans ((hB5.trans hB6).trans hB7))).set4 (Nat.le_refl _) _ _ _ _⟩

end Go.Proofs.YtkdnfioihhfmpaaGreatDoor
