/-
  THE WALKS OF sort, variableSort, node.
-/
import Derived.Test.YtkfbbkkfagglhaaGreatDoorTake
import Derived.Laws.Rows
namespace Go.Proofs.YtkfbbkkfagglhaaGreatDoor
open Go.RowKit

def wAny : ByteArray := ⟨#[97, 110, 121]⟩
def wAgent : ByteArray := ⟨#[97, 103, 101, 110, 116]⟩
def wNonce : ByteArray := ⟨#[110, 111, 110, 99, 101]⟩
def wKey : ByteArray := ⟨#[107, 101, 121]⟩
def wData : ByteArray := ⟨#[100, 97, 116, 97]⟩
def wTag : ByteArray := ⟨#[116, 97, 103]⟩

/-- The table of the sorts' words lies as its initialiser lays it. -/
def Laid (w : World) : Prop :=
  w.cell? ⟨0, 0, none⟩ = some (.string wAny) ∧ w.cell? ⟨0, 1, none⟩ = some (.string wAgent) ∧ w.cell? ⟨0, 2, none⟩ = some (.string wNonce) ∧
  w.cell? ⟨0, 3, none⟩ = some (.string wKey) ∧ w.cell? ⟨0, 4, none⟩ = some (.string wData) ∧ w.cell? ⟨0, 5, none⟩ = some (.string wTag)

def sortW : List ByteArray := [wAny, wAgent, wNonce, wKey, wData, wTag]
/-- The first word of a list that stands there, its number, and what remains. -/
def sortP (rest : ByteArray) : Int → List ByteArray → Int × Bool × ByteArray
  | _, [] => (0, false, rest)
  | i, p :: ps => if preB rest p then (i, true, takeB rest p) else sortP rest (i + 1) ps

end Go.Proofs.YtkfbbkkfagglhaaGreatDoor

/-
  THE WALKS OF variableSort, node.
-/
namespace Go.Proofs.YtkfbbkkfagglhaaGreatDoor
open Go.RowKit

theorem Laid_but {pb : Nat} {w w' : World} (h : Laid w) (hb : But pb w w') (hne : pb ≠ 0) : Laid w' := by
  obtain ⟨l0, l1, l2, l3, l4, l5⟩ := h
  have hlt := World.block_lt_of_cell? w _ l0
  have hk : w'.heap[0]? = w.heap[0]? := hb.block _ hlt (by simp; omega)
  refine ⟨?_, ?_, ?_, ?_, ?_, ?_⟩ <;> (rw [World.cell?_of_block (w := w) hk]; assumption)

def bQ : ByteArray := ⟨#[63]⟩
def bColon : ByteArray := ⟨#[58]⟩
def bOpen : ByteArray := ⟨#[40]⟩
def bClose : ByteArray := ⟨#[41]⟩
def bComma : ByteArray := ⟨#[44, 32]⟩

def vsortP (rest : ByteArray) : Int × Bool × ByteArray :=
  if preB rest bColon then ((sortP (takeB rest bColon) 0 sortW).1, (sortP (takeB rest bColon) 0 sortW).2.1 && ((sortP (takeB rest bColon) 0 sortW).1 != 0), (sortP (takeB rest bColon) 0 sortW).2.2) else (0, true, rest)

/-- A node's beginning: its kind, name, sort, whether it is one, and what remains. -/
def nodeName (rest : ByteArray) : ByteArray := (takeB rest bQ).extract 0 (nameLen (takeB rest bQ).data.toList)
def nodeRest (rest : ByteArray) : ByteArray := (takeB rest bQ).extract (nodeName rest).size (takeB rest bQ).size
def nodeP (rest : ByteArray) : Int × ByteArray × Int × Bool × ByteArray :=
  if isNameB (nodeName rest).data.toList = false then (0, ByteArray.empty, 0, false, takeB rest bQ)
  else if preB rest bQ then (1, nodeName rest, (vsortP (nodeRest rest)).1, (vsortP (nodeRest rest)).2.1, (vsortP (nodeRest rest)).2.2)
  else if preB (nodeRest rest) bOpen then (3, nodeName rest, 0, true, takeB (nodeRest rest) bOpen)
  else if preB (nodeRest rest) bColon = false then (0, ByteArray.empty, 0, false, nodeRest rest)
  else (2, nodeName rest, (sortP (takeB (nodeRest rest) bColon) 0 sortW).1, (sortP (takeB (nodeRest rest) bColon) 0 sortW).2.1, (sortP (takeB (nodeRest rest) bColon) 0 sortW).2.2)

theorem takeB_size (s p : ByteArray) : (takeB s p).size ≤ s.size := by
  unfold takeB; split
  · simp only [ByteArray.size_extract]; omega
  · omega

/-- The result's cell of a function that gives a term, behind calls that leave it alone. -/
theorem res_kept {pb : Nat} {w w' : World} (hb : But pb (w.alloc (.cells #[.int .i64 0, .string ByteArray.empty, .int .i64 0, .slice none 0 0] 36)) w') (hlt : pb < w.heap.size) :
    w'.heap[w.heap.size]? = some (.cells #[.int .i64 0, .string ByteArray.empty, .int .i64 0, .slice none 0 0] 36 (0, 0)) := by
  rw [hb.block w.heap.size (by simp) (by simp; omega), heap_alloc_new]
theorem cells_of_block4 {w : World} {b : Nat} {c0 c1 c2 c3 : Value} {T : TypeId} (h : w.heap[b]? = some (.cells #[c0, c1, c2, c3] T (0, 0))) :
    w.cell? ⟨b, 0, none⟩ = some c0 ∧ w.cell? ⟨b, 1, none⟩ = some c1 ∧ w.cell? ⟨b, 2, none⟩ = some c2 ∧ w.cell? ⟨b, 3, none⟩ = some c3 ∧ ∀ i, w.frozen? ⟨b, i, none⟩ = false := by
  refine ⟨?_, ?_, ?_, ?_, fun i => ?_⟩ <;> (first | (unfold World.cell?; rw [h]; rfl) | (unfold World.frozen?; rw [h]; simp))

/-- Four stores into a block of four. -/
theorem set4 {w : World} {b : Nat} {T : TypeId} {a0 a1 a2 a3 v0 v1 v2 v3 : Value} (h : w.heap[b]? = some (.cells #[a0, a1, a2, a3] T (0, 0))) :
    ((((w.setCell ⟨b, 0, none⟩ v0).setCell ⟨b, 1, none⟩ v1).setCell ⟨b, 2, none⟩ v2).setCell ⟨b, 3, none⟩ v3).heap[b]? = some (.cells #[v0, v1, v2, v3] T (0, 0)) := by
  simp [World.setCell, Array.getElem?_modify, h]
theorem set4_other (w : World) (b k : Nat) (v0 v1 v2 v3 : Value) (hk : k ≠ b) :
    ((((w.setCell ⟨b, 0, none⟩ v0).setCell ⟨b, 1, none⟩ v1).setCell ⟨b, 2, none⟩ v2).setCell ⟨b, 3, none⟩ v3).heap[k]? = w.heap[k]? := by
  rw [Below.heap_setCell _ _ _ _ hk, Below.heap_setCell _ _ _ _ hk, Below.heap_setCell _ _ _ _ hk, Below.heap_setCell _ _ _ _ hk]
theorem But.fresh {b r : Nat} {w w' w'' : World} (h : But b w w') (hr : w.heap.size ≤ r) (ho : w''.os = w'.os) (ht : w''.tape = w'.tape) (hu : w''.output = w'.output) (hs : w'.heap.size ≤ w''.heap.size) (hk : ∀ k, k ≠ r → w''.heap[k]? = w'.heap[k]?) : But b w w'' :=
  ⟨ho.trans h.os, ht.trans h.tape, hu.trans h.output, Nat.le_trans h.size hs, fun k hk1 hne => (hk k (by omega)).trans (h.block k hk1 hne)⟩
theorem But.set4 {b r : Nat} {w w' : World} (h : But b w w') (hr : w.heap.size ≤ r) (v0 v1 v2 v3 : Value) : But b w ((((w'.setCell ⟨r, 0, none⟩ v0).setCell ⟨r, 1, none⟩ v1).setCell ⟨r, 2, none⟩ v2).setCell ⟨r, 3, none⟩ v3) :=
  h.fresh hr rfl rfl rfl (by simp [World.setCell]) (fun k hk => set4_other _ _ _ _ _ _ _ hk)

end Go.Proofs.YtkfbbkkfagglhaaGreatDoor
