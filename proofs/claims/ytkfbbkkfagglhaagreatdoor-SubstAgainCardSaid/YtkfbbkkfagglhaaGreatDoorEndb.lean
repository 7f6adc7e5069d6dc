/-
  WHAT end DOES; the state before and behind its steps.
-/
import Derived.Test.YtkfbbkkfagglhaaGreatDoorStack
import Derived.Deep.LoopGhost
import Derived.Deep.RegionLaw
import Derived.Deep.DeepCutAuto
namespace Go.Proofs.YtkfbbkkfagglhaaGreatDoor
open Go.RowKit

def pst (l : List Fr) : List (ByteArray × List Tm) := l.map fun f => (f.nm, f.ks)

/-- What end does: whether it is right, what remains, the stack, whether a limit is exceeded, and the root. -/
def endP : List (ByteArray × List Tm) → ByteArray → Bool → Tm → Bool × ByteArray × List (ByteArray × List Tm) × Bool × Option Tm
  | [], rest, large, t => (true, rest, [], large, some t)
  | (nm, ks) :: st, rest, large, t =>
    if preB rest bComma then (true, takeB rest bComma, (nm, ks ++ [t]) :: st, large || decide (8 < (ks ++ [t]).length), none)
    else if preB rest bClose then endP st (takeB rest bClose) (large || decide (8 < (ks ++ [t]).length)) (.mk 3 nm 0 (ks ++ [t]))
    else (false, rest, (nm, ks ++ [t]) :: st, large || decide (8 < (ks ++ [t]).length), none)

theorem own_form {w : World} {base : Nat} {T : TypeId} {k : Nat} {v : Value} {n : Nat} {xs : List Value} (h : w.ownsRow base T k v n xs) : ∃ xa cap, v = .slice xa n cap := by
  rcases h.2 with ⟨rfl, h0⟩ | ⟨g, cap, cur, rfl, _⟩
  · exact ⟨none, 0, by rw [h0]⟩
  · exact ⟨some ⟨g, 0, none⟩, cap, rfl⟩
theorem own_form_pos {w : World} {base : Nat} {T : TypeId} {k : Nat} {v : Value} {n : Nat} {xs : List Value} (h : w.ownsRow base T k v n xs) (hn : 0 < n) : ∃ g cap, v = .slice (some ⟨g, 0, none⟩) n cap := by
  rcases h.2 with ⟨rfl, h0⟩ | ⟨g, cap, cur, rfl, _⟩
  · omega
  · exact ⟨g, cap, rfl⟩

theorem row_new {w : World} {base : Nat} {T : TypeId} {g n cap : Nat} {cs : List Value} {z0 z1 z2 z3 : Value} (h : w.ownsRow base T 4 (.slice (some ⟨g, 0, none⟩) (n + 1) cap) (n + 1) (cs ++ [z0, z1, z2, z3])) (hc : cs.length = n * 4) :
    w.cell? ⟨g, n * 4, none⟩ = some z0 ∧ w.cell? ⟨g, n * 4 + 1, none⟩ = some z1 ∧ w.cell? ⟨g, n * 4 + 2, none⟩ = some z2 ∧ w.cell? ⟨g, n * 4 + 3, none⟩ = some z3 := by
  refine ⟨?_, ?_, ?_, ?_⟩ <;> (rw [h.cellAt _ (by omega), List.getElem?_append_right (by omega), hc])
  · rw [Nat.sub_self]; rfl
  · rw [Nat.add_sub_cancel_left]; rfl
  · rw [Nat.add_sub_cancel_left]; rfl
  · rw [Nat.add_sub_cancel_left]; rfl

theorem info24 : (Tryz.prog.info? 36).map (fun i => (i.zero, i.size, i.bytes)) = some (some (.agg #[.int .i64 0, .string ⟨#[]⟩, .int .i64 0, .slice none 0 0]), 4, 56) := by kernel_rfl

theorem setCell_comm (w : World) (p q : Addr) (u v : Value) (h : p.block ≠ q.block) : (w.setCell p u).setCell q v = (w.setCell q v).setCell p u := by
  unfold World.setCell
  congr 1
  apply Array.ext_getElem?
  intro i
  simp only [Array.getElem?_modify]
  by_cases h1 : p.block = i
  · have h2 : ¬ q.block = i := fun e => h (h1.trans e.symm)
    simp [h1, h2]
  · by_cases h2 : q.block = i <;> simp [h1, h2]

theorem kid_close1 {w1 : World} {gg og n l cap : Nat} {c0 c1 c2 c3 : Value} :
    ((((w1.setCell ⟨gg, n * 4, none⟩ c0).setCell ⟨gg, n * 4 + 1, none⟩ c1).setCell ⟨gg, n * 4 + 2, none⟩ c2).setCell ⟨gg, n * 4 + 3, none⟩ c3).setCell ⟨og, l * 4 + 3, none⟩ (.slice (some ⟨gg, 0, none⟩) (n + 1) cap) = kidW w1 gg og n l cap c0 c1 c2 c3 := rfl

theorem kid_close2 {w1 : World} {gg og n l cap : Nat} {c0 c1 c2 c3 : Value} (h : gg ≠ og) :
    ((((w1.setCell ⟨og, l * 4 + 3, none⟩ (.slice (some ⟨gg, 0, none⟩) (n + 1) cap)).setCell ⟨gg, n * 4, none⟩ c0).setCell ⟨gg, n * 4 + 1, none⟩ c1).setCell ⟨gg, n * 4 + 2, none⟩ c2).setCell ⟨gg, n * 4 + 3, none⟩ c3 = kidW w1 gg og n l cap c0 c1 c2 c3 := by
  unfold kidW put4
  rw [setCell_comm _ ⟨og, l * 4 + 3, none⟩ ⟨gg, n * 4, none⟩ _ _ (fun e => h e.symm), setCell_comm _ ⟨og, l * 4 + 3, none⟩ ⟨gg, n * 4 + 1, none⟩ _ _ (fun e => h e.symm),
    setCell_comm _ ⟨og, l * 4 + 3, none⟩ ⟨gg, n * 4 + 2, none⟩ _ _ (fun e => h e.symm), setCell_comm _ ⟨og, l * 4 + 3, none⟩ ⟨gg, n * 4 + 3, none⟩ _ _ (fun e => h e.symm)]

theorem Stk_head_form {w : World} {base pb : Nat} {ov : Value} {F : Nat → Prop} {nm : ByteArray} {ks : List Tm} {kv : Value} {r : List Fr} (h : Stk w base pb ov F (⟨nm, ks, kv⟩ :: r)) : ∃ xa cap, kv = .slice xa ks.length cap := by
  obtain ⟨_, ⟨cs, ho, _⟩, _⟩ := h
  exact own_form ho

theorem popW_eq {w : World} {pb tb og n ocap : Nat} {c0 c1 c2 c3 : Value} :
    ((((w.setCell ⟨tb, 0, none⟩ c0).setCell ⟨tb, 1, none⟩ c1).setCell ⟨tb, 2, none⟩ c2).setCell ⟨tb, 3, none⟩ c3).setCell ⟨pb, 1, none⟩ (.slice (some ⟨og, 0, none⟩) n ocap) = popW w pb tb og n ocap c0 c1 c2 c3 := rfl

theorem endP_comma {nm : ByteArray} {ks : List Tm} {st : List (ByteArray × List Tm)} {rest : ByteArray} {large : Bool} {t : Tm} (h : preB rest bComma = true) :
    endP ((nm, ks) :: st) rest large t = (true, takeB rest bComma, (nm, ks ++ [t]) :: st, large || decide (8 < (ks ++ [t]).length), none) := by simp only [endP, h, if_true]
theorem endP_close {nm : ByteArray} {ks : List Tm} {st : List (ByteArray × List Tm)} {rest : ByteArray} {large : Bool} {t : Tm} (h : preB rest bComma = false) (h2 : preB rest bClose = true) :
    endP ((nm, ks) :: st) rest large t = endP st (takeB rest bClose) (large || decide (8 < (ks ++ [t]).length)) (.mk 3 nm 0 (ks ++ [t])) := by
  rw [endP, if_neg (by rw [h]; simp), if_pos h2]
theorem endP_fail {nm : ByteArray} {ks : List Tm} {st : List (ByteArray × List Tm)} {rest : ByteArray} {large : Bool} {t : Tm} (h : preB rest bComma = false) (h2 : preB rest bClose = false) :
    endP ((nm, ks) :: st) rest large t = (false, rest, (nm, ks ++ [t]) :: st, large || decide (8 < (ks ++ [t]).length), none) := by
  rw [endP, if_neg (by rw [h]; simp), if_neg (by rw [h2]; simp)]

/-- The root is laid down, and the text is whole. -/
def rootW (w : World) (pb : Nat) (x0 x1 x2 x3 : Value) : World := ((((w.setCell ⟨pb, 5, none⟩ x0).setCell ⟨pb, 6, none⟩ x1).setCell ⟨pb, 7, none⟩ x2).setCell ⟨pb, 8, none⟩ x3).setCell ⟨pb, 4, none⟩ (.bool true)
theorem But_root (w : World) (pb : Nat) (x0 x1 x2 x3 : Value) : But pb w (rootW w pb x0 x1 x2 x3) :=
  (((((But.refl pb w).setCell 5 x0).setCell 6 x1).setCell 7 x2).setCell 8 x3).setCell 4 (.bool true)

end Go.Proofs.YtkfbbkkfagglhaaGreatDoor

/-
  THE WALK OF end.
-/
namespace Go.Proofs.YtkfbbkkfagglhaaGreatDoor
open Go.RowKit

end Go.Proofs.YtkfbbkkfagglhaaGreatDoor
