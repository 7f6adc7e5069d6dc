/-
  THE WALKS OF strings.Compare, compareRoots, compare, Compare.
-/
import Derived.Test.YthhhmjjgckkdhaaDoorCmp
import Derived.Deep.RegionHeld3
import Derived.WalkSpells
import Derived.Lib.Hide
import Derived.StillTactics
import Derived.Lib.Walk
import Derived.KernelRfl
namespace Go.Proofs.YthhhmjjgckkdhaaDoor
open Go.RowKit

/-- Only new memory, and draws. -/
structure Gr (w w' : World) : Prop where
  below : Below w.heap.size w w'
  drawn : w.drawn ≤ w'.drawn
theorem Gr.refl (w : World) : Gr w w := ⟨Below.refl _ _, Nat.le_refl _⟩
theorem Gr.trans {a b c : World} (h : Gr a b) (k : Gr b c) : Gr a c := ⟨h.below.trans (k.below.mono h.below.size), Nat.le_trans h.drawn k.drawn⟩
theorem Gr.alloc {w w' : World} (h : Gr w w') (o : Obj) : Gr w (w'.alloc o) := ⟨h.below.alloc h.below.size o, h.drawn⟩
theorem Gr.drew {w w' : World} (h : Gr w w') : Gr w w'.drew := ⟨h.below.drew, Nat.le_succ_of_le h.drawn⟩

set_option maxHeartbeats 1000000 in
set_option maxRecDepth 100000 in
theorem CompareString_any (a b : ByteArray) (w : World) :
    Calls Tryd.prog 105 #[.string a, .string b] w fun e w' => e = .returned (.int .i64 (str a b)) ∧ w = w' := by
  go_enter Tryd.func105, Tryd.ntmps105
  go_wp2
  rw [run_callFunc_extern Tryd.func116 (by kernel_rfl) (by kernel_rfl) (by kernel_rfl) (e := Extern.BytealgCompare.compare) (by kernel_rfl), Lib.run_compareString]
  simp only [Result.andThen]
  rw [Oper.upon_value]
  go_wp2
  go_ret
  exact ⟨rfl, rfl⟩

theorem strCompare_any (a b : ByteArray) (w : World) :
    Calls Tryd.prog 96 #[.string a, .string b] w fun e w' => e = .returned (.int .i64 (str a b)) ∧ w = w' := by
  go_enter Tryd.func96, Tryd.ntmps96
  go_wp2_with (go_at_call 105; refine (CompareString_any _ _ _).mono ?_; rintro e w' ⟨rfl, rfl⟩)
  go_ret
  exact ⟨rfl, rfl⟩

set_option maxHeartbeats 1600000 in
set_option maxRecDepth 100000 in
theorem compareRoots_any (k s k' s' : Int) (n n' : ByteArray) (l cap l' cap' : Nat) (xa xa' : Option Addr) (b o b' o' : Nat) (w : World)
    (g0 : w.cell? ⟨b, o, none⟩ = some (.int .i64 k)) (g1 : w.cell? ⟨b, o + 1, none⟩ = some (.string n)) (g2 : w.cell? ⟨b, o + 2, none⟩ = some (.int .i64 s)) (g3 : w.cell? ⟨b, o + 3, none⟩ = some (.slice xa l cap))
    (h0 : w.cell? ⟨b', o', none⟩ = some (.int .i64 k')) (h1 : w.cell? ⟨b', o' + 1, none⟩ = some (.string n')) (h2 : w.cell? ⟨b', o' + 2, none⟩ = some (.int .i64 s')) (h3 : w.cell? ⟨b', o' + 3, none⟩ = some (.slice xa' l' cap')) :
    Calls Tryd.prog 78 #[.pointer (some ⟨b, o, none⟩), .pointer (some ⟨b', o', none⟩)] w fun e w' => e = .returned (.int .i64 (orr (num k k') (orr (str n n') (orr (num s s') (num l l'))))) ∧ Gr w w' := by
  have C4 := cells_new w #[.int .i64 (num k k'), .int .i64 (str n n'), .int .i64 (num s s'), .int .i64 (num l l')] 3
  go_enter Tryd.func78, Tryd.ntmps78
  go_wp2_with fail
  go_region_held3 (fun w' => w'.cell? ⟨b, o, none⟩ = some (.int .i64 k) ∧ w'.cell? ⟨b, o + 1, none⟩ = some (.string n) ∧ w'.cell? ⟨b, o + 2, none⟩ = some (.int .i64 s) ∧ w'.cell? ⟨b, o + 3, none⟩ = some (.slice xa l cap) ∧
      w'.cell? ⟨b', o', none⟩ = some (.int .i64 k') ∧ w'.cell? ⟨b', o' + 1, none⟩ = some (.string n') ∧ w'.cell? ⟨b', o' + 2, none⟩ = some (.int .i64 s') ∧ w'.cell? ⟨b', o' + 3, none⟩ = some (.slice xa' l' cap')) (go_keep)
    (first
      | (go_at_call 80; refine (Compare_int_any _ _ _).mono ?_; rintro e w' ⟨rfl, rfl⟩)
      | (go_at_call 96; refine (strCompare_any _ _ _).mono ?_; rintro e w' ⟨rfl, rfl⟩)
      | (go_at_call 79; refine (Or4_any (num k k') (str n n') (num s s') (num l l') _ _ ?_ ?_ ?_ ?_).mono ?_; (exact C4 0 _ rfl); (exact C4 1 _ rfl); (exact C4 2 _ rfl); (exact C4 3 _ rfl); rintro e w' ⟨rfl, rfl⟩))
  go_wp2_with fail
  go_ret
  exact ⟨rfl, ((Gr.refl _).alloc _).drew⟩

end Go.Proofs.YthhhmjjgckkdhaaDoor
