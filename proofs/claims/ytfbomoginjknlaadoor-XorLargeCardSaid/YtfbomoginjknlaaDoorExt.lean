/-
  ONLY NEW MEMORY, FROM ONE WORLD TO ANOTHER.
-/
import Derived.Test.YtfbomoginjknlaaDoorTake
namespace Go.Proofs.YtfbomoginjknlaaDoor
open Go.RowKit

def Ext (a b : World) : Prop := Below a.heap.size a b
theorem Ext.refl (a : World) : Ext a a := Below.refl _ _
theorem Ext.trans {a b c : World} (h : Ext a b) (k : Below b.heap.size b c) : Ext a c := Below.trans h (k.mono h.size)
theorem Ext.alloc {a b : World} (h : Ext a b) (o : Obj) : Ext a (b.alloc o) := Below.alloc h h.size o
theorem Ext.drew {a b : World} (h : Ext a b) : Ext a b.drew := Below.drew h

theorem Is_form {w : World} {t : Tm} {c0 c1 c2 c3 : Value} (h : Is w t c0 c1 c2 c3) : ∃ (k : Int) (n : ByteArray) (s : Int) (xa : Option Addr) (l c : Nat), c0 = .int .i64 k ∧ c1 = .string n ∧ c2 = .int .i64 s ∧ c3 = .slice xa l c := by
  obtain ⟨k, n, s, ks⟩ := t
  simp only [Is] at h
  obtain ⟨rfl, rfl, rfl, _, _, _, _, xa, cap, rfl, _⟩ := h
  exact ⟨_, _, _, _, _, _, rfl, rfl, rfl, rfl⟩
theorem eight_cells (w : World) (a0 a1 a2 a3 b0 b1 b2 b3 : Value) (T : TypeId) (j : Nat) (u : Value) (h : #[a0, a1, a2, a3, b0, b1, b2, b3][j]? = some u) : (w.alloc (.cells #[a0, a1, a2, a3, b0, b1, b2, b3] T)).cell? ⟨w.heap.size, j, none⟩ = some u := by
  unfold World.cell?; rw [heap_alloc_new]; simpa using h
theorem Row_two {w : World} {t u : Tm} {a0 a1 a2 a3 b0 b1 b2 b3 : Value} (h : Is w t a0 a1 a2 a3) (k : Is w u b0 b1 b2 b3) (T : TypeId) : Row (w.alloc (.cells #[a0, a1, a2, a3, b0, b1, b2, b3] T)) [t, u] (some ⟨w.heap.size, 0, none⟩) := by
  have c := eight_cells w a0 a1 a2 a3 b0 b1 b2 b3 T
  exact Row_cons_mk ⟨a0, a1, a2, a3, c 0 _ rfl, c 1 _ rfl, c 2 _ rfl, c 3 _ rfl, Is_alloc h _⟩ (Row_cons_mk ⟨b0, b1, b2, b3, c 4 _ rfl, c 5 _ rfl, c 6 _ rfl, c 7 _ rfl, Is_alloc k _⟩ (by simp [Row]))
theorem Is_atom (w : World) (n : ByteArray) (hn : n.size ≤ maxLen) : Is w (.mk 2 n 0 []) (.int .i64 2) (.string n) (.int .i64 0) (.slice none 0 0) := by
  simp only [Is]
  exact ⟨trivial, trivial, trivial, by omega, by omega, hn, by simp, none, 0, rfl, by simp, by simp [Row]⟩

theorem Row_two_at {w : World} {t u : Tm} {a0 a1 a2 a3 b0 b1 b2 b3 : Value} (H : Nat) (hH : w.heap.size = H) (h : Is w t a0 a1 a2 a3) (k : Is w u b0 b1 b2 b3) (T : TypeId) : Row (w.alloc (.cells #[a0, a1, a2, a3, b0, b1, b2, b3] T)) [t, u] (some ⟨H, 0, none⟩) := by
  subst hH; exact Row_two h k T
theorem Row_one_at {w : World} {t : Tm} {a0 a1 a2 a3 : Value} (H : Nat) (hH : w.heap.size = H) (h : Is w t a0 a1 a2 a3) (T : TypeId) : Row (w.alloc (.cells #[a0, a1, a2, a3] T)) [t] (some ⟨H, 0, none⟩) := by
  subst hH; exact Row_cons_mk (Lies_box h T) (by simp [Row])
theorem Lies_cells {w : World} {t : Tm} {p : Nat} (h : Lies w t p 0) : ∃ (k : Int) (n : ByteArray) (s : Int) (xa : Option Addr) (l c : Nat), w.cell? ⟨p, 0, none⟩ = some (.int .i64 k) ∧ w.cell? ⟨p, 1, none⟩ = some (.string n) ∧ w.cell? ⟨p, 2, none⟩ = some (.int .i64 s) ∧ w.cell? ⟨p, 3, none⟩ = some (.slice xa l c) ∧ Is w t (.int .i64 k) (.string n) (.int .i64 s) (.slice xa l c) := by
  obtain ⟨c0, c1, c2, c3, g0, g1, g2, g3, hI⟩ := h
  obtain ⟨k, n, s, xa, l, c, rfl, rfl, rfl, rfl⟩ := Is_form hI
  exact ⟨k, n, s, xa, l, c, g0, g1, g2, g3, hI⟩

theorem cells_new_at (w : World) (cs : Array Value) (T : TypeId) (H : Nat) (hH : w.heap.size = H) (j : Nat) (u : Value) (h : cs[j]? = some u) : (w.alloc (.cells cs T)).cell? ⟨H, j, none⟩ = some u := by
  subst hH; unfold World.cell?; rw [heap_alloc_new]; simpa using h
theorem Row_three_at {w : World} {t u v : Tm} {a0 a1 a2 a3 b0 b1 b2 b3 c0 c1 c2 c3 : Value} (H : Nat) (hH : w.heap.size = H) (h : Is w t a0 a1 a2 a3) (k : Is w u b0 b1 b2 b3) (l : Is w v c0 c1 c2 c3) (T : TypeId) :
    Row (w.alloc (.cells #[a0, a1, a2, a3, b0, b1, b2, b3, c0, c1, c2, c3] T)) [t, u, v] (some ⟨H, 0, none⟩) := by
  have c := cells_new_at w #[a0, a1, a2, a3, b0, b1, b2, b3, c0, c1, c2, c3] T H hH
  exact Row_cons_mk ⟨a0, a1, a2, a3, c 0 _ rfl, c 1 _ rfl, c 2 _ rfl, c 3 _ rfl, Is_alloc h _⟩ (Row_cons_mk ⟨b0, b1, b2, b3, c 4 _ rfl, c 5 _ rfl, c 6 _ rfl, c 7 _ rfl, Is_alloc k _⟩ (Row_cons_mk ⟨c0, c1, c2, c3, c 8 _ rfl, c 9 _ rfl, c 10 _ rfl, c 11 _ rfl, Is_alloc l _⟩ (by simp [Row])))

end Go.Proofs.YtfbomoginjknlaaDoor
