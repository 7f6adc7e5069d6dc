/-
  ONLY NEW MEMORY, FROM ONE WORLD TO ANOTHER.
-/
import Derived.Test.YthhhmjjgckkdhaaDoorNodeb
namespace Go.Proofs.YthhhmjjgckkdhaaDoor
open Go.RowKit

def Ext (a b : World) : Prop := Below a.heap.size a b
theorem Ext.refl (a : World) : Ext a a := Below.refl _ _
theorem Ext.trans {a b c : World} (h : Ext a b) (k : Below b.heap.size b c) : Ext a c := Below.trans h (k.mono h.size)
theorem Ext.alloc {a b : World} (h : Ext a b) (o : Obj) : Ext a (b.alloc o) := Below.alloc h h.size o
theorem Laid_ext {a b : World} (h : Laid a) (k : Ext a b) : Laid b := by
  obtain ⟨h0, h1, h2, h3, h4, h5⟩ := h
  exact ⟨keep_below k _ _ h0, keep_below k _ _ h1, keep_below k _ _ h2, keep_below k _ _ h3, keep_below k _ _ h4, keep_below k _ _ h5⟩
theorem Ext.drew {a b : World} (h : Ext a b) : Ext a b.drew := Below.drew h

end Go.Proofs.YthhhmjjgckkdhaaDoor
