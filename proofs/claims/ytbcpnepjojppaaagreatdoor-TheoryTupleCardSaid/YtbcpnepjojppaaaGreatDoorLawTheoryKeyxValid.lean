import Derived.Test.YtbcpnepjojppaaaGreatDoorLawTheoryKeyxName
import Derived.Test.YtbcpnepjojppaaaGreatDoorLawTheoryKeyxRef
import Derived.Test.YtbcpnepjojppaaaGreatDoorLawTheoryKeyxYtab
namespace Go.Proofs.YtbcpnepjojppaaaGreatDoor
open Go.RowKit
def nodeE : Tm → Int
  | .mk k n s ks => if ¬ (k = 1 ∨ k = 2) ∧ ¬ k = 3 then 1 else if s < 0 ∨ 5 < s then 1 else if (k = 1 ∨ k = 2) ∧ 0 < ks.length then 1 else if ¬ (k = 1 ∨ k = 2) ∧ ¬ s = 0 then 1 else if isNameB n.data.toList then (if 8 < ks.length then 3 else 0) else 2
mutual
/-- The first error of a node, in preorder. -/
def nodesE : Tm → Int
  | .mk k n s ks => if nodeE (.mk k n s ks) = 0 then nodesL ks else nodeE (.mk k n s ks)
def nodesL : List Tm → Int
  | [] => 0
  | t :: ts => if nodesE t = 0 then nodesL ts else nodesE t
end
def validE (t : Tm) : Int := if nodesE t = 0 then (if 400 < size t ∨ 40 < depth t then 3 else 0) else nodesE t
theorem nodesL_drop (l : List Tm) (j : Nat) (h : j < l.length) : nodesL (l.drop j) = if nodesE l[j] = 0 then nodesL (l.drop (j + 1)) else nodesE l[j] := by
  rw [List.drop_eq_getElem_cons h, nodesL]
set_option maxHeartbeats 800000 in
set_option maxRecDepth 100000 in
theorem refnode_0 (k : Int) (s : Int) (n : ByteArray) (ks : List Tm) (xa : Option Addr) (cap : Nat) (w : World) (_hnm : n.size ≤ maxLen) (_hkl : ks.length ≤ 9223372036854775807) (hk1 : ¬ k = 1) (hk2 : ¬ k = 2) (hk3 : ¬ k = 3) :
    Calls Tryz.prog 108 #[.agg #[.int .i64 k, .string n, .int .i64 s, .slice xa ks.length cap]] w fun e w' => e = .returned (.int .i64 (nodeE (.mk k n s ks : Tm))) ∧ Below w.heap.size w w' := by
  have H : Hid (nodeE (.mk k n s ks : Tm) = 1) := by
    show _ = _
    simp [nodeE, hk1, hk2, hk3]
  have HB : Hid (Below w.heap.size w (w.alloc (.cells #[.int .i64 k, .string n, .int .i64 s, .slice xa ks.length cap] 24))) := Lib.hid ((Below.refl _ _).alloc (Nat.le_refl _) _)
  have f1 : (k == 1) = false := by simp [hk1]
  have f2 : (k == 2) = false := by simp [hk2]
  have f3 : (k != 3) = true := by simp [hk3]
  clear hk1 hk2 hk3
  go_enter Tryz.func108, Tryz.ntmps108
  go_wp2_with fail
  go_ret
  exact ⟨by rw [H.out]; rfl, HB.out⟩
set_option maxHeartbeats 800000 in
set_option maxRecDepth 100000 in
theorem refnode_1 (s : Int) (n : ByteArray) (ks : List Tm) (xa : Option Addr) (cap : Nat) (w : World) (_hnm : n.size ≤ maxLen) (_hkl : ks.length ≤ 9223372036854775807) (hs : s < 0) :
    Calls Tryz.prog 108 #[.agg #[.int .i64 1, .string n, .int .i64 s, .slice xa ks.length cap]] w fun e w' => e = .returned (.int .i64 (nodeE (.mk 1 n s ks : Tm))) ∧ Below w.heap.size w w' := by
  have H : Hid (nodeE (.mk 1 n s ks : Tm) = 1) := by
    show _ = _
    simp [nodeE, hs]
  have HB : Hid (Below w.heap.size w (w.alloc (.cells #[.int .i64 1, .string n, .int .i64 s, .slice xa ks.length cap] 24))) := Lib.hid ((Below.refl _ _).alloc (Nat.le_refl _) _)
  go_enter Tryz.func108, Tryz.ntmps108
  go_wp2_with fail
  go_ret
  exact ⟨by rw [H.out]; rfl, HB.out⟩
set_option maxHeartbeats 800000 in
set_option maxRecDepth 100000 in
theorem refnode_2 (s : Int) (n : ByteArray) (ks : List Tm) (xa : Option Addr) (cap : Nat) (w : World) (_hnm : n.size ≤ maxLen) (_hkl : ks.length ≤ 9223372036854775807) (hs : ¬ s < 0) (hs5 : 5 < s) :
    Calls Tryz.prog 108 #[.agg #[.int .i64 1, .string n, .int .i64 s, .slice xa ks.length cap]] w fun e w' => e = .returned (.int .i64 (nodeE (.mk 1 n s ks : Tm))) ∧ Below w.heap.size w w' := by
  have H : Hid (nodeE (.mk 1 n s ks : Tm) = 1) := by
    show _ = _
    simp [nodeE, hs, hs5]
  have HB : Hid (Below w.heap.size w (w.alloc (.cells #[.int .i64 1, .string n, .int .i64 s, .slice xa ks.length cap] 24))) := Lib.hid ((Below.refl _ _).alloc (Nat.le_refl _) _)
  go_enter Tryz.func108, Tryz.ntmps108
  go_wp2_with fail
  go_ret
  exact ⟨by rw [H.out]; rfl, HB.out⟩
set_option maxHeartbeats 800000 in
set_option maxRecDepth 100000 in
theorem refnode_3 (s : Int) (n : ByteArray) (ks : List Tm) (xa : Option Addr) (cap : Nat) (w : World) (_hnm : n.size ≤ maxLen) (_hkl : ks.length ≤ 9223372036854775807) (hs : s < 0) :
    Calls Tryz.prog 108 #[.agg #[.int .i64 2, .string n, .int .i64 s, .slice xa ks.length cap]] w fun e w' => e = .returned (.int .i64 (nodeE (.mk 2 n s ks : Tm))) ∧ Below w.heap.size w w' := by
  have H : Hid (nodeE (.mk 2 n s ks : Tm) = 1) := by
    show _ = _
    simp [nodeE, hs]
  have HB : Hid (Below w.heap.size w (w.alloc (.cells #[.int .i64 2, .string n, .int .i64 s, .slice xa ks.length cap] 24))) := Lib.hid ((Below.refl _ _).alloc (Nat.le_refl _) _)
  go_enter Tryz.func108, Tryz.ntmps108
  go_wp2_with fail
  go_ret
  exact ⟨by rw [H.out]; rfl, HB.out⟩
set_option maxHeartbeats 800000 in
set_option maxRecDepth 100000 in
theorem refnode_4 (s : Int) (n : ByteArray) (ks : List Tm) (xa : Option Addr) (cap : Nat) (w : World) (_hnm : n.size ≤ maxLen) (_hkl : ks.length ≤ 9223372036854775807) (hs : ¬ s < 0) (hs5 : 5 < s) :
    Calls Tryz.prog 108 #[.agg #[.int .i64 2, .string n, .int .i64 s, .slice xa ks.length cap]] w fun e w' => e = .returned (.int .i64 (nodeE (.mk 2 n s ks : Tm))) ∧ Below w.heap.size w w' := by
  have H : Hid (nodeE (.mk 2 n s ks : Tm) = 1) := by
    show _ = _
    simp [nodeE, hs, hs5]
  have HB : Hid (Below w.heap.size w (w.alloc (.cells #[.int .i64 2, .string n, .int .i64 s, .slice xa ks.length cap] 24))) := Lib.hid ((Below.refl _ _).alloc (Nat.le_refl _) _)
  go_enter Tryz.func108, Tryz.ntmps108
  go_wp2_with fail
  go_ret
  exact ⟨by rw [H.out]; rfl, HB.out⟩
set_option maxHeartbeats 800000 in
set_option maxRecDepth 100000 in
theorem refnode_5 (s : Int) (n : ByteArray) (ks : List Tm) (xa : Option Addr) (cap : Nat) (w : World) (_hnm : n.size ≤ maxLen) (_hkl : ks.length ≤ 9223372036854775807) (hs : s < 0) :
    Calls Tryz.prog 108 #[.agg #[.int .i64 3, .string n, .int .i64 s, .slice xa ks.length cap]] w fun e w' => e = .returned (.int .i64 (nodeE (.mk 3 n s ks : Tm))) ∧ Below w.heap.size w w' := by
  have H : Hid (nodeE (.mk 3 n s ks : Tm) = 1) := by
    show _ = _
    simp [nodeE, hs]
  have HB : Hid (Below w.heap.size w (w.alloc (.cells #[.int .i64 3, .string n, .int .i64 s, .slice xa ks.length cap] 24))) := Lib.hid ((Below.refl _ _).alloc (Nat.le_refl _) _)
  go_enter Tryz.func108, Tryz.ntmps108
  go_wp2_with fail
  go_ret
  exact ⟨by rw [H.out]; rfl, HB.out⟩
set_option maxHeartbeats 800000 in
set_option maxRecDepth 100000 in
theorem refnode_6 (s : Int) (n : ByteArray) (ks : List Tm) (xa : Option Addr) (cap : Nat) (w : World) (_hnm : n.size ≤ maxLen) (_hkl : ks.length ≤ 9223372036854775807) (hs : ¬ s < 0) (hs5 : 5 < s) :
    Calls Tryz.prog 108 #[.agg #[.int .i64 3, .string n, .int .i64 s, .slice xa ks.length cap]] w fun e w' => e = .returned (.int .i64 (nodeE (.mk 3 n s ks : Tm))) ∧ Below w.heap.size w w' := by
  have H : Hid (nodeE (.mk 3 n s ks : Tm) = 1) := by
    show _ = _
    simp [nodeE, hs, hs5]
  have HB : Hid (Below w.heap.size w (w.alloc (.cells #[.int .i64 3, .string n, .int .i64 s, .slice xa ks.length cap] 24))) := Lib.hid ((Below.refl _ _).alloc (Nat.le_refl _) _)
  go_enter Tryz.func108, Tryz.ntmps108
  go_wp2_with fail
  go_ret
  exact ⟨by rw [H.out]; rfl, HB.out⟩
set_option maxHeartbeats 800000 in
set_option maxRecDepth 100000 in
theorem refnode_7 (s : Int) (n : ByteArray) (ks : List Tm) (xa : Option Addr) (cap : Nat) (w : World) (_hnm : n.size ≤ maxLen) (hkl : ks.length ≤ 9223372036854775807) (hs : ¬ s < 0) (hs5 : ¬ 5 < s) (hl : 0 < ks.length) :
    Calls Tryz.prog 108 #[.agg #[.int .i64 1, .string n, .int .i64 s, .slice xa ks.length cap]] w fun e w' => e = .returned (.int .i64 (nodeE (.mk 1 n s ks : Tm))) ∧ Below w.heap.size w w' := by
  have H : Hid (nodeE (.mk 1 n s ks : Tm) = 1) := by
    show _ = _
    have g : 0 < ks.length := hl
    simp [nodeE, hs, hs5, g]
  have HB : Hid (Below w.heap.size w (w.alloc (.cells #[.int .i64 1, .string n, .int .i64 s, .slice xa ks.length cap] 24))) := Lib.hid ((Below.refl _ _).alloc (Nat.le_refl _) _)
  have f5 : (0 : Int) < (ks.length : Int) := by omega
  go_enter Tryz.func108, Tryz.ntmps108
  go_wp2_with fail
  go_ret
  exact ⟨by rw [H.out]; rfl, HB.out⟩
set_option maxHeartbeats 800000 in
set_option maxRecDepth 100000 in
theorem refnode_8 (s : Int) (n : ByteArray) (ks : List Tm) (xa : Option Addr) (cap : Nat) (w : World) (hnm : n.size ≤ maxLen) (hkl : ks.length ≤ 9223372036854775807) (hs : ¬ s < 0) (hs5 : ¬ 5 < s) (hl : ks.length = 0) (hn : isNameB n.data.toList = false) :
    Calls Tryz.prog 108 #[.agg #[.int .i64 1, .string n, .int .i64 s, .slice xa ks.length cap]] w fun e w' => e = .returned (.int .i64 (nodeE (.mk 1 n s ks : Tm))) ∧ Below w.heap.size w w' := by
  have H : Hid (nodeE (.mk 1 n s ks : Tm) = 2) := by
    show _ = _
    have g : ¬ 0 < ks.length := by omega
    simp [nodeE, hs, hs5, g, hn]
  have HB : Hid (Below w.heap.size w (w.alloc (.cells #[.int .i64 1, .string n, .int .i64 s, .slice xa ks.length cap] 24))) := Lib.hid ((Below.refl _ _).alloc (Nat.le_refl _) _)
  have HN : Hid (∀ W : World, Calls Tryz.prog 135 #[.string n] W fun e w' => e = .returned (.bool false) ∧ W = w') := fun W => by
    have := rIsName_any n W hnm
    rw [hn] at this; exact this
  have f5 : ¬ (0 : Int) < (ks.length : Int) := by omega
  have f6 : ¬ (8 : Int) < (ks.length : Int) := by omega
  clear hn hl
  go_enter Tryz.func108, Tryz.ntmps108
  go_wp2_with (go_at_call 135; refine (HN.out _).mono ?_; rintro e w' ⟨he, hw⟩; subst he hw)
  go_ret
  exact ⟨by rw [H.out]; rfl, HB.out⟩
set_option maxHeartbeats 800000 in
set_option maxRecDepth 100000 in
theorem refnode_9 (s : Int) (n : ByteArray) (ks : List Tm) (xa : Option Addr) (cap : Nat) (w : World) (hnm : n.size ≤ maxLen) (hkl : ks.length ≤ 9223372036854775807) (hs : ¬ s < 0) (hs5 : ¬ 5 < s) (hl : ks.length = 0) (hn : isNameB n.data.toList = true) :
    Calls Tryz.prog 108 #[.agg #[.int .i64 1, .string n, .int .i64 s, .slice xa ks.length cap]] w fun e w' => e = .returned (.int .i64 (nodeE (.mk 1 n s ks : Tm))) ∧ Below w.heap.size w w' := by
  have H : Hid (nodeE (.mk 1 n s ks : Tm) = 0) := by
    show _ = _
    have g : ¬ 0 < ks.length := by omega
    have g2 : ¬ 8 < ks.length := by omega
    simp [nodeE, hs, hs5, g, g2, hn]
  have HB : Hid (Below w.heap.size w (w.alloc (.cells #[.int .i64 1, .string n, .int .i64 s, .slice xa ks.length cap] 24))) := Lib.hid ((Below.refl _ _).alloc (Nat.le_refl _) _)
  have HN : Hid (∀ W : World, Calls Tryz.prog 135 #[.string n] W fun e w' => e = .returned (.bool true) ∧ W = w') := fun W => by
    have := rIsName_any n W hnm
    rw [hn] at this; exact this
  have f5 : ¬ (0 : Int) < (ks.length : Int) := by omega
  have f6 : ¬ (8 : Int) < (ks.length : Int) := by omega
  clear hn hl
  go_enter Tryz.func108, Tryz.ntmps108
  go_wp2_with (go_at_call 135; refine (HN.out _).mono ?_; rintro e w' ⟨he, hw⟩; subst he hw)
  go_ret
  exact ⟨by rw [H.out]; rfl, HB.out⟩
set_option maxHeartbeats 800000 in
set_option maxRecDepth 100000 in
theorem refnode_10 (s : Int) (n : ByteArray) (ks : List Tm) (xa : Option Addr) (cap : Nat) (w : World) (_hnm : n.size ≤ maxLen) (hkl : ks.length ≤ 9223372036854775807) (hs : ¬ s < 0) (hs5 : ¬ 5 < s) (hl : 0 < ks.length) :
    Calls Tryz.prog 108 #[.agg #[.int .i64 2, .string n, .int .i64 s, .slice xa ks.length cap]] w fun e w' => e = .returned (.int .i64 (nodeE (.mk 2 n s ks : Tm))) ∧ Below w.heap.size w w' := by
  have H : Hid (nodeE (.mk 2 n s ks : Tm) = 1) := by
    show _ = _
    have g : 0 < ks.length := hl
    simp [nodeE, hs, hs5, g]
  have HB : Hid (Below w.heap.size w (w.alloc (.cells #[.int .i64 2, .string n, .int .i64 s, .slice xa ks.length cap] 24))) := Lib.hid ((Below.refl _ _).alloc (Nat.le_refl _) _)
  have f5 : (0 : Int) < (ks.length : Int) := by omega
  go_enter Tryz.func108, Tryz.ntmps108
  go_wp2_with fail
  go_ret
  exact ⟨by rw [H.out]; rfl, HB.out⟩
set_option maxHeartbeats 800000 in
set_option maxRecDepth 100000 in
theorem refnode_11 (s : Int) (n : ByteArray) (ks : List Tm) (xa : Option Addr) (cap : Nat) (w : World) (hnm : n.size ≤ maxLen) (hkl : ks.length ≤ 9223372036854775807) (hs : ¬ s < 0) (hs5 : ¬ 5 < s) (hl : ks.length = 0) (hn : isNameB n.data.toList = false) :
    Calls Tryz.prog 108 #[.agg #[.int .i64 2, .string n, .int .i64 s, .slice xa ks.length cap]] w fun e w' => e = .returned (.int .i64 (nodeE (.mk 2 n s ks : Tm))) ∧ Below w.heap.size w w' := by
  have H : Hid (nodeE (.mk 2 n s ks : Tm) = 2) := by
    show _ = _
    have g : ¬ 0 < ks.length := by omega
    simp [nodeE, hs, hs5, g, hn]
  have HB : Hid (Below w.heap.size w (w.alloc (.cells #[.int .i64 2, .string n, .int .i64 s, .slice xa ks.length cap] 24))) := Lib.hid ((Below.refl _ _).alloc (Nat.le_refl _) _)
  have HN : Hid (∀ W : World, Calls Tryz.prog 135 #[.string n] W fun e w' => e = .returned (.bool false) ∧ W = w') := fun W => by
    have := rIsName_any n W hnm
    rw [hn] at this; exact this
  have f5 : ¬ (0 : Int) < (ks.length : Int) := by omega
  have f6 : ¬ (8 : Int) < (ks.length : Int) := by omega
  clear hn hl
  go_enter Tryz.func108, Tryz.ntmps108
  go_wp2_with (go_at_call 135; refine (HN.out _).mono ?_; rintro e w' ⟨he, hw⟩; subst he hw)
  go_ret
  exact ⟨by rw [H.out]; rfl, HB.out⟩
set_option maxHeartbeats 800000 in
set_option maxRecDepth 100000 in
theorem refnode_12 (s : Int) (n : ByteArray) (ks : List Tm) (xa : Option Addr) (cap : Nat) (w : World) (hnm : n.size ≤ maxLen) (hkl : ks.length ≤ 9223372036854775807) (hs : ¬ s < 0) (hs5 : ¬ 5 < s) (hl : ks.length = 0) (hn : isNameB n.data.toList = true) :
    Calls Tryz.prog 108 #[.agg #[.int .i64 2, .string n, .int .i64 s, .slice xa ks.length cap]] w fun e w' => e = .returned (.int .i64 (nodeE (.mk 2 n s ks : Tm))) ∧ Below w.heap.size w w' := by
  have H : Hid (nodeE (.mk 2 n s ks : Tm) = 0) := by
    show _ = _
    have g : ¬ 0 < ks.length := by omega
    have g2 : ¬ 8 < ks.length := by omega
    simp [nodeE, hs, hs5, g, g2, hn]
  have HB : Hid (Below w.heap.size w (w.alloc (.cells #[.int .i64 2, .string n, .int .i64 s, .slice xa ks.length cap] 24))) := Lib.hid ((Below.refl _ _).alloc (Nat.le_refl _) _)
  have HN : Hid (∀ W : World, Calls Tryz.prog 135 #[.string n] W fun e w' => e = .returned (.bool true) ∧ W = w') := fun W => by
    have := rIsName_any n W hnm
    rw [hn] at this; exact this
  have f5 : ¬ (0 : Int) < (ks.length : Int) := by omega
  have f6 : ¬ (8 : Int) < (ks.length : Int) := by omega
  clear hn hl
  go_enter Tryz.func108, Tryz.ntmps108
  go_wp2_with (go_at_call 135; refine (HN.out _).mono ?_; rintro e w' ⟨he, hw⟩; subst he hw)
  go_ret
  exact ⟨by rw [H.out]; rfl, HB.out⟩
set_option maxHeartbeats 800000 in
set_option maxRecDepth 100000 in
theorem refnode_13 (s : Int) (n : ByteArray) (ks : List Tm) (xa : Option Addr) (cap : Nat) (w : World) (_hnm : n.size ≤ maxLen) (_hkl : ks.length ≤ 9223372036854775807) (hs : ¬ s < 0) (hs5 : ¬ 5 < s) (hs0 : ¬ s = 0) :
    Calls Tryz.prog 108 #[.agg #[.int .i64 3, .string n, .int .i64 s, .slice xa ks.length cap]] w fun e w' => e = .returned (.int .i64 (nodeE (.mk 3 n s ks : Tm))) ∧ Below w.heap.size w w' := by
  have H : Hid (nodeE (.mk 3 n s ks : Tm) = 1) := by
    show _ = _
    simp [nodeE, hs, hs5, hs0]
  have HB : Hid (Below w.heap.size w (w.alloc (.cells #[.int .i64 3, .string n, .int .i64 s, .slice xa ks.length cap] 24))) := Lib.hid ((Below.refl _ _).alloc (Nat.le_refl _) _)
  have f4 : (s != 0) = true := by simp [hs0]
  go_enter Tryz.func108, Tryz.ntmps108
  go_wp2_with fail
  go_ret
  exact ⟨by rw [H.out]; rfl, HB.out⟩
set_option maxHeartbeats 800000 in
set_option maxRecDepth 100000 in
theorem refnode_14 (n : ByteArray) (ks : List Tm) (xa : Option Addr) (cap : Nat) (w : World) (hnm : n.size ≤ maxLen) (_hkl : ks.length ≤ 9223372036854775807) (hn : isNameB n.data.toList = false) :
    Calls Tryz.prog 108 #[.agg #[.int .i64 3, .string n, .int .i64 0, .slice xa ks.length cap]] w fun e w' => e = .returned (.int .i64 (nodeE (.mk 3 n 0 ks : Tm))) ∧ Below w.heap.size w w' := by
  have H : Hid (nodeE (.mk 3 n 0 ks : Tm) = 2) := by
    show _ = _
    simp [nodeE, hn]
  have HB : Hid (Below w.heap.size w (w.alloc (.cells #[.int .i64 3, .string n, .int .i64 0, .slice xa ks.length cap] 24))) := Lib.hid ((Below.refl _ _).alloc (Nat.le_refl _) _)
  have HN : Hid (∀ W : World, Calls Tryz.prog 135 #[.string n] W fun e w' => e = .returned (.bool false) ∧ W = w') := fun W => by
    have := rIsName_any n W hnm
    rw [hn] at this; exact this
  clear hn
  go_enter Tryz.func108, Tryz.ntmps108
  go_wp2_with (go_at_call 135; refine (HN.out _).mono ?_; rintro e w' ⟨he, hw⟩; subst he hw)
  go_ret
  exact ⟨by rw [H.out]; rfl, HB.out⟩
set_option maxHeartbeats 800000 in
set_option maxRecDepth 100000 in
theorem refnode_15 (n : ByteArray) (ks : List Tm) (xa : Option Addr) (cap : Nat) (w : World) (hnm : n.size ≤ maxLen) (hkl : ks.length ≤ 9223372036854775807) (hl : 8 < ks.length) (hn : isNameB n.data.toList = true) :
    Calls Tryz.prog 108 #[.agg #[.int .i64 3, .string n, .int .i64 0, .slice xa ks.length cap]] w fun e w' => e = .returned (.int .i64 (nodeE (.mk 3 n 0 ks : Tm))) ∧ Below w.heap.size w w' := by
  have H : Hid (nodeE (.mk 3 n 0 ks : Tm) = 3) := by
    show _ = _
    have g : 8 < ks.length := hl
    simp [nodeE, g, hn]
  have HB : Hid (Below w.heap.size w (w.alloc (.cells #[.int .i64 3, .string n, .int .i64 0, .slice xa ks.length cap] 24))) := Lib.hid ((Below.refl _ _).alloc (Nat.le_refl _) _)
  have HN : Hid (∀ W : World, Calls Tryz.prog 135 #[.string n] W fun e w' => e = .returned (.bool true) ∧ W = w') := fun W => by
    have := rIsName_any n W hnm
    rw [hn] at this; exact this
  have f6 : (8 : Int) < (ks.length : Int) := by omega
  clear hn
  go_enter Tryz.func108, Tryz.ntmps108
  go_wp2_with (go_at_call 135; refine (HN.out _).mono ?_; rintro e w' ⟨he, hw⟩; subst he hw)
  go_ret
  exact ⟨by rw [H.out]; rfl, HB.out⟩
set_option maxHeartbeats 800000 in
set_option maxRecDepth 100000 in
theorem refnode_16 (n : ByteArray) (ks : List Tm) (xa : Option Addr) (cap : Nat) (w : World) (hnm : n.size ≤ maxLen) (hkl : ks.length ≤ 9223372036854775807) (hl : ks.length ≤ 8) (hn : isNameB n.data.toList = true) :
    Calls Tryz.prog 108 #[.agg #[.int .i64 3, .string n, .int .i64 0, .slice xa ks.length cap]] w fun e w' => e = .returned (.int .i64 (nodeE (.mk 3 n 0 ks : Tm))) ∧ Below w.heap.size w w' := by
  have H : Hid (nodeE (.mk 3 n 0 ks : Tm) = 0) := by
    show _ = _
    have g : ¬ 8 < ks.length := by omega
    simp [nodeE, g, hn]
  have HB : Hid (Below w.heap.size w (w.alloc (.cells #[.int .i64 3, .string n, .int .i64 0, .slice xa ks.length cap] 24))) := Lib.hid ((Below.refl _ _).alloc (Nat.le_refl _) _)
  have HN : Hid (∀ W : World, Calls Tryz.prog 135 #[.string n] W fun e w' => e = .returned (.bool true) ∧ W = w') := fun W => by
    have := rIsName_any n W hnm
    rw [hn] at this; exact this
  have f6 : ¬ (8 : Int) < (ks.length : Int) := by omega
  clear hn
  go_enter Tryz.func108, Tryz.ntmps108
  go_wp2_with (go_at_call 135; refine (HN.out _).mono ?_; rintro e w' ⟨he, hw⟩; subst he hw)
  go_ret
  exact ⟨by rw [H.out]; rfl, HB.out⟩
theorem rnode_any (t : Tm) (c0 c1 c2 c3 : Value) (w : World) (hI : Is w t c0 c1 c2 c3) :
    Calls Tryz.prog 108 #[.agg #[c0, c1, c2, c3]] w fun e w' => e = .returned (.int .i64 (nodeE t)) ∧ Below w.heap.size w w' := by
  obtain ⟨k, n, s, ks⟩ := t
  simp only [Is] at hI
  obtain ⟨rfl, rfl, rfl, hk, hs, hn, hkl, xa, cap, rfl, hcap, hR⟩ := hI
  have hkl : ks.length ≤ 9223372036854775807 := by unfold maxLen at hkl; omega
  by_cases k1 : k = 1
  · subst k1
    by_cases s1 : s < 0
    · exact refnode_1 s n ks xa cap w hn hkl s1
    by_cases s2 : 5 < s
    · exact refnode_2 s n ks xa cap w hn hkl s1 s2
    by_cases hl : 0 < ks.length
    · exact refnode_7 s n ks xa cap w hn hkl s1 s2 hl
    cases hnb : isNameB n.data.toList with
    | false => exact refnode_8 s n ks xa cap w hn hkl s1 s2 (by omega) hnb
    | true => exact refnode_9 s n ks xa cap w hn hkl s1 s2 (by omega) hnb
  by_cases k2 : k = 2
  · subst k2
    by_cases s1 : s < 0
    · exact refnode_3 s n ks xa cap w hn hkl s1
    by_cases s2 : 5 < s
    · exact refnode_4 s n ks xa cap w hn hkl s1 s2
    by_cases hl : 0 < ks.length
    · exact refnode_10 s n ks xa cap w hn hkl s1 s2 hl
    cases hnb : isNameB n.data.toList with
    | false => exact refnode_11 s n ks xa cap w hn hkl s1 s2 (by omega) hnb
    | true => exact refnode_12 s n ks xa cap w hn hkl s1 s2 (by omega) hnb
  by_cases k3 : k = 3
  · subst k3
    by_cases s1 : s < 0
    · exact refnode_5 s n ks xa cap w hn hkl s1
    by_cases s2 : 5 < s
    · exact refnode_6 s n ks xa cap w hn hkl s1 s2
    by_cases s3 : s = 0
    · subst s3
      cases hnb : isNameB n.data.toList with
      | false => exact refnode_14 n ks xa cap w hn hkl hnb
      | true =>
        by_cases hl : 8 < ks.length
        · exact refnode_15 n ks xa cap w hn hkl hl hnb
        · exact refnode_16 n ks xa cap w hn hkl (by omega) hnb
    · exact refnode_13 s n ks xa cap w hn hkl s1 s2 s3
  exact refnode_0 k s n ks xa cap w hn hkl k1 k2 k3
set_option maxHeartbeats 800000 in
set_option maxRecDepth 100000 in
theorem termnode_0 (k : Int) (s : Int) (n : ByteArray) (ks : List Tm) (xa : Option Addr) (cap b o : Nat) (w : World) (g0 : w.cell? ⟨b, o, none⟩ = some (.int .i64 k)) (_g1 : w.cell? ⟨b, o + 1, none⟩ = some (.string n)) (_g2 : w.cell? ⟨b, o + 2, none⟩ = some (.int .i64 s)) (_g3 : w.cell? ⟨b, o + 3, none⟩ = some (.slice xa ks.length cap)) (_hnm : n.size ≤ maxLen) (_hkl : ks.length ≤ 9223372036854775807) (hk1 : ¬ k = 1) (hk2 : ¬ k = 2) (hk3 : ¬ k = 3) :
    Calls Tryz.prog 104 #[.pointer (some ⟨b, o, none⟩)] w fun e w' => e = .returned (.int .i64 (nodeE (.mk k n s ks : Tm))) ∧ w = w' := by
  have H : Hid (nodeE (.mk k n s ks : Tm) = 1) := by
    show _ = _
    simp [nodeE, hk1, hk2, hk3]
  have f1 : (k == 1) = false := by simp [hk1]
  have f2 : (k == 2) = false := by simp [hk2]
  have f3 : (k != 3) = true := by simp [hk3]
  clear hk1 hk2 hk3
  go_enter Tryz.func104, Tryz.ntmps104
  go_wp2_with fail
  go_ret
  exact ⟨by rw [H.out]; rfl, rfl⟩
set_option maxHeartbeats 800000 in
set_option maxRecDepth 100000 in
theorem termnode_1 (s : Int) (n : ByteArray) (ks : List Tm) (xa : Option Addr) (cap b o : Nat) (w : World) (g0 : w.cell? ⟨b, o, none⟩ = some (.int .i64 1)) (_g1 : w.cell? ⟨b, o + 1, none⟩ = some (.string n)) (g2 : w.cell? ⟨b, o + 2, none⟩ = some (.int .i64 s)) (_g3 : w.cell? ⟨b, o + 3, none⟩ = some (.slice xa ks.length cap)) (_hnm : n.size ≤ maxLen) (_hkl : ks.length ≤ 9223372036854775807) (hs : s < 0) :
    Calls Tryz.prog 104 #[.pointer (some ⟨b, o, none⟩)] w fun e w' => e = .returned (.int .i64 (nodeE (.mk 1 n s ks : Tm))) ∧ w = w' := by
  have H : Hid (nodeE (.mk 1 n s ks : Tm) = 1) := by
    show _ = _
    simp [nodeE, hs]
  go_enter Tryz.func104, Tryz.ntmps104
  go_wp2_with fail
  go_ret
  exact ⟨by rw [H.out]; rfl, rfl⟩
set_option maxHeartbeats 800000 in
set_option maxRecDepth 100000 in
theorem termnode_2 (s : Int) (n : ByteArray) (ks : List Tm) (xa : Option Addr) (cap b o : Nat) (w : World) (g0 : w.cell? ⟨b, o, none⟩ = some (.int .i64 1)) (_g1 : w.cell? ⟨b, o + 1, none⟩ = some (.string n)) (g2 : w.cell? ⟨b, o + 2, none⟩ = some (.int .i64 s)) (_g3 : w.cell? ⟨b, o + 3, none⟩ = some (.slice xa ks.length cap)) (_hnm : n.size ≤ maxLen) (_hkl : ks.length ≤ 9223372036854775807) (hs : ¬ s < 0) (hs5 : 5 < s) :
    Calls Tryz.prog 104 #[.pointer (some ⟨b, o, none⟩)] w fun e w' => e = .returned (.int .i64 (nodeE (.mk 1 n s ks : Tm))) ∧ w = w' := by
  have H : Hid (nodeE (.mk 1 n s ks : Tm) = 1) := by
    show _ = _
    simp [nodeE, hs, hs5]
  go_enter Tryz.func104, Tryz.ntmps104
  go_wp2_with fail
  go_ret
  exact ⟨by rw [H.out]; rfl, rfl⟩
set_option maxHeartbeats 800000 in
set_option maxRecDepth 100000 in
theorem termnode_3 (s : Int) (n : ByteArray) (ks : List Tm) (xa : Option Addr) (cap b o : Nat) (w : World) (g0 : w.cell? ⟨b, o, none⟩ = some (.int .i64 2)) (_g1 : w.cell? ⟨b, o + 1, none⟩ = some (.string n)) (g2 : w.cell? ⟨b, o + 2, none⟩ = some (.int .i64 s)) (_g3 : w.cell? ⟨b, o + 3, none⟩ = some (.slice xa ks.length cap)) (_hnm : n.size ≤ maxLen) (_hkl : ks.length ≤ 9223372036854775807) (hs : s < 0) :
    Calls Tryz.prog 104 #[.pointer (some ⟨b, o, none⟩)] w fun e w' => e = .returned (.int .i64 (nodeE (.mk 2 n s ks : Tm))) ∧ w = w' := by
  have H : Hid (nodeE (.mk 2 n s ks : Tm) = 1) := by
    show _ = _
    simp [nodeE, hs]
  go_enter Tryz.func104, Tryz.ntmps104
  go_wp2_with fail
  go_ret
  exact ⟨by rw [H.out]; rfl, rfl⟩
set_option maxHeartbeats 800000 in
set_option maxRecDepth 100000 in
theorem termnode_4 (s : Int) (n : ByteArray) (ks : List Tm) (xa : Option Addr) (cap b o : Nat) (w : World) (g0 : w.cell? ⟨b, o, none⟩ = some (.int .i64 2)) (_g1 : w.cell? ⟨b, o + 1, none⟩ = some (.string n)) (g2 : w.cell? ⟨b, o + 2, none⟩ = some (.int .i64 s)) (_g3 : w.cell? ⟨b, o + 3, none⟩ = some (.slice xa ks.length cap)) (_hnm : n.size ≤ maxLen) (_hkl : ks.length ≤ 9223372036854775807) (hs : ¬ s < 0) (hs5 : 5 < s) :
    Calls Tryz.prog 104 #[.pointer (some ⟨b, o, none⟩)] w fun e w' => e = .returned (.int .i64 (nodeE (.mk 2 n s ks : Tm))) ∧ w = w' := by
  have H : Hid (nodeE (.mk 2 n s ks : Tm) = 1) := by
    show _ = _
    simp [nodeE, hs, hs5]
  go_enter Tryz.func104, Tryz.ntmps104
  go_wp2_with fail
  go_ret
  exact ⟨by rw [H.out]; rfl, rfl⟩
set_option maxHeartbeats 800000 in
set_option maxRecDepth 100000 in
theorem termnode_5 (s : Int) (n : ByteArray) (ks : List Tm) (xa : Option Addr) (cap b o : Nat) (w : World) (g0 : w.cell? ⟨b, o, none⟩ = some (.int .i64 3)) (_g1 : w.cell? ⟨b, o + 1, none⟩ = some (.string n)) (g2 : w.cell? ⟨b, o + 2, none⟩ = some (.int .i64 s)) (_g3 : w.cell? ⟨b, o + 3, none⟩ = some (.slice xa ks.length cap)) (_hnm : n.size ≤ maxLen) (_hkl : ks.length ≤ 9223372036854775807) (hs : s < 0) :
    Calls Tryz.prog 104 #[.pointer (some ⟨b, o, none⟩)] w fun e w' => e = .returned (.int .i64 (nodeE (.mk 3 n s ks : Tm))) ∧ w = w' := by
  have H : Hid (nodeE (.mk 3 n s ks : Tm) = 1) := by
    show _ = _
    simp [nodeE, hs]
  go_enter Tryz.func104, Tryz.ntmps104
  go_wp2_with fail
  go_ret
  exact ⟨by rw [H.out]; rfl, rfl⟩
set_option maxHeartbeats 800000 in
set_option maxRecDepth 100000 in
theorem termnode_6 (s : Int) (n : ByteArray) (ks : List Tm) (xa : Option Addr) (cap b o : Nat) (w : World) (g0 : w.cell? ⟨b, o, none⟩ = some (.int .i64 3)) (_g1 : w.cell? ⟨b, o + 1, none⟩ = some (.string n)) (g2 : w.cell? ⟨b, o + 2, none⟩ = some (.int .i64 s)) (_g3 : w.cell? ⟨b, o + 3, none⟩ = some (.slice xa ks.length cap)) (_hnm : n.size ≤ maxLen) (_hkl : ks.length ≤ 9223372036854775807) (hs : ¬ s < 0) (hs5 : 5 < s) :
    Calls Tryz.prog 104 #[.pointer (some ⟨b, o, none⟩)] w fun e w' => e = .returned (.int .i64 (nodeE (.mk 3 n s ks : Tm))) ∧ w = w' := by
  have H : Hid (nodeE (.mk 3 n s ks : Tm) = 1) := by
    show _ = _
    simp [nodeE, hs, hs5]
  go_enter Tryz.func104, Tryz.ntmps104
  go_wp2_with fail
  go_ret
  exact ⟨by rw [H.out]; rfl, rfl⟩
set_option maxHeartbeats 800000 in
set_option maxRecDepth 100000 in
theorem termnode_7 (s : Int) (n : ByteArray) (ks : List Tm) (xa : Option Addr) (cap b o : Nat) (w : World) (g0 : w.cell? ⟨b, o, none⟩ = some (.int .i64 1)) (_g1 : w.cell? ⟨b, o + 1, none⟩ = some (.string n)) (g2 : w.cell? ⟨b, o + 2, none⟩ = some (.int .i64 s)) (g3 : w.cell? ⟨b, o + 3, none⟩ = some (.slice xa ks.length cap)) (_hnm : n.size ≤ maxLen) (hkl : ks.length ≤ 9223372036854775807) (hs : ¬ s < 0) (hs5 : ¬ 5 < s) (hl : 0 < ks.length) :
    Calls Tryz.prog 104 #[.pointer (some ⟨b, o, none⟩)] w fun e w' => e = .returned (.int .i64 (nodeE (.mk 1 n s ks : Tm))) ∧ w = w' := by
  have H : Hid (nodeE (.mk 1 n s ks : Tm) = 1) := by
    show _ = _
    have gg : 0 < ks.length := hl
    simp [nodeE, hs, hs5, gg]
  have f5 : (0 : Int) < (ks.length : Int) := by omega
  go_enter Tryz.func104, Tryz.ntmps104
  go_wp2_with fail
  go_ret
  exact ⟨by rw [H.out]; rfl, rfl⟩
set_option maxHeartbeats 800000 in
set_option maxRecDepth 100000 in
theorem termnode_8 (s : Int) (n : ByteArray) (ks : List Tm) (xa : Option Addr) (cap b o : Nat) (w : World) (g0 : w.cell? ⟨b, o, none⟩ = some (.int .i64 1)) (g1 : w.cell? ⟨b, o + 1, none⟩ = some (.string n)) (g2 : w.cell? ⟨b, o + 2, none⟩ = some (.int .i64 s)) (g3 : w.cell? ⟨b, o + 3, none⟩ = some (.slice xa ks.length cap)) (hnm : n.size ≤ maxLen) (hkl : ks.length ≤ 9223372036854775807) (hs : ¬ s < 0) (hs5 : ¬ 5 < s) (hl : ks.length = 0) (hn : isNameB n.data.toList = false) :
    Calls Tryz.prog 104 #[.pointer (some ⟨b, o, none⟩)] w fun e w' => e = .returned (.int .i64 (nodeE (.mk 1 n s ks : Tm))) ∧ w = w' := by
  have H : Hid (nodeE (.mk 1 n s ks : Tm) = 2) := by
    show _ = _
    have gg : ¬ 0 < ks.length := by omega
    simp [nodeE, hs, hs5, gg, hn]
  have HN : Hid (∀ W : World, Calls Tryz.prog 137 #[.string n] W fun e w' => e = .returned (.bool false) ∧ W = w') := fun W => by
    have := isName_any n W hnm
    rw [hn] at this; exact this
  have f5 : ¬ (0 : Int) < (ks.length : Int) := by omega
  have f6 : ¬ (8 : Int) < (ks.length : Int) := by omega
  clear hn hl
  go_enter Tryz.func104, Tryz.ntmps104
  go_wp2_with (go_at_call 137; refine (HN.out _).mono ?_; rintro e w' ⟨he, hw⟩; subst he hw)
  go_ret
  exact ⟨by rw [H.out]; rfl, rfl⟩
set_option maxHeartbeats 800000 in
set_option maxRecDepth 100000 in
theorem termnode_9 (s : Int) (n : ByteArray) (ks : List Tm) (xa : Option Addr) (cap b o : Nat) (w : World) (g0 : w.cell? ⟨b, o, none⟩ = some (.int .i64 1)) (g1 : w.cell? ⟨b, o + 1, none⟩ = some (.string n)) (g2 : w.cell? ⟨b, o + 2, none⟩ = some (.int .i64 s)) (g3 : w.cell? ⟨b, o + 3, none⟩ = some (.slice xa ks.length cap)) (hnm : n.size ≤ maxLen) (hkl : ks.length ≤ 9223372036854775807) (hs : ¬ s < 0) (hs5 : ¬ 5 < s) (hl : ks.length = 0) (hn : isNameB n.data.toList = true) :
    Calls Tryz.prog 104 #[.pointer (some ⟨b, o, none⟩)] w fun e w' => e = .returned (.int .i64 (nodeE (.mk 1 n s ks : Tm))) ∧ w = w' := by
  have H : Hid (nodeE (.mk 1 n s ks : Tm) = 0) := by
    show _ = _
    have gg : ¬ 0 < ks.length := by omega
    have gg2 : ¬ 8 < ks.length := by omega
    simp [nodeE, hs, hs5, gg, gg2, hn]
  have HN : Hid (∀ W : World, Calls Tryz.prog 137 #[.string n] W fun e w' => e = .returned (.bool true) ∧ W = w') := fun W => by
    have := isName_any n W hnm
    rw [hn] at this; exact this
  have f5 : ¬ (0 : Int) < (ks.length : Int) := by omega
  have f6 : ¬ (8 : Int) < (ks.length : Int) := by omega
  clear hn hl
  go_enter Tryz.func104, Tryz.ntmps104
  go_wp2_with (go_at_call 137; refine (HN.out _).mono ?_; rintro e w' ⟨he, hw⟩; subst he hw)
  go_ret
  exact ⟨by rw [H.out]; rfl, rfl⟩
set_option maxHeartbeats 800000 in
set_option maxRecDepth 100000 in
theorem termnode_10 (s : Int) (n : ByteArray) (ks : List Tm) (xa : Option Addr) (cap b o : Nat) (w : World) (g0 : w.cell? ⟨b, o, none⟩ = some (.int .i64 2)) (_g1 : w.cell? ⟨b, o + 1, none⟩ = some (.string n)) (g2 : w.cell? ⟨b, o + 2, none⟩ = some (.int .i64 s)) (g3 : w.cell? ⟨b, o + 3, none⟩ = some (.slice xa ks.length cap)) (_hnm : n.size ≤ maxLen) (hkl : ks.length ≤ 9223372036854775807) (hs : ¬ s < 0) (hs5 : ¬ 5 < s) (hl : 0 < ks.length) :
    Calls Tryz.prog 104 #[.pointer (some ⟨b, o, none⟩)] w fun e w' => e = .returned (.int .i64 (nodeE (.mk 2 n s ks : Tm))) ∧ w = w' := by
  have H : Hid (nodeE (.mk 2 n s ks : Tm) = 1) := by
    show _ = _
    have gg : 0 < ks.length := hl
    simp [nodeE, hs, hs5, gg]
  have f5 : (0 : Int) < (ks.length : Int) := by omega
  go_enter Tryz.func104, Tryz.ntmps104
  go_wp2_with fail
  go_ret
  exact ⟨by rw [H.out]; rfl, rfl⟩
set_option maxHeartbeats 800000 in
set_option maxRecDepth 100000 in
theorem termnode_11 (s : Int) (n : ByteArray) (ks : List Tm) (xa : Option Addr) (cap b o : Nat) (w : World) (g0 : w.cell? ⟨b, o, none⟩ = some (.int .i64 2)) (g1 : w.cell? ⟨b, o + 1, none⟩ = some (.string n)) (g2 : w.cell? ⟨b, o + 2, none⟩ = some (.int .i64 s)) (g3 : w.cell? ⟨b, o + 3, none⟩ = some (.slice xa ks.length cap)) (hnm : n.size ≤ maxLen) (hkl : ks.length ≤ 9223372036854775807) (hs : ¬ s < 0) (hs5 : ¬ 5 < s) (hl : ks.length = 0) (hn : isNameB n.data.toList = false) :
    Calls Tryz.prog 104 #[.pointer (some ⟨b, o, none⟩)] w fun e w' => e = .returned (.int .i64 (nodeE (.mk 2 n s ks : Tm))) ∧ w = w' := by
  have H : Hid (nodeE (.mk 2 n s ks : Tm) = 2) := by
    show _ = _
    have gg : ¬ 0 < ks.length := by omega
    simp [nodeE, hs, hs5, gg, hn]
  have HN : Hid (∀ W : World, Calls Tryz.prog 137 #[.string n] W fun e w' => e = .returned (.bool false) ∧ W = w') := fun W => by
    have := isName_any n W hnm
    rw [hn] at this; exact this
  have f5 : ¬ (0 : Int) < (ks.length : Int) := by omega
  have f6 : ¬ (8 : Int) < (ks.length : Int) := by omega
  clear hn hl
  go_enter Tryz.func104, Tryz.ntmps104
  go_wp2_with (go_at_call 137; refine (HN.out _).mono ?_; rintro e w' ⟨he, hw⟩; subst he hw)
  go_ret
  exact ⟨by rw [H.out]; rfl, rfl⟩
set_option maxHeartbeats 800000 in
set_option maxRecDepth 100000 in
theorem termnode_12 (s : Int) (n : ByteArray) (ks : List Tm) (xa : Option Addr) (cap b o : Nat) (w : World) (g0 : w.cell? ⟨b, o, none⟩ = some (.int .i64 2)) (g1 : w.cell? ⟨b, o + 1, none⟩ = some (.string n)) (g2 : w.cell? ⟨b, o + 2, none⟩ = some (.int .i64 s)) (g3 : w.cell? ⟨b, o + 3, none⟩ = some (.slice xa ks.length cap)) (hnm : n.size ≤ maxLen) (hkl : ks.length ≤ 9223372036854775807) (hs : ¬ s < 0) (hs5 : ¬ 5 < s) (hl : ks.length = 0) (hn : isNameB n.data.toList = true) :
    Calls Tryz.prog 104 #[.pointer (some ⟨b, o, none⟩)] w fun e w' => e = .returned (.int .i64 (nodeE (.mk 2 n s ks : Tm))) ∧ w = w' := by
  have H : Hid (nodeE (.mk 2 n s ks : Tm) = 0) := by
    show _ = _
    have gg : ¬ 0 < ks.length := by omega
    have gg2 : ¬ 8 < ks.length := by omega
    simp [nodeE, hs, hs5, gg, gg2, hn]
  have HN : Hid (∀ W : World, Calls Tryz.prog 137 #[.string n] W fun e w' => e = .returned (.bool true) ∧ W = w') := fun W => by
    have := isName_any n W hnm
    rw [hn] at this; exact this
  have f5 : ¬ (0 : Int) < (ks.length : Int) := by omega
  have f6 : ¬ (8 : Int) < (ks.length : Int) := by omega
  clear hn hl
  go_enter Tryz.func104, Tryz.ntmps104
  go_wp2_with (go_at_call 137; refine (HN.out _).mono ?_; rintro e w' ⟨he, hw⟩; subst he hw)
  go_ret
  exact ⟨by rw [H.out]; rfl, rfl⟩
set_option maxHeartbeats 800000 in
set_option maxRecDepth 100000 in
theorem termnode_13 (s : Int) (n : ByteArray) (ks : List Tm) (xa : Option Addr) (cap b o : Nat) (w : World) (g0 : w.cell? ⟨b, o, none⟩ = some (.int .i64 3)) (_g1 : w.cell? ⟨b, o + 1, none⟩ = some (.string n)) (g2 : w.cell? ⟨b, o + 2, none⟩ = some (.int .i64 s)) (_g3 : w.cell? ⟨b, o + 3, none⟩ = some (.slice xa ks.length cap)) (_hnm : n.size ≤ maxLen) (_hkl : ks.length ≤ 9223372036854775807) (hs : ¬ s < 0) (hs5 : ¬ 5 < s) (hs0 : ¬ s = 0) :
    Calls Tryz.prog 104 #[.pointer (some ⟨b, o, none⟩)] w fun e w' => e = .returned (.int .i64 (nodeE (.mk 3 n s ks : Tm))) ∧ w = w' := by
  have H : Hid (nodeE (.mk 3 n s ks : Tm) = 1) := by
    show _ = _
    simp [nodeE, hs, hs5, hs0]
  have f4 : (s != 0) = true := by simp [hs0]
  go_enter Tryz.func104, Tryz.ntmps104
  go_wp2_with fail
  go_ret
  exact ⟨by rw [H.out]; rfl, rfl⟩
set_option maxHeartbeats 800000 in
set_option maxRecDepth 100000 in
theorem termnode_14 (n : ByteArray) (ks : List Tm) (xa : Option Addr) (cap b o : Nat) (w : World) (g0 : w.cell? ⟨b, o, none⟩ = some (.int .i64 3)) (g1 : w.cell? ⟨b, o + 1, none⟩ = some (.string n)) (g2 : w.cell? ⟨b, o + 2, none⟩ = some (.int .i64 0)) (_g3 : w.cell? ⟨b, o + 3, none⟩ = some (.slice xa ks.length cap)) (hnm : n.size ≤ maxLen) (_hkl : ks.length ≤ 9223372036854775807) (hn : isNameB n.data.toList = false) :
    Calls Tryz.prog 104 #[.pointer (some ⟨b, o, none⟩)] w fun e w' => e = .returned (.int .i64 (nodeE (.mk 3 n 0 ks : Tm))) ∧ w = w' := by
  have H : Hid (nodeE (.mk 3 n 0 ks : Tm) = 2) := by
    show _ = _
    simp [nodeE, hn]
  have HN : Hid (∀ W : World, Calls Tryz.prog 137 #[.string n] W fun e w' => e = .returned (.bool false) ∧ W = w') := fun W => by
    have := isName_any n W hnm
    rw [hn] at this; exact this
  clear hn
  go_enter Tryz.func104, Tryz.ntmps104
  go_wp2_with (go_at_call 137; refine (HN.out _).mono ?_; rintro e w' ⟨he, hw⟩; subst he hw)
  go_ret
  exact ⟨by rw [H.out]; rfl, rfl⟩
set_option maxHeartbeats 800000 in
set_option maxRecDepth 100000 in
theorem termnode_15 (n : ByteArray) (ks : List Tm) (xa : Option Addr) (cap b o : Nat) (w : World) (g0 : w.cell? ⟨b, o, none⟩ = some (.int .i64 3)) (g1 : w.cell? ⟨b, o + 1, none⟩ = some (.string n)) (g2 : w.cell? ⟨b, o + 2, none⟩ = some (.int .i64 0)) (g3 : w.cell? ⟨b, o + 3, none⟩ = some (.slice xa ks.length cap)) (hnm : n.size ≤ maxLen) (hkl : ks.length ≤ 9223372036854775807) (hl : 8 < ks.length) (hn : isNameB n.data.toList = true) :
    Calls Tryz.prog 104 #[.pointer (some ⟨b, o, none⟩)] w fun e w' => e = .returned (.int .i64 (nodeE (.mk 3 n 0 ks : Tm))) ∧ w = w' := by
  have H : Hid (nodeE (.mk 3 n 0 ks : Tm) = 3) := by
    show _ = _
    have gg : 8 < ks.length := hl
    simp [nodeE, gg, hn]
  have HN : Hid (∀ W : World, Calls Tryz.prog 137 #[.string n] W fun e w' => e = .returned (.bool true) ∧ W = w') := fun W => by
    have := isName_any n W hnm
    rw [hn] at this; exact this
  have f6 : (8 : Int) < (ks.length : Int) := by omega
  clear hn
  go_enter Tryz.func104, Tryz.ntmps104
  go_wp2_with (go_at_call 137; refine (HN.out _).mono ?_; rintro e w' ⟨he, hw⟩; subst he hw)
  go_ret
  exact ⟨by rw [H.out]; rfl, rfl⟩
set_option maxHeartbeats 800000 in
set_option maxRecDepth 100000 in
theorem termnode_16 (n : ByteArray) (ks : List Tm) (xa : Option Addr) (cap b o : Nat) (w : World) (g0 : w.cell? ⟨b, o, none⟩ = some (.int .i64 3)) (g1 : w.cell? ⟨b, o + 1, none⟩ = some (.string n)) (g2 : w.cell? ⟨b, o + 2, none⟩ = some (.int .i64 0)) (g3 : w.cell? ⟨b, o + 3, none⟩ = some (.slice xa ks.length cap)) (hnm : n.size ≤ maxLen) (hkl : ks.length ≤ 9223372036854775807) (hl : ks.length ≤ 8) (hn : isNameB n.data.toList = true) :
    Calls Tryz.prog 104 #[.pointer (some ⟨b, o, none⟩)] w fun e w' => e = .returned (.int .i64 (nodeE (.mk 3 n 0 ks : Tm))) ∧ w = w' := by
  have H : Hid (nodeE (.mk 3 n 0 ks : Tm) = 0) := by
    show _ = _
    have gg : ¬ 8 < ks.length := by omega
    simp [nodeE, gg, hn]
  have HN : Hid (∀ W : World, Calls Tryz.prog 137 #[.string n] W fun e w' => e = .returned (.bool true) ∧ W = w') := fun W => by
    have := isName_any n W hnm
    rw [hn] at this; exact this
  have f6 : ¬ (8 : Int) < (ks.length : Int) := by omega
  clear hn
  go_enter Tryz.func104, Tryz.ntmps104
  go_wp2_with (go_at_call 137; refine (HN.out _).mono ?_; rintro e w' ⟨he, hw⟩; subst he hw)
  go_ret
  exact ⟨by rw [H.out]; rfl, rfl⟩
theorem tnode_any (t : Tm) (b o : Nat) (w : World) (hL : Lies w t b o) :
    Calls Tryz.prog 104 #[.pointer (some ⟨b, o, none⟩)] w fun e w' => e = .returned (.int .i64 (nodeE t)) ∧ w = w' := by
  obtain ⟨k, n, s, ks⟩ := t
  obtain ⟨g0, g1, g2, hk, hs, hn, hkl, xa, cap, g3, hcap, hR⟩ := Lies_mk hL
  have hkl : ks.length ≤ 9223372036854775807 := by unfold maxLen at hkl; omega
  by_cases k1 : k = 1
  · subst k1
    by_cases s1 : s < 0
    · exact termnode_1 s n ks xa cap b o w g0 g1 g2 g3 hn hkl s1
    by_cases s2 : 5 < s
    · exact termnode_2 s n ks xa cap b o w g0 g1 g2 g3 hn hkl s1 s2
    by_cases hl : 0 < ks.length
    · exact termnode_7 s n ks xa cap b o w g0 g1 g2 g3 hn hkl s1 s2 hl
    cases hnb : isNameB n.data.toList with
    | false => exact termnode_8 s n ks xa cap b o w g0 g1 g2 g3 hn hkl s1 s2 (by omega) hnb
    | true => exact termnode_9 s n ks xa cap b o w g0 g1 g2 g3 hn hkl s1 s2 (by omega) hnb
  by_cases k2 : k = 2
  · subst k2
    by_cases s1 : s < 0
    · exact termnode_3 s n ks xa cap b o w g0 g1 g2 g3 hn hkl s1
    by_cases s2 : 5 < s
    · exact termnode_4 s n ks xa cap b o w g0 g1 g2 g3 hn hkl s1 s2
    by_cases hl : 0 < ks.length
    · exact termnode_10 s n ks xa cap b o w g0 g1 g2 g3 hn hkl s1 s2 hl
    cases hnb : isNameB n.data.toList with
    | false => exact termnode_11 s n ks xa cap b o w g0 g1 g2 g3 hn hkl s1 s2 (by omega) hnb
    | true => exact termnode_12 s n ks xa cap b o w g0 g1 g2 g3 hn hkl s1 s2 (by omega) hnb
  by_cases k3 : k = 3
  · subst k3
    by_cases s1 : s < 0
    · exact termnode_5 s n ks xa cap b o w g0 g1 g2 g3 hn hkl s1
    by_cases s2 : 5 < s
    · exact termnode_6 s n ks xa cap b o w g0 g1 g2 g3 hn hkl s1 s2
    by_cases s3 : s = 0
    · subst s3
      cases hnb : isNameB n.data.toList with
      | false => exact termnode_14 n ks xa cap b o w g0 g1 g2 g3 hn hkl hnb
      | true =>
        by_cases hl : 8 < ks.length
        · exact termnode_15 n ks xa cap b o w g0 g1 g2 g3 hn hkl hl hnb
        · exact termnode_16 n ks xa cap b o w g0 g1 g2 g3 hn hkl (by omega) hnb
    · exact termnode_13 s n ks xa cap b o w g0 g1 g2 g3 hn hkl s1 s2 s3
  exact termnode_0 k s n ks xa cap b o w g0 g1 g2 g3 hn hkl k1 k2 k3
end Go.Proofs.YtbcpnepjojppaaaGreatDoor
