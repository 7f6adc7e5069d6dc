/-
  THE WALKS OF the reference's Valid and of term.Valid.
-/
import Derived.Test.YthhhmjjgckkdhaaDoorValidb
namespace Go.Proofs.YthhhmjjgckkdhaaDoor
open Go.RowKit

set_option maxHeartbeats 1600000 in
set_option maxRecDepth 100000 in
theorem rValid_any (t : Tm) (c0 c1 c2 c3 : Value) (w : World) (hM : size t ≤ 1073741824) (hI : Is w t c0 c1 c2 c3) :
    Calls Tryd.prog 16 #[.agg #[c0, c1, c2, c3]] w fun e w' => e = .returned (.int .i64 (validE t)) ∧ Below w.heap.size w w' := by
  obtain ⟨k, n, s, xa, l, cap, rfl, rfl, rfl, rfl⟩ := Is_form hI
  obtain ⟨ks, hks⟩ : ∃ ks : List Unit, ks.length = l := ⟨List.replicate l (), by simp⟩
  subst hks
  have hI0 := hI
  have HX : Hid (Ext w (w.alloc (.cells #[.int .i64 k, .string n, .int .i64 s, .slice xa ks.length cap] 24))) := Lib.hid ((Ext.refl w).alloc _)
  have HX0 : Hid (Ext (w.alloc (.cells #[.int .i64 k, .string n, .int .i64 s, .slice xa ks.length cap] 24)) (w.alloc (.cells #[.int .i64 k, .string n, .int .i64 s, .slice xa ks.length cap] 24))) := Lib.hid (Ext.refl _)
  have HI : Hid (∀ W, Ext (w.alloc (.cells #[.int .i64 k, .string n, .int .i64 s, .slice xa ks.length cap] 24)) W → Is W t (.int .i64 k) (.string n) (.int .i64 s) (.slice xa ks.length cap)) := fun W h => Is_below (Is_alloc hI _) h
  have HC : Hid (∀ W, Ext (w.alloc (.cells #[.int .i64 k, .string n, .int .i64 s, .slice xa ks.length cap] 24)) W → W.cell? ⟨w.heap.size, 0, none⟩ = some (.int .i64 k) ∧ W.cell? ⟨w.heap.size, 1, none⟩ = some (.string n) ∧ W.cell? ⟨w.heap.size, 2, none⟩ = some (.int .i64 s) ∧ W.cell? ⟨w.heap.size, 3, none⟩ = some (.slice xa ks.length cap)) := fun W h => box_kept (T := 24) (Below.mono h (by simp))
  have HN := Lib.hid (rnodes_any _ t (.int .i64 k) (.string n) (.int .i64 s) (.slice xa ks.length cap) (w.alloc (.cells #[.int .i64 k, .string n, .int .i64 s, .slice xa ks.length cap] 24)) (Nat.le_refl _) hM (HI.out _ HX0.out))
  have hv : validE t = if nodesE t = 0 then (if 400 < size t ∨ 40 < depth t then 3 else 0) else nodesE t := rfl
  obtain ⟨v, hve⟩ : ∃ v, validE t = v := ⟨_, rfl⟩
  rw [hve] at hv ⊢
  generalize nodesE t = x at hv HN
  clear hI hI0 hve
  by_cases hz : x = 0
  rotate_left
  · have H : Hid (v = x) := by show _ = _; rw [hv, if_neg hz]
    have hb : (x != 0) = true := by simp [hz]
    clear hv hz
    go_enter Tryd.func16, Tryd.ntmps16
    go_wp2_with (go_at_call 51; refine (HN.out).mono ?_; rintro e w1 ⟨he, hB⟩; subst he; have HE1 : Hid (Ext (w.alloc (.cells #[.int .i64 k, .string n, .int .i64 s, .slice xa ks.length cap] 24)) w1) := Lib.hid hB; obtain ⟨a0, a1, a2, a3⟩ := HC.out _ HE1.out; clear hB)
    go_ret
    exact ⟨by rw [H.out]; rfl, Ext.trans (a := w) HX.out HE1.out⟩
  subst hz
  rw [if_pos rfl] at hv
  by_cases h1 : 400 < size t
  · have H : Hid (v = 3) := by show _ = _; rw [hv, if_pos (Or.inl h1)]
    have i1 : (400 : Int) < (size t : Int) := by omega
    clear hv h1
    go_enter Tryd.func16, Tryd.ntmps16
    go_wp2_with (first
      | (go_at_call 51; refine (HN.out).mono ?_; rintro e w1 ⟨he, hB⟩; subst he; have HE1 : Hid (Ext (w.alloc (.cells #[.int .i64 k, .string n, .int .i64 s, .slice xa ks.length cap] 24)) w1) := Lib.hid hB; obtain ⟨a0, a1, a2, a3⟩ := HC.out _ HE1.out; clear hB)
      | (go_at_call 21; refine (rsize_any _ t _ _ _ _ _ (Nat.le_refl _) (by omega) (HI.out _ HE1.out)).mono ?_; rintro e w2 ⟨he, hB⟩; subst he; have HE2 := Lib.hid (Ext.trans HE1.out hB); obtain ⟨a0, a1, a2, a3⟩ := HC.out _ HE2.out; clear hB))
    go_ret
    exact ⟨by rw [H.out]; rfl, Ext.trans (a := w) HX.out HE2.out⟩
  have i1 : ¬ (400 : Int) < (size t : Int) := by omega
  by_cases h2 : 40 < depth t
  · have H : Hid (v = 3) := by show _ = _; rw [hv, if_pos (Or.inr h2)]
    have i2 : (40 : Int) < (depth t : Int) := by omega
    clear hv h1 h2
    go_enter Tryd.func16, Tryd.ntmps16
    go_wp2_with (first
      | (go_at_call 51; refine (HN.out).mono ?_; rintro e w1 ⟨he, hB⟩; subst he; have HE1 : Hid (Ext (w.alloc (.cells #[.int .i64 k, .string n, .int .i64 s, .slice xa ks.length cap] 24)) w1) := Lib.hid hB; obtain ⟨a0, a1, a2, a3⟩ := HC.out _ HE1.out; clear hB)
      | (go_at_call 21; refine (rsize_any _ t _ _ _ _ _ (Nat.le_refl _) (by omega) (HI.out _ HE1.out)).mono ?_; rintro e w2 ⟨he, hB⟩; subst he; have HE2 := Lib.hid (Ext.trans HE1.out hB); obtain ⟨a0, a1, a2, a3⟩ := HC.out _ HE2.out; clear hB)
      | (go_at_call 23; refine (rdepth_any _ t _ _ _ _ _ (Nat.le_refl _) (by omega) (HI.out _ HE2.out)).mono ?_; rintro e w3 ⟨he, hB⟩; subst he; have HE3 := Lib.hid (Ext.trans HE2.out hB); clear hB))
    go_ret
    exact ⟨by rw [H.out]; rfl, Ext.trans (a := w) HX.out HE3.out⟩
  have i2 : ¬ (40 : Int) < (depth t : Int) := by omega
  have H : Hid (v = 0) := by show _ = _; rw [hv, if_neg (by omega)]
  clear hv h1 h2
  go_enter Tryd.func16, Tryd.ntmps16
  go_wp2_with (first
    | (go_at_call 51; refine (HN.out).mono ?_; rintro e w1 ⟨he, hB⟩; subst he; have HE1 : Hid (Ext (w.alloc (.cells #[.int .i64 k, .string n, .int .i64 s, .slice xa ks.length cap] 24)) w1) := Lib.hid hB; obtain ⟨a0, a1, a2, a3⟩ := HC.out _ HE1.out; clear hB)
    | (go_at_call 21; refine (rsize_any _ t _ _ _ _ _ (Nat.le_refl _) (by omega) (HI.out _ HE1.out)).mono ?_; rintro e w2 ⟨he, hB⟩; subst he; have HE2 := Lib.hid (Ext.trans HE1.out hB); obtain ⟨a0, a1, a2, a3⟩ := HC.out _ HE2.out; clear hB)
    | (go_at_call 23; refine (rdepth_any _ t _ _ _ _ _ (Nat.le_refl _) (by omega) (HI.out _ HE2.out)).mono ?_; rintro e w3 ⟨he, hB⟩; subst he; have HE3 := Lib.hid (Ext.trans HE2.out hB); clear hB))
  go_ret
  exact ⟨by rw [H.out]; rfl, Ext.trans (a := w) HX.out HE3.out⟩

set_option maxHeartbeats 1600000 in
set_option maxRecDepth 100000 in
theorem tValid_any (t : Tm) (c0 c1 c2 c3 : Value) (w : World) (hM : size t ≤ 1073741824) (hI : Is w t c0 c1 c2 c3) :
    Calls Tryd.prog 15 #[.agg #[c0, c1, c2, c3]] w fun e w' => e = .returned (.int .i64 (validE t)) ∧ Below w.heap.size w w' := by
  obtain ⟨k, n, s, xa, l, cap, rfl, rfl, rfl, rfl⟩ := Is_form hI
  obtain ⟨ks, hks⟩ : ∃ ks : List Unit, ks.length = l := ⟨List.replicate l (), by simp⟩
  subst hks
  have hI0 := hI
  have HX : Hid (Ext w (w.alloc (.cells #[.int .i64 k, .string n, .int .i64 s, .slice xa ks.length cap] 24))) := Lib.hid ((Ext.refl w).alloc _)
  have HX0 : Hid (Ext (w.alloc (.cells #[.int .i64 k, .string n, .int .i64 s, .slice xa ks.length cap] 24)) (w.alloc (.cells #[.int .i64 k, .string n, .int .i64 s, .slice xa ks.length cap] 24))) := Lib.hid (Ext.refl _)
  have HI : Hid (∀ W, Ext (w.alloc (.cells #[.int .i64 k, .string n, .int .i64 s, .slice xa ks.length cap] 24)) W → Is W t (.int .i64 k) (.string n) (.int .i64 s) (.slice xa ks.length cap)) := fun W h => Is_below (Is_alloc hI _) h
  have HC : Hid (∀ W, Ext (w.alloc (.cells #[.int .i64 k, .string n, .int .i64 s, .slice xa ks.length cap] 24)) W → W.cell? ⟨w.heap.size, 0, none⟩ = some (.int .i64 k) ∧ W.cell? ⟨w.heap.size, 1, none⟩ = some (.string n) ∧ W.cell? ⟨w.heap.size, 2, none⟩ = some (.int .i64 s) ∧ W.cell? ⟨w.heap.size, 3, none⟩ = some (.slice xa ks.length cap)) := fun W h => box_kept (T := 24) (Below.mono h (by simp))
  have HN := Lib.hid (tnodes_any _ t w.heap.size 0 (w.alloc (.cells #[.int .i64 k, .string n, .int .i64 s, .slice xa ks.length cap] 24)) (Nat.le_refl _) hM (Lies_box hI0 24))
  have hv : validE t = if nodesE t = 0 then (if 400 < size t ∨ 40 < depth t then 3 else 0) else nodesE t := rfl
  obtain ⟨v, hve⟩ : ∃ v, validE t = v := ⟨_, rfl⟩
  rw [hve] at hv ⊢
  generalize nodesE t = x at hv HN
  clear hI hI0 hve
  by_cases hz : x = 0
  rotate_left
  · have H : Hid (v = x) := by show _ = _; rw [hv, if_neg hz]
    have hb : (x != 0) = true := by simp [hz]
    clear hv hz
    go_enter Tryd.func15, Tryd.ntmps15
    go_wp2_with (go_at_call 50; refine (HN.out).mono ?_; rintro e w1 ⟨he, hw⟩; subst he hw; have HE1 : Hid (Ext (w.alloc (.cells #[.int .i64 k, .string n, .int .i64 s, .slice xa ks.length cap] 24)) (w.alloc (.cells #[.int .i64 k, .string n, .int .i64 s, .slice xa ks.length cap] 24))) := Ext.refl _; obtain ⟨a0, a1, a2, a3⟩ := HC.out _ HE1.out)
    go_ret
    exact ⟨by rw [H.out]; rfl, Ext.trans (a := w) HX.out HE1.out⟩
  subst hz
  rw [if_pos rfl] at hv
  by_cases h1 : 400 < size t
  · have H : Hid (v = 3) := by show _ = _; rw [hv, if_pos (Or.inl h1)]
    have i1 : (400 : Int) < (size t : Int) := by omega
    clear hv h1
    go_enter Tryd.func15, Tryd.ntmps15
    go_wp2_with (first
      | (go_at_call 50; refine (HN.out).mono ?_; rintro e w1 ⟨he, hw⟩; subst he hw; have HE1 : Hid (Ext (w.alloc (.cells #[.int .i64 k, .string n, .int .i64 s, .slice xa ks.length cap] 24)) (w.alloc (.cells #[.int .i64 k, .string n, .int .i64 s, .slice xa ks.length cap] 24))) := Ext.refl _; obtain ⟨a0, a1, a2, a3⟩ := HC.out _ HE1.out)
      | (go_at_call 20; refine (Size_any t _ _ _ _ _ (by omega) (HI.out _ HE1.out)).mono ?_; rintro e w2 ⟨he, hB⟩; subst he; have HE2 := Lib.hid (Ext.trans HE1.out hB); obtain ⟨a0, a1, a2, a3⟩ := HC.out _ HE2.out; clear hB))
    go_ret
    exact ⟨by rw [H.out]; rfl, Ext.trans (a := w) HX.out HE2.out⟩
  have i1 : ¬ (400 : Int) < (size t : Int) := by omega
  by_cases h2 : 40 < depth t
  · have H : Hid (v = 3) := by show _ = _; rw [hv, if_pos (Or.inr h2)]
    have i2 : (40 : Int) < (depth t : Int) := by omega
    clear hv h1 h2
    go_enter Tryd.func15, Tryd.ntmps15
    go_wp2_with (first
      | (go_at_call 50; refine (HN.out).mono ?_; rintro e w1 ⟨he, hw⟩; subst he hw; have HE1 : Hid (Ext (w.alloc (.cells #[.int .i64 k, .string n, .int .i64 s, .slice xa ks.length cap] 24)) (w.alloc (.cells #[.int .i64 k, .string n, .int .i64 s, .slice xa ks.length cap] 24))) := Ext.refl _; obtain ⟨a0, a1, a2, a3⟩ := HC.out _ HE1.out)
      | (go_at_call 20; refine (Size_any t _ _ _ _ _ (by omega) (HI.out _ HE1.out)).mono ?_; rintro e w2 ⟨he, hB⟩; subst he; have HE2 := Lib.hid (Ext.trans HE1.out hB); obtain ⟨a0, a1, a2, a3⟩ := HC.out _ HE2.out; clear hB)
      | (go_at_call 22; refine (Depth_any t _ _ _ _ _ (by omega) (HI.out _ HE2.out)).mono ?_; rintro e w3 ⟨he, hB⟩; subst he; have HE3 := Lib.hid (Ext.trans HE2.out hB); clear hB))
    go_ret
    exact ⟨by rw [H.out]; rfl, Ext.trans (a := w) HX.out HE3.out⟩
  have i2 : ¬ (40 : Int) < (depth t : Int) := by omega
  have H : Hid (v = 0) := by show _ = _; rw [hv, if_neg (by omega)]
  clear hv h1 h2
  go_enter Tryd.func15, Tryd.ntmps15
  go_wp2_with (first
    | (go_at_call 50; refine (HN.out).mono ?_; rintro e w1 ⟨he, hw⟩; subst he hw; have HE1 : Hid (Ext (w.alloc (.cells #[.int .i64 k, .string n, .int .i64 s, .slice xa ks.length cap] 24)) (w.alloc (.cells #[.int .i64 k, .string n, .int .i64 s, .slice xa ks.length cap] 24))) := Ext.refl _; obtain ⟨a0, a1, a2, a3⟩ := HC.out _ HE1.out)
    | (go_at_call 20; refine (Size_any t _ _ _ _ _ (by omega) (HI.out _ HE1.out)).mono ?_; rintro e w2 ⟨he, hB⟩; subst he; have HE2 := Lib.hid (Ext.trans HE1.out hB); obtain ⟨a0, a1, a2, a3⟩ := HC.out _ HE2.out; clear hB)
    | (go_at_call 22; refine (Depth_any t _ _ _ _ _ (by omega) (HI.out _ HE2.out)).mono ?_; rintro e w3 ⟨he, hB⟩; subst he; have HE3 := Lib.hid (Ext.trans HE2.out hB); clear hB))
  go_ret
  exact ⟨by rw [H.out]; rfl, Ext.trans (a := w) HX.out HE3.out⟩

end Go.Proofs.YthhhmjjgckkdhaaDoor
