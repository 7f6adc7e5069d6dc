/-
  THE WALK OF the reference's Format; what it computes.
-/
import Derived.Test.YthhhmjjgckkdhaaDoorTextb
namespace Go.Proofs.YthhhmjjgckkdhaaDoor
open Go.RowKit

/-- The text of a valid term, or no text and its error. -/
def formP (t : Tm) : ByteArray × Int := if validE t = 0 then (textT t, 0) else (⟨#[]⟩, validE t)
theorem validE_zero {t : Tm} (h : validE t = 0) : nodesE t = 0 ∧ size t ≤ 400 ∧ depth t ≤ 40 := by
  unfold validE at h
  split at h
  · rename_i h0
    split at h
    · cases h
    · exact ⟨h0, by omega, by omega⟩
  · rename_i h0; exact absurd h h0

set_option maxHeartbeats 1600000 in
set_option maxRecDepth 100000 in
theorem rFormat_any (t : Tm) (c0 c1 c2 c3 : Value) (w : World) (hM : size t ≤ 1073741824) (hz : validE t = 0 → (textT t).size ≤ 4611686018427387904) (hI : Is w t c0 c1 c2 c3) :
    Calls Tryd.prog 14 #[.agg #[c0, c1, c2, c3]] w fun e w' => e = .returned (.tuple #[.string (formP t).1, .int .i64 (formP t).2]) ∧ Below w.heap.size w w' := by
  have hX : Ext w (w.alloc (.cells #[c0, c1, c2, c3] 24)) := (Ext.refl w).alloc _
  have HX := Lib.hid hX
  have HI : Hid (∀ W, Ext (w.alloc (.cells #[c0, c1, c2, c3] 24)) W → Is W t c0 c1 c2 c3) := fun W h => Is_below (Is_alloc hI _) h
  have HC : Hid (∀ W, Ext (w.alloc (.cells #[c0, c1, c2, c3] 24)) W → W.cell? ⟨w.heap.size, 0, none⟩ = some c0 ∧ W.cell? ⟨w.heap.size, 1, none⟩ = some c1 ∧ W.cell? ⟨w.heap.size, 2, none⟩ = some c2 ∧ W.cell? ⟨w.heap.size, 3, none⟩ = some c3) := fun W h => box_kept (T := 24) (Below.mono h (by simp))
  have HV := Lib.hid (rValid_any t c0 c1 c2 c3 _ hM (HI.out _ (Ext.refl _)))
  have hf : formP t = if validE t = 0 then (textT t, 0) else (⟨#[]⟩, validE t) := rfl
  have hzv := fun h : validE t = 0 => validE_zero h
  generalize validE t = x at hf HV hzv hz
  clear hX hI
  by_cases h0 : x = 0
  · rw [if_pos h0] at hf
    have HF := Lib.hid hf
    have HT := Lib.hid (fun W (h : Ext (w.alloc (.cells #[c0, c1, c2, c3] 24)) W) => rText_any _ t c0 c1 c2 c3 W (Nat.le_refl _) (valid_ok t (hzv h0).1) (hz h0) (HI.out W h))
    generalize textT t = tx at HF HT
    subst h0
    clear hf hzv hz
    go_enter Tryd.func14, Tryd.ntmps14
    go_wp2_with (first
      | (go_at_call 16; refine (HV.out).mono ?_; rintro e w1 ⟨he, hB⟩; subst he; have HE1 : Hid (Ext (w.alloc (.cells #[c0, c1, c2, c3] 24)) w1) := Lib.hid hB; obtain ⟨a0, a1, a2, a3⟩ := HC.out _ HE1.out; clear hB)
      | (go_at_call 49; refine (HT.out _ HE1.out).mono ?_; rintro e w2 ⟨he, hB⟩; subst he; have HE2 := Lib.hid (Ext.trans HE1.out hB); clear hB))
    go_ret2
    rw [HF.out]
    exact ⟨rfl, Ext.trans (a := w) HX.out HE2.out⟩
  · rw [if_neg h0] at hf
    have HF := Lib.hid hf
    have hb : (x != 0) = true := by simp [h0]
    clear hf hzv hz h0
    go_enter Tryd.func14, Tryd.ntmps14
    go_wp2_with (go_at_call 16; refine (HV.out).mono ?_; rintro e w1 ⟨he, hB⟩; subst he; have HE1 : Hid (Ext (w.alloc (.cells #[c0, c1, c2, c3] 24)) w1) := Lib.hid hB; clear hB)
    go_ret2
    rw [HF.out]
    exact ⟨rfl, Ext.trans (a := w) HX.out HE1.out⟩

end Go.Proofs.YthhhmjjgckkdhaaDoor
