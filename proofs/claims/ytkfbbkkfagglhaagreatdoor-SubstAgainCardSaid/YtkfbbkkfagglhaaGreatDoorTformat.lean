/-
  THE WALK OF term.Format; how long a valid term's text is.
-/
import Derived.Test.YtkfbbkkfagglhaaGreatDoorBuilder
import Derived.Test.YtkfbbkkfagglhaaGreatDoorRound
namespace Go.Proofs.YtkfbbkkfagglhaaGreatDoor
open Go.RowKit

theorem text_bound (t : Tm) : nodesE t = 0 → (textT t).size + 2 ≤ 34 * size t := by
  refine Tm.rec (motive_1 := fun t => nodesE t = 0 → (textT t).size + 2 ≤ 34 * size t) (motive_2 := fun ts => nodesL ts = 0 → (tailJ ts).size ≤ 34 * sizes ts) ?_ ?_ ?_ t
  · intro k n s ks ih hv
    have h0 : nodeE (.mk k n s ks) = 0 := by
      rw [nodesE] at hv; split at hv
      · assumption
      · exact hv
    have hl : nodesL ks = 0 := by
      rw [nodesE, if_pos h0] at hv; exact hv
    obtain ⟨hn, hs, hc⟩ := node_cases h0
    have hn1 : n.size ≤ 24 := by
      simp only [isNameB, Bool.and_eq_true, decide_eq_true_eq] at hn
      exact hn.1.2
    have hw := wordB_size s
    have q1 : bQ.size = 1 := rfl
    have q2 : bColon.size = 1 := rfl
    have q3 : bOpen.size = 1 := rfl
    have q4 : bClose.size = 1 := rfl
    have q5 : bComma.size = 2 := rfl
    rcases hc with ⟨hk, rfl⟩ | ⟨rfl, rfl, hk8⟩
    · simp only [size, sizes, textT]
      split
      · split <;> (simp only [ByteArray.size_append]; omega)
      · rw [if_pos (by omega)]; simp only [ByteArray.size_append]; omega
    · have := ih hl
      cases ks with
      | nil => simp [size, sizes, textT, textL, ByteArray.size_append]; omega
      | cons a us =>
        simp only [size, textT, textL, textL_tail, ByteArray.size_append, tailJ] at this ⊢
        simp [ByteArray.size_append]
        omega
  · intro _; simp [sizes, tailJ]
  · intro t ts iht ihl hv
    have ht : nodesE t = 0 := by
      rw [nodesL] at hv; split at hv
      · assumption
      · exact hv
    have hl : nodesL ts = 0 := by
      rw [nodesL, if_pos ht] at hv; exact hv
    have := iht ht
    have := ihl hl
    have q5 : bComma.size = 2 := rfl
    simp only [sizes, tailJ, ByteArray.size_append]; omega

/-- A new builder. -/
theorem builder_new (w : World) : Lib.IsBuilder 110 5 w.heap.size w.heap.size [] (w.alloc (.cells #[.pointer none, .slice none 0 0] 110)) :=
  Or.inl ⟨Nat.le_refl _, .slice none 0 0, heap_alloc_new _ _, World.ownsRow_nil _ _ _ _, by simp [Value.ownBlock]⟩

set_option maxHeartbeats 1600000 in
set_option maxRecDepth 100000 in
theorem tFormat_any (t : Tm) (c0 c1 c2 c3 : Value) (w : World) (hM : size t ≤ 1073741824) (hI : Is w t c0 c1 c2 c3) (hL : Laid w) :
    Calls Tryz.prog 140 #[.agg #[c0, c1, c2, c3]] w fun e w' => e = .returned (.tuple #[.string (formP t).1, .int .i64 (formP t).2]) ∧ Below w.heap.size w w' := by
  have hX : Ext w (w.alloc (.cells #[c0, c1, c2, c3] 36)) := (Ext.refl w).alloc _
  have HX := Lib.hid hX
  have hI1 := Is_alloc hI (.cells #[c0, c1, c2, c3] 36)
  have HI : Hid (∀ W, Ext (w.alloc (.cells #[c0, c1, c2, c3] 36)) W → Is W t c0 c1 c2 c3) := fun W h => Is_below hI1 h
  have HC : Hid (∀ W, Ext (w.alloc (.cells #[c0, c1, c2, c3] 36)) W → W.cell? ⟨w.heap.size, 0, none⟩ = some c0 ∧ W.cell? ⟨w.heap.size, 1, none⟩ = some c1 ∧ W.cell? ⟨w.heap.size, 2, none⟩ = some c2 ∧ W.cell? ⟨w.heap.size, 3, none⟩ = some c3) := fun W h => box_kept (T := 36) (Below.mono h (by simp))
  have HLd : Hid (∀ W, Ext (w.alloc (.cells #[c0, c1, c2, c3] 36)) W → Laid W ∧ 0 < W.heap.size) := fun W h => by
    have := Laid_ext (Laid_ext hL hX) h
    exact ⟨this, World.block_lt_of_cell? W _ this.1⟩
  have HV := Lib.hid (tValid_any t c0 c1 c2 c3 _ hM (HI.out _ (Ext.refl _)))
  have hf : formP t = if validE t = 0 then (textT t, 0) else (⟨#[]⟩, validE t) := rfl
  have hzv := fun h : validE t = 0 => validE_zero h
  generalize validE t = x at hf HV hzv
  clear hX hI hI1
  by_cases h0 : x = 0
  · rw [if_pos h0] at hf
    have HF := Lib.hid hf
    have hb0 := text_bound t (hzv h0).1
    have hsz := (hzv h0).2.1
    have hlt : w.heap.size < (w.alloc (.cells #[c0, c1, c2, c3] 36)).heap.size := by simp
    have HT : Hid (∀ W, Ext (w.alloc (.cells #[c0, c1, c2, c3] 36)) W → Calls Tryz.prog 185 #[.pointer (some ⟨W.heap.size, 0, none⟩), .pointer (some ⟨w.heap.size, 0, none⟩)] (W.alloc (.cells #[.pointer none, .slice none 0 0] 110)) (WrPost W.heap.size W.heap.size [] (textT t) (W.alloc (.cells #[.pointer none, .slice none 0 0] 110)))) := fun W h => by
      have hA : Below W.heap.size W (W.alloc (.cells #[.pointer none, .slice none 0 0] 110)) := (Below.refl _ _).alloc (Nat.le_refl _) _
      obtain ⟨a0, a1, a2, a3⟩ := HC.out W h
      have hLi : LiesIn (fun b => b < W.heap.size) W t w.heap.size 0 := ⟨Nat.lt_of_lt_of_le hlt h.size, c0, c1, c2, c3, a0, a1, a2, a3, Is_IsIn t _ _ _ _ (HI.out W h)⟩
      exact write_any W.heap.size W.heap.size (HLd.out W h).2 (size t) hM t w.heap.size 0 [] _ (Nat.le_refl _) (valid_ok t (hzv h0).1) (by simp; omega) (LiesIn_carry (fun b hb => hA.block b hb) (fun _ hb => hb) hLi) (Laid_belowB (HLd.out W h).1 (HLd.out W h).2 hA) (builder_new W) hA.size
    generalize textT t = tx at HF HT
    subst h0
    clear hf hzv hb0 hsz hlt
    go_enter Tryz.func140, Tryz.ntmps140
    go_wp2_with (first
      | (go_at_call 105; refine (HV.out).mono ?_; rintro e w1 ⟨he, hB⟩; subst he; have HE1 : Hid (Ext (w.alloc (.cells #[c0, c1, c2, c3] 36)) w1) := Lib.hid hB; clear hB)
      | (go_at_call 185; refine (HT.out _ HE1.out).mono ?_; rintro e w2 ⟨he, hA, hB⟩; subst he; have HE2 : Hid (Ext w1 w2) := Lib.hid (((Below.refl _ _).alloc (Nat.le_refl _) _).trans hB); have HS := Lib.hid (Tryz.Builder_String_any w1.heap.size w1.heap.size tx.data.toList w2 (Or.inr (by simpa [Lib.strCells_eq] using hA)) HE2.out.size); clear hA hB)
      | (go_at_call 97; refine (HS.out).mono ?_; rintro e w3 ⟨he, hB⟩; subst he; have HE3 : Hid (Ext w1 w3) := Lib.hid (Below.trans HE2.out hB); clear hB))
    go_ret2
    rw [HF.out]
    exact ⟨rfl, Ext.trans (a := w) HX.out (Ext.trans HE1.out HE3.out)⟩
  · rw [if_neg h0] at hf
    have HF := Lib.hid hf
    have hb : (x != 0) = true := by simp [h0]
    clear hf hzv h0
    go_enter Tryz.func140, Tryz.ntmps140
    go_wp2_with (go_at_call 105; refine (HV.out).mono ?_; rintro e w1 ⟨he, hB⟩; subst he; have HE1 : Hid (Ext (w.alloc (.cells #[c0, c1, c2, c3] 36)) w1) := Lib.hid hB; clear hB)
    go_ret2
    rw [HF.out]
    exact ⟨rfl, Ext.trans (a := w) HX.out HE1.out⟩
end Go.Proofs.YtkfbbkkfagglhaaGreatDoor
