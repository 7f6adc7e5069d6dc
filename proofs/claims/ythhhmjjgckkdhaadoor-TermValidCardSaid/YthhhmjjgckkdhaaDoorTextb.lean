/-
  THE WALKS OF the reference's Text and Format.
-/
import Derived.Test.YthhhmjjgckkdhaaDoorText
namespace Go.Proofs.YthhhmjjgckkdhaaDoor
open Go.RowKit

section
variable (w : World) (n : ByteArray) (s : Int) (ks : List Tm) (xa : Option Addr) (cap : Nat)

set_option maxHeartbeats 1600000 in
set_option maxRecDepth 100000 in
theorem rtext_var0 (hn : n.size ≤ 4611686018427387904) : Calls Tryd.prog 49 #[.agg #[.int .i64 1, .string n, .int .i64 0, .slice xa ks.length cap]] w fun e w' => e = .returned (.string (textT (.mk 1 n 0 ks))) ∧ Below w.heap.size w w' := by
  have HB : Hid (Below w.heap.size w (w.alloc (.cells #[.int .i64 1, .string n, .int .i64 0, .slice xa ks.length cap] 24))) := Lib.hid ((Below.refl _ _).alloc (Nat.le_refl _) _)
  have H : Hid (textT (.mk 1 n 0 ks) = (⟨#[63]⟩ : ByteArray) ++ n) := by show _ = _; simp only [textT]; rfl
  have h1 : 1 + n.size ≤ 9223372036854775807 := by omega
  go_enter Tryd.func49, Tryd.ntmps49
  go_wp2_with fail
  go_ret
  exact ⟨by rw [H.out]; rfl, HB.out⟩

set_option maxHeartbeats 1600000 in
set_option maxRecDepth 100000 in
theorem rtext_var (hn : n.size ≤ 4611686018427387904) (hs : 0 ≤ s ∧ s ≤ 5) (h0 : ¬ s = 0) : Calls Tryd.prog 49 #[.agg #[.int .i64 1, .string n, .int .i64 s, .slice xa ks.length cap]] w fun e w' => e = .returned (.string (textT (.mk 1 n s ks))) ∧ Below w.heap.size w w' := by
  have hX : Ext w (w.alloc (.cells #[.int .i64 1, .string n, .int .i64 s, .slice xa ks.length cap] 24)) := (Ext.refl w).alloc _
  have HW := Lib.hid (fun W => rword_any s hs W)
  have hwz := wordB_size s
  have hHt : textT (.mk 1 n s ks) = (((⟨#[63]⟩ : ByteArray) ++ n) ++ ⟨#[58]⟩) ++ wordB s := by simp only [textT, h0, if_true, if_false]; rfl
  generalize wordB s = wd at hHt HW hwz
  have H := Lib.hid hHt
  have HC : Hid (∀ W, Ext (w.alloc (.cells #[.int .i64 1, .string n, .int .i64 s, .slice xa ks.length cap] 24)) W → W.cell? ⟨w.heap.size, 1, none⟩ = some (.string n) ∧ W.cell? ⟨w.heap.size, 2, none⟩ = some (.int .i64 s)) := fun W h => by
    obtain ⟨_, a1, a2, _⟩ := box_kept (T := 24) (Below.mono h (by simp))
    exact ⟨a1, a2⟩
  have h1 : 1 + n.size ≤ 9223372036854775807 := by omega
  have h2 : ((⟨#[63]⟩ : ByteArray) ++ n).size + 1 ≤ 9223372036854775807 := by rw [ba_app, ba_one]; omega
  have h3 : (((⟨#[63]⟩ : ByteArray) ++ n) ++ ⟨#[58]⟩).size + wd.size ≤ 9223372036854775807 := by rw [ba_app, ba_app, ba_one, ba_one]; omega
  have hb : (s == 0) = false := by simp [h0]
  have m1 : ¬ 9223372036854775807 < 1 + n.size := by omega
  have m2 : ¬ 9223372036854775807 < 1 + n.size + 1 := by omega
  have m3 : ¬ 9223372036854775807 < 1 + n.size + 1 + wd.size := by omega
  clear hHt h0
  go_enter Tryd.func49, Tryd.ntmps49
  go_wp2_with fail
  have hEr := Ext.refl (w.alloc (.cells #[.int .i64 1, .string n, .int .i64 s, .slice xa ks.length cap] 24))
  generalize w.alloc (.cells #[.int .i64 1, .string n, .int .i64 s, .slice xa ks.length cap] 24) = wq at hX HC hEr ⊢
  obtain ⟨b1, b2⟩ := HC.out _ hEr
  have hF0 : Ext wq wq.drew := (Ext.refl wq).drew
  go_region_held3 (fun W => W.cell? ⟨w.heap.size, 1, none⟩ = some (.string n) ∧ W.cell? ⟨w.heap.size, 2, none⟩ = some (.int .i64 s))
    (first | exact HC.out _ (by assumption) | go_keep)
    (first
      | (go_at_call 69; refine (HW.out _).mono ?_; rintro e w3 ⟨he, hB⟩; subst he; have hF1 : Ext wq w3 := Ext.trans hF0 hB; clear hB))
  all_goals (try go_wp2_with fail)
  all_goals go_ret
  all_goals exact ⟨by rw [H.out]; rfl, Ext.trans (a := w) hX hF1⟩

set_option maxHeartbeats 1600000 in
set_option maxRecDepth 100000 in
theorem rtext_atom (hn : n.size ≤ 4611686018427387904) (hs : 0 ≤ s ∧ s ≤ 5) : Calls Tryd.prog 49 #[.agg #[.int .i64 2, .string n, .int .i64 s, .slice xa ks.length cap]] w fun e w' => e = .returned (.string (textT (.mk 2 n s ks))) ∧ Below w.heap.size w w' := by
  have hX : Ext w (w.alloc (.cells #[.int .i64 2, .string n, .int .i64 s, .slice xa ks.length cap] 24)) := (Ext.refl w).alloc _
  have HW := Lib.hid (fun W => rword_any s hs W)
  have hwz := wordB_size s
  have hHt : textT (.mk 2 n s ks) = (n ++ (⟨#[58]⟩ : ByteArray)) ++ wordB s := by
    simp [textT, bColon]
  generalize wordB s = wd at hHt HW hwz
  have H := Lib.hid hHt
  have HC : Hid (∀ W, Ext (w.alloc (.cells #[.int .i64 2, .string n, .int .i64 s, .slice xa ks.length cap] 24)) W → W.cell? ⟨w.heap.size, 1, none⟩ = some (.string n) ∧ W.cell? ⟨w.heap.size, 2, none⟩ = some (.int .i64 s)) := fun W h => by
    obtain ⟨_, a1, a2, _⟩ := box_kept (T := 24) (Below.mono h (by simp))
    exact ⟨a1, a2⟩
  have h2 : n.size + 1 ≤ 9223372036854775807 := by omega
  have h3 : (n ++ (⟨#[58]⟩ : ByteArray)).size + wd.size ≤ 9223372036854775807 := by rw [ba_app, ba_one]; omega
  have m2 : ¬ 9223372036854775807 < n.size + 1 := by omega
  have m3 : ¬ 9223372036854775807 < n.size + 1 + wd.size := by omega
  clear hHt
  go_enter Tryd.func49, Tryd.ntmps49
  go_wp2_with fail
  have hEr := Ext.refl (w.alloc (.cells #[.int .i64 2, .string n, .int .i64 s, .slice xa ks.length cap] 24))
  generalize w.alloc (.cells #[.int .i64 2, .string n, .int .i64 s, .slice xa ks.length cap] 24) = wq at hX HC hEr ⊢
  obtain ⟨b1, b2⟩ := HC.out _ hEr
  have hF0 : Ext wq wq.drew := (Ext.refl wq).drew
  go_region_held3 (fun W => W.cell? ⟨w.heap.size, 1, none⟩ = some (.string n) ∧ W.cell? ⟨w.heap.size, 2, none⟩ = some (.int .i64 s))
    (first | exact HC.out _ (by assumption) | go_keep)
    (first
      | (go_at_call 69; refine (HW.out _).mono ?_; rintro e w3 ⟨he, hB⟩; subst he; have hF1 : Ext wq w3 := Ext.trans hF0 hB; clear hB))
  all_goals (try go_wp2_with fail)
  all_goals go_ret
  all_goals exact ⟨by rw [H.out]; rfl, Ext.trans (a := w) hX hF1⟩
end

theorem textL_first (n : ByteArray) (ks : List Tm) (s : Int) : textT (.mk 3 n s ks) = textL (n ++ (⟨#[40]⟩ : ByteArray)) false ks ++ ⟨#[41]⟩ := by
  simp only [textT]
  rw [if_neg (by omega), if_neg (by omega)]; rfl

set_option maxHeartbeats 1600000 in
set_option maxRecDepth 100000 in
theorem rText_any (m : Nat) : ∀ (t : Tm) (c0 c1 c2 c3 : Value) (w : World), size t ≤ m → okT t → (textT t).size ≤ 4611686018427387904 → Is w t c0 c1 c2 c3 →
    Calls Tryd.prog 49 #[.agg #[c0, c1, c2, c3]] w fun e w' => e = .returned (.string (textT t)) ∧ Below w.heap.size w w' := by
  induction m with
  | zero => intro t c0 c1 c2 c3 w h; have := size_pos t; omega
  | succ m ih =>
    intro t c0 c1 c2 c3 w hm hok hz hI
    obtain ⟨k, n, s, ks⟩ := t
    have hsk : size (.mk k n s ks) = 1 + sizes ks := rfl
    rw [hsk] at hm
    simp only [Is] at hI
    obtain ⟨rfl, rfl, rfl, _, _, hn, hkl, xa, cap, rfl, hcap, hR⟩ := hI
    obtain ⟨hk, hs, hokl⟩ := hok
    rcases hk with rfl | rfl | rfl
    · by_cases h0 : s = 0
      · subst h0
        refine rtext_var0 w n ks xa cap ?_
        have e : textT (.mk 1 n 0 ks) = (⟨#[63]⟩ : ByteArray) ++ n := by simp only [textT]; rfl
        rw [e, ba_app] at hz; omega
      · refine rtext_var w n s ks xa cap ?_ hs h0
        have e : textT (.mk 1 n s ks) = (((⟨#[63]⟩ : ByteArray) ++ n) ++ ⟨#[58]⟩) ++ wordB s := by simp only [textT, h0, if_true, if_false]; rfl
        rw [e, ba_app, ba_app, ba_app] at hz; omega
    · refine rtext_atom w n s ks xa cap ?_ hs
      have e : textT (.mk 2 n s ks) = (n ++ (⟨#[58]⟩ : ByteArray)) ++ wordB s := by
        simp [textT, bColon]
      rw [e, ba_app, ba_app] at hz; omega
    · rw [textL_first] at hz ⊢
      rw [ba_app, ba_one] at hz
      unfold maxLen at hkl
      have h1 : n.size + 1 ≤ 9223372036854775807 := by
        have := textL_size ks (n ++ (⟨#[40]⟩ : ByteArray)) false
        rw [ba_app, ba_one] at this; omega
      have HR := Lib.hid hR
      have HOK := Lib.hid hokl
      have HIH := Lib.hid ih
      have hkl2 := length_le_sizes ks
      clear hR hokl ih hsk
      go_enter Tryd.func49, Tryd.ntmps49
      go_wp2_with fail
      obtain ⟨a0, ha0⟩ : ∃ a0, n ++ (⟨#[40]⟩ : ByteArray) = a0 := ⟨_, rfl⟩
      rw [ha0] at hz ⊢
      have HA0 := Lib.hid ha0
      have hz0 : (textL a0 false ks).size + 1 ≤ 9223372036854775807 := by omega
      have HZ := Lib.hid hz
      clear ha0 h1 hz
      go_loopw [3, 4] (fun v i wr => ∃ j : Nat, j ≤ ks.length ∧ i = .int .i64 j ∧ v = .string (textL a0 false (ks.take j)) ∧ Below (w.heap.size + 1) (w.alloc (.cells #[.int .i64 3, .string n, .int .i64 s, .slice xa ks.length cap] 24)) wr) (fun _ i _ => ks.length - (intOf i).toNat)
      case atStart => exact ⟨0, Nat.zero_le _, rfl, by simp [textL], Below.refl _ _⟩
      case round =>
        obtain ⟨j, hj, rfl, rfl, hB⟩ := hrel
        obtain ⟨_, _, _, g3⟩ := box_kept hB
        have HB := Lib.hid (below_box hB)
        by_cases hlt : j < ks.length
        rotate_left
        · have hjl : ks.take j = ks := by rw [List.take_of_length_le]; omega
          rw [hjl]
          clear hB hjl
          go_wp2_with fail
          go_ret
          exact ⟨by rw [HA0.out]; rfl, HB.out⟩
        have hmo := textL_mono ks a0 j hlt
        have htk := textL_take ks a0 j hlt
        have hzz := HZ.out
        have hsz : size ks[j] ≤ sizes ks := size_le_sizes (List.getElem_mem hlt)
        obtain ⟨kb, ko, rfl⟩ := Row_at HR.out (by omega)
        obtain ⟨x0, x1, x2, x3, k0, k1, k2, k3, hKI⟩ := Row_get (Row_below HR.out HB.out) j hlt
        have hpt : (textT ks[j]).size ≤ 4611686018427387904 := by rw [htk, ba_app] at hmo; omega
        have HIX := Lib.hid (HIH.out ks[j] x0 x1 x2 x3 wr (by omega) (okL_get ks j hlt HOK.out) hpt hKI)
        generalize textL a0 false (ks.take j) = acc at hmo htk ⊢
        generalize textT ks[j] = pt at hmo htk HIX
        have HTK := Lib.hid htk
        have i1 : (0 : Int) ≤ (j : Int) := by omega
        have i2 : (j : Int) < (ks.length : Int) := by omega
        have HBB := Lib.hid hB
        rw [htk, ba_app] at hmo
        by_cases hj0 : 0 < j
        · have i3 : (0 : Int) < (j : Int) := by omega
          rw [if_pos hj0, ba_app] at hmo
          have hc2 : bComma.size = 2 := rfl
          have q1 : acc.size + 2 ≤ 9223372036854775807 := by omega
          have q2 : (acc ++ (⟨#[44, 32]⟩ : ByteArray)).size + pt.size ≤ 9223372036854775807 := by rw [ba_app]; have : (⟨#[44, 32]⟩ : ByteArray).size = 2 := rfl; omega
          clear htk hsz hKI hB hmo hzz hpt
          go_wp2_with (go_at_call 49; refine (HIX.out).mono ?_; rintro e w2 ⟨he, hB2⟩; subst he; have HB2 := Lib.hid hB2; clear hB2)
          go_roundw
          case rel => exact ⟨j + 1, by omega, by go_num, by rw [HTK.out, if_pos hj0]; rfl, HBB.out.trans (HB2.out.mono (by have := HBB.out.size; simpa using this))⟩
          case measure => simp [intOf]; omega
        · have i3 : ¬ (0 : Int) < (j : Int) := by omega
          rw [if_neg hj0] at hmo
          have q2 : acc.size + pt.size ≤ 9223372036854775807 := by omega
          clear htk hsz hKI hB hmo hzz hpt
          go_wp2_with (go_at_call 49; refine (HIX.out).mono ?_; rintro e w2 ⟨he, hB2⟩; subst he; have HB2 := Lib.hid hB2; clear hB2)
          go_roundw
          case rel => exact ⟨j + 1, by omega, by go_num, by rw [HTK.out, if_neg hj0], HBB.out.trans (HB2.out.mono (by have := HBB.out.size; simpa using this))⟩
          case measure => simp [intOf]; omega

end Go.Proofs.YthhhmjjgckkdhaaDoor
