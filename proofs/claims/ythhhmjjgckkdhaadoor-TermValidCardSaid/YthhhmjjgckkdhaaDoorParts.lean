/-
  THE WALK OF the reference's Parts: all fields of a term as one string.
-/
import Derived.Test.YthhhmjjgckkdhaaDoorRefb
import Derived.Test.YthhhmjjgckkdhaaDoorExt
import Derived.Test.YthhhmjjgckkdhaaDoorElems
namespace Go.Proofs.YthhhmjjgckkdhaaDoor
open Go.RowKit

mutual
/-- The text of all fields. -/
def partT : Tm → ByteArray
  | .mk k n s ks => partL ((strOfNums [k % 256, s % 256, (ks.length : Int) % 256] ++ n) ++ ⟨#[40]⟩) ks ++ ⟨#[41]⟩
def partL : ByteArray → List Tm → ByteArray
  | acc, [] => acc
  | acc, t :: ts => partL ((acc ++ partT t) ++ ⟨#[44]⟩) ts
end
theorem partL_snoc : ∀ (l : List Tm) (acc : ByteArray) (t : Tm), partL acc (l ++ [t]) = (partL acc l ++ partT t) ++ ⟨#[44]⟩
  | [], acc, t => by simp only [List.nil_append, partL]
  | x :: l, acc, t => by simp only [List.cons_append, partL, partL_snoc l]
theorem partL_take (l : List Tm) (acc : ByteArray) (j : Nat) (h : j < l.length) : partL acc (l.take (j + 1)) = (partL acc (l.take j) ++ partT l[j]) ++ ⟨#[44]⟩ := by
  rw [List.take_succ_eq_append_getElem h, partL_snoc]
theorem ba_app (a b : ByteArray) : (a ++ b).size = a.size + b.size := ByteArray.size_append ..
theorem ba_one (x : UInt8) : (⟨#[x]⟩ : ByteArray).size = 1 := rfl
theorem partL_size : ∀ (l : List Tm) (acc : ByteArray), acc.size ≤ (partL acc l).size
  | [], acc => by simp only [partL]; exact Nat.le_refl _
  | x :: l, acc => by
    have := partL_size l ((acc ++ partT x) ++ ⟨#[44]⟩)
    rw [ba_app, ba_app] at this
    simp only [partL]; omega
theorem partL_mono (l : List Tm) (acc : ByteArray) (j : Nat) (h : j < l.length) : (partL acc (l.take j)).size + (partT l[j]).size + 1 ≤ (partL acc l).size := by
  have h1 := partL_take l acc j h
  have h2 : partL acc l = partL (partL acc (l.take (j + 1))) (l.drop (j + 1)) := by
    have : ∀ (a b : List Tm) (acc : ByteArray), partL acc (a ++ b) = partL (partL acc a) b := by
      intro a
      induction a with
      | nil => intro b acc; rfl
      | cons x a ih => intro b acc; simp only [List.cons_append, partL]; exact ih b _
    rw [← this, List.take_append_drop]
  have h3 := partL_size (l.drop (j + 1)) (partL acc (l.take (j + 1)))
  rw [h2]
  rw [h1] at h3 ⊢
  rw [ba_app, ba_app, ba_one] at h3
  exact h3

set_option maxHeartbeats 1600000 in
set_option maxRecDepth 100000 in
theorem parts_any (m : Nat) : ∀ (t : Tm) (c0 c1 c2 c3 : Value) (w : World), size t ≤ m → (partT t).size ≤ 4611686018427387904 → Is w t c0 c1 c2 c3 →
    Calls Tryd.prog 43 #[.agg #[c0, c1, c2, c3]] w fun e w' => e = .returned (.string (partT t)) ∧ Below w.heap.size w w' := by
  induction m with
  | zero => intro t c0 c1 c2 c3 w h; have := size_pos t; omega
  | succ m ih =>
    intro t c0 c1 c2 c3 w hm hz hI
    obtain ⟨k, n, s, ks⟩ := t
    simp only [Is] at hI
    obtain ⟨rfl, rfl, rfl, hk, hs, hn, hkl, xa, cap, rfl, hcap, hR⟩ := hI
    unfold maxLen at hn hkl
    simp only [partT] at hz ⊢
    rw [ba_app, ba_one] at hz
    have hsk : size (.mk k n s ks) = 1 + sizes ks := rfl
    rw [hsk] at hm
    obtain ⟨pre, hpre⟩ : ∃ pre, strOfNums [k % 256, s % 256, (ks.length : Int) % 256] = pre := ⟨_, rfl⟩
    have hp3 : pre.size = 3 := by rw [← hpre]; simp [strOfNums, ByteArray.size]
    have hconv : (convert 57 9 (.slice (some ⟨w.heap.size + 1, 0, none⟩) 3 3)).run Tryd.prog ((w.alloc (.cells #[.int .i64 k, .string n, .int .i64 s, .slice xa ks.length cap] 24)).alloc (.cells #[.int .u8 (k % 256), .int .u8 (s % 256), .int .u8 ((ks.length : Int) % 256)] 5)) =
        .ok (.string pre) ((w.alloc (.cells #[.int .i64 k, .string n, .int .i64 s, .slice xa ks.length cap] 24)).alloc (.cells #[.int .u8 (k % 256), .int .u8 (s % 256), .int .u8 ((ks.length : Int) % 256)] 5)) := by
      rw [← hpre]
      refine run_convert_bytes_arg _ 57 5 Tryd.underlying57 Tryd.underlying5 (w.heap.size + 1) 0 3 3 [k % 256, s % 256, (ks.length : Int) % 256] rfl (fun i hi => ?_) 9 Tryd.underlying9
      have := cells_new_at (w.alloc (.cells #[.int .i64 k, .string n, .int .i64 s, .slice xa ks.length cap] 24)) #[.int .u8 (k % 256), .int .u8 (s % 256), .int .u8 ((ks.length : Int) % 256)] 5 (w.heap.size + 1) (by simp)
      rw [Nat.zero_add]
      match i, hi with
      | 0, _ => exact this 0 _ rfl
      | 1, _ => exact this 1 _ rfl
      | 2, _ => exact this 2 _ rfl
    rw [hpre] at hz ⊢
    have hz1 : pre.size + n.size ≤ 9223372036854775807 := by
      have := partL_size ks ((pre ++ n) ++ ⟨#[40]⟩)
      rw [ba_app, ba_app, ba_one] at this; omega
    have hz2 : (pre ++ n).size + 1 ≤ 9223372036854775807 := by
      have := partL_size ks ((pre ++ n) ++ ⟨#[40]⟩)
      rw [ba_app, ba_one] at this; omega
    have hone : (⟨#[40]⟩ : ByteArray).size = 1 := rfl
    have hone2 : (⟨#[44]⟩ : ByteArray).size = 1 := rfl
    have hone3 : (⟨#[41]⟩ : ByteArray).size = 1 := rfl
    have HR := Lib.hid hR
    have HP := Lib.hid hpre
    clear hR hpre
    go_enter Tryd.func43, Tryd.ntmps43
    go_wp2_with fail
    obtain ⟨a0, ha0⟩ : ∃ a0, (pre ++ n) ++ ⟨#[40]⟩ = a0 := ⟨_, rfl⟩
    rw [ha0] at hz ⊢
    have hz0 : (partL a0 ks).size + 1 ≤ 9223372036854775807 := by omega
    have HZ := Lib.hid hz
    have HA0 := Lib.hid ha0
    clear hz hz1 hz2 hp3 ha0 HP hconv
    go_loopw [3, 4] (fun v i wr => ∃ j : Nat, j ≤ ks.length ∧ i = .int .i64 j ∧ v = .string (partL a0 (ks.take j)) ∧ Below (w.heap.size + 1) (w.alloc (.cells #[.int .i64 k, .string n, .int .i64 s, .slice xa ks.length cap] 24)) wr) (fun _ i _ => ks.length - (intOf i).toNat)
    case atStart => exact ⟨0, Nat.zero_le _, rfl, by simp [partL], (Below.refl _ _).alloc (by simp) _⟩
    case round =>
      obtain ⟨j, hj, rfl, rfl, hB⟩ := hrel
      obtain ⟨_, _, _, g3⟩ := box_kept hB
      have HB := Lib.hid (below_box hB)
      by_cases hlt : j < ks.length
      rotate_left
      · have hjl : ks.take j = ks := by rw [List.take_of_length_le]; omega
        rw [hjl]
        clear hB hjl
        go_wp2_with fail
        go_ret
        exact ⟨by rw [HA0.out]; rfl, HB.out⟩
      have hmo := partL_mono ks a0 j hlt
      have hzz := HZ.out
      have htk := partL_take ks a0 j hlt
      have hsz : size ks[j] ≤ sizes ks := size_le_sizes (List.getElem_mem hlt)
      obtain ⟨kb, ko, rfl⟩ := Row_at HR.out (by omega)
      obtain ⟨x0, x1, x2, x3, k0, k1, k2, k3, hKI⟩ := Row_get (Row_below HR.out HB.out) j hlt
      have HIH := Lib.hid (ih ks[j] x0 x1 x2 x3 wr (by omega) (by omega) hKI)
      generalize partL a0 (ks.take j) = acc at hmo htk ⊢
      generalize partT ks[j] = pt at hmo htk HIH
      have HTK := Lib.hid htk
      have q1 : acc.size + pt.size ≤ 9223372036854775807 := by omega
      have q2 : (acc ++ pt).size + 1 ≤ 9223372036854775807 := by rw [ba_app]; omega
      have i1 : (0 : Int) ≤ (j : Int) := by omega
      have i2 : (j : Int) < (ks.length : Int) := by omega
      have HBB := Lib.hid hB
      clear htk hsz hKI hB hmo ih hzz
      go_wp2_with (go_at_call 43; refine (HIH.out).mono ?_; rintro e w2 ⟨he, hB2⟩; subst he; have HB2 := Lib.hid hB2; clear hB2)
      go_roundw
      case rel => exact ⟨j + 1, by omega, by go_num, by rw [HTK.out], HBB.out.trans (HB2.out.mono (by have := HBB.out.size; simpa using this))⟩
      case measure => simp [intOf]; omega

end Go.Proofs.YthhhmjjgckkdhaaDoor
