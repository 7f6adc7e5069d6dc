/-
  THE LOWEST BIT OF A WORD; THE WALKS OF first AND ones.
-/
import Derived.Test.YtfbomoginjknlaaDoorQgf
import Derived.Test.YtfbomoginjknlaaDoorIntz
import Derived.Shelf.Spec.TrailingZeros
namespace Go.Proofs.YtfbomoginjknlaaDoor
open Go.RowKit Go.Lib

/-- The table of math/bits, in its variable. -/
def TabQ (w : World) : Prop := TabAt 0 Lib.deBruijn64tab w
theorem TabQ.ext {w W : World} (h : TabQ w) (x : Ext w W) : TabQ W := fun j hj => keep_below x _ _ (h j hj)
set_option maxHeartbeats 1600000 in
set_option maxRecDepth 100000 in
theorem tz_core (x k idx : Nat) (w : World) (hx0 : ((x : Int) == 0) = false)
    (key : IntKind.u64.wrap (bits BinOp.and IntKind.u64 (x : Int) (IntKind.u64.wrap (-(x : Int))) * 285870213051353865) / 288230376151711744 = (idx : Int))
    (hi : idx < 64) (hk : k < 64) (hcell : w.cell? ⟨0, idx, none⟩ = some (.int .u8 k)) :
    Calls Tryd.prog 68 #[.int .u64 x] w fun e w' => e = .returned (.int .i64 k) ∧ w' = w := by
  go_enter Tryd.func68, Tryd.ntmps68
  go_wp2_with (simp only [key])
  go_ret
  exact ⟨rfl, rfl⟩
theorem tz_any (x : Nat) (hx : x < 18446744073709551616) (hx0 : x ≠ 0) (w : World) (hT : TabQ w) :
    Calls Tryd.prog 68 #[.int .u64 x] w fun e w' => e = .returned (.int .i64 (Lib.ctz 64 x)) ∧ w' = w := by
  obtain ⟨hlow, hk⟩ := Lib.lowest_bit 64 x hx0 hx
  obtain ⟨hi, htab⟩ := Lib.deBruijn64_at _ hk
  have hcell := hT _ hi
  rw [htab] at hcell
  exact tz_core x _ _ w (by simp; omega) (tz64_key x _ hx hx0 hlow) hi hk hcell
/-- The lowest bit, on the word's bits. -/
theorem ctz_bits (x : Nat) (hx : x < 18446744073709551616) (hx0 : x ≠ 0) : ∃ k, Lib.ctz 64 x = k ∧ k < 64 ∧ x.testBit k = true ∧ (∀ j, j < k → x.testBit j = false) ∧ ∀ j, (x &&& (x - 1)).testBit j = (x.testBit j && !decide (j = k)) := by
  have e0 : Lib.ctz 64 x = Lib.ctzFrom 64 x := by unfold Lib.ctz; rw [if_neg hx0]
  obtain ⟨m, hm, hk⟩ := Lib.ctzFrom_spec 64 x (by omega) (by simpa using hx)
  rw [e0]
  generalize Lib.ctzFrom 64 x = k at hm hk
  have hp : 0 < 2 ^ k := Nat.two_pow_pos k
  have h1 : ∀ j, x.testBit j = if j < k then false else (2 * m + 1).testBit (j - k) := fun j => by
    have := Nat.testBit_two_pow_mul_add (2 * m + 1) hp j
    rw [Nat.add_zero, ← hm] at this
    rw [this]
    split
    · exact Nat.zero_testBit j
    · rfl
  have e2 : x - 1 = 2 ^ k * (2 * m) + (2 ^ k - 1) := by
    rw [hm, Nat.mul_add, Nat.mul_one]; omega
  have h2 : ∀ j, ¬ j < k → (x - 1).testBit j = (2 * m).testBit (j - k) := fun j hj => by
    rw [e2, Nat.testBit_two_pow_mul_add (2 * m) (by omega : 2 ^ k - 1 < 2 ^ k) j, if_neg hj]
  refine ⟨k, rfl, hk, ?_, fun j hj => ?_, fun j => ?_⟩
  · rw [h1, if_neg (by omega), Nat.sub_self, Nat.testBit_zero]
    exact decide_eq_true (by omega)
  · rw [h1, if_pos hj]
  · rw [Nat.testBit_and]
    by_cases hj : j < k
    · rw [h1, if_pos hj]; rfl
    · rw [h2 j hj, h1, if_neg hj]
      by_cases e : j = k
      · subst e
        rw [Nat.sub_self, Nat.testBit_zero, Nat.testBit_zero, decide_eq_false (by omega : ¬ 2 * m % 2 = 1)]
        simp
      · obtain ⟨d, hd⟩ : ∃ d, j - k = d + 1 := ⟨j - k - 1, by omega⟩
        rw [hd, Nat.testBit_succ, Nat.testBit_succ, show (2 * m + 1) / 2 = m by omega, show 2 * m / 2 = m by omega, decide_eq_false e]
        simp
theorem zero_bits {x : Nat} (h : x = 0) (j : Nat) : x.testBit j = false := by rw [h]; exact Nat.zero_testBit j
/-- What first gives back. -/
def FirstV (n : Nat) (f : Nat → Nat) (e : Ending) : Prop :=
  (e = .returned (.int .i64 (-1)) ∧ ∀ i, i < n * 64 → bitV f i = false) ∨ ∃ i : Nat, i < n * 64 ∧ e = .returned (.int .i64 i) ∧ bitV f i = true ∧ ∀ j, j < i → bitV f j = false
set_option maxHeartbeats 1600000 in
set_option maxRecDepth 100000 in
theorem first_any (b n cap : Nat) (f : Nat → Nat) (w : World) (hn : n ≤ 1048576) (hc : VecAt w b n f) (hT : TabQ w) :
    Calls Tryd.prog 41 #[.slice (some ⟨b, 0, none⟩) n cap] w fun e w' => FirstV n f e ∧ w' = w := by
  have HC := Lib.hid hc
  have HT := Lib.hid hT
  clear hc hT
  go_enter Tryd.func41, Tryd.ntmps41
  go_wp2_with fail
  go_loopw [7] (fun i wr => ∃ j : Nat, j ≤ n ∧ i = .int .i64 j ∧ Hid (∀ k, k < j → f k = 0) ∧ wr = w) (fun i _ => n - (intOf i).toNat)
  case atStart => exact ⟨0, Nat.zero_le _, rfl, fun k hk => by omega, rfl⟩
  case round =>
    obtain ⟨j, hj, rfl, HZ, rfl⟩ := hrel
    by_cases hlt : j < n
    rotate_left
    · have HF : Hid (FirstV n f (.returned (.int .i64 (-1)))) := Or.inl ⟨rfl, fun i hi => zero_bits (HZ.out _ (by omega)) _⟩
      go_wp2_with fail
      go_ret
      exact ⟨HF.out, rfl⟩
    obtain ⟨hx, h1⟩ := HC.out j hlt
    have i1 : (0 : Int) ≤ (j : Int) := by omega
    have i2 : (j : Int) < (n : Int) := by omega
    obtain ⟨x, hfx⟩ : ∃ x, f j = x := ⟨_, rfl⟩
    rw [hfx] at hx h1
    have HFX := Lib.hid hfx
    clear hfx
    by_cases h0 : x = 0
    · have q0 : ((x : Int) != 0) = false := by simp [h0]
      have HZ2 : Hid (∀ k, k < j + 1 → f k = 0) := by
        show ∀ _, _
        intro k hk
        by_cases e : k = j
        · rw [e, HFX.out, h0]
        · exact HZ.out k (by omega)
      clear h0
      go_wp2_with fail
      go_roundw
      case rel => exact ⟨j + 1, by omega, by go_num, HZ2, by first | rfl | trivial⟩
      case measure => simp [intOf]; omega
    · have q0 : ((x : Int) != 0) = true := by rw [bne_iff_ne]; omega
      obtain ⟨k, hk, hk6, hb1, hb2, _⟩ := ctz_bits x h1 h0
      have HTZ := Lib.hid (tz_any x h1 h0 wr HT.out)
      rw [hk] at HTZ
      have HF : Hid (FirstV n f (.returned (.int .i64 ((j * 64 + k : Nat) : Int)))) := by
        refine Or.inr ⟨j * 64 + k, by omega, rfl, ?_, fun i hi => ?_⟩
        · unfold bitV
          rw [show (j * 64 + k) / 64 = j by omega, show (j * 64 + k) % 64 = k by omega, HFX.out]; exact hb1
        · unfold bitV
          by_cases e : i / 64 = j
          · rw [e, HFX.out]; exact hb2 _ (by omega)
          · exact zero_bits (HZ.out _ (by omega)) _
      clear h0 hk hb1 hb2
      go_wp2_with (go_at_call 68; refine (HTZ.out).mono ?_; rintro e w3 ⟨he, hw⟩; subst he; have hw' := hw.symm; subst hw')
      have e3 : (j : Int) * 64 + (k : Int) = ((j * 64 + k : Nat) : Int) := by omega
      go_ret
      exact ⟨by first | exact HF.out | (rw [e3]; exact HF.out) | (have := HF.out; simpa using this), rfl⟩
end Go.Proofs.YtfbomoginjknlaaDoor
