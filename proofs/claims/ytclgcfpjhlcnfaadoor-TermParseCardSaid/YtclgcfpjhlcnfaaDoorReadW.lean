/-
  THE WALKS OF the reference's name and leaf.
-/
import Derived.Test.YtclgcfpjhlcnfaaDoorReadP
import Derived.Test.YtclgcfpjhlcnfaaDoorRname
namespace Go.Proofs.YtclgcfpjhlcnfaaDoor
open Go.RowKit

theorem tail_is : ∀ (l : List UInt8) (k : Nat), k ≤ l.length → (l.take k).all nameByte = true → (∀ h : k < l.length, nameByte l[k] = false) → tailLen l = k
  | [], k, h, _, _ => by simp at h; subst h; rfl
  | c :: l, 0, _, _, h => by
    have := h (by simp)
    simp only [List.getElem_cons_zero, nameByte, Bool.or_eq_false_iff] at this
    simp [tailLen, this.1, this.2]
  | c :: l, k + 1, h, ha, hb => by
    simp only [List.take_succ_cons, List.all_cons, Bool.and_eq_true] at ha
    have ih := tail_is l k (by simp at h; omega) ha.2 (fun hk => by have := hb (by simp; omega); simpa using this)
    have hc : (letterI c.toNat || laterI c.toNat) = true := ha.1
    simp only [tailLen]
    by_cases h1 : letterI c.toNat = true
    · rw [if_pos h1, ih]; omega
    · rw [if_neg h1, if_pos (by simpa [h1] using hc), ih]; omega

set_option maxHeartbeats 1600000 in
set_option maxRecDepth 100000 in
theorem rname_any (s : ByteArray) (w : World) (hs : s.size ≤ maxLen) :
    Calls Tryd.prog 83 #[.string s] w fun e w' => e = .returned (.string (nameAny s)) ∧ w = w' := by
  have hsz : s.data.toList.length = s.size := by simp
  unfold maxLen at hs
  have HT : Hid (∀ k : Nat, k ≤ s.size → (s.data.toList.take k).all nameByte = true → (∀ h : k < s.data.toList.length, nameByte s.data.toList[k] = false) → nameAny s = s.extract 0 k) := fun k hk h1 h2 => by
    unfold nameAny; rw [tail_is _ k (by omega) h1 h2]
  have hEx : ∀ k : Nat, (s.size : Int) ≤ 9223372036854775807 := fun _ => by omega
  go_enter Tryd.func83, Tryd.ntmps83
  go_wp2_with fail
  go_loop [3] (fun i => ∃ k : Nat, k ≤ s.size ∧ i = .int .i64 k ∧ Hid ((s.data.toList.take k).all nameByte = true)) (fun i => s.size - (intOf i).toNat)
  case atStart => exact ⟨0, Nat.zero_le _, rfl, by show _ = _; simp⟩
  case round =>
    obtain ⟨k, hk, rfl, HA⟩ := hrel
    have hki : (k : Int) ≤ (s.size : Int) := by omega
    by_cases hlt : k < s.size
    rotate_left
    · have H : Hid (nameAny s = s.extract 0 k) := HT.out k hk HA.out (fun h => by omega)
      go_wp2_with fail
      go_ret
      exact ⟨by rw [H.out]; rfl, rfl⟩
    have hkl : k < s.data.toList.length := by omega
    have HST := Lib.hid (all_take hkl)
    have HNO : Hid (nameByte s[k] = false → nameAny s = s.extract 0 k) := fun h => HT.out k hk HA.out (fun _ => h)
    have HL := Lib.hid (rletter_any (s[k].toNat : Int) w)
    have HD := Lib.hid (rdigit_any (s[k].toNat : Int) w)
    have e0 : s.data.toList[k] = s[k] := rfl
    rw [e0] at HST
    have hnb : nameByte s[k] = (letterI s[k].toNat || laterI s[k].toNat) := rfl
    have hdl : digitI s[k].toNat = true → laterI s[k].toNat = true := by intro h; simp [digitI, laterI] at *; omega
    have h95 : (s[k].toNat : Int) = 95 → laterI s[k].toNat = true := by intro h; simp [laterI]; omega
    have h35 : (s[k].toNat : Int) = 35 → laterI s[k].toNat = true := by intro h; simp [laterI]; omega
    have hno : digitI s[k].toNat = false → ¬ (s[k].toNat : Int) = 95 → ¬ (s[k].toNat : Int) = 35 → laterI s[k].toNat = false := by intro h a b; simp [digitI, laterI] at *; omega
    generalize nameByte s[k] = nb at hnb HST HNO
    have HNX : Hid (nb = true → (s.data.toList.take (k + 1)).all nameByte = true) := fun h => by rw [HST.out, HA.out, h]; rfl
    by_cases hL : letterI (s[k].toNat : Int) = true
    · have HA2 : Hid ((s.data.toList.take (k + 1)).all nameByte = true) := HNX.out (by rw [hnb, hL]; rfl)
      rw [hL] at HL
      clear hnb hdl h95 h35 hno hL e0
      go_wp2_with (first
          | (go_at_call 115; refine (HL.out).mono ?_; rintro e w' ⟨rfl, rfl⟩)
          | (go_at_call 116; refine (HD.out).mono ?_; rintro e w' ⟨rfl, rfl⟩))
      go_round
      case rel => exact ⟨k + 1, by omega, by go_num, HA2⟩
      case measure => simp [intOf]; omega
    have hL' : letterI (s[k].toNat : Int) = false := by simpa using hL
    rw [hL'] at HL
    by_cases hD : digitI (s[k].toNat : Int) = true
    · have HA2 : Hid ((s.data.toList.take (k + 1)).all nameByte = true) := HNX.out (by rw [hnb, hdl hD]; simp)
      rw [hD] at HD
      clear hnb hdl h95 h35 hno hL hL' hD e0
      go_wp2_with (first
          | (go_at_call 115; refine (HL.out).mono ?_; rintro e w' ⟨rfl, rfl⟩)
          | (go_at_call 116; refine (HD.out).mono ?_; rintro e w' ⟨rfl, rfl⟩))
      go_round
      case rel => exact ⟨k + 1, by omega, by go_num, HA2⟩
      case measure => simp [intOf]; omega
    have hD' : digitI (s[k].toNat : Int) = false := by simpa using hD
    rw [hD'] at HD
    by_cases hx : (s[k].toNat : Int) = 95
    · have HA2 : Hid ((s.data.toList.take (k + 1)).all nameByte = true) := HNX.out (by rw [hnb, h95 hx]; simp)
      have hb1 : ((s[k].toNat : Int) == 95) = true := by simp [hx]
      clear hnb hdl h95 h35 hno hL hL' hD hD' hx e0
      go_wp2_with (first
          | (go_at_call 115; refine (HL.out).mono ?_; rintro e w' ⟨rfl, rfl⟩)
          | (go_at_call 116; refine (HD.out).mono ?_; rintro e w' ⟨rfl, rfl⟩))
      go_round
      case rel => exact ⟨k + 1, by omega, by go_num, HA2⟩
      case measure => simp [intOf]; omega
    have hb1 : ((s[k].toNat : Int) == 95) = false := by simp [hx]
    by_cases hy : (s[k].toNat : Int) = 35
    · have HA2 : Hid ((s.data.toList.take (k + 1)).all nameByte = true) := HNX.out (by rw [hnb, h35 hy]; simp)
      have hb2 : ((s[k].toNat : Int) == 35) = true := by simp [hy]
      clear hnb hdl h95 h35 hno hL hL' hD hD' hx hy e0
      go_wp2_with (first
          | (go_at_call 115; refine (HL.out).mono ?_; rintro e w' ⟨rfl, rfl⟩)
          | (go_at_call 116; refine (HD.out).mono ?_; rintro e w' ⟨rfl, rfl⟩))
      go_round
      case rel => exact ⟨k + 1, by omega, by go_num, HA2⟩
      case measure => simp [intOf]; omega
    have hb2 : ((s[k].toNat : Int) == 35) = false := by simp [hy]
    have H : Hid (nameAny s = s.extract 0 k) := HNO.out (by rw [hnb, hL', hno hD' hx hy]; rfl)
    clear hnb hdl h95 h35 hno hL hL' hD hD' hx hy e0
    go_wp2_with (first
          | (go_at_call 115; refine (HL.out).mono ?_; rintro e w' ⟨rfl, rfl⟩)
          | (go_at_call 116; refine (HD.out).mono ?_; rintro e w' ⟨rfl, rfl⟩))
    go_ret
    exact ⟨by rw [H.out]; rfl, rfl⟩
end Go.Proofs.YtclgcfpjhlcnfaaDoor
