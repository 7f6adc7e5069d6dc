import Derived.Test.YtbcpnepjojppaaaGreatDoorLawTheoryKeyxYrnd
namespace Go.Proofs.YtbcpnepjojppaaaGreatDoor
open Go.RowKit
set_option maxHeartbeats 1600000 in
set_option maxRecDepth 100000 in
theorem isDestructor_any (n : ByteArray) (w : World) (hT : TabY w) :
    Calls Tryz.prog 57 #[.string n] w fun e w' => e = .returned (.bool (kindS n == 3)) ∧ Ext w w' := by
  have HS := Lib.hid (symbolOf_any n w hT)
  have HV : Hid (symKd (symI n) = kindS n) := rfl
  rw [HV.out] at HS
  generalize kindS n = kd at HS ⊢
  obtain ⟨sn, hsn⟩ : ∃ x, symNm (symI n) = x := ⟨_, rfl⟩
  obtain ⟨lo, hlo⟩ : ∃ x, symLo (symI n) = x := ⟨_, rfl⟩
  obtain ⟨hi, hhi⟩ : ∃ x, symHi (symI n) = x := ⟨_, rfl⟩
  rw [hsn, hlo, hhi] at HS
  clear hT HV hsn hlo hhi
  go_enter Tryz.func57, Tryz.ntmps57
  go_wp2_with (go_at_call 86; refine (HS.out).mono ?_; rintro e w2 ⟨he, hX2⟩; subst he; have HX2 := Lib.hid hX2; clear hX2)
  go_ret
  exact ⟨rfl, HX2.out.alloc _⟩
def isApp (t : Tm) (n : ByteArray) : Bool := decide (t.kind = 3) && decide (t.name = n)
set_option maxHeartbeats 1600000 in
set_option maxRecDepth 100000 in
theorem applies_any (t : Tm) (nm : ByteArray) (b o : Nat) (w : World) (h : Lies w t b o) :
    Calls Tryz.prog 72 #[.pointer (some ⟨b, o, none⟩), .string nm] w fun e w' => e = .returned (.bool (isApp t nm)) ∧ w' = w := by
  obtain ⟨k, n, s, ks⟩ := t
  obtain ⟨c0, c1, c2, c3, g0, g1, g2, g3, hI⟩ := h
  simp only [Is] at hI
  obtain ⟨rfl, rfl, _⟩ := hI
  clear g2 g3
  have hV : isApp (.mk k n s ks) nm = (decide (k = 3) && decide (n = nm)) := rfl
  by_cases hk : k = 3
  · have q0 : (k == 3) = true := by rw [beq_iff_eq]; exact hk
    by_cases hn : n = nm
    · have q1 := sameStr hn
      have HV : Hid (isApp (.mk k n s ks) nm = true) := by show _ = _; rw [hV, decide_eq_true hk, decide_eq_true hn]; rfl
      clear hV hk hn
      go_enter Tryz.func72, Tryz.ntmps72
      go_wp2_with fail
      go_ret
      rw [HV.out]
      exact ⟨rfl, rfl⟩
    · have q1 := otherStr hn
      have HV : Hid (isApp (.mk k n s ks) nm = false) := by show _ = _; rw [hV, decide_eq_false hn, Bool.and_false]
      clear hV hk hn
      go_enter Tryz.func72, Tryz.ntmps72
      go_wp2_with fail
      go_ret
      rw [HV.out]
      exact ⟨rfl, rfl⟩
  · have q0 : (k == 3) = false := by rw [beq_eq_false_iff_ne]; exact hk
    have HV : Hid (isApp (.mk k n s ks) nm = false) := by show _ = _; rw [hV, decide_eq_false hk, Bool.false_and]
    clear hV hk
    go_enter Tryz.func72, Tryz.ntmps72
    go_wp2_with fail
    go_ret
    rw [HV.out]
    exact ⟨rfl, rfl⟩
end Go.Proofs.YtbcpnepjojppaaaGreatDoor
namespace Go.Proofs.YtbcpnepjojppaaaGreatDoor
open Go.RowKit
mutual
/-- A term applies a symbol of which p is so. -/
def hasT (p : ByteArray → Bool) : Tm → Bool
  | .mk k n _ ks => (decide (k = 3) && p n) || hasL p ks
def hasL (p : ByteArray → Bool) : List Tm → Bool
  | [] => false
  | t :: ts => hasT p t || hasL p ts
end
def isDes (n : ByteArray) : Bool := kindS n == 3
theorem hasT_mk (p : ByteArray → Bool) (k : Int) (n : ByteArray) (s : Int) (ks : List Tm) : hasT p (.mk k n s ks) = ((decide (k = 3) && p n) || hasL p ks) := by rw [hasT]
theorem hasL_drop (p : ByteArray → Bool) (l : List Tm) (j : Nat) (h : j < l.length) : hasL p (l.drop j) = (hasT p l[j] || hasL p (l.drop (j + 1))) := by
  rw [List.drop_eq_getElem_cons h, hasL]
set_option maxHeartbeats 3200000 in
set_option maxRecDepth 100000 in
theorem hasD_any (m : Nat) : ∀ (t : Tm) (b o : Nat) (w : World), size t ≤ m → m ≤ 1073741824 → Lies w t b o → TabY w →
    Calls Tryz.prog 56 #[.pointer (some ⟨b, o, none⟩), .func (.func 57) #[] #[]] w fun e w' => e = .returned (.bool (hasT isDes t)) ∧ Ext w w' := by
  induction m with
  | zero => intro t b o w h; have := size_pos t; omega
  | succ m ih =>
    intro t b o w hm hM hL hT
    obtain ⟨k, n, s, ks⟩ := t
    have hsk : size (.mk k n s ks) = 1 + sizes ks := rfl
    rw [hsk] at hm
    have hE := hasT_mk isDes k n s ks
    have HN : Hid (Calls Tryz.prog 57 #[.string n] w fun e w' => e = .returned (.bool (isDes n)) ∧ Ext w w') := isDestructor_any n w hT
    obtain ⟨g0, g1, _, _, _, _, hkl, xa, cap, g3, hcap, hR⟩ := Lies_mk hL
    unfold maxLen at hkl
    have hkl2 := length_le_sizes ks
    have HR := Lib.hid hR
    have HT := Lib.hid hT
    have HG := Lib.hid g3
    have HIH := Lib.hid ih
    clear hR hsk ih hL hT hcap
    by_cases hk : k = 3
    rotate_left
    · have H : Hid (hasT isDes (.mk k n s ks) = hasL isDes ks) := by show _ = _; rw [hE, decide_eq_false hk]; rfl
      have q0 : (k == 3) = false := by rw [beq_eq_false_iff_ne]; exact hk
      clear hE hk
      go_enter Tryz.func56, Tryz.ntmps56
      go_wp2_with fail
      clear g3
      go_loopw [24] (fun i wr => ∃ j : Nat, j ≤ ks.length ∧ i = .int .i64 j ∧ Hid (hasT isDes (.mk k n s ks) = hasL isDes (ks.drop j)) ∧ Hid (Ext w wr)) (fun i _ => ks.length - (intOf i).toNat)
      case atStart => exact ⟨0, Nat.zero_le _, rfl, H, Ext.refl _⟩
      case round =>
        obtain ⟨j, hj, rfl, HJ, HEr⟩ := hrel
        by_cases hlt : j < ks.length
        rotate_left
        · have hd : ks.drop j = [] := List.drop_eq_nil_of_le (by omega)
          have H0 : Hid (hasT isDes (.mk k n s ks) = false) := by show _ = _; rw [HJ.out, hd]; rfl
          clear hd
          go_wp2_with fail
          go_ret
          rw [H0.out]
          exact ⟨rfl, HEr.out⟩
        have hst := hasL_drop isDes ks j hlt
        have hsz : size ks[j] ≤ sizes ks := size_le_sizes (List.getElem_mem hlt)
        obtain ⟨kb, ko, rfl⟩ := Row_at HR.out (by omega)
        have HC := Lib.hid (HIH.out ks[j] kb (ko + j * 4) wr (by omega) (by omega) (Lies_carry (keep_below HEr.out) (Row_get HR.out j hlt)) (HT.out.ext HEr.out))
        have z3 := keep_below HEr.out _ _ HG.out
        have i1 : (0 : Int) ≤ (j : Int) := by omega
        have i2 : (j : Int) < (ks.length : Int) := by omega
        cases hy : hasT isDes ks[j]
        · have HJ2 : Hid (hasT isDes (.mk k n s ks) = hasL isDes (ks.drop (j + 1))) := by show _ = _; rw [HJ.out, hst, hy]; rfl
          rw [hy] at HC
          clear hst hsz hy
          go_wp2_with (go_at_call 56; refine (HC.out).mono ?_; rintro e w9 ⟨he, hX⟩; subst he; have HX9 := Lib.hid (Ext.trans HEr.out hX); clear hX)
          go_roundw
          case rel => exact ⟨j + 1, by omega, by go_num, HJ2, HX9⟩
          case measure => simp [intOf]; omega
        · have HJ2 : Hid (hasT isDes (.mk k n s ks) = true) := by show _ = _; rw [HJ.out, hst, hy]; rfl
          rw [hy] at HC
          clear hst hsz hy
          go_wp2_with (go_at_call 56; refine (HC.out).mono ?_; rintro e w9 ⟨he, hX⟩; subst he; have HX9 := Lib.hid (Ext.trans HEr.out hX); clear hX)
          go_ret
          rw [HJ2.out]
          exact ⟨rfl, HX9.out⟩
    have q0 : (k == 3) = true := by rw [beq_iff_eq]; exact hk
    cases hq : (isDes n)
    rotate_left
    · have H : Hid (hasT isDes (.mk k n s ks) = true) := by show _ = _; rw [hE, decide_eq_true hk, hq]; rfl
      rw [hq] at HN
      clear hE hk hq
      go_enter Tryz.func56, Tryz.ntmps56
      go_wp2_with (go_at_call 57; refine (HN.out).mono ?_; rintro e w1 ⟨he, hX⟩; subst he; have HX := Lib.hid hX; clear hX)
      go_ret
      rw [H.out]
      exact ⟨rfl, HX.out⟩
    have H : Hid (hasT isDes (.mk k n s ks) = hasL isDes ks) := by show _ = _; rw [hE, decide_eq_true hk, hq]; rfl
    rw [hq] at HN
    clear hE hk hq g3
    go_enter Tryz.func56, Tryz.ntmps56
    go_wp2_with (go_at_call 57; refine (HN.out).mono ?_; rintro e w1 ⟨he, hX⟩; subst he; have HX := Lib.hid hX; have y3 := keep_below hX _ _ HG.out; clear hX)
    clear y3
    go_loopw [24] (fun i wr => ∃ j : Nat, j ≤ ks.length ∧ i = .int .i64 j ∧ Hid (hasT isDes (.mk k n s ks) = hasL isDes (ks.drop j)) ∧ Hid (Ext w wr)) (fun i _ => ks.length - (intOf i).toNat)
    case atStart => exact ⟨0, Nat.zero_le _, rfl, H, HX⟩
    case round =>
      obtain ⟨j, hj, rfl, HJ, HEr⟩ := hrel
      by_cases hlt : j < ks.length
      rotate_left
      · have hd : ks.drop j = [] := List.drop_eq_nil_of_le (by omega)
        have H0 : Hid (hasT isDes (.mk k n s ks) = false) := by show _ = _; rw [HJ.out, hd]; rfl
        clear hd
        go_wp2_with fail
        go_ret
        rw [H0.out]
        exact ⟨rfl, HEr.out⟩
      have hst := hasL_drop isDes ks j hlt
      have hsz : size ks[j] ≤ sizes ks := size_le_sizes (List.getElem_mem hlt)
      obtain ⟨kb, ko, rfl⟩ := Row_at HR.out (by omega)
      have HC := Lib.hid (HIH.out ks[j] kb (ko + j * 4) wr (by omega) (by omega) (Lies_carry (keep_below HEr.out) (Row_get HR.out j hlt)) (HT.out.ext HEr.out))
      have z3 := keep_below HEr.out _ _ HG.out
      have i1 : (0 : Int) ≤ (j : Int) := by omega
      have i2 : (j : Int) < (ks.length : Int) := by omega
      cases hy : hasT isDes ks[j]
      · have HJ2 : Hid (hasT isDes (.mk k n s ks) = hasL isDes (ks.drop (j + 1))) := by show _ = _; rw [HJ.out, hst, hy]; rfl
        rw [hy] at HC
        clear hst hsz hy
        go_wp2_with (go_at_call 56; refine (HC.out).mono ?_; rintro e w9 ⟨he, hX⟩; subst he; have HX9 := Lib.hid (Ext.trans HEr.out hX); clear hX)
        go_roundw
        case rel => exact ⟨j + 1, by omega, by go_num, HJ2, HX9⟩
        case measure => simp [intOf]; omega
      · have HJ2 : Hid (hasT isDes (.mk k n s ks) = true) := by show _ = _; rw [HJ.out, hst, hy]; rfl
        rw [hy] at HC
        clear hst hsz hy
        go_wp2_with (go_at_call 56; refine (HC.out).mono ?_; rintro e w9 ⟨he, hX⟩; subst he; have HX9 := Lib.hid (Ext.trans HEr.out hX); clear hX)
        go_ret
        rw [HJ2.out]
        exact ⟨rfl, HX9.out⟩
end Go.Proofs.YtbcpnepjojppaaaGreatDoor
namespace Go.Proofs.YtbcpnepjojppaaaGreatDoor
open Go.RowKit
end Go.Proofs.YtbcpnepjojppaaaGreatDoor
