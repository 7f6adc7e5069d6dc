import Derived.BigQuiet
import Derived.Test.YtbcpnepjojppaaaGreatDoorLawTheoryKeyxFind
import Derived.Test.YtbcpnepjojppaaaGreatDoorLawTheoryKeyxYtab
namespace Go.Proofs.YtbcpnepjojppaaaGreatDoor
open Go.RowKit
theorem sameStr {a b : ByteArray} (h : a = b) : (a.toList == b.toList) = true := by rw [h]; simp
theorem otherStr {a b : ByteArray} (h : ¬ a = b) : (a.toList == b.toList) = false := by
  rw [beq_eq_false_iff_ne]; intro e; exact h (ByteArray.ext (Array.toList_inj.1 (by simpa only [Lib.toList_data] using e)))
set_option maxHeartbeats 1600000 in
set_option maxRecDepth 100000 in
theorem symbolOf_any (nm : ByteArray) (w : World) (hT : TabY w) :
    Calls Tryz.prog 86 #[.string nm] w fun e w' => e = .returned (.tuple #[.agg #[.string (symNm (symI nm)), .int .i64 (symLo (symI nm)), .int .i64 (symHi (symI nm)), .int .i64 (symKd (symI nm))], .bool (decide (symI nm < 21))]) ∧ Ext w w' := by
  have hX : Ext w (w.alloc (.cells #[.string ⟨#[]⟩, .int .i64 0, .int .i64 0, .int .i64 0] 48)) := (Ext.refl w).alloc _
  have HT := Lib.hid (hT.ext hX)
  have HX := Lib.hid hX
  clear hT hX
  go_enter Tryz.func86, Tryz.ntmps86
  go_wp2_with fail
  go_loopw [5] (fun i wr => ∃ j : Nat, j ≤ 21 ∧ i = .int .i64 j ∧ Hid (∀ k, k < j → symNm k ≠ nm) ∧ wr = w.alloc (.cells #[.string ⟨#[]⟩, .int .i64 0, .int .i64 0, .int .i64 0] 48)) (fun i _ => 21 - (intOf i).toNat)
  case atStart => exact ⟨0, Nat.zero_le _, rfl, fun k hk => by omega, rfl⟩
  case round =>
    obtain ⟨j, hj, rfl, HZ, rfl⟩ := hrel
    by_cases hlt : j < 21
    rotate_left
    · have hz := HZ.out
      obtain rfl : j = 21 := by omega
      have hi : symI nm = 21 := symI_is (Nat.le_refl _) hz (fun h => absurd h (by omega))
      go_wp2_with fail
      refine bodyPost_ret (v := .tuple #[.agg #[.string ⟨#[]⟩, .int .i64 0, .int .i64 0, .int .i64 0], .bool false]) (by simp [results, Tryz.results86, go_sem]) rfl ?_
      rw [hi]
      exact ⟨rfl, HX.out⟩
    obtain ⟨c0, c1, c2, c3⟩ := HT.out j hlt
    obtain ⟨sn, hsn⟩ : ∃ x, symNm j = x := ⟨_, rfl⟩
    obtain ⟨sl, hsl⟩ : ∃ x, symLo j = x := ⟨_, rfl⟩
    obtain ⟨sh, hsh⟩ : ∃ x, symHi j = x := ⟨_, rfl⟩
    obtain ⟨sk, hsk⟩ : ∃ x, symKd j = x := ⟨_, rfl⟩
    rw [hsn] at c0
    rw [hsl] at c1
    rw [hsh] at c2
    rw [hsk] at c3
    have i1 : (0 : Int) ≤ (j : Int) := by omega
    have i2 : (j : Int) < 21 := by omega
    by_cases he : sn = nm
    · have hi : symI nm = j := symI_is hj HZ.out (fun _ => hsn.trans he)
      have q0 := sameStr he
      have HI := Lib.hid hi
      have HS := Lib.hid (And.intro hsn (And.intro hsl (And.intro hsh (And.intro hsk he))))
      clear hi hsn hsl hsh hsk he
      go_wp2_with fail
      refine bodyPost_ret (v := .tuple #[.agg #[.string sn, .int .i64 sl, .int .i64 sh, .int .i64 sk], .bool true]) (by simp [results, Tryz.results86, go_sem]) rfl ?_
      obtain ⟨e1, e2, e3, e4, _⟩ := HS.out
      rw [HI.out, e1, e2, e3, e4, decide_eq_true hlt]
      exact ⟨rfl, (Ext.refl w).alloc _⟩
    · have q0 := otherStr he
      have HZ2 : Hid (∀ k, k < j + 1 → symNm k ≠ nm) := by
        show ∀ _, _
        intro k hk
        by_cases e : k = j
        · rw [e, hsn]; exact he
        · exact HZ.out k (by omega)
      clear hsn hsl hsh hsk he
      go_wp2_with fail
      refine ⟨⟨j + 1, by omega, by go_num, HZ2, by first | rfl | trivial⟩, ?_⟩
      simp [intOf]; omega
def noKid : Tm := .mk 0 ⟨#[]⟩ 0 []
def kidT (ks : List Tm) (i : Nat) : Tm := ks.getD i noKid
theorem kidT_eq {ks : List Tm} {i : Nat} (h : i < ks.length) : kidT ks i = ks[i] := by
  unfold kidT; rw [List.getD_eq_getElem?_getD, List.getElem?_eq_getElem h]; rfl
def agT (t : Tm) : Bool := decide (t.kind ≠ 3) && decide (t.sort = 1)
def nSk : ByteArray := ⟨#[115, 107]⟩
def nShk : ByteArray := ⟨#[115, 104, 107]⟩
def nNew : ByteArray := ⟨#[110, 101, 119]⟩
def rightK (n : ByteArray) (ks : List Tm) : Bool :=
  if n = nSk then agT (kidT ks 0) else if n = nShk then agT (kidT ks 0) && agT (kidT ks 1) else if n = nNew then decide ((kidT ks 0).kind = 2) else true
set_option maxHeartbeats 1600000 in
set_option maxRecDepth 100000 in
theorem isAgent_any (t : Tm) (b o : Nat) (w : World) (h : Lies w t b o) :
    Calls Tryz.prog 138 #[.pointer (some ⟨b, o, none⟩)] w fun e w' => e = .returned (.bool (agT t)) ∧ w' = w := by
  obtain ⟨k, n, s, ks⟩ := t
  obtain ⟨c0, c1, c2, c3, g0, g1, g2, g3, hI⟩ := h
  simp only [Is] at hI
  obtain ⟨rfl, _, rfl, _⟩ := hI
  have HA : Hid (agT (.mk k n s ks) = (decide (k ≠ 3) && decide (s = 1))) := rfl
  clear g1 g3
  by_cases hk : k = 3
  · subst hk
    have HV : Hid (agT (.mk 3 n s ks) = false) := by show _ = _; rw [HA.out]; rfl
    go_enter Tryz.func138, Tryz.ntmps138
    go_wp2_with fail
    go_ret
    rw [HV.out]
    exact ⟨rfl, rfl⟩
  · have q0 : (k != 3) = true := by rw [bne_iff_ne]; exact hk
    have HV : Hid (agT (.mk k n s ks) = (s == 1)) := by show _ = _; rw [HA.out, decide_eq_true hk]; rfl
    clear hk
    go_enter Tryz.func138, Tryz.ntmps138
    go_wp2_with fail
    go_ret
    rw [HV.out]
    exact ⟨rfl, rfl⟩
theorem strIs (n : ByteArray) (l : List UInt8) : (n.toList == l) = decide (n = ⟨l.toArray⟩) := by
  by_cases h : n = ⟨l.toArray⟩
  · rw [decide_eq_true h, h, Lib.toList_data]; simp
  · rw [decide_eq_false h, beq_eq_false_iff_ne]
    intro e
    apply h
    rw [← e, Lib.toList_data]
def kidsPre (n : ByteArray) (ks : List Tm) : Prop := (n = nSk → 1 ≤ ks.length) ∧ (n = nShk → 2 ≤ ks.length) ∧ (n = nNew → 1 ≤ ks.length)
theorem kidsPre_of {n : ByteArray} {ks : List Tm} (h : symLo (symI n) ≤ ks.length) : kidsPre n ks := by
  have e1 : symLo (symI nSk) = 1 := by kernel_rfl
  have e2 : symLo (symI nShk) = 2 := by kernel_rfl
  have e3 : symLo (symI nNew) = 1 := by kernel_rfl
  refine ⟨?_, ?_, ?_⟩ <;> (rintro rfl; omega)
set_option maxHeartbeats 3200000 in
set_option maxRecDepth 100000 in
theorem hasRightKids_any (t : Tm) (b o : Nat) (w : World) (h : Lies w t b o) (hp : kidsPre t.name t.kids) :
    Calls Tryz.prog 107 #[.pointer (some ⟨b, o, none⟩)] w fun e w' => e = .returned (.bool (rightK t.name t.kids)) ∧ w' = w := by
  obtain ⟨k, n, s, ks⟩ := t
  obtain ⟨c0, c1, c2, c3, g0, g1, g2, g3, hI⟩ := h
  simp only [Is] at hI
  obtain ⟨rfl, rfl, rfl, _, _, _, _, xa, cap, rfl, hcap, hR⟩ := hI
  simp only [Tm.name, Tm.kids] at hp ⊢
  have HP := Lib.hid hp
  have HR := Lib.hid hR
  clear hp hR g0 g2
  have HK0 : Hid (0 < ks.length → ∃ b' o', xa = some ⟨b', o', none⟩ ∧ Lies w (kidT ks 0) b' o' ∧ (1 < ks.length → Lies w (kidT ks 1) b' (o' + 4))) := by
    show _ → _
    intro h0
    obtain ⟨b', o', e⟩ := Row_at HR.out h0
    have hr := HR.out
    rw [e] at hr
    have r0 := Row_get hr 0 h0
    refine ⟨b', o', e, by rw [kidT_eq h0]; simpa using r0, fun h1 => ?_⟩
    have r1 := Row_get hr 1 h1
    rw [kidT_eq h1]; simpa using r1
  by_cases h1 : n = nSk
  · have q1 : (n.toList == [115, 107]) = true := by rw [strIs]; exact decide_eq_true h1
    have HV : Hid (rightK n ks = agT (kidT ks 0)) := by show _ = _; unfold rightK; rw [if_pos h1]
    have hl := HP.out.1 h1
    have i0 : (0 : Int) < (ks.length : Int) := by omega
    obtain ⟨b', o', rfl, hL0, _⟩ := HK0.out hl
    have HA := Lib.hid (isAgent_any _ _ _ _ hL0)
    clear h1 hL0 hcap
    go_enter Tryz.func107, Tryz.ntmps107
    go_wp2_with (go_at_call 138; refine (HA.out).mono ?_; rintro e w3 ⟨he, hw⟩; subst he; have hw' := hw.symm; subst hw')
    go_ret
    rw [HV.out]
    exact ⟨rfl, rfl⟩
  have q1 : (n.toList == [115, 107]) = false := by rw [strIs]; exact decide_eq_false h1
  by_cases h2 : n = nShk
  · have q2 : (n.toList == [115, 104, 107]) = true := by rw [strIs]; exact decide_eq_true h2
    have HV : Hid (rightK n ks = (agT (kidT ks 0) && agT (kidT ks 1))) := by show _ = _; unfold rightK; rw [if_neg h1, if_pos h2]
    have hl := HP.out.2.1 h2
    have i0 : (0 : Int) < (ks.length : Int) := by omega
    have i1 : (1 : Int) < (ks.length : Int) := by omega
    obtain ⟨b', o', rfl, hL0, hL1⟩ := HK0.out (by omega)
    have HA := Lib.hid (isAgent_any _ _ _ _ hL0)
    have HB := Lib.hid (isAgent_any _ _ _ _ (hL1 (by omega)))
    clear h1 h2 hL0 hL1 hcap
    cases ha : agT (kidT ks 0)
    · rw [ha] at HA HV
      clear ha
      go_enter Tryz.func107, Tryz.ntmps107
      go_wp2_with (go_at_call 138; refine (HA.out).mono ?_; rintro e w3 ⟨he, hw⟩; subst he; have hw' := hw.symm; subst hw')
      go_ret
      rw [HV.out]
      exact ⟨rfl, rfl⟩
    · rw [ha] at HA HV
      clear ha
      go_enter Tryz.func107, Tryz.ntmps107
      go_wp2_with fail
      go_at_call 138
      refine (HA.out).mono ?_
      rintro e w3 ⟨he, hw⟩
      subst he
      have hw' := hw.symm
      subst hw'
      clear HA
      go_wp2_with fail
      go_at_call 138
      refine (HB.out).mono ?_
      rintro e w4 ⟨he, hw⟩
      subst he
      have hw' := hw.symm
      subst hw'
      go_wp2_with fail
      go_ret
      rw [HV.out]
      exact ⟨rfl, rfl⟩
  have q2 : (n.toList == [115, 104, 107]) = false := by rw [strIs]; exact decide_eq_false h2
  by_cases h3 : n = nNew
  · have q3 : (n.toList == [110, 101, 119]) = true := by rw [strIs]; exact decide_eq_true h3
    have hl := HP.out.2.2 h3
    have i0 : (0 : Int) < (ks.length : Int) := by omega
    obtain ⟨b', o', rfl, hL0, _⟩ := HK0.out hl
    obtain ⟨kk, kn, ksn, kks, hkt⟩ : ∃ a b c d, kidT ks 0 = .mk a b c d := by
      generalize kidT ks 0 = u; cases u; exact ⟨_, _, _, _, rfl⟩
    rw [hkt] at hL0
    have HV : Hid (rightK n ks = (kk == 2)) := by show _ = _; unfold rightK; rw [if_neg h1, if_neg h2, if_pos h3, hkt]; rfl
    obtain ⟨d0, d1, d2, d3, y0, _, _, _, hJ⟩ := hL0
    simp only [Is] at hJ
    obtain ⟨rfl, _⟩ := hJ
    clear h1 h2 h3 hcap hkt
    go_enter Tryz.func107, Tryz.ntmps107
    go_wp2_with fail
    go_ret
    rw [HV.out]
    exact ⟨rfl, rfl⟩
  · have q3 : (n.toList == [110, 101, 119]) = false := by rw [strIs]; exact decide_eq_false h3
    have HV : Hid (rightK n ks = true) := by show _ = _; unfold rightK; rw [if_neg h1, if_neg h2, if_neg h3]
    clear h1 h2 h3 hcap
    go_enter Tryz.func107, Tryz.ntmps107
    go_wp2_with fail
    go_ret
    rw [HV.out]
    exact ⟨rfl, rfl⟩
def ynodeE (n : ByteArray) (ks : List Tm) : Int :=
  if symI n < 21 then (if (ks.length : Int) < symLo (symI n) then 6 else if symHi (symI n) < (ks.length : Int) then 6 else if rightK n ks then 0 else 10) else 10
set_option maxHeartbeats 3200000 in
set_option maxRecDepth 100000 in
theorem nodeError_any (t : Tm) (b o : Nat) (w : World) (h : Lies w t b o) (hT : TabY w) :
    Calls Tryz.prog 81 #[.pointer (some ⟨b, o, none⟩)] w fun e w' => e = .returned (.int .i64 (ynodeE t.name t.kids)) ∧ Ext w w' := by
  obtain ⟨k, n, s, ks⟩ := t
  have HL := Lib.hid h
  have HS := Lib.hid (symbolOf_any n w hT)
  have HR : Hid (∀ W, Ext w W → kidsPre n ks → Calls Tryz.prog 107 #[.pointer (some ⟨b, o, none⟩)] W fun e w' => e = .returned (.bool (rightK n ks)) ∧ w' = W) := fun W hX hp => hasRightKids_any (.mk k n s ks) b o W (Lies_carry (keep_below hX) HL.out) hp
  simp only [Tm.name, Tm.kids]
  clear hT HL
  obtain ⟨c0, c1, c2, c3, g0, g1, g2, g3, hI⟩ := h
  simp only [Is] at hI
  obtain ⟨rfl, rfl, rfl, _, _, _, _, xa, cap, rfl, hcap, _⟩ := hI
  clear g0 g2
  have HG := Lib.hid g3
  by_cases hf : symI n < 21
  rotate_left
  · have HV : Hid (ynodeE n ks = 10) := by show _ = _; unfold ynodeE; rw [if_neg hf]
    rw [decide_eq_false hf] at HS
    clear hf hcap g3
    go_enter Tryz.func81, Tryz.ntmps81
    go_wp2_with (go_at_call 86; refine (HS.out).mono ?_; rintro e w2 ⟨he, hX2⟩; subst he; have HX2 := Lib.hid hX2; clear hX2)
    go_ret
    rw [HV.out]
    exact ⟨rfl, (HX2.out).alloc _⟩
  rw [decide_eq_true hf] at HS
  have HF := Lib.hid hf
  obtain ⟨sn, hsn⟩ : ∃ x, symNm (symI n) = x := ⟨_, rfl⟩
  obtain ⟨lo, hlo⟩ : ∃ x, symLo (symI n) = x := ⟨_, rfl⟩
  obtain ⟨hi, hhi⟩ : ∃ x, symHi (symI n) = x := ⟨_, rfl⟩
  obtain ⟨kd, hkd⟩ : ∃ x, symKd (symI n) = x := ⟨_, rfl⟩
  rw [hsn, hlo, hhi, hkd] at HS
  have HLO := Lib.hid hlo
  have HHI := Lib.hid hhi
  clear hf hsn hlo hhi hkd hcap g3
  by_cases hl : (ks.length : Int) < lo
  · have HV : Hid (ynodeE n ks = 6) := by show _ = _; unfold ynodeE; rw [if_pos HF.out, HLO.out, if_pos hl]
    have q0 := decide_eq_true hl
    clear hl
    go_enter Tryz.func81, Tryz.ntmps81
    go_wp2_with (go_at_call 86; refine (HS.out).mono ?_; rintro e w2 ⟨he, hX2⟩; subst he; have HX2 := Lib.hid hX2; have y3 := keep_below (hX2.alloc (.cells #[.string sn, .int .i64 lo, .int .i64 hi, .int .i64 kd] 48)) _ _ HG.out; clear hX2)
    go_quiet (fail)
    go_wp2_with fail
    go_ret
    rw [HV.out]
    exact ⟨rfl, below_drewN (HX2.out.alloc _) _⟩
  have q0 := decide_eq_false hl
  have HN : Hid (kidsPre n ks) := kidsPre_of (by rw [HLO.out]; omega)
  by_cases hh : hi < (ks.length : Int)
  · have HV : Hid (ynodeE n ks = 6) := by show _ = _; unfold ynodeE; rw [if_pos HF.out, HLO.out, if_neg hl, HHI.out, if_pos hh]
    have q1 := decide_eq_true hh
    clear hl hh
    go_enter Tryz.func81, Tryz.ntmps81
    go_wp2_with (go_at_call 86; refine (HS.out).mono ?_; rintro e w2 ⟨he, hX2⟩; subst he; have HX2 := Lib.hid hX2; have y3 := keep_below (hX2.alloc (.cells #[.string sn, .int .i64 lo, .int .i64 hi, .int .i64 kd] 48)) _ _ HG.out; clear hX2)
    go_quiet (fail)
    go_wp2_with fail
    go_ret
    rw [HV.out]
    exact ⟨rfl, below_drewN (HX2.out.alloc _) _⟩
  have q1 := decide_eq_false hh
  cases hr : rightK n ks
  · have HV : Hid (ynodeE n ks = 10) := by show _ = _; unfold ynodeE; rw [if_pos HF.out, HLO.out, if_neg hl, HHI.out, if_neg hh, hr]; rfl
    rw [hr] at HR
    clear hl hh hr
    go_enter Tryz.func81, Tryz.ntmps81
    go_wp2_with (go_at_call 86; refine (HS.out).mono ?_; rintro e w2 ⟨he, hX2⟩; subst he; have HX2 := Lib.hid hX2; have y3 := keep_below (hX2.alloc (.cells #[.string sn, .int .i64 lo, .int .i64 hi, .int .i64 kd] 48)) _ _ HG.out; clear hX2)
    go_quiet (fail)
    go_wp2_with (go_at_call 107; refine (HR.out _ (below_drewN (HX2.out.alloc _) _) HN.out).mono ?_; rintro e w3 ⟨he, hw⟩; subst he; have hw' := hw.symm; subst hw')
    go_ret
    rw [HV.out]
    exact ⟨rfl, below_drewN (HX2.out.alloc _) _⟩
  · have HV : Hid (ynodeE n ks = 0) := by show _ = _; unfold ynodeE; rw [if_pos HF.out, HLO.out, if_neg hl, HHI.out, if_neg hh, hr]; rfl
    rw [hr] at HR
    clear hl hh hr
    go_enter Tryz.func81, Tryz.ntmps81
    go_wp2_with (go_at_call 86; refine (HS.out).mono ?_; rintro e w2 ⟨he, hX2⟩; subst he; have HX2 := Lib.hid hX2; have y3 := keep_below (hX2.alloc (.cells #[.string sn, .int .i64 lo, .int .i64 hi, .int .i64 kd] 48)) _ _ HG.out; clear hX2)
    go_quiet (fail)
    go_wp2_with (go_at_call 107; refine (HR.out _ (below_drewN (HX2.out.alloc _) _) HN.out).mono ?_; rintro e w3 ⟨he, hw⟩; subst he; have hw' := hw.symm; subst hw')
    go_ret
    rw [HV.out]
    exact ⟨rfl, below_drewN (HX2.out.alloc _) _⟩
end Go.Proofs.YtbcpnepjojppaaaGreatDoor
