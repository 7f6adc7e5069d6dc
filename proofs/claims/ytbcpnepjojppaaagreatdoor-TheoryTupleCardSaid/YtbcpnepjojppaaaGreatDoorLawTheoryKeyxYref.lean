import Derived.Test.YtbcpnepjojppaaaGreatDoorLawTheoryKeyxRound
import Derived.Test.YtbcpnepjojppaaaGreatDoorLawTheoryKeyxYsym
namespace Go.Proofs.YtbcpnepjojppaaaGreatDoor
open Go.RowKit
mutual
/-- The first error of an application, in preorder. -/
def ynodesE : Tm → Int
  | .mk k n _ ks => if k = 3 then (if ynodeE n ks = 0 then ynodesL ks else ynodeE n ks) else 0
def ynodesL : List Tm → Int
  | [] => 0
  | t :: ts => if ynodesE t = 0 then ynodesL ts else ynodesE t
end
def yvalidE (t : Tm) : Int := if validE t = 0 then ynodesE t else validE t
theorem ynodesE_mk (k : Int) (n : ByteArray) (s : Int) (ks : List Tm) : ynodesE (.mk k n s ks) = if k = 3 then (if ynodeE n ks = 0 then ynodesL ks else ynodeE n ks) else 0 := by rw [ynodesE]
theorem ynodesL_drop (l : List Tm) (j : Nat) (h : j < l.length) : ynodesL (l.drop j) = if ynodesE l[j] = 0 then ynodesL (l.drop (j + 1)) else ynodesE l[j] := by
  rw [List.drop_eq_getElem_cons h, ynodesL]
set_option maxHeartbeats 1600000 in
set_option maxRecDepth 100000 in
theorem ynodes_any (m : Nat) : ∀ (t : Tm) (b o : Nat) (w : World), size t ≤ m → m ≤ 1073741824 → Lies w t b o → TabY w →
    Calls Tryz.prog 53 #[.pointer (some ⟨b, o, none⟩)] w fun e w' => e = .returned (.int .i64 (ynodesE t)) ∧ Ext w w' := by
  induction m with
  | zero => intro t b o w h; have := size_pos t; omega
  | succ m ih =>
    intro t b o w hm hM hL hT
    obtain ⟨k, n, s, ks⟩ := t
    have hsk : size (.mk k n s ks) = 1 + sizes ks := rfl
    rw [hsk] at hm
    have hE := ynodesE_mk k n s ks
    have HN : Hid (Calls Tryz.prog 81 #[.pointer (some ⟨b, o, none⟩)] w fun e w' => e = .returned (.int .i64 (ynodeE n ks)) ∧ Ext w w') := nodeError_any (.mk k n s ks) b o w hL hT
    obtain ⟨g0, _, _, _, _, _, hkl, xa, cap, g3, hcap, hR⟩ := Lies_mk hL
    unfold maxLen at hkl
    have hkl2 := length_le_sizes ks
    have HR := Lib.hid hR
    have HT := Lib.hid hT
    have HG := Lib.hid g3
    have HIH := Lib.hid ih
    clear hR hsk ih hL hT g3
    by_cases hk : k = 3
    rotate_left
    · have H : Hid (ynodesE (.mk k n s ks) = 0) := by show _ = _; rw [hE, if_neg hk]
      have q0 : (k != 3) = true := by rw [bne_iff_ne]; exact hk
      clear hE hk
      go_enter Tryz.func53, Tryz.ntmps53
      go_wp2_with fail
      go_ret
      rw [H.out]
      exact ⟨rfl, Ext.refl _⟩
    subst hk
    rw [if_pos rfl] at hE
    generalize ynodeE n ks = x at hE HN
    by_cases hz : x = 0
    rotate_left
    · have H : Hid (ynodesE (.mk 3 n s ks) = x) := by show _ = _; rw [hE, if_neg hz]
      have hb : (x != 0) = true := by simp [hz]
      clear hE hz
      go_enter Tryz.func53, Tryz.ntmps53
      go_wp2_with (go_at_call 81; refine (HN.out).mono ?_; rintro e w1 ⟨he, hX⟩; subst he; have HX := Lib.hid hX; clear hX)
      go_ret
      rw [H.out]
      exact ⟨rfl, HX.out⟩
    have H : Hid (ynodesE (.mk 3 n s ks) = ynodesL ks) := by show _ = _; rw [hE, if_pos hz]
    subst hz
    clear hE
    go_enter Tryz.func53, Tryz.ntmps53
    go_wp2_with (go_at_call 81; refine (HN.out).mono ?_; rintro e w1 ⟨he, hX⟩; subst he; have HX := Lib.hid hX; have y3 := keep_below hX _ _ HG.out; clear hX)
    clear y3
    go_loopw [21] (fun i wr => ∃ j : Nat, j ≤ ks.length ∧ i = .int .i64 j ∧ Hid (ynodesE (.mk 3 n s ks) = ynodesL (ks.drop j)) ∧ Hid (Ext w wr)) (fun i _ => ks.length - (intOf i).toNat)
    case atStart => exact ⟨0, Nat.zero_le _, rfl, H, HX⟩
    case round =>
      obtain ⟨j, hj, rfl, HJ, HEr⟩ := hrel
      by_cases hlt : j < ks.length
      rotate_left
      · have hd : ks.drop j = [] := List.drop_eq_nil_of_le (by omega)
        have H0 : Hid (ynodesE (.mk 3 n s ks) = 0) := by show _ = _; rw [HJ.out, hd]; rfl
        clear hd
        go_wp2_with fail
        go_ret
        rw [H0.out]
        exact ⟨rfl, HEr.out⟩
      have hst := ynodesL_drop ks j hlt
      have hsz : size ks[j] ≤ sizes ks := size_le_sizes (List.getElem_mem hlt)
      obtain ⟨kb, ko, rfl⟩ := Row_at HR.out (by omega)
      have HC := Lib.hid (HIH.out ks[j] kb (ko + j * 4) wr (by omega) (by omega) (Lies_carry (keep_below HEr.out) (Row_get HR.out j hlt)) (HT.out.ext HEr.out))
      have z3 := keep_below HEr.out _ _ HG.out
      generalize ynodesE ks[j] = y at hst HC
      have i1 : (0 : Int) ≤ (j : Int) := by omega
      have i2 : (j : Int) < (ks.length : Int) := by omega
      by_cases hy : y = 0
      · have HJ2 : Hid (ynodesE (.mk 3 n s ks) = ynodesL (ks.drop (j + 1))) := by show _ = _; rw [HJ.out, hst, if_pos hy]
        subst hy
        clear hst hsz
        go_wp2_with (go_at_call 53; refine (HC.out).mono ?_; rintro e w2 ⟨he, hX2⟩; subst he; have HX2 : Hid (Ext w w2) := Lib.hid (Ext.trans HEr.out hX2); clear hX2)
        go_roundw
        case rel => exact ⟨j + 1, by omega, by go_num, HJ2, HX2⟩
        case measure => simp [intOf]; omega
      · have HJ2 : Hid (ynodesE (.mk 3 n s ks) = y) := by show _ = _; rw [HJ.out, hst, if_neg hy]
        have hb : (y != 0) = true := by simp [hy]
        clear hst hsz hy
        go_wp2_with (go_at_call 53; refine (HC.out).mono ?_; rintro e w2 ⟨he, hX2⟩; subst he; have HX2 : Hid (Ext w w2) := Lib.hid (Ext.trans HEr.out hX2); clear hX2)
        go_ret
        rw [HJ2.out]
        exact ⟨rfl, HX2.out⟩
set_option maxHeartbeats 1600000 in
set_option maxRecDepth 100000 in
theorem yValid_any (t : Tm) (c0 c1 c2 c3 : Value) (w : World) (hM : size t ≤ 1073741824) (hI : Is w t c0 c1 c2 c3) (hT : TabY w) :
    Calls Tryz.prog 14 #[.agg #[c0, c1, c2, c3]] w fun e w' => e = .returned (.int .i64 (yvalidE t)) ∧ Ext w w' := by
  have hX0 : Ext w (w.alloc (.cells #[c0, c1, c2, c3] 24)) := (Ext.refl w).alloc _
  have HN : Hid (∀ W, Ext (w.alloc (.cells #[c0, c1, c2, c3] 24)) W → Calls Tryz.prog 53 #[.pointer (some ⟨w.heap.size, 0, none⟩)] W fun e w' => e = .returned (.int .i64 (ynodesE t)) ∧ Ext W w') := fun W h =>
    ynodes_any _ t w.heap.size 0 W (Nat.le_refl _) hM (Lies_carry (keep_below h) (Lies_box hI _)) (hT.ext (Ext.trans hX0 h))
  have HV := Lib.hid (tValid_any t c0 c1 c2 c3 (w.alloc (.cells #[c0, c1, c2, c3] 24)) hM (Is_alloc hI _))
  have hv : yvalidE t = if validE t = 0 then ynodesE t else validE t := rfl
  obtain ⟨k, n, s, xa, l, cap, rfl, rfl, rfl, rfl⟩ := Is_form hI
  generalize yvalidE t = v at hv ⊢
  generalize validE t = x at hv HV
  have HX := Lib.hid hX0
  clear hI hT hX0
  by_cases hz : x = 0
  · have H : Hid (v = ynodesE t) := by show _ = _; rw [hv, if_pos hz]
    subst hz
    clear hv
    go_enter Tryz.func14, Tryz.ntmps14
    go_wp2_with (first
      | (go_at_call 52; refine (HV.out).mono ?_; rintro e w1 ⟨he, hB⟩; subst he; have HB1 : Hid (Ext _ w1) := Lib.hid hB; clear hB)
      | (go_at_call 53; refine (HN.out _ HB1.out).mono ?_; rintro e w2 ⟨he, hB⟩; subst he; have HB2 : Hid (Ext _ w2) := Lib.hid (Ext.trans HB1.out hB); clear hB))
    go_ret
    rw [H.out]
    exact ⟨rfl, Ext.trans HX.out HB2.out⟩
  · have H : Hid (v = x) := by show _ = _; rw [hv, if_neg hz]
    have hb : (x != 0) = true := by simp [hz]
    clear hv hz
    go_enter Tryz.func14, Tryz.ntmps14
    go_wp2_with (go_at_call 52; refine (HV.out).mono ?_; rintro e w1 ⟨he, hB⟩; subst he; have HB1 : Hid (Ext _ w1) := Lib.hid hB; clear hB)
    go_ret
    rw [H.out]
    exact ⟨rfl, Ext.trans HX.out HB1.out⟩
end Go.Proofs.YtbcpnepjojppaaaGreatDoor
namespace Go.Proofs.YtbcpnepjojppaaaGreatDoor
open Go.RowKit
def SymRow (w : World) (b : Nat) : Prop := ∀ i, i < 21 → w.cell? ⟨b, i * 4, none⟩ = some (.string (symNm i)) ∧ w.cell? ⟨b, i * 4 + 1, none⟩ = some (.int .i64 (symLo i)) ∧
  w.cell? ⟨b, i * 4 + 2, none⟩ = some (.int .i64 (symHi i)) ∧ w.cell? ⟨b, i * 4 + 3, none⟩ = some (.int .i64 (symKd i))
theorem flat4 {α β : Type} (f : α → List β) (hf : ∀ a, (f a).length = 4) : ∀ (l : List α) (i r : Nat) (a : α), r < 4 → l[i]? = some a → (l.flatMap f)[i * 4 + r]? = (f a)[r]?
  | [], i, r, a, _, h => by simp at h
  | x :: xs, 0, r, a, hr, h => by
    simp only [List.getElem?_cons_zero, Option.some.injEq] at h
    subst h
    rw [List.flatMap_cons, Nat.zero_mul, Nat.zero_add, List.getElem?_append_left (by rw [hf]; exact hr)]
  | x :: xs, i + 1, r, a, hr, h => by
    rw [List.flatMap_cons, List.getElem?_append_right (by rw [hf]; omega), hf, show (i + 1) * 4 + r - 4 = i * 4 + r by omega]
    exact flat4 f hf xs i r a hr (by simpa using h)
def symCells4 (s : List UInt8 × Int × Int × Int) : List Value := [.string ⟨s.1.toArray⟩, .int .i64 s.2.1, .int .i64 s.2.2.1, .int .i64 s.2.2.2]
def symCells : Array Value := (symL.flatMap symCells4).toArray
theorem symRow_new (w : World) (T : TypeId) : SymRow (w.alloc (.cells symCells T)) w.heap.size := fun i hi => by
  have h : ∀ r, r < 4 → symCells[i * 4 + r]? = (symCells4 (symAt i))[r]? := fun r hr => by
    rw [← flat4 symCells4 (fun _ => rfl) symL i r (symAt i) hr (symAt_eq hi)]
    unfold symCells
    rw [List.getElem?_toArray]
  exact ⟨cells_new_at w _ T _ rfl _ _ (h 0 (by omega)), cells_new_at w _ T _ rfl _ _ (h 1 (by omega)), cells_new_at w _ T _ rfl _ _ (h 2 (by omega)), cells_new_at w _ T _ rfl _ _ (h 3 (by omega))⟩
set_option maxHeartbeats 3200000 in
set_option maxRecDepth 100000 in
theorem rSymbols_any (w : World) :
    Calls Tryz.prog 37 #[] w fun e w' => ∃ b, e = .returned (.slice (some ⟨b, 0, none⟩) 21 21) ∧ Ext w w' ∧ SymRow w' b := by
  go_enter Tryz.func37, Tryz.ntmps37
  go_wp2_with fail
  go_ret
  exact ⟨w.heap.size, rfl, (Ext.refl w).alloc _, symRow_new w _⟩
def kindS (n : ByteArray) : Int := symKd (symI n)
theorem kindS_no {n : ByteArray} (h : symI n = 21) : kindS n = 0 := by unfold kindS; rw [h]; rfl
set_option maxHeartbeats 1600000 in
set_option maxRecDepth 100000 in
theorem rKind_any (n : ByteArray) (w : World) :
    Calls Tryz.prog 60 #[.string n] w fun e w' => e = .returned (.int .i64 (kindS n)) ∧ Ext w w' := by
  have HS := Lib.hid (rSymbols_any w)
  go_enter Tryz.func60, Tryz.ntmps60
  go_wp2_with (go_at_call 37; refine (HS.out).mono ?_; rintro e w1 ⟨B, he, hX, hR⟩; subst he; have HX := Lib.hid hX; have HR := Lib.hid hR; clear hX hR)
  go_loopw [4] (fun i wr => ∃ j : Nat, j ≤ 21 ∧ i = .int .i64 j ∧ Hid (∀ k, k < j → symNm k ≠ n) ∧ wr = w1) (fun i _ => 21 - (intOf i).toNat)
  case atStart => exact ⟨0, Nat.zero_le _, rfl, fun k hk => by omega, rfl⟩
  case round =>
    obtain ⟨j, hj, rfl, HZ, rfl⟩ := hrel
    by_cases hlt : j < 21
    rotate_left
    · have hz := HZ.out
      obtain rfl : j = 21 := by omega
      have HV : Hid (kindS n = 0) := kindS_no (symI_is (Nat.le_refl _) hz (fun h => absurd h (by omega)))
      clear hz
      go_wp2_with fail
      go_ret
      rw [HV.out]
      exact ⟨rfl, HX.out⟩
    obtain ⟨c0, c1, c2, c3⟩ := HR.out j hlt
    obtain ⟨sn, hsn⟩ : ∃ x, symNm j = x := ⟨_, rfl⟩
    obtain ⟨sk, hsk⟩ : ∃ x, symKd j = x := ⟨_, rfl⟩
    rw [hsn] at c0
    rw [hsk] at c3
    clear c1 c2
    have i1 : (0 : Int) ≤ (j : Int) := by omega
    have i2 : (j : Int) < 21 := by omega
    by_cases he : sn = n
    · have q0 := sameStr he
      have HV : Hid (kindS n = sk) := by show _ = _; unfold kindS; rw [symI_is hj HZ.out (fun _ => hsn.trans he), hsk]
      clear hsn hsk he
      go_wp2_with fail
      go_ret
      rw [HV.out]
      exact ⟨rfl, HX.out⟩
    · have q0 := otherStr he
      have HZ2 : Hid (∀ k, k < j + 1 → symNm k ≠ n) := by
        show ∀ _, _
        intro k hk
        by_cases e : k = j
        · rw [e, hsn]; exact he
        · exact HZ.out k (by omega)
      clear hsn hsk he
      go_wp2_with fail
      go_roundw
      case rel => exact ⟨j + 1, by omega, by go_num, HZ2, by first | rfl | trivial⟩
      case measure => simp [intOf]; omega
end Go.Proofs.YtbcpnepjojppaaaGreatDoor
