import Derived.Test.YtbcpnepjojppaaaGreatDoorLawTheoryKeyxQcan
import Derived.Test.YtbcpnepjojppaaaGreatDoorLawTheoryKeyxRound
namespace Go.Proofs.YtbcpnepjojppaaaGreatDoor
open Go.RowKit Go.Lib
end Go.Proofs.YtbcpnepjojppaaaGreatDoor
namespace Go.Proofs.YtbcpnepjojppaaaGreatDoor
open Go.RowKit Go.Lib
end Go.Proofs.YtbcpnepjojppaaaGreatDoor
namespace Go.Proofs.YtbcpnepjojppaaaGreatDoor
open Go.RowKit Go.Lib
theorem Row_RowInQ {w : World} : ∀ (ts : List Tm) (xa : Option Addr), Row w ts xa → RowIn (fun q => q < w.heap.size) w ts xa
  | [], _, _ => by simp [RowIn]
  | t :: ts, xa, h => by
    obtain ⟨b, o, rfl, ⟨c0, c1, c2, c3, g0, g1, g2, g3, hI⟩, hR⟩ := Row_cons h
    simp only [RowIn]
    exact ⟨b, o, rfl, World.block_lt_of_cell? w _ g0, ⟨c0, c1, c2, c3, g0, g1, g2, g3, Is_IsIn _ _ _ _ _ hI⟩, Row_RowInQ ts _ hR⟩
def RowK (base : Nat) (w : World) (ts : List Tm) (xa : Option Addr) : Prop := ∀ j (h : j < ts.length), ∃ b o, xa = some ⟨b, o, none⟩ ∧ LieK w.heap.size base w ts[j] b (o + j * 4)
theorem Row_K {w : World} {ts : List Tm} {xa : Option Addr} (h : Row w ts xa) : RowK w.heap.size w ts xa := fun j hj => by
  have h2 := Row_RowInQ _ _ h
  obtain ⟨kb, ko, rfl⟩ := RowIn_at h2 (by omega)
  exact ⟨kb, ko, rfl, LiesIn_K (RowIn_get h2 j hj) (Nat.le_refl _)⟩
def TsPostE (base : Nat) (w : World) (us : List Tm) (e : Ending) (w' : World) : Prop :=
  ∃ xa c, e = .returned (.slice xa us.length c) ∧ us.length ≤ c ∧ Row w' us xa ∧ Below w.heap.size w w' ∧ OwnT w.heap.size (fun q => q < base) w' us (.slice xa us.length c)
set_option maxHeartbeats 3200000 in
set_option maxRecDepth 100000 in
theorem summandsE_any (base : Nat) (ts : List Tm) (xa : Option Addr) (cap : Nat) (w : World) (hn : ts.length ≤ 1048576) (hsz : sizes ts ≤ 1048576) (hbw : base ≤ w.heap.size) (hR0 : RowK base w ts xa) :
    Calls Tryz.prog 142 #[.slice xa ts.length cap] w (TsPostE base w (sumsR ts)) := by
  have HR := Lib.hid hR0
  have HSZ := Lib.hid hsz
  have HBW := Lib.hid hbw
  clear hR0 hbw
  go_enter Tryz.func142, Tryz.ntmps142
  go_wp2_with fail
  go_loopw [3, 7] (fun lv i wr => ∃ j : Nat, j ≤ ts.length ∧ i = .int .i64 j ∧ OwnT w.heap.size (fun q => q < base) wr (addsT (ts.take j)) lv ∧ Ext w wr) (fun _ i _ => ts.length - (intOf i).toNat)
  case atStart => exact ⟨0, Nat.zero_le _, rfl, by rw [List.take_zero]; exact OwnT_nil _ _ _, Ext.refl _⟩
  case round =>
    obtain ⟨j, hj, rfl, hO, hX⟩ := hrel
    have HX := Lib.hid hX
    by_cases hlt : j < ts.length
    rotate_left
    · have hjl : j = ts.length := by omega
      rw [hjl, List.take_length] at hO
      obtain ⟨xr, cr, rfl⟩ := OwnT_form hO
      have hal := addsT_len ts
      have HC := Lib.hid (cancelled_any hO (fun q (h : q < base) => Nat.lt_of_lt_of_le h HBW.out) hX.size (fun t ht => by have := (addsT_mem ts t ht).2.2.1; omega) (by omega))
      have HF : Hid (∀ e W, CaPost w.heap.size (fun q => q < base) wr (addsT ts) e W → TsPostE base w (sumsR ts) e W) := by
        show ∀ _, _
        rintro e W ⟨K, x, c, h1, h2, h3, _, h4, h5, h6⟩
        rw [← sumsR_eq h4]
        exact ⟨x, c, h1, h3, h2, Below.trans HX.out h5, h6⟩
      clear hO hX hjl hal
      go_wp2_with (go_at_call 178; refine (HC.out).mono ?_; intro e w4 h4; have HG := Lib.hid (HF.out _ _ h4); clear h4; obtain ⟨x4, c4, he, h5⟩ := HG.out; subst he; clear h5)
      go_ret
      exact HG.out
    obtain ⟨kb, ko, rfl, hlk⟩ := HR.out j hlt
    have hl1 : LieK w.heap.size base wr ts[j] kb (ko + j * 4) := by
      obtain ⟨hb, c0, c1, c2, c3, g0, g1, g2, g3, hI⟩ := hlk
      exact ⟨hb, c0, c1, c2, c3, keep_below hX _ _ g0, keep_below hX _ _ g1, keep_below hX _ _ g2, keep_below hX _ _ g3, IsIn_carry (fun q (hq : q < base) => hX.block q (Nat.lt_of_lt_of_le hq HBW.out)) (fun _ h => h) _ _ _ _ _ hI⟩
    have hst := sizes_take ts j hlt
    have hsl := sizes_take_le ts (j + 1)
    have hol := addsT_len (ts.take j)
    obtain ⟨xr, cr, rfl⟩ := OwnT_form hO
    have HC := Lib.hid (addends_any w.heap.size base HBW.out (size ts[j]) ts[j] kb (ko + j * 4) (addsT (ts.take j)) (.slice xr (addsT (ts.take j)).length cr) wr (Nat.le_refl _) (by omega) (by omega) hX.size hl1 hO)
    have HO2 : Hid (addsT (ts.take j) ++ addT ts[j] = addsT (ts.take (j + 1))) := by show _ = _; rw [addsT_take ts j hlt]
    unfold AddPost at HC
    have i1 : (0 : Int) ≤ (j : Int) := by omega
    have i2 : (j : Int) < (ts.length : Int) := by omega
    clear hO hX hl1 hlk hst hsl hol
    go_wp2_with (go_at_call 177; refine (HC.out).mono ?_; rintro e w4 ⟨hB4, hs4, v4, he, hO4⟩; subst he; have HB4 := Lib.hid hB4; have HO4 := Lib.hid hO4; clear hB4 hs4 hO4)
    go_roundw
    case rel => exact ⟨j + 1, by omega, by go_num, by rw [← HO2.out]; exact HO4.out, Below.trans HX.out HB4.out⟩
    case measure => simp [intOf]; omega
theorem summands_any (ts : List Tm) (xa : Option Addr) (cap : Nat) (w : World) (hn : ts.length ≤ 1048576) (hsz : sizes ts ≤ 1048576) (hR0 : Row w ts xa) :
    Calls Tryz.prog 142 #[.slice xa ts.length cap] w (TsPost w (sumsR ts)) :=
  (summandsE_any w.heap.size ts xa cap w hn hsz (Nat.le_refl _) (Row_K hR0)).mono fun _ _ ⟨x, c, h1, h2, h3, h4, _⟩ => ⟨x, c, h1, h2, h3, h4⟩
def firstE : List Tm → Int
  | [] => 0
  | t :: ts => if validE t = 0 then firstE ts else validE t
def listE (ts : List Tm) : Int := if 200 < ts.length then 3 else firstE ts
theorem firstE_drop (l : List Tm) (j : Nat) (h : j < l.length) : firstE (l.drop j) = if validE l[j] = 0 then firstE (l.drop (j + 1)) else validE l[j] := by
  rw [List.drop_eq_getElem_cons h, firstE]
set_option maxHeartbeats 1600000 in
set_option maxRecDepth 100000 in
theorem listError_any (ts : List Tm) (xa : Option Addr) (cap : Nat) (w : World) (hn : ts.length ≤ 1048576) (hsz : ∀ t ∈ ts, size t ≤ 1073741824) (hR : Row w ts xa) :
    Calls Tryz.prog 140 #[.slice xa ts.length cap] w fun e w' => e = .returned (.int .i64 (listE ts)) ∧ Ext w w' := by
  have HR := Lib.hid hR
  have HSZ := Lib.hid hsz
  clear hR hsz
  by_cases h2 : 200 < ts.length
  · have H : Hid (listE ts = 3) := by show _ = _; rw [listE, if_pos h2]
    go_enter Tryz.func140, Tryz.ntmps140
    go_wp2_with fail
    go_ret
    exact ⟨by rw [H.out]; rfl, Ext.refl _⟩
  have HL : Hid (listE ts = firstE ts) := by show _ = _; rw [listE, if_neg h2]
  go_enter Tryz.func140, Tryz.ntmps140
  go_wp2_with fail
  go_loopw [10] (fun i wr => ∃ j : Nat, j ≤ ts.length ∧ i = .int .i64 j ∧ Hid (firstE ts = firstE (ts.drop j)) ∧ Ext w wr) (fun i _ => ts.length - (intOf i).toNat)
  case atStart => exact ⟨0, Nat.zero_le _, rfl, rfl, Ext.refl _⟩
  case round =>
    obtain ⟨j, hj, rfl, HD, hX⟩ := hrel
    have HX := Lib.hid hX
    by_cases hlt : j < ts.length
    rotate_left
    · have hjl : ts.drop j = [] := List.drop_eq_nil_of_le (by omega)
      have HD3 : Hid (listE ts = 0) := by show _ = _; rw [HL.out, HD.out, hjl]; rfl
      clear hjl hX
      go_wp2_with fail
      go_ret
      exact ⟨by rw [HD3.out]; rfl, HX.out⟩
    obtain ⟨kb, ko, rfl⟩ := Row_at HR.out (by omega)
    obtain ⟨x0, x1, x2, x3, p0, p1, p2, p3, hKI⟩ := Row_get (Row_below HR.out hX) j hlt
    obtain ⟨k1, n1, s1, ya1, yl1, yc1, rfl, rfl, rfl, rfl⟩ := Is_form hKI
    have HC := Lib.hid (tValid_any ts[j] _ _ _ _ wr (HSZ.out _ (List.getElem_mem hlt)) hKI)
    have hd := firstE_drop ts j hlt
    have i1 : (0 : Int) ≤ (j : Int) := by omega
    have i2 : (j : Int) < (ts.length : Int) := by omega
    generalize validE ts[j] = E at HC hd
    by_cases h0 : E = 0
    · have q0 : (E != 0) = false := by simp [h0]
      have HD3 : Hid (firstE ts = firstE (ts.drop (j + 1))) := by show _ = _; rw [HD.out, hd, if_pos h0]
      clear hd hX hKI h0
      go_wp2_with (go_at_call 52; refine (HC.out).mono ?_; rintro e w4 ⟨he, hB⟩; subst he; have HB := Lib.hid hB; clear hB)
      go_roundw
      case rel => exact ⟨j + 1, by omega, by go_num, HD3, HX.out.trans HB.out⟩
      case measure => simp [intOf]; omega
    · have q0 : (E != 0) = true := bne_iff_ne.2 h0
      have HD3 : Hid (listE ts = E) := by show _ = _; rw [HL.out, HD.out, hd, if_neg h0]
      clear hd hX hKI h0
      go_wp2_with (go_at_call 52; refine (HC.out).mono ?_; rintro e w4 ⟨he, hB⟩; subst he; have HB := Lib.hid hB; clear hB)
      go_ret
      exact ⟨by rw [HD3.out]; rfl, HX.out.trans HB.out⟩
def TmPost (w : World) (t : Tm) (e : Ending) (w' : World) : Prop :=
  ∃ k n s xa l c, e = .returned (.agg #[.int .i64 k, .string n, .int .i64 s, .slice xa l c]) ∧ Is w' t (.int .i64 k) (.string n) (.int .i64 s) (.slice xa l c) ∧ Ext w w'
theorem zeroQ_is (w : World) : Is w (.mk 3 ⟨#[122, 101, 114, 111]⟩ 0 []) (.int .i64 3) (.string ⟨#[122, 101, 114, 111]⟩) (.int .i64 0) (.slice none 0 0) := by
  simp only [Is]
  exact ⟨trivial, trivial, trivial, by omega, by omega, by simp [ByteArray.size, maxLen], by simp, none, 0, rfl, Nat.le_refl _, by simp [Row]⟩
theorem xorQ_is {w : World} {ks : List Tm} {xa : Option Addr} {cap : Nat} (hl : ks.length ≤ maxLen) (hc : ks.length ≤ cap) (h : Row w ks xa) : Is w (.mk 3 ⟨#[120, 111, 114]⟩ 0 ks) (.int .i64 3) (.string ⟨#[120, 111, 114]⟩) (.int .i64 0) (.slice xa ks.length cap) := by
  simp only [Is]
  exact ⟨trivial, trivial, trivial, by omega, by omega, by simp [ByteArray.size, maxLen], hl, xa, cap, rfl, hc, h⟩
set_option maxHeartbeats 1600000 in
set_option maxRecDepth 100000 in
theorem sum_any (l : List Tm) (xa : Option Addr) (cap : Nat) (w : World) (hn : l.length ≤ 1048576) (hc : l.length ≤ cap) (hR : Row w l xa) :
    Calls Tryz.prog 141 #[.slice xa l.length cap] w (TmPost w (sumTm l)) := by
  by_cases h0 : l.length = 0
  · have e0 : l = [] := List.length_eq_zero_iff.1 h0
    subst e0
    obtain ⟨⟨m0, m1, m2, m3⟩, _⟩ := box_facts (heap_alloc_new w (.cells #[.int .i64 3, .string ⟨#[122, 101, 114, 111]⟩, .int .i64 0, .slice none 0 0] 24))
    have HF : Hid (TmPost w (sumTm []) (.returned (.agg #[.int .i64 3, .string ⟨#[122, 101, 114, 111]⟩, .int .i64 0, .slice none 0 0])) (w.alloc (.cells #[.int .i64 3, .string ⟨#[122, 101, 114, 111]⟩, .int .i64 0, .slice none 0 0] 24))) := ⟨_, _, _, _, _, _, rfl, zeroQ_is _, (Ext.refl w).alloc _⟩
    clear h0 hR hn hc
    go_enter Tryz.func141, Tryz.ntmps141
    go_wp2_with fail
    exact bodyPost_ret (v := .agg #[.int .i64 3, .string ⟨#[122, 101, 114, 111]⟩, .int .i64 0, .slice none 0 0]) (by simp [results, Tryz.results141, go_sem, m0, m1, m2, m3]) rfl HF.out
  by_cases h1 : l.length = 1
  · obtain ⟨t, rfl⟩ := List.length_eq_one_iff.1 h1
    obtain ⟨b, o, rfl⟩ := Row_at hR (by simp)
    obtain ⟨c0, c1, c2, c3, x0, x1, x2, x3, hI⟩ := Row_get hR 0 (by simp)
    simp only [Nat.zero_mul, Nat.add_zero, List.getElem_cons_zero] at x0 x1 x2 x3 hI
    obtain ⟨k, n, s, ya, yl, yc, rfl, rfl, rfl, rfl⟩ := Is_form hI
    obtain ⟨⟨m0, m1, m2, m3⟩, _⟩ := box_facts (heap_alloc_new w (.cells #[.int .i64 k, .string n, .int .i64 s, .slice ya yl yc] 24))
    have HF : Hid (TmPost w (sumTm [t]) (.returned (.agg #[.int .i64 k, .string n, .int .i64 s, .slice ya yl yc])) (w.alloc (.cells #[.int .i64 k, .string n, .int .i64 s, .slice ya yl yc] 24))) := ⟨_, _, _, _, _, _, rfl, Is_alloc hI _, (Ext.refl w).alloc _⟩
    have hB : Ext w (w.alloc (.cells #[.int .i64 0, .string ⟨#[]⟩, .int .i64 0, .slice none 0 0] 24)) := (Ext.refl w).alloc _
    have y0 := keep_below hB _ _ x0
    have y1 := keep_below hB _ _ x1
    have y2 := keep_below hB _ _ x2
    have y3 := keep_below hB _ _ x3
    clear h0 h1 hR hn hc hI hB
    go_enter Tryz.func141, Tryz.ntmps141
    go_wp2_with fail
    exact bodyPost_ret (v := .agg #[.int .i64 k, .string n, .int .i64 s, .slice ya yl yc]) (by simp [results, Tryz.results141, go_sem, m0, m1, m2, m3]) rfl HF.out
  have hs : sumTm l = .mk 3 ⟨#[120, 111, 114]⟩ 0 l := by
    cases l with
    | nil => exact absurd rfl h0
    | cons t l => cases l with
      | nil => exact absurd rfl h1
      | cons u l => rfl
  rw [hs]
  have q0 : ((l.length : Int) == 0) = false := beq_eq_false_iff_ne.2 (by omega)
  have q1 : ((l.length : Int) == 1) = false := beq_eq_false_iff_ne.2 (by omega)
  obtain ⟨⟨m0, m1, m2, m3⟩, _⟩ := box_facts (heap_alloc_new w (.cells #[.int .i64 3, .string ⟨#[120, 111, 114]⟩, .int .i64 0, .slice xa l.length cap] 24))
  have HF : Hid (TmPost w (.mk 3 ⟨#[120, 111, 114]⟩ 0 l) (.returned (.agg #[.int .i64 3, .string ⟨#[120, 111, 114]⟩, .int .i64 0, .slice xa l.length cap])) (w.alloc (.cells #[.int .i64 3, .string ⟨#[120, 111, 114]⟩, .int .i64 0, .slice xa l.length cap] 24))) := ⟨_, _, _, _, _, _, rfl, xorQ_is (by unfold maxLen; omega) hc (Row_alloc hR _), (Ext.refl w).alloc _⟩
  clear h0 h1 hR hs
  go_enter Tryz.func141, Tryz.ntmps141
  go_wp2_with fail
  exact bodyPost_ret (v := .agg #[.int .i64 3, .string ⟨#[120, 111, 114]⟩, .int .i64 0, .slice xa l.length cap]) (by simp [results, Tryz.results141, go_sem, m0, m1, m2, m3]) rfl HF.out
end Go.Proofs.YtbcpnepjojppaaaGreatDoor
