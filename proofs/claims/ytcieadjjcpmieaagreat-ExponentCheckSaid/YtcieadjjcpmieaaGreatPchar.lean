/-
  THE REFERENCE'S CHARACTERS: the walks of its Power, mod, value, right and CheckRefute.
-/
import Derived.Test.YtcieadjjcpmieaaGreatPsame
import Derived.BigQuiet
namespace Go.Proofs.YtcieadjjcpmieaaGreat
open Go.RowKit

theorem powF_at {vs : List Pw} {x : Tm} {j : Nat} (h : j < vs.length) : powF (vs.drop j) x = if cmpT vs[j].1 x = 0 then vs[j].2 else powF (vs.drop (j + 1)) x := by
  rw [List.drop_eq_getElem_cons h, powF]
set_option maxHeartbeats 3200000 in
set_option maxRecDepth 100000 in
theorem rPower_any (vs : List Pw) (x : Tm) (c0 c1 c2 c3 : Value) (xv : Option Addr) (cv : Nat) (w : World) (hl : vs.length ≤ maxLen) (hz : SzP 1073741824 vs) (hx : size x ≤ 1073741824) (hR : PRow w vs xv) (hI : Is w x c0 c1 c2 c3) :
    Calls Tryz.prog 69 #[.slice xv vs.length cv, .agg #[c0, c1, c2, c3]] w fun e w' => e = .returned (.int .i64 (powF vs x)) ∧ Below w.heap.size w w' := by
  unfold maxLen at hl
  obtain ⟨xk, xn, xs, xx, xl, xc, rfl, rfl, rfl, rfl⟩ := Is_form hI
  have hb1 := heap_alloc_new w (.cells #[.int .i64 xk, .string xn, .int .i64 xs, .slice xx xl xc] 24)
  have hE1 : Ext w (w.alloc (.cells #[.int .i64 xk, .string xn, .int .i64 xs, .slice xx xl xc] 24)) := (Ext.refl w).alloc _
  have hs1 : (w.alloc (.cells #[.int .i64 xk, .string xn, .int .i64 xs, .slice xx xl xc] 24)).heap.size = w.heap.size + 1 := World.size_alloc _ _
  have HI := Lib.hid (fun W (y : Ext w W) => Is_below (w' := W) hI y)
  have HR := Lib.hid hR
  have HZ := Lib.hid hz
  have HAT := Lib.hid (fun j h => powF_at (vs := vs) (x := x) (j := j) h)
  obtain ⟨R, hRR⟩ : ∃ R, powF vs x = R := ⟨_, rfl⟩
  have HS : Hid (powF (vs.drop 0) x = R) := hRR
  rw [hRR]
  clear hI hR hz hRR
  go_enter Tryz.func69, Tryz.ntmps69
  go_wp2_with fail
  have HBX : Hid (∀ W, Ext (w.alloc (.cells #[.int .i64 xk, .string xn, .int .i64 xs, .slice xx xl xc] 24)) W → (W.cell? ⟨w.heap.size, 0, none⟩ = some (.int .i64 xk) ∧ W.cell? ⟨w.heap.size, 1, none⟩ = some (.string xn) ∧ W.cell? ⟨w.heap.size, 2, none⟩ = some (.int .i64 xs) ∧ W.cell? ⟨w.heap.size, 3, none⟩ = some (.slice xx xl xc)) ∧ Ext w W) := fun W y => ⟨(box_facts ((y.block _ (by rw [hs1]; exact Nat.lt_succ_self _)).trans hb1)).1, Ext.trans hE1 y⟩
  have hr0 := Ext.refl (w.alloc (.cells #[.int .i64 xk, .string xn, .int .i64 xs, .slice xx xl xc] 24))
  generalize w.alloc (.cells #[.int .i64 xk, .string xn, .int .i64 xs, .slice xx xl xc] 24) = wn at HBX hr0 ⊢
  clear hb1 hE1 hs1
  go_loopw [5] (fun i wr => ∃ j : Nat, j ≤ vs.length ∧ i = .int .i64 j ∧ Hid (powF (vs.drop j) x = R) ∧ Ext wn wr) (fun i _ => vs.length - (intOf i).toNat)
  case atStart => exact ⟨0, Nat.zero_le _, rfl, HS, hr0⟩
  case round =>
    obtain ⟨j, hj, rfl, HJ, hE⟩ := hrel
    have HE := Lib.hid hE
    have HEw := Lib.hid (HBX.out wr hE).2
    by_cases hlt : j < vs.length
    rotate_left
    · have H : Hid (R = 0) := by show _ = _; rw [← HJ.out, List.drop_eq_nil_of_le (by omega), powF]
      clear hE
      go_wp2_with fail
      go_ret
      exact ⟨by rw [H.out]; rfl, HEw.out⟩
    obtain ⟨b, o, rfl⟩ := PRow_at HR.out (by omega)
    obtain ⟨⟨d0, d1, d2, d3, g0, g1, g2, g3, hIj⟩, g4, _⟩ := PRow_get (PRow_below HR.out HEw.out) j hlt
    obtain ⟨k, n, s, ya, yl, yc, rfl, rfl, rfl, rfl⟩ := Is_form hIj
    have hz1 := HZ.out _ (List.getElem_mem hlt)
    have HAJ := Lib.hid (HAT.out j hlt)
    have HC1 := Lib.hid (fun W (y : Ext wr W) => same_any vs[j].1 x _ _ _ _ _ _ _ _ W (by omega) (by omega) (Is_below (w' := W) hIj y) (HI.out W (Ext.trans HEw.out y)))
    generalize vs[j].2 = N at g4 HAJ
    generalize cmpT vs[j].1 x = C at HC1 HAJ
    have HCr : Hid (∀ W, Ext wr W → (fun W => ((W.cell? ⟨b, o + j * 5, none⟩ = some (.int .i64 k) ∧ W.cell? ⟨b, o + j * 5 + 1, none⟩ = some (.string n) ∧ W.cell? ⟨b, o + j * 5 + 2, none⟩ = some (.int .i64 s) ∧ W.cell? ⟨b, o + j * 5 + 3, none⟩ = some (.slice ya yl yc)) ∧ W.cell? ⟨b, o + j * 5 + 4, none⟩ = some (.int .i64 N)) ∧ (W.cell? ⟨w.heap.size, 0, none⟩ = some (.int .i64 xk) ∧ W.cell? ⟨w.heap.size, 1, none⟩ = some (.string xn) ∧ W.cell? ⟨w.heap.size, 2, none⟩ = some (.int .i64 xs) ∧ W.cell? ⟨w.heap.size, 3, none⟩ = some (.slice xx xl xc))) W) := fun W y => ⟨⟨⟨keep_below y _ _ g0, keep_below y _ _ g1, keep_below y _ _ g2, keep_below y _ _ g3⟩, keep_below y _ _ g4⟩, (HBX.out W (Ext.trans HE.out y)).1⟩
    have i1 : (0 : Int) ≤ (j : Int) := by omega
    have i2 : (j : Int) < (vs.length : Int) := by omega
    have hF0 : Ext wr wr.drew := (Ext.refl wr).drew
    obtain ⟨_, a0, a1, a2, a3⟩ := HCr.out wr (Ext.refl wr)
    clear hE hIj hz1
    by_cases hC : C = 0
    · have q1 : (C == 0) = true := by simp [hC]
      rw [q1] at HC1
      have H : Hid (R = N) := by show _ = _; rw [← HJ.out, HAJ.out, if_pos hC]
      clear hC q1
      go_upto_region 4 with fail
      go_region_held3 (fun W => ((W.cell? ⟨b, o + j * 5, none⟩ = some (.int .i64 k) ∧ W.cell? ⟨b, o + j * 5 + 1, none⟩ = some (.string n) ∧ W.cell? ⟨b, o + j * 5 + 2, none⟩ = some (.int .i64 s) ∧ W.cell? ⟨b, o + j * 5 + 3, none⟩ = some (.slice ya yl yc)) ∧ W.cell? ⟨b, o + j * 5 + 4, none⟩ = some (.int .i64 N)) ∧ (W.cell? ⟨w.heap.size, 0, none⟩ = some (.int .i64 xk) ∧ W.cell? ⟨w.heap.size, 1, none⟩ = some (.string xn) ∧ W.cell? ⟨w.heap.size, 2, none⟩ = some (.int .i64 xs) ∧ W.cell? ⟨w.heap.size, 3, none⟩ = some (.slice xx xl xc)))
        (first | exact HCr.out _ (by assumption) | go_keep)
        (first | (go_at_call 18; refine (HC1.out _ hF0).mono ?_; rintro e w4 ⟨he, hB⟩; subst he; have hF1 : Ext wr w4 := hF0.trans hB; clear hB))
      all_goals (try go_wp2_with fail)
      all_goals go_ret
      all_goals exact ⟨by rw [H.out]; rfl, Ext.trans HEw.out hF1⟩
    · have q1 : (C == 0) = false := by simp [hC]
      rw [q1] at HC1
      have H : Hid (powF (vs.drop (j + 1)) x = R) := by show _ = _; rw [← HJ.out, HAJ.out, if_neg hC]
      clear hC q1
      go_upto_region 4 with fail
      go_region_held3 (fun W => ((W.cell? ⟨b, o + j * 5, none⟩ = some (.int .i64 k) ∧ W.cell? ⟨b, o + j * 5 + 1, none⟩ = some (.string n) ∧ W.cell? ⟨b, o + j * 5 + 2, none⟩ = some (.int .i64 s) ∧ W.cell? ⟨b, o + j * 5 + 3, none⟩ = some (.slice ya yl yc)) ∧ W.cell? ⟨b, o + j * 5 + 4, none⟩ = some (.int .i64 N)) ∧ (W.cell? ⟨w.heap.size, 0, none⟩ = some (.int .i64 xk) ∧ W.cell? ⟨w.heap.size, 1, none⟩ = some (.string xn) ∧ W.cell? ⟨w.heap.size, 2, none⟩ = some (.int .i64 xs) ∧ W.cell? ⟨w.heap.size, 3, none⟩ = some (.slice xx xl xc)))
        (first | exact HCr.out _ (by assumption) | go_keep)
        (first | (go_at_call 18; refine (HC1.out _ hF0).mono ?_; rintro e w4 ⟨he, hB⟩; subst he; have hF1 : Ext wr w4 := hF0.trans hB; clear hB))
      all_goals (try go_wp2_with fail)
      all_goals go_roundw
      case rel => exact ⟨j + 1, by omega, by go_num, H, Ext.trans HE.out hF1⟩
      case measure => simp [intOf]; omega

/-- The remainder from 0 on. -/
def modR (n q : Int) : Int := (n.tmod q + q).tmod q
theorem modR_zero {n q : Int} (h : 0 < q) : modR n q = 0 ↔ n.tmod q = 0 := by
  unfold modR
  have h1 := Int.tmod_lt_of_pos n h
  have h2 : -q < n.tmod q := by have := Int.tmod_lt_of_pos (-n) h; rw [Int.neg_tmod] at this; omega
  generalize n.tmod q = r at *
  rcases Int.lt_trichotomy r 0 with h0 | h0 | h0
  · rw [Int.tmod_eq_of_lt (by omega) (by omega)]; omega
  · subst h0; simp
  · have : (r + q).tmod q = r := by
      rw [Int.tmod_eq_emod_of_nonneg (by omega), Int.add_emod_right, Int.emod_eq_of_lt (by omega) h1]
    rw [this]
set_option maxHeartbeats 800000 in
set_option maxRecDepth 100000 in
theorem rmod_any (n q : Int) (w : World) (_hn : -9223372036854775808 ≤ n ∧ n ≤ 9223372036854775807) (hq : 2 ≤ q ∧ q ≤ 35184372088832) :
    Calls Tryz.prog 103 #[.int .i64 n, .int .i64 q] w fun e w' => e = .returned (.int .i64 (modR n q)) ∧ Below w.heap.size w w' := by
  have h1 := Int.tmod_lt_of_pos n (show 0 < q by omega)
  have h2 : -q < n.tmod q := by have := Int.tmod_lt_of_pos (-n) (show 0 < q by omega); rw [Int.neg_tmod] at this; omega
  have ew : IntKind.i64.wrap (n.tmod q + q) = n.tmod q + q := IntWalk.i64_in _ (by omega)
  have q0 : ¬ q = 0 := by omega
  have h3 : (n.tmod q + q).tmod q < q := Int.tmod_lt_of_pos _ (by omega)
  have h4 : -q < (n.tmod q + q).tmod q := by have := Int.tmod_lt_of_pos (-(n.tmod q + q)) (show 0 < q by omega); rw [Int.neg_tmod] at this; omega
  have ew2 : IntKind.i64.wrap (n.tmod q) = n.tmod q := IntWalk.i64_in _ (by omega)
  have ew3 : IntKind.i64.wrap ((n.tmod q + q).tmod q) = (n.tmod q + q).tmod q := IntWalk.i64_in _ (by omega)
  go_enter Tryz.func103, Tryz.ntmps103
  go_wp2_with fail
  go_ret
  refine ⟨?_, Below.refl _ _⟩
  unfold modR
  rw [Int.tmod_eq_emod_of_nonneg (show 0 ≤ n.tmod q + q by omega)]
  rfl

def valR (md : Int) (vs ps : List Pw) : Int := if md = 0 then sumC vs ps else modR (sumC vs ps) md
set_option maxHeartbeats 3200000 in
set_option maxRecDepth 100000 in
theorem value_any (md : Int) (vs ps : List Pw) (xv xa : Option Addr) (cv cap : Nat) (w : World) (hmd : md = 0 ∨ 2 ≤ md ∧ md ≤ 35184372088832) (hlv : vs.length ≤ 1073741824) (hzv : SzP 1073741824 vs) (hbv : ∀ p ∈ vs, p.2.natAbs ≤ 35184372088832) (hRv : PRow w vs xv)
    (hl : ps.length ≤ 200) (hz : SzP 1073741824 ps) (hb : ∀ p ∈ ps, p.2.natAbs ≤ 1000) (hR : PRow w ps xa) :
    Calls Tryz.prog 75 #[.slice xa ps.length cap, .agg #[.int .i64 md, .slice xv vs.length cv]] w fun e w' => e = .returned (.int .i64 (valR md vs ps)) ∧ Below w.heap.size w w' := by
  have hb1 := heap_alloc_new w (.cells #[.int .i64 md, .slice xv vs.length cv] 53)
  have hE1 : Ext w (w.alloc (.cells #[.int .i64 md, .slice xv vs.length cv] 53)) := (Ext.refl w).alloc _
  have hs1 : (w.alloc (.cells #[.int .i64 md, .slice xv vs.length cv] 53)).heap.size = w.heap.size + 1 := World.size_alloc _ _
  have HPO := Lib.hid (fun (x : Tm) c0 c1 c2 c3 W (y : Ext w W) (hx : size x ≤ 1073741824) (hI : Is W x c0 c1 c2 c3) => rPower_any vs x c0 c1 c2 c3 xv cv W (by unfold maxLen; omega) hzv hx (PRow_below (w' := W) hRv y) hI)
  have HRP := Lib.hid (fun W (y : Ext w W) => PRow_below (w' := W) hR y)
  have HZ := Lib.hid hz
  have HBB : Hid (∀ j (h : j < ps.length), (powF vs ps[j].1 * ps[j].2).natAbs ≤ 35184372088832 * 1000) := fun j h => mul_bound (powF_bound hbv _) (hb _ (List.getElem_mem h))
  have HSB : Hid (∀ j, j ≤ ps.length → (sumC vs (ps.take j)).natAbs ≤ 200 * (35184372088832 * 1000)) := by
    show ∀ _, _
    intro j hj
    have h1 := sumC_bound hbv (ps := ps.take j) (fun p hp => hb p (List.mem_of_mem_take hp))
    refine Nat.le_trans h1 (Nat.mul_le_mul_right _ ?_)
    rw [List.length_take]; omega
  have HTK := Lib.hid (sumC_take vs ps)
  obtain ⟨R, hR'⟩ : ∃ R, valR md vs ps = R := ⟨_, rfl⟩
  have HRR : Hid ((if md = 0 then sumC vs ps else modR (sumC vs ps) md) = R) := hR'
  rw [hR']
  clear hlv hzv hbv hRv hz hb hR hR'
  go_enter Tryz.func75, Tryz.ntmps75
  go_wp2_with fail
  have HX1 : Hid (∀ W, Ext (w.alloc (.cells #[.int .i64 md, .slice xv vs.length cv] 53)) W → (W.cell? ⟨w.heap.size, 0, none⟩ = some (.int .i64 md) ∧ W.cell? ⟨w.heap.size, 1, none⟩ = some (.slice xv vs.length cv)) ∧ Ext w W) := fun W y => ⟨cells2 ((y.block _ (by rw [hs1]; exact Nat.lt_succ_self _)).trans hb1), Ext.trans hE1 y⟩
  have hr0 := Ext.refl (w.alloc (.cells #[.int .i64 md, .slice xv vs.length cv] 53))
  generalize w.alloc (.cells #[.int .i64 md, .slice xv vs.length cv] 53) = wn at HX1 hr0 ⊢
  clear hb1 hE1 hs1
  go_loopw [5, 6] (fun s i wr => ∃ j : Nat, j ≤ ps.length ∧ i = .int .i64 j ∧ s = .int .i64 (sumC vs (ps.take j)) ∧ Ext wn wr) (fun _ i _ => ps.length - (intOf i).toNat)
  case atStart => exact ⟨0, Nat.zero_le _, rfl, by simp [sumC], hr0⟩
  case round =>
    obtain ⟨j, hj, rfl, rfl, hE⟩ := hrel
    have HE := Lib.hid hE
    by_cases hlt : j < ps.length
    rotate_left
    · obtain rfl : j = ps.length := by omega
      rw [List.take_length]
      have hsb := HSB.out ps.length (Nat.le_refl _)
      rw [List.take_length] at hsb
      obtain ⟨⟨a0, a1⟩, hw⟩ := HX1.out wr hE
      have HW := Lib.hid hw
      generalize sumC vs ps = A at HRR hsb ⊢
      by_cases h0 : md = 0
      · have H : Hid (A = R) := by show _ = _; have := HRR.out; rw [if_pos h0] at this; exact this
        have q1 : (md == 0) = true := by simp [h0]
        clear h0 hw hE hsb
        go_wp2_with fail
        go_ret
        exact ⟨by rw [← H.out]; rfl, HW.out⟩
      · have H : Hid (modR A md = R) := by show _ = _; have := HRR.out; rw [if_neg h0] at this; exact this
        have q1 : (md == 0) = false := by simp [h0]
        have HMO := Lib.hid (fun W => rmod_any A md W (by omega) (by omega))
        clear hw hE h0 hsb
        go_wp2_with (go_at_call 103; refine (HMO.out _).mono ?_; rintro e w5 ⟨he, hB⟩; subst he; have HB5 := Lib.hid (Ext.trans HW.out hB); clear hB)
        go_ret
        exact ⟨by rw [← H.out]; rfl, HB5.out⟩
    obtain ⟨b, o, rfl⟩ := PRow_at (HRP.out _ (Ext.refl _)) (by omega)
    obtain ⟨⟨c0, c1, c2, c3, g0, g1, g2, g3, hI⟩, hNj, hNo⟩ := PRow_get (HRP.out _ (HX1.out wr hE).2) j hlt
    obtain ⟨k, n, s, ya, yl, yc, rfl, rfl, rfl, rfl⟩ := Is_form hI
    have hbb := HBB.out j hlt
    have hsb := HSB.out j hj
    have HT1 := Lib.hid (HTK.out j hlt)
    have hzj := HZ.out _ (List.getElem_mem hlt)
    have HPJ := Lib.hid (fun W (y : Ext wr W) => HPO.out ps[j].1 _ _ _ _ W (Ext.trans (HX1.out wr hE).2 y) hzj (Is_below (w' := W) hI y))
    generalize powF vs ps[j].1 = P at HPJ hbb HT1
    generalize ps[j].2 = N at hNj hbb HT1
    obtain ⟨M, hM⟩ : ∃ M, P * N = M := ⟨_, rfl⟩
    rw [hM] at hbb HT1
    have hM2 : N * P = M := by rw [Int.mul_comm]; exact hM
    generalize sumC vs (ps.take j) = A at hsb HT1 ⊢
    have hwM : IntKind.i64.wrap (N * P) = M := (IntWalk.i64_in _ (by rw [hM2]; omega)).trans hM2
    have hwM2 : IntKind.i64.wrap M = M := IntWalk.i64_in _ (by omega)
    have hwA : IntKind.i64.wrap (A + M) = A + M := IntWalk.i64_in _ (by omega)
    have HCr : Hid (∀ W, Ext wr W → (fun W => ((W.cell? ⟨b, o + j * 5, none⟩ = some (.int .i64 k) ∧ W.cell? ⟨b, o + j * 5 + 1, none⟩ = some (.string n) ∧ W.cell? ⟨b, o + j * 5 + 2, none⟩ = some (.int .i64 s) ∧ W.cell? ⟨b, o + j * 5 + 3, none⟩ = some (.slice ya yl yc)) ∧ W.cell? ⟨b, o + j * 5 + 4, none⟩ = some (.int .i64 N)) ∧ (W.cell? ⟨w.heap.size, 0, none⟩ = some (.int .i64 md) ∧ W.cell? ⟨w.heap.size, 1, none⟩ = some (.slice xv vs.length cv))) W) := fun W y => ⟨⟨⟨keep_below y _ _ g0, keep_below y _ _ g1, keep_below y _ _ g2, keep_below y _ _ g3⟩, keep_below y _ _ hNj⟩, (HX1.out W (Ext.trans HE.out y)).1⟩
    have i1 : (0 : Int) ≤ (j : Int) := by omega
    have i2 : (j : Int) < (ps.length : Int) := by omega
    have hF0 : Ext wr wr.drew := (Ext.refl wr).drew
    obtain ⟨_, a0, a1⟩ := HCr.out wr (Ext.refl wr)
    clear hE hI hNo hzj hM hM2
    go_upto_region 5 with fail
    go_region_held3 (fun W => ((W.cell? ⟨b, o + j * 5, none⟩ = some (.int .i64 k) ∧ W.cell? ⟨b, o + j * 5 + 1, none⟩ = some (.string n) ∧ W.cell? ⟨b, o + j * 5 + 2, none⟩ = some (.int .i64 s) ∧ W.cell? ⟨b, o + j * 5 + 3, none⟩ = some (.slice ya yl yc)) ∧ W.cell? ⟨b, o + j * 5 + 4, none⟩ = some (.int .i64 N)) ∧ (W.cell? ⟨w.heap.size, 0, none⟩ = some (.int .i64 md) ∧ W.cell? ⟨w.heap.size, 1, none⟩ = some (.slice xv vs.length cv)))
      (first | exact HCr.out _ (by assumption) | go_keep)
      (first | (go_at_call 69; refine (HPJ.out _ hF0).mono ?_; rintro e w6 ⟨he, hB⟩; subst he; have hF1 : Ext wr w6 := hF0.trans hB; clear hB))
    all_goals (try go_wp2_with fail)
    all_goals go_roundw
    case rel => exact ⟨j + 1, by omega, by go_num, by rw [HT1.out], Ext.trans HE.out hF1⟩
    case measure => simp [intOf]; omega
end Go.Proofs.YtcieadjjcpmieaaGreat

/-
  THE REFERENCE'S CHARACTERS, second part: the walks of right and CheckRefute.
-/
namespace Go.Proofs.YtcieadjjcpmieaaGreat
open Go.RowKit

def rightB (md : Int) (vs : List Pw) : Bool := decide (md = 0 ∨ 2 ≤ md ∧ md ≤ 35184372088832) && decide (powE 35184372088832 vs = 0)
set_option maxHeartbeats 6400000 in
set_option maxRecDepth 100000 in
theorem right_any (md : Int) (vs : List Pw) (xv : Option Addr) (cv : Nat) (w : World) (_hmo : i64ok md) (hlv : vs.length ≤ 1073741824) (hzv : SzP 1073741824 vs) (hR : PRow w vs xv) :
    Calls Tryz.prog 74 #[.agg #[.int .i64 md, .slice xv vs.length cv]] w fun e w' => e = .returned (.bool (rightB md vs)) ∧ Below w.heap.size w w' := by
  have hb1 := heap_alloc_new w (.cells #[.int .i64 md, .slice xv vs.length cv] 53)
  have hE1 : Ext w (w.alloc (.cells #[.int .i64 md, .slice xv vs.length cv] 53)) := (Ext.refl w).alloc _
  have hs1 : (w.alloc (.cells #[.int .i64 md, .slice xv vs.length cv] 53)).heap.size = w.heap.size + 1 := World.size_alloc _ _
  obtain ⟨a0, a1⟩ := cells2 hb1
  have HEX := Lib.hid hE1
  have HD : Hid (rightB md vs = (decide (md = 0 ∨ 2 ≤ md ∧ md ≤ 35184372088832) && decide (powE 35184372088832 vs = 0))) := rfl
  generalize rightB md vs = R at HD ⊢
  by_cases hmd : md = 0 ∨ 2 ≤ md ∧ md ≤ 35184372088832
  rotate_left
  · have H : Hid (R = false) := by show _ = _; rw [HD.out, decide_eq_false hmd, Bool.false_and]
    by_cases h0 : md < 0
    · have q1 : decide (md < 0) = true := decide_eq_true h0
      clear hmd h0 hE1 hs1 hb1 hR hzv
      go_enter Tryz.func74, Tryz.ntmps74
      go_wp2_with fail
      go_ret
      exact ⟨by rw [H.out]; rfl, HEX.out⟩
    have q1 : decide (md < 0) = false := decide_eq_false h0
    by_cases h1 : md = 1
    · have q2 : (md == 1) = true := by simp [h1]
      clear hmd h0 h1 hE1 hs1 hb1 hR hzv
      go_enter Tryz.func74, Tryz.ntmps74
      go_wp2_with fail
      go_ret
      exact ⟨by rw [H.out]; rfl, HEX.out⟩
    have q2 : (md == 1) = false := by simp [h1]
    have q3 : decide (35184372088832 < md) = true := decide_eq_true (by omega)
    clear hmd h0 h1 hE1 hs1 hb1 hR hzv
    go_enter Tryz.func74, Tryz.ntmps74
    go_wp2_with fail
    go_ret
    exact ⟨by rw [H.out]; rfl, HEX.out⟩
  have q1 : decide (md < 0) = false := decide_eq_false (by omega)
  have hm1 : ¬ md = 1 := by omega
  have q2 : (md == 1) = false := by simp [hm1]
  clear hm1
  have q3 : decide (35184372088832 < md) = false := decide_eq_false (by omega)
  have HD2 : Hid (R = decide (powE 35184372088832 vs = 0)) := by show _ = _; rw [HD.out, decide_eq_true hmd, Bool.true_and]
  clear HD
  by_cases h200 : 200 < vs.length
  · have H : Hid (R = false) := by show _ = _; rw [HD2.out]; unfold powE; rw [if_pos h200]; rfl
    have q4 : decide ((200 : Int) < (vs.length : Int)) = true := decide_eq_true (by omega)
    have q5 : (200 : Int) < (vs.length : Int) := by omega
    clear hmd h200 hE1 hs1 hb1 hR hzv
    go_enter Tryz.func74, Tryz.ntmps74
    go_wp2_with fail
    go_ret
    exact ⟨by rw [H.out]; rfl, HEX.out⟩
  have HVV : Hid (R = decide (ploop 35184372088832 (prevP vs 0) (vs.drop 0) = 0)) := by show _ = _; rw [HD2.out]; unfold powE; rw [if_neg h200]; rfl
  have q4 : (vs.length : Int) ≤ 200 := by omega
  have HR := Lib.hid (fun W (y : Ext w W) => PRow_below (w' := W) hR y)
  have HZ := Lib.hid hzv
  have HX1 : Hid (∀ W, Ext (w.alloc (.cells #[.int .i64 md, .slice xv vs.length cv] 53)) W → (W.cell? ⟨w.heap.size, 0, none⟩ = some (.int .i64 md) ∧ W.cell? ⟨w.heap.size, 1, none⟩ = some (.slice xv vs.length cv)) ∧ Ext w W) := fun W y => ⟨cells2 ((y.block _ (by rw [hs1]; exact Nat.lt_succ_self _)).trans hb1), Ext.trans hE1 y⟩
  have hr0 := Ext.refl (w.alloc (.cells #[.int .i64 md, .slice xv vs.length cv] 53))
  clear hmd h200 hE1 hs1 hb1 hR hzv HD2 HEX
  go_enter Tryz.func74, Tryz.ntmps74
  go_wp2_with fail
  clear a0 a1
  generalize w.alloc (.cells #[.int .i64 md, .slice xv vs.length cv] 53) = wn at HX1 hr0 ⊢
  go_loopw [3] (fun i wr => ∃ j : Nat, j ≤ vs.length ∧ i = .int .i64 j ∧ Hid (R = decide (ploop 35184372088832 (prevP vs j) (vs.drop j) = 0)) ∧ Ext wn wr) (fun i _ => vs.length - (intOf i).toNat)
  case atStart => exact ⟨0, Nat.zero_le _, rfl, HVV, hr0⟩
  case round =>
    obtain ⟨i, hi, rfl, HVi, hE⟩ := hrel
    have HE := Lib.hid hE
    obtain ⟨⟨a0, a1⟩, hwr⟩ := HX1.out wr hE
    have HW := Lib.hid hwr
    by_cases hlt : i < vs.length
    rotate_left
    · have H : Hid (R = true) := by
        show _ = _
        rw [HVi.out, List.drop_eq_nil_of_le (by omega), ploop]; rfl
      clear hE hwr
      go_wp2_with fail
      go_ret
      exact ⟨by rw [H.out]; rfl, HW.out⟩
    obtain ⟨b, o, rfl⟩ := PRow_at (HR.out wr hwr) (by omega)
    obtain ⟨hLi, hNi, hNo⟩ := PRow_get (HR.out wr hwr) i hlt
    have hs1 := HZ.out _ (List.getElem_mem hlt)
    obtain ⟨c0, c1, c2, c3, e0, e1, e2, e3, hI⟩ := id hLi
    obtain ⟨k, n, s, ya, yl, yc, rfl, rfl, rfl, rfl⟩ := Is_form hI
    have hdef : pwE 35184372088832 vs[i] = if validE vs[i].1 = 0 then (if expo vs[i].1 = true then 1 else if vs[i].2 = 0 ∨ vs[i].2 < -35184372088832 ∨ 35184372088832 < vs[i].2 then 7 else 0) else validE vs[i].1 := rfl
    have hbad := ploop_bad (lim := 35184372088832) hlt
    have HV0 := Lib.hid (fun W (x : Ext wr W) => rValid_any vs[i].1 _ _ _ _ W hs1 (Is_below (w' := W) hI x))
    have HXX := Lib.hid (fun W (x : Ext wr W) => special_any vs[i].1 _ _ _ _ W (Is_below (w' := W) hI x))
    have HI := Lib.hid hI
    obtain ⟨N, hN⟩ : ∃ N, vs[i].2 = N := ⟨_, rfl⟩
    obtain ⟨V, hV⟩ : ∃ V, validE vs[i].1 = V := ⟨_, rfl⟩
    obtain ⟨X, hX⟩ : ∃ X, expo vs[i].1 = X := ⟨_, rfl⟩
    rw [hN] at hNi hNo hdef
    rw [hV] at HV0 hdef
    rw [hX] at HXX hdef
    have i1 : (0 : Int) ≤ (i : Int) := by omega
    have i2 : (i : Int) < (vs.length : Int) := by omega
    unfold i64ok at hNo
    have HS5 := Lib.hid (SumAt.new wr k n s ya yl yc N)
    have HEn : Hid (Ext wr (wr.alloc (.cells #[.int .i64 k, .string n, .int .i64 s, .slice ya yl yc, .int .i64 N] 77))) := (Ext.refl wr).alloc _
    clear hE hwr hLi hI hN hV hX
    go_upto_region 7 with fail
    generalize wr.alloc (.cells #[.int .i64 k, .string n, .int .i64 s, .slice ya yl yc, .int .i64 N] 77) = wq at HS5 HEn ⊢
    obtain ⟨q, hq⟩ : ∃ q, wr.heap.size = q := ⟨_, rfl⟩
    rw [hq] at HS5 ⊢
    have HCq : Hid (∀ W, Ext wq W → ((W.cell? ⟨q, 0, none⟩ = some (.int .i64 k) ∧ W.cell? ⟨q, 1, none⟩ = some (.string n) ∧ W.cell? ⟨q, 2, none⟩ = some (.int .i64 s) ∧ W.cell? ⟨q, 3, none⟩ = some (.slice ya yl yc)) ∧ W.cell? ⟨q, 4, none⟩ = some (.int .i64 N)) ∧ (W.cell? ⟨w.heap.size, 0, none⟩ = some (.int .i64 md) ∧ W.cell? ⟨w.heap.size, 1, none⟩ = some (.slice (some ⟨b, o, none⟩) vs.length cv))) := fun W y => ⟨(HS5.out.ext y).1, (HX1.out W (Ext.trans HE.out (Ext.trans HEn.out y))).1⟩
    have HV := Lib.hid (fun W (y : Ext wq W) => HV0.out W (Ext.trans HEn.out y))
    have HX := Lib.hid (fun W (y : Ext wq W) => HXX.out W (Ext.trans HEn.out y))
    obtain ⟨⟨⟨x0, x1, x2, x3⟩, x4⟩, a2, a3⟩ := HCq.out wq (Ext.refl _)
    have HFIN : Hid (∀ W, Ext wq W → Below w.heap.size w W) := fun W y => Ext.trans HW.out (Ext.trans HEn.out y)
    clear hq a0 a1 HV0 HXX e0 e1 e2 e3 hNi
    by_cases hV0 : V = 0
    rotate_left
    · rw [if_neg hV0] at hdef
      have H : Hid (R = false) := by show _ = _; rw [HVi.out, hbad (by rw [hdef]; exact hV0), hdef, decide_eq_false hV0]
      have q5 : (V != 0) = true := by rw [bne_iff_ne]; exact hV0
      clear hdef hbad hV0
      go_wp2_with (go_at_call 46; refine (HV.out _ (Ext.refl wq)).mono ?_; rintro e w3 ⟨he, hB⟩; subst he; have HE3 : Hid (Ext wq w3) := Lib.hid hB; obtain ⟨⟨⟨f0, f1, f2, f3⟩, f4⟩, u0, u1⟩ := HCq.out _ hB; clear hB)
      go_ret
      exact ⟨by rw [H.out]; rfl, HFIN.out _ HE3.out⟩
    subst hV0
    rw [if_pos rfl] at hdef
    have q5 : ((0 : Int) != 0) = false := rfl
    cases X with
    | true =>
      rw [if_pos rfl] at hdef
      have H : Hid (R = false) := by show _ = _; rw [HVi.out, hbad (by rw [hdef]; decide), hdef]; rfl
      clear hdef hbad
      go_wp2_with (first
         | (go_at_call 46; refine (HV.out _ (Ext.refl wq)).mono ?_; rintro e w3 ⟨he, hB⟩; subst he; have HE3 : Hid (Ext wq w3) := Lib.hid hB; obtain ⟨⟨⟨f0, f1, f2, f3⟩, f4⟩, u0, u1⟩ := HCq.out _ hB; clear hB)
         | (go_at_call 88; refine (HX.out _ HE3.out).mono ?_; rintro e w4 ⟨he, hB⟩; subst he; have HE4 : Hid (Ext wq w4) := Lib.hid (Ext.trans HE3.out hB); obtain ⟨⟨⟨g0, g1, g2, g3⟩, g4⟩, v0, v1⟩ := HCq.out _ (Ext.trans HE3.out hB); clear hB))
      go_ret
      exact ⟨by rw [H.out]; rfl, HFIN.out _ HE4.out⟩
    | false =>
      rw [if_neg (by simp)] at hdef
      by_cases hN0 : N = 0
      · rw [if_pos (Or.inl hN0)] at hdef
        have H : Hid (R = false) := by show _ = _; rw [HVi.out, hbad (by rw [hdef]; decide), hdef]; rfl
        have q6 : (N == 0) = true := by simp [hN0]
        clear hdef hbad hN0
        go_wp2_with (first
           | (go_at_call 46; refine (HV.out _ (Ext.refl wq)).mono ?_; rintro e w3 ⟨he, hB⟩; subst he; have HE3 : Hid (Ext wq w3) := Lib.hid hB; obtain ⟨⟨⟨f0, f1, f2, f3⟩, f4⟩, u0, u1⟩ := HCq.out _ hB; clear hB)
           | (go_at_call 88; refine (HX.out _ HE3.out).mono ?_; rintro e w4 ⟨he, hB⟩; subst he; have HE4 : Hid (Ext wq w4) := Lib.hid (Ext.trans HE3.out hB); obtain ⟨⟨⟨g0, g1, g2, g3⟩, g4⟩, v0, v1⟩ := HCq.out _ (Ext.trans HE3.out hB); clear hB))
        go_ret
        exact ⟨by rw [H.out]; rfl, HFIN.out _ HE4.out⟩
      have q6 : (N == 0) = false := by simp [hN0]
      by_cases hlo : N < -35184372088832
      · rw [if_pos (Or.inr (Or.inl hlo))] at hdef
        have H : Hid (R = false) := by show _ = _; rw [HVi.out, hbad (by rw [hdef]; decide), hdef]; rfl
        have q7 : decide (N < -35184372088832) = true := decide_eq_true hlo
        clear hdef hbad hN0
        go_wp2_with (first
           | (go_at_call 46; refine (HV.out _ (Ext.refl wq)).mono ?_; rintro e w3 ⟨he, hB⟩; subst he; have HE3 : Hid (Ext wq w3) := Lib.hid hB; obtain ⟨⟨⟨f0, f1, f2, f3⟩, f4⟩, u0, u1⟩ := HCq.out _ hB; clear hB)
           | (go_at_call 88; refine (HX.out _ HE3.out).mono ?_; rintro e w4 ⟨he, hB⟩; subst he; have HE4 : Hid (Ext wq w4) := Lib.hid (Ext.trans HE3.out hB); obtain ⟨⟨⟨g0, g1, g2, g3⟩, g4⟩, v0, v1⟩ := HCq.out _ (Ext.trans HE3.out hB); clear hB))
        go_ret
        exact ⟨by rw [H.out]; rfl, HFIN.out _ HE4.out⟩
      have q7 : decide (N < -35184372088832) = false := decide_eq_false hlo
      by_cases hhi : 35184372088832 < N
      · rw [if_pos (Or.inr (Or.inr hhi))] at hdef
        have H : Hid (R = false) := by show _ = _; rw [HVi.out, hbad (by rw [hdef]; decide), hdef]; rfl
        have q8 : decide (35184372088832 < N) = true := decide_eq_true hhi
        clear hdef hbad hN0
        go_wp2_with (first
           | (go_at_call 46; refine (HV.out _ (Ext.refl wq)).mono ?_; rintro e w3 ⟨he, hB⟩; subst he; have HE3 : Hid (Ext wq w3) := Lib.hid hB; obtain ⟨⟨⟨f0, f1, f2, f3⟩, f4⟩, u0, u1⟩ := HCq.out _ hB; clear hB)
           | (go_at_call 88; refine (HX.out _ HE3.out).mono ?_; rintro e w4 ⟨he, hB⟩; subst he; have HE4 : Hid (Ext wq w4) := Lib.hid (Ext.trans HE3.out hB); obtain ⟨⟨⟨g0, g1, g2, g3⟩, g4⟩, v0, v1⟩ := HCq.out _ (Ext.trans HE3.out hB); clear hB))
        go_ret
        exact ⟨by rw [H.out]; rfl, HFIN.out _ HE4.out⟩
      have q8 : decide (35184372088832 < N) = false := decide_eq_false hhi
      rw [if_neg (by omega)] at hdef
      clear hbad hN0 hlo hhi
      cases i with
      | zero =>
        have hval := ploop_first hlt hdef
        have H : Hid (R = decide (ploop 35184372088832 (prevP vs 1) (vs.drop 1) = 0)) := by show _ = _; rw [HVi.out, hval]
        have q9 : decide ((0 : Int) < ((0 : Nat) : Int)) = false := rfl
        clear hval hdef
        go_upto_region 9 with (first
           | (go_at_call 46; refine (HV.out _ (Ext.refl wq)).mono ?_; rintro e w3 ⟨he, hB⟩; subst he; have HE3 : Hid (Ext wq w3) := Lib.hid hB; obtain ⟨⟨⟨f0, f1, f2, f3⟩, f4⟩, u0, u1⟩ := HCq.out _ hB; clear hB)
           | (go_at_call 88; refine (HX.out _ HE3.out).mono ?_; rintro e w4 ⟨he, hB⟩; subst he; have HE4 : Hid (Ext wq w4) := Lib.hid (Ext.trans HE3.out hB); obtain ⟨⟨⟨g0, g1, g2, g3⟩, g4⟩, v0, v1⟩ := HCq.out _ (Ext.trans HE3.out hB); clear hB))
        go_quiet (fail)
        go_wp2_with fail
        go_roundw
        case rel => exact ⟨1, by omega, by go_num, H, Ext.trans HE.out (Ext.trans HEn.out (Ext.trans HE4.out (below_drewN (Below.refl _ _) _)))⟩
        case measure => simp [intOf]; omega
      | succ j =>
        have hval := ploop_next hlt hdef
        obtain ⟨hLj, _, _⟩ := PRow_get (HR.out wr HW.out) j (by omega)
        obtain ⟨d0, d1, d2, d3, f0', f1', f2', f3', hJ⟩ := hLj
        obtain ⟨k3, n3, s3, ya3, yl3, yc3, rfl, rfl, rfl, rfl⟩ := Is_form hJ
        have hs0 := HZ.out vs[j] (List.getElem_mem (by omega))
        have HCM := Lib.hid (fun W (x : Ext wr W) => rcompare_any (size vs[j].1) vs[j].1 vs[j + 1].1 _ _ _ _ _ _ _ _ W (Nat.le_refl _) (by omega) (by omega) (Is_below (w' := W) hJ x) (Is_below (w' := W) HI.out x))
        have HCr : Hid (∀ W, Ext wq W → (fun W => (W.cell? ⟨b, o + j * 5, none⟩ = some (.int .i64 k3) ∧ W.cell? ⟨b, o + j * 5 + 1, none⟩ = some (.string n3) ∧ W.cell? ⟨b, o + j * 5 + 2, none⟩ = some (.int .i64 s3) ∧ W.cell? ⟨b, o + j * 5 + 3, none⟩ = some (.slice ya3 yl3 yc3)) ∧ (W.cell? ⟨q, 0, none⟩ = some (.int .i64 k) ∧ W.cell? ⟨q, 1, none⟩ = some (.string n) ∧ W.cell? ⟨q, 2, none⟩ = some (.int .i64 s) ∧ W.cell? ⟨q, 3, none⟩ = some (.slice ya yl yc)) ∧ (W.cell? ⟨w.heap.size, 0, none⟩ = some (.int .i64 md) ∧ W.cell? ⟨w.heap.size, 1, none⟩ = some (.slice (some ⟨b, o, none⟩) vs.length cv))) W) := fun W y => ⟨⟨keep_below (Ext.trans HEn.out y) _ _ f0', keep_below (Ext.trans HEn.out y) _ _ f1', keep_below (Ext.trans HEn.out y) _ _ f2', keep_below (Ext.trans HEn.out y) _ _ f3'⟩, (HCq.out W y).1.1, (HCq.out W y).2⟩
        generalize cmpT vs[j].1 vs[j + 1].1 = c at HCM hval
        have HVAL := Lib.hid hval
        have j1 : (0 : Int) ≤ (j : Int) := by omega
        have j2 : (j : Int) < (vs.length : Int) := by omega
        have j3 : (0 : Int) ≤ (j : Int) + 1 := by omega
        have j4 : (j : Int) + 1 < (vs.length : Int) := by omega
        have q9 : decide ((0 : Int) < ((j + 1 : Nat) : Int)) = true := decide_eq_true (by omega)
        have hw1 : IntKind.i64.wrap (((j + 1 : Nat) : Int) - 1) = (j : Int) := (IntWalk.i64_in _ (by omega)).trans (by omega)
        have hw3 : IntKind.i64.wrap (j : Int) = (j : Int) := IntWalk.i64_in _ (by omega)
        have hw2 : IntKind.i64.wrap ((j : Int) + 1 - 1) = (j : Int) := (IntWalk.i64_in _ (by omega)).trans (by omega)
        clear hJ hs1 hs0 hval hdef f0' f1' f2' f3'
        go_upto_region 9 with (first
           | (go_at_call 46; refine (HV.out _ (Ext.refl wq)).mono ?_; rintro e w3 ⟨he, hB⟩; subst he; have HE3 : Hid (Ext wq w3) := Lib.hid hB; obtain ⟨⟨⟨f0, f1, f2, f3⟩, f4⟩, u0, u1⟩ := HCq.out _ hB; clear hB)
           | (go_at_call 88; refine (HX.out _ HE3.out).mono ?_; rintro e w4 ⟨he, hB⟩; subst he; have HE4 : Hid (Ext wq w4) := Lib.hid (Ext.trans HE3.out hB); obtain ⟨⟨⟨g0, g1, g2, g3⟩, g4⟩, v0, v1⟩ := HCq.out _ (Ext.trans HE3.out hB); clear hB))
        have hF0 := Ext.drew HE4.out
        clear x0 x1 x2 x3 x4 a2 a3 f0 f1 f2 f3 f4 u0 u1 g0 g1 g2 g3 g4 v0 v1
        obtain ⟨⟨z0, z1, z2, z3⟩, ⟨y0, y1, y2, y3⟩, t0, t1⟩ := HCr.out _ HE4.out
        by_cases hc : 0 ≤ c
        · have H : Hid (R = false) := by show _ = _; rw [HVi.out, HVAL.out, if_pos hc]; rfl
          have q10 : decide (0 ≤ c) = true := decide_eq_true hc
          clear hc
          go_region_held3 (fun W => (W.cell? ⟨b, o + j * 5, none⟩ = some (.int .i64 k3) ∧ W.cell? ⟨b, o + j * 5 + 1, none⟩ = some (.string n3) ∧ W.cell? ⟨b, o + j * 5 + 2, none⟩ = some (.int .i64 s3) ∧ W.cell? ⟨b, o + j * 5 + 3, none⟩ = some (.slice ya3 yl3 yc3)) ∧ (W.cell? ⟨q, 0, none⟩ = some (.int .i64 k) ∧ W.cell? ⟨q, 1, none⟩ = some (.string n) ∧ W.cell? ⟨q, 2, none⟩ = some (.int .i64 s) ∧ W.cell? ⟨q, 3, none⟩ = some (.slice ya yl yc)) ∧ (W.cell? ⟨w.heap.size, 0, none⟩ = some (.int .i64 md) ∧ W.cell? ⟨w.heap.size, 1, none⟩ = some (.slice (some ⟨b, o, none⟩) vs.length cv)))
            (first | exact HCr.out _ (by assumption) | go_keep)
            (first | (go_at_call 55; refine (HCM.out _ (Ext.trans HEn.out hF0)).mono ?_; rintro e w6 ⟨he, hB⟩; subst he; have hF1 : Ext wq w6 := hF0.trans hB; clear hB))
          all_goals (try go_wp2_with fail)
          all_goals go_ret
          all_goals exact ⟨by rw [H.out]; rfl, HFIN.out _ hF1⟩
        · have H : Hid (R = decide (ploop 35184372088832 (prevP vs (j + 2)) (vs.drop (j + 2)) = 0)) := by show _ = _; rw [HVi.out, HVAL.out, if_neg hc]
          have q10 : decide (0 ≤ c) = false := decide_eq_false hc
          clear hc
          go_region_held3 (fun W => (W.cell? ⟨b, o + j * 5, none⟩ = some (.int .i64 k3) ∧ W.cell? ⟨b, o + j * 5 + 1, none⟩ = some (.string n3) ∧ W.cell? ⟨b, o + j * 5 + 2, none⟩ = some (.int .i64 s3) ∧ W.cell? ⟨b, o + j * 5 + 3, none⟩ = some (.slice ya3 yl3 yc3)) ∧ (W.cell? ⟨q, 0, none⟩ = some (.int .i64 k) ∧ W.cell? ⟨q, 1, none⟩ = some (.string n) ∧ W.cell? ⟨q, 2, none⟩ = some (.int .i64 s) ∧ W.cell? ⟨q, 3, none⟩ = some (.slice ya yl yc)) ∧ (W.cell? ⟨w.heap.size, 0, none⟩ = some (.int .i64 md) ∧ W.cell? ⟨w.heap.size, 1, none⟩ = some (.slice (some ⟨b, o, none⟩) vs.length cv)))
            (first | exact HCr.out _ (by assumption) | go_keep)
            (first | (go_at_call 55; refine (HCM.out _ (Ext.trans HEn.out hF0)).mono ?_; rintro e w6 ⟨he, hB⟩; subst he; have hF1 : Ext wq w6 := hF0.trans hB; clear hB))
          all_goals (try go_wp2_with fail)
          all_goals go_roundw
          case rel => exact ⟨j + 2, by omega, by go_num, H, Ext.trans HE.out (Ext.trans HEn.out hF1)⟩
          case measure => simp [intOf]; omega

theorem prodsE_mk : ∀ {ls : List (List Pw)} {m : List Pw}, (∀ l ∈ ls, powE 1000 l = 0) → powE 1000 m = 0 → prodsE ls m = 0
  | [], _, _, h => h
  | l :: ls, m, h, hm => by
    rw [prodsE, if_pos (h l (List.mem_cons_self ..))]
    exact prodsE_mk (fun x hx => h x (List.mem_cons_of_mem _ hx)) hm
theorem van_val {md : Int} {vs ps : List Pw} (h : md = 0 ∨ 2 ≤ md ∧ md ≤ 35184372088832) : vanB md vs ps = decide (valR md vs ps = 0) := by
  unfold vanB valR
  by_cases h0 : md = 0
  · rw [if_pos h0, if_pos h0]
  · rw [if_neg h0, if_neg h0, Bool.eq_iff_iff, decide_eq_true_iff, decide_eq_true_iff, modR_zero (by omega)]
theorem cref_right {ls : List (List Pw)} {m vs : List Pw} {md : Int} (h : prodsE ls m = 0) : crefB ls m md vs = if rightB md vs = true then (ls.all (fun l => decide (valR md vs l = 0)) && !decide (valR md vs m = 0)) else false := by
  unfold crefB rightB
  rw [if_pos h]
  by_cases h1 : md = 0 ∨ 2 ≤ md ∧ md ≤ 35184372088832
  · rw [if_pos h1, decide_eq_true h1, Bool.true_and]
    by_cases h2 : powE 35184372088832 vs = 0
    · rw [if_pos h2, decide_eq_true h2, if_pos rfl, van_val h1]
      congr 1
      exact congrArg (fun f => ls.all f) (funext fun l => van_val h1)
    · rw [if_neg h2, decide_eq_false h2, if_neg (by decide)]
  · rw [if_neg h1, decide_eq_false h1, Bool.false_and, if_neg (by decide)]
set_option maxHeartbeats 6400000 in
set_option maxRecDepth 100000 in
theorem rcref_any (ls : List (List Pw)) (m vs : List Pw) (md : Int) (xa xm xv : Option Addr) (ca cm cv : Nat) (w : World) (hmo : i64ok md) (hl : ls.length ≤ 1073741824) (hz : ∀ l ∈ ls, l.length ≤ maxLen ∧ SzP 1073741824 l) (hR : PsRow w ls xa) (hm : m.length ≤ maxLen) (hzm : SzP 1073741824 m) (hRm : PRow w m xm) (hlv : vs.length ≤ 1073741824) (hzv : SzP 1073741824 vs) (hRv : PRow w vs xv) (hok : prodsE ls m = 0) :
    Calls Tryz.prog 32 #[.slice xa ls.length ca, .slice xm m.length cm, .agg #[.int .i64 md, .slice xv vs.length cv]] w fun e w' => e = .returned (.bool (crefB ls m md vs)) ∧ Below w.heap.size w w' := by
  have hb1 := heap_alloc_new w (.cells #[.int .i64 md, .slice xv vs.length cv] 53)
  have hE1 : Ext w (w.alloc (.cells #[.int .i64 md, .slice xv vs.length cv] 53)) := (Ext.refl w).alloc _
  have hs1 : (w.alloc (.cells #[.int .i64 md, .slice xv vs.length cv] 53)).heap.size = w.heap.size + 1 := World.size_alloc _ _
  obtain ⟨hvl, hvm⟩ := prodsE_ok hok
  have HVM := Lib.hid (fun W (y : Ext w W) => rpowE_any m xm cm W hm hzm (PRow_below (w' := W) hRm y))
  have HRI := Lib.hid (fun W (y : Ext w W) => right_any md vs xv cv W hmo hlv hzv (PRow_below (w' := W) hRv y))
  have HLL := Lib.hid (fun W (y : Ext w W) => PsRow_below (w' := W) hR y)
  have HVL := Lib.hid (fun (j : Nat) (h : j < ls.length) ya (c : Nat) W (hr : PRow W ls[j] ya) => rpowE_any ls[j] ya c W (hz _ (List.getElem_mem h)).1 (hz _ (List.getElem_mem h)).2 hr)
  have HVZ : Hid (∀ j (h : j < ls.length), powE 1000 ls[j] = 0) := fun j h => hvl _ (List.getElem_mem h)
  have HX1 : Hid (∀ W, Ext (w.alloc (.cells #[.int .i64 md, .slice xv vs.length cv] 53)) W → (W.cell? ⟨w.heap.size, 0, none⟩ = some (.int .i64 md) ∧ W.cell? ⟨w.heap.size, 1, none⟩ = some (.slice xv vs.length cv)) ∧ Ext w W) := fun W y => ⟨cells2 ((y.block _ (by rw [hs1]; exact Nat.lt_succ_self _)).trans hb1), Ext.trans hE1 y⟩
  have hr0 := Ext.refl (w.alloc (.cells #[.int .i64 md, .slice xv vs.length cv] 53))
  have HD := Lib.hid (cref_right (md := md) (vs := vs) hok)
  have HUS := Lib.hid (fun (hrt : rightB md vs = true) ps (hp : powE 1000 ps = 0) (hzp : SzP 1073741824 ps) xp (cp : Nat) W (y : Ext w W) (hr : PRow W ps xp) => by
    have h1 : (decide (md = 0 ∨ 2 ≤ md ∧ md ≤ 35184372088832) && decide (powE 35184372088832 vs = 0)) = true := hrt
    rw [Bool.and_eq_true, decide_eq_true_iff, decide_eq_true_iff] at h1
    exact value_any md vs ps xv xp cv cp W h1.1 hlv hzv (pow_abs (lim := 35184372088832) h1.2) (PRow_below (w' := W) hRv y) (powE_ok hp).1 hzp (pow_abs (lim := 1000) hp) hr)
  have HZL : Hid (∀ j (h : j < ls.length), SzP 1073741824 ls[j]) := fun j h => (hz _ (List.getElem_mem h)).2
  have HZM := Lib.hid hzm
  have HPM := Lib.hid hvm
  have HRM := Lib.hid (fun W (y : Ext w W) => PRow_below (w' := W) hRm y)
  rw [hvm] at HVM
  generalize crefB ls m md vs = R at HD ⊢
  obtain ⟨a0, a1⟩ := cells2 hb1
  have q0 : ((0 : Int) != 0) = false := rfl
  cases hrt : rightB md vs with
  | false =>
    have H : Hid (R = false) := by show _ = _; rw [HD.out, hrt]; rfl
    rw [hrt] at HRI
    clear hrt hb1 hE1 hs1 hvl hvm hok hR hRm hRv hz hzm hzv HUS HD hr0
    go_enter Tryz.func32, Tryz.ntmps32
    go_wp2_with (first
      | (go_at_call 53; refine (HVM.out _ ((Ext.refl w).alloc _)).mono ?_; rintro e w3 ⟨he, hB⟩; subst he; obtain ⟨⟨u0, u1⟩, hx⟩ := HX1.out _ hB; have HX3 := Lib.hid hx; clear hB hx)
      | (go_at_call 74; refine (HRI.out _ HX3.out).mono ?_; rintro e w4 ⟨he, hB⟩; subst he; have HX4 := Lib.hid (Ext.trans HX3.out hB); clear hB))
    go_ret
    exact ⟨by rw [H.out]; rfl, HX4.out⟩
  | true =>
    have HD2 : Hid (R = (ls.all (fun l => decide (valR md vs l = 0)) && !decide (valR md vs m = 0))) := by show _ = _; rw [HD.out, hrt]; rfl
    have HU := Lib.hid (HUS.out hrt)
    rw [hrt] at HRI
    clear hrt hb1 hE1 hs1 hvl hvm hok hR hRm hRv hz hzm hzv HUS HD
    go_enter Tryz.func32, Tryz.ntmps32
    go_wp2_with (first
      | (go_at_call 53; refine (HVM.out _ ((Ext.refl w).alloc _)).mono ?_; rintro e w3 ⟨he, hB⟩; subst he; have HY3 := Lib.hid (show Ext _ w3 from hB); obtain ⟨⟨u0, u1⟩, hx⟩ := HX1.out _ hB; have HX3 := Lib.hid hx; clear hB hx)
      | (go_at_call 74; refine (HRI.out _ HX3.out).mono ?_; rintro e w4 ⟨he, hB⟩; subst he; have HY4 := Lib.hid (Ext.trans HY3.out hB); clear hB))
    clear a0 a1 u0 u1 hr0
    go_loopw [7] (fun i wr => ∃ j : Nat, j ≤ ls.length ∧ i = .int .i64 j ∧ Hid (R = ((ls.drop j).all (fun l => decide (valR md vs l = 0)) && !decide (valR md vs m = 0))) ∧ Ext w4 wr) (fun i _ => ls.length - (intOf i).toNat)
    case atStart => exact ⟨0, Nat.zero_le _, rfl, HD2, Ext.refl _⟩
    case round =>
      obtain ⟨j, hj, rfl, HJ, hE⟩ := hrel
      have HE := Lib.hid hE
      have hE4 := Ext.trans HY4.out hE
      have HE4 := Lib.hid hE4
      obtain ⟨⟨a0, a1⟩, hw⟩ := HX1.out _ hE4
      have HW := Lib.hid hw
      by_cases hlt : j < ls.length
      rotate_left
      · have HR2 : Hid (R = !decide (valR md vs m = 0)) := by show _ = _; rw [HJ.out, List.drop_eq_nil_of_le (by omega)]; rfl
        have HC := Lib.hid (HU.out m HPM.out HZM.out xm cm wr hw (HRM.out wr hw))
        generalize valR md vs m = B at HC HR2
        clear hw hE hE4
        go_wp2_with (go_at_call 75; refine (HC.out).mono ?_; rintro e w6 ⟨he, hB⟩; subst he; have HB6 := Lib.hid (Ext.trans HW.out hB); clear hB)
        go_ret
        refine ⟨?_, HB6.out⟩
        rw [HR2.out]
        have hq : (B != 0) = !decide (B = 0) := by by_cases hB : B = 0 <;> simp [hB]
        rw [← hq]
        rfl
      obtain ⟨b, o, rfl⟩ := PsRow_at (HLL.out wr hw) (by omega)
      obtain ⟨ya, c, g0, hc, hr⟩ := PsRow_get (HLL.out wr hw) j hlt
      have HV := Lib.hid (fun W (y : Ext wr W) => HVL.out j hlt ya c W (PRow_below (w' := W) hr y))
      rw [HVZ.out j hlt] at HV
      have HC := Lib.hid (fun W (y : Ext wr W) => HU.out ls[j] (HVZ.out j hlt) (HZL.out j hlt) ya c W (Ext.trans HW.out y) (PRow_below (w' := W) hr y))
      have hd := List.drop_eq_getElem_cons hlt
      have HJ1 : Hid (R = (decide (valR md vs ls[j] = 0) && (ls.drop (j + 1)).all (fun l => decide (valR md vs l = 0)) && !decide (valR md vs m = 0))) := by show _ = _; rw [HJ.out, hd]; rfl
      obtain ⟨B, hB⟩ : ∃ B, valR md vs ls[j] = B := ⟨_, rfl⟩
      rw [hB] at HC HJ1
      have HCr : Hid (∀ W, Ext wr W → (fun W => W.cell? ⟨b, o + j, none⟩ = some (.slice ya ls[j].length c) ∧ (W.cell? ⟨w.heap.size, 0, none⟩ = some (.int .i64 md) ∧ W.cell? ⟨w.heap.size, 1, none⟩ = some (.slice xv vs.length cv))) W) := fun W y => ⟨keep_below y _ _ g0, (HX1.out W (Ext.trans HE4.out y)).1⟩
      obtain ⟨K, hK⟩ : ∃ K, ls[j].length = K := ⟨_, rfl⟩
      rw [hK] at HV HC HCr g0
      have i1 : (0 : Int) ≤ (j : Int) := by omega
      have i2 : (j : Int) < (ls.length : Int) := by omega
      have hF0 : Ext wr wr.drew := (Ext.refl wr).drew
      clear hw hE hE4 hr hB hd hK
      by_cases hB0 : B = 0
      · have HJ2 : Hid (R = ((ls.drop (j + 1)).all (fun l => decide (valR md vs l = 0)) && !decide (valR md vs m = 0))) := by show _ = _; rw [HJ1.out, decide_eq_true hB0, Bool.true_and]
        have q5 : (B != 0) = false := by simp [hB0]
        clear hB0
        go_upto_region 6 with fail
        go_region_held3 (fun W => W.cell? ⟨b, o + j, none⟩ = some (.slice ya K c) ∧ (W.cell? ⟨w.heap.size, 0, none⟩ = some (.int .i64 md) ∧ W.cell? ⟨w.heap.size, 1, none⟩ = some (.slice xv vs.length cv)))
          (first | exact HCr.out _ (by assumption) | go_keep)
          (first
            | (go_at_call 53; refine (HV.out _ hF0).mono ?_; rintro e w6 ⟨he, hB⟩; subst he; have hF1 : Ext wr w6 := hF0.trans hB; clear hB)
            | (go_at_call 75; refine (HC.out _ hF1).mono ?_; rintro e w7 ⟨he, hB⟩; subst he; have hF2 : Ext wr w7 := hF1.trans hB; clear hB))
        all_goals (try go_wp2_with fail)
        all_goals go_roundw
        case rel => exact ⟨j + 1, by omega, by go_num, HJ2, Ext.trans HE.out hF2⟩
        case measure => simp [intOf]; omega
      · have HR2 : Hid (R = false) := by show _ = _; rw [HJ1.out, decide_eq_false hB0]; rfl
        have q5 : (B != 0) = true := by simp [hB0]
        clear hB0
        go_upto_region 6 with fail
        go_region_held3 (fun W => W.cell? ⟨b, o + j, none⟩ = some (.slice ya K c) ∧ (W.cell? ⟨w.heap.size, 0, none⟩ = some (.int .i64 md) ∧ W.cell? ⟨w.heap.size, 1, none⟩ = some (.slice xv vs.length cv)))
          (first | exact HCr.out _ (by assumption) | go_keep)
          (first
            | (go_at_call 53; refine (HV.out _ hF0).mono ?_; rintro e w6 ⟨he, hB⟩; subst he; have hF1 : Ext wr w6 := hF0.trans hB; clear hB)
            | (go_at_call 75; refine (HC.out _ hF1).mono ?_; rintro e w7 ⟨he, hB⟩; subst he; have hF2 : Ext wr w7 := hF1.trans hB; clear hB))
        all_goals (try go_wp2_with fail)
        all_goals go_ret
        all_goals exact ⟨by rw [HR2.out]; rfl, Ext.trans HW.out hF2⟩
end Go.Proofs.YtcieadjjcpmieaaGreat
