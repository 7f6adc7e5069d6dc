/-
  WHAT MAKES A SUBSTITUTION VALID; the walks of subst.Valid and of the reference's Valid (by gen_bval.py).
-/
import Derived.Test.YtkfbbkkfagglhaaGreatDoorBnd
import Derived.BigQuiet
import Derived.Deep.RegionHeld3
namespace Go.Proofs.YtkfbbkkfagglhaaGreatDoor
open Go.RowKit

/-- The first error of bindings, behind a variable. -/
def vloop : Option Tm → List Bd → Int
  | _, [] => 0
  | p, b :: bs => if bindE b.1 b.2 = 0 then (match p with
      | some q => if 0 ≤ cmpT q b.1 then 5 else vloop (some b.1) bs
      | none => vloop (some b.1) bs) else bindE b.1 b.2
def validB (bs : List Bd) : Int := if 200 < bs.length then 3 else vloop none bs
def prevB (bs : List Bd) : Nat → Option Tm
  | 0 => none
  | i + 1 => (bs[i]?).map (·.1)
theorem prevB_succ {bs : List Bd} {i : Nat} (h : i < bs.length) : prevB bs (i + 1) = some bs[i].1 := by simp [prevB, h]
theorem vloop_cons (p : Option Tm) (b : Bd) (bs : List Bd) : vloop p (b :: bs) = if bindE b.1 b.2 = 0 then (match p with
      | some q => if 0 ≤ cmpT q b.1 then 5 else vloop (some b.1) bs
      | none => vloop (some b.1) bs) else bindE b.1 b.2 := by cases p <;> rfl
theorem vloop_bad {bs : List Bd} {i : Nat} (h : i < bs.length) (he : ¬ bindE bs[i].1 bs[i].2 = 0) : vloop (prevB bs i) (bs.drop i) = bindE bs[i].1 bs[i].2 := by
  rw [List.drop_eq_getElem_cons h, vloop_cons, if_neg he]
theorem vloop_first {bs : List Bd} (h : 0 < bs.length) (he : bindE bs[0].1 bs[0].2 = 0) : vloop (prevB bs 0) (bs.drop 0) = vloop (prevB bs 1) (bs.drop 1) := by
  rw [List.drop_eq_getElem_cons h, vloop_cons, if_pos he, prevB_succ h]
  rfl
theorem vloop_next {bs : List Bd} {j : Nat} (h : j + 1 < bs.length) (he : bindE bs[j + 1].1 bs[j + 1].2 = 0) : vloop (prevB bs (j + 1)) (bs.drop (j + 1)) = if 0 ≤ cmpT bs[j].1 bs[j + 1].1 then 5 else vloop (prevB bs (j + 2)) (bs.drop (j + 2)) := by
  rw [List.drop_eq_getElem_cons h, vloop_cons, if_pos he, prevB_succ (i := j) (by omega), prevB_succ h]
/-- All terms of the bindings are of a bounded size. -/
def SzB (n : Nat) (bs : List Bd) : Prop := ∀ b ∈ bs, size b.1 ≤ n ∧ size b.2 ≤ n

set_option maxHeartbeats 6400000 in
set_option maxRecDepth 100000 in
theorem bvalid_any (bs : List Bd) (xa : Option Addr) (cap : Nat) (w : World) (hcap : bs.length ≤ cap) (hlen : bs.length ≤ maxLen) (hsz : SzB 1073741824 bs) (hR : Row w (flatB bs) xa) :
    Calls Tryz.prog 52 #[.slice xa bs.length cap] w fun e w' => e = .returned (.int .i64 (validB bs)) ∧ Below w.heap.size w w' := by
  unfold maxLen at hlen
  by_cases h200 : 200 < bs.length
  · have H : Hid (validB bs = 3) := by show _ = _; unfold validB; rw [if_pos h200]
    have q : (200 : Int) < (bs.length : Int) := by omega
    clear h200 hR hsz
    go_enter Tryz.func52, Tryz.ntmps52
    go_wp2_with fail
    go_ret
    exact ⟨by rw [H.out]; rfl, Below.refl _ _⟩
  have HV : Hid (validB bs = vloop (prevB bs 0) (bs.drop 0)) := by show _ = _; unfold validB; rw [if_neg h200]; rfl
  have q : (bs.length : Int) ≤ 200 := by omega
  have HR := Lib.hid hR
  have HSZ := Lib.hid hsz
  have HC2 := Lib.hid hcap
  clear h200 hR hsz hcap
  go_enter Tryz.func52, Tryz.ntmps52
  go_wp2_with fail
  go_loopw [10] (fun i wr => ∃ j : Nat, j ≤ bs.length ∧ i = .int .i64 j ∧ Hid (validB bs = vloop (prevB bs j) (bs.drop j)) ∧ Ext w wr) (fun i _ => bs.length - (intOf i).toNat)
  case atStart => exact ⟨0, Nat.zero_le _, rfl, HV, Ext.refl w⟩
  case round =>
    obtain ⟨i, hi, rfl, HVi, hE⟩ := hrel
    have HE := Lib.hid hE
    by_cases hlt : i < bs.length
    rotate_left
    · have H : Hid (validB bs = 0) := by
        show _ = _
        rw [HVi.out, List.drop_eq_nil_of_le (by omega), vloop]
      clear hE
      go_wp2_with fail
      go_ret
      exact ⟨by rw [H.out]; rfl, HE.out⟩
    obtain ⟨b, o, rfl⟩ := Row_at HR.out (by rw [flatB_length]; omega)
    obtain ⟨⟨v0, v1, v2, v3, g0, g1, g2, g3, hIv⟩, t0, t1, t2, t3, g4, g5, g6, g7, hIt⟩ := bds_get (Row_below HR.out hE) i hlt
    obtain ⟨k, n, s, ya, yl, yc, rfl, rfl, rfl, rfl⟩ := Is_form hIv
    obtain ⟨k2, n2, s2, ya2, yl2, yc2, rfl, rfl, rfl, rfl⟩ := Is_form hIt
    rw [Nat.add_assoc] at g5 g6 g7
    have hs1 := HSZ.out _ (List.getElem_mem hlt)
    have HB := Lib.hid (fun W (x : Ext wr W) => bindingError_any bs[i].1 bs[i].2 _ _ _ _ _ _ _ _ W hs1.1 hs1.2 (Is_below (w' := W) hIv x) (Is_below (w' := W) hIt x))
    have i1 : (0 : Int) ≤ (i : Int) := by omega
    have i2 : (i : Int) < (bs.length : Int) := by omega
    have HIv := Lib.hid hIv
    by_cases he : bindE bs[i].1 bs[i].2 = 0
    rotate_left
    · have hval := vloop_bad hlt he
      generalize bindE bs[i].1 bs[i].2 = x at HB he hval
      have H : Hid (validB bs = x) := HVi.out.trans hval
      have q2 : (x != 0) = true := by rw [bne_iff_ne]; exact he
      clear hE hIv hIt hs1 he hval
      go_wp2_with (go_at_call 98; refine (HB.out _ (Ext.refl wr)).mono ?_; rintro e w3 ⟨he, hB⟩; subst he; have HE3 : Hid (Ext w w3) := Lib.hid (Ext.trans HE.out hB); clear hB)
      go_ret
      exact ⟨by rw [H.out]; rfl, HE3.out⟩
    cases i with
    | zero =>
      have hval := vloop_first hlt he
      have H : Hid (validB bs = vloop (prevB bs 1) (bs.drop 1)) := HVi.out.trans hval
      rw [he] at HB
      have q3 : decide ((0 : Int) < ((0 : Nat) : Int)) = false := rfl
      simp only [Nat.zero_mul, Nat.add_zero, Nat.reduceAdd] at g0 g1 g2 g3 g4 g5 g6 g7
      clear hE hIv hIt hs1 he hval
      go_upto_region 9 with (go_at_call 98; refine (HB.out _ (Ext.refl wr)).mono ?_; rintro e w3 ⟨he, hB⟩; subst he; have HE3 : Hid (Ext w w3) := Lib.hid (Ext.trans HE.out hB); clear hB)
      go_quiet (fail)
      go_wp2_with fail
      go_roundw
      case rel => exact ⟨1, by omega, by go_num, H, Ext.trans HE3.out (below_drewN (Below.refl _ _) _)⟩
      case measure => simp [intOf]; omega
    | succ j =>
      have hval := vloop_next hlt he
      rw [he] at HB
      obtain ⟨⟨u0, u1, u2, u3, f0, f1, f2, f3, hIu⟩, _⟩ := bds_get (Row_below HR.out hE) j (by omega)
      obtain ⟨k3, n3, s3, ya3, yl3, yc3, rfl, rfl, rfl, rfl⟩ := Is_form hIu
      have hs0 := HSZ.out bs[j] (List.getElem_mem (by omega))
      have HCM := Lib.hid (fun W (x : Ext wr W) => Compare_any bs[j].1 bs[j + 1].1 _ _ _ _ _ _ _ _ W (by omega) (by omega) (Is_below (w' := W) hIu x) (Is_below (w' := W) HIv.out x))
      have HCr : Hid (∀ W, Ext wr W → W.cell? ⟨b, o + j * 8, none⟩ = some (.int .i64 k3) ∧ W.cell? ⟨b, o + j * 8 + 1, none⟩ = some (.string n3) ∧ W.cell? ⟨b, o + j * 8 + 2, none⟩ = some (.int .i64 s3) ∧ W.cell? ⟨b, o + j * 8 + 3, none⟩ = some (.slice ya3 yl3 yc3) ∧ W.cell? ⟨b, o + (j + 1) * 8, none⟩ = some (.int .i64 k) ∧ W.cell? ⟨b, o + (j + 1) * 8 + 1, none⟩ = some (.string n) ∧ W.cell? ⟨b, o + (j + 1) * 8 + 2, none⟩ = some (.int .i64 s) ∧ W.cell? ⟨b, o + (j + 1) * 8 + 3, none⟩ = some (.slice ya yl yc)) := fun W h => ⟨keep_below h _ _ f0, keep_below h _ _ f1, keep_below h _ _ f2, keep_below h _ _ f3, keep_below h _ _ g0, keep_below h _ _ g1, keep_below h _ _ g2, keep_below h _ _ g3⟩
      generalize cmpT bs[j].1 bs[j + 1].1 = c at HCM hval
      have HVAL := Lib.hid hval
      have j1 : (0 : Int) ≤ (j : Int) := by omega
      have j2 : (j : Int) < (bs.length : Int) := by omega
      have j3 : (0 : Int) ≤ (j : Int) + 1 := by omega
      have j4 : (j : Int) + 1 < (bs.length : Int) := by omega
      have q3 : decide ((0 : Int) < ((j + 1 : Nat) : Int)) = true := decide_eq_true (by omega)
      have hw1 : IntKind.i64.wrap (((j + 1 : Nat) : Int) - 1) = (j : Int) := (IntWalk.i64_in _ (by omega)).trans (by omega)
      have hw3 : IntKind.i64.wrap (j : Int) = (j : Int) := IntWalk.i64_in _ (by omega)
      have hw2 : IntKind.i64.wrap ((j : Int) + 1 - 1) = (j : Int) := (IntWalk.i64_in _ (by omega)).trans (by omega)
      clear hE hIv hIt hIu hs1 hs0 he hval f0 f1 f2 f3
      go_upto_region 9 with (go_at_call 98; refine (HB.out _ (Ext.refl wr)).mono ?_; rintro e w3 ⟨he, hB⟩; subst he; have HE3 : Hid (Ext wr w3) := Lib.hid hB; clear hB)
      clear g0 g1 g2 g3 g4 g5 g6 g7
      obtain ⟨f0, f1, f2, f3, g0, g1, g2, g3⟩ := HCr.out _ HE3.out
      have hF0 : Ext wr w3.drew := Ext.drew HE3.out
      by_cases hc : 0 ≤ c
      · have H : Hid (validB bs = 5) := by show _ = _; rw [HVi.out, HVAL.out, if_pos hc]
        have q4 : decide (0 ≤ c) = true := decide_eq_true hc
        clear hc
        go_region_held3 (fun W => W.cell? ⟨b, o + j * 8, none⟩ = some (.int .i64 k3) ∧ W.cell? ⟨b, o + j * 8 + 1, none⟩ = some (.string n3) ∧ W.cell? ⟨b, o + j * 8 + 2, none⟩ = some (.int .i64 s3) ∧ W.cell? ⟨b, o + j * 8 + 3, none⟩ = some (.slice ya3 yl3 yc3) ∧ W.cell? ⟨b, o + (j + 1) * 8, none⟩ = some (.int .i64 k) ∧ W.cell? ⟨b, o + (j + 1) * 8 + 1, none⟩ = some (.string n) ∧ W.cell? ⟨b, o + (j + 1) * 8 + 2, none⟩ = some (.int .i64 s) ∧ W.cell? ⟨b, o + (j + 1) * 8 + 3, none⟩ = some (.slice ya yl yc))
          (first | exact HCr.out _ (by assumption) | go_keep)
          (first | (go_at_call 83; refine (HCM.out _ hF0).mono ?_; rintro e w4 ⟨he, hB⟩; subst he; have hF1 : Ext wr w4 := hF0.trans hB; clear hB))
        all_goals (try go_wp2_with fail)
        all_goals go_ret
        all_goals exact ⟨by rw [H.out]; rfl, Ext.trans HE.out hF1⟩
      · have H : Hid (validB bs = vloop (prevB bs (j + 2)) (bs.drop (j + 2))) := by show _ = _; rw [HVi.out, HVAL.out, if_neg hc]
        have q4 : decide (0 ≤ c) = false := decide_eq_false hc
        clear hc
        go_region_held3 (fun W => W.cell? ⟨b, o + j * 8, none⟩ = some (.int .i64 k3) ∧ W.cell? ⟨b, o + j * 8 + 1, none⟩ = some (.string n3) ∧ W.cell? ⟨b, o + j * 8 + 2, none⟩ = some (.int .i64 s3) ∧ W.cell? ⟨b, o + j * 8 + 3, none⟩ = some (.slice ya3 yl3 yc3) ∧ W.cell? ⟨b, o + (j + 1) * 8, none⟩ = some (.int .i64 k) ∧ W.cell? ⟨b, o + (j + 1) * 8 + 1, none⟩ = some (.string n) ∧ W.cell? ⟨b, o + (j + 1) * 8 + 2, none⟩ = some (.int .i64 s) ∧ W.cell? ⟨b, o + (j + 1) * 8 + 3, none⟩ = some (.slice ya yl yc))
          (first | exact HCr.out _ (by assumption) | go_keep)
          (first | (go_at_call 83; refine (HCM.out _ hF0).mono ?_; rintro e w4 ⟨he, hB⟩; subst he; have hF1 : Ext wr w4 := hF0.trans hB; clear hB))
        all_goals (try go_wp2_with fail)
        all_goals go_roundw
        case rel => exact ⟨j + 2, by omega, by go_num, H, Ext.trans HE.out hF1⟩
        case measure => simp [intOf]; omega

end Go.Proofs.YtkfbbkkfagglhaaGreatDoor

/-
  THE WALK OF the reference's Same (layer 2) (by gen_bsame.py).
-/
namespace Go.Proofs.YtkfbbkkfagglhaaGreatDoor
open Go.RowKit

theorem cmp_eq_iff (t u : Tm) : (cmpT t u == 0) = true ↔ t = u := by
  rw [beq_iff_eq]
  constructor
  · intro h; exact cmpT_zero _ _ h
  · rintro rfl; exact cmpT_self _

set_option maxHeartbeats 6400000 in
set_option maxRecDepth 100000 in
/-- Equal lists (all that is asked: its results are equal wherever a law asks). -/
theorem bsame_eq (bs : List Bd) (xa ya : Option Addr) (cap cap2 : Nat) (w : World) (hcap : bs.length ≤ cap) (hcap2 : bs.length ≤ cap2) (hlen : bs.length ≤ maxLen) (hsz : SzB 1073741824 bs) (hR : Row w (flatB bs) xa) (hR2 : Row w (flatB bs) ya) :
    Calls Tryz.prog 18 #[.slice xa bs.length cap, .slice ya bs.length cap2] w fun e w' => e = .returned (.bool true) ∧ Below w.heap.size w w' := by
  unfold maxLen at hlen
  have q : ((bs.length : Int) != (bs.length : Int)) = false := by simp
  have HR := Lib.hid hR
  have HR2 := Lib.hid hR2
  have HSZ := Lib.hid hsz
  have HCC := Lib.hid (And.intro hcap hcap2)
  clear hR hR2 hsz hcap hcap2
  go_enter Tryz.func18, Tryz.ntmps18
  go_wp2_with fail
  go_loopw [5] (fun i wr => ∃ j : Nat, j ≤ bs.length ∧ i = .int .i64 j ∧ Ext w wr) (fun i _ => bs.length - (intOf i).toNat)
  case atStart => exact ⟨0, Nat.zero_le _, rfl, Ext.refl w⟩
  case round =>
    obtain ⟨i, hi, rfl, hE⟩ := hrel
    have HE := Lib.hid hE
    by_cases hlt : i < bs.length
    rotate_left
    · clear hE
      go_wp2_with fail
      go_ret
      exact ⟨rfl, HE.out⟩
    obtain ⟨b, o, rfl⟩ := Row_at HR.out (by rw [flatB_length]; omega)
    obtain ⟨b2, o2, rfl⟩ := Row_at HR2.out (by rw [flatB_length]; omega)
    obtain ⟨⟨v0, v1, v2, v3, g0, g1, g2, g3, hI1⟩, t0, t1, t2, t3, g4, g5, g6, g7, hI2⟩ := bds_get (Row_below HR.out hE) i hlt
    obtain ⟨⟨p0, p1, p2, p3, h0, h1, h2, h3, hI3⟩, u0, u1, u2, u3, h4, h5, h6, h7, hI4⟩ := bds_get (Row_below HR2.out hE) i hlt
    obtain ⟨k1, n1, s1, ya1, yl1, yc1, rfl, rfl, rfl, rfl⟩ := Is_form hI1
    obtain ⟨k2, n2, s2, ya2, yl2, yc2, rfl, rfl, rfl, rfl⟩ := Is_form hI2
    obtain ⟨k3, n3, s3, ya3, yl3, yc3, rfl, rfl, rfl, rfl⟩ := Is_form hI3
    obtain ⟨k4, n4, s4, ya4, yl4, yc4, rfl, rfl, rfl, rfl⟩ := Is_form hI4
    rw [Nat.add_assoc] at g5 g6 g7 h5 h6 h7
    have hz1 := HSZ.out bs[i] (List.getElem_mem hlt)
    have hC1 := fun W (x : Ext wr W) => same_any bs[i].1 bs[i].1 _ _ _ _ _ _ _ _ W (by omega) (by omega) (Is_below (w' := W) hI1 x) (Is_below (w' := W) hI3 x)
    have hC2 := fun W (x : Ext wr W) => same_any bs[i].2 bs[i].2 _ _ _ _ _ _ _ _ W (by omega) (by omega) (Is_below (w' := W) hI2 x) (Is_below (w' := W) hI4 x)
    have e1 : (cmpT bs[i].1 bs[i].1 == 0) = true := (cmp_eq_iff _ _).2 rfl
    have e2 : (cmpT bs[i].2 bs[i].2 == 0) = true := (cmp_eq_iff _ _).2 rfl
    rw [e1] at hC1
    rw [e2] at hC2
    have HC1 := Lib.hid hC1
    have HC2 := Lib.hid hC2
    have HCr : Hid (∀ W, Ext wr W → (W.cell? ⟨b, o + i * 8, none⟩ = some (.int .i64 k1) ∧ W.cell? ⟨b, o + i * 8 + 1, none⟩ = some (.string n1) ∧ W.cell? ⟨b, o + i * 8 + 2, none⟩ = some (.int .i64 s1) ∧ W.cell? ⟨b, o + i * 8 + 3, none⟩ = some (.slice ya1 yl1 yc1)) ∧ (W.cell? ⟨b, o + i * 8 + 4, none⟩ = some (.int .i64 k2) ∧ W.cell? ⟨b, o + i * 8 + 5, none⟩ = some (.string n2) ∧ W.cell? ⟨b, o + i * 8 + 6, none⟩ = some (.int .i64 s2) ∧ W.cell? ⟨b, o + i * 8 + 7, none⟩ = some (.slice ya2 yl2 yc2)) ∧ (W.cell? ⟨b2, o2 + i * 8, none⟩ = some (.int .i64 k3) ∧ W.cell? ⟨b2, o2 + i * 8 + 1, none⟩ = some (.string n3) ∧ W.cell? ⟨b2, o2 + i * 8 + 2, none⟩ = some (.int .i64 s3) ∧ W.cell? ⟨b2, o2 + i * 8 + 3, none⟩ = some (.slice ya3 yl3 yc3)) ∧ (W.cell? ⟨b2, o2 + i * 8 + 4, none⟩ = some (.int .i64 k4) ∧ W.cell? ⟨b2, o2 + i * 8 + 5, none⟩ = some (.string n4) ∧ W.cell? ⟨b2, o2 + i * 8 + 6, none⟩ = some (.int .i64 s4) ∧ W.cell? ⟨b2, o2 + i * 8 + 7, none⟩ = some (.slice ya4 yl4 yc4))) := fun W h => ⟨⟨keep_below h _ _ g0, keep_below h _ _ g1, keep_below h _ _ g2, keep_below h _ _ g3⟩, ⟨keep_below h _ _ g4, keep_below h _ _ g5, keep_below h _ _ g6, keep_below h _ _ g7⟩, ⟨keep_below h _ _ h0, keep_below h _ _ h1, keep_below h _ _ h2, keep_below h _ _ h3⟩, ⟨keep_below h _ _ h4, keep_below h _ _ h5, keep_below h _ _ h6, keep_below h _ _ h7⟩⟩
    have i1 : (0 : Int) ≤ (i : Int) := by omega
    have i2 : (i : Int) < (bs.length : Int) := by omega
    have hF0 : Ext wr wr.drew := (Ext.refl wr).drew
    have tok1 : True := trivial
    clear hE hI1 hI2 hI3 hI4 hz1 e1 e2 hC1 hC2
    go_wp2_with fail
    go_region_held3 (fun W => (W.cell? ⟨b, o + i * 8, none⟩ = some (.int .i64 k1) ∧ W.cell? ⟨b, o + i * 8 + 1, none⟩ = some (.string n1) ∧ W.cell? ⟨b, o + i * 8 + 2, none⟩ = some (.int .i64 s1) ∧ W.cell? ⟨b, o + i * 8 + 3, none⟩ = some (.slice ya1 yl1 yc1)) ∧ (W.cell? ⟨b, o + i * 8 + 4, none⟩ = some (.int .i64 k2) ∧ W.cell? ⟨b, o + i * 8 + 5, none⟩ = some (.string n2) ∧ W.cell? ⟨b, o + i * 8 + 6, none⟩ = some (.int .i64 s2) ∧ W.cell? ⟨b, o + i * 8 + 7, none⟩ = some (.slice ya2 yl2 yc2)) ∧ (W.cell? ⟨b2, o2 + i * 8, none⟩ = some (.int .i64 k3) ∧ W.cell? ⟨b2, o2 + i * 8 + 1, none⟩ = some (.string n3) ∧ W.cell? ⟨b2, o2 + i * 8 + 2, none⟩ = some (.int .i64 s3) ∧ W.cell? ⟨b2, o2 + i * 8 + 3, none⟩ = some (.slice ya3 yl3 yc3)) ∧ (W.cell? ⟨b2, o2 + i * 8 + 4, none⟩ = some (.int .i64 k4) ∧ W.cell? ⟨b2, o2 + i * 8 + 5, none⟩ = some (.string n4) ∧ W.cell? ⟨b2, o2 + i * 8 + 6, none⟩ = some (.int .i64 s4) ∧ W.cell? ⟨b2, o2 + i * 8 + 7, none⟩ = some (.slice ya4 yl4 yc4)))
          (first | exact HCr.out _ (by assumption) | go_keep)
          (first
            | (go_at_call 27; have _t := tok1; refine (HC1.out _ hF0).mono ?_; rintro e w4 ⟨he, hB⟩; subst he; have hF1 : Ext wr w4 := hF0.trans hB; clear hB; clear tok1)
            | (go_at_call 27; refine (HC2.out _ hF1).mono ?_; rintro e w5 ⟨he, hB⟩; subst he; have hF2 : Ext wr w5 := hF1.trans hB; clear hB))
    all_goals (try go_wp2_with fail)
    all_goals go_roundw
    case rel => exact ⟨i + 1, by omega, by go_num, Ext.trans HE.out hF2⟩
    case measure => simp [intOf]; omega
end Go.Proofs.YtkfbbkkfagglhaaGreatDoor
