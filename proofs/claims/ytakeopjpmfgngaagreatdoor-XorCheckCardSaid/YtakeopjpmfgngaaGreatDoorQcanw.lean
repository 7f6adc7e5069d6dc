/-
  THE WALK of cancelled (made by gen_qcan.py).
-/
import Derived.Test.YtakeopjpmfgngaaGreatDoorQcan
import Derived.Deep.RegionHeld3
import Derived.BigQuiet
namespace Go.Proofs.YtakeopjpmfgngaaGreatDoor
open Go.RowKit

/-- What is kept of the first j terms of a sorted row, and that the next one is greater than they. -/
def IVQ (qs K : List Tm) (j : Nat) : Prop := OddS K (qs.take j) ∧ ∀ (h : j < qs.length), ∀ p ∈ qs.take j, cmpT p qs[j] < 0
theorem IVQ.zero (qs : List Tm) : IVQ qs [] 0 := ⟨by simpa using OddS.nil, fun _ p hp => by simp at hp⟩
theorem IVQ.step {qs K : List Tm} {j j2 : Nat} (ha : AscQ qs) (h : IVQ qs K j) (hjl : j < qs.length) (h1 : j < j2) (h2 : j2 ≤ qs.length) (he : ∀ i (hi : i < qs.length), j ≤ i → i < j2 → qs[i] = qs[j]) (hn : ∀ h : j2 < qs.length, ¬ cmpT qs[j] qs[j2] = 0) :
    IVQ qs (if (j2 - j) % 2 = 1 then K ++ [qs[j]] else K) j2 := by
  have et : qs.take j2 = qs.take j ++ List.replicate (j2 - j) qs[j] := by
    have e1 : j2 = j + (j2 - j) := by omega
    rw [e1, List.take_add]
    congr 1
    rw [List.eq_replicate_iff]
    refine ⟨by rw [List.length_take, List.length_drop]; omega, fun b hb => ?_⟩
    obtain ⟨i, hi, rfl⟩ := List.mem_iff_getElem.1 hb
    rw [List.length_take, List.length_drop] at hi
    rw [List.getElem_take, List.getElem_drop]
    exact he _ (by omega) (by omega) (by omega)
  refine ⟨by rw [et]; exact h.1.run (h.2 hjl), fun hl p hp => ?_⟩
  have hlt : cmpT qs[j] qs[j2] < 0 := by
    have a1 := List.pairwise_iff_getElem.1 ha j j2 hjl hl h1
    have a2 := cmpT_anti qs[j] qs[j2]
    have a3 := hn hl
    omega
  rw [et, List.mem_append] at hp
  rcases hp with hp | hp
  · exact cmpT_trans (h.2 hjl p hp) hlt
  · rw [List.eq_of_mem_replicate hp]; exact hlt
theorem QR.skip {H g cap n j : Nat} {S : Nat → Prop} {w0 wr : World} {K qs : List Tm} (h : QR H g cap n S w0 K (qs.drop j) j wr) : ∀ m : Nat, j + m ≤ qs.length → QR H g cap n S w0 K (qs.drop (j + m)) (j + m) wr
  | 0, _ => h
  | m + 1, hm => by
    have r := QR.skip h m (by omega)
    rw [List.drop_eq_getElem_cons (by omega)] at r
    obtain ⟨_, _, _, _, _, _, _, _, _, _, r2⟩ := r.head
    exact r2
set_option maxHeartbeats 1600000 in
set_option maxRecDepth 100000 in
theorem xequal_any (t u : Tm) (c0 c1 c2 c3 d0 d1 d2 d3 : Value) (w : World) (ht : size t ≤ 4611686018427387904) (hu : size u ≤ 4611686018427387904) (hI : Is w t c0 c1 c2 c3) (hJ : Is w u d0 d1 d2 d3) :
    Calls Tryz.prog 57 #[.agg #[c0, c1, c2, c3], .agg #[d0, d1, d2, d3]] w fun e w' => e = .returned (.bool (cmpT t u == 0)) ∧ Gr w w' := by
  have HC := Lib.hid (cmp_grQ t u c0 c1 c2 c3 d0 d1 d2 d3 _ ht hu (Is_alloc (Is_alloc hI (.cells #[c0, c1, c2, c3] 26)) (.cells #[d0, d1, d2, d3] 26)) (Is_alloc (Is_alloc hJ (.cells #[c0, c1, c2, c3] 26)) (.cells #[d0, d1, d2, d3] 26)))
  clear hI hJ
  go_enter Tryz.func57, Tryz.ntmps57
  go_wp2_with (go_at_call 84; refine (HC.out).mono ?_; rintro e w' ⟨he, hB⟩; subst he)
  go_ret
  exact ⟨rfl, (((Gr.refl w).alloc _).alloc _).trans hB⟩
/-- What cancelled gives back. -/
def CanPost (H : Nat) (S : Nat → Prop) (w : World) (xa : Option Addr) (cap : Nat) (ps : List Tm) (e : Ending) (w' : World) : Prop :=
  ∃ K : List Tm, e = .returned (.slice xa K.length cap) ∧ OwnT H S w' K (.slice xa K.length cap) ∧ K.length ≤ ps.length ∧ OddS K ps ∧ Below H w w'
set_option maxHeartbeats 6400000 in
set_option maxRecDepth 100000 in
theorem cancelled_pos {H g n cap : Nat} {S : Nat → Prop} {ps : List Tm} {w : World} (hown : OwnT H S w ps (.slice (some ⟨g, 0, none⟩) n cap)) (hnp : n = ps.length) (hS : ∀ b, S b → b < w.heap.size ∧ b ≠ g) (hHw : H ≤ w.heap.size) (hn : 0 < n) (hsz : ∀ t ∈ ps, size t ≤ 1073741824) (hlt : n < 1073741824) :
    Calls Tryz.prog 62 #[.slice (some ⟨g, 0, none⟩) n cap] w (CanPost H S w (some ⟨g, 0, none⟩) cap ps) := by
  obtain ⟨cs, ho, hK⟩ := hown
  rw [← hnp] at ho
  have hgl := (ho.lt g rfl).2
  have HST := Lib.hid (sort_terms ho hK hS hHw hn hsz hlt)
  have HSb := Lib.hid hS
  have HHw := Lib.hid hHw
  have HSZ := Lib.hid hsz
  have HNP := Lib.hid hnp
  have HGL := Lib.hid hgl
  clear ho hK hS hHw hn hsz hnp hgl
  go_enter Tryz.func62, Tryz.ntmps62
  go_wp2_with (go_at_call 87; refine (HST.out).mono ?_; rintro e w5 ⟨he, qs, vs, ho, hK, hp, ha, hB, hsz5, hsm⟩; subst he; have HO5 := Lib.hid ho; have HK5 := Lib.hid hK; have HP := Lib.hid hp; have HA := Lib.hid ha; have HB5 := Lib.hid hB; have HSM := Lib.hid hsm; have HS5 := Lib.hid hsz5; clear ho hK hp ha hB hsz5 hsm)
  have HQL : Hid (qs.length = n) := by show _ = _; rw [HP.out.length_eq, HNP.out]
  have HQZ : Hid (∀ q ∈ qs, size q ≤ 1073741824) := by show ∀ _, _; exact fun q hq => HSZ.out q (HP.out.mem_iff.1 hq)
  have HSb5 : Hid (∀ b, S b → b < w5.heap.size ∧ b ≠ g) := fun b hb => ⟨Nat.lt_of_lt_of_le (HSb.out b hb).1 HS5.out, (HSb.out b hb).2⟩
  have HR0 : Hid (QR H g cap n S w5 [] qs 0 w5) := ⟨Below.refl _ _, fun _ _ _ => rfl, [], [], vs, HO5.out, rfl, HK5.out, Nat.le_refl _, by simp, HQL.out⟩
  have HEND : Hid (∀ W (K : List Tm), QR H g cap n S w5 K [] n W → K.length ≤ n → IVQ qs K n → CanPost H S w (some ⟨g, 0, none⟩) cap ps (.returned (.slice (some ⟨g, 0, none⟩) K.length cap)) W) := by
    show ∀ _, _
    intro W K hg hl hi
    refine ⟨K, rfl, hg.done, by rw [← HNP.out]; exact hl, ?_, HB5.out.trans hg.below⟩
    have := hi.1
    rw [← HQL.out, List.take_length] at this
    exact this.perm HP.out
  clear HST HO5 HK5 HSM
  go_loopw [3, 4] (fun kk i wr => ∃ (K : List Tm) (j : Nat), j ≤ n ∧ kk = .int .i64 K.length ∧ i = .int .i64 j ∧ Hid (IVQ qs K j) ∧ QR H g cap n S w5 K (qs.drop j) j wr) (fun _ i _ => n - (intOf i).toNat)
  case atStart => exact ⟨[], 0, Nat.zero_le _, rfl, rfl, IVQ.zero qs, HR0.out⟩
  case round =>
    obtain ⟨K, j, hj, rfl, rfl, HE, hr⟩ := hrel
    have HR := Lib.hid hr
    by_cases hjn : j < n
    rotate_left
    · have hnil : qs.drop j = [] := List.drop_eq_nil_of_le (by have := HQL.out; omega)
      have hjl : j = n := by omega
      have hkn : K.length ≤ n := by obtain ⟨_, _, _, _, _, _, h3, _⟩ := hr.row; omega
      have HQ : Hid (CanPost H S w (some ⟨g, 0, none⟩) cap ps (.returned (.slice (some ⟨g, 0, none⟩) K.length cap)) wr) := by
        show CanPost _ _ _ _ _ _ _ _
        refine HEND.out wr K ?_ hkn ?_
        · rw [hnil, hjl] at hr; exact hr
        · rw [← hjl]; exact HE.out
      have hnc : n ≤ cap := by obtain ⟨_, _, _, ho, _⟩ := hr.row; rcases ho.2 with ⟨e, _⟩ | ⟨_, _, _, e, _, _, h, _⟩ <;> simp at e; omega
      clear hr hnil
      go_wp2_with fail
      go_ret
      exact HQ.out
    obtain ⟨w1, hw1⟩ : ∃ v : World, v = wr := ⟨_, rfl⟩
    subst hw1
    have hjq : j < qs.length := by rw [HQL.out]; exact hjn
    have hdr := List.drop_eq_getElem_cons hjq
    rw [hdr] at hr
    obtain ⟨c0, c1, c2, c3, g0, g1, g2, g3, hI, _, _⟩ := hr.head
    have hkj : K.length ≤ j := by obtain ⟨_, _, _, _, _, _, h3, _⟩ := hr.row; exact h3
    obtain ⟨k, nm, s, ya, yl, yc, rfl, rfl, rfl, rfl⟩ := IsIn_form hI
    have hSw : ∀ b, S b → b < w1.heap.size := fun b hb => Nat.lt_of_lt_of_le (HSb5.out b hb).1 hr.below.size
    have HIx : Hid (∀ W, Ext w1 W → IsIn S W qs[j] (.int .i64 k) (.string nm) (.int .i64 s) (.slice ya yl yc)) := by show ∀ _, _; exact fun W x => IsIn_carry (S' := S) (fun b hb => x.block b (hSw b hb)) (fun _ h => h) _ _ _ _ _ hI
    have hgw := hr.lt
    have HCx : Hid (∀ W, Ext w1 W → W.cell? ⟨g, j * 4, none⟩ = some (.int .i64 k) ∧ W.cell? ⟨g, j * 4 + 1, none⟩ = some (.string nm) ∧ W.cell? ⟨g, j * 4 + 2, none⟩ = some (.int .i64 s) ∧ W.cell? ⟨g, j * 4 + 3, none⟩ = some (.slice ya yl yc)) := fun W x => ⟨keep_below x _ _ g0, keep_below x _ _ g1, keep_below x _ _ g2, keep_below x _ _ g3⟩
    have HRS : Hid (∀ W (j2 : Nat), j2 ≤ n → j ≤ j2 → Ext w1 W → QR H g cap n S w5 K (qs.drop j2) j2 W) := by
      show ∀ _, _
      intro W j2 h2 h1 x
      have e : j2 = j + (j2 - j) := by omega
      rw [e]
      exact (HR.out.ext x HSb5.out).skip _ (by rw [HQL.out]; omega)
    have HSTEP : Hid (∀ j2, j < j2 → j2 ≤ n → (∀ i (hi : i < qs.length), j ≤ i → i < j2 → qs[i] = qs[j]) → (∀ h : j2 < qs.length, ¬ cmpT qs[j] qs[j2] = 0) → IVQ qs (if (j2 - j) % 2 = 1 then K ++ [qs[j]] else K) j2) := by
      show ∀ _, _
      exact fun j2 a b c d => HE.out.step HA.out hjq a (by rw [HQL.out]; exact b) c d
    have hzT := HQZ.out _ (List.getElem_mem hjq)
    obtain ⟨T, hT⟩ : ∃ T, qs[j] = T := ⟨_, rfl⟩
    rw [hT] at HIx HSTEP hzT
    have HTJ := Lib.hid hT
    have hqn : qs.length = n := HQL.out
    clear hr hdr hI hT g0 g1 g2 g3
    go_wp2_with fail
    go_loopw [4] (fun i wr => ∃ (j2 : Nat), j ≤ j2 ∧ j2 ≤ n ∧ i = .int .i64 j2 ∧ Hid (∀ i (hi : i < qs.length), j ≤ i → i < j2 → qs[i] = T) ∧ Ext w1 wr) (fun i _ => n - (intOf i).toNat)
    case atStart => exact ⟨j, Nat.le_refl _, by omega, rfl, fun i hi h1 h2 => by omega, Ext.refl _⟩
    case round =>
      obtain ⟨j2, hj1, hj2, rfl, HEQ, hX⟩ := hrel
      obtain ⟨wx, hwx⟩ : ∃ v : World, v = wr := ⟨_, rfl⟩
      subst hwx
      have HXW := Lib.hid hX
      clear hX
      by_cases hjn2 : j2 < n
      rotate_left
      · have HNE : Hid (∀ h : j2 < qs.length, ¬ cmpT T qs[j2] = 0) := fun h => absurd h (by omega)
        have q5 : decide ((j2 : Int) < (n : Int)) = false := decide_eq_false (by omega)
        have hjj : j < j2 := by omega
        go_upto_region 6 with fail
        go_quiet (fail)
        by_cases hpar : (j2 - j) % 2 = 1
        rotate_left
        · have q34 : (((j2 : Int) - (j : Int)) % 2 == 1) = false := beq_eq_false_iff_ne.2 (by omega)
          have HI2 : Hid (IVQ qs K j2) := by show IVQ _ _ _; have := HSTEP.out j2 hjj hj2 HEQ.out HNE.out; rw [if_neg hpar] at this; exact this
          have HRE := Lib.hid (fun W x => HRS.out W j2 hj2 hj1 (HXW.out.trans x))
          clear hpar
          go_wp2_with fail
          go_roundw
          case rel => exact ⟨K, j2, by omega, rfl, rfl, HI2, HRE.out _ (by first | exact Ext.refl _ | exact below_drewN (Below.refl _ _) _)⟩
          case measure => simp [intOf]; omega
        · have q34 : (((j2 : Int) - (j : Int)) % 2 == 1) = true := beq_iff_eq.2 (by omega)
          have HI2 : Hid (IVQ qs (K ++ [T]) j2) := by show IVQ _ _ _; have := HSTEP.out j2 hjj hj2 HEQ.out HNE.out; rw [if_pos hpar] at this; exact this
          have hkj2 : K.length < j2 := by omega
          obtain ⟨⟨z0, z1, z2, z3, y0, y1, y2, y3⟩, hz, hkn⟩ := (HRS.out _ j2 hj2 hj1 HXW.out).room hkj2
          have v0 := hz (K.length * 4)
          have v1 := hz (K.length * 4 + 1)
          have v2 := hz (K.length * 4 + 2)
          have v3 := hz (K.length * 4 + 3)
          have HP6 := Lib.hid (fun W (x : Ext wx W) => (HRS.out W j2 hj2 hj1 (HXW.out.trans x)).put (t := T) hkj2 HSb5.out (HIx.out W (HXW.out.trans x)))
          obtain ⟨x0, x1, x2, x3⟩ := HCx.out _ HXW.out
          have k1 : (0 : Int) ≤ (K.length : Int) := by omega
          have k2 : (K.length : Int) < (n : Int) := by omega
          clear hpar hz
          go_wp2_with fail
          go_roundw
          case rel => exact ⟨K ++ [T], j2, by omega, by rw [List.length_append]; go_num, rfl, HI2, HP6.out _ (by first | exact Ext.refl _ | exact below_drewN (Below.refl _ _) _)⟩
          case measure => simp [intOf]; omega

      have hjq2 : j2 < qs.length := by omega
      have hG := HRS.out wx j2 hj2 hj1 HXW.out
      have hdr2 := List.drop_eq_getElem_cons hjq2
      rw [hdr2] at hG
      obtain ⟨d0, d1, d2, d3, b0, b1, b2, b3, hJ, _, _⟩ := hG.head
      obtain ⟨k3, n3, s3, ya3, yl3, yc3, rfl, rfl, rfl, rfl⟩ := IsIn_form hJ
      have hIv : Is wx T (.int .i64 k) (.string nm) (.int .i64 s) (.slice ya yl yc) := IsIn_Is _ _ _ _ _ (HIx.out wx HXW.out)
      have hJv := IsIn_Is _ _ _ _ _ hJ
      have hzJ := HQZ.out _ (List.getElem_mem hjq2)
      have HCM := Lib.hid (fun W (x : Ext wx W) => xequal_any T qs[j2] _ _ _ _ _ _ _ _ W (by omega) (by omega) (Is_below (w' := W) hIv x) (Is_below (w' := W) hJv x))
      have HCr : Hid (∀ W, Ext wx W → ((W.cell? ⟨g, j * 4, none⟩ = some (.int .i64 k) ∧ W.cell? ⟨g, j * 4 + 1, none⟩ = some (.string nm) ∧ W.cell? ⟨g, j * 4 + 2, none⟩ = some (.int .i64 s) ∧ W.cell? ⟨g, j * 4 + 3, none⟩ = some (.slice ya yl yc)) ∧ (W.cell? ⟨g, j2 * 4, none⟩ = some (.int .i64 k3) ∧ W.cell? ⟨g, j2 * 4 + 1, none⟩ = some (.string n3) ∧ W.cell? ⟨g, j2 * 4 + 2, none⟩ = some (.int .i64 s3) ∧ W.cell? ⟨g, j2 * 4 + 3, none⟩ = some (.slice ya3 yl3 yc3)))) := fun W x => ⟨HCx.out W (HXW.out.trans x), keep_below x _ _ b0, keep_below x _ _ b1, keep_below x _ _ b2, keep_below x _ _ b3⟩
      obtain ⟨x0, x1, x2, x3⟩ := HCx.out _ HXW.out
      have q5 : decide ((j2 : Int) < (n : Int)) = true := decide_eq_true (by omega)
      have i1 : (0 : Int) ≤ (j : Int) := by omega
      have i2 : (j : Int) < (n : Int) := by omega
      have i3 : (0 : Int) ≤ (j2 : Int) := by omega
      have i4 : (j2 : Int) < (n : Int) := by omega
      have hF0 : Ext wx wx.drew := (Ext.refl wx).drew
      obtain ⟨cz, hcz⟩ : ∃ cz, cmpT T qs[j2] = cz := ⟨_, rfl⟩
      have HCZ := Lib.hid hcz
      rw [hcz] at HCM
      clear hG hJ hIv hJv hdr2 hzJ hcz
      by_cases hz : cz = 0
      · have q7 : (cz == 0) = true := by simp [hz]
        rw [q7] at HCM
        have HE2 : Hid (∀ i (hi : i < qs.length), j ≤ i → i < j2 + 1 → qs[i] = T) := by
          show ∀ _, _
          intro i hi h1 h2
          by_cases he : i = j2
          · subst he; exact (cmpT_zero _ _ (by rw [HCZ.out]; exact hz)).symm
          · exact HEQ.out i hi h1 (by omega)
        clear hz q7
        go_upto_region 6 with fail
        go_region_held3 (fun W => ((W.cell? ⟨g, j * 4, none⟩ = some (.int .i64 k) ∧ W.cell? ⟨g, j * 4 + 1, none⟩ = some (.string nm) ∧ W.cell? ⟨g, j * 4 + 2, none⟩ = some (.int .i64 s) ∧ W.cell? ⟨g, j * 4 + 3, none⟩ = some (.slice ya yl yc)) ∧ (W.cell? ⟨g, j2 * 4, none⟩ = some (.int .i64 k3) ∧ W.cell? ⟨g, j2 * 4 + 1, none⟩ = some (.string n3) ∧ W.cell? ⟨g, j2 * 4 + 2, none⟩ = some (.int .i64 s3) ∧ W.cell? ⟨g, j2 * 4 + 3, none⟩ = some (.slice ya3 yl3 yc3))))
          (first | exact HCr.out _ (by assumption) | go_keep)
          (first | (go_at_call 57; refine (HCM.out _ hF0).mono ?_; rintro e w6 ⟨he, hB⟩; subst he; have hF1 : Ext wx w6 := hF0.trans hB.below; clear hB))
        have HX6 := Lib.hid (HXW.out.trans hF1)
        clear x0 x1 x2 x3 b0 b1 b2 b3 hF1 hF0
        go_wp2_with fail
        go_roundw
        case rel => exact ⟨j2 + 1, by omega, by omega, by go_num, HE2, HX6.out⟩
        case measure => simp [intOf]; omega
      · have q7 : (cz == 0) = false := by simp [hz]
        rw [q7] at HCM
        have HNE : Hid (∀ h : j2 < qs.length, ¬ cmpT T qs[j2] = 0) := by show ∀ _, _; intro _; rw [HCZ.out]; exact hz
        have hjj : j < j2 := by
          rcases Nat.lt_or_ge j j2 with h | h
          · exact h
          · have e : j2 = j := by omega
            subst e
            exact absurd (by have := HTJ.out; rw [this]; exact cmpT_self _) (HNE.out hjq2)
        clear hz q7
        go_upto_region 6 with fail
        go_region_held3 (fun W => ((W.cell? ⟨g, j * 4, none⟩ = some (.int .i64 k) ∧ W.cell? ⟨g, j * 4 + 1, none⟩ = some (.string nm) ∧ W.cell? ⟨g, j * 4 + 2, none⟩ = some (.int .i64 s) ∧ W.cell? ⟨g, j * 4 + 3, none⟩ = some (.slice ya yl yc)) ∧ (W.cell? ⟨g, j2 * 4, none⟩ = some (.int .i64 k3) ∧ W.cell? ⟨g, j2 * 4 + 1, none⟩ = some (.string n3) ∧ W.cell? ⟨g, j2 * 4 + 2, none⟩ = some (.int .i64 s3) ∧ W.cell? ⟨g, j2 * 4 + 3, none⟩ = some (.slice ya3 yl3 yc3))))
          (first | exact HCr.out _ (by assumption) | go_keep)
          (first | (go_at_call 57; refine (HCM.out _ hF0).mono ?_; rintro e w6 ⟨he, hB⟩; subst he; have hF1 : Ext wx w6 := hF0.trans hB.below; clear hB))
        have HX6 := Lib.hid (HXW.out.trans hF1)
        clear x0 x1 x2 x3 b0 b1 b2 b3 hF1 hF0 HXW HCr HCM
        obtain ⟨wx, hwx⟩ : ∃ v : World, v = w6 := ⟨_, rfl⟩
        subst hwx
        have HXW := HX6
        clear HX6
        by_cases hpar : (j2 - j) % 2 = 1
        rotate_left
        · have q34 : (((j2 : Int) - (j : Int)) % 2 == 1) = false := beq_eq_false_iff_ne.2 (by omega)
          have HI2 : Hid (IVQ qs K j2) := by show IVQ _ _ _; have := HSTEP.out j2 hjj hj2 HEQ.out HNE.out; rw [if_neg hpar] at this; exact this
          have HRE := Lib.hid (fun W x => HRS.out W j2 hj2 hj1 (HXW.out.trans x))
          clear hpar
          go_wp2_with fail
          go_roundw
          case rel => exact ⟨K, j2, by omega, rfl, rfl, HI2, HRE.out _ (by first | exact Ext.refl _ | exact below_drewN (Below.refl _ _) _)⟩
          case measure => simp [intOf]; omega
        · have q34 : (((j2 : Int) - (j : Int)) % 2 == 1) = true := beq_iff_eq.2 (by omega)
          have HI2 : Hid (IVQ qs (K ++ [T]) j2) := by show IVQ _ _ _; have := HSTEP.out j2 hjj hj2 HEQ.out HNE.out; rw [if_pos hpar] at this; exact this
          have hkj2 : K.length < j2 := by omega
          obtain ⟨⟨z0, z1, z2, z3, y0, y1, y2, y3⟩, hz, hkn⟩ := (HRS.out _ j2 hj2 hj1 HXW.out).room hkj2
          have v0 := hz (K.length * 4)
          have v1 := hz (K.length * 4 + 1)
          have v2 := hz (K.length * 4 + 2)
          have v3 := hz (K.length * 4 + 3)
          have HP6 := Lib.hid (fun W (x : Ext wx W) => (HRS.out W j2 hj2 hj1 (HXW.out.trans x)).put (t := T) hkj2 HSb5.out (HIx.out W (HXW.out.trans x)))
          obtain ⟨x0, x1, x2, x3⟩ := HCx.out _ HXW.out
          have k1 : (0 : Int) ≤ (K.length : Int) := by omega
          have k2 : (K.length : Int) < (n : Int) := by omega
          clear hpar hz
          go_wp2_with fail
          go_roundw
          case rel => exact ⟨K ++ [T], j2, by omega, by rw [List.length_append]; go_num, rfl, HI2, HP6.out _ (by first | exact Ext.refl _ | exact below_drewN (Below.refl _ _) _)⟩
          case measure => simp [intOf]; omega
end Go.Proofs.YtakeopjpmfgngaaGreatDoor
