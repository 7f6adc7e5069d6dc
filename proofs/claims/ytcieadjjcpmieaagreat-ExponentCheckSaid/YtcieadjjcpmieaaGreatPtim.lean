/-
  THE GROUP'S OPERATIONS, third part: a power of a product, in the code and in the reference.
-/
import Derived.Test.YtcieadjjcpmieaaGreatPmul
import Derived.Test.YtcieadjjcpmieaaGreatPinv
namespace Go.Proofs.YtcieadjjcpmieaaGreat
open Go.RowKit

def timP (a : List Pw) (n : Int) : List Pw × Int := if powE 1000 a = 0 then (if farP n = true then ([], 7) else if n = 0 then ([], 0) else if tooG (scalP n a) = true then ([], 7) else (scalP n a, 0)) else ([], powE 1000 a)
set_option maxHeartbeats 1600000 in
set_option maxRecDepth 100000 in
theorem Times_any (a : List Pw) (n : Int) (xa : Option Addr) (ca : Nat) (w : World) (hla : a.length ≤ maxLen) (hsa : SzP 1073741824 a) (hA : PRow w a xa) :
    Calls Tryz.prog 23 #[.slice xa a.length ca, .int .i64 n] w (PePost w (timP a n)) := by
  have HVA := Lib.hid (prodE_any a xa ca w hla hsa hA)
  have HBY := Lib.hid (fun W => beyond_any n 1000 W (by omega) (by omega))
  have HD : Hid (timP a n = if powE 1000 a = 0 then (if farP n = true then ([], 7) else if n = 0 then ([], 0) else if tooG (scalP n a) = true then ([], 7) else (scalP n a, 0)) else ([], powE 1000 a)) := rfl
  have HFN : Hid ((decide (n < -1000) || decide (1000 < n)) = farP n) := rfl
  generalize timP a n = R at HD ⊢
  by_cases ha : powE 1000 a = 0
  rotate_left
  · have HE : Hid (R = ([], powE 1000 a)) := by show _ = _; rw [HD.out, if_neg ha]
    generalize powE 1000 a = E at ha HVA HE
    have q1 : (E != 0) = true := by rw [bne_iff_ne]; exact ha
    clear ha hA HD HBY HFN hsa hla
    go_enter Tryz.func23, Tryz.ntmps23
    go_wp2_with (go_at_call 49; refine (HVA.out).mono ?_; rintro e w1 ⟨he, hB⟩; subst he; have HB1 := Lib.hid hB; clear hB)
    exact bodyPost_ret (v := .tuple #[.slice none 0 0, .int .i64 E]) (by simp [results, Tryz.results23, go_sem]) rfl (PePost_err HE.out HB1.out)
  have hl := (powE_ok ha).1
  rw [ha] at HVA
  have HD2 : Hid (R = if farP n = true then ([], 7) else if n = 0 then ([], 0) else if tooG (scalP n a) = true then ([], 7) else (scalP n a, 0)) := by show _ = _; rw [HD.out, if_pos ha]
  have q0 : ((0 : Int) != 0) = false := rfl
  rw [HFN.out] at HBY
  clear ha HD HFN
  cases hf : farP n with
  | true =>
    rw [hf] at HBY
    have HE : Hid (R = ([], 7)) := by show _ = _; rw [HD2.out, if_pos hf]
    clear hf HD2 hA hsa hla
    go_enter Tryz.func23, Tryz.ntmps23
    go_wp2_with (first
      | (go_at_call 49; refine (HVA.out).mono ?_; rintro e w1 ⟨he, hB⟩; subst he; have HB1 := Lib.hid hB; clear hB)
      | (go_at_call 60; refine (HBY.out _).mono ?_; rintro e w2 ⟨he, hB⟩; subst he; subst hB))
    exact bodyPost_ret (v := .tuple #[.slice none 0 0, .int .i64 7]) (by simp [results, Tryz.results23, go_sem]) rfl (PePost_err HE.out HB1.out)
  | false =>
    rw [hf] at HBY
    have HD3 : Hid (R = if n = 0 then ([], 0) else if tooG (scalP n a) = true then ([], 7) else (scalP n a, 0)) := by show _ = _; rw [HD2.out, if_neg (by rw [hf]; simp)]
    clear hf HD2
    by_cases hn : n = 0
    · have HE : Hid (R = ([], 0)) := by show _ = _; rw [HD3.out, if_pos hn]
      subst hn
      have q1 : ((0 : Int) == 0) = true := rfl
      clear HD3 hA hsa hla
      go_enter Tryz.func23, Tryz.ntmps23
      go_wp2_with (first
        | (go_at_call 49; refine (HVA.out).mono ?_; rintro e w1 ⟨he, hB⟩; subst he; have HB1 := Lib.hid hB; clear hB)
        | (go_at_call 60; refine (HBY.out _).mono ?_; rintro e w2 ⟨he, hB⟩; subst he; subst hB))
      exact bodyPost_ret (v := .tuple #[.slice none 0 0, .int .i64 0]) (by simp [results, Tryz.results23, go_sem]) rfl (PePost_err HE.out HB1.out)
    have HD4 : Hid (R = if tooG (scalP n a) = true then ([], 7) else (scalP n a, 0)) := by show _ = _; rw [HD3.out, if_neg hn]
    have q1 : (n == 0) = false := by simp [hn]
    have HSC := Lib.hid (fun W (y : Ext w W) => scaled_any n a xa ca W (by omega) hsa (PRow_below (w' := W) hA y))
    have hsl := scalP_len n a
    have HTG := Lib.hid (fun x c W h => tooGreat_any (scalP n a) x c W (by omega) h)
    generalize scalP n a = S at HD4 HSC HTG hsl
    clear HD3 hA hsa hla hn
    cases hT : tooG S with
    | true =>
      have HE : Hid (R = ([], 7)) := by show _ = _; rw [HD4.out, if_pos hT]
      rw [hT] at HTG
      clear hT HD4 hsl
      go_enter Tryz.func23, Tryz.ntmps23
      go_wp2_with (first
        | (go_at_call 49; refine (HVA.out).mono ?_; rintro e w1 ⟨he, hB⟩; subst he; have HX1 : Hid (Ext w w1) := hB; clear hB)
        | (go_at_call 60; refine (HBY.out _).mono ?_; rintro e w2 ⟨he, hB⟩; subst he; subst hB)
        | (go_at_call 45; refine (HSC.out _ HX1.out).mono ?_; rintro e w3 ⟨x3, c3, he, hc, hr, hB⟩; subst he; have HX3 : Hid (Ext w w3) := Ext.trans HX1.out hB; have HR3 := Lib.hid hr; clear hc hr hB)
        | (go_at_call 57; refine (HTG.out _ _ _ HR3.out).mono ?_; rintro e w4 ⟨he, hB⟩; subst he; have HX4 : Hid (Ext w w4) := Ext.trans HX3.out hB; clear hB))
      exact bodyPost_ret (v := .tuple #[.slice none 0 0, .int .i64 7]) (by simp [results, Tryz.results23, go_sem]) rfl (PePost_err HE.out HX4.out)
    | false =>
      have HE : Hid (R = (S, 0)) := by show _ = _; rw [HD4.out, if_neg (by rw [hT]; simp)]
      rw [hT] at HTG
      clear hT HD4 hsl
      go_enter Tryz.func23, Tryz.ntmps23
      go_wp2_with (first
        | (go_at_call 49; refine (HVA.out).mono ?_; rintro e w1 ⟨he, hB⟩; subst he; have HX1 : Hid (Ext w w1) := hB; clear hB)
        | (go_at_call 60; refine (HBY.out _).mono ?_; rintro e w2 ⟨he, hB⟩; subst he; subst hB)
        | (go_at_call 45; refine (HSC.out _ HX1.out).mono ?_; rintro e w3 ⟨x3, c3, he, hc, hr, hB⟩; subst he; have HX3 : Hid (Ext w w3) := Ext.trans HX1.out hB; have HR3 := Lib.hid hr; have HC3 := Lib.hid hc; clear hc hr hB)
        | (go_at_call 57; refine (HTG.out _ _ _ HR3.out).mono ?_; rintro e w4 ⟨he, hB⟩; subst he; have HF : Hid (PePost w R (.returned (.tuple #[.slice x3 S.length c3, .int .i64 0])) w4) := Lib.hid (by rw [HE.out]; exact ⟨x3, c3, rfl, HC3.out, PRow_below HR3.out hB, Ext.trans (a := w) HX3.out hB⟩); clear hB))
      exact bodyPost_ret (v := .tuple #[.slice x3 S.length c3, .int .i64 0]) (by simp [results, Tryz.results23, go_sem]) rfl HF.out
theorem rangeE_scal {n : Int} {a : List Pw} (hl : a.length ≤ 200) : rangeE (scalP n a) = if tooG (scalP n a) = true then 7 else 0 := by
  have := scalP_len n a
  unfold rangeE
  split
  · rfl
  · rw [if_neg (by omega)]
set_option maxHeartbeats 1600000 in
set_option maxRecDepth 100000 in
theorem rTimes_any (ps : List Pw) (n : Int) (xa : Option Addr) (cap : Nat) (w : World) (hla : ps.length ≤ maxLen) (hsa : SzP 1073741824 ps) (hR : PRow w ps xa) :
    Calls Tryz.prog 24 #[.slice xa ps.length cap, .int .i64 n] w (PePost w (timP ps n)) := by
  have HVA := Lib.hid (rpowE_any ps xa cap w hla hsa hR)
  have HD : Hid (timP ps n = if powE 1000 ps = 0 then (if farP n = true then ([], 7) else if n = 0 then ([], 0) else if tooG (scalP n ps) = true then ([], 7) else (scalP n ps, 0)) else ([], powE 1000 ps)) := rfl
  have HFN : Hid (farP n = (decide (n < -1000) || decide (1000 < n))) := rfl
  generalize timP ps n = R at HD ⊢
  by_cases ha : powE 1000 ps = 0
  rotate_left
  · have HE : Hid (R = ([], powE 1000 ps)) := by show _ = _; rw [HD.out, if_neg ha]
    generalize powE 1000 ps = E at ha HVA HE
    have q1 : (E != 0) = true := by rw [bne_iff_ne]; exact ha
    clear ha hR HD HFN hsa hla
    go_enter Tryz.func24, Tryz.ntmps24
    go_wp2_with (go_at_call 53; refine (HVA.out).mono ?_; rintro e w1 ⟨he, hB⟩; subst he; have HB1 := Lib.hid hB; clear hB)
    exact bodyPost_ret (v := .tuple #[.slice none 0 0, .int .i64 E]) (by simp [results, Tryz.results24, go_sem]) rfl (PePost_err HE.out HB1.out)
  have hl := (powE_ok ha).1
  rw [ha] at HVA
  have HD2 : Hid (R = if farP n = true then ([], 7) else if n = 0 then ([], 0) else if tooG (scalP n ps) = true then ([], 7) else (scalP n ps, 0)) := by show _ = _; rw [HD.out, if_pos ha]
  have q0 : ((0 : Int) != 0) = false := rfl
  clear ha HD
  by_cases hf1 : n < -1000
  · have HE : Hid (R = ([], 7)) := by show _ = _; rw [HD2.out, if_pos (by rw [HFN.out, decide_eq_true hf1]; rfl)]
    clear HD2 hR hsa hla HFN
    go_enter Tryz.func24, Tryz.ntmps24
    go_wp2_with (go_at_call 53; refine (HVA.out).mono ?_; rintro e w1 ⟨he, hB⟩; subst he; have HB1 := Lib.hid hB; clear hB)
    exact bodyPost_ret (v := .tuple #[.slice none 0 0, .int .i64 7]) (by simp [results, Tryz.results24, go_sem]) rfl (PePost_err HE.out HB1.out)
  by_cases hf2 : 1000 < n
  · have HE : Hid (R = ([], 7)) := by show _ = _; rw [HD2.out, if_pos (by rw [HFN.out, decide_eq_true hf2, Bool.or_true])]
    clear HD2 hR hsa hla HFN
    go_enter Tryz.func24, Tryz.ntmps24
    go_wp2_with (go_at_call 53; refine (HVA.out).mono ?_; rintro e w1 ⟨he, hB⟩; subst he; have HB1 := Lib.hid hB; clear hB)
    exact bodyPost_ret (v := .tuple #[.slice none 0 0, .int .i64 7]) (by simp [results, Tryz.results24, go_sem]) rfl (PePost_err HE.out HB1.out)
  have HD3 : Hid (R = if n = 0 then ([], 0) else if tooG (scalP n ps) = true then ([], 7) else (scalP n ps, 0)) := by show _ = _; rw [HD2.out, if_neg (by rw [HFN.out, decide_eq_false hf1, decide_eq_false hf2]; simp)]
  clear HD2 HFN
  by_cases hn : n = 0
  · have HE : Hid (R = ([], 0)) := by show _ = _; rw [HD3.out, if_pos hn]
    subst hn
    have q1 : ((0 : Int) != 0) = false := rfl
    have HRG := Lib.hid (fun W => inRange_any [] none 0 W (by simp) (Or.inl rfl))
    clear HD3 hR hsa hla
    go_enter Tryz.func24, Tryz.ntmps24
    go_wp2_with (go_at_call 53; refine (HVA.out).mono ?_; rintro e w1 ⟨he, hB⟩; subst he; have HB1 : Hid (Ext w w1) := hB; clear hB)
    go_loopw [7, 8] (fun v i wr => v = .slice none 0 0 ∧ i = .int .i64 0 ∧ Ext w wr) (fun _ _ _ => 0)
    case atStart => exact ⟨rfl, rfl, HB1.out⟩
    case round =>
      obtain ⟨rfl, rfl, hE⟩ := hrel
      have HE2 := Lib.hid hE
      clear hE
      by_cases h0 : (0 : Int) < (ps.length : Int)
      · go_wp2_with (go_at_call 59; refine (HRG.out _).mono ?_; rintro e w3 ⟨he, hB⟩; subst he; have HB3 : Hid (Ext w w3) := Ext.trans HE2.out hB; clear hB)
        exact bodyPost_ret (v := .tuple #[.slice none 0 0, .int .i64 0]) (by simp [results, Tryz.results24, go_sem]) rfl (PePost_err HE.out HB3.out)
      · go_wp2_with (go_at_call 59; refine (HRG.out _).mono ?_; rintro e w3 ⟨he, hB⟩; subst he; have HB3 : Hid (Ext w w3) := Ext.trans HE2.out hB; clear hB)
        exact bodyPost_ret (v := .tuple #[.slice none 0 0, .int .i64 0]) (by simp [results, Tryz.results24, go_sem]) rfl (PePost_err HE.out HB3.out)
  have q1 : (n != 0) = true := by simp [hn]
  have HD4 : Hid (R = if tooG (scalP n ps) = true then ([], 7) else (scalP n ps, 0)) := by show _ = _; rw [HD3.out, if_neg hn]
  have HRS := Lib.hid (rangeE_scal (n := n) hl)
  have HRG := Lib.hid (fun x c W h => inRange_any (scalP n ps) x c W (by rw [scalP_len]; omega) h)
  have HR := Lib.hid hR
  obtain ⟨i0, hi0, hz0, hz1, hz2⟩ := info_parts infoPw
  have HI0 := Lib.hid (And.intro hi0 (And.intro hz0 (And.intro hz1 hz2)))
  have hlen : ps.length ≤ 1048576 := by omega
  clear hR hi0 hz0 hz1 hz2 HD3 hsa hla hn
  go_enter Tryz.func24, Tryz.ntmps24
  go_wp2_with (go_at_call 53; refine (HVA.out).mono ?_; rintro e w1 ⟨he, hB⟩; subst he; have HB1 : Hid (Ext w w1) := hB; clear hB)
  go_loopw [7, 8] (fun v i wr => ∃ j : Nat, j ≤ ps.length ∧ i = .int .i64 j ∧ OwnP w.heap.size (fun b => b < w.heap.size) wr (scalP n (ps.take j)) v ∧ Below w.heap.size w wr) (fun _ i _ => ps.length - (intOf i).toNat)
  case atStart => exact ⟨0, Nat.zero_le _, rfl, OwnP_nil _ _ _, HB1.out⟩
  case round =>
    obtain ⟨j, hj, rfl, hO, hB⟩ := hrel
    by_cases hlt : j < ps.length
    rotate_left
    · obtain rfl : j = ps.length := by omega
      rw [List.take_length] at hO
      obtain ⟨xl, lcap, rfl⟩ := OwnP_form hO
      have HO2 := Lib.hid (OwnP_row hO)
      have HX2 : Hid (Ext w wr) := hB
      have hsl := scalP_len n ps
      generalize scalP n ps = S at HO2 HRG HRS HD4 hsl
      clear hO hB
      cases hT : tooG S with
      | true =>
        have HE : Hid (R = ([], 7)) := by show _ = _; rw [HD4.out, if_pos hT]
        have hr7 : rangeE S = 7 := by rw [HRS.out, if_pos hT]
        rw [hr7] at HRG
        clear hT hr7 hsl HRS HD4
        go_wp2_with (go_at_call 59; refine (HRG.out _ _ _ HO2.out.1).mono ?_; rintro e w3 ⟨he, hB⟩; subst he; have HB3 : Hid (Ext w w3) := Ext.trans HX2.out hB; clear hB)
        exact bodyPost_ret (v := .tuple #[.slice none 0 0, .int .i64 7]) (by simp [results, Tryz.results24, go_sem]) rfl (PePost_err HE.out HB3.out)
      | false =>
        have HE : Hid (R = (S, 0)) := by show _ = _; rw [HD4.out, if_neg (by rw [hT]; simp)]
        have hr7 : rangeE S = 0 := by rw [HRS.out, if_neg (by rw [hT]; simp)]
        rw [hr7] at HRG
        clear hT hr7 hsl HRS HD4
        go_wp2_with (go_at_call 59; refine (HRG.out _ _ _ HO2.out.1).mono ?_; rintro e w3 ⟨he, hB⟩; subst he; have HF : Hid (PePost w R (.returned (.tuple #[.slice xl S.length lcap, .int .i64 0])) w3) := Lib.hid (by rw [HE.out]; exact ⟨xl, lcap, rfl, HO2.out.2, PRow_below HO2.out.1 hB, Ext.trans (a := w) HX2.out hB⟩); clear hB)
        exact bodyPost_ret (v := .tuple #[.slice xl S.length lcap, .int .i64 0]) (by simp [results, Tryz.results24, go_sem]) rfl HF.out
    obtain ⟨xl, lcap, rfl⟩ := OwnP_form hO
    obtain ⟨b, o, rfl⟩ := PRow_at HR.out (by omega)
    obtain ⟨⟨c0, c1, c2, c3, f0, f1, f2, f3, hIw⟩, f4, hno⟩ := PRow_get HR.out j hlt
    obtain ⟨kk, nm, s, za, zl, zc, rfl, rfl, rfl, rfl⟩ := Is_form hIw
    have HIB : Hid (IsIn (fun b => b < w.heap.size) wr ps[j].1 (.int .i64 kk) (.string nm) (.int .i64 s) (.slice za zl zc)) := IsIn_carry (fun b hb => hB.block b hb) (fun _ h => h) _ _ _ _ _ (Is_IsIn _ _ _ _ _ hIw)
    have HCE : Hid (∀ W, Ext w W → (W.cell? ⟨b, o + j * 5, none⟩ = some (.int .i64 kk) ∧ W.cell? ⟨b, o + j * 5 + 1, none⟩ = some (.string nm) ∧ W.cell? ⟨b, o + j * 5 + 2, none⟩ = some (.int .i64 s) ∧ W.cell? ⟨b, o + j * 5 + 3, none⟩ = some (.slice za zl zc)) ∧ W.cell? ⟨b, o + j * 5 + 4, none⟩ = some (.int .i64 ps[j].2)) := fun W y => ⟨⟨keep_below y _ _ f0, keep_below y _ _ f1, keep_below y _ _ f2, keep_below y _ _ f3⟩, keep_below y _ _ f4⟩
    have HST := Lib.hid (scalP_take n ps j hlt)
    obtain ⟨M, hM⟩ : ∃ M, wrap64 (ps[j].2 * n) = M := ⟨_, rfl⟩
    have HMO : Hid (i64ok M) := by rw [← hM]; exact wrap_ok _
    have hM2 : IntKind.i64.wrap (n * ps[j].2) = M := (IntWalk.i64_left _).trans (by rw [← hM, Int.mul_comm])
    rw [hM] at HST
    generalize ps[j].2 = N at HCE hM2
    generalize ps[j].1 = T at HIB HST
    clear f0 f1 f2 f3 f4 hIw hno hM
    have hll : (scalP n (ps.take j)).length = j := by rw [scalP_len, List.length_take]; omega
    obtain ⟨cs, hown, hK⟩ := hO
    rw [hll] at hown ⊢
    have HO := Lib.hid hown
    have HK := Lib.hid hK
    have HB := Lib.hid hB
    have HLL := Lib.hid hll
    have hws := hB.size
    have HPU : Hid (∀ gg cap2 w4 ob, w4.ownsRow w.heap.size 77 5 (.slice (some ⟨gg, 0, none⟩) (j + 1) cap2) (j + 1) (cs ++ [.int .i64 kk, .string nm, .int .i64 s, .slice za zl zc, .int .i64 M]) → (wr.drew.alloc ob).grownBy w4 (Value.slice xl j lcap).ownBlock → OwnP w.heap.size (fun b => b < w.heap.size) w4 (scalP n (ps.take (j + 1))) (.slice (some ⟨gg, 0, none⟩) (j + 1) cap2) ∧ Below w.heap.size w w4) := by
      show ∀ _, _
      intro gg cap2 w4 ob ho hg
      have r := OwnP_push (w6 := wr.drew) HLL.out.symm HO.out HK.out (Nat.le_refl _) hws ((Ext.refl wr).drew) (IsIn_carry (w := wr) (w' := wr.drew) (fun _ _ => rfl) (fun _ h => h) _ _ _ _ _ HIB.out) HMO.out ho hg
      rw [HST.out]
      exact ⟨r.1, HB.out.trans r.2.1⟩
    obtain ⟨⟨e0, e1, e2, e3⟩, e4⟩ := HCE.out wr hB
    have i1 : (0 : Int) ≤ (j : Int) := by omega
    have i2 : (j : Int) < (ps.length : Int) := by omega
    clear hown hK hB hll HRG HRS HD4
    go_upto_region 10 with (fail)
    go_region_law ((refine step_append_lies _ (by rfl) _ _ _ (by rfl) w.heap.size 77 i0 _ 5 64 Tryz.underlying27 HI0.out.1 HI0.out.2.1 HI0.out.2.2.1 HI0.out.2.2.2 rfl (by omega) (.slice xl j lcap) j cs (by rfl) (by first | exact (HO.out.alloc _).drew | exact (own_heap (w' := wr.drew) HO.out (fun _ _ => rfl)).alloc _) ⟨wr.heap.size, 0, none⟩ 1 1 [.int .i64 kk, .string nm, .int .i64 s, .slice za zl zc, .int .i64 M] (by rfl) (by rfl) (World.news_of_block (cs := #[.int .i64 kk, .string nm, .int .i64 s, .slice za zl zc, .int .i64 M]) (t := 77) (fr := (0, 0)) (heap_alloc_new wr _)) (by simp [Value.oneCell']) (by omega) (by unfold maxLen; omega) (by omega) (by simp; omega) (wr.heap.size + 1) (by simp) ?_; intro gg cap8 w1 hown1 hgrow hat hltt; have HP8 := Lib.hid (HPU.out gg cap8 w1 _ hown1 hgrow); clear hown1 hgrow hat hltt))
    all_goals (go_wp2_with fail)
    all_goals (go_roundw)
    all_goals (first | exact ⟨j + 1, by omega, by go_num, HP8.out.1, HP8.out.2⟩ | (simp [intOf]; omega))
end Go.Proofs.YtcieadjjcpmieaaGreat
