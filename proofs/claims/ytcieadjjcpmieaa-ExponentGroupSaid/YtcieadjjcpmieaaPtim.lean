/-
  THE GROUP'S OPERATIONS, third part: a power of a product, in the code and in the reference.
-/
import Derived.Test.YtcieadjjcpmieaaPmul
import Derived.Test.YtcieadjjcpmieaaPinv
namespace Go.Proofs.Ytcieadjjcpmieaa
open Go.RowKit

def timP (a : List Pw) (n : Int) : List Pw × Int := if powE 1000 a = 0 then (if farP n = true then ([], 7) else if n = 0 then ([], 0) else if tooG (scalP n a) = true then ([], 7) else (scalP n a, 0)) else ([], powE 1000 a)
set_option maxHeartbeats 1600000 in
set_option maxRecDepth 100000 in
theorem Times_any (a : List Pw) (n : Int) (xa : Option Addr) (ca : Nat) (w : World) (hla : a.length ≤ maxLen) (hsa : SzP 1073741824 a) (hA : PRow w a xa) :
    Calls Try.prog 8 #[.slice xa a.length ca, .int .i64 n] w (PePost w (timP a n)) := by
  have HVA := Lib.hid (prodE_any a xa ca w hla hsa hA)
  have HBY := Lib.hid (fun W => beyond_any n 1000 W (by omega) (by omega))
  have HD : Hid (timP a n = if powE 1000 a = 0 then (if farP n = true then ([], 7) else if n = 0 then ([], 0) else if tooG (scalP n a) = true then ([], 7) else (scalP n a, 0)) else ([], powE 1000 a)) := rfl
  have HFN : Hid ((decide (n < -1000) || decide (1000 < n)) = farP n) := rfl
  generalize timP a n = R at HD ⊢
  by_cases ha : powE 1000 a = 0
  rotate_left
  · have HE : Hid (R = ([], powE 1000 a)) := by show _ = _; rw [HD.out, if_neg ha]
    generalize powE 1000 a = E at ha HVA HE
    have q1 : (E != 0) = true := by rw [bne_iff_ne]; exact ha
    clear ha hA HD HBY HFN hsa hla
    go_enter Try.func8, Try.ntmps8
    go_wp2_with (go_at_call 20; refine (HVA.out).mono ?_; rintro e w1 ⟨he, hB⟩; subst he; have HB1 := Lib.hid hB; clear hB)
    exact bodyPost_ret (v := .tuple #[.slice none 0 0, .int .i64 E]) (by simp [results, Try.results8, go_sem]) rfl (PePost_err HE.out HB1.out)
  have hl := (powE_ok ha).1
  rw [ha] at HVA
  have HD2 : Hid (R = if farP n = true then ([], 7) else if n = 0 then ([], 0) else if tooG (scalP n a) = true then ([], 7) else (scalP n a, 0)) := by show _ = _; rw [HD.out, if_pos ha]
  have q0 : ((0 : Int) != 0) = false := rfl
  rw [HFN.out] at HBY
  clear ha HD HFN
  cases hf : farP n with
  | true =>
    rw [hf] at HBY
    have HE : Hid (R = ([], 7)) := by show _ = _; rw [HD2.out, if_pos hf]
    clear hf HD2 hA hsa hla
    go_enter Try.func8, Try.ntmps8
    go_wp2_with (first
      | (go_at_call 20; refine (HVA.out).mono ?_; rintro e w1 ⟨he, hB⟩; subst he; have HB1 := Lib.hid hB; clear hB)
      | (go_at_call 25; refine (HBY.out _).mono ?_; rintro e w2 ⟨he, hB⟩; subst he; subst hB))
    exact bodyPost_ret (v := .tuple #[.slice none 0 0, .int .i64 7]) (by simp [results, Try.results8, go_sem]) rfl (PePost_err HE.out HB1.out)
  | false =>
    rw [hf] at HBY
    have HD3 : Hid (R = if n = 0 then ([], 0) else if tooG (scalP n a) = true then ([], 7) else (scalP n a, 0)) := by show _ = _; rw [HD2.out, if_neg (by rw [hf]; simp)]
    clear hf HD2
    by_cases hn : n = 0
    · have HE : Hid (R = ([], 0)) := by show _ = _; rw [HD3.out, if_pos hn]
      subst hn
      have q1 : ((0 : Int) == 0) = true := rfl
      clear HD3 hA hsa hla
      go_enter Try.func8, Try.ntmps8
      go_wp2_with (first
        | (go_at_call 20; refine (HVA.out).mono ?_; rintro e w1 ⟨he, hB⟩; subst he; have HB1 := Lib.hid hB; clear hB)
        | (go_at_call 25; refine (HBY.out _).mono ?_; rintro e w2 ⟨he, hB⟩; subst he; subst hB))
      exact bodyPost_ret (v := .tuple #[.slice none 0 0, .int .i64 0]) (by simp [results, Try.results8, go_sem]) rfl (PePost_err HE.out HB1.out)
    have HD4 : Hid (R = if tooG (scalP n a) = true then ([], 7) else (scalP n a, 0)) := by show _ = _; rw [HD3.out, if_neg hn]
    have q1 : (n == 0) = false := by simp [hn]
    have HSC := Lib.hid (fun W (y : Ext w W) => scaled_any n a xa ca W (by omega) hsa (PRow_below (w' := W) hA y))
    have hsl := scalP_len n a
    have HTG := Lib.hid (fun x c W h => tooGreat_any (scalP n a) x c W (by omega) h)
    generalize scalP n a = S at HD4 HSC HTG hsl
    clear HD3 hA hsa hla hn
    cases hT : tooG S with
    | true =>
      have HE : Hid (R = ([], 7)) := by show _ = _; rw [HD4.out, if_pos hT]
      rw [hT] at HTG
      clear hT HD4 hsl
      go_enter Try.func8, Try.ntmps8
      go_wp2_with (first
        | (go_at_call 20; refine (HVA.out).mono ?_; rintro e w1 ⟨he, hB⟩; subst he; have HX1 : Hid (Ext w w1) := hB; clear hB)
        | (go_at_call 25; refine (HBY.out _).mono ?_; rintro e w2 ⟨he, hB⟩; subst he; subst hB)
        | (go_at_call 24; refine (HSC.out _ HX1.out).mono ?_; rintro e w3 ⟨x3, c3, he, hc, hr, hB⟩; subst he; have HX3 : Hid (Ext w w3) := Ext.trans HX1.out hB; have HR3 := Lib.hid hr; clear hc hr hB)
        | (go_at_call 23; refine (HTG.out _ _ _ HR3.out).mono ?_; rintro e w4 ⟨he, hB⟩; subst he; have HX4 : Hid (Ext w w4) := Ext.trans HX3.out hB; clear hB))
      exact bodyPost_ret (v := .tuple #[.slice none 0 0, .int .i64 7]) (by simp [results, Try.results8, go_sem]) rfl (PePost_err HE.out HX4.out)
    | false =>
      have HE : Hid (R = (S, 0)) := by show _ = _; rw [HD4.out, if_neg (by rw [hT]; simp)]
      rw [hT] at HTG
      clear hT HD4 hsl
      go_enter Try.func8, Try.ntmps8
      go_wp2_with (first
        | (go_at_call 20; refine (HVA.out).mono ?_; rintro e w1 ⟨he, hB⟩; subst he; have HX1 : Hid (Ext w w1) := hB; clear hB)
        | (go_at_call 25; refine (HBY.out _).mono ?_; rintro e w2 ⟨he, hB⟩; subst he; subst hB)
        | (go_at_call 24; refine (HSC.out _ HX1.out).mono ?_; rintro e w3 ⟨x3, c3, he, hc, hr, hB⟩; subst he; have HX3 : Hid (Ext w w3) := Ext.trans HX1.out hB; have HR3 := Lib.hid hr; have HC3 := Lib.hid hc; clear hc hr hB)
        | (go_at_call 23; refine (HTG.out _ _ _ HR3.out).mono ?_; rintro e w4 ⟨he, hB⟩; subst he; have HF : Hid (PePost w R (.returned (.tuple #[.slice x3 S.length c3, .int .i64 0])) w4) := Lib.hid (by rw [HE.out]; exact ⟨x3, c3, rfl, HC3.out, PRow_below HR3.out hB, Ext.trans (a := w) HX3.out hB⟩); clear hB))
      exact bodyPost_ret (v := .tuple #[.slice x3 S.length c3, .int .i64 0]) (by simp [results, Try.results8, go_sem]) rfl HF.out
theorem rangeE_scal {n : Int} {a : List Pw} (hl : a.length ≤ 200) : rangeE (scalP n a) = if tooG (scalP n a) = true then 7 else 0 := by
  have := scalP_len n a
  unfold rangeE
  split
  · rfl
  · rw [if_neg (by omega)]
end Go.Proofs.Ytcieadjjcpmieaa
