/-
  THE LAW ExponentMul's WALK.
-/
import Derived.Test.YtgloecnmjieaiaaGreatPrmul
import Derived.Test.YtgloecnmjieaiaaGreatPtim
namespace Go.Proofs.YtgloecnmjieaiaaGreat
open Go.RowKit

theorem mulP_ok {a b : List Pw} (hsa : SzP 1073741824 a) (hsb : SzP 1073741824 b) : (mulP a b).1.length ≤ 400 ∧ SzP 1073741824 (mulP a b).1 := by
  unfold mulP
  split
  · rename_i ha
    split
    · rename_i hb
      split
      · have h := mul_step ha hb hsa hsb b.length
        rw [List.take_length] at h
        exact ⟨h.1, h.2.1⟩
      · exact ⟨by simp, fun p hp => by simp at hp⟩
    · exact ⟨by simp, fun p hp => by simp at hp⟩
  · exact ⟨by simp, fun p hp => by simp at hp⟩
theorem timP_ok {a : List Pw} {n : Int} (hsa : SzP 1073741824 a) : (timP a n).1.length ≤ 400 ∧ SzP 1073741824 (timP a n).1 := by
  unfold timP
  split
  · rename_i ha
    have hl := (powE_ok ha).1
    split
    · exact ⟨by simp, fun p hp => by simp at hp⟩
    · split
      · exact ⟨by simp, fun p hp => by simp at hp⟩
      · split
        · exact ⟨by simp, fun p hp => by simp at hp⟩
        · refine ⟨by rw [scalP_len]; omega, fun p hp => ?_⟩
          obtain ⟨q, hq, rfl⟩ := List.mem_map.1 hp
          exact hsa q hq
  · exact ⟨by simp, fun p hp => by simp at hp⟩
theorem few06_two (a b : List Pw) (most : Int) : few06 [a, b] 2 most = few (termsP (a ++ b)) most most := by
  unfold few06; simp
set_option maxHeartbeats 3200000 in
set_option maxRecDepth 100000 in
theorem laM_any (HA0 : Awake6Ok) (a b : List Pw) (n : Int) (xa xb : Option Addr) (ca cb : Nat) (w : World) (hca : a.length ≤ ca) (hcb : b.length ≤ cb) (hb : (a.length + b.length) * 56 ≤ 140737488355328) (hRa : PRow w a xa) (hRb : PRow w b xb) :
    Calls Tryz.prog 5 #[.slice xa a.length ca, .slice xb b.length cb, .int .i64 n] w fun e w' => e = .returned (.bool true) ∧ Below w.heap.size w w' := by
  have HA := Lib.hid HA0
  have HFE := Lib.hid (fun W (y : Ext w W) => by
    have h := few06_any [a, b] (some ⟨W.heap.size, 0, none⟩) 2 2 1000 (W.alloc (.cells #[.slice xa a.length ca, .slice xb b.length cb] 27)) (by simp; omega) (by simp) (fun l hl => by simp only [List.mem_cons, List.not_mem_nil, or_false] at hl; rcases hl with rfl | rfl <;> (unfold maxLen; omega)) (by omega) (by omega) (PsRow_pair rfl hca hcb (PRow_below (w' := W) hRa y) (PRow_below (w' := W) hRb y) _)
    rw [few06_two] at h
    exact h)
  cases hfew : few (termsP (a ++ b)) 1000 1000 with
  | false =>
    rw [hfew] at HFE
    clear hfew hRa hRb hca hcb
    go_enter Tryz.func5, Tryz.ntmps5
    have tok1 : True := trivial
    go_wp2_with (first
      | (go_at_call 10; have _t := tok1; refine (HA.out _).mono ?_; rintro e w1 ⟨he, hB⟩; subst he; have HX1 : Hid (Ext w w1) := hB; clear hB tok1)
      | (go_at_call 16; refine (HFE.out _ HX1.out).mono ?_; rintro e w2 ⟨he, hB⟩; subst he; have HX2 : Hid (Ext w w2) := Ext.trans (Ext.alloc HX1.out _) hB; clear hB)
      | (go_at_call 10; refine (HA.out _).mono ?_; rintro e w3 ⟨he, hB⟩; subst he; have HX3 : Hid (Ext w w3) := Ext.trans HX2.out hB; clear hB))
    go_ret
    exact ⟨rfl, HX3.out⟩
  | true =>
    rw [hfew] at HFE
    obtain ⟨hl, hsz⟩ := few_szP (n := 1000) (most := 1000) hfew
    rw [List.length_append] at hl
    have hsa : SzP 1073741824 a := fun p hp => Nat.le_trans (hsz p (List.mem_append_left _ hp)) (by omega)
    have hsb : SzP 1073741824 b := fun p hp => Nat.le_trans (hsz p (List.mem_append_right _ hp)) (by omega)
    by_cases h210 : 210 < a.length ∨ 210 < b.length
    · clear hfew hRa hRb hca hcb hsz hsa hsb
      by_cases hA2 : 210 < a.length
      · have q1 : (210 : Int) < (a.length : Int) := by omega
        clear h210 hA2
        go_enter Tryz.func5, Tryz.ntmps5
        have tok1 : True := trivial
        go_wp2_with (first
          | (go_at_call 10; have _t := tok1; refine (HA.out _).mono ?_; rintro e w1 ⟨he, hB⟩; subst he; have HX1 : Hid (Ext w w1) := hB; clear hB tok1)
          | (go_at_call 16; refine (HFE.out _ HX1.out).mono ?_; rintro e w2 ⟨he, hB⟩; subst he; have HX2 : Hid (Ext w w2) := Ext.trans (Ext.alloc HX1.out _) hB; clear hB)
          | (go_at_call 10; refine (HA.out _).mono ?_; rintro e w3 ⟨he, hB⟩; subst he; have HX3 : Hid (Ext w w3) := Ext.trans HX2.out hB; clear hB))
        go_ret
        exact ⟨rfl, HX3.out⟩
      · have q1 : (a.length : Int) ≤ 210 := by omega
        have q2 : (210 : Int) < (b.length : Int) := by omega
        clear h210 hA2
        go_enter Tryz.func5, Tryz.ntmps5
        have tok1 : True := trivial
        go_wp2_with (first
          | (go_at_call 10; have _t := tok1; refine (HA.out _).mono ?_; rintro e w1 ⟨he, hB⟩; subst he; have HX1 : Hid (Ext w w1) := hB; clear hB tok1)
          | (go_at_call 16; refine (HFE.out _ HX1.out).mono ?_; rintro e w2 ⟨he, hB⟩; subst he; have HX2 : Hid (Ext w w2) := Ext.trans (Ext.alloc HX1.out _) hB; clear hB)
          | (go_at_call 10; refine (HA.out _).mono ?_; rintro e w3 ⟨he, hB⟩; subst he; have HX3 : Hid (Ext w w3) := Ext.trans HX2.out hB; clear hB))
        go_ret
        exact ⟨rfl, HX3.out⟩
    have q1 : (a.length : Int) ≤ 210 := by omega
    have q2 : (b.length : Int) ≤ 210 := by omega
    have HMU := Lib.hid (fun W (y : Ext w W) => Mul_any a b xa xb ca cb W (by unfold maxLen; omega) (by unfold maxLen; omega) hca hcb hsa hsb (PRow_below (w' := W) hRa y) (PRow_below (w' := W) hRb y))
    have HRM := Lib.hid (fun W (y : Ext w W) => rMul_any a b xa xb ca cb W (by unfold maxLen; omega) (by unfold maxLen; omega) hsa hsb (PRow_below (w' := W) hRa y) (PRow_below (w' := W) hRb y))
    have HTI := Lib.hid (fun W (y : Ext w W) => Times_any a n xa ca W (by unfold maxLen; omega) hsa (PRow_below (w' := W) hRa y))
    have HRT := Lib.hid (fun W (y : Ext w W) => rTimes_any a n xa ca W (by unfold maxLen; omega) hsa (PRow_below (w' := W) hRa y))
    obtain ⟨o1, o2⟩ := mulP_ok hsa hsb
    obtain ⟨o3, o4⟩ := timP_ok (n := n) hsa
    obtain ⟨⟨P, E⟩, hP⟩ : ∃ r, mulP a b = r := ⟨_, rfl⟩
    obtain ⟨⟨S, F⟩, hS⟩ : ∃ r, timP a n = r := ⟨_, rfl⟩
    rw [hP] at HMU HRM o1 o2
    rw [hS] at HTI HRT o3 o4
    simp only at o1 o2 o3 o4
    have HSP := Lib.hid (fun x y c d W h1 h2 => psame_eq P x y c d W (by unfold maxLen; omega) o2 h1 h2)
    have HSS := Lib.hid (fun x y c d W h1 h2 => psame_eq S x y c d W (by unfold maxLen; omega) o4 h1 h2)
    have qE : (E == E) = true := by simp
    have qF : (F == F) = true := by simp
    clear hfew hRa hRb hca hcb hsz hsa hsb h210 hP hS o1 o2 o3 o4 hl
    go_enter Tryz.func5, Tryz.ntmps5
    have tok1 : True := trivial
    go_wp2_with (first
      | (go_at_call 10; refine (HA.out _).mono ?_; rintro e w1 ⟨he, hB⟩; subst he; have HX1 : Hid (Ext w w1) := hB; clear hB)
      | (go_at_call 16; refine (HFE.out _ HX1.out).mono ?_; rintro e w2 ⟨he, hB⟩; subst he; have HX2 : Hid (Ext w w2) := Ext.trans (Ext.alloc HX1.out _) hB; clear hB)
      | (go_at_call 21; refine (HMU.out _ HX2.out).mono ?_; rintro e w3 ⟨x3, c3, he, _, hr, hB⟩; subst he; simp only at hr; have HX3 : Hid (Ext w w3) := Ext.trans HX2.out hB; have HP3 := Lib.hid hr; clear hr hB)
      | (go_at_call 22; refine (HRM.out _ HX3.out).mono ?_; rintro e w4 ⟨x4, c4, he, _, hr, hB⟩; subst he; simp only at hr; have HX4 : Hid (Ext w w4) := Ext.trans HX3.out hB; have HP4 := Lib.hid (PRow_below HP3.out hB); have HQ4 := Lib.hid hr; clear hr hB)
      | (go_at_call 23; refine (HTI.out _ HX4.out).mono ?_; rintro e w5 ⟨x5, c5, he, _, hr, hB⟩; subst he; simp only at hr; have HX5 : Hid (Ext w w5) := Ext.trans HX4.out hB; have HP5 := Lib.hid (PRow_below HP4.out hB); have HQ5 := Lib.hid (PRow_below HQ4.out hB); have HS5 := Lib.hid hr; clear hr hB)
      | (go_at_call 24; refine (HRT.out _ HX5.out).mono ?_; rintro e w6 ⟨x6, c6, he, _, hr, hB⟩; subst he; simp only at hr; have HX6 : Hid (Ext w w6) := Ext.trans HX5.out hB; have HP6 := Lib.hid (PRow_below HP5.out hB); have HQ6 := Lib.hid (PRow_below HQ5.out hB); have HS6 := Lib.hid (PRow_below HS5.out hB); have HT6 := Lib.hid hr; clear hr hB)
      | (go_at_call 14; have _t := tok1; refine (HSP.out _ _ _ _ _ HP6.out HQ6.out).mono ?_; rintro e w7 ⟨he, hB⟩; subst he; have HX7 : Hid (Ext w w7) := Ext.trans HX6.out hB; have HS7 := Lib.hid (PRow_below HS6.out hB); have HT7 := Lib.hid (PRow_below HT6.out hB); clear hB tok1)
      | (go_at_call 14; refine (HSS.out _ _ _ _ _ HS7.out HT7.out).mono ?_; rintro e w8 ⟨he, hB⟩; subst he; have HX8 : Hid (Ext w w8) := Ext.trans HX7.out hB; clear hB))
    go_ret
    exact ⟨rfl, HX8.out⟩
end Go.Proofs.YtgloecnmjieaiaaGreat
