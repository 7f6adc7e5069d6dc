/-
  THE LAW XorParts: the reference's Parts, and the law's walk.
-/
import Derived.Test.YtfbomoginjknlaaDoorQlw
import Derived.Test.YtfbomoginjknlaaDoorQsep
namespace Go.Proofs.YtfbomoginjknlaaDoor
open Go.RowKit Go.Lib

def Awake8Ok : Prop := ∀ w : World, TabQ w → Calls Tryd.prog 6 #[] w fun e w' => e = .returned (.bool true) ∧ Below w.heap.size w w'
set_option maxHeartbeats 1600000 in
set_option maxRecDepth 100000 in
theorem rParts8_any (t : Tm) (c0 c1 c2 c3 : Value) (w : World) (hsz : size t ≤ 1048576) (hI : Is w t c0 c1 c2 c3) :
    Calls Tryd.prog 9 #[.agg #[c0, c1, c2, c3]] w (LePost w (partsT t)) := by
  obtain ⟨k, n, s, ya, yl, yc, rfl, rfl, rfl, rfl⟩ := Is_form hI
  have hB1 : Ext w (w.alloc (.cells #[.int .i64 k, .string n, .int .i64 s, .slice ya yl yc] 24)) := (Ext.refl _).alloc _
  have HBK : Hid (∀ W, Ext (w.alloc (.cells #[.int .i64 k, .string n, .int .i64 s, .slice ya yl yc] 24)) W → W.cell? ⟨w.heap.size, 0, none⟩ = some (.int .i64 k) ∧ W.cell? ⟨w.heap.size, 1, none⟩ = some (.string n) ∧ W.cell? ⟨w.heap.size, 2, none⟩ = some (.int .i64 s) ∧ W.cell? ⟨w.heap.size, 3, none⟩ = some (.slice ya yl yc)) := by
    show ∀ _, _
    intro W x
    have hh := x.block w.heap.size (by simp)
    rw [heap_alloc_new] at hh
    exact (box_facts hh).1
  obtain ⟨b0', b1', b2', b3'⟩ := HBK.out _ (Ext.refl _)
  have HV := Lib.hid (rValid_any t _ _ _ _ _ (by omega) (Is_below hI hB1))
  have HB1 := Lib.hid hB1
  have HP : Hid (partsT t = if validE t = 0 then (summT t, 0) else ([], validE t)) := rfl
  by_cases h0 : validE t = 0
  rotate_left
  · have q0 : (validE t != 0) = true := bne_iff_ne.2 h0
    have HP2 : Hid (partsT t = ([], validE t)) := by show _ = _; rw [HP.out, if_neg h0]
    generalize validE t = E at HV HP2 q0
    clear h0 hI hB1 HP
    go_enter Tryd.func9, Tryd.ntmps9
    go_wp2_with (go_at_call 11; refine (HV.out).mono ?_; rintro e w3 ⟨he, hB⟩; subst he; have HX3 := Lib.hid (HB1.out.trans hB); clear hB)
    exact bodyPost_ret (v := .tuple #[.slice none 0 0, .int .i64 E]) (by simp [results, Tryd.results9, go_sem]) rfl (by rw [HP2.out]; exact ⟨none, 0, rfl, Nat.le_refl _, by simp [Row], HX3.out⟩)
  have HP2 : Hid (partsT t = (summT t, 0)) := by show _ = _; rw [HP.out, if_pos h0]
  rw [h0] at HV
  have q0 : ((0 : Int) != 0) = false := rfl
  have HS := Lib.hid (fun W (x : Ext w W) => rsum_row t _ _ _ _ W hsz (Is_below (w' := W) hI x))
  unfold TsPost at HS
  clear h0 hI hB1 HP
  go_enter Tryd.func9, Tryd.ntmps9
  go_wp2_with (first
    | (go_at_call 11; refine (HV.out).mono ?_; rintro e w3 ⟨he, hB⟩; subst he; have HX3 := Lib.hid (HB1.out.trans hB); obtain ⟨b0', b1', b2', b3'⟩ := HBK.out _ hB; clear hB)
    | (go_at_call 29; refine (HS.out _ HX3.out).mono ?_; rintro e w4 ⟨x4, c4, he, h1, h2, h3⟩; subst he; have HF := Lib.hid (And.intro h1 (And.intro h2 (HX3.out.trans h3))); clear h1 h2 h3))
  exact bodyPost_ret (v := .tuple #[.slice x4 (summT t).length c4, .int .i64 0]) (by simp [results, Tryd.results9, go_sem]) rfl (by rw [HP2.out]; exact ⟨x4, c4, rfl, HF.out.1, HF.out.2.1, HF.out.2.2⟩)
theorem few_oneQ {t : Tm} (h : few [t] 20 300 = true) : size t ≤ 300 := by
  have := few_sizesQ h
  simp only [sizes] at this
  omega
theorem partsT_len (t : Tm) : (partsT t).1.length ≤ size t ∧ ∀ u ∈ (partsT t).1, size u ≤ size t := by
  unfold partsT
  split
  · exact ⟨summT_len t, fun u hu => (summT_mem hu).2.2.1⟩
  · exact ⟨Nat.zero_le _, fun u hu => absurd hu (by simp)⟩
set_option maxHeartbeats 3200000 in
set_option maxRecDepth 100000 in
theorem lawP_any (HA : Hid Awake8Ok) (t : Tm) (c0 c1 c2 c3 : Value) (w : World) (hT : TabQ w) (hI : Is w t c0 c1 c2 c3) :
    Calls Tryd.prog 3 #[.agg #[c0, c1, c2, c3]] w fun e w' => e = .returned (.bool true) ∧ Below w.heap.size w w' := by
  obtain ⟨k, n, s, ya, yl, yc, rfl, rfl, rfl, rfl⟩ := Is_form hI
  have hB1 : Ext w (w.alloc (.cells #[.int .i64 k, .string n, .int .i64 s, .slice ya yl yc] 24)) := (Ext.refl _).alloc _
  have HBK : Hid (∀ W, Ext (w.alloc (.cells #[.int .i64 k, .string n, .int .i64 s, .slice ya yl yc] 24)) W → W.cell? ⟨w.heap.size, 0, none⟩ = some (.int .i64 k) ∧ W.cell? ⟨w.heap.size, 1, none⟩ = some (.string n) ∧ W.cell? ⟨w.heap.size, 2, none⟩ = some (.int .i64 s) ∧ W.cell? ⟨w.heap.size, 3, none⟩ = some (.slice ya yl yc)) := by
    show ∀ _, _
    intro W x
    have hh := x.block w.heap.size (by simp)
    rw [heap_alloc_new] at hh
    exact (box_facts hh).1
  obtain ⟨b0', b1', b2', b3'⟩ := HBK.out _ (Ext.refl _)
  have HB1 := Lib.hid hB1
  have HT := Lib.hid hT
  have HF : Hid (∀ W H, Ext w W → W.heap.size = H → Calls Tryd.prog 7 #[.slice (some ⟨H, 0, none⟩) 1 1] (W.alloc (.cells #[.int .i64 k, .string n, .int .i64 s, .slice ya yl yc] 24)) fun e w' => e = .returned (.bool (few [t] 20 300)) ∧ Below (W.alloc (.cells #[.int .i64 k, .string n, .int .i64 s, .slice ya yl yc] 24)).heap.size (W.alloc (.cells #[.int .i64 k, .string n, .int .i64 s, .slice ya yl yc] 24)) w') := by
    show ∀ _, _
    intro W H x hH
    exact few08_any [t] (some ⟨H, 0, none⟩) 1 (W.alloc (.cells #[.int .i64 k, .string n, .int .i64 s, .slice ya yl yc] 24)) (by simp [maxLen]) (Row_one_at H hH (Is_below hI x) _)
  have HTI := Lib.hid (fun W (x : Ext w W) => Is_below (w' := W) hI x)
  have tok1 : True := trivial
  clear hI hB1 hT
  cases h1 : few [t] 20 300
  · rw [h1] at HF
    go_enter Tryd.func3, Tryd.ntmps3
    go_wp2_with (first
      | (go_at_call 6; have _t := tok1; refine (HA.out _ (HT.out.ext HB1.out)).mono ?_; rintro e w1 ⟨he, hB⟩; subst he; have HX1 := Lib.hid hB; obtain ⟨b0', b1', b2', b3'⟩ := HBK.out _ hB; clear hB tok1)
      | (go_at_call 7; refine (HF.out _ _ (HB1.out.trans HX1.out) rfl).mono ?_; rintro e w2 ⟨he, hB⟩; subst he; have HX2 := Lib.hid (Ext.trans (Ext.alloc HX1.out _) hB); clear hB)
      | (go_at_call 6; refine (HA.out _ (HT.out.ext (HB1.out.trans HX2.out))).mono ?_; rintro e w3 ⟨he, hB⟩; subst he; have HX3 := Lib.hid ((HB1.out.trans HX2.out).trans hB); clear hB))
    go_ret
    exact ⟨rfl, HX3.out⟩
  have hsz := few_oneQ h1
  rw [h1] at HF
  obtain ⟨hl1, hl2⟩ := partsT_len t
  have HC := Lib.hid (fun W (x : Ext w W) => Parts_any t _ _ _ _ W (by omega) (HTI.out W x))
  have HR := Lib.hid (fun W (x : Ext w W) => rParts8_any t _ _ _ _ W (by omega) (HTI.out W x))
  generalize partsT t = Q at HC HR hl1 hl2
  have hs1 : sizes Q.1 ≤ Q.1.length * 300 := sizes_of fun u hu => by have := hl2 u hu; omega
  have hs2 : Q.1.length * 300 ≤ 300 * 300 := Nat.mul_le_mul_right _ (by omega)
  have HLS : Hid (∀ W x1 x2 d1 d2, Row W Q.1 x1 → Row W Q.1 x2 → Calls Tryd.prog 10 #[.slice x1 Q.1.length d1, .slice x2 Q.1.length d2] W fun e w' => e = .returned (.bool true) ∧ Below W.heap.size W w') := by
    show ∀ _, _
    intro W x1 x2 d1 d2 r1 r2
    have h := lists_any Q.1 Q.1 x1 x2 d1 d2 W (by unfold maxLen; omega) (by unfold maxLen; omega) (by omega) (by omega) r1 r2
    rw [show listsEq Q.1 Q.1 = true from (listsEq_iff _ _).2 rfl] at h
    exact h
  unfold LePost at HC HR
  obtain ⟨L, E⟩ := Q
  simp only at HC HR HLS
  clear h1 hsz hl1 hl2 hs1 hs2
  go_enter Tryd.func3, Tryd.ntmps3
  go_wp2_with (first
    | (go_at_call 6; refine (HA.out _ (HT.out.ext HB1.out)).mono ?_; rintro e w1 ⟨he, hB⟩; subst he; have HX1 := Lib.hid hB; obtain ⟨b0', b1', b2', b3'⟩ := HBK.out _ hB; clear hB)
    | (go_at_call 7; refine (HF.out _ _ (HB1.out.trans HX1.out) rfl).mono ?_; rintro e w2 ⟨he, hB⟩; subst he; have hx := Ext.trans (Ext.alloc HX1.out _) hB; have HX2 := Lib.hid hx; obtain ⟨b0', b1', b2', b3'⟩ := HBK.out _ hx; clear hB hx)
    | (go_at_call 8; refine (HC.out _ (HB1.out.trans HX2.out)).mono ?_; rintro e w3 ⟨x3, c3, he, _, hR3, hB⟩; subst he; have hx := Ext.trans HX2.out hB; have HX3 := Lib.hid hx; have HR3 := Lib.hid hR3; obtain ⟨b0', b1', b2', b3'⟩ := HBK.out _ hx; clear hB hx hR3)
    | (go_at_call 9; refine (HR.out _ (HB1.out.trans HX3.out)).mono ?_; rintro e w4 ⟨x4, c4, he, _, hR4, hB⟩; subst he; have HR4 := Lib.hid (And.intro (Row_below HR3.out hB) hR4); have HX4 := Lib.hid (Ext.trans HX3.out hB); clear hB hR4)
    | (go_at_call 10; refine (HLS.out _ _ _ _ _ HR4.out.1 HR4.out.2).mono ?_; rintro e w5 ⟨he, hB⟩; subst he; have HX5 := Lib.hid ((HB1.out.trans HX4.out).trans hB); clear hB))
  go_ret
  exact ⟨rfl, HX5.out⟩
end Go.Proofs.YtfbomoginjknlaaDoor
