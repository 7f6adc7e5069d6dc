import Derived.Test.YtbcpnepjojppaaaGreatDoorLawTheoryKeyxYkey
import Derived.Test.YtbcpnepjojppaaaGreatDoorLawTheoryKeyxYsml
namespace Go.Proofs.YtbcpnepjojppaaaGreatDoor
open Go.RowKit Go.Lib
theorem listsEq_selfY (l : List Tm) : listsEq l l = true := by
  have h : cmpL l l = 0 := by
    induction l with
    | nil => rfl
    | cons t ts ih => simp only [cmpL, cmpT_self, ih, orr, if_true]
  unfold listsEq
  rw [h]; simp
theorem kidT_leY (t : Tm) (i : Nat) : size (kidT t.kids i) ≤ size t := by
  obtain ⟨k, n, s, ks⟩ := t
  show size (kidT ks i) ≤ 1 + sizes ks
  unfold kidT
  rw [List.getD_eq_getElem?_getD]
  by_cases h : i < ks.length
  · rw [List.getElem?_eq_getElem h]
    have := size_le_sizes (List.getElem_mem h)
    show size ks[i] ≤ _
    omega
  · rw [List.getElem?_eq_none (by omega)]
    show size noKid ≤ _
    have : size noKid = 1 := rfl
    omega
theorem keyP_size {t : Tm} : size (keyP t).1 ≤ size t ∨ (keyP t).1 = zilT := by
  unfold keyP
  split
  · split
    · exact Or.inl (kidT_leY t 1)
    · split
      · split
        · exact Or.inl (Nat.le_trans (kidT_leY _ 0) (kidT_leY t 1))
        · exact Or.inr rfl
      · exact Or.inr rfl
  · exact Or.inr rfl
set_option maxHeartbeats 3200000 in
set_option maxRecDepth 100000 in
theorem lawKey_any (HA : Hid AwakeY) (t : Tm) (c0 c1 c2 c3 : Value) (w : World) (hT : TabY w) (hI : Is w t c0 c1 c2 c3) :
    Calls Tryz.prog 10 #[.agg #[c0, c1, c2, c3]] w fun e w' => e = .returned (.bool true) ∧ Below w.heap.size w w' := by
  obtain ⟨k, n, s, ya, yl, yc, rfl, rfl, rfl, rfl⟩ := Is_form hI
  have hB1 : Ext w (w.alloc (.cells #[.int .i64 k, .string n, .int .i64 s, .slice ya yl yc] 24)) := (Ext.refl _).alloc _
  have HBK : Hid (∀ W, Ext (w.alloc (.cells #[.int .i64 k, .string n, .int .i64 s, .slice ya yl yc] 24)) W → W.cell? ⟨w.heap.size, 0, none⟩ = some (.int .i64 k) ∧ W.cell? ⟨w.heap.size, 1, none⟩ = some (.string n) ∧ W.cell? ⟨w.heap.size, 2, none⟩ = some (.int .i64 s) ∧ W.cell? ⟨w.heap.size, 3, none⟩ = some (.slice ya yl yc)) := by
    show ∀ _, _
    intro W x
    have hh := x.block w.heap.size (by simp)
    rw [heap_alloc_new] at hh
    exact (box_facts hh).1
  obtain ⟨b0', b1', b2', b3'⟩ := HBK.out _ (Ext.refl _)
  have HB1 := Lib.hid hB1
  have HT := Lib.hid (fun W (x : Ext w W) => hT.ext x)
  have HF : Hid (∀ W H, Ext w W → W.heap.size = H → Calls Tryz.prog 13 #[.slice (some ⟨H, 0, none⟩) 1 1] (W.alloc (.cells #[.int .i64 k, .string n, .int .i64 s, .slice ya yl yc] 24)) fun e w' => e = .returned (.bool (smallP [t])) ∧ Below (W.alloc (.cells #[.int .i64 k, .string n, .int .i64 s, .slice ya yl yc] 24)).heap.size (W.alloc (.cells #[.int .i64 k, .string n, .int .i64 s, .slice ya yl yc] 24)) w') := by
    show ∀ _, _
    intro W H x hH
    exact small_any [t] (some ⟨H, 0, none⟩) 1 (W.alloc (.cells #[.int .i64 k, .string n, .int .i64 s, .slice ya yl yc] 24)) (by simp [maxLen]) (Row_one_at H hH (Is_below hI x) _)
  have HTI := Lib.hid (fun W (x : Ext w W) => Is_below (w' := W) hI x)
  have tok1 : True := trivial
  clear hI hB1 hT
  cases h1 : smallP [t]
  · rw [h1] at HF
    go_enter Tryz.func10, Tryz.ntmps10
    go_wp2_with (first
      | (go_at_call 12; have _t := tok1; refine (HA.out _ (HT.out _ HB1.out)).mono ?_; rintro e w1 ⟨he, hB⟩; subst he; have HX1 := Lib.hid hB; obtain ⟨b0', b1', b2', b3'⟩ := HBK.out _ hB; clear hB tok1)
      | (go_at_call 13; refine (HF.out _ _ (HB1.out.trans HX1.out) rfl).mono ?_; rintro e w2 ⟨he, hB⟩; subst he; have HX2 := Lib.hid (Ext.trans (Ext.alloc HX1.out _) hB); clear hB)
      | (go_at_call 12; refine (HA.out _ (HT.out _ (HB1.out.trans HX2.out))).mono ?_; rintro e w3 ⟨he, hB⟩; subst he; have HX3 := Lib.hid ((HB1.out.trans HX2.out).trans hB); clear hB))
    go_ret
    exact ⟨rfl, HX3.out⟩
  obtain ⟨hsz0, _, _⟩ := smallP_few h1
  have hsz : size t ≤ 120 := by simp only [sizes] at hsz0; omega
  clear hsz0
  rw [h1] at HF
  have hka := keyP_size (t := t)
  have HC := Lib.hid (fun W (x : Ext w W) => yKey_any t _ _ _ _ W (by omega) (HTI.out W x) (HT.out W x))
  have HR := Lib.hid (fun W (x : Ext w W) => rKey_any9 t _ _ _ _ W (by omega) (HTI.out W x))
  have hks : size (keyP t).1 ≤ 120 := by
    rcases hka with h | h
    · omega
    · rw [h]; decide
  generalize keyP t = Q at HC HR hks hka
  obtain ⟨A, E⟩ := Q
  simp only at hks
  unfold TrPost at HC HR
  simp only at HC HR
  have HSM : Hid (∀ W x0 x1 x2 x3 y0 y1 y2 y3, Is W A x0 x1 x2 x3 → Is W A y0 y1 y2 y3 → Calls Tryz.prog 22 #[.agg #[x0, x1, x2, x3], .agg #[y0, y1, y2, y3]] W fun e w' => e = .returned (.bool true) ∧ Below W.heap.size W w') := by
    show ∀ _, _
    intro W x0 x1 x2 x3 y0 y1 y2 y3 h h'
    have := same_any A A x0 x1 x2 x3 y0 y1 y2 y3 W (by omega) (by omega) h h'
    rw [show (cmpT A A == 0) = true from by rw [cmpT_self]; rfl] at this
    exact this
  have hul := untT_size t
  have hul2 : (untT t).length ≤ sizes (untT t) := length_le_sizes _
  have HU := Lib.hid (fun W (x : Ext w W) => yUntuple_any t _ _ _ _ W (by omega) (HTI.out W x))
  have HV := Lib.hid (fun W (x : Ext w W) => rUntuple_any9 1048576 t _ _ _ _ W (by omega) (Nat.le_refl _) (HTI.out W x))
  unfold TsPost at HU HV
  have HLS : Hid (∀ W x1 x2 d1 d2, Row W (untT t) x1 → Row W (untT t) x2 → Calls Tryz.prog 43 #[.slice x1 (untT t).length d1, .slice x2 (untT t).length d2] W fun e w' => e = .returned (.bool true) ∧ Below W.heap.size W w') := by
    show ∀ _, _
    intro W x1 x2 d1 d2 r1 r2
    have h := lists_any (untT t) (untT t) x1 x2 d1 d2 W (by unfold maxLen; omega) (by unfold maxLen; omega) (by omega) (by omega) r1 r2
    rw [show listsEq (untT t) (untT t) = true from listsEq_selfY _] at h
    exact h
  generalize untT t = L at HU HV HLS hul hul2
  have hEE : (E == E) = true := by simp
  clear h1 hsz hks hka hul hul2 tok1
  go_enter Tryz.func10, Tryz.ntmps10
  go_wp2_with (first
    | (go_at_call 12; refine (HA.out _ (HT.out _ HB1.out)).mono ?_; rintro e w1 ⟨he, hB⟩; subst he; have HX1 := Lib.hid hB; obtain ⟨b0', b1', b2', b3'⟩ := HBK.out _ hB; clear hB)
    | (go_at_call 13; refine (HF.out _ _ (HB1.out.trans HX1.out) rfl).mono ?_; rintro e w2 ⟨he, hB⟩; subst he; have hx := Ext.trans (Ext.alloc HX1.out _) hB; have HX2 := Lib.hid hx; obtain ⟨b0', b1', b2', b3'⟩ := HBK.out _ hx; clear hB hx)
    | (go_at_call 41; refine (HC.out _ (HB1.out.trans HX2.out)).mono ?_; rintro e w3 ⟨k3, n3, s3, x3, l3, d3, he, hI3, hB⟩; subst he; have hx := Ext.trans HX2.out hB; have HX3 := Lib.hid hx; have HI3 := Lib.hid hI3; obtain ⟨b0', b1', b2', b3'⟩ := HBK.out _ (Ext.alloc hx (.cells #[.int .i64 k3, .string n3, .int .i64 s3, .slice x3 l3 d3] 24)); clear hB hx hI3)
    | (go_at_call 42; refine (HR.out _ (HB1.out.trans (Ext.alloc HX3.out _))).mono ?_; rintro e w4 ⟨k4, n4, s4, x4, l4, d4, he, hI4, hB⟩; subst he; have HX4 := Lib.hid hB; have HI4 := Lib.hid hI4; clear hB hI4))
  have hx5 : Ext (w3.alloc (.cells #[.int .i64 k3, .string n3, .int .i64 s3, .slice x3 l3 d3] 24)) (w4.alloc (.cells #[.int .i64 k4, .string n4, .int .i64 s4, .slice x4 l4 d4] 24)) := HX4.out.alloc _
  have hh3 := hx5.block w3.heap.size (by simp)
  rw [heap_alloc_new] at hh3
  obtain ⟨⟨a0, a1, a2, a3⟩, _⟩ := box_facts hh3
  have hh4 := heap_alloc_new w4 (.cells #[.int .i64 k4, .string n4, .int .i64 s4, .slice x4 l4 d4] 24)
  obtain ⟨⟨e0, e1, e2, e3⟩, _⟩ := box_facts hh4
  have hxb : Ext (w.alloc (.cells #[.int .i64 k, .string n, .int .i64 s, .slice ya yl yc] 24)) (w4.alloc (.cells #[.int .i64 k4, .string n4, .int .i64 s4, .slice x4 l4 d4] 24)) := (Ext.alloc HX3.out _).trans hx5
  obtain ⟨b0, b1, b2, b3⟩ := HBK.out _ hxb
  have HXB := Lib.hid (HB1.out.trans hxb)
  have I3 := Lib.hid (Is_below HI3.out (((Ext.refl w3).alloc _).trans hx5))
  have I4 := Lib.hid (Is_below HI4.out ((Ext.refl w4).alloc (.cells #[.int .i64 k4, .string n4, .int .i64 s4, .slice x4 l4 d4] 24)))
  clear b0' b1' b2' b3' hh3 hh4 hx5 hxb HX1 HX2 HX4 HI3 HI4 HX3
  generalize w4.alloc (.cells #[.int .i64 k4, .string n4, .int .i64 s4, .slice x4 l4 d4] 24) = w9 at *
  have hE0 : Ext w9 w9.drew := (Ext.refl w9).drew
  have HS := Lib.hid (fun (W : World) (h : Ext w9 W) => And.intro (keep_below h _ _ b0) (And.intro (keep_below h _ _ b1) (And.intro (keep_below h _ _ b2) (And.intro (keep_below h _ _ b3) (And.intro (keep_below h _ _ a0) (And.intro (keep_below h _ _ a1) (And.intro (keep_below h _ _ a2) (And.intro (keep_below h _ _ a3) (And.intro (keep_below h _ _ e0) (And.intro (keep_below h _ _ e1) (And.intro (keep_below h _ _ e2) (keep_below h _ _ e3))))))))))))
  go_region_held3 (fun W => W.cell? ⟨w.heap.size, 0, none⟩ = some (.int .i64 k) ∧ W.cell? ⟨w.heap.size, 1, none⟩ = some (.string n) ∧ W.cell? ⟨w.heap.size, 2, none⟩ = some (.int .i64 s) ∧ W.cell? ⟨w.heap.size, 3, none⟩ = some (.slice ya yl yc) ∧ W.cell? ⟨w3.heap.size, 0, none⟩ = some (.int .i64 k3) ∧ W.cell? ⟨w3.heap.size, 1, none⟩ = some (.string n3) ∧ W.cell? ⟨w3.heap.size, 2, none⟩ = some (.int .i64 s3) ∧ W.cell? ⟨w3.heap.size, 3, none⟩ = some (.slice x3 l3 d3) ∧ W.cell? ⟨w4.heap.size, 0, none⟩ = some (.int .i64 k4) ∧ W.cell? ⟨w4.heap.size, 1, none⟩ = some (.string n4) ∧ W.cell? ⟨w4.heap.size, 2, none⟩ = some (.int .i64 s4) ∧ W.cell? ⟨w4.heap.size, 3, none⟩ = some (.slice x4 l4 d4))
    (first | exact HS.out _ (by assumption) | go_keep)
    (first
      | (go_at_call 22; refine (HSM.out _ _ _ _ _ _ _ _ _ (Is_below I3.out hE0) (Is_below I4.out hE0)).mono ?_; rintro e wa ⟨he, hB⟩; subst he; have hE1 : Ext w9 wa := hE0.trans hB; clear hB)
      | (go_at_call 44; refine (HU.out _ (HXB.out.trans hE1)).mono ?_; rintro e wb ⟨x5, d5, he, _, hR5, hB⟩; subst he; have hE2 : Ext w9 wb := hE1.trans hB; have HR5 := Lib.hid hR5; clear hB hR5)
      | (go_at_call 45; refine (HV.out _ (HXB.out.trans hE2)).mono ?_; rintro e wc ⟨x6, d6, he, _, hR6, hB⟩; subst he; have hE3 : Ext w9 wc := hE2.trans hB; have HR6 := Lib.hid (And.intro (Row_below HR5.out hB) hR6); clear hB hR6)
      | (go_at_call 43; refine (HLS.out _ _ _ _ _ HR6.out.1 HR6.out.2).mono ?_; rintro e wd ⟨he, hB⟩; subst he; have hE4 : Ext w9 wd := hE3.trans hB; clear hB))
  all_goals (go_wp2_with fail; go_ret; exact ⟨rfl, Ext.trans (a := w) HXB.out hE4⟩)
end Go.Proofs.YtbcpnepjojppaaaGreatDoor
