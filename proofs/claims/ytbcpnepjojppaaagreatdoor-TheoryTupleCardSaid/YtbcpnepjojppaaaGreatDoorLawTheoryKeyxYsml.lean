import Derived.Test.YtbcpnepjojppaaaGreatDoorLawTheoryKeyxMem
import Derived.Test.YtbcpnepjojppaaaGreatDoorLawTheoryKeyxReadP
import Derived.Test.YtbcpnepjojppaaaGreatDoorLawTheoryKeyxYnml
import Derived.Test.YtbcpnepjojppaaaGreatDoorLawTheoryKeyxYunt
namespace Go.Proofs.YtbcpnepjojppaaaGreatDoor
open Go.RowKit
theorem zeroT_zil : zeroT = zilT := by kernel_rfl
theorem refP_or (s : ByteArray) : (nodesE (refP s).1 = 0 ∨ (refP s).1 = zilT) ∧ size (refP s).1 ≤ 400 := by
  have hz : size zilT = 1 := rfl
  unfold refP
  cases readR 800 s with
  | none => exact ⟨Or.inr zeroT_zil, by simp only [zeroT_zil]; omega⟩
  | some p =>
    obtain ⟨t, r⟩ := p
    simp only
    by_cases h1 : r.size = 0
    · rw [if_pos h1]
      by_cases h2 : validE t = 0
      · rw [if_pos h2]; exact ⟨Or.inl (valid_parts h2).1, (valid_parts h2).2.1⟩
      · rw [if_neg h2]; exact ⟨Or.inr zeroT_zil, by simp only [zeroT_zil]; omega⟩
    · rw [if_neg h1]; exact ⟨Or.inr zeroT_zil, by simp only [zeroT_zil]; omega⟩
theorem TmMove {w W : World} {b : Nat} {T : TypeId} {r : Tm} {k : Int} {n : ByteArray} {s : Int} {xa : Option Addr} {l c : Nat} (hb : W.heap[b]? = some (.cells #[.int .i64 0, .string ⟨#[]⟩, .int .i64 0, .slice none 0 0] T (0, 0))) (hw : w.heap.size ≤ b) (hE : Ext w W) (hv : nodesE r = 0 ∨ r = zilT)
    (hI : Is W r (.int .i64 k) (.string n) (.int .i64 s) (.slice xa l c)) : TmPost w r (.returned (.agg #[.int .i64 k, .string n, .int .i64 s, .slice xa l c])) (put4 W b 0 (.int .i64 k) (.string n) (.int .i64 s) (.slice xa l c)) := by
  rcases hv with hv | hv
  · exact TmFin hb hw hE hv hI
  · refine ⟨_, _, _, _, _, _, rfl, ?_, put4_below hE hw⟩
    rw [hv] at hI ⊢
    simp only [zilT, Is] at hI ⊢
    obtain ⟨e0, e1, e2, _, _, _, _, ya, yc, e3, h4, _⟩ := hI
    exact ⟨e0, e1, e2, by omega, by omega, Nat.zero_le _, Nat.zero_le _, ya, yc, e3, h4, by simp [Row]⟩
set_option maxHeartbeats 3200000 in
set_option maxRecDepth 100000 in
theorem parse09_any (s : ByteArray) (w : World) (hs : s.size ≤ 1048576) :
    Calls Tryz.prog 50 #[.string s] w (TmPost w (refP s).1) := by
  have HP : Hid (∀ W, Calls Tryz.prog 77 #[.string s] W (ParseInP (refP s) W)) := fun W => rparse_in s W hs
  have HV := Lib.hid (refP_or s).1
  have hb0 := heap_alloc_new w (.cells #[.int .i64 0, .string ⟨#[]⟩, .int .i64 0, .slice none 0 0] 24)
  have HBX : Hid (∀ W, Ext (w.alloc (.cells #[.int .i64 0, .string ⟨#[]⟩, .int .i64 0, .slice none 0 0] 24)) W → W.heap[w.heap.size]? = some (.cells #[.int .i64 0, .string ⟨#[]⟩, .int .i64 0, .slice none 0 0] 24 (0, 0))) := fun W x => (x.block _ (by rw [World.size_alloc]; omega)).trans hb0
  have HX0 : Hid (Ext w (w.alloc (.cells #[.int .i64 0, .string ⟨#[]⟩, .int .i64 0, .slice none 0 0] 24))) := (Ext.refl w).alloc _
  generalize refP s = P at HP HV
  obtain ⟨t, x⟩ := P
  simp only at HV
  unfold ParseInP at HP
  clear hb0
  go_enter Tryz.func50, Tryz.ntmps50
  go_wp2_with (go_at_call 77; refine (HP.out _).mono ?_; rintro e w4 ⟨c0, c1, c2, c3, he, hI4, hX4⟩; simp only at he; subst he; obtain ⟨rk, rn, rs, rx, rl, rc, e0, e1, e2, e3⟩ := IsIn_form hI4; subst e0 e1 e2 e3; have HX4 : Hid (Ext (w.alloc (.cells #[.int .i64 0, .string ⟨#[]⟩, .int .i64 0, .slice none 0 0] 24)) (w4.alloc (.cells #[.int .i64 rk, .string rn, .int .i64 rs, .slice rx rl rc] 24))) := Lib.hid (Ext.alloc hX4 _); have HI4 := Lib.hid (Is_alloc (IsIn_Is _ _ _ _ _ hI4) (.cells #[.int .i64 rk, .string rn, .int .i64 rs, .slice rx rl rc] 24)); have hb4 := HBX.out _ HX4.out; obtain ⟨⟨m0, m1, m2, m3⟩, n0, n1, n2, n3⟩ := box_facts hb4; clear hI4 hX4 hb4)
  exact bodyPost_ret (v := .agg #[.int .i64 rk, .string rn, .int .i64 rs, .slice rx rl rc]) (by simp [results, Tryz.results50, go_sem, m0, m1, m2, m3]) rfl (TmMove (HBX.out _ HX4.out) (Nat.le_refl _) (Ext.trans HX0.out HX4.out) HV.out HI4.out)
def leadsP (s1 s2 : ByteArray) : Bool := decide ((nrmP (refP s1).1).2 = 0) && (cmpT (nrmP (refP s1).1).1 (refP s2).1 == 0)
set_option maxHeartbeats 3200000 in
set_option maxRecDepth 100000 in
theorem leads_any (s1 s2 : ByteArray) (w : World) (h1 : s1.size ≤ 1048576) (h2 : s2.size ≤ 1048576) (h0 : (nrmP (refP s1).1).2 = 0) (hT : TabY w) :
    Calls Tryz.prog 49 #[.string s1, .string s2] w fun e w' => e = .returned (.bool (cmpT (nrmP (refP s1).1).1 (refP s2).1 == 0)) ∧ Ext w w' := by
  have HP1 : Hid (∀ W, Calls Tryz.prog 50 #[.string s1] W (TmPost W (refP s1).1)) := fun W => parse09_any s1 W h1
  have HP2 : Hid (∀ W, Calls Tryz.prog 50 #[.string s2] W (TmPost W (refP s2).1)) := fun W => parse09_any s2 W h2
  have HN : Hid (∀ W a0 a1 a2 a3, Is W (refP s1).1 a0 a1 a2 a3 → Ext w W → Calls Tryz.prog 20 #[.agg #[a0, a1, a2, a3]] W (TrPost W (nrmP (refP s1).1))) := fun W a0 a1 a2 a3 h x => yNormal_any _ _ _ _ _ W (by have := (refP_or s1).2; omega) h (hT.ext x)
  have HS : Hid (∀ W a0 a1 a2 a3 b0 b1 b2 b3, Is W (nrmP (refP s1).1).1 a0 a1 a2 a3 → Is W (refP s2).1 b0 b1 b2 b3 → Calls Tryz.prog 22 #[.agg #[a0, a1, a2, a3], .agg #[b0, b1, b2, b3]] W fun e w' => e = .returned (.bool (cmpT (nrmP (refP s1).1).1 (refP s2).1 == 0)) ∧ Below W.heap.size W w') := fun W a0 a1 a2 a3 b0 b1 b2 b3 x y => same_any _ _ _ _ _ _ _ _ _ _ W (by have := nrmP_size (refP s1).1; omega) (by have := (refP_or s2).2; omega) x y
  generalize nrmP (refP s1).1 = P at HN HS h0 ⊢
  generalize (refP s1).1 = t1 at HP1 HN
  generalize (refP s2).1 = t2 at HP2 HS ⊢
  obtain ⟨u, x⟩ := P
  simp only at HS h0 ⊢
  subst h0
  have tok1 : True := trivial
  clear hT h1 h2
  go_enter Tryz.func49, Tryz.ntmps49
  go_wp2_with (first | (go_at_call 50; have _t := tok1; refine (HP1.out _).mono ?_; rintro e w3 ⟨pk, pn, ps, px, pl, pc, he, hI3, hX3⟩; subst he; have HI3 := Lib.hid hI3; have HX3 := Lib.hid hX3; clear hI3 hX3; clear tok1) | (go_at_call 20; refine (HN.out _ _ _ _ _ HI3.out HX3.out).mono ?_; rintro e w4 ⟨rk, rn, rs, rx, rl, rc, he, hI4, hX4⟩; simp only at he; subst he; have HX4 : Hid (Ext w (w4.alloc (.cells #[.int .i64 rk, .string rn, .int .i64 rs, .slice rx rl rc] 24))) := Lib.hid (Ext.alloc (Ext.trans HX3.out hX4) _); have HI4 := Lib.hid (Is_alloc hI4 (.cells #[.int .i64 rk, .string rn, .int .i64 rs, .slice rx rl rc] 24)); have hx4 := heap_alloc_new w4 (.cells #[.int .i64 rk, .string rn, .int .i64 rs, .slice rx rl rc] 24); obtain ⟨⟨y0, y1, y2, y3⟩, _⟩ := box_facts hx4; have HY4 := Lib.hid hx4; clear hI4 hX4 hx4))
  go_region_held3 (fun W => W.cell? ⟨w4.heap.size, 0, none⟩ = some (.int .i64 rk) ∧ W.cell? ⟨w4.heap.size, 1, none⟩ = some (.string rn) ∧ W.cell? ⟨w4.heap.size, 2, none⟩ = some (.int .i64 rs) ∧ W.cell? ⟨w4.heap.size, 3, none⟩ = some (.slice rx rl rc)) (first | go_keep | assumption | exact ⟨y0, y1, y2, y3⟩) (first | (go_at_call 50; refine (HP2.out _).mono ?_; rintro e w5 ⟨qk, qn, qs, qx, ql, qc, he, hI5, hX5⟩; subst he; have HI5 := Lib.hid hI5; have HX5 := Lib.hid (show Ext (w4.alloc (.cells #[.int .i64 rk, .string rn, .int .i64 rs, .slice rx rl rc] 24)) w5 from Ext.trans (by first | exact Ext.refl _ | exact (Ext.refl _).drew | exact below_drewN (Ext.refl _) _) hX5); obtain ⟨⟨y0, y1, y2, y3⟩, _⟩ := box_facts ((HX5.out.block w4.heap.size (by rw [World.size_alloc]; omega)).trans HY4.out); clear hI5 hX5) | (go_at_call 22; refine (HS.out _ _ _ _ _ _ _ _ _ (Is_below HI4.out HX5.out) HI5.out).mono ?_; rintro e w7 ⟨he, hX7⟩; subst he; have HX7 := Lib.hid (show Ext (w4.alloc (.cells #[.int .i64 rk, .string rn, .int .i64 rs, .slice rx rl rc] 24)) w7 from Ext.trans HX5.out hX7); obtain ⟨⟨y0, y1, y2, y3⟩, _⟩ := box_facts ((HX7.out.block w4.heap.size (by rw [World.size_alloc]; omega)).trans HY4.out); clear hX7))
  go_wp2_with fail
  go_ret
  exact ⟨rfl, Ext.trans HX4.out HX7.out⟩
end Go.Proofs.YtbcpnepjojppaaaGreatDoor
namespace Go.Proofs.YtbcpnepjojppaaaGreatDoor
open Go.RowKit
structure LeadsOk (s1 s2 : ByteArray) : Prop where
  out : leadsP s1 s2 = true
theorem lead0 : LeadsOk ⟨#[100, 101, 99, 40, 101, 110, 99, 40, 97, 58, 97, 110, 121, 44, 32, 107, 58, 107, 101, 121, 41, 44, 32, 107, 58, 107, 101, 121, 41]⟩ ⟨#[97, 58, 97, 110, 121]⟩ := ⟨by kernel_rfl⟩
theorem lead1 : LeadsOk ⟨#[100, 101, 99, 40, 101, 110, 99, 40, 97, 58, 97, 110, 121, 44, 32, 107, 58, 107, 101, 121, 41, 44, 32, 110, 58, 107, 101, 121, 41]⟩ ⟨#[100, 101, 99, 40, 101, 110, 99, 40, 97, 58, 97, 110, 121, 44, 32, 107, 58, 107, 101, 121, 41, 44, 32, 110, 58, 107, 101, 121, 41]⟩ := ⟨by kernel_rfl⟩
theorem lead2 : LeadsOk ⟨#[101, 120, 112, 40, 101, 120, 112, 40, 103, 58, 100, 97, 116, 97, 44, 32, 121, 58, 110, 111, 110, 99, 101, 41, 44, 32, 120, 58, 110, 111, 110, 99, 101, 41]⟩ ⟨#[101, 120, 112, 40, 103, 58, 100, 97, 116, 97, 44, 32, 109, 117, 108, 40, 120, 58, 110, 111, 110, 99, 101, 44, 32, 121, 58, 110, 111, 110, 99, 101, 41, 41]⟩ := ⟨by kernel_rfl⟩
theorem lead3 : LeadsOk ⟨#[101, 120, 112, 40, 101, 120, 112, 40, 103, 58, 100, 97, 116, 97, 44, 32, 109, 117, 108, 40, 120, 58, 110, 111, 110, 99, 101, 44, 32, 121, 58, 110, 111, 110, 99, 101, 41, 41, 44, 32, 105, 110, 118, 40, 120, 58, 110, 111, 110, 99, 101, 41, 41]⟩ ⟨#[101, 120, 112, 40, 103, 58, 100, 97, 116, 97, 44, 32, 121, 58, 110, 111, 110, 99, 101, 41]⟩ := ⟨by kernel_rfl⟩
theorem lead4 : LeadsOk ⟨#[120, 111, 114, 40, 97, 58, 97, 110, 121, 44, 32, 120, 111, 114, 40, 98, 58, 97, 110, 121, 44, 32, 97, 58, 97, 110, 121, 41, 41]⟩ ⟨#[98, 58, 97, 110, 121]⟩ := ⟨by kernel_rfl⟩
theorem plain0 : plainT (refP ⟨#[100, 101, 99, 40, 101, 110, 99, 40, 97, 58, 97, 110, 121, 44, 32, 107, 58, 107, 101, 121, 41, 44, 32, 110, 58, 107, 101, 121, 41]⟩).1 = false := by kernel_rfl
theorem leadsP_ok {s1 s2 : ByteArray} (h : leadsP s1 s2 = true) : (nrmP (refP s1).1).2 = 0 ∧ (cmpT (nrmP (refP s1).1).1 (refP s2).1 == 0) = true := by
  unfold leadsP at h
  rw [Bool.and_eq_true] at h
  exact ⟨of_decide_eq_true h.1, h.2⟩
def AwakeY : Prop := ∀ w : World, TabY w → Calls Tryz.prog 12 #[] w fun e w' => e = .returned (.bool true) ∧ Ext w w'
set_option maxHeartbeats 3200000 in
set_option maxRecDepth 100000 in
theorem awake_y : AwakeY := by
  intro w hT
  have HL : Hid (∀ s1 s2 W, Ext w W → LeadsOk s1 s2 → s1.size ≤ 1048576 → s2.size ≤ 1048576 → Calls Tryz.prog 49 #[.string s1, .string s2] W fun e w' => e = .returned (.bool true) ∧ Ext W w') := fun s1 s2 W x h h1 h2 => by
    obtain ⟨a, b⟩ := leadsP_ok h.out
    have := leads_any s1 s2 W h1 h2 a (hT.ext x)
    rw [b] at this; exact this
  have HPA : Hid (∀ W, Calls Tryz.prog 50 #[.string ⟨#[100, 101, 99, 40, 101, 110, 99, 40, 97, 58, 97, 110, 121, 44, 32, 107, 58, 107, 101, 121, 41, 44, 32, 110, 58, 107, 101, 121, 41]⟩] W (TmPost W (refP ⟨#[100, 101, 99, 40, 101, 110, 99, 40, 97, 58, 97, 110, 121, 44, 32, 107, 58, 107, 101, 121, 41, 44, 32, 110, 58, 107, 101, 121, 41]⟩).1)) := fun W => parse09_any _ W (by simp [ByteArray.size])
  have HPL : Hid (∀ W a0 a1 a2 a3, Is W (refP ⟨#[100, 101, 99, 40, 101, 110, 99, 40, 97, 58, 97, 110, 121, 44, 32, 107, 58, 107, 101, 121, 41, 44, 32, 110, 58, 107, 101, 121, 41]⟩).1 a0 a1 a2 a3 → Ext w W → Calls Tryz.prog 18 #[.agg #[a0, a1, a2, a3]] W fun e w' => e = .returned (.bool false) ∧ Ext W w') := fun W a0 a1 a2 a3 h x => by
    have := yPlain_any _ a0 a1 a2 a3 W (by have := (refP_or ⟨#[100, 101, 99, 40, 101, 110, 99, 40, 97, 58, 97, 110, 121, 44, 32, 107, 58, 107, 101, 121, 41, 44, 32, 110, 58, 107, 101, 121, 41]⟩).2; omega) h (hT.ext x)
    rw [plain0] at this; exact this
  generalize (refP ⟨#[100, 101, 99, 40, 101, 110, 99, 40, 97, 58, 97, 110, 121, 44, 32, 107, 58, 107, 101, 121, 41, 44, 32, 110, 58, 107, 101, 121, 41]⟩).1 = t0 at HPA HPL
  have HX : Hid (Ext w w) := Ext.refl w
  clear hT
  go_enter Tryz.func12, Tryz.ntmps12
  go_wp2_with (first | (go_at_call 49; refine (HL.out _ _ _ HX.out ?_ ?_ ?_).mono ?_; (first | exact lead0 | exact lead1 | exact lead2 | exact lead3 | exact lead4); (simp [ByteArray.size]); (simp [ByteArray.size]); rintro e w3 ⟨he, hX⟩; subst he; replace HX := Lib.hid (Ext.trans HX.out hX); clear hX) | (go_at_call 50; refine (HPA.out _).mono ?_; rintro e w5 ⟨pk, pn, ps, px, pl, pc, he, hI, hX⟩; subst he; have HI := Lib.hid hI; replace HX := Lib.hid (Ext.trans HX.out hX); clear hX hI) | (go_at_call 18; refine (HPL.out _ _ _ _ _ HI.out HX.out).mono ?_; rintro e w6 ⟨he, hX⟩; subst he; replace HX := Lib.hid (Ext.trans HX.out hX); clear hX))
  go_ret
  exact ⟨rfl, HX.out⟩
end Go.Proofs.YtbcpnepjojppaaaGreatDoor
namespace Go.Proofs.YtbcpnepjojppaaaGreatDoor
open Go.RowKit Go.Lib
def smallP (l : List Tm) : Bool := few l 4 120 && l.all fun t => decide (depth t ≤ 30)
theorem smallP_few {l : List Tm} (h : smallP l = true) : sizes l ≤ 120 ∧ l.length ≤ 4 ∧ ∀ t ∈ l, depth t ≤ 30 := by
  unfold smallP at h
  rw [Bool.and_eq_true] at h
  obtain ⟨h1, h2⟩ := h
  unfold few at h1
  split at h1
  · cases h1
  · have := fewL_sizes l 120 (by omega) h1
    exact ⟨by omega, by omega, fun t ht => of_decide_eq_true (List.all_eq_true.1 h2 t ht)⟩
theorem allD_drop (l : List Tm) (j : Nat) (h : j < l.length) : (l.drop j).all (fun t => decide (depth t ≤ 30)) = (decide (depth l[j] ≤ 30) && (l.drop (j + 1)).all fun t => decide (depth t ≤ 30)) := by
  rw [List.drop_eq_getElem_cons h, List.all_cons]
set_option maxHeartbeats 1600000 in
set_option maxRecDepth 100000 in
theorem small_any (l : List Tm) (xa : Option Addr) (cap : Nat) (w : World) (hl : l.length ≤ maxLen) (hR : Row w l xa) :
    Calls Tryz.prog 13 #[.slice xa l.length cap] w fun e w' => e = .returned (.bool (smallP l)) ∧ Below w.heap.size w w' := by
  have HFw := Lib.hid (few_any l xa cap 4 120 w hl (by decide) (by decide) hR)
  by_cases h1 : few l 4 120 = true
  rotate_left
  · have h1' : few l 4 120 = false := by simpa using h1
    have HS : Hid (smallP l = false) := by show _ = _; unfold smallP; rw [h1']; rfl
    rw [h1'] at HFw
    clear h1 h1'
    unfold maxLen at hl
    go_enter Tryz.func13, Tryz.ntmps13
    go_wp2_with (go_at_call 46; refine (HFw.out).mono ?_; rintro e w1 ⟨he, hB⟩; subst he; have HX1 := Lib.hid hB; clear hB)
    go_ret
    exact ⟨by rw [HS.out]; rfl, HX1.out⟩
  have HS : Hid (smallP l = l.all fun t => decide (depth t ≤ 30)) := by show _ = _; unfold smallP; rw [h1]; rfl
  have hsz : sizes l ≤ 120 := by
    have h1' := h1
    unfold few at h1'
    split at h1'
    · cases h1'
    · have := fewL_sizes l 120 (by omega) h1'
      omega
  rw [h1] at HFw
  clear h1
  unfold maxLen at hl
  go_enter Tryz.func13, Tryz.ntmps13
  go_wp2_with (go_at_call 46; refine (HFw.out).mono ?_; rintro e w1 ⟨he, hB⟩; subst he; have HX1 := Lib.hid hB; clear hB)
  go_loopw [10] (fun i wr => ∃ (j : Nat), j ≤ l.length ∧ i = .int .i64 j ∧ Hid (smallP l = (l.drop j).all fun t => decide (depth t ≤ 30)) ∧ Hid (Ext w wr)) (fun i _ => l.length - (intOf i).toNat)
  case atStart => exact ⟨0, Nat.zero_le _, rfl, by simpa using HS, HX1⟩
  case round =>
    obtain ⟨j, hj, rfl, HD, HB⟩ := hrel
    by_cases hlt : j < l.length
    · obtain ⟨kb, ko, rfl⟩ := Row_at hR (by omega)
      obtain ⟨x0, x1, x2, x3, p0, p1, p2, p3, hKI⟩ := Row_get (Row_below hR HB.out) j hlt
      obtain ⟨k, n, s, ya, yl, yc, rfl, rfl, rfl, rfl⟩ := Is_form hKI
      have HDr := Lib.hid (allD_drop l j hlt)
      have hsj : size l[j] ≤ 120 := by
        have := sizes_take l j hlt
        have := sizes_take_le l (j + 1)
        omega
      have HXb := Lib.hid (HB.out.alloc (.cells #[.int .i64 k, .string n, .int .i64 s, .slice ya yl yc] 24))
      have HDep := Lib.hid (rdepth_any 120 l[j] _ _ _ _ _ hsj (by decide) (Is_below hKI ((Ext.refl wr).alloc (.cells #[.int .i64 k, .string n, .int .i64 s, .slice ya yl yc] 24))))
      have hd0 : depth l[j] ≤ 120 := Nat.le_trans (depth_le_size l[j]) hsj
      generalize hdv : depth l[j] = D at HDr HDep hd0
      by_cases hc : D ≤ 30
      · have HD3 : Hid (smallP l = (l.drop (j + 1)).all fun t => decide (depth t ≤ 30)) := by
          show _ = _
          rw [HD.out, HDr.out, decide_eq_true hc, Bool.true_and]
        clear hdv hKI hsj
        go_wp2_with (go_at_call 51; refine (HDep.out).mono ?_; rintro e w2 ⟨rfl, hB2⟩; have HX2 := Lib.hid (Ext.trans HXb.out hB2); clear hB2)
        go_roundw
        case rel => exact ⟨j + 1, by omega, by go_num, HD3, HX2⟩
        case measure => simp [intOf]; omega
      · have HD3 : Hid (smallP l = false) := by
          show _ = _
          rw [HD.out, HDr.out, decide_eq_false hc, Bool.false_and]
        clear hdv hKI hsj
        go_wp2_with (go_at_call 51; refine (HDep.out).mono ?_; rintro e w2 ⟨rfl, hB2⟩; have HX2 := Lib.hid (Ext.trans HXb.out hB2); clear hB2)
        go_ret
        exact ⟨by rw [HD3.out]; rfl, HX2.out⟩
    · have hjl : l.drop j = [] := List.drop_eq_nil_of_le (by omega)
      have HD3 : Hid (smallP l = true) := by show _ = _; rw [HD.out, hjl]; rfl
      clear hjl
      go_wp2_with fail
      go_ret
      exact ⟨by rw [HD3.out]; rfl, HB.out⟩
end Go.Proofs.YtbcpnepjojppaaaGreatDoor
