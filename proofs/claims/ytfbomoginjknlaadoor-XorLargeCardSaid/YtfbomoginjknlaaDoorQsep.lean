/-
  THE WALKS OF spanError, isAscending and hasOdd.
-/
import Derived.Test.YtfbomoginjknlaaDoorQsrch
namespace Go.Proofs.YtfbomoginjknlaaDoor
open Go.RowKit Go.Lib

theorem vE_list (ts : List Tm) (t : Tm) : vE ts t = if listE ts = 0 then validE t else listE ts := by
  unfold vE listE
  by_cases h : 200 < ts.length
  · rw [if_pos h, if_pos h, if_neg (by decide)]
  · rw [if_neg h, if_neg h]
set_option maxHeartbeats 1600000 in
set_option maxRecDepth 100000 in
theorem spanError_any (ts : List Tm) (t : Tm) (xa : Option Addr) (cap : Nat) (c0 c1 c2 c3 : Value) (w : World) (hn : ts.length ≤ 1048576) (hsz : ∀ u ∈ ts, size u ≤ 1073741824) (hst : size t ≤ 1073741824) (hR : Row w ts xa) (hI : Is w t c0 c1 c2 c3) :
    Calls Tryd.prog 38 #[.slice xa ts.length cap, .agg #[c0, c1, c2, c3]] w fun e w' => e = .returned (.int .i64 (vE ts t)) ∧ Ext w w' := by
  obtain ⟨k2, n2, s2, ya2, yl2, yc2, rfl, rfl, rfl, rfl⟩ := Is_form hI
  have hB1 : Ext w (w.alloc (.cells #[.int .i64 k2, .string n2, .int .i64 s2, .slice ya2 yl2 yc2] 24)) := (Ext.refl _).alloc _
  have HBK : Hid (∀ W, Ext (w.alloc (.cells #[.int .i64 k2, .string n2, .int .i64 s2, .slice ya2 yl2 yc2] 24)) W → W.cell? ⟨w.heap.size, 0, none⟩ = some (.int .i64 k2) ∧ W.cell? ⟨w.heap.size, 1, none⟩ = some (.string n2) ∧ W.cell? ⟨w.heap.size, 2, none⟩ = some (.int .i64 s2) ∧ W.cell? ⟨w.heap.size, 3, none⟩ = some (.slice ya2 yl2 yc2)) := by
    show ∀ _, _
    intro W x
    have hh := x.block w.heap.size (by simp)
    rw [heap_alloc_new] at hh
    exact (box_facts hh).1
  have HL := Lib.hid (listError_any ts xa cap _ hn hsz (Row_below hR hB1))
  have HV := Lib.hid (fun W (x : Ext w W) => tValid_any t _ _ _ _ W hst (Is_below (w' := W) hI x))
  have HE := Lib.hid (vE_list ts t)
  have HB1 := Lib.hid hB1
  generalize vE ts t = E at HE ⊢
  generalize validE t = V at HE HV
  generalize listE ts = L at HE HL
  clear hR hI hB1
  by_cases h0 : L = 0
  · have q0 : (L != 0) = false := by simp [h0]
    have HE2 : Hid (E = V) := by show _ = _; rw [HE.out, if_pos h0]
    clear h0
    go_enter Tryd.func38, Tryd.ntmps38
    go_wp2_with (first
      | (go_at_call 35; refine (HL.out).mono ?_; rintro e w3 ⟨he, hB⟩; subst he; obtain ⟨b0, b1, b2, b3⟩ := HBK.out _ hB; have HX3 := Lib.hid (HB1.out.trans hB); clear hB)
      | (go_at_call 26; refine (HV.out _ HX3.out).mono ?_; rintro e w4 ⟨he, hB⟩; subst he; have HX4 := Lib.hid (HX3.out.trans hB); clear hB))
    go_ret
    exact ⟨by rw [HE2.out]; rfl, HX4.out⟩
  · have q0 : (L != 0) = true := bne_iff_ne.2 h0
    have HE2 : Hid (E = L) := by show _ = _; rw [HE.out, if_neg h0]
    clear h0
    go_enter Tryd.func38, Tryd.ntmps38
    go_wp2_with (go_at_call 35; refine (HL.out).mono ?_; rintro e w3 ⟨he, hB⟩; subst he; have HX3 := Lib.hid (HB1.out.trans hB); clear hB)
    go_ret
    exact ⟨by rw [HE2.out]; rfl, HX3.out⟩
/-- Whether terms ascend strictly. -/
def ascB : List Tm → Bool
  | [] => true
  | [_] => true
  | a :: b :: l => decide (cmpT a b < 0) && ascB (b :: l)
theorem ascB_iff : ∀ l : List Tm, ascB l = true ↔ AscT l
  | [] => ⟨fun _ => List.Pairwise.nil, fun _ => rfl⟩
  | [a] => ⟨fun _ => List.pairwise_singleton _ _, fun _ => rfl⟩
  | a :: b :: l => by
    rw [ascB, Bool.and_eq_true, decide_eq_true_eq, ascB_iff (b :: l)]
    constructor
    · rintro ⟨h1, h2⟩
      refine List.pairwise_cons.2 ⟨fun x hx => ?_, h2⟩
      rcases List.mem_cons.1 hx with e | hx
      · rw [e]; exact h1
      · exact cmpT_trans h1 ((List.pairwise_cons.1 h2).1 x hx)
    · intro h
      exact ⟨(List.pairwise_cons.1 h).1 b (List.mem_cons_self ..), (List.pairwise_cons.1 h).2⟩
theorem ascB_drop (l : List Tm) (j : Nat) (h : j + 1 < l.length) : ascB (l.drop j) = (decide (cmpT l[j] l[j + 1] < 0) && ascB (l.drop (j + 1))) := by
  rw [List.drop_eq_getElem_cons (by omega : j < l.length), List.drop_eq_getElem_cons h, ascB]
theorem ascB_last (l : List Tm) (j : Nat) (h : l.length ≤ j + 1) : ascB (l.drop j) = true := by
  rcases Nat.lt_or_ge j l.length with h1 | h1
  · rw [List.drop_eq_getElem_cons h1, List.drop_eq_nil_of_le (by omega)]; rfl
  · rw [List.drop_eq_nil_of_le h1]; rfl
set_option maxHeartbeats 1600000 in
set_option maxRecDepth 100000 in
theorem isAscending_any (ts : List Tm) (xa : Option Addr) (cap : Nat) (w : World) (hn : ts.length ≤ 1048576) (hsz : ∀ u ∈ ts, size u ≤ 1073741824) (hR : Row w ts xa) :
    Calls Tryd.prog 46 #[.slice xa ts.length cap] w fun e w' => e = .returned (.bool (ascB ts)) ∧ Ext w w' := by
  have HR := Lib.hid hR
  have HSZ := Lib.hid hsz
  clear hR hsz
  go_enter Tryd.func46, Tryd.ntmps46
  go_wp2_with fail
  go_loopw [3] (fun i wr => ∃ m : Nat, 1 ≤ m ∧ m ≤ ts.length + 1 ∧ i = .int .i64 m ∧ Hid (ascB ts = ascB (ts.drop (m - 1))) ∧ Ext w wr) (fun i _ => ts.length + 1 - (intOf i).toNat)
  case atStart => exact ⟨1, Nat.le_refl _, by omega, rfl, rfl, Ext.refl _⟩
  case round =>
    obtain ⟨m, hm1, hm2, rfl, HD, hX⟩ := hrel
    have HX := Lib.hid hX
    obtain ⟨j, hj⟩ : ∃ j, m - 1 = j := ⟨_, rfl⟩
    rw [hj] at HD
    by_cases hlt : m < ts.length
    rotate_left
    · have HD3 : Hid (ascB ts = true) := by show _ = _; rw [HD.out, ascB_last ts j (by omega)]
      clear hX
      go_wp2_with fail
      go_ret
      exact ⟨by rw [HD3.out]; rfl, HX.out⟩
    have hjb : j < ts.length := by omega
    obtain ⟨kb, ko, rfl⟩ := Row_at HR.out (by omega)
    obtain ⟨x0, x1, x2, x3, p0, p1, p2, p3, hKI⟩ := Row_get (Row_below HR.out hX) j hjb
    obtain ⟨z0, z1, z2, z3, r0, r1, r2, r3, hKJ⟩ := Row_get (Row_below HR.out hX) m hlt
    obtain ⟨k1, n1, s1, ya1, yl1, yc1, rfl, rfl, rfl, rfl⟩ := Is_form hKI
    obtain ⟨k2, n2, s2, ya2, yl2, yc2, rfl, rfl, rfl, rfl⟩ := Is_form hKJ
    have hs1 := HSZ.out ts[j] (List.getElem_mem hjb)
    have hs2 := HSZ.out ts[m] (List.getElem_mem hlt)
    have HC := Lib.hid (fun W (x : Ext wr W) => Compare_any ts[j] ts[m] _ _ _ _ _ _ _ _ W (by omega) (by omega) (Is_below (w' := W) hKI x) (Is_below (w' := W) hKJ x))
    have hd : ascB (ts.drop j) = (decide (cmpT ts[j] ts[m] < 0) && ascB (ts.drop m)) := by
      have e : m = j + 1 := by omega
      subst e
      exact ascB_drop ts j hlt
    have HCr : Hid (∀ W, Ext wr W → (W.cell? ⟨kb, ko + j * 4, none⟩ = some (.int .i64 k1) ∧ W.cell? ⟨kb, ko + j * 4 + 1, none⟩ = some (.string n1) ∧ W.cell? ⟨kb, ko + j * 4 + 2, none⟩ = some (.int .i64 s1) ∧ W.cell? ⟨kb, ko + j * 4 + 3, none⟩ = some (.slice ya1 yl1 yc1)) ∧ (W.cell? ⟨kb, ko + m * 4, none⟩ = some (.int .i64 k2) ∧ W.cell? ⟨kb, ko + m * 4 + 1, none⟩ = some (.string n2) ∧ W.cell? ⟨kb, ko + m * 4 + 2, none⟩ = some (.int .i64 s2) ∧ W.cell? ⟨kb, ko + m * 4 + 3, none⟩ = some (.slice ya2 yl2 yc2))) := fun W x => ⟨⟨keep_below x _ _ p0, keep_below x _ _ p1, keep_below x _ _ p2, keep_below x _ _ p3⟩, keep_below x _ _ r0, keep_below x _ _ r1, keep_below x _ _ r2, keep_below x _ _ r3⟩
    have i1 : (0 : Int) ≤ (j : Int) := by omega
    have i2 : (m : Int) < (ts.length : Int) := by omega
    have i3 : (j : Int) < (ts.length : Int) := by omega
    have i4 : (0 : Int) ≤ (m : Int) := by omega
    have hw1 : IntKind.i64.wrap ((m : Int) - 1) = (j : Int) := (IntWalk.i64_in _ (by omega)).trans (by omega)
    have hw3 : IntKind.i64.wrap (j : Int) = (j : Int) := IntWalk.i64_in _ (by omega)
    clear hj
    have hF0 : Ext wr wr.drew := (Ext.refl wr).drew
    generalize cmpT ts[j] ts[m] = c at HC hd
    clear hX hKI hKJ hs1 hs2
    by_cases hc : c < 0
    · have q0 : decide (0 ≤ c) = false := decide_eq_false (by omega)
      have HD3 : Hid (ascB ts = ascB (ts.drop m)) := by show _ = _; rw [HD.out, hd, decide_eq_true hc]; rfl
      clear hd hc
      go_wp2_with fail
      go_region_held3 (fun W => (W.cell? ⟨kb, ko + j * 4, none⟩ = some (.int .i64 k1) ∧ W.cell? ⟨kb, ko + j * 4 + 1, none⟩ = some (.string n1) ∧ W.cell? ⟨kb, ko + j * 4 + 2, none⟩ = some (.int .i64 s1) ∧ W.cell? ⟨kb, ko + j * 4 + 3, none⟩ = some (.slice ya1 yl1 yc1)) ∧ (W.cell? ⟨kb, ko + m * 4, none⟩ = some (.int .i64 k2) ∧ W.cell? ⟨kb, ko + m * 4 + 1, none⟩ = some (.string n2) ∧ W.cell? ⟨kb, ko + m * 4 + 2, none⟩ = some (.int .i64 s2) ∧ W.cell? ⟨kb, ko + m * 4 + 3, none⟩ = some (.slice ya2 yl2 yc2)))
        (first | exact HCr.out _ (by assumption) | go_keep)
        (first | (go_at_call 69; refine (HC.out _ hF0).mono ?_; rintro e w4 ⟨he, hB⟩; subst he; have hF1 : Ext wr w4 := Ext.trans hF0 hB; clear hB))
      go_wp2_with fail
      go_roundw
      case rel => exact ⟨m + 1, by omega, by omega, by go_num, HD3, HX.out.trans hF1⟩
      case measure => simp [intOf]; omega
    · have q0 : decide (0 ≤ c) = true := decide_eq_true (by omega)
      have HD3 : Hid (ascB ts = false) := by show _ = _; rw [HD.out, hd, decide_eq_false hc]; rfl
      clear hd hc
      go_wp2_with fail
      go_region_held3 (fun W => (W.cell? ⟨kb, ko + j * 4, none⟩ = some (.int .i64 k1) ∧ W.cell? ⟨kb, ko + j * 4 + 1, none⟩ = some (.string n1) ∧ W.cell? ⟨kb, ko + j * 4 + 2, none⟩ = some (.int .i64 s1) ∧ W.cell? ⟨kb, ko + j * 4 + 3, none⟩ = some (.slice ya1 yl1 yc1)) ∧ (W.cell? ⟨kb, ko + m * 4, none⟩ = some (.int .i64 k2) ∧ W.cell? ⟨kb, ko + m * 4 + 1, none⟩ = some (.string n2) ∧ W.cell? ⟨kb, ko + m * 4 + 2, none⟩ = some (.int .i64 s2) ∧ W.cell? ⟨kb, ko + m * 4 + 3, none⟩ = some (.slice ya2 yl2 yc2)))
        (first | exact HCr.out _ (by assumption) | go_keep)
        (first | (go_at_call 69; refine (HC.out _ hF0).mono ?_; rintro e w4 ⟨he, hB⟩; subst he; have hF1 : Ext wr w4 := Ext.trans hF0 hB; clear hB))
      go_wp2_with fail
      go_ret
      exact ⟨by rw [HD3.out]; rfl, HX.out.trans hF1⟩
/-- Whether an odd number of terms lies in r, from some parity on. -/
def oddB (r : List Tm) : List Tm → Bool → Bool
  | [], b => b
  | s :: ss, b => oddB r ss (if memT r s = true then !b else b)
theorem oddB_take (r l : List Tm) (j : Nat) (h : j < l.length) (b : Bool) : oddB r (l.take (j + 1)) b = if memT r l[j] = true then !(oddB r (l.take j) b) else oddB r (l.take j) b := by
  induction l generalizing j b with
  | nil => simp at h
  | cons s l ih =>
    cases j with
    | zero => simp [oddB]
    | succ j =>
      rw [List.take_succ_cons, List.take_succ_cons, oddB, oddB, ih j (by simpa using h)]; rfl
theorem find_mem {r : List Tm} {s : Tm} {e : Ending} (h : FindQ r s e) : ∃ i : Nat, e = .returned (.tuple #[.int .i64 i, .bool (memT r s)]) := by
  obtain ⟨i, f, he, h | h⟩ := h
  · obtain ⟨rfl, hi, hc⟩ := h
    have : memT r s = true := (memT_iff r s).2 (by rw [← cmpT_zero _ _ hc]; exact List.getElem_mem hi)
    rw [this]; exact ⟨i, he⟩
  · obtain ⟨rfl, hn⟩ := h
    have : memT r s = false := by
      cases hm : memT r s
      · rfl
      · exact absurd (cmpT_self s) (hn s ((memT_iff r s).1 hm))
    rw [this]; exact ⟨i, he⟩
theorem AscT.sorted {r : List Tm} (h : AscT r) : SortedQ r := SortedQ_of h
set_option maxHeartbeats 3200000 in
set_option maxRecDepth 100000 in
theorem hasOdd_any (t : Tm) (r : List Tm) (xr : Option Addr) (cr : Nat) (c0 c1 c2 c3 : Value) (w : World) (hst : size t ≤ 1048576) (hcr : r.length ≤ cr) (hn : r.length ≤ 1048576) (hsz : ∀ u ∈ r, size u ≤ 1073741824) (ha : AscT r) (hI : Is w t c0 c1 c2 c3) (hR : Row w r xr) :
    Calls Tryd.prog 47 #[.agg #[c0, c1, c2, c3], .slice xr r.length cr] w fun e w' => e = .returned (.bool (oddB r (summT t) false)) ∧ Ext w w' := by
  obtain ⟨k2, n2, s2, ya2, yl2, yc2, rfl, rfl, rfl, rfl⟩ := Is_form hI
  have hB1 : Ext w (w.alloc (.cells #[.int .i64 k2, .string n2, .int .i64 s2, .slice ya2 yl2 yc2] 24)) := (Ext.refl _).alloc _
  have HSM : Hid (∀ H, (w.alloc (.cells #[.int .i64 k2, .string n2, .int .i64 s2, .slice ya2 yl2 yc2] 24)).heap.size = H → Calls Tryd.prog 28 #[.slice (some ⟨H, 0, none⟩) 1 1] ((w.alloc (.cells #[.int .i64 k2, .string n2, .int .i64 s2, .slice ya2 yl2 yc2] 24)).alloc (.cells #[.int .i64 k2, .string n2, .int .i64 s2, .slice ya2 yl2 yc2] 24)) (TsPost ((w.alloc (.cells #[.int .i64 k2, .string n2, .int .i64 s2, .slice ya2 yl2 yc2] 24)).alloc (.cells #[.int .i64 k2, .string n2, .int .i64 s2, .slice ya2 yl2 yc2] 24)) (summT t))) := by
    show ∀ _, _
    intro H hH
    exact summands_one t H _ hst (Row_one_at H hH (Is_below hI hB1) _)
  have hl := summT_len t
  have HMS : Hid (∀ u ∈ summT t, size u ≤ 1073741824) := fun u hu => by have := (summT_mem hu).2.2.1; omega
  have HL : Hid ((summT t).length ≤ 1048576) := (by omega : _ ≤ _)
  have HBS := Lib.hid (fun (u : Tm) (hu : size u ≤ 1073741824) (W : World) (x : Ext w W) k n s y l c (h : Is W u (.int .i64 k) (.string n) (.int .i64 s) (.slice y l c)) => qsearch_any r u _ _ _ _ xr cr W hcr (by omega) hsz hu ha.sorted (Row_below (w' := W) hR x) h)
  have HX0 := Lib.hid ((hB1.alloc (.cells #[.int .i64 k2, .string n2, .int .i64 s2, .slice ya2 yl2 yc2] 24)))
  generalize summT t = L at HSM HMS HL ⊢
  clear hI hR hB1 hsz ha hst hl
  go_enter Tryd.func47, Tryd.ntmps47
  go_wp2_with (go_at_call 28; refine (HSM.out _ (by simp)).mono ?_; rintro e w4 ⟨x4, c4, he, h1, h2, h3⟩; subst he; have HR4 := Lib.hid h2; have HX4 := Lib.hid (HX0.out.trans h3); clear h1 h2 h3)
  go_loopw [5, 14] (fun b i wr => ∃ j : Nat, j ≤ L.length ∧ i = .int .i64 j ∧ b = .bool (oddB r (L.take j) false) ∧ Ext w4 wr) (fun _ i _ => L.length - (intOf i).toNat)
  case atStart => exact ⟨0, Nat.zero_le _, rfl, rfl, Ext.refl _⟩
  case round =>
    obtain ⟨j, hj, rfl, rfl, hX⟩ := hrel
    have HX := Lib.hid hX
    have HL2 := HL.out
    by_cases hlt : j < L.length
    rotate_left
    · have hjl : j = L.length := by omega
      have HQ : Hid (oddB r (L.take j) false = oddB r L false) := by show _ = _; rw [hjl, List.take_length]
      clear hX hjl
      go_wp2_with fail
      go_ret
      exact ⟨by rw [← HQ.out]; rfl, HX4.out.trans HX.out⟩
    obtain ⟨kb, ko, rfl⟩ := Row_at HR4.out (by omega)
    obtain ⟨x0, x1, x2, x3, p0, p1, p2, p3, hKI⟩ := Row_get (Row_below HR4.out hX) j hlt
    obtain ⟨k1, n1, s1, ya1, yl1, yc1, rfl, rfl, rfl, rfl⟩ := Is_form hKI
    have HC := Lib.hid (HBS.out L[j] (HMS.out _ (List.getElem_mem hlt)) _ ((HX4.out.trans hX).alloc (.cells #[.int .i64 k1, .string n1, .int .i64 s1, .slice ya1 yl1 yc1] 24)) _ _ _ _ _ _ (Is_alloc hKI _))
    have hot := oddB_take r L j hlt false
    have HFM := Lib.hid (fun e (h : FindQ r L[j] e) => find_mem h)
    have HX5 : Hid (∀ W, Below (wr.alloc (.cells #[.int .i64 k1, .string n1, .int .i64 s1, .slice ya1 yl1 yc1] 24)).heap.size (wr.alloc (.cells #[.int .i64 k1, .string n1, .int .i64 s1, .slice ya1 yl1 yc1] 24)) W → Ext w4 W) := fun W x => (hX.alloc _).trans x
    have i1 : (0 : Int) ≤ (j : Int) := by omega
    have i2 : (j : Int) < (L.length : Int) := by omega
    generalize oddB r (L.take j) false = B at hot ⊢
    clear hX hKI
    cases hm : memT r L[j]
    · rw [hm] at hot HFM
      have HOT : Hid (oddB r (L.take (j + 1)) false = B) := by show _ = _; rw [hot]; rfl
      clear hm hot
      go_wp2_with (go_at_call 70; refine (HC.out).mono ?_; rintro e w6 ⟨hF, hB⟩; obtain ⟨fi, he⟩ := HFM.out _ hF; subst he; have HX6 := Lib.hid (HX5.out _ hB); clear hF hB)
      go_roundw
      case rel => exact ⟨j + 1, by omega, by go_num, by rw [HOT.out], HX6.out⟩
      case measure => simp [intOf]; omega
    · rw [hm] at hot HFM
      have HOT : Hid (oddB r (L.take (j + 1)) false = !B) := by show _ = _; rw [hot]; rfl
      clear hm hot
      go_wp2_with (go_at_call 70; refine (HC.out).mono ?_; rintro e w6 ⟨hF, hB⟩; obtain ⟨fi, he⟩ := HFM.out _ hF; subst he; have HX6 := Lib.hid (HX5.out _ hB); clear hF hB)
      go_roundw
      case rel => exact ⟨j + 1, by omega, by go_num, by rw [HOT.out], HX6.out⟩
      case measure => simp [intOf]; omega
end Go.Proofs.YtfbomoginjknlaaDoor

/-
  THE WALK OF CheckRefute.
-/
namespace Go.Proofs.YtfbomoginjknlaaDoor
open Go.RowKit Go.Lib

/-- Whether some terms are a separation. -/
def sepB (ts : List Tm) (t : Tm) (r : List Tm) : Bool :=
  if 200 < r.length then false else if ¬ vE ts t = 0 then false else if ascB r = false then false else ts.all (fun u => !oddB r (summT u) false) && oddB r (summT t) false
theorem allB_take {p : Tm → Bool} (ts : List Tm) (j : Nat) (h : j < ts.length) : (ts.take (j + 1)).all p = ((ts.take j).all p && p ts[j]) := by
  rw [List.take_succ_eq_append_getElem h, List.all_append]; simp
theorem allB_false {p : Tm → Bool} {ts : List Tm} {j : Nat} (h : j < ts.length) (hp : p ts[j] = false) : ts.all p = false := by
  rw [List.all_eq_false]
  exact ⟨ts[j], List.getElem_mem h, by rw [hp]; decide⟩
set_option maxHeartbeats 3200000 in
set_option maxRecDepth 100000 in
theorem CheckRefute_any (ts : List Tm) (t : Tm) (r : List Tm) (xl xr : Option Addr) (cl cr : Nat) (c0 c1 c2 c3 : Value) (w : World) (hn : ts.length ≤ 1048576) (hsz : ∀ u ∈ ts, size u ≤ 1048576) (hst : size t ≤ 1048576) (hnr : r.length ≤ 1048576) (hcr : r.length ≤ cr) (hsr : ∀ u ∈ r, size u ≤ 1073741824) (hL : Row w ts xl) (hI : Is w t c0 c1 c2 c3) (hR : Row w r xr) :
    Calls Tryd.prog 24 #[.slice xl ts.length cl, .agg #[c0, c1, c2, c3], .slice xr r.length cr] w fun e w' => e = .returned (.bool (sepB ts t r)) ∧ Ext w w' := by
  obtain ⟨k2, n2, s2, ya2, yl2, yc2, rfl, rfl, rfl, rfl⟩ := Is_form hI
  have hB1 : Ext w (w.alloc (.cells #[.int .i64 k2, .string n2, .int .i64 s2, .slice ya2 yl2 yc2] 24)) := (Ext.refl _).alloc _
  have HBK : Hid (∀ W, Ext (w.alloc (.cells #[.int .i64 k2, .string n2, .int .i64 s2, .slice ya2 yl2 yc2] 24)) W → W.cell? ⟨w.heap.size, 0, none⟩ = some (.int .i64 k2) ∧ W.cell? ⟨w.heap.size, 1, none⟩ = some (.string n2) ∧ W.cell? ⟨w.heap.size, 2, none⟩ = some (.int .i64 s2) ∧ W.cell? ⟨w.heap.size, 3, none⟩ = some (.slice ya2 yl2 yc2)) := by
    show ∀ _, _
    intro W x
    have hh := x.block w.heap.size (by simp)
    rw [heap_alloc_new] at hh
    exact (box_facts hh).1
  obtain ⟨b0, b1, b2, b3⟩ := HBK.out _ (Ext.refl _)
  have HSE := Lib.hid (spanError_any ts t xl cl _ _ _ _ _ hn (fun u hu => by have := hsz u hu; omega) (by omega) (Row_below hL hB1) (Is_below hI hB1))
  have HAS := Lib.hid (fun W (x : Ext w W) => isAscending_any r xr cr W hnr hsr (Row_below (w' := W) hR x))
  have HOT := Lib.hid (fun (ha : AscT r) W (x : Ext w W) => hasOdd_any t r xr cr _ _ _ _ W hst hcr hnr hsr ha (Is_below (w' := W) hI x) (Row_below (w' := W) hR x))
  have HOL := Lib.hid (fun (ha : AscT r) (u : Tm) (hu : u ∈ ts) W k n s x l c (x' : Ext w W) (h : Is W u (.int .i64 k) (.string n) (.int .i64 s) (.slice x l c)) => hasOdd_any u r xr cr _ _ _ _ W (hsz u hu) hcr hnr hsr ha h (Row_below (w' := W) hR x'))
  have HLR := Lib.hid hL
  have HB1 := Lib.hid hB1
  have HP : Hid (sepB ts t r = if 200 < r.length then false else if ¬ vE ts t = 0 then false else if ascB r = false then false else ts.all (fun u => !oddB r (summT u) false) && oddB r (summT t) false) := rfl
  generalize sepB ts t r = R at HP ⊢
  clear hL hI hR hB1 hsz hst hsr hcr
  by_cases h2 : 200 < r.length
  · have HR : Hid (R = false) := by show _ = _; rw [HP.out, if_pos h2]
    have q0 : decide ((200 : Int) < (r.length : Int)) = true := decide_eq_true (by omega)
    go_enter Tryd.func24, Tryd.ntmps24
    go_wp2_with fail
    go_ret
    exact ⟨by rw [HR.out]; rfl, HB1.out⟩
  have q0 : decide ((200 : Int) < (r.length : Int)) = false := decide_eq_false (by omega)
  by_cases hv : vE ts t = 0
  rotate_left
  · have HR : Hid (R = false) := by show _ = _; rw [HP.out, if_neg h2, if_pos hv]
    generalize vE ts t = E at HSE hv
    have q1 : (E != 0) = true := bne_iff_ne.2 hv
    clear hv h2
    go_enter Tryd.func24, Tryd.ntmps24
    go_wp2_with (go_at_call 38; refine (HSE.out).mono ?_; rintro e w3 ⟨he, hB⟩; subst he; have HX3 := Lib.hid (HB1.out.trans hB); clear hB)
    go_ret
    exact ⟨by rw [HR.out]; rfl, HX3.out⟩
  rw [hv] at HSE
  cases ha : ascB r
  · have HR : Hid (R = false) := by show _ = _; rw [HP.out, if_neg h2, if_neg (fun h => h hv), if_pos ha]
    rw [ha] at HAS
    clear hv h2 ha
    go_enter Tryd.func24, Tryd.ntmps24
    go_wp2_with (first
      | (go_at_call 38; refine (HSE.out).mono ?_; rintro e w3 ⟨he, hB⟩; subst he; have HX3 := Lib.hid (HB1.out.trans hB); clear hB)
      | (go_at_call 46; refine (HAS.out _ HX3.out).mono ?_; rintro e w4 ⟨he, hB⟩; subst he; have HX4 := Lib.hid (HX3.out.trans hB); clear hB))
    go_ret
    exact ⟨by rw [HR.out]; rfl, HX4.out⟩
  have HR : Hid (R = (ts.all (fun u => !oddB r (summT u) false) && oddB r (summT t) false)) := by show _ = _; rw [HP.out, if_neg h2, if_neg (fun h => h hv), if_neg (by rw [ha]; decide)]
  have HAT := Lib.hid ((ascB_iff r).1 ha)
  rw [ha] at HAS
  clear hv h2 ha HP
  go_enter Tryd.func24, Tryd.ntmps24
  go_wp2_with (first
    | (go_at_call 38; refine (HSE.out).mono ?_; rintro e w3 ⟨he, hB⟩; subst he; have HX3 := Lib.hid hB; clear hB)
    | (go_at_call 46; refine (HAS.out _ (HB1.out.trans HX3.out)).mono ?_; rintro e w4 ⟨he, hB⟩; subst he; have HX4 := Lib.hid (HX3.out.trans hB); clear hB))
  go_loopw [24] (fun i wr => ∃ j : Nat, j ≤ ts.length ∧ i = .int .i64 j ∧ Hid ((ts.take j).all (fun u => !oddB r (summT u) false) = true) ∧ Ext (w.alloc (.cells #[.int .i64 k2, .string n2, .int .i64 s2, .slice ya2 yl2 yc2] 24)) wr) (fun i _ => ts.length - (intOf i).toNat)
  case atStart => exact ⟨0, Nat.zero_le _, rfl, rfl, HX4.out⟩
  case round =>
    obtain ⟨j, hj, rfl, HAL, hX⟩ := hrel
    have HXW := Lib.hid (HB1.out.trans hX)
    have HX := Lib.hid hX
    by_cases hlt : j < ts.length
    rotate_left
    · have hjl : j = ts.length := by omega
      obtain ⟨b0, b1, b2, b3⟩ := HBK.out _ hX
      have HC := Lib.hid (HOT.out HAT.out wr HXW.out)
      have HR3 : Hid (R = oddB r (summT t) false) := by
        show _ = _
        have := HAL.out
        rw [hjl, List.take_length] at this
        rw [HR.out, this]; rfl
      generalize oddB r (summT t) false = B at HC HR3
      clear hX hjl
      go_wp2_with (go_at_call 47; refine (HC.out).mono ?_; rintro e w6 ⟨he, hB⟩; subst he; have HX6 := Lib.hid (HXW.out.trans hB); clear hB)
      go_ret
      exact ⟨by rw [HR3.out]; rfl, HX6.out⟩
    obtain ⟨kb, ko, rfl⟩ := Row_at HLR.out (by omega)
    obtain ⟨x0, x1, x2, x3, p0, p1, p2, p3, hKI⟩ := Row_get (Row_below HLR.out HXW.out) j hlt
    obtain ⟨k1, n1, s1, ya1, yl1, yc1, rfl, rfl, rfl, rfl⟩ := Is_form hKI
    have HC := Lib.hid (HOL.out HAT.out ts[j] (List.getElem_mem hlt) wr _ _ _ _ _ _ HXW.out hKI)
    have hat := allB_take (p := fun u => !oddB r (summT u) false) ts j hlt
    have HAF := Lib.hid (fun h => allB_false (p := fun u => !oddB r (summT u) false) hlt h)
    have i1 : (0 : Int) ≤ (j : Int) := by omega
    have i2 : (j : Int) < (ts.length : Int) := by omega
    cases ho : oddB r (summT ts[j]) false
    · rw [ho] at HC hat
      have HA2 : Hid ((ts.take (j + 1)).all (fun u => !oddB r (summT u) false) = true) := by show _ = _; rw [hat, HAL.out]; rfl
      clear hX hKI hat ho
      go_wp2_with (go_at_call 47; refine (HC.out).mono ?_; rintro e w6 ⟨he, hB⟩; subst he; have HX6 := Lib.hid (HX.out.trans hB); clear hB)
      go_roundw
      case rel => exact ⟨j + 1, by omega, by go_num, HA2, HX6.out⟩
      case measure => simp [intOf]; omega
    · rw [ho] at HC
      have HR3 : Hid (R = false) := by show _ = _; rw [HR.out, HAF.out (by rw [ho]; rfl)]; rfl
      clear hX hKI hat ho
      go_wp2_with (go_at_call 47; refine (HC.out).mono ?_; rintro e w6 ⟨he, hB⟩; subst he; have HX6 := Lib.hid (HXW.out.trans hB); clear hB)
      go_ret
      exact ⟨by rw [HR3.out]; rfl, HX6.out⟩
end Go.Proofs.YtfbomoginjknlaaDoor

/-
  THE WALKS OF the reference's odd and CheckRefute.
-/
namespace Go.Proofs.YtfbomoginjknlaaDoor
open Go.RowKit Go.Lib

theorem rsum_row (t : Tm) (c0 c1 c2 c3 : Value) (w : World) (hst : size t ≤ 1048576) (hI : Is w t c0 c1 c2 c3) :
    Calls Tryd.prog 29 #[.agg #[c0, c1, c2, c3]] w (TsPost w (summT t)) :=
  (rsummands_any w.heap.size (size t) t c0 c1 c2 c3 w (Nat.le_refl _) (Nat.le_refl _) hst (Is_IsIn _ _ _ _ _ hI)).mono fun e w' h => by
    obtain ⟨v, rfl, h1, h2⟩ := h
    obtain ⟨xa, c, rfl, h3, _, h4⟩ := Elems_row h1
    exact ⟨xa, c, rfl, h3, h4, h2⟩
end Go.Proofs.YtfbomoginjknlaaDoor
