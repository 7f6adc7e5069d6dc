/-
  THE WALK OF vectorOf: the bits of a term's summands.
-/
import Derived.Test.YtakeopjpmfgngaaGreatDoorQone
import Derived.Test.YtakeopjpmfgngaaGreatDoorQcol
namespace Go.Proofs.YtakeopjpmfgngaaGreatDoor
open Go.RowKit Go.Lib

theorem setV_bits (f : Nat → Nat) (i j : Nat) : bitV (setV f i) j = (decide (j = i) || bitV f j) := by
  unfold bitV setV
  by_cases hq : j / 64 = i / 64
  · rw [hq, putV_same, Nat.testBit_or, Nat.testBit_two_pow, Bool.or_comm]
    congr 1
    by_cases e : j = i
    · rw [decide_eq_true e, decide_eq_true (by rw [e])]
    · rw [decide_eq_false e, decide_eq_false (by omega)]
  · rw [putV_other _ _ _ hq, decide_eq_false (by intro e; rw [e] at hq; exact hq rfl)]; rfl
theorem xorV_bits (f g : Nat → Nat) : bitV (xorV f g) = bx (bitV f) (bitV g) := by
  funext j
  unfold bitV xorV
  rw [Nat.testBit_xor]; rfl
theorem zeroV_bits : bitV (fun _ => 0) = b0 := by
  funext j
  exact Nat.zero_testBit _
theorem AscT.inj {C : List Tm} (h : AscT C) {i j : Nat} (hi : i < C.length) (hj : j < C.length) (e : C[i] = C[j]) : i = j := by
  have hs := SortedQ_of h
  rcases Nat.lt_trichotomy i j with l | l | l
  · have := hs i j hi hj l
    rw [e, cmpT_self] at this; omega
  · exact l
  · have := hs j i hj hi l
    rw [e, cmpT_self] at this; omega
theorem vec_step {C L : List Tm} (hC : AscT C) (hL : AscT L) {i j : Nat} (hi : i < C.length) (hj : j < L.length) (e : C[i] = L[j]) {f : Nat → Nat} (hf : bitV f = chiP C (L.take j)) : bitV (setV f i) = chiP C (L.take (j + 1)) := by
  funext k
  rw [setV_bits, hf]
  rcases Nat.lt_or_ge k C.length with hk | hk
  · have hck := List.getElem?_eq_getElem hk
    have h1 := chi_mem (C := C) (hL.sublist (List.take_sublist j L)) k _ hck
    have h2 := chi_mem (C := C) (hL.sublist (List.take_sublist (j + 1) L)) k _ hck
    rw [Bool.eq_iff_iff, Bool.or_eq_true, h1, h2, decide_eq_true_eq, List.take_succ_eq_append_getElem hj, List.mem_append, List.mem_singleton]
    constructor
    · rintro (a | a)
      · subst a; exact Or.inr e
      · exact Or.inl a
    · rintro (a | a)
      · exact Or.inr a
      · exact Or.inl (hC.inj hk hi (a.trans e.symm))
  · rw [chiP_supp _ _ _ hk, chiP_supp _ _ _ hk, decide_eq_false (by omega)]; rfl
/-- What an elimination holds: its columns. -/
structure ColAt (w : World) (eb : Nat) (C : List Tm) : Prop where
  cell : ∃ xc cc, w.cell? ⟨eb, 0, none⟩ = some (.slice xc C.length cc) ∧ C.length ≤ cc ∧ Row w C xc
  asc : AscT C
  small : ∀ u ∈ C, size u ≤ 1048576
  len : C.length ≤ 1048576
theorem ColAt.ext {w W : World} {eb : Nat} {C : List Tm} (h : ColAt w eb C) (x : Ext w W) : ColAt W eb C := by
  obtain ⟨⟨xc, cc, h1, h2, h3⟩, h4, h5, h6⟩ := h
  exact ⟨⟨xc, cc, keep_below x _ _ h1, h2, Row_below h3 x⟩, h4, h5, h6⟩
/-- A vector that is given back. -/
def VecPost (w : World) (n : Nat) (B : Nat → Bool) (e : Ending) (w' : World) : Prop :=
  ∃ g f, e = .returned (.slice (some ⟨g, 0, none⟩) n n) ∧ w.heap.size ≤ g ∧ VRow w' g n f ∧ bitV f = B ∧ Ext w w'
theorem But.ext {g : Nat} {w W : World} (h : But g w W) {u : World} (hu : Ext u w) (hg : u.heap.size ≤ g) : Ext u W := Ext.trans (Ext.refl u) (Below.trans hu (h.toBelow hg hu.size))
set_option maxHeartbeats 3200000 in
set_option maxRecDepth 100000 in
theorem vectorOf_any (eb : Nat) (C : List Tm) (t : Tm) (c0 c1 c2 c3 : Value) (w : World) (hcol : ColAt w eb C) (hst : size t ≤ 1048576) (hsub : ∀ u ∈ summT t, u ∈ C) (hI : Is w t c0 c1 c2 c3) :
    Calls Tryz.prog 76 #[.pointer (some ⟨eb, 0, none⟩), .agg #[c0, c1, c2, c3]] w (VecPost w ((C.length + 63) / 64) (chiP C (addT t))) := by
  obtain ⟨k2, n2, s2, ya2, yl2, yc2, rfl, rfl, rfl, rfl⟩ := Is_form hI
  have hB1 : Ext w (w.alloc (.cells #[.int .i64 k2, .string n2, .int .i64 s2, .slice ya2 yl2 yc2] 26)) := (Ext.refl _).alloc _
  have HBK : Hid (∀ W, Ext (w.alloc (.cells #[.int .i64 k2, .string n2, .int .i64 s2, .slice ya2 yl2 yc2] 26)) W → W.cell? ⟨w.heap.size, 0, none⟩ = some (.int .i64 k2) ∧ W.cell? ⟨w.heap.size, 1, none⟩ = some (.string n2) ∧ W.cell? ⟨w.heap.size, 2, none⟩ = some (.int .i64 s2) ∧ W.cell? ⟨w.heap.size, 3, none⟩ = some (.slice ya2 yl2 yc2)) := by
    show ∀ _, _
    intro W x
    have hh := x.block w.heap.size (by simp)
    rw [heap_alloc_new] at hh
    exact (box_facts hh).1
  obtain ⟨xc, cc, hcell, hcc, hRC⟩ := hcol.cell
  have hcl := hcol.len
  have HCELL := Lib.hid (fun W (x : Ext w W) => keep_below x _ _ hcell)
  have hc0 := HCELL.out _ hB1
  have HIn := Lib.hid (Is_IsIn _ _ _ _ _ hI)
  have HSU : Hid (∀ W H, W.heap.size = H → Ext w W → Calls Tryz.prog 35 #[.slice (some ⟨H, 0, none⟩) 1 1] (W.alloc (.cells #[.int .i64 k2, .string n2, .int .i64 s2, .slice ya2 yl2 yc2] 26)) (TsPostE w.heap.size (W.alloc (.cells #[.int .i64 k2, .string n2, .int .i64 s2, .slice ya2 yl2 yc2] 26)) (summT t))) := by
    show ∀ _, _
    intro W H hH x
    exact summandsE_one w.heap.size t H _ _ _ _ _ _ W hst hH (by have := x.size; omega) (IsIn_carry (fun q (hq : q < w.heap.size) => x.block q hq) (fun _ h => h) _ _ _ _ _ HIn.out)
  have HNV := Lib.hid (fun W => newVector_any C.length W hcl)
  have HSMS : Hid (∀ u ∈ summT t, size u ≤ 1073741824) := fun u hu => by have := (summT_mem hu).2.2.1; omega
  have HSUB := Lib.hid hsub
  have hsl := summT_len t
  have HSL : Hid ((summT t).length ≤ 1048576) := (by omega : _ ≤ _)
  have HBS := Lib.hid (fun (u : Tm) (hu : size u ≤ 1073741824) (W : World) (x : Ext w W) k n s y l c (h : Is W u (.int .i64 k) (.string n) (.int .i64 s) (.slice y l c)) => qsearch_any C u _ _ _ _ xc cc W hcc (by omega) (fun b hb => by have := hcol.small b hb; omega) hu hcol.asc.sorted (Row_below (w' := W) hRC x) h)
  have HASC := Lib.hid hcol.asc
  have HASL := Lib.hid (summT_odd t).asc
  have HCHI := Lib.hid (chi_sum C t)
  have HB1 := Lib.hid hB1
  obtain ⟨n, hn⟩ : ∃ n, (C.length + 63) / 64 = n := ⟨_, rfl⟩
  have hnl : n ≤ 1048576 := by omega
  have hn64 : C.length ≤ n * 64 := by omega
  rw [hn] at HNV ⊢
  generalize summT t = L at HSU HSMS HSUB HSL HASL HCHI
  clear hcol hI hB1 hcell hcc hRC hst hsub hsl hn
  go_enter Tryz.func76, Tryz.ntmps76
  go_wp2_with (first
    | (go_at_call 77; refine (HNV.out _).mono ?_; rintro e w3 ⟨g, he, hg, hv, hx⟩; subst he; obtain ⟨b0, b1, b2, b3⟩ := HBK.out _ hx; have HX3 := Lib.hid (HB1.out.trans hx); have HV3 := Lib.hid hv; have HG3 : Hid (w.heap.size ≤ g) := Lib.hid (Nat.le_trans HB1.out.size hg); clear hx hv hg)
    | (go_at_call 35; refine (HSU.out _ _ rfl HX3.out).mono ?_; rintro e w4 ⟨x4, c4, he, h1, h2, h3, h4⟩; subst he; have HX4 := Lib.hid (((Ext.refl w3).alloc _).trans h3); have HR4 := Lib.hid (And.intro h2 h4); clear h1 h2 h3 h4))
  have HGL : Hid (g < w3.heap.size) := Lib.hid HV3.out.1
  go_loopw [20] (fun i wr => ∃ (j : Nat) (f : Nat → Nat), j ≤ L.length ∧ i = .int .i64 j ∧ VRow wr g n f ∧ Hid (bitV f = chiP C (L.take j)) ∧ But g w4 wr) (fun i _ => L.length - (intOf i).toNat)
  case atStart => exact ⟨0, fun _ => 0, Nat.zero_le _, rfl, HV3.out.ext HX4.out, by show _ = _; rw [List.take_zero, chiP_nil]; exact zeroV_bits, But.refl _ _⟩
  case round =>
    obtain ⟨j, f, hj, rfl, hV, HF, hB⟩ := hrel
    have HSL2 := HSL.out
    have HV := Lib.hid hV
    have HB := Lib.hid hB
    have hxw : Ext w wr := hB.ext (HX3.out.trans HX4.out) HG3.out
    have HXW := Lib.hid hxw
    by_cases hlt : j < L.length
    rotate_left
    · have hjl : j = L.length := by omega
      have HQ : Hid (VecPost w n (chiP C (addT t)) (.returned (.slice (some ⟨g, 0, none⟩) n n)) wr) := by
        refine ⟨g, f, rfl, HG3.out, hV, ?_, hxw⟩
        rw [HF.out, hjl, List.take_length, HCHI.out]
      clear hV hB hxw hjl
      go_wp2_with fail
      go_ret
      exact HQ.out
    have hO5 : OwnT w3.heap.size (fun q => q < w.heap.size) w4 L (.slice x4 L.length c4) := by
      obtain ⟨cs, ho, hK⟩ := HR4.out.2
      exact ⟨cs, own_base ho (by rw [World.size_alloc]; omega), hK⟩
    have hO6 : OwnT w3.heap.size (fun q => q < w.heap.size) wr L (.slice x4 L.length c4) := OwnT_carry hO5 (fun b (hb : b < w.heap.size) => hB.block b (by have := HX3.out.size; have := HX4.out.size; omega) (by simp only [ne_eq, Option.some.injEq]; have := HG3.out; omega)) (fun q hq => hB.block q (by obtain ⟨cs, ho, _⟩ := hO5; exact (ho.lt q hq).2) (by obtain ⟨cs, ho, _⟩ := hO5; have := (ho.lt q hq).1; have := HGL.out; simp only [ne_eq, Option.some.injEq]; omega))
    have hRL := (OwnT_rowQ hO6).1
    obtain ⟨kb, ko, rfl⟩ := Row_at hRL (by omega)
    obtain ⟨x0, x1, x2, x3, p0, p1, p2, p3, hKI⟩ := Row_get hRL j hlt
    obtain ⟨k1, n1, s1, ya1, yl1, yc1, rfl, rfl, rfl, rfl⟩ := Is_form hKI
    have hA : Ext wr (wr.alloc (.cells #[.int .i64 k1, .string n1, .int .i64 s1, .slice ya1 yl1 yc1] 26)) := (Ext.refl wr).alloc _
    have HC := Lib.hid (fun W (x : Ext (wr.alloc (.cells #[.int .i64 k1, .string n1, .int .i64 s1, .slice ya1 yl1 yc1] 26)) W) => HBS.out L[j] (HSMS.out _ (List.getElem_mem hlt)) W (hxw.trans (hA.trans x)) _ _ _ _ _ _ (Is_below (w' := W) hKI (hA.trans x)))
    have hbn := heap_alloc_new wr (.cells #[.int .i64 k1, .string n1, .int .i64 s1, .slice ya1 yl1 yc1] 26)
    have HCr : Hid (∀ W, Ext (wr.alloc (.cells #[.int .i64 k1, .string n1, .int .i64 s1, .slice ya1 yl1 yc1] 26)) W → W.cell? ⟨eb, 0, none⟩ = some (.slice xc C.length cc) ∧ (W.cell? ⟨wr.heap.size, 0, none⟩ = some (.int .i64 k1) ∧ W.cell? ⟨wr.heap.size, 1, none⟩ = some (.string n1) ∧ W.cell? ⟨wr.heap.size, 2, none⟩ = some (.int .i64 s1) ∧ W.cell? ⟨wr.heap.size, 3, none⟩ = some (.slice ya1 yl1 yc1))) := by
      show ∀ _, _
      intro W x
      have hh := x.block wr.heap.size (by simp)
      rw [hbn] at hh
      exact ⟨HCELL.out W (hxw.trans (hA.trans x)), (box_facts hh).1⟩
    have HFI : Hid (∀ e, FindQ C L[j] e → ∃ i : Nat, e = .returned (.tuple #[.int .i64 i, .bool true]) ∧ i < C.length ∧ bitV (setV f i) = chiP C (L.take (j + 1))) := by
      show ∀ _, _
      rintro e ⟨i, fl, he, ⟨rfl, hi, hc⟩ | ⟨_, hno⟩⟩
      · exact ⟨i, he, hi, vec_step HASC.out HASL.out hi hlt (cmpT_zero _ _ hc) HF.out⟩
      · exact absurd (cmpT_self _) (hno L[j] (HSUB.out _ (List.getElem_mem hlt)))
    have HSET := Lib.hid (fun W (x : Ext wr W) (i : Nat) (hi : i < C.length) => vset_any g n n i f W (by omega) hnl (HV.out.ext x))
    have HA := Lib.hid hA
    have i1 : (0 : Int) ≤ (j : Int) := by omega
    have i2 : (j : Int) < (L.length : Int) := by omega
    clear hV hB hxw hO5 hO6 hRL hKI hbn hA
    go_upto_region 5 with fail
    obtain ⟨H, hH⟩ : ∃ H, wr.heap.size = H := ⟨_, rfl⟩
    rw [hH] at HCr ⊢
    generalize wr.alloc (.cells #[.int .i64 k1, .string n1, .int .i64 s1, .slice ya1 yl1 yc1] 26) = w6 at HCr HC HA ⊢
    obtain ⟨d0, d1, d2, d3, d4⟩ := HCr.out _ (Ext.refl _)
    have hF0 : Ext w6 w6.drew := (Ext.refl w6).drew
    go_region_held3 (fun W => W.cell? ⟨eb, 0, none⟩ = some (.slice xc C.length cc) ∧ (W.cell? ⟨H, 0, none⟩ = some (.int .i64 k1) ∧ W.cell? ⟨H, 1, none⟩ = some (.string n1) ∧ W.cell? ⟨H, 2, none⟩ = some (.int .i64 s1) ∧ W.cell? ⟨H, 3, none⟩ = some (.slice ya1 yl1 yc1)))
      (first | exact HCr.out _ (by assumption) | go_keep)
      (first | (go_at_call 85; refine (HC.out _ hF0).mono ?_; rintro e w7 ⟨hF, hB⟩; obtain ⟨fi, he, hfi, hbi⟩ := HFI.out _ hF; subst he; have HBI := Lib.hid hbi; have HX7 : Hid (Ext w6 w7) := Lib.hid (hF0.trans hB); clear hF hB hbi))
    go_wp2_with (go_at_call 74; refine (HSET.out _ (HA.out.trans HX7.out) fi hfi).mono ?_; rintro e w8 ⟨he, hv8, hb8⟩; subst he; have HV8 := Lib.hid hv8; have HB8 := Lib.hid ((HB.out.below (HA.out.trans HX7.out)).trans hb8); clear hv8 hb8)
    go_roundw
    case rel => exact ⟨j + 1, _, by omega, by go_num, HV8.out, HBI.out, HB8.out⟩
    case measure => simp [intOf]; omega
end Go.Proofs.YtakeopjpmfgngaaGreatDoor
