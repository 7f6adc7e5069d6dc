/-
  THE WALK OF vectorOf: the bits of a term's summands.
-/
import Derived.Test.YtfbomoginjknlaaDoorQone
import Derived.Test.YtfbomoginjknlaaDoorQcol
namespace Go.Proofs.YtfbomoginjknlaaDoor
open Go.RowKit Go.Lib

theorem setV_bits (f : Nat → Nat) (i j : Nat) : bitV (setV f i) j = (decide (j = i) || bitV f j) := by
  unfold bitV setV
  by_cases hq : j / 64 = i / 64
  · rw [hq, putV_same, Nat.testBit_or, Nat.testBit_two_pow, Bool.or_comm]
    congr 1
    by_cases e : j = i
    · rw [decide_eq_true e, decide_eq_true (by rw [e])]
    · rw [decide_eq_false e, decide_eq_false (by omega)]
  · rw [putV_other _ _ _ hq, decide_eq_false (by intro e; rw [e] at hq; exact hq rfl)]; rfl
theorem xorV_bits (f g : Nat → Nat) : bitV (xorV f g) = bx (bitV f) (bitV g) := by
  funext j
  unfold bitV xorV
  rw [Nat.testBit_xor]; rfl
theorem zeroV_bits : bitV (fun _ => 0) = b0 := by
  funext j
  exact Nat.zero_testBit _
theorem AscT.inj {C : List Tm} (h : AscT C) {i j : Nat} (hi : i < C.length) (hj : j < C.length) (e : C[i] = C[j]) : i = j := by
  have hs := SortedQ_of h
  rcases Nat.lt_trichotomy i j with l | l | l
  · have := hs i j hi hj l
    rw [e, cmpT_self] at this; omega
  · exact l
  · have := hs j i hj hi l
    rw [e, cmpT_self] at this; omega
theorem vec_step {C L : List Tm} (hC : AscT C) (hL : AscT L) {i j : Nat} (hi : i < C.length) (hj : j < L.length) (e : C[i] = L[j]) {f : Nat → Nat} (hf : bitV f = chiP C (L.take j)) : bitV (setV f i) = chiP C (L.take (j + 1)) := by
  funext k
  rw [setV_bits, hf]
  rcases Nat.lt_or_ge k C.length with hk | hk
  · have hck := List.getElem?_eq_getElem hk
    have h1 := chi_mem (C := C) (hL.sublist (List.take_sublist j L)) k _ hck
    have h2 := chi_mem (C := C) (hL.sublist (List.take_sublist (j + 1) L)) k _ hck
    rw [Bool.eq_iff_iff, Bool.or_eq_true, h1, h2, decide_eq_true_eq, List.take_succ_eq_append_getElem hj, List.mem_append, List.mem_singleton]
    constructor
    · rintro (a | a)
      · subst a; exact Or.inr e
      · exact Or.inl a
    · rintro (a | a)
      · exact Or.inr a
      · exact Or.inl (hC.inj hk hi (a.trans e.symm))
  · rw [chiP_supp _ _ _ hk, chiP_supp _ _ _ hk, decide_eq_false (by omega)]; rfl
/-- What an elimination holds: its columns. -/
structure ColAt (w : World) (eb : Nat) (C : List Tm) : Prop where
  cell : ∃ xc cc, w.cell? ⟨eb, 0, none⟩ = some (.slice xc C.length cc) ∧ C.length ≤ cc ∧ Row w C xc
  asc : AscT C
  small : ∀ u ∈ C, size u ≤ 1048576
  len : C.length ≤ 1048576
theorem ColAt.ext {w W : World} {eb : Nat} {C : List Tm} (h : ColAt w eb C) (x : Ext w W) : ColAt W eb C := by
  obtain ⟨⟨xc, cc, h1, h2, h3⟩, h4, h5, h6⟩ := h
  exact ⟨⟨xc, cc, keep_below x _ _ h1, h2, Row_below h3 x⟩, h4, h5, h6⟩
/-- A vector that is given back. -/
def VecPost (w : World) (n : Nat) (B : Nat → Bool) (e : Ending) (w' : World) : Prop :=
  ∃ g f, e = .returned (.slice (some ⟨g, 0, none⟩) n n) ∧ w.heap.size ≤ g ∧ VRow w' g n f ∧ bitV f = B ∧ Ext w w'
theorem But.ext {g : Nat} {w W : World} (h : But g w W) {u : World} (hu : Ext u w) (hg : u.heap.size ≤ g) : Ext u W := Ext.trans (Ext.refl u) (Below.trans hu (h.toBelow hg hu.size))
set_option maxHeartbeats 3200000 in
set_option maxRecDepth 100000 in
theorem vectorOf_any (eb : Nat) (C : List Tm) (t : Tm) (c0 c1 c2 c3 : Value) (w : World) (hcol : ColAt w eb C) (hst : size t ≤ 1048576) (hsub : ∀ u ∈ summT t, u ∈ C) (hI : Is w t c0 c1 c2 c3) :
    Calls Tryd.prog 64 #[.pointer (some ⟨eb, 0, none⟩), .agg #[c0, c1, c2, c3]] w (VecPost w ((C.length + 63) / 64) (chiP C (addT t))) := by
  obtain ⟨k2, n2, s2, ya2, yl2, yc2, rfl, rfl, rfl, rfl⟩ := Is_form hI
  have hB1 : Ext w (w.alloc (.cells #[.int .i64 k2, .string n2, .int .i64 s2, .slice ya2 yl2 yc2] 24)) := (Ext.refl _).alloc _
  have HBK : Hid (∀ W, Ext (w.alloc (.cells #[.int .i64 k2, .string n2, .int .i64 s2, .slice ya2 yl2 yc2] 24)) W → W.cell? ⟨w.heap.size, 0, none⟩ = some (.int .i64 k2) ∧ W.cell? ⟨w.heap.size, 1, none⟩ = some (.string n2) ∧ W.cell? ⟨w.heap.size, 2, none⟩ = some (.int .i64 s2) ∧ W.cell? ⟨w.heap.size, 3, none⟩ = some (.slice ya2 yl2 yc2)) := by
    show ∀ _, _
    intro W x
    have hh := x.block w.heap.size (by simp)
    rw [heap_alloc_new] at hh
    exact (box_facts hh).1
  obtain ⟨xc, cc, hcell, hcc, hRC⟩ := hcol.cell
  have hcl := hcol.len
  have HCELL := Lib.hid (fun W (x : Ext w W) => keep_below x _ _ hcell)
  have hc0 := HCELL.out _ hB1
  have HIn := Lib.hid (Is_IsIn _ _ _ _ _ hI)
  have HSU : Hid (∀ W H, W.heap.size = H → Ext w W → Calls Tryd.prog 28 #[.slice (some ⟨H, 0, none⟩) 1 1] (W.alloc (.cells #[.int .i64 k2, .string n2, .int .i64 s2, .slice ya2 yl2 yc2] 24)) (TsPostE w.heap.size (W.alloc (.cells #[.int .i64 k2, .string n2, .int .i64 s2, .slice ya2 yl2 yc2] 24)) (summT t))) := by
    show ∀ _, _
    intro W H hH x
    exact summandsE_one w.heap.size t H _ _ _ _ _ _ W hst hH (by have := x.size; omega) (IsIn_carry (fun q (hq : q < w.heap.size) => x.block q hq) (fun _ h => h) _ _ _ _ _ HIn.out)
  have HNV := Lib.hid (fun W => newVector_any C.length W hcl)
  have HSMS : Hid (∀ u ∈ summT t, size u ≤ 1073741824) := fun u hu => by have := (summT_mem hu).2.2.1; omega
  have HSUB := Lib.hid hsub
  have hsl := summT_len t
  have HSL : Hid ((summT t).length ≤ 1048576) := (by omega : _ ≤ _)
  have HBS := Lib.hid (fun (u : Tm) (hu : size u ≤ 1073741824) (W : World) (x : Ext w W) k n s y l c (h : Is W u (.int .i64 k) (.string n) (.int .i64 s) (.slice y l c)) => qsearch_any C u _ _ _ _ xc cc W hcc (by omega) (fun b hb => by have := hcol.small b hb; omega) hu hcol.asc.sorted (Row_below (w' := W) hRC x) h)
  have HASC := Lib.hid hcol.asc
  have HASL := Lib.hid (summT_odd t).asc
  have HCHI := Lib.hid (chi_sum C t)
  have HB1 := Lib.hid hB1
  obtain ⟨n, hn⟩ : ∃ n, (C.length + 63) / 64 = n := ⟨_, rfl⟩
  have hnl : n ≤ 1048576 := by omega
  have hn64 : C.length ≤ n * 64 := by omega
  rw [hn] at HNV ⊢
  generalize summT t = L at HSU HSMS HSUB HSL HASL HCHI
  clear hcol hI hB1 hcell hcc hRC hst hsub hsl hn
  go_enter Tryd.func64, Tryd.ntmps64
  go_wp2_with (first
    | (go_at_call 65; refine (HNV.out _).mono ?_; rintro e w3 ⟨g, he, hg, hv, hx⟩; subst he; obtain ⟨b0, b1, b2, b3⟩ := HBK.out _ hx; have HX3 := Lib.hid (HB1.out.trans hx); have HV3 := Lib.hid hv; have HG3 : Hid (w.heap.size ≤ g) := Lib.hid (Nat.le_trans HB1.out.size hg); clear hx hv hg)
    | (go_at_call 28; refine (HSU.out _ _ rfl HX3.out).mono ?_; rintro e w4 ⟨x4, c4, he, h1, h2, h3, h4⟩; subst he; have HX4 := Lib.hid (((Ext.refl w3).alloc _).trans h3); have HR4 := Lib.hid (And.intro h2 h4); clear h1 h2 h3 h4))
  have HGL : Hid (g < w3.heap.size) := Lib.hid HV3.out.1
  go_loopw [20] (fun i wr => ∃ (j : Nat) (f : Nat → Nat), j ≤ L.length ∧ i = .int .i64 j ∧ VRow wr g n f ∧ Hid (bitV f = chiP C (L.take j)) ∧ But g w4 wr) (fun i _ => L.length - (intOf i).toNat)
  case atStart => exact ⟨0, fun _ => 0, Nat.zero_le _, rfl, HV3.out.ext HX4.out, by show _ = _; rw [List.take_zero, chiP_nil]; exact zeroV_bits, But.refl _ _⟩
  case round =>
    obtain ⟨j, f, hj, rfl, hV, HF, hB⟩ := hrel
    have HSL2 := HSL.out
    have HV := Lib.hid hV
    have HB := Lib.hid hB
    have hxw : Ext w wr := hB.ext (HX3.out.trans HX4.out) HG3.out
    have HXW := Lib.hid hxw
    by_cases hlt : j < L.length
    rotate_left
    · have hjl : j = L.length := by omega
      have HQ : Hid (VecPost w n (chiP C (addT t)) (.returned (.slice (some ⟨g, 0, none⟩) n n)) wr) := by
        refine ⟨g, f, rfl, HG3.out, hV, ?_, hxw⟩
        rw [HF.out, hjl, List.take_length, HCHI.out]
      clear hV hB hxw hjl
      go_wp2_with fail
      go_ret
      exact HQ.out
    have hO5 : OwnT w3.heap.size (fun q => q < w.heap.size) w4 L (.slice x4 L.length c4) := by
      obtain ⟨cs, ho, hK⟩ := HR4.out.2
      exact ⟨cs, own_base ho (by rw [World.size_alloc]; omega), hK⟩
    have hO6 : OwnT w3.heap.size (fun q => q < w.heap.size) wr L (.slice x4 L.length c4) := OwnT_carry hO5 (fun b (hb : b < w.heap.size) => hB.block b (by have := HX3.out.size; have := HX4.out.size; omega) (by simp only [ne_eq, Option.some.injEq]; have := HG3.out; omega)) (fun q hq => hB.block q (by obtain ⟨cs, ho, _⟩ := hO5; exact (ho.lt q hq).2) (by obtain ⟨cs, ho, _⟩ := hO5; have := (ho.lt q hq).1; have := HGL.out; simp only [ne_eq, Option.some.injEq]; omega))
    have hRL := (OwnT_rowQ hO6).1
    obtain ⟨kb, ko, rfl⟩ := Row_at hRL (by omega)
    obtain ⟨x0, x1, x2, x3, p0, p1, p2, p3, hKI⟩ := Row_get hRL j hlt
    obtain ⟨k1, n1, s1, ya1, yl1, yc1, rfl, rfl, rfl, rfl⟩ := Is_form hKI
    have hA : Ext wr (wr.alloc (.cells #[.int .i64 k1, .string n1, .int .i64 s1, .slice ya1 yl1 yc1] 24)) := (Ext.refl wr).alloc _
    have HC := Lib.hid (fun W (x : Ext (wr.alloc (.cells #[.int .i64 k1, .string n1, .int .i64 s1, .slice ya1 yl1 yc1] 24)) W) => HBS.out L[j] (HSMS.out _ (List.getElem_mem hlt)) W (hxw.trans (hA.trans x)) _ _ _ _ _ _ (Is_below (w' := W) hKI (hA.trans x)))
    have hbn := heap_alloc_new wr (.cells #[.int .i64 k1, .string n1, .int .i64 s1, .slice ya1 yl1 yc1] 24)
    have HCr : Hid (∀ W, Ext (wr.alloc (.cells #[.int .i64 k1, .string n1, .int .i64 s1, .slice ya1 yl1 yc1] 24)) W → W.cell? ⟨eb, 0, none⟩ = some (.slice xc C.length cc) ∧ (W.cell? ⟨wr.heap.size, 0, none⟩ = some (.int .i64 k1) ∧ W.cell? ⟨wr.heap.size, 1, none⟩ = some (.string n1) ∧ W.cell? ⟨wr.heap.size, 2, none⟩ = some (.int .i64 s1) ∧ W.cell? ⟨wr.heap.size, 3, none⟩ = some (.slice ya1 yl1 yc1))) := by
      show ∀ _, _
      intro W x
      have hh := x.block wr.heap.size (by simp)
      rw [hbn] at hh
      exact ⟨HCELL.out W (hxw.trans (hA.trans x)), (box_facts hh).1⟩
    have HFI : Hid (∀ e, FindQ C L[j] e → ∃ i : Nat, e = .returned (.tuple #[.int .i64 i, .bool true]) ∧ i < C.length ∧ bitV (setV f i) = chiP C (L.take (j + 1))) := by
      show ∀ _, _
      rintro e ⟨i, fl, he, ⟨rfl, hi, hc⟩ | ⟨_, hno⟩⟩
      · exact ⟨i, he, hi, vec_step HASC.out HASL.out hi hlt (cmpT_zero _ _ hc) HF.out⟩
      · exact absurd (cmpT_self _) (hno L[j] (HSUB.out _ (List.getElem_mem hlt)))
    have HSET := Lib.hid (fun W (x : Ext wr W) (i : Nat) (hi : i < C.length) => vset_any g n n i f W (by omega) hnl (HV.out.ext x))
    have HA := Lib.hid hA
    have i1 : (0 : Int) ≤ (j : Int) := by omega
    have i2 : (j : Int) < (L.length : Int) := by omega
    clear hV hB hxw hO5 hO6 hRL hKI hbn hA
    go_upto_region 5 with fail
    obtain ⟨H, hH⟩ : ∃ H, wr.heap.size = H := ⟨_, rfl⟩
    rw [hH] at HCr ⊢
    generalize wr.alloc (.cells #[.int .i64 k1, .string n1, .int .i64 s1, .slice ya1 yl1 yc1] 24) = w6 at HCr HC HA ⊢
    obtain ⟨d0, d1, d2, d3, d4⟩ := HCr.out _ (Ext.refl _)
    have hF0 : Ext w6 w6.drew := (Ext.refl w6).drew
    go_region_held3 (fun W => W.cell? ⟨eb, 0, none⟩ = some (.slice xc C.length cc) ∧ (W.cell? ⟨H, 0, none⟩ = some (.int .i64 k1) ∧ W.cell? ⟨H, 1, none⟩ = some (.string n1) ∧ W.cell? ⟨H, 2, none⟩ = some (.int .i64 s1) ∧ W.cell? ⟨H, 3, none⟩ = some (.slice ya1 yl1 yc1)))
      (first | exact HCr.out _ (by assumption) | go_keep)
      (first | (go_at_call 70; refine (HC.out _ hF0).mono ?_; rintro e w7 ⟨hF, hB⟩; obtain ⟨fi, he, hfi, hbi⟩ := HFI.out _ hF; subst he; have HBI := Lib.hid hbi; have HX7 : Hid (Ext w6 w7) := Lib.hid (hF0.trans hB); clear hF hB hbi))
    go_wp2_with (go_at_call 62; refine (HSET.out _ (HA.out.trans HX7.out) fi hfi).mono ?_; rintro e w8 ⟨he, hv8, hb8⟩; subst he; have HV8 := Lib.hid hv8; have HB8 := Lib.hid ((HB.out.below (HA.out.trans HX7.out)).trans hb8); clear hv8 hb8)
    go_roundw
    case rel => exact ⟨j + 1, _, by omega, by go_num, HV8.out, HBI.out, HB8.out⟩
    case measure => simp [intOf]; omega
end Go.Proofs.YtfbomoginjknlaaDoor

/-
  ROWS AND PIVOTS IN MEMORY; THE WALKS OF row.add AND reduced.
-/
namespace Go.Proofs.YtfbomoginjknlaaDoor
open Go.RowKit Go.Lib

/-- Nothing but some blocks has changed. -/
structure Kq (S : Nat → Prop) (w w' : World) : Prop where
  os : w'.os = w.os
  tape : w'.tape = w.tape
  output : w'.output = w.output
  size : w.heap.size ≤ w'.heap.size
  block : ∀ b, b < w.heap.size → ¬ S b → w'.heap[b]? = w.heap[b]?
theorem Kq.refl (S : Nat → Prop) (w : World) : Kq S w w := ⟨rfl, rfl, rfl, Nat.le_refl _, fun _ _ _ => rfl⟩
theorem Kq.trans {S : Nat → Prop} {a b c : World} (h : Kq S a b) (k : Kq S b c) : Kq S a c :=
  ⟨k.os.trans h.os, k.tape.trans h.tape, k.output.trans h.output, Nat.le_trans h.size k.size, fun i hi hn => (k.block i (Nat.lt_of_lt_of_le hi h.size) hn).trans (h.block i hi hn)⟩
theorem Kq.mono {S T : Nat → Prop} {a b : World} (h : Kq S a b) (hs : ∀ i, i < a.heap.size → S i → T i) : Kq T a b := ⟨h.os, h.tape, h.output, h.size, fun i hi hn => h.block i hi fun x => hn (hs i hi x)⟩
theorem Kq.ext {S : Nat → Prop} {a b c : World} (h : Kq S a b) (k : Ext b c) : Kq S a c :=
  ⟨k.os.trans h.os, k.tape.trans h.tape, k.output.trans h.output, Nat.le_trans h.size k.size, fun i hi hn => (k.block i (Nat.lt_of_lt_of_le hi h.size)).trans (h.block i hi hn)⟩
theorem Kq.ofExt {S : Nat → Prop} {a b : World} (k : Ext a b) : Kq S a b := (Kq.refl S a).ext k
theorem Kq.ofBut {S : Nat → Prop} {g : Nat} {a b : World} (h : But g a b) (hg : S g) : Kq S a b :=
  ⟨h.os, h.tape, h.output, h.size, fun i hi hn => h.block i hi (by simp only [ne_eq, Option.some.injEq]; intro e; exact hn (by rw [e]; exact hg))⟩
theorem Kq.below {S : Nat → Prop} {B : Nat} {a b : World} (h : Kq S a b) (hs : ∀ i, S i → B ≤ i) (hB : B ≤ a.heap.size) : Below B a b :=
  ⟨h.os, h.tape, h.output, h.size, fun i hi => h.block i (Nat.lt_of_lt_of_le hi hB) fun x => by have := hs i x; omega⟩
/-- Nothing older than a world has changed. -/
theorem Kq.fresh {S : Nat → Prop} {u a b : World} (h : Kq S a b) (hu : Ext u a) (hs : ∀ i, S i → u.heap.size ≤ i) : Ext u b := Below.trans hu (h.below hs hu.size)
theorem VRow.kq {S : Nat → Prop} {w W : World} {g n : Nat} {f : Nat → Nat} (h : VRow w g n f) (k : Kq S w W) (hg : ¬ S g) : VRow W g n f := h.carry k.size (k.block g h.1 hg)
theorem cell_kq {S : Nat → Prop} {w W : World} {b o : Nat} {u : Value} (k : Kq S w W) (hb : ¬ S b) (h : w.cell? ⟨b, o, none⟩ = some u) : W.cell? ⟨b, o, none⟩ = some u := by
  rw [World.cell?_of_block (w := w) (a := ⟨b, o, none⟩) (k.block b (World.block_lt_of_cell? w _ h) hb)]; exact h
def two (g h : Nat) (b : Nat) : Prop := b = g ∨ b = h
def RaPost (gs ge n1 n2 : Nat) (f1 f2 : Nat → Nat) (w : World) (e : Ending) (w' : World) : Prop :=
  e = .returned (.tuple #[]) ∧ VRow w' gs n1 f1 ∧ VRow w' ge n2 f2 ∧ Kq (two gs ge) w w'
set_option maxHeartbeats 1600000 in
set_option maxRecDepth 100000 in
theorem rowadd_any (gs ge hs he n1 n2 : Nat) (f1 f2 e1 e2 : Nat → Nat) (w : World) (hn1 : n1 ≤ 1048576) (hn2 : n2 ≤ 1048576) (hne : gs ≠ ge) (x1 : hs ≠ gs) (_x2 : hs≠ ge) (x3 : he ≠ gs) (x4 : he ≠ ge) (hgs : VRow w gs n1 f1) (hge : VRow w ge n2 f2) (hhs : VRow w hs n1 e1) (hhe : VRow w he n2 e2) :
    Calls Tryd.prog 67 #[.agg #[.slice (some ⟨gs, 0, none⟩) n1 n1, .slice (some ⟨ge, 0, none⟩) n2 n2], .agg #[.slice (some ⟨hs, 0, none⟩) n1 n1, .slice (some ⟨he, 0, none⟩) n2 n2]] w (RaPost gs ge n1 n2 (xorV f1 e1) (xorV f2 e2) w) := by
  obtain ⟨wA, hwA⟩ : ∃ W, W = (w.alloc (.cells #[.slice (some ⟨gs, 0, none⟩) n1 n1, .slice (some ⟨ge, 0, none⟩) n2 n2] 67)).alloc (.cells #[.slice (some ⟨hs, 0, none⟩) n1 n1, .slice (some ⟨he, 0, none⟩) n2 n2] 67) := ⟨_, rfl⟩
  have hX : Ext w wA := by rw [hwA]; exact ((Ext.refl w).alloc _).alloc _
  have hq1 : wA.heap[w.heap.size]? = some (.cells #[.slice (some ⟨gs, 0, none⟩) n1 n1, .slice (some ⟨ge, 0, none⟩) n2 n2] 67 (0, 0)) := by
    rw [hwA]
    have := ((Ext.refl (w.alloc (.cells #[.slice (some ⟨gs, 0, none⟩) n1 n1, .slice (some ⟨ge, 0, none⟩) n2 n2] 67))).alloc (.cells #[.slice (some ⟨hs, 0, none⟩) n1 n1, .slice (some ⟨he, 0, none⟩) n2 n2] 67)).block w.heap.size (by simp)
    rw [this]; exact heap_alloc_new w _
  have hq2 : wA.heap[w.heap.size + 1]? = some (.cells #[.slice (some ⟨hs, 0, none⟩) n1 n1, .slice (some ⟨he, 0, none⟩) n2 n2] 67 (0, 0)) := by
    rw [hwA]
    have := heap_alloc_new (w.alloc (.cells #[.slice (some ⟨gs, 0, none⟩) n1 n1, .slice (some ⟨ge, 0, none⟩) n2 n2] 67)) (.cells #[.slice (some ⟨hs, 0, none⟩) n1 n1, .slice (some ⟨he, 0, none⟩) n2 n2] 67)
    rw [World.size_alloc] at this; exact this
  have HCL : Hid (∀ W, Kq (fun b => b < w.heap.size) wA W → (W.cell? ⟨w.heap.size, 0, none⟩ = some (.slice (some ⟨gs, 0, none⟩) n1 n1) ∧ W.cell? ⟨w.heap.size, 1, none⟩ = some (.slice (some ⟨ge, 0, none⟩) n2 n2)) ∧ W.cell? ⟨w.heap.size + 1, 0, none⟩ = some (.slice (some ⟨hs, 0, none⟩) n1 n1) ∧ W.cell? ⟨w.heap.size + 1, 1, none⟩ = some (.slice (some ⟨he, 0, none⟩) n2 n2)) := by
    show ∀ _, _
    intro W k
    have l1 := (Array.getElem?_eq_some_iff.1 hq1).1
    have l2 := (Array.getElem?_eq_some_iff.1 hq2).1
    have r1 := (k.block _ l1 (by omega)).trans hq1
    have r2 := (k.block _ l2 (by omega)).trans hq2
    refine ⟨⟨?_, ?_⟩, ?_, ?_⟩ <;> simp [World.cell?, r1, r2]
  obtain ⟨⟨q0, q1⟩, q2, q3⟩ := HCL.out wA (Kq.refl _ _)
  have a1 := hgs.ext hX
  have a2 := hge.ext hX
  have a3 := hhs.ext hX
  have a4 := hhe.ext hX
  have HC1 := Lib.hid (vadd_any gs hs n1 n1 n1 f1 e1 wA hn1 x1 a1 a3.1 a3.2.2)
  have HC2 := Lib.hid (fun W (b : But gs wA W) => vadd_any ge he n2 n2 n2 f2 e2 W hn2 x4 (a2.carry b.size (b.block ge a2.1 (by simp only [ne_eq, Option.some.injEq]; exact hne.symm))) (Nat.lt_of_lt_of_le a4.1 b.size) (a4.2.2.but a4.1 x3 b))
  have HK1 : Hid (∀ W, But gs wA W → Kq (fun b => b < w.heap.size) wA W) := fun W b => Kq.ofBut b hgs.1
  have HEND : Hid (∀ W V, VRow W gs n1 (xorV f1 e1) → But gs wA W → VRow V ge n2 (xorV f2 e2) → But ge W V → RaPost gs ge n1 n2 (xorV f1 e1) (xorV f2 e2) w (.returned (.tuple #[])) V) := by
    show ∀ _, _
    intro W V v1 b1 v2 b2
    exact ⟨rfl, v1.carry b2.size (b2.block gs v1.1 (by simp only [ne_eq, Option.some.injEq]; exact hne)), v2, (Kq.ofExt hX).trans ((Kq.ofBut b1 (Or.inl rfl)).trans (Kq.ofBut b2 (Or.inr rfl)))⟩
  have HWA := Lib.hid hwA
  have tok1 : True := trivial
  clear hgs hge hhs hhe a1 a2 a3 a4 hq1 hq2 hX hwA
  go_enter Tryd.func67, Tryd.ntmps67
  go_upto_region 1 with fail
  rw [← HWA.out]
  go_wp2_with (first
    | (have _t := tok1; go_at_call 82; refine (HC1.out).mono ?_; rintro e w3 ⟨he, hv, hb⟩; subst he; obtain ⟨⟨q0, q1⟩, q2, q3⟩ := HCL.out _ (HK1.out _ hb); have HV3 := Lib.hid (And.intro hv hb); clear hv hb tok1 _t)
    | (go_at_call 82; refine (HC2.out _ HV3.out.2).mono ?_; rintro e w4 ⟨he, hv, hb⟩; subst he; have HF := Lib.hid (HEND.out _ _ HV3.out.1 HV3.out.2 hv hb); clear hv hb))
  go_end0
  exact HF.out
/-- A pivot in memory: the blocks of its vectors, their words, its column, its element. -/
structure PvM where
  gs : Nat
  ge : Nat
  s : Nat → Nat
  e : Nat → Nat
  c : Nat
  i : Nat
def pvB (p : PvM) : PivB := ⟨bitV p.s, bitV p.e, p.c, p.i⟩
def encPv (n1 n2 : Nat) (p : PvM) : List Value := [.slice (some ⟨p.gs, 0, none⟩) n1 n1, .slice (some ⟨p.ge, 0, none⟩) n2 n2, .int .i64 p.c, .int .i64 p.i]
theorem encPv_len (n1 n2 : Nat) (p : PvM) : (encPv n1 n2 p).length = 4 := rfl
def pvBs (ps : List PvM) : List Nat := ps.flatMap fun p => [p.gs, p.ge]
/-- An elimination in memory. -/
structure EL (eb : Nat) (C : List Tm) (n1 n2 : Nat) (ps : List PvM) (v : Value) (w : World) : Prop where
  low : ∃ xc cc, w.cell? ⟨eb, 0, none⟩ = some (.slice xc C.length cc) ∧ C.length ≤ cc ∧ RowIn (fun q => q < eb) w C xc
  asc : AscT C
  small : ∀ u ∈ C, size u ≤ 1048576
  len : C.length ≤ 1048576
  pv : w.cell? ⟨eb, 1, none⟩ = some v
  fz : ∀ i, w.frozen? ⟨eb, i, none⟩ = false
  own : w.ownsRow (eb + 1) 93 4 v ps.length (ps.flatMap (encPv n1 n2))
  vec : ∀ p ∈ ps, VRow w p.gs n1 p.s ∧ VRow w p.ge n2 p.e ∧ eb < p.gs ∧ eb < p.ge ∧ p.gs ≠ p.ge ∧ p.c < C.length
  apart : ps.Pairwise fun p q => p.gs ≠ q.gs ∧ p.gs ≠ q.ge ∧ p.ge ≠ q.gs ∧ p.ge ≠ q.ge
  off : ∀ p ∈ ps, v.ownBlock ≠ some p.gs ∧ v.ownBlock ≠ some p.ge
theorem EL.lt {eb n1 n2 : Nat} {C : List Tm} {ps : List PvM} {v : Value} {w : World} (h : EL eb C n1 n2 ps v w) : eb < w.heap.size := World.block_lt_of_cell? w _ h.pv
theorem EL.colAt {eb n1 n2 : Nat} {C : List Tm} {ps : List PvM} {v : Value} {w : World} (h : EL eb C n1 n2 ps v w) : ColAt w eb C := by
  obtain ⟨xc, cc, h1, h2, h3⟩ := h.low
  exact ⟨⟨xc, cc, h1, h2, RowIn_Row _ _ h3⟩, h.asc, h.small, h.len⟩
theorem RowIn_carryQ {S : Nat → Prop} {w w' : World} (hc : ∀ b, S b → w'.heap[b]? = w.heap[b]?) : ∀ (ts : List Tm) (xa : Option Addr), RowIn S w ts xa → RowIn S w' ts xa
  | [], _, _ => by simp [RowIn]
  | t :: ts, xa, h => by
    simp only [RowIn] at h ⊢
    obtain ⟨b, o, e, hb, ⟨c0, c1, c2, c3, g0, g1, g2, g3, hI⟩, h2⟩ := h
    have hk : ∀ i v, w.cell? ⟨b, i, none⟩ = some v → w'.cell? ⟨b, i, none⟩ = some v := fun i v hv => by rw [World.cell?_of_block (w := w) (a := ⟨b, i, none⟩) (hc b hb)]; exact hv
    exact ⟨b, o, e, hb, ⟨c0, c1, c2, c3, hk _ _ g0, hk _ _ g1, hk _ _ g2, hk _ _ g3, IsIn_carry hc (fun _ h => h) _ _ _ _ _ hI⟩, RowIn_carryQ hc ts _ h2⟩
theorem frozen_same {w w' : World} {b : Nat} (h : w'.heap[b]? = w.heap[b]?) (i : Nat) : w'.frozen? ⟨b, i, none⟩ = w.frozen? ⟨b, i, none⟩ := by
  unfold World.frozen?
  rw [h]
/-- What changes other blocks keeps it. -/
theorem EL.keep {S : Nat → Prop} {eb n1 n2 : Nat} {C : List Tm} {ps : List PvM} {v : Value} {w W : World} (h : EL eb C n1 n2 ps v w) (k : Kq S w W) (h0 : ∀ b, S b → eb < b) (h1 : ∀ p ∈ ps, ¬ S p.gs ∧ ¬ S p.ge) (h2 : ∀ b, v.ownBlock = some b → ¬ S b) : EL eb C n1 n2 ps v W := by
  have hl := h.lt
  have hb : ∀ b, b ≤ eb → W.heap[b]? = w.heap[b]? := fun b hb => k.block b (by omega) fun x => by have := h0 b x; omega
  obtain ⟨xc, cc, q1, q2, q3⟩ := h.low
  exact ⟨⟨xc, cc, by rw [World.cell?_of_block (w := w) (a := ⟨eb, 0, none⟩) (hb eb (Nat.le_refl _))]; exact q1, q2, RowIn_carryQ (fun b (hb' : b < eb) => hb b (Nat.le_of_lt hb')) _ _ q3⟩, h.asc, h.small, h.len,
    by rw [World.cell?_of_block (w := w) (a := ⟨eb, 1, none⟩) (hb eb (Nat.le_refl _))]; exact h.pv,
    fun i => by rw [frozen_same (hb eb (Nat.le_refl _))]; exact h.fz i,
    own_heap h.own (fun q hq => k.block q (h.own.lt q hq).2 (h2 q hq)),
    fun p hp => by
      obtain ⟨a, b, c⟩ := h.vec p hp
      exact ⟨a.kq k (h1 p hp).1, b.kq k (h1 p hp).2, c⟩, h.apart, h.off⟩
theorem EL.ext {eb n1 n2 : Nat} {C : List Tm} {ps : List PvM} {v : Value} {w W : World} (h : EL eb C n1 n2 ps v w) (x : Ext w W) : EL eb C n1 n2 ps v W :=
  h.keep (S := fun b => w.heap.size ≤ b) (Kq.ofExt x) (fun b hb => by have := h.lt; omega) (fun p hp => ⟨by have := (h.vec p hp).1.1; omega, by have := (h.vec p hp).2.1.1; omega⟩) (fun b hb => by have := (h.own.lt b hb).2; omega)
/-- The cells of a pivot of the row. -/
def PvAt (W : World) (g o n1 n2 : Nat) (p : PvM) : Prop := W.cell? ⟨g, o, none⟩ = some (.slice (some ⟨p.gs, 0, none⟩) n1 n1) ∧ W.cell? ⟨g, o + 1, none⟩ = some (.slice (some ⟨p.ge, 0, none⟩) n2 n2) ∧ W.cell? ⟨g, o + 2, none⟩ = some (.int .i64 p.c) ∧ W.cell? ⟨g, o + 3, none⟩ = some (.int .i64 p.i)
theorem EL.form {eb n1 n2 : Nat} {C : List Tm} {ps : List PvM} {v : Value} {w : World} (h : EL eb C n1 n2 ps v w) : (v = .slice none 0 0 ∧ ps = []) ∨ ∃ g cap, v = .slice (some ⟨g, 0, none⟩) ps.length cap ∧ eb < g ∧ g < w.heap.size ∧ ps.length ≤ cap := by
  rcases h.own.2 with ⟨rfl, e⟩ | ⟨g, cap, _, rfl, hg, _, hcap, _⟩
  · exact Or.inl ⟨rfl, List.length_eq_zero_iff.1 e⟩
  · exact Or.inr ⟨g, cap, rfl, by have := (h.own.lt g rfl).1; omega, (h.own.lt g rfl).2, hcap⟩
theorem EL.cells {eb n1 n2 g cap : Nat} {C : List Tm} {ps : List PvM} {w : World} (h : EL eb C n1 n2 ps (.slice (some ⟨g, 0, none⟩) ps.length cap) w) (j : Nat) (hj : j < ps.length) : PvAt w g (j * 4) n1 n2 ps[j] := by
  have hl := h.own.1
  rw [flatQ_len (encPv n1 n2) 4 (encPv_len n1 n2)] at hl
  haveI : Inhabited PvM := ⟨ps[j]⟩
  have e : ps[j]! = ps[j] := getElem!_pos ps j hj
  have hq : ∀ i, i < 4 → w.cell? ⟨g, j * 4 + i, none⟩ = (encPv n1 n2 ps[j])[i]? := fun i hi => by
    rw [h.own.cellAt _ (by omega), flatQ (encPv n1 n2) 4 (encPv_len n1 n2) (by omega) ps (j * 4 + i) (by omega), show (j * 4 + i) / 4 = j by omega, show (j * 4 + i) % 4 = i by omega, e]
    have : i < (encPv n1 n2 ps[j]).length := by rw [encPv_len]; exact hi
    rw [getElem!_pos _ i this, List.getElem?_eq_getElem this]
  exact ⟨hq 0 (by omega), hq 1 (by omega), hq 2 (by omega), hq 3 (by omega)⟩
theorem EL.nlen {eb n1 n2 : Nat} {C : List Tm} {ps : List PvM} {v : Value} {w : World} (h : EL eb C n1 n2 ps v w) : ∃ xa cap, v = .slice xa ps.length cap := by
  rcases h.form with ⟨rfl, e⟩ | ⟨g, cap, rfl, _⟩
  · exact ⟨none, 0, by rw [e]; rfl⟩
  · exact ⟨_, cap, rfl⟩
end Go.Proofs.YtfbomoginjknlaaDoor

/-
  THE WALK OF reduced.
-/
namespace Go.Proofs.YtfbomoginjknlaaDoor
open Go.RowKit Go.Lib

/-- What reduced gives back. -/
def RowPost (w : World) (n1 n2 : Nat) (X Y : Nat → Bool) (e : Ending) (w' : World) : Prop :=
  ∃ gs ge fs fe, e = .returned (.agg #[.slice (some ⟨gs, 0, none⟩) n1 n1, .slice (some ⟨ge, 0, none⟩) n2 n2]) ∧ w.heap.size ≤ gs ∧ w.heap.size ≤ ge ∧ gs ≠ ge ∧ VRow w' gs n1 fs ∧ VRow w' ge n2 fe ∧ bitV fs = X ∧ bitV fe = Y ∧ Ext w w'
theorem box2_facts {w : World} {b : Nat} {y0 y1 : Value} {T : TypeId} (h : w.heap[b]? = some (.cells #[y0, y1] T (0, 0))) : (w.cell? ⟨b, 0, none⟩ = some y0 ∧ w.cell? ⟨b, 1, none⟩ = some y1) ∧ ∀ i, w.frozen? ⟨b, i, none⟩ = false := by
  refine ⟨⟨?_, ?_⟩, fun i => ?_⟩
  · simp [World.cell?, h]
  · simp [World.cell?, h]
  · simp [World.frozen?, h]
set_option maxHeartbeats 3200000 in
set_option maxRecDepth 100000 in
theorem reduced_any (eb n1 n2 N : Nat) (C : List Tm) (ps : List PvM) (v : Value) (t : Tm) (c0 c1 c2 c3 : Value) (w : World) (hn1 : (C.length + 63) / 64 = n1) (hn2 : (N + 63) / 64 = n2) (hN : N ≤ 1048576) (hps : ps.length ≤ 1048576) (hE : EL eb C n1 n2 ps v w) (hst : size t ≤ 1048576) (hsub : ∀ u ∈ summT t, u ∈ C) (hI : Is w t c0 c1 c2 c3) :
    Calls Tryd.prog 40 #[.pointer (some ⟨eb, 0, none⟩), .agg #[c0, c1, c2, c3], .int .i64 N] w (RowPost w n1 n2 (redS (ps.map pvB) (chiP C (addT t))) (redE (ps.map pvB) (chiP C (addT t)) b0)) := by
  obtain ⟨k2, n, s2, ya2, yl2, yc2, rfl, rfl, rfl, rfl⟩ := Is_form hI
  obtain ⟨wB, hwB⟩ : ∃ W, W = (w.alloc (.cells #[.int .i64 k2, .string n, .int .i64 s2, .slice ya2 yl2 yc2] 24)).alloc (.cells #[.slice none 0 0, .slice none 0 0] 67) := ⟨_, rfl⟩
  have hX : Ext w wB := by rw [hwB]; exact ((Ext.refl w).alloc _).alloc _
  have hsB : wB.heap.size = w.heap.size + 2 := by rw [hwB, World.size_alloc, World.size_alloc]
  have hq1 : wB.heap[w.heap.size]? = some (.cells #[.int .i64 k2, .string n, .int .i64 s2, .slice ya2 yl2 yc2] 24 (0, 0)) := by
    rw [hwB]
    have := ((Ext.refl (w.alloc (.cells #[.int .i64 k2, .string n, .int .i64 s2, .slice ya2 yl2 yc2] 24))).alloc (.cells #[.slice none 0 0, .slice none 0 0] 67)).block w.heap.size (by simp)
    rw [this]; exact heap_alloc_new w _
  have hq2 : wB.heap[w.heap.size + 1]? = some (.cells #[.slice none 0 0, .slice none 0 0] 67 (0, 0)) := by
    rw [hwB]
    have := heap_alloc_new (w.alloc (.cells #[.int .i64 k2, .string n, .int .i64 s2, .slice ya2 yl2 yc2] 24)) (.cells #[.slice none 0 0, .slice none 0 0] 67)
    rw [World.size_alloc] at this; exact this
  have HBT : Hid (∀ W, Ext wB W → (W.cell? ⟨w.heap.size, 0, none⟩ = some (.int .i64 k2) ∧ W.cell? ⟨w.heap.size, 1, none⟩ = some (.string n) ∧ W.cell? ⟨w.heap.size, 2, none⟩ = some (.int .i64 s2) ∧ W.cell? ⟨w.heap.size, 3, none⟩ = some (.slice ya2 yl2 yc2))) := by
    show ∀ _, _
    intro W x
    exact (box_facts ((x.block w.heap.size (by omega)).trans hq1)).1
  have HBR : Hid (∀ W, Ext wB W → W.heap[w.heap.size + 1]? = some (.cells #[.slice none 0 0, .slice none 0 0] 67 (0, 0))) := by
    show ∀ _, _
    intro W x
    exact (x.block _ (by omega)).trans hq2
  obtain ⟨b0', b1', b2', b3'⟩ := HBT.out wB (Ext.refl _)
  have HVO := Lib.hid (fun W (x : Ext w W) => vectorOf_any eb C t _ _ _ _ W (hE.colAt.ext x) hst hsub (Is_below (w' := W) hI x))
  have HNV := Lib.hid (fun W => newVector_any N W hN)
  rw [hn1] at HVO
  rw [hn2] at HNV
  have hcl := hE.len
  have HEL := Lib.hid (fun W (x : Ext w W) => hE.ext x)
  have HPV := Lib.hid hE.vec
  have HPC : Hid (∀ W, Ext w W → W.cell? ⟨eb, 1, none⟩ = some v) := fun W x => keep_below x _ _ hE.pv
  have HFORM := Lib.hid hE.form
  obtain ⟨xv, cv, hv⟩ := hE.nlen
  subst hv
  have hn1l : n1 ≤ 1048576 := by omega
  have hn2l : n2 ≤ 1048576 := by omega
  have hn64 : C.length ≤ n1 * 64 := by omega
  have HX := Lib.hid hX
  have HSB := Lib.hid hsB
  have HWB := Lib.hid hwB
  clear hX hsB hq1 hq2 hwB hI hE hn1 hn2 hst hsub hN
  generalize chiP C (addT t) = X at HVO ⊢
  go_enter Tryd.func40, Tryd.ntmps40
  go_upto_region 1 with fail
  rw [← HWB.out]
  go_upto_region 2 with (first
    | (go_at_call 64; refine (HVO.out _ HX.out).mono ?_; rintro e w3 ⟨gs, fs0, he, hg, hv, hb, hx⟩; subst he; have HX3 := Lib.hid hx; have HV3 := Lib.hid hv; have HB3 := Lib.hid hb; have HG3 := Lib.hid hg; clear hx hv hg hb)
    | (go_at_call 65; refine (HNV.out _).mono ?_; rintro e w4 ⟨ge, he, hg, hv, hx⟩; subst he; have HX4 := Lib.hid hx; have HV4 := Lib.hid hv; have HG4 := Lib.hid hg; clear hx hv hg))
  have hgsl := HV3.out.1
  have hgel := HV4.out.1
  have hne : gs ≠ ge := by have := HG4.out; omega
  have hs34 := HX4.out.size
  have hsw := HX.out.size
  have hs3 := HX3.out.size
  have hwg : w.heap.size + 2 ≤ gs := by have := HG3.out; have := HSB.out; omega
  have hwe : w.heap.size + 2 ≤ ge := by have := HG4.out; have := HSB.out; omega
  have hbn := heap_alloc_new w4 (.cells #[.slice (some ⟨gs, 0, none⟩) n1 n1, .slice (some ⟨ge, 0, none⟩) n2 n2] 67)
  have hA : Ext w4 (w4.alloc (.cells #[.slice (some ⟨gs, 0, none⟩) n1 n1, .slice (some ⟨ge, 0, none⟩) n2 n2] 67)) := (Ext.refl w4).alloc _
  obtain ⟨H, hH⟩ : ∃ H, w4.heap.size = H := ⟨_, rfl⟩
  rw [hH] at hbn ⊢
  have hv3 : VRow (w4.alloc (.cells #[.slice (some ⟨gs, 0, none⟩) n1 n1, .slice (some ⟨ge, 0, none⟩) n2 n2] 67)) gs n1 fs0 := (HV3.out.ext HX4.out).ext hA
  have hv4 := HV4.out.ext hA
  have hx5 : Ext wB (w4.alloc (.cells #[.slice (some ⟨gs, 0, none⟩) n1 n1, .slice (some ⟨ge, 0, none⟩) n2 n2] 67)) := (HX3.out.trans HX4.out).trans hA
  generalize w4.alloc (.cells #[.slice (some ⟨gs, 0, none⟩) n1 n1, .slice (some ⟨ge, 0, none⟩) n2 n2] 67) = w5 at hbn hv3 hv4 hx5 ⊢
  have hc1 := HPC.out w5 (HX.out.trans hx5)
  obtain ⟨⟨r0, r1⟩, _⟩ := box2_facts hbn
  have HR5 : Hid (∀ W, Kq (two gs ge) w5 W → W.cell? ⟨H, 0, none⟩ = some (.slice (some ⟨gs, 0, none⟩) n1 n1) ∧ W.cell? ⟨H, 1, none⟩ = some (.slice (some ⟨ge, 0, none⟩) n2 n2)) := by
    show ∀ _, _
    intro W k
    have hnS : ¬ two gs ge H := by unfold two; omega
    exact ⟨cell_kq k hnS r0, cell_kq k hnS r1⟩
  have HX5 : Hid (∀ W, Kq (two gs ge) w5 W → Ext wB W) := fun W k => k.fresh hx5 fun i hi => by have := HSB.out; rcases hi with rfl | rfl <;> omega
  have HA0 := Lib.hid (And.intro hv3 hv4)
  clear hbn hv3 hv4 hx5 hA r0 r1
  go_wp2_with fail
  go_loopw [21] (fun i wr => ∃ (j : Nat) (fs fe : Nat → Nat), j ≤ ps.length ∧ i = .int .i64 j ∧ VRow wr gs n1 fs ∧ VRow wr ge n2 fe ∧ Hid (redS (ps.map pvB) X = redS ((ps.drop j).map pvB) (bitV fs)) ∧ Hid (redE (ps.map pvB) X b0 = redE ((ps.drop j).map pvB) (bitV fs) (bitV fe)) ∧ Kq (two gs ge) w5 wr) (fun i _ => ps.length - (intOf i).toNat)
  case atStart => exact ⟨0, fs0, fun _ => 0, Nat.zero_le _, rfl, HA0.out.1, HA0.out.2, by show _ = _; rw [HB3.out]; rfl, by show _ = _; rw [HB3.out, zeroV_bits]; rfl, Kq.refl _ _⟩
  case round =>
    obtain ⟨j, fs, fe, hj, rfl, hvs, hve, HS, HE, hK⟩ := hrel
    have HVS := Lib.hid hvs
    have HVE := Lib.hid hve
    have HK := Lib.hid hK
    have hxr := HX5.out _ hK
    have HXR := Lib.hid hxr
    obtain ⟨r0, r1⟩ := HR5.out _ hK
    by_cases hlt : j < ps.length
    rotate_left
    · have hjl : j = ps.length := by omega
      have hbr := HBR.out _ hxr
      obtain ⟨⟨m0, m1⟩, mf⟩ := box2_facts hbr
      have mf0 := mf 0
      have mf1 := mf 1
      have HQ : Hid (RowPost w n1 n2 (redS (ps.map pvB) X) (redE (ps.map pvB) X b0) (.returned (.agg #[.slice (some ⟨gs, 0, none⟩) n1 n1, .slice (some ⟨ge, 0, none⟩) n2 n2])) ((wr.setCell ⟨w.heap.size + 1, 0, none⟩ (.slice (some ⟨gs, 0, none⟩) n1 n1)).setCell ⟨w.heap.size + 1, 1, none⟩ (.slice (some ⟨ge, 0, none⟩) n2 n2))) := by
        have hfar : ∀ b, b ≠ w.heap.size + 1 → ((wr.setCell ⟨w.heap.size + 1, 0, none⟩ (.slice (some ⟨gs, 0, none⟩) n1 n1)).setCell ⟨w.heap.size + 1, 1, none⟩ (.slice (some ⟨ge, 0, none⟩) n2 n2)).heap[b]? = wr.heap[b]? := fun b hb => by
          rw [Below.heap_setCell _ _ _ _ (by simp only; omega), Below.heap_setCell _ _ _ _ (by simp only; omega)]
        refine ⟨gs, ge, fs, fe, rfl, by omega, by omega, hne, hvs.carry (by simp [World.setCell]) (hfar gs (by omega)), hve.carry (by simp [World.setCell]) (hfar ge (by omega)), ?_, ?_, ?_⟩
        · rw [HS.out, hjl, List.drop_length]; rfl
        · rw [HE.out, hjl, List.drop_length]; rfl
        · exact (((HX.out.trans hxr).setCell (p := ⟨w.heap.size + 1, 0, none⟩) (by simp only; omega) _).setCell (p := ⟨w.heap.size + 1, 1, none⟩) (by simp only; omega) _)
      clear hvs hve hK hxr hbr hjl mf
      go_wp2_with fail
      exact bodyPost_ret (v := .agg #[.slice (some ⟨gs, 0, none⟩) n1 n1, .slice (some ⟨ge, 0, none⟩) n2 n2]) (by simp [results, Tryd.results40, go_sem, m0, m1]) rfl HQ.out
    have hel := HEL.out wr (HX.out.trans hxr)
    rcases hel.form with ⟨_, e0⟩ | ⟨g, cap, e0, hg1, hg2, hg3⟩
    · rw [e0] at hlt; exact absurd hlt (by simp)
    simp only [Value.slice.injEq, true_and] at e0
    obtain ⟨rfl, rfl⟩ := e0
    obtain ⟨p0, p1, p2, p3⟩ := hel.cells j hlt
    obtain ⟨v1, v2, v3, v4, v5, v6⟩ := HPV.out ps[j] (List.getElem_mem hlt)
    obtain ⟨u1, u2, _⟩ := hel.vec ps[j] (List.getElem_mem hlt)
    have hv1l := v1.1
    have hv2l := v2.1
    have hdr := List.drop_eq_getElem_cons hlt
    have hrS : redS ((ps.drop j).map pvB) (bitV fs) = redS ((ps.drop (j + 1)).map pvB) (if bitV fs ps[j].c = true then bx (bitV fs) (bitV ps[j].s) else bitV fs) := by rw [hdr, List.map_cons, redS]; rfl
    have hrE : redE ((ps.drop j).map pvB) (bitV fs) (bitV fe) = redE ((ps.drop (j + 1)).map pvB) (if bitV fs ps[j].c = true then bx (bitV fs) (bitV ps[j].s) else bitV fs) (if bitV fs ps[j].c = true then bx (bitV fe) (bitV ps[j].e) else bitV fe) := by rw [hdr, List.map_cons, redE]; rfl
    obtain ⟨P, hP⟩ : ∃ P, ps[j] = P := ⟨_, rfl⟩
    rw [hP] at p0 p1 p2 p3 v1 v2 v3 v4 v5 v6 u1 u2 hv1l hv2l hrS hrE
    have hA6 : Ext wr (wr.alloc (.cells #[.slice (some ⟨P.gs, 0, none⟩) n1 n1, .slice (some ⟨P.ge, 0, none⟩) n2 n2, .int .i64 P.c, .int .i64 P.i] 93)) := (Ext.refl wr).alloc _
    have HHAS := Lib.hid (has_any gs n1 n1 P.c fs (wr.alloc (.cells #[.slice (some ⟨P.gs, 0, none⟩) n1 n1, .slice (some ⟨P.ge, 0, none⟩) n2 n2, .int .i64 P.c, .int .i64 P.i] 93)) (by omega) hn1l (hvs.ext hA6).2.2)
    have HADD := Lib.hid (rowadd_any gs ge P.gs P.ge n1 n2 fs fe P.s P.e (wr.alloc (.cells #[.slice (some ⟨P.gs, 0, none⟩) n1 n1, .slice (some ⟨P.ge, 0, none⟩) n2 n2, .int .i64 P.c, .int .i64 P.i] 93)) hn1l hn2l hne (by omega) (by omega) (by omega) (by omega) (hvs.ext hA6) (hve.ext hA6) (u1.ext hA6) (u2.ext hA6))
    have HA6 := Lib.hid hA6
    have hwr : H < wr.heap.size := World.block_lt_of_cell? wr _ r0
    have i1 : (0 : Int) ≤ (j : Int) := by omega
    have i2 : (j : Int) < (ps.length : Int) := by omega
    clear hvs hve hK hxr hel v1 v2 v3 v4 v5 v6 u1 u2 hv1l hv2l hdr hP hA6
    cases hb : bitV fs P.c
    · rw [hb] at HHAS hrS hrE
      have HS2 : Hid (redS (ps.map pvB) X = redS ((ps.drop (j + 1)).map pvB) (bitV fs)) := by show _ = _; rw [HS.out, hrS]; simp
      have HE2 : Hid (redE (ps.map pvB) X b0 = redE ((ps.drop (j + 1)).map pvB) (bitV fs) (bitV fe)) := by show _ = _; rw [HE.out, hrE]; simp
      clear hrS hrE hb
      go_wp2_with (go_at_call 66; refine (HHAS.out).mono ?_; rintro e w6 ⟨he, hw⟩; subst he; subst hw)
      go_roundw
      case rel => exact ⟨j + 1, fs, fe, by omega, by go_num, HVS.out.ext HA6.out, HVE.out.ext HA6.out, HS2, HE2, HK.out.ext HA6.out⟩
      case measure => simp [intOf]; omega
    · rw [hb] at HHAS hrS hrE
      have HS2 : Hid (redS (ps.map pvB) X = redS ((ps.drop (j + 1)).map pvB) (bitV (xorV fs P.s))) := by show _ = _; rw [HS.out, hrS, xorV_bits]; simp
      have HE2 : Hid (redE (ps.map pvB) X b0 = redE ((ps.drop (j + 1)).map pvB) (bitV (xorV fs P.s)) (bitV (xorV fe P.e))) := by show _ = _; rw [HE.out, hrE, xorV_bits, xorV_bits]; simp
      clear hrS hrE hb
      go_wp2_with (first
        | (go_at_call 66; refine (HHAS.out).mono ?_; rintro e w6 ⟨he, hw⟩; subst he; subst hw)
        | (go_at_call 67; refine (HADD.out).mono ?_; rintro e w7 ⟨he, hv1, hv2, hk⟩; subst he; have HV7 := Lib.hid (And.intro hv1 hv2); have HK7 := Lib.hid ((HK.out.ext HA6.out).trans hk); clear hv1 hv2 hk))
      go_roundw
      case rel => exact ⟨j + 1, _, _, by omega, by go_num, HV7.out.1, HV7.out.2, HS2, HE2, HK7.out⟩
      case measure => simp [intOf]; omega
end Go.Proofs.YtfbomoginjknlaaDoor
