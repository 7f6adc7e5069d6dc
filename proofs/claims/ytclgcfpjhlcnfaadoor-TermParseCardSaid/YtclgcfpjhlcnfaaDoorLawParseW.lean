/-
  THE WALKS OF the law TermParse, the chapter's examples by hypothesis.
-/
import Derived.Test.YtclgcfpjhlcnfaaDoorTformat
import Derived.Test.YtclgcfpjhlcnfaaDoorLawSizesW
import Derived.Test.YtclgcfpjhlcnfaaDoorReadA
namespace Go.Proofs.YtclgcfpjhlcnfaaDoor
open Go.RowKit

set_option maxHeartbeats 1000000 in
set_option maxRecDepth 100000 in
theorem parse_large (HA : Hid AwakeOk) (s : ByteArray) (w : World) (hL : Laid w) (hs : s.size ≤ maxLen) (h1 : 2000 < s.size) :
    Calls Tryd.prog 3 #[.string s] w fun e w' => e = .returned (.bool true) ∧ Below w.heap.size w w' := by
  have HL := Lib.hid hL
  unfold maxLen at hs
  have h2 : (2000 : Int) < (s.size : Int) := by omega
  clear hL h1
  go_enter Tryd.func3, Tryd.ntmps3
  go_wp2_with (first
    | (go_at_call 10; refine (HA.out _ ?_).mono ?_; (first | exact HL.out | exact Laid_ext HL.out HB1.out); rintro e w1 ⟨he, hB1⟩; subst he; first | (have HB3 : Hid (Ext w w1) := HB1.out.trans hB1; clear hB1) | (have HB1 : Hid (Ext w w1) := hB1; clear hB1)))
  go_ret
  exact ⟨rfl, HB3.out⟩

set_option maxHeartbeats 1600000 in
set_option maxRecDepth 100000 in
theorem parse_small (HA : Hid AwakeOk) (s : ByteArray) (w : World) (hL : Laid w) (h1 : s.size ≤ 2000) :
    Calls Tryd.prog 3 #[.string s] w fun e w' => e = .returned (.bool true) ∧ Below w.heap.size w w' := by
  have HL := Lib.hid hL
  have h2 : (s.size : Int) ≤ 2000 := by omega
  have HP := Lib.hid (fun W (x : Laid W) => parse_any s W x (by omega))
  have HR := Lib.hid (fun W => rparse_any s W (by omega))
  have hback := parse_back s h1
  have href := parse_ref s h1
  unfold ParsePost at HP
  unfold RParsePost at HR
  rw [← href] at HR
  have hsz : size (parseP s).1 ≤ 1073741824 := by
    rw [href]
    have hw := readR_text 800 s
    unfold refP
    generalize readR 800 s = X at hw
    have hz : size zeroT ≤ 1073741824 := by simp [zeroT, size, sizes]
    cases X with
    | none => exact hz
    | some p =>
      obtain ⟨t, r⟩ := p
      have hwt := hw t r rfl
      have hst : size t ≤ 1073741824 := by
        have := wf_size t hwt.1
        have h2 : s.size = (textT t).size + r.size := by
          have := congrArg ByteArray.size hwt.2
          rw [ByteArray.size_append] at this; exact this
        omega
      simp only
      split
      · split
        · exact hst
        · exact hz
      · exact hz
  generalize parseP s = P at HP HR hback hsz
  obtain ⟨t, x⟩ := P
  simp only at HP HR hback hsz
  have HSZ := Lib.hid hsz
  have HS : Hid (∀ (W : World) (p0 p1 p2 p3 q0 q1 q2 q3 : Value), Is W t p0 p1 p2 p3 → Is W t q0 q1 q2 q3 → Calls Tryd.prog 13 #[.agg #[p0, p1, p2, p3], .agg #[q0, q1, q2, q3]] W fun e w' => e = .returned (.bool true) ∧ Below W.heap.size W w') := fun W p0 p1 p2 p3 q0 q1 q2 q3 hp hq => by
    have := same_any t t p0 p1 p2 p3 q0 q1 q2 q3 W (by have := HSZ.out; omega) (by have := HSZ.out; omega) hp hq
    rw [cmpT_self] at this; exact this
  have HF : Hid (x = 0 → ∀ (W : World) (p0 p1 p2 p3 : Value), Is W t p0 p1 p2 p3 → Laid W → Calls Tryd.prog 14 #[.agg #[p0, p1, p2, p3]] W fun e w' => e = .returned (.tuple #[.string s, .int .i64 0]) ∧ Below W.heap.size W w') := fun hx W p0 p1 p2 p3 hp hl => by
    have hb := hback hx
    have := tFormat_any t p0 p1 p2 p3 W HSZ.out hp hl
    have e : formP t = (s, 0) := by unfold formP; rw [if_pos hb.1, hb.2]
    rw [e] at this; exact this
  have q1 : (s.toList == s.toList) = true := by simp
  have q3 : (x != x) = false := by simp
  have q4 : (x == x) = true := by simp
  clear hback href hsz hL h1
  go_enter Tryd.func3, Tryd.ntmps3
  go_upto_region 5 with (first
    | (go_at_call 10; refine (HA.out _ HL.out).mono ?_; rintro e w1 ⟨he, hB1⟩; subst he; have HB1 : Hid (Ext w w1) := Lib.hid hB1; clear hB1)
    | (go_at_call 11; refine (HP.out _ (Laid_ext HL.out HB1.out)).mono ?_; rintro e w2 ⟨v, he, ⟨p0, p1, p2, p3, hv, hp⟩, hB⟩; subst he; subst hv; obtain ⟨pk, pn, ps, pxa, pl, pc, r0, r1, r2, r3⟩ := Is_form hp; subst r0; subst r1; subst r2; subst r3; have HB2 : Hid (Ext w w2) := Lib.hid (HB1.out.trans hB); have HI2 := Lib.hid hp; clear hB hp)
    | (go_at_call 12; refine (HR.out _).mono ?_; rintro e w4 ⟨v, he, ⟨p0, p1, p2, p3, hv, hp⟩, hB⟩; subst he; subst hv; obtain ⟨qk, qn, qs, qxa, ql, qc, r0, r1, r2, r3⟩ := Is_form hp; subst r0; subst r1; subst r2; subst r3; have HB4 : Hid (Ext (w2.alloc (.cells #[.int .i64 pk, .string pn, .int .i64 ps, .slice pxa pl pc] 25)) w4) := Lib.hid hB; have HI4 := Lib.hid hp; clear hB hp))
  have hb1 : (w4.alloc (.cells #[.int .i64 qk, .string qn, .int .i64 qs, .slice qxa ql qc] 25)).heap[w2.heap.size]? = some (.cells #[.int .i64 pk, .string pn, .int .i64 ps, .slice pxa pl pc] 25 (0, 0)) := (Below.heap_alloc _ _ _ (by have := HB4.out.size; simp only [World.size_alloc] at this; omega)).trans ((HB4.out.block _ (by simp)).trans (heap_alloc_new w2 _))
  have hb2 := heap_alloc_new w4 (.cells #[.int .i64 qk, .string qn, .int .i64 qs, .slice qxa ql qc] 25)
  have hE : Ext w (w4.alloc (.cells #[.int .i64 qk, .string qn, .int .i64 qs, .slice qxa ql qc] 25)) := Ext.alloc (Ext.trans (Ext.alloc HB2.out _) HB4.out) _
  have hI1 : Is (w4.alloc (.cells #[.int .i64 qk, .string qn, .int .i64 qs, .slice qxa ql qc] 25)) t (.int .i64 pk) (.string pn) (.int .i64 ps) (.slice pxa pl pc) := Is_alloc (Is_below (Is_alloc HI2.out _) HB4.out) _
  have hI2 : Is (w4.alloc (.cells #[.int .i64 qk, .string qn, .int .i64 qs, .slice qxa ql qc] 25)) t (.int .i64 qk) (.string qn) (.int .i64 qs) (.slice qxa ql qc) := Is_alloc HI4.out _
  generalize (w4.alloc (.cells #[.int .i64 qk, .string qn, .int .i64 qs, .slice qxa ql qc] 25)) = w6 at hb1 hb2 hE hI1 hI2 ⊢
  have HC : Hid (∀ W, Ext w6 W → W.heap[w2.heap.size]? = some (.cells #[.int .i64 pk, .string pn, .int .i64 ps, .slice pxa pl pc] 25 (0, 0)) ∧ W.heap[w4.heap.size]? = some (.cells #[.int .i64 qk, .string qn, .int .i64 qs, .slice qxa ql qc] 25 (0, 0))) := fun W h => by
    refine ⟨(h.block _ ?_).trans hb1, (h.block _ ?_).trans hb2⟩
    · have := (box_facts hb1).1.1; exact World.block_lt_of_cell? w6 _ this
    · have := (box_facts hb2).1.1; exact World.block_lt_of_cell? w6 _ this
  have HE := Lib.hid hE
  have HI1 := Lib.hid hI1
  have HI2 := Lib.hid hI2
  obtain ⟨⟨y0, y1, y2, y3⟩, _⟩ := box_facts hb1
  obtain ⟨⟨z0, z1, z2, z3⟩, _⟩ := box_facts hb2
  clear hb1 hb2 hE hI1 hI2
  have tok1 : True := trivial
  by_cases hx : x = 0
  · have HF2 := Lib.hid (HF.out hx)
    have q5 : (x != 0) = false := by simp [hx]
    clear hx
    go_wp2_with (first
      | (go_at_call 13; refine (HS.out _ _ _ _ _ _ _ _ _ HI1.out HI2.out).mono ?_; rintro e w7 ⟨he, hB⟩; subst he; have HE7 : Hid (Ext w6 w7) := Lib.hid hB; clear hB y0 y1 y2 y3 z0 z1 z2 z3; obtain ⟨hc1, _⟩ := HC.out _ HE7.out; obtain ⟨⟨y0, y1, y2, y3⟩, _⟩ := box_facts hc1; clear hc1)
      | (go_at_call 14; refine (HF2.out _ _ _ _ _ (Is_below HI1.out HE7.out) (Laid_ext HL.out (Ext.trans HE.out HE7.out))).mono ?_; rintro e w8 ⟨he, hB⟩; subst he; have HE8 : Hid (Ext w w8) := Lib.hid (Ext.trans (Ext.trans HE.out HE7.out) hB); clear hB))
    go_ret
    exact ⟨rfl, HE8.out⟩
  · have q5 : (x != 0) = true := by simp [hx]
    clear hx
    go_wp2_with (first
      | (go_at_call 13; have _t := tok1; refine (HS.out _ _ _ _ _ _ _ _ _ HI1.out HI2.out).mono ?_; rintro e w7 ⟨he, hB⟩; subst he; have HE7 : Hid (Ext w6 w7) := Lib.hid hB; clear hB y0 y1 y2 y3 z0 z1 z2 z3; obtain ⟨hc1, hc2⟩ := HC.out _ HE7.out; obtain ⟨⟨y0, y1, y2, y3⟩, _⟩ := box_facts hc1; obtain ⟨⟨z0, z1, z2, z3⟩, _⟩ := box_facts hc2; clear hc1 hc2; clear tok1)
      | (go_at_call 13; refine (HS.out _ _ _ _ _ _ _ _ _ (Is_below HI1.out HE7.out) (Is_below HI2.out HE7.out)).mono ?_; rintro e w8 ⟨he, hB⟩; subst he; have HE8 : Hid (Ext w w8) := Lib.hid (Ext.trans (Ext.trans HE.out HE7.out) hB); clear hB))
    go_ret
    exact ⟨rfl, HE8.out⟩

theorem termParse_any (HA : AwakeOk) (s : ByteArray) (w : World) (hL : Laid w) (hs : s.size ≤ maxLen) :
    Calls Tryd.prog 3 #[.string s] w fun e w' => e = .returned (.bool true) ∧ Below w.heap.size w w' := by
  by_cases h : s.size ≤ 2000
  · exact parse_small (Lib.hid HA) s w hL h
  · exact parse_large (Lib.hid HA) s w hL hs (by omega)
end Go.Proofs.YtclgcfpjhlcnfaaDoor
