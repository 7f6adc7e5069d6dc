/-
  THE WALK OF the laws' awake.
-/
import Derived.Test.YtclgcfpjhlcnfaaDoorSetof
import Derived.Test.YtclgcfpjhlcnfaaDoorExt
import Derived.Test.YtclgcfpjhlcnfaaDoorParse
import Derived.Test.YtclgcfpjhlcnfaaDoorPos
import Derived.Test.YtclgcfpjhlcnfaaDoorSize
namespace Go.Proofs.YtclgcfpjhlcnfaaDoor
open Go.RowKit Go.Lib

def nPair : ByteArray := ⟨#[112, 97, 105, 114]⟩
def nA : ByteArray := ⟨#[97]⟩
def nB : ByteArray := ⟨#[98]⟩
def nX : ByteArray := ⟨#[120]⟩
def nF : ByteArray := ⟨#[102]⟩
def tPair : Tm := .mk 3 nPair 0 [.mk 1 nX 0 [], .mk 2 nA 2 []]
def tA : Tm := .mk 2 nA 0 []
def tB : Tm := .mk 2 nB 0 []
def tFaa : Tm := .mk 3 nF 0 [tA, tA]
def tF : Tm := .mk 3 nF 0 []

theorem parse1 : parseP ⟨#[112, 97, 105, 114, 40, 63, 120, 44, 32, 97, 58, 110, 111, 110, 99, 101, 41]⟩ = (tPair, 0) := by kernel_rfl
theorem parse2 : (parseP ⟨#[97]⟩).2 = 2 := by kernel_rfl
theorem parse3 : parseP ⟨#[102, 40, 41]⟩ = (tF, 0) := by kernel_rfl

theorem app_two (n : ByteArray) (t u : Tm) (kb : Nat) (W : World) (hn : n.size ≤ maxLen) (hR : Row W [t, u] (some ⟨kb, 0, none⟩)) :
    Calls Tryd.prog 38 #[.string n, .slice (some ⟨kb, 0, none⟩) 2 2] W (AppPost W n [t, u]) :=
  app_any n [t, u] kb 0 2 W hn (by simp) (by simp) hR

theorem sorted_same : ∀ (us vs : List Tm), us.Pairwise (fun a b => cmpT a b < 0) → vs.Pairwise (fun a b => cmpT a b < 0) → (∀ t, t ∈ us ↔ t ∈ vs) → us = vs
  | [], [], _, _, _ => rfl
  | [], v :: vs, _, _, h => by have := (h v).2 (List.mem_cons_self ..); simp at this
  | u :: us, [], _, _, h => by have := (h u).1 (List.mem_cons_self ..); simp at this
  | u :: us, v :: vs, h1, h2, h => by
    obtain ⟨a1, a2⟩ := List.pairwise_cons.1 h1
    obtain ⟨b1, b2⟩ := List.pairwise_cons.1 h2
    have e : u = v := by
      have m1 := (h u).1 (List.mem_cons_self ..)
      have m2 := (h v).2 (List.mem_cons_self ..)
      rw [List.mem_cons] at m1 m2
      rcases m1 with m1 | m1
      · exact m1
      · rcases m2 with m2 | m2
        · exact m2.symm
        · have q1 := a1 v m2
          have q2 := b1 u m1
          rw [cmpT_anti u v] at q2
          omega
    subst e
    congr 1
    refine sorted_same us vs a2 b2 fun t => ?_
    have ht := h t
    rw [List.mem_cons, List.mem_cons] at ht
    constructor
    · intro m
      rcases ht.1 (Or.inr m) with m' | m'
      · subst m'; have := a1 t m; rw [cmpT_self] at this; omega
      · exact m'
    · intro m
      rcases ht.2 (Or.inr m) with m' | m'
      · subst m'; have := b1 t m; rw [cmpT_self] at this; omega
      · exact m'
theorem cAB : cmpT tA tB = -1 := by kernel_rfl
def tPaa : Tm := .mk 3 nPair 0 [tA, tA]
theorem cBP : cmpT tB tPaa = -1 := by kernel_rfl
theorem cAF : cmpT tA tFaa = -1 := by kernel_rfl
theorem set_faa {us : List Tm} (h : IsSet us (subL [tFaa])) : us = [tA, tFaa] := by
  have e : subL [tFaa] = [tFaa, tA, tA] := by simp [subL, subT, tFaa, tA]
  rw [e] at h
  refine sorted_same us [tA, tFaa] h.1 ?_ fun t => ?_
  · simp only [List.pairwise_cons, List.mem_singleton, forall_eq, cAF]; simp
  · rw [h.2 t]; simp only [List.mem_cons, List.not_mem_nil, or_false]; constructor
    · rintro (h | h | h); exact Or.inr h; exact Or.inl h; exact Or.inl h
    · rintro (h | h); exact Or.inr (Or.inl h); exact Or.inl h
theorem lEq : listsEq [tA, tFaa] [tA, tFaa] = true := by
  simp only [listsEq, cmpL, cmpT_self, orr]; simp
theorem szP : ((size tPair : Nat) : Int) = 3 := by simp [tPair, size, sizes]
theorem dpP : ((depth tPair : Nat) : Int) = 2 := by simp [tPair, depth, depths]
/-- A box: its cells and what they are. -/
theorem sub_one (kb : Nat) (W : World) (hR : Row W [tFaa] (some ⟨kb, 0, none⟩)) :
    Calls Tryd.prog 44 #[.slice (some ⟨kb, 0, none⟩) 1 1] W fun e w' => ∃ H, e = .returned (.slice (some ⟨H, 0, none⟩) 2 2) ∧ Row w' [tA, tFaa] (some ⟨H, 0, none⟩) ∧ Below W.heap.size W w' := by
  refine (Subterms_any [tFaa] kb 0 1 W hR (by simp) (by simp [tFaa, tA, sizes, size])).mono ?_
  rintro e w' ⟨us, H, he, h1, _, h3, h4⟩
  have eu := set_faa h1
  subst eu
  exact ⟨H, he, h3, h4⟩
theorem lists_two (a b : Nat) (W : World) (h : Row W [tA, tFaa] (some ⟨a, 0, none⟩)) (k : Row W [tA, tFaa] (some ⟨b, 0, none⟩)) :
    Calls Tryd.prog 25 #[.slice (some ⟨a, 0, none⟩) 2 2, .slice (some ⟨b, 0, none⟩) 2 2] W fun e w' => e = .returned (.bool true) ∧ Below W.heap.size W w' := by
  refine (lists_any [tA, tFaa] [tA, tFaa] _ _ 2 2 W (by simp [maxLen]) (by simp [maxLen]) (by simp [tFaa, tA, sizes, size]) (by simp [tFaa, tA, sizes, size]) h k).mono ?_
  rintro e w' ⟨he, hB⟩
  rw [lEq] at he
  exact ⟨he, hB⟩

/-- What stands ahead of the sixth statement. -/
def AW (w : World) (t1 t2 t3 t4 t5 t7 t8 t9 : Value) (wc : World) : Prop :=
  ∃ p1 p3 p4 p5 p8, t1 = .pointer (some ⟨p1, 0, none⟩) ∧ t2 = .int .i64 0 ∧ t3 = .pointer (some ⟨p3, 0, none⟩) ∧ t4 = .pointer (some ⟨p4, 0, none⟩) ∧ t5 = .pointer (some ⟨p5, 0, none⟩) ∧ t7 = .int .i64 2 ∧ t8 = .pointer (some ⟨p8, 0, none⟩) ∧ t9 = .int .i64 0 ∧
    Lies wc tPair p1 0 ∧ Lies wc tA p3 0 ∧ Lies wc tB p4 0 ∧ Lies wc tFaa p5 0 ∧ Lies wc tF p8 0 ∧ Below w.heap.size w wc

theorem IntRow_ext {w w' : World} {v : Value} {l : List Nat} (h : IntRow w v l) (k : Ext w w') : IntRow w' v l := by
  obtain ⟨xa, cap, e, h2⟩ := h
  refine ⟨xa, cap, e, fun hl => ?_⟩
  obtain ⟨b, o, e2, h3⟩ := h2 hl
  exact ⟨b, o, e2, fun i hi => keep_below k _ _ (h3 i hi)⟩
theorem IntRow_new (w : World) : IntRow (w.alloc (.cells #[.int .i64 1] 3)) (.slice (some ⟨w.heap.size, 0, none⟩) 1 1) [1] := by
  refine ⟨some ⟨w.heap.size, 0, none⟩, 1, rfl, fun _ => ⟨w.heap.size, 0, rfl, fun i hi => ?_⟩⟩
  have : i = 0 := by simpa using hi
  subst this
  unfold World.cell?; rw [heap_alloc_new]; rfl
theorem pos_facts {w w6 : World} {v : Value} {vs : List Value} {F : Nat → Prop} (ho : w6.ownsRow w.heap.size 61 1 v (posT [] tPair).length vs) (hpl : PL F w6 (posT [] tPair) vs) :
    ∃ (g cap : Nat) (v0 v2 : Value) (a0 a2 : Option Addr) (b2 b0 : Nat), v = .slice (some ⟨g, 0, none⟩) 3 cap ∧ w6.cell? ⟨g, 0, none⟩ = some v0 ∧ w6.cell? ⟨g, 2, none⟩ = some v2 ∧ v0 = .slice a0 0 b0 ∧ v2 = .slice a2 1 b2 ∧ IntRow w6 v2 [1] := by
  have e : posT [] tPair = [[], [0], [1]] := by simp [posT, posL, tPair]
  rw [e] at ho hpl
  obtain ⟨v0, r, rfl, h0, hpl⟩ := hpl
  obtain ⟨v1, r, rfl, h1, hpl⟩ := hpl
  obtain ⟨v2, r, rfl, h2, hpl⟩ := hpl
  obtain ⟨g, cap, rfl⟩ := own_form_pos ho (by simp)
  obtain ⟨a0, b0, f0⟩ := own_form h0.1
  obtain ⟨a2, b2, f2⟩ := own_form h2.1
  refine ⟨g, cap, v0, v2, a0, a2, b2, b0, rfl, ?_, ?_, f0, f2, IntRow_of_own h2.1⟩
  · rw [ho.cellAt 0 (by simp)]; rfl
  · rw [ho.cellAt 2 (by simp)]; rfl

set_option maxHeartbeats 800000 in
set_option maxRecDepth 100000 in
theorem awake_any (w : World) (hL : Laid w) :
    Calls Tryd.prog 10 #[] w fun e w' => e = .returned (.bool true) ∧ Below w.heap.size w w' := by
  have HP1 := Lib.hid (parse_any ⟨#[112, 97, 105, 114, 40, 63, 120, 44, 32, 97, 58, 110, 111, 110, 99, 101, 41]⟩ w hL (by decide))
  have HL := Lib.hid hL
  clear hL
  go_enter Tryd.func10, Tryd.ntmps10
  go_upto_region 5 with (first
    | (go_at_call_of 11 (Value.string ⟨#[112, 97, 105, 114, 40, 63, 120, 44, 32, 97, 58, 110, 111, 110, 99, 101, 41]⟩); refine (HP1.out).mono ?_; rintro e w1 ⟨v, he, hI, hB⟩; rw [parse1] at he hI; subst he; obtain ⟨c0, c1, c2, c3, hv, hI⟩ := hI; subst hv; obtain ⟨k, n, s, x, l, c, e0, e1, e2, e3⟩ := Is_form hI; subst e0 e1 e2 e3; have HI1 := Lib.hid (And.intro hI hB); clear hI hB)
    | (go_at_call_of 37 (Value.string ⟨#[97]⟩); refine (atom_any _ _ _).mono ?_; rintro e w2 ⟨he, hB⟩; subst he; have HI2 := Lib.hid hB; clear hB)
    | (go_at_call_of 37 (Value.string ⟨#[98]⟩); refine (atom_any _ _ _).mono ?_; rintro e w3 ⟨he, hB⟩; subst he; have HI3 := Lib.hid hB; clear hB)
    | (go_at_call 38; refine (app_two nF tA tA _ _ (by decide) (Row_two_at _ (by simp) (Is_atom _ nA (by decide)) (Is_atom _ nA (by decide)) 25)).mono ?_; rintro e w4 ⟨⟨kv, he, hI⟩, hB⟩; subst he; obtain ⟨_, _, _, x5, l5, c5, _, _, _, e3⟩ := Is_form hI; subst e3; have HI4 := Lib.hid (And.intro hI hB); clear hI hB)
    | (go_at_call_of 11 (Value.string ⟨#[97]⟩); have q1 : Ext w w1 := HI1.out.2; have q2 : Ext w w2 := (q1.alloc _).trans HI2.out; have q3 : Ext w w3 := q2.trans HI3.out; have q4 : Ext w w4 := (((q3.alloc _).alloc _).alloc _).trans HI4.out.2; have HQ := Lib.hid (q4.alloc (.cells #[.int .i64 3, .string nF, .int .i64 0, .slice x5 l5 c5] 25)); clear q1 q2 q3 q4; refine (parse_any ⟨#[97]⟩ _ (Laid_ext HL.out HQ.out) (by decide)).mono ?_; rintro e w5 ⟨v, he, hI, hB⟩; rw [parse2] at he; subst he; obtain ⟨d0, d1, d2, d3, hv, hI⟩ := hI; subst hv; obtain ⟨k6, n6, s6, x6, l6, c6, e0, e1, e2, e3⟩ := Is_form hI; subst e0 e1 e2 e3; have HI5 := Lib.hid hB; clear hI hB))
  go_cut [1, 2, 3, 4, 5, 7, 8, 9] (fun t1 t2 t3 t4 t5 t7 t8 t9 wc => AW w t1 t2 t3 t4 t5 t7 t8 t9 wc)
  case first =>
    have q5 : Ext w (w5.alloc (.cells #[.int .i64 k6, .string n6, .int .i64 s6, .slice x6 l6 c6] 25)) := (HQ.out.trans HI5.out).alloc _
    have HP3 := Lib.hid (parse_any ⟨#[102, 40, 41]⟩ _ (Laid_ext HL.out q5) (by decide))
    have HQ5 := Lib.hid q5
    clear q5
    go_wp2_with (go_at_call 11; refine (HP3.out).mono ?_; rintro e w7 ⟨v, he, hI, hB⟩; rw [parse3] at he hI; subst he; obtain ⟨d0, d1, d2, d3, hv, hI⟩ := hI; subst hv; obtain ⟨k8, n8, s8, x8, l8, c8, e0, e1, e2, e3⟩ := Is_form hI; subst e0 e1 e2 e3; have HI7 := Lib.hid (And.intro hI hB); clear hI hB)
    go_meet
    have E7 : Ext w5 (w7.alloc (.cells #[.int .i64 k8, .string n8, .int .i64 s8, .slice x8 l8 c8] 25)) := (((Ext.refl w5).alloc _).trans HI7.out.2).alloc _
    have E5 : Ext (w4.alloc (.cells #[.int .i64 3, .string nF, .int .i64 0, .slice x5 l5 c5] 25)) (w7.alloc (.cells #[.int .i64 k8, .string n8, .int .i64 s8, .slice x8 l8 c8] 25)) := ((Ext.refl _).trans HI5.out).trans E7
    have E4 : Ext w4 (w7.alloc (.cells #[.int .i64 k8, .string n8, .int .i64 s8, .slice x8 l8 c8] 25)) := ((Ext.refl _).alloc _).trans E5
    have E3 : Ext ((w3.alloc (.cells #[.int .i64 2, .string nA, .int .i64 0, .slice none 0 0] 25)).alloc (.cells #[.int .i64 2, .string nB, .int .i64 0, .slice none 0 0] 25)) (w7.alloc (.cells #[.int .i64 k8, .string n8, .int .i64 s8, .slice x8 l8 c8] 25)) := (((Ext.refl _).alloc _).trans HI4.out.2).trans E4
    have E3a : Ext (w3.alloc (.cells #[.int .i64 2, .string nA, .int .i64 0, .slice none 0 0] 25)) (w7.alloc (.cells #[.int .i64 k8, .string n8, .int .i64 s8, .slice x8 l8 c8] 25)) := ((Ext.refl _).alloc _).trans E3
    have E2 : Ext w3 (w7.alloc (.cells #[.int .i64 k8, .string n8, .int .i64 s8, .slice x8 l8 c8] 25)) := ((Ext.refl _).alloc _).trans E3a
    have E1 : Ext (w1.alloc (.cells #[.int .i64 k, .string n, .int .i64 s, .slice x l c] 25)) (w7.alloc (.cells #[.int .i64 k8, .string n8, .int .i64 s8, .slice x8 l8 c8] 25)) := (((Ext.refl _).trans HI2.out).trans HI3.out).trans E2
    have L1 := Lies_below (Lies_box HI1.out.1 25) E1
    have L3 := Lies_below (Lies_box (Is_atom w3 nA (by decide)) 25) E3a
    have L4 := Lies_below (Lies_box (Is_atom (w3.alloc (.cells #[.int .i64 2, .string nA, .int .i64 0, .slice none 0 0] 25)) nB (by decide)) 25) E3
    have L5 := Lies_below (Lies_box HI4.out.1 25) E5
    have L8 := Lies_box HI7.out.1 25
    rw [World.size_alloc] at L4
    exact ⟨w1.heap.size, w3.heap.size, w3.heap.size + 1, w4.heap.size, w7.heap.size, rfl, rfl, rfl, rfl, rfl, rfl, rfl, rfl, L1, L3, L4, L5, L8, ((HQ5.out.trans HI7.out.2).alloc _)⟩
  case rest =>
    obtain ⟨p1, p3, p4, p5, p8, rfl, rfl, rfl, rfl, rfl, rfl, rfl, rfl, L1, L3, L4, L5, L8, hBw⟩ := hcut
    have HL1 := Lib.hid L1
    obtain ⟨c0, c1, c2, c3, g0, g1, g2, g3, hI1⟩ := L1
    have c8a := (Lies_mk L8).1
    have HP := Lib.hid (Positions_any tPair c0 c1 c2 c3 _ (by simp [tPair, size, sizes]) hI1)
    have HA := Lib.hid (And.intro HL1.out (And.intro L3 (And.intro L4 (And.intro L5 hBw))))
    clear hI1 L3 L4 L5 L8 hBw
    go_wp2_with (first
      | (go_at_call 39; refine (HP.out).mono ?_; rintro e w6 ⟨v, vs, F, he, ho, hpl, hB⟩; subst he; obtain ⟨g, cap, v0, v2, a0, a2, b2, b0, hv, q0, q2, e0, e2, hr⟩ := pos_facts ho hpl; subst hv e0 e2; have HR6 := Lib.hid hr; have HB6 := Lib.hid hB; have u0 := keep_below hB _ _ c8a; clear ho hpl hr hB)
      | (go_at_call 40; refine (equal_any [1] [1] _ _ _ (IntRow_ext HR6.out (Ext.alloc (Ext.refl _) _)) (IntRow_new w6) (by simp) (by simp)).mono ?_; rintro e w9 ⟨he, hB⟩; subst he; have HB9 := Lib.hid hB; clear hB))
    have X9 : Ext wc w9 := (((Ext.refl wc).trans HB6.out).alloc _).trans HB9.out
    obtain ⟨k1, n1, s1, x1, l1, d1, b10, b11, b12, b13, J1⟩ := Lies_cells (Lies_below HA.out.1 X9)
    obtain ⟨k3, n3, s3, x3, l3, d3, b30, b31, b32, b33, J3⟩ := Lies_cells (Lies_below HA.out.2.1 X9)
    obtain ⟨k4, n4, s4, x4, l4, d4, b40, b41, b42, b43, J4⟩ := Lies_cells (Lies_below HA.out.2.2.1 X9)
    obtain ⟨k5, n5, s5, y5, m5, d5, b50, b51, b52, b53, J5⟩ := Lies_cells (Lies_below HA.out.2.2.2.1 X9)
    have I1 := Lib.hid J1
    have I3 := Lib.hid J3
    have I4 := Lib.hid J4
    have I5 := Lib.hid J5
    have HE9 := Lib.hid (Ext.trans (a := w) HA.out.2.2.2.2 X9)
    have hE0 : Ext w9 w9.drew := (Ext.refl w9).drew
    have HS := Lib.hid (fun (W : World) (h : Ext w9 W) => And.intro (keep_below h _ _ b10) (And.intro (keep_below h _ _ b11) (And.intro (keep_below h _ _ b12) (And.intro (keep_below h _ _ b13) (And.intro (keep_below h _ _ b30) (And.intro (keep_below h _ _ b31) (And.intro (keep_below h _ _ b32) (And.intro (keep_below h _ _ b33) (And.intro (keep_below h _ _ b40) (And.intro (keep_below h _ _ b41) (And.intro (keep_below h _ _ b42) (And.intro (keep_below h _ _ b43) (And.intro (keep_below h _ _ b50) (And.intro (keep_below h _ _ b51) (And.intro (keep_below h _ _ b52) (keep_below h _ _ b53))))))))))))))))
    clear J1 J3 J4 J5 X9 HP1 HL HI1 HI2 HI3 HI4 HI5 HQ HL1 HP q0 q2 u0 c8a g0 g1 g2 g3
    go_region_held3 (fun W => W.cell? ⟨p1, 0, none⟩ = some (.int .i64 k1) ∧ W.cell? ⟨p1, 1, none⟩ = some (.string n1) ∧ W.cell? ⟨p1, 2, none⟩ = some (.int .i64 s1) ∧ W.cell? ⟨p1, 3, none⟩ = some (.slice x1 l1 d1) ∧ W.cell? ⟨p3, 0, none⟩ = some (.int .i64 k3) ∧ W.cell? ⟨p3, 1, none⟩ = some (.string n3) ∧ W.cell? ⟨p3, 2, none⟩ = some (.int .i64 s3) ∧ W.cell? ⟨p3, 3, none⟩ = some (.slice x3 l3 d3) ∧ W.cell? ⟨p4, 0, none⟩ = some (.int .i64 k4) ∧ W.cell? ⟨p4, 1, none⟩ = some (.string n4) ∧ W.cell? ⟨p4, 2, none⟩ = some (.int .i64 s4) ∧ W.cell? ⟨p4, 3, none⟩ = some (.slice x4 l4 d4) ∧ W.cell? ⟨p5, 0, none⟩ = some (.int .i64 k5) ∧ W.cell? ⟨p5, 1, none⟩ = some (.string n5) ∧ W.cell? ⟨p5, 2, none⟩ = some (.int .i64 s5) ∧ W.cell? ⟨p5, 3, none⟩ = some (.slice y5 m5 d5))
      (first | exact HS.out _ (by assumption) | exact HS.out _ (Ext.alloc (by assumption) _) | exact HS.out _ (Ext.alloc (Ext.alloc (by assumption) _) _) | go_keep)
      (first
        | (go_at_call 41; refine (Size_any tPair _ _ _ _ _ (by simp [tPair, size, sizes]) (Is_below I1.out hE0)).mono ?_; rintro e wa ⟨he, hB⟩; rw [szP] at he; subst he; have hE1 : Ext w9 wa := hE0.trans hB; clear hB)
        | (go_at_call 42; refine (Depth_any tPair _ _ _ _ _ (by simp [tPair, size, sizes]) (Is_below I1.out hE1)).mono ?_; rintro e wb ⟨he, hB⟩; rw [dpP] at he; subst he; have hE2 : Ext w9 wb := hE1.trans hB; clear hB)
        | (go_at_call_of 43 x3; refine (Compare_any tA tB _ _ _ _ _ _ _ _ _ (by simp [tA, size, sizes]) (by simp [tB, size, sizes]) (Is_below I3.out hE2) (Is_below I4.out hE2)).mono ?_; rintro e wd ⟨he, hB⟩; rw [cAB] at he; subst he; have hE3 : Ext w9 wd := hE2.trans hB; clear hB)
        | (go_at_call 38; refine (app_two nPair tA tA _ _ (by decide) (Row_two_at _ (by simp) (Is_below I3.out hE3) (Is_below I3.out hE3) 25)).mono ?_; rintro e we ⟨⟨kv, he, hI⟩, hB⟩; subst he; obtain ⟨_, _, _, x7, l7, d7, _, _, _, e7⟩ := Is_form hI; subst e7; have hE4 : Ext w9 we := (hE3.alloc _).trans hB; have I7 := Lib.hid hI; clear hI hB)
        | (go_at_call 43; refine (Compare_any tB tPaa _ _ _ _ _ _ _ _ _ (by simp [tB, size, sizes]) (by simp [tPaa, tA, size, sizes]) (Is_below I4.out hE4) I7.out).mono ?_; rintro e wf ⟨he, hB⟩; rw [cBP] at he; subst he; have hE5 : Ext w9 wf := hE4.trans hB; clear hB)
        | (go_at_call 44; have r := Row_one_at wf.heap.size rfl (Is_below I5.out hE5) 25; (with_reducible refine (sub_one _ _ r).mono ?_); rintro e wg ⟨H, he, h3, hB⟩; subst he; have hE6 : Ext w9 wg := (hE5.alloc _).trans hB; have HRS := Lib.hid h3; clear h3 hB r)
        | (go_at_call 44; have r := Row_alloc (Row_one_at wf.heap.size rfl (Is_below I5.out hE5) 25) (.cells #[.int .i64 k3, .string n3, .int .i64 s3, .slice x3 l3 d3, .int .i64 k5, .string n5, .int .i64 s5, .slice y5 m5 d5] 25); (with_reducible refine (sub_one _ _ r).mono ?_); rintro e wg ⟨H, he, h3, hB⟩; subst he; have hE6 : Ext w9 wg := ((hE5.alloc _).alloc _).trans hB; have HRS := Lib.hid h3; have z3 := Is_below I3.out hE5; have z5 := Is_below I5.out hE5; have z8 := Row_two_at (wf.heap.size + 1) (World.size_alloc wf (.cells #[.int .i64 k5, .string n5, .int .i64 s5, .slice y5 m5 d5] 25)) (Is_alloc z3 (.cells #[.int .i64 k5, .string n5, .int .i64 s5, .slice y5 m5 d5] 25)) (Is_alloc z5 (.cells #[.int .i64 k5, .string n5, .int .i64 s5, .slice y5 m5 d5] 25)) 25; have HR2 := Lib.hid (Row_below z8 hB); clear h3 hB r)
        | (go_at_call 44; have r := Row_one_at (wf.heap.size + 1) (World.size_alloc _ _) (Is_alloc (Is_below I5.out hE5) (.cells #[.int .i64 k3, .string n3, .int .i64 s3, .slice x3 l3 d3, .int .i64 k5, .string n5, .int .i64 s5, .slice y5 m5 d5] 25)) 25; (with_reducible refine (sub_one _ _ r).mono ?_); rintro e wg ⟨H, he, h3, hB⟩; subst he; have hE6 : Ext w9 wg := ((hE5.alloc _).alloc _).trans hB; have HRS := Lib.hid h3; have z3 := Is_below I3.out hE5; have z5 := Is_below I5.out hE5; have z8 := Row_alloc (Row_two_at wf.heap.size rfl z3 z5 25) (.cells #[.int .i64 k5, .string n5, .int .i64 s5, .slice y5 m5 d5] 25); have HR2 := Lib.hid (Row_below z8 hB); clear h3 hB r)
        | (go_at_call 25; have r2 := HR2.out; (with_reducible refine (lists_two _ _ _ HRS.out r2).mono ?_); rintro e wh ⟨he, hB⟩; subst he; have hE7 : Ext w9 wh := hE6.trans hB; clear hB r2)
        | (go_at_call 25; have r := Row_two_at wg.heap.size rfl (Is_below I3.out hE6) (Is_below I5.out hE6) 25; have r1 := Row_alloc HRS.out (.cells #[.int .i64 k3, .string n3, .int .i64 s3, .slice x3 l3 d3, .int .i64 k5, .string n5, .int .i64 s5, .slice y5 m5 d5] 25); (with_reducible refine (lists_two _ _ _ r1 r).mono ?_); rintro e wh ⟨he, hB⟩; subst he; have hE7 : Ext w9 wh := (hE6.alloc _).trans hB; clear hB r r1))
    all_goals (go_wp2_with fail; go_ret; exact ⟨rfl, Ext.trans (a := w) HE9.out hE7⟩)

end Go.Proofs.YtclgcfpjhlcnfaaDoor
