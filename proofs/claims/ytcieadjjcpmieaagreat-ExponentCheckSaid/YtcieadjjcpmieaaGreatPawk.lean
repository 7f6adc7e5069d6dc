/-
  THE WALK OF layer 6's examples.
-/
import Derived.Test.YtcieadjjcpmieaaGreatPmade
import Derived.Deep.RegionHeld3
import Derived.Deep.DeepCutAuto
namespace Go.Proofs.YtcieadjjcpmieaaGreat
open Go.RowKit

theorem Row_four_at {w : World} {t u v x : Tm} {a0 a1 a2 a3 b0 b1 b2 b3 c0 c1 c2 c3 d0 d1 d2 d3 : Value} (H : Nat) (hH : w.heap.size = H) (h : Is w t a0 a1 a2 a3) (k : Is w u b0 b1 b2 b3) (l : Is w v c0 c1 c2 c3) (m : Is w x d0 d1 d2 d3) (T : TypeId) :
    Row (w.alloc (.cells #[a0, a1, a2, a3, b0, b1, b2, b3, c0, c1, c2, c3, d0, d1, d2, d3] T)) [t, u, v, x] (some ⟨H, 0, none⟩) := by
  have c := cells_new_at w #[a0, a1, a2, a3, b0, b1, b2, b3, c0, c1, c2, c3, d0, d1, d2, d3] T H hH
  exact Row_cons_mk ⟨a0, a1, a2, a3, c 0 _ rfl, c 1 _ rfl, c 2 _ rfl, c 3 _ rfl, Is_alloc h _⟩ (Row_cons_mk ⟨b0, b1, b2, b3, c 4 _ rfl, c 5 _ rfl, c 6 _ rfl, c 7 _ rfl, Is_alloc k _⟩ (Row_cons_mk ⟨c0, c1, c2, c3, c 8 _ rfl, c 9 _ rfl, c 10 _ rfl, c 11 _ rfl, Is_alloc l _⟩ (Row_cons_mk ⟨d0, d1, d2, d3, c 12 _ rfl, c 13 _ rfl, c 14 _ rfl, c 15 _ rfl, Is_alloc m _⟩ (by simp [Row]))))
theorem Is_leafE (w : World) (k : Int) (n : ByteArray) (s : Int) (hn : n.size ≤ maxLen) (hk : -9223372036854775808 ≤ k ∧ k ≤ 9223372036854775807) (hs : -9223372036854775808 ≤ s ∧ s ≤ 9223372036854775807) : Is w (.mk k n s []) (.int .i64 k) (.string n) (.int .i64 s) (.slice none 0 0) := by
  simp only [Is]
  exact ⟨trivial, trivial, trivial, hk, hs, hn, by simp, none, 0, rfl, by simp, by simp [Row]⟩
def AwA (w : World) (pa pb : Nat) (W : World) : Prop := Lies W xA pa 0 ∧ Lies W xB pb 0 ∧ Ext w W
theorem AwA.ext {w W V : World} {pa pb : Nat} (h : AwA w pa pb W) (x : Ext W V) : AwA w pa pb V := ⟨Lies_below h.1 x, Lies_below h.2.1 x, h.2.2.trans x⟩
def AwB (w : World) (pa pb : Nat) (x5 : Option Addr) (c5 : Nat) (W : World) : Prop := AwA w pa pb W ∧ 1 ≤ c5 ∧ PRow W p1 x5
theorem AwB.ext {w W V : World} {pa pb c5 : Nat} {x5 : Option Addr} (h : AwB w pa pb x5 c5 W) (x : Ext W V) : AwB w pa pb x5 c5 V := ⟨h.1.ext x, h.2.1, PRow_below h.2.2 x⟩
def AwC (w : World) (pa pb : Nat) (x5 : Option Addr) (c5 : Nat) (x7 : Option Addr) (c7 : Nat) (W : World) : Prop := AwB w pa pb x5 c5 W ∧ 2 ≤ c7 ∧ PRow W p2m x7
theorem AwC.ext {w W V : World} {pa pb c5 c7 : Nat} {x5 x7 : Option Addr} (h : AwC w pa pb x5 c5 x7 c7 W) (x : Ext W V) : AwC w pa pb x5 c5 x7 c7 V := ⟨h.1.ext x, h.2.1, PRow_below h.2.2 x⟩
def AwD (w : World) (pa pb : Nat) (x5 : Option Addr) (c5 : Nat) (x7 : Option Addr) (c7 : Nat) (p9 : Nat) (W : World) : Prop := AwC w pa pb x5 c5 x7 c7 W ∧ Lies W zT p9 0
theorem AwD.ext {w W V : World} {pa pb c5 c7 p9 : Nat} {x5 x7 : Option Addr} (h : AwD w pa pb x5 c5 x7 c7 p9 W) (x : Ext W V) : AwD w pa pb x5 c5 x7 c7 p9 V := ⟨h.1.ext x, Lies_below h.2 x⟩
/-- A character in its box. -/
def ChAt (W : World) (p : Nat) (md : Int) (n : Nat) (ps : List Pw) (x : Option Addr) (c : Nat) : Prop := (W.cell? ⟨p, 0, none⟩ = some (.int .i64 md) ∧ W.cell? ⟨p, 1, none⟩ = some (.slice x n c)) ∧ n ≤ c ∧ PRow W ps x
theorem ChAt.ext {W V : World} {p n c : Nat} {md : Int} {ps : List Pw} {x : Option Addr} (h : ChAt W p md n ps x c) (y : Ext W V) : ChAt V p md n ps x c := ⟨⟨keep_below y _ _ h.1.1, keep_below y _ _ h.1.2⟩, h.2.1, PRow_below h.2.2 y⟩
theorem ChAt.new {w : World} {md : Int} {n c : Nat} {ps : List Pw} {x : Option Addr} (hn : n ≤ c) (h : PRow w ps x) (T : TypeId) : ChAt (w.alloc (.cells #[.int .i64 md, .slice x n c] T)) w.heap.size md n ps x c :=
  ⟨cells2 (heap_alloc_new w _), hn, PRow_below h ((Ext.refl w).alloc _)⟩
/-- The generators of the examples in a row. -/
def AwG (w : World) (b : Nat) (W : World) : Prop := PsRow W lsX (some ⟨b, 0, none⟩) ∧ Ext w W
theorem AwG.ext {w W V : World} {b : Nat} (h : AwG w b W) (x : Ext W V) : AwG w b V := ⟨PsRow_below h.1 x, h.2.trans x⟩

set_option maxHeartbeats 25600000 in
set_option maxRecDepth 100000 in
/-- The first half of the examples' walk, and what is left of it. -/
def awakeCut : (P : Prop) ×' (P → ∀ w : World, Calls Tryz.prog 10 #[] w fun e w' => e = .returned (.bool true) ∧ Below w.heap.size w w') := by
  constructor
  case snd =>
    intro hP w
    have HP0 := Lib.hid hP
    clear hP
    go_enter Tryz.func10, Tryz.ntmps10
    go_upto_region 1 with (fail)
    go_cut [1, 2] (fun t1 t2 wc => ∃ pa pb, t1 = .pointer (some ⟨pa, 0, none⟩) ∧ t2 = .pointer (some ⟨pb, 0, none⟩) ∧ AwA w pa pb wc)
    case first =>
      go_wp2_with (first
        | (go_at_call_of 35 (Value.string ⟨#[97]⟩); refine (atom_any _ _ _).mono ?_; rintro e w1 ⟨he, hB⟩; subst he; have H1 := Lib.hid hB; clear hB)
        | (go_at_call_of 35 (Value.string ⟨#[98]⟩); refine (atom_any _ _ _).mono ?_; rintro e w2 ⟨he, hB⟩; subst he; have H2 := Lib.hid hB; clear hB))
      go_meet
      have L1 := Lies_box (Is_leafE w2 2 ⟨#[97]⟩ 2 (by decide) (by omega) (by omega)) 24
      have L2 := Lies_box (Is_leafE (w2.alloc (.cells #[.int .i64 2, .string ⟨#[97]⟩, .int .i64 2, .slice none 0 0] 24)) 2 ⟨#[98]⟩ 2 (by decide) (by omega) (by omega)) 24
      rw [World.size_alloc] at L2
      exact ⟨w2.heap.size, w2.heap.size + 1, rfl, rfl, Lies_below L1 ((Ext.refl _).alloc _), L2, ((Ext.trans (a := w) H1.out H2.out).alloc _).alloc _⟩
    case rest =>
    obtain ⟨pa, pb, rfl, rfl, hA⟩ := hcut
    have HA := Lib.hid hA
    clear hA
    go_upto_region 3 with (fail)
    go_cut [5, 6] (fun t5 t6 wd => ∃ x5 c5, t5 = .slice x5 1 c5 ∧ t6 = .int .i64 0 ∧ AwB w pa pb x5 c5 wd)
    case first =>
      have tok1 : True := trivial
      obtain ⟨ka, na, sa, ya, la, da, a0, a1, a2, a3, Ja⟩ := Lies_cells HA.out.1
      obtain ⟨kb, nb, sb, yb, lb, db, b0, b1, b2, b3, Jb⟩ := Lies_cells HA.out.2.1
      have HS : Hid (∀ W, Ext wc W → W.cell? ⟨pa, 0, none⟩ = some (.int .i64 ka) ∧ W.cell? ⟨pa, 1, none⟩ = some (.string na) ∧ W.cell? ⟨pa, 2, none⟩ = some (.int .i64 sa) ∧ W.cell? ⟨pa, 3, none⟩ = some (.slice ya la da) ∧ W.cell? ⟨pb, 0, none⟩ = some (.int .i64 kb) ∧ W.cell? ⟨pb, 1, none⟩ = some (.string nb) ∧ W.cell? ⟨pb, 2, none⟩ = some (.int .i64 sb) ∧ W.cell? ⟨pb, 3, none⟩ = some (.slice yb lb db)) := fun W h => ⟨keep_below h _ _ a0, keep_below h _ _ a1, keep_below h _ _ a2, keep_below h _ _ a3, keep_below h _ _ b0, keep_below h _ _ b1, keep_below h _ _ b2, keep_below h _ _ b3⟩
      have Ia := Lib.hid Ja
      have Ib := Lib.hid Jb
      have hE0 : Ext wc wc.drew := (Ext.refl wc).drew
      clear Ja Jb
      go_region_held3 (fun W => W.cell? ⟨pa, 0, none⟩ = some (.int .i64 ka) ∧ W.cell? ⟨pa, 1, none⟩ = some (.string na) ∧ W.cell? ⟨pa, 2, none⟩ = some (.int .i64 sa) ∧ W.cell? ⟨pa, 3, none⟩ = some (.slice ya la da) ∧ W.cell? ⟨pb, 0, none⟩ = some (.int .i64 kb) ∧ W.cell? ⟨pb, 1, none⟩ = some (.string nb) ∧ W.cell? ⟨pb, 2, none⟩ = some (.int .i64 sb) ∧ W.cell? ⟨pb, 3, none⟩ = some (.slice yb lb db))
        (first | exact HS.out _ (by assumption) | exact HS.out _ (Ext.alloc (by assumption) _) | go_keep)
        (first
          | (go_at_call 38; have _t := tok1; refine (mulcl_any [xA, xB] _ 0 _ _ (by kernel_rfl) (by decide) (by decide) (Row_two_at _ (by simp) (Is_below Ia.out hE0) (Is_below Ib.out hE0) 24)).mono ?_; rintro e w1 ⟨⟨kv, he, hI⟩, hB⟩; subst he; obtain ⟨_, _, _, x1, l1, c1, _, _, _, e3⟩ := Is_form hI; subst e3; have hE1 : Ext wc w1 := (hE0.alloc _).trans hB; have HI1 := Lib.hid hI; clear hI hB tok1)
          | (go_at_call 36; refine (invcl_any (xMul [xA, xB]) _ _ _ _ _ (by kernel_rfl) (HI1.out)).mono ?_; rintro e w2 ⟨⟨kv, he, hI⟩, hB⟩; subst he; obtain ⟨_, _, _, x2, l2, c2, _, _, _, e3⟩ := Is_form hI; subst e3; have hE2 : Ext wc w2 := hE1.trans hB; have HI2 := Lib.hid hI; clear hI hB)
          | (go_at_call 38;  refine (mulcl_any [xB, xInv (xMul [xA, xB]), xA, xA] _ 0 _ _ (by kernel_rfl) (by decide) (by decide) (Row_four_at _ (by simp) (Is_below Ib.out hE2) HI2.out (Is_below Ia.out hE2) (Is_below Ia.out hE2) 24)).mono ?_; rintro e w3 ⟨⟨kv, he, hI⟩, hB⟩; subst he; obtain ⟨_, _, _, x3, l3, c3, _, _, _, e3⟩ := Is_form hI; subst e3; have hE3 : Ext wc w3 := (hE2.alloc _).trans hB; have HI3 := Lib.hid hI; clear hI hB)
          | (go_at_call 12; refine (exOf ofX rfl (by decide) _ _ _ _ _ HI3.out).mono ?_; rintro e w4 ⟨x5, c5, he, hl5, hR5, hB⟩; subst he; have hE4 : Ext wc w4 := hE3.trans hB; have HR5 := Lib.hid hR5; have HL5 := Lib.hid hl5; clear hB hR5 hl5))
      all_goals (go_wp2_with fail)
      all_goals go_meet
      all_goals exact ⟨x5, c5, rfl, rfl, HA.out.ext hE4, HL5.out, HR5.out⟩
    case rest =>
    clear HA
    obtain ⟨x5, c5, rfl, rfl, hA⟩ := hcut
    have HA := Lib.hid hA
    clear hA
    go_upto_region 4 with (fail)
    go_cut [7, 8] (fun t7 t8 wd => ∃ x7 c7, t7 = .slice x7 2 c7 ∧ t8 = .int .i64 0 ∧ AwC w pa pb x5 c5 x7 c7 wd)
    case first =>
      obtain ⟨ka, na, sa, ya, la, da, a0, a1, a2, a3, Ja⟩ := Lies_cells HA.out.1.1
      obtain ⟨kb, nb, sb, yb, lb, db, b0, b1, b2, b3, Jb⟩ := Lies_cells HA.out.1.2.1
      have HS : Hid (∀ W, Ext wc W → W.cell? ⟨pa, 0, none⟩ = some (.int .i64 ka) ∧ W.cell? ⟨pa, 1, none⟩ = some (.string na) ∧ W.cell? ⟨pa, 2, none⟩ = some (.int .i64 sa) ∧ W.cell? ⟨pa, 3, none⟩ = some (.slice ya la da) ∧ W.cell? ⟨pb, 0, none⟩ = some (.int .i64 kb) ∧ W.cell? ⟨pb, 1, none⟩ = some (.string nb) ∧ W.cell? ⟨pb, 2, none⟩ = some (.int .i64 sb) ∧ W.cell? ⟨pb, 3, none⟩ = some (.slice yb lb db)) := fun W h => ⟨keep_below h _ _ a0, keep_below h _ _ a1, keep_below h _ _ a2, keep_below h _ _ a3, keep_below h _ _ b0, keep_below h _ _ b1, keep_below h _ _ b2, keep_below h _ _ b3⟩
      have Ia := Lib.hid Ja
      have Ib := Lib.hid Jb
      have hE0 : Ext wc wc.drew := (Ext.refl wc).drew
      clear Ja Jb
      go_region_held3 (fun W => W.cell? ⟨pa, 0, none⟩ = some (.int .i64 ka) ∧ W.cell? ⟨pa, 1, none⟩ = some (.string na) ∧ W.cell? ⟨pa, 2, none⟩ = some (.int .i64 sa) ∧ W.cell? ⟨pa, 3, none⟩ = some (.slice ya la da) ∧ W.cell? ⟨pb, 0, none⟩ = some (.int .i64 kb) ∧ W.cell? ⟨pb, 1, none⟩ = some (.string nb) ∧ W.cell? ⟨pb, 2, none⟩ = some (.int .i64 sb) ∧ W.cell? ⟨pb, 3, none⟩ = some (.slice yb lb db))
        (first | exact HS.out _ (by assumption) | exact HS.out _ (Ext.alloc (by assumption) _) | go_keep)
        (first
          | (go_at_call 36; refine (invcl_any xB _ _ _ _ _ (by kernel_rfl) (Is_below Ib.out hE0)).mono ?_; rintro e w2 ⟨⟨kv, he, hI⟩, hB⟩; subst he; obtain ⟨_, _, _, x2, l2, c2, _, _, _, e3⟩ := Is_form hI; subst e3; have hE2 : Ext wc w2 := hE0.trans hB; have HI2 := Lib.hid hI; clear hI hB)
          | (go_at_call 38;  refine (mulcl_any [xA, xInv xB, xA] _ 0 _ _ (by kernel_rfl) (by decide) (by decide) (Row_three_at _ (by simp) (Is_below Ia.out hE2) HI2.out (Is_below Ia.out hE2) 24)).mono ?_; rintro e w3 ⟨⟨kv, he, hI⟩, hB⟩; subst he; obtain ⟨_, _, _, x3, l3, c3, _, _, _, e3⟩ := Is_form hI; subst e3; have hE3 : Ext wc w3 := (hE2.alloc _).trans hB; have HI3 := Lib.hid hI; clear hI hB)
          | (go_at_call 12; refine (exOf ofY rfl (by decide) _ _ _ _ _ HI3.out).mono ?_; rintro e w4 ⟨x7, c7, he, hl7, hR7, hB⟩; subst he; have hE4 : Ext wc w4 := hE3.trans hB; have HR7 := Lib.hid hR7; have HL7 := Lib.hid hl7; clear hB hR7 hl7))
      all_goals (go_wp2_with fail)
      all_goals go_meet
      all_goals exact ⟨x7, c7, rfl, rfl, HA.out.ext hE4, HL7.out, HR7.out⟩
    case rest =>
    clear HA
    obtain ⟨x7, c7, rfl, rfl, hA⟩ := hcut
    have HA := Lib.hid hA
    clear hA
    go_upto_region 5 with (fail)
    go_cut [9, 10] (fun t9 t10 wd => ∃ p9, t9 = .pointer (some ⟨p9, 0, none⟩) ∧ t10 = .int .i64 0 ∧ AwD w pa pb x5 c5 x7 c7 p9 wd)
    case first =>
      have HTE := Lib.hid (exTerm x7 c7 wc HA.out.2.2)
      go_wp2_with (go_at_call 15; refine (HTE.out).mono ?_; rintro e w1 ⟨d0, d1, d2, d3, he, hI, hB⟩; subst he; obtain ⟨k9, n9, s9, x9, l9, c9, e0, e1, e2, e3⟩ := Is_form hI; subst e0 e1 e2 e3; have HI := Lib.hid hI; have HB := Lib.hid hB; clear hI hB)
      go_meet
      exact ⟨w1.heap.size, rfl, rfl, HA.out.ext (Ext.alloc HB.out _), Lies_box HI.out _⟩
    case rest =>
    clear HA
    obtain ⟨p9, rfl, rfl, hA⟩ := hcut
    have HA := Lib.hid hA
    clear hA
    go_upto_region 6 with (fail)
    go_cut [92] (fun t92 wd => t92 = .bool false ∧ Ext w wd)
    case first =>
      obtain ⟨ka, na, sa, ya, la, da, a0, a1, a2, a3, Ja⟩ := Lies_cells HA.out.1.1.1.1
      obtain ⟨kb, nb, sb, yb, lb, db, b0, b1, b2, b3, Jb⟩ := Lies_cells HA.out.1.1.1.2.1
      obtain ⟨kc, nc, sc, yc, lc, dc, c0, c1, c2, c3, Jc⟩ := Lies_cells HA.out.2
      have HS : Hid (∀ W, Ext wc W → W.cell? ⟨pa, 0, none⟩ = some (.int .i64 ka) ∧ W.cell? ⟨pa, 1, none⟩ = some (.string na) ∧ W.cell? ⟨pa, 2, none⟩ = some (.int .i64 sa) ∧ W.cell? ⟨pa, 3, none⟩ = some (.slice ya la da) ∧ W.cell? ⟨pb, 0, none⟩ = some (.int .i64 kb) ∧ W.cell? ⟨pb, 1, none⟩ = some (.string nb) ∧ W.cell? ⟨pb, 2, none⟩ = some (.int .i64 sb) ∧ W.cell? ⟨pb, 3, none⟩ = some (.slice yb lb db) ∧ W.cell? ⟨p9, 0, none⟩ = some (.int .i64 kc) ∧ W.cell? ⟨p9, 1, none⟩ = some (.string nc) ∧ W.cell? ⟨p9, 2, none⟩ = some (.int .i64 sc) ∧ W.cell? ⟨p9, 3, none⟩ = some (.slice yc lc dc)) := fun W h => ⟨keep_below h _ _ a0, keep_below h _ _ a1, keep_below h _ _ a2, keep_below h _ _ a3, keep_below h _ _ b0, keep_below h _ _ b1, keep_below h _ _ b2, keep_below h _ _ b3, keep_below h _ _ c0, keep_below h _ _ c1, keep_below h _ _ c2, keep_below h _ _ c3⟩
      have Ia := Lib.hid Ja
      have Ib := Lib.hid Jb
      have Ic := Lib.hid Jc
      have hE0 : Ext wc wc.drew := (Ext.refl wc).drew
      have hR5 := Lib.hid HA.out.1.1.2.2
      have hR7 := Lib.hid HA.out.1.2.2
      have tok1 : True := trivial
      have tok2 : True := trivial
      clear Ja Jb Jc
      go_region_held3 (fun W => W.cell? ⟨pa, 0, none⟩ = some (.int .i64 ka) ∧ W.cell? ⟨pa, 1, none⟩ = some (.string na) ∧ W.cell? ⟨pa, 2, none⟩ = some (.int .i64 sa) ∧ W.cell? ⟨pa, 3, none⟩ = some (.slice ya la da) ∧ W.cell? ⟨pb, 0, none⟩ = some (.int .i64 kb) ∧ W.cell? ⟨pb, 1, none⟩ = some (.string nb) ∧ W.cell? ⟨pb, 2, none⟩ = some (.int .i64 sb) ∧ W.cell? ⟨pb, 3, none⟩ = some (.slice yb lb db) ∧ W.cell? ⟨p9, 0, none⟩ = some (.int .i64 kc) ∧ W.cell? ⟨p9, 1, none⟩ = some (.string nc) ∧ W.cell? ⟨p9, 2, none⟩ = some (.int .i64 sc) ∧ W.cell? ⟨p9, 3, none⟩ = some (.slice yc lc dc))
        (first | exact HS.out _ (by assumption) | exact HS.out _ (Ext.alloc (by assumption) _) | go_keep)
        (first
          | (go_at_call 39; have _t := tok1; refine (mdx_1 _ _ (by first | exact i8_one (by first | rfl | simp) 1 (by omega) | exact (i8_one (by first | rfl | simp) 1 (by omega)).ext ((Ext.refl _).drew))).mono ?_; rintro e w1 ⟨x1, c1, he, hl, hR, hB⟩; subst he; have hE1 : Ext wc w1 := Ext.trans (by first | exact hE0.alloc _ | exact ((Ext.refl wc).alloc _).drew) hB; have HR1 := Lib.hid hR; have HL1 := Lib.hid hl; clear hB hR hl tok1)
          | (go_at_call 14; have _t := tok2; refine (psame_1 _ _ _ _ _ (PRow_below hR5.out hE1) HR1.out).mono ?_; rintro e w2 ⟨he, hB⟩; subst he; have hE2 : Ext wc w2 := hE1.trans hB; clear hB tok2)
          | (go_at_call 39;  refine (mdx_2m _ _ (by first | exact i8_two (by first | rfl | simp) 2 (-1) (by omega) (by omega) | exact (i8_two (by first | rfl | simp) 2 (-1) (by omega) (by omega)).ext ((Ext.refl _).drew))).mono ?_; rintro e w3 ⟨x3, c3, he, hl, hR, hB⟩; subst he; have hE3 : Ext wc w3 := Ext.trans (by first | exact hE2.alloc _ | exact ((Ext.refl wc).alloc _).drew) hB; have HR3 := Lib.hid hR; have HL3 := Lib.hid hl; clear hB hR hl)
          | (go_at_call 14; refine (psame_2m _ _ _ _ _ (PRow_below hR7.out hE3) HR3.out).mono ?_; rintro e w4 ⟨he, hB⟩; subst he; have hE4 : Ext wc w4 := hE3.trans hB; clear hB)
          | (go_at_call 36; refine (invcl_any xB _ _ _ _ _ (by kernel_rfl) (Is_below Ib.out hE4)).mono ?_; rintro e w5 ⟨⟨kv, he, hI⟩, hB⟩; subst he; obtain ⟨_, _, _, x5, l5, c5, _, _, _, e3⟩ := Is_form hI; subst e3; have hE5 : Ext wc w5 := hE4.trans hB; have HI5 := Lib.hid hI; clear hI hB)
          | (go_at_call 38;  refine (mulcl_any [xA, xA, xInv xB] _ 0 _ _ (by kernel_rfl) (by decide) (by decide) (Row_three_at _ (by simp) (Is_below Ia.out hE5) (Is_below Ia.out hE5) HI5.out 24)).mono ?_; rintro e w6 ⟨⟨kv, he, hI⟩, hB⟩; subst he; obtain ⟨_, _, _, x6, l6, c6, _, _, _, e3⟩ := Is_form hI; subst e3; have hE6 : Ext wc w6 := (hE5.alloc _).trans hB; have HI6 := Lib.hid hI; clear hI hB)
          | (go_at_call 18; refine (exTsame _ _ _ _ _ _ _ _ _ (Is_below Ic.out hE6) HI6.out).mono ?_; rintro e w7 ⟨he, hB⟩; subst he; have hE7 : Ext wc w7 := hE6.trans hB; clear hB))
      all_goals (go_wp2_with fail)
      all_goals go_meet
      all_goals exact ⟨rfl, HA.out.1.1.1.2.2.trans hE7⟩
    case rest =>
    clear HA
    obtain ⟨rfl, hA⟩ := hcut
    rename_i K1 a1 K2 a2
    revert hA
    revert u20 u21 u22 u23 u24 u25 u26 u27 u28 u29 u30 u31 u32 u33 u34 u35 u36 u37 u38 u39 u40 u41 u42 u43 u44 u45 u46 u47 u48 u49 u50 u51 u52 u53 u54 u55 u56 u57 u58 u59 u60 u61 u62 u63 u64 u65 u66 u67 u68 u69 u70 u71 u72 u73 u74 u75 u76 u77 u78 u79 u80 u81 u82 u83 u84 u85 u86 u87 u88 u89 u90 u91 u93 u94 u95 u96 u97 u98 u99 u100 u101 u102 u103 u104 u105 u106 u107 u108 u109 u110 u111 u112 u113 u114 u115 u116 u117 u118 u119 u120 u121 u122 u123 u124 u125 u126 u127 u128 u129 u130 u131 u132 u133 u134 u135 u136 u137 u138 u139 u140 u141 u142 u143 u144 u145 u146 u147 u148 u149 u150 u151 u152 u153 u154 u155 u156 u157 u158 u159 u160 u161
    revert wc
    revert a2 K2 a1 K1 p9
    revert x7 c7 x5 c5 pa pb
    revert w
    exact HP0.out
end Go.Proofs.YtcieadjjcpmieaaGreat
