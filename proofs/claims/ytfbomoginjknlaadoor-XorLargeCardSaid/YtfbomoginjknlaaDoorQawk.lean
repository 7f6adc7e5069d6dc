/-
  THE WALK OF layer 8's examples.
-/
import Derived.Test.YtfbomoginjknlaaDoorQinc
import Derived.Test.YtfbomoginjknlaaDoorQrsum
import Derived.Test.YtfbomoginjknlaaDoorIntz
import Derived.Test.YtfbomoginjknlaaDoorQsep
import Derived.Deep.RegionHeld3
import Derived.Deep.DeepCutAuto
namespace Go.Proofs.YtfbomoginjknlaaDoor
open Go.RowKit

def qA : Tm := .mk 2 ⟨#[97]⟩ 0 []
def qB : Tm := .mk 2 ⟨#[98]⟩ 0 []
def qC : Tm := .mk 2 ⟨#[99]⟩ 0 []
def qX (l : List Tm) : Tm := .mk 3 ⟨#[120, 111, 114]⟩ 0 l
def qL : List Tm := [qX [qA, qB], qX [qB, qC]]
theorem ex_sum : sumP [qA, qB, qX [qB, qC]] = (qX [qA, qC], 0) := by kernel_rfl
theorem ex_parts : partsT (qX [qA, qA]) = ([], 0) := by kernel_rfl
theorem ex_sep : sepB qL qA [qA, qB, qC] = true := by kernel_rfl
theorem ex_v1 : vE qL (qX [qA, qC]) = 0 := by kernel_rfl
theorem ex_v2 : vE qL qA = 0 := by kernel_rfl
theorem ones_two {c : List Int} (h : idxB 2 c = true) : c = [] ∨ c = [0] ∨ c = [1] ∨ c = [0, 1] := by
  have e := idxB_is h
  rw [onesI_succ, onesI_succ] at e
  have e0 : onesI 0 (chosen c) = [] := rfl
  rw [e0] at e
  generalize chosen c 0 = a at e
  generalize chosen c 1 = b at e
  rw [e]
  cases a <;> cases b <;> simp
theorem chk_idx {ts : List Tm} {t : Tm} {c : List Int} (h : chkB8 ts t c = true) : idxB ts.length c = true := by
  unfold chkB8 at h
  split at h
  · cases h
  · split at h
    · cases h
    · rename_i h2; simpa using h2
theorem ex_span1 {c : List Int} {E : Int} (h : SpanR qL (qX [qA, qC]) c E) : c = [0, 1] ∧ E = 0 := by
  rcases h with ⟨h, _⟩ | ⟨_, e, h⟩ | ⟨_, _, _, h⟩
  · exact absurd ex_v1 h
  · refine ⟨?_, e⟩
    rcases ones_two (chk_idx h) with rfl | rfl | rfl | rfl
    · exact absurd h (by rw [show chkB8 qL (qX [qA, qC]) [] = false by kernel_rfl]; decide)
    · exact absurd h (by rw [show chkB8 qL (qX [qA, qC]) [0] = false by kernel_rfl]; decide)
    · exact absurd h (by rw [show chkB8 qL (qX [qA, qC]) [1] = false by kernel_rfl]; decide)
    · rfl
  · exact absurd (h [0, 1]) (by rw [show chkB8 qL (qX [qA, qC]) [0, 1] = true by kernel_rfl]; decide)
theorem ex_span2 {c : List Int} {E : Int} (h : SpanR qL qA c E) : E = 4 := by
  rcases h with ⟨h, _⟩ | ⟨_, _, h⟩ | ⟨_, e, _⟩
  · exact absurd ex_v2 h
  · exfalso
    rcases ones_two (chk_idx h) with rfl | rfl | rfl | rfl
    · exact absurd h (by rw [show chkB8 qL qA [] = false by kernel_rfl]; decide)
    · exact absurd h (by rw [show chkB8 qL qA [0] = false by kernel_rfl]; decide)
    · exact absurd h (by rw [show chkB8 qL qA [1] = false by kernel_rfl]; decide)
    · exact absurd h (by rw [show chkB8 qL qA [0, 1] = false by kernel_rfl]; decide)
  · exact e
theorem Is_leafQ (w : World) (k : Int) (n : ByteArray) (s : Int) (hn : n.size ≤ maxLen) (hk : -9223372036854775808 ≤ k ∧ k ≤ 9223372036854775807) (hs : -9223372036854775808 ≤ s ∧ s ≤ 9223372036854775807) : Is w (.mk k n s []) (.int .i64 k) (.string n) (.int .i64 s) (.slice none 0 0) := by
  simp only [Is]
  exact ⟨trivial, trivial, trivial, hk, hs, hn, by simp, none, 0, rfl, by simp, by simp [Row]⟩
theorem box4_facts {w : World} {b : Nat} {y0 y1 y2 y3 : Value} {T : TypeId} (h : w.heap[b]? = some (.cells #[y0, y1, y2, y3] T (0, 0))) : w.cell? ⟨b, 0, none⟩ = some y0 ∧ w.cell? ⟨b, 1, none⟩ = some y1 ∧ w.cell? ⟨b, 2, none⟩ = some y2 ∧ w.cell? ⟨b, 3, none⟩ = some y3 := (box_facts h).1
def AwA8 (w : World) (pa pb pc : Nat) (W : World) : Prop := Lies W qA pa 0 ∧ Lies W qB pb 0 ∧ Lies W qC pc 0 ∧ Ext w W
theorem AwA8.ext {w W V : World} {pa pb pc : Nat} (h : AwA8 w pa pb pc W) (x : Ext W V) : AwA8 w pa pb pc V := ⟨Lies_below h.1 x, Lies_below h.2.1 x, Lies_below h.2.2.1 x, h.2.2.2.trans x⟩
def AwB8 (w : World) (pa pb pc pd : Nat) (W : World) : Prop := AwA8 w pa pb pc W ∧ Lies W (qX [qA, qC]) pd 0
theorem AwB8.ext {w W V : World} {pa pb pc pd : Nat} (h : AwB8 w pa pb pc pd W) (x : Ext W V) : AwB8 w pa pb pc pd V := ⟨h.1.ext x, Lies_below h.2 x⟩
def AwC8 (w : World) (pa pb pc pd lb : Nat) (W : World) : Prop := AwB8 w pa pb pc pd W ∧ Row W qL (some ⟨lb, 0, none⟩)
theorem AwC8.ext {w W V : World} {pa pb pc pd lb : Nat} (h : AwC8 w pa pb pc pd lb W) (x : Ext W V) : AwC8 w pa pb pc pd lb V := ⟨h.1.ext x, Row_below h.2 x⟩
def AwD8 (w : World) (pa pb pc pd lb pe : Nat) (W : World) : Prop := AwC8 w pa pb pc pd lb W ∧ Lies W (qX [qA, qC]) pe 0
theorem AwD8.ext {w W V : World} {pa pb pc pd lb pe : Nat} (h : AwD8 w pa pb pc pd lb pe W) (x : Ext W V) : AwD8 w pa pb pc pd lb pe V := ⟨h.1.ext x, Lies_below h.2 x⟩
def zBox4 : Obj := .cells #[.int .i64 0, .string ⟨#[]⟩, .int .i64 0, .slice none 0 0] 24 (0, 0)
theorem lies_put {w5 : World} {rb H : Nat} {t : Tm} {c0 c1 c2 c3 : Value} (hz : w5.heap[rb]? = some zBox4) (h : IsIn (fun b => H ≤ b) w5 t c0 c1 c2 c3) (hrb : rb < H) : Lies (put4 w5 rb 0 c0 c1 c2 c3) t rb 0 := by
  obtain ⟨⟨z0, z1, z2, z3⟩, _⟩ := box_facts hz
  obtain ⟨p0, p1, p2, p3⟩ := put4_at (o := 0) (d0 := c0) (d1 := c1) (d2 := c2) (d3 := c3) z0 z1 z2 z3
  exact ⟨c0, c1, c2, c3, p0, p1, p2, p3, IsIn_Is _ _ _ _ _ (put4_in (S := fun b => H ≤ b) (fun (x : H ≤ rb) => by omega) h)⟩
set_option maxHeartbeats 25600000 in
set_option maxRecDepth 100000 in
theorem awake8_any (w : World) (hT : TabQ w) : Calls Tryd.prog 6 #[] w fun e w' => e = .returned (.bool true) ∧ Below w.heap.size w w' := by
  have HT := Lib.hid hT
  clear hT
  go_enter Tryd.func6, Tryd.ntmps6
  go_upto_region 1 with (fail)
  go_cut [1, 2, 3] (fun t1 t2 t3 wc => ∃ pa pb pc, t1 = .pointer (some ⟨pa, 0, none⟩) ∧ t2 = .pointer (some ⟨pb, 0, none⟩) ∧ t3 = .pointer (some ⟨pc, 0, none⟩) ∧ AwA8 w pa pb pc wc)
  case first =>
    go_wp2_with (first
      | (go_at_call_of 15 (Value.string ⟨#[97]⟩); refine (atom_any _ _ _).mono ?_; rintro e w1 ⟨he, hB⟩; subst he; have H1 := Lib.hid hB; clear hB)
      | (go_at_call_of 15 (Value.string ⟨#[98]⟩); refine (atom_any _ _ _).mono ?_; rintro e w2 ⟨he, hB⟩; subst he; have H2 := Lib.hid hB; clear hB)
      | (go_at_call_of 15 (Value.string ⟨#[99]⟩); refine (atom_any _ _ _).mono ?_; rintro e w3 ⟨he, hB⟩; subst he; have H3 := Lib.hid hB; clear hB))
    go_meet
    have L1 := Lies_box (Is_leafQ w3 2 ⟨#[97]⟩ 0 (by decide) (by omega) (by omega)) 24
    have L2 := Lies_box (Is_leafQ (w3.alloc (.cells #[.int .i64 2, .string ⟨#[97]⟩, .int .i64 0, .slice none 0 0] 24)) 2 ⟨#[98]⟩ 0 (by decide) (by omega) (by omega)) 24
    have L3 := Lies_box (Is_leafQ ((w3.alloc (.cells #[.int .i64 2, .string ⟨#[97]⟩, .int .i64 0, .slice none 0 0] 24)).alloc (.cells #[.int .i64 2, .string ⟨#[98]⟩, .int .i64 0, .slice none 0 0] 24)) 2 ⟨#[99]⟩ 0 (by decide) (by omega) (by omega)) 24
    rw [World.size_alloc] at L2
    rw [World.size_alloc, World.size_alloc] at L3
    exact ⟨w3.heap.size, w3.heap.size + 1, w3.heap.size + 1 + 1, rfl, rfl, rfl, Lies_below L1 (((Ext.refl _).alloc _).alloc _), Lies_below L2 ((Ext.refl _).alloc _), L3, ((((Ext.trans (a := w) (H1.out.trans (H2.out.mono H1.out.size)) H3.out)).alloc _).alloc _).alloc _⟩
  case rest =>
  obtain ⟨pa, pb, pc, rfl, rfl, rfl, hA⟩ := hcut
  have HA := Lib.hid hA
  clear hA
  go_upto_region 2 with (fail)
  go_cut [4] (fun t4 wd => ∃ pd, t4 = .pointer (some ⟨pd, 0, none⟩) ∧ AwB8 w pa pb pc pd wd)
  case first =>
    obtain ⟨ka, na, sa, ya, la, da, a0, a1, a2, a3, Ja⟩ := Lies_cells HA.out.1
    obtain ⟨kc, nc, sc, yc, lc, dc, c0, c1, c2, c3, Jc⟩ := Lies_cells HA.out.2.2.1
    have HR := Lib.hid (Row_two_at _ rfl Ja Jc 24)
    clear Ja Jc
    go_wp2_with (go_at_call 14; refine (app_any _ [qA, qC] _ 0 _ _ (by decide) (by simp) (by simp) HR.out).mono ?_; rintro e w1 ⟨⟨kv, he, hI⟩, hB⟩; subst he; obtain ⟨_, _, _, x1, l1, c1', _, _, _, e3⟩ := Is_form hI; subst e3; have HI1 := Lib.hid hI; have HB1 := Lib.hid (((Ext.refl wc).alloc _).trans hB); clear hI hB)
    go_meet
    exact ⟨w1.heap.size, rfl, HA.out.ext (HB1.out.alloc _), Lies_box HI1.out _⟩
  case rest =>
  clear HA
  obtain ⟨pd, rfl, hA⟩ := hcut
  have HA := Lib.hid hA
  clear hA
  go_upto_region 3 with (fail)
  go_cut [5] (fun t5 wd => ∃ lb, t5 = .slice (some ⟨lb, 0, none⟩) 2 2 ∧ AwC8 w pa pb pc pd lb wd)
  case first =>
    obtain ⟨ka, na, sa, ya, la, da, a0, a1, a2, a3, Ja⟩ := Lies_cells HA.out.1.1
    obtain ⟨kb, nb, sb, yb, lb, db, b0, b1, b2, b3, Jb⟩ := Lies_cells HA.out.1.2.1
    obtain ⟨kc, nc, sc, yc, lc, dc, c0, c1, c2, c3, Jc⟩ := Lies_cells HA.out.1.2.2.1
    have HS : Hid (∀ W, Ext wc W → W.cell? ⟨pa, 0, none⟩ = some (.int .i64 ka) ∧ W.cell? ⟨pa, 1, none⟩ = some (.string na) ∧ W.cell? ⟨pa, 2, none⟩ = some (.int .i64 sa) ∧ W.cell? ⟨pa, 3, none⟩ = some (.slice ya la da) ∧ W.cell? ⟨pb, 0, none⟩ = some (.int .i64 kb) ∧ W.cell? ⟨pb, 1, none⟩ = some (.string nb) ∧ W.cell? ⟨pb, 2, none⟩ = some (.int .i64 sb) ∧ W.cell? ⟨pb, 3, none⟩ = some (.slice yb lb db) ∧ W.cell? ⟨pc, 0, none⟩ = some (.int .i64 kc) ∧ W.cell? ⟨pc, 1, none⟩ = some (.string nc) ∧ W.cell? ⟨pc, 2, none⟩ = some (.int .i64 sc) ∧ W.cell? ⟨pc, 3, none⟩ = some (.slice yc lc dc)) := fun W h => ⟨keep_below h _ _ a0, keep_below h _ _ a1, keep_below h _ _ a2, keep_below h _ _ a3, keep_below h _ _ b0, keep_below h _ _ b1, keep_below h _ _ b2, keep_below h _ _ b3, keep_below h _ _ c0, keep_below h _ _ c1, keep_below h _ _ c2, keep_below h _ _ c3⟩
    have Ia := Lib.hid Ja
    have Ib := Lib.hid Jb
    have Ic := Lib.hid Jc
    have HRW : Hid (∀ (t u : Tm) x0 x1 x2 x3 y0 y1 y2 y3 (W : World) H, W.heap.size = H → Is W t x0 x1 x2 x3 → Is W u y0 y1 y2 y3 → Row (W.alloc (.cells #[x0, x1, x2, x3, y0, y1, y2, y3] 24)) [t, u] (some ⟨H, 0, none⟩)) := fun t u _ _ _ _ _ _ _ _ W H hH h k => Row_two_at H hH h k _
    have HAPP : Hid (∀ (t u : Tm) b W, Row W [t, u] (some ⟨b, 0, none⟩) → Calls Tryd.prog 14 #[.string ⟨#[120, 111, 114]⟩, .slice (some ⟨b, 0, none⟩) 2 2] W (AppPost W ⟨#[120, 111, 114]⟩ [t, u])) := fun t u b W r => app_any _ [t, u] b 0 2 W (by decide) (by simp) (by simp) r
    have HF1 := Lib.hid (Row_below (HRW.out qA qB _ _ _ _ _ _ _ _ wc _ rfl Ja Jb) ((Ext.refl _).drew))
    have HF2 : Hid (Row (((wc.alloc (.cells #[.int .i64 ka, .string na, .int .i64 sa, .slice ya la da, .int .i64 kb, .string nb, .int .i64 sb, .slice yb lb db] 24)).alloc (.cells #[.int .i64 kb, .string nb, .int .i64 sb, .slice yb lb db, .int .i64 kc, .string nc, .int .i64 sc, .slice yc lc dc] 24)).drew) [qA, qB] (some ⟨wc.heap.size, 0, none⟩) ∧ Row (((wc.alloc (.cells #[.int .i64 ka, .string na, .int .i64 sa, .slice ya la da, .int .i64 kb, .string nb, .int .i64 sb, .slice yb lb db] 24)).alloc (.cells #[.int .i64 kb, .string nb, .int .i64 sb, .slice yb lb db, .int .i64 kc, .string nc, .int .i64 sc, .slice yc lc dc] 24)).drew) [qB, qC] (some ⟨wc.heap.size + 1, 0, none⟩)) :=
      ⟨Row_below (HRW.out qA qB _ _ _ _ _ _ _ _ wc _ rfl Ja Jb) (((Ext.refl _).alloc _).drew), Row_below (HRW.out qB qC _ _ _ _ _ _ _ _ (wc.alloc (.cells #[.int .i64 ka, .string na, .int .i64 sa, .slice ya la da, .int .i64 kb, .string nb, .int .i64 sb, .slice yb lb db] 24)) _ (by rw [World.size_alloc]) (Is_alloc Jb _) (Is_alloc Jc _)) ((Ext.refl _).drew)⟩
    have HF3 : Hid (Row (((wc.alloc (.cells #[.int .i64 kb, .string nb, .int .i64 sb, .slice yb lb db, .int .i64 kc, .string nc, .int .i64 sc, .slice yc lc dc] 24)).alloc (.cells #[.int .i64 ka, .string na, .int .i64 sa, .slice ya la da, .int .i64 kb, .string nb, .int .i64 sb, .slice yb lb db] 24)).drew) [qA, qB] (some ⟨wc.heap.size + 1, 0, none⟩) ∧ Row (((wc.alloc (.cells #[.int .i64 kb, .string nb, .int .i64 sb, .slice yb lb db, .int .i64 kc, .string nc, .int .i64 sc, .slice yc lc dc] 24)).alloc (.cells #[.int .i64 ka, .string na, .int .i64 sa, .slice ya la da, .int .i64 kb, .string nb, .int .i64 sb, .slice yb lb db] 24)).drew) [qB, qC] (some ⟨wc.heap.size, 0, none⟩)) :=
      ⟨Row_below (HRW.out qA qB _ _ _ _ _ _ _ _ (wc.alloc (.cells #[.int .i64 kb, .string nb, .int .i64 sb, .slice yb lb db, .int .i64 kc, .string nc, .int .i64 sc, .slice yc lc dc] 24)) _ (by rw [World.size_alloc]) (Is_alloc Ja _) (Is_alloc Jb _)) ((Ext.refl _).drew), Row_below (HRW.out qB qC _ _ _ _ _ _ _ _ wc _ rfl Jb Jc) (((Ext.refl _).alloc _).drew)⟩
    have hE0 : Ext wc wc.drew := (Ext.refl wc).drew
    have tok1 : True := trivial
    clear Ja Jb Jc
    go_region_held3 (fun W => W.cell? ⟨pa, 0, none⟩ = some (.int .i64 ka) ∧ W.cell? ⟨pa, 1, none⟩ = some (.string na) ∧ W.cell? ⟨pa, 2, none⟩ = some (.int .i64 sa) ∧ W.cell? ⟨pa, 3, none⟩ = some (.slice ya la da) ∧ W.cell? ⟨pb, 0, none⟩ = some (.int .i64 kb) ∧ W.cell? ⟨pb, 1, none⟩ = some (.string nb) ∧ W.cell? ⟨pb, 2, none⟩ = some (.int .i64 sb) ∧ W.cell? ⟨pb, 3, none⟩ = some (.slice yb lb db) ∧ W.cell? ⟨pc, 0, none⟩ = some (.int .i64 kc) ∧ W.cell? ⟨pc, 1, none⟩ = some (.string nc) ∧ W.cell? ⟨pc, 2, none⟩ = some (.int .i64 sc) ∧ W.cell? ⟨pc, 3, none⟩ = some (.slice yc lc dc))
      (first | exact HS.out _ (by assumption) | exact HS.out _ (Ext.alloc (by assumption) _) | go_keep)
      (first
        | (go_at_call 14; have _t := tok1; refine (HAPP.out qA qB _ _ (by first | exact HF1.out | exact HF2.out.1 | exact HF3.out.1)).mono ?_; rintro e w1 ⟨⟨kv, he, hI⟩, hB⟩; subst he; obtain ⟨_, _, _, x1, l1, c1', _, _, _, e3⟩ := Is_form hI; subst e3; (first | (have HQ2 := Lib.hid (Row_below HF2.out.2 hB)) | (have HQ2 := Lib.hid (Row_below HF3.out.2 hB)) | skip); have hE1 : Ext wc w1 := Ext.trans (by first | exact ((Ext.refl wc).alloc _).drew | exact (((Ext.refl wc).alloc _).alloc _).drew) hB; have HI1 := Lib.hid hI; clear hI hB tok1)
        | (go_at_call 14; refine (HAPP.out qB qC _ _ (by first | exact HQ2.out | exact HRW.out _ _ _ _ _ _ _ _ _ _ w1 _ rfl (Is_below Ib.out hE1) (Is_below Ic.out hE1))).mono ?_; rintro e w2 ⟨⟨kv, he, hI⟩, hB⟩; subst he; obtain ⟨_, _, _, x2, l2, c2', _, _, _, e3⟩ := Is_form hI; subst e3; have hE12 : Ext w1 w2 := Ext.trans (by first | exact Ext.refl w1 | exact (Ext.refl w1).alloc _) hB; have hE2 : Ext wc w2 := hE1.trans hE12; have HI2 := Lib.hid hI; clear hI hB))
    all_goals go_wp2_with fail
    all_goals go_meet
    all_goals exact ⟨_, rfl, HA.out.ext (hE2.alloc _), HRW.out _ _ _ _ _ _ _ _ _ _ w2 _ rfl (Is_below HI1.out hE12) HI2.out⟩
  case rest =>
  clear HA
  obtain ⟨lb, rfl, hA⟩ := hcut
  have HA := Lib.hid hA
  clear hA
  go_upto_region 4 with (fail)
  go_cut [6, 7] (fun t6 t7 wd => ∃ pe, t6 = .pointer (some ⟨pe, 0, none⟩) ∧ t7 = .int .i64 0 ∧ AwD8 w pa pb pc pd lb pe wd)
  case first =>
    obtain ⟨ka, na, sa, ya, la, da, a0, a1, a2, a3, Ja⟩ := Lies_cells HA.out.1.1.1
    obtain ⟨kb, nb, sb, yb, lb2, db, b0, b1, b2, b3, Jb⟩ := Lies_cells HA.out.1.1.2.1
    obtain ⟨x0, x1, x2, x3, c0, c1, c2, c3, Jc⟩ := Row_get HA.out.2 1 (by decide)
    obtain ⟨kc, nc, sc, yc, lc, dc, rfl, rfl, rfl, rfl⟩ := Is_form Jc
    have Jc : Is wc (qX [qB, qC]) (.int .i64 kc) (.string nc) (.int .i64 sc) (.slice yc lc dc) := Jc
    have c0 : wc.cell? ⟨lb, 4, none⟩ = some (.int .i64 kc) := c0
    have c1 : wc.cell? ⟨lb, 5, none⟩ = some (.string nc) := c1
    have c2 : wc.cell? ⟨lb, 6, none⟩ = some (.int .i64 sc) := c2
    have c3 : wc.cell? ⟨lb, 7, none⟩ = some (.slice yc lc dc) := c3
    have HS : Hid (∀ W, Ext wc W → W.cell? ⟨pa, 0, none⟩ = some (.int .i64 ka) ∧ W.cell? ⟨pa, 1, none⟩ = some (.string na) ∧ W.cell? ⟨pa, 2, none⟩ = some (.int .i64 sa) ∧ W.cell? ⟨pa, 3, none⟩ = some (.slice ya la da) ∧ W.cell? ⟨pb, 0, none⟩ = some (.int .i64 kb) ∧ W.cell? ⟨pb, 1, none⟩ = some (.string nb) ∧ W.cell? ⟨pb, 2, none⟩ = some (.int .i64 sb) ∧ W.cell? ⟨pb, 3, none⟩ = some (.slice yb lb2 db) ∧ W.cell? ⟨lb, 4, none⟩ = some (.int .i64 kc) ∧ W.cell? ⟨lb, 5, none⟩ = some (.string nc) ∧ W.cell? ⟨lb, 6, none⟩ = some (.int .i64 sc) ∧ W.cell? ⟨lb, 7, none⟩ = some (.slice yc lc dc)) := fun W h => ⟨keep_below h _ _ a0, keep_below h _ _ a1, keep_below h _ _ a2, keep_below h _ _ a3, keep_below h _ _ b0, keep_below h _ _ b1, keep_below h _ _ b2, keep_below h _ _ b3, keep_below h _ _ c0, keep_below h _ _ c1, keep_below h _ _ c2, keep_below h _ _ c3⟩
    have HRW : Hid (∀ (W : World) H, W.heap.size = H → Ext wc W → Row (W.alloc (.cells #[.int .i64 ka, .string na, .int .i64 sa, .slice ya la da, .int .i64 kb, .string nb, .int .i64 sb, .slice yb lb2 db, .int .i64 kc, .string nc, .int .i64 sc, .slice yc lc dc] 24)) [qA, qB, qX [qB, qC]] (some ⟨H, 0, none⟩)) := fun W H hH x => Row_three_at H hH (Is_below Ja x) (Is_below Jb x) (Is_below Jc x) _
    have HSUM : Hid (∀ W b, Row W [qA, qB, qX [qB, qC]] (some ⟨b, 0, none⟩) → Calls Tryd.prog 17 #[.slice (some ⟨b, 0, none⟩) 3 3] W (TePost W (qX [qA, qC], 0))) := by
      show ∀ _, _
      intro W b r
      have h := Sum_any [qA, qB, qX [qB, qC]] (some ⟨b, 0, none⟩) 3 W (by simp) (by rw [show sizes [qA, qB, qX [qB, qC]] = 5 by kernel_rfl]; omega) r
      rw [ex_sum] at h
      exact h
    have HF1 := Lib.hid (Row_below (HRW.out wc _ rfl (Ext.refl _)) ((Ext.refl _).drew))
    have HF2 := Lib.hid (Row_below (HRW.out wc _ rfl (Ext.refl _)) (((Ext.refl _).alloc (.cells #[.int .i64 0, .string ⟨#[]⟩, .int .i64 0, .slice none 0 0] 24)).drew))
    have HF3 : Hid (Row (((wc.alloc (.cells #[.int .i64 0, .string ⟨#[]⟩, .int .i64 0, .slice none 0 0] 24)).alloc (.cells #[.int .i64 ka, .string na, .int .i64 sa, .slice ya la da, .int .i64 kb, .string nb, .int .i64 sb, .slice yb lb2 db, .int .i64 kc, .string nc, .int .i64 sc, .slice yc lc dc] 24)).drew) [qA, qB, qX [qB, qC]] (some ⟨wc.heap.size + 1, 0, none⟩)) := Row_below (HRW.out (wc.alloc (.cells #[.int .i64 0, .string ⟨#[]⟩, .int .i64 0, .slice none 0 0] 24)) _ (by rw [World.size_alloc]) ((Ext.refl _).alloc _)) ((Ext.refl _).drew)
    have HZ2 : Hid ((((wc.alloc (.cells #[.int .i64 ka, .string na, .int .i64 sa, .slice ya la da, .int .i64 kb, .string nb, .int .i64 sb, .slice yb lb2 db, .int .i64 kc, .string nc, .int .i64 sc, .slice yc lc dc] 24)).alloc (.cells #[.int .i64 0, .string ⟨#[]⟩, .int .i64 0, .slice none 0 0] 24)).drew).heap[wc.heap.size + 1]? = some zBox4) := by
      have := heap_alloc_new (wc.alloc (.cells #[.int .i64 ka, .string na, .int .i64 sa, .slice ya la da, .int .i64 kb, .string nb, .int .i64 sb, .slice yb lb2 db, .int .i64 kc, .string nc, .int .i64 sc, .slice yc lc dc] 24)) (.cells #[.int .i64 0, .string ⟨#[]⟩, .int .i64 0, .slice none 0 0] 24)
      rw [World.size_alloc] at this
      exact this
    have HZ3 : Hid ((((wc.alloc (.cells #[.int .i64 0, .string ⟨#[]⟩, .int .i64 0, .slice none 0 0] 24)).alloc (.cells #[.int .i64 ka, .string na, .int .i64 sa, .slice ya la da, .int .i64 kb, .string nb, .int .i64 sb, .slice yb lb2 db, .int .i64 kc, .string nc, .int .i64 sc, .slice yc lc dc] 24)).drew).heap[wc.heap.size]? = some zBox4) := by
      have := ((Ext.refl (wc.alloc (.cells #[.int .i64 0, .string ⟨#[]⟩, .int .i64 0, .slice none 0 0] 24))).alloc (.cells #[.int .i64 ka, .string na, .int .i64 sa, .slice ya la da, .int .i64 kb, .string nb, .int .i64 sb, .slice yb lb2 db, .int .i64 kc, .string nc, .int .i64 sc, .slice yc lc dc] 24)).block wc.heap.size (by simp)
      exact this.trans (heap_alloc_new wc (.cells #[.int .i64 0, .string ⟨#[]⟩, .int .i64 0, .slice none 0 0] 24))
    have hE0 : Ext wc wc.drew := (Ext.refl wc).drew
    clear Ja Jb Jc
    go_region_held3 (fun W => W.cell? ⟨pa, 0, none⟩ = some (.int .i64 ka) ∧ W.cell? ⟨pa, 1, none⟩ = some (.string na) ∧ W.cell? ⟨pa, 2, none⟩ = some (.int .i64 sa) ∧ W.cell? ⟨pa, 3, none⟩ = some (.slice ya la da) ∧ W.cell? ⟨pb, 0, none⟩ = some (.int .i64 kb) ∧ W.cell? ⟨pb, 1, none⟩ = some (.string nb) ∧ W.cell? ⟨pb, 2, none⟩ = some (.int .i64 sb) ∧ W.cell? ⟨pb, 3, none⟩ = some (.slice yb lb2 db) ∧ W.cell? ⟨lb, 4, none⟩ = some (.int .i64 kc) ∧ W.cell? ⟨lb, 5, none⟩ = some (.string nc) ∧ W.cell? ⟨lb, 6, none⟩ = some (.int .i64 sc) ∧ W.cell? ⟨lb, 7, none⟩ = some (.slice yc lc dc))
      (first | exact HS.out _ (by assumption) | exact HS.out _ (Ext.alloc (by assumption) _) | (have hp := HPE.out; exact HS.out _ hp) | go_keep)
      (first
        | (go_at_call 17; refine (HSUM.out _ _ (by first | exact HF1.out | exact HF2.out | exact HF3.out)).mono ?_; rintro e w5 ⟨k5, n5, s5, x5, l5, c5, he, hI5, hB5⟩; subst he; have hE5 : Ext wc w5 := Ext.trans (by first | exact ((Ext.refl wc).alloc _).drew | exact (((Ext.refl wc).alloc _).alloc _).drew) hB5;
           (first
             | (have hz := (hB5.block (wc.heap.size + 1) (by first | (simp; omega) | simp)).trans HZ2.out; have HPE := Lib.hid (put4_below (g := wc.heap.size + 1) (o := 0) (c0 := (.int .i64 k5)) (c1 := (.string n5)) (c2 := (.int .i64 s5)) (c3 := (.slice x5 l5 c5)) hE5 (by omega)); have HPL := Lib.hid (lies_put hz hI5 (by first | (simp; omega) | simp)); obtain ⟨⟨z0, z1, z2, z3⟩, zf0, zf1, zf2, zf3⟩ := box_facts hz; clear hz)
             | (have hz := (hB5.block wc.heap.size (by first | (simp; omega) | simp)).trans HZ3.out; have HPE := Lib.hid (put4_below (g := wc.heap.size) (o := 0) (c0 := (.int .i64 k5)) (c1 := (.string n5)) (c2 := (.int .i64 s5)) (c3 := (.slice x5 l5 c5)) hE5 (by omega)); have HPL := Lib.hid (lies_put hz hI5 (by first | (simp; omega) | simp)); obtain ⟨⟨z0, z1, z2, z3⟩, zf0, zf1, zf2, zf3⟩ := box_facts hz; clear hz)
             | (have HPL := Lib.hid (Lies_box (IsIn_Is _ _ _ _ _ hI5) 24); have HPE := Lib.hid (hE5.alloc (.cells #[.int .i64 k5, .string n5, .int .i64 s5, .slice x5 l5 c5] 24))));
           clear hI5 hB5))
    all_goals go_wp2_with fail
    all_goals go_meet
    all_goals exact ⟨_, rfl, rfl, HA.out.ext HPE.out, HPL.out⟩
  case rest =>
  clear HA
  obtain ⟨pe, rfl, rfl, hA⟩ := hcut
  have HA := Lib.hid hA
  clear hA
  go_upto_region 5 with (fail)
  go_cut [8, 9] (fun t8 t9 wd => ∃ x8 c8, t8 = .slice x8 0 c8 ∧ t9 = .int .i64 0 ∧ AwD8 w pa pb pc pd lb pe wd)
  case first =>
    obtain ⟨ka, na, sa, ya, la, da, a0, a1, a2, a3, Ja⟩ := Lies_cells HA.out.1.1.1.1
    have HR := Lib.hid (Row_two_at _ rfl Ja Ja 24)
    have HPA := Lib.hid (fun W c0 c1 c2 c3 (h : Is W (qX [qA, qA]) c0 c1 c2 c3) => Parts_any (qX [qA, qA]) c0 c1 c2 c3 W (by rw [show size (qX [qA, qA]) = 3 by kernel_rfl]; omega) h)
    clear Ja
    go_wp2_with (first
      | (go_at_call 14; refine (app_any _ [qA, qA] _ 0 _ _ (by decide) (by simp) (by simp) HR.out).mono ?_; rintro e w1 ⟨⟨kv, he, hI⟩, hB⟩; subst he; obtain ⟨_, _, _, x1, l1, c1', _, _, _, e3⟩ := Is_form hI; subst e3; have HI1 := Lib.hid hI; have HB1 := Lib.hid (((Ext.refl wc).alloc _).trans hB); clear hI hB)
      | (go_at_call 8; refine (HPA.out _ _ _ _ _ HI1.out).mono ?_; rintro e w2 ⟨x8, c8, he, _, _, hB⟩; rw [ex_parts] at he; subst he; have HB2 := Lib.hid (HB1.out.trans hB); clear hB))
    go_meet
    exact ⟨x8, c8, rfl, rfl, HA.out.ext HB2.out⟩
  case rest =>
  clear HA
  obtain ⟨x8, c8, rfl, rfl, hA⟩ := hcut
  have HA := Lib.hid hA
  clear hA
  have HSPAN : Hid (∀ (t : Tm) c0 c1 c2 c3 W, size t ≤ 100 → Ext w W → Row W qL (some ⟨lb, 0, none⟩) → Is W t c0 c1 c2 c3 → Calls Tryd.prog 20 #[.slice (some ⟨lb, 0, none⟩) 2 2, .agg #[c0, c1, c2, c3]] W (SpanPost qL t W)) := by
    show ∀ _, _
    intro t c0 c1 c2 c3 W hs x r h
    exact Span_any qL t (some ⟨lb, 0, none⟩) 2 c0 c1 c2 c3 W (by decide) (by rw [show sizes qL = 6 by kernel_rfl]; omega) (by decide) (HT.out.ext x) r h
  go_upto_region 6 with (fail)
  go_cut [10, 11] (fun t10 t11 wd => t11 = .int .i64 0 ∧ IntsV wd t10 [0, 1] ∧ AwD8 w pa pb pc pd lb pe wd)
  case first =>
    obtain ⟨kd, nd, sd, yd, ld, dd, d0, d1, d2, d3, Jd⟩ := Lies_cells HA.out.1.1.2
    have HC := Lib.hid (HSPAN.out _ _ _ _ _ _ (by rw [show size (qX [qA, qC]) = 3 by kernel_rfl]; omega) HA.out.1.1.1.2.2.2 HA.out.1.2 Jd)
    clear Jd
    go_wp2_with (go_at_call 20; refine (HC.out).mono ?_; rintro e w1 ⟨cc, E, v10, he, hS, _, hv, hB⟩; obtain ⟨ec, eE⟩ := ex_span1 hS; subst ec; subst eE; subst he; have HV := Lib.hid hv; have HB1 := Lib.hid hB; clear hS hv hB)
    go_meet
    exact ⟨rfl, HV.out, HA.out.ext HB1.out⟩
  case rest =>
  clear HA
  obtain ⟨rfl, hv, hA⟩ := hcut
  have HV := Lib.hid hv
  have HA := Lib.hid hA
  clear hA hv
  go_upto_region 7 with (fail)
  obtain ⟨v10, h10⟩ : ∃ v, v = u10 := ⟨_, rfl⟩
  subst h10
  go_cut [12, 13] (fun t12 t13 wd => t13 = .int .i64 4 ∧ IntsV wd v10 [0, 1] ∧ AwD8 w pa pb pc pd lb pe wd)
  case first =>
    obtain ⟨ka, na, sa, ya, la, da, a0, a1, a2, a3, Ja⟩ := Lies_cells HA.out.1.1.1.1
    have HC := Lib.hid (HSPAN.out _ _ _ _ _ _ (by rw [show size qA = 1 by kernel_rfl]; omega) HA.out.1.1.1.2.2.2 HA.out.1.2 Ja)
    clear Ja
    go_wp2_with (go_at_call 20; refine (HC.out).mono ?_; rintro e w1 ⟨cc, E, v12, he, hS, _, _, hB⟩; have eE := ex_span2 hS; subst eE; subst he; have HB1 := Lib.hid hB; clear hS hB)
    go_meet
    exact ⟨rfl, IntsV_below HV.out HB1.out, HA.out.ext HB1.out⟩
  case rest =>
  clear HA HV HSPAN
  obtain ⟨rfl, hv, hA⟩ := hcut
  obtain ⟨xv, cv, rfl, _, _, _⟩ := id hv
  have HV := Lib.hid hv
  have HA := Lib.hid hA
  clear hA hv
  obtain ⟨ka, na, sa, ya, la, da, a0, a1, a2, a3, Ja⟩ := Lies_cells HA.out.1.1.1.1
  obtain ⟨kb, nb, sb, yb, lb2, db, b0, b1, b2, b3, Jb⟩ := Lies_cells HA.out.1.1.1.2.1
  obtain ⟨kc, nc, sc, yc, lc, dc, c0, c1, c2, c3, Jc⟩ := Lies_cells HA.out.1.1.1.2.2.1
  obtain ⟨kd, nd, sd, yd, ld, dd, d0, d1, d2, d3, Jd⟩ := Lies_cells HA.out.1.1.2
  obtain ⟨ke, ne, se, ye, le, de, e0, e1, e2, e3, Je⟩ := Lies_cells HA.out.2
  have HS : Hid (∀ W, Ext wc W → W.cell? ⟨pa, 0, none⟩ = some (.int .i64 ka) ∧ W.cell? ⟨pa, 1, none⟩ = some (.string na) ∧ W.cell? ⟨pa, 2, none⟩ = some (.int .i64 sa) ∧ W.cell? ⟨pa, 3, none⟩ = some (.slice ya la da) ∧ W.cell? ⟨pb, 0, none⟩ = some (.int .i64 kb) ∧ W.cell? ⟨pb, 1, none⟩ = some (.string nb) ∧ W.cell? ⟨pb, 2, none⟩ = some (.int .i64 sb) ∧ W.cell? ⟨pb, 3, none⟩ = some (.slice yb lb2 db) ∧ W.cell? ⟨pc, 0, none⟩ = some (.int .i64 kc) ∧ W.cell? ⟨pc, 1, none⟩ = some (.string nc) ∧ W.cell? ⟨pc, 2, none⟩ = some (.int .i64 sc) ∧ W.cell? ⟨pc, 3, none⟩ = some (.slice yc lc dc)) := fun W h => ⟨keep_below h _ _ a0, keep_below h _ _ a1, keep_below h _ _ a2, keep_below h _ _ a3, keep_below h _ _ b0, keep_below h _ _ b1, keep_below h _ _ b2, keep_below h _ _ b3, keep_below h _ _ c0, keep_below h _ _ c1, keep_below h _ _ c2, keep_below h _ _ c3⟩
  have HSAME : Hid (Calls Tryd.prog 13 #[.agg #[.int .i64 ke, .string ne, .int .i64 se, .slice ye le de], .agg #[.int .i64 kd, .string nd, .int .i64 sd, .slice yd ld dd]] wc fun e w' => e = .returned (.bool true) ∧ Below wc.heap.size wc w') := by
    show Calls _ _ _ _ _
    have h := same_any (qX [qA, qC]) (qX [qA, qC]) _ _ _ _ _ _ _ _ wc (by rw [show size (qX [qA, qC]) = 3 by kernel_rfl]; omega) (by rw [show size (qX [qA, qC]) = 3 by kernel_rfl]; omega) Je Jd
    rw [cmpT_self] at h
    exact h
  have HEQ : Hid (∀ W H, Ext wc W → W.heap.size = H → Calls Tryd.prog 23 #[.slice xv 2 cv, .slice (some ⟨H, 0, none⟩) 2 2] (W.alloc (.cells #[.int .i64 0, .int .i64 1] 3)) fun e w' => e = .returned (.bool true) ∧ Below W.heap.size W w') := by
    show ∀ _, _
    intro W H x hH
    have hc := cells_new_at W #[.int .i64 0, .int .i64 1] 3 H hH
    have h2 : IntsV (W.alloc (.cells #[.int .i64 0, .int .i64 1] 3)) (.slice (some ⟨H, 0, none⟩) 2 2) [0, 1] := ⟨_, 2, rfl, by simp [maxLen], fun y hy => by simp only [List.mem_cons, List.not_mem_nil, or_false] at hy; omega, fun _ => ⟨H, 0, rfl, fun i hi => by
      match i, hi with
      | 0, _ => exact hc 0 _ rfl
      | 1, _ => exact hc 1 _ rfl⟩⟩
    refine (equalz_any [0, 1] [0, 1] _ _ (W.alloc (.cells #[.int .i64 0, .int .i64 1] 3)) (IntsV_below HV.out (x.alloc _)) h2 (by simp) (by simp)).mono fun e w' h => ?_
    obtain ⟨he, hB⟩ := h
    rw [show (([0, 1] : List Int) == [0, 1]) = true by decide] at he
    exact ⟨he, ((Ext.refl W).alloc _).trans hB⟩
  have HCR : Hid (∀ W H, Ext wc W → W.heap.size = H → Calls Tryd.prog 24 #[.slice (some ⟨lb, 0, none⟩) 2 2, .agg #[.int .i64 ka, .string na, .int .i64 sa, .slice ya la da], .slice (some ⟨H, 0, none⟩) 3 3] (W.alloc (.cells #[.int .i64 ka, .string na, .int .i64 sa, .slice ya la da, .int .i64 kb, .string nb, .int .i64 sb, .slice yb lb2 db, .int .i64 kc, .string nc, .int .i64 sc, .slice yc lc dc] 24)) fun e w' => e = .returned (.bool true) ∧ Below W.heap.size W w') := by
    show ∀ _, _
    intro W H x hH
    have hr := Row_three_at H hH (Is_below Ja x) (Is_below Jb x) (Is_below Jc x) 24
    have h := CheckRefute_any qL qA [qA, qB, qC] (some ⟨lb, 0, none⟩) (some ⟨H, 0, none⟩) 2 3 (.int .i64 ka) (.string na) (.int .i64 sa) (.slice ya la da) (W.alloc (.cells #[.int .i64 ka, .string na, .int .i64 sa, .slice ya la da, .int .i64 kb, .string nb, .int .i64 sb, .slice yb lb2 db, .int .i64 kc, .string nc, .int .i64 sc, .slice yc lc dc] 24)) (by decide) (fun u hu => by have := size_le_sizes hu; rw [show sizes qL = 6 by kernel_rfl] at this; omega) (by rw [show size qA = 1 by kernel_rfl]; omega) (by decide) (by decide) (fun u hu => by have := size_le_sizes hu; rw [show sizes [qA, qB, qC] = 3 by kernel_rfl] at this; omega) (Row_below HA.out.1.2 (x.alloc _)) (Is_below Ja (x.alloc _)) hr
    rw [ex_sep] at h
    exact h.mono fun e w' h => ⟨h.1, ((Ext.refl W).alloc _).trans h.2⟩
  have HXW := Lib.hid HA.out.1.1.1.2.2.2
  clear Ja Jb Jc Jd Je
  go_wp2_with (first
    | (go_at_call 13; refine (HSAME.out).mono ?_; rintro e w1 ⟨he, hB⟩; subst he; have HB1 : Hid (Ext wc w1) := Lib.hid hB; obtain ⟨f0, f1, f2, f3, g0, g1, g2, g3, j0, j1, j2, j3⟩ := HS.out _ hB; clear hB a0 a1 a2 a3 b0 b1 b2 b3 c0 c1 c2 c3 d0 d1 d2 d3 e0 e1 e2 e3)
    | (go_at_call 23; refine (HEQ.out _ _ HB1.out rfl).mono ?_; rintro e w2 ⟨he, hB⟩; subst he; have HB2 : Hid (Ext wc w2) := Lib.hid (HB1.out.trans hB); clear f0 f1 f2 f3 g0 g1 g2 g3 j0 j1 j2 j3; obtain ⟨f0, f1, f2, f3, g0, g1, g2, g3, j0, j1, j2, j3⟩ := HS.out _ HB2.out; clear hB)
    | (go_at_call 24; refine (HCR.out _ _ HB2.out rfl).mono ?_; rintro e w3 ⟨he, hB⟩; subst he; have HB3 : Hid (Ext w w3) := Lib.hid (HXW.out.trans (HB2.out.trans hB)); clear hB))
  go_ret
  exact ⟨rfl, HB3.out⟩
end Go.Proofs.YtfbomoginjknlaaDoor
