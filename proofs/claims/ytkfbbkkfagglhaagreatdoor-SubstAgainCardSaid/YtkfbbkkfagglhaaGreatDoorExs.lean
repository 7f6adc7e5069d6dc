/-
  THE CHAPTER's EXAMPLES of layer 2, as terms, and the calls on them.
-/
import Derived.Test.YtkfbbkkfagglhaaGreatDoorSortB
import Derived.Test.YtkfbbkkfagglhaaGreatDoorSformat
import Derived.Test.YtkfbbkkfagglhaaGreatDoorBval
import Derived.Test.YtkfbbkkfagglhaaGreatDoorRef
import Derived.Deep.RegionHeld3
import Derived.Deep.DeepCutAuto
namespace Go.Proofs.YtkfbbkkfagglhaaGreatDoor
open Go.RowKit Go.Lib

def eA : Tm := .mk 2 ⟨#[97]⟩ 0 []
def eB : Tm := .mk 2 ⟨#[98]⟩ 0 []
def eX : Tm := .mk 1 ⟨#[120]⟩ 0 []
def eY : Tm := .mk 1 ⟨#[121]⟩ 0 []
def eN : Tm := .mk 1 ⟨#[110]⟩ 2 []
def eFya : Tm := .mk 3 ⟨#[102]⟩ 0 [eY, eA]
def eGx : Tm := .mk 3 ⟨#[103]⟩ 0 [eX]
def eGF : Tm := .mk 3 ⟨#[103]⟩ 0 [eFya]
def eFba : Tm := .mk 3 ⟨#[102]⟩ 0 [eB, eA]
def eText : ByteArray := ⟨#[123, 63, 120, 32, 61, 32, 102, 40, 63, 121, 44, 32, 97, 58, 97, 110, 121, 41, 125]⟩

theorem ev1 : validB [(eX, eFya)] = 0 := by kernel_rfl
theorem ev2 : validB [(eY, eB)] = 0 := by kernel_rfl
theorem ev3 : validB [(eX, eY)] = 0 := by kernel_rfl
theorem ev4 : validB [(eY, eX)] = 0 := by kernel_rfl
theorem ev5 : validB [(eN, eA)] = 10 := by kernel_rfl
theorem ev6 : validB [(eX, eX)] = 1 := by kernel_rfl
theorem eAp : applyV [(eX, eFya)] eGx = (eGF, 0) := by kernel_rfl
theorem eFo1 : (folP [(eY, eB)] [(eX, eFya)]).2 = 0 := by kernel_rfl
theorem eFo2 : (folP [(eY, eX)] [(eX, eY)]).2 = 0 := by kernel_rfl
theorem eCo1 : comR [(eX, eFya)] [(eY, eB)] = [(eX, eFba), (eY, eB)] := by kernel_rfl
theorem eCo2 : comR [(eX, eY)] [(eY, eX)] = [(eY, eX)] := by kernel_rfl
theorem eFs : formS [(eX, eFya)] = (eText, 0) := by kernel_rfl

theorem sz1 {v t : Tm} (hv : size v ≤ 1073741824) (ht : size t ≤ 1073741824) : SzB 1073741824 [(v, t)] := by
  intro b hb
  rw [List.mem_singleton] at hb
  subst hb
  exact ⟨hv, ht⟩
theorem RbOk_one {v t : Tm} {b : Nat} {w : World} (hv : size v ≤ 1073741824) (ht : size t ≤ 1073741824) (h0 : validB [(v, t)] = 0) (hR : Row w [v, t] (some ⟨b, 0, none⟩)) : RbOk [(v, t)] (some ⟨b, 0, none⟩) 1 w :=
  ⟨hR, by simp, by simp, sz1 hv ht, (validB_ok h0).2.2⟩
set_option maxHeartbeats 400000 in
theorem var_any (n : ByteArray) (s : Int) (w : World) :
    Calls Tryz.prog 47 #[.string n, .int .i64 s] w fun e w' => e = .returned (.agg #[.int .i64 1, .string n, .int .i64 s, .slice none 0 0]) ∧ Below w.heap.size w w' := by
  go_enter Tryz.func47, Tryz.ntmps47
  go_wp2_with fail
  exact bodyPost_ret (v := .agg #[.int .i64 1, .string n, .int .i64 s, .slice none 0 0]) (by simp [results, Tryz.results47, go_sem]) rfl ⟨rfl, (Below.refl _ _).alloc (Nat.le_refl _) _⟩
theorem Is_leaf (w : World) (k : Int) (n : ByteArray) (s : Int) (hn : n.size ≤ maxLen) (hk : -9223372036854775808 ≤ k ∧ k ≤ 9223372036854775807) (hs : -9223372036854775808 ≤ s ∧ s ≤ 9223372036854775807) : Is w (.mk k n s []) (.int .i64 k) (.string n) (.int .i64 s) (.slice none 0 0) := by
  simp only [Is]
  exact ⟨trivial, trivial, trivial, hk, hs, hn, by simp, none, 0, rfl, by simp, by simp [Row]⟩
theorem app2 (n : ByteArray) (t u : Tm) (kb : Nat) (W : World) (hn : n.size ≤ maxLen) (hR : Row W [t, u] (some ⟨kb, 0, none⟩)) :
    Calls Tryz.prog 48 #[.string n, .slice (some ⟨kb, 0, none⟩) 2 2] W (AppPost W n [t, u]) :=
  app_any n [t, u] kb 0 2 W hn (by simp) (by simp) hR
theorem app1 (n : ByteArray) (t : Tm) (kb : Nat) (W : World) (hn : n.size ≤ maxLen) (hR : Row W [t] (some ⟨kb, 0, none⟩)) :
    Calls Tryz.prog 48 #[.string n, .slice (some ⟨kb, 0, none⟩) 1 1] W (AppPost W n [t]) :=
  app_any n [t] kb 0 1 W hn (by simp) (by simp) hR
theorem Row_four_at {w : World} {t u v x : Tm} {a0 a1 a2 a3 b0 b1 b2 b3 c0 c1 c2 c3 d0 d1 d2 d3 : Value} (H : Nat) (hH : w.heap.size = H) (h : Is w t a0 a1 a2 a3) (k : Is w u b0 b1 b2 b3) (l : Is w v c0 c1 c2 c3) (m : Is w x d0 d1 d2 d3) (T : TypeId) :
    Row (w.alloc (.cells #[a0, a1, a2, a3, b0, b1, b2, b3, c0, c1, c2, c3, d0, d1, d2, d3] T)) [t, u, v, x] (some ⟨H, 0, none⟩) := by
  have c := cells_new_at w #[a0, a1, a2, a3, b0, b1, b2, b3, c0, c1, c2, c3, d0, d1, d2, d3] T H hH
  exact Row_cons_mk ⟨a0, a1, a2, a3, c 0 _ rfl, c 1 _ rfl, c 2 _ rfl, c 3 _ rfl, Is_alloc h _⟩ (Row_cons_mk ⟨b0, b1, b2, b3, c 4 _ rfl, c 5 _ rfl, c 6 _ rfl, c 7 _ rfl, Is_alloc k _⟩ (Row_cons_mk ⟨c0, c1, c2, c3, c 8 _ rfl, c 9 _ rfl, c 10 _ rfl, c 11 _ rfl, Is_alloc l _⟩ (Row_cons_mk ⟨d0, d1, d2, d3, c 12 _ rfl, c 13 _ rfl, c 14 _ rfl, c 15 _ rfl, Is_alloc m _⟩ (by simp [Row]))))
/-- The example of Apply. -/
theorem ex_apply (b : Nat) (c0 c1 c2 c3 : Value) (W : World) (hR : Row W [eX, eFya] (some ⟨b, 0, none⟩)) (hI : Is W eGx c0 c1 c2 c3) :
    Calls Tryz.prog 49 #[.slice (some ⟨b, 0, none⟩) 1 1, .agg #[c0, c1, c2, c3]] W fun e w' => ∃ (k : Int) (n : ByteArray) (s : Int) (xa : Option Addr) (l c : Nat), e = .returned (.tuple #[.agg #[.int .i64 k, .string n, .int .i64 s, .slice xa l c], .int .i64 0]) ∧ Is w' eGF (.int .i64 k) (.string n) (.int .i64 s) (.slice xa l c) ∧ Below W.heap.size W w' := by
  refine (sApply_any [(eX, eFya)] _ 1 3 eGx c0 c1 c2 c3 W (by simp) (by simp) (sz1 (by simp [eX, size, sizes]) (by simp [eFya, eY, eA, size, sizes])) hR (by simp [eFya, eY, eA, size, sizes]) (by omega) (by simp [eGx, eX, size, sizes]) hI).mono ?_
  rw [eAp]
  rintro e w' ⟨d0, d1, d2, d3, he, hJ, hB⟩
  have hJ' := IsIn_Is _ _ _ _ _ hJ
  obtain ⟨k, n, s, xa, l, c, rfl, rfl, rfl, rfl⟩ := Is_form hJ'
  exact ⟨k, n, s, xa, l, c, he, hJ', hB⟩
/-- The first example of Compose. -/
theorem ex_compose1 (b d : Nat) (W : World) (hR : Row W [eX, eFya] (some ⟨b, 0, none⟩)) (hR2 : Row W [eY, eB] (some ⟨d, 0, none⟩)) :
    Calls Tryz.prog 50 #[.slice (some ⟨b, 0, none⟩) 1 1, .slice (some ⟨d, 0, none⟩) 1 1] W fun e w' => ∃ xa cap, e = .returned (.tuple #[.slice xa 2 cap, .int .i64 0]) ∧ 2 ≤ cap ∧ Row w' [eX, eFba, eY, eB] xa ∧ Below W.heap.size W w' := by
  refine (scompose_good [(eX, eFya)] [(eY, eB)] _ _ 1 1 1 W (RbOk_one (by simp [eX, size, sizes]) (by simp [eFya, eY, eA, size, sizes]) ev1 hR) (RbOk_one (by simp [eY, size, sizes]) (by simp [eB, size, sizes]) ev2 hR2) ev1 ev2 (by simp [eB, size, sizes]) (by omega) (by simp [eFya, eY, eA, size, sizes]) eFo1).mono ?_
  rw [eCo1]
  rintro e w' ⟨hB, h⟩
  rw [if_neg (by simp)] at h
  obtain ⟨kv, he, hA⟩ := h
  obtain ⟨xa, cap, rfl, h1, _, h3⟩ := BdsAt_row hA
  exact ⟨xa, cap, he, h1, h3, hB⟩
/-- The second one. -/
theorem ex_compose2 (b d : Nat) (W : World) (hR : Row W [eX, eY] (some ⟨b, 0, none⟩)) (hR2 : Row W [eY, eX] (some ⟨d, 0, none⟩)) :
    Calls Tryz.prog 50 #[.slice (some ⟨b, 0, none⟩) 1 1, .slice (some ⟨d, 0, none⟩) 1 1] W fun e w' => ∃ xa cap, e = .returned (.tuple #[.slice xa 1 cap, .int .i64 0]) ∧ 1 ≤ cap ∧ Row w' [eY, eX] xa ∧ Below W.heap.size W w' := by
  refine (scompose_good [(eX, eY)] [(eY, eX)] _ _ 1 1 1 W (RbOk_one (by simp [eX, size, sizes]) (by simp [eY, size, sizes]) ev3 hR) (RbOk_one (by simp [eY, size, sizes]) (by simp [eX, size, sizes]) ev4 hR2) ev3 ev4 (by simp [eX, size, sizes]) (by omega) (by simp [eY, size, sizes]) eFo2).mono ?_
  rw [eCo2]
  rintro e w' ⟨hB, h⟩
  rw [if_neg (by simp)] at h
  obtain ⟨kv, he, hA⟩ := h
  obtain ⟨xa, cap, rfl, h1, _, h3⟩ := BdsAt_row hA
  exact ⟨xa, cap, he, h1, h3, hB⟩
/-- The example of Format. -/
theorem ex_format (b : Nat) (W : World) (hL : Laid W) (hR : Row W [eX, eFya] (some ⟨b, 0, none⟩)) :
    Calls Tryz.prog 51 #[.slice (some ⟨b, 0, none⟩) 1 1] W fun e w' => e = .returned (.tuple #[.string eText, .int .i64 0]) ∧ Below W.heap.size W w' := by
  have h := sFormat_any [(eX, eFya)] (some ⟨b, 0, none⟩) 1 W (by simp) (by simp) (sz1 (by simp [eX, size, sizes]) (by simp [eFya, eY, eA, size, sizes])) hR hL
  rw [eFs] at h
  exact h
theorem ex_valid {v t : Tm} (b : Nat) (W : World) (hv : size v ≤ 1073741824) (ht : size t ≤ 1073741824) (E : Int) (hE : validB [(v, t)] = E) (hR : Row W [v, t] (some ⟨b, 0, none⟩)) :
    Calls Tryz.prog 52 #[.slice (some ⟨b, 0, none⟩) 1 1] W fun e w' => e = .returned (.int .i64 E) ∧ Below W.heap.size W w' := by
  have h := bvalid_any [(v, t)] (some ⟨b, 0, none⟩) 1 W (by simp) (by simp [maxLen]) (sz1 hv ht) hR
  rw [hE] at h
  exact h
theorem ex_same1 (xa : Option Addr) (cap d : Nat) (W : World) (hc : 1 ≤ cap) (hR : Row W [eY, eX] xa) (hR2 : Row W [eY, eX] (some ⟨d, 0, none⟩)) :
    Calls Tryz.prog 18 #[.slice xa 1 cap, .slice (some ⟨d, 0, none⟩) 1 1] W fun e w' => e = .returned (.bool true) ∧ Below W.heap.size W w' :=
  bsame_eq [(eY, eX)] xa _ cap 1 W hc (by simp) (by simp [maxLen]) (sz1 (by simp [eY, size, sizes]) (by simp [eX, size, sizes])) hR hR2
theorem ex_same2 (xa : Option Addr) (cap d : Nat) (W : World) (hc : 2 ≤ cap) (hR : Row W [eX, eFba, eY, eB] xa) (hR2 : Row W [eX, eFba, eY, eB] (some ⟨d, 0, none⟩)) :
    Calls Tryz.prog 18 #[.slice xa 2 cap, .slice (some ⟨d, 0, none⟩) 2 2] W fun e w' => e = .returned (.bool true) ∧ Below W.heap.size W w' := by
  refine bsame_eq [(eX, eFba), (eY, eB)] xa _ cap 2 W hc (by simp) (by simp [maxLen]) ?_ hR hR2
  intro b hb
  simp only [List.mem_cons, List.not_mem_nil, or_false] at hb
  rcases hb with rfl | rfl <;> simp [eX, eFba, eY, eB, eA, size, sizes]
theorem ex_tsame (c0 c1 c2 c3 d0 d1 d2 d3 : Value) (W : World) (hI : Is W eGF c0 c1 c2 c3) (hJ : Is W eGF d0 d1 d2 d3) :
    Calls Tryz.prog 27 #[.agg #[c0, c1, c2, c3], .agg #[d0, d1, d2, d3]] W fun e w' => e = .returned (.bool true) ∧ Below W.heap.size W w' := by
  have h := same_any eGF eGF c0 c1 c2 c3 d0 d1 d2 d3 W (by simp [eGF, eFya, eY, eA, size, sizes]) (by simp [eGF, eFya, eY, eA, size, sizes]) hI hJ
  rw [cmpT_self] at h
  exact h

end Go.Proofs.YtkfbbkkfagglhaaGreatDoor

/-
  THE WALK OF layer 2's examples (awake).
-/
namespace Go.Proofs.YtkfbbkkfagglhaaGreatDoor
open Go.RowKit Go.Lib

/-- The four leaves lie in boxes. -/
def Aw0 (w : World) (pa pb : Nat) (W : World) : Prop := Lies W eA pa 0 ∧ Lies W eB pb 0 ∧ Ext w W
def Aw1 (w : World) (pa pb px py : Nat) (W : World) : Prop := Aw0 w pa pb W ∧ Lies W eX px 0 ∧ Lies W eY py 0
def Aw2 (w : World) (pa pb px py b5 : Nat) (W : World) : Prop := Aw1 w pa pb px py W ∧ Row W [eX, eFya] (some ⟨b5, 0, none⟩)
theorem Aw0.ext {w W V : World} {pa pb : Nat} (h : Aw0 w pa pb W) (x : Ext W V) : Aw0 w pa pb V := ⟨Lies_below h.1 x, Lies_below h.2.1 x, h.2.2.trans x⟩
theorem Aw1.ext {w W V : World} {pa pb px py : Nat} (h : Aw1 w pa pb px py W) (x : Ext W V) : Aw1 w pa pb px py V := ⟨h.1.ext x, Lies_below h.2.1 x, Lies_below h.2.2 x⟩
theorem Aw2.ext {w W V : World} {pa pb px py b5 : Nat} (h : Aw2 w pa pb px py b5 W) (x : Ext W V) : Aw2 w pa pb px py b5 V := ⟨h.1.ext x, Row_below h.2 x⟩
/-- What the calls ahead of the test leave. -/
def Aw7 (w : World) (pa pb px py b5 p6 : Nat) (x8 : Option Addr) (c8 : Nat) (x10 : Option Addr) (c10 : Nat) (W : World) : Prop :=
  Aw2 w pa pb px py b5 W ∧ Lies W eGF p6 0 ∧ 2 ≤ c8 ∧ Row W [eX, eFba, eY, eB] x8 ∧ 1 ≤ c10 ∧ Row W [eY, eX] x10
theorem Aw7.ext {w W V : World} {pa pb px py b5 p6 : Nat} {x8 : Option Addr} {c8 : Nat} {x10 : Option Addr} {c10 : Nat} (h : Aw7 w pa pb px py b5 p6 x8 c8 x10 c10 W) (x : Ext W V) : Aw7 w pa pb px py b5 p6 x8 c8 x10 c10 V :=
  ⟨h.1.ext x, Lies_below h.2.1 x, h.2.2.1, Row_below h.2.2.2.1 x, h.2.2.2.2.1, Row_below h.2.2.2.2.2 x⟩

theorem eTextL : eText.toList = [123, 63, 120, 32, 61, 32, 102, 40, 63, 121, 44, 32, 97, 58, 97, 110, 121, 41, 125] := by kernel_rfl
set_option maxHeartbeats 3200000 in
set_option maxRecDepth 100000 in
theorem awake2_any (w : World) (hL : Laid w) :
    Calls Tryz.prog 12 #[] w fun e w' => e = .returned (.bool true) ∧ Below w.heap.size w w' := by
  have HL := Lib.hid hL
  clear hL
  go_enter Tryz.func12, Tryz.ntmps12
  go_upto_region 1 with (fail)
  go_cut [1, 2] (fun t1 t2 wc => ∃ pa pb, t1 = .pointer (some ⟨pa, 0, none⟩) ∧ t2 = .pointer (some ⟨pb, 0, none⟩) ∧ Aw0 w pa pb wc)
  case first =>
    go_wp2_with (first
      | (go_at_call_of 46 (Value.string ⟨#[97]⟩); refine (atom_any _ _ _).mono ?_; rintro e w1 ⟨he, hB⟩; subst he; have H1 := Lib.hid hB; clear hB)
      | (go_at_call_of 46 (Value.string ⟨#[98]⟩); refine (atom_any _ _ _).mono ?_; rintro e w2 ⟨he, hB⟩; subst he; have H2 := Lib.hid hB; clear hB))
    go_meet
    have L1 := Lies_box (Is_leaf w2 2 ⟨#[97]⟩ 0 (by decide) (by omega) (by omega)) 36
    have L2 := Lies_box (Is_leaf (w2.alloc (.cells #[.int .i64 2, .string ⟨#[97]⟩, .int .i64 0, .slice none 0 0] 36)) 2 ⟨#[98]⟩ 0 (by decide) (by omega) (by omega)) 36
    rw [World.size_alloc] at L2
    exact ⟨w2.heap.size, w2.heap.size + 1, rfl, rfl, Lies_below L1 ((Ext.refl _).alloc _), L2, ((Ext.trans (a := w) H1.out H2.out).alloc _).alloc _⟩
  case rest =>
  obtain ⟨pa, pb, rfl, rfl, hA⟩ := hcut
  have HA := Lib.hid hA
  clear hA
  go_upto_region 2 with (fail)
  go_cut [3, 4] (fun t3 t4 wd => ∃ px py, t3 = .pointer (some ⟨px, 0, none⟩) ∧ t4 = .pointer (some ⟨py, 0, none⟩) ∧ Aw1 w pa pb px py wd)
  case first =>
    go_wp2_with (first
      | (go_at_call_of 47 (Value.string ⟨#[120]⟩); refine (var_any _ _ _).mono ?_; rintro e w1 ⟨he, hB⟩; subst he; have H1 := Lib.hid hB; clear hB)
      | (go_at_call_of 47 (Value.string ⟨#[121]⟩); refine (var_any _ _ _).mono ?_; rintro e w2 ⟨he, hB⟩; subst he; have H2 := Lib.hid hB; clear hB))
    go_meet
    have L1 := Lies_box (Is_leaf w2 1 ⟨#[120]⟩ 0 (by decide) (by omega) (by omega)) 36
    have L2 := Lies_box (Is_leaf (w2.alloc (.cells #[.int .i64 1, .string ⟨#[120]⟩, .int .i64 0, .slice none 0 0] 36)) 1 ⟨#[121]⟩ 0 (by decide) (by omega) (by omega)) 36
    rw [World.size_alloc] at L2
    exact ⟨w2.heap.size, w2.heap.size + 1, rfl, rfl, HA.out.ext (((Ext.trans (a := wc) H1.out H2.out).alloc _).alloc _), Lies_below L1 ((Ext.refl _).alloc _), L2⟩
  case rest =>
  clear HA
  obtain ⟨px, py, rfl, rfl, hA⟩ := hcut
  have HA := Lib.hid hA
  clear hA
  go_upto_region 3 with (fail)
  go_cut [5] (fun t5 wd => ∃ b5, t5 = .slice (some ⟨b5, 0, none⟩) 1 1 ∧ Aw2 w pa pb px py b5 wd)
  case first =>
    obtain ⟨kx, nx, sx, yx, lx, dx, x0, x1, x2, x3, Jx⟩ := Lies_cells HA.out.2.1
    obtain ⟨ky, ny, sy, yy, ly, dy, y0, y1, y2, y3, Jy⟩ := Lies_cells HA.out.2.2
    obtain ⟨ka, na, sa, ya, la, da, a0, a1, a2, a3, Ja⟩ := Lies_cells HA.out.1.1
    have HS := Lib.hid (fun (W : World) (h : Ext wc W) => And.intro (keep_below h _ _ x0) (And.intro (keep_below h _ _ x1) (And.intro (keep_below h _ _ x2) (And.intro (keep_below h _ _ x3) (And.intro (keep_below h _ _ y0) (And.intro (keep_below h _ _ y1) (And.intro (keep_below h _ _ y2) (And.intro (keep_below h _ _ y3) (And.intro (keep_below h _ _ a0) (And.intro (keep_below h _ _ a1) (And.intro (keep_below h _ _ a2) (keep_below h _ _ a3))))))))))))
    have Ix := Lib.hid Jx
    have Iy := Lib.hid Jy
    have Ia := Lib.hid Ja
    have hE0 : Ext wc wc.drew := (Ext.refl wc).drew
    clear Jx Jy Ja
    go_region_held3 (fun W => W.cell? ⟨px, 0, none⟩ = some (.int .i64 kx) ∧ W.cell? ⟨px, 1, none⟩ = some (.string nx) ∧ W.cell? ⟨px, 2, none⟩ = some (.int .i64 sx) ∧ W.cell? ⟨px, 3, none⟩ = some (.slice yx lx dx) ∧ W.cell? ⟨py, 0, none⟩ = some (.int .i64 ky) ∧ W.cell? ⟨py, 1, none⟩ = some (.string ny) ∧ W.cell? ⟨py, 2, none⟩ = some (.int .i64 sy) ∧ W.cell? ⟨py, 3, none⟩ = some (.slice yy ly dy) ∧ W.cell? ⟨pa, 0, none⟩ = some (.int .i64 ka) ∧ W.cell? ⟨pa, 1, none⟩ = some (.string na) ∧ W.cell? ⟨pa, 2, none⟩ = some (.int .i64 sa) ∧ W.cell? ⟨pa, 3, none⟩ = some (.slice ya la da))
      (first | exact HS.out _ (by assumption) | exact HS.out _ (Ext.alloc (by assumption) _) | go_keep)
      (first
        | (go_at_call 48; refine (app2 ⟨#[102]⟩ eY eA _ _ (by decide) (Row_two_at _ (by simp) (Is_below Iy.out hE0) (Is_below Ia.out hE0) 36)).mono ?_; rintro e w1 ⟨⟨kv, he, hI⟩, hB⟩; subst he; obtain ⟨_, _, _, x5, l5, c5, _, _, _, e3⟩ := Is_form hI; subst e3; have hE1 : Ext wc w1 := (hE0.alloc _).trans hB; have HI := Lib.hid hI; clear hI hB))
    all_goals (go_wp2_with fail)
    all_goals go_meet
    all_goals exact ⟨w1.heap.size, rfl, HA.out.ext (hE1.alloc _), Row_two_at _ rfl (Is_below Ix.out hE1) HI.out _⟩
  case rest =>
  clear HA
  obtain ⟨b5, rfl, hA⟩ := hcut
  have HA := Lib.hid hA
  clear hA
  obtain ⟨kx, nx, sx, yx, lx, dx, x0, x1, x2, x3, Jx⟩ := Lies_cells HA.out.1.2.1
  obtain ⟨ky, ny, sy, yy, ly, dy, y0, y1, y2, y3, Jy⟩ := Lies_cells HA.out.1.2.2
  obtain ⟨kb, nb, sb, yb, lb, db, z0, z1, z2, z3, Jb⟩ := Lies_cells HA.out.1.1.2.1
  have HS := Lib.hid (fun (W : World) (h : Ext wc W) => And.intro (And.intro (keep_below h _ _ x0) (And.intro (keep_below h _ _ x1) (And.intro (keep_below h _ _ x2) (keep_below h _ _ x3)))) (And.intro (And.intro (keep_below h _ _ y0) (And.intro (keep_below h _ _ y1) (And.intro (keep_below h _ _ y2) (keep_below h _ _ y3)))) (And.intro (keep_below h _ _ z0) (And.intro (keep_below h _ _ z1) (And.intro (keep_below h _ _ z2) (keep_below h _ _ z3))))))
  have Ix := Lib.hid (fun (W : World) (h : Ext wc W) => Is_below Jx h)
  have Iy := Lib.hid (fun (W : World) (h : Ext wc W) => Is_below Jy h)
  have Ib := Lib.hid (fun (W : World) (h : Ext wc W) => Is_below Jb h)
  have R5 := Lib.hid (fun (W : World) (h : Ext wc W) => Row_below HA.out.2 h)
  have tok1 : True := trivial
  clear Jx Jy Jb
  go_upto_region 7 with (first
    | (go_at_call 48; refine (app1 ⟨#[103]⟩ eX _ _ (by decide) (Row_one_at _ (by simp) (Ix.out _ (Ext.refl wc)) 36)).mono ?_; rintro e w1 ⟨⟨kv, he, hI⟩, hB⟩; subst he; obtain ⟨_, _, _, x5, l5, c5, _, _, _, e3⟩ := Is_form hI; subst e3; have HE1 := Lib.hid (Ext.trans (Ext.alloc (Ext.refl wc) _) hB); have HI1 := Lib.hid hI; clear hI hB)
    | (go_at_call 49; refine (ex_apply b5 _ _ _ _ _ (R5.out _ HE1.out) HI1.out).mono ?_; rintro e w2 ⟨k6, n6, s6, y6, l6, c6, he, hI, hB⟩; subst he; have HE2 := Lib.hid (Ext.trans HE1.out hB); have HI2 := Lib.hid hI; have HE2a := Lib.hid (Ext.alloc HE2.out (.cells #[.int .i64 k6, .string n6, .int .i64 s6, .slice y6 l6 c6] 36)); obtain ⟨⟨x0, x1, x2, x3⟩, ⟨y0, y1, y2, y3⟩, z0, z1, z2, z3⟩ := HS.out _ HE2a.out; clear hI hB)
    | (go_at_call 50; have _t := tok1; refine (ex_compose1 b5 _ _ (R5.out _ (Ext.alloc HE2a.out _)) (Row_two_at _ (by simp) (Iy.out _ HE2a.out) (Ib.out _ HE2a.out) 53)).mono ?_; rintro e w3 ⟨x8, c8, he, h8, hR, hB⟩; subst he; have HE3 := Lib.hid (Ext.trans (Ext.alloc HE2a.out _) hB); have HB3 := Lib.hid (Ext.trans (Ext.alloc (Ext.refl (w2.alloc (.cells #[.int .i64 k6, .string n6, .int .i64 s6, .slice y6 l6 c6] 36))) _) hB); have HR3 := Lib.hid hR; have H8 := Lib.hid h8; obtain ⟨⟨x0, x1, x2, x3⟩, ⟨y0, y1, y2, y3⟩, z0, z1, z2, z3⟩ := HS.out _ HE3.out; obtain ⟨⟨x4, x5, x6, x7⟩, ⟨y4, y5, y6, y7⟩, _⟩ := HS.out _ (Ext.alloc HE3.out (.cells #[.int .i64 kx, .string nx, .int .i64 sx, .slice yx lx dx, .int .i64 ky, .string ny, .int .i64 sy, .slice yy ly dy] 53)); clear hR hB h8 tok1)
    | (go_at_call 50; have R48 := Row_two_at w3.heap.size rfl (Ix.out _ HE3.out) (Iy.out _ HE3.out) 53; refine (ex_compose2 w3.heap.size (w3.heap.size + 1) _ (Row_alloc R48 _) (Row_two_at _ (by simp) (Iy.out _ (Ext.alloc HE3.out _)) (Ix.out _ (Ext.alloc HE3.out _)) 53)).mono ?_; rintro e w4 ⟨x10, c10, he, h10, hR, hB⟩; subst he; have HE4 := Lib.hid (Ext.trans (Ext.alloc (Ext.alloc HE3.out _) _) hB); have HB4 := Lib.hid (Ext.trans (Ext.alloc (Ext.alloc (Ext.refl w3) _) _) hB); have HR4 := Lib.hid hR; have H10 := Lib.hid h10; clear hR hB h10 R48))
  go_cut [6, 7, 8, 9, 10, 11, 12, 13] (fun t6 t7 t8 t9 t10 t11 t12 t13 wd => ∃ p6 x8 c8 x10 c10 tx, t6 = .pointer (some ⟨p6, 0, none⟩) ∧ t7 = .int .i64 0 ∧ t8 = .slice x8 2 c8 ∧ t9 = .int .i64 0 ∧ t10 = .slice x10 1 c10 ∧ t11 = .int .i64 0 ∧ t12 = .string tx ∧ t13 = .int .i64 0 ∧ tx.toList = [123, 63, 120, 32, 61, 32, 102, 40, 63, 121, 44, 32, 97, 58, 97, 110, 121, 41, 125] ∧ Aw7 w pa pb px py b5 p6 x8 c8 x10 c10 wd)
  case first =>
    go_wp2_with (go_at_call 51; refine (ex_format b5 _ (Laid_ext HL.out (HA.out.1.1.2.2.trans HE4.out)) (R5.out _ HE4.out)).mono ?_; rintro e w5 ⟨he, hB⟩; subst he; have HE5 := Lib.hid (Ext.trans HE4.out hB); have HB5 := Lib.hid hB; clear hB)
    go_meet
    exact ⟨w2.heap.size, x8, c8, x10, c10, eText, rfl, rfl, rfl, rfl, rfl, rfl, rfl, rfl, eTextL, HA.out.ext HE5.out, Lies_below (Lies_box HI2.out _) (HB3.out.trans (HB4.out.trans HB5.out)), H8.out, Row_below HR3.out (HB4.out.trans HB5.out), H10.out, Row_below HR4.out HB5.out⟩
  case rest =>
  clear HA HS Ix Iy Ib R5 x0 x1 x2 x3 y0 y1 y2 y3 z0 z1 z2 z3
  obtain ⟨p6, x8, c8, x10, c10, tx, rfl, rfl, rfl, rfl, rfl, rfl, rfl, rfl, htx, hA⟩ := hcut
  have q1 : (tx.toList == [123, 63, 120, 32, 61, 32, 102, 40, 63, 121, 44, 32, 97, 58, 97, 110, 121, 41, 125]) = true := by rw [htx]; rfl
  have q2 : (tx.toList != [123, 63, 120, 32, 61, 32, 102, 40, 63, 121, 44, 32, 97, 58, 97, 110, 121, 41, 125]) = false := by rw [htx]; rfl
  clear htx
  have HA := Lib.hid hA
  clear hA
  go_upto_region 8 with (fail)
  go_cut [89] (fun t89 wd => t89 = .bool false ∧ Aw7 w pa pb px py b5 p6 x8 c8 x10 c10 wd)
  case first =>
    obtain ⟨kx, nx, sx, yx, lx, dx, x0, x1, x2, x3, Jx⟩ := Lies_cells HA.out.2.1
    obtain ⟨ky, ny, sy, yy, ly, dy, y0, y1, y2, y3, Jy⟩ := Lies_cells HA.out.1.1.2.2
    obtain ⟨ka, na, sa, ya, la, da, a0, a1, a2, a3, Ja⟩ := Lies_cells HA.out.1.1.1.1
    have HS := Lib.hid (fun (W : World) (h : Ext wc W) => And.intro (keep_below h _ _ x0) (And.intro (keep_below h _ _ x1) (And.intro (keep_below h _ _ x2) (And.intro (keep_below h _ _ x3) (And.intro (keep_below h _ _ y0) (And.intro (keep_below h _ _ y1) (And.intro (keep_below h _ _ y2) (And.intro (keep_below h _ _ y3) (And.intro (keep_below h _ _ a0) (And.intro (keep_below h _ _ a1) (And.intro (keep_below h _ _ a2) (keep_below h _ _ a3))))))))))))
    have Ix := Lib.hid Jx
    have Iy := Lib.hid Jy
    have Ia := Lib.hid Ja
    have hE0 : Ext wc wc.drew := (Ext.refl wc).drew
    have tok1 : True := trivial
    clear Jx Jy Ja
    go_region_held3 (fun W => W.cell? ⟨p6, 0, none⟩ = some (.int .i64 kx) ∧ W.cell? ⟨p6, 1, none⟩ = some (.string nx) ∧ W.cell? ⟨p6, 2, none⟩ = some (.int .i64 sx) ∧ W.cell? ⟨p6, 3, none⟩ = some (.slice yx lx dx) ∧ W.cell? ⟨py, 0, none⟩ = some (.int .i64 ky) ∧ W.cell? ⟨py, 1, none⟩ = some (.string ny) ∧ W.cell? ⟨py, 2, none⟩ = some (.int .i64 sy) ∧ W.cell? ⟨py, 3, none⟩ = some (.slice yy ly dy) ∧ W.cell? ⟨pa, 0, none⟩ = some (.int .i64 ka) ∧ W.cell? ⟨pa, 1, none⟩ = some (.string na) ∧ W.cell? ⟨pa, 2, none⟩ = some (.int .i64 sa) ∧ W.cell? ⟨pa, 3, none⟩ = some (.slice ya la da))
      (first | exact HS.out _ (by assumption) | exact HS.out _ (Ext.alloc (by assumption) _) | go_keep)
      (first
        | (go_at_call_of 48 (Value.string ⟨#[102]⟩); refine (app2 ⟨#[102]⟩ eY eA _ _ (by decide) (Row_two_at _ (by simp) (Is_below Iy.out hE0) (Is_below Ia.out hE0) 36)).mono ?_; rintro e w1 ⟨⟨kv, he, hI⟩, hB⟩; subst he; obtain ⟨_, _, _, x5, l5, c5, _, _, _, e3⟩ := Is_form hI; subst e3; have hE1 : Ext wc w1 := (hE0.alloc _).trans hB; have HI := Lib.hid hI; clear hI hB)
        | (go_at_call_of 48 (Value.string ⟨#[103]⟩); refine (app1 ⟨#[103]⟩ eFya _ _ (by decide) (Row_one_at _ (by simp) HI.out 36)).mono ?_; rintro e w2 ⟨⟨kv, he, hI⟩, hB⟩; subst he; obtain ⟨_, _, _, x7, l7, c7, _, _, _, e3⟩ := Is_form hI; subst e3; have hE2 : Ext wc w2 := (hE1.alloc _).trans hB; have HI2 := Lib.hid hI; clear hI hB)
        | (go_at_call 27; refine (ex_tsame _ _ _ _ _ _ _ _ _ (Is_below Ix.out hE2) HI2.out).mono ?_; rintro e w3 ⟨he, hB⟩; subst he; have hE3 : Ext wc w3 := hE2.trans hB; clear hB))
    all_goals (go_wp2_with fail)
    all_goals go_meet
    all_goals exact ⟨rfl, HA.out.ext hE3⟩
  case rest =>
  clear HA
  obtain ⟨rfl, hA⟩ := hcut
  have HA := Lib.hid hA
  clear hA
  go_upto_region 10 with (fail)
  go_cut [14] (fun t14 wd => ∃ b14, t14 = .slice (some ⟨b14, 0, none⟩) 2 2 ∧ Row wd [eX, eFba, eY, eB] (some ⟨b14, 0, none⟩) ∧ Aw7 w pa pb px py b5 p6 x8 c8 x10 c10 wd)
  case first =>
    obtain ⟨kx, nx, sx, yx, lx, dx, x0, x1, x2, x3, Jx⟩ := Lies_cells HA.out.1.1.2.1
    obtain ⟨ky, ny, sy, yy, ly, dy, y0, y1, y2, y3, Jy⟩ := Lies_cells HA.out.1.1.2.2
    obtain ⟨ka, na, sa, ya, la, da, a0, a1, a2, a3, Ja⟩ := Lies_cells HA.out.1.1.1.1
    obtain ⟨kb, nb, sb, yb, lb, db, z0, z1, z2, z3, Jb⟩ := Lies_cells HA.out.1.1.1.2.1
    have HS := Lib.hid (fun (W : World) (h : Ext wc W) => And.intro (keep_below h _ _ x0) (And.intro (keep_below h _ _ x1) (And.intro (keep_below h _ _ x2) (And.intro (keep_below h _ _ x3) (And.intro (keep_below h _ _ y0) (And.intro (keep_below h _ _ y1) (And.intro (keep_below h _ _ y2) (And.intro (keep_below h _ _ y3) (And.intro (keep_below h _ _ a0) (And.intro (keep_below h _ _ a1) (And.intro (keep_below h _ _ a2) (And.intro (keep_below h _ _ a3) (And.intro (keep_below h _ _ z0) (And.intro (keep_below h _ _ z1) (And.intro (keep_below h _ _ z2) (keep_below h _ _ z3))))))))))))))))
    have Ix := Lib.hid Jx
    have Iy := Lib.hid Jy
    have Ia := Lib.hid Ja
    have Ib := Lib.hid Jb
    have hE0 : Ext wc wc.drew := (Ext.refl wc).drew
    clear Jx Jy Ja Jb
    go_region_held3 (fun W => W.cell? ⟨px, 0, none⟩ = some (.int .i64 kx) ∧ W.cell? ⟨px, 1, none⟩ = some (.string nx) ∧ W.cell? ⟨px, 2, none⟩ = some (.int .i64 sx) ∧ W.cell? ⟨px, 3, none⟩ = some (.slice yx lx dx) ∧ W.cell? ⟨py, 0, none⟩ = some (.int .i64 ky) ∧ W.cell? ⟨py, 1, none⟩ = some (.string ny) ∧ W.cell? ⟨py, 2, none⟩ = some (.int .i64 sy) ∧ W.cell? ⟨py, 3, none⟩ = some (.slice yy ly dy) ∧ W.cell? ⟨pa, 0, none⟩ = some (.int .i64 ka) ∧ W.cell? ⟨pa, 1, none⟩ = some (.string na) ∧ W.cell? ⟨pa, 2, none⟩ = some (.int .i64 sa) ∧ W.cell? ⟨pa, 3, none⟩ = some (.slice ya la da) ∧ W.cell? ⟨pb, 0, none⟩ = some (.int .i64 kb) ∧ W.cell? ⟨pb, 1, none⟩ = some (.string nb) ∧ W.cell? ⟨pb, 2, none⟩ = some (.int .i64 sb) ∧ W.cell? ⟨pb, 3, none⟩ = some (.slice yb lb db))
      (first | exact HS.out _ (by assumption) | exact HS.out _ (Ext.alloc (by assumption) _) | go_keep)
      (first
        | (go_at_call 48; refine (app2 ⟨#[102]⟩ eB eA _ _ (by decide) (Row_two_at _ (by simp) (Is_below Ib.out hE0) (Is_below Ia.out hE0) 36)).mono ?_; rintro e w1 ⟨⟨kv, he, hI⟩, hB⟩; subst he; obtain ⟨_, _, _, x5, l5, c5, _, _, _, e3⟩ := Is_form hI; subst e3; have hE1 : Ext wc w1 := (hE0.alloc _).trans hB; have HI := Lib.hid hI; clear hI hB))
    all_goals (go_wp2_with fail)
    all_goals go_meet
    all_goals exact ⟨w1.heap.size, rfl, Row_four_at _ rfl (Is_below Ix.out hE1) HI.out (Is_below Iy.out hE1) (Is_below Ib.out hE1) _, HA.out.ext (hE1.alloc _)⟩
  case rest =>
  clear HA
  obtain ⟨b14, rfl, hR, hA⟩ := hcut
  obtain ⟨kx, nx, sx, yx, lx, dx, x0, x1, x2, x3, Jx⟩ := Lies_cells hA.1.1.2.1
  obtain ⟨ky, ny, sy, yy, ly, dy, y0, y1, y2, y3, Jy⟩ := Lies_cells hA.1.1.2.2
  obtain ⟨ka, na, sa, ya, la, da, a0, a1, a2, a3, Ja⟩ := Lies_cells hA.1.1.1.1
  have HS := Lib.hid (fun (W : World) (h : Ext wc W) => And.intro (And.intro (keep_below h _ _ x0) (And.intro (keep_below h _ _ x1) (And.intro (keep_below h _ _ x2) (keep_below h _ _ x3)))) (And.intro (And.intro (keep_below h _ _ y0) (And.intro (keep_below h _ _ y1) (And.intro (keep_below h _ _ y2) (keep_below h _ _ y3)))) (And.intro (keep_below h _ _ a0) (And.intro (keep_below h _ _ a1) (And.intro (keep_below h _ _ a2) (keep_below h _ _ a3))))))
  have Ix := Lib.hid (fun (W : World) (h : Ext wc W) => Is_below Jx h)
  have Iy := Lib.hid (fun (W : World) (h : Ext wc W) => Is_below Jy h)
  have Ia := Lib.hid (fun (W : World) (h : Ext wc W) => Is_below Ja h)
  have HR := Lib.hid hR
  have HA := Lib.hid hA
  have tok1 : True := trivial
  have tok2 : True := trivial
  clear hA hR Jx Jy Ja
  go_wp2_with (first
    | (go_at_call 47; refine (var_any _ _ _).mono ?_; rintro e w1 ⟨he, hB⟩; subst he; have HE1 := Lib.hid (Ext.alloc (a := wc) hB (.cells #[.int .i64 1, .string ⟨#[110]⟩, .int .i64 2, .slice none 0 0] 36)); have HN := Lib.hid (heap_alloc_new w1 (.cells #[.int .i64 1, .string ⟨#[110]⟩, .int .i64 2, .slice none 0 0] 36)); clear hB)
    | (go_at_call 18; have _t := tok1; refine (ex_same2 _ _ b14 _ HA.out.2.2.1 (Row_below HA.out.2.2.2.1 HE1.out) (Row_below HR.out HE1.out)).mono ?_; rintro e w2 ⟨he, hB⟩; subst he; have HE2 := Lib.hid (Ext.trans HE1.out hB); have HN2 := Lib.hid ((hB.block w1.heap.size (by simp)).trans HN.out); obtain ⟨⟨x0, x1, x2, x3⟩, ⟨y0, y1, y2, y3⟩, a0, a1, a2, a3⟩ := HS.out _ HE2.out; clear hB tok1)
    | (go_at_call 18; refine (ex_same1 _ _ _ _ HA.out.2.2.2.2.1 (Row_below HA.out.2.2.2.2.2 (Ext.alloc HE2.out _)) (Row_two_at _ (by simp) (Iy.out _ HE2.out) (Ix.out _ HE2.out) 53)).mono ?_; rintro e w3 ⟨he, hB⟩; subst he; have HE3 := Lib.hid (Ext.trans (Ext.alloc HE2.out _) hB); have hs2 := HE2.out.size; have hn3 := (hB.block w1.heap.size (by have := (World.block_lt_of_cell? w2 ⟨w1.heap.size, 0, none⟩ (box_facts HN2.out).1.1); simp at this ⊢; omega)).trans ((Below.heap_alloc w2 _ _ (by have := (World.block_lt_of_cell? w2 ⟨w1.heap.size, 0, none⟩ (box_facts HN2.out).1.1); simpa using this)).trans HN2.out); obtain ⟨⟨n0, n1, n2, n3⟩, _⟩ := box_facts hn3; obtain ⟨⟨x0, x1, x2, x3⟩, ⟨y0, y1, y2, y3⟩, a0, a1, a2, a3⟩ := HS.out _ HE3.out; clear hB hs2)
    | (go_at_call 52; have _t := tok2; refine (ex_valid (v := eN) (t := eA) _ _ (by simp [eN, size, sizes]) (by simp [eA, size, sizes]) 10 ev5 (Row_two_at _ (by simp) (Is_leaf w3 1 ⟨#[110]⟩ 2 (by decide) (by omega) (by omega)) (Ia.out _ HE3.out) 53)).mono ?_; rintro e w4 ⟨he, hB⟩; subst he; have HE4 := Lib.hid (Ext.trans (Ext.alloc HE3.out _) hB); obtain ⟨⟨x0, x1, x2, x3⟩, ⟨y0, y1, y2, y3⟩, a0, a1, a2, a3⟩ := HS.out _ HE4.out; clear hB tok2)
    | (go_at_call 52; refine (ex_valid (v := eX) (t := eX) _ _ (by simp [eX, size, sizes]) (by simp [eX, size, sizes]) 1 ev6 (Row_two_at _ (by simp) (Ix.out _ HE4.out) (Ix.out _ HE4.out) 53)).mono ?_; rintro e w5 ⟨he, hB⟩; subst he; have HE5 := Lib.hid (Ext.trans (Ext.alloc HE4.out _) hB); clear hB))
  go_ret
  exact ⟨rfl, HA.out.1.1.1.2.2.trans HE5.out⟩

end Go.Proofs.YtkfbbkkfagglhaaGreatDoor
