/-
  ROWS OF THE REFERENCE IN MEMORY; THE WALK OF ITS reduce.
-/
import Derived.Test.YtfbomoginjknlaaGreatDoorQrwp
import Derived.Test.YtfbomoginjknlaaGreatDoorQnew
import Derived.Test.YtfbomoginjknlaaGreatDoorQsrt
import Derived.Test.YtfbomoginjknlaaGreatDoorQvof
import Derived.Test.YtfbomoginjknlaaGreatDoorQinc
import Derived.Test.YtfbomoginjknlaaGreatDoorQrsum
namespace Go.Proofs.YtfbomoginjknlaaGreatDoor
open Go.RowKit Go.Lib

/-- A row as it lies. -/
structure RwM where
  P : List Tm
  F : List Int
  vp : Value
  vf : Value
def RwOk (base : Nat) (w : World) (r : RwM) : Prop := Elems (fun b => b < base) w r.P r.vp ∧ IntsV w r.vf r.F
/-- Nothing older has changed but some blocks. -/
def AgS (S : Nat → Prop) (w W : World) : Prop := w.heap.size ≤ W.heap.size ∧ ∀ b, b < w.heap.size → ¬ S b → W.heap[b]? = w.heap[b]?
theorem AgS.refl (S : Nat → Prop) (w : World) : AgS S w w := ⟨Nat.le_refl _, fun _ _ _ => rfl⟩
theorem AgS.trans {S : Nat → Prop} {a b c : World} (h : AgS S a b) (k : AgS S b c) : AgS S a c := ⟨Nat.le_trans h.1 k.1, fun i hi hn => (k.2 i (Nat.lt_of_lt_of_le hi h.1) hn).trans (h.2 i hi hn)⟩
theorem AgS.mono {S T : Nat → Prop} {a b : World} (h : AgS S a b) (hs : ∀ i, i < a.heap.size → S i → T i) : AgS T a b := ⟨h.1, fun i hi hn => h.2 i hi fun x => hn (hs i hi x)⟩
theorem AgS.ofExt {S : Nat → Prop} {a b : World} (h : Ext a b) : AgS S a b := ⟨h.size, fun i hi _ => h.block i hi⟩
theorem AgS.ofBelow {S : Nat → Prop} {B : Nat} {a b : World} (h : Below B a b) (hs : ∀ i, i < a.heap.size → B ≤ i → S i) : AgS S a b := ⟨h.size, fun i hi hn => h.block i (by
  rcases Nat.lt_or_ge i B with e | e
  · exact e
  · exact absurd (hs i hi e) hn)⟩
/-- A row that lies, whatever happens to some blocks. -/
def RwAt (base : Nat) (S : Nat → Prop) (w : World) (r : RwM) : Prop := ∀ W, AgS S w W → RwOk base W r
theorem RwAt.now {base : Nat} {S : Nat → Prop} {w : World} {r : RwM} (h : RwAt base S w r) : RwOk base w r := h w (AgS.refl S w)
theorem RwAt.next {base : Nat} {S : Nat → Prop} {w W : World} {r : RwM} (h : RwAt base S w r) (k : AgS S w W) : RwAt base S W r := fun V x => h V (k.trans x)
theorem RwAt.weak {base : Nat} {S T : Nat → Prop} {w : World} {r : RwM} (h : RwAt base S w r) (hs : ∀ i, i < w.heap.size → T i → S i) : RwAt base T w r := fun V x => h V (x.mono hs)
theorem RwAt.form {base : Nat} {S : Nat → Prop} {w : World} {r : RwM} (h : RwAt base S w r) : (∃ xp cp, r.vp = .slice xp r.P.length cp) ∧ ∃ xf cf, r.vf = .slice xf r.F.length cf := by
  obtain ⟨h1, h2⟩ := h.now
  obtain ⟨xp, cp, e, _⟩ := Elems_row h1
  obtain ⟨xf, cf, e', _⟩ := h2
  exact ⟨⟨xp, cp, e⟩, xf, cf, e'⟩
/-- What was just made lies apart. -/
theorem Elems_off {base B : Nat} {S : Nat → Prop} {w W : World} {P : List Tm} {v : Value} (h : Elems (fun b => b < base) w P v) (hf : FrV B v) (hb : base ≤ w.heap.size) (hS : ∀ b, S b → base ≤ b ∧ b < B) (k : AgS S w W) : Elems (fun b => b < base) W P v := by
  obtain ⟨xa, cap, cs, rfl, h1, h2, hK, hc⟩ := h
  refine ⟨xa, cap, cs, rfl, h1, h2, KC_carry (fun b (hb' : b < base) => k.2 b (by omega) fun s => by have := hS b s; omega) (fun _ h => h) _ _ hK, fun h0 => ?_⟩
  obtain ⟨b, o, rfl, hcc⟩ := hc h0
  refine ⟨b, o, rfl, fun j u hu => ?_⟩
  have h3 := hcc j u hu
  have hlt := World.block_lt_of_cell? w _ h3
  rw [World.cell?_of_block (w := w) (k.2 _ hlt fun s => ?_)]
  · exact h3
  · have := hS _ s
    have := hf b rfl
    simp only at *
    omega
theorem IntsV_off {B : Nat} {S : Nat → Prop} {w W : World} {F : List Int} {v : Value} (h : IntsV w v F) (hf : FrV B v) (hS : ∀ b, S b → b < B) (k : AgS S w W) : IntsV W v F := by
  obtain ⟨xa, cap, rfl, h1, h2, hc⟩ := h
  refine ⟨xa, cap, rfl, h1, h2, fun h0 => ?_⟩
  obtain ⟨b, o, rfl, hcc⟩ := hc h0
  refine ⟨b, o, rfl, fun i hi => ?_⟩
  have h3 := hcc i hi
  have hlt := World.block_lt_of_cell? w _ h3
  rw [World.cell?_of_block (w := w) (k.2 _ hlt fun s => ?_)]
  · exact h3
  · have := hS _ s
    have := hf b rfl
    simp only at *
    omega
/-- Rows in a row. -/
structure RwsAt (base : Nat) (rs : List RwM) (v : Value) (w : World) : Prop where
  form : ∃ xa cap, v = .slice xa rs.length cap
  cells : ∀ j (h : j < rs.length), ∃ g cap, v = .slice (some ⟨g, 0, none⟩) rs.length cap ∧ w.cell? ⟨g, j * 2, none⟩ = some rs[j].vp ∧ w.cell? ⟨g, j * 2 + 1, none⟩ = some rs[j].vf
  ok : ∀ r ∈ rs, RwOk base w r
theorem RwOk.ext {base : Nat} {w W : World} {r : RwM} (h : RwOk base w r) (hb : base ≤ w.heap.size) (x : Ext w W) : RwOk base W r := ⟨Elems_ext h.1 (fun b (hb' : b < base) => by omega) x, IntsV_below h.2 x⟩
theorem RwsAt.ext {base : Nat} {rs : List RwM} {v : Value} {w W : World} (h : RwsAt base rs v w) (hb : base ≤ w.heap.size) (x : Ext w W) : RwsAt base rs v W :=
  ⟨h.form, fun j hj => by
    obtain ⟨g, cap, e, h1, h2⟩ := h.cells j hj
    exact ⟨g, cap, e, keep_below x _ _ h1, keep_below x _ _ h2⟩, fun r hr => (h.ok r hr).ext hb x⟩
/-- How many numbers rows have. -/
def sumF : List RwM → Nat
  | [] => 0
  | r :: rs => r.F.length + sumF rs
theorem sumF_snoc (r : RwM) : ∀ rs : List RwM, sumF (rs ++ [r]) = sumF rs + r.F.length
  | [] => by simp [sumF]
  | q :: rs => by rw [List.cons_append, sumF, sumF, sumF_snoc r rs]; omega
theorem sumF_take (rs : List RwM) (j : Nat) (h : j < rs.length) : sumF (rs.take (j + 1)) = sumF (rs.take j) + rs[j].F.length := by
  rw [List.take_succ_eq_append_getElem h, sumF_snoc]
theorem sumF_take_le (rs : List RwM) (j : Nat) : sumF (rs.take j) ≤ sumF rs := by
  induction rs generalizing j with
  | nil => simp [sumF]
  | cons r rs ih =>
    cases j with
    | zero => simp [sumF]
    | succ j => rw [List.take_succ_cons, sumF, sumF]; have := ih j; omega
theorem redT_take (Rs : List (List Tm)) (x : List Tm) (j : Nat) (h : j < Rs.length) : redT (Rs.take (j + 1)) x = (if memT (redT (Rs.take j) x) (lastT Rs[j]) = true then plusT (redT (Rs.take j) x) Rs[j] else redT (Rs.take j) x) := by
  induction Rs generalizing j x with
  | nil => simp at h
  | cons a Rs ih =>
    cases j with
    | zero => simp [redT]
    | succ j =>
      rw [List.take_succ_cons, List.take_succ_cons, redT, redT, ih _ j (by simpa using h)]
      simp
theorem redT_drop (Rs : List (List Tm)) (x : List Tm) (j : Nat) : redT Rs x = redT (Rs.drop j) (redT (Rs.take j) x) := by
  induction Rs generalizing j x with
  | nil => simp [redT]
  | cons a Rs ih =>
    cases j with
    | zero => simp [redT]
    | succ j => rw [List.take_succ_cons, List.drop_succ_cons, redT, redT]; exact ih _ j
/-- What reduce gives back. -/
def RedPost (base : Nat) (S : Nat → Prop) (rs : List RwM) (x : RwM) (w : World) (e : Ending) (w' : World) : Prop :=
  ∃ y : RwM, e = .returned (.agg #[y.vp, y.vf]) ∧ y.P = redT (rs.map (·.P)) x.P ∧ y.F.length ≤ x.F.length + sumF rs ∧ RwAt base S w' y ∧ Ext w w'
/-- Where x lies in its box. -/
structure BoxR (H : Nat) (w : World) (y : RwM) : Prop where
  c0 : w.cell? ⟨H, 0, none⟩ = some y.vp
  c1 : w.cell? ⟨H, 1, none⟩ = some y.vf
  fz : ∀ i, w.frozen? ⟨H, i, none⟩ = false
theorem BoxR.ext {H : Nat} {w W : World} {y : RwM} (h : BoxR H w y) (x : Ext w W) : BoxR H W y :=
  ⟨keep_below x _ _ h.c0, keep_below x _ _ h.c1, fun i => by
    have hl := World.block_lt_of_cell? w _ h.c0
    rw [frozen_same (x.block H hl)]; exact h.fz i⟩
theorem BoxR.set0 {H : Nat} {w : World} {y : RwM} (h : BoxR H w y) (P : List Tm) (v : Value) : BoxR H (w.setCell ⟨H, 0, none⟩ v) ⟨P, y.F, v, y.vf⟩ :=
  ⟨setSameV h.c0, by rw [setOtherV (fun e => by simp at e)]; exact h.c1, fun i => by rw [World.frozen?_setCell]; exact h.fz i⟩
theorem BoxR.set1 {H : Nat} {w : World} {y : RwM} (h : BoxR H w y) (F : List Int) (v : Value) : BoxR H (w.setCell ⟨H, 1, none⟩ v) ⟨y.P, F, y.vp, v⟩ :=
  ⟨by rw [setOtherV (fun e => by simp at e)]; exact h.c0, setSameV h.c1, fun i => by rw [World.frozen?_setCell]; exact h.fz i⟩
theorem set2_ext' {a W : World} {rb : Nat} {x y : Value} (h : Ext a W) (hle : a.heap.size ≤ rb) : Ext a ((W.setCell ⟨rb, 0, none⟩ x).setCell ⟨rb, 1, none⟩ y) :=
  (h.setCell (p := ⟨rb, 0, none⟩) hle x).setCell (p := ⟨rb, 1, none⟩) hle y
theorem AgS_set {S : Nat → Prop} {w : World} {H i : Nat} (v : Value) (hS : S H) : AgS S w (w.setCell ⟨H, i, none⟩ v) := ⟨by simp [World.setCell], fun b hb hn => by
  rw [Below.heap_setCell _ _ _ _ (by simp only; intro e; exact hn (e ▸ hS))]⟩
set_option maxHeartbeats 6400000 in
set_option maxRecDepth 100000 in
theorem rred8_any (base : Nat) (S : Nat → Prop) (rs : List RwM) (v : Value) (x : RwM) (w : World) (hS : ∀ b, S b → base ≤ b ∧ b < w.heap.size) (hbw : base ≤ w.heap.size) (hR : RwsAt base rs v w)
    (hrp : ∀ r ∈ rs, 0 < r.P.length ∧ r.P.length ≤ 500000 ∧ ∀ u ∈ r.P, size u ≤ 1073741824) (hx : RwAt base S w x) (hB : ∀ j, j ≤ rs.length → (redT ((rs.map (·.P)).take j) x.P).length ≤ 500000 ∧ ∀ u ∈ redT ((rs.map (·.P)).take j) x.P, size u ≤ 1073741824)
    (hF : x.F.length + sumF rs ≤ 1048576) (hrl : rs.length ≤ 1048576) :
    Calls Tryz.prog 52 #[v, .agg #[x.vp, x.vf]] w (RedPost base S rs x w) := by
  obtain ⟨P0, F0, vp0, vf0⟩ := x
  obtain ⟨⟨xp0, cp0, e1⟩, xf0, cf0, e2⟩ := hx.form
  obtain ⟨xr, cr, hv⟩ := hR.form
  simp only at e1 e2 hB hF ⊢
  subst e1 e2 hv
  obtain ⟨wB, hwB⟩ : ∃ W, W = (w.alloc (.cells #[.slice xp0 P0.length cp0, .slice xf0 F0.length cf0] 80)).alloc (.cells #[.slice none 0 0, .slice none 0 0] 80) := ⟨_, rfl⟩
  have hX : Ext w wB := by rw [hwB]; exact ((Ext.refl w).alloc _).alloc _
  have hsB : wB.heap.size = w.heap.size + 2 := by rw [hwB, World.size_alloc, World.size_alloc]
  have hq1 : wB.heap[w.heap.size]? = some (.cells #[.slice xp0 P0.length cp0, .slice xf0 F0.length cf0] 80 (0, 0)) := by
    rw [hwB]
    have := ((Ext.refl (w.alloc (.cells #[.slice xp0 P0.length cp0, .slice xf0 F0.length cf0] 80))).alloc (.cells #[.slice none 0 0, .slice none 0 0] 80)).block w.heap.size (by simp)
    rw [this]; exact heap_alloc_new w _
  have hq2 : wB.heap[w.heap.size + 1]? = some (.cells #[.slice none 0 0, .slice none 0 0] 80 (0, 0)) := by
    rw [hwB]
    have := heap_alloc_new (w.alloc (.cells #[.slice xp0 P0.length cp0, .slice xf0 F0.length cf0] 80)) (.cells #[.slice none 0 0, .slice none 0 0] 80)
    rw [World.size_alloc] at this; exact this
  obtain ⟨T, hT⟩ : ∃ T : Nat → Prop, T = fun b => S b ∨ (w.heap.size ≤ b ∧ b < w.heap.size + 2) := ⟨_, rfl⟩
  have HTI : Hid (∀ b, T b → base ≤ b ∧ b < w.heap.size + 2) := by
    show ∀ _, _
    intro b hb
    rw [hT] at hb
    rcases hb with hb | hb
    · have := hS b hb; omega
    · omega
  have HTH : Hid (T w.heap.size ∧ T (w.heap.size + 1)) := by
    show _ ∧ _
    rw [hT]
    exact ⟨Or.inr ⟨by omega, by omega⟩, Or.inr ⟨by omega, by omega⟩⟩
  have HTS : Hid (∀ b, S b → T b) := by show ∀ _, _; intro b hb; rw [hT]; exact Or.inl hb
  have hbx : BoxR w.heap.size wB ⟨P0, F0, .slice xp0 P0.length cp0, .slice xf0 F0.length cf0⟩ := by
    obtain ⟨⟨m0, m1⟩, mf⟩ := box2_facts hq1
    exact ⟨m0, m1, mf⟩
  have hat : RwAt base T wB ⟨P0, F0, .slice xp0 P0.length cp0, .slice xf0 F0.length cf0⟩ := by
    intro W k
    refine hx W ⟨Nat.le_trans hX.size k.1, fun b hb hn => (k.2 b (Nat.lt_of_lt_of_le hb hX.size) fun t => ?_).trans (hX.block b hb)⟩
    rw [hT] at t
    rcases t with t | t
    · exact hn t
    · omega
  have HST := Lib.hid (And.intro hbx (And.intro hat (And.intro hX hq2)))
  obtain ⟨q0, q1, q2⟩ := hbx
  have HR := Lib.hid (fun W (y : Ext w W) => hR.ext hbw y)
  have HRP := Lib.hid hrp
  have HBW := Lib.hid hbw
  have HB := Lib.hid hB
  have HSB := Lib.hid hsB
  have HWB := Lib.hid hwB
  clear hX hsB hq1 hq2 hwB hR hrp hx hB hT hat hbw hS
  go_enter Tryz.func52, Tryz.ntmps52
  go_upto_region 1 with fail
  rw [← HWB.out]
  clear q0 q1 q2
  go_wp2_with fail
  go_loopw [5] (fun i wr => ∃ (j : Nat) (P : List Tm) (F : List Int) (xp xf : Option Addr) (cp cf : Nat), j ≤ rs.length ∧ i = .int .i64 j ∧ BoxR w.heap.size wr ⟨P, F, .slice xp P.length cp, .slice xf F.length cf⟩ ∧ Hid (P = redT ((rs.map (·.P)).take j) P0) ∧ F.length ≤ F0.length + sumF (rs.take j) ∧ RwAt base T wr ⟨P, F, .slice xp P.length cp, .slice xf F.length cf⟩ ∧ Ext w wr ∧ wr.heap[w.heap.size + 1]? = some (.cells #[.slice none 0 0, .slice none 0 0] 80 (0, 0))) (fun i _ => rs.length - (intOf i).toNat)
  case atStart => exact ⟨0, P0, F0, xp0, xf0, cp0, cf0, Nat.zero_le _, rfl, HST.out.1, by show _ = _; simp [redT], by simp, HST.out.2.1, HST.out.2.2.1, HST.out.2.2.2⟩
  case round =>
    obtain ⟨j, P, F, xp, xf, cp, cf, hj, rfl, hbox, HP, hFl, hat, hX, hres⟩ := hrel
    have hws : w.heap.size + 2 ≤ wr.heap.size := by have := (Array.getElem?_eq_some_iff.1 hres).1; omega
    have HBX := Lib.hid hbox
    have HAT := Lib.hid hat
    have HX := Lib.hid hX
    have HRES := Lib.hid hres
    have HFL := Lib.hid hFl
    have HEX : Hid (redT (rs.map (·.P)) P0 = P → RedPost base S rs ⟨P0, F0, .slice xp0 P0.length cp0, .slice xf0 F0.length cf0⟩ w (.returned (.agg #[.slice xp P.length cp, .slice xf F.length cf])) ((wr.setCell ⟨w.heap.size + 1, 0, none⟩ (.slice xp P.length cp)).setCell ⟨w.heap.size + 1, 1, none⟩ (.slice xf F.length cf))) := by
      show _ → _
      intro e
      refine ⟨⟨P, F, .slice xp P.length cp, .slice xf F.length cf⟩, rfl, e.symm, ?_, (hat.next ((AgS_set _ HTH.out.2).trans (AgS_set _ HTH.out.2))).weak (fun i _ hi => HTS.out i hi), set2_ext' hX (Nat.le_succ _)⟩
      have := sumF_take_le rs j
      simp only
      omega
    obtain ⟨q0, q1, q2⟩ := hbox
    simp only at q0 q1
    have q20 := q2 0
    have q21 := q2 1
    obtain ⟨⟨m0, m1⟩, mf⟩ := box2_facts hres
    have mf0 := mf 0
    have mf1 := mf 1
    by_cases hlt : j < rs.length
    rotate_left
    · have HQ := Lib.hid (HEX.out (by rw [HP.out, show j = rs.length by omega, List.take_of_length_le (by simp)]))
      clear hat hX hres mf hFl
      go_wp2_with fail
      exact bodyPost_ret (v := .agg #[.slice xp P.length cp, .slice xf F.length cf]) (by simp [results, Tryz.results52, go_sem, m0, m1]) rfl HQ.out
    by_cases h0 : P.length = 0
    · have HQ := Lib.hid (HEX.out (by rw [redT_drop _ _ j, ← HP.out, List.length_eq_zero_iff.1 h0, redT_nil]))
      have h0' : ¬ 0 < P.length := by omega
      have h0'' : decide (0 < P.length) = false := decide_eq_false h0'
      have h0d : decide ((0 : Int) < (P.length : Int)) = false := decide_eq_false (by omega)
      clear hat hX hres mf hFl h0
      go_wp2_with fail
      exact bodyPost_ret (v := .agg #[.slice xp P.length cp, .slice xf F.length cf]) (by simp [results, Tryz.results52, go_sem, m0, m1]) rfl HQ.out
    have hpos : 0 < P.length := by omega
    have h0d : decide ((0 : Int) < (P.length : Int)) = true := decide_eq_true (by omega)
    have h0n : decide (0 < P.length) = true := decide_eq_true hpos
    have hR := HR.out wr hX
    obtain ⟨g, cap, e, y0, y1⟩ := hR.cells j hlt
    simp only [Value.slice.injEq, true_and] at e
    obtain ⟨rfl, rfl⟩ := e
    have hok := hR.ok rs[j] (List.getElem_mem hlt)
    have hcy : ∀ W, Ext w W → W.cell? ⟨g, j * 2 + 1, none⟩ = some rs[j].vf ∧ RwOk base W rs[j] := fun W y => by
      have h := HR.out W y
      obtain ⟨g', cap', e', _, h2⟩ := h.cells j hlt
      simp only [Value.slice.injEq, Option.some.injEq, Addr.mk.injEq, and_true, true_and] at e'
      obtain ⟨rfl, _⟩ := e'
      exact ⟨h2, h.ok _ (List.getElem_mem hlt)⟩
    obtain ⟨hA0, hA1, hA2⟩ := HRP.out rs[j] (List.getElem_mem hlt)
    have htk := redT_take (rs.map (·.P)) P0 j (by rw [List.length_map]; exact hlt)
    rw [← HP.out, List.getElem_map] at htk
    have hsf := sumF_take rs j hlt
    have hsl := sumF_take_le rs (j + 1)
    obtain ⟨hb1, hb2⟩ := HB.out j hj
    rw [← HP.out] at hb1 hb2
    obtain ⟨hc1, hc2⟩ := HB.out (j + 1) hlt
    rw [htk] at hc1 hc2
    have HTK := Lib.hid htk
    generalize rs[j] = A at y0 y1 hok hA0 hA1 hA2 hsf hc1 hc2 HTK hcy
    clear htk
    obtain ⟨AP, AF, vA, vB⟩ := A
    simp only at y0 y1 hA0 hA1 hA2 hsf hc1 hc2 HTK hcy
    have HCY := Lib.hid hcy
    clear hcy
    obtain ⟨hE, hI⟩ := hok
    simp only at hE hI
    obtain ⟨xA, cA, rfl, _, _, hAR⟩ := Elems_row hE
    obtain ⟨xB, cB, rfl, hBm, hBr, hBc⟩ := id hI
    have hI' : IntsV wr (.slice xB AF.length cB) AF := hI
    obtain ⟨hPE, hPI⟩ := hat.now
    simp only at hPE hPI
    obtain ⟨_, _, e5, _, _, hPR⟩ := Elems_row hPE
    simp only [Value.slice.injEq, true_and] at e5
    obtain ⟨rfl, rfl⟩ := e5
    obtain ⟨m, hm⟩ : ∃ m, AP.length = m + 1 := ⟨AP.length - 1, by omega⟩
    have hml : m < AP.length := by omega
    have hlast : lastT AP = AP[m] := by
      unfold lastT
      rw [List.getD_eq_getElem?_getD, show AP.length - 1 = m by omega, List.getElem?_eq_getElem hml]; rfl
    obtain ⟨kb, ko, capA, x0, x1, x2, x3, e6, p0, p1, p2, p3, hKI⟩ := Elems_get hE m hml
    simp only [Value.slice.injEq, true_and] at e6
    obtain ⟨rfl, rfl⟩ := e6
    obtain ⟨k1, n1, s1, ya1, yl1, yc1, rfl, rfl, rfl, rfl⟩ := IsIn_form hKI
    have hLs := hA2 _ (List.getElem_mem hml)
    rw [hlast] at hc1 hc2 HTK
    have HHAS := Lib.hid (fun W (y : Ext wr W) => qhas_any P AP[m] xp cp _ _ _ _ W (by unfold maxLen; omega) hb2 hLs (Row_below (w' := W) hPR y) (Is_below (w' := W) (IsIn_Is _ _ _ _ _ hKI) y))
    have HPL := Lib.hid (fun W (y : Ext wr W) => rplusN_any base P AP _ _ W (by have := HBW.out; have := y.size; omega) (by omega) hb2 hA2 (Elems_ext hPE (fun b (hb : b < base) => by have := HBW.out; omega) y) (Elems_ext hE (fun b (hb : b < base) => by have := HBW.out; omega) y))
    have hw1 : IntKind.i64.wrap ((AP.length : Int) - 1) = (m : Int) := (IntWalk.i64_in _ (by omega)).trans (by omega)
    have hw3 : IntKind.i64.wrap (m : Int) = (m : Int) := IntWalk.i64_in _ (by omega)
    have i1 : (0 : Int) ≤ (j : Int) := by omega
    have i2 : (j : Int) < (rs.length : Int) := by omega
    have i3 : (0 : Int) ≤ (m : Int) := by omega
    have i4 : (m : Int) < (AP.length : Int) := by omega
    have HC : Hid (∀ W, Ext wr W → (W.cell? ⟨w.heap.size, 0, none⟩ = some (.slice xp P.length cp) ∧ W.cell? ⟨w.heap.size, 1, none⟩ = some (.slice xf F.length cf)) ∧ W.cell? ⟨g, j * 2 + 1, none⟩ = some (.slice xB AF.length cB)) := fun W y => ⟨⟨keep_below y _ _ q0, keep_below y _ _ q1⟩, keep_below y _ _ y1⟩
    have HHS := Lib.hid hws
    clear hE hI hPE hPI hPR hAR hKI hlast hLs hat hX hres mf hR hFl hb1 hb2 hA2 hm
    cases hmt : memT P AP[m]
    · rw [hmt] at HTK HHAS
      have HTK2 : Hid (redT ((rs.map (·.P)).take (j + 1)) P0 = P) := by show _ = _; rw [HTK.out]; simp
      clear hmt hc1 hc2 HPL HTK
      go_upto_region 4 with fail
      go_quiet (fail)
      go_wp2_with (go_at_call 82; refine (HHAS.out _ (by first | exact below_drewN (Below.refl _ _) _ | exact Ext.refl _)).mono ?_; rintro e w4 ⟨he, hB⟩; subst he; have HX4 : Hid (Ext wr w4) := Lib.hid (Ext.trans (a := wr) (by first | exact below_drewN (Below.refl _ _) _ | exact Ext.refl _) hB); clear hB)
      go_roundw
      case rel => exact ⟨j + 1, P, F, _, _, _, _, by omega, by go_num, HBX.out.ext HX4.out, HTK2.out.symm, by have := HFL.out; omega, HAT.out.next (AgS.ofExt HX4.out), HX.out.trans HX4.out, (HX4.out.block _ (by have := HHS.out; omega)).trans HRES.out⟩
      case measure => simp [intOf]; omega
    rw [hmt] at HTK HHAS hc1 hc2
    rw [if_pos rfl] at hc1 hc2
    have HTK2 : Hid (redT ((rs.map (·.P)).take (j + 1)) P0 = plusT P AP) := by show _ = _; rw [HTK.out]; simp
    clear hmt HTK
    go_upto_region 4 with fail
    go_quiet (fail)
    go_upto_region 7 with (first
      | (go_at_call 82; refine (HHAS.out _ (by first | exact below_drewN (Below.refl _ _) _ | exact Ext.refl _)).mono ?_; rintro e w4 ⟨he, hB⟩; subst he; have HX4 : Hid (Ext wr w4) := Lib.hid (Ext.trans (a := wr) (by first | exact below_drewN (Below.refl _ _) _ | exact Ext.refl _) hB); clear hB)
      | (go_at_call 40; refine (HPL.out _ HX4.out).mono ?_; rintro e w5 ⟨v5, he, hE5, hB5, hN5⟩; obtain ⟨x5, c5, hv5, _⟩ := Elems_row hE5; subst hv5; subst he; have HX5 : Hid (Ext wr w5) := Lib.hid (HX4.out.trans hB5); have HE5 := Lib.hid hE5; have HN5 := Lib.hid (hN5.mono HX4.out.size); obtain ⟨⟨q0, q1⟩, _⟩ := HC.out _ HX5.out; have q20 := (HBX.out.ext HX5.out).fz 0; clear hE5 hB5 hN5))
    have hb5 := (HBX.out.ext HX5.out).set0 (plusT P AP) (.slice x5 (plusT P AP).length c5)
    have hat5 : RwAt base T (w5.setCell ⟨w.heap.size, 0, none⟩ (.slice x5 (plusT P AP).length c5)) ⟨plusT P AP, F, .slice x5 (plusT P AP).length c5, .slice xf F.length cf⟩ := by
      intro W k
      have k5 := (AgS_set (w := w5) (i := 0) (.slice x5 (plusT P AP).length c5) HTH.out.1).trans k
      have h5 := HX5.out.size
      have h6 := HBW.out
      exact ⟨Elems_off HE5.out HN5.out (by have := HHS.out; omega) (fun b hb => by have := HTI.out b hb; have := HHS.out; omega) k5, (HAT.out W ((AgS.ofExt HX5.out).trans k5)).2⟩
    have hx5 : Ext w (w5.setCell ⟨w.heap.size, 0, none⟩ (.slice x5 (plusT P AP).length c5)) := (HX.out.trans HX5.out).setCell (p := ⟨w.heap.size, 0, none⟩) (Nat.le_refl _) _
    have hr5 : (w5.setCell ⟨w.heap.size, 0, none⟩ (.slice x5 (plusT P AP).length c5)).heap[w.heap.size + 1]? = some (.cells #[.slice none 0 0, .slice none 0 0] 80 (0, 0)) := by
      rw [Below.heap_setCell _ _ _ _ (by simp only; omega)]
      exact (HX5.out.block _ (by have := HHS.out; omega)).trans HRES.out
    simp only at hb5
    generalize w5.setCell ⟨w.heap.size, 0, none⟩ (.slice x5 (plusT P AP).length c5) = w6 at hb5 hat5 hx5 hr5 ⊢
    obtain ⟨Q, hQ⟩ : ∃ Q, plusT P AP = Q := ⟨_, rfl⟩
    rw [hQ] at hb5 hat5 HTK2 ⊢
    have HST6 := Lib.hid (And.intro hb5 (And.intro hat5 (And.intro hx5 hr5)))
    clear hb5 hat5 hx5 hr5 q0 q1 q20 q2 q21 m0 m1 mf0 mf1 p0 p1 p2 p3 y0 y1 hQ hw1 hw3 i3 i4 hc1 hc2 HHAS HPL
    go_wp2_with fail
    obtain ⟨w1, hw1⟩ : ∃ v : World, v = wr := ⟨_, rfl⟩
    subst hw1
    go_loopw [8] (fun i wq => ∃ (q : Nat) (F2 : List Int) (xf2 : Option Addr) (cf2 : Nat), q ≤ AF.length ∧ i = .int .i64 q ∧ BoxR w.heap.size wq ⟨Q, F2, .slice x5 Q.length c5, .slice xf2 F2.length cf2⟩ ∧ F2.length ≤ F.length + q ∧ RwAt base T wq ⟨Q, F2, .slice x5 Q.length c5, .slice xf2 F2.length cf2⟩ ∧ Ext w wq ∧ wq.heap[w.heap.size + 1]? = some (.cells #[.slice none 0 0, .slice none 0 0] 80 (0, 0))) (fun i _ => AF.length - (intOf i).toNat)
    case atStart => exact ⟨0, F, xf, cf, Nat.zero_le _, rfl, HST6.out.1, Nat.le_refl _, HST6.out.2.1, HST6.out.2.2.1, HST6.out.2.2.2⟩
    case round =>
      obtain ⟨q, F2, xf2, cf2, hq, rfl, hbox, hF2, hat, hX2, hres⟩ := hrel
      have HBX2 := Lib.hid hbox
      have HAT2 := Lib.hid hat
      have HX2 := Lib.hid hX2
      have HRES2 := Lib.hid hres
      have HF2 := Lib.hid hF2
      obtain ⟨y1, hok⟩ := HCY.out _ hX2
      by_cases hlq : q < AF.length
      rotate_left
      · have hql : q = AF.length := by omega
        clear hat hX2 hres hF2 hbox hok
        go_wp2_with fail
        go_roundw
        case rel => exact ⟨j + 1, Q, F2, _, _, _, _, by omega, by go_num, HBX2.out, HTK2.out.symm, by have := HF2.out; have := HFL.out; omega, HAT2.out, HX2.out, HRES2.out⟩
        case measure => simp [intOf]; omega
      obtain ⟨xB', cB', e8, _, hBr', hBc'⟩ : IntsV wr (.slice xB AF.length cB) AF := hok.2
      simp only [Value.slice.injEq, true_and] at e8
      obtain ⟨rfl, rfl⟩ := e8
      obtain ⟨bb, bo, rfl, hcc⟩ := hBc' (by omega)
      have z0 := hcc q hlq
      have hrg := hBr' _ (List.getElem_mem hlq)
      generalize AF[q] = n at z0 hrg
      obtain ⟨q0, q1, q2⟩ := hbox
      simp only at q0 q1
      have q21 := q2 1
      have hwl : w.heap.size + 2 ≤ wr.heap.size := by have := (Array.getElem?_eq_some_iff.1 hres).1; omega
      have hFI : ∀ W, Ext wr W → IntsV W (.slice xf2 F2.length cf2) F2 := fun W y => IntsV_below hat.now.2 y
      have HFL2 := Lib.hid (fun W (y : Ext wr W) => flip_any F2 n _ W (hFI W y) hrg (by have := sumF_take_le rs (j + 1); have := HFL.out; omega))
      have HNX : Hid (∀ W w7 m xa ca, Ext wr W → m.length ≤ F2.length + 1 → (∀ x ∈ m, -9223372036854775808 ≤ x ∧ x ≤ 9223372036854775807) → OwnI W.heap.size w7 m (.slice xa m.length ca) → Ext W w7 →
          (w7.cell? ⟨w.heap.size, 1, none⟩ = some (.slice xf2 F2.length cf2) ∧ w7.frozen? ⟨w.heap.size, 1, none⟩ = false) ∧
          BoxR w.heap.size (w7.setCell ⟨w.heap.size, 1, none⟩ (.slice xa m.length ca)) ⟨Q, m, .slice x5 Q.length c5, .slice xa m.length ca⟩ ∧ m.length ≤ F.length + (q + 1) ∧ RwAt base T (w7.setCell ⟨w.heap.size, 1, none⟩ (.slice xa m.length ca)) ⟨Q, m, .slice x5 Q.length c5, .slice xa m.length ca⟩ ∧ Ext w (w7.setCell ⟨w.heap.size, 1, none⟩ (.slice xa m.length ca)) ∧ (w7.setCell ⟨w.heap.size, 1, none⟩ (.slice xa m.length ca)).heap[w.heap.size + 1]? = some (.cells #[.slice none 0 0, .slice none 0 0] 80 (0, 0))) := by
        show ∀ _, _
        intro W w7 m xa ca hy h1 h2 h3 h4
        have hx7 : Ext wr w7 := hy.trans h4
        have hbx := HBX2.out.ext hx7
        refine ⟨⟨hbx.c1, hbx.fz 1⟩, hbx.set1 m _, by have := HF2.out; omega, ?_, (HX2.out.trans hx7).setCell (p := ⟨w.heap.size, 1, none⟩) (Nat.le_refl _) _, ?_⟩
        · intro V k
          have k7 := (AgS_set (w := w7) (i := 1) (.slice xa m.length ca) HTH.out.1).trans k
          have hsz := hy.size
          refine ⟨(HAT2.out V ((AgS.ofExt hx7).trans k7)).1, IntsV_off (B := W.heap.size) (intsV_own (p := m) h3 h2 (by unfold maxLen; have := HF2.out; have := HFL.out; have := sumF_take_le rs (j + 1); omega)) (fun b hb => (h3.lt b hb).1) (fun b hb => by have := HTI.out b hb; omega) k7⟩
        · rw [Below.heap_setCell _ _ _ _ (by simp only; omega)]
          exact (hx7.block _ (by omega)).trans HRES2.out
      have hF0' : Ext wr wr.drew := (Ext.refl wr).drew
      have i3 : (0 : Int) ≤ (q : Int) := by omega
      have i4 : (q : Int) < (AF.length : Int) := by omega
      clear hat hX2 hres hF2 hok hcc hBc' hBr' hFI hrg q2 hwl
      go_wp2_with fail
      go_region_law
        (go_simp; refine (HFL2.out _ hF0').mono ?_; rintro e w7 ⟨m, v7, he, h1, h2, h3, h4⟩; subst he; obtain ⟨x7, c7, e7⟩ := OwnI_form h3; subst e7; have hnx := HNX.out _ _ _ _ _ hF0' h1 h2 h3 h4; obtain ⟨⟨n1', n2'⟩, n3⟩ := hnx; have HN7 := Lib.hid n3; clear h1 h2 h3 h4 n3; dsimp only)
      all_goals (go_wp2_with fail)
      all_goals (go_roundw)
      all_goals (first | exact ⟨q + 1, _, _, _, by omega, by go_num, HN7.out.1, HN7.out.2.1, HN7.out.2.2.1, HN7.out.2.2.2.1, HN7.out.2.2.2.2⟩ | (simp [intOf]; omega))
end Go.Proofs.YtfbomoginjknlaaGreatDoor

/-
  THE WALK OF THE REFERENCE'S rows.
-/
namespace Go.Proofs.YtfbomoginjknlaaGreatDoor
open Go.RowKit Go.Lib

theorem infoRw : (Tryz.prog.info? 80).map (fun i => (i.zero, i.size, i.bytes)) = some (some (.agg #[.slice none 0 0, .slice none 0 0]), 2, 48) := by kernel_rfl
def encR (r : RwM) : List Value := [r.vp, r.vf]
theorem encR_len (r : RwM) : (encR r).length = 2 := rfl
def ownT (v4 v5 : Value) : Nat → Prop := fun b => v4.ownBlock = some b ∨ v5.ownBlock = some b
/-- The rows, and the basis, as rows of the call's own. -/
structure RwsQ (base H : Nat) (RS : List RwM) (B : List Int) (v4 v5 : Value) (w : World) : Prop where
  own : w.ownsRow H 80 2 v4 RS.length (RS.flatMap encR)
  bas : OwnI H w B v5
  ok : ∀ r ∈ RS, RwAt base (ownT v4 v5) w r
  ne : ∀ b, v4.ownBlock = some b → v5.ownBlock ≠ some b
theorem RwsQ.lt {base H : Nat} {RS : List RwM} {B : List Int} {v4 v5 : Value} {w : World} (h : RwsQ base H RS B v4 v5 w) : ∀ b, ownT v4 v5 b → H ≤ b ∧ b < w.heap.size := fun b hb => by
  rcases hb with hb | hb
  · exact h.own.lt b hb
  · exact h.bas.lt b hb
theorem RwsQ.ext {base H : Nat} {RS : List RwM} {B : List Int} {v4 v5 : Value} {w W : World} (h : RwsQ base H RS B v4 v5 w) (x : Ext w W) : RwsQ base H RS B v4 v5 W :=
  ⟨own_heap h.own (fun q hq => x.block q (h.own.lt q hq).2), OwnI_ext h.bas x, fun r hr => (h.ok r hr).next (AgS.ofExt x), h.ne⟩
theorem RwsQ.form {base H : Nat} {RS : List RwM} {B : List Int} {v4 v5 : Value} {w : World} (h : RwsQ base H RS B v4 v5 w) : ∃ xa cap, v4 = .slice xa RS.length cap := by
  rcases h.own.2 with ⟨rfl, e⟩ | ⟨g, cap, _, rfl, _⟩
  · exact ⟨none, 0, by rw [e]⟩
  · exact ⟨_, cap, rfl⟩
theorem RwsQ.rows {base H : Nat} {RS : List RwM} {B : List Int} {v4 v5 : Value} {w : World} (h : RwsQ base H RS B v4 v5 w) : RwsAt base RS v4 w := by
  refine ⟨h.form, fun j hj => ?_, fun r hr => (h.ok r hr).now⟩
  rcases id h.own.2 with ⟨e, e'⟩ | ⟨g, cap, _, e, _⟩
  · omega
  · subst e
    have hl := h.own.1
    haveI : Inhabited RwM := ⟨RS[j]⟩
    have e : RS[j]! = RS[j] := getElem!_pos RS j hj
    have hq : ∀ i, i < 2 → w.cell? ⟨g, j * 2 + i, none⟩ = (encR RS[j])[i]? := fun i hi => by
      rw [h.own.cellAt _ (by omega), flatQ encR 2 encR_len (by omega) RS (j * 2 + i) (by omega), show (j * 2 + i) / 2 = j by omega, show (j * 2 + i) % 2 = i by omega, e]
      have : i < (encR RS[j]).length := by rw [encR_len]; exact hi
      rw [getElem!_pos _ i this, List.getElem?_eq_getElem this]
    exact ⟨g, cap, rfl, hq 0 (by omega), hq 1 (by omega)⟩
theorem RwsQ.push {base H g cap : Nat} {RS : List RwM} {B : List Int} {v4 v5 : Value} {W w8 : World} {y : RwM} {o : Obj} (h : RwsQ base H RS B v4 v5 W) (hy : RwAt base (ownT v4 v5) W y)
    (ho : w8.ownsRow H 80 2 (.slice (some ⟨g, 0, none⟩) (RS.length + 1) cap) (RS.length + 1) (RS.flatMap encR ++ [y.vp, y.vf])) (hg : (W.alloc o).grownBy w8 v4.ownBlock) (hat : v4.ownBlock = some g ∨ g = W.heap.size + 1) :
    RwsQ base H (RS ++ [y]) B (.slice (some ⟨g, 0, none⟩) (RS.length + 1) cap) v5 w8 ∧ AgS (ownT v4 v5) W w8 := by
  have hsz := hg.size
  rw [World.size_alloc] at hsz
  have hk : ∀ q, q < W.heap.size → v4.ownBlock ≠ some q → w8.heap[q]? = W.heap[q]? := fun q hq hn => (hg.block q (by rw [World.size_alloc]; omega) (fun e => hn e.symm)).trans (Below.heap_alloc W o q hq)
  have hok : ∀ r : RwM, RwAt base (ownT v4 v5) W r → RwAt base (ownT (.slice (some ⟨g, 0, none⟩) (RS.length + 1) cap) v5) w8 r := fun r hr V k => by
    refine hr V ⟨by have := k.1; omega, fun b hb hn => ?_⟩
    rw [← hk b hb (fun e => hn (Or.inl e))]
    refine k.2 b (by omega) fun t => ?_
    rcases t with t | t
    · simp only [Value.ownBlock, Option.some.injEq] at t
      rcases hat with e | e
      · exact hn (Or.inl (by rw [e, t]))
      · omega
    · exact hn (Or.inr t)
  refine ⟨⟨?_, own_heap h.bas (fun q hq => hk q (h.bas.lt q hq).2 fun e => h.ne q e hq), fun r hr => ?_, fun b hb => ?_⟩, by omega, fun b hb hn => hk b hb fun e => hn (Or.inl e)⟩
  · rw [List.flatMap_append, List.length_append]
    exact ho
  · rcases List.mem_append.1 hr with hr | hr
    · exact hok r (h.ok r hr)
    · rw [List.mem_singleton.1 hr]; exact hok y hy
  · simp only [Value.ownBlock, Option.some.injEq] at hb
    subst hb
    rcases hat with e | e
    · exact h.ne _ e
    · intro e'
      have := (h.bas.lt _ e').2
      omega
theorem RwsQ.bpush {base H g cap : Nat} {RS : List RwM} {B : List Int} {v4 v5 : Value} {W w8 : World} {i : Int} {o : Obj} (h : RwsQ base H RS B v4 v5 W)
    (ho : w8.ownsRow H 3 1 (.slice (some ⟨g, 0, none⟩) (B.length + 1) cap) (B.length + 1) (zints B ++ [.int .i64 i])) (hg : (W.alloc o).grownBy w8 v5.ownBlock) (hat : v5.ownBlock = some g ∨ g = W.heap.size + 1) :
    RwsQ base H RS (B ++ [i]) v4 (.slice (some ⟨g, 0, none⟩) (B.length + 1) cap) w8 := by
  have hsz := hg.size
  rw [World.size_alloc] at hsz
  have hk : ∀ q, q < W.heap.size → v5.ownBlock ≠ some q → w8.heap[q]? = W.heap[q]? := fun q hq hn => (hg.block q (by rw [World.size_alloc]; omega) (fun e => hn e.symm)).trans (Below.heap_alloc W o q hq)
  refine ⟨own_heap h.own (fun q hq => hk q (h.own.lt q hq).2 (h.ne q hq)), ?_, fun r hr V k => ?_, fun b hb => ?_⟩
  · show w8.ownsRow H 3 1 _ (B ++ [i]).length (zints (B ++ [i]))
    have e : zints (B ++ [i]) = zints B ++ [.int .i64 i] := by unfold zints; rw [List.map_append]; rfl
    rw [List.length_append, e]
    exact ho
  · refine h.ok r hr V ⟨by have := k.1; omega, fun b hb hn => ?_⟩
    rw [← hk b hb (fun e => hn (Or.inr e))]
    refine k.2 b (by omega) fun t => ?_
    rcases t with t | t
    · exact hn (Or.inl t)
    · simp only [Value.ownBlock, Option.some.injEq] at t
      rcases hat with e | e
      · exact hn (Or.inr (by rw [e, t]))
      · omega
  · intro e'
    simp only [Value.ownBlock, Option.some.injEq] at e'
    subst e'
    rcases hat with e | e
    · exact h.ne _ hb e
    · have := (h.own.lt _ hb).2
      omega
theorem wpList_append_rw {W : World} {ops : Array Oper} {rest : List Oper} {o : Oper} {a : Act} {Q : Exit → Act → World → Prop} (hgd : o.guard = none) (s x : Operand)
    (ho : o.op = .call { callee := .builtin .append, args := #[s, x], argTypes := #[72, 72] }) {base H : Nat} {RS : List RwM} {B : List Int} {v4 v5 : Value} (hO : RwsQ base H RS B v4 v5 W) (hH : H ≤ W.heap.size) (hlen : RS.length ≤ 1048576)
    {y : RwM} (hy : RwAt base (ownT v4 v5) W y) (h1 : y.vp.oneCell' = true ∧ y.vf.oneCell' = true) (hs : a.eval s = v4) {z : Nat} (hzW : W.heap.size = z) (hx : a.eval x = .slice (some ⟨z, 0, none⟩) 1 1)
    (h : ∀ v' w8, RwsQ base H (RS ++ [y]) B v' v5 w8 → Below H W w8 → wpList Tryz.prog ops Q rest (a.put o.dst v') w8) :
    wpList Tryz.prog ops Q (o :: rest) a (W.alloc (.cells #[y.vp, y.vf] 80)) := by
  subst hzW
  obtain ⟨i0, hi0, hz0, hz1, hz2⟩ := info_parts infoRw
  obtain ⟨xl, lcap, rfl⟩ := hO.form
  refine wpList_append_lies _ hgd s x _ ho H 80 i0 _ 2 48 Tryz.underlying72 hi0 hz0 hz1 hz2 rfl (by omega) (.slice xl RS.length lcap) RS.length (RS.flatMap encR) hs (hO.own.alloc _) ⟨W.heap.size, 0, none⟩ 1 1 [y.vp, y.vf] hx rfl
    (World.news_of_block (cs := #[y.vp, y.vf]) (t := 80) (fr := (0, 0)) (heap_alloc_new W _)) (fun u hu => by simp only [List.mem_cons, List.not_mem_nil, or_false] at hu; rcases hu with rfl | rfl <;> first | exact h1.1 | exact h1.2) (by omega) (by unfold maxLen; omega) (by omega) (by rw [World.size_alloc]; omega) (W.heap.size + 1) (by rw [World.size_alloc]) ?_
  intro g cap w8 ho8 hg hat _
  exact h _ _ (hO.push hy ho8 hg hat).1 (((Below.refl H W).alloc hH _).grown hg (by rw [World.size_alloc]; omega) (fun q hq => (hO.own.lt q hq).1))
theorem wpList_append_bs {W : World} {ops : Array Oper} {rest : List Oper} {o : Oper} {a : Act} {Q : Exit → Act → World → Prop} (hgd : o.guard = none) (s x : Operand)
    (ho : o.op = .call { callee := .builtin .append, args := #[s, x], argTypes := #[37, 37] }) {base H : Nat} {RS : List RwM} {B : List Int} {v4 v5 : Value} (hO : RwsQ base H RS B v4 v5 W) (hH : H ≤ W.heap.size) (hlen : B.length ≤ 1073741824)
    {i : Int} (hs : a.eval s = v5) {z : Nat} (hzW : W.heap.size = z) (hx : a.eval x = .slice (some ⟨z, 0, none⟩) 1 1)
    (h : ∀ v' w8, RwsQ base H RS (B ++ [i]) v4 v' w8 → Below H W w8 → wpList Tryz.prog ops Q rest (a.put o.dst v') w8) :
    wpList Tryz.prog ops Q (o :: rest) a (W.alloc (.cells #[.int .i64 i] 3)) := by
  subst hzW
  obtain ⟨i0, hi0, hz0, hz1, hz2⟩ := info_parts info3Q
  obtain ⟨xl, lcap, rfl⟩ := OwnI_form hO.bas
  have hown : W.ownsRow H 3 1 (.slice xl B.length lcap) B.length (zints B) := hO.bas
  refine wpList_append_lies _ hgd s x _ ho H 3 i0 _ 1 8 Tryz.underlying37 hi0 hz0 hz1 hz2 rfl (by omega) (.slice xl B.length lcap) B.length (zints B) hs (hown.alloc _) ⟨W.heap.size, 0, none⟩ 1 1 [.int .i64 i] hx rfl
    (World.news_of_block (cs := #[.int .i64 i]) (t := 3) (fr := (0, 0)) (heap_alloc_new W _)) (fun u hu => by simp only [List.mem_cons, List.not_mem_nil, or_false] at hu; subst hu; rfl) (by omega) (by unfold maxLen; omega) (by omega) (by rw [World.size_alloc]; omega) (W.heap.size + 1) (by rw [World.size_alloc]) ?_
  intro g cap w8 ho8 hg hat _
  exact h _ _ (hO.bpush ho8 hg hat) (((Below.refl H W).alloc hH _).grown hg (by rw [World.size_alloc]; omega) (fun q hq => (hown.lt q hq).1))
/-- Bounds of the reference's rows. -/
theorem rows_bnd {C ts : List Tm} (hA : AscT C) (hC : ∀ x ∈ ts, ∀ u ∈ summT x, u ∈ C) {m : Nat} (hm : m ≤ ts.length) : ∀ a ∈ (rowsT ts m).1, 0 < a.length ∧ a.length ≤ C.length ∧ ∀ u ∈ a, u ∈ C := by
  obtain ⟨_, _, _, _, L, h5, h6, _⟩ := rowsT_ech hC m hm
  intro a ha
  rw [h5] at ha
  obtain ⟨p, hp, rfl⟩ := List.mem_map.1 ha
  have h := h6 p hp
  exact ⟨h.pos, asc_sub_len C p.1 hA h.asc h.sub, h.sub⟩
theorem red_bnd {C ts : List Tm} (hA : AscT C) (hC : ∀ x ∈ ts, ∀ u ∈ summT x, u ∈ C) {m : Nat} (hm : m ≤ ts.length) {t : Tm} (ht : ∀ u ∈ summT t, u ∈ C) (k : Nat) : (redT ((rowsT ts m).1.take k) (summT t)).length ≤ C.length ∧ ∀ u ∈ redT ((rowsT ts m).1.take k) (summT t), u ∈ C := by
  obtain ⟨_, _, _, _, L, h5, h6, _⟩ := rowsT_ech hC m hm
  rw [h5, ← List.map_take]
  obtain ⟨_, r2, r3⟩ := redT_chi (L.take k) (fun p hp => h6 p (List.mem_of_mem_take hp)) (summT t) (summT_asc t) ht
  exact ⟨asc_sub_len C _ hA r2 r3, r3⟩
/-- What rows gives back. -/
def RowsPost (ts : List Tm) (w : World) (e : Ending) (w' : World) : Prop :=
  ∃ RS v4 v5, e = .returned (.tuple #[v4, v5]) ∧ RS.map (·.P) = (rowsT ts ts.length).1 ∧ RwsAt w.heap.size RS v4 w' ∧ OwnI w.heap.size w' ((rowsT ts ts.length).2.map fun (i : Nat) => (i : Int)) v5 ∧ sumF RS + 1 ≤ 2 ^ RS.length ∧ RS.length ≤ ts.length ∧ Ext w w'
set_option maxHeartbeats 6400000 in
set_option maxRecDepth 100000 in
theorem rrows8_any (ts C : List Tm) (xl : Option Addr) (cl : Nat) (w : World) (hn : ts.length ≤ 20) (hA : AscT C) (hC : ∀ x ∈ ts, ∀ u ∈ summT x, u ∈ C) (hCl : C.length ≤ 500000) (hCs : ∀ u ∈ C, size u ≤ 1048576) (hsz : ∀ u ∈ ts, size u ≤ 1048576) (hL : Row w ts xl) :
    Calls Tryz.prog 46 #[.slice xl ts.length cl] w (RowsPost ts w) := by
  have HLR := Lib.hid (Row_RowInQ _ _ hL)
  have HSZ := Lib.hid hsz
  have HRB := Lib.hid (fun m (hm : m ≤ ts.length) => rows_bnd hA hC hm)
  have HDB := Lib.hid (fun m (hm : m ≤ ts.length) (t : Tm) (ht : t ∈ ts) k => red_bnd hA hC hm (t := t) (hC t ht) k)
  have HCS := Lib.hid hCs
  clear hL hsz hC hCs hA
  go_enter Tryz.func46, Tryz.ntmps46
  go_wp2_with fail
  go_loopw [4, 5, 6] (fun v4 v5 i wr => ∃ (j : Nat) (RS : List RwM) (B : List Int), j ≤ ts.length ∧ i = .int .i64 j ∧ Hid (RS.map (·.P) = (rowsT ts j).1) ∧ Hid (B = (rowsT ts j).2.map fun (i : Nat) => (i : Int)) ∧ RwsQ w.heap.size w.heap.size RS B v4 v5 wr ∧ Hid (sumF RS + 1 ≤ 2 ^ RS.length) ∧ RS.length ≤ j ∧ B.length ≤ j ∧ Ext w wr) (fun _ _ i _ => ts.length - (intOf i).toNat)
  case atStart => exact ⟨0, [], [], Nat.zero_le _, rfl, rfl, rfl, ⟨World.ownsRow_nil _ _ _ _, OwnI_nil _ _, fun r hr => absurd hr (by simp), fun b hb => by simp [Value.ownBlock] at hb⟩, Nat.le_refl _, Nat.le_refl _, Nat.le_refl _, Ext.refl _⟩
  case round =>
    obtain ⟨j, RS, B, hj, rfl, HP, HBB, hQ, HSF, hrl, hbl, hX⟩ := hrel
    have HQ := Lib.hid hQ
    have HX := Lib.hid hX
    by_cases hlt : j < ts.length
    rotate_left
    · have hjl : j = ts.length := by omega
      have HF : ∀ v4 v5, RwsQ w.heap.size w.heap.size RS B v4 v5 wr → Hid (RowsPost ts w (.returned (.tuple #[v4, v5])) wr) := fun v4 v5 h => by
        have h1 := HP.out
        have h2 := HBB.out
        rw [hjl] at h1 h2
        rw [h2] at h
        exact ⟨RS, v4, v5, rfl, h1, h.rows, h.bas, HSF.out, by omega, HX.out⟩
      have HFF := HF _ _ hQ
      clear hQ hX HF
      go_wp2_with fail
      exact bodyPost_ret (by simp [results, Tryz.results46, go_sem]) rfl HFF.out
    obtain ⟨kb, ko, rfl⟩ := RowIn_at HLR.out (by omega)
    obtain ⟨_, x0, x1, x2, x3, p0, p1, p2, p3, hKI⟩ := LiesIn_carry (w' := wr) (S' := fun q => q < w.heap.size) (fun q (hq : q < w.heap.size) => hX.block q hq) (fun _ h => h) (RowIn_get HLR.out j hlt)
    obtain ⟨k1, n1, s1, ya1, yl1, yc1, rfl, rfl, rfl, rfl⟩ := IsIn_form hKI
    have HC := Lib.hid (rsummandsN_any w.heap.size 1048576 ts[j] _ _ _ _ wr hX.size (HSZ.out _ (List.getElem_mem hlt)) (Nat.le_refl _) hKI)
    have hws : w.heap.size ≤ wr.heap.size := hX.size
    have HWS := Lib.hid hws
    have hgd : ts.getD j zilT = ts[j] := by rw [List.getD_eq_getElem?_getD, List.getElem?_eq_getElem hlt]; rfl
    have hpw : 2 ^ RS.length ≤ 1048576 := Nat.le_trans (Nat.pow_le_pow_right (by omega) (by omega : RS.length ≤ 20)) (by decide)
    obtain ⟨xr, cr, e4⟩ := hQ.form
    subst e4
    obtain ⟨xb, cb, e5⟩ := OwnI_form hQ.bas
    subst e5
    have HRD : Hid (∀ W4 v19, Elems (fun b => b < w.heap.size) W4 (summT ts[j]) v19 → Ext wr W4 → FrV wr.heap.size v19 → ∀ z, W4.heap.size = z → Calls Tryz.prog 52 #[.slice xr RS.length cr, .agg #[v19, .slice (some ⟨z, 0, none⟩) 1 1]] (W4.alloc (.cells #[.int .i64 j] 3)) (RedPost w.heap.size (ownT (.slice xr RS.length cr) (.slice xb B.length cb)) RS ⟨summT ts[j], [(j : Int)], v19, .slice (some ⟨z, 0, none⟩) 1 1⟩ (W4.alloc (.cells #[.int .i64 j] 3)))) := by
      show ∀ _, _
      intro W4 v19 h1 h2 h3 z hz
      subst hz
      have hlt4 := HQ.out.lt
      have hx5 : Ext wr (W4.alloc (.cells #[.int .i64 j] 3)) := h2.alloc _
      have hs5 := h2.size
      refine rred8_any w.heap.size (ownT (.slice xr RS.length cr) (.slice xb B.length cb)) RS _ ⟨summT ts[j], [(j : Int)], v19, .slice (some ⟨W4.heap.size, 0, none⟩) 1 1⟩ _ (fun b hb => ?_) ?_ (HQ.out.ext hx5).rows (fun r hr => ?_) (fun V k => ?_) (fun k hk => ?_) ?_ (by omega)
      · have := hlt4 b hb
        rw [World.size_alloc]; omega
      · rw [World.size_alloc]; omega
      · have h := HRB.out j hj r.P (by rw [← HP.out]; exact List.mem_map.2 ⟨r, hr, rfl⟩)
        exact ⟨h.1, by omega, fun u hu => by have := HCS.out u (h.2.2 u hu); omega⟩
      · have hE5 : Elems (fun b => b < w.heap.size) (W4.alloc (.cells #[.int .i64 j] 3)) (summT ts[j]) v19 := Elems_ext h1 (fun b (hb : b < w.heap.size) => by omega) ((Ext.refl W4).alloc _)
        refine ⟨Elems_off hE5 h3 (by rw [World.size_alloc]; omega) (fun b hb => ?_) k, ?_⟩
        · have := hlt4 b hb; omega
        · refine IntsV_off (B := wr.heap.size) (w := W4.alloc (.cells #[.int .i64 j] 3)) (F := [(j : Int)]) (intsV_own (OwnI_one W4.heap.size W4 j (Nat.le_refl _)) (fun x hx => ?_) (by simp [maxLen])) (fun b hb => ?_) (fun b hb => (hlt4 b hb).2) k
          · rw [List.mem_singleton.1 hx]; omega
          · simp only [Value.ownBlock, Option.some.injEq] at hb; omega
      · have h := HDB.out j hj ts[j] (List.getElem_mem hlt) k
        rw [HP.out]
        exact ⟨by have := h.1; simp only; omega, fun u hu => by have := HCS.out u (h.2 u hu); omega⟩
      · have := HSF.out
        simp only [List.length_cons, List.length_nil]
        omega
    have i1 : (0 : Int) ≤ (j : Int) := by omega
    have i2 : (j : Int) < (ts.length : Int) := by omega
    have HRT : Hid (rowsT ts (j + 1) = if (redT (rowsT ts j).1 (summT ts[j])).length = 0 then rowsT ts j else ((rowsT ts j).1 ++ [redT (rowsT ts j).1 (summT ts[j])], (rowsT ts j).2 ++ [j])) := by show _ = _; rw [rowsT, hgd]
    clear hQ hX hKI hgd
    go_upto_region 7 with (first
      | (go_at_call 41; refine (HC.out).mono ?_; rintro e w4 ⟨v19, he, h1, h2, h3⟩; obtain ⟨x19, c19, e19, _⟩ := Elems_row h1; subst e19; subst he; have HF4 := Lib.hid (And.intro h1 (And.intro h2 h3)); clear h1 h2 h3)
      | (go_at_call 52; refine (HRD.out _ _ HF4.out.1 HF4.out.2.1 HF4.out.2.2 _ rfl).mono ?_; rintro e w6 ⟨y, he, hy1, hy2, hy3, hB⟩; obtain ⟨P, F, vp, vf⟩ := y; obtain ⟨⟨xp, cp, ep⟩, xf, cf, ef⟩ := hy3.form; simp only at ep ef hy1 hy2 he; subst ep ef; subst he; have HY := Lib.hid (And.intro hy1 (And.intro hy2 hy3)); have HX6 : Hid (Ext wr w6) := Lib.hid (Ext.trans (Ext.alloc (show Ext wr w4 from HF4.out.2.1) _) hB); clear hy1 hy2 hy3 hB))
    have hbn := heap_alloc_new w6 (.cells #[.slice xp P.length cp, .slice xf F.length cf] 80)
    have hA7 : Ext w6 (w6.alloc (.cells #[.slice xp P.length cp, .slice xf F.length cf] 80)) := (Ext.refl w6).alloc _
    obtain ⟨H7, hH7⟩ : ∃ H, w6.heap.size = H := ⟨_, rfl⟩
    rw [hH7] at hbn ⊢
    have hQ7 := HQ.out.ext (HX6.out.trans hA7)
    have hy7 := HY.out.2.2.next (AgS.ofExt hA7)
    have hx7 : Ext w (w6.alloc (.cells #[.slice xp P.length cp, .slice xf F.length cf] 80)) := HX.out.trans (HX6.out.trans hA7)
    generalize w6.alloc (.cells #[.slice xp P.length cp, .slice xf F.length cf] 80) = w7 at hbn hQ7 hy7 hx7 ⊢
    obtain ⟨⟨r0, r1⟩, _⟩ := box2_facts hbn
    have HQ7 := Lib.hid hQ7
    have HY7 := Lib.hid hy7
    have HX7 := Lib.hid hx7
    have HWS7 : Hid (w.heap.size ≤ w7.heap.size) := Lib.hid hx7.size
    have hPe := HY.out.1
    rw [HP.out] at hPe
    have HPE := Lib.hid hPe
    have hfl : F.length ≤ 1 + sumF RS := HY.out.2.1
    have HFL := Lib.hid hfl
    clear hbn hA7 hH7 hQ7 hy7 hx7 hPe hfl
    by_cases h0 : P.length = 0
    · have h0' : decide (0 < P.length) = false := decide_eq_false (by omega)
      have h0d : decide ((0 : Int) < (P.length : Int)) = false := decide_eq_false (by omega)
      have HR1 : Hid (rowsT ts (j + 1) = rowsT ts j) := by show _ = _; rw [HRT.out, ← HPE.out, if_pos h0]
      have h0n : ¬ 0 < P.length := by omega
      clear h0
      go_wp2_with fail
      go_roundw
      case rel => exact ⟨j + 1, RS, B, by omega, by go_num, by show _ = _; rw [HR1.out]; exact HP.out, by show _ = _; rw [HR1.out]; exact HBB.out, HQ7.out, HSF, by omega, by omega, HX7.out⟩
      case measure => simp [intOf]; omega
    have h0' : decide (0 < P.length) = true := decide_eq_true (by omega)
    have h0d : decide ((0 : Int) < (P.length : Int)) = true := decide_eq_true (by omega)
    have HR1 : Hid (rowsT ts (j + 1) = ((rowsT ts j).1 ++ [P], (rowsT ts j).2 ++ [j])) := by show _ = _; rw [HRT.out, ← HPE.out, if_neg h0]
    have hrl20 : RS.length ≤ 1048576 := by omega
    have hbl20 : B.length ≤ 1073741824 := by omega
    have HRL := Lib.hid (And.intro hrl20 hbl20)
    have h0n : 0 < P.length := by omega
    clear h0 hrl20 hbl20
    go_wp2_with (first
      | (at_builtin; refine wpList_append_rw (y := ⟨P, F, .slice xp P.length cp, .slice xf F.length cf⟩) rfl _ _ rfl HQ7.out HWS7.out HRL.out.1 HY7.out ⟨rfl, rfl⟩ rfl (by first | rfl | simp) rfl ?_; intro v8 w8 hQ8 hB8; have HQ8 := Lib.hid hQ8; have HX8 : Hid (Ext w w8) := Lib.hid (Below.trans HX7.out hB8); clear hQ8 hB8)
      | (at_builtin; refine wpList_append_bs rfl _ _ rfl HQ8.out HX8.out.size HRL.out.2 rfl (by first | rfl | simp) rfl ?_; intro v9 w9 hQ9 hB9; have HQ9 := Lib.hid hQ9; have HX9 : Hid (Ext w w9) := Lib.hid (Below.trans HX8.out hB9); clear hQ9 hB9))
    go_roundw
    case rel =>
      refine ⟨j + 1, RS ++ [⟨P, F, .slice xp P.length cp, .slice xf F.length cf⟩], B ++ [(j : Int)], by omega, by go_num, ?_, ?_, HQ9.out, ?_, by simp; omega, by simp; omega, HX9.out⟩
      · show _ = _
        rw [HR1.out, List.map_append, HP.out]; rfl
      · show _ = _
        rw [HR1.out, HBB.out, List.map_append]; rfl
      · show _ ≤ _
        have h1 := HSF.out
        have h2 := HFL.out
        rw [sumF_snoc, List.length_append, List.length_cons, List.length_nil, Nat.zero_add, Nat.pow_succ]
        simp only
        omega
    case measure => simp [intOf]; omega
end Go.Proofs.YtfbomoginjknlaaGreatDoor

/-
  THE WALKS OF Basis AND Rank, AND OF THE REFERENCE'S Basis AND Span.
-/
namespace Go.Proofs.YtfbomoginjknlaaGreatDoor
open Go.RowKit Go.Lib

/-- The basis of a list, or its error. -/
def basP (ts : List Tm) : List Int × Int := if listE ts = 0 then ((rowsT ts ts.length).2.map fun (i : Nat) => (i : Int), 0) else ([], listE ts)
def BasPost (ts : List Tm) (w : World) (e : Ending) (w' : World) : Prop :=
  ∃ v, e = .returned (.tuple #[v, .int .i64 (basP ts).2]) ∧ IntsV w' v (basP ts).1 ∧ (basP ts).1.length ≤ ts.length ∧ Ext w w'
/-- The columns of a list, as plain data. -/
theorem cols_ex (ts : List Tm) : ∃ C, ColsT C ts := by
  have hp := List.mergeSort_perm (ts.flatMap summT) (fun x y => decide (¬ cmpT y x < 0))
  have ha : AscQ ((ts.flatMap summT).mergeSort (fun x y => decide (¬ cmpT y x < 0))) := (List.pairwise_mergeSort (le := fun x y => decide (¬ cmpT y x < 0)) (fun a b c h1 h2 => decide_eq_true (cmpT_ntrans (of_decide_eq_true h2) (of_decide_eq_true h1))) (fun a b => by
    rw [Bool.or_eq_true, decide_eq_true_eq, decide_eq_true_eq]
    rcases Classical.em (cmpT b a < 0) with h | h
    · right
      intro h2
      have := cmpT_trans h h2
      rw [cmpT_self] at this
      omega
    · exact Or.inl h) _).imp fun h => of_decide_eq_true h
  generalize (ts.flatMap summT).mergeSort (fun x y => decide (¬ cmpT y x < 0)) = l at hp ha
  have m1 := uniqT_mem _ l (Nat.le_refl _)
  refine ⟨uniqT l, uniqT_asc _ l (Nat.le_refl _) ha, fun u => ?_, ?_, fun u hu => ?_⟩
  · rw [m1, hp.mem_iff, List.mem_flatMap]
  · have := uniqT_len _ l (Nat.le_refl _)
    have := hp.length_eq
    have := sumsL_len ts
    omega
  · exact sumsL_small (hp.mem_iff.1 ((m1 u).1 hu))
theorem rowsT_len (ts : List Tm) : ∀ m, (rowsT ts m).2.length ≤ m
  | 0 => Nat.le_refl _
  | m + 1 => by
    rw [rowsT]
    have := rowsT_len ts m
    split
    · omega
    · simp only [List.length_append, List.length_cons, List.length_nil]; omega
theorem rowsT_mem (ts : List Tm) : ∀ m, ∀ i ∈ (rowsT ts m).2, i < m
  | 0, i, h => absurd h (by simp [rowsT])
  | m + 1, i, h => by
    rw [rowsT] at h
    split at h
    · exact Nat.lt_succ_of_lt (rowsT_mem ts m i h)
    · rcases List.mem_append.1 h with h | h
      · exact Nat.lt_succ_of_lt (rowsT_mem ts m i h)
      · rw [List.mem_singleton.1 h]; exact Nat.lt_succ_self m
theorem basP_len (ts : List Tm) : (basP ts).1.length ≤ ts.length := by
  unfold basP
  split
  · simp only [List.length_map]; exact rowsT_len ts _
  · exact Nat.zero_le _
/-- The elements of the basis as they are collected. -/
def elI (ps : List PvM) : List Int := ps.map fun p => (p.i : Int)
theorem elI_take (ps : List PvM) (j : Nat) (h : j < ps.length) : elI (ps.take (j + 1)) = elI (ps.take j) ++ [((ps[j].i : Nat) : Int)] := by
  unfold elI
  rw [List.take_succ_eq_append_getElem h, List.map_append]; rfl
theorem elI_len (ps : List PvM) : (elI ps).length = ps.length := by unfold elI; rw [List.length_map]
theorem elI_pvB (ps : List PvM) : elI ps = ((ps.map pvB).map (·.i)).map fun (i : Nat) => (i : Int) := by
  unfold elI
  rw [List.map_map, List.map_map]; rfl
set_option maxHeartbeats 3200000 in
set_option maxRecDepth 100000 in
theorem Basis8_any (ts : List Tm) (xl : Option Addr) (cl : Nat) (w : World) (hn : ts.length ≤ 1000000) (hsz : sizes ts ≤ 1048576) (hcl : ts.length ≤ cl) (hT : TabQ w) (hL : Row w ts xl) :
    Calls Tryz.prog 18 #[.slice xl ts.length cl] w (BasPost ts w) := by
  have hmem : ∀ u ∈ ts, size u ≤ 1048576 := fun u hu => by have := size_le_sizes hu; omega
  have HLE := Lib.hid (listError_any ts xl cl w (by omega) (fun u hu => by have := hmem u hu; omega) hL)
  have HEL : Hid (∀ W, Ext w W → Calls Tryz.prog 45 #[.slice xl ts.length cl, .slice none 0 0] W (EliPost ts ts W)) := by
    show ∀ _, _
    intro W y
    exact eliminate_any ts [] ts xl none cl 0 W (by simp) (by omega) hsz hcl (Nat.le_refl _) (hT.ext y) (Row_below hL y) (by simp [Row])
  have HN := Lib.hid hn
  clear hL hT hmem hsz hcl
  have HB : Hid (basP ts = if listE ts = 0 then ((rowsT ts ts.length).2.map fun (i : Nat) => (i : Int), 0) else ([], listE ts)) := rfl
  have HBL := Lib.hid (basP_len ts)
  obtain ⟨E, hE⟩ : ∃ E, listE ts = E := ⟨_, rfl⟩
  rw [hE] at HLE HB
  by_cases h0 : E = 0
  rotate_left
  · have HQ : Hid (∀ W, Ext w W → BasPost ts w (.returned (.tuple #[.slice none 0 0, .int .i64 E])) W) := by
      show ∀ _, _
      intro W x
      have e := HB.out
      rw [if_neg h0] at e
      unfold BasPost
      rw [e]
      exact ⟨_, rfl, IntsV_none _, Nat.zero_le _, x⟩
    have q0 : (E != 0) = true := bne_iff_ne.2 h0
    clear h0 hE
    go_enter Tryz.func18, Tryz.ntmps18
    go_wp2_with (go_at_call 33; refine (HLE.out).mono ?_; rintro e w3 ⟨he, hB⟩; subst he; have HX3 := Lib.hid hB; clear hB)
    exact bodyPost_ret (v := .tuple #[.slice none 0 0, .int .i64 E]) (by simp [results, Tryz.results18, go_sem]) rfl (HQ.out _ HX3.out)
  subst h0
  have q0 : ((0 : Int) != 0) = false := rfl
  have HQ : Hid (∀ W v, IntsV W v ((rowsT ts ts.length).2.map fun (i : Nat) => (i : Int)) → Ext w W → BasPost ts w (.returned (.tuple #[v, .int .i64 0])) W) := by
    show ∀ _, _
    intro W v h x
    have e := HB.out
    rw [if_pos rfl] at e
    have hl := HBL.out
    unfold BasPost
    rw [e] at hl ⊢
    exact ⟨v, rfl, h, hl, x⟩
  clear hE
  go_enter Tryz.func18, Tryz.ntmps18
  go_upto_region 5 with (go_at_call 33; refine (HLE.out).mono ?_; rintro e w3 ⟨he, hB⟩; subst he; have HX3 := Lib.hid hB; clear hB)
  have HE3 := Lib.hid (HEL.out w3 HX3.out)
  go_upto_region 6 with (go_at_call 45; refine (HE3.out).mono ?_; rintro e w5 ⟨eb, C, ps, v, he, hf⟩; subst he; have hpc := hf.el.pv; obtain ⟨xv, cv, hv⟩ := hf.el.nlen; subst hv; have HF5 := Lib.hid hf; have HX5 := Lib.hid (HX3.out.trans hf.ext); clear hf)
  have hel5 := HF5.out.el
  have hpl := HF5.out.len
  have hnl := HN.out
  have HBE : Hid ((rowsT ts ts.length).2.map (fun (i : Nat) => (i : Int)) = elI ps) := by
    show _ = _
    rw [basis_eq (C := C) (fun x hx u hu => (HF5.out.cols.mem u).2 ⟨x, hx, hu⟩) HF5.out.elm, elI_pvB]
  have HEX := Lib.hid (fun W (x : Ext w5 W) => hel5.ext x)
  have HPR : Hid (∀ p ∈ ps, p.i < ts.length) := by
    show ∀ _, _
    intro p hp
    have := (HF5.out.elm.basis p.i).1 (List.mem_map.2 ⟨pvB p, List.mem_map.2 ⟨p, hp, rfl⟩, rfl⟩)
    exact this.1
  generalize (C.length + 63) / 64 = n1 at HEX hel5
  generalize (ts.length + 63) / 64 = n2 at HEX hel5
  clear hel5 hpc
  go_loopw [5, 19] (fun v5 i wr => ∃ j : Nat, j ≤ ps.length ∧ i = .int .i64 j ∧ OwnI w5.heap.size wr (elI (ps.take j)) v5 ∧ Ext w5 wr) (fun _ i _ => ps.length - (intOf i).toNat)
  case atStart => exact ⟨0, Nat.zero_le _, rfl, OwnI_nil _ _, Ext.refl _⟩
  case round =>
    obtain ⟨j, hj, rfl, hO, hX⟩ := hrel
    have HX := Lib.hid hX
    obtain ⟨xr, cr, rfl⟩ := OwnI_form hO
    by_cases hlt : j < ps.length
    rotate_left
    · have hjl : j = ps.length := by omega
      rw [hjl, List.take_length] at hO ⊢
      have hV : IntsV wr (.slice xr (elI ps).length cr) (elI ps) := intsV_own hO (fun x hx => by
        unfold elI at hx
        obtain ⟨p, hp, rfl⟩ := List.mem_map.1 hx
        have := HPR.out p hp
        omega) (by rw [elI_len]; unfold maxLen; omega)
      have HQQ := Lib.hid (HQ.out wr _ (by rw [HBE.out]; exact hV) (HX5.out.trans hX))
      clear hO hX hjl hV
      go_wp2_with fail
      exact bodyPost_ret (v := .tuple #[.slice xr (elI ps).length cr, .int .i64 0]) (by simp [results, Tryz.results18, go_sem]) rfl HQQ.out
    have hel := HEX.out wr hX
    rcases hel.form with ⟨_, e9⟩ | ⟨g, cap, e9, hg1, hg2, hg3⟩
    · rw [e9] at hlt; exact absurd hlt (by simp)
    simp only [Value.slice.injEq, true_and] at e9
    obtain ⟨rfl, rfl⟩ := e9
    obtain ⟨p0, p1, p2, p3⟩ := hel.cells j hlt
    have htk := elI_take ps j hlt
    generalize ps[j] = P at p0 p1 p2 p3 htk
    have hA6 : Ext wr (wr.alloc (.cells #[.slice (some ⟨P.gs, 0, none⟩) n1 n1, .slice (some ⟨P.ge, 0, none⟩) n2 n2, .int .i64 P.c, .int .i64 P.i] 71)) := (Ext.refl wr).alloc _
    have hO6 := OwnI_ext hO hA6
    have hX6 : Ext w5 (wr.alloc (.cells #[.slice (some ⟨P.gs, 0, none⟩) n1 n1, .slice (some ⟨P.ge, 0, none⟩) n2 n2, .int .i64 P.c, .int .i64 P.i] 71)) := hX.trans hA6
    have hcl2 : (elI (ps.take j)).length ≤ 1073741824 := by rw [elI_len, List.length_take]; omega
    have HO6 := Lib.hid (And.intro hO6 hX6)
    have HCL2 := Lib.hid hcl2
    have HWS6 : Hid (w5.heap.size ≤ (wr.alloc (.cells #[.slice (some ⟨P.gs, 0, none⟩) n1 n1, .slice (some ⟨P.ge, 0, none⟩) n2 n2, .int .i64 P.c, .int .i64 P.i] 71)).heap.size) := Lib.hid hX6.size
    have HTK := Lib.hid htk
    have i1 : (0 : Int) ≤ (j : Int) := by omega
    have i2 : (j : Int) < (ps.length : Int) := by omega
    clear hO hX hel hA6 hO6 hX6 hcl2 htk
    go_wp2_with (at_builtin; refine wpList_append_int rfl _ _ rfl HO6.out.1 HWS6.out HCL2.out rfl (by first | rfl | simp) rfl ?_; intro v9 w9 hO9 hB9 hs9; have HO9 := Lib.hid hO9; have HB9 : Hid (Ext w5 w9) := Lib.hid (Below.trans HO6.out.2 hB9); clear hO9 hB9 hs9)
    go_roundw
    case rel => exact ⟨j + 1, by omega, by go_num, by rw [HTK.out]; exact HO9.out, HB9.out⟩
    case measure => simp [intOf]; omega
set_option maxHeartbeats 1600000 in
set_option maxRecDepth 100000 in
theorem Rank8_any (ts : List Tm) (xl : Option Addr) (cl : Nat) (w : World) (hn : ts.length ≤ 1000000) (hsz : sizes ts ≤ 1048576) (hcl : ts.length ≤ cl) (hT : TabQ w) (hL : Row w ts xl) :
    Calls Tryz.prog 17 #[.slice xl ts.length cl] w fun e w' => e = .returned (.tuple #[.int .i64 (basP ts).1.length, .int .i64 (basP ts).2]) ∧ Ext w w' := by
  have HBS := Lib.hid (Basis8_any ts xl cl w hn hsz hcl hT hL)
  clear hT hL hsz hcl
  go_enter Tryz.func17, Tryz.ntmps17
  go_wp2_with (go_at_call 18; refine (HBS.out).mono ?_; rintro e w3 ⟨v, he, hV, _, hB⟩; obtain ⟨xa, cap, hv, _⟩ := id hV; subst hv; subst he; have HX3 := Lib.hid hB; clear hB hV)
  exact bodyPost_ret (v := .tuple #[.int .i64 (basP ts).1.length, .int .i64 (basP ts).2]) (by simp [results, Tryz.results17, go_sem]) rfl ⟨rfl, HX3.out⟩
theorem few_pow {n : Nat} (h : n ≤ 20) : 2 ^ n ≤ 1048576 := Nat.le_trans (Nat.pow_le_pow_right (by omega) h) (by decide)
theorem sizes_snoc : ∀ (l : List Tm) (u : Tm), sizes (l ++ [u]) = sizes l + size u
  | [], u => by simp [sizes]
  | x :: l, u => by rw [List.cons_append, sizes, sizes, sizes_snoc l u]; omega
set_option maxHeartbeats 3200000 in
set_option maxRecDepth 100000 in
theorem rBasis8_any (ts : List Tm) (xa : Option Addr) (cap : Nat) (w : World) (hn : ts.length ≤ 20) (hsz : sizes ts ≤ 500000) (hR : Row w ts xa) :
    Calls Tryz.prog 19 #[.slice xa ts.length cap] w (BasPost ts w) := by
  have hmem : ∀ t ∈ ts, size t ≤ 1048576 := fun t ht => by have := size_le_sizes ht; omega
  obtain ⟨C, hC⟩ := cols_ex ts
  have HVL := Lib.hid (fun W x3 (x : Ext w W) => (by
    have h := rvalid_any ts zroT xa cap _ _ _ _ W (by omega) (fun t ht => by have := hmem t ht; omega) (by simp [zroT, size, sizes]) (Row_below (w' := W) hR x) (IsIn_Is _ _ _ _ _ (zroT_in (fun _ => True) W x3 0))
    rw [vE_zro] at h
    exact h : Calls Tryz.prog 38 #[.slice xa ts.length cap, .agg #[.int .i64 3, .string ⟨#[122, 101, 114, 111]⟩, .int .i64 0, .slice x3 0 0]] W fun e w' => e = .returned (.int .i64 (listE ts)) ∧ Ext W w'))
  have HZR := Lib.hid rzero_any
  unfold ZrPost at HZR
  have HRW := Lib.hid (fun W (x : Ext w W) => rrows8_any ts C xa cap W hn hC.asc (fun x hx u hu => (hC.mem u).2 ⟨x, hx, hu⟩) (by have := hC.len; omega) (fun u hu => by have := hC.small u hu; omega) hmem (Row_below (w' := W) hR x))
  have HB : Hid (basP ts = if listE ts = 0 then ((rowsT ts ts.length).2.map fun (i : Nat) => (i : Int), 0) else ([], listE ts)) := rfl
  have HBL := Lib.hid (basP_len ts)
  obtain ⟨E, hE⟩ : ∃ E, listE ts = E := ⟨_, rfl⟩
  rw [hE] at HVL HB
  clear hR hmem hsz hE hC
  by_cases h0 : E = 0
  rotate_left
  · have HQ : Hid (∀ W, Ext w W → BasPost ts w (.returned (.tuple #[.slice none 0 0, .int .i64 E])) W) := by
      show ∀ _, _
      intro W x
      have e := HB.out
      rw [if_neg h0] at e
      unfold BasPost
      rw [e]
      exact ⟨_, rfl, IntsV_none _, Nat.zero_le _, x⟩
    have q0 : (E != 0) = true := bne_iff_ne.2 h0
    clear h0
    go_enter Tryz.func19, Tryz.ntmps19
    go_wp2_with (first
      | (go_at_call 39; refine (HZR.out _).mono ?_; rintro e w2 ⟨x2, he, hB⟩; subst he; have HX2 := Lib.hid hB; clear hB)
      | (go_at_call 38; refine (HVL.out _ _ HX2.out).mono ?_; rintro e w3 ⟨he, hB⟩; subst he; have HX3 := Lib.hid (HX2.out.trans hB); clear hB))
    exact bodyPost_ret (v := .tuple #[.slice none 0 0, .int .i64 E]) (by simp [results, Tryz.results19, go_sem]) rfl (HQ.out _ HX3.out)
  subst h0
  have q0 : ((0 : Int) != 0) = false := rfl
  have HQ : Hid (∀ W0 W v, OwnI W0 W ((rowsT ts ts.length).2.map fun (i : Nat) => (i : Int)) v → Ext w W → BasPost ts w (.returned (.tuple #[v, .int .i64 0])) W) := by
    show ∀ _, _
    intro W0 W v h x
    have e := HB.out
    rw [if_pos rfl] at e
    have hl := HBL.out
    unfold BasPost
    rw [e] at hl ⊢
    refine ⟨v, rfl, intsV_own h (fun x hx => ?_) (by simp only [List.length_map] at hl ⊢; unfold maxLen; omega), hl, x⟩
    obtain ⟨i, hi, rfl⟩ := List.mem_map.1 hx
    have := rowsT_mem ts _ i hi
    omega
  go_enter Tryz.func19, Tryz.ntmps19
  go_wp2_with (first
    | (go_at_call 39; refine (HZR.out _).mono ?_; rintro e w2 ⟨x2, he, hB⟩; subst he; have HX2 := Lib.hid hB; clear hB)
    | (go_at_call 38; refine (HVL.out _ _ HX2.out).mono ?_; rintro e w3 ⟨he, hB⟩; subst he; have HX3 := Lib.hid (HX2.out.trans hB); clear hB)
    | (go_at_call 46; refine (HRW.out _ HX3.out).mono ?_; rintro e w4 ⟨RS, v4, v5, he, _, _, ho, _, _, hB⟩; subst he; have HQ4 := Lib.hid (HQ.out _ _ _ ho (HX3.out.trans hB)); clear hB ho))
  exact bodyPost_ret (v := .tuple #[v5, .int .i64 0]) (by simp [results, Tryz.results19, go_sem]) rfl HQ4.out
/-- The error of the reference's Span. -/
def spE (ts : List Tm) (t : Tm) : Int := if vE ts t = 0 then (if (redT (rowsT ts ts.length).1 (summT t)).length = 0 then 0 else 4) else vE ts t
set_option maxHeartbeats 3200000 in
set_option maxRecDepth 100000 in
theorem rSpan8_any (ts : List Tm) (t : Tm) (xl : Option Addr) (cl : Nat) (c0 c1 c2 c3 : Value) (w : World) (hn : ts.length ≤ 20) (hsz : sizes ts + size t ≤ 500000) (hL : Row w ts xl) (hI : Is w t c0 c1 c2 c3) :
    Calls Tryz.prog 23 #[.slice xl ts.length cl, .agg #[c0, c1, c2, c3]] w fun e w' => (∃ v, e = .returned (.tuple #[v, .int .i64 (spE ts t)])) ∧ Ext w w' := by
  obtain ⟨k2, m2, s2, ya2, yl2, yc2, rfl, rfl, rfl, rfl⟩ := Is_form hI
  have hB1 : Ext w (w.alloc (.cells #[.int .i64 k2, .string m2, .int .i64 s2, .slice ya2 yl2 yc2] 26)) := (Ext.refl _).alloc _
  have HBK : Hid (∀ W, Ext (w.alloc (.cells #[.int .i64 k2, .string m2, .int .i64 s2, .slice ya2 yl2 yc2] 26)) W → W.cell? ⟨w.heap.size, 0, none⟩ = some (.int .i64 k2) ∧ W.cell? ⟨w.heap.size, 1, none⟩ = some (.string m2) ∧ W.cell? ⟨w.heap.size, 2, none⟩ = some (.int .i64 s2) ∧ W.cell? ⟨w.heap.size, 3, none⟩ = some (.slice ya2 yl2 yc2)) := by
    show ∀ _, _
    intro W x
    have hh := x.block w.heap.size (by simp)
    rw [heap_alloc_new] at hh
    exact (box_facts hh).1
  obtain ⟨b0', b1', b2', b3'⟩ := HBK.out _ (Ext.refl _)
  have hmem : ∀ u ∈ ts, size u ≤ 1048576 := fun u hu => by have := size_le_sizes hu; omega
  have HSE := Lib.hid (rvalid_any ts t xl cl _ _ _ _ _ (by omega) (fun u hu => by have := hmem u hu; omega) (by omega) (Row_below hL hB1) (Is_below hI hB1))
  obtain ⟨C, hC⟩ := cols_ex (ts ++ [t])
  have hCl := hC.len
  rw [sizes_snoc] at hCl
  have hCs := hC.small
  rw [sizes_snoc] at hCs
  have hC1 : ∀ x ∈ ts, ∀ u ∈ summT x, u ∈ C := fun x hx u hu => (hC.mem u).2 ⟨x, List.mem_append_left _ hx, hu⟩
  have hC2 : ∀ u ∈ summT t, u ∈ C := fun u hu => (hC.mem u).2 ⟨t, by simp, hu⟩
  have HRW := Lib.hid (fun W (x : Ext w W) => rrows8_any ts C xl cl W hn hC.asc hC1 (by omega) (fun u hu => by have := hCs u hu; omega) hmem (Row_below (w' := W) hL x))
  have HRB := Lib.hid (rows_bnd hC.asc hC1 (Nat.le_refl ts.length))
  have HDB := Lib.hid (fun k => red_bnd hC.asc hC1 (Nat.le_refl ts.length) hC2 k)
  have HCS := Lib.hid hCs
  have HCL := Lib.hid hCl
  have HIN := Lib.hid (Is_IsIn _ _ _ _ _ hI)
  have hst : size t ≤ 1048576 := by omega
  have HST := Lib.hid hst
  have HB1 := Lib.hid hB1
  have HSZ := Lib.hid hsz
  have HP : Hid (spE ts t = if vE ts t = 0 then (if (redT (rowsT ts ts.length).1 (summT t)).length = 0 then 0 else 4) else vE ts t) := rfl
  obtain ⟨VE, hVE⟩ : ∃ VE, vE ts t = VE := ⟨_, rfl⟩
  rw [hVE] at HSE HP
  generalize spE ts t = R at HP ⊢
  clear hL hI hB1 hsz hmem hVE hCl hCs hC1 hC2 hC hst
  by_cases hv : VE = 0
  rotate_left
  · have q0 : (VE != 0) = true := bne_iff_ne.2 hv
    have HR : Hid (R = VE) := by show _ = _; rw [HP.out, if_neg hv]
    clear hv
    go_enter Tryz.func23, Tryz.ntmps23
    go_wp2_with (go_at_call 38; refine (HSE.out).mono ?_; rintro e w3 ⟨he, hB⟩; subst he; have HX3 := Lib.hid (HB1.out.trans hB); clear hB)
    exact bodyPost_ret (v := .tuple #[.slice none 0 0, .int .i64 VE]) (by simp [results, Tryz.results23, go_sem]) rfl ⟨⟨_, by rw [HR.out]⟩, HX3.out⟩
  subst hv
  have q0 : ((0 : Int) != 0) = false := rfl
  have HR : Hid (R = if (redT (rowsT ts ts.length).1 (summT t)).length = 0 then 0 else 4) := by show _ = _; rw [HP.out, if_pos rfl]
  clear HP
  go_enter Tryz.func23, Tryz.ntmps23
  go_upto_region 5 with (first
    | (go_at_call 38; refine (HSE.out).mono ?_; rintro e w3 ⟨he, hB⟩; subst he; have HX3 := Lib.hid hB; clear hB)
    | (go_at_call 46; refine (HRW.out _ (HB1.out.trans HX3.out)).mono ?_; rintro e w4 ⟨RS, v4, v5, he, h1, h2, _, h4, h5, hB⟩; obtain ⟨x4, k4, e4⟩ := h2.form; subst e4; subst he; have HR4 := Lib.hid (And.intro h1 (And.intro h2 (And.intro h4 h5))); have HX4 := Lib.hid (HX3.out.trans hB); have HSZ4 := Lib.hid hB.size; clear hB h1 h2 h4 h5))
  obtain ⟨b0', b1', b2', b3'⟩ := HBK.out _ HX4.out
  obtain ⟨base, hbs⟩ : ∃ base, w3.heap.size = base := ⟨_, rfl⟩
  rw [hbs] at HR4 HSZ4
  have hwb : w.heap.size ≤ base := by rw [← hbs]; exact (HB1.out.trans HX3.out).size
  have HWB := Lib.hid hwb
  have HSU := Lib.hid (rsummandsN_any base 1048576 t _ _ _ _ w4 HSZ4.out HST.out (Nat.le_refl _) (IsIn_carry (S' := fun q => q < base) (fun q (hq : q < w.heap.size) => (HB1.out.trans HX4.out).block q hq) (fun q (hq : q < w.heap.size) => by omega) _ _ _ _ _ HIN.out))
  have HRD : Hid (∀ W v, Elems (fun b => b < base) W (summT t) v → Ext w4 W → Calls Tryz.prog 52 #[.slice x4 RS.length k4, .agg #[v, .slice none 0 0]] W (RedPost base (fun _ => False) RS ⟨summT t, [], v, .slice none 0 0⟩ W)) := by
    show ∀ _, _
    intro W v hE hX
    have hbW : base ≤ W.heap.size := Nat.le_trans HSZ4.out hX.size
    have hpw := few_pow (Nat.le_trans HR4.out.2.2.2 hn)
    refine rred8_any base (fun _ => False) RS _ ⟨summT t, [], v, .slice none 0 0⟩ W (fun b hb => hb.elim) hbW (HR4.out.2.1.ext HSZ4.out hX) (fun r hr => ?_) (fun V k => ⟨Elems_off hE (B := 0) (fun b _ => Nat.zero_le b) hbW (fun b hb => hb.elim) k, IntsV_none _⟩) (fun k hk => ?_) ?_ (by have := HR4.out.2.2.2; omega)
    · have h := HRB.out r.P (by rw [← HR4.out.1]; exact List.mem_map.2 ⟨r, hr, rfl⟩)
      exact ⟨h.1, by have := HCL.out; have := HSZ.out; omega, fun u hu => by have := HCS.out u (h.2.2 u hu); have := HSZ.out; omega⟩
    · have h := HDB.out k
      rw [← HR4.out.1] at h
      exact ⟨by have := h.1; have := HCL.out; have := HSZ.out; simp only; omega, fun u hu => by have := HCS.out u (h.2 u hu); have := HSZ.out; omega⟩
    · have := HR4.out.2.2.1
      simp only [List.length_nil]
      omega
  clear hbs hwb
  go_upto_region 6 with (first
    | (go_at_call 41; refine (HSU.out).mono ?_; rintro e w5 ⟨v5', he, h1, h2, _⟩; obtain ⟨x5, k5, e5, _⟩ := Elems_row h1; subst e5; subst he; have HF5 := Lib.hid (And.intro h1 h2); clear h1 h2)
    | (go_at_call 52; refine (HRD.out _ _ HF5.out.1 HF5.out.2).mono ?_; rintro e w6 ⟨y, he, hy1, _, hy3, hB⟩; obtain ⟨P, F, vp, vf⟩ := y; obtain ⟨⟨xp, cp, ep⟩, xf, cf, ef⟩ := hy3.form; simp only at ep ef hy1 he; subst ep ef; subst he; have HY := Lib.hid hy1; have HX6 : Hid (Ext w w6) := Lib.hid ((HB1.out.trans HX4.out).trans (Ext.trans HF5.out.2 hB)); clear hy1 hy3 hB))
  have hbn := heap_alloc_new w6 (.cells #[.slice xp P.length cp, .slice xf F.length cf] 80)
  have hA7 : Ext w (w6.alloc (.cells #[.slice xp P.length cp, .slice xf F.length cf] 80)) := HX6.out.alloc _
  obtain ⟨H7, hH7⟩ : ∃ H, w6.heap.size = H := ⟨_, rfl⟩
  rw [hH7] at hbn ⊢
  generalize w6.alloc (.cells #[.slice xp P.length cp, .slice xf F.length cf] 80) = w7 at hbn hA7 ⊢
  obtain ⟨⟨r0, r1⟩, _⟩ := box2_facts hbn
  have HX7 := Lib.hid hA7
  have hR2 : R = if P.length = 0 then 0 else 4 := by
    rw [HR.out, HY.out, HR4.out.1]
  by_cases h0 : P.length = 0
  · have h0' : decide (0 < P.length) = false := decide_eq_false (by omega)
    have h0d : decide ((0 : Int) < (P.length : Int)) = false := decide_eq_false (by omega)
    have h0n : ¬ 0 < P.length := by omega
    rw [if_pos h0] at hR2
    have HR2 := Lib.hid hR2
    clear h0 hR2 hbn hA7 hH7
    go_wp2_with fail
    exact bodyPost_ret (v := .tuple #[.slice xf F.length cf, .int .i64 0]) (by simp [results, Tryz.results23, go_sem]) rfl ⟨⟨_, by rw [HR2.out]⟩, HX7.out⟩
  · have h0' : decide (0 < P.length) = true := decide_eq_true (by omega)
    have h0d : decide ((0 : Int) < (P.length : Int)) = true := decide_eq_true (by omega)
    have h0n : 0 < P.length := by omega
    rw [if_neg h0] at hR2
    have HR2 := Lib.hid hR2
    clear h0 hR2 hbn hA7 hH7
    go_wp2_with fail
    exact bodyPost_ret (v := .tuple #[.slice none 0 0, .int .i64 4]) (by simp [results, Tryz.results23, go_sem]) rfl ⟨⟨_, by rw [HR2.out]⟩, HX7.out⟩
end Go.Proofs.YtfbomoginjknlaaGreatDoor
