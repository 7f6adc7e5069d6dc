/-
  ROWS OF THE REFERENCE IN MEMORY; THE WALK OF ITS reduce.
-/
import Derived.Test.YtfbomoginjknlaaDoorQrwp
import Derived.Test.YtfbomoginjknlaaDoorQnew
import Derived.Test.YtfbomoginjknlaaDoorQsrt
import Derived.Test.YtfbomoginjknlaaDoorQvof
import Derived.Test.YtfbomoginjknlaaDoorQinc
import Derived.Test.YtfbomoginjknlaaDoorQrsum
namespace Go.Proofs.YtfbomoginjknlaaDoor
open Go.RowKit Go.Lib

/-- A row as it lies. -/
structure RwM where
  P : List Tm
  F : List Int
  vp : Value
  vf : Value
def RwOk (base : Nat) (w : World) (r : RwM) : Prop := Elems (fun b => b < base) w r.P r.vp ∧ IntsV w r.vf r.F
/-- Nothing older has changed but some blocks. -/
def AgS (S : Nat → Prop) (w W : World) : Prop := w.heap.size ≤ W.heap.size ∧ ∀ b, b < w.heap.size → ¬ S b → W.heap[b]? = w.heap[b]?
theorem AgS.refl (S : Nat → Prop) (w : World) : AgS S w w := ⟨Nat.le_refl _, fun _ _ _ => rfl⟩
theorem AgS.trans {S : Nat → Prop} {a b c : World} (h : AgS S a b) (k : AgS S b c) : AgS S a c := ⟨Nat.le_trans h.1 k.1, fun i hi hn => (k.2 i (Nat.lt_of_lt_of_le hi h.1) hn).trans (h.2 i hi hn)⟩
theorem AgS.mono {S T : Nat → Prop} {a b : World} (h : AgS S a b) (hs : ∀ i, i < a.heap.size → S i → T i) : AgS T a b := ⟨h.1, fun i hi hn => h.2 i hi fun x => hn (hs i hi x)⟩
theorem AgS.ofExt {S : Nat → Prop} {a b : World} (h : Ext a b) : AgS S a b := ⟨h.size, fun i hi _ => h.block i hi⟩
theorem AgS.ofBelow {S : Nat → Prop} {B : Nat} {a b : World} (h : Below B a b) (hs : ∀ i, i < a.heap.size → B ≤ i → S i) : AgS S a b := ⟨h.size, fun i hi hn => h.block i (by
  rcases Nat.lt_or_ge i B with e | e
  · exact e
  · exact absurd (hs i hi e) hn)⟩
/-- A row that lies, whatever happens to some blocks. -/
def RwAt (base : Nat) (S : Nat → Prop) (w : World) (r : RwM) : Prop := ∀ W, AgS S w W → RwOk base W r
theorem RwAt.now {base : Nat} {S : Nat → Prop} {w : World} {r : RwM} (h : RwAt base S w r) : RwOk base w r := h w (AgS.refl S w)
theorem RwAt.next {base : Nat} {S : Nat → Prop} {w W : World} {r : RwM} (h : RwAt base S w r) (k : AgS S w W) : RwAt base S W r := fun V x => h V (k.trans x)
theorem RwAt.weak {base : Nat} {S T : Nat → Prop} {w : World} {r : RwM} (h : RwAt base S w r) (hs : ∀ i, i < w.heap.size → T i → S i) : RwAt base T w r := fun V x => h V (x.mono hs)
theorem RwAt.form {base : Nat} {S : Nat → Prop} {w : World} {r : RwM} (h : RwAt base S w r) : (∃ xp cp, r.vp = .slice xp r.P.length cp) ∧ ∃ xf cf, r.vf = .slice xf r.F.length cf := by
  obtain ⟨h1, h2⟩ := h.now
  obtain ⟨xp, cp, e, _⟩ := Elems_row h1
  obtain ⟨xf, cf, e', _⟩ := h2
  exact ⟨⟨xp, cp, e⟩, xf, cf, e'⟩
/-- What was just made lies apart. -/
theorem Elems_off {base B : Nat} {S : Nat → Prop} {w W : World} {P : List Tm} {v : Value} (h : Elems (fun b => b < base) w P v) (hf : FrV B v) (hb : base ≤ w.heap.size) (hS : ∀ b, S b → base ≤ b ∧ b < B) (k : AgS S w W) : Elems (fun b => b < base) W P v := by
  obtain ⟨xa, cap, cs, rfl, h1, h2, hK, hc⟩ := h
  refine ⟨xa, cap, cs, rfl, h1, h2, KC_carry (fun b (hb' : b < base) => k.2 b (by omega) fun s => by have := hS b s; omega) (fun _ h => h) _ _ hK, fun h0 => ?_⟩
  obtain ⟨b, o, rfl, hcc⟩ := hc h0
  refine ⟨b, o, rfl, fun j u hu => ?_⟩
  have h3 := hcc j u hu
  have hlt := World.block_lt_of_cell? w _ h3
  rw [World.cell?_of_block (w := w) (k.2 _ hlt fun s => ?_)]
  · exact h3
  · have := hS _ s
    have := hf b rfl
    simp only at *
    omega
theorem IntsV_off {B : Nat} {S : Nat → Prop} {w W : World} {F : List Int} {v : Value} (h : IntsV w v F) (hf : FrV B v) (hS : ∀ b, S b → b < B) (k : AgS S w W) : IntsV W v F := by
  obtain ⟨xa, cap, rfl, h1, h2, hc⟩ := h
  refine ⟨xa, cap, rfl, h1, h2, fun h0 => ?_⟩
  obtain ⟨b, o, rfl, hcc⟩ := hc h0
  refine ⟨b, o, rfl, fun i hi => ?_⟩
  have h3 := hcc i hi
  have hlt := World.block_lt_of_cell? w _ h3
  rw [World.cell?_of_block (w := w) (k.2 _ hlt fun s => ?_)]
  · exact h3
  · have := hS _ s
    have := hf b rfl
    simp only at *
    omega
/-- Rows in a row. -/
structure RwsAt (base : Nat) (rs : List RwM) (v : Value) (w : World) : Prop where
  form : ∃ xa cap, v = .slice xa rs.length cap
  cells : ∀ j (h : j < rs.length), ∃ g cap, v = .slice (some ⟨g, 0, none⟩) rs.length cap ∧ w.cell? ⟨g, j * 2, none⟩ = some rs[j].vp ∧ w.cell? ⟨g, j * 2 + 1, none⟩ = some rs[j].vf
  ok : ∀ r ∈ rs, RwOk base w r
theorem RwOk.ext {base : Nat} {w W : World} {r : RwM} (h : RwOk base w r) (hb : base ≤ w.heap.size) (x : Ext w W) : RwOk base W r := ⟨Elems_ext h.1 (fun b (hb' : b < base) => by omega) x, IntsV_below h.2 x⟩
theorem RwsAt.ext {base : Nat} {rs : List RwM} {v : Value} {w W : World} (h : RwsAt base rs v w) (hb : base ≤ w.heap.size) (x : Ext w W) : RwsAt base rs v W :=
  ⟨h.form, fun j hj => by
    obtain ⟨g, cap, e, h1, h2⟩ := h.cells j hj
    exact ⟨g, cap, e, keep_below x _ _ h1, keep_below x _ _ h2⟩, fun r hr => (h.ok r hr).ext hb x⟩
/-- How many numbers rows have. -/
def sumF : List RwM → Nat
  | [] => 0
  | r :: rs => r.F.length + sumF rs
theorem sumF_snoc (r : RwM) : ∀ rs : List RwM, sumF (rs ++ [r]) = sumF rs + r.F.length
  | [] => by simp [sumF]
  | q :: rs => by rw [List.cons_append, sumF, sumF, sumF_snoc r rs]; omega
theorem sumF_take (rs : List RwM) (j : Nat) (h : j < rs.length) : sumF (rs.take (j + 1)) = sumF (rs.take j) + rs[j].F.length := by
  rw [List.take_succ_eq_append_getElem h, sumF_snoc]
theorem sumF_take_le (rs : List RwM) (j : Nat) : sumF (rs.take j) ≤ sumF rs := by
  induction rs generalizing j with
  | nil => simp [sumF]
  | cons r rs ih =>
    cases j with
    | zero => simp [sumF]
    | succ j => rw [List.take_succ_cons, sumF, sumF]; have := ih j; omega
theorem redT_take (Rs : List (List Tm)) (x : List Tm) (j : Nat) (h : j < Rs.length) : redT (Rs.take (j + 1)) x = (if memT (redT (Rs.take j) x) (lastT Rs[j]) = true then plusT (redT (Rs.take j) x) Rs[j] else redT (Rs.take j) x) := by
  induction Rs generalizing j x with
  | nil => simp at h
  | cons a Rs ih =>
    cases j with
    | zero => simp [redT]
    | succ j =>
      rw [List.take_succ_cons, List.take_succ_cons, redT, redT, ih _ j (by simpa using h)]
      simp
theorem redT_drop (Rs : List (List Tm)) (x : List Tm) (j : Nat) : redT Rs x = redT (Rs.drop j) (redT (Rs.take j) x) := by
  induction Rs generalizing j x with
  | nil => simp [redT]
  | cons a Rs ih =>
    cases j with
    | zero => simp [redT]
    | succ j => rw [List.take_succ_cons, List.drop_succ_cons, redT, redT]; exact ih _ j
/-- What reduce gives back. -/
def RedPost (base : Nat) (S : Nat → Prop) (rs : List RwM) (x : RwM) (w : World) (e : Ending) (w' : World) : Prop :=
  ∃ y : RwM, e = .returned (.agg #[y.vp, y.vf]) ∧ y.P = redT (rs.map (·.P)) x.P ∧ y.F.length ≤ x.F.length + sumF rs ∧ RwAt base S w' y ∧ Ext w w'
/-- Where x lies in its box. -/
structure BoxR (H : Nat) (w : World) (y : RwM) : Prop where
  c0 : w.cell? ⟨H, 0, none⟩ = some y.vp
  c1 : w.cell? ⟨H, 1, none⟩ = some y.vf
  fz : ∀ i, w.frozen? ⟨H, i, none⟩ = false
theorem BoxR.ext {H : Nat} {w W : World} {y : RwM} (h : BoxR H w y) (x : Ext w W) : BoxR H W y :=
  ⟨keep_below x _ _ h.c0, keep_below x _ _ h.c1, fun i => by
    have hl := World.block_lt_of_cell? w _ h.c0
    rw [frozen_same (x.block H hl)]; exact h.fz i⟩
theorem BoxR.set0 {H : Nat} {w : World} {y : RwM} (h : BoxR H w y) (P : List Tm) (v : Value) : BoxR H (w.setCell ⟨H, 0, none⟩ v) ⟨P, y.F, v, y.vf⟩ :=
  ⟨setSameV h.c0, by rw [setOtherV (fun e => by simp at e)]; exact h.c1, fun i => by rw [World.frozen?_setCell]; exact h.fz i⟩
theorem BoxR.set1 {H : Nat} {w : World} {y : RwM} (h : BoxR H w y) (F : List Int) (v : Value) : BoxR H (w.setCell ⟨H, 1, none⟩ v) ⟨y.P, F, y.vp, v⟩ :=
  ⟨by rw [setOtherV (fun e => by simp at e)]; exact h.c0, setSameV h.c1, fun i => by rw [World.frozen?_setCell]; exact h.fz i⟩
theorem set2_ext' {a W : World} {rb : Nat} {x y : Value} (h : Ext a W) (hle : a.heap.size ≤ rb) : Ext a ((W.setCell ⟨rb, 0, none⟩ x).setCell ⟨rb, 1, none⟩ y) :=
  (h.setCell (p := ⟨rb, 0, none⟩) hle x).setCell (p := ⟨rb, 1, none⟩) hle y
theorem AgS_set {S : Nat → Prop} {w : World} {H i : Nat} (v : Value) (hS : S H) : AgS S w (w.setCell ⟨H, i, none⟩ v) := ⟨by simp [World.setCell], fun b hb hn => by
  rw [Below.heap_setCell _ _ _ _ (by simp only; intro e; exact hn (e ▸ hS))]⟩
end Go.Proofs.YtfbomoginjknlaaDoor

/-
  THE WALK OF THE REFERENCE'S rows.
-/
namespace Go.Proofs.YtfbomoginjknlaaDoor
open Go.RowKit Go.Lib

def encR (r : RwM) : List Value := [r.vp, r.vf]
theorem encR_len (r : RwM) : (encR r).length = 2 := rfl
def ownT (v4 v5 : Value) : Nat → Prop := fun b => v4.ownBlock = some b ∨ v5.ownBlock = some b
/-- Bounds of the reference's rows. -/
theorem rows_bnd {C ts : List Tm} (hA : AscT C) (hC : ∀ x ∈ ts, ∀ u ∈ summT x, u ∈ C) {m : Nat} (hm : m ≤ ts.length) : ∀ a ∈ (rowsT ts m).1, 0 < a.length ∧ a.length ≤ C.length ∧ ∀ u ∈ a, u ∈ C := by
  obtain ⟨_, _, _, _, L, h5, h6, _⟩ := rowsT_ech hC m hm
  intro a ha
  rw [h5] at ha
  obtain ⟨p, hp, rfl⟩ := List.mem_map.1 ha
  have h := h6 p hp
  exact ⟨h.pos, asc_sub_len C p.1 hA h.asc h.sub, h.sub⟩
theorem red_bnd {C ts : List Tm} (hA : AscT C) (hC : ∀ x ∈ ts, ∀ u ∈ summT x, u ∈ C) {m : Nat} (hm : m ≤ ts.length) {t : Tm} (ht : ∀ u ∈ summT t, u ∈ C) (k : Nat) : (redT ((rowsT ts m).1.take k) (summT t)).length ≤ C.length ∧ ∀ u ∈ redT ((rowsT ts m).1.take k) (summT t), u ∈ C := by
  obtain ⟨_, _, _, _, L, h5, h6, _⟩ := rowsT_ech hC m hm
  rw [h5, ← List.map_take]
  obtain ⟨_, r2, r3⟩ := redT_chi (L.take k) (fun p hp => h6 p (List.mem_of_mem_take hp)) (summT t) (summT_asc t) ht
  exact ⟨asc_sub_len C _ hA r2 r3, r3⟩
/-- What rows gives back. -/
def RowsPost (ts : List Tm) (w : World) (e : Ending) (w' : World) : Prop :=
  ∃ RS v4 v5, e = .returned (.tuple #[v4, v5]) ∧ RS.map (·.P) = (rowsT ts ts.length).1 ∧ RwsAt w.heap.size RS v4 w' ∧ OwnI w.heap.size w' ((rowsT ts ts.length).2.map fun (i : Nat) => (i : Int)) v5 ∧ sumF RS + 1 ≤ 2 ^ RS.length ∧ RS.length ≤ ts.length ∧ Ext w w'
end Go.Proofs.YtfbomoginjknlaaDoor

/-
  THE WALKS OF Basis AND Rank, AND OF THE REFERENCE'S Basis AND Span.
-/
namespace Go.Proofs.YtfbomoginjknlaaDoor
open Go.RowKit Go.Lib

/-- The basis of a list, or its error. -/
def basP (ts : List Tm) : List Int × Int := if listE ts = 0 then ((rowsT ts ts.length).2.map fun (i : Nat) => (i : Int), 0) else ([], listE ts)
def BasPost (ts : List Tm) (w : World) (e : Ending) (w' : World) : Prop :=
  ∃ v, e = .returned (.tuple #[v, .int .i64 (basP ts).2]) ∧ IntsV w' v (basP ts).1 ∧ (basP ts).1.length ≤ ts.length ∧ Ext w w'
/-- The columns of a list, as plain data. -/
theorem cols_ex (ts : List Tm) : ∃ C, ColsT C ts := by
  have hp := List.mergeSort_perm (ts.flatMap summT) (fun x y => decide (¬ cmpT y x < 0))
  have ha : AscQ ((ts.flatMap summT).mergeSort (fun x y => decide (¬ cmpT y x < 0))) := (List.pairwise_mergeSort (le := fun x y => decide (¬ cmpT y x < 0)) (fun a b c h1 h2 => decide_eq_true (cmpT_ntrans (of_decide_eq_true h2) (of_decide_eq_true h1))) (fun a b => by
    rw [Bool.or_eq_true, decide_eq_true_eq, decide_eq_true_eq]
    rcases Classical.em (cmpT b a < 0) with h | h
    · right
      intro h2
      have := cmpT_trans h h2
      rw [cmpT_self] at this
      omega
    · exact Or.inl h) _).imp fun h => of_decide_eq_true h
  generalize (ts.flatMap summT).mergeSort (fun x y => decide (¬ cmpT y x < 0)) = l at hp ha
  have m1 := uniqT_mem _ l (Nat.le_refl _)
  refine ⟨uniqT l, uniqT_asc _ l (Nat.le_refl _) ha, fun u => ?_, ?_, fun u hu => ?_⟩
  · rw [m1, hp.mem_iff, List.mem_flatMap]
  · have := uniqT_len _ l (Nat.le_refl _)
    have := hp.length_eq
    have := sumsL_len ts
    omega
  · exact sumsL_small (hp.mem_iff.1 ((m1 u).1 hu))
theorem rowsT_len (ts : List Tm) : ∀ m, (rowsT ts m).2.length ≤ m
  | 0 => Nat.le_refl _
  | m + 1 => by
    rw [rowsT]
    have := rowsT_len ts m
    split
    · omega
    · simp only [List.length_append, List.length_cons, List.length_nil]; omega
theorem rowsT_mem (ts : List Tm) : ∀ m, ∀ i ∈ (rowsT ts m).2, i < m
  | 0, i, h => absurd h (by simp [rowsT])
  | m + 1, i, h => by
    rw [rowsT] at h
    split at h
    · exact Nat.lt_succ_of_lt (rowsT_mem ts m i h)
    · rcases List.mem_append.1 h with h | h
      · exact Nat.lt_succ_of_lt (rowsT_mem ts m i h)
      · rw [List.mem_singleton.1 h]; exact Nat.lt_succ_self m
theorem basP_len (ts : List Tm) : (basP ts).1.length ≤ ts.length := by
  unfold basP
  split
  · simp only [List.length_map]; exact rowsT_len ts _
  · exact Nat.zero_le _
/-- The elements of the basis as they are collected. -/
def elI (ps : List PvM) : List Int := ps.map fun p => (p.i : Int)
theorem elI_take (ps : List PvM) (j : Nat) (h : j < ps.length) : elI (ps.take (j + 1)) = elI (ps.take j) ++ [((ps[j].i : Nat) : Int)] := by
  unfold elI
  rw [List.take_succ_eq_append_getElem h, List.map_append]; rfl
theorem elI_len (ps : List PvM) : (elI ps).length = ps.length := by unfold elI; rw [List.length_map]
theorem elI_pvB (ps : List PvM) : elI ps = ((ps.map pvB).map (·.i)).map fun (i : Nat) => (i : Int) := by
  unfold elI
  rw [List.map_map, List.map_map]; rfl
set_option maxHeartbeats 3200000 in
set_option maxRecDepth 100000 in
theorem Basis8_any (ts : List Tm) (xl : Option Addr) (cl : Nat) (w : World) (hn : ts.length ≤ 1000000) (hsz : sizes ts ≤ 1048576) (hcl : ts.length ≤ cl) (hT : TabQ w) (hL : Row w ts xl) :
    Calls Tryd.prog 37 #[.slice xl ts.length cl] w (BasPost ts w) := by
  have hmem : ∀ u ∈ ts, size u ≤ 1048576 := fun u hu => by have := size_le_sizes hu; omega
  have HLE := Lib.hid (listError_any ts xl cl w (by omega) (fun u hu => by have := hmem u hu; omega) hL)
  have HEL : Hid (∀ W, Ext w W → Calls Tryd.prog 39 #[.slice xl ts.length cl, .slice none 0 0] W (EliPost ts ts W)) := by
    show ∀ _, _
    intro W y
    exact eliminate_any ts [] ts xl none cl 0 W (by simp) (by omega) hsz hcl (Nat.le_refl _) (hT.ext y) (Row_below hL y) (by simp [Row])
  have HN := Lib.hid hn
  clear hL hT hmem hsz hcl
  have HB : Hid (basP ts = if listE ts = 0 then ((rowsT ts ts.length).2.map fun (i : Nat) => (i : Int), 0) else ([], listE ts)) := rfl
  have HBL := Lib.hid (basP_len ts)
  obtain ⟨E, hE⟩ : ∃ E, listE ts = E := ⟨_, rfl⟩
  rw [hE] at HLE HB
  by_cases h0 : E = 0
  rotate_left
  · have HQ : Hid (∀ W, Ext w W → BasPost ts w (.returned (.tuple #[.slice none 0 0, .int .i64 E])) W) := by
      show ∀ _, _
      intro W x
      have e := HB.out
      rw [if_neg h0] at e
      unfold BasPost
      rw [e]
      exact ⟨_, rfl, IntsV_none _, Nat.zero_le _, x⟩
    have q0 : (E != 0) = true := bne_iff_ne.2 h0
    clear h0 hE
    go_enter Tryd.func37, Tryd.ntmps37
    go_wp2_with (go_at_call 35; refine (HLE.out).mono ?_; rintro e w3 ⟨he, hB⟩; subst he; have HX3 := Lib.hid hB; clear hB)
    exact bodyPost_ret (v := .tuple #[.slice none 0 0, .int .i64 E]) (by simp [results, Tryd.results37, go_sem]) rfl (HQ.out _ HX3.out)
  subst h0
  have q0 : ((0 : Int) != 0) = false := rfl
  have HQ : Hid (∀ W v, IntsV W v ((rowsT ts ts.length).2.map fun (i : Nat) => (i : Int)) → Ext w W → BasPost ts w (.returned (.tuple #[v, .int .i64 0])) W) := by
    show ∀ _, _
    intro W v h x
    have e := HB.out
    rw [if_pos rfl] at e
    have hl := HBL.out
    unfold BasPost
    rw [e] at hl ⊢
    exact ⟨v, rfl, h, hl, x⟩
  clear hE
  go_enter Tryd.func37, Tryd.ntmps37
  go_upto_region 5 with (go_at_call 35; refine (HLE.out).mono ?_; rintro e w3 ⟨he, hB⟩; subst he; have HX3 := Lib.hid hB; clear hB)
  have HE3 := Lib.hid (HEL.out w3 HX3.out)
  go_upto_region 6 with (go_at_call 39; refine (HE3.out).mono ?_; rintro e w5 ⟨eb, C, ps, v, he, hf⟩; subst he; have hpc := hf.el.pv; obtain ⟨xv, cv, hv⟩ := hf.el.nlen; subst hv; have HF5 := Lib.hid hf; have HX5 := Lib.hid (HX3.out.trans hf.ext); clear hf)
  have hel5 := HF5.out.el
  have hpl := HF5.out.len
  have hnl := HN.out
  have HBE : Hid ((rowsT ts ts.length).2.map (fun (i : Nat) => (i : Int)) = elI ps) := by
    show _ = _
    rw [basis_eq (C := C) (fun x hx u hu => (HF5.out.cols.mem u).2 ⟨x, hx, hu⟩) HF5.out.elm, elI_pvB]
  have HEX := Lib.hid (fun W (x : Ext w5 W) => hel5.ext x)
  have HPR : Hid (∀ p ∈ ps, p.i < ts.length) := by
    show ∀ _, _
    intro p hp
    have := (HF5.out.elm.basis p.i).1 (List.mem_map.2 ⟨pvB p, List.mem_map.2 ⟨p, hp, rfl⟩, rfl⟩)
    exact this.1
  generalize (C.length + 63) / 64 = n1 at HEX hel5
  generalize (ts.length + 63) / 64 = n2 at HEX hel5
  clear hel5 hpc
  go_loopw [5, 19] (fun v5 i wr => ∃ j : Nat, j ≤ ps.length ∧ i = .int .i64 j ∧ OwnI w5.heap.size wr (elI (ps.take j)) v5 ∧ Ext w5 wr) (fun _ i _ => ps.length - (intOf i).toNat)
  case atStart => exact ⟨0, Nat.zero_le _, rfl, OwnI_nil _ _, Ext.refl _⟩
  case round =>
    obtain ⟨j, hj, rfl, hO, hX⟩ := hrel
    have HX := Lib.hid hX
    obtain ⟨xr, cr, rfl⟩ := OwnI_form hO
    by_cases hlt : j < ps.length
    rotate_left
    · have hjl : j = ps.length := by omega
      rw [hjl, List.take_length] at hO ⊢
      have hV : IntsV wr (.slice xr (elI ps).length cr) (elI ps) := intsV_own hO (fun x hx => by
        unfold elI at hx
        obtain ⟨p, hp, rfl⟩ := List.mem_map.1 hx
        have := HPR.out p hp
        omega) (by rw [elI_len]; unfold maxLen; omega)
      have HQQ := Lib.hid (HQ.out wr _ (by rw [HBE.out]; exact hV) (HX5.out.trans hX))
      clear hO hX hjl hV
      go_wp2_with fail
      exact bodyPost_ret (v := .tuple #[.slice xr (elI ps).length cr, .int .i64 0]) (by simp [results, Tryd.results37, go_sem]) rfl HQQ.out
    have hel := HEX.out wr hX
    rcases hel.form with ⟨_, e9⟩ | ⟨g, cap, e9, hg1, hg2, hg3⟩
    · rw [e9] at hlt; exact absurd hlt (by simp)
    simp only [Value.slice.injEq, true_and] at e9
    obtain ⟨rfl, rfl⟩ := e9
    obtain ⟨p0, p1, p2, p3⟩ := hel.cells j hlt
    have htk := elI_take ps j hlt
    generalize ps[j] = P at p0 p1 p2 p3 htk
    have hA6 : Ext wr (wr.alloc (.cells #[.slice (some ⟨P.gs, 0, none⟩) n1 n1, .slice (some ⟨P.ge, 0, none⟩) n2 n2, .int .i64 P.c, .int .i64 P.i] 93)) := (Ext.refl wr).alloc _
    have hO6 := OwnI_ext hO hA6
    have hX6 : Ext w5 (wr.alloc (.cells #[.slice (some ⟨P.gs, 0, none⟩) n1 n1, .slice (some ⟨P.ge, 0, none⟩) n2 n2, .int .i64 P.c, .int .i64 P.i] 93)) := hX.trans hA6
    have hcl2 : (elI (ps.take j)).length ≤ 1073741824 := by rw [elI_len, List.length_take]; omega
    have HO6 := Lib.hid (And.intro hO6 hX6)
    have HCL2 := Lib.hid hcl2
    have HWS6 : Hid (w5.heap.size ≤ (wr.alloc (.cells #[.slice (some ⟨P.gs, 0, none⟩) n1 n1, .slice (some ⟨P.ge, 0, none⟩) n2 n2, .int .i64 P.c, .int .i64 P.i] 93)).heap.size) := Lib.hid hX6.size
    have HTK := Lib.hid htk
    have i1 : (0 : Int) ≤ (j : Int) := by omega
    have i2 : (j : Int) < (ps.length : Int) := by omega
    clear hO hX hel hA6 hO6 hX6 hcl2 htk
    go_wp2_with (at_builtin; refine wpList_append_int rfl _ _ rfl HO6.out.1 HWS6.out HCL2.out rfl (by first | rfl | simp) rfl ?_; intro v9 w9 hO9 hB9 hs9; have HO9 := Lib.hid hO9; have HB9 : Hid (Ext w5 w9) := Lib.hid (Below.trans HO6.out.2 hB9); clear hO9 hB9 hs9)
    go_roundw
    case rel => exact ⟨j + 1, by omega, by go_num, by rw [HTK.out]; exact HO9.out, HB9.out⟩
    case measure => simp [intOf]; omega
set_option maxHeartbeats 1600000 in
set_option maxRecDepth 100000 in
theorem Rank8_any (ts : List Tm) (xl : Option Addr) (cl : Nat) (w : World) (hn : ts.length ≤ 1000000) (hsz : sizes ts ≤ 1048576) (hcl : ts.length ≤ cl) (hT : TabQ w) (hL : Row w ts xl) :
    Calls Tryd.prog 19 #[.slice xl ts.length cl] w fun e w' => e = .returned (.tuple #[.int .i64 (basP ts).1.length, .int .i64 (basP ts).2]) ∧ Ext w w' := by
  have HBS := Lib.hid (Basis8_any ts xl cl w hn hsz hcl hT hL)
  clear hT hL hsz hcl
  go_enter Tryd.func19, Tryd.ntmps19
  go_wp2_with (go_at_call 37; refine (HBS.out).mono ?_; rintro e w3 ⟨v, he, hV, _, hB⟩; obtain ⟨xa, cap, hv, _⟩ := id hV; subst hv; subst he; have HX3 := Lib.hid hB; clear hB hV)
  exact bodyPost_ret (v := .tuple #[.int .i64 (basP ts).1.length, .int .i64 (basP ts).2]) (by simp [results, Tryd.results19, go_sem]) rfl ⟨rfl, HX3.out⟩
theorem few_pow {n : Nat} (h : n ≤ 20) : 2 ^ n ≤ 1048576 := Nat.le_trans (Nat.pow_le_pow_right (by omega) h) (by decide)
theorem sizes_snoc : ∀ (l : List Tm) (u : Tm), sizes (l ++ [u]) = sizes l + size u
  | [], u => by simp [sizes]
  | x :: l, u => by rw [List.cons_append, sizes, sizes, sizes_snoc l u]; omega
/-- The error of the reference's Span. -/
def spE (ts : List Tm) (t : Tm) : Int := if vE ts t = 0 then (if (redT (rowsT ts ts.length).1 (summT t)).length = 0 then 0 else 4) else vE ts t
end Go.Proofs.YtfbomoginjknlaaDoor
