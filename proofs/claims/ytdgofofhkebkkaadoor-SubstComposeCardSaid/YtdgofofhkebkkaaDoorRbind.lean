/-
  THE REFERENCE's Bind and bound (layer 2), walked (by gen_rbind.py).
-/
import Derived.Test.YtdgofofhkebkkaaDoorRput
import Derived.Test.YtdgofofhkebkkaaDoorFewb
import Derived.Test.YtdgofofhkebkkaaDoorScompose
import Derived.BigQuiet
namespace Go.Proofs.YtdgofofhkebkkaaDoor
open Go.RowKit

/-- Bindings gathered in a row of the call's own; what they hold is old. -/
def OwnBd (H base : Nat) (w : World) (bs : List Bd) (v : Value) : Prop := ∃ cs, w.ownsRow H 77 8 v bs.length cs ∧ KC (fun b => b < base) w (flatB bs) cs
theorem OwnBd_nil (H base : Nat) (w : World) : OwnBd H base w [] (.slice none 0 0) := ⟨[], World.ownsRow_nil w H _ 8, rfl⟩
theorem OwnBd_form {H base : Nat} {w : World} {bs : List Bd} {v : Value} (h : OwnBd H base w bs v) : ∃ xa cap, v = .slice xa bs.length cap := by
  obtain ⟨cs, ho, _⟩ := h; exact own_form ho
theorem OwnBd_ext {H base : Nat} {w w' : World} {bs : List Bd} {v : Value} (h : OwnBd H base w bs v) (hb : base ≤ w.heap.size) (hE : Ext w w') : OwnBd H base w' bs v := by
  obtain ⟨cs, ho, hK⟩ := h
  exact ⟨cs, own_heap ho (fun q hq => hE.block q (ho.lt q hq).2), KC_carry (fun b (hb' : b < base) => hE.block b (by omega)) (fun _ h => h) _ _ hK⟩
theorem OwnBd_push {H base n g cap lcap : Nat} {w v w' : World} {os : List Bd} {xl : Option Addr} {cs : List Value} {t u : Tm} {c0 c1 c2 c3 d0 d1 d2 d3 : Value} (hown0 : w.ownsRow H 77 8 (.slice xl n lcap) n cs) (hK : KC (fun b => b < base) w (flatB os) cs) (hn : n = os.length) (hI : IsIn (fun b => b < base) w t c0 c1 c2 c3) (hJ : IsIn (fun b => b < base) w u d0 d1 d2 d3)
    (hb : base ≤ H) (hv : Below H w v) (hHv : H ≤ v.heap.size) (hown : w'.ownsRow H 77 8 (.slice (some ⟨g, 0, none⟩) (n + 1) cap) (n + 1) (cs ++ [c0, c1, c2, c3, d0, d1, d2, d3])) (hg : v.grownBy w' (Value.slice xl n lcap).ownBlock) :
    OwnBd H base w' (os ++ [(t, u)]) (.slice (some ⟨g, 0, none⟩) (n + 1) cap) ∧ Below H w w' := by
  subst hn
  have hB : Below H w w' := hv.grown hg hHv (fun q hq => (hown0.lt q hq).1)
  have hBl : Below base w w' := hB.mono hb
  refine ⟨⟨cs ++ [c0, c1, c2, c3, d0, d1, d2, d3], by simpa using hown, ?_⟩, hB⟩
  rw [flatB_snoc]
  exact KC_append _ _ _ _ (KC_carry (fun b hb' => hBl.block b hb') (fun _ h => h) _ _ hK) ⟨_, _, _, _, _, rfl, IsIn_carry (fun b hb' => hBl.block b hb') (fun _ h => h) _ _ _ _ _ hI, KC_one_term (IsIn_carry (fun b hb' => hBl.block b hb') (fun _ h => h) _ _ _ _ _ hJ)⟩
/-- A row of bindings from its cells. -/
theorem Row_cells {w : World} {S : Nat → Prop} (b : Nat) : ∀ (ts : List Tm) (o : Nat) (cs : List Value), KC S w ts cs → (∀ j u, cs[j]? = some u → w.cell? ⟨b, o + j, none⟩ = some u) → Row w ts (some ⟨b, o, none⟩)
  | [], o, cs, _, _ => by simp [Row]
  | t :: ts, o, cs, h, hc => by
    obtain ⟨c0, c1, c2, c3, r, rfl, hI, hr⟩ := h
    refine Row_cons_mk ⟨c0, c1, c2, c3, hc 0 _ rfl, hc 1 _ rfl, hc 2 _ rfl, hc 3 _ rfl, IsIn_Is _ _ _ _ _ hI⟩ (Row_cells b ts (o + 4) r hr (fun j u hu => ?_))
    have := hc (j + 4) u (by simpa using hu)
    rw [show o + 4 + j = o + (j + 4) by omega]; exact this
theorem OwnBd_row {H base : Nat} {w : World} {bs : List Bd} {xa : Option Addr} {cap : Nat} (h : OwnBd H base w bs (.slice xa bs.length cap)) : Row w (flatB bs) xa ∧ bs.length ≤ cap := by
  obtain ⟨cs, ho, hK⟩ := h
  rcases ho.2 with ⟨e, h0⟩ | ⟨g, cap', cur, e, _, _, h1, h2, _⟩
  · have : bs = [] := List.length_eq_zero_iff.1 h0
    subst this
    exact ⟨by simp [flatB, Row], Nat.zero_le _⟩
  · simp only [Value.slice.injEq] at e
    obtain ⟨rfl, _, rfl⟩ := e
    refine ⟨Row_cells g _ 0 cs hK (fun j u hu => ?_), h1⟩
    have := ho.cells (g := g) rfl j u hu
    rw [add_plain] at this; exact this
/-- A list of bindings that is given back. -/
def BindPost (w : World) (bs : List Bd) (e : Ending) (w' : World) : Prop :=
  ∃ xa cap, e = .returned (.slice xa bs.length cap) ∧ bs.length ≤ cap ∧ Row w' (flatB bs) xa ∧ Below w.heap.size w w'

set_option maxHeartbeats 3200000 in
set_option maxRecDepth 100000 in
theorem bound_any (bs : List Bd) (xa : Option Addr) (cap : Nat) (x : Tm) (c0 c1 c2 c3 : Value) (w : World) (hcap : bs.length ≤ cap) (hlen : bs.length ≤ maxLen) (hsz : SzB 1073741824 bs) (hR : Row w (flatB bs) xa) (hx : size x ≤ 1073741824) (hI : Is w x c0 c1 c2 c3) :
    Calls Tryd.prog 67 #[.slice xa bs.length cap, .agg #[c0, c1, c2, c3]] w fun e w' => e = .returned (.bool (bndB bs x)) ∧ Below w.heap.size w w' := by
  obtain ⟨k, n, s, xk, l, kc, rfl, rfl, rfl, rfl⟩ := Is_form hI
  unfold maxLen at hlen
  have HR := Lib.hid hR
  have HI := Lib.hid hI
  have HSZ := Lib.hid hsz
  have HXZ := Lib.hid hx
  have HCC := Lib.hid hcap
  have hb0 := heap_alloc_new w (.cells #[.int .i64 k, .string n, .int .i64 s, .slice xk l kc] 25)
  have HX : Hid (∀ W, Ext (w.alloc (.cells #[.int .i64 k, .string n, .int .i64 s, .slice xk l kc] 25)) W → W.heap[w.heap.size]? = some (.cells #[.int .i64 k, .string n, .int .i64 s, .slice xk l kc] 25 (0, 0))) := fun W h => (h.block _ (by simp)).trans hb0
  have HBw := Lib.hid ((Ext.refl w).alloc (.cells #[.int .i64 k, .string n, .int .i64 s, .slice xk l kc] 25))
  clear hb0 hR hI hsz hx hcap
  go_enter Tryd.func67, Tryd.ntmps67
  go_wp2_with fail
  generalize hgen : (w.alloc (.cells #[.int .i64 k, .string n, .int .i64 s, .slice xk l kc] 25)) = wb at HBw HX ⊢
  clear hgen
  go_loopw [5] (fun i wr => ∃ j : Nat, j ≤ bs.length ∧ i = .int .i64 j ∧ Hid (bndB bs x = bndB (bs.drop j) x) ∧ Ext wb wr) (fun i _ => bs.length - (intOf i).toNat)
  case atStart => exact ⟨0, Nat.zero_le _, rfl, Lib.hid rfl, Ext.refl wb⟩
  case round =>
    obtain ⟨j, hj, rfl, HG, hE⟩ := hrel
    have HE := Lib.hid hE
    obtain ⟨⟨x0, x1, x2, x3⟩, _⟩ := box_facts (HX.out _ hE)
    by_cases hlt : j < bs.length
    rotate_left
    · have HU : Hid (bndB bs x = false) := by
        show _ = _
        rw [HG.out, List.drop_eq_nil_of_le (by omega)]; rfl
      clear hE
      go_wp2_with fail
      go_ret
      exact ⟨by rw [HU.out]; rfl, Ext.trans HBw.out HE.out⟩
    have hd : bs.drop j = bs[j] :: bs.drop (j + 1) := List.drop_eq_getElem_cons hlt
    obtain ⟨b, o, rfl⟩ := Row_at HR.out (by rw [flatB_length]; omega)
    have hE2 : Ext w wr := Ext.trans HBw.out hE
    obtain ⟨⟨v0, v1, v2, v3, g0, g1, g2, g3, hI1⟩, _⟩ := bds_get (Row_below HR.out hE2) j hlt
    obtain ⟨k1, n1, s1, ya1, yl1, yc1, rfl, rfl, rfl, rfl⟩ := Is_form hI1
    have hz1 := HSZ.out bs[j] (List.getElem_mem hlt)
    have HC1 := Lib.hid (fun W (y : Ext wr W) => same_any bs[j].1 x _ _ _ _ _ _ _ _ W (by omega) (by have := HXZ.out; omega) (Is_below (w' := W) hI1 y) (Is_below (w' := W) HI.out (Ext.trans hE2 y)))
    have HCr : Hid (∀ W, Ext wr W → (W.cell? ⟨b, o + j * 8, none⟩ = some (.int .i64 k1) ∧ W.cell? ⟨b, o + j * 8 + 1, none⟩ = some (.string n1) ∧ W.cell? ⟨b, o + j * 8 + 2, none⟩ = some (.int .i64 s1) ∧ W.cell? ⟨b, o + j * 8 + 3, none⟩ = some (.slice ya1 yl1 yc1)) ∧ (W.cell? ⟨w.heap.size, 0, none⟩ = some (.int .i64 k) ∧ W.cell? ⟨w.heap.size, 1, none⟩ = some (.string n) ∧ W.cell? ⟨w.heap.size, 2, none⟩ = some (.int .i64 s) ∧ W.cell? ⟨w.heap.size, 3, none⟩ = some (.slice xk l kc))) := fun W h => ⟨⟨keep_below h _ _ g0, keep_below h _ _ g1, keep_below h _ _ g2, keep_below h _ _ g3⟩, ⟨keep_below h _ _ x0, keep_below h _ _ x1, keep_below h _ _ x2, keep_below h _ _ x3⟩⟩
    have i1 : (0 : Int) ≤ (j : Int) := by omega
    have i2 : (j : Int) < (bs.length : Int) := by omega
    have hF0 : Ext wr wr.drew := (Ext.refl wr).drew
    obtain ⟨cb, hcb⟩ : ∃ cb, (cmpT bs[j].1 x == 0) = cb := ⟨_, rfl⟩
    rw [hcb] at HC1
    have hst : bndB (bs.drop j) x = (cb || bndB (bs.drop (j + 1)) x) := by rw [hd, ← hcb]; rfl
    have HST := Lib.hid (HG.out.trans hst)
    clear hE hE2 hI1 hz1 hcb hd hst
    go_wp2_with fail
    go_region_held3 (fun W => (W.cell? ⟨b, o + j * 8, none⟩ = some (.int .i64 k1) ∧ W.cell? ⟨b, o + j * 8 + 1, none⟩ = some (.string n1) ∧ W.cell? ⟨b, o + j * 8 + 2, none⟩ = some (.int .i64 s1) ∧ W.cell? ⟨b, o + j * 8 + 3, none⟩ = some (.slice ya1 yl1 yc1)) ∧ (W.cell? ⟨w.heap.size, 0, none⟩ = some (.int .i64 k) ∧ W.cell? ⟨w.heap.size, 1, none⟩ = some (.string n) ∧ W.cell? ⟨w.heap.size, 2, none⟩ = some (.int .i64 s) ∧ W.cell? ⟨w.heap.size, 3, none⟩ = some (.slice xk l kc)))
      (first | exact HCr.out _ (by assumption) | go_keep)
      (first
        | (go_at_call 13; refine (HC1.out _ hF0).mono ?_; rintro e w4 ⟨he, hB⟩; subst he; have hF1 : Ext wr w4 := hF0.trans hB; clear hB))
    have HF1 := Lib.hid hF1
    clear hF0 hF1 g0 g1 g2 g3 x0 x1 x2 x3
    cases cb with
    | true =>
      go_wp2_with fail
      go_ret
      exact ⟨by rw [HST.out]; rfl, Ext.trans HBw.out (Ext.trans HE.out HF1.out)⟩
    | false =>
      go_wp2_with fail
      go_roundw
      case rel => exact ⟨j + 1, by omega, by go_num, Lib.hid (by rw [HST.out]; rfl), Ext.trans HE.out HF1.out⟩
      case measure => simp [intOf]; omega

/-- What is still to come. -/
def tailO (d : Bool) (r : List Bd) (b : Bd) : List Bd := match d with
  | true => r
  | false => insO r b
/-- At the head of Bind's loop. -/
structure BdR (w : World) (bs : List Bd) (v t : Tm) (a0 a1 a2 a3 b0 b1 b2 b3 : Value) (j : Nat) (d : Bool) (l : Value) (acc : List Bd) (wr : World) : Prop where
  vbox : wr.heap[w.heap.size]? = some (.cells #[a0, a1, a2, a3] 25 (0, 0))
  tbox : wr.heap[w.heap.size + 1]? = some (.cells #[b0, b1, b2, b3] 25 (0, 0))
  own : OwnBd (w.heap.size + 2) w.heap.size wr acc l
  below : Below w.heap.size w wr
  size : w.heap.size + 2 ≤ wr.heap.size
  eq : acc ++ tailO d (bs.drop j) (v, t) = insO bs (v, t)
theorem BdR.ext {w wr W : World} {bs : List Bd} {v t : Tm} {a0 a1 a2 a3 b0 b1 b2 b3 : Value} {j : Nat} {d : Bool} {l : Value} {acc : List Bd} (h : BdR w bs v t a0 a1 a2 a3 b0 b1 b2 b3 j d l acc wr) (hE : Ext wr W) : BdR w bs v t a0 a1 a2 a3 b0 b1 b2 b3 j d l acc W := by
  have hz := h.size
  have hz2 := hE.size
  exact ⟨(hE.block _ (by omega)).trans h.vbox, (hE.block _ (by omega)).trans h.tbox, OwnBd_ext h.own (by omega) hE, h.below.trans (hE.mono (by omega)), by omega, h.eq⟩
/-- One binding appended; 'vw' is the world that the append comes in. -/
theorem BdR.push {w wr vw w8 : World} {bs : List Bd} {v t x y : Tm} {a0 a1 a2 a3 b0 b1 b2 b3 c0 c1 c2 c3 d0 d1 d2 d3 : Value} {j j' n lcap g cap : Nat} {d d' : Bool} {xl : Option Addr} {acc : List Bd} {cs : List Value} (h : BdR w bs v t a0 a1 a2 a3 b0 b1 b2 b3 j d (.slice xl n lcap) acc wr) (hn : n = acc.length)
    (hown : wr.ownsRow (w.heap.size + 2) 77 8 (.slice xl n lcap) n cs) (hK : KC (fun b => b < w.heap.size) wr (flatB acc) cs) (hI : Is w x c0 c1 c2 c3) (hJ : Is w y d0 d1 d2 d3) (hv : Below (w.heap.size + 2) wr vw) (hvs : w.heap.size + 2 ≤ vw.heap.size)
    (ho : w8.ownsRow (w.heap.size + 2) 77 8 (.slice (some ⟨g, 0, none⟩) (n + 1) cap) (n + 1) (cs ++ [c0, c1, c2, c3, d0, d1, d2, d3])) (hg : vw.grownBy w8 (Value.slice xl n lcap).ownBlock)
    (he : (acc ++ [(x, y)]) ++ tailO d' (bs.drop j') (v, t) = insO bs (v, t)) : BdR w bs v t a0 a1 a2 a3 b0 b1 b2 b3 j' d' (.slice (some ⟨g, 0, none⟩) (n + 1) cap) (acc ++ [(x, y)]) w8 := by
  have hz := h.size
  have r := OwnBd_push hown hK hn (IsIn_carry (fun b hb => h.below.block b hb) (fun _ h => h) _ _ _ _ _ (Is_IsIn _ _ _ _ _ hI)) (IsIn_carry (fun b hb => h.below.block b hb) (fun _ h => h) _ _ _ _ _ (Is_IsIn _ _ _ _ _ hJ)) (by omega) hv hvs ho hg
  exact ⟨(r.2.block _ (by omega)).trans h.vbox, (r.2.block _ (by omega)).trans h.tbox, r.1, h.below.trans (r.2.mono (by omega)), by have := r.2.size; have := hg.size; omega, he⟩
theorem insO_step {bs : List Bd} {b : Bd} {j : Nat} {acc : List Bd} (h : j < bs.length) (hc : ¬ cmpT b.1 bs[j].1 < 0) (he : acc ++ insO (bs.drop j) b = insO bs b) : (acc ++ [bs[j]]) ++ insO (bs.drop (j + 1)) b = insO bs b := by
  rw [← he, List.drop_eq_getElem_cons h, insO, if_neg hc, List.append_assoc]; rfl
theorem insO_hit {bs : List Bd} {b : Bd} {j : Nat} {acc : List Bd} (h : j < bs.length) (hc : cmpT b.1 bs[j].1 < 0) (he : acc ++ insO (bs.drop j) b = insO bs b) : (acc ++ [b]) ++ bs.drop j = insO bs b := by
  rw [← he, List.drop_eq_getElem_cons h, insO, if_pos hc, List.append_assoc]; rfl
theorem ins_copy {bs us : List Bd} {j : Nat} {acc : List Bd} (h : j < bs.length) (he : acc ++ bs.drop j = us) : (acc ++ [bs[j]]) ++ bs.drop (j + 1) = us := by
  rw [← he, List.drop_eq_getElem_cons h, List.append_assoc]; rfl


set_option maxHeartbeats 6400000 in
set_option maxRecDepth 100000 in
theorem rbind_any (bs : List Bd) (xa : Option Addr) (cap : Nat) (v t : Tm) (c0 c1 c2 c3 d0 d1 d2 d3 : Value) (w : World) (hcap : bs.length ≤ cap) (hlen : bs.length ≤ 1048576) (hsz : SzB 1073741824 bs) (hR : Row w (flatB bs) xa) (hv : size v ≤ 1073741824) (ht : size t ≤ 1073741824) (hI : Is w v c0 c1 c2 c3) (hJ : Is w t d0 d1 d2 d3) :
    Calls Tryd.prog 66 #[.slice xa bs.length cap, .agg #[c0, c1, c2, c3], .agg #[d0, d1, d2, d3]] w (BindPost w (insB bs (v, t))) := by
  obtain ⟨k, n, s, xk, l, kc, rfl, rfl, rfl, rfl⟩ := Is_form hI
  obtain ⟨k2, n2, s2, xk2, l2, kc2, rfl, rfl, rfl, rfl⟩ := Is_form hJ
  obtain ⟨hb0, hb1, hBw, hZ⟩ := boxes2 w (.int .i64 k) (.string n) (.int .i64 s) (.slice xk l kc) (.int .i64 k2) (.string n2) (.int .i64 s2) (.slice xk2 l2 kc2) 25
  have HS := Lib.hid (fun W (y : Ext w W) => same_any v t _ _ _ _ _ _ _ _ W (by omega) (by omega) (Is_below (w' := W) hI y) (Is_below (w' := W) hJ y))
  have HR := Lib.hid hR
  have HIv := Lib.hid hI
  have HIt := Lib.hid hJ
  have HSZ := Lib.hid hsz
  have HVZ := Lib.hid hv
  have HCAP := Lib.hid hcap
  have HDEF : Hid (insB bs (v, t) = if cmpT v t = 0 then bs else insO bs (v, t)) := rfl
  obtain ⟨i0, hi0, hz0, hz1, hz2⟩ := info_parts infoBd
  have HI0 := Lib.hid (And.intro hi0 (And.intro hz0 (And.intro hz1 hz2)))
  have HST : Hid (∀ W, Ext ((w.alloc (.cells #[.int .i64 k, .string n, .int .i64 s, .slice xk l kc] 25)).alloc (.cells #[.int .i64 k2, .string n2, .int .i64 s2, .slice xk2 l2 kc2] 25)) W → BdR w bs v t (.int .i64 k) (.string n) (.int .i64 s) (.slice xk l kc) (.int .i64 k2) (.string n2) (.int .i64 s2) (.slice xk2 l2 kc2) 0 false (.slice none 0 0) [] W) := fun W h => ⟨(h.block _ (by omega)).trans hb0, (h.block _ (by omega)).trans hb1, OwnBd_nil _ _ _, Ext.trans hBw h, by have := h.size; omega, rfl⟩
  have HBw := Lib.hid hBw
  obtain ⟨⟨x0, x1, x2, x3⟩, _⟩ := box_facts hb0
  obtain ⟨⟨y0, y1, y2, y3⟩, _⟩ := box_facts hb1
  obtain ⟨cb, hcb⟩ : ∃ cb, (cmpT v t == 0) = cb := ⟨_, rfl⟩
  rw [hcb] at HS
  have HCB := Lib.hid hcb
  clear hb0 hb1 hBw hZ hi0 hz0 hz1 hz2 hR hI hJ hsz hv ht hcap hcb
  go_enter Tryd.func66, Tryd.ntmps66
  cases cb with
  | true =>
    have HE : Hid (insB bs (v, t) = bs) := by show _ = _; rw [HDEF.out, if_pos (by simpa using HCB.out)]
    go_wp2_with (go_at_call 13; refine (HS.out _ HBw.out).mono ?_; rintro e w3 ⟨he, hB⟩; subst he; have HB3 := Lib.hid (Ext.trans HBw.out hB); clear hB)
    go_ret
    exact ⟨xa, cap, by rw [HE.out]; rfl, by rw [HE.out]; exact HCAP.out, by rw [HE.out]; exact Row_below HR.out HB3.out, HB3.out⟩
  | false =>
    have HE : Hid (insB bs (v, t) = insO bs (v, t)) := by show _ = _; rw [HDEF.out, if_neg (by simpa using HCB.out)]
    go_wp2_with (go_at_call 13; refine (HS.out _ HBw.out).mono ?_; rintro e w3 ⟨he, hB⟩; subst he; have HB3 := Lib.hid (HST.out _ hB); clear hB x0 x1 x2 x3 y0 y1 y2 y3)
    go_loopw [7, 8, 9] (fun lv d i wr => ∃ (j : Nat) (dd : Bool) (acc : List Bd), j ≤ bs.length ∧ (acc.length ≤ j + 1 ∧ (dd = false → acc.length ≤ j)) ∧ d = .bool dd ∧ i = .int .i64 j ∧ BdR w bs v t (.int .i64 k) (.string n) (.int .i64 s) (.slice xk l kc) (.int .i64 k2) (.string n2) (.int .i64 s2) (.slice xk2 l2 kc2) j dd lv acc wr) (fun _ _ i _ => bs.length - (intOf i).toNat)
    case atStart => exact ⟨0, false, [], Nat.zero_le _, ⟨Nat.zero_le _, fun _ => Nat.zero_le _⟩, rfl, rfl, HB3.out⟩
    case round =>
      obtain ⟨j, dd, acc, hj, ⟨haj, hajf⟩, rfl, rfl, hB⟩ := hrel
      obtain ⟨xl, lcap, rfl⟩ := OwnBd_form hB.own
      obtain ⟨⟨x0, x1, x2, x3⟩, _⟩ := box_facts hB.vbox
      obtain ⟨⟨y0, y1, y2, y3⟩, _⟩ := box_facts hB.tbox
      obtain ⟨cs, hown, hK⟩ := hB.own
      have HB := Lib.hid hB
      have HOW := Lib.hid (And.intro hown hK)
      have HO := Lib.hid hown
      have rfl' : acc.length = acc.length := rfl
      by_cases hlt : j < bs.length
      rotate_left
      · have hjl : j = bs.length := by omega
        cases dd with
        | true =>
          have HEQ : Hid (acc = insB bs (v, t)) := by
            show _ = _
            have h := hB.eq
            rw [hjl, List.drop_length] at h
            rw [HE.out, ← h]; simp [tailO]
          have HROW := Lib.hid (OwnBd_row hB.own)
          have HBL := Lib.hid hB.below
          clear hB hown hK hjl
          go_wp2_with fail
          go_ret
          exact ⟨xl, lcap, by rw [← HEQ.out]; rfl, by rw [← HEQ.out]; exact HROW.out.2, by rw [← HEQ.out]; exact HROW.out.1, HBL.out⟩
        | false =>
          have HEQ : Hid ((acc ++ [(v, t)]) ++ tailO true (bs.drop bs.length) (v, t) = insO bs (v, t)) := by
            show _ = _
            have h := hB.eq
            rw [hjl, List.drop_length] at h
            rw [← h, List.drop_length]; simp [insO, tailO]
          have hws := hB.size
          clear hB hown hK hjl
          go_wp2_with (at_builtin; refine wpList_append_lies _ rfl _ _ _ rfl (w.heap.size + 2) 77 i0 _ 8 112 Tryd.underlying33 HI0.out.1 HI0.out.2.1 HI0.out.2.2.1 HI0.out.2.2.2 rfl (by omega) (.slice xl acc.length lcap) acc.length cs rfl (HO.out.alloc _) ⟨wr.heap.size, 0, none⟩ 1 1 [.int .i64 k, .string n, .int .i64 s, .slice xk l kc, .int .i64 k2, .string n2, .int .i64 s2, .slice xk2 l2 kc2] rfl rfl (World.news_of_block (cs := #[.int .i64 k, .string n, .int .i64 s, .slice xk l kc, .int .i64 k2, .string n2, .int .i64 s2, .slice xk2 l2 kc2]) (t := 77) (fr := (0, 0)) (heap_alloc_new wr _)) (by simp [Value.oneCell']) (by omega) (by unfold maxLen; omega) (by omega) (by simp; omega) (wr.heap.size + 1) (by simp) ?_; intro gg cap2 w8 hown8 hgrow8 hat8 hlt8; have HP8 := Lib.hid (HB.out.push rfl' HOW.out.1 HOW.out.2 HIv.out HIt.out (((Below.refl (w.heap.size + 2) wr).alloc HB.out.size _)) (by rw [World.size_alloc]; have := HB.out.size; omega) hown8 hgrow8 HEQ.out); clear hown8 hgrow8 hat8 hlt8)
          go_ret
          have HROW := HP8.out.eq
          rw [List.drop_length] at HROW
          have e9 : acc ++ [(v, t)] = insB bs (v, t) := by rw [HE.out, ← HROW]; simp [tailO]
          obtain ⟨r1, r2⟩ := OwnBd_row (bs := acc ++ [(v, t)]) (cap := cap2) (xa := some ⟨gg, 0, none⟩) (by have := HP8.out.own; simpa using this)
          refine ⟨some ⟨gg, 0, none⟩, cap2, by rw [← e9]; simp, by rw [← e9]; exact r2, by rw [← e9]; exact r1, HP8.out.below⟩
      have HRB := Lib.hid (Is_below HIv.out hB.below)
      obtain ⟨b, o, rfl⟩ := Row_at HR.out (by rw [flatB_length]; omega)
      obtain ⟨⟨v0, v1, v2, v3, g0, g1, g2, g3, hIa⟩, u0, u1, u2, u3, g4, g5, g6, g7, hIb⟩ := bds_get HR.out j hlt
      obtain ⟨k3, n3, s3, xk3, l3, kc3, rfl, rfl, rfl, rfl⟩ := Is_form hIa
      obtain ⟨k4, n4, s4, xk4, l4, kc4, rfl, rfl, rfl, rfl⟩ := Is_form hIb
      rw [Nat.add_assoc] at g5 g6 g7
      have HCr : Hid (∀ W, Ext w W → (W.cell? ⟨b, o + j * 8, none⟩ = some (.int .i64 k3) ∧ W.cell? ⟨b, o + j * 8 + 1, none⟩ = some (.string n3) ∧ W.cell? ⟨b, o + j * 8 + 2, none⟩ = some (.int .i64 s3) ∧ W.cell? ⟨b, o + j * 8 + 3, none⟩ = some (.slice xk3 l3 kc3)) ∧ W.cell? ⟨b, o + j * 8 + 4, none⟩ = some (.int .i64 k4) ∧ W.cell? ⟨b, o + j * 8 + 5, none⟩ = some (.string n4) ∧ W.cell? ⟨b, o + j * 8 + 6, none⟩ = some (.int .i64 s4) ∧ W.cell? ⟨b, o + j * 8 + 7, none⟩ = some (.slice xk4 l4 kc4)) := fun W x => ⟨⟨keep_below x _ _ g0, keep_below x _ _ g1, keep_below x _ _ g2, keep_below x _ _ g3⟩, keep_below x _ _ g4, keep_below x _ _ g5, keep_below x _ _ g6, keep_below x _ _ g7⟩
      have HIa := Lib.hid hIa
      have HIb := Lib.hid hIb
      have i1 : (0 : Int) ≤ (j : Int) := by omega
      have i2 : (j : Int) < (bs.length : Int) := by omega
      have hz1 := HSZ.out bs[j] (List.getElem_mem hlt)
      cases dd with
      | true =>
        have HEQ : Hid ((acc ++ [bs[j]]) ++ tailO true (bs.drop (j + 1)) (v, t) = insO bs (v, t)) := ins_copy hlt hB.eq
        clear hB hown hK hIa hIb g0 g1 g2 g3 g4 g5 g6 g7 HOW HO x0 x1 x2 x3 y0 y1 y2 y3 hz1 HRB
        go_wp2_with fail
        go_quiet (fail)
        have HB4 := Lib.hid (HB.out.ext (below_drewN (Below.refl _ _) nq))
        generalize wr.drewN nq = w4 at HB4 ⊢
        obtain ⟨cs, hown, hK⟩ := HB4.out.own
        have HOW := Lib.hid (And.intro hown hK)
        have HO := Lib.hid hown
        have hws := HB4.out.size
        clear hown hK HB
        obtain ⟨⟨g0, g1, g2, g3⟩, g4, g5, g6, g7⟩ := HCr.out _ HB4.out.below
        go_wp2_with (at_builtin; refine wpList_append_lies _ rfl _ _ _ rfl (w.heap.size + 2) 77 i0 _ 8 112 Tryd.underlying33 HI0.out.1 HI0.out.2.1 HI0.out.2.2.1 HI0.out.2.2.2 rfl (by omega) (.slice xl acc.length lcap) acc.length cs rfl (HO.out.alloc _) ⟨w4.heap.size, 0, none⟩ 1 1 [.int .i64 k3, .string n3, .int .i64 s3, .slice xk3 l3 kc3, .int .i64 k4, .string n4, .int .i64 s4, .slice xk4 l4 kc4] rfl rfl (World.news_of_block (cs := #[.int .i64 k3, .string n3, .int .i64 s3, .slice xk3 l3 kc3, .int .i64 k4, .string n4, .int .i64 s4, .slice xk4 l4 kc4]) (t := 77) (fr := (0, 0)) (heap_alloc_new w4 _)) (by simp [Value.oneCell']) (by omega) (by unfold maxLen; omega) (by omega) (by simp; omega) (w4.heap.size + 1) (by simp) ?_; intro gg cap2 w8 hown8 hgrow8 hat8 hlt8; have HP8 := Lib.hid (HB4.out.push (rfl) HOW.out.1 HOW.out.2 HIa.out HIb.out (((Below.refl (w.heap.size + 2) w4).alloc HB4.out.size _)) (by rw [World.size_alloc]; have := HB4.out.size; omega) hown8 hgrow8 HEQ.out); clear hown8 hgrow8 hat8 hlt8)
        go_roundw
        case rel => exact ⟨j + 1, true, acc ++ [bs[j]], by omega, ⟨by simp; omega, fun h => absurd h (by decide)⟩, rfl, by go_num, by simpa using HP8.out⟩
        case measure => simp [intOf]; omega
      | false =>
        have haj2 := hajf rfl
        clear hajf
        have hC := fun W (y : Ext wr W) => rcompare_any (size v) v bs[j].1 _ _ _ _ _ _ _ _ W (Nat.le_refl _) (by have := HVZ.out; omega) (by omega) (Is_below (w' := W) HIv.out (hB.below.trans (y.mono hB.below.size))) (Is_below (w' := W) hIa (hB.below.trans (y.mono hB.below.size)))
        have HC := Lib.hid hC
        have heq := hB.eq
        have HEQs := Lib.hid (fun (h : ¬ cmpT v bs[j].1 < 0) => (show (acc ++ [bs[j]]) ++ tailO false (bs.drop (j + 1)) (v, t) = insO bs (v, t) from insO_step hlt h heq))
        have HEQh := Lib.hid (fun (h : cmpT v bs[j].1 < 0) => (show (acc ++ [(v, t)]) ++ tailO true (bs.drop j) (v, t) = insO bs (v, t) from insO_hit hlt h heq))
        have HEQc := Lib.hid (fun (h : (acc ++ [(v, t)]) ++ tailO true (bs.drop j) (v, t) = insO bs (v, t)) => (show ((acc ++ [(v, t)]) ++ [bs[j]]) ++ tailO true (bs.drop (j + 1)) (v, t) = insO bs (v, t) from ins_copy hlt h))
        obtain ⟨⟨g0, g1, g2, g3⟩, _⟩ := HCr.out wr hB.below
        have HCx : Hid (∀ W, Ext wr W → (W.cell? ⟨w.heap.size, 0, none⟩ = some (.int .i64 k) ∧ W.cell? ⟨w.heap.size, 1, none⟩ = some (.string n) ∧ W.cell? ⟨w.heap.size, 2, none⟩ = some (.int .i64 s) ∧ W.cell? ⟨w.heap.size, 3, none⟩ = some (.slice xk l kc)) ∧ W.cell? ⟨b, o + j * 8, none⟩ = some (.int .i64 k3) ∧ W.cell? ⟨b, o + j * 8 + 1, none⟩ = some (.string n3) ∧ W.cell? ⟨b, o + j * 8 + 2, none⟩ = some (.int .i64 s3) ∧ W.cell? ⟨b, o + j * 8 + 3, none⟩ = some (.slice xk3 l3 kc3)) := fun W y => ⟨⟨keep_below y _ _ x0, keep_below y _ _ x1, keep_below y _ _ x2, keep_below y _ _ x3⟩, (HCr.out W (HB.out.below.trans (y.mono HB.out.below.size))).1⟩
        generalize cmpT v bs[j].1 = c at HC HEQs HEQh
        have hF0 : Ext wr wr.drew := (Ext.refl wr).drew
        clear hB hown hK hIa hIb HOW HO y0 y1 y2 y3 hz1 HRB hC heq g4 g5 g6 g7
        go_wp2_with fail
        go_region_held3 (fun W => (W.cell? ⟨w.heap.size, 0, none⟩ = some (.int .i64 k) ∧ W.cell? ⟨w.heap.size, 1, none⟩ = some (.string n) ∧ W.cell? ⟨w.heap.size, 2, none⟩ = some (.int .i64 s) ∧ W.cell? ⟨w.heap.size, 3, none⟩ = some (.slice xk l kc)) ∧ W.cell? ⟨b, o + j * 8, none⟩ = some (.int .i64 k3) ∧ W.cell? ⟨b, o + j * 8 + 1, none⟩ = some (.string n3) ∧ W.cell? ⟨b, o + j * 8 + 2, none⟩ = some (.int .i64 s3) ∧ W.cell? ⟨b, o + j * 8 + 3, none⟩ = some (.slice xk3 l3 kc3))
          (first | exact HCx.out _ (by assumption) | go_keep)
          (first
            | (go_at_call 48; refine (HC.out _ hF0).mono ?_; rintro e w4 ⟨he, hB⟩; subst he; have hF1 : Ext wr w4 := hF0.trans hB; clear hB))
        have HB4 := Lib.hid (HB.out.ext hF1)
        clear hF0 hF1 g0 g1 g2 g3 x0 x1 x2 x3 HB
        obtain ⟨⟨x0, x1, x2, x3⟩, _⟩ := box_facts HB4.out.vbox
        obtain ⟨⟨y0, y1, y2, y3⟩, _⟩ := box_facts HB4.out.tbox
        obtain ⟨cs, hown, hK⟩ := HB4.out.own
        have HOW := Lib.hid (And.intro hown hK)
        have HO := Lib.hid hown
        have hws := HB4.out.size
        clear hown hK
        by_cases hc : c < 0
        · have HEQ := Lib.hid (HEQh.out (by omega))
          have HEQ2 := Lib.hid (HEQc.out HEQ.out)
          have q4 : decide (c < 0) = true := decide_eq_true hc
          rw [q4]
          have tok1 : True := trivial
          clear hc
          go_wp2_with (first | (have _t := tok1; ((at_builtin; refine wpList_append_lies _ rfl _ _ _ rfl (w.heap.size + 2) 77 i0 _ 8 112 Tryd.underlying33 HI0.out.1 HI0.out.2.1 HI0.out.2.2.1 HI0.out.2.2.2 rfl (by omega) (.slice xl acc.length lcap) acc.length cs rfl (HO.out.alloc _) ⟨w4.heap.size, 0, none⟩ 1 1 [.int .i64 k, .string n, .int .i64 s, .slice xk l kc, .int .i64 k2, .string n2, .int .i64 s2, .slice xk2 l2 kc2] rfl rfl (World.news_of_block (cs := #[.int .i64 k, .string n, .int .i64 s, .slice xk l kc, .int .i64 k2, .string n2, .int .i64 s2, .slice xk2 l2 kc2]) (t := 77) (fr := (0, 0)) (heap_alloc_new w4 _)) (by simp [Value.oneCell']) (by omega) (by unfold maxLen; omega) (by omega) (by simp; omega) (w4.heap.size + 1) (by simp) ?_; intro gg cap2 w8 hown8 hgrow8 hat8 hlt8; have HP8 := Lib.hid (HB4.out.push (rfl) HOW.out.1 HOW.out.2 HIv.out HIt.out (((Below.refl (w.heap.size + 2) w4).alloc HB4.out.size _)) (by rw [World.size_alloc]; have := HB4.out.size; omega) hown8 hgrow8 HEQ.out); clear hown8 hgrow8 hat8 hlt8); clear tok1 x0 x1 x2 x3 y0 y1 y2 y3; obtain ⟨⟨g0, g1, g2, g3⟩, g4, g5, g6, g7⟩ := HCr.out _ HP8.out.below; obtain ⟨cs2, hown2, hK2⟩ := HP8.out.own; simp only [List.length_append, List.length_cons, List.length_nil, Nat.zero_add] at hown2; have HO2 := Lib.hid hown2; have hws8 := HP8.out.size; have HOW2 := Lib.hid (And.intro hown2 hK2); clear hown2 hK2)) | (at_builtin; refine wpList_append_lies _ rfl _ _ _ rfl (w.heap.size + 2) 77 i0 _ 8 112 Tryd.underlying33 HI0.out.1 HI0.out.2.1 HI0.out.2.2.1 HI0.out.2.2.2 rfl (by omega) (.slice (some ⟨gg, 0, none⟩) (acc.length + 1) cap2) (acc.length + 1) cs2 rfl (HO2.out.alloc _) ⟨w8.heap.size, 0, none⟩ 1 1 [.int .i64 k3, .string n3, .int .i64 s3, .slice xk3 l3 kc3, .int .i64 k4, .string n4, .int .i64 s4, .slice xk4 l4 kc4] rfl rfl (World.news_of_block (cs := #[.int .i64 k3, .string n3, .int .i64 s3, .slice xk3 l3 kc3, .int .i64 k4, .string n4, .int .i64 s4, .slice xk4 l4 kc4]) (t := 77) (fr := (0, 0)) (heap_alloc_new w8 _)) (by simp [Value.oneCell']) (by omega) (by unfold maxLen; omega) (by omega) (by simp; omega) (w8.heap.size + 1) (by simp) ?_; intro gg3 cap3 w9 hown9 hgrow9 hat9 hlt9; have HP9 := Lib.hid (HP8.out.push (by simp) HOW2.out.1 HOW2.out.2 HIa.out HIb.out (((Below.refl (w.heap.size + 2) w8).alloc HP8.out.size _)) (by rw [World.size_alloc]; have := HP8.out.size; omega) hown9 hgrow9 HEQ2.out); clear hown9 hgrow9 hat9 hlt9))
          go_roundw
          case rel => exact ⟨j + 1, true, (acc ++ [(v, t)]) ++ [bs[j]], by omega, ⟨by simp; omega, fun h => absurd h (by decide)⟩, rfl, by go_num, by simpa using HP9.out⟩
          case measure => simp [intOf]; omega
        · have HEQ := Lib.hid (HEQs.out (by omega))
          have q4 : decide (c < 0) = false := decide_eq_false hc
          rw [q4]
          clear hc x0 x1 x2 x3 y0 y1 y2 y3
          obtain ⟨⟨g0, g1, g2, g3⟩, g4, g5, g6, g7⟩ := HCr.out _ HB4.out.below
          go_wp2_with (at_builtin; refine wpList_append_lies _ rfl _ _ _ rfl (w.heap.size + 2) 77 i0 _ 8 112 Tryd.underlying33 HI0.out.1 HI0.out.2.1 HI0.out.2.2.1 HI0.out.2.2.2 rfl (by omega) (.slice xl acc.length lcap) acc.length cs rfl (HO.out.alloc _) ⟨w4.heap.size, 0, none⟩ 1 1 [.int .i64 k3, .string n3, .int .i64 s3, .slice xk3 l3 kc3, .int .i64 k4, .string n4, .int .i64 s4, .slice xk4 l4 kc4] rfl rfl (World.news_of_block (cs := #[.int .i64 k3, .string n3, .int .i64 s3, .slice xk3 l3 kc3, .int .i64 k4, .string n4, .int .i64 s4, .slice xk4 l4 kc4]) (t := 77) (fr := (0, 0)) (heap_alloc_new w4 _)) (by simp [Value.oneCell']) (by omega) (by unfold maxLen; omega) (by omega) (by simp; omega) (w4.heap.size + 1) (by simp) ?_; intro gg cap2 w8 hown8 hgrow8 hat8 hlt8; have HP8 := Lib.hid (HB4.out.push (rfl) HOW.out.1 HOW.out.2 HIa.out HIb.out (((Below.refl (w.heap.size + 2) w4).alloc HB4.out.size _)) (by rw [World.size_alloc]; have := HB4.out.size; omega) hown8 hgrow8 HEQ.out); clear hown8 hgrow8 hat8 hlt8)
          go_roundw
          case rel => exact ⟨j + 1, false, acc ++ [bs[j]], by omega, ⟨by simp; omega, fun _ => (by simp; omega)⟩, rfl, by go_num, by simpa using HP8.out⟩
          case measure => simp [intOf]; omega
end Go.Proofs.YtdgofofhkebkkaaDoor

/-
  THE REFERENCE's Compose (layer 2), walked.
-/
namespace Go.Proofs.YtdgofofhkebkkaaDoor
open Go.RowKit

/-- What the definition composes: the list, and the error. -/
def comP (ss ts : List Bd) : List Bd × Int :=
  if validB ss = 0 then (if validB ts = 0 then (if (folP ts ss).2 = 0 then (if 200 < (comR ss ts).length then ([], 3) else (comR ss ts, 0)) else ([], (folP ts ss).2)) else ([], validB ts)) else ([], validB ss)
theorem folP_err (ts : List Bd) : ∀ (ss : List Bd) (j : Nat) (h : j < ss.length), (∀ (i : Nat) (hi : i < j), (applyP ts (ss[i]'(by omega)).2).2 = 0) → ¬ (applyP ts ss[j].2).2 = 0 → (folP ts ss).2 = (applyP ts ss[j].2).2
  | b :: bs, 0, _, _, he => by
    simp only [List.getElem_cons_zero] at he ⊢
    rw [folP, if_neg he]
  | b :: bs, j + 1, h, hok, he => by
    have h0 := hok 0 (by omega)
    simp only [List.getElem_cons_zero] at h0
    simp only [List.getElem_cons_succ] at he ⊢
    have hl : j < bs.length := by simpa using h
    have ih := folP_err ts bs j hl (fun i hi => by have := hok (i + 1) (by omega); simpa using this) he
    rw [folP, if_pos h0, if_neg (by rw [ih]; exact he), ih]
theorem folP_fine (ts : List Bd) : ∀ ss : List Bd, (∀ b ∈ ss, (applyP ts b.2).2 = 0) → (folP ts ss).2 = 0
  | [], _ => rfl
  | b :: bs, h => by
    have ih := folP_fine ts bs (fun c hc => h c (List.mem_cons_of_mem _ hc))
    rw [folP, if_pos (h b (List.mem_cons_self ..)), if_pos ih]
    by_cases e : cmpT b.1 (applyP ts b.2).1 = 0
    · rw [if_pos e]
    · rw [if_neg e]
theorem insB_len (s : List Bd) (b : Bd) : (insB s b).length ≤ s.length + 1 := by
  unfold insB
  by_cases h : cmpT b.1 b.2 = 0
  · rw [if_pos h]; omega
  · rw [if_neg h, insO_length]; omega
theorem insB_sz {M : Nat} {s : List Bd} {b : Bd} (h : SzB M s) (hb : size b.1 ≤ M ∧ size b.2 ≤ M) : SzB M (insB s b) := by
  unfold insB
  by_cases h0 : cmpT b.1 b.2 = 0
  · rw [if_pos h0]; exact h
  · rw [if_neg h0]
    intro c hc
    rcases List.mem_cons.1 ((insO_perm s b).mem_iff.1 hc) with rfl | hc
    · exact hb
    · exact h c hc
theorem insL_snoc (s l : List Bd) (b : Bd) : insL s (l ++ [b]) = insB (insL s l) b := by unfold insL; rw [List.foldl_append]; rfl
theorem apB_take (ts ss : List Bd) (j : Nat) (h : j < ss.length) : apB ts (ss.take (j + 1)) = apB ts (ss.take j) ++ [(ss[j].1, (applyP ts ss[j].2).1)] := by
  unfold apB
  rw [List.take_succ_eq_append_getElem h, List.map_append]; rfl
theorem restB_take_skip (ss ts : List Bd) (j : Nat) (h : j < ts.length) (hb : bndB ss ts[j].1 = true) : restB ss (ts.take (j + 1)) = restB ss (ts.take j) := by
  unfold restB
  rw [List.take_succ_eq_append_getElem h, List.filter_append, List.filter_cons, if_neg (by rw [hb]; decide)]; simp
theorem restB_take_keep (ss ts : List Bd) (j : Nat) (h : j < ts.length) (hb : bndB ss ts[j].1 = false) : restB ss (ts.take (j + 1)) = restB ss (ts.take j) ++ [ts[j]] := by
  unfold restB
  rw [List.take_succ_eq_append_getElem h, List.filter_append, List.filter_cons, if_pos (by rw [hb]; rfl)]; simp
/-- A list of bindings and an error, given back. -/
def RcPost (w : World) (r : List Bd × Int) (e : Ending) (w' : World) : Prop :=
  ∃ xa cap, e = .returned (.tuple #[.slice xa r.1.length cap, .int .i64 r.2]) ∧ r.1.length ≤ cap ∧ Row w' (flatB r.1) xa ∧ Below w.heap.size w w'
theorem RcPost_err {w W : World} {r : List Bd × Int} {x : Int} (h : r = ([], x)) (hB : Below w.heap.size w W) : RcPost w r (.returned (.tuple #[.slice none 0 0, .int .i64 x])) W := by
  rw [h]; exact ⟨none, 0, rfl, Nat.le_refl _, by simp [flatB, Row], hB⟩
/-- What lies in the slot of what is composed. -/
def OutB (w wr : World) (acc : List Bd) (n : Nat) (v : Value) : Prop :=
  ∃ xa cap, v = .slice xa acc.length cap ∧ acc.length ≤ cap ∧ acc.length ≤ n ∧ SzB 1073741824 acc ∧ Row wr (flatB acc) xa ∧ Below w.heap.size w wr
theorem BindPost.out {w wr w' : World} {acc : List Bd} {b : Bd} {n : Nat} {e : Ending} (hz : SzB 1073741824 acc) (hn : acc.length ≤ n) (hb : size b.1 ≤ 1073741824 ∧ size b.2 ≤ 1073741824) (hB : Below w.heap.size w wr) (h : BindPost wr (insB acc b) e w') : ∃ xa cap, e = .returned (.slice xa (insB acc b).length cap) ∧ OutB w w' (insB acc b) (n + 1) (.slice xa (insB acc b).length cap) ∧ Ext wr w' := by
  obtain ⟨xa, cap, he, h1, h2, h3⟩ := h
  exact ⟨xa, cap, he, ⟨xa, cap, rfl, h1, by have := insB_len acc b; omega, insB_sz hz hb, h2, hB.trans (h3.mono hB.size)⟩, h3⟩

set_option maxHeartbeats 3200000 in
set_option maxRecDepth 100000 in
theorem rcompose_bad1 (ss ts : List Bd) (xs xt : Option Addr) (cs ct : Nat) (w : World) (hcs : ss.length ≤ cs) (hl : ss.length ≤ maxLen) (hsz : SzB 1073741824 ss) (hrow : Row w (flatB ss) xs) (hv : ¬ validB ss = 0) :
    Calls Tryd.prog 30 #[.slice xs ss.length cs, .slice xt ts.length ct] w (RcPost w (comP ss ts)) := by
  have HV1 := Lib.hid (rbvalid_any ss xs cs w hcs hl hsz hrow)
  have HE : Hid (comP ss ts = ([], validB ss)) := by show _ = _; unfold comP; rw [if_neg hv]
  generalize validB ss = E at hv HV1 HE
  have q1 : (E != 0) = true := by rw [bne_iff_ne]; exact hv
  clear hcs hl hsz hrow hv
  go_enter Tryd.func30, Tryd.ntmps30
  go_wp2_with (go_at_call 18; refine (HV1.out).mono ?_; rintro e w1 ⟨he, hB⟩; subst he; have HB1 := Lib.hid hB; clear hB)
  exact bodyPost_ret (v := .tuple #[.slice none 0 0, .int .i64 E]) (by simp [results, Tryd.results30, go_sem]) rfl (RcPost_err HE.out HB1.out)
set_option maxHeartbeats 3200000 in
set_option maxRecDepth 100000 in
theorem rcompose_bad2 (ss ts : List Bd) (xs xt : Option Addr) (cs ct : Nat) (w : World) (hcs : ss.length ≤ cs) (hl : ss.length ≤ maxLen) (hsz : SzB 1073741824 ss) (hrow : Row w (flatB ss) xs) (hct : ts.length ≤ ct) (hlt : ts.length ≤ maxLen) (htz : SzB 1073741824 ts) (hrowt : Row w (flatB ts) xt) (hv1 : validB ss = 0) (hv : ¬ validB ts = 0) :
    Calls Tryd.prog 30 #[.slice xs ss.length cs, .slice xt ts.length ct] w (RcPost w (comP ss ts)) := by
  have HV1 := Lib.hid (rbvalid_any ss xs cs w hcs hl hsz hrow)
  have HV2 := Lib.hid (fun W (x : Ext w W) => rbvalid_any ts xt ct W hct hlt htz (Row_below (w' := W) hrowt x))
  have HE : Hid (comP ss ts = ([], validB ts)) := by show _ = _; unfold comP; rw [if_pos hv1, if_neg hv]
  rw [hv1] at HV1
  generalize validB ts = E at hv HV2 HE
  have q0 : ((0 : Int) != 0) = false := rfl
  have q1 : (E != 0) = true := by rw [bne_iff_ne]; exact hv
  have tok1 : True := trivial
  clear hcs hl hsz hrow hct hlt htz hrowt hv1 hv
  go_enter Tryd.func30, Tryd.ntmps30
  go_wp2_with (first
    | (go_at_call 18; have _t := tok1; refine (HV1.out).mono ?_; rintro e w1 ⟨he, hB⟩; subst he; have HB1 := Lib.hid hB; clear hB tok1)
    | (go_at_call 18; refine (HV2.out _ HB1.out).mono ?_; rintro e w2 ⟨he, hB⟩; subst he; have HB2 := Lib.hid (Ext.trans HB1.out hB); clear hB))
  exact bodyPost_ret (v := .tuple #[.slice none 0 0, .int .i64 E]) (by simp [results, Tryd.results30, go_sem]) rfl (RcPost_err HE.out HB2.out)

set_option maxHeartbeats 6400000 in
set_option maxRecDepth 100000 in
theorem rcompose_good (ss ts : List Bd) (xs xt : Option Addr) (cs ct N : Nat) (w : World) (hcs : ss.length ≤ cs) (hl : ss.length ≤ 200) (hsz : SzB 1073741824 ss) (hrow : Row w (flatB ss) xs) (hct : ts.length ≤ ct) (hlt : ts.length ≤ 200) (htz : SzB 1073741824 ts) (hrowt : Row w (flatB ts) xt) (hv1 : validB ss = 0) (hv2 : validB ts = 0) (hN : ∀ b ∈ ts, size b.2 ≤ N) (h1 : 1 ≤ N) (hsn : ∀ b ∈ ss, size b.2 * N ≤ 1073741824) :
    Calls Tryd.prog 30 #[.slice xs ss.length cs, .slice xt ts.length ct] w (RcPost w (comP ss ts)) := by
  have HV1 := Lib.hid (rbvalid_any ss xs cs w hcs (by unfold maxLen; omega) hsz hrow)
  have HV2 := Lib.hid (fun W (x : Ext w W) => rbvalid_any ts xt ct W hct (by unfold maxLen; omega) htz (Row_below (w' := W) hrowt x))
  rw [hv1] at HV1
  rw [hv2] at HV2
  have HAP := Lib.hid (fun (b : Bd) (hb : b ∈ ss) (c0 c1 c2 c3 : Value) W (x : Ext w W) (hI : Is W b.2 c0 c1 c2 c3) => rapply_any ts xt ct N b.2 c0 c1 c2 c3 W hct (by omega) htz (Row_below (w' := W) hrowt x) hN h1 (hsn b hb) hI)
  have HAZ := Lib.hid (fun (b : Bd) (hb : b ∈ ss) => applyP_size (ts := ts) (t := b.2) hN h1 (hsn b hb))
  have HAV : Hid (∀ t, applyV ts t = applyP ts t) := fun t => by unfold applyV; rw [if_pos hv2]
  have HBD := Lib.hid (fun (x : Tm) (c0 c1 c2 c3 : Value) W (hE : Ext w W) (hx : size x ≤ 1073741824) (hI : Is W x c0 c1 c2 c3) => bound_any ss xs cs x c0 c1 c2 c3 W hcs (by unfold maxLen; omega) hsz (Row_below (w' := W) hrow hE) hx hI)
  have HCP : Hid (comP ss ts = if (folP ts ss).2 = 0 then (if 200 < (comR ss ts).length then ([], 3) else (comR ss ts, 0)) else ([], (folP ts ss).2)) := by show _ = _; unfold comP; rw [if_pos hv1, if_pos hv2]
  have HRS := Lib.hid hrow
  have HRT := Lib.hid hrowt
  have HZS := Lib.hid hsz
  have HZT := Lib.hid htz
  have q0 : ((0 : Int) != 0) = false := rfl
  have tok1 : True := trivial
  clear hcs hsz hrow hct htz hrowt hv1 hv2 hN h1 hsn
  generalize comP ss ts = R at HCP ⊢
  go_enter Tryd.func30, Tryd.ntmps30
  go_wp2_with (first
    | (go_at_call 18; have _t := tok1; refine (HV1.out).mono ?_; rintro e w1 ⟨he, hB⟩; subst he; have HB1 := Lib.hid hB; clear hB tok1)
    | (go_at_call 18; refine (HV2.out _ HB1.out).mono ?_; rintro e w2 ⟨he, hB⟩; subst he; have HB2 := Lib.hid (Ext.trans HB1.out hB); clear hB))
  go_loopw [8, 9] (fun lv i wr => ∃ (j : Nat), j ≤ ss.length ∧ i = .int .i64 j ∧ OutB w wr (insL [] (apB ts (ss.take j))) j lv ∧ Hid (∀ (a : Nat) (ha : a < j) (hb : a < ss.length), (applyP ts ss[a].2).2 = 0)) (fun _ i _ => ss.length - (intOf i).toNat)
  case atStart => exact ⟨0, Nat.zero_le _, rfl, ⟨none, 0, rfl, Nat.le_refl _, Nat.le_refl _, fun b hb => by simp [insL, apB] at hb, by simp [insL, apB, flatB, Row], HB2.out⟩, fun a ha => absurd ha (by omega)⟩
  case round =>
    obtain ⟨j, hj, rfl, hO, HOK⟩ := hrel
    obtain ⟨xo, co, rfl, hoc, hon, hoz, hor, hB⟩ := hO
    by_cases hlt1 : j < ss.length
    rotate_left
    · -- all of s is done
      have hjl : j = ss.length := by omega
      rw [hjl, List.take_length] at hoc hon hoz hor ⊢
      have HFO : Hid ((folP ts ss).2 = 0) := folP_fine ts ss (fun b hb => by
        obtain ⟨a, ha, rfl⟩ := List.getElem_of_mem hb
        exact HOK.out a (by omega) ha)
      have hO2 : OutB w wr (insL (insL [] (apB ts ss)) (restB ss (ts.take 0))) (ss.length + 0) (.slice xo (insL [] (apB ts ss)).length co) := ⟨xo, co, rfl, hoc, by simpa [restB, insL] using hon, hoz, hor, hB⟩
      have HO2 := Lib.hid hO2
      clear hO2 hoc hon hoz hor hB hjl HOK
      go_wp2_with fail
      go_loopw [8, 12] (fun lv i wr2 => ∃ (j : Nat), j ≤ ts.length ∧ i = .int .i64 j ∧ OutB w wr2 (insL (insL [] (apB ts ss)) (restB ss (ts.take j))) (ss.length + j) lv) (fun _ i _ => ts.length - (intOf i).toNat)
      case atStart => exact ⟨0, Nat.zero_le _, rfl, HO2.out⟩
      case round =>
        obtain ⟨j2, hj2, rfl, hO⟩ := hrel
        obtain ⟨xo2, co2, rfl, hoc, hon, hoz, hor, hB⟩ := hO
        by_cases hlt2 : j2 < ts.length
        rotate_left
        · have hjl : j2 = ts.length := by omega
          rw [hjl, List.take_length] at hoc hon hoz hor ⊢
          have hcr : insL (insL [] (apB ts ss)) (restB ss ts) = comR ss ts := rfl
          rw [hcr] at hoc hon hoz hor ⊢
          have HQ : Hid (R = if 200 < (comR ss ts).length then ([], 3) else (comR ss ts, 0)) := by show _ = _; rw [HCP.out, if_pos HFO.out]
          have HOV := Lib.hid (And.intro hoc (And.intro hor hB))
          generalize comR ss ts = cc at HOV HQ hoc hon hoz hor ⊢
          clear hoc hon hoz hor hB hjl hcr
          by_cases h200 : 200 < cc.length
          · have HQ2 : Hid (R = ([], 3)) := by show _ = _; rw [HQ.out, if_pos h200]
            have q2 : (200 : Int) < (cc.length : Int) := by omega
            clear h200
            go_wp2_with fail
            exact bodyPost_ret (v := .tuple #[.slice none 0 0, .int .i64 3]) (by simp [results, Tryd.results30, go_sem]) rfl (RcPost_err HQ2.out HOV.out.2.2)
          · have HQ2 : Hid (R = (cc, 0)) := by show _ = _; rw [HQ.out, if_neg h200]
            have q2 : (cc.length : Int) ≤ 200 := by omega
            clear h200
            go_wp2_with fail
            refine bodyPost_ret (v := .tuple #[.slice xo2 cc.length co2, .int .i64 0]) (by simp [results, Tryd.results30, go_sem]) rfl ?_
            rw [HQ2.out]
            exact ⟨xo2, co2, rfl, HOV.out.1, HOV.out.2.1, HOV.out.2.2⟩
        obtain ⟨b, o, rfl⟩ := Row_at HRT.out (by rw [flatB_length]; omega)
        obtain ⟨⟨v0, v1, v2, v3, g0, g1, g2, g3, hI1⟩, t0, t1, t2, t3, g4, g5, g6, g7, hI2⟩ := bds_get (Row_below HRT.out hB) j2 hlt2
        obtain ⟨k1, n1, s1, ya1, yl1, yc1, rfl, rfl, rfl, rfl⟩ := Is_form hI1
        obtain ⟨k2, n2, s2, ya2, yl2, yc2, rfl, rfl, rfl, rfl⟩ := Is_form hI2
        rw [Nat.add_assoc] at g5 g6 g7
        have hz1 := HZT.out ts[j2] (List.getElem_mem hlt2)
        have HCB := Lib.hid (HBD.out ts[j2].1 _ _ _ _ wr hB hz1.1 hI1)
        have HSK := Lib.hid (restB_take_skip ss ts j2 hlt2)
        have HKP := Lib.hid (restB_take_keep ss ts j2 hlt2)
        have HOUT : Hid (OutB w wr (insL (insL [] (apB ts ss)) (restB ss (ts.take j2))) (ss.length + j2) (.slice xo2 (insL (insL [] (apB ts ss)) (restB ss (ts.take j2))).length co2)) := ⟨xo2, co2, rfl, hoc, hon, hoz, hor, hB⟩
        have HB := Lib.hid hB
        have HCr : Hid (∀ W, Ext wr W → (W.cell? ⟨b, o + j2 * 8, none⟩ = some (.int .i64 k1) ∧ W.cell? ⟨b, o + j2 * 8 + 1, none⟩ = some (.string n1) ∧ W.cell? ⟨b, o + j2 * 8 + 2, none⟩ = some (.int .i64 s1) ∧ W.cell? ⟨b, o + j2 * 8 + 3, none⟩ = some (.slice ya1 yl1 yc1)) ∧ (W.cell? ⟨b, o + j2 * 8 + 4, none⟩ = some (.int .i64 k2) ∧ W.cell? ⟨b, o + j2 * 8 + 5, none⟩ = some (.string n2) ∧ W.cell? ⟨b, o + j2 * 8 + 6, none⟩ = some (.int .i64 s2) ∧ W.cell? ⟨b, o + j2 * 8 + 7, none⟩ = some (.slice ya2 yl2 yc2))) := fun W h => ⟨⟨keep_below h _ _ g0, keep_below h _ _ g1, keep_below h _ _ g2, keep_below h _ _ g3⟩, ⟨keep_below h _ _ g4, keep_below h _ _ g5, keep_below h _ _ g6, keep_below h _ _ g7⟩⟩
        have HBN := Lib.hid (fun W (x : Ext wr W) => rbind_any (insL (insL [] (apB ts ss)) (restB ss (ts.take j2))) xo2 co2 ts[j2].1 ts[j2].2 _ _ _ _ _ _ _ _ W hoc (by omega) hoz (Row_below (w' := W) hor x) hz1.1 hz1.2 (Is_below (w' := W) hI1 x) (Is_below (w' := W) hI2 x))
        have HBO := Lib.hid (fun W e W' (x : Ext wr W) (h : BindPost W (insB (insL (insL [] (apB ts ss)) (restB ss (ts.take j2))) (ts[j2].1, ts[j2].2)) e W') => BindPost.out (n := ss.length + j2) hoz hon hz1 (Ext.trans hB x) h)
        have i1 : (0 : Int) ≤ (j2 : Int) := by omega
        have i2 : (j2 : Int) < (ts.length : Int) := by omega
        generalize bndB ss ts[j2].1 = bb at HCB HSK HKP
        obtain ⟨acc, hacc⟩ : ∃ acc, insL (insL [] (apB ts ss)) (restB ss (ts.take j2)) = acc := ⟨_, rfl⟩
        rw [hacc] at HOUT HBN HBO ⊢
        have HACC := Lib.hid hacc
        clear hoc hon hoz hor hB hI1 hI2 hz1 hacc
        cases bb with
        | true =>
          go_wp2_with (go_at_call 67; refine (HCB.out).mono ?_; rintro e w4 ⟨he, hB4⟩; subst he; have HB4 := Lib.hid hB4; clear hB4)
          go_roundw
          case rel =>
            refine ⟨j2 + 1, by omega, by go_num, ?_⟩
            rw [HSK.out (by first | trivial | rfl), HACC.out]
            obtain ⟨x9, c9, e9, r1, r2, r3, r4, r5⟩ := HOUT.out
            exact ⟨x9, c9, e9, r1, by omega, r3, Row_below r4 HB4.out, Ext.trans r5 HB4.out⟩
          case measure => simp [intOf]; omega
        | false =>
          go_upto_region 19 with (go_at_call 67; refine (HCB.out).mono ?_; rintro e w4 ⟨he, hB4⟩; subst he; have HB4 := Lib.hid hB4; clear hB4)
          have hF0 : Ext wr w4.drew := (Ext.trans (Ext.refl wr) HB4.out).drew
          clear g0 g1 g2 g3 g4 g5 g6 g7
          obtain ⟨⟨g0, g1, g2, g3⟩, g4, g5, g6, g7⟩ := HCr.out w4 HB4.out
          go_region_held3 (fun W => (W.cell? ⟨b, o + j2 * 8, none⟩ = some (.int .i64 k1) ∧ W.cell? ⟨b, o + j2 * 8 + 1, none⟩ = some (.string n1) ∧ W.cell? ⟨b, o + j2 * 8 + 2, none⟩ = some (.int .i64 s1) ∧ W.cell? ⟨b, o + j2 * 8 + 3, none⟩ = some (.slice ya1 yl1 yc1)) ∧ (W.cell? ⟨b, o + j2 * 8 + 4, none⟩ = some (.int .i64 k2) ∧ W.cell? ⟨b, o + j2 * 8 + 5, none⟩ = some (.string n2) ∧ W.cell? ⟨b, o + j2 * 8 + 6, none⟩ = some (.int .i64 s2) ∧ W.cell? ⟨b, o + j2 * 8 + 7, none⟩ = some (.slice ya2 yl2 yc2)))
            (first | exact HCr.out _ (by assumption) | go_keep)
            (first
              | (go_at_call 66; refine (HBN.out _ hF0).mono ?_; rintro e w6 hp; obtain ⟨xa6, cap6, he, hO6, hE6⟩ := HBO.out _ _ _ hF0 hp; subst he; have HO6 := Lib.hid hO6; have hF1 : Ext wr w6 := hF0.trans hE6; clear hp hO6 hE6))
          all_goals (go_wp2_with fail)
          all_goals (go_roundw)
          case rel =>
            refine ⟨j2 + 1, by omega, by go_num, ?_⟩
            rw [HKP.out (by first | trivial | rfl), insL_snoc, HACC.out]
            exact HO6.out
          case measure => simp [intOf]; omega
    obtain ⟨b, o, rfl⟩ := Row_at HRS.out (by rw [flatB_length]; omega)
    obtain ⟨⟨v0, v1, v2, v3, g0, g1, g2, g3, hI1⟩, t0, t1, t2, t3, g4, g5, g6, g7, hI2⟩ := bds_get (Row_below HRS.out hB) j hlt1
    obtain ⟨k1, n1, s1, ya1, yl1, yc1, rfl, rfl, rfl, rfl⟩ := Is_form hI1
    obtain ⟨k2, n2, s2, ya2, yl2, yc2, rfl, rfl, rfl, rfl⟩ := Is_form hI2
    rw [Nat.add_assoc] at g5 g6 g7
    have hz1 := HZS.out ss[j] (List.getElem_mem hlt1)
    have hC := HAP.out ss[j] (List.getElem_mem hlt1) _ _ _ _ wr hB hI2
    have hCz := HAZ.out ss[j] (List.getElem_mem hlt1)
    rw [HAV.out] at hC
    have htk := apB_take ts ss j hlt1
    have HERR := Lib.hid (fun (h : ¬ (applyP ts ss[j].2).2 = 0) => folP_err ts ss j hlt1 (fun i hi => HOK.out i hi (by omega)) h)
    have HOK2 : Hid ((applyP ts ss[j].2).2 = 0 → ∀ (a : Nat) (ha : a < j + 1) (hb : a < ss.length), (applyP ts ss[a].2).2 = 0) := fun h a ha hb => by
      by_cases e : a = j
      · subst e; exact h
      · exact HOK.out a (by omega) hb
    generalize applyP ts ss[j].2 = r at hC hCz htk HERR HOK2
    obtain ⟨u, x⟩ := r
    have HC := Lib.hid hC
    have HTK := Lib.hid htk
    have HCZ := Lib.hid hCz
    have HOV := Lib.hid (And.intro hoc (And.intro hon (And.intro hoz (And.intro hor hB))))
    have i1 : (0 : Int) ≤ (j : Int) := by omega
    have i2 : (j : Int) < (ss.length : Int) := by omega
    have HZ1 := Lib.hid hz1
    have HIV := Lib.hid hI1
    have HCr : Hid (∀ W, Ext wr W → W.cell? ⟨b, o + j * 8, none⟩ = some (.int .i64 k1) ∧ W.cell? ⟨b, o + j * 8 + 1, none⟩ = some (.string n1) ∧ W.cell? ⟨b, o + j * 8 + 2, none⟩ = some (.int .i64 s1) ∧ W.cell? ⟨b, o + j * 8 + 3, none⟩ = some (.slice ya1 yl1 yc1)) := fun W h => ⟨keep_below h _ _ g0, keep_below h _ _ g1, keep_below h _ _ g2, keep_below h _ _ g3⟩
    clear hC hCz htk hoc hon hoz hor hB hz1 hI1 hI2 g0 g1 g2 g3
    by_cases hx : x = 0
    rotate_left
    · have HQ : Hid (R = ([], x)) := by
        show _ = _
        have := HERR.out hx
        rw [HCP.out, if_neg (by rw [this]; exact hx), this]
      have q3 : (x != 0) = true := by rw [bne_iff_ne]; exact hx
      clear hx
      go_wp2_with (go_at_call 28; refine (HC.out).mono ?_; rintro e w4 ⟨c0, c1, c2, c3, he, hI4, hB4⟩; subst he; obtain ⟨k6, n6, s6, xa6, l6, cap6, e0, e1, e2, e3⟩ := Is_form hI4; subst e0 e1 e2 e3; have HB4 := Lib.hid hB4; clear hI4 hB4)
      exact bodyPost_ret (v := .tuple #[.slice none 0 0, .int .i64 x]) (by simp [results, Tryd.results30, go_sem]) rfl (RcPost_err HQ.out (Ext.alloc (a := w) (Ext.trans (a := w) HOV.out.2.2.2.2 HB4.out) _))
    have HOK3 := Lib.hid (HOK2.out hx)
    have HUZ := Lib.hid (HCZ.out hx)
    subst hx
    go_upto_region 14 with (go_at_call 28; refine (HC.out).mono ?_; rintro e w4 ⟨c0, c1, c2, c3, he, hI4, hB4⟩; subst he; obtain ⟨k6, n6, s6, xa6, l6, cap6, e0, e1, e2, e3⟩ := Is_form hI4; subst e0 e1 e2 e3; have HI4 := Lib.hid hI4; have HB4 := Lib.hid hB4; clear hI4 hB4)
    have hx5 := heap_alloc_new w4 (.cells #[.int .i64 k6, .string n6, .int .i64 s6, .slice xa6 l6 cap6] 25)
    have hI5 : Is (w4.alloc (.cells #[.int .i64 k6, .string n6, .int .i64 s6, .slice xa6 l6 cap6] 25)) u (.int .i64 k6) (.string n6) (.int .i64 s6) (.slice xa6 l6 cap6) := Is_alloc HI4.out _
    have hE5 : Ext wr (w4.alloc (.cells #[.int .i64 k6, .string n6, .int .i64 s6, .slice xa6 l6 cap6] 25)) := Ext.alloc HB4.out _
    have hs5 : w4.heap.size < (w4.alloc (.cells #[.int .i64 k6, .string n6, .int .i64 s6, .slice xa6 l6 cap6] 25)).heap.size := by rw [World.size_alloc]; omega
    generalize (w4.alloc (.cells #[.int .i64 k6, .string n6, .int .i64 s6, .slice xa6 l6 cap6] 25)) = w5 at hx5 hI5 hE5 hs5 ⊢
    generalize w4.heap.size = gb at hx5 hs5 ⊢
    obtain ⟨acc, hacc⟩ : ∃ acc, insL [] (apB ts (ss.take j)) = acc := ⟨_, rfl⟩
    rw [hacc] at HOV ⊢
    have HACC := Lib.hid hacc
    have HCs : Hid (∀ W, Ext w5 W → (W.cell? ⟨b, o + j * 8, none⟩ = some (.int .i64 k1) ∧ W.cell? ⟨b, o + j * 8 + 1, none⟩ = some (.string n1) ∧ W.cell? ⟨b, o + j * 8 + 2, none⟩ = some (.int .i64 s1) ∧ W.cell? ⟨b, o + j * 8 + 3, none⟩ = some (.slice ya1 yl1 yc1)) ∧ (W.cell? ⟨gb, 0, none⟩ = some (.int .i64 k6) ∧ W.cell? ⟨gb, 1, none⟩ = some (.string n6) ∧ W.cell? ⟨gb, 2, none⟩ = some (.int .i64 s6) ∧ W.cell? ⟨gb, 3, none⟩ = some (.slice xa6 l6 cap6))) := fun W h => ⟨HCr.out W (Ext.trans hE5 h), (box_facts ((h.block gb (by omega)).trans hx5)).1⟩
    have HBN := Lib.hid (fun W (x : Ext w5 W) => rbind_any acc xo co ss[j].1 u _ _ _ _ _ _ _ _ W HOV.out.1 (by have := HOV.out.2.1; omega) HOV.out.2.2.1 (Row_below (w' := W) HOV.out.2.2.2.1 (Ext.trans hE5 x)) HZ1.out.1 HUZ.out (Is_below (w' := W) HIV.out (Ext.trans hE5 x)) (Is_below (w' := W) hI5 x))
    have HBO := Lib.hid (fun W e W' (x : Ext w5 W) (h : BindPost W (insB acc (ss[j].1, u)) e W') => BindPost.out (b := (ss[j].1, u)) (n := j) HOV.out.2.2.1 HOV.out.2.1 ⟨HZ1.out.1, HUZ.out⟩ (Ext.trans HOV.out.2.2.2.2 (Ext.trans hE5 x)) h)
    have hF0 : Ext w5 w5.drew := (Ext.refl w5).drew
    obtain ⟨⟨g0, g1, g2, g3⟩, m0, m1, m2, m3⟩ := HCs.out w5 (Ext.refl w5)
    clear hx5 hI5 hE5 hs5 hacc
    go_region_held3 (fun W => (W.cell? ⟨b, o + j * 8, none⟩ = some (.int .i64 k1) ∧ W.cell? ⟨b, o + j * 8 + 1, none⟩ = some (.string n1) ∧ W.cell? ⟨b, o + j * 8 + 2, none⟩ = some (.int .i64 s1) ∧ W.cell? ⟨b, o + j * 8 + 3, none⟩ = some (.slice ya1 yl1 yc1)) ∧ (W.cell? ⟨gb, 0, none⟩ = some (.int .i64 k6) ∧ W.cell? ⟨gb, 1, none⟩ = some (.string n6) ∧ W.cell? ⟨gb, 2, none⟩ = some (.int .i64 s6) ∧ W.cell? ⟨gb, 3, none⟩ = some (.slice xa6 l6 cap6)))
      (first | exact HCs.out _ (by assumption) | go_keep)
      (first
        | (go_at_call 66; refine (HBN.out _ hF0).mono ?_; rintro e w6 hp; obtain ⟨xa9, cap9, he, hO6, hE6⟩ := HBO.out _ _ _ hF0 hp; subst he; have HO6 := Lib.hid hO6; have hF1 : Ext w5 w6 := hF0.trans hE6; clear hp hO6 hE6))
    all_goals (go_wp2_with fail)
    all_goals (go_roundw)
    case rel =>
      refine ⟨j + 1, by omega, by go_num, ?_, HOK3⟩
      rw [HTK.out, insL_snoc, HACC.out]
      exact HO6.out
    case measure => simp [intOf]; omega
end Go.Proofs.YtdgofofhkebkkaaDoor
