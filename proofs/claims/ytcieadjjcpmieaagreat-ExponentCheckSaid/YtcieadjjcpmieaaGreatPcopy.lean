/-
  THE WALKS OF exponent.copyOf and exponent.scaled.
-/
import Derived.Test.YtcieadjjcpmieaaGreatPw
import Derived.Test.YtcieadjjcpmieaaGreatFind
import Derived.Test.YtcieadjjcpmieaaGreatNodes
import Derived.Deep.LoopGhost
import Derived.Laws.Shifts
import Derived.BigQuiet
import Derived.Deep.RegionHeld3
namespace Go.Proofs.YtcieadjjcpmieaaGreat
open Go.RowKit

theorem infoPw : (Tryz.prog.info? 77).map (fun i => (i.zero, i.size, i.bytes)) = some (some (.agg #[.int .i64 0, .string ⟨#[]⟩, .int .i64 0, .slice none 0 0, .int .i64 0]), 5, 64) := by kernel_rfl
set_option maxHeartbeats 3200000 in
set_option maxRecDepth 100000 in
theorem ecopy_any (t : Tm) (b o : Nat) (w : World) (hM : size t ≤ 1073741824) (hL : Lies w t b o) :
    Calls Tryz.prog 84 #[.pointer (some ⟨b, o, none⟩)] w (CopyPost w t) := by
  obtain ⟨c0, c1, c2, c3, g0, g1, g2, g3, hI⟩ := hL
  obtain ⟨k, n, s, xa, l, cap, rfl, rfl, rfl, rfl⟩ := Is_form hI
  have hb1 := heap_alloc_new w (.cells #[.int .i64 0, .string ⟨#[]⟩, .int .i64 0, .slice none 0 0] 24)
  have hBw : Below w.heap.size w (w.alloc (.cells #[.int .i64 0, .string ⟨#[]⟩, .int .i64 0, .slice none 0 0] 24)) := (Below.refl _ _).alloc (Nat.le_refl _) _
  have hZ : (w.alloc (.cells #[.int .i64 0, .string ⟨#[]⟩, .int .i64 0, .slice none 0 0] 24)).heap.size = w.heap.size + 1 := World.size_alloc _ _
  have hIV : ∀ W, IntsV W (.slice none 0 0) [] := fun W => ⟨none, 0, rfl, Nat.zero_le _, fun x hx => by simp at hx, fun h => by simp at h⟩
  have HA := Lib.hid (At_any t [] _ _ _ _ _ _ hM (Is_below hI hBw) (hIV _))
  have HB := Lib.hid hBw
  have HZ := Lib.hid hZ
  have HB1 := Lib.hid hb1
  have x0 := keep_below hBw _ _ g0
  have x1 := keep_below hBw _ _ g1
  have x2 := keep_below hBw _ _ g2
  have x3 := keep_below hBw _ _ g3
  clear hI hb1 hBw hZ hIV
  go_enter Tryz.func84, Tryz.ntmps84
  go_upto_region 2 with (go_at_call 113; refine (HA.out).mono ?_; rintro e w5 ⟨hB5, d0, d1, d2, d3, he, hI⟩; subst he; obtain ⟨xk, xn, xs, xr, xn2, xc, e0', e1', e2', e3'⟩ := IsIn_form hI; subst e0'; subst e1'; subst e2'; subst e3'; have HE5 := Lib.hid hB5; have HI5 := Lib.hid hI; clear hB5 hI)
  have hs5 := HE5.out.size
  have hZZ := HZ.out
  have hb : (w5.alloc (.cells #[.int .i64 xk, .string xn, .int .i64 xs, .slice xr xn2 xc] 24)).heap[w.heap.size]? = some (.cells #[.int .i64 0, .string ⟨#[]⟩, .int .i64 0, .slice none 0 0] 24 (0, 0)) := (Below.heap_alloc _ _ _ (by omega)).trans ((HE5.out.block _ (by omega)).trans HB1.out)
  have hx0 := heap_alloc_new w5 (.cells #[.int .i64 xk, .string xn, .int .i64 xs, .slice xr xn2 xc] 24)
  have hB6 : Below w.heap.size w (w5.alloc (.cells #[.int .i64 xk, .string xn, .int .i64 xs, .slice xr xn2 xc] 24)) := (HB.out.trans (HE5.out.mono (by omega))).alloc (by omega) _
  have hI6 : IsIn (fun b => w.heap.size + 1 ≤ b ∧ b < w5.heap.size) (w5.alloc (.cells #[.int .i64 xk, .string xn, .int .i64 xs, .slice xr xn2 xc] 24)) t (.int .i64 xk) (.string xn) (.int .i64 xs) (.slice xr xn2 xc) := IsIn_carry (fun b hb => Below.heap_alloc _ _ _ hb.2) (fun b hb => ⟨by have := hb.1; omega, hb.2⟩) _ _ _ _ _ HI5.out
  have hs6 : (w5.alloc (.cells #[.int .i64 xk, .string xn, .int .i64 xs, .slice xr xn2 xc] 24)).heap.size = w5.heap.size + 1 := World.size_alloc _ _
  generalize (w5.alloc (.cells #[.int .i64 xk, .string xn, .int .i64 xs, .slice xr xn2 xc] 24)) = w6 at hb hx0 hB6 hI6 hs6 ⊢
  obtain ⟨⟨m0, m1, m2, m3⟩, n0, n1, n2, n3⟩ := box_facts hb
  obtain ⟨⟨y0, y1, y2, y3⟩, _⟩ := box_facts hx0
  have HF : Hid (CopyPost w t (.returned (.agg #[.int .i64 xk, .string xn, .int .i64 xs, .slice xr xn2 xc])) (put4 w6 w.heap.size 0 (.int .i64 xk) (.string xn) (.int .i64 xs) (.slice xr xn2 xc))) :=
    ⟨_, _, _, _, rfl, IsIn_carry (fun b hb => put4_other _ _ _ _ _ _ _ _ (by have := hb.1; omega)) (fun b hb => ⟨by have := hb.1; omega, by rw [put4_size]; have := hb.2; omega⟩) _ _ _ _ _ hI6, put4_below hB6 (Nat.le_refl _)⟩
  clear hb hx0 hB6 hI6 hs6 hs5 hZZ g0 g1 g2 g3 x0 x1 x2 x3
  go_wp2_with fail
  exact bodyPost_ret (v := .agg #[.int .i64 xk, .string xn, .int .i64 xs, .slice xr xn2 xc]) (by simp [results, Tryz.results84, go_sem, m0, m1, m2, m3]) rfl HF.out

/-- Five stores into a block. -/
def put5 (w : World) (g o : Nat) (c0 c1 c2 c3 c4 : Value) : World := (put4 w g o c0 c1 c2 c3).setCell ⟨g, o + 4, none⟩ c4
theorem put5_other (w : World) (g o k : Nat) (c0 c1 c2 c3 c4 : Value) (hk : k ≠ g) : (put5 w g o c0 c1 c2 c3 c4).heap[k]? = w.heap[k]? := by
  unfold put5; rw [Below.heap_setCell _ _ _ _ (by simp only [ne_eq]; exact hk), put4_other _ _ _ _ _ _ _ _ hk]
theorem put5_size (w : World) (g o : Nat) (c0 c1 c2 c3 c4 : Value) : (put5 w g o c0 c1 c2 c3 c4).heap.size = w.heap.size := by
  unfold put5; rw [World.size_setCell, put4_size]
theorem put5_below {w w' : World} {B g o : Nat} {c0 c1 c2 c3 c4 : Value} (h : Below B w w') (hg : B ≤ g) : Below B w (put5 w' g o c0 c1 c2 c3 c4) := (put4_below h hg).setCell (p := ⟨g, o + 4, none⟩) hg c4
theorem five_of (zs : List Value) (h : 5 ≤ zs.length) : ∃ z0 z1 z2 z3 z4 r, zs = z0 :: z1 :: z2 :: z3 :: z4 :: r := by
  obtain ⟨z0, z1, z2, z3, r, rfl⟩ := four_of zs (by omega)
  cases r with
  | nil => simp at h
  | cons z4 r => exact ⟨_, _, _, _, _, _, rfl⟩
/-- A made row of powers, the first j of which are set. -/
structure PR (S : World → Nat → Prop) (w : World) (g : Nat) (us : List Pw) (j : Nat) (wr : World) : Prop where
  below : Below w.heap.size w wr
  own : w.heap.size ≤ g
  row : ∃ cs zs, wr.ownsRow g 77 5 (.slice (some ⟨g, 0, none⟩) us.length us.length) us.length (cs ++ zs) ∧ cs.length = j * 5 ∧ KP (S wr) wr (us.take j) cs
/-- New blocks other than the row's own. -/
def newB (g : Nat) (w : World) (b : Nat) : Prop := g < b ∧ b < w.heap.size
theorem PR.lt {S : World → Nat → Prop} {w wr : World} {g j : Nat} {us : List Pw} (h : PR S w g us j wr) : g < wr.heap.size := by
  obtain ⟨cs, zs, ho, _⟩ := h.row
  exact (ho.lt g rfl).2
theorem PR.ext {w wr w3 : World} {g j : Nat} {us : List Pw} (h : PR (newB g) w g us j wr) (hB : Ext wr w3) : PR (newB g) w g us j w3 := by
  obtain ⟨cs, zs, ho, hc, hK⟩ := h.row
  exact ⟨Ext.trans h.below hB, h.own, cs, zs, own_heap ho (fun q hq => hB.block q (ho.lt q hq).2), hc, KP_carry (fun b hb => hB.block b hb.2) (fun b hb => ⟨hb.1, Nat.lt_of_lt_of_le hb.2 hB.size⟩) hK⟩
theorem PR.cells {S : World → Nat → Prop} {w wr : World} {g j : Nat} {us : List Pw} (h : PR S w g us j wr) (hj : j < us.length) :
    (∃ z0 z1 z2 z3 z4, wr.cell? ⟨g, j * 5, none⟩ = some z0 ∧ wr.cell? ⟨g, j * 5 + 1, none⟩ = some z1 ∧ wr.cell? ⟨g, j * 5 + 2, none⟩ = some z2 ∧ wr.cell? ⟨g, j * 5 + 3, none⟩ = some z3 ∧ wr.cell? ⟨g, j * 5 + 4, none⟩ = some z4) ∧ ∀ i, wr.frozen? ⟨g, i, none⟩ = false := by
  obtain ⟨cs, zs, ho, hc, _⟩ := h.row
  have hl := ho.1
  have hz : ∀ i, i < 5 → ∃ z, wr.cell? ⟨g, j * 5 + i, none⟩ = some z := fun i hi => by
    rw [ho.cellAt _ (by omega)]
    exact ⟨_, List.getElem?_eq_getElem (by omega)⟩
  obtain ⟨z0, h0⟩ := hz 0 (by omega)
  obtain ⟨z1, h1⟩ := hz 1 (by omega)
  obtain ⟨z2, h2⟩ := hz 2 (by omega)
  obtain ⟨z3, h3⟩ := hz 3 (by omega)
  obtain ⟨z4, h4⟩ := hz 4 (by omega)
  exact ⟨⟨z0, z1, z2, z3, z4, h0, h1, h2, h3, h4⟩, fun i => ho.frozenAt i⟩
theorem stored5 {w : World} {base : Nat} {T : TypeId} {g n cap j : Nat} {cs zs : List Value} {c0 c1 c2 c3 c4 : Value} (ho : w.ownsRow base T 5 (.slice (some ⟨g, 0, none⟩) n cap) n (cs ++ zs)) (hc : cs.length = j * 5) (hj : j < n) :
    (put5 w g (j * 5) c0 c1 c2 c3 c4).ownsRow base T 5 (.slice (some ⟨g, 0, none⟩) n cap) n ((cs ++ [c0, c1, c2, c3, c4]) ++ zs.drop 5) := by
  have h1 := ((((((ho.stored (j * 5) c0).1).stored (j * 5 + 1) c1).1).stored (j * 5 + 2) c2).1.stored (j * 5 + 3) c3).1.stored (j * 5 + 4) c4 |>.1
  have hz : ∃ z0 z1 z2 z3 z4 r, zs = z0 :: z1 :: z2 :: z3 :: z4 :: r := by
    have hl := ho.1
    rw [List.length_append] at hl
    exact five_of zs (by omega)
  obtain ⟨z0, z1, z2, z3, z4, r, rfl⟩ := hz
  have e : (((((cs ++ z0 :: z1 :: z2 :: z3 :: z4 :: r).set (j * 5) c0).set (j * 5 + 1) c1).set (j * 5 + 2) c2).set (j * 5 + 3) c3).set (j * 5 + 4) c4 = (cs ++ [c0, c1, c2, c3, c4]) ++ List.drop 5 (z0 :: z1 :: z2 :: z3 :: z4 :: r) := by
    rw [← hc]
    simp only [List.set_append_right _ _ (Nat.le_refl _), List.set_append_right _ _ (Nat.le_add_right _ _), Nat.sub_self, Nat.add_sub_cancel_left, List.set_cons_zero, List.set_cons_succ, List.drop_succ_cons, List.drop_zero, List.append_assoc, List.cons_append, List.nil_append]
  rw [e] at h1
  exact h1
theorem PR.next {w wr : World} {g j : Nat} {us : List Pw} (h : PR (newB g) w g us j wr) (hj : j < us.length) {c0 c1 c2 c3 : Value} {N : Int}
    (hI : IsIn (newB g wr) wr us[j].1 c0 c1 c2 c3) (hN : us[j].2 = N) (hn : i64ok N) : PR (newB g) w g us (j + 1) (put5 wr g (j * 5) c0 c1 c2 c3 (.int .i64 N)) := by
  obtain ⟨cs, zs, ho, hc, hK⟩ := h.row
  have hp : ∀ q, q ≠ g → (put5 wr g (j * 5) c0 c1 c2 c3 (.int .i64 N)).heap[q]? = wr.heap[q]? := fun q hq => put5_other _ _ _ _ _ _ _ _ _ hq
  have hsz : (put5 wr g (j * 5) c0 c1 c2 c3 (.int .i64 N)).heap.size = wr.heap.size := put5_size _ _ _ _ _ _ _ _
  have hS : ∀ b, newB g wr b → newB g (put5 wr g (j * 5) c0 c1 c2 c3 (.int .i64 N)) b := fun b hb => ⟨hb.1, by rw [hsz]; exact hb.2⟩
  refine ⟨put5_below h.below h.own, h.own, cs ++ [c0, c1, c2, c3, .int .i64 N], zs.drop 5, stored5 ho hc hj, ?_, ?_⟩
  · simp only [List.length_append, hc, List.length_cons, List.length_nil]; omega
  · rw [List.take_succ_eq_append_getElem hj]
    refine KP_app (KP_carry (fun b hb => hp b (by have := hb.1; omega)) hS hK) ?_
    have := KP_one (n := N) (IsIn_carry (fun b hb => hp b (by have := hb.1; omega)) hS _ _ _ _ _ hI) hn
    have e : us[j] = (us[j].1, N) := by rw [← hN]
    rw [e]; exact this
theorem PR.done {S : World → Nat → Prop} {w wr : World} {g : Nat} {us : List Pw} (h : PR S w g us us.length wr) : PRow wr us (some ⟨g, 0, none⟩) ∧ Below w.heap.size w wr := by
  obtain ⟨cs, zs, ho, hc, hK⟩ := h.row
  rw [List.take_length] at hK
  have hl := ho.1
  rw [List.length_append] at hl
  have hz : zs = [] := List.length_eq_zero_iff.1 (by omega)
  rw [hz, List.append_nil] at ho
  exact ⟨(OwnP_row (H := g) (S := S wr) (cap := us.length) ⟨cs, ho, hK⟩).1, h.below⟩
theorem PR_made {S : World → Nat → Prop} {w w0 w1 : World} {g : Nat} {us : List Pw} {xs : List Value} (hown : w1.ownsRow g 77 5 (.slice (some ⟨g, 0, none⟩) us.length us.length) us.length xs) (hw : w.heap.size ≤ g) (hz : g ≤ w0.heap.size) (hB : Below w.heap.size w w0) (hg : w0.grownBy w1 none) : PR S w g us 0 w1 :=
  ⟨hB.grown hg (by omega) (fun q hq => by simp at hq), hw, [], xs, hown, by simp, rfl⟩

/-- Each number multiplied. -/
def scalP (n : Int) (ps : List Pw) : List Pw := ps.map fun p => (p.1, wrap64 (p.2 * n))
theorem scalP_one {ps : List Pw} (h : ∀ p ∈ ps, i64ok p.2) : scalP 1 ps = ps := by
  unfold scalP
  refine (List.map_congr_left fun p hp => ?_).trans (List.map_id _)
  have hq := h p hp
  unfold i64ok at hq
  rw [Int.mul_one, IntWalk.wrap64_in _ hq]; rfl
theorem wrap_ok (x : Int) : i64ok (wrap64 x) := by
  unfold i64ok wrap64
  omega
/-- What gives back a list of powers in new memory. -/
def PwPost (w : World) (ps : List Pw) (e : Ending) (w' : World) : Prop := ∃ xa c, e = .returned (.slice xa ps.length c) ∧ ps.length ≤ c ∧ PRow w' ps xa ∧ Below w.heap.size w w'
set_option maxHeartbeats 3200000 in
set_option maxRecDepth 100000 in
theorem scaled_any (n : Int) (ps : List Pw) (xa : Option Addr) (cap : Nat) (w : World) (hlen : ps.length ≤ 1048576) (hsz : SzP 1073741824 ps) (hR : PRow w ps xa) :
    Calls Tryz.prog 45 #[.slice xa ps.length cap, .int .i64 n] w (PwPost w (scalP n ps)) := by
  obtain ⟨i0, hi0, hz0, hz1, hz2⟩ := info_parts infoPw
  have HI0 := Lib.hid (And.intro hi0 (And.intro hz0 (And.intro hz1 hz2)))
  have HR := Lib.hid hR
  have HSZ := Lib.hid hsz
  obtain ⟨us, hus⟩ : ∃ us, scalP n ps = us := ⟨_, rfl⟩
  have hul : us.length = ps.length := by rw [← hus]; simp [scalP]
  have HUL := Lib.hid hul
  have HGT : Hid (∀ j (h : j < ps.length) (h' : j < us.length), us[j] = (ps[j].1, wrap64 (ps[j].2 * n))) := by
    show ∀ _, _
    intro j h h'
    subst hus
    simp [scalP]
  rw [hus]
  rw [← hul] at hlen ⊢
  clear hR hsz hi0 hz0 hz1 hz2 hus hul
  go_enter Tryz.func45, Tryz.ntmps45
  go_wp2_with (at_make; refine make_full_at _ w.heap.size rfl rfl _ _ _ rfl 77 i0 _ 5 Tryz.underlying27 HI0.out.1 HI0.out.2.1 HI0.out.2.2.1 us.length rfl rfl (by rw [HI0.out.2.2.2]; omega) (by unfold maxLen; omega) ?_; intro w2 hown1 hgrow; have HM := Lib.hid (PR_made (S := newB w.heap.size) hown1 (Nat.le_refl _) (Nat.le_refl _) (Below.refl w.heap.size w) hgrow); clear hown1 hgrow)
  obtain ⟨g, hg⟩ : ∃ g, w.heap.size = g := ⟨_, rfl⟩
  have HGE : Hid (w.heap.size ≤ g) := (by omega : w.heap.size ≤ g)
  have HGL : Hid (g ≤ w.heap.size) := (by omega : g ≤ w.heap.size)
  rw [hg] at HM ⊢
  clear hg
  go_loopw [12] (fun i wr => ∃ j : Nat, j ≤ us.length ∧ i = .int .i64 j ∧ PR (newB g) w g us j wr) (fun i _ => us.length - (intOf i).toNat)
  case atStart => exact ⟨0, Nat.zero_le _, rfl, HM.out⟩
  case round =>
    obtain ⟨j, hj, rfl, hA⟩ := hrel
    have HA := Lib.hid hA
    by_cases hlt : j < us.length
    rotate_left
    · have hjl : j = us.length := by omega
      have HD := Lib.hid (PR.done (by rw [hjl] at hA; exact hA))
      clear hA hjl
      go_wp2_with fail
      go_ret
      exact ⟨_, _, rfl, Nat.le_refl _, HD.out.1, HD.out.2⟩
    have hlp : j < ps.length := by rw [← HUL.out]; exact hlt
    obtain ⟨b, o, rfl⟩ := PRow_at HR.out (by omega)
    obtain ⟨hLj, hNj, hNo⟩ := PRow_get (PRow_below HR.out hA.below) j hlp
    have HC := Lib.hid (fun W (x : Ext wr W) => ecopy_any ps[j].1 b (o + j * 5) W (HSZ.out _ (List.getElem_mem hlp)) (Lies_below (w' := W) hLj x))
    have HK := Lib.hid (fun W (x : Ext wr W) => keep_below x _ _ hNj)
    have hU := HGT.out j hlp hlt
    obtain ⟨M, hM⟩ : ∃ M, wrap64 (ps[j].2 * n) = M := ⟨_, rfl⟩
    rw [hM] at hU
    have hMo : i64ok M := by rw [← hM]; exact wrap_ok _
    have HMO := Lib.hid hMo
    have hbw : b < w.heap.size := World.block_lt_of_cell? w _ (PRow_get HR.out j hlp).2.1
    have hbg : ¬ b = g := by have := HGE.out; omega
    have hgb : ¬ g = b := fun e => hbg e.symm
    generalize ps[j].2 = N at hM HK hNj
    generalize ps[j].1 = T at HC hU
    have HU := Lib.hid hU
    have hgl := hA.lt
    have i1 : (0 : Int) ≤ (j : Int) := by omega
    have i2 : (j : Int) < (us.length : Int) := by omega
    have hM2 : IntKind.i64.wrap (N * n) = M := (IntWalk.i64_left _).trans hM
    have HC3 : Hid (∀ W : World, W.heap[b]? = wr.heap[b]? → W.cell? ⟨b, o + j * 5 + 4, none⟩ = some (.int .i64 N)) := by
      show ∀ _, _
      intro W h
      rw [World.cell?_of_block (w := wr) (a := ⟨b, o + j * 5 + 4, none⟩) h]; exact hNj
    have hF0 : Ext wr wr.drew := (Ext.refl wr).drew
    have hbr : b < wr.heap.size := World.block_lt_of_cell? wr _ hNj
    have HBR := Lib.hid hbr
    clear hA hLj hNo hU hMo hlp hbr
    go_upto_region 5 with fail
    go_region_held3 (fun W => W.cell? ⟨b, o + j * 5 + 4, none⟩ = some (.int .i64 N))
      (first | exact HK.out _ (by assumption) | (refine HC3.out _ ?_; (repeat rw [Below.heap_setCell _ _ _ _ (by show b ≠ g; omega)]); exact HH4.out) | go_keep)
      (first | (go_at_call 84; refine (HC.out _ hF0).mono ?_; rintro e w4 ⟨c0, c1, c2, c3, he, hI4, hB4'⟩; subst he; have hB4 : Ext wr w4 := hF0.trans hB4'; obtain ⟨k6, n6, s6, xa6, l6, cap6, e0, e1, e2, e3⟩ := IsIn_form hI4; subst e0 e1 e2 e3; have HH4 := Lib.hid (hB4.block b HBR.out); have hA4 := HA.out.ext hB4; have HA4 := Lib.hid hA4; have HI4 := Lib.hid hI4; obtain ⟨⟨z0, z1, z2, z3, z4, y0, y1, y2, y3, y4⟩, hz⟩ := hA4.cells hlt; have f0 := hz (j * 5); have f1 := hz (j * 5 + 1); have f2 := hz (j * 5 + 2); have f3 := hz (j * 5 + 3); have f4 := hz (j * 5 + 4); clear hz hA4 hI4 hB4'))
    go_wp2_with fail
    go_roundw
    case rel =>
      refine ⟨j + 1, by omega, by go_num, ?_⟩
      exact HA4.out.next hlt (by rw [HU.out]; exact IsIn_carry (fun _ _ => rfl) (fun q hq => ⟨by have : wr.heap.size ≤ q := hq.1; omega, hq.2⟩) _ _ _ _ _ HI4.out) (by rw [HU.out]) HMO.out
    case measure => simp [intOf]; omega
end Go.Proofs.YtcieadjjcpmieaaGreat

/-
  THE WALKS OF exponent.powerOf: its closure, and slices.BinarySearchFunc at powers; vanishes, productsError, CheckRefute.
-/
namespace Go.Proofs.YtcieadjjcpmieaaGreat
open Go.RowKit

/-- The factors are in order. -/
def SortedP (bs : List Pw) : Prop := ∀ i j (hi : i < bs.length) (hj : j < bs.length), i < j → cmpT bs[i].1 bs[j].1 < 0
theorem SortedP_of {ps : List Pw} (h : AscP ps) : SortedP ps := fun i j hi hj hij => List.pairwise_iff_getElem.1 h i j hi hj hij
set_option maxHeartbeats 1600000 in
set_option maxRecDepth 100000 in
theorem powcl_any (v x : Tm) (c0 c1 c2 c3 : Value) (N : Int) (x0 x1 x2 x3 : Value) (w : World) (hv : size v ≤ 1073741824) (hx : size x ≤ 1073741824) (hI : Is w v c0 c1 c2 c3) (hX : Is w x x0 x1 x2 x3) :
    Calls Tryz.prog 126 #[.agg #[c0, c1, c2, c3, .int .i64 N], .agg #[x0, x1, x2, x3]] w fun e w' => e = .returned (.int .i64 (cmpT v x)) ∧ Below w.heap.size w w' := by
  obtain ⟨k, n, s, xa, l, cap, rfl, rfl, rfl, rfl⟩ := Is_form hI
  obtain ⟨k3, n3, s3, xa3, l3, cap3, rfl, rfl, rfl, rfl⟩ := Is_form hX
  have HC := Lib.hid (fun W (h : Ext w W) => Compare_any v x _ _ _ _ _ _ _ _ W (by omega) (by omega) (Is_below (w' := W) hI h) (Is_below (w' := W) hX h))
  have hE : Ext w ((w.alloc (.cells #[.int .i64 k, .string n, .int .i64 s, .slice xa l cap, .int .i64 N] 77)).alloc (.cells #[.int .i64 k3, .string n3, .int .i64 s3, .slice xa3 l3 cap3] 24)) := ((Below.refl w.heap.size w).alloc (Nat.le_refl _) _).alloc (by simp) _
  have HE := Lib.hid hE
  generalize cmpT v x = c at HC ⊢
  clear hE hI hX hv hx
  go_enter Tryz.func126, Tryz.ntmps126
  go_wp2_with (go_at_call 106; refine (HC.out _ HE.out).mono ?_; rintro e w3 ⟨he, hB⟩; subst he; have HB : Hid (Ext w w3) := Lib.hid (Ext.trans HE.out hB); clear hB)
  go_ret
  exact ⟨rfl, HB.out⟩

def FindP (bs : List Pw) (x : Tm) (e : Ending) : Prop :=
  ∃ (i : Nat) (f : Bool), e = .returned (.tuple #[.int .i64 i, .bool f]) ∧ ((f = true ∧ ∃ h : i < bs.length, cmpT bs[i].1 x = 0) ∨ (f = false ∧ ∀ b ∈ bs, ¬ cmpT b.1 x = 0))

/-- The search's bounds. -/
def SrP (bs : List Pw) (x : Tm) (lo hi : Nat) : Prop := lo ≤ hi ∧ hi ≤ bs.length ∧ (∀ t (h : t < bs.length), t < lo → cmpT bs[t].1 x < 0) ∧ (∀ t (h : t < bs.length), hi ≤ t → 0 ≤ cmpT bs[t].1 x)
theorem SrP_up {bs : List Pw} {x : Tm} {lo hi m : Nat} (hs : SortedP bs) (h : SrP bs x lo hi) (hm : m < hi) (hc : cmpT (bs[m]'(by have := h.2.1; omega)).1 x < 0) : SrP bs x (m + 1) hi := by
  refine ⟨by omega, h.2.1, fun t ht htm => ?_, h.2.2.2⟩
  by_cases e : t = m
  · subst e; exact hc
  · exact cmpT_trans (hs t m ht (by have := h.2.1; omega) (by omega)) hc
theorem SrP_down {bs : List Pw} {x : Tm} {lo hi m : Nat} (hs : SortedP bs) (h : SrP bs x lo hi) (hl : lo ≤ m) (hm : m < hi) (hc : ¬ cmpT (bs[m]'(by have := h.2.1; omega)).1 x < 0) : SrP bs x lo m := by
  refine ⟨hl, by have := h.2.1; omega, h.2.2.1, fun t ht htm => ?_⟩
  by_cases e : t = m
  · subst e; omega
  · have h1 := hs m t (by have := h.2.1; omega) ht (by omega)
    have h2 : ¬ cmpT bs[t].1 (bs[m]'(by have := h.2.1; omega)).1 < 0 := by rw [cmpT_anti (bs[m]'(by have := h.2.1; omega)).1]; omega
    have := cmpT_ntrans h2 hc
    omega
theorem SrP_end {bs : List Pw} {x : Tm} {lo : Nat} (hs : SortedP bs) (h : SrP bs x lo lo) : (∀ hl : lo < bs.length, ¬ cmpT bs[lo].1 x = 0 → ∀ b ∈ bs, ¬ cmpT b.1 x = 0) ∧ (bs.length ≤ lo → ∀ b ∈ bs, ¬ cmpT b.1 x = 0) := by
  refine ⟨fun hl hne b hb => ?_, fun hl b hb => ?_⟩
  · obtain ⟨t, ht, rfl⟩ := List.getElem_of_mem hb
    by_cases h1 : t < lo
    · have := h.2.2.1 t ht h1; omega
    · by_cases e : t = lo
      · subst e; exact hne
      · intro h0
        have h2 := hs lo t hl ht (by omega)
        have e1 := cmpT_zero _ _ h0
        rw [e1] at h2
        have := h.2.2.2 lo hl (Nat.le_refl _)
        omega
  · obtain ⟨t, ht, rfl⟩ := List.getElem_of_mem hb
    have := h.2.2.1 t ht (by omega)
    omega
set_option maxHeartbeats 6400000 in
set_option maxRecDepth 100000 in
theorem psearch_any (bs : List Pw) (x : Tm) (x0 x1 x2 x3 : Value) (xa : Option Addr) (cap : Nat) (w : World) (hcap : bs.length ≤ cap) (hlen : bs.length ≤ 1073741824) (hsz : SzP 1073741824 bs) (hsx : size x ≤ 1073741824) (hs : SortedP bs) (hR : PRow w bs xa) (hX : Is w x x0 x1 x2 x3) :
    Calls Tryz.prog 125 #[.slice xa bs.length cap, .agg #[x0, x1, x2, x3], .func (.func 126) #[] #[]] w fun e w' => FindP bs x e ∧ Below w.heap.size w w' := by
  obtain ⟨xk, xn, xs, xa2, xl, xc, rfl, rfl, rfl, rfl⟩ := Is_form hX
  have HR := Lib.hid hR
  have HIX := Lib.hid hX
  have HSZ := Lib.hid hsz
  have HSX := Lib.hid hsx
  have HS := Lib.hid hs
  have hbx := heap_alloc_new w (.cells #[.int .i64 xk, .string xn, .int .i64 xs, .slice xa2 xl xc] 24)
  have HBX : Hid (∀ W, Ext (w.alloc (.cells #[.int .i64 xk, .string xn, .int .i64 xs, .slice xa2 xl xc] 24)) W → W.heap[w.heap.size]? = some (.cells #[.int .i64 xk, .string xn, .int .i64 xs, .slice xa2 xl xc] 24 (0, 0))) := fun W h => (h.block _ (by simp)).trans hbx
  have HE0 : Hid (Ext w (w.alloc (.cells #[.int .i64 xk, .string xn, .int .i64 xs, .slice xa2 xl xc] 24))) := (Ext.refl w).alloc _
  have HCAP := Lib.hid hcap
  clear hR hX hsz hsx hs hbx hcap
  go_enter Tryz.func125, Tryz.ntmps125
  go_wp2_with fail
  have hEr := Ext.refl (w.alloc (.cells #[.int .i64 xk, .string xn, .int .i64 xs, .slice xa2 xl xc] 24))
  generalize (w.alloc (.cells #[.int .i64 xk, .string xn, .int .i64 xs, .slice xa2 xl xc] 24)) = w0 at HBX HE0 hEr ⊢
  go_loopg [9, 10] bs.length (fun g s9 s10 wr => ∃ lo hi : Nat, s9 = .int .i64 lo ∧ s10 = .int .i64 hi ∧ hi - lo ≤ g ∧ SrP bs x lo hi ∧ Ext w0 wr)
  case atStart => exact ⟨0, bs.length, rfl, rfl, by omega, ⟨Nat.zero_le _, Nat.le_refl _, fun t _ h => absurd h (Nat.not_lt_zero _), fun t h1 h2 => by omega⟩, hEr⟩
  case round =>
    obtain ⟨lo, hi, rfl, rfl, hg, hsr, hE⟩ := hrel
    have hlh := hsr.1
    have hin := hsr.2.1
    have HSR := Lib.hid hsr
    clear hsr
    by_cases hlt : lo < hi
    · obtain ⟨m, hm⟩ : ∃ m, m = (lo + hi) / 2 := ⟨_, rfl⟩
      have hm1 : lo ≤ m := by omega
      have hm2 : m < hi := by omega
      have HE1 : Hid (((lo : Int) + (hi : Int)) / 2 = (m : Int)) := by show _ = _; omega
      clear hm
      have i1 : (0 : Int) ≤ (m : Int) := by omega
      have i2 : (m : Int) < (bs.length : Int) := by omega
      have hmb : m < bs.length := by omega
      obtain ⟨b, o, rfl⟩ := PRow_at HR.out (by omega)
      obtain ⟨⟨v0, v1, v2, v3, g0, g1, g2, g3, hIv⟩, g4, _⟩ := PRow_get (PRow_below HR.out (Ext.trans HE0.out hE)) m hmb
      obtain ⟨N, hNN⟩ : ∃ N, bs[m].2 = N := ⟨_, rfl⟩
      rw [hNN] at g4
      clear hNN
      obtain ⟨k, n, s, ya, yl, yc, rfl, rfl, rfl, rfl⟩ := Is_form hIv
      have hszm := HSZ.out bs[m] (List.getElem_mem hmb)
      have HCM := Lib.hid (fun W (h : Ext wr W) => powcl_any bs[m].1 x _ _ _ _ N _ _ _ _ W hszm HSX.out (Is_below (w' := W) hIv h) (Is_below (w' := W) HIX.out (Ext.trans (Ext.trans HE0.out hE) h)))
      obtain ⟨c, hc⟩ : ∃ c, cmpT bs[m].1 x = c := ⟨_, rfl⟩
      rw [hc] at HCM
      have HCE := Lib.hid hc
      obtain ⟨⟨y0, y1, y2, y3⟩, _⟩ := box_facts (HBX.out _ hE)
      have HCr : Hid (∀ W, Ext wr W → (W.cell? ⟨b, o + m * 5, none⟩ = some (.int .i64 k) ∧ W.cell? ⟨b, o + m * 5 + 1, none⟩ = some (.string n) ∧ W.cell? ⟨b, o + m * 5 + 2, none⟩ = some (.int .i64 s) ∧ W.cell? ⟨b, o + m * 5 + 3, none⟩ = some (.slice ya yl yc) ∧ W.cell? ⟨b, o + m * 5 + 4, none⟩ = some (.int .i64 N)) ∧ W.cell? ⟨w.heap.size, 0, none⟩ = some (.int .i64 xk) ∧ W.cell? ⟨w.heap.size, 1, none⟩ = some (.string xn) ∧ W.cell? ⟨w.heap.size, 2, none⟩ = some (.int .i64 xs) ∧ W.cell? ⟨w.heap.size, 3, none⟩ = some (.slice xa2 xl xc)) := fun W h => ⟨⟨keep_below h _ _ g0, keep_below h _ _ g1, keep_below h _ _ g2, keep_below h _ _ g3, keep_below h _ _ g4⟩, keep_below h _ _ y0, keep_below h _ _ y1, keep_below h _ _ y2, keep_below h _ _ y3⟩
      have hF0 : Ext wr wr.drew := (Ext.refl wr).drew
      have HE := Lib.hid hE
      clear hIv hszm hc hE
      by_cases hneg : c < 0
      · have q4 : decide (c < 0) = true := decide_eq_true hneg
        have HUP := Lib.hid (SrP_up HS.out HSR.out hm2 (by rw [HCE.out]; exact hneg))
        clear hneg
        go_wp2_with fail
        rw [HE1.out]
        go_region_held3 (fun W => (W.cell? ⟨b, o + m * 5, none⟩ = some (.int .i64 k) ∧ W.cell? ⟨b, o + m * 5 + 1, none⟩ = some (.string n) ∧ W.cell? ⟨b, o + m * 5 + 2, none⟩ = some (.int .i64 s) ∧ W.cell? ⟨b, o + m * 5 + 3, none⟩ = some (.slice ya yl yc) ∧ W.cell? ⟨b, o + m * 5 + 4, none⟩ = some (.int .i64 N)) ∧ W.cell? ⟨w.heap.size, 0, none⟩ = some (.int .i64 xk) ∧ W.cell? ⟨w.heap.size, 1, none⟩ = some (.string xn) ∧ W.cell? ⟨w.heap.size, 2, none⟩ = some (.int .i64 xs) ∧ W.cell? ⟨w.heap.size, 3, none⟩ = some (.slice xa2 xl xc))
          (first | exact HCr.out _ (by assumption) | go_keep)
          (first | (go_at_call 126; refine (HCM.out _ hF0).mono ?_; rintro e w4 ⟨he, hB⟩; subst he; have hF1 : Ext wr w4 := hF0.trans hB; clear hB))
        go_wp2_with fail
        go_roundg (hi - (m + 1))
        case measure => omega
        case rel => exact ⟨m + 1, hi, by go_num, rfl, Nat.le_refl _, HUP.out, Ext.trans HE.out hF1⟩
      · have q4 : decide (c < 0) = false := decide_eq_false hneg
        have HDN := Lib.hid (SrP_down HS.out HSR.out hm1 hm2 (by rw [HCE.out]; exact hneg))
        clear hneg
        go_wp2_with fail
        rw [HE1.out]
        go_region_held3 (fun W => (W.cell? ⟨b, o + m * 5, none⟩ = some (.int .i64 k) ∧ W.cell? ⟨b, o + m * 5 + 1, none⟩ = some (.string n) ∧ W.cell? ⟨b, o + m * 5 + 2, none⟩ = some (.int .i64 s) ∧ W.cell? ⟨b, o + m * 5 + 3, none⟩ = some (.slice ya yl yc) ∧ W.cell? ⟨b, o + m * 5 + 4, none⟩ = some (.int .i64 N)) ∧ W.cell? ⟨w.heap.size, 0, none⟩ = some (.int .i64 xk) ∧ W.cell? ⟨w.heap.size, 1, none⟩ = some (.string xn) ∧ W.cell? ⟨w.heap.size, 2, none⟩ = some (.int .i64 xs) ∧ W.cell? ⟨w.heap.size, 3, none⟩ = some (.slice xa2 xl xc))
          (first | exact HCr.out _ (by assumption) | go_keep)
          (first | (go_at_call 126; refine (HCM.out _ hF0).mono ?_; rintro e w4 ⟨he, hB⟩; subst he; have hF1 : Ext wr w4 := hF0.trans hB; clear hB))
        go_wp2_with fail
        go_roundg (m - lo)
        case measure => omega
        case rel => exact ⟨lo, m, rfl, rfl, Nat.le_refl _, HDN.out, Ext.trans HE.out hF1⟩
    · obtain rfl : hi = lo := by omega
      have HEND := Lib.hid (SrP_end HS.out HSR.out)
      by_cases hmb0 : hi < bs.length
      rotate_left
      · have q3 : decide ((hi : Int) < (bs.length : Int)) = false := decide_eq_false (by omega)
        have HF : Hid (FindP bs x (.returned (.tuple #[.int .i64 (hi : Int), .bool false]))) := ⟨hi, false, rfl, Or.inr ⟨rfl, HEND.out.2 (by omega)⟩⟩
        have HE := Lib.hid hE
        clear hE
        go_wp2_with fail
        go_quiet (fail)
        go_wp2_with fail
        go_ret2
        exact ⟨HF.out, Ext.trans (Ext.trans HE0.out HE.out) (below_drewN (Below.refl _ _) _)⟩
      have q3 : decide ((hi : Int) < (bs.length : Int)) = true := decide_eq_true (by omega)
      have i1 : (0 : Int) ≤ (hi : Int) := by omega
      have i2 : (hi : Int) < (bs.length : Int) := by omega
      have hmb : hi < bs.length := by omega
      obtain ⟨b, o, rfl⟩ := PRow_at HR.out (by omega)
      obtain ⟨⟨v0, v1, v2, v3, g0, g1, g2, g3, hIv⟩, g4, _⟩ := PRow_get (PRow_below HR.out (Ext.trans HE0.out hE)) hi hmb
      obtain ⟨N, hNN⟩ : ∃ N, bs[hi].2 = N := ⟨_, rfl⟩
      rw [hNN] at g4
      clear hNN
      obtain ⟨k, n, s, ya, yl, yc, rfl, rfl, rfl, rfl⟩ := Is_form hIv
      have hszm := HSZ.out bs[hi] (List.getElem_mem hmb)
      have HCM := Lib.hid (fun W (h : Ext wr W) => powcl_any bs[hi].1 x _ _ _ _ N _ _ _ _ W hszm HSX.out (Is_below (w' := W) hIv h) (Is_below (w' := W) HIX.out (Ext.trans (Ext.trans HE0.out hE) h)))
      obtain ⟨c, hc⟩ : ∃ c, cmpT bs[hi].1 x = c := ⟨_, rfl⟩
      rw [hc] at HCM
      have HCE := Lib.hid hc
      obtain ⟨⟨y0, y1, y2, y3⟩, _⟩ := box_facts (HBX.out _ hE)
      have HCr : Hid (∀ W, Ext wr W → (W.cell? ⟨b, o + hi * 5, none⟩ = some (.int .i64 k) ∧ W.cell? ⟨b, o + hi * 5 + 1, none⟩ = some (.string n) ∧ W.cell? ⟨b, o + hi * 5 + 2, none⟩ = some (.int .i64 s) ∧ W.cell? ⟨b, o + hi * 5 + 3, none⟩ = some (.slice ya yl yc) ∧ W.cell? ⟨b, o + hi * 5 + 4, none⟩ = some (.int .i64 N)) ∧ W.cell? ⟨w.heap.size, 0, none⟩ = some (.int .i64 xk) ∧ W.cell? ⟨w.heap.size, 1, none⟩ = some (.string xn) ∧ W.cell? ⟨w.heap.size, 2, none⟩ = some (.int .i64 xs) ∧ W.cell? ⟨w.heap.size, 3, none⟩ = some (.slice xa2 xl xc)) := fun W h => ⟨⟨keep_below h _ _ g0, keep_below h _ _ g1, keep_below h _ _ g2, keep_below h _ _ g3, keep_below h _ _ g4⟩, keep_below h _ _ y0, keep_below h _ _ y1, keep_below h _ _ y2, keep_below h _ _ y3⟩
      have hF0 : Ext wr wr.drew := (Ext.refl wr).drew
      have HE := Lib.hid hE
      clear hIv hszm hc hE
      by_cases hz : c = 0
      · have q4 : decide (c = 0) = true := decide_eq_true hz
        have q5 : (c == 0) = true := by simp [hz]
        have HF : Hid (FindP bs x (.returned (.tuple #[.int .i64 (hi : Int), .bool true]))) := ⟨hi, true, rfl, Or.inl ⟨rfl, hmb, by rw [HCE.out]; exact hz⟩⟩
        clear hz
        go_wp2_with fail
        go_region_held3 (fun W => (W.cell? ⟨b, o + hi * 5, none⟩ = some (.int .i64 k) ∧ W.cell? ⟨b, o + hi * 5 + 1, none⟩ = some (.string n) ∧ W.cell? ⟨b, o + hi * 5 + 2, none⟩ = some (.int .i64 s) ∧ W.cell? ⟨b, o + hi * 5 + 3, none⟩ = some (.slice ya yl yc) ∧ W.cell? ⟨b, o + hi * 5 + 4, none⟩ = some (.int .i64 N)) ∧ W.cell? ⟨w.heap.size, 0, none⟩ = some (.int .i64 xk) ∧ W.cell? ⟨w.heap.size, 1, none⟩ = some (.string xn) ∧ W.cell? ⟨w.heap.size, 2, none⟩ = some (.int .i64 xs) ∧ W.cell? ⟨w.heap.size, 3, none⟩ = some (.slice xa2 xl xc))
          (first | exact HCr.out _ (by assumption) | go_keep)
          (first | (go_at_call 126; refine (HCM.out _ hF0).mono ?_; rintro e w4 ⟨he, hB⟩; subst he; have hF1 : Ext wr w4 := hF0.trans hB; clear hB))
        all_goals (try go_wp2_with fail)
        all_goals go_ret2
        all_goals exact ⟨HF.out, Ext.trans (Ext.trans HE0.out HE.out) hF1⟩
      · have q4 : decide (c = 0) = false := decide_eq_false hz
        have q5 : (c == 0) = false := by simp [hz]
        have HF : Hid (FindP bs x (.returned (.tuple #[.int .i64 (hi : Int), .bool false]))) := ⟨hi, false, rfl, Or.inr ⟨rfl, HEND.out.1 hmb (by rw [HCE.out]; exact hz)⟩⟩
        clear hz
        go_wp2_with fail
        go_region_held3 (fun W => (W.cell? ⟨b, o + hi * 5, none⟩ = some (.int .i64 k) ∧ W.cell? ⟨b, o + hi * 5 + 1, none⟩ = some (.string n) ∧ W.cell? ⟨b, o + hi * 5 + 2, none⟩ = some (.int .i64 s) ∧ W.cell? ⟨b, o + hi * 5 + 3, none⟩ = some (.slice ya yl yc) ∧ W.cell? ⟨b, o + hi * 5 + 4, none⟩ = some (.int .i64 N)) ∧ W.cell? ⟨w.heap.size, 0, none⟩ = some (.int .i64 xk) ∧ W.cell? ⟨w.heap.size, 1, none⟩ = some (.string xn) ∧ W.cell? ⟨w.heap.size, 2, none⟩ = some (.int .i64 xs) ∧ W.cell? ⟨w.heap.size, 3, none⟩ = some (.slice xa2 xl xc))
          (first | exact HCr.out _ (by assumption) | go_keep)
          (first | (go_at_call 126; refine (HCM.out _ hF0).mono ?_; rintro e w4 ⟨he, hB⟩; subst he; have hF1 : Ext wr w4 := hF0.trans hB; clear hB))
        all_goals (try go_wp2_with fail)
        all_goals go_ret2
        all_goals exact ⟨HF.out, Ext.trans (Ext.trans HE0.out HE.out) hF1⟩


/-- The power of a factor in a list: the first one. -/
def powF : List Pw → Tm → Int
  | [], _ => 0
  | p :: ps, x => if cmpT p.1 x = 0 then p.2 else powF ps x
theorem powF_none {ps : List Pw} {x : Tm} (h : ∀ p ∈ ps, ¬ cmpT p.1 x = 0) : powF ps x = 0 := by
  induction ps with
  | nil => rfl
  | cons p ps ih => rw [powF, if_neg (h p (List.mem_cons_self ..))]; exact ih fun q hq => h q (List.mem_cons_of_mem _ hq)
theorem powF_some {ps : List Pw} {x : Tm} (hs : SortedP ps) {i : Nat} (hi : i < ps.length) (h : cmpT ps[i].1 x = 0) : powF ps x = ps[i].2 := by
  induction ps generalizing i with
  | nil => simp at hi
  | cons p ps ih =>
    cases i with
    | zero => simp only [List.getElem_cons_zero] at h ⊢; rw [powF, if_pos h]
    | succ i =>
      have h0 := hs 0 (i + 1) (by simp) hi (by omega)
      simp only [List.getElem_cons_succ, List.getElem_cons_zero] at h h0 ⊢
      have e := cmpT_zero _ _ h
      rw [powF, if_neg (by rw [← e]; omega)]
      exact ih (fun a c ha hc hac => hs (a + 1) (c + 1) (by simpa using ha) (by simpa using hc) (by omega)) (by simpa using hi) h
set_option maxHeartbeats 3200000 in
set_option maxRecDepth 100000 in
theorem powerOf_any (ps : List Pw) (x : Tm) (x0 x1 x2 x3 : Value) (xa : Option Addr) (cap : Nat) (w : World) (hcap : ps.length ≤ cap) (hlen : ps.length ≤ 1073741824) (hsz : SzP 1073741824 ps) (hsx : size x ≤ 1073741824) (hs : AscP ps) (hR : PRow w ps xa) (hX : Is w x x0 x1 x2 x3) :
    Calls Tryz.prog 107 #[.slice xa ps.length cap, .agg #[x0, x1, x2, x3]] w fun e w' => e = .returned (.int .i64 (powF ps x)) ∧ Below w.heap.size w w' := by
  obtain ⟨xk, xn, xs, xa2, xl, xc, rfl, rfl, rfl, rfl⟩ := Is_form hX
  have hE : Ext w (w.alloc (.cells #[.int .i64 xk, .string xn, .int .i64 xs, .slice xa2 xl xc] 24)) := (Ext.refl w).alloc _
  have HC := Lib.hid (psearch_any ps x _ _ _ _ xa cap _ hcap hlen hsz hsx (SortedP_of hs) (PRow_below hR hE) (Is_below hX hE))
  have HR := Lib.hid (fun W (y : Ext (w.alloc (.cells #[.int .i64 xk, .string xn, .int .i64 xs, .slice xa2 xl xc] 24)) W) => PRow_below (w' := W) hR (Ext.trans hE y))
  have HE := Lib.hid hE
  have HS := Lib.hid (SortedP_of hs)
  clear hE hR hX hs hsx hsz hcap
  by_cases hex : ∃ p ∈ ps, cmpT p.1 x = 0
  · have HC2 : Hid (Calls Tryz.prog 125 #[.slice xa ps.length cap, .agg #[.int .i64 xk, .string xn, .int .i64 xs, .slice xa2 xl xc], .func (.func 126) #[] #[]] (w.alloc (.cells #[.int .i64 xk, .string xn, .int .i64 xs, .slice xa2 xl xc] 24)) fun e w' => ∃ (i : Nat) (h : i < ps.length), e = .returned (.tuple #[.int .i64 i, .bool true]) ∧ powF ps x = ps[i].2 ∧ Ext (w.alloc (.cells #[.int .i64 xk, .string xn, .int .i64 xs, .slice xa2 xl xc] 24)) w') := HC.out.mono fun e w' ⟨⟨i, f, he, hf⟩, hB⟩ => by
      rcases hf with ⟨rfl, h, h0⟩ | ⟨rfl, hno⟩
      · exact ⟨i, h, he, powF_some HS.out h h0, hB⟩
      · obtain ⟨p, hp, h0⟩ := hex; exact absurd h0 (hno p hp)
    clear hex HC
    generalize powF ps x = P at HC2 ⊢
    go_enter Tryz.func107, Tryz.ntmps107
    go_wp2_with (go_at_call 125; refine (HC2.out).mono ?_; rintro e w3 ⟨i, hi, he, hp, hB⟩; subst he; obtain ⟨b, o, rfl⟩ := PRow_at (HR.out _ hB) (by omega); have g4 := (PRow_get (HR.out _ hB) i hi).2.1; rw [← hp] at g4; have i1 : (0 : Int) ≤ (i : Int) := (by omega); have i2 : (i : Int) < (ps.length : Int) := (by omega); have HB : Hid (Ext w w3) := Lib.hid (Ext.trans HE.out hB); clear hB hp)
    go_ret
    exact ⟨rfl, HB.out⟩
  · have HP : Hid (powF ps x = 0) := powF_none fun p hp h => hex ⟨p, hp, h⟩
    have HC2 : Hid (Calls Tryz.prog 125 #[.slice xa ps.length cap, .agg #[.int .i64 xk, .string xn, .int .i64 xs, .slice xa2 xl xc], .func (.func 126) #[] #[]] (w.alloc (.cells #[.int .i64 xk, .string xn, .int .i64 xs, .slice xa2 xl xc] 24)) fun e w' => ∃ (i : Nat), e = .returned (.tuple #[.int .i64 i, .bool false]) ∧ Ext (w.alloc (.cells #[.int .i64 xk, .string xn, .int .i64 xs, .slice xa2 xl xc] 24)) w') := HC.out.mono fun e w' ⟨⟨i, f, he, hf⟩, hB⟩ => by
      rcases hf with ⟨rfl, h, h0⟩ | ⟨rfl, hno⟩
      · exact absurd ⟨ps[i], List.getElem_mem h, h0⟩ hex
      · exact ⟨i, he, hB⟩
    clear hex HC
    generalize powF ps x = P at HP ⊢
    go_enter Tryz.func107, Tryz.ntmps107
    go_wp2_with (go_at_call 125; refine (HC2.out).mono ?_; rintro e w3 ⟨i, he, hB⟩; subst he; have HB : Hid (Ext w w3) := Lib.hid (Ext.trans HE.out hB); clear hB)
    go_ret
    exact ⟨by rw [HP.out]; rfl, HB.out⟩
end Go.Proofs.YtcieadjjcpmieaaGreat
