import Derived.BigQuiet
import Derived.Deep.LoopGhost
import Derived.Deep.RegionHeld3
import Derived.Laws.Shifts
import Derived.Test.YtbcpnepjojppaaaGreatDoorLawTheoryKeyxFind
import Derived.Test.YtbcpnepjojppaaaGreatDoorLawTheoryKeyxNodes
import Derived.Test.YtbcpnepjojppaaaGreatDoorLawTheoryKeyxPw
namespace Go.Proofs.YtbcpnepjojppaaaGreatDoor
open Go.RowKit
theorem infoPw : (Tryz.prog.info? 145).map (fun i => (i.zero, i.size, i.bytes)) = some (some (.agg #[.int .i64 0, .string ⟨#[]⟩, .int .i64 0, .slice none 0 0, .int .i64 0]), 5, 64) := by kernel_rfl
set_option maxHeartbeats 3200000 in
set_option maxRecDepth 100000 in
theorem ecopy_any (t : Tm) (b o : Nat) (w : World) (hM : size t ≤ 1073741824) (hL : Lies w t b o) :
    Calls Tryz.prog 183 #[.pointer (some ⟨b, o, none⟩)] w (CopyPost w t) := by
  obtain ⟨c0, c1, c2, c3, g0, g1, g2, g3, hI⟩ := hL
  obtain ⟨k, n, s, xa, l, cap, rfl, rfl, rfl, rfl⟩ := Is_form hI
  have hb1 := heap_alloc_new w (.cells #[.int .i64 0, .string ⟨#[]⟩, .int .i64 0, .slice none 0 0] 24)
  have hBw : Below w.heap.size w (w.alloc (.cells #[.int .i64 0, .string ⟨#[]⟩, .int .i64 0, .slice none 0 0] 24)) := (Below.refl _ _).alloc (Nat.le_refl _) _
  have hZ : (w.alloc (.cells #[.int .i64 0, .string ⟨#[]⟩, .int .i64 0, .slice none 0 0] 24)).heap.size = w.heap.size + 1 := World.size_alloc _ _
  have hIV : ∀ W, IntsV W (.slice none 0 0) [] := fun W => ⟨none, 0, rfl, Nat.zero_le _, fun x hx => by simp at hx, fun h => by simp at h⟩
  have HA := Lib.hid (At_any t [] _ _ _ _ _ _ hM (Is_below hI hBw) (hIV _))
  have HB := Lib.hid hBw
  have HZ := Lib.hid hZ
  have HB1 := Lib.hid hb1
  have x0 := keep_below hBw _ _ g0
  have x1 := keep_below hBw _ _ g1
  have x2 := keep_below hBw _ _ g2
  have x3 := keep_below hBw _ _ g3
  clear hI hb1 hBw hZ hIV
  go_enter Tryz.func183, Tryz.ntmps183
  go_upto_region 2 with (go_at_call 95; refine (HA.out).mono ?_; rintro e w5 ⟨hB5, d0, d1, d2, d3, he, hI⟩; subst he; obtain ⟨xk, xn, xs, xr, xn2, xc, e0', e1', e2', e3'⟩ := IsIn_form hI; subst e0'; subst e1'; subst e2'; subst e3'; have HE5 := Lib.hid hB5; have HI5 := Lib.hid hI; clear hB5 hI)
  have hs5 := HE5.out.size
  have hZZ := HZ.out
  have hb : (w5.alloc (.cells #[.int .i64 xk, .string xn, .int .i64 xs, .slice xr xn2 xc] 24)).heap[w.heap.size]? = some (.cells #[.int .i64 0, .string ⟨#[]⟩, .int .i64 0, .slice none 0 0] 24 (0, 0)) := (Below.heap_alloc _ _ _ (by omega)).trans ((HE5.out.block _ (by omega)).trans HB1.out)
  have hx0 := heap_alloc_new w5 (.cells #[.int .i64 xk, .string xn, .int .i64 xs, .slice xr xn2 xc] 24)
  have hB6 : Below w.heap.size w (w5.alloc (.cells #[.int .i64 xk, .string xn, .int .i64 xs, .slice xr xn2 xc] 24)) := (HB.out.trans (HE5.out.mono (by omega))).alloc (by omega) _
  have hI6 : IsIn (fun b => w.heap.size + 1 ≤ b ∧ b < w5.heap.size) (w5.alloc (.cells #[.int .i64 xk, .string xn, .int .i64 xs, .slice xr xn2 xc] 24)) t (.int .i64 xk) (.string xn) (.int .i64 xs) (.slice xr xn2 xc) := IsIn_carry (fun b hb => Below.heap_alloc _ _ _ hb.2) (fun b hb => ⟨by have := hb.1; omega, hb.2⟩) _ _ _ _ _ HI5.out
  have hs6 : (w5.alloc (.cells #[.int .i64 xk, .string xn, .int .i64 xs, .slice xr xn2 xc] 24)).heap.size = w5.heap.size + 1 := World.size_alloc _ _
  generalize (w5.alloc (.cells #[.int .i64 xk, .string xn, .int .i64 xs, .slice xr xn2 xc] 24)) = w6 at hb hx0 hB6 hI6 hs6 ⊢
  obtain ⟨⟨m0, m1, m2, m3⟩, n0, n1, n2, n3⟩ := box_facts hb
  obtain ⟨⟨y0, y1, y2, y3⟩, _⟩ := box_facts hx0
  have HF : Hid (CopyPost w t (.returned (.agg #[.int .i64 xk, .string xn, .int .i64 xs, .slice xr xn2 xc])) (put4 w6 w.heap.size 0 (.int .i64 xk) (.string xn) (.int .i64 xs) (.slice xr xn2 xc))) :=
    ⟨_, _, _, _, rfl, IsIn_carry (fun b hb => put4_other _ _ _ _ _ _ _ _ (by have := hb.1; omega)) (fun b hb => ⟨by have := hb.1; omega, by rw [put4_size]; have := hb.2; omega⟩) _ _ _ _ _ hI6, put4_below hB6 (Nat.le_refl _)⟩
  clear hb hx0 hB6 hI6 hs6 hs5 hZZ g0 g1 g2 g3 x0 x1 x2 x3
  go_wp2_with fail
  exact bodyPost_ret (v := .agg #[.int .i64 xk, .string xn, .int .i64 xs, .slice xr xn2 xc]) (by simp [results, Tryz.results183, go_sem, m0, m1, m2, m3]) rfl HF.out
def put5 (w : World) (g o : Nat) (c0 c1 c2 c3 c4 : Value) : World := (put4 w g o c0 c1 c2 c3).setCell ⟨g, o + 4, none⟩ c4
theorem put5_other (w : World) (g o k : Nat) (c0 c1 c2 c3 c4 : Value) (hk : k ≠ g) : (put5 w g o c0 c1 c2 c3 c4).heap[k]? = w.heap[k]? := by
  unfold put5; rw [Below.heap_setCell _ _ _ _ (by simp only [ne_eq]; exact hk), put4_other _ _ _ _ _ _ _ _ hk]
theorem put5_size (w : World) (g o : Nat) (c0 c1 c2 c3 c4 : Value) : (put5 w g o c0 c1 c2 c3 c4).heap.size = w.heap.size := by
  unfold put5; rw [World.size_setCell, put4_size]
theorem put5_below {w w' : World} {B g o : Nat} {c0 c1 c2 c3 c4 : Value} (h : Below B w w') (hg : B ≤ g) : Below B w (put5 w' g o c0 c1 c2 c3 c4) := (put4_below h hg).setCell (p := ⟨g, o + 4, none⟩) hg c4
theorem five_of (zs : List Value) (h : 5 ≤ zs.length) : ∃ z0 z1 z2 z3 z4 r, zs = z0 :: z1 :: z2 :: z3 :: z4 :: r := by
  obtain ⟨z0, z1, z2, z3, r, rfl⟩ := four_of zs (by omega)
  cases r with
  | nil => simp at h
  | cons z4 r => exact ⟨_, _, _, _, _, _, rfl⟩
structure PR (S : World → Nat → Prop) (w : World) (g : Nat) (us : List Pw) (j : Nat) (wr : World) : Prop where
  below : Below w.heap.size w wr
  own : w.heap.size ≤ g
  row : ∃ cs zs, wr.ownsRow g 145 5 (.slice (some ⟨g, 0, none⟩) us.length us.length) us.length (cs ++ zs) ∧ cs.length = j * 5 ∧ KP (S wr) wr (us.take j) cs
def newB (g : Nat) (w : World) (b : Nat) : Prop := g < b ∧ b < w.heap.size
theorem PR.lt {S : World → Nat → Prop} {w wr : World} {g j : Nat} {us : List Pw} (h : PR S w g us j wr) : g < wr.heap.size := by
  obtain ⟨cs, zs, ho, _⟩ := h.row
  exact (ho.lt g rfl).2
theorem PR.ext {w wr w3 : World} {g j : Nat} {us : List Pw} (h : PR (newB g) w g us j wr) (hB : Ext wr w3) : PR (newB g) w g us j w3 := by
  obtain ⟨cs, zs, ho, hc, hK⟩ := h.row
  exact ⟨Ext.trans h.below hB, h.own, cs, zs, own_heap ho (fun q hq => hB.block q (ho.lt q hq).2), hc, KP_carry (fun b hb => hB.block b hb.2) (fun b hb => ⟨hb.1, Nat.lt_of_lt_of_le hb.2 hB.size⟩) hK⟩
theorem PR.cells {S : World → Nat → Prop} {w wr : World} {g j : Nat} {us : List Pw} (h : PR S w g us j wr) (hj : j < us.length) :
    (∃ z0 z1 z2 z3 z4, wr.cell? ⟨g, j * 5, none⟩ = some z0 ∧ wr.cell? ⟨g, j * 5 + 1, none⟩ = some z1 ∧ wr.cell? ⟨g, j * 5 + 2, none⟩ = some z2 ∧ wr.cell? ⟨g, j * 5 + 3, none⟩ = some z3 ∧ wr.cell? ⟨g, j * 5 + 4, none⟩ = some z4) ∧ ∀ i, wr.frozen? ⟨g, i, none⟩ = false := by
  obtain ⟨cs, zs, ho, hc, _⟩ := h.row
  have hl := ho.1
  have hz : ∀ i, i < 5 → ∃ z, wr.cell? ⟨g, j * 5 + i, none⟩ = some z := fun i hi => by
    rw [ho.cellAt _ (by omega)]
    exact ⟨_, List.getElem?_eq_getElem (by omega)⟩
  obtain ⟨z0, h0⟩ := hz 0 (by omega)
  obtain ⟨z1, h1⟩ := hz 1 (by omega)
  obtain ⟨z2, h2⟩ := hz 2 (by omega)
  obtain ⟨z3, h3⟩ := hz 3 (by omega)
  obtain ⟨z4, h4⟩ := hz 4 (by omega)
  exact ⟨⟨z0, z1, z2, z3, z4, h0, h1, h2, h3, h4⟩, fun i => ho.frozenAt i⟩
theorem stored5 {w : World} {base : Nat} {T : TypeId} {g n cap j : Nat} {cs zs : List Value} {c0 c1 c2 c3 c4 : Value} (ho : w.ownsRow base T 5 (.slice (some ⟨g, 0, none⟩) n cap) n (cs ++ zs)) (hc : cs.length = j * 5) (hj : j < n) :
    (put5 w g (j * 5) c0 c1 c2 c3 c4).ownsRow base T 5 (.slice (some ⟨g, 0, none⟩) n cap) n ((cs ++ [c0, c1, c2, c3, c4]) ++ zs.drop 5) := by
  have h1 := ((((((ho.stored (j * 5) c0).1).stored (j * 5 + 1) c1).1).stored (j * 5 + 2) c2).1.stored (j * 5 + 3) c3).1.stored (j * 5 + 4) c4 |>.1
  have hz : ∃ z0 z1 z2 z3 z4 r, zs = z0 :: z1 :: z2 :: z3 :: z4 :: r := by
    have hl := ho.1
    rw [List.length_append] at hl
    exact five_of zs (by omega)
  obtain ⟨z0, z1, z2, z3, z4, r, rfl⟩ := hz
  have e : (((((cs ++ z0 :: z1 :: z2 :: z3 :: z4 :: r).set (j * 5) c0).set (j * 5 + 1) c1).set (j * 5 + 2) c2).set (j * 5 + 3) c3).set (j * 5 + 4) c4 = (cs ++ [c0, c1, c2, c3, c4]) ++ List.drop 5 (z0 :: z1 :: z2 :: z3 :: z4 :: r) := by
    rw [← hc]
    simp only [List.set_append_right _ _ (Nat.le_refl _), List.set_append_right _ _ (Nat.le_add_right _ _), Nat.sub_self, Nat.add_sub_cancel_left, List.set_cons_zero, List.set_cons_succ, List.drop_succ_cons, List.drop_zero, List.append_assoc, List.cons_append, List.nil_append]
  rw [e] at h1
  exact h1
theorem PR.next {w wr : World} {g j : Nat} {us : List Pw} (h : PR (newB g) w g us j wr) (hj : j < us.length) {c0 c1 c2 c3 : Value} {N : Int}
    (hI : IsIn (newB g wr) wr us[j].1 c0 c1 c2 c3) (hN : us[j].2 = N) (hn : i64ok N) : PR (newB g) w g us (j + 1) (put5 wr g (j * 5) c0 c1 c2 c3 (.int .i64 N)) := by
  obtain ⟨cs, zs, ho, hc, hK⟩ := h.row
  have hp : ∀ q, q ≠ g → (put5 wr g (j * 5) c0 c1 c2 c3 (.int .i64 N)).heap[q]? = wr.heap[q]? := fun q hq => put5_other _ _ _ _ _ _ _ _ _ hq
  have hsz : (put5 wr g (j * 5) c0 c1 c2 c3 (.int .i64 N)).heap.size = wr.heap.size := put5_size _ _ _ _ _ _ _ _
  have hS : ∀ b, newB g wr b → newB g (put5 wr g (j * 5) c0 c1 c2 c3 (.int .i64 N)) b := fun b hb => ⟨hb.1, by rw [hsz]; exact hb.2⟩
  refine ⟨put5_below h.below h.own, h.own, cs ++ [c0, c1, c2, c3, .int .i64 N], zs.drop 5, stored5 ho hc hj, ?_, ?_⟩
  · simp only [List.length_append, hc, List.length_cons, List.length_nil]; omega
  · rw [List.take_succ_eq_append_getElem hj]
    refine KP_app (KP_carry (fun b hb => hp b (by have := hb.1; omega)) hS hK) ?_
    have := KP_one (n := N) (IsIn_carry (fun b hb => hp b (by have := hb.1; omega)) hS _ _ _ _ _ hI) hn
    have e : us[j] = (us[j].1, N) := by rw [← hN]
    rw [e]; exact this
theorem PR.done {S : World → Nat → Prop} {w wr : World} {g : Nat} {us : List Pw} (h : PR S w g us us.length wr) : PRow wr us (some ⟨g, 0, none⟩) ∧ Below w.heap.size w wr := by
  obtain ⟨cs, zs, ho, hc, hK⟩ := h.row
  rw [List.take_length] at hK
  have hl := ho.1
  rw [List.length_append] at hl
  have hz : zs = [] := List.length_eq_zero_iff.1 (by omega)
  rw [hz, List.append_nil] at ho
  exact ⟨(OwnP_row (H := g) (S := S wr) (cap := us.length) ⟨cs, ho, hK⟩).1, h.below⟩
theorem PR_made {S : World → Nat → Prop} {w w0 w1 : World} {g : Nat} {us : List Pw} {xs : List Value} (hown : w1.ownsRow g 145 5 (.slice (some ⟨g, 0, none⟩) us.length us.length) us.length xs) (hw : w.heap.size ≤ g) (hz : g ≤ w0.heap.size) (hB : Below w.heap.size w w0) (hg : w0.grownBy w1 none) : PR S w g us 0 w1 :=
  ⟨hB.grown hg (by omega) (fun q hq => by simp at hq), hw, [], xs, hown, by simp, rfl⟩
def scalP (n : Int) (ps : List Pw) : List Pw := ps.map fun p => (p.1, wrap64 (p.2 * n))
theorem scalP_one {ps : List Pw} (h : ∀ p ∈ ps, i64ok p.2) : scalP 1 ps = ps := by
  unfold scalP
  refine (List.map_congr_left fun p hp => ?_).trans (List.map_id _)
  have hq := h p hp
  unfold i64ok at hq
  rw [Int.mul_one, IntWalk.wrap64_in _ hq]; rfl
theorem wrap_ok (x : Int) : i64ok (wrap64 x) := by
  unfold i64ok wrap64
  omega
def PwPost (w : World) (ps : List Pw) (e : Ending) (w' : World) : Prop := ∃ xa c, e = .returned (.slice xa ps.length c) ∧ ps.length ≤ c ∧ PRow w' ps xa ∧ Below w.heap.size w w'
set_option maxHeartbeats 3200000 in
set_option maxRecDepth 100000 in
theorem scaled_any (n : Int) (ps : List Pw) (xa : Option Addr) (cap : Nat) (w : World) (hlen : ps.length ≤ 1048576) (hsz : SzP 1073741824 ps) (hR : PRow w ps xa) :
    Calls Tryz.prog 146 #[.slice xa ps.length cap, .int .i64 n] w (PwPost w (scalP n ps)) := by
  obtain ⟨i0, hi0, hz0, hz1, hz2⟩ := info_parts infoPw
  have HI0 := Lib.hid (And.intro hi0 (And.intro hz0 (And.intro hz1 hz2)))
  have HR := Lib.hid hR
  have HSZ := Lib.hid hsz
  obtain ⟨us, hus⟩ : ∃ us, scalP n ps = us := ⟨_, rfl⟩
  have hul : us.length = ps.length := by rw [← hus]; simp [scalP]
  have HUL := Lib.hid hul
  have HGT : Hid (∀ j (h : j < ps.length) (h' : j < us.length), us[j] = (ps[j].1, wrap64 (ps[j].2 * n))) := by
    show ∀ _, _
    intro j h h'
    subst hus
    simp [scalP]
  rw [hus]
  rw [← hul] at hlen ⊢
  clear hR hsz hi0 hz0 hz1 hz2 hus hul
  go_enter Tryz.func146, Tryz.ntmps146
  go_wp2_with (at_make; refine make_full_at _ w.heap.size rfl rfl _ _ _ rfl 145 i0 _ 5 Tryz.underlying109 HI0.out.1 HI0.out.2.1 HI0.out.2.2.1 us.length rfl rfl (by rw [HI0.out.2.2.2]; omega) (by unfold maxLen; omega) ?_; intro w2 hown1 hgrow; have HM := Lib.hid (PR_made (S := newB w.heap.size) hown1 (Nat.le_refl _) (Nat.le_refl _) (Below.refl w.heap.size w) hgrow); clear hown1 hgrow)
  obtain ⟨g, hg⟩ : ∃ g, w.heap.size = g := ⟨_, rfl⟩
  have HGE : Hid (w.heap.size ≤ g) := (by omega : w.heap.size ≤ g)
  have HGL : Hid (g ≤ w.heap.size) := (by omega : g ≤ w.heap.size)
  rw [hg] at HM ⊢
  clear hg
  go_loopw [12] (fun i wr => ∃ j : Nat, j ≤ us.length ∧ i = .int .i64 j ∧ PR (newB g) w g us j wr) (fun i _ => us.length - (intOf i).toNat)
  case atStart => exact ⟨0, Nat.zero_le _, rfl, HM.out⟩
  case round =>
    obtain ⟨j, hj, rfl, hA⟩ := hrel
    have HA := Lib.hid hA
    by_cases hlt : j < us.length
    rotate_left
    · have hjl : j = us.length := by omega
      have HD := Lib.hid (PR.done (by rw [hjl] at hA; exact hA))
      clear hA hjl
      go_wp2_with fail
      go_ret
      exact ⟨_, _, rfl, Nat.le_refl _, HD.out.1, HD.out.2⟩
    have hlp : j < ps.length := by rw [← HUL.out]; exact hlt
    obtain ⟨b, o, rfl⟩ := PRow_at HR.out (by omega)
    obtain ⟨hLj, hNj, hNo⟩ := PRow_get (PRow_below HR.out hA.below) j hlp
    have HC := Lib.hid (fun W (x : Ext wr W) => ecopy_any ps[j].1 b (o + j * 5) W (HSZ.out _ (List.getElem_mem hlp)) (Lies_below (w' := W) hLj x))
    have HK := Lib.hid (fun W (x : Ext wr W) => keep_below x _ _ hNj)
    have hU := HGT.out j hlp hlt
    obtain ⟨M, hM⟩ : ∃ M, wrap64 (ps[j].2 * n) = M := ⟨_, rfl⟩
    rw [hM] at hU
    have hMo : i64ok M := by rw [← hM]; exact wrap_ok _
    have HMO := Lib.hid hMo
    have hbw : b < w.heap.size := World.block_lt_of_cell? w _ (PRow_get HR.out j hlp).2.1
    have hbg : ¬ b = g := by have := HGE.out; omega
    have hgb : ¬ g = b := fun e => hbg e.symm
    generalize ps[j].2 = N at hM HK hNj
    generalize ps[j].1 = T at HC hU
    have HU := Lib.hid hU
    have hgl := hA.lt
    have i1 : (0 : Int) ≤ (j : Int) := by omega
    have i2 : (j : Int) < (us.length : Int) := by omega
    have hM2 : IntKind.i64.wrap (N * n) = M := (IntWalk.i64_left _).trans hM
    have HC3 : Hid (∀ W : World, W.heap[b]? = wr.heap[b]? → W.cell? ⟨b, o + j * 5 + 4, none⟩ = some (.int .i64 N)) := by
      show ∀ _, _
      intro W h
      rw [World.cell?_of_block (w := wr) (a := ⟨b, o + j * 5 + 4, none⟩) h]; exact hNj
    have hF0 : Ext wr wr.drew := (Ext.refl wr).drew
    have hbr : b < wr.heap.size := World.block_lt_of_cell? wr _ hNj
    have HBR := Lib.hid hbr
    clear hA hLj hNo hU hMo hlp hbr
    go_upto_region 5 with fail
    go_region_held3 (fun W => W.cell? ⟨b, o + j * 5 + 4, none⟩ = some (.int .i64 N))
      (first | exact HK.out _ (by assumption) | (refine HC3.out _ ?_; (repeat rw [Below.heap_setCell _ _ _ _ (by show b ≠ g; omega)]); exact HH4.out) | go_keep)
      (first | (go_at_call 183; refine (HC.out _ hF0).mono ?_; rintro e w4 ⟨c0, c1, c2, c3, he, hI4, hB4'⟩; subst he; have hB4 : Ext wr w4 := hF0.trans hB4'; obtain ⟨k6, n6, s6, xa6, l6, cap6, e0, e1, e2, e3⟩ := IsIn_form hI4; subst e0 e1 e2 e3; have HH4 := Lib.hid (hB4.block b HBR.out); have hA4 := HA.out.ext hB4; have HA4 := Lib.hid hA4; have HI4 := Lib.hid hI4; obtain ⟨⟨z0, z1, z2, z3, z4, y0, y1, y2, y3, y4⟩, hz⟩ := hA4.cells hlt; have f0 := hz (j * 5); have f1 := hz (j * 5 + 1); have f2 := hz (j * 5 + 2); have f3 := hz (j * 5 + 3); have f4 := hz (j * 5 + 4); clear hz hA4 hI4 hB4'))
    go_wp2_with fail
    go_roundw
    case rel =>
      refine ⟨j + 1, by omega, by go_num, ?_⟩
      exact HA4.out.next hlt (by rw [HU.out]; exact IsIn_carry (fun _ _ => rfl) (fun q hq => ⟨by have : wr.heap.size ≤ q := hq.1; omega, hq.2⟩) _ _ _ _ _ HI4.out) (by rw [HU.out]) HMO.out
    case measure => simp [intOf]; omega
end Go.Proofs.YtbcpnepjojppaaaGreatDoor
namespace Go.Proofs.YtbcpnepjojppaaaGreatDoor
open Go.RowKit
end Go.Proofs.YtbcpnepjojppaaaGreatDoor
