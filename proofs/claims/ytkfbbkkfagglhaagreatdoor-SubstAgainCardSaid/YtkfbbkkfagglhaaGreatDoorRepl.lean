/-
  THE WALKS OF subst.copyOf and subst.replaced.
-/
import Derived.Test.YtkfbbkkfagglhaaGreatDoorSfind
import Derived.Test.YtkfbbkkfagglhaaGreatDoorFind
namespace Go.Proofs.YtkfbbkkfagglhaaGreatDoor
open Go.RowKit

set_option maxHeartbeats 3200000 in
set_option maxRecDepth 100000 in
theorem scopy_any (t : Tm) (c0 c1 c2 c3 : Value) (w : World) (hM : size t ≤ 1073741824) (hI : Is w t c0 c1 c2 c3) :
    Calls Tryz.prog 103 #[.agg #[c0, c1, c2, c3]] w (CopyPost w t) := by
  obtain ⟨k, n, s, xa, l, cap, rfl, rfl, rfl, rfl⟩ := Is_form hI
  obtain ⟨hb0, hb1, hBw, hZ⟩ := boxes2 w (.int .i64 k) (.string n) (.int .i64 s) (.slice xa l cap) (.int .i64 0) (.string ⟨#[]⟩) (.int .i64 0) (.slice none 0 0) 36
  have hIV : ∀ W, IntsV W (.slice none 0 0) [] := fun W => ⟨none, 0, rfl, Nat.zero_le _, fun x hx => by simp at hx, fun h => by simp at h⟩
  have HA := Lib.hid (At_any t [] _ _ _ _ _ _ hM (Is_below hI hBw) (hIV _))
  have HB := Lib.hid hBw
  have HZ := Lib.hid hZ
  have HB1 := Lib.hid hb1
  clear hI hb0 hb1 hBw hZ hIV
  go_enter Tryz.func103, Tryz.ntmps103
  go_upto_region 2 with (go_at_call 148; refine (HA.out).mono ?_; rintro e w5 ⟨hB5, d0, d1, d2, d3, he, hI⟩; subst he; obtain ⟨xk, xn, xs, xr, xn2, xc, e0', e1', e2', e3'⟩ := IsIn_form hI; subst e0'; subst e1'; subst e2'; subst e3'; have HE5 := Lib.hid hB5; have HI5 := Lib.hid hI; clear hB5 hI)
  have hs5 := HE5.out.size
  have hZZ := HZ.out
  have hb : (w5.alloc (.cells #[.int .i64 xk, .string xn, .int .i64 xs, .slice xr xn2 xc] 36)).heap[w.heap.size + 1]? = some (.cells #[.int .i64 0, .string ⟨#[]⟩, .int .i64 0, .slice none 0 0] 36 (0, 0)) := (Below.heap_alloc _ _ _ (by omega)).trans ((HE5.out.block _ (by omega)).trans HB1.out)
  have hx0 := heap_alloc_new w5 (.cells #[.int .i64 xk, .string xn, .int .i64 xs, .slice xr xn2 xc] 36)
  have hB6 : Below w.heap.size w (w5.alloc (.cells #[.int .i64 xk, .string xn, .int .i64 xs, .slice xr xn2 xc] 36)) := (HB.out.trans (HE5.out.mono (by omega))).alloc (by omega) _
  have hI6 : IsIn (fun b => w.heap.size + 2 ≤ b ∧ b < w5.heap.size) (w5.alloc (.cells #[.int .i64 xk, .string xn, .int .i64 xs, .slice xr xn2 xc] 36)) t (.int .i64 xk) (.string xn) (.int .i64 xs) (.slice xr xn2 xc) := IsIn_carry (fun b hb => Below.heap_alloc _ _ _ hb.2) (fun b hb => ⟨by have := hb.1; omega, hb.2⟩) _ _ _ _ _ HI5.out
  have hs6 : (w5.alloc (.cells #[.int .i64 xk, .string xn, .int .i64 xs, .slice xr xn2 xc] 36)).heap.size = w5.heap.size + 1 := World.size_alloc _ _
  generalize (w5.alloc (.cells #[.int .i64 xk, .string xn, .int .i64 xs, .slice xr xn2 xc] 36)) = w6 at hb hx0 hB6 hI6 hs6 ⊢
  obtain ⟨⟨m0, m1, m2, m3⟩, n0, n1, n2, n3⟩ := box_facts hb
  obtain ⟨⟨y0, y1, y2, y3⟩, _⟩ := box_facts hx0
  have HF : Hid (CopyPost w t (.returned (.agg #[.int .i64 xk, .string xn, .int .i64 xs, .slice xr xn2 xc])) (put4 w6 (w.heap.size + 1) 0 (.int .i64 xk) (.string xn) (.int .i64 xs) (.slice xr xn2 xc))) :=
    ⟨_, _, _, _, rfl, IsIn_carry (fun b hb => put4_other _ _ _ _ _ _ _ _ (by have := hb.1; omega)) (fun b hb => ⟨by have := hb.1; omega, by rw [put4_size]; have := hb.2; omega⟩) _ _ _ _ _ hI6, put4_below hB6 (by omega)⟩
  clear hb hx0 hB6 hI6 hs6 hs5 hZZ
  go_wp2_with fail
  exact bodyPost_ret (v := .agg #[.int .i64 xk, .string xn, .int .i64 xs, .slice xr xn2 xc]) (by simp [results, Tryz.results103, go_sem, m0, m1, m2, m3]) rfl HF.out

/-- What stands for a variable. -/
def getB : List Bd → Tm → Option Tm
  | [], _ => none
  | b :: bs, x => if cmpT b.1 x = 0 then some b.2 else getB bs x
theorem getB_none {bs : List Bd} {x : Tm} (h : ∀ b ∈ bs, ¬ cmpT b.1 x = 0) : getB bs x = none := by
  induction bs with
  | nil => rfl
  | cons b bs ih =>
    rw [getB, if_neg (h b (by simp))]
    exact ih (fun c hc => h c (by simp [hc]))
theorem getB_some {bs : List Bd} {x : Tm} (hs : SortedB bs) {i : Nat} (hi : i < bs.length) (h : cmpT bs[i].1 x = 0) : getB bs x = some bs[i].2 := by
  induction bs generalizing i with
  | nil => simp at hi
  | cons b bs ih =>
    cases i with
    | zero =>
      simp only [List.getElem_cons_zero] at h ⊢
      rw [getB, if_pos h]
    | succ i =>
      have h0 := hs 0 (i + 1) (by simp) hi (by omega)
      simp only [List.getElem_cons_succ, List.getElem_cons_zero] at h h0 ⊢
      have e := cmpT_zero _ _ h
      rw [getB, if_neg (by rw [← e]; omega)]
      exact ih (fun a c ha hc hac => hs (a + 1) (c + 1) (by simpa using ha) (by simpa using hc) (by omega)) (by simpa using hi) h
mutual
/-- A term with what its variables stand for. -/
def apT (bs : List Bd) : Tm → Tm
  | .mk k n s ks => if k = 1 then (match getB bs (.mk k n s ks) with
      | some u => u
      | none => .mk k n s (apL bs ks)) else .mk k n s (apL bs ks)
def apL (bs : List Bd) : List Tm → List Tm
  | [] => []
  | t :: ts => apT bs t :: apL bs ts
end
theorem apL_length (bs : List Bd) : ∀ ks, (apL bs ks).length = ks.length
  | [] => rfl
  | t :: ts => by rw [apL, List.length_cons, List.length_cons, apL_length bs ts]
theorem apL_get (bs : List Bd) : ∀ (ks : List Tm) (j : Nat) (h : j < ks.length), (apL bs ks)[j]'(by rw [apL_length]; exact h) = apT bs ks[j]
  | t :: ts, 0, _ => rfl
  | t :: ts, j + 1, h => by
    have := apL_get bs ts j (by simpa using h)
    simp only [apL, List.getElem_cons_succ]
    exact this
/-- What the walk of replaced asks of its bindings. -/
structure RbOk (bs : List Bd) (xs : Option Addr) (cs : Nat) (w : World) : Prop where
  row : Row w (flatB bs) xs
  cap : bs.length ≤ cs
  len : bs.length ≤ 1073741824
  sz : SzB 1073741824 bs
  sorted : SortedB bs
theorem RbOk.ext {bs : List Bd} {xs : Option Addr} {cs : Nat} {w w' : World} (h : RbOk bs xs cs w) (hE : Ext w w') : RbOk bs xs cs w' := ⟨Row_below h.row hE, h.cap, h.len, h.sz, h.sorted⟩

theorem nodesE_parts {k s : Int} {n : ByteArray} {ks : List Tm} (h : nodesE (.mk k n s ks) = 0) : nodeE (.mk k n s ks) = 0 ∧ nodesL ks = 0 := by
  rw [nodesE] at h
  by_cases h0 : nodeE (.mk k n s ks) = 0
  · rw [if_pos h0] at h; exact ⟨h0, h⟩
  · rw [if_neg h0] at h; exact absurd h h0
theorem nodeE_var {n : ByteArray} {s : Int} {ks : List Tm} (h : nodeE (.mk 1 n s ks) = 0) : ks = [] := by
  rw [nodeE] at h
  by_cases a1 : ¬ ((1 : Int) = 1 ∨ (1 : Int) = 2) ∧ ¬ (1 : Int) = 3
  · omega
  rw [if_neg a1] at h
  by_cases a2 : s < 0 ∨ 5 < s
  · rw [if_pos a2] at h; omega
  rw [if_neg a2] at h
  by_cases a3 : ((1 : Int) = 1 ∨ (1 : Int) = 2) ∧ 0 < ks.length
  · rw [if_pos a3] at h; omega
  · exact List.length_eq_zero_iff.1 (by omega)
theorem nodesL_get {ks : List Tm} (h : nodesL ks = 0) (j : Nat) (hj : j < ks.length) : nodesE ks[j] = 0 := by
  induction ks generalizing j with
  | nil => simp at hj
  | cons t ts ih =>
    rw [nodesL] at h
    by_cases h0 : nodesE t = 0
    · rw [if_pos h0] at h
      cases j with
      | zero => exact h0
      | succ j => exact ih h j (by simpa using hj)
    · rw [if_neg h0] at h; exact absurd h h0
theorem Lies_is {w : World} {k s : Int} {n : ByteArray} {ks : List Tm} {b o : Nat} (hL : Lies w (.mk k n s ks) b o) : ∃ xa cap, w.cell? ⟨b, o, none⟩ = some (.int .i64 k) ∧ w.cell? ⟨b, o + 1, none⟩ = some (.string n) ∧ w.cell? ⟨b, o + 2, none⟩ = some (.int .i64 s) ∧ w.cell? ⟨b, o + 3, none⟩ = some (.slice xa ks.length cap) ∧ Is w (.mk k n s ks) (.int .i64 k) (.string n) (.int .i64 s) (.slice xa ks.length cap) := by
  obtain ⟨g0, g1, g2, hk, hs, hn, hl, xa, cap, g3, hcap, hR⟩ := Lies_mk hL
  refine ⟨xa, cap, g0, g1, g2, g3, ?_⟩
  simp only [Is]
  exact ⟨trivial, trivial, trivial, hk, hs, hn, hl, xa, cap, rfl, hcap, hR⟩

set_option maxHeartbeats 3200000 in
set_option maxRecDepth 100000 in
/-- A variable that is bound. -/
theorem repl_bound (bs : List Bd) (xs : Option Addr) (cs : Nat) (n : ByteArray) (s : Int) (b o : Nat) (w : World) (_hn : n.size ≤ maxLen) (hRb : RbOk bs xs cs w) (hL : Lies w (.mk 1 n s []) b o) (u : Tm) (hu : getB bs (.mk 1 n s []) = some u) :
    Calls Tryz.prog 106 #[.slice xs bs.length cs, .pointer (some ⟨b, o, none⟩)] w (CopyPost w u) := by
  obtain ⟨xa, cap, g0, g1, g2, g3, hI⟩ := Lies_is hL
  have hE : Ext w (w.alloc (.cells #[.int .i64 0, .string ⟨#[]⟩, .int .i64 0, .slice none 0 0] 36)) := (Ext.refl w).alloc _
  have hRb1 := hRb.ext hE
  have HC := Lib.hid (sfind_any bs (.mk 1 n s []) _ _ _ _ xs cs _ hRb1.cap hRb1.len hRb1.sz (by simp [size, sizes]) hRb1.sorted hRb1.row (Is_below hI hE))
  have HRb := Lib.hid hRb1
  have hbx := heap_alloc_new w (.cells #[.int .i64 0, .string ⟨#[]⟩, .int .i64 0, .slice none 0 0] 36)
  have HBX := Lib.hid hbx
  have HU := Lib.hid hu
  have HSZ := Lib.hid hRb.sz
  have hblt := World.block_lt_of_cell? w _ g0
  simp only at hblt
  have nb1 : ¬ b = w.heap.size := by omega
  have nb2 : ¬ w.heap.size = b := by omega
  have h0' : ([] : List Tm).length = 0 := rfl
  rw [h0'] at g3
  clear hE hRb hRb1 hbx hL hI hu h0'
  go_enter Tryz.func106, Tryz.ntmps106
  go_upto_region 3 with (go_at_call 92; refine (HC.out).mono ?_; rintro e w3 ⟨⟨i, f, he, hf⟩, hB⟩; subst he; have HF := Lib.hid hf; have HB := Lib.hid hB; clear hB hf)
  have hf := HF.out
  rcases hf with ⟨rfl, hi, hc⟩ | ⟨rfl, hno⟩
  rotate_left
  · exact absurd (HU.out.symm.trans (getB_none hno)) (by simp)
  have hue := getB_some HRb.out.sorted hi hc
  rw [HU.out, Option.some.injEq] at hue
  subst hue
  obtain ⟨xb, xo, rfl⟩ := Row_at HRb.out.row (by rw [flatB_length]; omega)
  obtain ⟨_, t0, t1, t2, t3, g4, g5, g6, g7, hIt⟩ := bds_get (Row_below HRb.out.row HB.out) i hi
  obtain ⟨k2, n2, s2, ya2, yl2, yc2, rfl, rfl, rfl, rfl⟩ := Is_form hIt
  rw [Nat.add_assoc] at g5 g6 g7
  have hst := HSZ.out _ (List.getElem_mem hi)
  have HCP := Lib.hid (scopy_any bs[i].2 _ _ _ _ w3 hst.2 hIt)
  have hb0 : w3.heap[w.heap.size]? = some (.cells #[.int .i64 0, .string ⟨#[]⟩, .int .i64 0, .slice none 0 0] 36 (0, 0)) := (HB.out.block _ (by simp)).trans HBX.out
  have HB0 := Lib.hid hb0
  have i1 : (0 : Int) ≤ (i : Int) := by omega
  have i2 : (i : Int) < (bs.length : Int) := by omega
  have hs3 : w.heap.size + 1 ≤ w3.heap.size := by have := HB.out.size; simpa using this
  have HS3 := Lib.hid hs3
  clear hc hIt hst hb0 hs3 g0 g1 g2 g3
  go_wp2_with (go_at_call 103; refine (HCP.out).mono ?_; rintro e w5 ⟨c0, c1, c2, c3, he, hI5, hB5⟩; subst he; obtain ⟨k', n', s', x', l', c', e0, e1, e2, e3⟩ := IsIn_form hI5; subst e0 e1 e2 e3; have HI5 := Lib.hid hI5; have HB5 := Lib.hid hB5; have hb5 := (hB5.block w.heap.size (by have := HS3.out; omega)).trans HB0.out; obtain ⟨⟨m0, m1, m2, m3⟩, n0, n1, n2, n3⟩ := box_facts hb5; clear hI5 hB5 hb5)
  have HF : Hid (CopyPost w bs[i].2 (.returned (.agg #[.int .i64 k', .string n', .int .i64 s', .slice x' l' c'])) (put4 w5 w.heap.size 0 (.int .i64 k') (.string n') (.int .i64 s') (.slice x' l' c'))) :=
    ⟨_, _, _, _, rfl, IsIn_carry (fun b hb => put4_other _ _ _ _ _ _ _ _ (by have := hb.1; have := HS3.out; omega)) (fun b hb => ⟨by have := hb.1; have := HS3.out; omega, by rw [put4_size]; exact hb.2⟩) _ _ _ _ _ HI5.out, put4_below (g := w.heap.size) (o := 0) (((Below.refl w.heap.size w).alloc (Nat.le_refl _) _ |>.trans (HB.out.mono (by simp))).trans (HB5.out.mono (by have := HS3.out; omega))) (Nat.le_refl _)⟩
  exact bodyPost_ret (v := .agg #[.int .i64 k', .string n', .int .i64 s', .slice x' l' c']) (by simp [results, Tryz.results106, go_sem, m0, m1, m2, m3]) rfl HF.out
theorem repl_done {w w6 : World} {n : ByteArray} {s : Int} (hn : n.size ≤ maxLen) (hs : -9223372036854775808 ≤ s ∧ s ≤ 9223372036854775807) (hE : Ext w w6) :
    CopyPost w (.mk 1 n s []) (.returned (.agg #[.int .i64 1, .string n, .int .i64 s, .slice none 0 0])) (put4 w6 w.heap.size 0 (.int .i64 1) (.string n) (.int .i64 s) (.slice none 0 0)) := by
  refine ⟨_, _, _, _, rfl, ?_, put4_below (w' := w6) hE (Nat.le_refl _)⟩
  simp only [IsIn]
  exact ⟨trivial, trivial, trivial, by omega, hs, hn, Nat.zero_le _, none, 0, rfl, Nat.le_refl _, by simp [RowIn]⟩

set_option maxHeartbeats 3200000 in
set_option maxRecDepth 100000 in
/-- A variable that is not bound. -/
theorem repl_free (bs : List Bd) (xs : Option Addr) (cs : Nat) (n : ByteArray) (s : Int) (b o : Nat) (w : World) (hn : n.size ≤ maxLen) (hs : -9223372036854775808 ≤ s ∧ s ≤ 9223372036854775807) (hRb : RbOk bs xs cs w) (hL : Lies w (.mk 1 n s []) b o) (hu : getB bs (.mk 1 n s []) = none) :
    Calls Tryz.prog 106 #[.slice xs bs.length cs, .pointer (some ⟨b, o, none⟩)] w (CopyPost w (.mk 1 n s [])) := by
  obtain ⟨xa, cap, g0, g1, g2, g3, hI⟩ := Lies_is hL
  have hE : Ext w (w.alloc (.cells #[.int .i64 0, .string ⟨#[]⟩, .int .i64 0, .slice none 0 0] 36)) := (Ext.refl w).alloc _
  have hRb1 := hRb.ext hE
  have HC := Lib.hid (sfind_any bs (.mk 1 n s []) _ _ _ _ xs cs _ hRb1.cap hRb1.len hRb1.sz (by simp [size, sizes]) hRb1.sorted hRb1.row (Is_below hI hE))
  have HRb := Lib.hid hRb1
  have hbx := heap_alloc_new w (.cells #[.int .i64 0, .string ⟨#[]⟩, .int .i64 0, .slice none 0 0] 36)
  have HBX := Lib.hid hbx
  have HU := Lib.hid hu
  have hblt := World.block_lt_of_cell? w _ g0
  simp only at hblt
  have nb1 : ¬ b = w.heap.size := by omega
  have nb2 : ¬ w.heap.size = b := by omega
  have h0' : ([] : List Tm).length = 0 := rfl
  rw [h0'] at g3
  have HG := Lib.hid (fun W (h : Ext w W) => And.intro (keep_below h _ _ g0) (And.intro (keep_below h _ _ g1) (And.intro (keep_below h _ _ g2) (keep_below h _ _ g3))))
  have HE := Lib.hid hE
  clear hE hRb hRb1 hbx hL hI hu h0'
  go_enter Tryz.func106, Tryz.ntmps106
  go_upto_region 3 with (go_at_call 92; refine (HC.out).mono ?_; rintro e w3 ⟨⟨i, f, he, hf⟩, hB⟩; subst he; have HF := Lib.hid hf; have HB := Lib.hid hB; clear hB hf)
  have hf := HF.out
  rcases hf with ⟨rfl, hi, hc⟩ | ⟨rfl, hno⟩
  · exact absurd (HU.out.symm.trans (getB_some HRb.out.sorted hi hc)) (by simp)
  have hE3 : Ext w w3 := Ext.trans HE.out HB.out
  clear g0 g1 g2 g3 hno
  obtain ⟨g0, g1, g2, g3⟩ := HG.out _ hE3
  have hb0 : w3.heap[w.heap.size]? = some (.cells #[.int .i64 0, .string ⟨#[]⟩, .int .i64 0, .slice none 0 0] 36 (0, 0)) := (HB.out.block _ (by simp)).trans HBX.out
  have hs3 : w.heap.size + 1 ≤ w3.heap.size := by have := HB.out.size; simpa using this
  have HS3 := Lib.hid hs3
  have HB0 := Lib.hid hb0
  have HE3 := Lib.hid hE3
  have hblt3 : b < w3.heap.size := by omega
  have nb3 : ¬ b = w3.heap.size := by omega
  have nb4 : ¬ w3.heap.size = b := by omega
  obtain ⟨⟨m0, m1, m2, m3⟩, n0, n1, n2, n3⟩ := box_facts hb0
  clear hE3 hb0 hs3
  go_wp2_with fail
  go_region_held3 (fun W => W.cell? ⟨b, o, none⟩ = some (.int .i64 1) ∧ W.cell? ⟨b, o + 1, none⟩ = some (.string n) ∧ W.cell? ⟨b, o + 2, none⟩ = some (.int .i64 s) ∧ W.cell? ⟨b, o + 3, none⟩ = some (.slice xa 0 cap)) (first | go_keep | assumption) (first | fail)
  have hE6 : Ext w3 ((w3.alloc (.cells #[.int .i64 1, .string n, .int .i64 s, .slice none 0 0] 36)).drew) := ((Ext.refl w3).alloc _).drew
  have hb6 : ((w3.alloc (.cells #[.int .i64 1, .string n, .int .i64 s, .slice none 0 0] 36)).drew).heap[w.heap.size]? = some (.cells #[.int .i64 0, .string ⟨#[]⟩, .int .i64 0, .slice none 0 0] 36 (0, 0)) := (hE6.block _ (by have := HS3.out; omega)).trans HB0.out
  have hx6 : ((w3.alloc (.cells #[.int .i64 1, .string n, .int .i64 s, .slice none 0 0] 36)).drew).heap[w3.heap.size]? = some (.cells #[.int .i64 1, .string n, .int .i64 s, .slice none 0 0] 36 (0, 0)) := heap_alloc_new w3 _
  clear g0 g1 g2 g3 m0 m1 m2 m3 n0 n1 n2 n3
  obtain ⟨g0, g1, g2, g3⟩ := HG.out _ (Ext.trans HE3.out hE6)
  obtain ⟨⟨m0, m1, m2, m3⟩, n0, n1, n2, n3⟩ := box_facts hb6
  obtain ⟨⟨x0, x1, x2, x3⟩, _⟩ := box_facts hx6
  have HE6 := Lib.hid hE6
  generalize ((w3.alloc (.cells #[.int .i64 1, .string n, .int .i64 s, .slice none 0 0] 36)).drew) = w6 at HE6 g0 g1 g2 g3 m0 m1 m2 m3 n0 n1 n2 n3 x0 x1 x2 x3 ⊢
  clear hE6 hb6 hx6
  go_wp2_with fail
  exact bodyPost_ret (v := .agg #[.int .i64 1, .string n, .int .i64 s, .slice none 0 0]) (by simp [results, Tryz.results106, go_sem, m0, m1, m2, m3]) rfl (repl_done hn hs (Ext.trans HE3.out HE6.out))

set_option maxHeartbeats 3200000 in
set_option maxRecDepth 100000 in
/-- A node without kids that is no variable. -/
theorem repl_leaf (bs : List Bd) (xs : Option Addr) (cs : Nat) (k : Int) (n : ByteArray) (s : Int) (b o : Nat) (w : World) (hk1 : ¬ k = 1) (hk : -9223372036854775808 ≤ k ∧ k ≤ 9223372036854775807) (hn : n.size ≤ maxLen) (hs : -9223372036854775808 ≤ s ∧ s ≤ 9223372036854775807) (hL : Lies w (.mk k n s []) b o) :
    Calls Tryz.prog 106 #[.slice xs bs.length cs, .pointer (some ⟨b, o, none⟩)] w (CopyPost w (.mk k n s [])) := by
  obtain ⟨xa, cap, g0, g1, g2, g3, hI⟩ := Lies_is hL
  have hblt := World.block_lt_of_cell? w _ g0
  simp only at hblt
  have nb1 : ¬ b = w.heap.size := by omega
  have nb2 : ¬ w.heap.size = b := by omega
  have h0' : ([] : List Tm).length = 0 := rfl
  rw [h0'] at g3
  have q1 : (k == 1) = false := by simp [hk1]
  clear hL hI h0' hk1
  go_enter Tryz.func106, Tryz.ntmps106
  go_wp2_with fail
  go_region_held3 (fun W => W.cell? ⟨b, o, none⟩ = some (.int .i64 k) ∧ W.cell? ⟨b, o + 1, none⟩ = some (.string n) ∧ W.cell? ⟨b, o + 2, none⟩ = some (.int .i64 s) ∧ W.cell? ⟨b, o + 3, none⟩ = some (.slice xa 0 cap)) (first | go_keep | assumption) (first | fail)
  go_wp2_with fail
  exact bodyPost_ret (v := .agg #[.int .i64 k, .string n, .int .i64 s, .slice none 0 0]) (by simp [results, Tryz.results106, go_sem]) rfl (copy_leaf hk hs hn rfl)
set_option maxHeartbeats 3200000 in
set_option maxRecDepth 100000 in
/-- A node with kids. -/
theorem repl_node (bs : List Bd) (xs : Option Addr) (cs : Nat) (m : Nat) (k : Int) (n : ByteArray) (s : Int) (ks us : List Tm) (b o : Nat) (w : World) (hk1 : ¬ k = 1) (hm : sizes ks ≤ m) (hM : m ≤ 1073741824) (hL : Lies w (.mk k n s ks) b o) (hne : ¬ ks.length = 0) (hRb : RbOk bs xs cs w) (hul : us.length = ks.length) (hus : ∀ (j : Nat) (h : j < ks.length), us[j]? = some (apT bs ks[j]))
    (ih : ∀ (j : Nat) (h : j < ks.length) (b o : Nat) (w : World), RbOk bs xs cs w → Lies w ks[j] b o → Calls Tryz.prog 106 #[.slice xs bs.length cs, .pointer (some ⟨b, o, none⟩)] w (CopyPost w (apT bs ks[j]))) :
    Calls Tryz.prog 106 #[.slice xs bs.length cs, .pointer (some ⟨b, o, none⟩)] w (CopyPost w (.mk k n s us)) := by
    obtain ⟨g0, g1, g2, hk, hs, hn, hl, xa, cap, g3, hcap, hR⟩ := Lies_mk hL
    have hkl2 := length_le_sizes ks
    have q1 : (k == 1) = false := by simp [hk1]
    obtain ⟨kb, ko, rfl⟩ := Row_at hR (by omega)
    have hkm : us.length ≤ 1073741824 := by omega
    rw [← hul] at g3 hl
    have h0' : ¬ (us.length : Int) = 0 := by omega
    have hbs := World.block_lt_of_cell? w _ g3
    simp only at hbs
    have nb0 : ¬ b = w.heap.size := by omega
    have nb00 : ¬ w.heap.size = b := by omega
    have nb1 : ¬ b = w.heap.size + 1 := by omega
    have nb2 : ¬ b = w.heap.size + 2 := by omega
    have nb3 : ¬ w.heap.size + 1 = b := by omega
    have nb4 : ¬ w.heap.size + 2 = b := by omega
    have HUL := Lib.hid hul
    have HUS := Lib.hid hus
    have HRb := Lib.hid hRb
    clear hm hk1 hne hul hus hRb
    go_enter Tryz.func106, Tryz.ntmps106
    go_wp2_with fail
    go_region_held3 (fun W => W.cell? ⟨b, o, none⟩ = some (.int .i64 k) ∧ W.cell? ⟨b, o + 1, none⟩ = some (.string n) ∧ W.cell? ⟨b, o + 2, none⟩ = some (.int .i64 s) ∧ W.cell? ⟨b, o + 3, none⟩ = some (.slice (some ⟨kb, ko, none⟩) us.length cap)) (first | go_keep | assumption) (first | fail)
    have HR := Lib.hid hR
    have HL := Lib.hid hL
    have HIH := Lib.hid ih
    clear hR hL ih
    obtain ⟨i0, hi0, hz0, hz1, hz2⟩ := info_parts info24
    have HI0 := Lib.hid (And.intro hi0 (And.intro hz0 (And.intro hz1 hz2)))
    clear hi0 hz0 hz1 hz2
    go_wp2_with (at_make; refine make_full_at _ (w.heap.size + 2) (by simp) rfl _ _ _ rfl 36 i0 _ 4 Tryz.underlying23 HI0.out.1 HI0.out.2.1 HI0.out.2.2.1 us.length rfl rfl (by rw [HI0.out.2.2.2]; omega) (by unfold maxLen; omega) ?_; intro w1 hown1 hgrow; obtain ⟨hm1, hm2, hm3⟩ := copy_made hown1 hgrow; have HM := Lib.hid hm1; obtain ⟨⟨x0, x1, x2, x3⟩, x4, x5, x6, x7⟩ := box_facts hm2; have g3' := (hm3.cell (World.block_lt_of_cell? w _ g3)).trans g3; clear hm1 hm2 hown1 hgrow x4 x5 x6)
    go_loopw [61] (fun i wr => ∃ j : Nat, j ≤ us.length ∧ i = .int .i64 j ∧ CR w k n s us j wr) (fun i _ => us.length - (intOf i).toNat)
    case atStart => exact ⟨0, Nat.zero_le _, rfl, HM.out⟩
    case round =>
      obtain ⟨j, hj, rfl, hC⟩ := hrel
      have hgr : wr.cell? ⟨b, o + 3, none⟩ = some (.slice (some ⟨kb, ko, none⟩) us.length cap) := (hC.below.cell (World.block_lt_of_cell? w _ g3)).trans g3
      have HC := Lib.hid hC
      clear g3' hC
      by_cases hlt : j < us.length
      rotate_left
      · have hjl : j = us.length := by omega
        subst hjl
        have HD := Lib.hid (HC.out.done hk hs hn hl)
        obtain ⟨⟨y0, y1, y2, y3⟩, y4, y5, y6, y7⟩ := box_facts HC.out.res
        obtain ⟨⟨z0, z1, z2, z3⟩, z4, z5, z6, z7⟩ := box_facts HC.out.box
        go_wp2_with fail
        exact bodyPost_ret (v := .agg #[.int .i64 k, .string n, .int .i64 s, .slice (some ⟨w.heap.size + 2, 0, none⟩) us.length us.length]) (by simp [results, Tryz.results106, go_sem, y0, y1, y2, y3]) rfl HD.out
      have hjk : j < ks.length := by rw [← HUL.out]; exact hlt
      have HJK := Lib.hid hjk
      have huj : us[j] = apT bs ks[j] := by
        have := HUS.out j hjk
        rw [List.getElem?_eq_getElem hlt, Option.some.injEq] at this
        exact this
      have HUJ := Lib.hid (fun (S : Nat → Prop) (W : World) (d0 d1 d2 d3 : Value) (h : IsIn S W (apT bs ks[j]) d0 d1 d2 d3) => (show IsIn S W us[j] d0 d1 d2 d3 from by rw [huj]; exact h))
      clear huj
      have HLK := Lib.hid (Row_get (Row_below HR.out HC.out.below) j hjk)
      obtain ⟨⟨_, _, _, q3⟩, _⟩ := box_facts HC.out.box
      have i1 : (0 : Int) ≤ (j : Int) := by omega
      have i2 : (j : Int) < (us.length : Int) := by omega
      go_wp2_with fail
      go_region_held3 (fun W => W.cell? ⟨w.heap.size + 1, 3, none⟩ = some (.slice (some ⟨w.heap.size + 2, 0, none⟩) us.length us.length) ∧ W.cell? ⟨b, o + 3, none⟩ = some (.slice (some ⟨kb, ko, none⟩) us.length cap))
        (first | go_keep | assumption)
        (first | (go_at_call 106; refine (HIH.out j HJK.out kb (ko + j * 4) _ (HRb.out.ext (Ext.trans HC.out.below ((Ext.refl _).drew))) (Lies_carry (keep_drew _) HLK.out)).mono ?_; rintro e w3 ⟨c0, c1, c2, c3, he, hI, hB⟩; subst he; replace hI := HUJ.out _ _ _ _ _ _ hI; obtain ⟨k', n', s', x', l', c', e0, e1, e2, e3⟩ := IsIn_form hI; subst e0 e1 e2 e3; have hB' : Below wr.heap.size wr w3 := ((Below.refl _ _).drew).trans hB; obtain ⟨⟨z0, z1, z2, z3, y0, y1, y2, y3⟩, hz⟩ := HC.out.cells hlt hB'; have f0 := hz (j * 4); have f1 := hz (j * 4 + 1); have f2 := hz (j * 4 + 2); have f3 := hz (j * 4 + 3); have HN := Lib.hid (HC.out.next hlt hI hB'); have r1 : w3.cell? ⟨w.heap.size + 1, 3, none⟩ = some (.slice (some ⟨w.heap.size + 2, 0, none⟩) us.length us.length) := (hB'.cell (World.block_lt_of_cell? wr _ q3)).trans q3; have r2 : w3.cell? ⟨b, o + 3, none⟩ = some (.slice (some ⟨kb, ko, none⟩) us.length cap) := (hB'.cell (World.block_lt_of_cell? wr _ hgr)).trans hgr; clear hI hB hB' hz))
      go_wp2_with fail
      go_roundw
      case rel => exact ⟨j + 1, by omega, by go_num, HN.out⟩
      case measure => simp [intOf]; omega

theorem replaced_any (bs : List Bd) (xs : Option Addr) (cs : Nat) (m : Nat) : ∀ (t : Tm) (b o : Nat) (w : World), size t ≤ m → m ≤ 1073741824 → nodesE t = 0 → RbOk bs xs cs w → Lies w t b o →
    Calls Tryz.prog 106 #[.slice xs bs.length cs, .pointer (some ⟨b, o, none⟩)] w (CopyPost w (apT bs t)) := by
  induction m with
  | zero => intro t b o w h; have := size_pos t; omega
  | succ m ih =>
    intro t b o w hm hM hv hRb hL
    obtain ⟨k, n, s, ks⟩ := t
    obtain ⟨hv1, hv2⟩ := nodesE_parts hv
    obtain ⟨g0, g1, g2, hk, hs, hn, hl, xa, cap, g3, hcap, hR⟩ := Lies_mk hL
    have hsk : size (.mk k n s ks) = 1 + sizes ks := rfl
    by_cases h1 : k = 1
    · subst h1
      obtain rfl := nodeE_var hv1
      cases hu : getB bs (.mk 1 n s []) with
      | some u =>
        have e : apT bs (.mk 1 n s []) = u := by rw [apT, if_pos rfl, hu]
        rw [e]
        exact repl_bound bs xs cs n s b o w hn hRb hL u hu
      | none =>
        have e : apT bs (.mk 1 n s []) = .mk 1 n s [] := by rw [apT, if_pos rfl, hu]; rfl
        rw [e]
        exact repl_free bs xs cs n s b o w hn hs hRb hL hu
    · have e : apT bs (.mk k n s ks) = .mk k n s (apL bs ks) := by rw [apT, if_neg h1]
      rw [e]
      by_cases h0 : ks.length = 0
      · obtain rfl := List.length_eq_zero_iff.1 h0
        exact repl_leaf bs xs cs k n s b o w h1 hk hn hs hL
      · refine repl_node bs xs cs m k n s ks (apL bs ks) b o w h1 (by omega) (by omega) hL h0 hRb (apL_length bs ks) (fun j h => by rw [List.getElem?_eq_getElem (by rw [apL_length]; exact h), apL_get bs ks j h]) (fun j h b o w hR hLj => ?_)
        have h2 := sizes_take ks j h
        have h3 := sizes_take_le ks (j + 1)
        exact ih ks[j] b o w (by omega) (by omega) (nodesL_get hv2 j h) hR hLj
end Go.Proofs.YtkfbbkkfagglhaaGreatDoor
