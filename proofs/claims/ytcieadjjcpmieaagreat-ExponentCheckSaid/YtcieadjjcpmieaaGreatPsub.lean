/-
  ROWS OF NUMBERS, and the walk of exponent's subtract.
-/
import Derived.Test.YtcieadjjcpmieaaGreatPterm
namespace Go.Proofs.YtcieadjjcpmieaaGreat
open Go.RowKit

/-- A row of numbers in a block. -/
def IRow (w : World) (g : Nat) (l : List Int) : Prop :=
  g < w.heap.size ∧ (∀ p, w.frozen? ⟨g, p, none⟩ = false) ∧ ∀ k (hk : k < l.length), w.cell? ⟨g, k, none⟩ = some (.int .i64 l[k])
theorem IRow.carry {w w' : World} {g : Nat} {l : List Int} (h : IRow w g l) (hs : w.heap.size ≤ w'.heap.size) (hb : w'.heap[g]? = w.heap[g]?) : IRow w' g l :=
  ⟨Nat.lt_of_lt_of_le h.1 hs, fun p => by
    have := h.2.1 p
    unfold World.frozen? at this ⊢
    rw [hb]; exact this, fun k hk => by rw [World.cell?_of_block (w := w) (a := ⟨g, k, none⟩) hb]; exact h.2.2 k hk⟩
theorem IRow.ext {w w' : World} {g : Nat} {l : List Int} (h : IRow w g l) (x : Ext w w') : IRow w' g l := h.carry x.size (x.block g h.1)
theorem IRow.but {w w' : World} {g h : Nat} {l : List Int} (r : IRow w g l) (x : But h w w') (hne : g ≠ h) : IRow w' g l := r.carry x.size (x.block g r.1 (by simp only [ne_eq, Option.some.injEq]; omega))
theorem IRow.set {w : World} {g j : Nat} {l : List Int} {x : Int} (h : IRow w g l) (_hj : j < l.length) : IRow (w.setCell ⟨g, j, none⟩ (.int .i64 x)) g (l.set j x) :=
  ⟨by rw [World.size_setCell]; exact h.1, fun p => by rw [World.frozen?_setCell]; exact h.2.1 p, fun k hk => by
    have hk' : k < l.length := by simpa using hk
    rw [List.getElem_set]
    by_cases e : j = k
    · subst e; rw [if_pos rfl]; exact setSameE (h.2.2 _ hk')
    · rw [if_neg e, setOtherE (fun h => by simp only [Addr.mk.injEq] at h; omega)]; exact h.2.2 k hk'⟩

/-- One number of a row from which n times another row is taken. -/
def subOk1 (n f r : Int) : Bool := (decide (r = 0) || decide ((n.natAbs : Int) ≤ (2199023255552 : Int).tdiv r.natAbs)) && (decide (-1099511627776 ≤ f - n * r) && decide (f - n * r ≤ 1099511627776))
def subOk (n : Int) : List Int → List Int → Bool
  | f :: fs, r :: rs => subOk1 n f r && subOk n fs rs
  | _, _ => true
def minR (n : Int) : List Int → List Int → List Int
  | f :: fs, r :: rs => (f - n * r) :: minR n fs rs
  | fs, _ => fs
theorem minR_len (n : Int) : ∀ fs rs : List Int, (minR n fs rs).length = fs.length
  | [], _ => by simp [minR]
  | f :: fs, [] => by simp [minR]
  | f :: fs, r :: rs => by simp [minR, minR_len n fs rs]
theorem minR_take (n : Int) : ∀ (fs rs : List Int) (j : Nat) (h : j < fs.length) (h' : j < rs.length), minR n (fs.take (j + 1)) (rs.take (j + 1)) ++ fs.drop (j + 1) = (minR n (fs.take j) (rs.take j) ++ fs.drop j).set j (fs[j] - n * rs[j])
  | f :: fs, r :: rs, 0, _, _ => by simp [minR]
  | f :: fs, r :: rs, j + 1, h, h' => by
    have ih := minR_take n fs rs j (by simpa using h) (by simpa using h')
    simp only [List.take_succ_cons, minR, List.cons_append, List.drop_succ_cons, List.set_cons_succ, List.getElem_cons_succ]
    rw [ih]
theorem subOk_take (n : Int) : ∀ (fs rs : List Int) (j : Nat) (h : j < fs.length) (h' : j < rs.length), subOk n (fs.take (j + 1)) (rs.take (j + 1)) = (subOk n (fs.take j) (rs.take j) && subOk1 n fs[j] rs[j])
  | f :: fs, r :: rs, 0, _, _ => by simp [subOk]
  | f :: fs, r :: rs, j + 1, h, h' => by
    have ih := subOk_take n fs rs j (by simpa using h) (by simpa using h')
    simp only [List.take_succ_cons, subOk, List.getElem_cons_succ]
    rw [ih, Bool.and_assoc]
theorem subOk_bad (n : Int) : ∀ (fs rs : List Int) (j : Nat) (h : j < fs.length) (h' : j < rs.length), subOk1 n fs[j] rs[j] = false → subOk n fs rs = false
  | f :: fs, r :: rs, 0, _, _, e => by
    have e' : subOk1 n f r = false := e
    simp [subOk, e']
  | f :: fs, r :: rs, j + 1, h, h', e => by
    have ih := subOk_bad n fs rs j (by simpa using h) (by simpa using h') (by simpa using e)
    simp [subOk, ih]
theorem minR_at (n : Int) (fs rs : List Int) (j : Nat) (h : j < fs.length) (h2 : j < (minR n (fs.take j) (rs.take j) ++ fs.drop j).length) : (minR n (fs.take j) (rs.take j) ++ fs.drop j)[j] = fs[j] := by
  have hl : (minR n (fs.take j) (rs.take j)).length = j := by rw [minR_len, List.length_take]; omega
  rw [List.getElem_append_right (by omega)]
  simp [hl]
def InB (l : List Int) : Prop := ∀ x ∈ l, -1099511627776 ≤ x ∧ x ≤ 1099511627776
theorem minR_in (n : Int) : ∀ fs rs : List Int, InB fs → subOk n fs rs = true → InB (minR n fs rs)
  | [], _, h, _ => by simp [minR, InB]
  | f :: fs, [], h, _ => by simpa [minR] using h
  | f :: fs, r :: rs, h, e => by
    simp only [subOk, subOk1, Bool.and_eq_true, decide_eq_true_eq] at e
    have ih := minR_in n fs rs (fun x hx => h x (List.mem_cons_of_mem _ hx)) e.2
    intro x hx
    simp only [minR, List.mem_cons] at hx
    rcases hx with rfl | hx
    · exact e.1.2
    · exact ih x hx
/-- What subtract gives. -/
def SubPost (w : World) (g : Nat) (n : Int) (fs rs : List Int) (e : Ending) (w' : World) : Prop :=
  e = .returned (.bool (subOk n fs rs)) ∧ But g w w' ∧ (subOk n fs rs = true → IRow w' g (minR n fs rs))
theorem tdiv_le {a : Int} (h : 1 ≤ a) : 0 ≤ (2199023255552 : Int).tdiv a ∧ (2199023255552 : Int).tdiv a ≤ 2199023255552 := by
  rw [Int.tdiv_eq_ediv_of_nonneg (by omega)]
  exact ⟨Int.ediv_nonneg (by omega) (by omega), Int.ediv_le_self _ (by omega)⟩
theorem mul_small {n r : Int} (h : (n.natAbs : Int) ≤ (2199023255552 : Int).tdiv r.natAbs) : -2199023255552 ≤ n * r ∧ n * r ≤ 2199023255552 := by
  have h1 : (n.natAbs : Int) * r.natAbs ≤ 2199023255552 := by
    refine Int.le_trans (Int.mul_le_mul_of_nonneg_right h (by omega)) ?_
    rw [Int.tdiv_eq_ediv_of_nonneg (by omega)]
    by_cases h0 : (r.natAbs : Int) = 0
    · rw [h0]; omega
    · exact Int.ediv_mul_le _ h0
  have h2 : ((n * r).natAbs : Int) = (n.natAbs : Int) * r.natAbs := by rw [Int.natAbs_mul]; push_cast; rfl
  omega

set_option maxHeartbeats 6400000 in
set_option maxRecDepth 100000 in
theorem subtract_any (n : Int) (fs rs : List Int) (g h l cf cr : Nat) (w : World) (hn : -4611686018427387904 ≤ n ∧ n ≤ 4611686018427387904) (hfl : fs.length = l) (hrl : rs.length = l) (hl : l ≤ 1048576) (hbf : InB fs) (hbr : InB rs) (hF : IRow w g fs) (hR : IRow w h rs) (hne : h ≠ g) :
    Calls Tryz.prog 120 #[.slice (some ⟨g, 0, none⟩) l cf, .slice (some ⟨h, 0, none⟩) l cr, .int .i64 n] w (SubPost w g n fs rs) := by
  have HF := Lib.hid hF
  have HR := Lib.hid hR
  have HBF := Lib.hid hbf
  have HBR := Lib.hid hbr
  have HFL := Lib.hid hfl
  have HRL := Lib.hid hrl
  clear hF hR hbf hbr hfl hrl
  go_enter Tryz.func120, Tryz.ntmps120
  go_wp2_with fail
  go_loopw [10] (fun i wr => ∃ j : Nat, j ≤ l ∧ i = .int .i64 j ∧ But g w wr ∧ IRow wr g (minR n (fs.take j) (rs.take j) ++ fs.drop j) ∧ subOk n (fs.take j) (rs.take j) = true) (fun i _ => l - (intOf i).toNat)
  case atStart => exact ⟨0, Nat.zero_le _, rfl, But.refl _ _, by simpa [minR] using HF.out, by simp [subOk]⟩
  case round =>
    obtain ⟨j, hj, rfl, hB, hI, hok⟩ := hrel
    have HB := Lib.hid hB
    have HI := Lib.hid hI
    have HOK := Lib.hid hok
    clear hB hI hok
    by_cases hlt : j < l
    rotate_left
    · obtain rfl : j = l := by omega
      have HE : Hid (SubPost w g n fs rs (.returned (.bool true)) wr) := by
        have h1 := HI.out
        have h2 := HOK.out
        rw [List.take_of_length_le (Nat.le_of_eq HFL.out), List.take_of_length_le (Nat.le_of_eq HRL.out)] at h1 h2
        rw [List.drop_of_length_le (Nat.le_of_eq HFL.out), List.append_nil] at h1
        exact ⟨by rw [h2], HB.out, fun _ => h1⟩
      go_wp2_with fail
      go_ret
      exact HE.out
    have hjf : j < fs.length := by rw [HFL.out]; exact hlt
    have hjr : j < rs.length := by rw [HRL.out]; exact hlt
    have hll : j < (minR n (fs.take j) (rs.take j) ++ fs.drop j).length := by rw [List.length_append, minR_len, List.length_take, List.length_drop]; omega
    obtain ⟨f, hf⟩ : ∃ f, fs[j] = f := ⟨_, rfl⟩
    obtain ⟨r, hr⟩ : ∃ r, rs[j] = r := ⟨_, rfl⟩
    have hbf := HBF.out _ (List.getElem_mem hjf)
    have hbr := HBR.out _ (List.getElem_mem hjr)
    have hRw : IRow wr h rs := HR.out.but HB.out hne
    have HCr : Hid (∀ W, Ext wr W → W.cell? ⟨g, j, none⟩ = some (.int .i64 f) ∧ W.cell? ⟨h, j, none⟩ = some (.int .i64 r) ∧ W.frozen? ⟨g, j, none⟩ = false) := fun W x => by
      have h1 := (HI.out.ext x).2.2 j hll
      rw [minR_at n fs rs j hjf hll, hf] at h1
      have h2 := (hRw.ext x).2.2 j hjr
      rw [hr] at h2
      exact ⟨h1, h2, (HI.out.ext x).2.1 j⟩
    have HBAD : Hid (subOk1 n f r = false → subOk n fs rs = false) := fun e => subOk_bad n fs rs j hjf hjr (by rw [hf, hr]; exact e)
    have HNX : Hid (∀ W, Ext wr W → But g w (W.setCell ⟨g, j, none⟩ (.int .i64 (f - n * r))) ∧ IRow (W.setCell ⟨g, j, none⟩ (.int .i64 (f - n * r))) g (minR n (fs.take (j + 1)) (rs.take (j + 1)) ++ fs.drop (j + 1))) := fun W x => by
      refine ⟨(HB.out.trans (But.ofBelow x)).setCell _ _, ?_⟩
      rw [minR_take n fs rs j hjf hjr, hf, hr]
      exact (HI.out.ext x).set hll
    have HOK2 : Hid (subOk1 n f r = true → subOk n (fs.take (j + 1)) (rs.take (j + 1)) = true) := fun e => by
      rw [subOk_take n fs rs j hjf hjr, HOK.out, hf, hr, e]; rfl
    rw [hf] at hbf
    rw [hr] at hbr
    obtain ⟨c0, c1, c2⟩ := HCr.out wr (Ext.refl _)
    have i1 : (0 : Int) ≤ (j : Int) := by omega
    have i2 : (j : Int) < (l : Int) := by omega
    have HAB := Lib.hid (fun (m : Int) (W : World) (a : -4611686018427387904 ≤ m) (b : m ≤ 4611686018427387904) => absolute_any m W a b)
    clear hjf hjr hll hf hr hRw
    by_cases hz : r = 0
    · subst hz
      have hm : n * 0 = 0 := Int.mul_zero n
      have HO1 : Hid (subOk1 n f 0 = true) := by show _ = _; simp [subOk1]; omega
      have wM : IntKind.i64.wrap (n * 0) = 0 := by rw [hm]; rfl
      have wS : IntKind.i64.wrap (f - 0) = f := by rw [Int.sub_zero]; exact IntWalk.i64_in _ (by omega)
      have hx : f - n * 0 = f := by rw [hm, Int.sub_zero]
      rw [hx] at HNX
      go_upto_region 4 with fail
      go_quiet (fail)
      have hx6 := below_drewN (Ext.refl wr) nq
      generalize wr.drewN nq = w6 at hx6 ⊢
      clear c0 c1 c2
      obtain ⟨c0, c1, c2⟩ := HCr.out w6 hx6
      have HN6 := Lib.hid (HNX.out w6 hx6)
      clear hx hm hx6 HCr HNX
      go_upto_region 6 with fail
      go_region
      have HN7 : Hid (But g w (w6.setCell ⟨g, j, none⟩ (.int .i64 f)).drew ∧ IRow (w6.setCell ⟨g, j, none⟩ (.int .i64 f)).drew g (minR n (fs.take (j + 1)) (rs.take (j + 1)) ++ fs.drop (j + 1))) := ⟨HN6.out.1.drew, HN6.out.2.ext (Ext.drew (Ext.refl _))⟩
      have c3 : (w6.setCell ⟨g, j, none⟩ (.int .i64 f)).drew.cell? ⟨g, j, none⟩ = some (.int .i64 f) := setSameE c0
      generalize (w6.setCell ⟨g, j, none⟩ (.int .i64 f)).drew = w7 at HN7 c3 ⊢
      clear HN6 c0 c1 c2
      have HBY := Lib.hid (beyond_any f 1099511627776 w7 (by omega) (by omega))
      have eb : (decide (f < -1099511627776) || decide (1099511627776 < f)) = false := by
        rw [Bool.or_eq_false_iff]; exact ⟨decide_eq_false (by omega), decide_eq_false (by omega)⟩
      rw [eb] at HBY
      clear eb
      have HO2 := Lib.hid (HOK2.out HO1.out)
      go_wp2_with (go_at_call 60; refine (HBY.out).mono ?_; rintro e w8 ⟨he, hw⟩; subst he; have hw' := hw.symm; subst hw')
      go_roundw
      case rel => exact ⟨j + 1, by omega, by go_num, HN7.out.1, HN7.out.2, HO2.out⟩
      case measure => simp [intOf]; omega
    obtain ⟨a, ha⟩ : ∃ a : Int, (r.natAbs : Int) = a := ⟨_, rfl⟩
    have ha1 : 1 ≤ a ∧ a ≤ 1099511627776 := by omega
    obtain ⟨m, hm⟩ : ∃ m : Int, (n.natAbs : Int) = m := ⟨_, rfl⟩
    have HAN := Lib.hid (fun W => HAB.out n W hn.1 hn.2)
    have HAR := Lib.hid (fun W => HAB.out r W (by omega) (by omega))
    rw [hm] at HAN
    rw [ha] at HAR
    have hdb := tdiv_le ha1.1
    have hms := mul_small (n := n) (r := r)
    rw [ha, hm] at hms
    have HS1 : Hid (subOk1 n f r = ((decide (r = 0) || decide (m ≤ (2199023255552 : Int).tdiv a)) && (decide (-1099511627776 ≤ f - n * r) && decide (f - n * r ≤ 1099511627776)))) := by show _ = _; unfold subOk1; rw [ha, hm]
    obtain ⟨d, hd⟩ : ∃ d, (2199023255552 : Int).tdiv a = d := ⟨_, rfl⟩
    have wD : IntKind.i64.wrap ((2199023255552 : Int).tdiv a) = d := (IntWalk.i64_in _ (by omega)).trans hd
    rw [hd] at hdb hms HS1
    clear hd
    have q0 : (a == 0) = false := by simp; omega
    have q1 : (r == 0) = false := by simp [hz]
    have q2 : (r != 0) = true := by simp [hz]
    by_cases hgt : d < m
    · have q3 : decide (d < m) = true := decide_eq_true hgt
      have HE : Hid (∀ k, SubPost w g n fs rs (.returned (.bool false)) (wr.drewN k)) := fun k => by
        have h1 := HBAD.out (by rw [HS1.out, decide_eq_false hz, decide_eq_false (by omega : ¬ m ≤ d)]; rfl)
        exact ⟨by rw [h1], HB.out.trans (But.ofBelow (below_drewN (Below.refl _ _) k)), fun h2 => by rw [h1] at h2; exact absurd h2 (by simp)⟩
      clear hm ha hz hgt hms HS1 HNX HOK2 HBAD
      go_upto_region 4 with fail
      go_quiet ((first
        | (go_at_call 50; exact Calls.quiet_of_same (HAN.out _))
        | (go_at_call 50; exact Calls.quiet_of_same (HAR.out _))))
      go_wp2_with fail
      go_ret
      exact HE.out _
    have q3 : decide (d < m) = false := decide_eq_false hgt
    have hmb := hms (by omega)
    obtain ⟨y, hy⟩ : ∃ y, n * r = y := ⟨_, rfl⟩
    obtain ⟨x, hx⟩ : ∃ x, f - y = x := ⟨_, rfl⟩
    rw [hy] at HS1 hmb
    rw [hy, hx] at HNX
    rw [hx] at HS1
    have wM : IntKind.i64.wrap (n * r) = y := (IntWalk.i64_in _ (by omega)).trans hy
    have wS : IntKind.i64.wrap (f - y) = x := (IntWalk.i64_in _ (by omega)).trans hx
    clear hm ha hms hx hy
    go_upto_region 4 with fail
    go_quiet ((first
        | (go_at_call 50; exact Calls.quiet_of_same (HAN.out _))
        | (go_at_call 50; exact Calls.quiet_of_same (HAR.out _))))
    have hx6 := below_drewN (Ext.refl wr) nq
    generalize wr.drewN nq = w6 at hx6 ⊢
    clear c0 c1 c2
    obtain ⟨c0, c1, c2⟩ := HCr.out w6 hx6
    have HN6 := Lib.hid (HNX.out w6 hx6)
    clear hx6 HCr HNX
    go_upto_region 6 with fail
    go_region
    have HN7 : Hid (But g w (w6.setCell ⟨g, j, none⟩ (.int .i64 x)).drew ∧ IRow (w6.setCell ⟨g, j, none⟩ (.int .i64 x)).drew g (minR n (fs.take (j + 1)) (rs.take (j + 1)) ++ fs.drop (j + 1))) := ⟨HN6.out.1.drew, HN6.out.2.ext (Ext.drew (Ext.refl _))⟩
    have c3 : (w6.setCell ⟨g, j, none⟩ (.int .i64 x)).drew.cell? ⟨g, j, none⟩ = some (.int .i64 x) := setSameE c0
    generalize (w6.setCell ⟨g, j, none⟩ (.int .i64 x)).drew = w7 at HN7 c3 ⊢
    clear HN6 c0 c1 c2
    have HBY := Lib.hid (beyond_any x 1099511627776 w7 (by omega) (by omega))
    by_cases hin : -1099511627776 ≤ x ∧ x ≤ 1099511627776
    · have eb : (decide (x < -1099511627776) || decide (1099511627776 < x)) = false := by
        rw [Bool.or_eq_false_iff]; exact ⟨decide_eq_false (by omega), decide_eq_false (by omega)⟩
      rw [eb] at HBY
      have HO2 := Lib.hid (HOK2.out (by rw [HS1.out, decide_eq_true hin.1, decide_eq_true hin.2, decide_eq_true (by omega : m ≤ d)]; simp))
      clear eb hin
      go_wp2_with (go_at_call 60; refine (HBY.out).mono ?_; rintro e w8 ⟨he, hw⟩; subst he; have hw' := hw.symm; subst hw')
      go_roundw
      case rel => exact ⟨j + 1, by omega, by go_num, HN7.out.1, HN7.out.2, HO2.out⟩
      case measure => simp [intOf]; omega
    · have eb : (decide (x < -1099511627776) || decide (1099511627776 < x)) = true := by
        rw [Bool.or_eq_true_iff, decide_eq_true_iff, decide_eq_true_iff]; omega
      rw [eb] at HBY
      have HE : Hid (SubPost w g n fs rs (.returned (.bool false)) w7) := by
        have h1 := HBAD.out (by
          rw [HS1.out, Bool.and_eq_false_iff, Bool.and_eq_false_iff, decide_eq_false_iff_not, decide_eq_false_iff_not]
          right; omega)
        exact ⟨by rw [h1], HN7.out.1, fun h2 => by rw [h1] at h2; exact absurd h2 (by simp)⟩
      clear eb hin
      go_wp2_with (go_at_call 60; refine (HBY.out).mono ?_; rintro e w8 ⟨he, hw⟩; subst he; have hw' := hw.symm; subst hw')
      go_ret
      exact HE.out
end Go.Proofs.YtcieadjjcpmieaaGreat

/-
  THE ROWS OF AN ELIMINATION IN MEMORY, and the walk of exponent's leastRow.
-/
namespace Go.Proofs.YtcieadjjcpmieaaGreat
open Go.RowKit

/-- Where an elimination's parts lie. -/
structure MA where
  eb : Nat
  rb : Nat
  ib : Nat
  ci : Nat
  cr : Nat
  k : Nat
  l : Nat
  xr : Option Addr
  rs : Nat → Nat
  cs : Nat → Nat
  pb : Nat
  cp : Nat
  n : Nat
/-- The rows of numbers, and which of them are pivots. -/
structure Mat (A : MA) (w : World) (M : Nat → List Int) (P : Nat → Bool) : Prop where
  rows : w.cell? ⟨A.eb, 1, none⟩ = some (.slice A.xr A.k A.cr)
  piv : w.cell? ⟨A.eb, 2, none⟩ = some (.slice (some ⟨A.ib, 0, none⟩) A.k A.ci)
  some_ : 0 < A.k → A.xr = some ⟨A.rb, 0, none⟩
  row : ∀ i, i < A.k → w.cell? ⟨A.rb, i, none⟩ = some (.slice (some ⟨A.rs i, 0, none⟩) A.l (A.cs i))
  num : ∀ i, i < A.k → IRow w (A.rs i) (M i)
  wid : ∀ i, i < A.k → (M i).length = A.l
  flag : ∀ i, i < A.k → w.cell? ⟨A.ib, i, none⟩ = some (.bool (P i))
  inb : ∀ i, i < A.k → InB (M i)
theorem Mat.ext {A : MA} {w w' : World} {M : Nat → List Int} {P : Nat → Bool} (h : Mat A w M P) (x : Ext w w') : Mat A w' M P :=
  ⟨keep_below x _ _ h.rows, keep_below x _ _ h.piv, h.some_, fun i hi => keep_below x _ _ (h.row i hi), fun i hi => (h.num i hi).ext x, h.wid, fun i hi => keep_below x _ _ (h.flag i hi), h.inb⟩
def gM (M : Nat → List Int) (i c : Nat) : Int := (M i).getD c 0
theorem Mat.at_ {A : MA} {w : World} {M : Nat → List Int} {P : Nat → Bool} (h : Mat A w M P) {i c : Nat} (hi : i < A.k) (hc : c < A.l) :
    w.cell? ⟨A.rs i, c, none⟩ = some (.int .i64 (gM M i c)) ∧ -1099511627776 ≤ gM M i c ∧ gM M i c ≤ 1099511627776 := by
  have hl : c < (M i).length := by rw [h.wid i hi]; exact hc
  have e : gM M i c = (M i)[c] := by unfold gM; rw [List.getD_eq_getElem?_getD, List.getElem?_eq_getElem hl]; rfl
  rw [e]
  exact ⟨(h.num i hi).2.2 c hl, h.inb i hi _ (List.getElem_mem hl)⟩
/-- A row that is no pivot yet and has a number at the column. -/
def isOpen (M : Nat → List Int) (P : Nat → Bool) (c i : Nat) : Bool := !(P i) && !(decide (gM M i c = 0))
/-- The first of the open rows with the least number, among the first ones; or -1. -/
def leastN (M : Nat → List Int) (P : Nat → Bool) (c : Nat) : Nat → Int
  | 0 => -1
  | i + 1 => if isOpen M P c i = true then (if leastN M P c i = -1 then (i : Int) else if (gM M i c).natAbs < (gM M (leastN M P c i).toNat c).natAbs then (i : Int) else leastN M P c i) else leastN M P c i
theorem leastN_cases (M : Nat → List Int) (P : Nat → Bool) (c : Nat) : ∀ j, (leastN M P c j = -1 ∧ ∀ i, i < j → isOpen M P c i = false) ∨ ∃ b : Nat, b < j ∧ leastN M P c j = (b : Int) ∧ isOpen M P c b = true ∧ ∀ i, i < j → isOpen M P c i = true → (gM M b c).natAbs ≤ (gM M i c).natAbs
  | 0 => Or.inl ⟨rfl, fun i hi => absurd hi (Nat.not_lt_zero _)⟩
  | j + 1 => by
    have ih := leastN_cases M P c j
    cases ho : isOpen M P c j with
    | false =>
      have e : leastN M P c (j + 1) = leastN M P c j := by simp only [leastN, ho]; rfl
      rw [e]
      rcases ih with ⟨h1, h2⟩ | ⟨b, hb, h1, h2, h3⟩
      · refine Or.inl ⟨h1, fun i hi => ?_⟩
        by_cases hij : i = j
        · rw [hij]; exact ho
        · exact h2 i (by omega)
      · refine Or.inr ⟨b, by omega, h1, h2, fun i hi hoi => ?_⟩
        by_cases hij : i = j
        · rw [hij, ho] at hoi; exact absurd hoi (by simp)
        · exact h3 i (by omega) hoi
    | true =>
      rcases ih with ⟨h1, h2⟩ | ⟨b, hb, h1, h2, h3⟩
      · have e : leastN M P c (j + 1) = (j : Int) := by simp only [leastN, ho, h1, if_true]
        rw [e]
        refine Or.inr ⟨j, by omega, rfl, ho, fun i hi hoi => ?_⟩
        by_cases hij : i = j
        · rw [hij]; exact Nat.le_refl _
        · rw [h2 i (by omega)] at hoi; exact absurd hoi (by simp)
      · have hne : ¬ (leastN M P c j = -1) := by omega
        have ht : (leastN M P c j).toNat = b := by omega
        by_cases hlt : (gM M j c).natAbs < (gM M b c).natAbs
        · have e : leastN M P c (j + 1) = (j : Int) := by simp only [leastN, ho, if_true, if_neg hne, ht, if_pos hlt]
          rw [e]
          refine Or.inr ⟨j, by omega, rfl, ho, fun i hi hoi => ?_⟩
          by_cases hij : i = j
          · rw [hij]; exact Nat.le_refl _
          · have := h3 i (by omega) hoi; omega
        · have e : leastN M P c (j + 1) = (b : Int) := by simp only [leastN, ho, if_true, if_neg hne, ht, if_neg hlt]; exact h1
          rw [e]
          refine Or.inr ⟨b, by omega, rfl, h2, fun i hi hoi => ?_⟩
          by_cases hij : i = j
          · rw [hij]; omega
          · exact h3 i (by omega) hoi
theorem leastN_shut {M : Nat → List Int} {P : Nat → Bool} {c j : Nat} (h : isOpen M P c j = false) : leastN M P c (j + 1) = leastN M P c j := by simp only [leastN, h]; rfl
theorem leastN_first {M : Nat → List Int} {P : Nat → Bool} {c j : Nat} (h : isOpen M P c j = true) (h1 : leastN M P c j = -1) : leastN M P c (j + 1) = (j : Int) := by simp only [leastN, h, h1, if_true]
theorem leastN_less {M : Nat → List Int} {P : Nat → Bool} {c j b : Nat} (h : isOpen M P c j = true) (h1 : leastN M P c j = (b : Int)) (h2 : (gM M j c).natAbs < (gM M b c).natAbs) : leastN M P c (j + 1) = (j : Int) := by
  have hne : ¬ (leastN M P c j = -1) := by omega
  have ht : (leastN M P c j).toNat = b := by omega
  simp only [leastN, h, if_true, if_neg hne, ht, if_pos h2]
theorem leastN_kept {M : Nat → List Int} {P : Nat → Bool} {c j b : Nat} (h : isOpen M P c j = true) (h1 : leastN M P c j = (b : Int)) (h2 : ¬ (gM M j c).natAbs < (gM M b c).natAbs) : leastN M P c (j + 1) = (b : Int) := by
  have hne : ¬ (leastN M P c j = -1) := by omega
  have ht : (leastN M P c j).toNat = b := by omega
  simp only [leastN, h, if_true, if_neg hne, ht, if_neg h2]; exact h1

set_option maxHeartbeats 6400000 in
set_option maxRecDepth 100000 in
theorem least_any (A : MA) (M : Nat → List Int) (P : Nat → Bool) (c : Nat) (w : World) (hk : A.k ≤ 1048576) (_hl : A.l ≤ 1048576) (hc : c < A.l) (hm : Mat A w M P) :
    Calls Tryz.prog 141 #[.pointer (some ⟨A.eb, 0, none⟩), .int .i64 c] w fun e w' => e = .returned (.int .i64 (leastN M P c A.k)) ∧ Ext w w' := by
  have HM := Lib.hid hm
  obtain ⟨eb, heb⟩ : ∃ eb, A.eb = eb := ⟨_, rfl⟩
  obtain ⟨k, hke⟩ : ∃ k, A.k = k := ⟨_, rfl⟩
  obtain ⟨l, hle⟩ : ∃ l, A.l = l := ⟨_, rfl⟩
  obtain ⟨xr, hxr⟩ : ∃ xr, A.xr = xr := ⟨_, rfl⟩
  obtain ⟨cr, hcr⟩ : ∃ cr, A.cr = cr := ⟨_, rfl⟩
  obtain ⟨ib, hib⟩ : ∃ ib, A.ib = ib := ⟨_, rfl⟩
  obtain ⟨ci, hci⟩ : ∃ ci, A.ci = ci := ⟨_, rfl⟩
  obtain ⟨rb, hrb⟩ : ∃ rb, A.rb = rb := ⟨_, rfl⟩
  have HC : Hid (∀ W, Ext w W → W.cell? ⟨eb, 1, none⟩ = some (.slice xr k cr) ∧ W.cell? ⟨eb, 2, none⟩ = some (.slice (some ⟨ib, 0, none⟩) k ci)) := fun W x => by
    have h1 := (HM.out.ext x).rows
    have h2 := (HM.out.ext x).piv
    rw [heb, hxr, hke, hcr] at h1
    rw [heb, hib, hke, hci] at h2
    exact ⟨h1, h2⟩
  have HS : Hid (0 < k → xr = some ⟨rb, 0, none⟩) := fun h => by
    have := HM.out.some_ (by rw [hke]; exact h)
    rw [hxr, hrb] at this; exact this
  have HR : Hid (∀ W, Ext w W → ∀ i, i < k → W.cell? ⟨rb, i, none⟩ = some (.slice (some ⟨A.rs i, 0, none⟩) l (A.cs i)) ∧ W.cell? ⟨ib, i, none⟩ = some (.bool (P i)) ∧ W.cell? ⟨A.rs i, c, none⟩ = some (.int .i64 (gM M i c)) ∧ -1099511627776 ≤ gM M i c ∧ gM M i c ≤ 1099511627776) := fun W x i hi => by
    have hi' : i < A.k := by rw [hke]; exact hi
    have h1 := (HM.out.ext x).row i hi'
    have h2 := (HM.out.ext x).flag i hi'
    rw [hrb, hle] at h1
    rw [hib] at h2
    exact ⟨h1, h2, (HM.out.ext x).at_ hi' hc⟩
  rw [heb, hke]
  rw [hke] at hk
  rw [hle] at _hl hc
  clear hm heb hke hle hxr hcr hib hci hrb
  have c1 : (0 : Int) ≤ (c : Int) := by omega
  have c2 : (c : Int) < (l : Int) := by omega
  obtain ⟨e1, e2⟩ := HC.out w (Ext.refl w)
  go_enter Tryz.func141, Tryz.ntmps141
  go_wp2_with fail
  have hr0 := Ext.refl w
  go_loopw [5, 13] (fun b i wr => ∃ j : Nat, j ≤ k ∧ i = .int .i64 j ∧ b = .int .i64 (leastN M P c j) ∧ Ext w wr) (fun _ i _ => k - (intOf i).toNat)
  case atStart => exact ⟨0, Nat.zero_le _, rfl, rfl, hr0⟩
  case round =>
    obtain ⟨j, hj, rfl, rfl, hE⟩ := hrel
    have HE := Lib.hid hE
    by_cases hlt : j < k
    rotate_left
    · obtain rfl : j = k := by omega
      clear e1 e2
      go_wp2_with fail
      go_ret
      exact ⟨rfl, HE.out⟩
    clear e1 e2
    obtain ⟨e1, e2⟩ := HC.out wr hE
    obtain ⟨r1, r2, r3, r4⟩ := HR.out wr hE j hlt
    obtain rfl := HS.out (by omega)
    have hcs := leastN_cases M P c j
    have i1 : (0 : Int) ≤ (j : Int) := by omega
    have i2 : (j : Int) < (k : Int) := by omega
    obtain ⟨cj, hcj⟩ : ∃ cj, A.cs j = cj := ⟨_, rfl⟩
    obtain ⟨rj, hrj⟩ : ∃ rj, A.rs j = rj := ⟨_, rfl⟩
    obtain ⟨x, hx⟩ : ∃ x, gM M j c = x := ⟨_, rfl⟩
    rw [hcj, hrj] at r1
    rw [hrj, hx] at r3
    rw [hx] at r4
    have HX := Lib.hid hx
    clear hE hx hrj hcj
    cases hp : P j with
    | true =>
      rw [hp] at r2
      have HN : Hid (leastN M P c j = leastN M P c (j + 1)) := (leastN_shut (by unfold isOpen; rw [hp]; rfl)).symm
      clear hp hcs
      generalize leastN M P c j = L at HN ⊢
      go_wp2_with fail
      go_roundw
      case rel => exact ⟨j + 1, by omega, by go_num, by rw [HN.out], HE.out⟩
      case measure => simp [intOf]; omega
    | false =>
      rw [hp] at r2
      by_cases hx0 : x = 0
      · subst hx0
        have HN : Hid (leastN M P c j = leastN M P c (j + 1)) := (leastN_shut (by unfold isOpen; rw [hp, HX.out]; rfl)).symm
        clear hp hcs
        generalize leastN M P c j = L at HN ⊢
        go_wp2_with fail
        go_roundw
        case rel => exact ⟨j + 1, by omega, by go_num, by rw [HN.out], HE.out⟩
        case measure => simp [intOf]; omega
      have q1 : (x == 0) = false := by simp [hx0]
      have HOP : Hid (isOpen M P c j = true) := by show _ = _; unfold isOpen; rw [hp, HX.out, decide_eq_false hx0]; rfl
      clear hp hx0
      have HAX := Lib.hid (fun W => absolute_any x W (by omega) (by omega))
      rcases hcs with ⟨hL, _⟩ | ⟨b, hb, hL, _, _⟩
      · have HN := Lib.hid (leastN_first HOP.out hL)
        rw [hL]
        clear hL
        go_upto_region 6 with fail
        go_quiet (fail)
        go_wp2_with fail
        go_roundw
        case rel => exact ⟨j + 1, by omega, by go_num, by rw [HN.out], HE.out.trans (below_drewN (Below.refl _ _) _)⟩
        case measure => simp [intOf]; omega
      · obtain ⟨s1, s2, s3, s4⟩ := HR.out wr HE.out b (by omega)
        obtain ⟨cb, hcb⟩ : ∃ cb, A.cs b = cb := ⟨_, rfl⟩
        obtain ⟨rb2, hrb2⟩ : ∃ rb2, A.rs b = rb2 := ⟨_, rfl⟩
        obtain ⟨y, hy⟩ : ∃ y, gM M b c = y := ⟨_, rfl⟩
        rw [hcb, hrb2] at s1
        rw [hrb2, hy] at s3
        rw [hy] at s4
        have HAY := Lib.hid (fun W => absolute_any y W (by omega) (by omega))
        have q2 : ((b : Int) == -1) = false := by simp
        have i3 : (0 : Int) ≤ (b : Int) := by omega
        have i4 : (b : Int) < (k : Int) := by omega
        by_cases hlt2 : x.natAbs < y.natAbs
        · have HN := Lib.hid (leastN_less HOP.out hL (by rw [HX.out, hy]; exact hlt2))
          have q3 : decide ((x.natAbs : Int) < (y.natAbs : Int)) = true := decide_eq_true (by omega)
          rw [hL]
          generalize (x.natAbs : Int) = ax at HAX q3
          generalize (y.natAbs : Int) = ay at HAY q3
          clear hL hy hcb hrb2 s2 hlt2
          go_upto_region 6 with fail
          go_quiet ((first
            | (go_at_call 50; exact Calls.quiet_of_same (HAX.out _))
            | (go_at_call 50; exact Calls.quiet_of_same (HAY.out _))))
          go_wp2_with fail
          go_roundw
          case rel => exact ⟨j + 1, by omega, by go_num, by rw [HN.out], HE.out.trans (below_drewN (Below.refl _ _) _)⟩
          case measure => simp [intOf]; omega
        · have HN := Lib.hid (leastN_kept HOP.out hL (by rw [HX.out, hy]; exact hlt2))
          have q3 : decide ((x.natAbs : Int) < (y.natAbs : Int)) = false := decide_eq_false (by omega)
          rw [hL]
          generalize (x.natAbs : Int) = ax at HAX q3
          generalize (y.natAbs : Int) = ay at HAY q3
          clear hL hy hcb hrb2 s2 hlt2
          go_upto_region 6 with fail
          go_quiet ((first
            | (go_at_call 50; exact Calls.quiet_of_same (HAX.out _))
            | (go_at_call 50; exact Calls.quiet_of_same (HAY.out _))))
          go_wp2_with fail
          go_roundw
          case rel => exact ⟨j + 1, by omega, by go_num, by rw [HN.out], HE.out.trans (below_drewN (Below.refl _ _) _)⟩
          case measure => simp [intOf]; omega
end Go.Proofs.YtcieadjjcpmieaaGreat

/-
  A ROUND OF AN ELIMINATION on plain data: what is taken from the open rows, whether the least one stands alone, and why the rounds end.
-/
namespace Go.Proofs.YtcieadjjcpmieaaGreat
open Go.RowKit

/-- A row that a round changes. -/
def opn (M : Nat → List Int) (P : Nat → Bool) (c b i : Nat) : Bool := !(decide (i = b)) && isOpen M P c i
def quoM (M : Nat → List Int) (c b i : Nat) : Int := (gM M i c).tdiv (gM M b c)
/-- The rows when j of them have been gone through. -/
def rndM (M : Nat → List Int) (P : Nat → Bool) (c b j : Nat) : Nat → List Int := fun i => if (decide (i < j) && opn M P c b i) = true then minR (quoM M c b i) (M i) (M b) else M i
def rndOk (M : Nat → List Int) (P : Nat → Bool) (c b : Nat) : Nat → Bool
  | 0 => true
  | j + 1 => rndOk M P c b j && (!(opn M P c b j) || subOk (quoM M c b j) (M j) (M b))
def alN (M : Nat → List Int) (P : Nat → Bool) (c b : Nat) : Nat → Bool
  | 0 => true
  | j + 1 => alN M P c b j && !(opn M P c b j)
/-- The rounds from M: the rows and the pivot's row or -1; nothing where a number becomes too large. -/
inductive PivR (P : Nat → Bool) (c k : Nat) : (Nat → List Int) → Option ((Nat → List Int) × Int) → Prop
  | none_ {M} : leastN M P c k = -1 → PivR P c k M (some (M, -1))
  | alone {M} {b : Nat} : leastN M P c k = (b : Int) → alN M P c b k = true → PivR P c k M (some (M, (b : Int)))
  | bad {M} {b : Nat} : leastN M P c k = (b : Int) → alN M P c b k = false → rndOk M P c b k = false → PivR P c k M none
  | step {M r} {b : Nat} : leastN M P c k = (b : Int) → alN M P c b k = false → rndOk M P c b k = true → PivR P c k (rndM M P c b k) r → PivR P c k M r

theorem alN_iff (M : Nat → List Int) (P : Nat → Bool) (c b : Nat) : ∀ k, alN M P c b k = true ↔ ∀ i, i < k → opn M P c b i = false
  | 0 => ⟨fun _ i hi => absurd hi (Nat.not_lt_zero _), fun _ => rfl⟩
  | k + 1 => by
    have ih := alN_iff M P c b k
    simp only [alN, Bool.and_eq_true, Bool.not_eq_true', ih]
    constructor
    · rintro ⟨h1, h2⟩ i hi
      by_cases e : i = k
      · rw [e]; exact h2
      · exact h1 i (by omega)
    · exact fun h => ⟨fun i hi => h i (by omega), h k (by omega)⟩
theorem alN_false {M : Nat → List Int} {P : Nat → Bool} {c b k : Nat} (h : alN M P c b k = false) : ∃ i, i < k ∧ opn M P c b i = true := by
  refine Classical.byContradiction fun hn => ?_
  have : alN M P c b k = true := (alN_iff M P c b k).2 fun i hi => by
    cases e : opn M P c b i with
    | false => rfl
    | true => exact absurd ⟨i, hi, e⟩ hn
  rw [h] at this
  exact absurd this (by simp)
theorem rndOk_bad {M : Nat → List Int} {P : Nat → Bool} {c b j : Nat} (h : rndOk M P c b (j + 1) = false) : ∀ k, j < k → rndOk M P c b k = false
  | 0, hk => absurd hk (Nat.not_lt_zero _)
  | k + 1, hk => by
    by_cases e : k = j
    · rw [e]; exact h
    · simp only [rndOk, rndOk_bad h k (by omega), Bool.false_and]
theorem minR_getD (n : Int) : ∀ (fs rs : List Int) (c : Nat), c < fs.length → c < rs.length → (minR n fs rs).getD c 0 = fs.getD c 0 - n * rs.getD c 0
  | f :: fs, r :: rs, 0, _, _ => by simp [minR]
  | f :: fs, r :: rs, c + 1, h, h' => by
    have ih := minR_getD n fs rs c (by simpa using h) (by simpa using h')
    simpa [minR] using ih
theorem gM_rnd {M : Nat → List Int} {P : Nat → Bool} {c b j i l : Nat} (hi : (M i).length = l) (hb : (M b).length = l) (hc : c < l) (ho : opn M P c b i = true) (hj : i < j) : gM (rndM M P c b j) i c = (gM M i c).tmod (gM M b c) := by
  have e : rndM M P c b j i = minR (quoM M c b i) (M i) (M b) := by unfold rndM; rw [ho, decide_eq_true hj]; rfl
  unfold gM at *
  rw [e, minR_getD _ _ _ _ (by omega) (by omega), Int.tmod_def]
  unfold quoM gM
  rw [Int.mul_comm]
theorem rndM_other {M : Nat → List Int} {P : Nat → Bool} {c b j i : Nat} (ho : opn M P c b i = false) : rndM M P c b j i = M i := by unfold rndM; rw [ho, Bool.and_false]; rfl
theorem rndM_zero (M : Nat → List Int) (P : Nat → Bool) (c b : Nat) : rndM M P c b 0 = M := by
  funext i; unfold rndM; rw [decide_eq_false (Nat.not_lt_zero i)]; rfl
theorem opn_self (M : Nat → List Int) (P : Nat → Bool) (c b : Nat) : opn M P c b b = false := by unfold opn; rw [decide_eq_true rfl]; rfl
theorem rndM_self (M : Nat → List Int) (P : Nat → Bool) (c b j : Nat) : rndM M P c b j b = M b := rndM_other (opn_self M P c b)
theorem isOpen_iff (M : Nat → List Int) (P : Nat → Bool) (c i : Nat) : isOpen M P c i = true ↔ P i = false ∧ gM M i c ≠ 0 := by
  unfold isOpen; simp
theorem opn_iff (M : Nat → List Int) (P : Nat → Bool) (c b i : Nat) : opn M P c b i = true ↔ i ≠ b ∧ P i = false ∧ gM M i c ≠ 0 := by
  unfold opn; rw [Bool.and_eq_true, isOpen_iff]; simp
/-- What a round makes smaller. -/
def measM (M : Nat → List Int) (P : Nat → Bool) (c k : Nat) : Nat :=
  if leastN M P c k = -1 then 0 else 2 * (gM M (leastN M P c k).toNat c).natAbs + (if alN M P c (leastN M P c k).toNat k = true then 0 else 1)
theorem measM_of {M : Nat → List Int} {P : Nat → Bool} {c k b : Nat} (h : leastN M P c k = (b : Int)) : measM M P c k = 2 * (gM M b c).natAbs + (if alN M P c b k = true then 0 else 1) := by
  have e : (leastN M P c k).toNat = b := by omega
  unfold measM
  rw [if_neg (by omega), e]
theorem meas_less {M : Nat → List Int} {P : Nat → Bool} {c k b l : Nat} (hw : ∀ i, i < k → (M i).length = l) (hc : c < l) (hL : leastN M P c k = (b : Int)) (ha : alN M P c b k = false) : measM (rndM M P c b k) P c k < measM M P c k := by
  have hcs := leastN_cases M P c k
  rcases hcs with ⟨h1, _⟩ | ⟨b', hb, h1, hob, _⟩
  · omega
  obtain rfl : b' = b := by omega
  have hob' := (isOpen_iff _ _ _ _).1 hob
  have hv : gM (rndM M P c b' k) b' c = gM M b' c := by unfold gM; rw [rndM_self]
  have hsm : ∀ i, i < k → i ≠ b' → P i = false → gM (rndM M P c b' k) i c ≠ 0 → (gM (rndM M P c b' k) i c).natAbs < (gM M b' c).natAbs := fun i hi hne hp hz => by
    cases ho : opn M P c b' i with
    | false =>
      exfalso
      have e : gM (rndM M P c b' k) i c = gM M i c := by unfold gM; rw [rndM_other ho]
      rw [e] at hz
      have := (opn_iff M P c b' i).2 ⟨hne, hp, hz⟩
      rw [ho] at this
      exact absurd this (by simp)
    | true =>
      rw [gM_rnd (hw i hi) (hw b' hb) hc ho hi, Int.natAbs_tmod]
      exact Nat.mod_lt _ (by have := hob'.2; omega)
  have hopen : isOpen (rndM M P c b' k) P c b' = true := (isOpen_iff _ _ _ _).2 ⟨hob'.1, by rw [hv]; exact hob'.2⟩
  rw [measM_of hL, ha]
  rcases leastN_cases (rndM M P c b' k) P c k with ⟨_, h2⟩ | ⟨d, hd, h2, hod, hmin⟩
  · have := h2 b' hb; rw [hopen] at this; exact absurd this (by simp)
  rw [measM_of h2]
  have hod' := (isOpen_iff _ _ _ _).1 hod
  by_cases hdb : d = b'
  · subst hdb
    have hal : alN (rndM M P c d k) P c d k = true := (alN_iff _ _ _ _ _).2 fun i hi => by
      cases ho : opn (rndM M P c d k) P c d i with
      | false => rfl
      | true =>
        have ho' := (opn_iff _ _ _ _ _).1 ho
        have h3 := hsm i hi ho'.1 ho'.2.1 ho'.2.2
        have h4 := hmin i hi ((isOpen_iff _ _ _ _).2 ho'.2)
        rw [hv] at h4
        omega
    rw [hal, hv]
    simp
  · have h3 := hsm d hd hdb hod'.1 hod'.2
    have h4 : (if alN (rndM M P c b' k) P c d k = true then 0 else 1) ≤ 1 := by split <;> omega
    simp only [Bool.false_eq_true, if_false]
    omega
end Go.Proofs.YtcieadjjcpmieaaGreat
