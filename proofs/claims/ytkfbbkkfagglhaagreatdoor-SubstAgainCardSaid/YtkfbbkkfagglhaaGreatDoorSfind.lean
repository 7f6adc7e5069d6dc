/-
  THE WALKS OF subst.find, its closure, and slices.BinarySearchFunc at bindings.
-/
import Derived.Test.YtkfbbkkfagglhaaGreatDoorBval
import Derived.Deep.LoopGhost
import Derived.Laws.Shifts
namespace Go.Proofs.YtkfbbkkfagglhaaGreatDoor
open Go.RowKit

/-- The variables of bindings are in order. -/
def SortedB (bs : List Bd) : Prop := ∀ i j (hi : i < bs.length) (hj : j < bs.length), i < j → cmpT bs[i].1 bs[j].1 < 0

theorem vloop_sorted : ∀ (bs : List Bd) (p : Option Tm), vloop p bs = 0 → (∀ b ∈ bs, bindE b.1 b.2 = 0) ∧ SortedB bs ∧ ∀ q, p = some q → ∀ b ∈ bs, cmpT q b.1 < 0
  | [], p, _ => ⟨fun b hb => by simp at hb, fun i j hi => by simp at hi, fun q _ b hb => by simp at hb⟩
  | b :: bs, p, h => by
    rw [vloop_cons] at h
    by_cases he : bindE b.1 b.2 = 0
    rotate_left
    · rw [if_neg he] at h; exact absurd h he
    rw [if_pos he] at h
    have key : vloop (some b.1) bs = 0 ∧ ∀ q, p = some q → cmpT q b.1 < 0 := by
      cases p with
      | none => exact ⟨h, fun q hq => by simp at hq⟩
      | some q =>
        simp only at h
        by_cases hc : 0 ≤ cmpT q b.1
        · rw [if_pos hc] at h; omega
        · rw [if_neg hc] at h
          exact ⟨h, fun q' hq => by simp only [Option.some.injEq] at hq; subst hq; omega⟩
    obtain ⟨h1, h2, h3⟩ := vloop_sorted bs (some b.1) key.1
    have h4 := h3 b.1 rfl
    refine ⟨fun x hx => ?_, fun i j hi hj hij => ?_, fun q hq x hx => ?_⟩
    · rcases List.mem_cons.1 hx with rfl | hx
      · exact he
      · exact h1 x hx
    · cases i with
      | zero =>
        cases j with
        | zero => omega
        | succ j => exact h4 _ (List.getElem_mem (by simpa using hj))
      | succ i =>
        cases j with
        | zero => omega
        | succ j => exact h2 i j (by simpa using hi) (by simpa using hj) (by omega)
    · have h5 := key.2 q hq
      rcases List.mem_cons.1 hx with rfl | hx
      · exact h5
      · exact cmpT_trans h5 (h4 x hx)
theorem validB_ok {bs : List Bd} (h : validB bs = 0) : bs.length ≤ 200 ∧ (∀ b ∈ bs, bindE b.1 b.2 = 0) ∧ SortedB bs := by
  unfold validB at h
  by_cases hl : 200 < bs.length
  · rw [if_pos hl] at h; omega
  · rw [if_neg hl] at h
    have := vloop_sorted bs none h
    exact ⟨by omega, this.1, this.2.1⟩

set_option maxHeartbeats 1600000 in
set_option maxRecDepth 100000 in
theorem findcl_any (v x : Tm) (c0 c1 c2 c3 d0 d1 d2 d3 x0 x1 x2 x3 : Value) (t : Tm) (w : World) (hv : size v ≤ 1073741824) (hx : size x ≤ 1073741824) (hI : Is w v c0 c1 c2 c3) (hT : Is w t d0 d1 d2 d3) (hX : Is w x x0 x1 x2 x3) :
    Calls Tryz.prog 136 #[.agg #[c0, c1, c2, c3, d0, d1, d2, d3], .agg #[x0, x1, x2, x3]] w fun e w' => e = .returned (.int .i64 (cmpT v x)) ∧ Below w.heap.size w w' := by
  obtain ⟨k, n, s, xa, l, cap, rfl, rfl, rfl, rfl⟩ := Is_form hI
  obtain ⟨k2, n2, s2, xa2, l2, cap2, rfl, rfl, rfl, rfl⟩ := Is_form hT
  obtain ⟨k3, n3, s3, xa3, l3, cap3, rfl, rfl, rfl, rfl⟩ := Is_form hX
  have HC := Lib.hid (fun W (h : Ext w W) => Compare_any v x _ _ _ _ _ _ _ _ W (by omega) (by omega) (Is_below (w' := W) hI h) (Is_below (w' := W) hX h))
  have hE : Ext w ((w.alloc (.cells #[.int .i64 k, .string n, .int .i64 s, .slice xa l cap, .int .i64 k2, .string n2, .int .i64 s2, .slice xa2 l2 cap2] 53)).alloc (.cells #[.int .i64 k3, .string n3, .int .i64 s3, .slice xa3 l3 cap3] 36)) := ((Below.refl w.heap.size w).alloc (Nat.le_refl _) _).alloc (by simp) _
  have HE := Lib.hid hE
  generalize cmpT v x = c at HC ⊢
  clear hE hI hT hX hv hx
  go_enter Tryz.func136, Tryz.ntmps136
  go_wp2_with (go_at_call 83; refine (HC.out _ HE.out).mono ?_; rintro e w3 ⟨he, hB⟩; subst he; have HB : Hid (Ext w w3) := Lib.hid (Ext.trans HE.out hB); clear hB)
  go_ret
  exact ⟨rfl, HB.out⟩

def FindB (bs : List Bd) (x : Tm) (e : Ending) : Prop :=
  ∃ (i : Nat) (f : Bool), e = .returned (.tuple #[.int .i64 i, .bool f]) ∧ ((f = true ∧ ∃ h : i < bs.length, cmpT bs[i].1 x = 0) ∨ (f = false ∧ ∀ b ∈ bs, ¬ cmpT b.1 x = 0))

/-- The search's bounds. -/
def SrB (bs : List Bd) (x : Tm) (lo hi : Nat) : Prop := lo ≤ hi ∧ hi ≤ bs.length ∧ (∀ t (h : t < bs.length), t < lo → cmpT bs[t].1 x < 0) ∧ (∀ t (h : t < bs.length), hi ≤ t → 0 ≤ cmpT bs[t].1 x)
theorem SrB_up {bs : List Bd} {x : Tm} {lo hi m : Nat} (hs : SortedB bs) (h : SrB bs x lo hi) (hm : m < hi) (hc : cmpT (bs[m]'(by have := h.2.1; omega)).1 x < 0) : SrB bs x (m + 1) hi := by
  refine ⟨by omega, h.2.1, fun t ht htm => ?_, h.2.2.2⟩
  by_cases e : t = m
  · subst e; exact hc
  · exact cmpT_trans (hs t m ht (by have := h.2.1; omega) (by omega)) hc
theorem SrB_down {bs : List Bd} {x : Tm} {lo hi m : Nat} (hs : SortedB bs) (h : SrB bs x lo hi) (hl : lo ≤ m) (hm : m < hi) (hc : ¬ cmpT (bs[m]'(by have := h.2.1; omega)).1 x < 0) : SrB bs x lo m := by
  refine ⟨hl, by have := h.2.1; omega, h.2.2.1, fun t ht htm => ?_⟩
  by_cases e : t = m
  · subst e; omega
  · have h1 := hs m t (by have := h.2.1; omega) ht (by omega)
    have h2 : ¬ cmpT bs[t].1 (bs[m]'(by have := h.2.1; omega)).1 < 0 := by rw [cmpT_anti (bs[m]'(by have := h.2.1; omega)).1]; omega
    have := cmpT_ntrans h2 hc
    omega
theorem SrB_end {bs : List Bd} {x : Tm} {lo : Nat} (hs : SortedB bs) (h : SrB bs x lo lo) : (∀ hl : lo < bs.length, ¬ cmpT bs[lo].1 x = 0 → ∀ b ∈ bs, ¬ cmpT b.1 x = 0) ∧ (bs.length ≤ lo → ∀ b ∈ bs, ¬ cmpT b.1 x = 0) := by
  refine ⟨fun hl hne b hb => ?_, fun hl b hb => ?_⟩
  · obtain ⟨t, ht, rfl⟩ := List.getElem_of_mem hb
    by_cases h1 : t < lo
    · have := h.2.2.1 t ht h1; omega
    · by_cases e : t = lo
      · subst e; exact hne
      · intro h0
        have h2 := hs lo t hl ht (by omega)
        have e1 := cmpT_zero _ _ h0
        rw [e1] at h2
        have := h.2.2.2 lo hl (Nat.le_refl _)
        omega
  · obtain ⟨t, ht, rfl⟩ := List.getElem_of_mem hb
    have := h.2.2.1 t ht (by omega)
    omega
set_option maxHeartbeats 6400000 in
set_option maxRecDepth 100000 in
theorem bsearch_any (bs : List Bd) (x : Tm) (x0 x1 x2 x3 : Value) (xa : Option Addr) (cap : Nat) (w : World) (hcap : bs.length ≤ cap) (hlen : bs.length ≤ 1073741824) (hsz : SzB 1073741824 bs) (hsx : size x ≤ 1073741824) (hs : SortedB bs) (hR : Row w (flatB bs) xa) (hX : Is w x x0 x1 x2 x3) :
    Calls Tryz.prog 131 #[.slice xa bs.length cap, .agg #[x0, x1, x2, x3], .func (.func 136) #[] #[]] w fun e w' => FindB bs x e ∧ Below w.heap.size w w' := by
  obtain ⟨xk, xn, xs, xa2, xl, xc, rfl, rfl, rfl, rfl⟩ := Is_form hX
  have HR := Lib.hid hR
  have HIX := Lib.hid hX
  have HSZ := Lib.hid hsz
  have HSX := Lib.hid hsx
  have HS := Lib.hid hs
  have hbx := heap_alloc_new w (.cells #[.int .i64 xk, .string xn, .int .i64 xs, .slice xa2 xl xc] 36)
  have HBX : Hid (∀ W, Ext (w.alloc (.cells #[.int .i64 xk, .string xn, .int .i64 xs, .slice xa2 xl xc] 36)) W → W.heap[w.heap.size]? = some (.cells #[.int .i64 xk, .string xn, .int .i64 xs, .slice xa2 xl xc] 36 (0, 0))) := fun W h => (h.block _ (by simp)).trans hbx
  have HE0 : Hid (Ext w (w.alloc (.cells #[.int .i64 xk, .string xn, .int .i64 xs, .slice xa2 xl xc] 36))) := (Ext.refl w).alloc _
  have HCAP := Lib.hid hcap
  clear hR hX hsz hsx hs hbx hcap
  go_enter Tryz.func131, Tryz.ntmps131
  go_wp2_with fail
  have hEr := Ext.refl (w.alloc (.cells #[.int .i64 xk, .string xn, .int .i64 xs, .slice xa2 xl xc] 36))
  generalize (w.alloc (.cells #[.int .i64 xk, .string xn, .int .i64 xs, .slice xa2 xl xc] 36)) = w0 at HBX HE0 hEr ⊢
  go_loopg [9, 10] bs.length (fun g s9 s10 wr => ∃ lo hi : Nat, s9 = .int .i64 lo ∧ s10 = .int .i64 hi ∧ hi - lo ≤ g ∧ SrB bs x lo hi ∧ Ext w0 wr)
  case atStart => exact ⟨0, bs.length, rfl, rfl, by omega, ⟨Nat.zero_le _, Nat.le_refl _, fun t _ h => absurd h (Nat.not_lt_zero _), fun t h1 h2 => by omega⟩, hEr⟩
  case round =>
    obtain ⟨lo, hi, rfl, rfl, hg, hsr, hE⟩ := hrel
    have hlh := hsr.1
    have hin := hsr.2.1
    have HSR := Lib.hid hsr
    clear hsr
    by_cases hlt : lo < hi
    · obtain ⟨m, hm⟩ : ∃ m, m = (lo + hi) / 2 := ⟨_, rfl⟩
      have hm1 : lo ≤ m := by omega
      have hm2 : m < hi := by omega
      have HE1 : Hid (((lo : Int) + (hi : Int)) / 2 = (m : Int)) := by show _ = _; omega
      clear hm
      have i1 : (0 : Int) ≤ (m : Int) := by omega
      have i2 : (m : Int) < (bs.length : Int) := by omega
      have hmb : m < bs.length := by omega
      obtain ⟨b, o, rfl⟩ := Row_at HR.out (by rw [flatB_length]; omega)
      obtain ⟨⟨v0, v1, v2, v3, g0, g1, g2, g3, hIv⟩, t0, t1, t2, t3, g4, g5, g6, g7, hIt⟩ := bds_get (Row_below HR.out (Ext.trans HE0.out hE)) m hmb
      obtain ⟨k, n, s, ya, yl, yc, rfl, rfl, rfl, rfl⟩ := Is_form hIv
      obtain ⟨k2, n2, s2, ya2, yl2, yc2, rfl, rfl, rfl, rfl⟩ := Is_form hIt
      simp only [Nat.add_assoc, Nat.reduceAdd] at g1 g2 g3 g4 g5 g6 g7
      simp only [← Nat.add_assoc] at g1 g2 g3 g4 g5 g6 g7
      have hszm := HSZ.out bs[m] (List.getElem_mem hmb)
      have HCM := Lib.hid (fun W (h : Ext wr W) => findcl_any bs[m].1 x _ _ _ _ _ _ _ _ _ _ _ _ bs[m].2 W hszm.1 HSX.out (Is_below (w' := W) hIv h) (Is_below (w' := W) hIt h) (Is_below (w' := W) HIX.out (Ext.trans (Ext.trans HE0.out hE) h)))
      obtain ⟨c, hc⟩ : ∃ c, cmpT bs[m].1 x = c := ⟨_, rfl⟩
      rw [hc] at HCM
      have HCE := Lib.hid hc
      obtain ⟨⟨y0, y1, y2, y3⟩, _⟩ := box_facts (HBX.out _ hE)
      have HCr : Hid (∀ W, Ext wr W → (W.cell? ⟨b, o + m * 8, none⟩ = some (.int .i64 k) ∧ W.cell? ⟨b, o + m * 8 + 1, none⟩ = some (.string n) ∧ W.cell? ⟨b, o + m * 8 + 2, none⟩ = some (.int .i64 s) ∧ W.cell? ⟨b, o + m * 8 + 3, none⟩ = some (.slice ya yl yc) ∧ W.cell? ⟨b, o + m * 8 + 4, none⟩ = some (.int .i64 k2) ∧ W.cell? ⟨b, o + m * 8 + 5, none⟩ = some (.string n2) ∧ W.cell? ⟨b, o + m * 8 + 6, none⟩ = some (.int .i64 s2) ∧ W.cell? ⟨b, o + m * 8 + 7, none⟩ = some (.slice ya2 yl2 yc2)) ∧ W.cell? ⟨w.heap.size, 0, none⟩ = some (.int .i64 xk) ∧ W.cell? ⟨w.heap.size, 1, none⟩ = some (.string xn) ∧ W.cell? ⟨w.heap.size, 2, none⟩ = some (.int .i64 xs) ∧ W.cell? ⟨w.heap.size, 3, none⟩ = some (.slice xa2 xl xc)) := fun W h => ⟨⟨keep_below h _ _ g0, keep_below h _ _ g1, keep_below h _ _ g2, keep_below h _ _ g3, keep_below h _ _ g4, keep_below h _ _ g5, keep_below h _ _ g6, keep_below h _ _ g7⟩, keep_below h _ _ y0, keep_below h _ _ y1, keep_below h _ _ y2, keep_below h _ _ y3⟩
      have hF0 : Ext wr wr.drew := (Ext.refl wr).drew
      have HE := Lib.hid hE
      clear hIv hIt hszm hc hE
      by_cases hneg : c < 0
      · have q4 : decide (c < 0) = true := decide_eq_true hneg
        have HUP := Lib.hid (SrB_up HS.out HSR.out hm2 (by rw [HCE.out]; exact hneg))
        clear hneg
        go_wp2_with fail
        rw [HE1.out]
        go_region_held3 (fun W => (W.cell? ⟨b, o + m * 8, none⟩ = some (.int .i64 k) ∧ W.cell? ⟨b, o + m * 8 + 1, none⟩ = some (.string n) ∧ W.cell? ⟨b, o + m * 8 + 2, none⟩ = some (.int .i64 s) ∧ W.cell? ⟨b, o + m * 8 + 3, none⟩ = some (.slice ya yl yc) ∧ W.cell? ⟨b, o + m * 8 + 4, none⟩ = some (.int .i64 k2) ∧ W.cell? ⟨b, o + m * 8 + 5, none⟩ = some (.string n2) ∧ W.cell? ⟨b, o + m * 8 + 6, none⟩ = some (.int .i64 s2) ∧ W.cell? ⟨b, o + m * 8 + 7, none⟩ = some (.slice ya2 yl2 yc2)) ∧ W.cell? ⟨w.heap.size, 0, none⟩ = some (.int .i64 xk) ∧ W.cell? ⟨w.heap.size, 1, none⟩ = some (.string xn) ∧ W.cell? ⟨w.heap.size, 2, none⟩ = some (.int .i64 xs) ∧ W.cell? ⟨w.heap.size, 3, none⟩ = some (.slice xa2 xl xc))
          (first | exact HCr.out _ (by assumption) | go_keep)
          (first | (go_at_call 136; refine (HCM.out _ hF0).mono ?_; rintro e w4 ⟨he, hB⟩; subst he; have hF1 : Ext wr w4 := hF0.trans hB; clear hB))
        go_wp2_with fail
        go_roundg (hi - (m + 1))
        case measure => omega
        case rel => exact ⟨m + 1, hi, by go_num, rfl, Nat.le_refl _, HUP.out, Ext.trans HE.out hF1⟩
      · have q4 : decide (c < 0) = false := decide_eq_false hneg
        have HDN := Lib.hid (SrB_down HS.out HSR.out hm1 hm2 (by rw [HCE.out]; exact hneg))
        clear hneg
        go_wp2_with fail
        rw [HE1.out]
        go_region_held3 (fun W => (W.cell? ⟨b, o + m * 8, none⟩ = some (.int .i64 k) ∧ W.cell? ⟨b, o + m * 8 + 1, none⟩ = some (.string n) ∧ W.cell? ⟨b, o + m * 8 + 2, none⟩ = some (.int .i64 s) ∧ W.cell? ⟨b, o + m * 8 + 3, none⟩ = some (.slice ya yl yc) ∧ W.cell? ⟨b, o + m * 8 + 4, none⟩ = some (.int .i64 k2) ∧ W.cell? ⟨b, o + m * 8 + 5, none⟩ = some (.string n2) ∧ W.cell? ⟨b, o + m * 8 + 6, none⟩ = some (.int .i64 s2) ∧ W.cell? ⟨b, o + m * 8 + 7, none⟩ = some (.slice ya2 yl2 yc2)) ∧ W.cell? ⟨w.heap.size, 0, none⟩ = some (.int .i64 xk) ∧ W.cell? ⟨w.heap.size, 1, none⟩ = some (.string xn) ∧ W.cell? ⟨w.heap.size, 2, none⟩ = some (.int .i64 xs) ∧ W.cell? ⟨w.heap.size, 3, none⟩ = some (.slice xa2 xl xc))
          (first | exact HCr.out _ (by assumption) | go_keep)
          (first | (go_at_call 136; refine (HCM.out _ hF0).mono ?_; rintro e w4 ⟨he, hB⟩; subst he; have hF1 : Ext wr w4 := hF0.trans hB; clear hB))
        go_wp2_with fail
        go_roundg (m - lo)
        case measure => omega
        case rel => exact ⟨lo, m, rfl, rfl, Nat.le_refl _, HDN.out, Ext.trans HE.out hF1⟩
    · obtain rfl : hi = lo := by omega
      have HEND := Lib.hid (SrB_end HS.out HSR.out)
      by_cases hmb0 : hi < bs.length
      rotate_left
      · have q3 : decide ((hi : Int) < (bs.length : Int)) = false := decide_eq_false (by omega)
        have HF : Hid (FindB bs x (.returned (.tuple #[.int .i64 (hi : Int), .bool false]))) := ⟨hi, false, rfl, Or.inr ⟨rfl, HEND.out.2 (by omega)⟩⟩
        have HE := Lib.hid hE
        clear hE
        go_wp2_with fail
        go_quiet (fail)
        go_wp2_with fail
        go_ret2
        exact ⟨HF.out, Ext.trans (Ext.trans HE0.out HE.out) (below_drewN (Below.refl _ _) _)⟩
      have q3 : decide ((hi : Int) < (bs.length : Int)) = true := decide_eq_true (by omega)
      have i1 : (0 : Int) ≤ (hi : Int) := by omega
      have i2 : (hi : Int) < (bs.length : Int) := by omega
      have hmb : hi < bs.length := by omega
      obtain ⟨b, o, rfl⟩ := Row_at HR.out (by rw [flatB_length]; omega)
      obtain ⟨⟨v0, v1, v2, v3, g0, g1, g2, g3, hIv⟩, t0, t1, t2, t3, g4, g5, g6, g7, hIt⟩ := bds_get (Row_below HR.out (Ext.trans HE0.out hE)) hi hmb
      obtain ⟨k, n, s, ya, yl, yc, rfl, rfl, rfl, rfl⟩ := Is_form hIv
      obtain ⟨k2, n2, s2, ya2, yl2, yc2, rfl, rfl, rfl, rfl⟩ := Is_form hIt
      simp only [Nat.add_assoc, Nat.reduceAdd] at g1 g2 g3 g4 g5 g6 g7
      simp only [← Nat.add_assoc] at g1 g2 g3 g4 g5 g6 g7
      have hszm := HSZ.out bs[hi] (List.getElem_mem hmb)
      have HCM := Lib.hid (fun W (h : Ext wr W) => findcl_any bs[hi].1 x _ _ _ _ _ _ _ _ _ _ _ _ bs[hi].2 W hszm.1 HSX.out (Is_below (w' := W) hIv h) (Is_below (w' := W) hIt h) (Is_below (w' := W) HIX.out (Ext.trans (Ext.trans HE0.out hE) h)))
      obtain ⟨c, hc⟩ : ∃ c, cmpT bs[hi].1 x = c := ⟨_, rfl⟩
      rw [hc] at HCM
      have HCE := Lib.hid hc
      obtain ⟨⟨y0, y1, y2, y3⟩, _⟩ := box_facts (HBX.out _ hE)
      have HCr : Hid (∀ W, Ext wr W → (W.cell? ⟨b, o + hi * 8, none⟩ = some (.int .i64 k) ∧ W.cell? ⟨b, o + hi * 8 + 1, none⟩ = some (.string n) ∧ W.cell? ⟨b, o + hi * 8 + 2, none⟩ = some (.int .i64 s) ∧ W.cell? ⟨b, o + hi * 8 + 3, none⟩ = some (.slice ya yl yc) ∧ W.cell? ⟨b, o + hi * 8 + 4, none⟩ = some (.int .i64 k2) ∧ W.cell? ⟨b, o + hi * 8 + 5, none⟩ = some (.string n2) ∧ W.cell? ⟨b, o + hi * 8 + 6, none⟩ = some (.int .i64 s2) ∧ W.cell? ⟨b, o + hi * 8 + 7, none⟩ = some (.slice ya2 yl2 yc2)) ∧ W.cell? ⟨w.heap.size, 0, none⟩ = some (.int .i64 xk) ∧ W.cell? ⟨w.heap.size, 1, none⟩ = some (.string xn) ∧ W.cell? ⟨w.heap.size, 2, none⟩ = some (.int .i64 xs) ∧ W.cell? ⟨w.heap.size, 3, none⟩ = some (.slice xa2 xl xc)) := fun W h => ⟨⟨keep_below h _ _ g0, keep_below h _ _ g1, keep_below h _ _ g2, keep_below h _ _ g3, keep_below h _ _ g4, keep_below h _ _ g5, keep_below h _ _ g6, keep_below h _ _ g7⟩, keep_below h _ _ y0, keep_below h _ _ y1, keep_below h _ _ y2, keep_below h _ _ y3⟩
      have hF0 : Ext wr wr.drew := (Ext.refl wr).drew
      have HE := Lib.hid hE
      clear hIv hIt hszm hc hE
      by_cases hz : c = 0
      · have q4 : decide (c = 0) = true := decide_eq_true hz
        have q5 : (c == 0) = true := by simp [hz]
        have HF : Hid (FindB bs x (.returned (.tuple #[.int .i64 (hi : Int), .bool true]))) := ⟨hi, true, rfl, Or.inl ⟨rfl, hmb, by rw [HCE.out]; exact hz⟩⟩
        clear hz
        go_wp2_with fail
        go_region_held3 (fun W => (W.cell? ⟨b, o + hi * 8, none⟩ = some (.int .i64 k) ∧ W.cell? ⟨b, o + hi * 8 + 1, none⟩ = some (.string n) ∧ W.cell? ⟨b, o + hi * 8 + 2, none⟩ = some (.int .i64 s) ∧ W.cell? ⟨b, o + hi * 8 + 3, none⟩ = some (.slice ya yl yc) ∧ W.cell? ⟨b, o + hi * 8 + 4, none⟩ = some (.int .i64 k2) ∧ W.cell? ⟨b, o + hi * 8 + 5, none⟩ = some (.string n2) ∧ W.cell? ⟨b, o + hi * 8 + 6, none⟩ = some (.int .i64 s2) ∧ W.cell? ⟨b, o + hi * 8 + 7, none⟩ = some (.slice ya2 yl2 yc2)) ∧ W.cell? ⟨w.heap.size, 0, none⟩ = some (.int .i64 xk) ∧ W.cell? ⟨w.heap.size, 1, none⟩ = some (.string xn) ∧ W.cell? ⟨w.heap.size, 2, none⟩ = some (.int .i64 xs) ∧ W.cell? ⟨w.heap.size, 3, none⟩ = some (.slice xa2 xl xc))
          (first | exact HCr.out _ (by assumption) | go_keep)
          (first | (go_at_call 136; refine (HCM.out _ hF0).mono ?_; rintro e w4 ⟨he, hB⟩; subst he; have hF1 : Ext wr w4 := hF0.trans hB; clear hB))
        all_goals (try go_wp2_with fail)
        all_goals go_ret2
        all_goals exact ⟨HF.out, Ext.trans (Ext.trans HE0.out HE.out) hF1⟩
      · have q4 : decide (c = 0) = false := decide_eq_false hz
        have q5 : (c == 0) = false := by simp [hz]
        have HF : Hid (FindB bs x (.returned (.tuple #[.int .i64 (hi : Int), .bool false]))) := ⟨hi, false, rfl, Or.inr ⟨rfl, HEND.out.1 hmb (by rw [HCE.out]; exact hz)⟩⟩
        clear hz
        go_wp2_with fail
        go_region_held3 (fun W => (W.cell? ⟨b, o + hi * 8, none⟩ = some (.int .i64 k) ∧ W.cell? ⟨b, o + hi * 8 + 1, none⟩ = some (.string n) ∧ W.cell? ⟨b, o + hi * 8 + 2, none⟩ = some (.int .i64 s) ∧ W.cell? ⟨b, o + hi * 8 + 3, none⟩ = some (.slice ya yl yc) ∧ W.cell? ⟨b, o + hi * 8 + 4, none⟩ = some (.int .i64 k2) ∧ W.cell? ⟨b, o + hi * 8 + 5, none⟩ = some (.string n2) ∧ W.cell? ⟨b, o + hi * 8 + 6, none⟩ = some (.int .i64 s2) ∧ W.cell? ⟨b, o + hi * 8 + 7, none⟩ = some (.slice ya2 yl2 yc2)) ∧ W.cell? ⟨w.heap.size, 0, none⟩ = some (.int .i64 xk) ∧ W.cell? ⟨w.heap.size, 1, none⟩ = some (.string xn) ∧ W.cell? ⟨w.heap.size, 2, none⟩ = some (.int .i64 xs) ∧ W.cell? ⟨w.heap.size, 3, none⟩ = some (.slice xa2 xl xc))
          (first | exact HCr.out _ (by assumption) | go_keep)
          (first | (go_at_call 136; refine (HCM.out _ hF0).mono ?_; rintro e w4 ⟨he, hB⟩; subst he; have hF1 : Ext wr w4 := hF0.trans hB; clear hB))
        all_goals (try go_wp2_with fail)
        all_goals go_ret2
        all_goals exact ⟨HF.out, Ext.trans (Ext.trans HE0.out HE.out) hF1⟩

set_option maxHeartbeats 1600000 in
set_option maxRecDepth 100000 in
theorem sfind_any (bs : List Bd) (x : Tm) (x0 x1 x2 x3 : Value) (xa : Option Addr) (cap : Nat) (w : World) (hcap : bs.length ≤ cap) (hlen : bs.length ≤ 1073741824) (hsz : SzB 1073741824 bs) (hsx : size x ≤ 1073741824) (hs : SortedB bs) (hR : Row w (flatB bs) xa) (hX : Is w x x0 x1 x2 x3) :
    Calls Tryz.prog 92 #[.slice xa bs.length cap, .agg #[x0, x1, x2, x3]] w fun e w' => FindB bs x e ∧ Below w.heap.size w w' := by
  obtain ⟨xk, xn, xs, xa2, xl, xc, rfl, rfl, rfl, rfl⟩ := Is_form hX
  have hE : Ext w (w.alloc (.cells #[.int .i64 xk, .string xn, .int .i64 xs, .slice xa2 xl xc] 36)) := (Ext.refl w).alloc _
  have HC := Lib.hid (bsearch_any bs x _ _ _ _ xa cap _ hcap hlen hsz hsx hs (Row_below hR hE) (Is_below hX hE))
  have HE := Lib.hid hE
  clear hE hR hX hs hsx hsz hcap
  go_enter Tryz.func92, Tryz.ntmps92
  go_wp2_with (go_at_call 131; refine (HC.out).mono ?_; rintro e w3 ⟨⟨i, f, he, hf⟩, hB⟩; subst he; have HF := Lib.hid hf; have HB : Hid (Ext w w3) := Lib.hid (Ext.trans HE.out hB); clear hB hf)
  go_ret2
  exact ⟨⟨i, f, rfl, HF.out⟩, HB.out⟩
end Go.Proofs.YtkfbbkkfagglhaaGreatDoor
