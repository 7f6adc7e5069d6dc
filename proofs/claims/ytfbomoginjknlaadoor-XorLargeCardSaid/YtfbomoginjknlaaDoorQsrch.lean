/-
  slices.BinarySearchFunc at a row of terms (made by gen_qsrch.py from XPcopy).
-/
import Derived.Test.YtfbomoginjknlaaDoorQrsum
import Derived.Deep.LoopGhost
namespace Go.Proofs.YtfbomoginjknlaaDoor
open Go.RowKit Go.Lib

def SortedQ (bs : List Tm) : Prop := ∀ i j (hi : i < bs.length) (hj : j < bs.length), i < j → cmpT bs[i] bs[j] < 0
theorem SortedQ_of {ps : List Tm} (h : AscT ps) : SortedQ ps := fun i j hi hj hij => List.pairwise_iff_getElem.1 h i j hi hj hij
def FindQ (bs : List Tm) (x : Tm) (e : Ending) : Prop :=
  ∃ (i : Nat) (f : Bool), e = .returned (.tuple #[.int .i64 i, .bool f]) ∧ ((f = true ∧ ∃ h : i < bs.length, cmpT bs[i] x = 0) ∨ (f = false ∧ ∀ b ∈ bs, ¬ cmpT b x = 0))

/-- The search's bounds. -/
def SrQ (bs : List Tm) (x : Tm) (lo hi : Nat) : Prop := lo ≤ hi ∧ hi ≤ bs.length ∧ (∀ t (h : t < bs.length), t < lo → cmpT bs[t] x < 0) ∧ (∀ t (h : t < bs.length), hi ≤ t → 0 ≤ cmpT bs[t] x)
theorem SrQ_up {bs : List Tm} {x : Tm} {lo hi m : Nat} (hs : SortedQ bs) (h : SrQ bs x lo hi) (hm : m < hi) (hc : cmpT (bs[m]'(by have := h.2.1; omega)) x < 0) : SrQ bs x (m + 1) hi := by
  refine ⟨by omega, h.2.1, fun t ht htm => ?_, h.2.2.2⟩
  by_cases e : t = m
  · subst e; exact hc
  · exact cmpT_trans (hs t m ht (by have := h.2.1; omega) (by omega)) hc
theorem SrQ_down {bs : List Tm} {x : Tm} {lo hi m : Nat} (hs : SortedQ bs) (h : SrQ bs x lo hi) (hl : lo ≤ m) (hm : m < hi) (hc : ¬ cmpT (bs[m]'(by have := h.2.1; omega)) x < 0) : SrQ bs x lo m := by
  refine ⟨hl, by have := h.2.1; omega, h.2.2.1, fun t ht htm => ?_⟩
  by_cases e : t = m
  · subst e; omega
  · have h1 := hs m t (by have := h.2.1; omega) ht (by omega)
    have h2 : ¬ cmpT bs[t] (bs[m]'(by have := h.2.1; omega)) < 0 := by rw [cmpT_anti (bs[m]'(by have := h.2.1; omega))]; omega
    have := cmpT_ntrans h2 hc
    omega
theorem SrQ_end {bs : List Tm} {x : Tm} {lo : Nat} (hs : SortedQ bs) (h : SrQ bs x lo lo) : (∀ hl : lo < bs.length, ¬ cmpT bs[lo] x = 0 → ∀ b ∈ bs, ¬ cmpT b x = 0) ∧ (bs.length ≤ lo → ∀ b ∈ bs, ¬ cmpT b x = 0) := by
  refine ⟨fun hl hne b hb => ?_, fun hl b hb => ?_⟩
  · obtain ⟨t, ht, rfl⟩ := List.getElem_of_mem hb
    by_cases h1 : t < lo
    · have := h.2.2.1 t ht h1; omega
    · by_cases e : t = lo
      · subst e; exact hne
      · intro h0
        have h2 := hs lo t hl ht (by omega)
        have e1 := cmpT_zero _ _ h0
        rw [e1] at h2
        have := h.2.2.2 lo hl (Nat.le_refl _)
        omega
  · obtain ⟨t, ht, rfl⟩ := List.getElem_of_mem hb
    have := h.2.2.1 t ht (by omega)
    omega
set_option maxHeartbeats 6400000 in
set_option maxRecDepth 100000 in
theorem qsearch_any (bs : List Tm) (x : Tm) (x0 x1 x2 x3 : Value) (xa : Option Addr) (cap : Nat) (w : World) (hcap : bs.length ≤ cap) (hlen : bs.length ≤ 1073741824) (hsz : ∀ b ∈ bs, size b ≤ 1073741824) (hsx : size x ≤ 1073741824) (hs : SortedQ bs) (hR : Row w bs xa) (hX : Is w x x0 x1 x2 x3) :
    Calls Tryd.prog 70 #[.slice xa bs.length cap, .agg #[x0, x1, x2, x3], .func (.func 69) #[] #[]] w fun e w' => FindQ bs x e ∧ Below w.heap.size w w' := by
  obtain ⟨xk, xn, xs, xa2, xl, xc, rfl, rfl, rfl, rfl⟩ := Is_form hX
  have HR := Lib.hid hR
  have HIX := Lib.hid hX
  have HSZ := Lib.hid hsz
  have HSX := Lib.hid hsx
  have HS := Lib.hid hs
  have hbx := heap_alloc_new w (.cells #[.int .i64 xk, .string xn, .int .i64 xs, .slice xa2 xl xc] 24)
  have HBX : Hid (∀ W, Ext (w.alloc (.cells #[.int .i64 xk, .string xn, .int .i64 xs, .slice xa2 xl xc] 24)) W → W.heap[w.heap.size]? = some (.cells #[.int .i64 xk, .string xn, .int .i64 xs, .slice xa2 xl xc] 24 (0, 0))) := fun W h => (h.block _ (by simp)).trans hbx
  have HE0 : Hid (Ext w (w.alloc (.cells #[.int .i64 xk, .string xn, .int .i64 xs, .slice xa2 xl xc] 24))) := (Ext.refl w).alloc _
  have HCAP := Lib.hid hcap
  clear hR hX hsz hsx hs hbx hcap
  go_enter Tryd.func70, Tryd.ntmps70
  go_wp2_with fail
  have hEr := Ext.refl (w.alloc (.cells #[.int .i64 xk, .string xn, .int .i64 xs, .slice xa2 xl xc] 24))
  generalize (w.alloc (.cells #[.int .i64 xk, .string xn, .int .i64 xs, .slice xa2 xl xc] 24)) = w0 at HBX HE0 hEr ⊢
  go_loopg [9, 10] bs.length (fun g s9 s10 wr => ∃ lo hi : Nat, s9 = .int .i64 lo ∧ s10 = .int .i64 hi ∧ hi - lo ≤ g ∧ SrQ bs x lo hi ∧ Ext w0 wr)
  case atStart => exact ⟨0, bs.length, rfl, rfl, by omega, ⟨Nat.zero_le _, Nat.le_refl _, fun t _ h => absurd h (Nat.not_lt_zero _), fun t h1 h2 => by omega⟩, hEr⟩
  case round =>
    obtain ⟨lo, hi, rfl, rfl, hg, hsr, hE⟩ := hrel
    have hlh := hsr.1
    have hin := hsr.2.1
    have HSR := Lib.hid hsr
    clear hsr
    by_cases hlt : lo < hi
    · obtain ⟨m, hm⟩ : ∃ m, m = (lo + hi) / 2 := ⟨_, rfl⟩
      have hm1 : lo ≤ m := by omega
      have hm2 : m < hi := by omega
      have HE1 : Hid (((lo : Int) + (hi : Int)) / 2 = (m : Int)) := by show _ = _; omega
      clear hm
      have i1 : (0 : Int) ≤ (m : Int) := by omega
      have i2 : (m : Int) < (bs.length : Int) := by omega
      have hmb : m < bs.length := by omega
      obtain ⟨b, o, rfl⟩ := Row_at HR.out (by omega)
      obtain ⟨v0, v1, v2, v3, g0, g1, g2, g3, hIv⟩ := Row_get (Row_below HR.out (Ext.trans HE0.out hE)) m hmb
      obtain ⟨k, n, s, ya, yl, yc, rfl, rfl, rfl, rfl⟩ := Is_form hIv
      have hszm := HSZ.out bs[m] (List.getElem_mem hmb)
      have HCM := Lib.hid (fun W (h : Ext wr W) => Compare_any bs[m] x _ _ _ _ _ _ _ _ W (by omega) (by have := HSX.out; omega) (Is_below (w' := W) hIv h) (Is_below (w' := W) HIX.out (Ext.trans (Ext.trans HE0.out hE) h)))
      obtain ⟨c, hc⟩ : ∃ c, cmpT bs[m] x = c := ⟨_, rfl⟩
      rw [hc] at HCM
      have HCE := Lib.hid hc
      obtain ⟨⟨y0, y1, y2, y3⟩, _⟩ := box_facts (HBX.out _ hE)
      have HCr : Hid (∀ W, Ext wr W → (W.cell? ⟨b, o + m * 4, none⟩ = some (.int .i64 k) ∧ W.cell? ⟨b, o + m * 4 + 1, none⟩ = some (.string n) ∧ W.cell? ⟨b, o + m * 4 + 2, none⟩ = some (.int .i64 s) ∧ W.cell? ⟨b, o + m * 4 + 3, none⟩ = some (.slice ya yl yc)) ∧ W.cell? ⟨w.heap.size, 0, none⟩ = some (.int .i64 xk) ∧ W.cell? ⟨w.heap.size, 1, none⟩ = some (.string xn) ∧ W.cell? ⟨w.heap.size, 2, none⟩ = some (.int .i64 xs) ∧ W.cell? ⟨w.heap.size, 3, none⟩ = some (.slice xa2 xl xc)) := fun W h => ⟨⟨keep_below h _ _ g0, keep_below h _ _ g1, keep_below h _ _ g2, keep_below h _ _ g3⟩, keep_below h _ _ y0, keep_below h _ _ y1, keep_below h _ _ y2, keep_below h _ _ y3⟩
      have hF0 : Ext wr wr.drew := (Ext.refl wr).drew
      have HE := Lib.hid hE
      clear hIv hszm hc hE
      by_cases hneg : c < 0
      · have q4 : decide (c < 0) = true := decide_eq_true hneg
        have HUP := Lib.hid (SrQ_up HS.out HSR.out hm2 (by rw [HCE.out]; exact hneg))
        clear hneg
        go_wp2_with fail
        rw [HE1.out]
        go_region_held3 (fun W => (W.cell? ⟨b, o + m * 4, none⟩ = some (.int .i64 k) ∧ W.cell? ⟨b, o + m * 4 + 1, none⟩ = some (.string n) ∧ W.cell? ⟨b, o + m * 4 + 2, none⟩ = some (.int .i64 s) ∧ W.cell? ⟨b, o + m * 4 + 3, none⟩ = some (.slice ya yl yc)) ∧ W.cell? ⟨w.heap.size, 0, none⟩ = some (.int .i64 xk) ∧ W.cell? ⟨w.heap.size, 1, none⟩ = some (.string xn) ∧ W.cell? ⟨w.heap.size, 2, none⟩ = some (.int .i64 xs) ∧ W.cell? ⟨w.heap.size, 3, none⟩ = some (.slice xa2 xl xc))
          (first | exact HCr.out _ (by assumption) | go_keep)
          (first | (go_at_call 69; refine (HCM.out _ hF0).mono ?_; rintro e w4 ⟨he, hB⟩; subst he; have hF1 : Ext wr w4 := hF0.trans hB; clear hB))
        go_wp2_with fail
        go_roundg (hi - (m + 1))
        case measure => omega
        case rel => exact ⟨m + 1, hi, by go_num, rfl, Nat.le_refl _, HUP.out, Ext.trans HE.out hF1⟩
      · have q4 : decide (c < 0) = false := decide_eq_false hneg
        have HDN := Lib.hid (SrQ_down HS.out HSR.out hm1 hm2 (by rw [HCE.out]; exact hneg))
        clear hneg
        go_wp2_with fail
        rw [HE1.out]
        go_region_held3 (fun W => (W.cell? ⟨b, o + m * 4, none⟩ = some (.int .i64 k) ∧ W.cell? ⟨b, o + m * 4 + 1, none⟩ = some (.string n) ∧ W.cell? ⟨b, o + m * 4 + 2, none⟩ = some (.int .i64 s) ∧ W.cell? ⟨b, o + m * 4 + 3, none⟩ = some (.slice ya yl yc)) ∧ W.cell? ⟨w.heap.size, 0, none⟩ = some (.int .i64 xk) ∧ W.cell? ⟨w.heap.size, 1, none⟩ = some (.string xn) ∧ W.cell? ⟨w.heap.size, 2, none⟩ = some (.int .i64 xs) ∧ W.cell? ⟨w.heap.size, 3, none⟩ = some (.slice xa2 xl xc))
          (first | exact HCr.out _ (by assumption) | go_keep)
          (first | (go_at_call 69; refine (HCM.out _ hF0).mono ?_; rintro e w4 ⟨he, hB⟩; subst he; have hF1 : Ext wr w4 := hF0.trans hB; clear hB))
        go_wp2_with fail
        go_roundg (m - lo)
        case measure => omega
        case rel => exact ⟨lo, m, rfl, rfl, Nat.le_refl _, HDN.out, Ext.trans HE.out hF1⟩
    · obtain rfl : hi = lo := by omega
      have HEND := Lib.hid (SrQ_end HS.out HSR.out)
      by_cases hmb0 : hi < bs.length
      rotate_left
      · have q3 : decide ((hi : Int) < (bs.length : Int)) = false := decide_eq_false (by omega)
        have HF : Hid (FindQ bs x (.returned (.tuple #[.int .i64 (hi : Int), .bool false]))) := ⟨hi, false, rfl, Or.inr ⟨rfl, HEND.out.2 (by omega)⟩⟩
        have HE := Lib.hid hE
        clear hE
        go_wp2_with fail
        go_quiet (fail)
        go_wp2_with fail
        go_ret2
        exact ⟨HF.out, Ext.trans (Ext.trans HE0.out HE.out) (below_drewN (Below.refl _ _) _)⟩
      have q3 : decide ((hi : Int) < (bs.length : Int)) = true := decide_eq_true (by omega)
      have i1 : (0 : Int) ≤ (hi : Int) := by omega
      have i2 : (hi : Int) < (bs.length : Int) := by omega
      have hmb : hi < bs.length := by omega
      obtain ⟨b, o, rfl⟩ := Row_at HR.out (by omega)
      obtain ⟨v0, v1, v2, v3, g0, g1, g2, g3, hIv⟩ := Row_get (Row_below HR.out (Ext.trans HE0.out hE)) hi hmb
      obtain ⟨k, n, s, ya, yl, yc, rfl, rfl, rfl, rfl⟩ := Is_form hIv
      have hszm := HSZ.out bs[hi] (List.getElem_mem hmb)
      have HCM := Lib.hid (fun W (h : Ext wr W) => Compare_any bs[hi] x _ _ _ _ _ _ _ _ W (by omega) (by have := HSX.out; omega) (Is_below (w' := W) hIv h) (Is_below (w' := W) HIX.out (Ext.trans (Ext.trans HE0.out hE) h)))
      obtain ⟨c, hc⟩ : ∃ c, cmpT bs[hi] x = c := ⟨_, rfl⟩
      rw [hc] at HCM
      have HCE := Lib.hid hc
      obtain ⟨⟨y0, y1, y2, y3⟩, _⟩ := box_facts (HBX.out _ hE)
      have HCr : Hid (∀ W, Ext wr W → (W.cell? ⟨b, o + hi * 4, none⟩ = some (.int .i64 k) ∧ W.cell? ⟨b, o + hi * 4 + 1, none⟩ = some (.string n) ∧ W.cell? ⟨b, o + hi * 4 + 2, none⟩ = some (.int .i64 s) ∧ W.cell? ⟨b, o + hi * 4 + 3, none⟩ = some (.slice ya yl yc)) ∧ W.cell? ⟨w.heap.size, 0, none⟩ = some (.int .i64 xk) ∧ W.cell? ⟨w.heap.size, 1, none⟩ = some (.string xn) ∧ W.cell? ⟨w.heap.size, 2, none⟩ = some (.int .i64 xs) ∧ W.cell? ⟨w.heap.size, 3, none⟩ = some (.slice xa2 xl xc)) := fun W h => ⟨⟨keep_below h _ _ g0, keep_below h _ _ g1, keep_below h _ _ g2, keep_below h _ _ g3⟩, keep_below h _ _ y0, keep_below h _ _ y1, keep_below h _ _ y2, keep_below h _ _ y3⟩
      have hF0 : Ext wr wr.drew := (Ext.refl wr).drew
      have HE := Lib.hid hE
      clear hIv hszm hc hE
      by_cases hz : c = 0
      · have q4 : decide (c = 0) = true := decide_eq_true hz
        have q5 : (c == 0) = true := by simp [hz]
        have HF : Hid (FindQ bs x (.returned (.tuple #[.int .i64 (hi : Int), .bool true]))) := ⟨hi, true, rfl, Or.inl ⟨rfl, hmb, by rw [HCE.out]; exact hz⟩⟩
        clear hz
        go_wp2_with fail
        go_region_held3 (fun W => (W.cell? ⟨b, o + hi * 4, none⟩ = some (.int .i64 k) ∧ W.cell? ⟨b, o + hi * 4 + 1, none⟩ = some (.string n) ∧ W.cell? ⟨b, o + hi * 4 + 2, none⟩ = some (.int .i64 s) ∧ W.cell? ⟨b, o + hi * 4 + 3, none⟩ = some (.slice ya yl yc)) ∧ W.cell? ⟨w.heap.size, 0, none⟩ = some (.int .i64 xk) ∧ W.cell? ⟨w.heap.size, 1, none⟩ = some (.string xn) ∧ W.cell? ⟨w.heap.size, 2, none⟩ = some (.int .i64 xs) ∧ W.cell? ⟨w.heap.size, 3, none⟩ = some (.slice xa2 xl xc))
          (first | exact HCr.out _ (by assumption) | go_keep)
          (first | (go_at_call 69; refine (HCM.out _ hF0).mono ?_; rintro e w4 ⟨he, hB⟩; subst he; have hF1 : Ext wr w4 := hF0.trans hB; clear hB))
        all_goals (try go_wp2_with fail)
        all_goals go_ret2
        all_goals exact ⟨HF.out, Ext.trans (Ext.trans HE0.out HE.out) hF1⟩
      · have q4 : decide (c = 0) = false := decide_eq_false hz
        have q5 : (c == 0) = false := by simp [hz]
        have HF : Hid (FindQ bs x (.returned (.tuple #[.int .i64 (hi : Int), .bool false]))) := ⟨hi, false, rfl, Or.inr ⟨rfl, HEND.out.1 hmb (by rw [HCE.out]; exact hz)⟩⟩
        clear hz
        go_wp2_with fail
        go_region_held3 (fun W => (W.cell? ⟨b, o + hi * 4, none⟩ = some (.int .i64 k) ∧ W.cell? ⟨b, o + hi * 4 + 1, none⟩ = some (.string n) ∧ W.cell? ⟨b, o + hi * 4 + 2, none⟩ = some (.int .i64 s) ∧ W.cell? ⟨b, o + hi * 4 + 3, none⟩ = some (.slice ya yl yc)) ∧ W.cell? ⟨w.heap.size, 0, none⟩ = some (.int .i64 xk) ∧ W.cell? ⟨w.heap.size, 1, none⟩ = some (.string xn) ∧ W.cell? ⟨w.heap.size, 2, none⟩ = some (.int .i64 xs) ∧ W.cell? ⟨w.heap.size, 3, none⟩ = some (.slice xa2 xl xc))
          (first | exact HCr.out _ (by assumption) | go_keep)
          (first | (go_at_call 69; refine (HCM.out _ hF0).mono ?_; rintro e w4 ⟨he, hB⟩; subst he; have hF1 : Ext wr w4 := hF0.trans hB; clear hB))
        all_goals (try go_wp2_with fail)
        all_goals go_ret2
        all_goals exact ⟨HF.out, Ext.trans (Ext.trans HE0.out HE.out) hF1⟩


end Go.Proofs.YtfbomoginjknlaaDoor
