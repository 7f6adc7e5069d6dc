/-
  THE WALKS OF the law TermApart, the chapter's examples by hypothesis.
-/
import Derived.Test.YthhhmjjgckkdhaaDoorLawSizesW
import Derived.Test.YthhhmjjgckkdhaaDoorParts
import Derived.Test.YthhhmjjgckkdhaaDoorSpoil
import Derived.Test.YthhhmjjgckkdhaaDoorAtH
import Derived.Test.YthhhmjjgckkdhaaDoorSetofH
import Derived.Test.YthhhmjjgckkdhaaDoorIntz
import Derived.Test.YthhhmjjgckkdhaaDoorLawPosW
import Derived.Deep.DeepCutAuto
namespace Go.Proofs.YthhhmjjgckkdhaaDoor
open Go.RowKit

theorem part_size (t : Tm) : ∀ most : Int, 0 ≤ bud t most → (partT t).size + 1 ≤ 46 * size t := by
  refine Tm.rec (motive_1 := fun t => ∀ most : Int, 0 ≤ bud t most → (partT t).size + 1 ≤ 46 * size t) (motive_2 := fun ts => ∀ (most : Int) (acc : ByteArray), 0 ≤ budL ts most → (partL acc ts).size ≤ acc.size + 46 * sizes ts) ?_ ?_ ?_ t
  · intro k n s ks ih most h
    simp only [bud] at h
    split at h
    · omega
    split at h
    · omega
    · rename_i h1 h2
      have hh := ih (most - 1) ((strOfNums [k % 256, s % 256, (ks.length : Int) % 256] ++ n) ++ ⟨#[40]⟩) h
      have hp3 : (strOfNums [k % 256, s % 256, (ks.length : Int) % 256]).size = 3 := by simp [strOfNums, ByteArray.size]
      simp only [partT, size]
      rw [ba_app, ba_one]
      rw [ba_app _ (⟨#[40]⟩ : ByteArray), ba_app, ba_one, hp3] at hh
      omega
  · intro most acc _; simp only [partL, sizes]; omega
  · intro t ts h1 h2 most acc h
    simp only [budL] at h
    split at h
    · omega
    · rename_i hb
      have a1 := h1 most (by omega)
      have a2 := h2 (bud t most) ((acc ++ partT t) ++ ⟨#[44]⟩) h
      rw [ba_app _ (⟨#[44]⟩ : ByteArray), ba_app, ba_one] at a2
      simp only [partL, sizes]; omega
theorem few1_sizes {t : Tm} (h : few [t] 1 100 = true) : size t ≤ 100 ∧ (partT t).size ≤ 5000 := by
  simp only [few] at h
  rw [if_neg (by simp)] at h
  have h1 := fewL_sizes [t] 100 (by omega) h
  simp only [sizes] at h1
  simp only [fewL] at h
  have hb : 0 ≤ bud t 100 := by
    rcases Int.lt_or_le (bud t 100) 0 with h2 | h2
    · rw [if_pos h2] at h; cases h
    · exact h2
  have h2 := part_size t 100 hb
  omega

/-- A box that holds a term of that shape. -/
def BoxSh (lo0 : Nat) (w : World) (a : Tm) (B : Nat) : Prop :=
  ∃ (k : Int) (n : ByteArray) (s : Int) (xa : Option Addr) (l c lo hi : Nat), w.cell? ⟨B, 0, none⟩ = some (.int .i64 k) ∧ w.cell? ⟨B, 1, none⟩ = some (.string n) ∧ w.cell? ⟨B, 2, none⟩ = some (.int .i64 s) ∧ w.cell? ⟨B, 3, none⟩ = some (.slice xa l c) ∧ lo0 ≤ lo ∧ lo ≤ hi ∧ hi ≤ w.heap.size ∧ ShT w a lo hi (.slice xa l c)
theorem boxsh_new {lo0 lo hi : Nat} {w7 : World} {a : Tm} {k s : Int} {n : ByteArray} {xa : Option Addr} {l c : Nat} (h1 : lo0 ≤ lo) (h2 : lo ≤ hi) (h3 : hi ≤ w7.heap.size) (hS : ShT w7 a lo hi (.slice xa l c)) :
    BoxSh lo0 (w7.alloc (.cells #[.int .i64 k, .string n, .int .i64 s, .slice xa l c] 24)) a w7.heap.size := by
  obtain ⟨g0, g1, g2, g3⟩ := box_cells w7 (.int .i64 k) (.string n) (.int .i64 s) (.slice xa l c) 24
  exact ⟨k, n, s, xa, l, c, lo, hi, g0, g1, g2, g3, h1, h2, by simp; omega, ShT_carry a lo hi _ (fun x _ hx => Below.heap_alloc _ _ _ (by omega)) hS⟩
theorem boxsh_put {lo0 lo hi B : Nat} {w7 : World} {a : Tm} {k s : Int} {n : ByteArray} {xa : Option Addr} {l c : Nat} {z0 z1 z2 z3 : Value} (hz : w7.heap[B]? = some (.cells #[z0, z1, z2, z3] 24 (0, 0))) (h1 : lo0 ≤ lo) (h2 : lo ≤ hi) (h3 : hi ≤ w7.heap.size) (hB : B < lo) (hS : ShT w7 a lo hi (.slice xa l c)) :
    BoxSh lo0 (put4 w7 B 0 (.int .i64 k) (.string n) (.int .i64 s) (.slice xa l c)) a B := by
  obtain ⟨⟨g0, g1, g2, g3⟩, _⟩ := box_facts (put4_box (y0 := .int .i64 k) (y1 := .string n) (y2 := .int .i64 s) (y3 := .slice xa l c) hz)
  exact ⟨k, n, s, xa, l, c, lo, hi, g0, g1, g2, g3, h1, h2, by rw [put4_size]; exact h3, ShT_carry a lo hi _ (fun x hx _ => put4_other _ _ _ _ _ _ _ _ (by omega)) hS⟩
theorem ShT_form {w : World} {t : Tm} {lo hi : Nat} {c3 : Value} (h : ShT w t lo hi c3) : ∃ xa l c, c3 = .slice xa l c := by
  obtain ⟨k, n, s, ks⟩ := t
  simp only [ShT] at h
  obtain ⟨_, xa, cap, rfl, _⟩ := h
  exact ⟨_, _, _, rfl⟩

/-- What holds at the head of the law's loop: the elements that are left have their shape. -/
structure ApR (B0 : World) (us : List Tm) (H hi j : Nat) (wr : World) : Prop where
  ext : Ext B0 wr
  top : hi ≤ wr.heap.size
  row : ∃ m, H + 1 ≤ m ∧ m ≤ hi ∧ ShL wr (us.drop j) H (j * 4) m hi
theorem ApR.next {B0 wr w9 : World} {us : List Tm} {H hi j m m2 : Nat} {o : Obj} (h : ApR B0 us H hi j wr) (hB0 : B0.heap.size ≤ H) (hm : H + 1 ≤ m) (hm2 : m ≤ m2) (hmh : m2 ≤ hi) (hR : ShL wr (us.drop (j + 1)) H (j * 4 + 4) m2 hi)
    (hB : Below m (wr.alloc o) w9) (hh : ∀ b, m2 ≤ b → b < (wr.alloc o).heap.size → w9.heap[b]? = (wr.alloc o).heap[b]?) : ApR B0 us H hi (j + 1) w9 := by
  have h1 := h.top
  have h2 := hB.size
  simp only [World.size_alloc] at h2 hh
  refine ⟨Below.trans (Ext.alloc h.ext o) (hB.mono (by omega)), by omega, m2, by omega, hmh, ?_⟩
  have e : (j + 1) * 4 = j * 4 + 4 := by omega
  rw [e]
  refine ShL_carry _ _ _ _ _ (fun x hx hx2 => ?_) (fun q c _ hc => ?_) hR
  · rw [hh x hx (by omega)]; exact Below.heap_alloc _ _ _ (by omega)
  · rw [hB.cell (by simp only; omega)]; exact keep_alloc _ _ _ _ hc

set_option maxHeartbeats 3200000 in
set_option maxRecDepth 100000 in
theorem apart_large (HA : Hid AwakeOk) (t : Tm) (p : List Int) (t0 t1 t2 t3 v : Value) (w : World) (hL : Laid w) (hI : Is w t t0 t1 t2 t3) (hp : IntsC w v p) (h1 : few [t] 1 100 = false) :
    Calls Tryd.prog 10 #[.agg #[t0, t1, t2, t3], v] w fun e w' => e = .returned (.bool true) ∧ Below w.heap.size w w' := by
  have H1 := Lib.hid h1
  have HL := Lib.hid hL
  have hX : Ext w (w.alloc (.cells #[t0, t1, t2, t3] 24)) := (Ext.refl w).alloc _
  have HX := Lib.hid hX
  have HX0 : Hid (Ext (w.alloc (.cells #[t0, t1, t2, t3] 24)) (w.alloc (.cells #[t0, t1, t2, t3] 24))) := Ext.refl _
  have HIt : Hid (∀ W, Ext (w.alloc (.cells #[t0, t1, t2, t3] 24)) W → Is W t t0 t1 t2 t3) := fun W h => Is_below (Is_below hI hX) h
  have HP : Hid (∀ W, Ext (w.alloc (.cells #[t0, t1, t2, t3] 24)) W → IntsC W v p) := fun W h => IntsC_below (IntsC_below hp hX) h
  have HC : Hid (∀ W, Ext (w.alloc (.cells #[t0, t1, t2, t3] 24)) W → W.cell? ⟨w.heap.size, 0, none⟩ = some t0 ∧ W.cell? ⟨w.heap.size, 1, none⟩ = some t1 ∧ W.cell? ⟨w.heap.size, 2, none⟩ = some t2 ∧ W.cell? ⟨w.heap.size, 3, none⟩ = some t3) := fun W h => box_ext h
  obtain ⟨xa, cap, rfl, hlc, hcm, _⟩ := hp
  unfold maxLen at hcm
  clear h1 hL hX hI
  go_enter Tryd.func10, Tryd.ntmps10
  go_wp2_with (first
    | (go_at_call 11; (first | (have HQ := Lib.hid HB2.out) | (have HQ := Lib.hid HX0.out)); refine (HA.out _ (Laid_ext HL.out (Ext.trans HX.out HQ.out))).mono ?_; rintro e w1 ⟨he, hB1⟩; subst he; have HB1 := Lib.hid (Ext.trans HQ.out hB1); obtain ⟨a0, a1, a2, a3⟩ := HC.out _ HB1.out; clear hB1)
    | (go_at_call 24; refine (few_any [t] _ 1 1 100 _ (by simp [maxLen]) (by omega) (by omega) (Row_one_at _ rfl (HIt.out _ HB1.out) 24)).mono ?_; rintro e w2 ⟨he, hB2⟩; rw [H1.out] at he; subst he; have HB2 := Lib.hid (Ext.trans (Ext.alloc HB1.out _) hB2); obtain ⟨a0, a1, a2, a3⟩ := HC.out _ HB2.out; clear hB2))
  go_ret
  exact ⟨rfl, Ext.trans (a := w) HX.out HB1.out⟩

set_option maxHeartbeats 3200000 in
set_option maxRecDepth 100000 in
theorem apart_long (HA : Hid AwakeOk) (t : Tm) (p : List Int) (t0 t1 t2 t3 v : Value) (w : World) (hL : Laid w) (hI : Is w t t0 t1 t2 t3) (hp : IntsC w v p) (h1 : few [t] 1 100 = true) (h60 : 60 < (p.length : Int)) :
    Calls Tryd.prog 10 #[.agg #[t0, t1, t2, t3], v] w fun e w' => e = .returned (.bool true) ∧ Below w.heap.size w w' := by
  have H1 := Lib.hid h1
  have HL := Lib.hid hL
  have hX : Ext w (w.alloc (.cells #[t0, t1, t2, t3] 24)) := (Ext.refl w).alloc _
  have HX := Lib.hid hX
  have HX0 : Hid (Ext (w.alloc (.cells #[t0, t1, t2, t3] 24)) (w.alloc (.cells #[t0, t1, t2, t3] 24))) := Ext.refl _
  have HIt : Hid (∀ W, Ext (w.alloc (.cells #[t0, t1, t2, t3] 24)) W → Is W t t0 t1 t2 t3) := fun W h => Is_below (Is_below hI hX) h
  have HP : Hid (∀ W, Ext (w.alloc (.cells #[t0, t1, t2, t3] 24)) W → IntsC W v p) := fun W h => IntsC_below (IntsC_below hp hX) h
  have HC : Hid (∀ W, Ext (w.alloc (.cells #[t0, t1, t2, t3] 24)) W → W.cell? ⟨w.heap.size, 0, none⟩ = some t0 ∧ W.cell? ⟨w.heap.size, 1, none⟩ = some t1 ∧ W.cell? ⟨w.heap.size, 2, none⟩ = some t2 ∧ W.cell? ⟨w.heap.size, 3, none⟩ = some t3) := fun W h => box_ext h
  obtain ⟨xa, cap, rfl, hlc, hcm, _⟩ := hp
  unfold maxLen at hcm
  clear h1 hL hX hI
  go_enter Tryd.func10, Tryd.ntmps10
  go_wp2_with (first
    | (go_at_call 11; (first | (have HQ := Lib.hid HB2.out) | (have HQ := Lib.hid HX0.out)); refine (HA.out _ (Laid_ext HL.out (Ext.trans HX.out HQ.out))).mono ?_; rintro e w1 ⟨he, hB1⟩; subst he; have HB1 := Lib.hid (Ext.trans HQ.out hB1); obtain ⟨a0, a1, a2, a3⟩ := HC.out _ HB1.out; clear hB1)
    | (go_at_call 24; refine (few_any [t] _ 1 1 100 _ (by simp [maxLen]) (by omega) (by omega) (Row_one_at _ rfl (HIt.out _ HB1.out) 24)).mono ?_; rintro e w2 ⟨he, hB2⟩; rw [H1.out] at he; subst he; have HB2 := Lib.hid (Ext.trans (Ext.alloc HB1.out _) hB2); obtain ⟨a0, a1, a2, a3⟩ := HC.out _ HB2.out; clear hB2))
  go_ret
  exact ⟨rfl, Ext.trans (a := w) HX.out HB1.out⟩

set_option maxHeartbeats 3200000 in
set_option maxRecDepth 100000 in
theorem apart_N (HA : Hid AwakeOk) (t : Tm) (p : List Int) (t0 t1 t2 t3 v : Value) (w : World) (hL : Laid w) (hI : Is w t t0 t1 t2 t3) (hp : IntsC w v p) (h1 : few [t] 1 100 = true) (h60 : p.length ≤ 60) (hno : atT t p = none) :
    Calls Tryd.prog 10 #[.agg #[t0, t1, t2, t3], v] w fun e w' => e = .returned (.bool true) ∧ Below w.heap.size w w' := by
  obtain ⟨hst, hpz⟩ := few1_sizes h1
  obtain ⟨X, hXe⟩ : ∃ X, partT t = X := ⟨_, rfl⟩
  have HPT0 : Hid (∀ (W : World) (a0 a1 a2 a3 : Value), Is W t a0 a1 a2 a3 → Calls Tryd.prog 43 #[.agg #[a0, a1, a2, a3]] W fun e w' => e = .returned (.string X) ∧ Below W.heap.size W w') := fun W a0 a1 a2 a3 h => by
    have := parts_any _ t a0 a1 a2 a3 W (Nat.le_refl _) (by omega) h
    rw [hXe] at this; exact this
  have hself : (X.toList == X.toList) = true := by simp
  clear hXe
  have H1 := Lib.hid h1
  have HL := Lib.hid hL
  have hX : Ext w (w.alloc (.cells #[t0, t1, t2, t3] 24)) := (Ext.refl w).alloc _
  have HX := Lib.hid hX
  have HX0 : Hid (Ext (w.alloc (.cells #[t0, t1, t2, t3] 24)) (w.alloc (.cells #[t0, t1, t2, t3] 24))) := Ext.refl _
  have HIt : Hid (∀ W, Ext (w.alloc (.cells #[t0, t1, t2, t3] 24)) W → Is W t t0 t1 t2 t3) := fun W h => Is_below (Is_below hI hX) h
  have HP : Hid (∀ W, Ext (w.alloc (.cells #[t0, t1, t2, t3] 24)) W → IntsC W v p) := fun W h => IntsC_below (IntsC_below hp hX) h
  have HC : Hid (∀ W, Ext (w.alloc (.cells #[t0, t1, t2, t3] 24)) W → W.cell? ⟨w.heap.size, 0, none⟩ = some t0 ∧ W.cell? ⟨w.heap.size, 1, none⟩ = some t1 ∧ W.cell? ⟨w.heap.size, 2, none⟩ = some t2 ∧ W.cell? ⟨w.heap.size, 3, none⟩ = some t3) := fun W h => box_ext h
  obtain ⟨xa, cap, rfl, hlc, hcm, _⟩ := hp
  unfold maxLen at hcm
  clear h1 hL hX hI
  go_enter Tryd.func10, Tryd.ntmps10
  go_wp2_with (first
    | (go_at_call 11; refine (HA.out _ (Laid_ext HL.out HX.out)).mono ?_; rintro e w1 ⟨he, hB1⟩; subst he; have HB1 : Hid (Ext (w.alloc (.cells #[t0, t1, t2, t3] 24)) w1) := Lib.hid hB1; obtain ⟨a0, a1, a2, a3⟩ := HC.out _ HB1.out; clear hB1)
    | (go_at_call 24; refine (few_any [t] _ 1 1 100 _ (by simp [maxLen]) (by omega) (by omega) (Row_one_at _ rfl (HIt.out _ HB1.out) 24)).mono ?_; rintro e w2 ⟨he, hB2⟩; rw [H1.out] at he; subst he; have HB2 := Lib.hid (Ext.trans (Ext.alloc HB1.out _) hB2); obtain ⟨a0, a1, a2, a3⟩ := HC.out _ HB2.out; clear hB2)
    | (go_at_call 43; refine (HPT0.out _ _ _ _ _ (HIt.out _ HB2.out)).mono ?_; rintro e w3 ⟨he, hB⟩; subst he; have HB3 := Lib.hid (Ext.trans HB2.out hB); clear hB))
  have HC3 : Hid (∀ W, Ext w3 W → W.cell? ⟨w.heap.size, 0, none⟩ = some t0 ∧ W.cell? ⟨w.heap.size, 1, none⟩ = some t1 ∧ W.cell? ⟨w.heap.size, 2, none⟩ = some t2 ∧ W.cell? ⟨w.heap.size, 3, none⟩ = some t3) := fun W h => HC.out W (Ext.trans HB3.out h)
  have HREP : Hid (∀ W v', Ext w3 W → IntsV W v' p → Calls Tryd.prog 39 #[.agg #[t0, t1, t2, t3], v', .agg #[.int .i64 2, .string ⟨#[122]⟩, .int .i64 0, .slice none 0 0]] W (AtSh W none)) := fun W v' h hv => by
    have := Replace_sh t (.mk 2 ⟨#[122]⟩ 0 []) p t0 t1 t2 t3 _ _ _ _ v' W (by omega) (by simp [size, sizes]) (HIt.out W (Ext.trans HB3.out h)) (Is_atom W ⟨#[122]⟩ (by unfold maxLen; decide)) hv rfl
    rw [rep_none p t _ hno] at this; exact this
  have HPC : Hid (∀ W, Ext w3 W → IntsC W (.slice xa p.length cap) p) := fun W h => HP.out W (Ext.trans HB3.out h)
  have hF0 : Ext w3 w3.drew := (Ext.refl w3).drew
  obtain ⟨a0, a1, a2, a3⟩ := HC3.out _ (Ext.refl w3)
  go_cut [6, 7] (fun v6 v7 wc => ∃ B, v6 = .pointer (some ⟨B, 0, none⟩) ∧ v7 = .int .i64 7 ∧ True ∧ Ext w3 wc)
  case first =>
    go_region_held3 (fun W => W.cell? ⟨w.heap.size, 0, none⟩ = some t0 ∧ W.cell? ⟨w.heap.size, 1, none⟩ = some t1 ∧ W.cell? ⟨w.heap.size, 2, none⟩ = some t2 ∧ W.cell? ⟨w.heap.size, 3, none⟩ = some t3)
      (first | exact HC3.out _ (by assumption) | exact HC3.out _ (Ext.alloc (by assumption) _) | exact HC3.out _ (Ext.drew (Ext.alloc (Ext.refl w3) _)) | (have r2 := put4_below (w' := w7) (g := w3.heap.size) (o := 0) (c0 := (.int .i64 0)) (c1 := (.string ⟨#[]⟩)) (c2 := (.int .i64 0)) (c3 := (.slice none 0 0)) hF3 (by have h1 := hF1.size; have h2 := hF2.size; omega); simp only [put4, Nat.zero_add] at r2; exact HC3.out _ r2) | (have r2 := put4_below (w' := w7) (g := wA.heap.size) (o := 0) (c0 := (.int .i64 0)) (c1 := (.string ⟨#[]⟩)) (c2 := (.int .i64 0)) (c3 := (.slice none 0 0)) hF3 (by have h1 := hF1.size; have h2 := hF2.size; omega); simp only [put4, Nat.zero_add] at r2; exact HC3.out _ r2) | (have r2 := put4_below (w' := w7) (g := wB.heap.size) (o := 0) (c0 := (.int .i64 0)) (c1 := (.string ⟨#[]⟩)) (c2 := (.int .i64 0)) (c3 := (.slice none 0 0)) hF3 (by have h1 := hF1.size; have h2 := hF2.size; omega); simp only [put4, Nat.zero_add] at r2; exact HC3.out _ r2) | go_keep)
      (first
        | (go_at_call 40; refine (clonez_any _ p _ (HPC.out _ (by first | exact hF0 | exact Ext.drew (Ext.alloc (Ext.refl w3) _))) (by omega)).mono ?_; rintro e wA ⟨v3, he, hv, hB⟩; subst he; have HV : Hid (∀ W, Ext wA W → IntsV W v3 p) := (fun W h => IntsV_below hv h); obtain ⟨xv, cv, hv3, _⟩ := hv; subst hv3; have hF1 : Ext w3 wA := Ext.trans (by first | exact hF0 | exact Ext.drew (Ext.alloc (Ext.refl w3) _)) hB; (first | (have HZa1 := Lib.hid ((hB.block w3.heap.size (by simp)).trans (heap_alloc_new w3 _))) | skip); clear hB)
        | (go_at_call 44; refine (atom_any _ _ _).mono ?_; rintro e wB ⟨he, hB⟩; subst he; have hFab : Ext wA wB := Ext.trans (by first | exact Ext.refl wA | exact (Ext.refl wA).alloc _) hB; have hF2 : Ext w3 wB := Ext.trans hF1 hFab; (first | (have HZb1 := Lib.hid ((hB.block w3.heap.size (by have := heap_lt' HZa1.out; omega)).trans HZa1.out)) | (have HZb2 := Lib.hid ((hB.block wA.heap.size (by simp)).trans (heap_alloc_new wA _))) | skip); clear hB)
        | (go_at_call 39; refine (HREP.out _ _ ?_ ?_).mono ?_; (exact (by first | exact hF2 | exact hF2.alloc _)); (first | exact HV.out _ hFab | exact HV.out _ (hFab.alloc _)); rintro e w7 ⟨hB, he⟩; subst he; have hF3 : Ext w3 w7 := Ext.trans (by first | exact hF2 | exact hF2.alloc _) hB; (first | (have HZc1 := Lib.hid ((hB.block w3.heap.size (by have := heap_lt' HZb1.out; omega)).trans HZb1.out); obtain ⟨⟨z0, z1, z2, z3⟩, zf0, zf1, zf2, zf3⟩ := box_facts (w := w7) (b := w3.heap.size) HZc1.out) | (have HZc2 := Lib.hid ((hB.block wA.heap.size (by have := heap_lt' HZb2.out; omega)).trans HZb2.out); obtain ⟨⟨z0, z1, z2, z3⟩, zf0, zf1, zf2, zf3⟩ := box_facts (w := w7) (b := wA.heap.size) HZc2.out) | (have HZc3 := Lib.hid ((hB.block wB.heap.size (by simp)).trans (heap_alloc_new wB _)); obtain ⟨⟨z0, z1, z2, z3⟩, zf0, zf1, zf2, zf3⟩ := box_facts (w := w7) (b := wB.heap.size) HZc3.out) | skip); clear hB))
    all_goals go_wp2_with fail
    all_goals go_meet
    all_goals have hs1 := hF1.size
    all_goals have hs2 := hF2.size
    all_goals first
      | (have r : True := trivial
         have r2 := put4_below (w' := w7) (g := w3.heap.size) (o := 0) (c0 := (.int .i64 0)) (c1 := (.string ⟨#[]⟩)) (c2 := (.int .i64 0)) (c3 := (.slice none 0 0)) hF3 (by omega)
         simp only [put4, Nat.zero_add] at r r2
         exact ⟨w3.heap.size, rfl, rfl, r, r2⟩)
      | (have r : True := trivial
         have r2 := put4_below (w' := w7) (g := wA.heap.size) (o := 0) (c0 := (.int .i64 0)) (c1 := (.string ⟨#[]⟩)) (c2 := (.int .i64 0)) (c3 := (.slice none 0 0)) hF3 (by omega)
         simp only [put4, Nat.zero_add] at r r2
         exact ⟨wA.heap.size, rfl, rfl, r, r2⟩)
      | (have r : True := trivial
         have r2 := put4_below (w' := w7) (g := wB.heap.size) (o := 0) (c0 := (.int .i64 0)) (c1 := (.string ⟨#[]⟩)) (c2 := (.int .i64 0)) (c3 := (.slice none 0 0)) hF3 (by omega)
         simp only [put4, Nat.zero_add] at r r2
         exact ⟨wB.heap.size, rfl, rfl, r, r2⟩)
      | exact ⟨w7.heap.size, rfl, rfl, trivial, hF3.alloc _⟩
  case rest =>
    obtain ⟨B, rfl, rfl, _, hE⟩ := hcut
    have HE := Lib.hid hE
    have HAT : Hid (∀ W, Ext w3 W → Calls Tryd.prog 37 #[.agg #[t0, t1, t2, t3], .slice xa p.length cap] W (AtSh W none)) := fun W h => by
      have := At_sh t p t0 t1 t2 t3 (.slice xa p.length cap) W (by omega) (HIt.out W (Ext.trans HB3.out h)) (IntsC_V (HPC.out W h))
      rw [hno] at this; exact this
    obtain ⟨a0, a1, a2, a3⟩ := HC3.out _ hE
    clear hE hF0
    go_wp2_with (first
      | (go_at_call 37; refine (HAT.out _ HE.out).mono ?_; rintro e w6 ⟨hB, he⟩; subst he; have HE6 : Hid (Ext w3 (w6.alloc (.cells #[.int .i64 0, .string ⟨#[]⟩, .int .i64 0, .slice none 0 0] 24))) := Lib.hid (Ext.alloc (Ext.trans HE.out hB) _); obtain ⟨a0, a1, a2, a3⟩ := HC3.out _ HE6.out; clear hB)
      | (go_at_call 28; refine (Subterms_sh [t] (w6.heap.size + 1) 0 1 _ (Row_one_at (w6.heap.size + 1) (by simp) (HIt.out _ (Ext.trans HB3.out HE6.out)) 24) (by simp) (by simp only [sizes]; omega)).mono ?_; rintro e w8 ⟨us, H, he, hmem, hul, ⟨hsl, hHhi, hHb⟩, hB⟩; subst he; have HE8 : Hid (Ext w3 w8) := Lib.hid (Ext.trans (Ext.alloc HE6.out _) hB); have hsE := (HE6.out).size; have hB0H : w3.heap.size ≤ H := (by have h9 := hsE; (try simp only [World.size_alloc] at h9); simp only [World.size_alloc] at hHb; omega); have HAP : Hid (ApR w3 us H w8.heap.size 0 w8) := Lib.hid ⟨HE8.out, Nat.le_refl _, H + 1, Nat.le_refl _, by omega, by simpa using hsl⟩; have hul2 : us.length ≤ 100 := (by have h1 := subL_len [t]; simp only [sizes] at h1; omega); have HUS : Hid (∀ x ∈ us, size x ≤ 100) := (fun x hx => by have h1 := hmem x hx; have := subL_size [t] x h1; simp only [sizes] at this; omega); clear hmem hsl hB hsE))
    generalize hTe : w8.heap.size = hT at HAP hHhi
    clear hTe
    go_loopw [53] (fun i wr => ∃ j : Nat, j ≤ us.length ∧ i = .int .i64 j ∧ ApR w3 us H hT j wr) (fun i _ => us.length - (intOf i).toNat)
    case atStart => exact ⟨0, Nat.zero_le _, rfl, HAP.out⟩
    case round =>
      obtain ⟨j, hj, rfl, hR⟩ := hrel
      have HR := Lib.hid hR
      by_cases hlt : j < us.length
      rotate_left
      · obtain ⟨a0, a1, a2, a3⟩ := HC3.out _ hR.ext
        clear hR
        go_wp2_with (go_at_call 43; refine (HPT0.out _ _ _ _ _ (HIt.out _ (Ext.trans HB3.out HR.out.ext))).mono ?_; rintro e w9 ⟨he, hB⟩; subst he; have HB9 := Lib.hid hB; clear hB)
        go_ret
        exact ⟨by simp, Ext.trans (a := w) HX.out (Ext.trans HB3.out (Ext.trans HR.out.ext HB9.out))⟩
      obtain ⟨mm, hm1, hm2, hrw⟩ := hR.row
      rw [List.drop_eq_getElem_cons hlt] at hrw
      simp only [ShL] at hrw
      obtain ⟨m2, hm3, hm4, ⟨k', n', s', c3', g0, g1, g2, g3, hT'⟩, hrest⟩ := hrw
      obtain ⟨x', l', c', rfl⟩ := ShT_form hT'
      have hsz := HUS.out _ (List.getElem_mem hlt)
      have htop := hR.top
      have HSP := Lib.hid (spoil_any _ us[j] (.int .i64 k') (.string n') (.int .i64 s') (.slice x' l' c') mm m2 (wr.alloc (.cells #[.int .i64 k', .string n', .int .i64 s', .slice x' l' c'] 24)) (Nat.le_refl _) (by omega) (ShT_carry _ _ _ _ (fun x _ hx => Below.heap_alloc _ _ _ (by omega)) hT') hm3 (by simp; omega))
      have HRS := Lib.hid hrest
      obtain ⟨b0, b1, b2, b3⟩ := box_cells wr (.int .i64 k') (.string n') (.int .i64 s') (.slice x' l' c') 24
      have i1 : (0 : Int) ≤ (j : Int) := by omega
      have i2 : (j : Int) < (us.length : Int) := by omega
      clear hR hT' hrest hsz
      go_wp2_with (go_at_call 45; refine (HSP.out).mono ?_; rintro e w9 ⟨he, hB, hh⟩; subst he; have HN := Lib.hid (HR.out.next hB0H hm1 hm3 hm4 HRS.out hB hh); clear hB hh)
      go_roundw
      case rel => exact ⟨j + 1, by omega, by go_num, HN.out⟩
      case measure => simp [intOf]; omega

end Go.Proofs.YthhhmjjgckkdhaaDoor
