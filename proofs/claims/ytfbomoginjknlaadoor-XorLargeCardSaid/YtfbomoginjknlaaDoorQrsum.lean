/-
  THE WALKS OF the reference's zero, Term, valid and Sum.
-/
import Derived.Test.YtfbomoginjknlaaDoorQparts
namespace Go.Proofs.YtfbomoginjknlaaDoor
open Go.RowKit Go.Lib

def zroT : Tm := .mk 3 ⟨#[122, 101, 114, 111]⟩ 0 []
theorem zroT_in (S : Nat → Prop) (w : World) (x : Option Addr) (c : Nat) : IsIn S w zroT (.int .i64 3) (.string ⟨#[122, 101, 114, 111]⟩) (.int .i64 0) (.slice x 0 c) := by
  simp only [zroT, IsIn]
  exact ⟨trivial, trivial, trivial, by omega, by omega, by simp [ByteArray.size, maxLen], by simp, x, c, rfl, Nat.zero_le _, by simp [RowIn]⟩
/-- What gives back zero(). -/
def ZrPost (w : World) (e : Ending) (w' : World) : Prop := ∃ x, e = .returned (.agg #[.int .i64 3, .string ⟨#[122, 101, 114, 111]⟩, .int .i64 0, .slice x 0 0]) ∧ Ext w w'
set_option maxHeartbeats 1600000 in
set_option maxRecDepth 100000 in
theorem azero_any (w : World) :
    Calls Tryd.prog 14 #[.string ⟨#[122, 101, 114, 111]⟩, .slice none 0 0] w (ZrPost w) := by
  obtain ⟨i0, hi0, hz0, hz1, hz2⟩ := info_parts info24
  have HI0 := Lib.hid (And.intro hi0 (And.intro hz0 (And.intro hz1 hz2)))
  clear hi0 hz0 hz1 hz2
  go_enter Tryd.func14, Tryd.ntmps14
  go_wp2_with (at_builtin; refine wpList_append_zeroQ rfl _ _ 22 rfl 24 i0 Tryd.underlying22 HI0.out.1 (some ⟨w.heap.size + 1, 0, none⟩) 0 0 (by first | rfl | simp) none 0 rfl (Nat.le_refl _) ?_)
  exact bodyPost_ret (v := .agg #[.int .i64 3, .string ⟨#[122, 101, 114, 111]⟩, .int .i64 0, .slice (some ⟨w.heap.size + 1, 0, none⟩) 0 0]) (by simp [results, Tryd.results14, go_sem]) rfl ⟨_, rfl, ((Ext.refl w).alloc _).alloc _⟩
/-- The error of a list and a term, as the reference says it. -/
def vE (ts : List Tm) (t : Tm) : Int := if 200 < ts.length then 3 else if firstE ts = 0 then validE t else firstE ts
theorem vE_zro (ts : List Tm) : vE ts zroT = listE ts := by
  have : validE zroT = 0 := by rfl
  unfold vE listE
  rw [this]
  split
  · rfl
  · split
    · rename_i h; exact h.symm
    · rfl
/-- A term given back by value that lies in the arguments' blocks and new ones. -/
def TbPost (base : Nat) (w : World) (t : Tm) (e : Ending) (w' : World) : Prop :=
  ∃ k n s xa l c, e = .returned (.agg #[.int .i64 k, .string n, .int .i64 s, .slice xa l c]) ∧ IsIn (fun b => b < base ∨ (w.heap.size < b ∧ b < w'.heap.size)) w' t (.int .i64 k) (.string n) (.int .i64 s) (.slice xa l c) ∧ Ext w w'
theorem put4_in {S : Nat → Prop} {w : World} {t : Tm} {c0 c1 c2 c3 d0 d1 d2 d3 : Value} {g : Nat} (hg : ¬ S g) (h : IsIn S w t c0 c1 c2 c3) : IsIn S (put4 w g 0 d0 d1 d2 d3) t c0 c1 c2 c3 :=
  IsIn_carry (fun q hq => put4_other _ _ _ _ _ _ _ _ (fun (e : q = g) => hg (by rw [← e]; exact hq))) (fun _ h => h) _ _ _ _ _ h
set_option maxHeartbeats 3200000 in
set_option maxRecDepth 100000 in
theorem qTerm_any (base : Nat) (l : List Tm) (v : Value) (w : World) (hbw : base ≤ w.heap.size) (hl : l.length ≤ 1048576) (hE : Elems (fun b => b < base) w l v) :
    Calls Tryd.prog 22 #[v] w (TbPost base w (sumTm l)) := by
  have hB0 : Ext w (w.alloc (.cells #[.int .i64 0, .string ⟨#[]⟩, .int .i64 0, .slice none 0 0] 24)) := (Ext.refl _).alloc _
  have hZ : (w.alloc (.cells #[.int .i64 0, .string ⟨#[]⟩, .int .i64 0, .slice none 0 0] 24)).heap.size = w.heap.size + 1 := World.size_alloc _ _
  have hb1 := heap_alloc_new w (.cells #[.int .i64 0, .string ⟨#[]⟩, .int .i64 0, .slice none 0 0] 24)
  have HBK : Hid (∀ W, Ext (w.alloc (.cells #[.int .i64 0, .string ⟨#[]⟩, .int .i64 0, .slice none 0 0] 24)) W → W.heap[w.heap.size]? = some (.cells #[.int .i64 0, .string ⟨#[]⟩, .int .i64 0, .slice none 0 0] 24 (0, 0))) := by
    show ∀ _, _
    intro W x
    rw [x.block _ (by omega)]; exact hb1
  have HFI : Hid (∀ (W : World) k n s x m c, Ext w W → IsIn (fun b => b < base ∨ (w.heap.size < b ∧ b < W.heap.size)) W (sumTm l) (.int .i64 k) (.string n) (.int .i64 s) (.slice x m c) → TbPost base w (sumTm l) (.returned (.agg #[.int .i64 k, .string n, .int .i64 s, .slice x m c])) (put4 W w.heap.size 0 (.int .i64 k) (.string n) (.int .i64 s) (.slice x m c))) := by
    show ∀ _, _
    intro W k n s x m c hW h
    exact ⟨_, _, _, _, _, _, rfl, IsIn_carry (fun q (hq : q < base ∨ (w.heap.size < q ∧ q < W.heap.size)) => put4_other _ _ _ _ _ _ _ _ (by omega)) (fun q (hq : q < base ∨ (w.heap.size < q ∧ q < W.heap.size)) => by rw [put4_size]; exact hq) _ _ _ _ _ h, put4_below hW (Nat.le_refl _)⟩
  obtain ⟨xa, cap, rfl, _, _, _⟩ := Elems_row hE
  have HEL := Lib.hid hE
  have HB0 := Lib.hid hB0
  have HZ := Lib.hid hZ
  by_cases h0 : l.length = 0
  · have e0 : l = [] := List.length_eq_zero_iff.1 h0
    subst e0
    have HA := Lib.hid (azero_any (w.alloc (.cells #[.int .i64 0, .string ⟨#[]⟩, .int .i64 0, .slice none 0 0] 24)))
    unfold ZrPost at HA
    clear h0 hE hB0 hZ hb1
    go_enter Tryd.func22, Tryd.ntmps22
    go_wp2_with (go_at_call 14; refine (HA.out).mono ?_; rintro e w3 ⟨x3, he, hB⟩; subst he; have hbx := HBK.out _ hB; have HF := Lib.hid (HFI.out w3 3 ⟨#[122, 101, 114, 111]⟩ 0 x3 0 0 (HB0.out.trans hB) (zroT_in _ _ _ _)); obtain ⟨⟨m0, m1, m2, m3⟩, n0, n1, n2, n3⟩ := box_facts hbx; clear hB hbx)
    exact bodyPost_ret (v := .agg #[.int .i64 3, .string ⟨#[122, 101, 114, 111]⟩, .int .i64 0, .slice x3 0 0]) (by simp [results, Tryd.results22, go_sem, m0, m1, m2, m3]) rfl HF.out
  have q0 : ((l.length : Int) == 0) = false := beq_eq_false_iff_ne.2 (by omega)
  by_cases h1 : l.length = 1
  · obtain ⟨t, rfl⟩ := List.length_eq_one_iff.1 h1
    obtain ⟨b, o, cap2, c0, c1, c2, c3, e, x0, x1, x2, x3, hI⟩ := Elems_get hE 0 (by simp)
    simp only [Value.slice.injEq] at e
    obtain ⟨rfl, _, rfl⟩ := e
    simp only [Nat.zero_mul, Nat.add_zero, List.getElem_cons_zero] at x0 x1 x2 x3 hI
    obtain ⟨k, n, s, ya, yl, yc, rfl, rfl, rfl, rfl⟩ := IsIn_form hI
    obtain ⟨⟨m0, m1, m2, m3⟩, _⟩ := box_facts (heap_alloc_new w (.cells #[.int .i64 k, .string n, .int .i64 s, .slice ya yl yc] 24))
    have HF : Hid (TbPost base w (sumTm [t]) (.returned (.agg #[.int .i64 k, .string n, .int .i64 s, .slice ya yl yc])) (w.alloc (.cells #[.int .i64 k, .string n, .int .i64 s, .slice ya yl yc] 24))) := ⟨_, _, _, _, _, _, rfl, IsIn_carry (fun q (hq : q < base) => Below.heap_alloc w _ q (by omega)) (fun q hq => Or.inl hq) _ _ _ _ _ hI, (Ext.refl w).alloc _⟩
    have y0 := keep_below hB0 _ _ x0
    have y1 := keep_below hB0 _ _ x1
    have y2 := keep_below hB0 _ _ x2
    have y3 := keep_below hB0 _ _ x3
    clear h0 h1 hE hl hI hB0 hZ hb1 HFI HBK
    go_enter Tryd.func22, Tryd.ntmps22
    go_wp2_with fail
    exact bodyPost_ret (v := .agg #[.int .i64 k, .string n, .int .i64 s, .slice ya yl yc]) (by simp [results, Tryd.results22, go_sem, m0, m1, m2, m3]) rfl HF.out
  have hs : sumTm l = .mk 3 ⟨#[120, 111, 114]⟩ 0 l := by
    cases l with
    | nil => exact absurd rfl h0
    | cons t l => cases l with
      | nil => exact absurd rfl h1
      | cons u l => rfl
  have q1 : ((l.length : Int) == 1) = false := beq_eq_false_iff_ne.2 (by omega)
  have HAP : Hid (∀ W v', OwnT (w.heap.size + 1) (fun b => b < base) W l v' → ∃ xo co, v' = .slice xo l.length co ∧ IsIn (fun b => b < base ∨ (w.heap.size < b ∧ b < W.heap.size)) W (sumTm l) (.int .i64 3) (.string ⟨#[120, 111, 114]⟩) (.int .i64 0) (.slice xo l.length co)) := by
    show ∀ _, _
    intro W v' h
    obtain ⟨xo, co, rfl⟩ := OwnT_form h
    refine ⟨xo, co, rfl, ?_⟩
    rw [hs]
    have hlt := OwnT_lt h
    obtain ⟨cs, ho, hK⟩ := h
    exact IsIn_app (by simp [ByteArray.size, maxLen]) ho hK (fun b hb => Or.inl hb) (fun g hg => Or.inr (by have := (hlt g hg); omega))
  clear h0 h1 hE hB0 hZ hb1 hs
  go_enter Tryd.func22, Tryd.ntmps22
  go_wp2_with (at_builtin; refine wpList_copy_tm rfl _ _ rfl hbw HEL.out HB0.out (by omega) (by simp only [World.size_alloc]; rfl) rfl ?_; intro v3 w3 hO3 hE3; rw [HZ.out] at hO3; obtain ⟨xo, co, hv, hI3⟩ := HAP.out _ _ hO3; subst hv; have HF := Lib.hid (HFI.out w3 _ _ _ _ _ _ (HB0.out.trans hE3) hI3); have hbx := HBK.out _ hE3; obtain ⟨⟨m0, m1, m2, m3⟩, n0, n1, n2, n3⟩ := box_facts hbx; clear hO3 hE3 hI3 hbx)
  exact bodyPost_ret (v := .agg #[.int .i64 3, .string ⟨#[120, 111, 114]⟩, .int .i64 0, .slice xo l.length co]) (by simp [results, Tryd.results22, go_sem, m0, m1, m2, m3]) rfl HF.out
/-- A term given back by value with an error, wherever it lies. -/
def TrPost (w : World) (r : Tm × Int) (e : Ending) (w' : World) : Prop :=
  ∃ k n s xa l c, e = .returned (.tuple #[.agg #[.int .i64 k, .string n, .int .i64 s, .slice xa l c], .int .i64 r.2]) ∧ Is w' r.1 (.int .i64 k) (.string n) (.int .i64 s) (.slice xa l c) ∧ Ext w w'
theorem TePost.weak {w : World} {r : Tm × Int} {e : Ending} {w' : World} (h : TePost w r e w') : TrPost w r e w' := by
  obtain ⟨k, n, s, xa, l, c, h1, h2, h3⟩ := h
  exact ⟨k, n, s, xa, l, c, h1, IsIn_Is _ _ _ _ _ h2, h3⟩
theorem nodesL_valid : ∀ {l : List Tm}, (∀ t ∈ l, validE t = 0) → nodesL l = 0 := fun h => nodesL_all fun t ht => by
  have := h t ht
  unfold validE at this
  by_cases h0 : nodesE t = 0
  · exact h0
  · rw [if_neg h0] at this; exact absurd this h0
theorem sumP_eq (ts : List Tm) : sumP ts = if listE ts = 0 then (if validE (sumTm (sumsR ts)) = 0 then (sumTm (sumsR ts), 0) else (zilT, 3)) else (zilT, listE ts) := by
  unfold sumP
  by_cases h0 : listE ts = 0
  · rw [if_pos h0, if_pos h0]
    by_cases hv : validE (sumTm (sumsR ts)) = 0
    · rw [if_pos hv, if_pos hv]
    · rw [if_neg hv, if_neg hv]
      have hf : firstE ts = 0 := by
        unfold listE at h0
        split at h0
        · exact absurd h0 (by decide)
        · exact h0
      rcases sumTm_valid (K := sumsR ts) (fun t ht => (sumsR_mem ht).2.1 (nodesL_valid (firstE_all hf))) with h | h
      · exact absurd h hv
      · rw [h]
  · rw [if_neg h0, if_neg h0]
end Go.Proofs.YtfbomoginjknlaaDoor
