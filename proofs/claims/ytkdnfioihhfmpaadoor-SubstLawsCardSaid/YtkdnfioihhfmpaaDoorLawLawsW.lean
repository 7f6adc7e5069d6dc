/-
  THE WALK OF the law SubstLaws, the chapter's examples by hypothesis.
-/
import Derived.Test.YtkdnfioihhfmpaaDoorGrow
import Derived.Test.YtkdnfioihhfmpaaDoorLawFitsW
import Derived.Test.YtkdnfioihhfmpaaDoorSapply
import Derived.Deep.RegionHeld3
namespace Go.Proofs.YtkdnfioihhfmpaaDoor
open Go.RowKit Go.Lib

theorem compose_ok (ss ts : List Bd) (h1 : validB ss = 0) (h2 : validB ts = 0) (xs xt : Option Addr) (cs ct : Nat) (w : World) (hcs : ss.length ≤ cs) (hrow : Row w (flatB ss) xs) (hct : ts.length ≤ ct) (hrowt : Row w (flatB ts) xt) :
    Calls Tryd.prog 29 #[.slice xs ss.length cs, .slice xt ts.length ct] w (RcPost w (comP ss ts)) :=
  scompose_all ss ts xs xt cs ct 400 w hcs (valid_sz h1).1 (valid_sz' h1) hrow hct (valid_sz h2).1 (valid_sz' h2) hrowt (fun b hb => ((valid_sz h2).2 b hb).2) (by omega) (fun b hb => by have := ((valid_sz h1).2 b hb).2; omega)
theorem apply_ok (bs : List Bd) (h1 : validB bs = 0) (t : Tm) (ht : size t ≤ 400) (xs : Option Addr) (cs : Nat) (c0 c1 c2 c3 : Value) (w : World) (hcs : bs.length ≤ cs) (hrow : Row w (flatB bs) xs) (hI : Is w t c0 c1 c2 c3) :
    Calls Tryd.prog 27 #[.slice xs bs.length cs, .agg #[c0, c1, c2, c3]] w (ApPost w (applyV bs t)) :=
  sApply_any bs xs cs 400 t c0 c1 c2 c3 w hcs (by have := (valid_sz h1).1; omega) (valid_sz' h1) hrow (fun b hb => ((valid_sz h1).2 b hb).2) (by omega) (by omega) hI

/-- What a store into a box that holds the zero term leaves alone: valid terms. -/
theorem heap_lt2 {w : World} {b : Nat} {o : Obj} (h : w.heap[b]? = some o) : b < w.heap.size := (Array.getElem?_eq_some_iff.1 h).1
theorem cell_block {w w' : World} {b o : Nat} (h : w'.heap[b]? = w.heap[b]?) : w'.cell? ⟨b, o, none⟩ = w.cell? ⟨b, o, none⟩ := by
  unfold World.cell?; simp only [h]
theorem valid_kind {k s : Int} {n : ByteArray} {ks : List Tm} (h : nodesE (.mk k n s ks) = 0) : ¬ k = 0 := by
  intro e
  subst e
  have := (nodesE_parts h).1
  simp [nodeE] at this
theorem is_keep {w w' : World} {g : Nat} (hk : ∀ b, b ≠ g → w'.heap[b]? = w.heap[b]?) (hz : ∀ (o : Nat) (n : Int), w.cell? ⟨g, o, none⟩ = some (.int .i64 n) → n = 0) (t : Tm) :
    nodesE t = 0 → ∀ c0 c1 c2 c3, Is w t c0 c1 c2 c3 → Is w' t c0 c1 c2 c3 := by
  refine Tm.rec (motive_1 := fun t => nodesE t = 0 → ∀ c0 c1 c2 c3, Is w t c0 c1 c2 c3 → Is w' t c0 c1 c2 c3) (motive_2 := fun ts => nodesL ts = 0 → ∀ xa, Row w ts xa → Row w' ts xa) ?_ ?_ ?_ t
  · intro k n s ks ih h c0 c1 c2 c3 hI
    simp only [Is] at hI ⊢
    obtain ⟨e0, e1, e2, b0, b2, h1, h2, xa, cap, e3, hc, hR⟩ := hI
    exact ⟨e0, e1, e2, b0, b2, h1, h2, xa, cap, e3, hc, ih (nodesE_parts h).2 xa hR⟩
  · intro _ xa _; simp [Row]
  · intro t ts ht hts h xa hR
    rw [nodesL] at h
    by_cases h0 : nodesE t = 0
    · rw [if_pos h0] at h
      simp only [Row] at hR ⊢
      obtain ⟨b, o, e, ⟨c0, c1, c2, c3, g0, g1, g2, g3, hI⟩, hR2⟩ := hR
      have hne : b ≠ g := by
        intro e'
        subst e'
        obtain ⟨k, n, s, ks⟩ := t
        have hI2 := hI
        simp only [Is] at hI2
        obtain ⟨rfl, _⟩ := hI2
        exact valid_kind h0 (hz o k g0)
      have hb := hk b hne
      exact ⟨b, o, e, ⟨c0, c1, c2, c3, by rw [cell_block hb]; exact g0, by rw [cell_block hb]; exact g1, by rw [cell_block hb]; exact g2, by rw [cell_block hb]; exact g3, ht h0 _ _ _ _ hI⟩, hts h _ hR2⟩
    · rw [if_neg h0] at h; exact absurd h h0
theorem row_keep {w w' : World} {g : Nat} (hk : ∀ b, b ≠ g → w'.heap[b]? = w.heap[b]?) (hz : ∀ (o : Nat) (n : Int), w.cell? ⟨g, o, none⟩ = some (.int .i64 n) → n = 0) : ∀ (ts : List Tm) (xa : Option Addr), (∀ t ∈ ts, nodesE t = 0) → Row w ts xa → Row w' ts xa
  | [], _, _, _ => by simp [Row]
  | t :: ts, xa, h, hR => by
    simp only [Row] at hR ⊢
    obtain ⟨b, o, e, ⟨c0, c1, c2, c3, g0, g1, g2, g3, hI⟩, hR2⟩ := hR
    have h0 := h t (List.mem_cons_self ..)
    have hne : b ≠ g := by
      intro e'
      subst e'
      obtain ⟨k, n, s, ks⟩ := t
      have hI2 := hI
      simp only [Is] at hI2
      obtain ⟨rfl, _⟩ := hI2
      exact valid_kind h0 (hz o k g0)
    have hb := hk b hne
    exact ⟨b, o, e, ⟨c0, c1, c2, c3, by rw [cell_block hb]; exact g0, by rw [cell_block hb]; exact g1, by rw [cell_block hb]; exact g2, by rw [cell_block hb]; exact g3, is_keep hk hz t h0 _ _ _ _ hI⟩, row_keep hk hz ts _ (fun u hu => h u (List.mem_cons_of_mem _ hu)) hR2⟩
theorem flat_nodes {bs : List Bd} (h : validB bs = 0) : ∀ t ∈ flatB bs, nodesE t = 0 := by
  have h2 := (valid_facts h).1
  clear h
  induction bs with
  | nil => simp [flatB]
  | cons b bs ih =>
    obtain ⟨p1, _, _, p4, _⟩ := bindE_parts (h2 b (List.mem_cons_self ..))
    intro t ht
    simp only [flatB, List.mem_cons] at ht
    rcases ht with rfl | rfl | ht
    · exact validE_nodes p1
    · exact validE_nodes p4
    · exact ih (fun c hc => h2 c (List.mem_cons_of_mem _ hc)) t ht

/-- Behind the drafts: both substitutions and the term, which lies in a box. -/
def LawR (w3 wc : World) (v7 v8 v9 : Value) : Prop := ∃ (ss ts : List Bd) (t : Tm) (xs xt : Option Addr) (cs ct g : Nat) (k s : Int) (nm : ByteArray) (xk : Option Addr) (lk ck : Nat), v7 = .slice xs ss.length cs ∧ v8 = .slice xt ts.length ct ∧ v9 = .pointer (some ⟨g, 0, none⟩) ∧
  (ss.length ≤ cs ∧ validB ss = 0 ∧ Row wc (flatB ss) xs) ∧ (ts.length ≤ ct ∧ validB ts = 0 ∧ Row wc (flatB ts) xt) ∧ ((size t ≤ 31 ∧ nodesE t = 0) ∧ Is wc t (.int .i64 k) (.string nm) (.int .i64 s) (.slice xk lk ck)) ∧
  wc.heap[g]? = some (.cells #[.int .i64 k, .string nm, .int .i64 s, .slice xk lk ck] 25 (0, 0)) ∧ Ext w3 wc
theorem lawR_new {w3 u3 : World} {ss ts : List Bd} {t : Tm} {xs xt xk : Option Addr} {cs ct lk ck : Nat} {k s : Int} {nm : ByteArray} (h1 : ss.length ≤ cs ∧ validB ss = 0) (h2 : ts.length ≤ ct ∧ validB ts = 0) (h3 : size t ≤ 31 ∧ nodesE t = 0)
    (r1 : Row u3 (flatB ss) xs) (r2 : Row u3 (flatB ts) xt) (hI : Is u3 t (.int .i64 k) (.string nm) (.int .i64 s) (.slice xk lk ck)) (hE : Ext w3 u3) :
    LawR w3 (u3.alloc (.cells #[.int .i64 k, .string nm, .int .i64 s, .slice xk lk ck] 25)) (.slice xs ss.length cs) (.slice xt ts.length ct) (.pointer (some ⟨u3.heap.size, 0, none⟩)) :=
  ⟨ss, ts, t, xs, xt, cs, ct, _, k, s, nm, xk, lk, ck, rfl, rfl, rfl, ⟨h1.1, h1.2, Row_below r1 ((Ext.refl u3).alloc _)⟩, ⟨h2.1, h2.2, Row_below r2 ((Ext.refl u3).alloc _)⟩, ⟨h3, Is_alloc hI _⟩, heap_alloc_new _ _, hE.alloc _⟩
theorem lawR_put {w3 u3 : World} {g : Nat} {ss ts : List Bd} {t : Tm} {xs xt xk : Option Addr} {cs ct lk ck : Nat} {k s : Int} {nm : ByteArray} (hg : w3.heap.size ≤ g) (hz : u3.heap[g]? = some (.cells #[.int .i64 0, .string ⟨#[]⟩, .int .i64 0, .slice none 0 0] 25 (0, 0))) (h1 : ss.length ≤ cs ∧ validB ss = 0) (h2 : ts.length ≤ ct ∧ validB ts = 0) (h3 : size t ≤ 31 ∧ nodesE t = 0)
    (r1 : Row u3 (flatB ss) xs) (r2 : Row u3 (flatB ts) xt) (hI : Is u3 t (.int .i64 k) (.string nm) (.int .i64 s) (.slice xk lk ck)) (hE : Ext w3 u3) :
    LawR w3 (put4 u3 g 0 (.int .i64 k) (.string nm) (.int .i64 s) (.slice xk lk ck)) (.slice xs ss.length cs) (.slice xt ts.length ct) (.pointer (some ⟨g, 0, none⟩)) := by
  have hk : ∀ b, b ≠ g → (put4 u3 g 0 (.int .i64 k) (.string nm) (.int .i64 s) (.slice xk lk ck)).heap[b]? = u3.heap[b]? := fun b hb => put4_other _ _ _ _ _ _ _ _ hb
  have hz' : ∀ (o : Nat) (n : Int), u3.cell? ⟨g, o, none⟩ = some (.int .i64 n) → n = 0 := by
    intro o n h
    unfold World.cell? at h
    simp only [hz] at h
    match o with
    | 0 => simpa using h.symm
    | 1 => simp at h
    | 2 => simpa using h.symm
    | 3 => simp at h
    | o + 4 => simp at h
  exact ⟨ss, ts, t, xs, xt, cs, ct, g, k, s, nm, xk, lk, ck, rfl, rfl, rfl, ⟨h1.1, h1.2, row_keep hk hz' _ _ (flat_nodes h1.2) r1⟩, ⟨h2.1, h2.2, row_keep hk hz' _ _ (flat_nodes h2.2) r2⟩, ⟨h3, is_keep hk hz' t h3.2 _ _ _ _ hI⟩, put4_box hz, put4_below hE hg⟩

set_option maxHeartbeats 3200000 in
set_option maxRecDepth 100000 in
theorem laws_N1 (HA : Hid Awake2Ok) (x0 x1 x2 y0 y1 y2 zb : Option Addr) (l0 l1 l2 k0 k1 k2 p0 p1 p2 q0 q1 q2 lb kb : Nat) (m n : Int) (w : World) (hL : Laid w) (h1 : ¬ (l0 ≤ 30 ∧ l1 ≤ 30 ∧ l2 ≤ 30)) :
    Calls Tryd.prog 8 #[.agg #[.slice x0 l0 k0, .slice x1 l1 k1, .slice x2 l2 k2, .int .u8 m], .agg #[.slice y0 p0 q0, .slice y1 p1 q1, .slice y2 p2 q2, .int .u8 n], .slice zb lb kb] w fun e w' => e = .returned (.bool true) ∧ Below w.heap.size w w' := by
  have HL := Lib.hid hL
  have HX : Hid (Ext w ((w.alloc (.cells #[.slice x0 l0 k0, .slice x1 l1 k1, .slice x2 l2 k2, .int .u8 m] 49)).alloc (.cells #[.slice y0 p0 q0, .slice y1 p1 q1, .slice y2 p2 q2, .int .u8 n] 49))) := ((Ext.refl w).alloc _).alloc _
  have HC : Hid (∀ W, Ext ((w.alloc (.cells #[.slice x0 l0 k0, .slice x1 l1 k1, .slice x2 l2 k2, .int .u8 m] 49)).alloc (.cells #[.slice y0 p0 q0, .slice y1 p1 q1, .slice y2 p2 q2, .int .u8 n] 49)) W → W.cell? ⟨w.heap.size, 0, none⟩ = some (.slice x0 l0 k0) ∧ W.cell? ⟨w.heap.size, 1, none⟩ = some (.slice x1 l1 k1) ∧ W.cell? ⟨w.heap.size, 2, none⟩ = some (.slice x2 l2 k2) ∧ W.cell? ⟨w.heap.size, 3, none⟩ = some (.int .u8 m) ∧ W.cell? ⟨w.heap.size + 1, 0, none⟩ = some (.slice y0 p0 q0) ∧ W.cell? ⟨w.heap.size + 1, 1, none⟩ = some (.slice y1 p1 q1) ∧ W.cell? ⟨w.heap.size + 1, 2, none⟩ = some (.slice y2 p2 q2) ∧ W.cell? ⟨w.heap.size + 1, 3, none⟩ = some (.int .u8 n)) := fun W h => boxes_two h
  have HF1 := Lib.hid (few_draft x0 x1 x2 l0 l1 l2 k0 k1 k2 m)
  rw [decide_eq_false h1] at HF1
  clear h1
  have tok1 : True := trivial
  have tok2 : True := trivial
  clear hL
  go_enter Tryd.func8, Tryd.ntmps8
  go_wp2_with (first
    | (go_at_call 15; have _t := tok1; refine (HA.out _ (Laid_ext HL.out HX.out)).mono ?_; rintro e w1 ⟨he, hB1⟩; subst he; have HB1 : Hid (Ext ((w.alloc (.cells #[.slice x0 l0 k0, .slice x1 l1 k1, .slice x2 l2 k2, .int .u8 m] 49)).alloc (.cells #[.slice y0 p0 q0, .slice y1 p1 q1, .slice y2 p2 q2, .int .u8 n] 49)) w1) := Lib.hid hB1; obtain ⟨a0, a1, a2, a3, b0, b1, b2, b3⟩ := HC.out _ HB1.out; clear hB1 tok1)
    | (go_at_call 15; refine (HA.out _ (Laid_ext HL.out (Ext.trans HX.out HB2.out))).mono ?_; rintro e w3 ⟨he, hB⟩; subst he; have HB3 := Lib.hid (Ext.trans HB2.out hB); clear hB)
    | (go_at_call 31; refine (HF1.out _).mono ?_; rintro e w2 ⟨he, hB⟩; subst he; have HB2 := Lib.hid (Ext.trans HB1.out hB); clear a0 a1 a2 a3 b0 b1 b2 b3; obtain ⟨a0, a1, a2, a3, b0, b1, b2, b3⟩ := HC.out _ HB2.out; clear hB))
  go_ret
  exact ⟨rfl, Ext.trans (a := w) HX.out HB3.out⟩
set_option maxHeartbeats 3200000 in
set_option maxRecDepth 100000 in
theorem laws_N2 (HA : Hid Awake2Ok) (x0 x1 x2 y0 y1 y2 zb : Option Addr) (l0 l1 l2 k0 k1 k2 p0 p1 p2 q0 q1 q2 lb kb : Nat) (m n : Int) (w : World) (hL : Laid w) (h1 : l0 ≤ 30 ∧ l1 ≤ 30 ∧ l2 ≤ 30) (h2 : ¬ (p0 ≤ 30 ∧ p1 ≤ 30 ∧ p2 ≤ 30)) :
    Calls Tryd.prog 8 #[.agg #[.slice x0 l0 k0, .slice x1 l1 k1, .slice x2 l2 k2, .int .u8 m], .agg #[.slice y0 p0 q0, .slice y1 p1 q1, .slice y2 p2 q2, .int .u8 n], .slice zb lb kb] w fun e w' => e = .returned (.bool true) ∧ Below w.heap.size w w' := by
  have HL := Lib.hid hL
  have HX : Hid (Ext w ((w.alloc (.cells #[.slice x0 l0 k0, .slice x1 l1 k1, .slice x2 l2 k2, .int .u8 m] 49)).alloc (.cells #[.slice y0 p0 q0, .slice y1 p1 q1, .slice y2 p2 q2, .int .u8 n] 49))) := ((Ext.refl w).alloc _).alloc _
  have HC : Hid (∀ W, Ext ((w.alloc (.cells #[.slice x0 l0 k0, .slice x1 l1 k1, .slice x2 l2 k2, .int .u8 m] 49)).alloc (.cells #[.slice y0 p0 q0, .slice y1 p1 q1, .slice y2 p2 q2, .int .u8 n] 49)) W → W.cell? ⟨w.heap.size, 0, none⟩ = some (.slice x0 l0 k0) ∧ W.cell? ⟨w.heap.size, 1, none⟩ = some (.slice x1 l1 k1) ∧ W.cell? ⟨w.heap.size, 2, none⟩ = some (.slice x2 l2 k2) ∧ W.cell? ⟨w.heap.size, 3, none⟩ = some (.int .u8 m) ∧ W.cell? ⟨w.heap.size + 1, 0, none⟩ = some (.slice y0 p0 q0) ∧ W.cell? ⟨w.heap.size + 1, 1, none⟩ = some (.slice y1 p1 q1) ∧ W.cell? ⟨w.heap.size + 1, 2, none⟩ = some (.slice y2 p2 q2) ∧ W.cell? ⟨w.heap.size + 1, 3, none⟩ = some (.int .u8 n)) := fun W h => boxes_two h
  have HF1 := Lib.hid (few_draft x0 x1 x2 l0 l1 l2 k0 k1 k2 m)
  rw [decide_eq_true h1] at HF1
  have HF2 := Lib.hid (few_draft y0 y1 y2 p0 p1 p2 q0 q1 q2 n)
  rw [decide_eq_false h2] at HF2
  clear h1 h2
  have tok1 : True := trivial
  have tok2 : True := trivial
  clear hL
  go_enter Tryd.func8, Tryd.ntmps8
  go_wp2_with (first
    | (go_at_call 15; have _t := tok1; refine (HA.out _ (Laid_ext HL.out HX.out)).mono ?_; rintro e w1 ⟨he, hB1⟩; subst he; have HB1 : Hid (Ext ((w.alloc (.cells #[.slice x0 l0 k0, .slice x1 l1 k1, .slice x2 l2 k2, .int .u8 m] 49)).alloc (.cells #[.slice y0 p0 q0, .slice y1 p1 q1, .slice y2 p2 q2, .int .u8 n] 49)) w1) := Lib.hid hB1; obtain ⟨a0, a1, a2, a3, b0, b1, b2, b3⟩ := HC.out _ HB1.out; clear hB1 tok1)
    | (go_at_call 15; refine (HA.out _ (Laid_ext HL.out (Ext.trans HX.out HB3.out))).mono ?_; rintro e w4 ⟨he, hB⟩; subst he; have HB4 := Lib.hid (Ext.trans HB3.out hB); clear hB)
    | (go_at_call 31; have _t := tok2; refine (HF1.out _).mono ?_; rintro e w2 ⟨he, hB⟩; subst he; have HB2 := Lib.hid (Ext.trans HB1.out hB); clear a0 a1 a2 a3 b0 b1 b2 b3; obtain ⟨a0, a1, a2, a3, b0, b1, b2, b3⟩ := HC.out _ HB2.out; clear hB tok2)
    | (go_at_call 31; refine (HF2.out _).mono ?_; rintro e w3 ⟨he, hB⟩; subst he; have HB3 := Lib.hid (Ext.trans HB2.out hB); clear a0 a1 a2 a3 b0 b1 b2 b3; obtain ⟨a0, a1, a2, a3, b0, b1, b2, b3⟩ := HC.out _ HB3.out; clear hB))
  go_ret
  exact ⟨rfl, Ext.trans (a := w) HX.out HB4.out⟩
set_option maxHeartbeats 3200000 in
set_option maxRecDepth 100000 in
theorem laws_N3 (HA : Hid Awake2Ok) (x0 x1 x2 y0 y1 y2 zb : Option Addr) (l0 l1 l2 k0 k1 k2 p0 p1 p2 q0 q1 q2 lb kb : Nat) (m n : Int) (w : World) (hL : Laid w) (h1 : l0 ≤ 30 ∧ l1 ≤ 30 ∧ l2 ≤ 30) (h2 : p0 ≤ 30 ∧ p1 ≤ 30 ∧ p2 ≤ 30) (h3 : 30 < lb) :
    Calls Tryd.prog 8 #[.agg #[.slice x0 l0 k0, .slice x1 l1 k1, .slice x2 l2 k2, .int .u8 m], .agg #[.slice y0 p0 q0, .slice y1 p1 q1, .slice y2 p2 q2, .int .u8 n], .slice zb lb kb] w fun e w' => e = .returned (.bool true) ∧ Below w.heap.size w w' := by
  have HL := Lib.hid hL
  have HX : Hid (Ext w ((w.alloc (.cells #[.slice x0 l0 k0, .slice x1 l1 k1, .slice x2 l2 k2, .int .u8 m] 49)).alloc (.cells #[.slice y0 p0 q0, .slice y1 p1 q1, .slice y2 p2 q2, .int .u8 n] 49))) := ((Ext.refl w).alloc _).alloc _
  have HC : Hid (∀ W, Ext ((w.alloc (.cells #[.slice x0 l0 k0, .slice x1 l1 k1, .slice x2 l2 k2, .int .u8 m] 49)).alloc (.cells #[.slice y0 p0 q0, .slice y1 p1 q1, .slice y2 p2 q2, .int .u8 n] 49)) W → W.cell? ⟨w.heap.size, 0, none⟩ = some (.slice x0 l0 k0) ∧ W.cell? ⟨w.heap.size, 1, none⟩ = some (.slice x1 l1 k1) ∧ W.cell? ⟨w.heap.size, 2, none⟩ = some (.slice x2 l2 k2) ∧ W.cell? ⟨w.heap.size, 3, none⟩ = some (.int .u8 m) ∧ W.cell? ⟨w.heap.size + 1, 0, none⟩ = some (.slice y0 p0 q0) ∧ W.cell? ⟨w.heap.size + 1, 1, none⟩ = some (.slice y1 p1 q1) ∧ W.cell? ⟨w.heap.size + 1, 2, none⟩ = some (.slice y2 p2 q2) ∧ W.cell? ⟨w.heap.size + 1, 3, none⟩ = some (.int .u8 n)) := fun W h => boxes_two h
  have HF1 := Lib.hid (few_draft x0 x1 x2 l0 l1 l2 k0 k1 k2 m)
  rw [decide_eq_true h1] at HF1
  have HF2 := Lib.hid (few_draft y0 y1 y2 p0 p1 p2 q0 q1 q2 n)
  rw [decide_eq_true h2] at HF2
  have e3 : decide ((30 : Int) < (lb : Int)) = true := by simp; omega
  clear h1 h2 h3
  have tok1 : True := trivial
  have tok2 : True := trivial
  clear hL
  go_enter Tryd.func8, Tryd.ntmps8
  go_wp2_with (first
    | (go_at_call 15; have _t := tok1; refine (HA.out _ (Laid_ext HL.out HX.out)).mono ?_; rintro e w1 ⟨he, hB1⟩; subst he; have HB1 : Hid (Ext ((w.alloc (.cells #[.slice x0 l0 k0, .slice x1 l1 k1, .slice x2 l2 k2, .int .u8 m] 49)).alloc (.cells #[.slice y0 p0 q0, .slice y1 p1 q1, .slice y2 p2 q2, .int .u8 n] 49)) w1) := Lib.hid hB1; obtain ⟨a0, a1, a2, a3, b0, b1, b2, b3⟩ := HC.out _ HB1.out; clear hB1 tok1)
    | (go_at_call 15; refine (HA.out _ (Laid_ext HL.out (Ext.trans HX.out HB3.out))).mono ?_; rintro e w4 ⟨he, hB⟩; subst he; have HB4 := Lib.hid (Ext.trans HB3.out hB); clear hB)
    | (go_at_call 31; have _t := tok2; refine (HF1.out _).mono ?_; rintro e w2 ⟨he, hB⟩; subst he; have HB2 := Lib.hid (Ext.trans HB1.out hB); clear a0 a1 a2 a3 b0 b1 b2 b3; obtain ⟨a0, a1, a2, a3, b0, b1, b2, b3⟩ := HC.out _ HB2.out; clear hB tok2)
    | (go_at_call 31; refine (HF2.out _).mono ?_; rintro e w3 ⟨he, hB⟩; subst he; have HB3 := Lib.hid (Ext.trans HB2.out hB); clear a0 a1 a2 a3 b0 b1 b2 b3; obtain ⟨a0, a1, a2, a3, b0, b1, b2, b3⟩ := HC.out _ HB3.out; clear hB))
  go_ret
  exact ⟨rfl, Ext.trans (a := w) HX.out HB4.out⟩
set_option maxHeartbeats 12800000 in
set_option maxRecDepth 100000 in
theorem laws_S (HA : Hid Awake2Ok) (x0 x1 x2 y0 y1 y2 zb : Option Addr) (l0 l1 l2 k0 k1 k2 p0 p1 p2 q0 q1 q2 lb kb : Nat) (m n : Int) (w : World) (hL : Laid w) (hm : 0 ≤ m ∧ m < 256) (hn : 0 ≤ n ∧ n < 256) (hB0 : Byts w x0 l0) (hB1 : Byts w x1 l1) (hB2 : Byts w x2 l2) (hD0 : Byts w y0 p0) (hD1 : Byts w y1 p1) (hD2 : Byts w y2 p2) (hZ : Byts w zb lb) (h1 : l0 ≤ 30 ∧ l1 ≤ 30 ∧ l2 ≤ 30) (h2 : p0 ≤ 30 ∧ p1 ≤ 30 ∧ p2 ≤ 30) (h3 : lb ≤ 30) :
    Calls Tryd.prog 8 #[.agg #[.slice x0 l0 k0, .slice x1 l1 k1, .slice x2 l2 k2, .int .u8 m], .agg #[.slice y0 p0 q0, .slice y1 p1 q1, .slice y2 p2 q2, .int .u8 n], .slice zb lb kb] w fun e w' => e = .returned (.bool true) ∧ Below w.heap.size w w' := by
  have HL := Lib.hid hL
  have HX : Hid (Ext w ((w.alloc (.cells #[.slice x0 l0 k0, .slice x1 l1 k1, .slice x2 l2 k2, .int .u8 m] 49)).alloc (.cells #[.slice y0 p0 q0, .slice y1 p1 q1, .slice y2 p2 q2, .int .u8 n] 49))) := ((Ext.refl w).alloc _).alloc _
  have HC : Hid (∀ W, Ext ((w.alloc (.cells #[.slice x0 l0 k0, .slice x1 l1 k1, .slice x2 l2 k2, .int .u8 m] 49)).alloc (.cells #[.slice y0 p0 q0, .slice y1 p1 q1, .slice y2 p2 q2, .int .u8 n] 49)) W → W.cell? ⟨w.heap.size, 0, none⟩ = some (.slice x0 l0 k0) ∧ W.cell? ⟨w.heap.size, 1, none⟩ = some (.slice x1 l1 k1) ∧ W.cell? ⟨w.heap.size, 2, none⟩ = some (.slice x2 l2 k2) ∧ W.cell? ⟨w.heap.size, 3, none⟩ = some (.int .u8 m) ∧ W.cell? ⟨w.heap.size + 1, 0, none⟩ = some (.slice y0 p0 q0) ∧ W.cell? ⟨w.heap.size + 1, 1, none⟩ = some (.slice y1 p1 q1) ∧ W.cell? ⟨w.heap.size + 1, 2, none⟩ = some (.slice y2 p2 q2) ∧ W.cell? ⟨w.heap.size + 1, 3, none⟩ = some (.int .u8 n)) := fun W h => boxes_two h
  have HF1 := Lib.hid (few_draft x0 x1 x2 l0 l1 l2 k0 k1 k2 m)
  rw [decide_eq_true h1] at HF1
  have HF2 := Lib.hid (few_draft y0 y1 y2 p0 p1 p2 q0 q1 q2 n)
  rw [decide_eq_true h2] at HF2
  have e3 : decide ((30 : Int) < (lb : Int)) = false := by simp; omega
  have HBB := Lib.hid (fun W (x : Ext w W) => And.intro (made_any x0 x1 x2 l0 l1 l2 k0 k1 k2 m W hm (hB0.below x) (hB1.below x) (hB2.below x)) (And.intro (made_any y0 y1 y2 p0 p1 p2 q0 q1 q2 n W hn (hD0.below x) (hD1.below x) (hD2.below x)) (grown_any zb lb kb W (hZ.below x))))
  have tok1 : True := trivial
  have tok2 : True := trivial
  have tok3 : True := trivial
  have tokA : True := trivial
  clear hL h1 h2 h3 hm hn hB0 hB1 hB2 hD0 hD1 hD2 hZ
  go_enter Tryd.func8, Tryd.ntmps8
  go_upto_region 3 with (first
    | (go_at_call 15; have _t := tok1; refine (HA.out _ (Laid_ext HL.out HX.out)).mono ?_; rintro e w1 ⟨he, hB1⟩; subst he; have HB1 : Hid (Ext ((w.alloc (.cells #[.slice x0 l0 k0, .slice x1 l1 k1, .slice x2 l2 k2, .int .u8 m] 49)).alloc (.cells #[.slice y0 p0 q0, .slice y1 p1 q1, .slice y2 p2 q2, .int .u8 n] 49)) w1) := Lib.hid hB1; obtain ⟨a0, a1, a2, a3, b0, b1, b2, b3⟩ := HC.out _ HB1.out; clear hB1 tok1)
    | (go_at_call 31; have _t := tok2; refine (HF1.out _).mono ?_; rintro e w2 ⟨he, hB⟩; subst he; have HB2 := Lib.hid (Ext.trans HB1.out hB); clear a0 a1 a2 a3 b0 b1 b2 b3; obtain ⟨a0, a1, a2, a3, b0, b1, b2, b3⟩ := HC.out _ HB2.out; clear hB tok2)
    | (go_at_call 31; refine (HF2.out _).mono ?_; rintro e w3 ⟨he, hB⟩; subst he; have HB3 := Lib.hid (Ext.trans HB2.out hB); clear a0 a1 a2 a3 b0 b1 b2 b3; obtain ⟨a0, a1, a2, a3, b0, b1, b2, b3⟩ := HC.out _ HB3.out; clear hB))
  clear a0 a1 a2 a3 b0 b1 b2 b3
  have HC3 : Hid (∀ W, Ext w3 W → (W.cell? ⟨w.heap.size, 0, none⟩ = some (.slice x0 l0 k0) ∧ W.cell? ⟨w.heap.size, 1, none⟩ = some (.slice x1 l1 k1) ∧ W.cell? ⟨w.heap.size, 2, none⟩ = some (.slice x2 l2 k2) ∧ W.cell? ⟨w.heap.size, 3, none⟩ = some (.int .u8 m) ∧ W.cell? ⟨w.heap.size + 1, 0, none⟩ = some (.slice y0 p0 q0) ∧ W.cell? ⟨w.heap.size + 1, 1, none⟩ = some (.slice y1 p1 q1) ∧ W.cell? ⟨w.heap.size + 1, 2, none⟩ = some (.slice y2 p2 q2) ∧ W.cell? ⟨w.heap.size + 1, 3, none⟩ = some (.int .u8 n)) ∧ Ext w W) := fun W h => ⟨HC.out W (Ext.trans HB3.out h), Ext.trans (a := w) HX.out (Ext.trans HB3.out h)⟩
  clear HC HB1 HB2 HB3 HL HX
  obtain ⟨⟨a0, a1, a2, a3, b0, b1, b2, b3⟩, _⟩ := HC3.out w3 (Ext.refl w3)
  have hF0 : Ext w3 w3.drew := (Ext.refl w3).drew
  go_cut [7, 8, 9] (fun s7 s8 s9 wc => LawR w3 wc s7 s8 s9)
  case first =>
    go_region_held3 (fun W => W.cell? ⟨w.heap.size, 0, none⟩ = some (.slice x0 l0 k0) ∧ W.cell? ⟨w.heap.size, 1, none⟩ = some (.slice x1 l1 k1) ∧ W.cell? ⟨w.heap.size, 2, none⟩ = some (.slice x2 l2 k2) ∧ W.cell? ⟨w.heap.size, 3, none⟩ = some (.int .u8 m) ∧ W.cell? ⟨w.heap.size + 1, 0, none⟩ = some (.slice y0 p0 q0) ∧ W.cell? ⟨w.heap.size + 1, 1, none⟩ = some (.slice y1 p1 q1) ∧ W.cell? ⟨w.heap.size + 1, 2, none⟩ = some (.slice y2 p2 q2) ∧ W.cell? ⟨w.heap.size + 1, 3, none⟩ = some (.int .u8 n))
      (first | (refine (HC3.out _ ?_).1; (first | (have _t := tokD; (first | exact hF3 | exact hF3.alloc _ | (have hz := HZc1.out; have r2 := put4_below (w' := u3) (g := w3.heap.size) (o := 0) (c0 := (.int .i64 k)) (c1 := (.string nm)) (c2 := (.int .i64 s)) (c3 := (.slice xk lk ck)) hF3 (by have h1 := hF1.size; have h2 := hF2.size; omega); simp only [put4, Nat.zero_add] at r2; exact r2) | (have hz := HZc2.out; have r2 := put4_below (w' := u3) (g := u1.heap.size) (o := 0) (c0 := (.int .i64 k)) (c1 := (.string nm)) (c2 := (.int .i64 s)) (c3 := (.slice xk lk ck)) hF3 (by have h1 := hF1.size; have h2 := hF2.size; omega); simp only [put4, Nat.zero_add] at r2; exact r2) | (have hz := HZc3.out; have r2 := put4_below (w' := u3) (g := u2.heap.size) (o := 0) (c0 := (.int .i64 k)) (c1 := (.string nm)) (c2 := (.int .i64 s)) (c3 := (.slice xk lk ck)) hF3 (by have h1 := hF1.size; have h2 := hF2.size; omega); simp only [put4, Nat.zero_add] at r2; exact r2))) | (have _t := tokC; (first | exact hF2 | exact hF2.alloc _)) | (have _t := tokB; (first | exact hF1 | exact hF1.alloc _)) | (have _t := tokA; (first | exact hF0 | exact Ext.drew (Ext.alloc (Ext.refl w3) _))))) | go_keep)
      (first
        | (go_at_call 32; (first
            | (have _t := tok3; refine (HBB.out _ (HC3.out _ (by first | exact hF0 | exact Ext.drew (Ext.alloc (Ext.refl w3) _))).2).1.mono ?_; rintro e u1 ⟨ss, xs, cs, he, hcs, hR, _, _, hv, hE⟩; subst he; have hF1 : Ext w3 u1 := Ext.trans (by first | exact hF0 | exact Ext.drew (Ext.alloc (Ext.refl w3) _)) hE; (first | (have HZa1 := Lib.hid ((hE.block w3.heap.size (by simp)).trans (heap_alloc_new w3 _))) | skip); have HRs : Hid (∀ W, Ext u1 W → Row W (flatB ss) xs) := (fun W h => Row_below hR h); have HS := Lib.hid (And.intro hcs hv); clear hcs hR hv hE tok3 tokA; have tokB : True := trivial)
            | (refine (HBB.out _ (HC3.out _ (by first | exact hF1 | exact hF1.alloc _)).2).2.1.mono ?_; rintro e u2 ⟨ts, xt, ct, he, hct, hR, _, _, hv, hE⟩; subst he; have hFab : Ext u1 u2 := Ext.trans (by first | exact Ext.refl u1 | exact (Ext.refl u1).alloc _) hE; have hF2 : Ext w3 u2 := Ext.trans hF1 hFab; (first | (have HZb1 := Lib.hid ((hE.block w3.heap.size (by have := heap_lt2 HZa1.out; omega)).trans HZa1.out)) | (have HZb2 := Lib.hid ((hE.block u1.heap.size (by simp)).trans (heap_alloc_new u1 _))) | skip); have HRt : Hid (∀ W, Ext u2 W → Row W (flatB ts) xt) := (fun W h => Row_below hR h); have HT := Lib.hid (And.intro hct hv); clear hct hR hv hE tokB; have tokC : True := trivial)))
        | (go_at_call 33; refine (HBB.out _ (HC3.out _ (by first | exact hF2 | exact hF2.alloc _)).2).2.2.mono ?_; rintro e u3 ⟨t, k, nm, s, xk, lk, ck, he, hI, hsz, hE⟩; subst he; have hFbc : Ext u2 u3 := Ext.trans (by first | exact Ext.refl u2 | exact (Ext.refl u2).alloc _) hE; have hF3 : Ext w3 u3 := Ext.trans hF2 hFbc; (first | (have HZc1 := Lib.hid ((hE.block w3.heap.size (by have := heap_lt2 HZb1.out; omega)).trans HZb1.out); obtain ⟨⟨z0, z1, z2, z3⟩, zf0, zf1, zf2, zf3⟩ := box_facts (w := u3) (b := w3.heap.size) HZc1.out) | (have HZc2 := Lib.hid ((hE.block u1.heap.size (by have := heap_lt2 HZb2.out; omega)).trans HZb2.out); obtain ⟨⟨z0, z1, z2, z3⟩, zf0, zf1, zf2, zf3⟩ := box_facts (w := u3) (b := u1.heap.size) HZc2.out) | (have HZc3 := Lib.hid ((hE.block u2.heap.size (by simp)).trans (heap_alloc_new u2 _)); obtain ⟨⟨z0, z1, z2, z3⟩, zf0, zf1, zf2, zf3⟩ := box_facts (w := u3) (b := u2.heap.size) HZc3.out) | skip); have HIt := Lib.hid (IsIn_Is _ _ _ _ _ hI); have HU := Lib.hid hsz; clear hI hsz hE tokC; have tokD : True := trivial))
    all_goals go_wp2_with fail
    all_goals go_meet
    all_goals have hs1 := hF1.size
    all_goals have hs2 := hF2.size
    all_goals have rs := HRs.out u3 (Ext.trans hFab hFbc)
    all_goals have rt := HRt.out u3 hFbc
    all_goals first
      | (have r := lawR_put (g := w3.heap.size) (by omega) HZc1.out HS.out HT.out HU.out rs rt HIt.out hF3
         simp only [put4, Nat.zero_add] at r
         exact r)
      | (have r := lawR_put (g := u1.heap.size) (by omega) HZc2.out HS.out HT.out HU.out rs rt HIt.out hF3
         simp only [put4, Nat.zero_add] at r
         exact r)
      | (have r := lawR_put (g := u2.heap.size) (by omega) HZc3.out HS.out HT.out HU.out rs rt HIt.out hF3
         simp only [put4, Nat.zero_add] at r
         exact r)
      | exact lawR_new HS.out HT.out HU.out rs rt HIt.out hF3
  case rest =>
  obtain ⟨ss, ts, t, xs, xt, cs, ct, g0, k, s, nm, xk, lk, ck, rfl, rfl, rfl, ⟨hcs, hv1, rs⟩, ⟨hct, hv2, rt⟩, ⟨hu, hIt⟩, hb, hE⟩ := hcut
  have HF : Hid (∀ W, Ext wc W → Ext w W) := fun W h => (HC3.out W (Ext.trans hE h)).2
  replace HF : Hid (∀ W, Ext wc W → (W.cell? ⟨g0, 0, none⟩ = some (.int .i64 k) ∧ W.cell? ⟨g0, 1, none⟩ = some (.string nm) ∧ W.cell? ⟨g0, 2, none⟩ = some (.int .i64 s) ∧ W.cell? ⟨g0, 3, none⟩ = some (.slice xk lk ck)) ∧ Ext w W) := fun W h => ⟨(box_facts ((h.block g0 (heap_lt2 hb)).trans hb)).1, HF.out W h⟩
  replace HF := Lib.hid (fun W (h : Ext wc W) => And.intro (Is_below hIt h) (HF.out W h))
  replace HF := Lib.hid (fun W (h : Ext wc W) => And.intro (Row_below rt h) (HF.out W h))
  replace HF := Lib.hid (fun W (h : Ext wc W) => And.intro (Row_below rs h) (HF.out W h))
  have HCS := Lib.hid hcs
  have HCT := Lib.hid hct
  have hut : size t ≤ 400 := by omega
  have hfin := laws_fin hv1 hv2 hu.2
  have h03 := comP_03 hv1 hv2
  have va := comP_val hv1 hv2
  have vb := comP_val hv2 hv1
  have HC1 := Lib.hid (fun W a b => compose_ok ss ts hv1 hv2 xs xt cs ct W hcs a hct b)
  have HC2 := Lib.hid (fun W a b => compose_ok ts ss hv2 hv1 xt xs ct cs W hct a hcs b)
  have HA1 := Lib.hid (fun xa c W a b i => apply_ok (comP ss ts).1 va t hut xa c (.int .i64 k) (.string nm) (.int .i64 s) (.slice xk lk ck) W a b i)
  have HA2 := Lib.hid (fun W b i => apply_ok ss hv1 t hut xs cs (.int .i64 k) (.string nm) (.int .i64 s) (.slice xk lk ck) W hcs b i)
  have HA3 := Lib.hid (fun c0 c1 c2 c3 W b i => apply_ok ts hv2 (applyV ss t).1 (applyV_400 ss t) xt ct c0 c1 c2 c3 W hct b i)
  have HC4 := Lib.hid (fun xa c W p a b => compose_ok (comP ss ts).1 ss va hv1 xa xs c cs W p a hcs b)
  have HC5 := Lib.hid (fun xa c W p a b => compose_ok ss (comP ts ss).1 hv1 vb xs xa cs c W hcs a p b)
  have HV := Lib.hid (fun xa c W p r => bvalid_any (comP ss ts).1 xa c W p (by have := (valid_sz va).1; unfold maxLen; omega) (valid_sz' va) r)
  have vl := comP_val va hv1
  have HSM := Lib.hid (fun xa ya c c' W p q r r' => bsame_eq (comP (comP ss ts).1 ss).1 xa ya c c' W p q (by have := (valid_sz vl).1; unfold maxLen; omega) (valid_sz' vl) r r')
  have hz5 := applyV_400 ts (applyV ss t).1
  have HST := Lib.hid (fun c0 c1 c2 c3 d0 d1 d2 d3 W (x : Is W (applyV ts (applyV ss t).1).1 c0 c1 c2 c3) (y : Is W (applyV ts (applyV ss t).1).1 d0 d1 d2 d3) => same_any (applyV ts (applyV ss t).1).1 (applyV ts (applyV ss t).1).1 c0 c1 c2 c3 d0 d1 d2 d3 W (by omega) (by omega) x y)
  rw [cmpT_self] at HST
  clear vl hz5 hcs hct hut hu hv1 hv2 rs rt hIt hE HC3 HBB hF0 a0 a1 a2 a3 b0 b1 b2 b3 vb
  generalize comP (comP ss ts).1 ss = R6 at HC4 HSM hfin
  generalize comP ss (comP ts ss).1 = R7 at HC5 hfin
  generalize applyV (comP ss ts).1 t = R3 at HA1 hfin
  generalize applyV ts (applyV ss t).1 = R5 at HA3 HST hfin
  generalize applyV ss t = R4 at HA2 HA3 hfin
  generalize validB (comP ss ts).1 = V1 at HV hfin va
  generalize comP ss ts = R1 at HC1 HA1 HC4 HV hfin h03
  generalize comP ts ss = R2 at HC2 HC5 hfin
  obtain ⟨st, E1⟩ := R1
  obtain ⟨us, E2⟩ := R2
  obtain ⟨t3, E3⟩ := R3
  obtain ⟨t4, E4⟩ := R4
  obtain ⟨t5, E5⟩ := R5
  obtain ⟨l6, E6⟩ := R6
  obtain ⟨l7, E7⟩ := R7
  unfold RcPost at HC1 HC2 HC4 HC5
  unfold ApPost at HA1 HA2 HA3
  simp only at HC1 HC2 HA1 HA2 HA3 HC4 HC5 HV HSM HST hfin h03
  subst va
  have HFIN := Lib.hid hfin
  clear hfin
  obtain ⟨⟨y0, y1, y2, y3⟩, _⟩ := box_facts hb
  clear hb
  go_upto_region 5 with (go_at_call 29; refine (HC1.out _ (HF.out _ (Ext.refl _)).1 (HF.out _ (Ext.refl _)).2.1).mono ?_; rintro e v1 ⟨xst, cst, he, p, r, hB⟩; subst he; have HP1 := Lib.hid p; have HB : Hid (Ext wc v1) := Lib.hid hB; have HR : Hid (∀ W, Ext v1 W → Row W (flatB st) xst) := (fun W h => Row_below r h); clear p r hB y0 y1 y2 y3; obtain ⟨y0, y1, y2, y3⟩ := (HF.out v1 HB.out).2.2.2.1)
  replace HF := Lib.hid (fun W (h : Ext v1 W) => And.intro (HR.out W h) (HF.out W (Ext.trans HB.out h)))
  clear HR HB
  go_upto_region 6 with (go_at_call 29; refine (HC2.out _ (HF.out _ (Ext.refl _)).2.2.1 (HF.out _ (Ext.refl _)).2.1).mono ?_; rintro e v2 ⟨xus, cus, he, p, r, hB⟩; subst he; have HP2 := Lib.hid p; have HB : Hid (Ext v1 v2) := Lib.hid hB; have HR : Hid (∀ W, Ext v2 W → Row W (flatB us) xus) := (fun W h => Row_below r h); clear p r hB y0 y1 y2 y3; obtain ⟨y0, y1, y2, y3⟩ := (HF.out v2 HB.out).2.2.2.2.1)
  replace HF := Lib.hid (fun W (h : Ext v2 W) => And.intro (HR.out W h) (HF.out W (Ext.trans HB.out h)))
  clear HR HB
  go_upto_region 7 with (go_at_call 27; refine (HA1.out _ _ _ HP1.out (HF.out _ (Ext.refl _)).2.1 (HF.out _ (Ext.refl _)).2.2.2.2.1).mono ?_; rintro e a3 ⟨d0, d1, d2, d3, he, hI, hB⟩; subst he; obtain ⟨c3, n3, s3, q3x, q3l, q3c, e0, e1, e2, e3'⟩ := IsIn_form hI; subst e0 e1 e2 e3'; have HI := Lib.hid (IsIn_Is _ _ _ _ _ hI); have HB : Hid (Ext v2 a3) := Lib.hid hB; clear hI hB y0 y1 y2 y3; obtain ⟨y0, y1, y2, y3⟩ := (HF.out a3 HB.out).2.2.2.2.2.1)
  have hb := heap_alloc_new a3 (.cells #[.int .i64 c3, .string n3, .int .i64 s3, .slice q3x q3l q3c] 25)
  have hE : Ext v2 (a3.alloc (.cells #[.int .i64 c3, .string n3, .int .i64 s3, .slice q3x q3l q3c] 25)) := Ext.alloc HB.out _
  have hI2 : Is (a3.alloc (.cells #[.int .i64 c3, .string n3, .int .i64 s3, .slice q3x q3l q3c] 25)) t3 (.int .i64 c3) (.string n3) (.int .i64 s3) (.slice q3x q3l q3c) := Is_alloc HI.out _
  have hs : (a3.alloc (.cells #[.int .i64 c3, .string n3, .int .i64 s3, .slice q3x q3l q3c] 25)).heap.size = a3.heap.size + 1 := World.size_alloc _ _
  generalize (a3.alloc (.cells #[.int .i64 c3, .string n3, .int .i64 s3, .slice q3x q3l q3c] 25)) = v3 at hb hE hI2 hs ⊢
  generalize a3.heap.size = g3 at hb hs ⊢
  replace HF := Lib.hid (fun W (h : Ext v3 W) => And.intro (And.intro (box_facts ((h.block g3 (by omega)).trans hb)).1 (Is_below hI2 h)) (HF.out W (Ext.trans hE h)))
  clear hb hE hI2 hs HI HB y0 y1 y2 y3
  obtain ⟨y0, y1, y2, y3⟩ := (HF.out v3 (Ext.refl v3)).2.2.2.2.2.2.1
  go_upto_region 8 with (go_at_call 27; refine (HA2.out _ (HF.out _ (Ext.refl _)).2.2.2.1 (HF.out _ (Ext.refl _)).2.2.2.2.2.1).mono ?_; rintro e a4 ⟨d0, d1, d2, d3, he, hI, hB⟩; subst he; obtain ⟨c4, n4, s4, q4x, q4l, q4c, e0, e1, e2, e3'⟩ := IsIn_form hI; subst e0 e1 e2 e3'; have HI := Lib.hid (IsIn_Is _ _ _ _ _ hI); have HB : Hid (Ext v3 a4) := Lib.hid hB; clear hI hB y0 y1 y2 y3; obtain ⟨y0, y1, y2, y3⟩ := (HF.out a4 HB.out).2.2.2.2.2.2.1)
  have hb := heap_alloc_new a4 (.cells #[.int .i64 c4, .string n4, .int .i64 s4, .slice q4x q4l q4c] 25)
  have hE : Ext v3 (a4.alloc (.cells #[.int .i64 c4, .string n4, .int .i64 s4, .slice q4x q4l q4c] 25)) := Ext.alloc HB.out _
  have hI2 : Is (a4.alloc (.cells #[.int .i64 c4, .string n4, .int .i64 s4, .slice q4x q4l q4c] 25)) t4 (.int .i64 c4) (.string n4) (.int .i64 s4) (.slice q4x q4l q4c) := Is_alloc HI.out _
  have hs : (a4.alloc (.cells #[.int .i64 c4, .string n4, .int .i64 s4, .slice q4x q4l q4c] 25)).heap.size = a4.heap.size + 1 := World.size_alloc _ _
  generalize (a4.alloc (.cells #[.int .i64 c4, .string n4, .int .i64 s4, .slice q4x q4l q4c] 25)) = v4 at hb hE hI2 hs ⊢
  generalize a4.heap.size = g4 at hb hs ⊢
  replace HF := Lib.hid (fun W (h : Ext v4 W) => And.intro (And.intro (box_facts ((h.block g4 (by omega)).trans hb)).1 (Is_below hI2 h)) (HF.out W (Ext.trans hE h)))
  clear hb hE hI2 hs HI HB y0 y1 y2 y3
  obtain ⟨y0, y1, y2, y3⟩ := (HF.out v4 (Ext.refl v4)).1.1
  go_upto_region 9 with (go_at_call 27; refine (HA3.out _ _ _ _ _ (HF.out _ (Ext.refl _)).2.2.2.2.2.1 (HF.out _ (Ext.refl _)).1.2).mono ?_; rintro e a5 ⟨d0, d1, d2, d3, he, hI, hB⟩; subst he; obtain ⟨c5, n5, s5, q5x, q5l, q5c, e0, e1, e2, e3'⟩ := IsIn_form hI; subst e0 e1 e2 e3'; have HI := Lib.hid (IsIn_Is _ _ _ _ _ hI); have HB : Hid (Ext v4 a5) := Lib.hid hB; clear hI hB y0 y1 y2 y3; obtain ⟨y0, y1, y2, y3⟩ := (HF.out a5 HB.out).2.2.2.2.2.2.2.1)
  have hb := heap_alloc_new a5 (.cells #[.int .i64 c5, .string n5, .int .i64 s5, .slice q5x q5l q5c] 25)
  have hE : Ext v4 (a5.alloc (.cells #[.int .i64 c5, .string n5, .int .i64 s5, .slice q5x q5l q5c] 25)) := Ext.alloc HB.out _
  have hI2 : Is (a5.alloc (.cells #[.int .i64 c5, .string n5, .int .i64 s5, .slice q5x q5l q5c] 25)) t5 (.int .i64 c5) (.string n5) (.int .i64 s5) (.slice q5x q5l q5c) := Is_alloc HI.out _
  have hs : (a5.alloc (.cells #[.int .i64 c5, .string n5, .int .i64 s5, .slice q5x q5l q5c] 25)).heap.size = a5.heap.size + 1 := World.size_alloc _ _
  generalize (a5.alloc (.cells #[.int .i64 c5, .string n5, .int .i64 s5, .slice q5x q5l q5c] 25)) = v5 at hb hE hI2 hs ⊢
  generalize a5.heap.size = g5 at hb hs ⊢
  replace HF := Lib.hid (fun W (h : Ext v5 W) => And.intro (And.intro (box_facts ((h.block g5 (by omega)).trans hb)).1 (Is_below hI2 h)) (HF.out W (Ext.trans hE h)))
  clear hb hE hI2 hs HI HB y0 y1 y2 y3
  obtain ⟨y0, y1, y2, y3⟩ := (HF.out v5 (Ext.refl v5)).2.2.2.2.2.2.2.2.1
  go_upto_region 10 with (go_at_call 29; refine (HC4.out _ _ _ HP1.out (HF.out _ (Ext.refl _)).2.2.2.2.1 (HF.out _ (Ext.refl _)).2.2.2.2.2.1).mono ?_; rintro e v6 ⟨xl6, cl6, he, p, r, hB⟩; subst he; have HP6 := Lib.hid p; have HB : Hid (Ext v5 v6) := Lib.hid hB; have HR : Hid (∀ W, Ext v6 W → Row W (flatB l6) xl6) := (fun W h => Row_below r h); clear p r hB y0 y1 y2 y3; obtain ⟨y0, y1, y2, y3⟩ := (HF.out v6 HB.out).2.2.2.2.2.2.2.2.1)
  replace HF := Lib.hid (fun W (h : Ext v6 W) => And.intro (HR.out W h) (HF.out W (Ext.trans HB.out h)))
  clear HR HB
  go_upto_region 11 with (go_at_call 29; refine (HC5.out _ _ _ HP2.out (HF.out _ (Ext.refl _)).2.2.2.2.2.2.1 (HF.out _ (Ext.refl _)).2.2.2.2.1).mono ?_; rintro e v7 ⟨xl7, cl7, he, p, r, hB⟩; subst he; have HP7 := Lib.hid p; have HB : Hid (Ext v6 v7) := Lib.hid hB; have HR : Hid (∀ W, Ext v7 W → Row W (flatB l7) xl7) := (fun W h => Row_below r h); clear p r hB y0 y1 y2 y3; obtain ⟨y0, y1, y2, y3⟩ := (HF.out v7 HB.out).2.2.2.2.2.2.2.2.2.1)
  replace HF := Lib.hid (fun W (h : Ext v7 W) => And.intro (HR.out W h) (HF.out W (Ext.trans HB.out h)))
  clear HR HB
  clear y0 y1 y2 y3 HC1 HC2 HA1 HA2 HA3 HC4 HC5
  rcases h03 with rfl | rfl
  rotate_left
  · go_wp2_with fail
    go_ret
    exact ⟨by simp, (HF.out _ (Ext.refl _)).2.2.2.2.2.2.2.2.2.2.2⟩
  by_cases hz2 : E2 = 0
  rotate_left
  · have q2 : (E2 != 0) = true := by rw [bne_iff_ne]; exact hz2
    clear hz2
    go_wp2_with fail
    go_ret
    exact ⟨by simp, (HF.out _ (Ext.refl _)).2.2.2.2.2.2.2.2.2.2.2⟩
  subst hz2
  by_cases hz3 : E3 = 0
  rotate_left
  · have q3 : (E3 != 0) = true := by rw [bne_iff_ne]; exact hz3
    clear hz3
    go_wp2_with fail
    go_ret
    exact ⟨by simp, (HF.out _ (Ext.refl _)).2.2.2.2.2.2.2.2.2.2.2⟩
  subst hz3
  by_cases hz4 : E4 = 0
  rotate_left
  · have q4 : (E4 != 0) = true := by rw [bne_iff_ne]; exact hz4
    clear hz4
    go_wp2_with fail
    go_ret
    exact ⟨by simp, (HF.out _ (Ext.refl _)).2.2.2.2.2.2.2.2.2.2.2⟩
  subst hz4
  by_cases hz5 : E5 = 0
  rotate_left
  · have q5 : (E5 != 0) = true := by rw [bne_iff_ne]; exact hz5
    clear hz5
    go_wp2_with fail
    go_ret
    exact ⟨by simp, (HF.out _ (Ext.refl _)).2.2.2.2.2.2.2.2.2.2.2⟩
  subst hz5
  obtain ⟨f1, f2, f3⟩ := HFIN.out rfl rfl rfl rfl rfl
  clear f1
  subst f2
  have HF3 := Lib.hid f3
  clear f3 HFIN
  obtain ⟨⟨y0, y1, y2, y3⟩, _⟩ := (HF.out _ (Ext.refl _)).2.2.2.2.1
  obtain ⟨⟨z0, z1, z2, z3⟩, _⟩ := (HF.out _ (Ext.refl _)).2.2.1
  by_cases hz6 : E6 = 0
  rotate_left
  · have q6 : (E6 != 0) = true := by rw [bne_iff_ne]; exact hz6
    clear hz6
    go_wp2_with (first
      | (go_at_call 17; refine (HV.out _ _ _ HP1.out (HF.out _ (Ext.refl _)).2.2.2.2.2.2.1).mono ?_; rintro e v8 ⟨he, hB⟩; subst he; have HB8 : Hid (Ext v7 v8) := Lib.hid hB; clear hB y0 y1 y2 y3 z0 z1 z2 z3; obtain ⟨⟨y0, y1, y2, y3⟩, _⟩ := (HF.out v8 HB8.out).2.2.2.2.1; obtain ⟨⟨z0, z1, z2, z3⟩, _⟩ := (HF.out v8 HB8.out).2.2.1)
      | (go_at_call 13; refine (HST.out _ _ _ _ _ _ _ _ _ (HF.out v8 HB8.out).2.2.2.2.1.2 (HF.out v8 HB8.out).2.2.1.2).mono ?_; rintro e v9 ⟨he, hB⟩; subst he; have HB9 : Hid (Ext v7 v9) := Lib.hid (Ext.trans HB8.out hB); clear hB))
    go_ret
    exact ⟨by simp, (HF.out _ HB9.out).2.2.2.2.2.2.2.2.2.2.2⟩
  by_cases hz7 : E7 = 0
  rotate_left
  · subst hz6
    have q7 : (E7 != 0) = true := by rw [bne_iff_ne]; exact hz7
    clear hz7
    go_wp2_with (first
      | (go_at_call 17; refine (HV.out _ _ _ HP1.out (HF.out _ (Ext.refl _)).2.2.2.2.2.2.1).mono ?_; rintro e v8 ⟨he, hB⟩; subst he; have HB8 : Hid (Ext v7 v8) := Lib.hid hB; clear hB y0 y1 y2 y3 z0 z1 z2 z3; obtain ⟨⟨y0, y1, y2, y3⟩, _⟩ := (HF.out v8 HB8.out).2.2.2.2.1; obtain ⟨⟨z0, z1, z2, z3⟩, _⟩ := (HF.out v8 HB8.out).2.2.1)
      | (go_at_call 13; refine (HST.out _ _ _ _ _ _ _ _ _ (HF.out v8 HB8.out).2.2.2.2.1.2 (HF.out v8 HB8.out).2.2.1.2).mono ?_; rintro e v9 ⟨he, hB⟩; subst he; have HB9 : Hid (Ext v7 v9) := Lib.hid (Ext.trans HB8.out hB); clear hB))
    go_ret
    exact ⟨by simp, (HF.out _ HB9.out).2.2.2.2.2.2.2.2.2.2.2⟩
  have f4 := HF3.out hz6 hz7
  subst hz6 hz7 f4
  go_wp2_with (first
      | (go_at_call 17; refine (HV.out _ _ _ HP1.out (HF.out _ (Ext.refl _)).2.2.2.2.2.2.1).mono ?_; rintro e v8 ⟨he, hB⟩; subst he; have HB8 : Hid (Ext v7 v8) := Lib.hid hB; clear hB y0 y1 y2 y3 z0 z1 z2 z3; obtain ⟨⟨y0, y1, y2, y3⟩, _⟩ := (HF.out v8 HB8.out).2.2.2.2.1; obtain ⟨⟨z0, z1, z2, z3⟩, _⟩ := (HF.out v8 HB8.out).2.2.1)
      | (go_at_call 13; refine (HST.out _ _ _ _ _ _ _ _ _ (HF.out v8 HB8.out).2.2.2.2.1.2 (HF.out v8 HB8.out).2.2.1.2).mono ?_; rintro e v9 ⟨he, hB⟩; subst he; have HB9 : Hid (Ext v7 v9) := Lib.hid (Ext.trans HB8.out hB); clear hB)
      | (go_at_call 26; refine (HSM.out _ _ _ _ _ HP6.out HP7.out (HF.out _ HB9.out).2.1 (HF.out _ HB9.out).1).mono ?_; rintro e v10 ⟨he, hB⟩; subst he; have HB10 : Hid (Ext v7 v10) := Lib.hid (Ext.trans HB9.out hB); clear hB))
  go_ret
  exact ⟨by simp, (HF.out _ HB10.out).2.2.2.2.2.2.2.2.2.2.2⟩

theorem lawSl_any (HA : Awake2Ok) (x0 x1 x2 y0 y1 y2 zb : Option Addr) (l0 l1 l2 k0 k1 k2 p0 p1 p2 q0 q1 q2 lb kb : Nat) (m n : Int) (w : World) (hL : Laid w) (hm : 0 ≤ m ∧ m < 256) (hn : 0 ≤ n ∧ n < 256) (hB0 : Byts w x0 l0) (hB1 : Byts w x1 l1) (hB2 : Byts w x2 l2) (hD0 : Byts w y0 p0) (hD1 : Byts w y1 p1) (hD2 : Byts w y2 p2) (hZ : Byts w zb lb) :
    Calls Tryd.prog 8 #[.agg #[.slice x0 l0 k0, .slice x1 l1 k1, .slice x2 l2 k2, .int .u8 m], .agg #[.slice y0 p0 q0, .slice y1 p1 q1, .slice y2 p2 q2, .int .u8 n], .slice zb lb kb] w fun e w' => e = .returned (.bool true) ∧ Below w.heap.size w w' := by
  by_cases h1 : l0 ≤ 30 ∧ l1 ≤ 30 ∧ l2 ≤ 30
  rotate_left
  · exact laws_N1 (Lib.hid HA) x0 x1 x2 y0 y1 y2 zb l0 l1 l2 k0 k1 k2 p0 p1 p2 q0 q1 q2 lb kb m n w hL h1
  by_cases h2 : p0 ≤ 30 ∧ p1 ≤ 30 ∧ p2 ≤ 30
  rotate_left
  · exact laws_N2 (Lib.hid HA) x0 x1 x2 y0 y1 y2 zb l0 l1 l2 k0 k1 k2 p0 p1 p2 q0 q1 q2 lb kb m n w hL h1 h2
  by_cases h3 : 30 < lb
  · exact laws_N3 (Lib.hid HA) x0 x1 x2 y0 y1 y2 zb l0 l1 l2 k0 k1 k2 p0 p1 p2 q0 q1 q2 lb kb m n w hL h1 h2 h3
  · exact laws_S (Lib.hid HA) x0 x1 x2 y0 y1 y2 zb l0 l1 l2 k0 k1 k2 p0 p1 p2 q0 q1 q2 lb kb m n w hL hm hn hB0 hB1 hB2 hD0 hD1 hD2 hZ h1 h2 (by omega)
end Go.Proofs.YtkdnfioihhfmpaaDoor
