/-
  BINDINGS: in memory, their error; the walks of subst.sortFits, same, bindingError.
-/
import Derived.Test.YtkfbbkkfagglhaaGreatDoorValidb
import Derived.Test.YtkfbbkkfagglhaaGreatDoorCopy
namespace Go.Proofs.YtkfbbkkfagglhaaGreatDoor
open Go.RowKit

abbrev Bd := Tm × Tm
/-- The terms of a list of bindings, as they lie one behind the other. -/
def flatB : List Bd → List Tm
  | [] => []
  | b :: bs => b.1 :: b.2 :: flatB bs
theorem flatB_length : ∀ bs : List Bd, (flatB bs).length = 2 * bs.length
  | [] => rfl
  | b :: bs => by simp only [flatB, List.length_cons, flatB_length bs]; omega
theorem flatB_even : ∀ (bs : List Bd) (i : Nat) (h : i < bs.length), (flatB bs)[2 * i]? = some bs[i].1 ∧ (flatB bs)[2 * i + 1]? = some bs[i].2
  | b :: bs, 0, _ => ⟨rfl, rfl⟩
  | b :: bs, i + 1, h => by
    have := flatB_even bs i (by simpa using h)
    simp only [List.getElem_cons_succ]
    exact this
/-- A binding in a list. -/
theorem bds_get {w : World} {bs : List Bd} {b o : Nat} (h : Row w (flatB bs) (some ⟨b, o, none⟩)) (i : Nat) (hi : i < bs.length) : Lies w bs[i].1 b (o + i * 8) ∧ Lies w bs[i].2 b (o + i * 8 + 4) := by
  have hl := flatB_length bs
  obtain ⟨e1, e2⟩ := flatB_even bs i hi
  have h1 := Row_get h (2 * i) (by omega)
  have h2 := Row_get h (2 * i + 1) (by omega)
  rw [List.getElem?_eq_getElem (by omega), Option.some.injEq] at e1 e2
  rw [e1] at h1
  rw [e2] at h2
  exact ⟨by rw [show i * 8 = 2 * i * 4 by omega]; exact h1, by rw [show o + i * 8 + 4 = o + (2 * i + 1) * 4 by omega]; exact h2⟩

theorem box8_facts {w : World} {b : Nat} {c0 c1 c2 c3 c4 c5 c6 c7 : Value} {T : TypeId} (h : w.heap[b]? = some (.cells #[c0, c1, c2, c3, c4, c5, c6, c7] T (0, 0))) :
    (w.cell? ⟨b, 0, none⟩ = some c0 ∧ w.cell? ⟨b, 1, none⟩ = some c1 ∧ w.cell? ⟨b, 2, none⟩ = some c2 ∧ w.cell? ⟨b, 3, none⟩ = some c3) ∧ w.cell? ⟨b, 4, none⟩ = some c4 ∧ w.cell? ⟨b, 5, none⟩ = some c5 ∧ w.cell? ⟨b, 6, none⟩ = some c6 ∧ w.cell? ⟨b, 7, none⟩ = some c7 := by
  refine ⟨⟨?_, ?_, ?_, ?_⟩, ?_, ?_, ?_, ?_⟩ <;> (unfold World.cell?; rw [h]; rfl)

theorem boxes2 (w : World) (a0 a1 a2 a3 b0 b1 b2 b3 : Value) (T : TypeId) : ((w.alloc (.cells #[a0, a1, a2, a3] T)).alloc (.cells #[b0, b1, b2, b3] T)).heap[w.heap.size]? = some (.cells #[a0, a1, a2, a3] T (0, 0)) ∧ ((w.alloc (.cells #[a0, a1, a2, a3] T)).alloc (.cells #[b0, b1, b2, b3] T)).heap[w.heap.size + 1]? = some (.cells #[b0, b1, b2, b3] T (0, 0)) ∧ Below w.heap.size w ((w.alloc (.cells #[a0, a1, a2, a3] T)).alloc (.cells #[b0, b1, b2, b3] T)) ∧ w.heap.size + 2 = ((w.alloc (.cells #[a0, a1, a2, a3] T)).alloc (.cells #[b0, b1, b2, b3] T)).heap.size := by
  refine ⟨?_, ?_, ((Below.refl _ _).alloc (Nat.le_refl _) _).alloc (by simp) _, by simp only [World.size_alloc]⟩
  · rw [Below.heap_alloc _ _ _ (by simp)]; exact heap_alloc_new w _
  · have := heap_alloc_new (w.alloc (.cells #[a0, a1, a2, a3] T)) (.cells #[b0, b1, b2, b3] T)
    rw [World.size_alloc] at this; exact this

set_option maxHeartbeats 800000 in
set_option maxRecDepth 100000 in
theorem sortFits_any (xk xs tk ts : Int) (xn tn : ByteArray) (xa ta : Option Addr) (xl xc tl tc : Nat) (w : World) :
    Calls Tryz.prog 141 #[.agg #[.int .i64 xk, .string xn, .int .i64 xs, .slice xa xl xc], .agg #[.int .i64 tk, .string tn, .int .i64 ts, .slice ta tl tc]] w fun e w' => e = .returned (.bool (decide (xs = 0) || decide (xs = ts))) ∧ Below w.heap.size w w' := by
  have hB := fun o o' => ((Below.refl w.heap.size w).alloc (Nat.le_refl _) o).alloc (by simp) o'
  have HB := Lib.hid hB
  clear hB
  by_cases h0 : xs = 0
  · have H : Hid ((decide (xs = 0) || decide (xs = ts)) = true) := by show _ = _; simp [h0]
    have q : (xs == 0) = true := by simp [h0]
    clear h0
    go_enter Tryz.func141, Tryz.ntmps141
    go_wp2_with fail
    go_ret
    exact ⟨by rw [H.out]; rfl, HB.out _ _⟩
  have q : (xs == 0) = false := by simp [h0]
  by_cases h1 : xs = ts
  · have H : Hid ((decide (xs = 0) || decide (xs = ts)) = true) := by show _ = _; simp [h1]
    have q2 : (xs == ts) = true := by simp [h1]
    clear h0 h1
    go_enter Tryz.func141, Tryz.ntmps141
    go_wp2_with fail
    go_ret
    exact ⟨by rw [H.out]; rfl, HB.out _ _⟩
  · have H : Hid ((decide (xs = 0) || decide (xs = ts)) = false) := by show _ = _; simp [h1, h0]
    have q2 : (xs == ts) = false := by simp [h1]
    clear h0 h1
    go_enter Tryz.func141, Tryz.ntmps141
    go_wp2_with fail
    go_ret
    exact ⟨by rw [H.out]; rfl, HB.out _ _⟩

set_option maxHeartbeats 800000 in
set_option maxRecDepth 100000 in
theorem ssame_any (t u : Tm) (c0 c1 c2 c3 d0 d1 d2 d3 : Value) (w : World) (ht : size t ≤ 4611686018427387904) (hu : size u ≤ 4611686018427387904) (hI : Is w t c0 c1 c2 c3) (hJ : Is w u d0 d1 d2 d3) :
    Calls Tryz.prog 135 #[.agg #[c0, c1, c2, c3], .agg #[d0, d1, d2, d3]] w fun e w' => e = .returned (.bool (cmpT t u == 0)) ∧ Below w.heap.size w w' := by
  obtain ⟨k, n, s, xa, l, cap, rfl, rfl, rfl, rfl⟩ := Is_form hI
  obtain ⟨k2, n2, s2, xa2, l2, cap2, rfl, rfl, rfl, rfl⟩ := Is_form hJ
  have hE : Ext w ((w.alloc (.cells #[.int .i64 k, .string n, .int .i64 s, .slice xa l cap] 36)).alloc (.cells #[.int .i64 k2, .string n2, .int .i64 s2, .slice xa2 l2 cap2] 36)) := ((Below.refl w.heap.size w).alloc (Nat.le_refl _) _).alloc (by simp) _
  have HC := Lib.hid (Compare_any t u _ _ _ _ _ _ _ _ _ ht hu (Is_below hI hE) (Is_below hJ hE))
  have HE := Lib.hid hE
  generalize cmpT t u = c at HC ⊢
  clear hE hI hJ ht hu
  go_enter Tryz.func135, Tryz.ntmps135
  go_wp2_with (go_at_call 83; refine (HC.out).mono ?_; rintro e w3 ⟨he, hB⟩; subst he; have HB : Hid (Ext w w3) := Lib.hid (HE.out.trans (hB.mono (by simp))); clear hB)
  go_ret
  exact ⟨rfl, HB.out⟩

/-- The error of a binding alone. -/
def bindE (v t : Tm) : Int :=
  if validE v = 0 then (if ¬ v.kind = 1 ∨ cmpT v t = 0 then 1 else if validE t = 0 then (if v.sort = 0 ∨ v.sort = t.sort then 0 else 10) else validE t) else validE v

set_option maxHeartbeats 3200000 in
set_option maxRecDepth 100000 in
theorem bindingError_any (v t : Tm) (c0 c1 c2 c3 d0 d1 d2 d3 : Value) (w : World) (hv : size v ≤ 1073741824) (ht : size t ≤ 1073741824) (hI : Is w v c0 c1 c2 c3) (hJ : Is w t d0 d1 d2 d3) :
    Calls Tryz.prog 98 #[.agg #[c0, c1, c2, c3, d0, d1, d2, d3]] w fun e w' => e = .returned (.int .i64 (bindE v t)) ∧ Below w.heap.size w w' := by
  obtain ⟨k, n, s, xa, l, cap, rfl, rfl, rfl, rfl⟩ := Is_form hI
  obtain ⟨k2, n2, s2, xa2, l2, cap2, rfl, rfl, rfl, rfl⟩ := Is_form hJ
  have HI := Lib.hid hI
  have HJ := Lib.hid hJ
  have HVv := Lib.hid (fun W x => tValid_any v _ _ _ _ W hv (Is_below (w' := W) hI x))
  have HVt := Lib.hid (fun W x => tValid_any t _ _ _ _ W ht (Is_below (w' := W) hJ x))
  have HS := Lib.hid (fun W x => ssame_any v t _ _ _ _ _ _ _ _ W (by omega) (by omega) (Is_below (w' := W) hI x) (Is_below (w' := W) hJ x))
  have HF := Lib.hid (fun W => sortFits_any k s k2 s2 n n2 xa xa2 l cap l2 cap2 W)
  have hk : v.kind = k ∧ v.sort = s ∧ t.sort = s2 := by
    obtain ⟨vk, vn, vs, vks⟩ := v
    obtain ⟨tk, tn, ts, tks⟩ := t
    simp only [Is, Value.int.injEq, true_and] at hI hJ
    exact ⟨hI.1.symm, hI.2.2.1.symm, hJ.2.2.1.symm⟩
  have hdef : bindE v t = if validE v = 0 then (if ¬ k = 1 ∨ cmpT v t = 0 then 1 else if validE t = 0 then (if s = 0 ∨ s = s2 then 0 else 10) else validE t) else validE v := by unfold bindE; rw [hk.1, hk.2.1, hk.2.2]
  have hE0 : Ext w (w.alloc (.cells #[.int .i64 k, .string n, .int .i64 s, .slice xa l cap, .int .i64 k2, .string n2, .int .i64 s2, .slice xa2 l2 cap2] 53)) := (Ext.refl w).alloc _
  have hbx := heap_alloc_new w (.cells #[.int .i64 k, .string n, .int .i64 s, .slice xa l cap, .int .i64 k2, .string n2, .int .i64 s2, .slice xa2 l2 cap2] 53)
  have HX : Hid (∀ W, Ext (w.alloc (.cells #[.int .i64 k, .string n, .int .i64 s, .slice xa l cap, .int .i64 k2, .string n2, .int .i64 s2, .slice xa2 l2 cap2] 53)) W → W.heap[w.heap.size]? = some (.cells #[.int .i64 k, .string n, .int .i64 s, .slice xa l cap, .int .i64 k2, .string n2, .int .i64 s2, .slice xa2 l2 cap2] 53 (0, 0))) := fun W h => (h.block _ (by simp)).trans hbx
  have HE0 := Lib.hid hE0
  generalize validE v = ev at HVv hdef
  generalize validE t = et at HVt hdef
  generalize cmpT v t = c at HS hdef
  have HD := Lib.hid hdef
  generalize bindE v t = R at HD ⊢
  clear hI hJ hv ht hk hdef hE0 hbx
  by_cases h1 : ev = 0
  rotate_left
  · have HR : Hid (R = ev) := by show _ = _; rw [HD.out, if_neg h1]
    have q1 : (ev != 0) = true := by rw [bne_iff_ne]; exact h1
    clear h1
    go_enter Tryz.func98, Tryz.ntmps98
    go_wp2_with (go_at_call 105; refine (HVv.out _ HE0.out).mono ?_; rintro e w3 ⟨he, hB⟩; subst he; have HB3 : Hid (Ext w w3) := Lib.hid (HE0.out.trans hB); clear hB)
    go_ret
    exact ⟨by rw [HR.out]; rfl, HB3.out⟩
  have q1 : (ev != 0) = false := by simp [h1]
  by_cases h2 : k = 1
  rotate_left
  · have HR : Hid (R = 1) := by show _ = _; rw [HD.out, if_pos h1, if_pos (Or.inl h2)]
    have q2 : (k != 1) = true := by rw [bne_iff_ne]; exact h2
    clear h1 h2
    go_enter Tryz.func98, Tryz.ntmps98
    go_wp2_with (go_at_call 105; refine (HVv.out _ HE0.out).mono ?_; rintro e w3 ⟨he, hB⟩; subst he; have HB3 : Hid (Ext w w3) := Lib.hid (HE0.out.trans hB); have hx := HX.out _ hB; obtain ⟨⟨y0, y1, y2, y3⟩, y4, y5, y6, y7⟩ := box8_facts hx; clear hB hx)
    go_ret
    exact ⟨by rw [HR.out]; rfl, HB3.out⟩
  have q2 : (k != 1) = false := by simp [h2]
  have tok1 : True := trivial
  by_cases h3 : c = 0
  · have HR : Hid (R = 1) := by show _ = _; rw [HD.out, if_pos h1, if_pos (Or.inr h3)]
    have q3 : (c == 0) = true := by simp [h3]
    rw [q3] at HS
    clear h1 h2 h3 q3
    go_enter Tryz.func98, Tryz.ntmps98
    go_wp2_with (first
      | (go_at_call 105; refine (HVv.out _ HE0.out).mono ?_; rintro e w3 ⟨he, hB⟩; subst he; have HB3 : Hid (Ext w w3) := Lib.hid (HE0.out.trans hB); have hx := HX.out _ hB; obtain ⟨⟨y0, y1, y2, y3⟩, y4, y5, y6, y7⟩ := box8_facts hx; clear hB hx)
      | (go_at_call 135; refine (HS.out _ HB3.out).mono ?_; rintro e w4 ⟨he, hB⟩; subst he; have HB4 : Hid (Ext w w4) := Lib.hid (HB3.out.trans hB); clear hB))
    go_ret
    exact ⟨by rw [HR.out]; rfl, HB4.out⟩
  have q3 : (c == 0) = false := by simp [h3]
  rw [q3] at HS
  have hn : ¬ (¬ k = 1 ∨ c = 0) := by omega
  by_cases h4 : et = 0
  rotate_left
  · have HR : Hid (R = et) := by show _ = _; rw [HD.out, if_pos h1, if_neg hn, if_neg h4]
    have q4 : (et != 0) = true := by rw [bne_iff_ne]; exact h4
    clear h1 h2 h3 h4 q3 hn
    go_enter Tryz.func98, Tryz.ntmps98
    go_wp2_with (first
      | (go_at_call 105; have _t := tok1; refine (HVv.out _ HE0.out).mono ?_; rintro e w3 ⟨he, hB⟩; subst he; have HB3 : Hid (Ext (w.alloc (.cells #[.int .i64 k, .string n, .int .i64 s, .slice xa l cap, .int .i64 k2, .string n2, .int .i64 s2, .slice xa2 l2 cap2] 53)) w3) := Lib.hid hB; have hx := HX.out _ hB; obtain ⟨⟨y0, y1, y2, y3⟩, y4, y5, y6, y7⟩ := box8_facts hx; clear hB hx; clear tok1)
      | (go_at_call 135; refine (HS.out _ (Ext.trans HE0.out HB3.out)).mono ?_; rintro e w4 ⟨he, hB⟩; subst he; have HB4 : Hid (Ext (w.alloc (.cells #[.int .i64 k, .string n, .int .i64 s, .slice xa l cap, .int .i64 k2, .string n2, .int .i64 s2, .slice xa2 l2 cap2] 53)) w4) := Lib.hid (Ext.trans HB3.out hB); clear y0 y1 y2 y3 y4 y5 y6 y7; have hx := HX.out _ HB4.out; obtain ⟨⟨y0, y1, y2, y3⟩, y4, y5, y6, y7⟩ := box8_facts hx; clear hB hx)
      | (go_at_call 105; refine (HVt.out _ (Ext.trans HE0.out HB4.out)).mono ?_; rintro e w5 ⟨he, hB⟩; subst he; have HB5 : Hid (Ext w w5) := Lib.hid (Ext.trans (Ext.trans HE0.out HB4.out) hB); clear hB))
    go_ret
    exact ⟨by rw [HR.out]; rfl, HB5.out⟩
  have q4 : (et != 0) = false := by simp [h4]
  obtain ⟨f, hf⟩ : ∃ f, (decide (s = 0) || decide (s = s2)) = f := ⟨_, rfl⟩
  rw [hf] at HF
  have HR : Hid (R = if f = true then 0 else 10) := by
    show _ = _
    rw [HD.out, if_pos h1, if_neg hn, if_pos h4, ← hf]
    by_cases a : s = 0
    · simp [a]
    · by_cases b : s = s2
      · simp [b]
      · simp [a, b]
  clear h1 h2 h3 h4 q3 hn hf HD
  cases f
  all_goals go_enter Tryz.func98, Tryz.ntmps98
  all_goals go_wp2_with (first
      | (go_at_call 105; have _t := tok1; refine (HVv.out _ HE0.out).mono ?_; rintro e w3 ⟨he, hB⟩; subst he; have HB3 : Hid (Ext (w.alloc (.cells #[.int .i64 k, .string n, .int .i64 s, .slice xa l cap, .int .i64 k2, .string n2, .int .i64 s2, .slice xa2 l2 cap2] 53)) w3) := Lib.hid hB; have hx := HX.out _ hB; obtain ⟨⟨y0, y1, y2, y3⟩, y4, y5, y6, y7⟩ := box8_facts hx; clear hB hx; clear tok1)
      | (go_at_call 135; refine (HS.out _ (Ext.trans HE0.out HB3.out)).mono ?_; rintro e w4 ⟨he, hB⟩; subst he; have HB4 : Hid (Ext (w.alloc (.cells #[.int .i64 k, .string n, .int .i64 s, .slice xa l cap, .int .i64 k2, .string n2, .int .i64 s2, .slice xa2 l2 cap2] 53)) w4) := Lib.hid (Ext.trans HB3.out hB); clear y0 y1 y2 y3 y4 y5 y6 y7; have hx := HX.out _ HB4.out; obtain ⟨⟨y0, y1, y2, y3⟩, y4, y5, y6, y7⟩ := box8_facts hx; clear hB hx)
      | (go_at_call 105; refine (HVt.out _ (Ext.trans HE0.out HB4.out)).mono ?_; rintro e w5 ⟨he, hB⟩; subst he; have HB5 : Hid (Ext (w.alloc (.cells #[.int .i64 k, .string n, .int .i64 s, .slice xa l cap, .int .i64 k2, .string n2, .int .i64 s2, .slice xa2 l2 cap2] 53)) w5) := Lib.hid (Ext.trans HB4.out hB); clear y0 y1 y2 y3 y4 y5 y6 y7; have hx := HX.out _ HB5.out; obtain ⟨⟨y0, y1, y2, y3⟩, y4, y5, y6, y7⟩ := box8_facts hx; clear hB hx)
      | (go_at_call 141; refine (HF.out _).mono ?_; rintro e w6 ⟨he, hB⟩; subst he; have HB6 : Hid (Ext w w6) := Lib.hid (Ext.trans (Ext.trans HE0.out HB5.out) hB); clear hB))
  all_goals go_ret
  all_goals exact ⟨by rw [HR.out]; rfl, HB6.out⟩
end Go.Proofs.YtkfbbkkfagglhaaGreatDoor

/-
  THE WALKS OF the reference's leaf, Fits, binding (layer 2), and of subst.Fits (by gen_bndr.py).
-/
namespace Go.Proofs.YtkfbbkkfagglhaaGreatDoor
open Go.RowKit

def fitsB (v t : Tm) : Bool := decide (validE v = 0) && decide (v.kind = 1) && decide (validE t = 0) && (decide (v.sort = 0) || decide (v.sort = t.sort))
theorem validE_node {t : Tm} (h : validE t = 0) : nodeE t = 0 := by
  have h1 : nodesE t = 0 := by
    unfold validE at h
    by_cases h0 : nodesE t = 0
    · exact h0
    · rw [if_neg h0] at h; exact absurd h h0
  obtain ⟨k, n, s, ks⟩ := t
  rw [nodesE] at h1
  by_cases h0 : nodeE (.mk k n s ks) = 0
  · exact h0
  · rw [if_neg h0] at h1; exact absurd h1 h0
theorem valid_leaf {t : Tm} (h : validE t = 0) (h0 : ¬ t.sort = 0) : t.kind = 1 ∨ t.kind = 2 := by
  have hn := validE_node h
  obtain ⟨k, n, s, ks⟩ := t
  simp only [Tm.sort, Tm.kind] at h0 ⊢
  rw [nodeE] at hn
  by_cases a1 : ¬ (k = 1 ∨ k = 2) ∧ ¬ k = 3
  · rw [if_pos a1] at hn; omega
  rw [if_neg a1] at hn
  by_cases a2 : s < 0 ∨ 5 < s
  · rw [if_pos a2] at hn; omega
  rw [if_neg a2] at hn
  by_cases a3 : (k = 1 ∨ k = 2) ∧ 0 < ks.length
  · rw [if_pos a3] at hn; omega
  rw [if_neg a3] at hn
  by_cases a4 : ¬ (k = 1 ∨ k = 2) ∧ ¬ s = 0
  · rw [if_pos a4] at hn; omega
  · omega

set_option maxHeartbeats 3200000 in
set_option maxRecDepth 100000 in
theorem sfits_any (v t : Tm) (c0 c1 c2 c3 d0 d1 d2 d3 : Value) (w : World) (hv : size v ≤ 1073741824) (ht : size t ≤ 1073741824) (hI : Is w v c0 c1 c2 c3) (hJ : Is w t d0 d1 d2 d3) :
    Calls Tryz.prog 152 #[.agg #[c0, c1, c2, c3], .agg #[d0, d1, d2, d3]] w fun e w' => e = .returned (.bool (fitsB v t)) ∧ Below w.heap.size w w' := by
  obtain ⟨k, n, s, xa, l, cap, rfl, rfl, rfl, rfl⟩ := Is_form hI
  obtain ⟨k2, n2, s2, xa2, l2, cap2, rfl, rfl, rfl, rfl⟩ := Is_form hJ
  have HVv := Lib.hid (fun W x => tValid_any v _ _ _ _ W hv (Is_below (w' := W) hI x))
  have HVt := Lib.hid (fun W x => tValid_any t _ _ _ _ W ht (Is_below (w' := W) hJ x))
  have HF := Lib.hid (fun W => sortFits_any k s k2 s2 n n2 xa xa2 l cap l2 cap2 W)
  have hk : v.kind = k ∧ v.sort = s ∧ t.sort = s2 ∧ t.kind = k2 := by
    obtain ⟨vk, vn, vs, vks⟩ := v
    obtain ⟨tk, tn, ts, tks⟩ := t
    simp only [Is, Value.int.injEq, true_and] at hI hJ
    exact ⟨hI.1.symm, hI.2.2.1.symm, hJ.2.2.1.symm, hJ.1.symm⟩
  have hleaf : validE t = 0 → ¬ s2 = 0 → k2 = 1 ∨ k2 = 2 := fun h h0 => by
    have := valid_leaf h (by rw [hk.2.2.1]; exact h0)
    rw [hk.2.2.2] at this; exact this
  have hdef : fitsB v t = (decide (validE v = 0) && decide (k = 1) && decide (validE t = 0) && (decide (s = 0) || decide (s = s2))) := by unfold fitsB; rw [hk.1, hk.2.1, hk.2.2.1]
  have hE0 : Ext w ((w.alloc (.cells #[.int .i64 k, .string n, .int .i64 s, .slice xa l cap] 36)).alloc (.cells #[.int .i64 k2, .string n2, .int .i64 s2, .slice xa2 l2 cap2] 36)) := ((Below.refl w.heap.size w).alloc (Nat.le_refl _) _).alloc (by simp) _
  obtain ⟨hb0, hb1, _, hZ⟩ := boxes2 w (.int .i64 k) (.string n) (.int .i64 s) (.slice xa l cap) (.int .i64 k2) (.string n2) (.int .i64 s2) (.slice xa2 l2 cap2) 36
  have HX : Hid (∀ W, Ext ((w.alloc (.cells #[.int .i64 k, .string n, .int .i64 s, .slice xa l cap] 36)).alloc (.cells #[.int .i64 k2, .string n2, .int .i64 s2, .slice xa2 l2 cap2] 36)) W → W.heap[w.heap.size]? = some (.cells #[.int .i64 k, .string n, .int .i64 s, .slice xa l cap] 36 (0, 0)) ∧ W.heap[w.heap.size + 1]? = some (.cells #[.int .i64 k2, .string n2, .int .i64 s2, .slice xa2 l2 cap2] 36 (0, 0))) := fun W h => ⟨(h.block _ (by simp; omega)).trans hb0, (h.block _ (by simp)).trans hb1⟩
  have HE0 := Lib.hid hE0
  generalize validE v = ev at HVv hdef
  generalize validE t = et at HVt hdef hleaf
  have HD := Lib.hid hdef
  have HLF := Lib.hid hleaf
  generalize fitsB v t = R at HD ⊢
  clear hI hJ hv ht hk hdef hE0 hb0 hb1 hZ hleaf
  have tok1 : True := trivial
  by_cases h1 : ev = 0
  rotate_left
  · have HR : Hid (R = false) := by show _ = _; rw [HD.out]; simp [h1]
    have q1 : (ev == 0) = false := by simp [h1]
    have q1' : (ev != 0) = true := by rw [bne_iff_ne]; exact h1
    clear h1
    go_enter Tryz.func152, Tryz.ntmps152
    go_wp2_with (first
      | (go_at_call 105; have _t := tok1; refine (HVv.out _ HE0.out).mono ?_; rintro e w3 ⟨he, hB⟩; subst he; have HB3 : Hid (Ext ((w.alloc (.cells #[.int .i64 k, .string n, .int .i64 s, .slice xa l cap] 36)).alloc (.cells #[.int .i64 k2, .string n2, .int .i64 s2, .slice xa2 l2 cap2] 36)) w3) := Lib.hid hB; obtain ⟨hx, hy⟩ := HX.out _ hB; obtain ⟨⟨y0, y1, y2, y3⟩, _⟩ := box_facts hx; obtain ⟨⟨z0, z1, z2, z3⟩, _⟩ := box_facts hy; clear hB hx hy; clear tok1))
    go_ret
    exact ⟨by rw [HR.out]; rfl, Ext.trans HE0.out HB3.out⟩
  have q1 : (ev == 0) = true := by simp [h1]
  have q1' : (ev != 0) = false := by simp [h1]
  by_cases h3 : et = 0
  rotate_left
  · have HR : Hid (R = false) := by show _ = _; rw [HD.out]; simp [h3]
    have q3 : (et == 0) = false := by simp [h3]
    have q3' : (et != 0) = true := by rw [bne_iff_ne]; exact h3
    clear h1 h3
    go_enter Tryz.func152, Tryz.ntmps152
    go_wp2_with (first
      | (go_at_call 105; have _t := tok1; refine (HVv.out _ HE0.out).mono ?_; rintro e w3 ⟨he, hB⟩; subst he; have HB3 : Hid (Ext ((w.alloc (.cells #[.int .i64 k, .string n, .int .i64 s, .slice xa l cap] 36)).alloc (.cells #[.int .i64 k2, .string n2, .int .i64 s2, .slice xa2 l2 cap2] 36)) w3) := Lib.hid hB; obtain ⟨hx, hy⟩ := HX.out _ hB; obtain ⟨⟨y0, y1, y2, y3⟩, _⟩ := box_facts hx; obtain ⟨⟨z0, z1, z2, z3⟩, _⟩ := box_facts hy; clear hB hx hy; clear tok1)
      | (go_at_call 105; refine (HVt.out _ (Ext.trans HE0.out HB3.out)).mono ?_; rintro e w4 ⟨he, hB⟩; subst he; have HB4 : Hid (Ext ((w.alloc (.cells #[.int .i64 k, .string n, .int .i64 s, .slice xa l cap] 36)).alloc (.cells #[.int .i64 k2, .string n2, .int .i64 s2, .slice xa2 l2 cap2] 36)) w4) := Lib.hid (Ext.trans HB3.out hB); clear y0 y1 y2 y3 z0 z1 z2 z3; obtain ⟨hx, hy⟩ := HX.out _ HB4.out; obtain ⟨⟨y0, y1, y2, y3⟩, _⟩ := box_facts hx; obtain ⟨⟨z0, z1, z2, z3⟩, _⟩ := box_facts hy; clear hB hx hy))
    go_ret
    exact ⟨by rw [HR.out]; rfl, Ext.trans HE0.out HB4.out⟩
  have q3 : (et == 0) = true := by simp [h3]
  have q3' : (et != 0) = false := by simp [h3]
  by_cases h2 : k = 1
  rotate_left
  · have HR : Hid (R = false) := by show _ = _; rw [HD.out]; simp [h2]
    have q2 : (k == 1) = false := by simp [h2]
    have q2' : (k != 1) = true := by rw [bne_iff_ne]; exact h2
    clear h1 h2 h3
    go_enter Tryz.func152, Tryz.ntmps152
    go_wp2_with (first
      | (go_at_call 105; have _t := tok1; refine (HVv.out _ HE0.out).mono ?_; rintro e w3 ⟨he, hB⟩; subst he; have HB3 : Hid (Ext ((w.alloc (.cells #[.int .i64 k, .string n, .int .i64 s, .slice xa l cap] 36)).alloc (.cells #[.int .i64 k2, .string n2, .int .i64 s2, .slice xa2 l2 cap2] 36)) w3) := Lib.hid hB; obtain ⟨hx, hy⟩ := HX.out _ hB; obtain ⟨⟨y0, y1, y2, y3⟩, _⟩ := box_facts hx; obtain ⟨⟨z0, z1, z2, z3⟩, _⟩ := box_facts hy; clear hB hx hy; clear tok1)
      | (go_at_call 105; refine (HVt.out _ (Ext.trans HE0.out HB3.out)).mono ?_; rintro e w4 ⟨he, hB⟩; subst he; have HB4 : Hid (Ext ((w.alloc (.cells #[.int .i64 k, .string n, .int .i64 s, .slice xa l cap] 36)).alloc (.cells #[.int .i64 k2, .string n2, .int .i64 s2, .slice xa2 l2 cap2] 36)) w4) := Lib.hid (Ext.trans HB3.out hB); clear y0 y1 y2 y3 z0 z1 z2 z3; obtain ⟨hx, hy⟩ := HX.out _ HB4.out; obtain ⟨⟨y0, y1, y2, y3⟩, _⟩ := box_facts hx; obtain ⟨⟨z0, z1, z2, z3⟩, _⟩ := box_facts hy; clear hB hx hy))
    go_ret
    exact ⟨by rw [HR.out]; rfl, Ext.trans HE0.out HB4.out⟩
  have q2 : (k == 1) = true := by simp [h2]
  have q2' : (k != 1) = false := by simp [h2]
  obtain ⟨f, hf⟩ : ∃ f, (decide (s = 0) || decide (s = s2)) = f := ⟨_, rfl⟩
  rw [hf] at HF
  have HR : Hid (R = f) := by show _ = _; rw [HD.out, ← hf]; simp [h1, h2, h3]
  clear h1 h2 h3 hf
  go_enter Tryz.func152, Tryz.ntmps152
  go_wp2_with (first
    | (go_at_call 105; have _t := tok1; refine (HVv.out _ HE0.out).mono ?_; rintro e w3 ⟨he, hB⟩; subst he; have HB3 : Hid (Ext ((w.alloc (.cells #[.int .i64 k, .string n, .int .i64 s, .slice xa l cap] 36)).alloc (.cells #[.int .i64 k2, .string n2, .int .i64 s2, .slice xa2 l2 cap2] 36)) w3) := Lib.hid hB; obtain ⟨hx, hy⟩ := HX.out _ hB; obtain ⟨⟨y0, y1, y2, y3⟩, _⟩ := box_facts hx; obtain ⟨⟨z0, z1, z2, z3⟩, _⟩ := box_facts hy; clear hB hx hy; clear tok1)
    | (go_at_call 105; refine (HVt.out _ (Ext.trans HE0.out HB3.out)).mono ?_; rintro e w4 ⟨he, hB⟩; subst he; have HB4 : Hid (Ext ((w.alloc (.cells #[.int .i64 k, .string n, .int .i64 s, .slice xa l cap] 36)).alloc (.cells #[.int .i64 k2, .string n2, .int .i64 s2, .slice xa2 l2 cap2] 36)) w4) := Lib.hid (Ext.trans HB3.out hB); clear y0 y1 y2 y3 z0 z1 z2 z3; obtain ⟨hx, hy⟩ := HX.out _ HB4.out; obtain ⟨⟨y0, y1, y2, y3⟩, _⟩ := box_facts hx; obtain ⟨⟨z0, z1, z2, z3⟩, _⟩ := box_facts hy; clear hB hx hy)
    | (go_at_call 141; refine (HF.out _).mono ?_; rintro e w5 ⟨he, hB⟩; subst he; have HB5 : Hid (Ext w w5) := Lib.hid (Ext.trans (Ext.trans HE0.out HB4.out) hB); clear hB))
  go_ret
  exact ⟨by rw [HR.out]; rfl, HB5.out⟩

end Go.Proofs.YtkfbbkkfagglhaaGreatDoor
