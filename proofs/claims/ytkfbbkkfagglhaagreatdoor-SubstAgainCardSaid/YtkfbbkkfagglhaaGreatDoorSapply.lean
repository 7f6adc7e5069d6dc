/-
  THE WALKS OF subst.apply and Apply.
-/
import Derived.Test.YtkfbbkkfagglhaaGreatDoorRepl
import Derived.Test.YtkfbbkkfagglhaaGreatDoorNext
namespace Go.Proofs.YtkfbbkkfagglhaaGreatDoor
open Go.RowKit

theorem apT_size (bs : List Bd) (N : Nat) (hN : ∀ b ∈ bs, size b.2 ≤ N) (h1 : 1 ≤ N) (t : Tm) : size (apT bs t) ≤ size t * N := by
  have hget : ∀ (bs : List Bd) (x u : Tm), (∀ b ∈ bs, size b.2 ≤ N) → getB bs x = some u → size u ≤ N := by
    intro bs
    induction bs with
    | nil => intro x u _ h; simp [getB] at h
    | cons b bs ih =>
      intro x u hb h
      rw [getB] at h
      by_cases h0 : cmpT b.1 x = 0
      · rw [if_pos h0, Option.some.injEq] at h; subst h; exact hb b (by simp)
      · rw [if_neg h0] at h; exact ih x u (fun c hc => hb c (by simp [hc])) h
  refine Tm.rec (motive_1 := fun t => size (apT bs t) ≤ size t * N) (motive_2 := fun ts => sizes (apL bs ts) ≤ sizes ts * N) ?_ ?_ ?_ t
  · intro k n s ks ih
    have hsk : size (.mk k n s ks) = 1 + sizes ks := rfl
    have hs2 : size (.mk k n s (apL bs ks)) = 1 + sizes (apL bs ks) := rfl
    have hm : (1 + sizes ks) * N = N + sizes ks * N := by rw [Nat.add_mul, Nat.one_mul]
    rw [apT, hsk, hm]
    by_cases hk : k = 1
    · rw [if_pos hk]
      cases hu : getB bs (.mk k n s ks) with
      | some u => have := hget bs _ u hN hu; simp only; omega
      | none => simp only [hs2]; omega
    · rw [if_neg hk, hs2]; omega
  · simp [apL, sizes]
  · intro t ts h1 h2
    simp only [apL, sizes, Nat.add_mul]
    omega

def applyP (bs : List Bd) (t : Tm) : Tm × Int := if validE t = 0 then (if validE (apT bs t) = 0 then (apT bs t, 0) else (zeroT, validE (apT bs t))) else (zeroT, validE t)
def applyV (bs : List Bd) (t : Tm) : Tm × Int := if validB bs = 0 then applyP bs t else (zeroT, validB bs)
def ApPost (w : World) (r : Tm × Int) (e : Ending) (w' : World) : Prop :=
  ∃ c0 c1 c2 c3, e = .returned (.tuple #[.agg #[c0, c1, c2, c3], .int .i64 r.2]) ∧ IsIn (fun b => w.heap.size ≤ b ∧ b < w'.heap.size) w' r.1 c0 c1 c2 c3 ∧ Below w.heap.size w w'
theorem zero_IsIn (S : Nat → Prop) (w : World) : IsIn S w zeroT (.int .i64 0) (.string ⟨#[]⟩) (.int .i64 0) (.slice none 0 0) := by
  simp only [zeroT, IsIn]
  exact ⟨trivial, rfl, trivial, by omega, by omega, Nat.zero_le _, Nat.zero_le _, none, 0, rfl, Nat.le_refl _, by simp [RowIn]⟩
theorem validE_nodes {t : Tm} (h : validE t = 0) : nodesE t = 0 := by
  unfold validE at h
  by_cases h0 : nodesE t = 0
  · exact h0
  · rw [if_neg h0] at h; exact absurd h h0

set_option maxHeartbeats 6400000 in
set_option maxRecDepth 100000 in
theorem sapply_any (bs : List Bd) (xs : Option Addr) (cs N : Nat) (t : Tm) (c0 c1 c2 c3 : Value) (w : World) (hN : ∀ b ∈ bs, size b.2 ≤ N) (h1 : 1 ≤ N) (hsz : size t * N ≤ 1073741824) (hRb : RbOk bs xs cs w) (hI : Is w t c0 c1 c2 c3) :
    Calls Tryz.prog 60 #[.slice xs bs.length cs, .agg #[c0, c1, c2, c3]] w (ApPost w (applyP bs t)) := by
  have hst : size t ≤ 1073741824 := Nat.le_trans (Nat.le_mul_of_pos_right _ h1) hsz
  have hsu := Nat.le_trans (apT_size bs N hN h1 t) hsz
  obtain ⟨k, n, s, xa, l, cap, rfl, rfl, rfl, rfl⟩ := Is_form hI
  obtain ⟨hb0, hb1, hBw, hZ⟩ := boxes2 w (.int .i64 k) (.string n) (.int .i64 s) (.slice xa l cap) (.int .i64 0) (.string ⟨#[]⟩) (.int .i64 0) (.slice none 0 0) 36
  have hLies : Lies ((w.alloc (.cells #[.int .i64 k, .string n, .int .i64 s, .slice xa l cap] 36)).alloc (.cells #[.int .i64 0, .string ⟨#[]⟩, .int .i64 0, .slice none 0 0] 36)) t w.heap.size 0 := Lies_carry (keep_alloc _ _) (Lies_box hI 36)
  have HVt := Lib.hid (fun W (x : Ext w W) => tValid_any t _ _ _ _ W hst (Is_below (w' := W) hI x))
  have HVu := Lib.hid (fun W a b c d (x : Is W (apT bs t) a b c d) => tValid_any (apT bs t) a b c d W hsu x)
  have HRP := Lib.hid (fun (hv : nodesE t = 0) W (x : Ext ((w.alloc (.cells #[.int .i64 k, .string n, .int .i64 s, .slice xa l cap] 36)).alloc (.cells #[.int .i64 0, .string ⟨#[]⟩, .int .i64 0, .slice none 0 0] 36)) W) => replaced_any bs xs cs (size t) t w.heap.size 0 W (Nat.le_refl _) hst hv (hRb.ext (Ext.trans hBw x)) (Lies_below hLies x))
  have HP : Hid (applyP bs t = if validE t = 0 then (if validE (apT bs t) = 0 then (apT bs t, 0) else (zeroT, validE (apT bs t))) else (zeroT, validE t)) := rfl
  have HVN : Hid (validE t = 0 → nodesE t = 0) := validE_nodes
  have HBw := Lib.hid hBw
  have HX : Hid (∀ W, Ext ((w.alloc (.cells #[.int .i64 k, .string n, .int .i64 s, .slice xa l cap] 36)).alloc (.cells #[.int .i64 0, .string ⟨#[]⟩, .int .i64 0, .slice none 0 0] 36)) W → W.heap[w.heap.size + 1]? = some (.cells #[.int .i64 0, .string ⟨#[]⟩, .int .i64 0, .slice none 0 0] 36 (0, 0)) ∧ w.heap.size + 2 ≤ W.heap.size) := fun W h => ⟨(h.block _ (by simp)).trans hb1, by have := h.size; omega⟩
  have HXB : Hid (∀ W, Ext ((w.alloc (.cells #[.int .i64 k, .string n, .int .i64 s, .slice xa l cap] 36)).alloc (.cells #[.int .i64 0, .string ⟨#[]⟩, .int .i64 0, .slice none 0 0] 36)) W → Below w.heap.size w W) := fun W h => Ext.trans hBw h
  generalize applyP bs t = R at HP ⊢
  generalize validE t = ev at HVt HP HVN
  clear hI hb0 hb1 hBw hZ hLies hst hsu hsz hN h1 hRb
  have HZERO : Hid (∀ (x : Int) (W : World), R = (zeroT, x) → Below w.heap.size w W → ApPost w R (.returned (.tuple #[.agg #[.int .i64 0, .string ⟨#[]⟩, .int .i64 0, .slice none 0 0], .int .i64 x])) W) := fun x W h hB => by
    rw [h]; exact ⟨_, _, _, _, rfl, zero_IsIn _ _, hB⟩
  by_cases he : ev = 0
  rotate_left
  · have HR : Hid (R = (zeroT, ev)) := by show _ = _; rw [HP.out, if_neg he]
    have q1 : (ev != 0) = true := by rw [bne_iff_ne]; exact he
    clear he
    go_enter Tryz.func60, Tryz.ntmps60
    go_wp2_with (go_at_call 105; refine (HVt.out _ HBw.out).mono ?_; rintro e w3 ⟨he, hB⟩; subst he; have HB3 := Lib.hid hB; obtain ⟨hc, _⟩ := HX.out _ hB; obtain ⟨⟨m0, m1, m2, m3⟩, n0, n1, n2, n3⟩ := box_facts hc; clear hB hc)
    exact bodyPost_ret (v := .tuple #[.agg #[.int .i64 0, .string ⟨#[]⟩, .int .i64 0, .slice none 0 0], .int .i64 ev]) (by simp [results, Tryz.results60, go_sem, m0, m1, m2, m3]) rfl (HZERO.out ev _ HR.out (put4_below (g := w.heap.size + 1) (o := 0) (HXB.out _ HB3.out) (by omega)))
  have HRQ := Lib.hid (HRP.out (HVN.out he))
  have hR2 : R = if validE (apT bs t) = 0 then (apT bs t, 0) else (zeroT, validE (apT bs t)) := by rw [HP.out, if_pos he]
  subst he
  generalize apT bs t = u at HVu HRQ hR2
  obtain ⟨eu, heu⟩ : ∃ eu, validE u = eu := ⟨_, rfl⟩
  rw [heu] at HVu hR2
  have HR2 := Lib.hid hR2
  have q1 : ((0 : Int) != 0) = false := rfl
  have tok1 : True := trivial
  clear heu hR2
  go_enter Tryz.func60, Tryz.ntmps60
  go_upto_region 5 with (first
    | (go_at_call 105; have _t := tok1; refine (HVt.out _ HBw.out).mono ?_; rintro e w3 ⟨he, hB⟩; subst he; have HB3 := Lib.hid hB; clear hB; clear tok1)
    | (go_at_call 106; refine (HRQ.out _ HB3.out).mono ?_; rintro e w5 ⟨c0, c1, c2, c3, he, hI5, hB5⟩; subst he; obtain ⟨k', n', s', x', l', c', e0, e1, e2, e3⟩ := IsIn_form hI5; subst e0 e1 e2 e3; have HI5 := Lib.hid hI5; have HB5 := Lib.hid (Ext.trans HB3.out hB5); clear hI5 hB5))
  have hs3 := (HX.out _ HB3.out).2
  obtain ⟨hc5, hs5⟩ := HX.out _ HB5.out
  have hb6 : (w5.alloc (.cells #[.int .i64 k', .string n', .int .i64 s', .slice x' l' c'] 36)).heap[w.heap.size + 1]? = some (.cells #[.int .i64 0, .string ⟨#[]⟩, .int .i64 0, .slice none 0 0] 36 (0, 0)) := (Below.heap_alloc _ _ _ (by omega)).trans hc5
  have hx6 := heap_alloc_new w5 (.cells #[.int .i64 k', .string n', .int .i64 s', .slice x' l' c'] 36)
  have hB6 : Below w.heap.size w (w5.alloc (.cells #[.int .i64 k', .string n', .int .i64 s', .slice x' l' c'] 36)) := (HXB.out _ HB5.out).alloc (by omega) _
  have hI6 : IsIn (fun b => w.heap.size + 2 ≤ b ∧ b < w5.heap.size) (w5.alloc (.cells #[.int .i64 k', .string n', .int .i64 s', .slice x' l' c'] 36)) u (.int .i64 k') (.string n') (.int .i64 s') (.slice x' l' c') := IsIn_carry (fun b hb => Below.heap_alloc _ _ _ hb.2) (fun b hb => ⟨by have := hb.1; omega, hb.2⟩) _ _ _ _ _ HI5.out
  have hs6 : (w5.alloc (.cells #[.int .i64 k', .string n', .int .i64 s', .slice x' l' c'] 36)).heap.size = w5.heap.size + 1 := World.size_alloc _ _
  generalize (w5.alloc (.cells #[.int .i64 k', .string n', .int .i64 s', .slice x' l' c'] 36)) = w6 at hb6 hx6 hB6 hI6 hs6 ⊢
  obtain ⟨⟨y0, y1, y2, y3⟩, _⟩ := box_facts hx6
  have HB6 := Lib.hid (And.intro hb6 (And.intro hx6 (And.intro hB6 (And.intro hI6 (And.intro hs6 hs5)))))
  clear hc5 hb6 hx6 hB6 hI6 hs6 hs5 hs3
  by_cases hz : eu = 0
  · have HR : Hid (R = (u, 0)) := by show _ = _; rw [HR2.out, if_pos hz]
    have q2 : (eu != 0) = false := by simp [hz]
    clear hz
    go_wp2_with (go_at_call 105; refine (HVu.out _ _ _ _ _ (IsIn_Is _ _ _ _ _ HB6.out.2.2.2.1)).mono ?_; rintro e w7 ⟨he, hB⟩; subst he; have HB7 := Lib.hid hB; have hb7 := (hB.block (w.heap.size + 1) (by have := HB6.out.2.2.2.2; omega)).trans HB6.out.1; have hx7 := (hB.block w5.heap.size (by have := HB6.out.2.2.2.2; omega)).trans HB6.out.2.1; clear hB y0 y1 y2 y3; obtain ⟨⟨m0, m1, m2, m3⟩, n0, n1, n2, n3⟩ := box_facts hb7; obtain ⟨⟨y0, y1, y2, y3⟩, _⟩ := box_facts hx7; clear hb7 hx7)
    have HF : Hid (ApPost w R (.returned (.tuple #[.agg #[.int .i64 k', .string n', .int .i64 s', .slice x' l' c'], .int .i64 0])) (put4 w7 (w.heap.size + 1) 0 (.int .i64 k') (.string n') (.int .i64 s') (.slice x' l' c'))) := by
      show ApPost _ _ _ _
      rw [HR.out]
      have hs7 := HB7.out.size
      have h6 := HB6.out.2.2.2.2
      refine ⟨_, _, _, _, rfl, IsIn_carry (fun b hb => ?_) (fun b hb => ⟨by have := hb.1; omega, by rw [put4_size]; have := hb.2; omega⟩) _ _ _ _ _ HB6.out.2.2.2.1, put4_below (HB6.out.2.2.1.trans (HB7.out.mono (by omega))) (by omega)⟩
      rw [put4_other _ _ _ _ _ _ _ _ (by have := hb.1; omega)]
      exact HB7.out.block b (by have := hb.2; omega)
    exact bodyPost_ret (v := .tuple #[.agg #[.int .i64 k', .string n', .int .i64 s', .slice x' l' c'], .int .i64 0]) (by simp [results, Tryz.results60, go_sem, m0, m1, m2, m3]) rfl HF.out
  · have HR : Hid (R = (zeroT, eu)) := by show _ = _; rw [HR2.out, if_neg hz]
    have q2 : (eu != 0) = true := by rw [bne_iff_ne]; exact hz
    clear hz
    go_wp2_with (go_at_call 105; refine (HVu.out _ _ _ _ _ (IsIn_Is _ _ _ _ _ HB6.out.2.2.2.1)).mono ?_; rintro e w7 ⟨he, hB⟩; subst he; have HB7 := Lib.hid hB; have hb7 := (hB.block (w.heap.size + 1) (by have := HB6.out.2.2.2.2; omega)).trans HB6.out.1; clear hB y0 y1 y2 y3; obtain ⟨⟨m0, m1, m2, m3⟩, n0, n1, n2, n3⟩ := box_facts hb7; clear hb7)
    exact bodyPost_ret (v := .tuple #[.agg #[.int .i64 0, .string ⟨#[]⟩, .int .i64 0, .slice none 0 0], .int .i64 eu]) (by simp [results, Tryz.results60, go_sem, m0, m1, m2, m3]) rfl (HZERO.out eu _ HR.out (put4_below (g := w.heap.size + 1) (o := 0) (HB6.out.2.2.1.trans (HB7.out.mono (by have := HB6.out.2.2.2.2; omega))) (by omega)))
set_option maxHeartbeats 3200000 in
set_option maxRecDepth 100000 in
theorem sApply_any (bs : List Bd) (xs : Option Addr) (cs N : Nat) (t : Tm) (c0 c1 c2 c3 : Value) (w : World) (hcap : bs.length ≤ cs) (hlen : bs.length ≤ 1073741824) (hsb : SzB 1073741824 bs) (hrow : Row w (flatB bs) xs) (hN : ∀ b ∈ bs, size b.2 ≤ N) (h1 : 1 ≤ N) (hsz : size t * N ≤ 1073741824) (hI : Is w t c0 c1 c2 c3) :
    Calls Tryz.prog 49 #[.slice xs bs.length cs, .agg #[c0, c1, c2, c3]] w (ApPost w (applyV bs t)) := by
  obtain ⟨k, n, s, xa, l, cap, rfl, rfl, rfl, rfl⟩ := Is_form hI
  obtain ⟨hb0, hb1, hBw, hZ⟩ := boxes2 w (.int .i64 k) (.string n) (.int .i64 s) (.slice xa l cap) (.int .i64 0) (.string ⟨#[]⟩) (.int .i64 0) (.slice none 0 0) 36
  have HV := Lib.hid (fun W (x : Ext w W) => bvalid_any bs xs cs W hcap (by unfold maxLen; omega) hsb (Row_below (w' := W) hrow x))
  have HA := Lib.hid (fun (hv : validB bs = 0) W (x : Ext w W) => sapply_any bs xs cs N t _ _ _ _ W hN h1 hsz ⟨Row_below (w' := W) hrow x, hcap, hlen, hsb, (validB_ok hv).2.2⟩ (Is_below (w' := W) hI x))
  have HX : Hid (∀ W, Ext ((w.alloc (.cells #[.int .i64 k, .string n, .int .i64 s, .slice xa l cap] 36)).alloc (.cells #[.int .i64 0, .string ⟨#[]⟩, .int .i64 0, .slice none 0 0] 36)) W → W.heap[w.heap.size]? = some (.cells #[.int .i64 k, .string n, .int .i64 s, .slice xa l cap] 36 (0, 0)) ∧ W.heap[w.heap.size + 1]? = some (.cells #[.int .i64 0, .string ⟨#[]⟩, .int .i64 0, .slice none 0 0] 36 (0, 0)) ∧ w.heap.size + 2 ≤ W.heap.size) := fun W h => ⟨(h.block _ (by simp; omega)).trans hb0, (h.block _ (by simp)).trans hb1, by have := h.size; omega⟩
  have HBw := Lib.hid hBw
  have HD : Hid (applyV bs t = if validB bs = 0 then applyP bs t else (zeroT, validB bs)) := rfl
  generalize applyV bs t = R at HD ⊢
  generalize validB bs = ev at HV HA HD
  clear hI hb0 hb1 hBw hZ hsz hN h1 hrow hsb hcap hlen
  by_cases he : ev = 0
  rotate_left
  · have HR : Hid (R = (zeroT, ev)) := by show _ = _; rw [HD.out, if_neg he]
    have q1 : (ev != 0) = true := by rw [bne_iff_ne]; exact he
    clear he
    go_enter Tryz.func49, Tryz.ntmps49
    go_wp2_with (go_at_call 52; refine (HV.out _ HBw.out).mono ?_; rintro e w3 ⟨he, hB⟩; subst he; have HB3 := Lib.hid hB; obtain ⟨_, hc, _⟩ := HX.out _ hB; obtain ⟨⟨m0, m1, m2, m3⟩, n0, n1, n2, n3⟩ := box_facts hc; clear hB hc)
    have HF : Hid (ApPost w R (.returned (.tuple #[.agg #[.int .i64 0, .string ⟨#[]⟩, .int .i64 0, .slice none 0 0], .int .i64 ev])) (put4 w3 (w.heap.size + 1) 0 (.int .i64 0) (.string ⟨#[]⟩) (.int .i64 0) (.slice none 0 0))) := by
      show ApPost _ _ _ _
      rw [HR.out]
      exact ⟨_, _, _, _, rfl, zero_IsIn _ _, put4_below (Ext.trans HBw.out HB3.out) (by omega)⟩
    exact bodyPost_ret (v := .tuple #[.agg #[.int .i64 0, .string ⟨#[]⟩, .int .i64 0, .slice none 0 0], .int .i64 ev]) (by simp [results, Tryz.results49, go_sem, m0, m1, m2, m3]) rfl HF.out
  have HR : Hid (R = applyP bs t) := by show _ = _; rw [HD.out, if_pos he]
  have HAQ := Lib.hid (HA.out he)
  subst he
  have q1 : ((0 : Int) != 0) = false := rfl
  generalize applyP bs t = r at HAQ HR
  obtain ⟨u, x⟩ := r
  unfold ApPost at HAQ
  clear HA HD
  go_enter Tryz.func49, Tryz.ntmps49
  go_wp2_with (first
    | (go_at_call 52; refine (HV.out _ HBw.out).mono ?_; rintro e w3 ⟨he, hB⟩; subst he; have HB3 := Lib.hid hB; obtain ⟨hc0, _, _⟩ := HX.out _ hB; obtain ⟨⟨y0, y1, y2, y3⟩, _⟩ := box_facts hc0; clear hB hc0)
    | (go_at_call 60; refine (HAQ.out _ (Ext.trans HBw.out HB3.out)).mono ?_; rintro e w5 ⟨c0, c1, c2, c3, he, hI5, hB5⟩; subst he; obtain ⟨k', n', s', x', l', c', e0, e1, e2, e3⟩ := IsIn_form hI5; subst e0 e1 e2 e3; have HI5 := Lib.hid hI5; have HB5 := Lib.hid hB5; have HE5 := Lib.hid (Ext.trans HB3.out hB5); obtain ⟨_, hc, _⟩ := HX.out _ HE5.out; obtain ⟨⟨m0, m1, m2, m3⟩, n0, n1, n2, n3⟩ := box_facts hc; clear hI5 hB5 hc))
  have HF : Hid (ApPost w R (.returned (.tuple #[.agg #[.int .i64 k', .string n', .int .i64 s', .slice x' l' c'], .int .i64 x])) (put4 w5 (w.heap.size + 1) 0 (.int .i64 k') (.string n') (.int .i64 s') (.slice x' l' c'))) := by
    show ApPost _ _ _ _
    rw [HR.out]
    have hs3 := (HX.out _ HB3.out).2.2
    refine ⟨_, _, _, _, rfl, IsIn_carry (fun b hb => put4_other _ _ _ _ _ _ _ _ (by have := hb.1; omega)) (fun b hb => ⟨by have := hb.1; omega, by rw [put4_size]; exact hb.2⟩) _ _ _ _ _ HI5.out, put4_below (Ext.trans HBw.out HE5.out) (by omega)⟩
  exact bodyPost_ret (v := .tuple #[.agg #[.int .i64 k', .string n', .int .i64 s', .slice x' l' c'], .int .i64 x]) (by simp [results, Tryz.results49, go_sem, m0, m1, m2, m3]) rfl HF.out
end Go.Proofs.YtkfbbkkfagglhaaGreatDoor
