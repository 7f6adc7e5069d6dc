import Derived.Test.YtbcpnepjojppaaaGreatDoorLawTheoryKeyxQsum
namespace Go.Proofs.YtbcpnepjojppaaaGreatDoor
open Go.RowKit Go.Lib
def zilT : Tm := .mk 0 ⟨#[]⟩ 0 []
theorem zilT_in (S : Nat → Prop) (w : World) : IsIn S w zilT (.int .i64 0) (.string ⟨#[]⟩) (.int .i64 0) (.slice none 0 0) := by
  simp only [zilT, IsIn]
  exact ⟨trivial, trivial, trivial, by omega, by omega, by simp [ByteArray.size, maxLen], by simp, none, 0, rfl, Nat.le_refl _, by simp [RowIn]⟩
def TePost (w : World) (r : Tm × Int) (e : Ending) (w' : World) : Prop :=
  ∃ k n s xa l c, e = .returned (.tuple #[.agg #[.int .i64 k, .string n, .int .i64 s, .slice xa l c], .int .i64 r.2]) ∧ IsIn (fun b => w.heap.size ≤ b) w' r.1 (.int .i64 k) (.string n) (.int .i64 s) (.slice xa l c) ∧ Ext w w'
def sumP (ts : List Tm) : Tm × Int := if listE ts = 0 then (if validE (sumTm (sumsR ts)) = 0 then (sumTm (sumsR ts), 0) else (zilT, validE (sumTm (sumsR ts)))) else (zilT, listE ts)
theorem sumTm_size {K : List Tm} : size (sumTm K) ≤ 1 + sizes K := by
  cases K with
  | nil => simp [sumTm, size, sizes]
  | cons t K =>
    cases K with
    | nil => simp only [sumTm, sizes]; omega
    | cons u K => simp only [sumTm, size]; omega
theorem plusT_sizes : ∀ (b a : List Tm), sizes (plusT a b) ≤ sizes a + sizes b := by
  have tog : ∀ (l : List Tm) (t : Tm), sizes (togT l t) ≤ sizes l + size t := by
    intro l t
    have fil : ∀ (l : List Tm) (p : Tm → Bool), sizes (l.filter p) ≤ sizes l := by
      intro l p
      induction l with
      | nil => simp [sizes]
      | cons x l ih =>
        rw [List.filter_cons]
        split
        · rw [sizes, sizes]; omega
        · rw [sizes]; omega
    have add : ∀ (l : List Tm) (d : Bool), sizes (addR t l d) ≤ sizes l + size t := by
      intro l
      induction l with
      | nil => intro d; cases d <;> simp [addR, sizes]
      | cons x l ih =>
        intro d
        rw [addR]
        have i1 := ih true
        have i2 := ih false
        have ht : sizes (addR t l true) = sizes l := by rw [addR_true]
        split
        · rw [sizes, sizes]; omega
        · split
          · rw [sizes, sizes, sizes]; omega
          · split
            · rw [sizes, sizes]; omega
            · rw [sizes, sizes]; omega
    unfold togT
    split
    · have := fil l (fun u => !(cmpT u t == 0)); omega
    · exact add l false
  intro b
  induction b with
  | nil => intro a; rw [plusT, sizes]; omega
  | cons t b ih =>
    intro a
    rw [plusT, sizes]
    have := ih (togT a t)
    have := tog a t
    omega
mutual
theorem summT_sizes : ∀ t : Tm, sizes (summT t) ≤ size t
  | .mk k n s ks => by
    rw [summT, size]
    split
    · simp [sizes]
    · split
      · have := summsT_sizes ks []
        simp only [sizes] at this
        omega
      · simp only [sizes, size]; omega
theorem summsT_sizes : ∀ (ts out : List Tm), sizes (summsT out ts) ≤ sizes out + sizes ts
  | [], out => by rw [summsT, sizes]; omega
  | t :: ts, out => by
    rw [summsT, sizes]
    have := summsT_sizes ts (plusT out (summT t))
    have := plusT_sizes (summT t) out
    have := summT_sizes t
    omega
end
theorem sumsR_sizes (ts : List Tm) : sizes (sumsR ts) ≤ sizes ts := by have := summsT_sizes ts []; simp only [sizes] at this; unfold sumsR; omega
set_option maxHeartbeats 3200000 in
set_option maxRecDepth 100000 in
theorem Sum_any (ts : List Tm) (xa : Option Addr) (cap : Nat) (w : World) (hn : ts.length ≤ 1048576) (hsz : sizes ts ≤ 1048576) (hR : Row w ts xa) :
    Calls Tryz.prog 110 #[.slice xa ts.length cap] w (TePost w (sumP ts)) := by
  have hB0 : Ext w (w.alloc (.cells #[.int .i64 0, .string ⟨#[]⟩, .int .i64 0, .slice none 0 0] 24)) := (Ext.refl _).alloc _
  have hZ : (w.alloc (.cells #[.int .i64 0, .string ⟨#[]⟩, .int .i64 0, .slice none 0 0] 24)).heap.size = w.heap.size + 1 := World.size_alloc _ _
  have hb1 := heap_alloc_new w (.cells #[.int .i64 0, .string ⟨#[]⟩, .int .i64 0, .slice none 0 0] 24)
  have hmem : ∀ t ∈ ts, size t ≤ 1048576 := fun t ht => by have := size_le_sizes ht; omega
  have HLE := Lib.hid (fun W (x : Ext w W) => listError_any ts xa cap W hn (fun t ht => by have := hmem t ht; omega) (Row_below (w' := W) hR x))
  have HSM := Lib.hid (fun W (x : Ext w W) => summands_any ts xa cap W hn hsz (Row_below (w' := W) hR x))
  have HP : Hid (sumP ts = if listE ts = 0 then (if validE (sumTm (sumsR ts)) = 0 then (sumTm (sumsR ts), 0) else (zilT, validE (sumTm (sumsR ts)))) else (zilT, listE ts)) := rfl
  have HBK : Hid (∀ W, Ext (w.alloc (.cells #[.int .i64 0, .string ⟨#[]⟩, .int .i64 0, .slice none 0 0] 24)) W → W.heap[w.heap.size]? = some (.cells #[.int .i64 0, .string ⟨#[]⟩, .int .i64 0, .slice none 0 0] 24 (0, 0))) := by
    show ∀ _, _
    intro W x
    rw [x.block _ (by omega)]; exact hb1
  have HB0 := Lib.hid hB0
  have HZ := Lib.hid hZ
  have hl := sumsR_len ts
  have hsT : size (sumTm (sumsR ts)) ≤ 1073741824 := by have := sumTm_size (K := sumsR ts); have := sumsR_sizes ts; omega
  have HST := Lib.hid hsT
  have HSU := Lib.hid (fun W x4 c4 (r : Row W (sumsR ts) x4) (hc : (sumsR ts).length ≤ c4) => sum_any (sumsR ts) x4 c4 W (by omega) hc r)
  generalize sumP ts = R at HP ⊢
  generalize sumsR ts = L at HSM HP HSU HST
  generalize sumTm L = T at HP HSU HST
  by_cases h0 : listE ts = 0
  rotate_left
  · have HP2 : Hid (R = (zilT, listE ts)) := by show _ = _; rw [HP.out, if_neg h0]
    generalize listE ts = E at HLE HP2 h0
    have q0 : (E != 0) = true := bne_iff_ne.2 h0
    have HF : Hid (∀ W, Ext (w.alloc (.cells #[.int .i64 0, .string ⟨#[]⟩, .int .i64 0, .slice none 0 0] 24)) W → TePost w R (.returned (.tuple #[.agg #[.int .i64 0, .string ⟨#[]⟩, .int .i64 0, .slice none 0 0], .int .i64 E])) (put4 W w.heap.size 0 (.int .i64 0) (.string ⟨#[]⟩) (.int .i64 0) (.slice none 0 0))) := by
      show ∀ _, _
      intro W x
      rw [HP2.out]
      exact ⟨_, _, _, _, _, _, rfl, zilT_in _ _, put4_below (hB0.trans x) (Nat.le_refl _)⟩
    clear h0 hR hB0 hb1 hZ hmem hl hsT HP HSM HSU HST
    go_enter Tryz.func110, Tryz.ntmps110
    go_wp2_with (go_at_call 140; refine (HLE.out _ HB0.out).mono ?_; rintro e w3 ⟨he, hB⟩; subst he; have HX3 := Lib.hid hB; have hbx := HBK.out _ hB; obtain ⟨⟨m0, m1, m2, m3⟩, n0, n1, n2, n3⟩ := box_facts hbx; clear hB hbx)
    exact bodyPost_ret (v := .tuple #[.agg #[.int .i64 0, .string ⟨#[]⟩, .int .i64 0, .slice none 0 0], .int .i64 E]) (by simp [results, Tryz.results110, go_sem, m0, m1, m2, m3]) rfl (HF.out _ HX3.out)
  rw [h0] at HLE
  have q0 : ((0 : Int) != 0) = false := rfl
  have HV : Hid (∀ W k n s x l c, Is W T (.int .i64 k) (.string n) (.int .i64 s) (.slice x l c) → Calls Tryz.prog 52 #[.agg #[.int .i64 k, .string n, .int .i64 s, .slice x l c]] W fun e w' => e = .returned (.int .i64 (validE T)) ∧ Below W.heap.size W w') := by
    show ∀ _, _
    exact fun W k n s x l c h => tValid_any T _ _ _ _ W HST.out h
  by_cases hv : validE T = 0
  rotate_left
  · have HP2 : Hid (R = (zilT, validE T)) := by show _ = _; rw [HP.out, if_pos h0, if_neg hv]
    generalize validE T = E at HV HP2 hv
    have q1 : (E != 0) = true := bne_iff_ne.2 hv
    have HF : Hid (∀ W, Ext (w.alloc (.cells #[.int .i64 0, .string ⟨#[]⟩, .int .i64 0, .slice none 0 0] 24)) W → TePost w R (.returned (.tuple #[.agg #[.int .i64 0, .string ⟨#[]⟩, .int .i64 0, .slice none 0 0], .int .i64 E])) (put4 W w.heap.size 0 (.int .i64 0) (.string ⟨#[]⟩) (.int .i64 0) (.slice none 0 0))) := by
      show ∀ _, _
      intro W x
      rw [HP2.out]
      exact ⟨_, _, _, _, _, _, rfl, zilT_in _ _, put4_below (hB0.trans x) (Nat.le_refl _)⟩
    clear h0 hv hR hB0 hb1 hZ hmem hl hsT HP HST
    go_enter Tryz.func110, Tryz.ntmps110
    go_wp2_with (first
      | (go_at_call 140; refine (HLE.out _ HB0.out).mono ?_; rintro e w3 ⟨he, hB⟩; subst he; have HX3 := Lib.hid hB; clear hB)
      | (go_at_call 142; refine (HSM.out _ (HB0.out.trans HX3.out)).mono ?_; rintro e w4 ⟨x4, c4, he, h1, h2, h3⟩; subst he; have HR4 := Lib.hid (And.intro h2 h1); have HX4 := Lib.hid (HX3.out.trans h3); clear h1 h2 h3)
      | (go_at_call 141; refine (HSU.out _ _ _ HR4.out.1 HR4.out.2).mono ?_; rintro e w5 ⟨k5, n5, s5, x5, l5, c5, he, hI5, hB5⟩; subst he; have HI5 := Lib.hid hI5; have HX5 := Lib.hid (HX4.out.trans hB5); clear hI5 hB5)
      | (go_at_call 52; refine (HV.out _ _ _ _ _ _ _ (Is_alloc HI5.out _)).mono ?_; rintro e w7 ⟨he, hB⟩; subst he; have HX7 := Lib.hid ((HX5.out.alloc _).trans hB); have hbx := HBK.out _ HX7.out; obtain ⟨⟨m0, m1, m2, m3⟩, n0, n1, n2, n3⟩ := box_facts hbx; clear hB hbx))
    exact bodyPost_ret (v := .tuple #[.agg #[.int .i64 0, .string ⟨#[]⟩, .int .i64 0, .slice none 0 0], .int .i64 E]) (by simp [results, Tryz.results110, go_sem, m0, m1, m2, m3]) rfl (HF.out _ HX7.out)
  have HP2 : Hid (R = (T, 0)) := by show _ = _; rw [HP.out, if_pos h0, if_pos hv]
  rw [hv] at HV
  have HCP : Hid (∀ W H k n s x l c, W.heap.size = H → Is W T (.int .i64 k) (.string n) (.int .i64 s) (.slice x l c) → Calls Tryz.prog 143 #[.slice (some ⟨H, 0, none⟩) 1 1] (W.alloc (.cells #[.int .i64 k, .string n, .int .i64 s, .slice x l c] 24)) (CpPost (W.alloc (.cells #[.int .i64 k, .string n, .int .i64 s, .slice x l c] 24)) [T])) := by
    show ∀ _, _
    intro W H k n s x l c hH h
    exact copies_any [T] _ 1 _ (by simp) (fun u hu => by simp only [List.mem_cons, List.not_mem_nil, or_false] at hu; rw [hu]; exact HST.out) (Row_one_at H hH h _)
  have HF : Hid (∀ W V x c, Ext (w.alloc (.cells #[.int .i64 0, .string ⟨#[]⟩, .int .i64 0, .slice none 0 0] 24)) V → Row W [T] x → RowIn (fun b => V.heap.size ≤ b) W [T] x → Ext V W → 1 ≤ c →
      ∃ b o k n s y l d, x = some ⟨b, o, none⟩ ∧ W.cell? ⟨b, o, none⟩ = some (.int .i64 k) ∧ W.cell? ⟨b, o + 1, none⟩ = some (.string n) ∧ W.cell? ⟨b, o + 2, none⟩ = some (.int .i64 s) ∧ W.cell? ⟨b, o + 3, none⟩ = some (.slice y l d) ∧
        TePost w R (.returned (.tuple #[.agg #[.int .i64 k, .string n, .int .i64 s, .slice y l d], .int .i64 0])) (put4 W w.heap.size 0 (.int .i64 k) (.string n) (.int .i64 s) (.slice y l d))) := by
    show ∀ _, _
    intro W V x c hx hr hri hvw hc
    have hvs := hx.size
    obtain ⟨b, o, rfl⟩ := RowIn_at hri (by simp)
    have hg := RowIn_get hri 0 (by simp)
    simp only [Nat.zero_mul, Nat.add_zero, List.getElem_cons_zero] at hg
    obtain ⟨hbb, c0, c1, c2, c3, g0, g1, g2, g3, hI⟩ := hg
    obtain ⟨k, n, s, y, l, d, rfl, rfl, rfl, rfl⟩ := IsIn_form hI
    refine ⟨b, o, k, n, s, y, l, d, rfl, g0, g1, g2, g3, ?_⟩
    rw [HP2.out]
    refine ⟨_, _, _, _, _, _, rfl, IsIn_carry (S' := fun b => w.heap.size ≤ b) (fun q (hq : V.heap.size ≤ q) => put4_other _ _ _ _ _ _ _ _ (by omega)) (fun q (hq : V.heap.size ≤ q) => by omega) _ _ _ _ _ hI, put4_below ((hB0.trans hx).trans hvw) (Nat.le_refl _)⟩
  clear h0 hv hR hB0 hb1 hZ hmem hl hsT HP HST
  go_enter Tryz.func110, Tryz.ntmps110
  go_wp2_with (first
    | (go_at_call 140; refine (HLE.out _ HB0.out).mono ?_; rintro e w3 ⟨he, hB⟩; subst he; have HX3 := Lib.hid hB; clear hB)
    | (go_at_call 142; refine (HSM.out _ (HB0.out.trans HX3.out)).mono ?_; rintro e w4 ⟨x4, c4, he, h1, h2, h3⟩; subst he; have HR4 := Lib.hid (And.intro h2 h1); have HX4 := Lib.hid (HX3.out.trans h3); clear h1 h2 h3)
    | (go_at_call 141; refine (HSU.out _ _ _ HR4.out.1 HR4.out.2).mono ?_; rintro e w5 ⟨k5, n5, s5, x5, l5, c5, he, hI5, hB5⟩; subst he; have HI5 := Lib.hid hI5; have HX5 := Lib.hid (HX4.out.trans hB5); clear hI5 hB5)
    | (go_at_call 52; refine (HV.out _ _ _ _ _ _ _ (Is_alloc HI5.out _)).mono ?_; rintro e w7 ⟨he, hB⟩; subst he; have HX7 := Lib.hid ((HX5.out.alloc _).trans hB); have HI7 := Lib.hid (Is_below (Is_alloc HI5.out _) hB); have hbx := hB.block w5.heap.size (by simp); rw [heap_alloc_new] at hbx; obtain ⟨⟨p0, p1, p2, p3⟩, _⟩ := box_facts hbx; clear hB hbx)
    | (go_at_call 143; refine (HCP.out _ _ _ _ _ _ _ _ rfl HI7.out).mono ?_; rintro e w9 ⟨x9, c9, he, h1, h2, h3, h4⟩; subst he; obtain ⟨b9, o9, k9, n9, s9, y9, l9, d9, hx9, g0, g1, g2, g3, hF9⟩ := HF.out w9 _ x9 c9 (HX7.out.alloc _) h2 h3 h4 h1; subst hx9; have HF9 := Lib.hid hF9; have hbx := HBK.out _ ((HX7.out.alloc _).trans h4); obtain ⟨⟨m0, m1, m2, m3⟩, n0, n1, n2, n3⟩ := box_facts hbx; have hc9 : 1 ≤ c9 := h1; clear h1 h2 h3 h4 hF9 hbx))
  exact bodyPost_ret (v := .tuple #[.agg #[.int .i64 k9, .string n9, .int .i64 s9, .slice y9 l9 d9], .int .i64 0]) (by simp [results, Tryz.results110, go_sem, m0, m1, m2, m3]) rfl HF9.out
end Go.Proofs.YtbcpnepjojppaaaGreatDoor
