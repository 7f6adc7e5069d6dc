/-
  THE WALKS OF Parts, Sum and Add.
-/
import Derived.Test.YtfbomoginjknlaaDoorQsum
namespace Go.Proofs.YtfbomoginjknlaaDoor
open Go.RowKit Go.Lib

/-- A list of terms that is given back with an error. -/
def LePost (w : World) (r : List Tm × Int) (e : Ending) (w' : World) : Prop :=
  ∃ xa c, e = .returned (.tuple #[.slice xa r.1.length c, .int .i64 r.2]) ∧ r.1.length ≤ c ∧ Row w' r.1 xa ∧ Ext w w'
def partsT (t : Tm) : List Tm × Int := if validE t = 0 then (summT t, 0) else ([], validE t)
theorem summands_one (t : Tm) (H : Nat) (w : World) (hsz : size t ≤ 1048576) (hR : Row w [t] (some ⟨H, 0, none⟩)) :
    Calls Tryd.prog 28 #[.slice (some ⟨H, 0, none⟩) 1 1] w (TsPost w (summT t)) := by
  have h := summands_any [t] (some ⟨H, 0, none⟩) 1 w (by simp) (by rw [sizes, sizes]; omega) hR
  rw [sumsR_one] at h
  exact h
set_option maxHeartbeats 1600000 in
set_option maxRecDepth 100000 in
theorem Parts_any (t : Tm) (c0 c1 c2 c3 : Value) (w : World) (hsz : size t ≤ 1048576) (hI : Is w t c0 c1 c2 c3) :
    Calls Tryd.prog 8 #[.agg #[c0, c1, c2, c3]] w (LePost w (partsT t)) := by
  obtain ⟨k, n, s, ya, yl, yc, rfl, rfl, rfl, rfl⟩ := Is_form hI
  have hB1 : Ext w (w.alloc (.cells #[.int .i64 k, .string n, .int .i64 s, .slice ya yl yc] 24)) := (Ext.refl _).alloc _
  have HBK : Hid (∀ W, Ext (w.alloc (.cells #[.int .i64 k, .string n, .int .i64 s, .slice ya yl yc] 24)) W → W.cell? ⟨w.heap.size, 0, none⟩ = some (.int .i64 k) ∧ W.cell? ⟨w.heap.size, 1, none⟩ = some (.string n) ∧ W.cell? ⟨w.heap.size, 2, none⟩ = some (.int .i64 s) ∧ W.cell? ⟨w.heap.size, 3, none⟩ = some (.slice ya yl yc)) := by
    show ∀ _, _
    intro W x
    have hh := x.block w.heap.size (by simp)
    rw [heap_alloc_new] at hh
    exact (box_facts hh).1
  obtain ⟨b0, b1, b2, b3⟩ := HBK.out _ (Ext.refl _)
  have HV := Lib.hid (tValid_any t _ _ _ _ _ (by omega) (Is_below hI hB1))
  have HB1 := Lib.hid hB1
  have HP : Hid (partsT t = if validE t = 0 then (summT t, 0) else ([], validE t)) := rfl
  have HI := Lib.hid hI
  by_cases h0 : validE t = 0
  rotate_left
  · have q0 : (validE t != 0) = true := bne_iff_ne.2 h0
    have HP2 : Hid (partsT t = ([], validE t)) := by show _ = _; rw [HP.out, if_neg h0]
    generalize validE t = E at HV HP2 q0
    clear h0 hI hB1 HP
    go_enter Tryd.func8, Tryd.ntmps8
    go_wp2_with (go_at_call 26; refine (HV.out).mono ?_; rintro e w3 ⟨he, hB⟩; subst he; have HX3 := Lib.hid (HB1.out.trans hB); clear hB)
    exact bodyPost_ret (v := .tuple #[.slice none 0 0, .int .i64 E]) (by simp [results, Tryd.results8, go_sem]) rfl (by rw [HP2.out]; exact ⟨none, 0, rfl, Nat.le_refl _, by simp [Row], HX3.out⟩)
  have HP2 : Hid (partsT t = (summT t, 0)) := by show _ = _; rw [HP.out, if_pos h0]
  rw [h0] at HV
  have q0 : ((0 : Int) != 0) = false := rfl
  have HS : Hid (∀ W H, Ext w W → W.heap.size = H → Calls Tryd.prog 28 #[.slice (some ⟨H, 0, none⟩) 1 1] (W.alloc (.cells #[.int .i64 k, .string n, .int .i64 s, .slice ya yl yc] 24)) (TsPost (W.alloc (.cells #[.int .i64 k, .string n, .int .i64 s, .slice ya yl yc] 24)) (summT t))) := by
    show ∀ _, _
    intro W H x hH
    exact summands_one t H _ hsz (Row_one_at H hH (Is_below hI x) _)
  have HC : Hid (∀ W xa c, Row W (summT t) xa → Calls Tryd.prog 27 #[.slice xa (summT t).length c] W (CpPost W (summT t))) := by
    show ∀ _, _
    intro W xa c r
    exact copies_any _ xa c W (by have := summT_len t; omega) (fun u hu => by have := (summT_mem hu).2.2.1; omega) r
  clear h0 hI hB1 HP
  go_enter Tryd.func8, Tryd.ntmps8
  go_wp2_with (first
    | (go_at_call 26; refine (HV.out).mono ?_; rintro e w3 ⟨he, hB⟩; subst he; have HX3 := Lib.hid (HB1.out.trans hB); obtain ⟨b0, b1, b2, b3⟩ := HBK.out _ hB; clear hB)
    | (go_at_call 28; refine (HS.out _ _ HX3.out rfl).mono ?_; rintro e w4 ⟨x4, c4, he, h1, h2, h3⟩; subst he; have HR4 := Lib.hid h2; have HX4 := Lib.hid ((HX3.out.alloc _).trans h3); clear h1 h2 h3)
    | (go_at_call 27; refine (HC.out _ _ _ HR4.out).mono ?_; rintro e w5 ⟨x5, c5, he, h1, h2, _, h3⟩; subst he; have HF := Lib.hid (And.intro h1 (And.intro h2 (HX4.out.trans h3))); clear h1 h2 h3))
  exact bodyPost_ret (v := .tuple #[.slice x5 (summT t).length c5, .int .i64 0]) (by simp [results, Tryd.results8, go_sem]) rfl (by rw [HP2.out]; exact ⟨x5, c5, rfl, HF.out.1, HF.out.2.1, HF.out.2.2⟩)
/-- The zero value of a term. -/
def zilT : Tm := .mk 0 ⟨#[]⟩ 0 []
theorem zilT_in (S : Nat → Prop) (w : World) : IsIn S w zilT (.int .i64 0) (.string ⟨#[]⟩) (.int .i64 0) (.slice none 0 0) := by
  simp only [zilT, IsIn]
  exact ⟨trivial, trivial, trivial, by omega, by omega, by simp [ByteArray.size, maxLen], by simp, none, 0, rfl, Nat.le_refl _, by simp [RowIn]⟩
/-- A term that is given back by value, with an error. -/
def TePost (w : World) (r : Tm × Int) (e : Ending) (w' : World) : Prop :=
  ∃ k n s xa l c, e = .returned (.tuple #[.agg #[.int .i64 k, .string n, .int .i64 s, .slice xa l c], .int .i64 r.2]) ∧ IsIn (fun b => w.heap.size ≤ b) w' r.1 (.int .i64 k) (.string n) (.int .i64 s) (.slice xa l c) ∧ Ext w w'
def sumP (ts : List Tm) : Tm × Int := if listE ts = 0 then (if validE (sumTm (sumsR ts)) = 0 then (sumTm (sumsR ts), 0) else (zilT, validE (sumTm (sumsR ts)))) else (zilT, listE ts)
theorem sizes_of {l : List Tm} {M : Nat} (h : ∀ t ∈ l, size t ≤ M) : sizes l ≤ l.length * M := by
  induction l with
  | nil => simp [sizes]
  | cons t l ih =>
    have h1 := ih fun u hu => h u (List.mem_cons_of_mem _ hu)
    have h2 := h t (List.mem_cons_self ..)
    rw [sizes, List.length_cons, Nat.succ_mul]; omega
theorem sumTm_size {K : List Tm} : size (sumTm K) ≤ 1 + sizes K := by
  cases K with
  | nil => simp [sumTm, size, sizes]
  | cons t K =>
    cases K with
    | nil => simp only [sumTm, sizes]; omega
    | cons u K => simp only [sumTm, size]; omega
theorem plusT_sizes : ∀ (b a : List Tm), sizes (plusT a b) ≤ sizes a + sizes b := by
  have tog : ∀ (l : List Tm) (t : Tm), sizes (togT l t) ≤ sizes l + size t := by
    intro l t
    have fil : ∀ (l : List Tm) (p : Tm → Bool), sizes (l.filter p) ≤ sizes l := by
      intro l p
      induction l with
      | nil => simp [sizes]
      | cons x l ih =>
        rw [List.filter_cons]
        split
        · rw [sizes, sizes]; omega
        · rw [sizes]; omega
    have add : ∀ (l : List Tm) (d : Bool), sizes (addR t l d) ≤ sizes l + size t := by
      intro l
      induction l with
      | nil => intro d; cases d <;> simp [addR, sizes]
      | cons x l ih =>
        intro d
        rw [addR]
        have i1 := ih true
        have i2 := ih false
        have ht : sizes (addR t l true) = sizes l := by rw [addR_true]
        split
        · rw [sizes, sizes]; omega
        · split
          · rw [sizes, sizes, sizes]; omega
          · split
            · rw [sizes, sizes]; omega
            · rw [sizes, sizes]; omega
    unfold togT
    split
    · have := fil l (fun u => !(cmpT u t == 0)); omega
    · exact add l false
  intro b
  induction b with
  | nil => intro a; rw [plusT, sizes]; omega
  | cons t b ih =>
    intro a
    rw [plusT, sizes]
    have := ih (togT a t)
    have := tog a t
    omega
mutual
theorem summT_sizes : ∀ t : Tm, sizes (summT t) ≤ size t
  | .mk k n s ks => by
    rw [summT, size]
    split
    · simp [sizes]
    · split
      · have := summsT_sizes ks []
        simp only [sizes] at this
        omega
      · simp only [sizes, size]; omega
theorem summsT_sizes : ∀ (ts out : List Tm), sizes (summsT out ts) ≤ sizes out + sizes ts
  | [], out => by rw [summsT, sizes]; omega
  | t :: ts, out => by
    rw [summsT, sizes]
    have := summsT_sizes ts (plusT out (summT t))
    have := plusT_sizes (summT t) out
    have := summT_sizes t
    omega
end
theorem sumsR_sizes (ts : List Tm) : sizes (sumsR ts) ≤ sizes ts := by have := summsT_sizes ts []; simp only [sizes] at this; unfold sumsR; omega
set_option maxHeartbeats 3200000 in
set_option maxRecDepth 100000 in
theorem Sum_any (ts : List Tm) (xa : Option Addr) (cap : Nat) (w : World) (hn : ts.length ≤ 1048576) (hsz : sizes ts ≤ 1048576) (hR : Row w ts xa) :
    Calls Tryd.prog 17 #[.slice xa ts.length cap] w (TePost w (sumP ts)) := by
  have hB0 : Ext w (w.alloc (.cells #[.int .i64 0, .string ⟨#[]⟩, .int .i64 0, .slice none 0 0] 24)) := (Ext.refl _).alloc _
  have hZ : (w.alloc (.cells #[.int .i64 0, .string ⟨#[]⟩, .int .i64 0, .slice none 0 0] 24)).heap.size = w.heap.size + 1 := World.size_alloc _ _
  have hb1 := heap_alloc_new w (.cells #[.int .i64 0, .string ⟨#[]⟩, .int .i64 0, .slice none 0 0] 24)
  have hmem : ∀ t ∈ ts, size t ≤ 1048576 := fun t ht => by have := size_le_sizes ht; omega
  have HLE := Lib.hid (fun W (x : Ext w W) => listError_any ts xa cap W hn (fun t ht => by have := hmem t ht; omega) (Row_below (w' := W) hR x))
  have HSM := Lib.hid (fun W (x : Ext w W) => summands_any ts xa cap W hn hsz (Row_below (w' := W) hR x))
  have HP : Hid (sumP ts = if listE ts = 0 then (if validE (sumTm (sumsR ts)) = 0 then (sumTm (sumsR ts), 0) else (zilT, validE (sumTm (sumsR ts)))) else (zilT, listE ts)) := rfl
  have HBK : Hid (∀ W, Ext (w.alloc (.cells #[.int .i64 0, .string ⟨#[]⟩, .int .i64 0, .slice none 0 0] 24)) W → W.heap[w.heap.size]? = some (.cells #[.int .i64 0, .string ⟨#[]⟩, .int .i64 0, .slice none 0 0] 24 (0, 0))) := by
    show ∀ _, _
    intro W x
    rw [x.block _ (by omega)]; exact hb1
  have HB0 := Lib.hid hB0
  have HZ := Lib.hid hZ
  have hl := sumsR_len ts
  have hsT : size (sumTm (sumsR ts)) ≤ 1073741824 := by have := sumTm_size (K := sumsR ts); have := sumsR_sizes ts; omega
  have HST := Lib.hid hsT
  have HSU := Lib.hid (fun W x4 c4 (r : Row W (sumsR ts) x4) (hc : (sumsR ts).length ≤ c4) => sum_any (sumsR ts) x4 c4 W (by omega) hc r)
  generalize sumP ts = R at HP ⊢
  generalize sumsR ts = L at HSM HP HSU HST
  generalize sumTm L = T at HP HSU HST
  by_cases h0 : listE ts = 0
  rotate_left
  · have HP2 : Hid (R = (zilT, listE ts)) := by show _ = _; rw [HP.out, if_neg h0]
    generalize listE ts = E at HLE HP2 h0
    have q0 : (E != 0) = true := bne_iff_ne.2 h0
    have HF : Hid (∀ W, Ext (w.alloc (.cells #[.int .i64 0, .string ⟨#[]⟩, .int .i64 0, .slice none 0 0] 24)) W → TePost w R (.returned (.tuple #[.agg #[.int .i64 0, .string ⟨#[]⟩, .int .i64 0, .slice none 0 0], .int .i64 E])) (put4 W w.heap.size 0 (.int .i64 0) (.string ⟨#[]⟩) (.int .i64 0) (.slice none 0 0))) := by
      show ∀ _, _
      intro W x
      rw [HP2.out]
      exact ⟨_, _, _, _, _, _, rfl, zilT_in _ _, put4_below (hB0.trans x) (Nat.le_refl _)⟩
    clear h0 hR hB0 hb1 hZ hmem hl hsT HP HSM HSU HST
    go_enter Tryd.func17, Tryd.ntmps17
    go_wp2_with (go_at_call 35; refine (HLE.out _ HB0.out).mono ?_; rintro e w3 ⟨he, hB⟩; subst he; have HX3 := Lib.hid hB; have hbx := HBK.out _ hB; obtain ⟨⟨m0, m1, m2, m3⟩, n0, n1, n2, n3⟩ := box_facts hbx; clear hB hbx)
    exact bodyPost_ret (v := .tuple #[.agg #[.int .i64 0, .string ⟨#[]⟩, .int .i64 0, .slice none 0 0], .int .i64 E]) (by simp [results, Tryd.results17, go_sem, m0, m1, m2, m3]) rfl (HF.out _ HX3.out)
  rw [h0] at HLE
  have q0 : ((0 : Int) != 0) = false := rfl
  have HV : Hid (∀ W k n s x l c, Is W T (.int .i64 k) (.string n) (.int .i64 s) (.slice x l c) → Calls Tryd.prog 26 #[.agg #[.int .i64 k, .string n, .int .i64 s, .slice x l c]] W fun e w' => e = .returned (.int .i64 (validE T)) ∧ Below W.heap.size W w') := by
    show ∀ _, _
    exact fun W k n s x l c h => tValid_any T _ _ _ _ W HST.out h
  by_cases hv : validE T = 0
  rotate_left
  · have HP2 : Hid (R = (zilT, validE T)) := by show _ = _; rw [HP.out, if_pos h0, if_neg hv]
    generalize validE T = E at HV HP2 hv
    have q1 : (E != 0) = true := bne_iff_ne.2 hv
    have HF : Hid (∀ W, Ext (w.alloc (.cells #[.int .i64 0, .string ⟨#[]⟩, .int .i64 0, .slice none 0 0] 24)) W → TePost w R (.returned (.tuple #[.agg #[.int .i64 0, .string ⟨#[]⟩, .int .i64 0, .slice none 0 0], .int .i64 E])) (put4 W w.heap.size 0 (.int .i64 0) (.string ⟨#[]⟩) (.int .i64 0) (.slice none 0 0))) := by
      show ∀ _, _
      intro W x
      rw [HP2.out]
      exact ⟨_, _, _, _, _, _, rfl, zilT_in _ _, put4_below (hB0.trans x) (Nat.le_refl _)⟩
    clear h0 hv hR hB0 hb1 hZ hmem hl hsT HP HST
    go_enter Tryd.func17, Tryd.ntmps17
    go_wp2_with (first
      | (go_at_call 35; refine (HLE.out _ HB0.out).mono ?_; rintro e w3 ⟨he, hB⟩; subst he; have HX3 := Lib.hid hB; clear hB)
      | (go_at_call 28; refine (HSM.out _ (HB0.out.trans HX3.out)).mono ?_; rintro e w4 ⟨x4, c4, he, h1, h2, h3⟩; subst he; have HR4 := Lib.hid (And.intro h2 h1); have HX4 := Lib.hid (HX3.out.trans h3); clear h1 h2 h3)
      | (go_at_call 36; refine (HSU.out _ _ _ HR4.out.1 HR4.out.2).mono ?_; rintro e w5 ⟨k5, n5, s5, x5, l5, c5, he, hI5, hB5⟩; subst he; have HI5 := Lib.hid hI5; have HX5 := Lib.hid (HX4.out.trans hB5); clear hI5 hB5)
      | (go_at_call 26; refine (HV.out _ _ _ _ _ _ _ (Is_alloc HI5.out _)).mono ?_; rintro e w7 ⟨he, hB⟩; subst he; have HX7 := Lib.hid ((HX5.out.alloc _).trans hB); have hbx := HBK.out _ HX7.out; obtain ⟨⟨m0, m1, m2, m3⟩, n0, n1, n2, n3⟩ := box_facts hbx; clear hB hbx))
    exact bodyPost_ret (v := .tuple #[.agg #[.int .i64 0, .string ⟨#[]⟩, .int .i64 0, .slice none 0 0], .int .i64 E]) (by simp [results, Tryd.results17, go_sem, m0, m1, m2, m3]) rfl (HF.out _ HX7.out)
  have HP2 : Hid (R = (T, 0)) := by show _ = _; rw [HP.out, if_pos h0, if_pos hv]
  rw [hv] at HV
  have HCP : Hid (∀ W H k n s x l c, W.heap.size = H → Is W T (.int .i64 k) (.string n) (.int .i64 s) (.slice x l c) → Calls Tryd.prog 27 #[.slice (some ⟨H, 0, none⟩) 1 1] (W.alloc (.cells #[.int .i64 k, .string n, .int .i64 s, .slice x l c] 24)) (CpPost (W.alloc (.cells #[.int .i64 k, .string n, .int .i64 s, .slice x l c] 24)) [T])) := by
    show ∀ _, _
    intro W H k n s x l c hH h
    exact copies_any [T] _ 1 _ (by simp) (fun u hu => by simp only [List.mem_cons, List.not_mem_nil, or_false] at hu; rw [hu]; exact HST.out) (Row_one_at H hH h _)
  have HF : Hid (∀ W V x c, Ext (w.alloc (.cells #[.int .i64 0, .string ⟨#[]⟩, .int .i64 0, .slice none 0 0] 24)) V → Row W [T] x → RowIn (fun b => V.heap.size ≤ b) W [T] x → Ext V W → 1 ≤ c →
      ∃ b o k n s y l d, x = some ⟨b, o, none⟩ ∧ W.cell? ⟨b, o, none⟩ = some (.int .i64 k) ∧ W.cell? ⟨b, o + 1, none⟩ = some (.string n) ∧ W.cell? ⟨b, o + 2, none⟩ = some (.int .i64 s) ∧ W.cell? ⟨b, o + 3, none⟩ = some (.slice y l d) ∧
        TePost w R (.returned (.tuple #[.agg #[.int .i64 k, .string n, .int .i64 s, .slice y l d], .int .i64 0])) (put4 W w.heap.size 0 (.int .i64 k) (.string n) (.int .i64 s) (.slice y l d))) := by
    show ∀ _, _
    intro W V x c hx hr hri hvw hc
    have hvs := hx.size
    obtain ⟨b, o, rfl⟩ := RowIn_at hri (by simp)
    have hg := RowIn_get hri 0 (by simp)
    simp only [Nat.zero_mul, Nat.add_zero, List.getElem_cons_zero] at hg
    obtain ⟨hbb, c0, c1, c2, c3, g0, g1, g2, g3, hI⟩ := hg
    obtain ⟨k, n, s, y, l, d, rfl, rfl, rfl, rfl⟩ := IsIn_form hI
    refine ⟨b, o, k, n, s, y, l, d, rfl, g0, g1, g2, g3, ?_⟩
    rw [HP2.out]
    refine ⟨_, _, _, _, _, _, rfl, IsIn_carry (S' := fun b => w.heap.size ≤ b) (fun q (hq : V.heap.size ≤ q) => put4_other _ _ _ _ _ _ _ _ (by omega)) (fun q (hq : V.heap.size ≤ q) => by omega) _ _ _ _ _ hI, put4_below ((hB0.trans hx).trans hvw) (Nat.le_refl _)⟩
  clear h0 hv hR hB0 hb1 hZ hmem hl hsT HP HST
  go_enter Tryd.func17, Tryd.ntmps17
  go_wp2_with (first
    | (go_at_call 35; refine (HLE.out _ HB0.out).mono ?_; rintro e w3 ⟨he, hB⟩; subst he; have HX3 := Lib.hid hB; clear hB)
    | (go_at_call 28; refine (HSM.out _ (HB0.out.trans HX3.out)).mono ?_; rintro e w4 ⟨x4, c4, he, h1, h2, h3⟩; subst he; have HR4 := Lib.hid (And.intro h2 h1); have HX4 := Lib.hid (HX3.out.trans h3); clear h1 h2 h3)
    | (go_at_call 36; refine (HSU.out _ _ _ HR4.out.1 HR4.out.2).mono ?_; rintro e w5 ⟨k5, n5, s5, x5, l5, c5, he, hI5, hB5⟩; subst he; have HI5 := Lib.hid hI5; have HX5 := Lib.hid (HX4.out.trans hB5); clear hI5 hB5)
    | (go_at_call 26; refine (HV.out _ _ _ _ _ _ _ (Is_alloc HI5.out _)).mono ?_; rintro e w7 ⟨he, hB⟩; subst he; have HX7 := Lib.hid ((HX5.out.alloc _).trans hB); have HI7 := Lib.hid (Is_below (Is_alloc HI5.out _) hB); have hbx := hB.block w5.heap.size (by simp); rw [heap_alloc_new] at hbx; obtain ⟨⟨p0, p1, p2, p3⟩, _⟩ := box_facts hbx; clear hB hbx)
    | (go_at_call 27; refine (HCP.out _ _ _ _ _ _ _ _ rfl HI7.out).mono ?_; rintro e w9 ⟨x9, c9, he, h1, h2, h3, h4⟩; subst he; obtain ⟨b9, o9, k9, n9, s9, y9, l9, d9, hx9, g0, g1, g2, g3, hF9⟩ := HF.out w9 _ x9 c9 (HX7.out.alloc _) h2 h3 h4 h1; subst hx9; have HF9 := Lib.hid hF9; have hbx := HBK.out _ ((HX7.out.alloc _).trans h4); obtain ⟨⟨m0, m1, m2, m3⟩, n0, n1, n2, n3⟩ := box_facts hbx; have hc9 : 1 ≤ c9 := h1; clear h1 h2 h3 h4 hF9 hbx))
  exact bodyPost_ret (v := .tuple #[.agg #[.int .i64 k9, .string n9, .int .i64 s9, .slice y9 l9 d9], .int .i64 0]) (by simp [results, Tryd.results17, go_sem, m0, m1, m2, m3]) rfl HF9.out
set_option maxHeartbeats 3200000 in
set_option maxRecDepth 100000 in
theorem Add_any (t u : Tm) (a0 a1 a2 a3 b0 b1 b2 b3 : Value) (w : World) (hsz : size t + size u ≤ 1048576) (hI : Is w t a0 a1 a2 a3) (hJ : Is w u b0 b1 b2 b3) :
    Calls Tryd.prog 12 #[.agg #[a0, a1, a2, a3], .agg #[b0, b1, b2, b3]] w (TePost w (sumP [t, u])) := by
  obtain ⟨k1, n1, s1, xa1, l1, c1, rfl, rfl, rfl, rfl⟩ := Is_form hI
  obtain ⟨k2, n2, s2, xa2, l2, c2, rfl, rfl, rfl, rfl⟩ := Is_form hJ
  have HA : Hid (∀ W H, Ext w W → W.heap.size = H → Calls Tryd.prog 17 #[.slice (some ⟨H, 0, none⟩) 2 2] (W.alloc (.cells #[.int .i64 k1, .string n1, .int .i64 s1, .slice xa1 l1 c1, .int .i64 k2, .string n2, .int .i64 s2, .slice xa2 l2 c2] 24)) (TePost (W.alloc (.cells #[.int .i64 k1, .string n1, .int .i64 s1, .slice xa1 l1 c1, .int .i64 k2, .string n2, .int .i64 s2, .slice xa2 l2 c2] 24)) (sumP [t, u]))) := by
    show ∀ _, _
    intro W H x hH
    exact Sum_any [t, u] _ 2 _ (by simp) (by rw [sizes, sizes, sizes]; omega) (Row_two_at H hH (Is_below hI x) (Is_below hJ x) _)
  generalize sumP [t, u] = R at HA ⊢
  obtain ⟨RT, RE⟩ := R
  obtain ⟨W0, hW0⟩ : ∃ W0, ((w.alloc (.cells #[.int .i64 k1, .string n1, .int .i64 s1, .slice xa1 l1 c1] 24)).alloc (.cells #[.int .i64 k2, .string n2, .int .i64 s2, .slice xa2 l2 c2] 24)) = W0 := ⟨_, rfl⟩
  have hE0 : Ext w W0 := by rw [← hW0]; exact ((Ext.refl w).alloc _).alloc _
  have hZ0 : W0.heap.size = w.heap.size + 1 + 1 := by rw [← hW0]; simp
  have hE1 : Ext w (W0.alloc (.cells #[.int .i64 0, .string ⟨#[]⟩, .int .i64 0, .slice none 0 0] 24)) := hE0.alloc _
  have hZ1 : (W0.alloc (.cells #[.int .i64 0, .string ⟨#[]⟩, .int .i64 0, .slice none 0 0] 24)).heap.size = w.heap.size + 3 := by rw [World.size_alloc, hZ0]
  have hB1 := heap_alloc_new W0 (.cells #[.int .i64 0, .string ⟨#[]⟩, .int .i64 0, .slice none 0 0] 24)
  rw [hZ0] at hB1
  have HBK : Hid (∀ W, Ext (W0.alloc (.cells #[.int .i64 0, .string ⟨#[]⟩, .int .i64 0, .slice none 0 0] 24)) W → W.heap[w.heap.size + 1 + 1]? = some (.cells #[.int .i64 0, .string ⟨#[]⟩, .int .i64 0, .slice none 0 0] 24 (0, 0))) := by
    show ∀ _, _
    intro W x
    rw [x.block _ (by omega)]; exact hB1
  subst hW0
  have HE1 := Lib.hid hE1
  have HF : Hid (∀ (W V : World) k n s x l c, V.heap.size = w.heap.size + 3 + 1 → Ext w W → IsIn (fun b => V.heap.size ≤ b) W RT (.int .i64 k) (.string n) (.int .i64 s) (.slice x l c) → TePost w (RT, RE) (.returned (.tuple #[.agg #[.int .i64 k, .string n, .int .i64 s, .slice x l c], .int .i64 RE])) (put4 W (w.heap.size + 1 + 1) 0 (.int .i64 k) (.string n) (.int .i64 s) (.slice x l c))) := by
    show ∀ _, _
    intro W V k n s x l c hV hW h
    exact ⟨_, _, _, _, _, _, rfl, IsIn_carry (S' := fun b => w.heap.size ≤ b) (fun q (hq : V.heap.size ≤ q) => put4_other _ _ _ _ _ _ _ _ (by omega)) (fun q (hq : V.heap.size ≤ q) => by omega) _ _ _ _ _ h, put4_below hW (by omega)⟩
  have HZ1 := Lib.hid hZ1
  clear hE0 hE1 hZ0 hZ1 hB1 hI hJ
  go_enter Tryd.func12, Tryd.ntmps12
  go_wp2_with (go_at_call 17; refine (HA.out _ _ HE1.out (by simp)).mono ?_; rintro e w9 ⟨k9, n9, s9, y9, l9, d9, he, hI9, hX9⟩; simp only at he hI9; subst he; have hX9' := ((Ext.refl _).alloc _).trans hX9; have HF9 := Lib.hid (HF.out w9 _ _ _ _ _ _ _ (by rw [World.size_alloc, HZ1.out]) (HE1.out.trans hX9') hI9); have hbx := HBK.out _ hX9'; obtain ⟨⟨m0, m1, m2, m3⟩, n0, n1, n2, n3⟩ := box_facts hbx; clear hbx hX9' hX9 hI9)
  exact bodyPost_ret (v := .tuple #[.agg #[.int .i64 k9, .string n9, .int .i64 s9, .slice y9 l9 d9], .int .i64 RE]) (by simp [results, Tryd.results12, go_sem, m0, m1, m2, m3]) rfl HF9.out
end Go.Proofs.YtfbomoginjknlaaDoor
