/-
  THE WALKS OF the reference's Plus and Summands.
-/
import Derived.Test.YtfbomoginjknlaaDoorQref
namespace Go.Proofs.YtfbomoginjknlaaDoor
open Go.RowKit Go.Lib

theorem addR_mem (t : Tm) : ∀ (l : List Tm) (d : Bool) (u : Tm), u ∈ addR t l d → u = t ∨ u ∈ l
  | [], d, u, h => by
    cases d
    · simp [addR] at h; exact Or.inl h
    · simp [addR] at h
  | x :: l, d, u, h => by
    rw [addR] at h
    have ih := fun d' => addR_mem t l d' u
    by_cases hd : d = true
    · rw [if_pos hd] at h
      rcases List.mem_cons.1 h with h | h
      · right; rw [h]; exact List.mem_cons_self ..
      · exact (ih _ h).imp id (List.mem_cons_of_mem _)
    · rw [if_neg hd] at h
      by_cases h1 : cmpT t x < 0
      · rw [if_pos h1] at h
        rcases List.mem_cons.1 h with h | h
        · exact Or.inl h
        · rcases List.mem_cons.1 h with h | h
          · right; rw [h]; exact List.mem_cons_self ..
          · exact (ih _ h).imp id (List.mem_cons_of_mem _)
      · rw [if_neg h1] at h
        by_cases h2 : cmpT t x = 0
        · rw [if_pos h2] at h
          rcases List.mem_cons.1 h with h | h
          · right; rw [h]; exact List.mem_cons_self ..
          · exact (ih _ h).imp id (List.mem_cons_of_mem _)
        · rw [if_neg h2] at h
          rcases List.mem_cons.1 h with h | h
          · right; rw [h]; exact List.mem_cons_self ..
          · exact (ih _ h).imp id (List.mem_cons_of_mem _)
theorem togT_mem {l : List Tm} {t u : Tm} (h : u ∈ togT l t) : u = t ∨ u ∈ l := by
  unfold togT at h
  split at h
  · exact Or.inr (List.mem_filter.1 h).1
  · exact addR_mem t l false u h
theorem plusT_mem : ∀ {b a : List Tm} {u : Tm}, u ∈ plusT a b → u ∈ a ∨ u ∈ b
  | [], a, u, h => Or.inl h
  | t :: b, a, u, h => by
    rw [plusT] at h
    rcases plusT_mem (b := b) h with h | h
    · rcases togT_mem h with h | h
      · right; rw [h]; exact List.mem_cons_self ..
      · exact Or.inl h
    · exact Or.inr (List.mem_cons_of_mem _ h)
set_option maxHeartbeats 3200000 in
set_option maxRecDepth 100000 in
theorem rplus_any (base : Nat) (a b : List Tm) (va vb : Value) (w : World) (hbw : base ≤ w.heap.size) (hl : a.length + b.length ≤ 1048576) (hsa : ∀ u ∈ a, size u ≤ 1073741824) (hsb : ∀ u ∈ b, size u ≤ 1073741824) (hA : Elems (fun q => q < base) w a va) (hB : Elems (fun q => q < base) w b vb) :
    Calls Tryd.prog 55 #[va, vb] w (TermsPost base w (plusT a b)) := by
  obtain ⟨xa, ca, rfl, _, _, _⟩ := Elems_row hA
  obtain ⟨xb, cb, rfl, _, _, hBR⟩ := Elems_row hB
  have HA := Lib.hid hA
  have HB := Lib.hid hB
  have HBR := Lib.hid hBR
  have HSA := Lib.hid hsa
  have HSB := Lib.hid hsb
  have HBW := Lib.hid hbw
  clear hA hB hsa hsb hBR
  go_enter Tryd.func55, Tryd.ntmps55
  go_wp2_with (at_builtin; refine wpList_copy_tm rfl _ _ rfl hbw HA.out (Ext.refl w) (by omega) rfl rfl ?_; intro v3 w3 hO3 hE3; have HO3 := Lib.hid (OwnT_elems hO3); have HX3 := Lib.hid hE3; clear hO3 hE3)
  go_loopw [5, 6] (fun lv i wr => ∃ (j : Nat), j ≤ b.length ∧ i = .int .i64 j ∧ Elems (fun q => q < base) wr (plusT a (b.take j)) lv ∧ Ext w wr) (fun _ i _ => b.length - (intOf i).toNat)
  case atStart => exact ⟨0, Nat.zero_le _, rfl, HO3.out, HX3.out⟩
  case round =>
    obtain ⟨j, hj, rfl, hO, hX⟩ := hrel
    have HX := Lib.hid hX
    by_cases hlt : j < b.length
    rotate_left
    · have hjl : j = b.length := by omega
      obtain ⟨xr, cr, rfl, _⟩ := Elems_row hO
      have HQ : Hid (TermsPost base w (plusT a b) (.returned (.slice xr (plusT a (b.take j)).length cr)) wr) := by
        show TermsPost _ _ _ _ _
        rw [hjl, List.take_length] at hO ⊢
        exact ⟨_, rfl, hO, HX.out⟩
      clear hO hX hjl
      go_wp2_with fail
      go_ret
      exact HQ.out
    obtain ⟨kb, ko, rfl⟩ := Row_at HBR.out (by omega)
    obtain ⟨kb2, ko2, cap2, x0, x1, x2, x3, e, p0, p1, p2, p3, hKI⟩ := Elems_get (Elems_ext HB.out (fun q (hq : q < base) => by omega) hX) j hlt
    simp only [Value.slice.injEq, Option.some.injEq, Addr.mk.injEq, and_true, true_and] at e
    obtain ⟨⟨rfl, rfl⟩, rfl⟩ := e
    obtain ⟨k1, n1, s1, ya1, yl1, yc1, rfl, rfl, rfl, rfl⟩ := IsIn_form hKI
    obtain ⟨xr, cr, rfl, _⟩ := Elems_row hO
    have hpl := plusT_len (b.take j) a
    have hlt3 : (b.take j).length ≤ b.length := by rw [List.length_take]; omega
    have HT := Lib.hid (toggle_any base (plusT a (b.take j)) b[j] _ _ _ _ _ wr (Nat.le_trans hbw hX.size) (by omega) (fun u hu => (plusT_mem hu).elim (HSA.out u) (fun h => HSB.out u (List.mem_of_mem_take h))) (HSB.out _ (List.getElem_mem hlt)) hO hKI)
    have HTK : Hid (plusT a (b.take (j + 1)) = togT (plusT a (b.take j)) b[j]) := plusT_take b j hlt a
    rw [← HTK.out] at HT
    have i1 : (0 : Int) ≤ (j : Int) := by omega
    have i2 : (j : Int) < (b.length : Int) := by omega
    clear hO hX hKI hpl hlt3 HTK
    go_wp2_with (go_at_call 78; refine (HT.out).mono ?_; rintro e w4 ⟨v4, he, h1, h2⟩; subst he; have HF := Lib.hid (And.intro h1 h2); clear h1 h2)
    go_roundw
    case rel => exact ⟨j + 1, by omega, by go_num, HF.out.1, HX.out.trans HF.out.2⟩
    case measure => simp [intOf]; omega
set_option maxHeartbeats 6400000 in
set_option maxRecDepth 100000 in
theorem rsummands_any (base : Nat) (M : Nat) : ∀ (t : Tm) (c0 c1 c2 c3 : Value) (w : World), base ≤ w.heap.size → size t ≤ M → M ≤ 1048576 → IsIn (fun q => q < base) w t c0 c1 c2 c3 →
    Calls Tryd.prog 29 #[.agg #[c0, c1, c2, c3]] w (TermsPost base w (summT t)) := by
  induction M with
  | zero => intro t c0 c1 c2 c3 w _ h; have := size_pos t; omega
  | succ M ih =>
    intro t c0 c1 c2 c3 w hbw hm hM hI
    have HI := Lib.hid hI
    have HBW := Lib.hid hbw
    obtain ⟨k, n, s, ks⟩ := t
    simp only [IsIn] at hI
    obtain ⟨rfl, rfl, rfl, _, _, _, hkl, ya, kcap, rfl, hkc, hKR⟩ := hI
    have hsk : size (.mk k n s ks) = 1 + sizes ks := rfl
    rw [hsk] at hm
    have hkn := length_le_sizes ks
    have hB1 : Ext w (w.alloc (.cells #[.int .i64 k, .string n, .int .i64 s, .slice ya ks.length kcap] 24)) := (Ext.refl _).alloc _
    have HBK : Hid (∀ W, Ext (w.alloc (.cells #[.int .i64 k, .string n, .int .i64 s, .slice ya ks.length kcap] 24)) W → W.cell? ⟨w.heap.size, 0, none⟩ = some (.int .i64 k) ∧ W.cell? ⟨w.heap.size, 1, none⟩ = some (.string n) ∧ W.cell? ⟨w.heap.size, 2, none⟩ = some (.int .i64 s) ∧ W.cell? ⟨w.heap.size, 3, none⟩ = some (.slice ya ks.length kcap)) := by
      show ∀ _, _
      intro W x
      have hh := x.block w.heap.size (by simp)
      rw [heap_alloc_new] at hh
      exact (box_facts hh).1
    obtain ⟨b0, b1, b2, b3⟩ := HBK.out _ (Ext.refl _)
    have HB1 := Lib.hid hB1
    have HKR := Lib.hid hKR
    have HSING : Hid (summT (.mk k n s ks) = [.mk k n s ks] → ∀ H, (w.alloc (.cells #[.int .i64 k, .string n, .int .i64 s, .slice ya ks.length kcap] 24)).heap.size = H → TermsPost base w (summT (.mk k n s ks)) (.returned (.slice (some ⟨H, 0, none⟩) 1 1)) ((w.alloc (.cells #[.int .i64 k, .string n, .int .i64 s, .slice ya ks.length kcap] 24)).alloc (.cells #[.int .i64 k, .string n, .int .i64 s, .slice ya ks.length kcap] 24))) := by
      show _ → _
      intro he H hH
      rw [he]
      subst hH
      exact ⟨_, rfl, OwnT_elems (OwnT_made 0 (Nat.zero_le _) (fun q (hq : q < base) => by rw [World.size_alloc]; omega) (IsIn_below HI.out hbw ((Ext.refl w).alloc _))), hB1.alloc _⟩
    clear hKR hB1
    have HSM : Hid (summT (.mk k n s ks) = if k = 3 ∧ n.toList = [122, 101, 114, 111] ∧ ks.length = 0 then [] else if k = 3 ∧ n.toList = [120, 111, 114] then summsT [] ks else [.mk k n s ks]) := by show _ = _; rw [summT]
    by_cases hk : k = 3
    rotate_left
    · have q0 : (k == 3) = false := by simp [hk]
      have q1 : (k != 3) = true := by simp [hk]
      have HE := Lib.hid (HSING.out (by rw [HSM.out, if_neg (fun h => hk h.1), if_neg (fun h => hk h.1)]))
      clear hk
      go_enter Tryd.func29, Tryd.ntmps29
      go_wp2_with fail
      go_ret
      exact HE.out _ (by simp)
    subst hk
    have q0 : ((3 : Int) == 3) = true := rfl
    have q1 : ((3 : Int) != 3) = false := rfl
    by_cases hz : n.toList = [122, 101, 114, 111]
    · have q2 : (n.toList == [122, 101, 114, 111]) = true := by rw [hz]; rfl
      have q4 : (n.toList == [120, 111, 114]) = false := by rw [hz]; rfl
      have q5 : (n.toList != [120, 111, 114]) = true := by rw [hz]; rfl
      by_cases h0 : ks.length = 0
      · have q3 : ((ks.length : Int) == 0) = true := by simp [h0]
        have HE : Hid (TermsPost base w (summT (.mk 3 n s ks)) (.returned (.slice none 0 0)) (w.alloc (.cells #[.int .i64 3, .string n, .int .i64 s, .slice ya ks.length kcap] 24))) := by
          show TermsPost _ _ _ _ _
          rw [HSM.out, if_pos ⟨rfl, hz, h0⟩]
          exact ⟨_, rfl, Elems_nil _ _, (Ext.refl w).alloc _⟩
        clear hz h0
        go_enter Tryd.func29, Tryd.ntmps29
        go_wp2_with fail
        go_ret
        exact HE.out
      · have q3 : ((ks.length : Int) == 0) = false := beq_eq_false_iff_ne.2 (by omega)
        have HE := Lib.hid (HSING.out (by rw [HSM.out, if_neg (fun h => h0 h.2.2), if_neg (fun h => by have := h.2; rw [hz] at this; revert this; decide)]))
        clear hz h0
        go_enter Tryd.func29, Tryd.ntmps29
        go_wp2_with fail
        go_ret
        exact HE.out _ (by simp)
    have q2 : (n.toList == [122, 101, 114, 111]) = false := beq_eq_false_iff_ne.2 hz
    by_cases hx : n.toList = [120, 111, 114]
    rotate_left
    · have q4 : (n.toList == [120, 111, 114]) = false := beq_eq_false_iff_ne.2 hx
      have q5 : (n.toList != [120, 111, 114]) = true := bne_iff_ne.2 hx
      have HE := Lib.hid (HSING.out (by rw [HSM.out, if_neg (fun h => hz h.2.1), if_neg (fun h => hx h.2)]))
      clear hz hx
      go_enter Tryd.func29, Tryd.ntmps29
      go_wp2_with fail
      go_ret
      exact HE.out _ (by simp)
    have q4 : (n.toList == [120, 111, 114]) = true := by rw [hx]; rfl
    have q5 : (n.toList != [120, 111, 114]) = false := by rw [hx]; rfl
    have HSE : Hid (summT (.mk 3 n s ks) = summsT [] ks) := by show _ = _; rw [HSM.out, if_neg (fun h => hz h.2.1), if_pos ⟨rfl, hx⟩]
    clear hz hx HSM HSING
    go_enter Tryd.func29, Tryd.ntmps29
    go_wp2_with fail
    go_loopw [3, 4] (fun lv i wr => ∃ (j : Nat), j ≤ ks.length ∧ i = .int .i64 j ∧ Elems (fun q => q < base) wr (summsT [] (ks.take j)) lv ∧ Ext (w.alloc (.cells #[.int .i64 3, .string n, .int .i64 s, .slice ya ks.length kcap] 24)) wr) (fun _ i _ => ks.length - (intOf i).toNat)
    case atStart => exact ⟨0, Nat.zero_le _, rfl, Elems_nil _ _, Ext.refl _⟩
    case round =>
      obtain ⟨j, hj, rfl, hO, hX⟩ := hrel
      have HX := Lib.hid hX
      have HXW := Lib.hid (HB1.out.trans hX)
      obtain ⟨b0, b1, b2, b3⟩ := HBK.out _ hX
      obtain ⟨xr, cr, rfl, _⟩ := Elems_row hO
      by_cases hlt : j < ks.length
      rotate_left
      · have hjl : j = ks.length := by omega
        have HQ : Hid (TermsPost base w (summT (.mk 3 n s ks)) (.returned (.slice xr (summsT [] (ks.take j)).length cr)) wr) := by
          show TermsPost _ _ _ _ _
          rw [hjl, List.take_length] at hO ⊢
          rw [HSE.out]
          exact ⟨_, rfl, hO, HXW.out⟩
        clear hO hX hjl
        go_wp2_with fail
        go_ret
        exact HQ.out
      obtain ⟨kb, ko, rfl⟩ := RowIn_at HKR.out (by omega)
      obtain ⟨_, x0, x1, x2, x3, p0, p1, p2, p3, hKI⟩ := LiesIn_carry (w' := wr) (S' := fun q => q < base) (fun q (hq : q < base) => HXW.out.block q (by omega)) (fun _ h => h) (RowIn_get HKR.out j hlt)
      obtain ⟨k1, n1, s1, ya1, yl1, yc1, rfl, rfl, rfl, rfl⟩ := IsIn_form hKI
      have hst := sizes_take ks j hlt
      have hsl := sizes_take_le ks (j + 1)
      have hal := summsT_len (ks.take j) []
      simp only [List.length_nil] at hal
      have hal2 := summT_len ks[j]
      have hmem : ∀ u ∈ summsT [] (ks.take j), size u ≤ 1073741824 := fun u hu => by
        have := (sumsR_mem (ts := ks.take j) hu).2.2.1
        omega
      have hbr : base ≤ wr.heap.size := Nat.le_trans hbw HXW.out.size
      have HC := Lib.hid (ih ks[j] _ _ _ _ wr hbr (by omega) (by omega) hKI)
      have HPL : Hid (∀ W v4, Ext wr W → Elems (fun q => q < base) W (summT ks[j]) v4 → Calls Tryd.prog 55 #[.slice xr (summsT [] (ks.take j)).length cr, v4] W (TermsPost base W (summsT [] (ks.take (j + 1))))) := by
        show ∀ _, _
        intro W v4 x r
        rw [summsT_take ks j hlt]
        exact rplus_any base _ _ _ _ W (Nat.le_trans hbr x.size) (by omega) hmem (fun u hu => by have := (summT_mem hu).2.2.1; omega) (Elems_ext hO (fun q (hq : q < base) => by omega) x) r
      have i1 : (0 : Int) ≤ (j : Int) := by omega
      have i2 : (j : Int) < (ks.length : Int) := by omega
      clear hO hX hKI hst hsl hal hal2 hmem hbr
      go_wp2_with (first
        | (go_at_call 29; refine (HC.out).mono ?_; rintro e w4 ⟨v4, he, h1, h2⟩; subst he; have HF4 := Lib.hid (And.intro h1 h2); clear h1 h2)
        | (go_at_call 55; refine (HPL.out _ _ HF4.out.2 HF4.out.1).mono ?_; rintro e w5 ⟨v5, he, h1, h2⟩; subst he; have HF := Lib.hid (And.intro h1 h2); clear h1 h2))
      go_roundw
      case rel => exact ⟨j + 1, by omega, by go_num, HF.out.1, HX.out.trans (Ext.trans HF4.out.2 HF.out.2)⟩
      case measure => simp [intOf]; omega
end Go.Proofs.YtfbomoginjknlaaDoor
