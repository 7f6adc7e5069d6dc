/-
  THE LAW ExponentOf's WALK.
-/
import Derived.Test.YtcieadjjcpmieaaGreatPcoll
import Derived.Test.YtcieadjjcpmieaaGreatPtim
namespace Go.Proofs.YtcieadjjcpmieaaGreat
open Go.RowKit

theorem few_one_size {t : Tm} {n most : Nat} (h : few [t] (n : Int) (most : Int) = true) : size t ≤ most := by
  unfold few at h
  split at h
  · cases h
  · have := fewL_sizes _ _ (by omega) h
    have e : sizes [t] = size t + 0 := rfl
    omega
theorem ofP_size {t : Tm} {l : List Pw} {e : Int} (hm : size t ≤ 450) (h : ofP t = (l, e)) : l.length ≤ 450 ∧ SzP 1048576 l := by
  unfold ofP at h
  have hnil : ([] : List Pw).length ≤ 450 ∧ SzP 1048576 [] := ⟨by simp, fun p hp => by simp at hp⟩
  split at h
  · split at h
    · split at h
      · obtain ⟨rfl, _⟩ := Prod.mk.inj h; exact hnil
      · obtain ⟨rfl, _⟩ := Prod.mk.inj h
        have h1 := occT_one t 1 (Or.inl rfl)
        obtain ⟨b1, b2, b3⟩ := addsP_norm (occT t 1) normP_nil (fun p hp => by rcases (h1 p hp).1 with e | e <;> rw [e] <;> decide)
        refine ⟨by omega, fun p hp => ?_⟩
        rcases b2 p hp with ⟨q, hq, e⟩ | ⟨q, hq, _⟩
        · have := (h1 q hq).2.2.2.1
          rw [e]; omega
        · simp at hq
    · obtain ⟨rfl, _⟩ := Prod.mk.inj h; exact hnil
  · obtain ⟨rfl, _⟩ := Prod.mk.inj h; exact hnil
set_option maxHeartbeats 3200000 in
set_option maxRecDepth 100000 in
theorem laO_any (HA0 : Awake6Ok) (t : Tm) (t0 t1 t2 t3 : Value) (w : World) (hI : Is w t t0 t1 t2 t3) :
    Calls Tryz.prog 3 #[.agg #[t0, t1, t2, t3]] w fun e w' => e = .returned (.bool true) ∧ Below w.heap.size w w' := by
  have HA := Lib.hid HA0
  have hX : Ext w (w.alloc (.cells #[t0, t1, t2, t3] 24)) := (Ext.refl w).alloc _
  have HX := Lib.hid hX
  have HIt : Hid (∀ W, Ext w W → Is W t t0 t1 t2 t3) := fun W h => Is_below hI h
  have HC : Hid (∀ W, Ext (w.alloc (.cells #[t0, t1, t2, t3] 24)) W → W.cell? ⟨w.heap.size, 0, none⟩ = some t0 ∧ W.cell? ⟨w.heap.size, 1, none⟩ = some t1 ∧ W.cell? ⟨w.heap.size, 2, none⟩ = some t2 ∧ W.cell? ⟨w.heap.size, 3, none⟩ = some t3) := fun W x => (box_facts ((x.block _ (by rw [World.size_alloc]; exact Nat.lt_succ_self _)).trans (heap_alloc_new w (.cells #[t0, t1, t2, t3] 24)))).1
  cases hfew : few [t] 1 450 with
  | false =>
    have H1 := Lib.hid hfew
    have tok1 : True := trivial
    clear hX hI hfew
    go_enter Tryz.func3, Tryz.ntmps3
    go_wp2_with (first
      | (go_at_call 10; have _t := tok1; refine (HA.out _).mono ?_; rintro e w1 ⟨he, hB1⟩; subst he; have HB1 : Hid (Ext (w.alloc (.cells #[t0, t1, t2, t3] 24)) w1) := Lib.hid hB1; obtain ⟨a0, a1, a2, a3⟩ := HC.out _ HB1.out; clear hB1 tok1)
      | (go_at_call 10; refine (HA.out _).mono ?_; rintro e w3 ⟨he, hB⟩; subst he; have HB3 := Lib.hid (Ext.trans HB2.out hB); clear hB)
      | (go_at_call 11; refine (few_any [t] _ 1 1 450 _ (by simp [maxLen]) (by omega) (by omega) (Row_one_at _ rfl (HIt.out _ (Ext.trans HX.out HB1.out)) 24)).mono ?_; rintro e w2 ⟨he, hB2⟩; rw [H1.out] at he; subst he; have HB2 := Lib.hid (Ext.trans (Ext.alloc HB1.out _) hB2); clear hB2))
    go_ret
    exact ⟨rfl, Ext.trans (a := w) HX.out HB3.out⟩
  | true =>
    have H1 := Lib.hid hfew
    have hm : size t ≤ 450 := few_one_size (n := 1) (most := 450) hfew
    have HOF := Lib.hid (fun W (y : Ext w W) => Of_any t t0 t1 t2 t3 W (by omega) (HIt.out W y))
    have HRO := Lib.hid (fun W (y : Ext w W) => rOf_any t t0 t1 t2 t3 W (by omega) (HIt.out W y))
    obtain ⟨⟨L, E⟩, hR⟩ : ∃ r, ofP t = r := ⟨_, rfl⟩
    have hz := ofP_size hm hR
    have hsz : SzP 1073741824 L := fun p hp => Nat.le_trans (hz.2 p hp) (by omega)
    rw [hR] at HOF HRO
    unfold PePost at HOF HRO
    simp only at HOF HRO
    have HSA := Lib.hid (fun x2 x3 c2 c3 W h1 h2 => psame_eq L x2 x3 c2 c3 W (by unfold maxLen; omega) hsz h1 h2)
    have qE : (E == E) = true := by simp
    have qN : (E != E) = false := by simp
    by_cases hE : E = 0
    rotate_left
    · have q0 : (E != 0) = true := by rw [bne_iff_ne]; exact hE
      clear hX hI hfew hR hz hsz hE hm
      go_enter Tryz.func3, Tryz.ntmps3
      have tok1 : True := trivial
      go_wp2_with (first
        | (go_at_call 10; refine (HA.out _).mono ?_; rintro e w1 ⟨he, hB1⟩; subst he; have HB1 : Hid (Ext (w.alloc (.cells #[t0, t1, t2, t3] 24)) w1) := Lib.hid hB1; obtain ⟨a0, a1, a2, a3⟩ := HC.out _ HB1.out; clear hB1)
        | (go_at_call 11; refine (few_any [t] _ 1 1 450 _ (by simp [maxLen]) (by omega) (by omega) (Row_one_at _ rfl (HIt.out _ (Ext.trans HX.out HB1.out)) 24)).mono ?_; rintro e w2 ⟨he, hB2⟩; rw [H1.out] at he; subst he; have HB2 := Lib.hid (Ext.trans (Ext.alloc HB1.out _) hB2); obtain ⟨b0, b1, b2, b3⟩ := HC.out _ HB2.out; clear hB2)
        | (go_at_call 12; refine (HOF.out _ (Ext.trans HX.out HB2.out)).mono ?_; rintro e w3 ⟨x3, c3, he, _, hr, hB⟩; subst he; have HB3 := Lib.hid (Ext.trans HB2.out hB); have HP3 := Lib.hid hr; obtain ⟨d0, d1, d2, d3⟩ := HC.out _ HB3.out; clear hr hB)
        | (go_at_call 13; refine (HRO.out _ (Ext.trans HX.out HB3.out)).mono ?_; rintro e w4 ⟨x4, c4, he, _, hr, hB⟩; subst he; have HB4 := Lib.hid (Ext.trans HB3.out hB); have HP4 := Lib.hid (PRow_below HP3.out hB); have HQ4 := Lib.hid hr; clear hr hB)
        | (go_at_call 14; have _t := tok1; refine (HSA.out _ _ _ _ _ HP4.out HQ4.out).mono ?_; rintro e w5 ⟨he, hB⟩; subst he; have HB5 := Lib.hid (Ext.trans HB4.out hB); have HP5 := Lib.hid (PRow_below HP4.out hB); have HQ5 := Lib.hid (PRow_below HQ4.out hB); clear hB tok1)
        | (go_at_call 14; refine (HSA.out _ _ _ _ _ HP5.out HQ5.out).mono ?_; rintro e w6 ⟨he, hB⟩; subst he; have HB6 := Lib.hid (Ext.trans HB5.out hB); clear hB))
      go_ret
      exact ⟨rfl, Ext.trans (a := w) HX.out HB6.out⟩
    subst hE
    obtain ⟨hk1, hk2⟩ := ofP_back hR
    have HTE := Lib.hid (fun x c W (y : PRow W L x) => Term_any L x c W (by omega) hz.2 y)
    have hts := termP_size L
    obtain ⟨⟨U, G⟩, hT⟩ : ∃ r, termP L = r := ⟨_, rfl⟩
    rw [hT] at HTE hts hk1 hk2
    unfold TePost at HTE
    simp only at HTE hts hk1 hk2
    have q0 : ((0 : Int) != 0) = false := rfl
    have q1 : ((0 : Int) == 0) = true := rfl
    have HKE := Lib.hid (fun (hg : G = 0) c0 c1 c2 c3 W (y : Is W U c0 c1 c2 c3) => Of_any U c0 c1 c2 c3 W (by omega) y)
    have HK2 : Hid (G = 0 → ofP U = (L, 0)) := hk1
    rcases hk2 with rfl | rfl
    · have HKF := Lib.hid (HKE.out rfl)
      rw [hk1 rfl] at HKF
      unfold PePost at HKF
      simp only at HKF
      clear HKE
      clear hX hI hfew hR hz hsz hm hk1 hT hts HK2
      go_enter Tryz.func3, Tryz.ntmps3
      have tok1 : True := trivial
      have tok2 : True := trivial
      go_wp2_with (first
        | (go_at_call 10; refine (HA.out _).mono ?_; rintro e w1 ⟨he, hB1⟩; subst he; have HB1 : Hid (Ext (w.alloc (.cells #[t0, t1, t2, t3] 24)) w1) := Lib.hid hB1; obtain ⟨a0, a1, a2, a3⟩ := HC.out _ HB1.out; clear hB1)
        | (go_at_call 11; refine (few_any [t] _ 1 1 450 _ (by simp [maxLen]) (by omega) (by omega) (Row_one_at _ rfl (HIt.out _ (Ext.trans HX.out HB1.out)) 24)).mono ?_; rintro e w2 ⟨he, hB2⟩; rw [H1.out] at he; subst he; have HB2 := Lib.hid (Ext.trans (Ext.alloc HB1.out _) hB2); obtain ⟨b0, b1, b2, b3⟩ := HC.out _ HB2.out; clear hB2)
        | (go_at_call 12; have _t := tok2; refine (HOF.out _ (Ext.trans HX.out HB2.out)).mono ?_; rintro e w3 ⟨x3, c3, he, _, hr, hB⟩; subst he; have HB3 := Lib.hid (Ext.trans HB2.out hB); have HP3 := Lib.hid hr; obtain ⟨d0, d1, d2, d3⟩ := HC.out _ HB3.out; clear hr hB tok2)
        | (go_at_call 13; refine (HRO.out _ (Ext.trans HX.out HB3.out)).mono ?_; rintro e w4 ⟨x4, c4, he, _, hr, hB⟩; subst he; have HB4 := Lib.hid (Ext.trans HB3.out hB); have HP4 := Lib.hid (PRow_below HP3.out hB); have HQ4 := Lib.hid hr; clear hr hB)
        | (go_at_call 14; have _t := tok1; refine (HSA.out _ _ _ _ _ HP4.out HQ4.out).mono ?_; rintro e w5 ⟨he, hB⟩; subst he; have HB5 := Lib.hid (Ext.trans HB4.out hB); have HP5 := Lib.hid (PRow_below HP4.out hB); clear hB tok1)
        | (go_at_call 15; refine (HTE.out _ _ _ HP5.out).mono ?_; rintro e w6 ⟨c0, c1, c2, c3, he, hJ, hB⟩; subst he; obtain ⟨k3, n3, s3, y3, l3, g3, e0, e1, e2, e3⟩ := Is_form hJ; subst e0 e1 e2 e3; have HB6 := Lib.hid (Ext.trans HB5.out hB); obtain ⟨⟨z0, z1, z2, z3⟩, _⟩ := box_facts (heap_alloc_new w6 (.cells #[.int .i64 k3, .string n3, .int .i64 s3, .slice y3 l3 g3] 24)); have HJ6 := Lib.hid hJ; have HP6 := Lib.hid (PRow_below HP5.out hB); clear hJ hB)
        | (go_at_call 12; refine (HKF.out _ _ _ _ _ (Is_alloc HJ6.out _)).mono ?_; rintro e w7 ⟨x7, c7, he, _, hr, hB⟩; subst he; have HB7 := Lib.hid (Ext.trans (Ext.alloc HB6.out _) hB); have HP7 := Lib.hid (PRow_below (PRow_below HP6.out ((Ext.refl w6).alloc _)) hB); have HQ7 := Lib.hid hr; clear hr hB)
        | (go_at_call 14; refine (HSA.out _ _ _ _ _ HQ7.out HP7.out).mono ?_; rintro e w8 ⟨he, hB⟩; subst he; have HB8 := Lib.hid (Ext.trans HB7.out hB); clear hB))
      go_ret
      exact ⟨rfl, Ext.trans (a := w) HX.out HB8.out⟩
    · clear hX hI hfew hR hz hsz hm hk1 hT hts HK2 HKE
      have q3 : ((3 : Int) != 0) = true := rfl
      have q4 : ((3 : Int) == 3) = true := rfl
      go_enter Tryz.func3, Tryz.ntmps3
      go_wp2_with (first
        | (go_at_call 10; refine (HA.out _).mono ?_; rintro e w1 ⟨he, hB1⟩; subst he; have HB1 : Hid (Ext (w.alloc (.cells #[t0, t1, t2, t3] 24)) w1) := Lib.hid hB1; obtain ⟨a0, a1, a2, a3⟩ := HC.out _ HB1.out; clear hB1)
        | (go_at_call 11; refine (few_any [t] _ 1 1 450 _ (by simp [maxLen]) (by omega) (by omega) (Row_one_at _ rfl (HIt.out _ (Ext.trans HX.out HB1.out)) 24)).mono ?_; rintro e w2 ⟨he, hB2⟩; rw [H1.out] at he; subst he; have HB2 := Lib.hid (Ext.trans (Ext.alloc HB1.out _) hB2); obtain ⟨b0, b1, b2, b3⟩ := HC.out _ HB2.out; clear hB2)
        | (go_at_call 12; refine (HOF.out _ (Ext.trans HX.out HB2.out)).mono ?_; rintro e w3 ⟨x3, c3, he, _, hr, hB⟩; subst he; have HB3 := Lib.hid (Ext.trans HB2.out hB); have HP3 := Lib.hid hr; obtain ⟨d0, d1, d2, d3⟩ := HC.out _ HB3.out; clear hr hB)
        | (go_at_call 13; refine (HRO.out _ (Ext.trans HX.out HB3.out)).mono ?_; rintro e w4 ⟨x4, c4, he, _, hr, hB⟩; subst he; have HB4 := Lib.hid (Ext.trans HB3.out hB); have HP4 := Lib.hid (PRow_below HP3.out hB); have HQ4 := Lib.hid hr; clear hr hB)
        | (go_at_call 14; refine (HSA.out _ _ _ _ _ HP4.out HQ4.out).mono ?_; rintro e w5 ⟨he, hB⟩; subst he; have HB5 := Lib.hid (Ext.trans HB4.out hB); have HP5 := Lib.hid (PRow_below HP4.out hB); clear hB)
        | (go_at_call 15; refine (HTE.out _ _ _ HP5.out).mono ?_; rintro e w6 ⟨c0, c1, c2, c3, he, hJ, hB⟩; subst he; obtain ⟨k3, n3, s3, y3, l3, g3, e0, e1, e2, e3⟩ := Is_form hJ; subst e0 e1 e2 e3; have HB6 := Lib.hid (Ext.alloc (Ext.trans HB5.out hB) (.cells #[.int .i64 k3, .string n3, .int .i64 s3, .slice y3 l3 g3] 24)); clear hJ hB))
      go_ret
      exact ⟨rfl, Ext.trans (a := w) HX.out HB6.out⟩
end Go.Proofs.YtcieadjjcpmieaaGreat
