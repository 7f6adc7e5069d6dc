/-
  THE WALKS OF the law TermValid at a valid term; the law.
-/
import Derived.Test.YthhhmjjgckkdhaaDoorLawValidW
namespace Go.Proofs.YthhhmjjgckkdhaaDoor
open Go.RowKit

set_option maxHeartbeats 1600000 in
set_option maxRecDepth 100000 in
theorem valid_good (HA : Hid AwakeOk) (t : Tm) (c0 c1 c2 c3 : Value) (w : World) (hL : Laid w) (hI : Is w t c0 c1 c2 c3) (h1 : few [t] 1 450 = true) (hv : validE t = 0) :
    Calls Tryd.prog 3 #[.agg #[c0, c1, c2, c3]] w fun e w' => e = .returned (.bool true) ∧ Below w.heap.size w w' := by
  have hsz := one_size h1
  have H1 := Lib.hid h1
  have HL := Lib.hid hL
  have HI := Lib.hid hI
  have hfp : formP t = (textT t, 0) := by unfold formP; rw [if_pos hv]
  have hz := validE_zero hv
  have hts := textT_le t hsz hz.1
  have htb := text_bound t hz.1
  have hpt := parse_text t hz.1 hz.2.1 hz.2.2
  have HT := Lib.hid (fun W x => tFormat_any t c0 c1 c2 c3 W (by omega) x)
  have HR := Lib.hid (fun W x => rFormat_any t c0 c1 c2 c3 W (by omega) (fun _ => hts) x)
  have HVt := Lib.hid (fun W x => tValid_any t c0 c1 c2 c3 W (by omega) x)
  have HVr := Lib.hid (fun W x => rValid_any t c0 c1 c2 c3 W (by omega) x)
  have HP := Lib.hid (fun W (x : Laid W) => parse_any (textT t) W x (by omega))
  unfold ParsePost at HP
  rw [hpt] at HP
  rw [hfp] at HT HR
  rw [hv] at HVt HVr
  have HS : Hid (∀ (W : World) (p0 p1 p2 p3 : Value), Is W t p0 p1 p2 p3 → Is W t c0 c1 c2 c3 → Calls Tryd.prog 18 #[.agg #[p0, p1, p2, p3], .agg #[c0, c1, c2, c3]] W fun e w' => e = .returned (.bool true) ∧ Below W.heap.size W w') := fun W p0 p1 p2 p3 hp hc => by
    have := same_any t t p0 p1 p2 p3 c0 c1 c2 c3 W (by omega) (by omega) hp hc
    rw [cmpT_self] at this; exact this
  generalize textT t = tx at HT HR HP
  have q1 : (tx.toList == tx.toList) = true := by simp
  have q2 : (tx.toList != tx.toList) = false := by simp
  clear h1 hL hI hfp hv hz hts htb hpt
  go_enter Tryd.func3, Tryd.ntmps3
  go_wp2_with (first
    | (go_at_call 11; refine (HA.out _ ?_).mono ?_; (exact Laid_ext HL.out ((Ext.refl _).alloc _)); rintro e w1 ⟨he, hB1⟩; subst he; have HB1 : Hid (Ext w w1) := ((Ext.refl w).alloc _).trans hB1; obtain ⟨b0, b1, b2, b3⟩ := box_kept (hB1.mono (by simp)); clear hB1)
    | (go_at_call 12; refine (one_any t _ _ _ _ _ (Is_carry (keep_below HB1.out) _ _ _ _ _ HI.out)).mono ?_; rintro e w2 ⟨he, hB2⟩; rw [H1.out] at he; subst he; have HB2 : Hid (Ext w w2) := HB1.out.trans hB2; have d0 := keep_below hB2 _ _ b0; have d1 := keep_below hB2 _ _ b1; have d2 := keep_below hB2 _ _ b2; have d3 := keep_below hB2 _ _ b3; clear hB2 b0 b1 b2 b3)
    | (go_at_call 13; refine (HT.out _ (Is_below HI.out HB2.out) (Laid_ext HL.out HB2.out)).mono ?_; rintro e w3 ⟨he, hB⟩; subst he; have HB3 : Hid (Ext w w3) := HB2.out.trans hB; have e0 := keep_below hB _ _ d0; have e1 := keep_below hB _ _ d1; have e2 := keep_below hB _ _ d2; have e3 := keep_below hB _ _ d3; clear hB d0 d1 d2 d3)
    | (go_at_call 14; refine (HR.out _ (Is_below HI.out HB3.out)).mono ?_; rintro e w4 ⟨he, hB⟩; subst he; have HB4 : Hid (Ext w w4) := HB3.out.trans hB; have k0 := keep_below hB _ _ e0; have k1 := keep_below hB _ _ e1; have k2 := keep_below hB _ _ e2; have k3 := keep_below hB _ _ e3; clear hB e0 e1 e2 e3))
  have HK := Lib.hid (fun (W : World) (h : Ext w4 W) => And.intro (keep_below h _ _ k0) (And.intro (keep_below h _ _ k1) (And.intro (keep_below h _ _ k2) (keep_below h _ _ k3))))
  have hE0 : Ext w w4.drew := HB4.out.drew
  have hF0 : Ext w4 w4.drew := (Ext.refl w4).drew
  go_region_held3 (fun W => W.cell? ⟨w.heap.size, 0, none⟩ = some c0 ∧ W.cell? ⟨w.heap.size, 1, none⟩ = some c1 ∧ W.cell? ⟨w.heap.size, 2, none⟩ = some c2 ∧ W.cell? ⟨w.heap.size, 3, none⟩ = some c3)
    (first | exact HK.out _ (by assumption) | go_keep)
    (first
      | (go_at_call 15; refine (HVt.out _ (Is_below HI.out hE0)).mono ?_; rintro e w5 ⟨he, hB⟩; subst he; have hE1 : Ext w w5 := hE0.trans hB; have hF1 : Ext w4 w5 := hF0.trans hB; clear hB)
      | (go_at_call 16; refine (HVr.out _ (Is_below HI.out hE1)).mono ?_; rintro e w6 ⟨he, hB⟩; subst he; have hE2 : Ext w w6 := hE1.trans hB; have hF2 : Ext w4 w6 := hF1.trans hB; clear hB))
  have HE2 := Lib.hid hE2
  have HF2 := Lib.hid hF2
  clear hE2 hF2
  go_wp2_with (first
    | (go_at_call 17; refine (HP.out _ (Laid_ext HL.out HE2.out)).mono ?_; rintro e w7 ⟨v, he, ⟨p0, p1, p2, p3, hv, hp⟩, hB⟩; subst he; subst hv; obtain ⟨pk, pn, ps, pxa, pl, pc, r0, r1, r2, r3⟩ := Is_form hp; subst r0; subst r1; subst r2; subst r3; have HE3 : Hid (Ext w w7) := Lib.hid (HE2.out.trans hB); have HF3 : Hid (Ext w4 w7) := Lib.hid (HF2.out.trans hB); have HQ := Lib.hid hp; obtain ⟨m0, m1, m2, m3⟩ := HK.out (w7.alloc (.cells #[.int .i64 pk, .string pn, .int .i64 ps, .slice pxa pl pc] 24)) (Ext.alloc HF3.out _); clear hB hp)
    | (go_at_call 18; refine (HS.out _ _ _ _ _ (Is_alloc HQ.out _) (Is_alloc (Is_below HI.out HE3.out) _)).mono ?_; rintro e w8 ⟨he, hB⟩; subst he; have HE4 : Hid (Ext w w8) := Lib.hid (Ext.trans (HE3.out.alloc _) hB); clear hB))
  go_ret
  exact ⟨rfl, HE4.out⟩

theorem termValid_any (HA : AwakeOk) (t : Tm) (c0 c1 c2 c3 : Value) (w : World) (hL : Laid w) (hI : Is w t c0 c1 c2 c3) :
    Calls Tryd.prog 3 #[.agg #[c0, c1, c2, c3]] w fun e w' => e = .returned (.bool true) ∧ Below w.heap.size w w' := by
  cases h : few [t] 1 450 with
  | true =>
    by_cases hv : validE t = 0
    · exact valid_good (Lib.hid HA) t c0 c1 c2 c3 w hL hI h hv
    · exact valid_bad (Lib.hid HA) t c0 c1 c2 c3 w hL hI h hv
  | false => exact valid_large (Lib.hid HA) t c0 c1 c2 c3 w hL hI h
end Go.Proofs.YthhhmjjgckkdhaaDoor
