/-
  THE WALKS OF the law TermSubterms, the chapter's examples by hypothesis.
-/
import Derived.Test.YthhhmjjgckkdhaaDoorLawSizesW
import Derived.Test.YthhhmjjgckkdhaaDoorAddset
import Derived.Test.YthhhmjjgckkdhaaDoorDel
import Derived.Deep.DeepCutAuto
namespace Go.Proofs.YthhhmjjgckkdhaaDoor
open Go.RowKit

theorem Elems_of_Row {w : World} {ls : List Tm} {xa : Option Addr} {cap : Nat} (h : Row w ls xa) (hc : ls.length ≤ cap) (hl : ls.length ≤ maxLen) : Elems (fun b => b < w.heap.size) w ls (.slice xa ls.length cap) := by
  cases ls with
  | nil => exact ⟨xa, cap, [], rfl, hc, hl, rfl, fun h => by simp at h⟩
  | cons t ts =>
    obtain ⟨b, o, rfl⟩ := Row_at h (by simp)
    obtain ⟨cs, hK, hcs⟩ := KC_of_Row _ b o h
    exact ⟨_, cap, cs, rfl, hc, hl, hK, fun _ => ⟨b, o, rfl, fun j u hu => by have := hcs j u hu; rw [add_plain] at this; exact this⟩⟩
theorem sizes_bound (M : Nat) : ∀ l : List Tm, (∀ x ∈ l, size x ≤ M) → sizes l ≤ l.length * M
  | [], _ => by simp [sizes]
  | t :: ts, h => by
    have h1 := sizes_bound M ts (fun x hx => h x (List.mem_cons_of_mem _ hx))
    have h2 := h t (List.mem_cons_self ..)
    simp only [sizes, List.length_cons]
    rw [Nat.succ_mul]; omega
theorem cmpL_self : ∀ l : List Tm, cmpL l l = 0
  | [] => rfl
  | t :: ts => by simp only [cmpL, cmpT_self, cmpL_self ts]; rfl
/-- The two sets are one list. -/
theorem set_lists {ts us : List Tm} {W : World} {xa xa' : Option Addr} {cap cap' : Nat} (hS : IsSet us ts) (hl : us.length ≤ ts.length) (h3 : ∀ x ∈ ts, size x ≤ 300) (ht : ts.length ≤ 300) (hR : Row W us xa) (hR' : Row W (setT ts) xa') :
    Calls Tryd.prog 27 #[.slice xa us.length cap, .slice xa' (setT ts).length cap'] W fun e w' => e = .returned (.bool true) ∧ Below W.heap.size W w' := by
  have e : us = setT ts := sorted_eq us _ hS.1 (setT_sorted ts) fun t => by rw [hS.2, setT_mem]
  rw [← e] at hR' ⊢
  have hb : sizes us ≤ us.length * 300 := sizes_bound 300 us fun x hx => h3 x ((hS.2 x).1 hx)
  have hm : us.length * 300 ≤ 300 * 300 := Nat.mul_le_mul_right 300 (by omega)
  refine (lists_any us us xa xa' cap cap' W (by unfold maxLen; omega) (by unfold maxLen; omega) (by omega) (by omega) hR hR').mono fun e w' h => ?_
  have he : listsEq us us = true := by simp [listsEq, cmpL_self]
  rw [he] at h
  exact h
theorem few_sizes20 {ls : List Tm} (h : few ls 20 300 = true) : sizes ls ≤ 300 ∧ ls.length ≤ 20 := by
  unfold few at h
  split at h
  · cases h
  · have := fewL_sizes ls 300 (by omega) h
    constructor <;> omega

set_option maxHeartbeats 3200000 in
set_option maxRecDepth 100000 in
theorem subterms_large (HA : Hid AwakeOk) (ls : List Tm) (xa : Option Addr) (cap : Nat) (w : World) (hL : Laid w) (hR : Row w ls xa) (hlen : ls.length ≤ maxLen) (h1 : few ls 20 300 = false) :
    Calls Tryd.prog 7 #[.slice xa ls.length cap] w fun e w' => e = .returned (.bool true) ∧ Below w.heap.size w w' := by
  have H1 := Lib.hid h1
  have HL := Lib.hid hL
  have HR := Lib.hid hR
  have HX0 : Hid (Ext w w) := Ext.refl w
  clear h1 hL hR
  go_enter Tryd.func7, Tryd.ntmps7
  go_wp2_with (first
    | (go_at_call 11; (first | (have HQ := Lib.hid HB2.out) | (have HQ := Lib.hid HX0.out)); refine (HA.out _ (Laid_ext HL.out HQ.out)).mono ?_; rintro e w1 ⟨he, hB1⟩; subst he; have HB1 := Lib.hid (Ext.trans HQ.out hB1); clear hB1)
    | (go_at_call 24; refine (few_any ls xa cap 20 300 _ hlen (by omega) (by omega) (Row_below HR.out HB1.out)).mono ?_; rintro e w2 ⟨he, hB2⟩; rw [H1.out] at he; subst he; have HB2 := Lib.hid (Ext.trans HB1.out hB2); clear hB2))
  go_ret
  exact ⟨rfl, HB1.out⟩

set_option maxHeartbeats 3200000 in
set_option maxRecDepth 100000 in
theorem subterms_small (HA : Hid AwakeOk) (ls : List Tm) (xa : Option Addr) (cap : Nat) (w : World) (hL : Laid w) (hR : Row w ls xa) (hcap : ls.length ≤ cap) (hlen : ls.length ≤ maxLen) (h1 : few ls 20 300 = true) :
    Calls Tryd.prog 7 #[.slice xa ls.length cap] w fun e w' => e = .returned (.bool true) ∧ Below w.heap.size w w' := by
  obtain ⟨hs, hl20⟩ := few_sizes20 h1
  have hsub : (subL ls).length ≤ 300 := by rw [subL_len]; exact hs
  have hmem : ∀ x ∈ subL ls, size x ≤ 300 := fun x hx => by have := subL_size ls x hx; omega
  have H1 := Lib.hid h1
  have HL := Lib.hid hL
  have HR := Lib.hid hR
  have HM := Lib.hid hmem
  clear h1 hL hR hmem
  go_enter Tryd.func7, Tryd.ntmps7
  go_wp2_with (first
    | (go_at_call 11; refine (HA.out _ HL.out).mono ?_; rintro e w1 ⟨he, hB1⟩; subst he; have HB1 : Hid (Ext w w1) := Lib.hid hB1; clear hB1)
    | (go_at_call 24; refine (few_any ls xa cap 20 300 _ hlen (by omega) (by omega) (Row_below HR.out HB1.out)).mono ?_; rintro e w2 ⟨he, hB2⟩; rw [H1.out] at he; subst he; have HB2 := Lib.hid (Ext.trans HB1.out hB2); clear hB2)
    | (go_at_call 28; refine (Subterms_all ls xa cap _ (Row_below HR.out HB2.out) (by omega)).mono ?_; rintro e w3 ⟨us, xb, c3, he, hS, hul, hRu, hB⟩; subst he; have HB3 := Lib.hid (Ext.trans HB2.out hB); have HS := Lib.hid (And.intro hS (And.intro hul hRu)); clear hS hul hRu hB)
    | (go_at_call 29; refine (rsub_any ls _ w3.heap.size _ (by omega) (Nat.le_refl _) (Elems_of_Row (Row_below HR.out HB3.out) hcap hlen)).mono ?_; rintro e w4 ⟨v4, he, hE4, hB⟩; subst he; obtain ⟨xd, c4, hv, _, _, hR4⟩ := Elems_row hE4; subst hv; have HLI := Lib.hid (set_lists (cap := c3) (cap' := c4) HS.out.1 HS.out.2.1 HM.out hsub (Row_below HS.out.2.2 hB) hR4); have HB4 := Lib.hid (Ext.trans HB3.out hB); clear hE4 hR4 hB)
    | (go_at_call 27; refine (HLI.out).mono ?_; rintro e w5 ⟨he, hB⟩; subst he; have HB5 := Lib.hid (Ext.trans HB4.out hB); clear hB))
  go_loopw [21] (fun i wr => ∃ j : Nat, j ≤ ls.length ∧ i = .int .i64 j ∧ Ext w wr) (fun i _ => ls.length - (intOf i).toNat)
  case atStart => exact ⟨0, Nat.zero_le _, rfl, HB5.out⟩
  case round =>
    obtain ⟨j, hj, rfl, hE⟩ := hrel
    have HE := Lib.hid hE
    by_cases hlt : j < ls.length
    rotate_left
    · clear hE
      go_wp2_with fail
      go_ret
      exact ⟨rfl, HE.out⟩
    obtain ⟨kb, ko, rfl⟩ := Row_at HR.out (by omega)
    obtain ⟨x0, x1, x2, x3, m0, m1, m2, m3, hK⟩ := Row_get (Row_below HR.out hE) j hlt
    have hsz := size_le_sizes (List.getElem_mem hlt)
    generalize ls[j] = t at hK hsz
    obtain ⟨k', n', s', xk, l', c', e0, e1, e2, e3⟩ := Is_form hK
    subst e0 e1 e2 e3
    have hz300 : size t ≤ 300 := by omega
    have hkl : ∀ k, (ofK k (subT t)).length ≤ 300 := fun k => by have := ofK_len k (subT t); rw [subT_len] at this; omega
    have hkm : ∀ k, ∀ x ∈ ofK k (subT t), size x ≤ 300 := fun k x hx => by have := subT_size t x (List.mem_filter.1 hx).1; omega
    have HKL := Lib.hid hkl
    have HKM := Lib.hid hkm
    have HK := Lib.hid (Is_alloc hK (.cells #[.int .i64 k', .string n', .int .i64 s', .slice xk l' c'] 24))
    have HC : Hid (∀ W, Ext (wr.alloc (.cells #[.int .i64 k', .string n', .int .i64 s', .slice xk l' c'] 24)) W → W.cell? ⟨wr.heap.size, 0, none⟩ = some (.int .i64 k') ∧ W.cell? ⟨wr.heap.size, 1, none⟩ = some (.string n') ∧ W.cell? ⟨wr.heap.size, 2, none⟩ = some (.int .i64 s') ∧ W.cell? ⟨wr.heap.size, 3, none⟩ = some (.slice xk l' c')) := fun W h => box_kept (T := 24) (Below.mono h (by simp))
    have HX : Hid (Ext wr (wr.alloc (.cells #[.int .i64 k', .string n', .int .i64 s', .slice xk l' c'] 24))) := Lib.hid ((Ext.refl wr).alloc _)
    have i1 : (0 : Int) ≤ (j : Int) := by omega
    have i2 : (j : Int) < (ls.length : Int) := by omega
    clear hE hK hsz hkl hkm
    go_upto_region 8 with (fail)
    have hEr := Ext.refl (wr.alloc (.cells #[.int .i64 k', .string n', .int .i64 s', .slice xk l' c'] 24))
    generalize wr.alloc (.cells #[.int .i64 k', .string n', .int .i64 s', .slice xk l' c'] 24) = wq at HK HC HX hEr ⊢
    obtain ⟨b0, b1, b2, b3⟩ := HC.out _ (Ext.refl _)
    have hF0 : Ext wq wq.drew := (Ext.refl wq).drew
    clear m0 m1 m2 m3 hEr
    go_cut [38] (fun v wc => v = .bool false ∧ Ext wq wc)
    case first =>
      have tok1 : True := trivial
      go_region_held3 (fun W => W.cell? ⟨wr.heap.size, 0, none⟩ = some (.int .i64 k') ∧ W.cell? ⟨wr.heap.size, 1, none⟩ = some (.string n') ∧ W.cell? ⟨wr.heap.size, 2, none⟩ = some (.int .i64 s') ∧ W.cell? ⟨wr.heap.size, 3, none⟩ = some (.slice xk l' c'))
        (first | exact HC.out _ (by assumption) | go_keep)
        (first
          | (go_at_call 30; refine (Vars_any t _ _ _ _ _ (Is_below HK.out hF0) (by omega)).mono ?_; rintro e wa ⟨us, xb, ca, he, hS, hul, hRu, hB⟩; subst he; have HS := Lib.hid (And.intro hS (And.intro hul hRu)); have hF1 := Ext.trans hF0 hB; clear hS hul hRu hB)
          | (go_at_call 31; refine (rVars_any t _ _ _ _ wa.heap.size _ (by omega) (Nat.le_refl _) (Is_IsIn _ _ _ _ _ (Is_below HK.out hF1))).mono ?_; rintro e wb ⟨v4, he, hE4, hB⟩; subst he; obtain ⟨xd, cb, hv, _, _, hR4⟩ := Elems_row hE4; subst hv; have HLI := Lib.hid (set_lists (cap := ca) (cap' := cb) HS.out.1 HS.out.2.1 (HKM.out 1) (HKL.out 1) (Row_below HS.out.2.2 hB) hR4); have hF2 := Ext.trans hF1 hB; clear hE4 hR4 hB)
          | (go_at_call 27; have _t := tok1; refine (HLI.out).mono ?_; rintro e wd ⟨he, hB⟩; subst he; have hF3 := Ext.trans hF2 hB; clear hB; clear tok1)
          | (go_at_call 32; refine (Atoms_any t _ _ _ _ _ (Is_below HK.out hF3) (by omega)).mono ?_; rintro e we ⟨us2, xe, ce, he, hS, hul, hRu, hB⟩; subst he; have HS2 := Lib.hid (And.intro hS (And.intro hul hRu)); have hF4 := Ext.trans hF3 hB; clear hS hul hRu hB)
          | (go_at_call 33; refine (rAtoms_any t _ _ _ _ we.heap.size _ (by omega) (Nat.le_refl _) (Is_IsIn _ _ _ _ _ (Is_below HK.out hF4))).mono ?_; rintro e wf ⟨v5, he, hE5, hB⟩; subst he; obtain ⟨xf, cf, hv, _, _, hR5⟩ := Elems_row hE5; subst hv; have HLJ := Lib.hid (set_lists (cap := ce) (cap' := cf) HS2.out.1 HS2.out.2.1 (HKM.out 2) (HKL.out 2) (Row_below HS2.out.2.2 hB) hR5); have hF5 := Ext.trans hF4 hB; clear hE5 hR5 hB)
          | (go_at_call 27; refine (HLJ.out).mono ?_; rintro e wg ⟨he, hB⟩; subst he; have hF6 := Ext.trans hF5 hB; clear hB))
      go_wp2_with fail
      go_meet
      exact ⟨rfl, hF6⟩
    case rest =>
      obtain ⟨rfl, hEc⟩ := hcut
      have HEc := Lib.hid hEc
      clear hEc hF0
      go_wp2_with fail
      go_roundw
      case rel => exact ⟨j + 1, by omega, by go_num, Ext.trans HE.out (Ext.trans HX.out HEc.out)⟩
      case measure => simp [intOf]; omega

theorem lawSub_any (HA : AwakeOk) (ls : List Tm) (xa : Option Addr) (cap : Nat) (w : World) (hL : Laid w) (hR : Row w ls xa) (hcap : ls.length ≤ cap) (hlen : ls.length ≤ maxLen) :
    Calls Tryd.prog 7 #[.slice xa ls.length cap] w fun e w' => e = .returned (.bool true) ∧ Below w.heap.size w w' := by
  cases h : few ls 20 300 with
  | false => exact subterms_large (Lib.hid HA) ls xa cap w hL hR hlen h
  | true => exact subterms_small (Lib.hid HA) ls xa cap w hL hR hcap hlen h

end Go.Proofs.YthhhmjjgckkdhaaDoor
