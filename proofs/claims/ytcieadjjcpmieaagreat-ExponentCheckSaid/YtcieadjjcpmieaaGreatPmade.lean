/-
  THE WALK OF the reference's Made: the product of the nonces a to f with given powers.
-/
import Derived.Test.YtcieadjjcpmieaaGreatPof
import Derived.Test.YtcieadjjcpmieaaGreatNodes
import Derived.Test.YtcieadjjcpmieaaGreatAwake
import Derived.Deep.RegionHeldLaw
import Derived.Test.YtcieadjjcpmieaaGreatKeep
import Derived.Test.YtcieadjjcpmieaaGreatPelim
import Derived.Test.YtcieadjjcpmieaaGreatPsame
import Derived.Test.YtcieadjjcpmieaaGreatIntz
namespace Go.Proofs.YtcieadjjcpmieaaGreat
open Go.RowKit

def nmI (i : Nat) : ByteArray := (⟨#[97, 98, 99, 100, 101, 102]⟩ : ByteArray).extract i (i + 1)
def atomN (i : Nat) : Tm := .mk 2 (nmI i) 2 []
def madeJ (q : List Int) : Nat → List Pw
  | 0 => []
  | j + 1 => madeJ q j ++ (if q.getD j 0 = 0 then [] else [(atomN j, q.getD j 0)])
def madeP (q : List Int) : List Pw := madeJ q (min 6 q.length)
theorem madeJ_len (q : List Int) : ∀ j, (madeJ q j).length ≤ j
  | 0 => Nat.le_refl _
  | j + 1 => by
    have := madeJ_len q j
    rw [madeJ, List.length_append]
    split <;> simp <;> omega
/-- Small numbers as they lie. -/
def I8Row (w : World) (q : List Int) (xa : Option Addr) : Prop := (∀ x ∈ q, -128 ≤ x ∧ x ≤ 127) ∧ ∀ i (h : i < q.length), ∃ b o, xa = some ⟨b, o, none⟩ ∧ w.cell? ⟨b, o + i, none⟩ = some (.int .i8 q[i])
theorem I8Row.ext {w W : World} {q : List Int} {xa : Option Addr} (h : I8Row w q xa) (y : Ext w W) : I8Row W q xa := ⟨h.1, fun i hi => by
  obtain ⟨b, o, e, hc⟩ := h.2 i hi
  exact ⟨b, o, e, keep_below y _ _ hc⟩⟩

set_option maxHeartbeats 6400000 in
set_option maxRecDepth 100000 in
theorem Made_fr (q : List Int) (xa : Option Addr) (cap : Nat) (w : World) (hl : q.length ≤ maxLen) (hR : I8Row w q xa) :
    Calls Tryz.prog 39 #[.slice xa q.length cap] w (fun e w' => PwPost w (madeP q) e w' ∧ ∀ xa n c b o s, e = .returned (.slice xa n c) → xa = some ⟨b, o, s⟩ → w.heap.size ≤ b) := by
  have HR := Lib.hid hR
  obtain ⟨i0, hi0, hz0, hz1, hz2⟩ := info_parts infoPw
  have HI0 := Lib.hid (And.intro hi0 (And.intro hz0 (And.intro hz1 hz2)))
  obtain ⟨n, hn⟩ : ∃ n, q.length = n := ⟨_, rfl⟩
  have HN := Lib.hid hn
  unfold maxLen at hl
  rw [hn] at hl ⊢
  have HEND : Hid (∀ W j v, Ext w W → OwnP w.heap.size (fun b => b < 0) W (madeJ q j) v → j ≤ 6 → j ≤ n → (6 ≤ j ∨ n ≤ j) → PwPost w (madeP q) (.returned v) W ∧ ∀ xa n c b o s, Ending.returned v = .returned (.slice xa n c) → xa = some ⟨b, o, s⟩ → w.heap.size ≤ b) := by
    show ∀ _, _
    intro W j v y ho h1 h2 h3
    have e : madeP q = madeJ q j := by unfold madeP; rw [hn, show min 6 n = j by omega]
    rw [e]
    obtain ⟨xa, c, rfl⟩ := OwnP_form ho
    obtain ⟨r1, r2⟩ := OwnP_row ho
    refine ⟨⟨xa, c, rfl, r2, r1, y⟩, fun xa' n' c' b' o' s' e1 e2 => ?_⟩
    subst e2
    simp only [Ending.returned.injEq, Value.slice.injEq] at e1
    obtain ⟨rfl, _, _⟩ := e1
    obtain ⟨_, hown, _⟩ := ho
    exact (hown.lt b' rfl).1
  clear hR hi0 hz0 hz1 hz2 hn
  go_enter Tryz.func39, Tryz.ntmps39
  go_wp2_with fail
  go_loopw [3, 4] (fun v i wr => ∃ j : Nat, i = .int .i64 j ∧ j ≤ 6 ∧ j ≤ n ∧ OwnP w.heap.size (fun b => b < 0) wr (madeJ q j) v ∧ Ext w wr) (fun _ i _ => 6 - (intOf i).toNat)
  case atStart => exact ⟨0, rfl, by omega, by omega, OwnP_nil _ _ _, Ext.refl _⟩
  case round =>
    obtain ⟨j, rfl, h6, hjn, hO, hE⟩ := hrel
    obtain ⟨xl, lcap, rfl⟩ := OwnP_form hO
    by_cases hb6 : j < 6
    rotate_left
    · have HF := Lib.hid (HEND.out wr j _ hE hO h6 hjn (by omega))
      have q1 : ¬ (j : Int) < 6 := by omega
      have q2 : decide ((j : Int) < 6) = false := decide_eq_false q1
      clear hO hE
      go_wp2_with fail
      go_ret
      exact HF.out
    have q1 : (j : Int) < 6 := by omega
    by_cases hbn : j < n
    rotate_left
    · have HF := Lib.hid (HEND.out wr j _ hE hO h6 hjn (by omega))
      have q3 : ¬ (j : Int) < (n : Int) := by omega
      clear hO hE
      go_wp2_with fail
      go_ret
      exact HF.out
    have hjq : j < q.length := by rw [HN.out]; exact hbn
    obtain ⟨b, o, rfl, g00⟩ := HR.out.2 j hjq
    have g0 := keep_below hE _ _ g00
    have hz := HR.out.1 _ (List.getElem_mem hjq)
    have HJ1 : Hid (madeJ q (j + 1) = madeJ q j ++ (if q[j] = 0 then [] else [(atomN j, q[j])])) := by
      have e : q.getD j 0 = q[j] := by rw [List.getD_eq_getElem?_getD, List.getElem?_eq_getElem hjq]; rfl
      show _ = _
      rw [madeJ, e]
    generalize q[j] = z at g00 g0 hz HJ1
    have HC0 : Hid (∀ W, Ext w W → W.cell? ⟨b, o + j, none⟩ = some (.int .i8 z)) := fun W y => keep_below y _ _ g00
    clear g00
    obtain ⟨hz1, hz2⟩ := hz
    have q3 : (j : Int) < (n : Int) := by omega
    have q4 : (0 : Int) ≤ (j : Int) := by omega
    have HOr := Lib.hid hO
    have HEr := Lib.hid hE
    by_cases h0 : z = 0
    · have HJ2 : Hid (madeJ q (j + 1) = madeJ q j) := by show _ = _; rw [HJ1.out, if_pos h0, List.append_nil]
      subst h0
      clear hO hE
      go_wp2_with fail
      go_roundw
      case rel => exact ⟨j + 1, by go_num, by omega, by omega, by rw [HJ2.out]; exact HOr.out, HEr.out⟩
      case measure => simp [intOf]; omega
    have HJ2 : Hid (madeJ q (j + 1) = madeJ q j ++ [(atomN j, z)]) := by show _ = _; rw [HJ1.out, if_neg h0]
    have q5 : (z != 0) = true := by rw [bne_iff_ne]; exact h0
    have hlj := madeJ_len q j
    obtain ⟨cs, hown, hK⟩ := hO
    obtain ⟨A, hA⟩ : ∃ A, (madeJ q j).length = A := ⟨_, rfl⟩
    have HA := Lib.hid hA
    rw [hA] at hown hlj ⊢
    have HO := Lib.hid (fun W (x : Ext wr W) => own_heap hown (fun q hq => x.block q (hown.lt q hq).2))
    have hws := hE.size
    have HPU : Hid (∀ w6, Ext wr w6 → ∀ g cap w8 ob, w8.ownsRow w.heap.size 77 5 (.slice (some ⟨g, 0, none⟩) (A + 1) cap) (A + 1) (cs ++ [.int .i64 2, .string (nmI j), .int .i64 2, .slice none 0 0, .int .i64 z]) → (w6.alloc ob).grownBy w8 (Value.slice xl A lcap).ownBlock → OwnP w.heap.size (fun b => b < 0) w8 (madeJ q (j + 1)) (.slice (some ⟨g, 0, none⟩) (A + 1) cap) ∧ Ext w w8) := by
      show ∀ _, _
      intro w6 hE6 g cap w8 ob ho8 hg
      have r := OwnP_push (t := atomN j) (N := z) hA.symm hown hK (Nat.zero_le _) hws hE6 (IsIn_leaf (by omega) (by omega) (by unfold nmI maxLen; rw [ByteArray.size_extract]; simp; omega)) (by unfold i64ok; omega) ho8 hg
      rw [HJ2.out]
      exact ⟨r.1, Below.trans hE r.2.1⟩
    have hF0 : Ext wr wr.drew := (Ext.refl wr).drew
    have HCx : Hid (∀ W, Ext wr W → W.cell? ⟨b, o + j, none⟩ = some (.int .i8 z)) := fun W y => keep_below y _ _ g0
    have ew : IntKind.i64.wrap ((j : Int) + 1) = (j : Int) + 1 := IntWalk.i64_in _ (by omega)
    have ew2 : ((j : Int) + 1).toNat = j + 1 := by omega
    have ew3 : (0 : Int) ≤ (j : Int) + 1 := by omega
    have ew4 : (j : Int) + 1 ≤ 6 := by omega
    have ew5 : (j : Int) ≤ (j : Int) + 1 := by omega
    have ew6 : IntKind.i64.wrap z = z := IntWalk.i64_in _ (by omega)
    clear hown hK hE hA h0 HJ1 hjq
    go_upto_region 6 with (fail)
    go_region_held_law (fun W => W.cell? ⟨b, o + j, none⟩ = some (.int .i8 z))
      (first | exact HC0.out _ HP8.out.2 | exact HCx.out _ (by assumption) | go_keep)
      (first
        | (go_at_call 35; refine (atom_any _ _ _).mono ?_; rintro e w7 ⟨he, hB⟩; subst he; have hF1 : Ext wr w7 := hF0.trans hB; have HO7 := Lib.hid (HO.out _ hF1); have hw7 : w.heap.size ≤ w7.heap.size := Nat.le_trans hws hF1.size; clear hB)
        | (refine step_append_lies _ (by rfl) _ _ _ (by rfl) w.heap.size 77 i0 _ 5 64 Tryz.underlying27 HI0.out.1 HI0.out.2.1 HI0.out.2.2.1 HI0.out.2.2.2 rfl (by omega) (.slice xl A lcap) A cs (by rfl) (HO7.out.alloc _) ⟨w7.heap.size, 0, none⟩ 1 1 [.int .i64 2, .string (nmI j), .int .i64 2, .slice none 0 0, .int .i64 z] (by rfl) (by rfl) (World.news_of_block (cs := #[.int .i64 2, .string (nmI j), .int .i64 2, .slice none 0 0, .int .i64 z]) (t := 77) (fr := (0, 0)) (heap_alloc_new w7 _)) (by simp [Value.oneCell']) (by omega) (by unfold maxLen; omega) (by omega) (by simp; omega) (w7.heap.size + 1) (by simp) ?_; intro gg cap8 w8 hown8 hgrow hat hltt; have HP8 := Lib.hid (HPU.out w7 hF1 _ _ _ _ hown8 hgrow); clear hown8 hgrow hat hltt))
    all_goals (go_wp2_with fail)
    all_goals (go_roundw)
    all_goals (first | exact ⟨j + 1, by go_num, by omega, by omega, HP8.out.1, HP8.out.2⟩ | (simp [intOf]; omega))
theorem Made_any (q : List Int) (xa : Option Addr) (cap : Nat) (w : World) (hl : q.length ≤ maxLen) (hR : I8Row w q xa) :
    Calls Tryz.prog 39 #[.slice xa q.length cap] w (PwPost w (madeP q)) :=
  (Made_fr q xa cap w hl hR).mono fun _ _ h => h.1
end Go.Proofs.YtcieadjjcpmieaaGreat

/-
  THE WALKS OF the closures of layer 6's examples: inv of a term, mul of terms.
-/
namespace Go.Proofs.YtcieadjjcpmieaaGreat
open Go.RowKit

theorem app1E (n : ByteArray) (t : Tm) (kb : Nat) (W : World) (hn : n.size ≤ maxLen) (hR : Row W [t] (some ⟨kb, 0, none⟩)) :
    Calls Tryz.prog 37 #[.string n, .slice (some ⟨kb, 0, none⟩) 1 1] W (AppPost W n [t]) :=
  app_any n [t] kb 0 1 W hn (by simp) (by simp) hR
/-- A term stored into a box of zeros. -/
theorem put_keep {w : World} {g : Nat} {t : Tm} {c0 c1 c2 c3 d0 d1 d2 d3 : Value} {T : TypeId} (hz : w.heap[g]? = some (.cells #[.int .i64 0, .string ⟨#[]⟩, .int .i64 0, .slice none 0 0] T (0, 0))) (h0 : nodesE t = 0) (hI : Is w t c0 c1 c2 c3) : Is (put4 w g 0 d0 d1 d2 d3) t c0 c1 c2 c3 := by
  refine is_keep (fun b hb => put4_other _ _ _ _ _ _ _ _ hb) (fun o n hc => ?_) t h0 _ _ _ _ hI
  unfold World.cell? at hc
  rw [hz] at hc
  match o, hc with
  | 0, hc => simp at hc; exact hc.symm
  | 1, hc => simp at hc
  | 2, hc => simp at hc; exact hc.symm
  | 3, hc => simp at hc
  | o + 4, hc => simp at hc
set_option maxHeartbeats 3200000 in
set_option maxRecDepth 100000 in
theorem invcl_any (t : Tm) (c0 c1 c2 c3 : Value) (w : World) (h0 : nodesE (xInv t) = 0) (hI : Is w t c0 c1 c2 c3) :
    Calls Tryz.prog 36 #[.agg #[c0, c1, c2, c3]] w (AppPost w ⟨#[105, 110, 118]⟩ [t]) := by
  obtain ⟨k, n, s, xa, l, c, rfl, rfl, rfl, rfl⟩ := Is_form hI
  obtain ⟨w1, hw1⟩ : ∃ w1, w.alloc (.cells #[.int .i64 k, .string n, .int .i64 s, .slice xa l c] 24) = w1 := ⟨_, rfl⟩
  have hx1 : Ext w w1 := by rw [← hw1]; exact (Ext.refl w).alloc _
  have hs1 : w1.heap.size = w.heap.size + 1 := by rw [← hw1, World.size_alloc]
  have hb1 : w1.heap[w.heap.size]? = some (.cells #[.int .i64 k, .string n, .int .i64 s, .slice xa l c] 24 (0, 0)) := by rw [← hw1]; exact heap_alloc_new _ _
  obtain ⟨w2, hw2⟩ : ∃ w2, w1.alloc (.cells #[.int .i64 0, .string ⟨#[]⟩, .int .i64 0, .slice none 0 0] 24) = w2 := ⟨_, rfl⟩
  have hx2 : Ext w1 w2 := by rw [← hw2]; exact (Ext.refl w1).alloc _
  have hs2 : w2.heap.size = w1.heap.size + 1 := by rw [← hw2, World.size_alloc]
  have hb2 : w2.heap[w1.heap.size]? = some (.cells #[.int .i64 0, .string ⟨#[]⟩, .int .i64 0, .slice none 0 0] 24 (0, 0)) := by rw [← hw2]; exact heap_alloc_new _ _
  have hb12 := (hx2.block w.heap.size (by omega)).trans hb1
  rw [hs1] at hb2 hs2
  have HI2 := Lib.hid (Is_below (w' := w2) hI (Ext.trans hx1 hx2))
  have HX := Lib.hid (Ext.trans hx1 hx2)
  have HB2 := Lib.hid hb2
  have HB1 := Lib.hid hb12
  have HS2 := Lib.hid hs2
  have H0 := Lib.hid h0
  clear hI hx1 hx2 hb1 hb2 hb12 h0 hs1 hs2
  have HW : Hid ((w.alloc (.cells #[.int .i64 k, .string n, .int .i64 s, .slice xa l c] 24)).alloc (.cells #[.int .i64 0, .string ⟨#[]⟩, .int .i64 0, .slice none 0 0] 24) = w2) := by show _ = _; rw [hw1, hw2]
  clear hw1 hw2
  go_enter Tryz.func36, Tryz.ntmps36
  go_upto_region 1 with (fail)
  rw [HW.out]
  clear HW
  obtain ⟨h, hh⟩ : ∃ h, w.heap.size = h := ⟨_, rfl⟩
  have HHE := Lib.hid hh
  rw [hh] at HB1 HB2 HS2 ⊢
  clear hh
  obtain ⟨⟨y0, y1, y2, y3⟩, _⟩ := box_facts HB1.out
  go_wp2_with (go_at_call 37; refine (app1E ⟨#[105, 110, 118]⟩ t _ _ (by decide) (Row_one_at _ (by simp) HI2.out 24)).mono ?_; rintro e w3 ⟨⟨kv, he, hJ⟩, hB⟩; subst he; obtain ⟨_, _, _, x5, l5, c5, _, _, _, e3⟩ := Is_form hJ; subst e3; have HJ := Lib.hid hJ; have hx3 : Ext w2 w3 := ((Ext.refl w2).alloc _).trans hB; have HX3 := Lib.hid hx3; have hz := (hx3.block (h + 1) (by rw [HS2.out]; omega)).trans HB2.out; have HZ := Lib.hid hz; obtain ⟨⟨m0, m1, m2, m3⟩, n0, n1, n2, n3⟩ := box_facts hz; clear hJ hB hx3 hz)
  have HF : Hid (AppPost w ⟨#[105, 110, 118]⟩ [t] (.returned (.agg #[.int .i64 3, .string ⟨#[105, 110, 118]⟩, .int .i64 0, .slice x5 l5 c5])) (put4 w3 (h + 1) 0 (.int .i64 3) (.string ⟨#[105, 110, 118]⟩) (.int .i64 0) (.slice x5 l5 c5))) :=
    ⟨⟨_, rfl, put_keep HZ.out H0.out HJ.out⟩, put4_below (Ext.trans HX.out HX3.out) (by rw [HHE.out]; omega)⟩
  exact bodyPost_ret (v := .agg #[.int .i64 3, .string ⟨#[105, 110, 118]⟩, .int .i64 0, .slice x5 l5 c5]) (by simp [results, Tryz.results36, go_sem, m0, m1, m2, m3]) rfl HF.out
set_option maxHeartbeats 3200000 in
set_option maxRecDepth 100000 in
theorem mulcl_any (ts : List Tm) (kb ko cap : Nat) (w : World) (h0 : nodesE (xMul ts) = 0) (hl : ts.length ≤ 1073741824) (hp : 0 < ts.length) (hR : Row w ts (some ⟨kb, ko, none⟩)) :
    Calls Tryz.prog 38 #[.slice (some ⟨kb, ko, none⟩) ts.length cap] w (AppPost w ⟨#[109, 117, 108]⟩ ts) := by
  obtain ⟨w2, hw2⟩ : ∃ w2, w.alloc (.cells #[.int .i64 0, .string ⟨#[]⟩, .int .i64 0, .slice none 0 0] 24) = w2 := ⟨_, rfl⟩
  have hx2 : Ext w w2 := by rw [← hw2]; exact (Ext.refl w).alloc _
  have hs2 : w2.heap.size = w.heap.size + 1 := by rw [← hw2, World.size_alloc]
  have hb2 : w2.heap[w.heap.size]? = some (.cells #[.int .i64 0, .string ⟨#[]⟩, .int .i64 0, .slice none 0 0] 24 (0, 0)) := by rw [← hw2]; exact heap_alloc_new _ _
  have HAP := Lib.hid (app_any ⟨#[109, 117, 108]⟩ ts kb ko cap w2 (by decide) hl hp (Row_below (w' := w2) hR hx2))
  have HX := Lib.hid hx2
  have HB2 := Lib.hid hb2
  have HS2 := Lib.hid hs2
  have H0 := Lib.hid h0
  clear hx2 hb2 hs2 h0 hR
  have HW : Hid (w.alloc (.cells #[.int .i64 0, .string ⟨#[]⟩, .int .i64 0, .slice none 0 0] 24) = w2) := hw2
  clear hw2
  go_enter Tryz.func38, Tryz.ntmps38
  go_upto_region 1 with (fail)
  rw [HW.out]
  clear HW
  obtain ⟨h, hh⟩ : ∃ h, w.heap.size = h := ⟨_, rfl⟩
  have HHE := Lib.hid hh
  rw [hh] at HB2 HS2 ⊢
  clear hh
  go_wp2_with (go_at_call 37; refine (HAP.out).mono ?_; rintro e w3 ⟨⟨kv, he, hJ⟩, hB⟩; subst he; obtain ⟨_, _, _, x5, l5, c5, _, _, _, e3⟩ := Is_form hJ; subst e3; have HJ := Lib.hid hJ; have hx3 : Ext w2 w3 := hB; have HX3 := Lib.hid hx3; have hz := (hx3.block h (by rw [HS2.out]; omega)).trans HB2.out; have HZ := Lib.hid hz; obtain ⟨⟨m0, m1, m2, m3⟩, n0, n1, n2, n3⟩ := box_facts hz; clear hJ hB hx3 hz)
  have HF : Hid (AppPost w ⟨#[109, 117, 108]⟩ ts (.returned (.agg #[.int .i64 3, .string ⟨#[109, 117, 108]⟩, .int .i64 0, .slice x5 l5 c5])) (put4 w3 h 0 (.int .i64 3) (.string ⟨#[109, 117, 108]⟩) (.int .i64 0) (.slice x5 l5 c5))) :=
    ⟨⟨_, rfl, put_keep HZ.out H0.out HJ.out⟩, put4_below (Ext.trans HX.out HX3.out) (by rw [HHE.out]; exact Nat.le_refl _)⟩
  exact bodyPost_ret (v := .agg #[.int .i64 3, .string ⟨#[109, 117, 108]⟩, .int .i64 0, .slice x5 l5 c5]) (by simp [results, Tryz.results38, go_sem, m0, m1, m2, m3]) rfl HF.out
end Go.Proofs.YtcieadjjcpmieaaGreat

/-
  THE EXAMPLES OF CHAPTER 6, one call each.
-/
namespace Go.Proofs.YtcieadjjcpmieaaGreat
open Go.RowKit

/-- A list of powers in new memory, its length said. -/
def PwN (w : World) (n : Nat) (ps : List Pw) (e : Ending) (w' : World) : Prop := ∃ xa c, e = .returned (.slice xa n c) ∧ n ≤ c ∧ PRow w' ps xa ∧ Ext w w'
def PwE (w : World) (n : Nat) (ps : List Pw) (e : Ending) (w' : World) : Prop := ∃ xa c, e = .returned (.tuple #[.slice xa n c, .int .i64 0]) ∧ n ≤ c ∧ PRow w' ps xa ∧ Ext w w'
def TmE (w : World) (t : Tm) (e : Ending) (w' : World) : Prop := ∃ c0 c1 c2 c3, e = .returned (.tuple #[.agg #[c0, c1, c2, c3], .int .i64 0]) ∧ Is w' t c0 c1 c2 c3 ∧ Ext w w'
theorem madeN {q : List Int} {ps : List Pw} {n k cap : Nat} (h : madeP q = ps) (hn : ps.length = n) (hk : q.length = k) (xa : Option Addr) (w : World) (hl : k ≤ 6) (hR : I8Row w q xa) : Calls Tryz.prog 39 #[.slice xa k cap] w (PwN w n ps) := by
  subst hk
  refine (Made_any q xa cap w (by unfold maxLen; omega) hR).mono fun e w' h2 => ?_
  obtain ⟨xb, c, he, h3, h4, h5⟩ := h2
  rw [h, hn] at he
  rw [h, hn] at h3
  rw [h] at h4
  exact ⟨xb, c, he, h3, h4, h5⟩
theorem i8_one {w : World} {H : Nat} (hH : w.heap.size = H) (a : Int) (ha : -128 ≤ a ∧ a ≤ 127) : I8Row (w.alloc (.cells #[.int .i8 a] 68)) [a] (some ⟨H, 0, none⟩) := by
  have c := cells_new_at w #[.int .i8 a] 68 H hH
  refine ⟨fun x hx => by simp only [List.mem_singleton] at hx; subst hx; exact ha, fun i hi => ⟨H, 0, rfl, ?_⟩⟩
  match i, hi with
  | 0, _ => exact c 0 _ rfl
theorem i8_two {w : World} {H : Nat} (hH : w.heap.size = H) (a b : Int) (ha : -128 ≤ a ∧ a ≤ 127) (hb : -128 ≤ b ∧ b ≤ 127) : I8Row (w.alloc (.cells #[.int .i8 a, .int .i8 b] 68)) [a, b] (some ⟨H, 0, none⟩) := by
  have c := cells_new_at w #[.int .i8 a, .int .i8 b] 68 H hH
  refine ⟨fun x hx => by simp only [List.mem_cons, List.not_mem_nil, or_false] at hx; rcases hx with rfl | rfl; exact ha; exact hb, fun i hi => ⟨H, 0, rfl, ?_⟩⟩
  match i, hi with
  | 0, _ => exact c 0 _ rfl
  | 1, _ => exact c 1 _ rfl
theorem exOf {t : Tm} {ps : List Pw} {n : Nat} (h : ofP t = (ps, 0)) (hn : ps.length = n) (hs : size t ≤ 1048570) (c0 c1 c2 c3 : Value) (w : World) (hI : Is w t c0 c1 c2 c3) : Calls Tryz.prog 12 #[.agg #[c0, c1, c2, c3]] w (PwE w n ps) := by
  refine (Of_any t c0 c1 c2 c3 w hs hI).mono fun e w' h2 => ?_
  obtain ⟨xa, c, he, h3, h4, h5⟩ := h2
  rw [h] at he h3 h4
  rw [hn] at he h3
  exact ⟨xa, c, he, h3, h4, h5⟩
theorem szA (ps : List Pw) (h : ∀ p ∈ ps, p.1 = xA ∨ p.1 = xB) (N : Nat) (hN : 1 ≤ N) : SzP N ps := fun p hp => by
  rcases h p hp with e | e <;> rw [e] <;> exact hN
theorem exTerm (xa : Option Addr) (c : Nat) (w : World) (hR : PRow w p2m xa) : Calls Tryz.prog 15 #[.slice xa 2 c] w (TmE w zT) := by
  refine (Term_any p2m xa c w (by decide) (szA _ (by simp [p2m]) _ (by decide)) hR).mono fun e w' h => ?_
  obtain ⟨c0, c1, c2, c3, he, h1, h2⟩ := h
  rw [teY] at he h1
  exact ⟨c0, c1, c2, c3, he, h1, h2⟩
theorem exPsame {ps : List Pw} {n : Nat} (hn : ps.length = n) (h : ∀ p ∈ ps, p.1 = xA ∨ p.1 = xB) (hl : n ≤ 6) (xa ya : Option Addr) (c c2 : Nat) (w : World) (hR : PRow w ps xa) (hR2 : PRow w ps ya) : Calls Tryz.prog 14 #[.slice xa n c, .slice ya n c2] w fun e w' => e = .returned (.bool true) ∧ Ext w w' := by
  subst hn
  exact psame_eq ps xa ya c c2 w (by unfold maxLen; omega) (szA _ h _ (by decide)) hR hR2
theorem exTsame (c0 c1 c2 c3 d0 d1 d2 d3 : Value) (w : World) (hI : Is w zT c0 c1 c2 c3) (hJ : Is w zT d0 d1 d2 d3) :
    Calls Tryz.prog 18 #[.agg #[c0, c1, c2, c3], .agg #[d0, d1, d2, d3]] w fun e w' => e = .returned (.bool true) ∧ Ext w w' := by
  have h := same_any zT zT c0 c1 c2 c3 d0 d1 d2 d3 w (by decide) (by decide) hI hJ
  rw [cmpT_self] at h
  exact h
theorem lsX_ok : ∀ l ∈ lsX, l.length ≤ maxLen ∧ SzP 1073741824 l := fun l hl => by
  simp only [lsX, List.mem_cons, List.not_mem_nil, or_false] at hl
  rcases hl with rfl | rfl
  · exact ⟨by decide, szA _ (by simp [p21]) _ (by decide)⟩
  · exact ⟨by decide, szA _ (by simp [p03]) _ (by decide)⟩
def MemE (w : World) (e : Ending) (w' : World) : Prop := ∃ xa c, e = .returned (.tuple #[.slice xa 2 c, .int .i64 0]) ∧ IntsV w' (.slice xa 2 c) [1, 1] ∧ Ext w w'
theorem exMem {m : List Pw} {n : Nat} (hn : m.length = n) (hm : ∀ p ∈ m, p.1 = xA ∨ p.1 = xB) (hl : n ≤ 6) (b : Nat) (xm : Option Addr) (cm : Nat) (w : World) (hcm : n ≤ cm) (hR : PsRow w lsX (some ⟨b, 0, none⟩)) (hM : PRow w m xm) :
    Calls Tryz.prog 26 #[.slice (some ⟨b, 0, none⟩) 2 2, .slice xm n cm] w (MePost w lsX m) := by
  subst hn
  exact Member_any lsX m _ xm 2 cm w (by decide) lsX_ok hR (by unfold maxLen; omega) (szA _ hm _ (by decide)) hM hcm
theorem exMem1 (b : Nat) (xm : Option Addr) (cm : Nat) (w : World) (hcm : 2 ≤ cm) (hR : PsRow w lsX (some ⟨b, 0, none⟩)) (hM : PRow w p24 xm) :
    Calls Tryz.prog 26 #[.slice (some ⟨b, 0, none⟩) 2 2, .slice xm 2 cm] w (MemE w) := by
  refine (exMem (m := p24) (n := 2) rfl (by simp [p24]) (by decide) b xm cm w hcm hR hM).mono fun e w' h => ?_
  obtain ⟨x, r, h1, h2, h3, h4⟩ := h
  obtain ⟨rfl, s, rfl, hf, hL, hc⟩ := elimX (by simp [p24]) (by kernel_rfl) redX1 h1
  obtain ⟨_, h5⟩ := h4 s rfl
  obtain ⟨_, _, v, he, ho⟩ := h5 hf
  have e1 : coefP s = [1, 1] := by unfold coefP; rw [hL, hc]; rfl
  rw [e1] at ho
  have hv := intsV_own (p := [1, 1]) ho (by intro x hx; simp at hx; omega) (by decide)
  obtain ⟨xa, c, e2, h6⟩ := hv
  subst e2
  exact ⟨xa, c, he, ⟨xa, c, rfl, h6⟩, h2⟩
theorem exMem2 {m : List Pw} {n : Nat} {L : List Int} {f : Int} (hn : m.length = n) (hm : ∀ p ∈ m, p.1 = xA ∨ p.1 = xB) (hl : n ≤ 6) (hE : prodsE lsX m = 0) (hf : ¬ f = -1) (hr : ∀ x y, redP (matF [(xA, x), (xB, y)] 4 lsX) QX2 2 0 (rowJ [(xA, x), (xB, y)] m 4 2) = some (L, f)) (b : Nat) (xm : Option Addr) (cm : Nat) (w : World) (hcm : n ≤ cm) (hR : PsRow w lsX (some ⟨b, 0, none⟩)) (hM : PRow w m xm) :
    Calls Tryz.prog 26 #[.slice (some ⟨b, 0, none⟩) 2 2, .slice xm n cm] w fun e w' => e = .returned (.tuple #[.slice none 0 0, .int .i64 4]) ∧ Ext w w' := by
  refine (exMem hn hm hl b xm cm w hcm hR hM).mono fun e w' h => ?_
  obtain ⟨x, r, h1, h2, h3, h4⟩ := h
  obtain ⟨rfl, s, rfl, hf', hL, hc⟩ := elimX hm hE hr h1
  exact ⟨(h4 s rfl).1 (by rw [hf']; exact hf), h2⟩
theorem exCref {m vs : List Pw} {md : Int} {n k : Nat} {R : Bool} (hc : crefB lsX m md vs = R) (hn : m.length = n) (hk : vs.length = k) (hm : ∀ p ∈ m, p.1 = xA ∨ p.1 = xB) (hv : ∀ p ∈ vs, p.1 = xA ∨ p.1 = xB) (hl : n ≤ 6 ∧ k ≤ 6) (hmd : 0 ≤ md ∧ md ≤ 3) (b : Nat) (xm xv : Option Addr) (cm cv : Nat) (w : World) (hcv : k ≤ cv) (hR : PsRow w lsX (some ⟨b, 0, none⟩)) (hM : PRow w m xm) (hV : PRow w vs xv) :
    Calls Tryz.prog 33 #[.slice (some ⟨b, 0, none⟩) 2 2, .slice xm n cm, .agg #[.int .i64 md, .slice xv k cv]] w fun e w' => e = .returned (.bool R) ∧ Ext w w' := by
  subst hn
  subst hk
  have h := cref_any lsX m vs md _ xm xv 2 cm cv w (by unfold i64ok; omega) (by decide) lsX_ok hR (by unfold maxLen; omega) (szA _ hm _ (by decide)) hM hcv (by omega) (szA _ hv _ (by decide)) hV
  rw [hc] at h
  exact h
theorem made_1 (H : Nat) (W : World) (hH : W.heap.size = H) : Calls Tryz.prog 39 #[.slice (some ⟨H, 0, none⟩) 1 1] (W.alloc (.cells #[.int .i8 1] 68)) (PwN (W.alloc (.cells #[.int .i8 1] 68)) 1 p1) :=
  madeN (q := [1]) (ps := p1) (n := 1) (k := 1) (by kernel_rfl) rfl rfl _ _ (by decide) (i8_one hH 1 (by omega))
theorem made_2m (H : Nat) (W : World) (hH : W.heap.size = H) : Calls Tryz.prog 39 #[.slice (some ⟨H, 0, none⟩) 2 2] (W.alloc (.cells #[.int .i8 2, .int .i8 (-1)] 68)) (PwN (W.alloc (.cells #[.int .i8 2, .int .i8 (-1)] 68)) 2 p2m) :=
  madeN (q := [2, (-1)]) (ps := p2m) (n := 2) (k := 2) (by kernel_rfl) rfl rfl _ _ (by decide) (i8_two hH 2 (-1) (by omega) (by omega))
theorem made_24 (H : Nat) (W : World) (hH : W.heap.size = H) : Calls Tryz.prog 39 #[.slice (some ⟨H, 0, none⟩) 2 2] (W.alloc (.cells #[.int .i8 2, .int .i8 4] 68)) (PwN (W.alloc (.cells #[.int .i8 2, .int .i8 4] 68)) 2 p24) :=
  madeN (q := [2, 4]) (ps := p24) (n := 2) (k := 2) (by kernel_rfl) rfl rfl _ _ (by decide) (i8_two hH 2 4 (by omega) (by omega))
theorem made_21 (H : Nat) (W : World) (hH : W.heap.size = H) : Calls Tryz.prog 39 #[.slice (some ⟨H, 0, none⟩) 2 2] (W.alloc (.cells #[.int .i8 2, .int .i8 1] 68)) (PwN (W.alloc (.cells #[.int .i8 2, .int .i8 1] 68)) 2 p21) :=
  madeN (q := [2, 1]) (ps := p21) (n := 2) (k := 2) (by kernel_rfl) rfl rfl _ _ (by decide) (i8_two hH 2 1 (by omega) (by omega))
theorem made_03 (H : Nat) (W : World) (hH : W.heap.size = H) : Calls Tryz.prog 39 #[.slice (some ⟨H, 0, none⟩) 2 2] (W.alloc (.cells #[.int .i8 0, .int .i8 3] 68)) (PwN (W.alloc (.cells #[.int .i8 0, .int .i8 3] 68)) 1 p03) :=
  madeN (q := [0, 3]) (ps := p03) (n := 1) (k := 2) (by kernel_rfl) rfl rfl _ _ (by decide) (i8_two hH 0 3 (by omega) (by omega))
theorem made_11 (H : Nat) (W : World) (hH : W.heap.size = H) : Calls Tryz.prog 39 #[.slice (some ⟨H, 0, none⟩) 2 2] (W.alloc (.cells #[.int .i8 1, .int .i8 1] 68)) (PwN (W.alloc (.cells #[.int .i8 1, .int .i8 1] 68)) 2 p11) :=
  madeN (q := [1, 1]) (ps := p11) (n := 2) (k := 2) (by kernel_rfl) rfl rfl _ _ (by decide) (i8_two hH 1 1 (by omega) (by omega))
theorem made_2 (H : Nat) (W : World) (hH : W.heap.size = H) : Calls Tryz.prog 39 #[.slice (some ⟨H, 0, none⟩) 1 1] (W.alloc (.cells #[.int .i8 2] 68)) (PwN (W.alloc (.cells #[.int .i8 2] 68)) 1 p2) :=
  madeN (q := [2]) (ps := p2) (n := 1) (k := 1) (by kernel_rfl) rfl rfl _ _ (by decide) (i8_one hH 2 (by omega))
theorem psame_1 (xa ya : Option Addr) (c c2 : Nat) (w : World) (hR : PRow w p1 xa) (hR2 : PRow w p1 ya) : Calls Tryz.prog 14 #[.slice xa 1 c, .slice ya 1 c2] w fun e w' => e = .returned (.bool true) ∧ Ext w w' :=
  exPsame (ps := p1) (n := 1) rfl (by simp [p1]) (by omega) xa ya c c2 w hR hR2
theorem psame_2m (xa ya : Option Addr) (c c2 : Nat) (w : World) (hR : PRow w p2m xa) (hR2 : PRow w p2m ya) : Calls Tryz.prog 14 #[.slice xa 2 c, .slice ya 2 c2] w fun e w' => e = .returned (.bool true) ∧ Ext w w' :=
  exPsame (ps := p2m) (n := 2) rfl (by simp [p2m]) (by omega) xa ya c c2 w hR hR2
theorem mdx_1 (H : Nat) (W : World) (hR : I8Row W [1] (some ⟨H, 0, none⟩)) : Calls Tryz.prog 39 #[.slice (some ⟨H, 0, none⟩) 1 1] W (PwN W 1 p1) :=
  madeN (q := [1]) (ps := p1) (n := 1) (k := 1) (by kernel_rfl) rfl rfl _ _ (by decide) hR
theorem mdx_2m (H : Nat) (W : World) (hR : I8Row W [2, (-1)] (some ⟨H, 0, none⟩)) : Calls Tryz.prog 39 #[.slice (some ⟨H, 0, none⟩) 2 2] W (PwN W 2 p2m) :=
  madeN (q := [2, (-1)]) (ps := p2m) (n := 2) (k := 2) (by kernel_rfl) rfl rfl _ _ (by decide) hR
theorem mdx_2 (H : Nat) (W : World) (hR : I8Row W [2] (some ⟨H, 0, none⟩)) : Calls Tryz.prog 39 #[.slice (some ⟨H, 0, none⟩) 1 1] W (PwN W 1 p2) :=
  madeN (q := [2]) (ps := p2) (n := 1) (k := 1) (by kernel_rfl) rfl rfl _ _ (by decide) hR
theorem PsRow_two {w : World} {H : Nat} (hH : w.heap.size = H) {l m : List Pw} {x y : Option Addr} {a b c d : Nat} (ha : l.length = a) (hb : m.length = b) (hc : a ≤ c) (hd : b ≤ d) (h1 : PRow w l x) (h2 : PRow w m y) (T : TypeId) : PsRow (w.alloc (.cells #[.slice x a c, .slice y b d] T)) [l, m] (some ⟨H, 0, none⟩) := by
  subst ha
  subst hb
  have c := cells_new_at w #[.slice x l.length c, .slice y m.length d] T H hH
  refine Or.inr ⟨H, 0, rfl, fun k hk => ?_⟩
  match k, hk with
  | 0, _ => exact ⟨x, _, c 0 _ rfl, hc, PRow_below h1 ((Ext.refl w).alloc _)⟩
  | 1, _ => exact ⟨y, _, c 1 _ rfl, hd, PRow_below h2 ((Ext.refl w).alloc _)⟩
theorem ints_two {w : World} {H : Nat} (hH : w.heap.size = H) (a b : Int) (ha : -9223372036854775808 ≤ a ∧ a ≤ 9223372036854775807) (hb : -9223372036854775808 ≤ b ∧ b ≤ 9223372036854775807) : IntsV (w.alloc (.cells #[.int .i64 a, .int .i64 b] 3)) (.slice (some ⟨H, 0, none⟩) 2 2) [a, b] := by
  have c := cells_new_at w #[.int .i64 a, .int .i64 b] 3 H hH
  refine ⟨_, _, rfl, by unfold maxLen; simp, fun x hx => by simp only [List.mem_cons, List.not_mem_nil, or_false] at hx; rcases hx with rfl | rfl; exact ha; exact hb, fun _ => ⟨H, 0, rfl, fun i hi => ?_⟩⟩
  match i, hi with
  | 0, _ => exact c 0 _ rfl
  | 1, _ => exact c 1 _ rfl
theorem exEqual (v : Value) (H : Nat) (w : World) (h : IntsV w v [1, 1]) (h2 : IntsV w (.slice (some ⟨H, 0, none⟩) 2 2) [1, 1]) : Calls Tryz.prog 40 #[v, .slice (some ⟨H, 0, none⟩) 2 2] w fun e w' => e = .returned (.bool true) ∧ Ext w w' :=
  (equalz_any [1, 1] [1, 1] v _ w h h2 (by decide) (by decide)).mono fun e w' h => ⟨h.1.trans (by rfl), h.2⟩
theorem exCref1 (b : Nat) (xm xv : Option Addr) (cm cv : Nat) (w : World) (hcv : 2 ≤ cv) (hR : PsRow w lsX (some ⟨b, 0, none⟩)) (hM : PRow w p2 xm) (hV : PRow w p11 xv) :
    Calls Tryz.prog 33 #[.slice (some ⟨b, 0, none⟩) 2 2, .slice xm 1 cm, .agg #[.int .i64 3, .slice xv 2 cv]] w fun e w' => e = .returned (.bool true) ∧ Ext w w' :=
  exCref (m := p2) (vs := p11) (n := 1) (k := 2) crX1 rfl rfl (by simp [p2]) (by simp [p11]) (by decide) (by decide) b xm xv cm cv w hcv hR hM hV
theorem exCref2 (b : Nat) (xm xv : Option Addr) (cm cv : Nat) (w : World) (hcv : 1 ≤ cv) (hR : PsRow w lsX (some ⟨b, 0, none⟩)) (hM : PRow w p1 xm) (hV : PRow w p1 xv) :
    Calls Tryz.prog 33 #[.slice (some ⟨b, 0, none⟩) 2 2, .slice xm 1 cm, .agg #[.int .i64 2, .slice xv 1 cv]] w fun e w' => e = .returned (.bool true) ∧ Ext w w' :=
  exCref (m := p1) (vs := p1) (n := 1) (k := 1) crX2 rfl rfl (by simp [p1]) (by simp [p1]) (by decide) (by decide) b xm xv cm cv w hcv hR hM hV
theorem exCref3 (b : Nat) (xm xv : Option Addr) (cm cv : Nat) (w : World) (hcv : 1 ≤ cv) (hR : PsRow w lsX (some ⟨b, 0, none⟩)) (hM : PRow w p2 xm) (hV : PRow w p1 xv) :
    Calls Tryz.prog 33 #[.slice (some ⟨b, 0, none⟩) 2 2, .slice xm 1 cm, .agg #[.int .i64 2, .slice xv 1 cv]] w fun e w' => e = .returned (.bool false) ∧ Ext w w' :=
  exCref (m := p2) (vs := p1) (n := 1) (k := 1) crX3 rfl rfl (by simp [p2]) (by simp [p1]) (by decide) (by decide) b xm xv cm cv w hcv hR hM hV
end Go.Proofs.YtcieadjjcpmieaaGreat
