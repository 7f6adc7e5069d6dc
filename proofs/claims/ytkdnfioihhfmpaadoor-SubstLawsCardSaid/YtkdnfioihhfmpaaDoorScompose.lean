/-
  THE WALK OF subst.Compose, in the good case.
-/
import Derived.Test.YtkdnfioihhfmpaaDoorSfol
import Derived.Shelf.SlSortCmp.NoneTotal
import Derived.Deep.Onto
namespace Go.Proofs.YtkdnfioihhfmpaaDoor
open Go.RowKit
/-- Whether a list binds this variable. -/
def bndB (ss : List Bd) (x : Tm) : Bool := ss.any (fun b => cmpT b.1 x == 0)
/-- What is composed, before it is sorted. -/
def comU (ss : List Bd) (acc ts : List Bd) : List Bd := acc ++ ts.filter (fun b => ! bndB ss b.1)
theorem comU_skip {ss acc ts : List Bd} {b : Bd} (h : bndB ss b.1 = true) : comU ss acc (b :: ts) = comU ss acc ts := by
  unfold comU
  rw [List.filter_cons, if_neg (by rw [h]; decide)]
theorem comU_keep {ss acc ts : List Bd} {b : Bd} (h : bndB ss b.1 = false) : comU ss acc (b :: ts) = comU ss (acc ++ [b]) ts := by
  unfold comU
  rw [List.filter_cons, if_pos (by rw [h]; rfl), List.append_assoc]; rfl
/-- What Compose answers where nothing is wrong: the bindings, sorted; or too many. -/
def ComPost (w : World) (U : List Bd) (e : Ending) (w' : World) : Prop :=
  Below w.heap.size w w' ∧ if 200 < U.length then e = .returned (.tuple #[.slice none 0 0, .int .i64 3]) else
    ∃ bs kv, bs.Perm U ∧ bs.Pairwise (fun a b => ¬ cmpT b.1 a.1 < 0) ∧ e = .returned (.tuple #[kv, .int .i64 0]) ∧ BdsAt w.heap.size w' bs kv
theorem bndB_yes {ss : List Bd} {x : Tm} {i : Nat} (h : i < ss.length) (hc : cmpT ss[i].1 x = 0) : bndB ss x = true := by
  unfold bndB
  rw [List.any_eq_true]
  exact ⟨_, List.getElem_mem h, by rw [hc]; rfl⟩
theorem bndB_no {ss : List Bd} {x : Tm} (h : ∀ b ∈ ss, ¬ cmpT b.1 x = 0) : bndB ss x = false := by
  unfold bndB
  rw [List.any_eq_false]
  exact fun b hb => by simpa using h b hb
set_option maxHeartbeats 6400000 in
set_option maxRecDepth 100000 in
theorem scompose_any (ss ts : List Bd) (xs xt : Option Addr) (cs ct N : Nat) (w : World) (hS : RbOk ss xs cs w) (hRb : RbOk ts xt ct w) (h2 : ts.length ≤ 200) (hs2 : ss.length ≤ 200) (hv1 : validB ss = 0) (hv2 : validB ts = 0) (hN : ∀ b ∈ ts, size b.2 ≤ N) (h1 : 1 ≤ N) (hsn : ∀ b ∈ ss, size b.2 * N ≤ 1073741824) (L : List Bd) (hL : folS ts [] ss = (L, 0)) (hLl : L.length ≤ 200) (hLz : SzB 1073741824 L) :
    Calls Tryd.prog 29 #[.slice xs ss.length cs, .slice xt ts.length ct] w (ComPost w (comU ss L ts)) := by
  have HV1 := Lib.hid (bvalid_any ss xs cs w hS.cap (by unfold maxLen; omega) hS.sz hS.row)
  have HV2 := Lib.hid (fun W (x : Ext w W) => bvalid_any ts xt ct W hRb.cap (by unfold maxLen; omega) hRb.sz (Row_below (w' := W) hRb.row x))
  have HF := Lib.hid (fun W (x : Ext w W) => sfollowed_any ss ts xs xt cs ct N W hS.cap hS.len hS.sz (Row_below (w' := W) hS.row x) (hRb.ext x) hN h1 hsn)
  rw [hv1] at HV1
  rw [hv2] at HV2
  rw [hL] at HF
  have HS := Lib.hid hS
  have HT := Lib.hid hRb
  have q1 : ((0 : Int) != 0) = false := rfl
  have tok1 : True := trivial
  clear hS hRb hv1 hv2 hN hsn hL
  go_enter Tryd.func29, Tryd.ntmps29
  go_wp2_with (first
    | (go_at_call 17; have _t := tok1; refine (HV1.out).mono ?_; rintro e w1 ⟨he, hB⟩; subst he; have HB1 := Lib.hid hB; clear hB tok1)
    | (go_at_call 17; refine (HV2.out _ HB1.out).mono ?_; rintro e w2 ⟨he, hB⟩; subst he; have HB2 := Lib.hid (Ext.trans HB1.out hB); clear hB)
    | (go_at_call 61; refine (HF.out _ HB2.out).mono ?_; rintro e w3 ⟨kv, he, hBA, hB⟩; subst he; obtain ⟨xl0, lcap0, e0⟩ := BdsAt_form hBA; subst e0; have HBA0 := Lib.hid hBA; have HB3 := Lib.hid hB; clear hBA hB))
  have hH2 := HB2.out.size
  go_loopw [8, 34] (fun l i wr => ∃ (j : Nat) (acc : List Bd), j ≤ ts.length ∧ i = .int .i64 j ∧ acc.length ≤ L.length + j ∧ Hid (comU ss L ts = comU ss acc (ts.drop j)) ∧ BdsAt w2.heap.size wr acc l ∧ Below w2.heap.size w2 wr) (fun _ i _ => ts.length - (intOf i).toNat)
  case atStart => exact ⟨0, L, Nat.zero_le _, rfl, by omega, Lib.hid rfl, HBA0.out, HB3.out⟩
  case round =>
    obtain ⟨j, acc, hj, rfl, haj, hfo, hBA, hB⟩ := hrel
    obtain ⟨xl, lcap, rfl⟩ := BdsAt_form hBA
    by_cases hlt : j < ts.length
    rotate_left
    · have H : Hid (comU ss L ts = acc) := by
        show _ = _
        rw [hfo.out, List.drop_eq_nil_of_le (by omega)]; simp [comU]
      have HBA := Lib.hid hBA
      have HB := Lib.hid hB
      clear hBA hB hfo
      have hz : SzB 1073741824 acc := by
        rw [← H.out]
        intro b hb
        rcases List.mem_append.1 hb with h | h
        · exact hLz b h
        · exact HT.out.sz b (List.mem_filter.1 h).1
      by_cases h200 : 200 < acc.length
      · have HQ : Hid (ComPost w (comU ss L ts) (.returned (.tuple #[.slice none 0 0, .int .i64 3])) wr) := by
          show ComPost _ _ _ _
          rw [H.out]
          exact ⟨Ext.trans HB2.out HB.out, by rw [if_pos h200]⟩
        have q2 : (200 : Int) < (acc.length : Int) := by omega
        clear h200
        go_wp2_with fail
        exact bodyPost_ret (v := .tuple #[.slice none 0 0, .int .i64 3]) (by simp [results, Tryd.results29, go_sem]) rfl HQ.out
      have q2 : (acc.length : Int) ≤ 200 := by omega
      obtain ⟨F, cs', hown, hK, hF⟩ := HBA.out
      by_cases h0 : acc.length = 0
      · have hnil : acc = [] := List.length_eq_zero_iff.1 h0
        subst hnil
        have HST := Lib.hid (AnyF.slices_SortFunc_none Tryd.sortBinds xl lcap (.func (.func 65) #[] #[]) wr)
        have HQ : Hid (ComPost w (comU ss L ts) (.returned (.tuple #[.slice xl 0 lcap, .int .i64 0])) wr) := by
          show ComPost _ _ _ _
          rw [H.out]
          refine ⟨Ext.trans HB2.out HB.out, ?_⟩
          rw [if_neg (by simp)]
          exact ⟨[], _, List.Perm.refl _, List.Pairwise.nil, rfl, F, cs', hown.mono HB2.out.size, hK, fun b hb => ⟨Nat.le_trans HB2.out.size (hF b hb).1, (hF b hb).2.1, (hF b hb).2.2⟩⟩
        clear hown hK hF hz h200 h0
        go_wp2_with (go_at_call 64; refine (HST.out).mono ?_; rintro e w9 ⟨he, hw⟩; subst he; subst hw)
        exact bodyPost_ret (v := .tuple #[.slice xl 0 lcap, .int .i64 0]) (by simp [results, Tryd.results29, go_sem]) rfl HQ.out
      obtain ⟨g, cap, e0⟩ := own_form_pos hown (by omega)
      have e1 : xl = some ⟨g, 0, none⟩ := by injection e0
      subst e1
      have HST := Lib.hid (sort_binds hown hK (fun b hb => ⟨(hF b hb).2.1, fun e => (hF b hb).2.2 (by rw [e]; rfl)⟩) HB.out.size (by omega) hz (by omega))
      have HQ : Hid (∀ e w', SortBPost w2.heap.size F wr g acc.length lcap acc e w' → e = .returned (.tuple #[]) ∧ ComPost w (comU ss L ts) (.returned (.tuple #[.slice (some ⟨g, 0, none⟩) acc.length lcap, .int .i64 0])) w') := by
        show ∀ _ _, _ → _
        rintro e w' ⟨he, bs', vs', p1, p2, p3, p4, p5, p6⟩
        have hl := p3.length_eq
        rw [H.out]
        refine ⟨he, Ext.trans HB2.out (HB.out.trans p5), ?_⟩
        rw [if_neg h200]
        refine ⟨bs', _, p3, p4, rfl, F, vs', ?_, p2, fun b hb => ⟨Nat.le_trans HB2.out.size (hF b hb).1, Nat.lt_of_lt_of_le (hF b hb).2.1 p6, (hF b hb).2.2⟩⟩
        rw [hl]
        exact p1.mono HB2.out.size
      clear hown hK hF hz h200 h0 e0
      go_wp2_with (go_at_call 64; refine (HST.out).mono ?_; rintro e w9 hp; obtain ⟨he, hq⟩ := HQ.out _ _ hp; subst he; have HQ9 := Lib.hid hq; clear hp hq)
      exact bodyPost_ret (v := .tuple #[.slice (some ⟨g, 0, none⟩) acc.length lcap, .int .i64 0]) (by simp [results, Tryd.results29, go_sem]) rfl HQ9.out
    have hd : ts.drop j = ts[j] :: ts.drop (j + 1) := List.drop_eq_getElem_cons hlt
    have hR2 := Row_below HT.out.row HB2.out
    obtain ⟨b, o, rfl⟩ := Row_at HT.out.row (by rw [flatB_length]; omega)
    obtain ⟨⟨v0, v1, v2, v3, g0, g1, g2, g3, hIv⟩, t0, t1, t2, t3, g4, g5, g6, g7, hIt⟩ := bds_get hR2 j hlt
    obtain ⟨k, n, s, ya, yl, yc, rfl, rfl, rfl, rfl⟩ := Is_form hIv
    obtain ⟨k2, n2, s2, ya2, yl2, yc2, rfl, rfl, rfl, rfl⟩ := Is_form hIt
    rw [Nat.add_assoc] at g5 g6 g7
    have hs1 := HT.out.sz _ (List.getElem_mem hlt)
    have HCr : Hid (∀ W, Ext w2 W → (W.cell? ⟨b, o + j * 8, none⟩ = some (.int .i64 k) ∧ W.cell? ⟨b, o + j * 8 + 1, none⟩ = some (.string n) ∧ W.cell? ⟨b, o + j * 8 + 2, none⟩ = some (.int .i64 s) ∧ W.cell? ⟨b, o + j * 8 + 3, none⟩ = some (.slice ya yl yc)) ∧ W.cell? ⟨b, o + j * 8 + 4, none⟩ = some (.int .i64 k2) ∧ W.cell? ⟨b, o + j * 8 + 5, none⟩ = some (.string n2) ∧ W.cell? ⟨b, o + j * 8 + 6, none⟩ = some (.int .i64 s2) ∧ W.cell? ⟨b, o + j * 8 + 7, none⟩ = some (.slice ya2 yl2 yc2)) := fun W x => ⟨⟨keep_below x _ _ g0, keep_below x _ _ g1, keep_below x _ _ g2, keep_below x _ _ g3⟩, keep_below x _ _ g4, keep_below x _ _ g5, keep_below x _ _ g6, keep_below x _ _ g7⟩
    have HFI := Lib.hid (sfind_any ss ts[j].1 _ _ _ _ xs cs wr HS.out.cap HS.out.len HS.out.sz hs1.1 HS.out.sorted (Row_below HS.out.row (Ext.trans HB2.out hB)) (Is_below hIv hB))
    have HCB := Lib.hid (fun W (x : Ext w2 W) => sbcopy_any ts[j].1 ts[j].2 _ _ _ _ _ _ _ _ W hs1.1 hs1.2 (Is_below (w' := W) hIv x) (Is_below (w' := W) hIt x))
    obtain ⟨⟨g0, g1, g2, g3⟩, g4, g5, g6, g7⟩ := HCr.out wr hB
    have i1 : (0 : Int) ≤ (j : Int) := by omega
    have i2 : (j : Int) < (ts.length : Int) := by omega
    have hfs : bndB ss ts[j].1 = true → comU ss acc (ts.drop j) = comU ss acc (ts.drop (j + 1)) := fun h => by rw [hd]; exact comU_skip h
    have hfk : bndB ss ts[j].1 = false → comU ss acc (ts.drop j) = comU ss (acc ++ [ts[j]]) (ts.drop (j + 1)) := fun h => by rw [hd]; exact comU_keep h
    have HFO := Lib.hid hfo.out
    have HBA := Lib.hid hBA
    have HB := Lib.hid hB
    clear hfo hBA hB hIv hIt hd hR2
    go_upto_region 14 with (go_at_call 62; refine (HFI.out).mono ?_; rintro e w4 ⟨⟨fi, fb, he, hfb⟩, hB4⟩; subst he; have HFB := Lib.hid hfb; have HB4 := Lib.hid hB4; clear hfb hB4)
    have HE4 := Lib.hid (Ext.trans HB.out HB4.out)
    obtain ⟨⟨g0, g1, g2, g3⟩, g4, g5, g6, g7⟩ := HCr.out w4 HE4.out
    cases fb with
    | true =>
      have hb : bndB ss ts[j].1 = true := by
        rcases HFB.out with ⟨_, h, hc⟩ | ⟨h, _⟩
        · exact bndB_yes h hc
        · exact absurd h (by decide)
      have H := Lib.hid (HFO.out.trans (hfs hb))
      clear hfs hfk hb HFB
      go_wp2_with fail
      go_roundw
      case rel => exact ⟨j + 1, acc, by omega, by go_num, by omega, H, BdsAt_ext HBA.out HB4.out, HB.out.trans (HB4.out.mono HB.out.size)⟩
      case measure => simp [intOf]; omega
    | false =>
      have hb : bndB ss ts[j].1 = false := by
        rcases HFB.out with ⟨h, _⟩ | ⟨_, h⟩
        · exact absurd h (by decide)
        · exact bndB_no h
      have H := Lib.hid (HFO.out.trans (hfk hb))
      obtain ⟨F, cs', hown, hK, hF⟩ := HBA.out
      have hOlt := fun q hq => hown.lt q hq
      have HO := Lib.hid (fun W (x : Ext wr W) => own_heap hown (fun q hq => x.block q (hOlt q hq).2))
      have HPU : Hid (∀ w6, Ext w4 w6 → ∀ c0 c1 c2 c3 d0 d1 d2 d3, IsIn (fun b => w4.heap.size ≤ b ∧ b < w6.heap.size) w6 ts[j].1 c0 c1 c2 c3 → IsIn (fun b => w4.heap.size ≤ b ∧ b < w6.heap.size) w6 ts[j].2 d0 d1 d2 d3 → ∀ g cap w8 o, w8.ownsRow w2.heap.size 77 8 (.slice (some ⟨g, 0, none⟩) (acc.length + 1) cap) (acc.length + 1) (cs' ++ [c0, c1, c2, c3, d0, d1, d2, d3]) → (w6.alloc o).grownBy w8 (Value.slice xl acc.length lcap).ownBlock → ((Value.slice xl acc.length lcap).ownBlock = some g ∨ g = w6.heap.size + 1) →
          BdsAt w2.heap.size w8 (acc ++ [ts[j]]) (.slice (some ⟨g, 0, none⟩) (acc.length + 1) cap) ∧ Below w2.heap.size wr w8) := by
        show ∀ _, _
        intro w6 hF6 c0 c1 c2 c3 d0 d1 d2 d3 hI hJ g cap w8 o hown8 hgrow hat
        have h4 := HB4.out.size
        have r := BdsAt_push rfl hown hK hF HB.out.size (Ext.trans HB4.out hF6) (IsIn_carry (S' := fun b => wr.heap.size ≤ b ∧ b < w6.heap.size) (fun b hb => rfl) (fun b hb => ⟨by have : w4.heap.size ≤ b := hb.1; omega, hb.2⟩) _ _ _ _ _ hI) (IsIn_carry (S' := fun b => wr.heap.size ≤ b ∧ b < w6.heap.size) (fun b hb => rfl) (fun b hb => ⟨by have : w4.heap.size ≤ b := hb.1; omega, hb.2⟩) _ _ _ _ _ hJ) hown8 hgrow hat
        exact ⟨r.1, r.2.1⟩
      obtain ⟨i0, hi0, hz0, hz1, hz2⟩ := info_parts infoBd
      have HI0 := Lib.hid (And.intro hi0 (And.intro hz0 (And.intro hz1 hz2)))
      have hZ : acc.length ≤ 1073741824 := by omega
      clear hfs hfk hb HFB hown hK hF hOlt hi0 hz0 hz1 hz2
      generalize ts[j] = B at HPU HCB H
      obtain ⟨V, U⟩ := B
      have HCr4 : Hid (∀ W, Ext w4 W → (W.cell? ⟨b, o + j * 8, none⟩ = some (.int .i64 k) ∧ W.cell? ⟨b, o + j * 8 + 1, none⟩ = some (.string n) ∧ W.cell? ⟨b, o + j * 8 + 2, none⟩ = some (.int .i64 s) ∧ W.cell? ⟨b, o + j * 8 + 3, none⟩ = some (.slice ya yl yc)) ∧ W.cell? ⟨b, o + j * 8 + 4, none⟩ = some (.int .i64 k2) ∧ W.cell? ⟨b, o + j * 8 + 5, none⟩ = some (.string n2) ∧ W.cell? ⟨b, o + j * 8 + 6, none⟩ = some (.int .i64 s2) ∧ W.cell? ⟨b, o + j * 8 + 7, none⟩ = some (.slice ya2 yl2 yc2)) := fun W x => HCr.out W (Ext.trans HE4.out x)
      go_wp2_with (first
          | (go_at_call 63; refine (HCB.out _ HE4.out).mono ?_; rintro e w6 ⟨c0, c1, c2, c3, d0, d1, d2, d3, he, hI6, hJ6, hB6⟩; subst he; obtain ⟨k6, n6, s6, xa6, l6, cap6, e0, e1, e2, e3⟩ := IsIn_form hI6; subst e0 e1 e2 e3; obtain ⟨k7, n7, s7, xa7, l7, cap7, e0, e1, e2, e3⟩ := IsIn_form hJ6; subst e0 e1 e2 e3; have hF6 : Ext w4 w6 := hB6; have HI6 := Lib.hid (And.intro hI6 hJ6); have HO6 := Lib.hid (HO.out _ (Ext.trans HB4.out hF6)); have hw6 : w2.heap.size ≤ w6.heap.size := Nat.le_trans HE4.out.size hF6.size; clear hI6 hJ6 hB6)
          | (at_builtin; refine wpList_append_lies _ rfl _ _ _ rfl w2.heap.size 77 i0 _ 8 112 Tryd.underlying33 HI0.out.1 HI0.out.2.1 HI0.out.2.2.1 HI0.out.2.2.2 rfl (by omega) (.slice xl acc.length lcap) acc.length cs' rfl (HO6.out.alloc _) ⟨w6.heap.size, 0, none⟩ 1 1 [.int .i64 k6, .string n6, .int .i64 s6, .slice xa6 l6 cap6, .int .i64 k7, .string n7, .int .i64 s7, .slice xa7 l7 cap7] rfl rfl (World.news_of_block (cs := #[.int .i64 k6, .string n6, .int .i64 s6, .slice xa6 l6 cap6, .int .i64 k7, .string n7, .int .i64 s7, .slice xa7 l7 cap7]) (t := 77) (fr := (0, 0)) (heap_alloc_new w6 _)) (by simp [Value.oneCell']) (by omega) (by unfold maxLen; omega) (by omega) (by simp; omega) (w6.heap.size + 1) (by simp) ?_; intro gg cap8 w8 hown8 hgrow hat hltt; have hpu := HPU.out w6 hF6 _ _ _ _ _ _ _ _ HI6.out.1 HI6.out.2 _ _ _ _ hown8 hgrow hat; have HK8 := Lib.hid (HCr.out w8 (HB.out.trans hpu.2)); have HP8 := Lib.hid (And.intro hpu.1 hpu.2); clear hown8 hgrow hat hltt hpu))
      go_roundw
      case rel => exact ⟨j + 1, acc ++ [(V, U)], by omega, by go_num, by simp; omega, H, by simpa using HP8.out.1, HB.out.trans (HP8.out.2.mono (Nat.le_refl _))⟩
      case measure => simp [intOf]; omega
end Go.Proofs.YtkdnfioihhfmpaaDoor

/-
  THE WALK OF subst.Compose, where something is wrong.
-/
namespace Go.Proofs.YtkdnfioihhfmpaaDoor
open Go.RowKit
set_option maxHeartbeats 3200000 in
set_option maxRecDepth 100000 in
theorem scompose_bad1 (ss ts : List Bd) (xs xt : Option Addr) (cs ct : Nat) (w : World) (hcs : ss.length ≤ cs) (hl : ss.length ≤ maxLen) (hsz : SzB 1073741824 ss) (hrow : Row w (flatB ss) xs) (hv : ¬ validB ss = 0) :
    Calls Tryd.prog 29 #[.slice xs ss.length cs, .slice xt ts.length ct] w (fun e w' => e = .returned (.tuple #[.slice none 0 0, .int .i64 (validB ss)]) ∧ Below w.heap.size w w') := by
  have HV1 := Lib.hid (bvalid_any ss xs cs w hcs hl hsz hrow)
  generalize validB ss = E at hv HV1 ⊢
  have q1 : (E != 0) = true := by rw [bne_iff_ne]; exact hv
  clear hcs hl hsz hrow hv
  go_enter Tryd.func29, Tryd.ntmps29
  go_wp2_with (go_at_call 17; refine (HV1.out).mono ?_; rintro e w1 ⟨he, hB⟩; subst he; have HB1 := Lib.hid hB; clear hB)
  exact bodyPost_ret (v := .tuple #[.slice none 0 0, .int .i64 E]) (by simp [results, Tryd.results29, go_sem]) rfl ⟨rfl, HB1.out⟩
set_option maxHeartbeats 3200000 in
set_option maxRecDepth 100000 in
theorem scompose_bad2 (ss ts : List Bd) (xs xt : Option Addr) (cs ct : Nat) (w : World) (hcs : ss.length ≤ cs) (hl : ss.length ≤ maxLen) (hsz : SzB 1073741824 ss) (hrow : Row w (flatB ss) xs) (hct : ts.length ≤ ct) (hlt : ts.length ≤ maxLen) (htz : SzB 1073741824 ts) (hrowt : Row w (flatB ts) xt) (hv1 : validB ss = 0) (hv : ¬ validB ts = 0) :
    Calls Tryd.prog 29 #[.slice xs ss.length cs, .slice xt ts.length ct] w (fun e w' => e = .returned (.tuple #[.slice none 0 0, .int .i64 (validB ts)]) ∧ Below w.heap.size w w') := by
  have HV1 := Lib.hid (bvalid_any ss xs cs w hcs hl hsz hrow)
  have HV2 := Lib.hid (fun W (x : Ext w W) => bvalid_any ts xt ct W hct hlt htz (Row_below (w' := W) hrowt x))
  rw [hv1] at HV1
  generalize validB ts = E at hv HV2 ⊢
  have q0 : ((0 : Int) != 0) = false := rfl
  have q1 : (E != 0) = true := by rw [bne_iff_ne]; exact hv
  have tok1 : True := trivial
  clear hcs hl hsz hrow hct hlt htz hrowt hv1 hv
  go_enter Tryd.func29, Tryd.ntmps29
  go_wp2_with (first
    | (go_at_call 17; have _t := tok1; refine (HV1.out).mono ?_; rintro e w1 ⟨he, hB⟩; subst he; have HB1 := Lib.hid hB; clear hB tok1)
    | (go_at_call 17; refine (HV2.out _ HB1.out).mono ?_; rintro e w2 ⟨he, hB⟩; subst he; have HB2 := Lib.hid (Ext.trans HB1.out hB); clear hB))
  exact bodyPost_ret (v := .tuple #[.slice none 0 0, .int .i64 E]) (by simp [results, Tryd.results29, go_sem]) rfl ⟨rfl, HB2.out⟩
set_option maxHeartbeats 3200000 in
set_option maxRecDepth 100000 in
theorem scompose_bad3 (ss ts : List Bd) (xs xt : Option Addr) (cs ct N : Nat) (w : World) (hS : RbOk ss xs cs w) (hRb : RbOk ts xt ct w) (hv1 : validB ss = 0) (hv2 : validB ts = 0) (hN : ∀ b ∈ ts, size b.2 ≤ N) (h1 : 1 ≤ N) (hsn : ∀ b ∈ ss, size b.2 * N ≤ 1073741824) (L : List Bd) (E : Int) (hL : folS ts [] ss = (L, E)) (hE : ¬ E = 0) :
    Calls Tryd.prog 29 #[.slice xs ss.length cs, .slice xt ts.length ct] w (fun e w' => e = .returned (.tuple #[.slice none 0 0, .int .i64 E]) ∧ Below w.heap.size w w') := by
  have HV1 := Lib.hid (bvalid_any ss xs cs w hS.cap (by have := hS.len; unfold maxLen; omega) hS.sz hS.row)
  have HV2 := Lib.hid (fun W (x : Ext w W) => bvalid_any ts xt ct W hRb.cap (by have := hRb.len; unfold maxLen; omega) hRb.sz (Row_below (w' := W) hRb.row x))
  have HF := Lib.hid (fun W (x : Ext w W) => sfollowed_any ss ts xs xt cs ct N W hS.cap hS.len hS.sz (Row_below (w' := W) hS.row x) (hRb.ext x) hN h1 hsn)
  rw [hv1] at HV1
  rw [hv2] at HV2
  rw [hL] at HF
  have q0 : ((0 : Int) != 0) = false := rfl
  have q1 : (E != 0) = true := by rw [bne_iff_ne]; exact hE
  have tok1 : True := trivial
  clear hS hRb hv1 hv2 hN hsn hL hE
  go_enter Tryd.func29, Tryd.ntmps29
  go_wp2_with (first
    | (go_at_call 17; have _t := tok1; refine (HV1.out).mono ?_; rintro e w1 ⟨he, hB⟩; subst he; have HB1 := Lib.hid hB; clear hB tok1)
    | (go_at_call 17; refine (HV2.out _ HB1.out).mono ?_; rintro e w2 ⟨he, hB⟩; subst he; have HB2 := Lib.hid (Ext.trans HB1.out hB); clear hB)
    | (go_at_call 61; refine (HF.out _ HB2.out).mono ?_; rintro e w3 ⟨kv, he, hBA, hB⟩; subst he; obtain ⟨xl0, lcap0, e0⟩ := BdsAt_form hBA; subst e0; have HB3 := Lib.hid (Ext.trans HB2.out hB); clear hBA hB))
  exact bodyPost_ret (v := .tuple #[.slice none 0 0, .int .i64 E]) (by simp [results, Tryd.results29, go_sem]) rfl ⟨rfl, HB3.out⟩
theorem applyP_size {ts : List Bd} {t : Tm} {N : Nat} (hN : ∀ b ∈ ts, size b.2 ≤ N) (h1 : 1 ≤ N) (hsn : size t * N ≤ 1073741824) (h : (applyP ts t).2 = 0) : size (applyP ts t).1 ≤ 1073741824 := by
  have hz := Nat.le_trans (apT_size ts N hN h1 t) hsn
  unfold applyP at h ⊢
  by_cases e1 : validE t = 0
  · rw [if_pos e1] at h ⊢
    by_cases e2 : validE (apT ts t) = 0
    · rw [if_pos e2]; exact hz
    · rw [if_neg e2] at h; exact absurd h e2
  · rw [if_neg e1] at h; exact absurd h e1
theorem folP_small {ts : List Bd} {N : Nat} (hN : ∀ b ∈ ts, size b.2 ≤ N) (h1 : 1 ≤ N) : ∀ ss : List Bd, (∀ b ∈ ss, size b.1 ≤ 1073741824 ∧ size b.2 * N ≤ 1073741824) → (folP ts ss).1.length ≤ ss.length ∧ SzB 1073741824 (folP ts ss).1
  | [], _ => ⟨Nat.le_refl _, fun b hb => absurd hb (by simp [folP])⟩
  | b :: bs, h => by
    obtain ⟨i1, i2⟩ := folP_small hN h1 bs (fun c hc => h c (List.mem_cons_of_mem _ hc))
    have hb := h b (List.mem_cons_self ..)
    rw [folP]
    by_cases e1 : (applyP ts b.2).2 = 0
    · rw [if_pos e1]
      by_cases e2 : (folP ts bs).2 = 0
      · rw [if_pos e2]
        by_cases e3 : cmpT b.1 (applyP ts b.2).1 = 0
        · rw [if_pos e3]
          exact ⟨by simp only [List.length_cons]; omega, i2⟩
        · rw [if_neg e3]
          refine ⟨by simp only [List.length_cons]; omega, fun c hc => ?_⟩
          rcases List.mem_cons.1 hc with rfl | hc
          · exact ⟨hb.1, applyP_size hN h1 hb.2 e1⟩
          · exact i2 c hc
      · rw [if_neg e2]
        exact ⟨Nat.zero_le _, fun c hc => absurd hc (by simp)⟩
    · rw [if_neg e1]
      exact ⟨Nat.zero_le _, fun c hc => absurd hc (by simp)⟩
end Go.Proofs.YtkdnfioihhfmpaaDoor

/-
  THE COMPOSITION AS THE DEFINITION BUILDS IT, and that the code's is the same list.
-/
namespace Go.Proofs.YtkdnfioihhfmpaaDoor
open Go.RowKit

/-- Bindings in order. -/
def LtB (a b : Bd) : Prop := cmpT a.1 b.1 < 0
theorem LtB_irrefl (a : Bd) : ¬ LtB a a := by unfold LtB; rw [cmpT_self]; decide
theorem LtB_asymm {a b : Bd} (h : LtB a b) : ¬ LtB b a := by unfold LtB at h ⊢; rw [cmpT_anti a.1 b.1]; omega
theorem sorted_sameB : ∀ (us vs : List Bd), us.Pairwise LtB → vs.Pairwise LtB → (∀ t, t ∈ us ↔ t ∈ vs) → us = vs
  | [], [], _, _, _ => rfl
  | [], v :: vs, _, _, h => by have := (h v).2 (List.mem_cons_self ..); simp at this
  | u :: us, [], _, _, h => by have := (h u).1 (List.mem_cons_self ..); simp at this
  | u :: us, v :: vs, h1, h2, h => by
    obtain ⟨a1, a2⟩ := List.pairwise_cons.1 h1
    obtain ⟨b1, b2⟩ := List.pairwise_cons.1 h2
    have e : u = v := by
      have m1 := (h u).1 (List.mem_cons_self ..)
      have m2 := (h v).2 (List.mem_cons_self ..)
      rw [List.mem_cons] at m1 m2
      rcases m1 with m1 | m1
      · exact m1
      · rcases m2 with m2 | m2
        · exact m2.symm
        · exact absurd (b1 u m1) (LtB_asymm (a1 v m2))
    subst e
    congr 1
    refine sorted_sameB us vs a2 b2 fun t => ?_
    have ht := h t
    rw [List.mem_cons, List.mem_cons] at ht
    constructor
    · intro m
      rcases ht.1 (Or.inr m) with m' | m'
      · subst m'; exact absurd (a1 t m) (LtB_irrefl t)
      · exact m'
    · intro m
      rcases ht.2 (Or.inr m) with m' | m'
      · subst m'; exact absurd (b1 t m) (LtB_irrefl t)
      · exact m'
/-- Other variables. -/
def NeB (a b : Bd) : Prop := ¬ cmpT a.1 b.1 = 0
theorem NeB_symm {a b : Bd} (h : NeB a b) : NeB b a := by unfold NeB at h ⊢; rw [cmpT_anti a.1 b.1]; omega
theorem LtB_NeB {a b : Bd} (h : LtB a b) : NeB a b := by unfold LtB at h; unfold NeB; omega
/-- What is sorted, of bindings of other variables each, is in order strictly. -/
theorem sorted_strict {bs : List Bd} (h1 : bs.Pairwise (fun a b => ¬ cmpT b.1 a.1 < 0)) (h2 : bs.Pairwise NeB) : bs.Pairwise LtB := by
  refine List.Pairwise.imp₂ (fun a b x y => ?_) h1 h2
  unfold LtB
  unfold NeB at y
  rw [cmpT_anti a.1 b.1] at x
  omega
theorem com_same {bs U V : List Bd} (hp : bs.Perm U) (hs : bs.Pairwise (fun a b => ¬ cmpT b.1 a.1 < 0)) (hu : U.Pairwise NeB) (hv : V.Pairwise LtB) (hm : ∀ b, b ∈ U ↔ b ∈ V) : bs = V :=
  sorted_sameB bs V (sorted_strict hs (hp.symm.pairwise hu (fun h => NeB_symm h))) hv (fun t => by rw [hp.mem_iff]; exact hm t)
/-- One more binding, in its place. -/
def insO : List Bd → Bd → List Bd
  | [], b => [b]
  | c :: cs, b => if cmpT b.1 c.1 < 0 then b :: c :: cs else c :: insO cs b
def insB (s : List Bd) (b : Bd) : List Bd := if cmpT b.1 b.2 = 0 then s else insO s b
theorem insO_perm : ∀ (s : List Bd) (b : Bd), (insO s b).Perm (b :: s)
  | [], b => List.Perm.refl _
  | c :: cs, b => by
    rw [insO]
    by_cases h : cmpT b.1 c.1 < 0
    · rw [if_pos h]
    · rw [if_neg h]
      exact ((insO_perm cs b).cons c).trans (List.Perm.swap b c cs)
theorem insO_sorted : ∀ (s : List Bd) (b : Bd), s.Pairwise LtB → (∀ c ∈ s, NeB b c) → (insO s b).Pairwise LtB
  | [], b, _, _ => by simp [insO]
  | c :: cs, b, hs, hn => by
    obtain ⟨h1, h2⟩ := List.pairwise_cons.1 hs
    rw [insO]
    by_cases h : cmpT b.1 c.1 < 0
    · rw [if_pos h]
      refine List.pairwise_cons.2 ⟨fun d hd => ?_, hs⟩
      rcases List.mem_cons.1 hd with rfl | hd
      · exact h
      · exact cmpT_trans h (h1 d hd)
    · rw [if_neg h]
      refine List.pairwise_cons.2 ⟨fun d hd => ?_, insO_sorted cs b h2 (fun d hd => hn d (List.mem_cons_of_mem _ hd))⟩
      rw [(insO_perm cs b).mem_iff] at hd
      rcases List.mem_cons.1 hd with rfl | hd
      · have := hn c (List.mem_cons_self ..)
        unfold NeB at this
        unfold LtB
        rw [cmpT_anti d.1 c.1]
        omega
      · exact h1 d hd
theorem insO_length (s : List Bd) (b : Bd) : (insO s b).length = s.length + 1 := by rw [(insO_perm s b).length_eq]; rfl
/-- Bindings put into a list one after another. -/
def insL (s l : List Bd) : List Bd := l.foldl insB s
/-- Those that bind something. -/
def nontriv (l : List Bd) : List Bd := l.filter (fun b => ! (cmpT b.1 b.2 == 0))
theorem nontriv_cons (b : Bd) (l : List Bd) : nontriv (b :: l) = if cmpT b.1 b.2 = 0 then nontriv l else b :: nontriv l := by
  unfold nontriv
  rw [List.filter_cons]
  by_cases h : cmpT b.1 b.2 = 0
  · rw [if_pos h, if_neg (by rw [h]; decide)]
  · rw [if_neg h, if_pos (by simpa using h)]
theorem insL_facts : ∀ (l s : List Bd), s.Pairwise LtB → l.Pairwise NeB → (∀ b ∈ l, ∀ c ∈ s, NeB b c) → (insL s l).Pairwise LtB ∧ (insL s l).Perm (s ++ nontriv l)
  | [], s, hs, _, _ => ⟨hs, by simp [insL, nontriv]⟩
  | b :: l, s, hs, hl, hd => by
    obtain ⟨h1, h2⟩ := List.pairwise_cons.1 hl
    show (insL (insB s b) l).Pairwise LtB ∧ (insL (insB s b) l).Perm (s ++ nontriv (b :: l))
    rw [nontriv_cons]
    unfold insB
    by_cases h : cmpT b.1 b.2 = 0
    · rw [if_pos h, if_pos h]
      exact insL_facts l s hs h2 (fun c hc d hd' => hd c (List.mem_cons_of_mem _ hc) d hd')
    · rw [if_neg h, if_neg h]
      have p := insO_perm s b
      obtain ⟨i1, i2⟩ := insL_facts l (insO s b) (insO_sorted s b hs (hd b (List.mem_cons_self ..))) h2 (fun c hc d hd' => by
        rw [p.mem_iff] at hd'
        rcases List.mem_cons.1 hd' with rfl | hd'
        · exact NeB_symm (h1 c hc)
        · exact hd c (List.mem_cons_of_mem _ hc) d hd')
      refine ⟨i1, i2.trans ?_⟩
      exact (p.append_right (nontriv l)).trans (List.perm_middle.symm)
theorem SortedB_pair {bs : List Bd} (h : SortedB bs) : bs.Pairwise LtB :=
  List.pairwise_iff_getElem.2 fun i j hi hj hij => h i j hi hj hij
theorem pair_SortedB {bs : List Bd} (h : bs.Pairwise LtB) : SortedB bs :=
  fun i j hi hj hij => List.pairwise_iff_getElem.1 h i j hi hj hij
/-- The bindings with another substitution applied. -/
def apB (ts ss : List Bd) : List Bd := ss.map (fun b => (b.1, (applyP ts b.2).1))
theorem folP_ok (ts : List Bd) : ∀ ss : List Bd, (folP ts ss).2 = 0 → (folP ts ss).1 = nontriv (apB ts ss) ∧ ∀ b ∈ ss, (applyP ts b.2).2 = 0
  | [], _ => ⟨rfl, fun b hb => absurd hb (by simp)⟩
  | b :: bs, h => by
    rw [folP] at h ⊢
    by_cases e1 : (applyP ts b.2).2 = 0
    · rw [if_pos e1] at h ⊢
      by_cases e2 : (folP ts bs).2 = 0
      · rw [if_pos e2] at h ⊢
        obtain ⟨i1, i2⟩ := folP_ok ts bs e2
        refine ⟨?_, fun c hc => ?_⟩
        · show _ = nontriv ((b.1, (applyP ts b.2).1) :: apB ts bs)
          rw [nontriv_cons]
          by_cases e3 : cmpT b.1 (applyP ts b.2).1 = 0
          · rw [if_pos e3, if_pos e3]; exact i1
          · rw [if_neg e3, if_neg e3, i1]
        · rcases List.mem_cons.1 hc with rfl | hc
          · exact e1
          · exact i2 c hc
      · rw [if_neg e2] at h; exact absurd h e2
    · rw [if_neg e1] at h; exact absurd h e1
/-- The bindings of t whose variables s does not bind. -/
def restB (ss ts : List Bd) : List Bd := ts.filter (fun b => ! bndB ss b.1)
/-- The composition, as the definition builds it. -/
def comR (ss ts : List Bd) : List Bd := insL (insL [] (apB ts ss)) (restB ss ts)
theorem apB_NeB {ts ss : List Bd} (h : ss.Pairwise LtB) : (apB ts ss).Pairwise NeB := by
  unfold apB
  rw [List.pairwise_map]
  exact h.imp (fun x => LtB_NeB x)
theorem restB_NeB {ss ts : List Bd} (h : ts.Pairwise LtB) : (restB ss ts).Pairwise NeB := (h.imp (fun x => LtB_NeB x)).filter _
theorem rest_other {ss ts : List Bd} {b c : Bd} (hb : b ∈ restB ss ts) (hc : c ∈ nontriv (apB ts ss)) : NeB b c := by
  have h1 := (List.mem_filter.1 hb).2
  obtain ⟨d, hd, rfl⟩ := List.mem_map.1 (List.mem_filter.1 hc).1
  intro e
  have hs : bndB ss b.1 = true := by
    unfold bndB
    rw [List.any_eq_true]
    refine ⟨d, hd, ?_⟩
    have e2 : cmpT d.1 b.1 = 0 := by rw [cmpT_anti b.1 d.1]; rw [show cmpT b.1 d.1 = 0 from e]; rfl
    rw [e2]; rfl
  rw [hs] at h1
  exact absurd h1 (by decide)
theorem nontriv_all {l : List Bd} (h : ∀ b ∈ l, ¬ cmpT b.1 b.2 = 0) : nontriv l = l := by
  unfold nontriv
  rw [List.filter_eq_self]
  intro b hb
  simpa using h b hb
theorem comR_facts {ss ts : List Bd} (hs : ss.Pairwise LtB) (ht : ts.Pairwise LtB) (hn : ∀ b ∈ ts, ¬ cmpT b.1 b.2 = 0) :
    (comR ss ts).Pairwise LtB ∧ (comR ss ts).Perm (nontriv (apB ts ss) ++ restB ss ts) ∧ (nontriv (apB ts ss) ++ restB ss ts).Pairwise NeB := by
  obtain ⟨a1, a2⟩ := insL_facts (apB ts ss) [] List.Pairwise.nil (apB_NeB hs) (fun _ _ c hc => absurd hc (by simp))
  rw [List.nil_append] at a2
  obtain ⟨b1, b2⟩ := insL_facts (restB ss ts) (insL [] (apB ts ss)) a1 (restB_NeB ht) (fun b hb c hc => rest_other hb ((a2.mem_iff).1 hc))
  rw [nontriv_all (l := restB ss ts) (fun b hb => hn b (List.mem_filter.1 hb).1)] at b2
  refine ⟨b1, b2.trans (a2.append_right _), ?_⟩
  rw [List.pairwise_append]
  exact ⟨(apB_NeB hs).filter _, restB_NeB ht, fun c hc b hb => NeB_symm (rest_other hb hc)⟩
theorem bindE_ne {v t : Tm} (h : bindE v t = 0) : ¬ cmpT v t = 0 := by
  unfold bindE at h
  by_cases e1 : validE v = 0
  · rw [if_pos e1] at h
    by_cases e2 : ¬ v.kind = 1 ∨ cmpT v t = 0
    · rw [if_pos e2] at h; exact absurd h (by decide)
    · exact fun e => e2 (Or.inr e)
  · rw [if_neg e1] at h; exact absurd h e1
/-- What the code composes is what the definition composes. -/
theorem com_comR {ss ts bs : List Bd} (h1 : validB ss = 0) (h2 : validB ts = 0) (hf : (folP ts ss).2 = 0) (hp : bs.Perm (comU ss (folP ts ss).1 ts)) (hs : bs.Pairwise (fun a b => ¬ cmpT b.1 a.1 < 0)) : bs = comR ss ts := by
  obtain ⟨_, _, s3⟩ := validB_ok h1
  obtain ⟨_, t2, t3⟩ := validB_ok h2
  obtain ⟨c1, c2, c3⟩ := comR_facts (SortedB_pair s3) (SortedB_pair t3) (fun b hb => bindE_ne (t2 b hb))
  have e : comU ss (folP ts ss).1 ts = nontriv (apB ts ss) ++ restB ss ts := by unfold comU restB; rw [(folP_ok ts ss hf).1]
  rw [e] at hp
  exact com_same hp hs c3 c1 (fun b => (c2.mem_iff).symm)
theorem comR_length {ss ts : List Bd} (h1 : validB ss = 0) (h2 : validB ts = 0) (hf : (folP ts ss).2 = 0) : (comR ss ts).length = (comU ss (folP ts ss).1 ts).length := by
  obtain ⟨_, _, s3⟩ := validB_ok h1
  obtain ⟨_, t2, t3⟩ := validB_ok h2
  obtain ⟨c1, c2, c3⟩ := comR_facts (SortedB_pair s3) (SortedB_pair t3) (fun b hb => bindE_ne (t2 b hb))
  rw [c2.length_eq]
  unfold comU restB
  rw [(folP_ok ts ss hf).1]

end Go.Proofs.YtkdnfioihhfmpaaDoor

/-
  subst.Compose's answer as the definition builds it; bindings that were made, read as a row.
-/
namespace Go.Proofs.YtkdnfioihhfmpaaDoor
open Go.RowKit

/-- A slice value that reads as these bindings; what their terms hold lies in blocks of S. -/
def ElemsB (S : Nat → Prop) (w : World) (bs : List Bd) (v : Value) : Prop :=
  ∃ xa cap cs, v = .slice xa bs.length cap ∧ bs.length ≤ cap ∧ bs.length ≤ maxLen ∧ KC S w (flatB bs) cs ∧ (0 < bs.length → ∃ b o, xa = some ⟨b, o, none⟩ ∧ ∀ j u, cs[j]? = some u → w.cell? ⟨b, o + j, none⟩ = some u)
theorem flatB_pos {bs : List Bd} (h : bs ≠ []) : flatB bs ≠ [] := by
  cases bs with
  | nil => exact absurd rfl h
  | cons b bs => simp [flatB]
theorem ElemsB_row {S : Nat → Prop} {w : World} {bs : List Bd} {v : Value} (h : ElemsB S w bs v) : ∃ xa cap, v = .slice xa bs.length cap ∧ bs.length ≤ cap ∧ bs.length ≤ maxLen ∧ Row w (flatB bs) xa := by
  obtain ⟨xa, cap, cs, rfl, h1, h2, hK, hc⟩ := h
  refine ⟨xa, cap, rfl, h1, h2, ?_⟩
  cases bs with
  | nil => simp [flatB, Row]
  | cons t ts =>
    obtain ⟨b, o, rfl, hcc⟩ := hc (by simp)
    have hK' : KC (fun _ => True) w (flatB (t :: ts)) cs := KC_carry (fun _ _ => rfl) (fun _ _ => trivial) _ _ hK
    have hR : RowIn (fun _ => True) w (flatB (t :: ts)) (some ⟨b, o, none⟩) := RowIn_of_KC (S := fun _ => True) trivial _ cs o hK' hcc
    have : ∀ (us : List Tm) (ya : Option Addr), RowIn (fun _ => True) w us ya → Row w us ya := by
      intro us
      induction us with
      | nil => intro ya _; simp [Row]
      | cons u us ih =>
        intro ya hh
        simp only [RowIn] at hh; simp only [Row]
        obtain ⟨b, o, e, _, ⟨c0, c1, c2, c3, g0, g1, g2, g3, hI⟩, hR⟩ := hh
        exact ⟨b, o, e, ⟨c0, c1, c2, c3, g0, g1, g2, g3, IsIn_Is _ _ _ _ _ hI⟩, ih _ hR⟩
    exact this _ _ hR
theorem ElemsB_nil (S : Nat → Prop) (w : World) : ElemsB S w [] (.slice none 0 0) := ⟨none, 0, [], rfl, Nat.le_refl _, Nat.zero_le _, rfl, fun h => by simp at h⟩
theorem ElemsB_ext {S : Nat → Prop} {w w' : World} {bs : List Bd} {v : Value} (h : ElemsB S w bs v) (hS : ∀ b, S b → b < w.heap.size) (hB : Below w.heap.size w w') : ElemsB S w' bs v := by
  obtain ⟨xa, cap, cs, rfl, h1, h2, hK, hc⟩ := h
  refine ⟨xa, cap, cs, rfl, h1, h2, KC_carry (fun b hb => hB.block b (hS b hb)) (fun _ hb => hb) _ _ hK, fun hp => ?_⟩
  obtain ⟨b, o, e, hc⟩ := hc hp
  exact ⟨b, o, e, fun j u hu => keep_below hB _ _ (hc j u hu)⟩
theorem own_elemsB {H : Nat} {S : Nat → Prop} {w : World} {bs : List Bd} {v : Value} {cs : List Value} (ho : w.ownsRow H 77 8 v bs.length cs) (hK : KC S w (flatB bs) cs) : ElemsB S w bs v := by
  have ho2 := ho
  rcases ho.2 with ⟨rfl, h0⟩ | ⟨g, cap, cur, rfl, _, _, h1, h2, _⟩
  · have : bs = [] := List.length_eq_zero_iff.1 h0
    subst this; exact ElemsB_nil S w
  · refine ⟨some ⟨g, 0, none⟩, cap, cs, rfl, h1, by omega, hK, fun _ => ⟨g, 0, rfl, fun j u hu => ?_⟩⟩
    have := ho2.cells (g := g) rfl j u hu
    rw [add_plain] at this; exact this
theorem BdsAt_row {H : Nat} {w : World} {bs : List Bd} {kv : Value} (h : BdsAt H w bs kv) : ∃ xa cap, kv = .slice xa bs.length cap ∧ bs.length ≤ cap ∧ bs.length ≤ maxLen ∧ Row w (flatB bs) xa := by
  obtain ⟨F, cs, ho, hK, _⟩ := h
  exact ElemsB_row (own_elemsB ho hK)
theorem RbOk.small {bs : List Bd} {xs : Option Addr} {cs N : Nat} {w : World} (h : RbOk bs xs cs w) (hsn : ∀ b ∈ bs, size b.2 * N ≤ 1073741824) : ∀ b ∈ bs, size b.1 ≤ 1073741824 ∧ size b.2 * N ≤ 1073741824 :=
  fun b hb => ⟨(h.sz b hb).1, hsn b hb⟩
/-- The good case, whole. -/
theorem scompose_good (ss ts : List Bd) (xs xt : Option Addr) (cs ct N : Nat) (w : World) (hS : RbOk ss xs cs w) (hRb : RbOk ts xt ct w) (hv1 : validB ss = 0) (hv2 : validB ts = 0) (hN : ∀ b ∈ ts, size b.2 ≤ N) (h1 : 1 ≤ N) (hsn : ∀ b ∈ ss, size b.2 * N ≤ 1073741824) (hf : (folP ts ss).2 = 0) :
    Calls Tryd.prog 29 #[.slice xs ss.length cs, .slice xt ts.length ct] w (fun e w' => Below w.heap.size w w' ∧ if 200 < (comR ss ts).length then e = .returned (.tuple #[.slice none 0 0, .int .i64 3]) else ∃ kv, e = .returned (.tuple #[kv, .int .i64 0]) ∧ BdsAt w.heap.size w' (comR ss ts) kv) := by
  obtain ⟨s1, _, _⟩ := validB_ok hv1
  obtain ⟨t1, _, _⟩ := validB_ok hv2
  obtain ⟨f1, f2⟩ := folP_small hN h1 ss (hS.small hsn)
  have hL : folS ts [] ss = ((folP ts ss).1, 0) := by rw [folS_nil, if_pos hf]
  refine (scompose_any ss ts xs xt cs ct N w hS hRb t1 s1 hv1 hv2 hN h1 hsn _ hL (by omega) f2).mono ?_
  rintro e w' ⟨hB, h⟩
  refine ⟨hB, ?_⟩
  rw [comR_length hv1 hv2 hf]
  by_cases h200 : 200 < (comU ss (folP ts ss).1 ts).length
  · rw [if_pos h200] at h ⊢; exact h
  · rw [if_neg h200] at h ⊢
    obtain ⟨bs, kv, p1, p2, p3, p4⟩ := h
    rw [com_comR hv1 hv2 hf p1 p2] at p4
    exact ⟨kv, p3, p4⟩

end Go.Proofs.YtkdnfioihhfmpaaDoor
