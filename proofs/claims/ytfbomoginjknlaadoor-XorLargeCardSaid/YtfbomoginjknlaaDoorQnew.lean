/-
  THE REFERENCE'S Add, toggle, Plus, Summands: their results lie in new memory.
-/
import Derived.Test.YtfbomoginjknlaaDoorQplus
namespace Go.Proofs.YtfbomoginjknlaaDoor
open Go.RowKit Go.Lib

/-- What a value points at is no older than B blocks. -/
def FrV (B : Nat) (v : Value) : Prop := ∀ b, v.ownBlock = some b → B ≤ b
theorem FrV.mono {A B : Nat} {v : Value} (h : FrV B v) (hl : A ≤ B) : FrV A v := fun b hb => Nat.le_trans hl (h b hb)
theorem FrV_nil (B n c : Nat) : FrV B (.slice none n c) := fun b hb => by simp [Value.ownBlock] at hb
theorem FrV_own {H B : Nat} {S : Nat → Prop} {w : World} {ts : List Tm} {v : Value} (h : OwnT H S w ts v) (hB : B ≤ H) : FrV B v := fun b hb => Nat.le_trans hB (OwnT_lt h b hb).1
def TermsPostN (base : Nat) (w : World) (ts : List Tm) (e : Ending) (w' : World) : Prop := ∃ v, e = .returned v ∧ Elems (fun b => b < base) w' ts v ∧ Below w.heap.size w w' ∧ FrV w.heap.size v
theorem TermsPostN_add {base : Nat} {w wr : World} {t : Tm} {ts os : List Tm} {v : Value} (hO : OwnT (w.heap.size + 1) (fun b => b < base) wr os v) (hB : Below w.heap.size w wr) (he : os = addR t ts false) : TermsPostN base w (addR t ts false) (.returned v) wr :=
  ⟨v, rfl, by rw [← he]; exact OwnT_elems hO, hB, FrV_own hO (Nat.le_succ _)⟩
set_option maxHeartbeats 3200000 in
set_option maxRecDepth 100000 in
theorem addN_any (t : Tm) (ts : List Tm) (c0 c1 c2 c3 lv : Value) (base : Nat) (w : World) (hln : ts.length ≤ 1048576) (hst : size t ≤ 1073741824) (hss : ∀ x ∈ ts, size x ≤ 1073741824) (hbw : base ≤ w.heap.size)
    (hI : IsIn (fun b => b < base) w t c0 c1 c2 c3) (hE : Elems (fun b => b < base) w ts lv) :
    Calls Tryd.prog 88 #[lv, .agg #[c0, c1, c2, c3]] w (TermsPostN base w (addR t ts false)) := by
  obtain ⟨k, nm, s, ya, yl, yc, rfl, rfl, rfl, rfl⟩ := IsIn_form hI
  have HE := Lib.hid hE
  have hBX : Below w.heap.size w (w.alloc (.cells #[.int .i64 k, .string nm, .int .i64 s, .slice ya yl yc] 24)) := (Below.refl _ _).alloc (Nat.le_refl _) _
  have HIB : Hid (∀ W, Below w.heap.size w W → IsIn (fun b => b < base) W t (.int .i64 k) (.string nm) (.int .i64 s) (.slice ya yl yc)) := fun W hW => IsIn_below hI hbw hW
  have HW : Hid (AddR base (w.heap.size + 1) (w.alloc (.cells #[.int .i64 k, .string nm, .int .i64 s, .slice ya yl yc] 24)) t ts 0 0 false (.slice none 0 0) (w.alloc (.cells #[.int .i64 k, .string nm, .int .i64 s, .slice ya yl yc] 24))) := ⟨[], rfl, OwnT_nil _ _ _, Below.refl _ _, rfl⟩
  obtain ⟨xa, cap, hlv, hcap, hml, hrow⟩ := Elems_row hE
  subst hlv
  have HRW := Lib.hid hrow
  obtain ⟨i0, hi0, hz0, hz1, hz2⟩ := info_parts info24
  have HI0 := Lib.hid (And.intro hi0 (And.intro hz0 (And.intro hz1 hz2)))
  clear hE hi0 hz0 hz1 hz2 hBX hI hrow
  go_enter Tryd.func88, Tryd.ntmps88
  go_wp2_with fail
  go_loopw [5, 6, 7] (fun v d i wr => ∃ (j n : Nat) (b : Bool), j ≤ ts.length ∧ n ≤ j + b.toNat ∧ i = .int .i64 j ∧ d = .bool b ∧ AddR base (w.heap.size + 1) (w.alloc (.cells #[.int .i64 k, .string nm, .int .i64 s, .slice ya yl yc] 24)) t ts j n b v wr) (fun _ _ i _ => ts.length - (intOf i).toNat)
  case atStart => exact ⟨0, 0, false, Nat.zero_le _, Nat.zero_le _, rfl, rfl, HW.out⟩
  case round =>
    obtain ⟨j, n, b, hj, hnj', rfl, rfl, os, hn, ⟨cs, hown, hKC⟩, hB, hos⟩ := hrel
    have hnj : n ≤ j + 1 := by have := Bool.toNat_le b; omega
    have HNJ := Lib.hid hnj'
    clear hnj'
    rw [← hn] at hown
    obtain ⟨xl, lcap, hv⟩ := own_form hown
    subst hv
    obtain ⟨p0, p1, p2, p3⟩ := box_kept hB
    have HB := Lib.hid hB
    have HO := Lib.hid hown
    have HK := Lib.hid hKC
    have HN := Lib.hid hn
    have HS := Lib.hid hos
    have hwr : w.heap.size + 1 ≤ wr.heap.size := by have := hB.size; simpa using this
    by_cases hlt : j < ts.length
    rotate_left
    · have hd : ts.drop j = [] := List.drop_eq_nil_of_le (by omega)
      have HD := Lib.hid hd
      clear hB hown hKC hn hos hd
      cases b with
      | true =>
        have HF : Hid (TermsPostN base w (addR t ts false) (.returned (.slice xl n lcap)) wr) := TermsPostN_add ⟨cs, by rw [← HN.out]; exact HO.out, HK.out⟩ (below_box HB.out) (by have := HS.out; rw [HD.out] at this; simpa [addR] using this)
        go_wp2_with fail
        go_ret
        exact HF.out
      | false =>
        have tok1 : True := trivial
        go_wp2_with (at_builtin; have _t := tok1; refine wpList_append_lies _ rfl _ _ _ rfl (w.heap.size + 1) 24 i0 _ 4 56 Tryd.underlying22 HI0.out.1 HI0.out.2.1 HI0.out.2.2.1 HI0.out.2.2.2 rfl (by omega) (.slice xl n lcap) (n) cs rfl (HO.out.alloc _) ⟨wr.heap.size, 0, none⟩ 1 1 [.int .i64 k, .string nm, .int .i64 s, .slice ya yl yc] rfl rfl (World.news_of_block (cs := #[.int .i64 k, .string nm, .int .i64 s, .slice ya yl yc]) (t := 24) (fr := (0, 0)) (heap_alloc_new wr _)) (by simp [Value.oneCell']) (by omega) (by unfold maxLen; omega) (by omega) (by simp; omega) (wr.heap.size + 1) (by simp) ?_; intro g cap2 w4 hown4 hgrow4 hat4 hlt4; have HP := Lib.hid (OwnT_push HO.out HK.out HN.out (HIB.out _ (below_box HB.out)) (by omega) hwr hown4 hgrow4); clear hown4 hgrow4 hat4 hlt4; clear tok1)
        go_ret
        exact TermsPostN_add HP.out.1 ((below_box HB.out).trans (HP.out.2.mono (by omega))) (by have := HS.out; rw [HD.out] at this; simpa [addR] using this)
    obtain ⟨kb, ko, rfl⟩ := Row_at HRW.out (by omega)
    have HKB : kb < w.heap.size + 1 := by
      obtain ⟨kb', ko', cap', x0, x1, x2, x3, hve, m0, _⟩ := Elems_get HE.out j hlt
      simp only [Value.slice.injEq, Option.some.injEq, Addr.mk.injEq, and_true, true_and] at hve
      have := World.block_lt_of_cell? w _ m0
      simp only at this; omega
    obtain ⟨kb', ko', cap', x0, x1, x2, x3, hve, m0, m1, m2, m3, hKI⟩ := Elems_get (Elems_ext HE.out (fun b hb => by omega) (below_box hB)) j hlt
    simp only [Value.slice.injEq, Option.some.injEq, Addr.mk.injEq, and_true, true_and] at hve
    obtain ⟨⟨rfl, rfl⟩, rfl⟩ := hve
    obtain ⟨k', nm', s', ya', yl', yc', rfl, rfl, rfl, rfl⟩ := IsIn_form hKI
    have HKI := Lib.hid hKI
    have hsx := hss _ (List.getElem_mem hlt)
    have hdr := addR_drop t ts j hlt b
    obtain ⟨x, hx⟩ : ∃ x, ts[j] = x := ⟨_, rfl⟩
    rw [hx] at HKI hsx hdr
    have HDR := Lib.hid hdr
    obtain ⟨c, hc⟩ : ∃ c, cmpT t x = c := ⟨_, rfl⟩
    have HC := Lib.hid hc
    have HCr : Hid (∀ W, Ext wr W → W.cell? ⟨w.heap.size, 0, none⟩ = some (.int .i64 k) ∧ W.cell? ⟨w.heap.size, 1, none⟩ = some (.string nm) ∧ W.cell? ⟨w.heap.size, 2, none⟩ = some (.int .i64 s) ∧ W.cell? ⟨w.heap.size, 3, none⟩ = some (.slice ya yl yc) ∧ W.cell? ⟨kb, ko + j * 4, none⟩ = some (.int .i64 k') ∧ W.cell? ⟨kb, ko + j * 4 + 1, none⟩ = some (.string nm') ∧ W.cell? ⟨kb, ko + j * 4 + 2, none⟩ = some (.int .i64 s') ∧ W.cell? ⟨kb, ko + j * 4 + 3, none⟩ = some (.slice ya' yl' yc')) := fun W h => ⟨keep_below h _ _ p0, keep_below h _ _ p1, keep_below h _ _ p2, keep_below h _ _ p3, keep_below h _ _ m0, keep_below h _ _ m1, keep_below h _ _ m2, keep_below h _ _ m3⟩
    have i1 : (0 : Int) ≤ (j : Int) := by omega
    have i2 : (j : Int) < (ts.length : Int) := by omega
    have hF0 : Ext wr wr.drew := (Ext.refl wr).drew
    clear hB hown hKC hn hos hKI hdr hc hx
    go_upto_region 6 with (fail)
    go_cut [8] (fun v8 wc => v8 = .int .i64 c ∧ Ext wr wc)
    case first =>
      go_region_held3 (fun W => W.cell? ⟨w.heap.size, 0, none⟩ = some (.int .i64 k) ∧ W.cell? ⟨w.heap.size, 1, none⟩ = some (.string nm) ∧ W.cell? ⟨w.heap.size, 2, none⟩ = some (.int .i64 s) ∧ W.cell? ⟨w.heap.size, 3, none⟩ = some (.slice ya yl yc) ∧ W.cell? ⟨kb, ko + j * 4, none⟩ = some (.int .i64 k') ∧ W.cell? ⟨kb, ko + j * 4 + 1, none⟩ = some (.string nm') ∧ W.cell? ⟨kb, ko + j * 4 + 2, none⟩ = some (.int .i64 s') ∧ W.cell? ⟨kb, ko + j * 4 + 3, none⟩ = some (.slice ya' yl' yc'))
        (first | exact HCr.out _ (by assumption) | go_keep)
        (first
          | (go_at_call 33; refine (rcompare_any _ t x _ _ _ _ _ _ _ _ _ (Nat.le_refl _) (by omega) (by omega) (Is_below (IsIn_Is _ _ _ _ _ (HIB.out _ (below_box HB.out))) hF0) (Is_below (IsIn_Is _ _ _ _ _ HKI.out) hF0)).mono ?_; rintro e w3 ⟨he, hB⟩; rw [HC.out] at he; subst he; have hF1 : Ext wr w3 := hF0.trans hB; clear hB))
      go_wp2_with fail
      go_meet
      exact ⟨rfl, hF1⟩
    case rest =>
      obtain ⟨rfl, hEx⟩ := hcut
      have HEx := Lib.hid hEx
      obtain ⟨q0, q1, q2, q3, r0, r1, r2, r3⟩ := HCr.out _ hEx
      have HBc := Lib.hid (HB.out.trans (hEx.mono hwr))
      have HOc := Lib.hid (own_heap HO.out (fun q hq => hEx.block q (HO.out.lt q hq).2))
      have HKc := Lib.hid (KC_carry (fun b' (hb' : b' < base) => hEx.block b' (by omega)) (fun _ h => h) _ _ HK.out)
      have HIt := Lib.hid (HIB.out _ (below_box HBc.out))
      have HIx := Lib.hid (IsIn_below HKI.out (by omega) hEx)
      have hwc : wr.heap.size ≤ wc.heap.size := hEx.size
      have tok1 : True := trivial
      have tok2 : True := trivial
      clear hEx p0 p1 p2 p3 m0 m1 m2 m3
      cases b with
      | true =>
        clear tok2
        go_wp2_with (at_builtin; have _t := tok1; refine wpList_append_lies _ rfl _ _ _ rfl (w.heap.size + 1) 24 i0 _ 4 56 Tryd.underlying22 HI0.out.1 HI0.out.2.1 HI0.out.2.2.1 HI0.out.2.2.2 rfl (by omega) (.slice xl n lcap) (n) cs rfl (HOc.out.alloc _) ⟨wc.heap.size, 0, none⟩ 1 1 [.int .i64 k', .string nm', .int .i64 s', .slice ya' yl' yc'] rfl rfl (World.news_of_block (cs := #[.int .i64 k', .string nm', .int .i64 s', .slice ya' yl' yc']) (t := 24) (fr := (0, 0)) (heap_alloc_new wc _)) (by simp [Value.oneCell']) (by omega) (by unfold maxLen; omega) (by omega) (by simp; omega) (wc.heap.size + 1) (by simp) ?_; intro g cap2 w4 hown4 hgrow4 hat4 hlt4; have HP := Lib.hid (OwnT_push HOc.out HKc.out HN.out HIx.out (by omega) (by omega) hown4 hgrow4); clear hown4 hgrow4 hat4 hlt4; clear tok1)
        go_roundw
        case rel =>
          refine ⟨j + 1, n + 1, true, by omega, by simp only [Bool.toNat_true]; omega, by go_num, rfl, os ++ [x], by rw [List.length_append, ← HN.out]; rfl, HP.out.1, HBc.out.trans HP.out.2, ?_⟩
          rw [← HS.out, HDR.out]; simp
        case measure => simp [intOf]; omega
      | false =>
        by_cases h1 : c < 0
        · have h2 : ¬ 0 < c := by omega
          go_wp2_with (first
            | (at_builtin; have _t := tok1; refine wpList_append_lies _ rfl _ _ _ rfl (w.heap.size + 1) 24 i0 _ 4 56 Tryd.underlying22 HI0.out.1 HI0.out.2.1 HI0.out.2.2.1 HI0.out.2.2.2 rfl (by omega) (.slice xl n lcap) (n) cs rfl (HOc.out.alloc _) ⟨wc.heap.size, 0, none⟩ 1 1 [.int .i64 k, .string nm, .int .i64 s, .slice ya yl yc] rfl rfl (World.news_of_block (cs := #[.int .i64 k, .string nm, .int .i64 s, .slice ya yl yc]) (t := 24) (fr := (0, 0)) (heap_alloc_new wc _)) (by simp [Value.oneCell']) (by omega) (by unfold maxLen; omega) (by omega) (by simp; omega) (wc.heap.size + 1) (by simp) ?_; intro g cap2 w4 hown4 hgrow4 hat4 hlt4; have HP := Lib.hid (OwnT_push HOc.out HKc.out HN.out HIt.out (by omega) (by omega) hown4 hgrow4); obtain ⟨cs4, hown5, hKC5⟩ := HP.out.1; rw [List.length_append, List.length_singleton, ← HN.out] at hown5; have HO4 := Lib.hid hown5; have HK4 := Lib.hid hKC5; have hwr4 := HP.out.2.size; have HX4 := Lib.hid (IsIn_carry (fun b' (hb' : b' < base) => HP.out.2.block b' (by omega)) (fun _ h => h) _ _ _ _ _ HIx.out); have s0 := (HP.out.2.cell (p := ⟨kb, ko + j * 4, none⟩) HKB).trans r0; have s1 := (HP.out.2.cell (p := ⟨kb, ko + j * 4 + 1, none⟩) HKB).trans r1; have s2 := (HP.out.2.cell (p := ⟨kb, ko + j * 4 + 2, none⟩) HKB).trans r2; have s3 := (HP.out.2.cell (p := ⟨kb, ko + j * 4 + 3, none⟩) HKB).trans r3; clear hown4 hgrow4 hat4 hlt4 hown5 hKC5; clear tok1)
            | (at_builtin; have _t := tok2; refine wpList_append_lies _ rfl _ _ _ rfl (w.heap.size + 1) 24 i0 _ 4 56 Tryd.underlying22 HI0.out.1 HI0.out.2.1 HI0.out.2.2.1 HI0.out.2.2.2 rfl (by omega) (.slice (some ⟨g, 0, none⟩) (n + 1) cap2) (n + 1) cs4 rfl (HO4.out.alloc _) ⟨w4.heap.size, 0, none⟩ 1 1 [.int .i64 k', .string nm', .int .i64 s', .slice ya' yl' yc'] rfl rfl (World.news_of_block (cs := #[.int .i64 k', .string nm', .int .i64 s', .slice ya' yl' yc']) (t := 24) (fr := (0, 0)) (heap_alloc_new w4 _)) (by simp [Value.oneCell']) (by omega) (by unfold maxLen; omega) (by omega) (by simp; omega) (w4.heap.size + 1) (by simp) ?_; intro g5 cap5 w5 hown6 hgrow6 hat6 hlt6; have HP2 := Lib.hid (OwnT_push (os := os ++ [t]) HO4.out HK4.out (by rw [List.length_append, ← HN.out]; rfl) HX4.out (by omega) (by omega) hown6 hgrow6); clear hown6 hgrow6 hat6 hlt6; clear tok2))
          go_roundw
          case rel =>
            refine ⟨j + 1, n + 1 + 1, true, by omega, by have := HNJ.out; simp only [Bool.toNat_true, Bool.toNat_false] at *; omega, by go_num, rfl, os ++ [t] ++ [x], by rw [List.length_append, List.length_append, ← HN.out]; rfl, HP2.out.1, (HBc.out.trans HP.out.2).trans HP2.out.2, ?_⟩
            rw [← HS.out, HDR.out, HC.out, if_neg (by simp), if_pos h1]; simp
          case measure => simp [intOf]; omega
        · by_cases h2 : c = 0
          · have h3 : c ≤ 0 := by omega
            clear tok2
            go_wp2_with (at_builtin; have _t := tok1; refine wpList_append_lies _ rfl _ _ _ rfl (w.heap.size + 1) 24 i0 _ 4 56 Tryd.underlying22 HI0.out.1 HI0.out.2.1 HI0.out.2.2.1 HI0.out.2.2.2 rfl (by omega) (.slice xl n lcap) (n) cs rfl (HOc.out.alloc _) ⟨wc.heap.size, 0, none⟩ 1 1 [.int .i64 k', .string nm', .int .i64 s', .slice ya' yl' yc'] rfl rfl (World.news_of_block (cs := #[.int .i64 k', .string nm', .int .i64 s', .slice ya' yl' yc']) (t := 24) (fr := (0, 0)) (heap_alloc_new wc _)) (by simp [Value.oneCell']) (by omega) (by unfold maxLen; omega) (by omega) (by simp; omega) (wc.heap.size + 1) (by simp) ?_; intro g cap2 w4 hown4 hgrow4 hat4 hlt4; have HP := Lib.hid (OwnT_push HOc.out HKc.out HN.out HIx.out (by omega) (by omega) hown4 hgrow4); clear hown4 hgrow4 hat4 hlt4; clear tok1)
            go_roundw
            case rel =>
              refine ⟨j + 1, n + 1, true, by omega, by simp only [Bool.toNat_true]; omega, by go_num, rfl, os ++ [x], by rw [List.length_append, ← HN.out]; rfl, HP.out.1, HBc.out.trans HP.out.2, ?_⟩
              rw [← HS.out, HDR.out, HC.out, if_neg (by simp), if_neg h1, if_pos h2]; simp
            case measure => simp [intOf]; omega
          · have h3 : 0 < c := by omega
            clear tok2
            go_wp2_with (at_builtin; have _t := tok1; refine wpList_append_lies _ rfl _ _ _ rfl (w.heap.size + 1) 24 i0 _ 4 56 Tryd.underlying22 HI0.out.1 HI0.out.2.1 HI0.out.2.2.1 HI0.out.2.2.2 rfl (by omega) (.slice xl n lcap) (n) cs rfl (HOc.out.alloc _) ⟨wc.heap.size, 0, none⟩ 1 1 [.int .i64 k', .string nm', .int .i64 s', .slice ya' yl' yc'] rfl rfl (World.news_of_block (cs := #[.int .i64 k', .string nm', .int .i64 s', .slice ya' yl' yc']) (t := 24) (fr := (0, 0)) (heap_alloc_new wc _)) (by simp [Value.oneCell']) (by omega) (by unfold maxLen; omega) (by omega) (by simp; omega) (wc.heap.size + 1) (by simp) ?_; intro g cap2 w4 hown4 hgrow4 hat4 hlt4; have HP := Lib.hid (OwnT_push HOc.out HKc.out HN.out HIx.out (by omega) (by omega) hown4 hgrow4); clear hown4 hgrow4 hat4 hlt4; clear tok1)
            go_roundw
            case rel =>
              refine ⟨j + 1, n + 1, false, by omega, by have := HNJ.out; simp only [Bool.toNat_false] at *; omega, by go_num, rfl, os ++ [x], by rw [List.length_append, ← HN.out]; rfl, HP.out.1, HBc.out.trans HP.out.2, ?_⟩
              rw [← HS.out, HDR.out, HC.out, if_neg (by simp), if_neg h1, if_neg h2]; simp
            case measure => simp [intOf]; omega

set_option maxHeartbeats 3200000 in
set_option maxRecDepth 100000 in
theorem toggleN_any (base : Nat) (l : List Tm) (t : Tm) (v c0 c1 c2 c3 : Value) (w : World) (hbw : base ≤ w.heap.size) (hl : l.length ≤ 1048576) (hs : ∀ u ∈ l, size u ≤ 1073741824) (ht : size t ≤ 1073741824) (hE : Elems (fun b => b < base) w l v) (hIb : IsIn (fun b => b < base) w t c0 c1 c2 c3) :
    Calls Tryd.prog 78 #[v, .agg #[c0, c1, c2, c3]] w (TermsPostN base w (togT l t)) := by
  obtain ⟨xa, cap, rfl, hcp, _, hR⟩ := Elems_row hE
  have hI := IsIn_Is _ _ _ _ _ hIb
  obtain ⟨k2, n2, s2, ya2, yl2, yc2, rfl, rfl, rfl, rfl⟩ := Is_form hI
  have hB1 : Ext w (w.alloc (.cells #[.int .i64 k2, .string n2, .int .i64 s2, .slice ya2 yl2 yc2] 24)) := (Ext.refl _).alloc _
  have HHAS := Lib.hid (fun W (x : Ext w W) => qhas_any l t xa cap _ _ _ _ W (by unfold maxLen; omega) hs ht (Row_below (w' := W) hR x) (Is_below (w' := W) hI x))
  have HBK : Hid (∀ W, Ext (w.alloc (.cells #[.int .i64 k2, .string n2, .int .i64 s2, .slice ya2 yl2 yc2] 24)) W → W.cell? ⟨w.heap.size, 0, none⟩ = some (.int .i64 k2) ∧ W.cell? ⟨w.heap.size, 1, none⟩ = some (.string n2) ∧ W.cell? ⟨w.heap.size, 2, none⟩ = some (.int .i64 s2) ∧ W.cell? ⟨w.heap.size, 3, none⟩ = some (.slice ya2 yl2 yc2)) := by
    show ∀ _, _
    intro W x
    have hh := x.block w.heap.size (by simp)
    rw [heap_alloc_new] at hh
    exact (box_facts hh).1
  have HZ : Hid ((w.alloc (.cells #[.int .i64 k2, .string n2, .int .i64 s2, .slice ya2 yl2 yc2] 24)).heap.size = w.heap.size + 1) := World.size_alloc _ _
  obtain ⟨b0, b1, b2, b3⟩ := HBK.out _ (Ext.refl _)
  have HB1 := Lib.hid hB1
  cases hm : memT l t
  · rw [hm] at HHAS
    have HP : Hid (∀ W v, Elems (fun b => b < base) W (addR t l false) v → Ext w W → FrV w.heap.size v → TermsPostN base w (togT l t) (.returned v) W) := by
      show ∀ _, _
      intro W v h1 h3 h4
      have e : togT l t = addR t l false := by unfold togT; rw [hm]; rfl
      rw [e]; exact ⟨v, rfl, h1, h3, h4⟩
    have HADD := Lib.hid (fun W (x : Ext w W) => addN_any t l _ _ _ _ (.slice xa l.length cap) base W hl ht hs (Nat.le_trans hbw x.size) (IsIn_below hIb hbw x) (Elems_ext hE (fun b (hb : b < base) => by omega) x))
    clear hR hI hB1 hE hIb
    go_enter Tryd.func78, Tryd.ntmps78
    go_wp2_with (first
      | (go_at_call 87; refine (HHAS.out _ HB1.out).mono ?_; rintro e w3 ⟨he, hB⟩; subst he; obtain ⟨b0, b1, b2, b3⟩ := HBK.out _ hB; have HX3 := Lib.hid (HB1.out.trans hB); clear hB)
      | (go_at_call 88; refine (HADD.out _ HX3.out).mono ?_; rintro e w4 ⟨v4, he, hE4, hB4, hN4⟩; subst he; have HF := Lib.hid (HP.out _ v4 hE4 (HX3.out.trans hB4) (hN4.mono HX3.out.size)); clear hE4 hB4 hN4))
    go_ret
    exact HF.out
  · rw [hm] at HHAS
    have HT : Hid (togT l t = l.filter (fun u => !(cmpT u t == 0))) := by show _ = _; unfold togT; rw [hm]; rfl
    have HR := Lib.hid hR
    have HI := Lib.hid hI
    have HSZ := Lib.hid hs
    have HHT := Lib.hid ht
    have HEL := Lib.hid hE
    have HBW := Lib.hid hbw
    clear hR hI hs ht hm hB1 hE hIb
    go_enter Tryd.func78, Tryd.ntmps78
    go_wp2_with (go_at_call 87; refine (HHAS.out _ HB1.out).mono ?_; rintro e w3 ⟨he, hB⟩; subst he; have HX3 := Lib.hid hB; clear hB)
    clear HHAS b0 b1 b2 b3
    go_loopw [5, 6] (fun lv i wr => ∃ j : Nat, j ≤ l.length ∧ i = .int .i64 j ∧ OwnT (w.heap.size + 1) (fun b => b < base) wr ((l.take j).filter (fun u => !(cmpT u t == 0))) lv ∧ Below (w.heap.size + 1) w3 wr) (fun _ i _ => l.length - (intOf i).toNat)
    case atStart => exact ⟨0, Nat.zero_le _, rfl, by rw [List.take_zero]; exact OwnT_nil _ _ _, Below.refl _ _⟩
    case round =>
      obtain ⟨j, hj, rfl, hO, hB⟩ := hrel
      have HXr : Hid (Ext (w.alloc (.cells #[.int .i64 k2, .string n2, .int .i64 s2, .slice ya2 yl2 yc2] 24)) wr) := by
        have := HX3.out
        unfold Ext at this ⊢
        rw [HZ.out] at this ⊢
        exact this.trans hB
      have HXw : Hid (Ext w wr) := HB1.out.trans HXr.out
      have hws : w.heap.size + 1 ≤ wr.heap.size := by have := HXr.out.size; rw [HZ.out] at this; exact this
      have HWS := Lib.hid hws
      have HB := Lib.hid hB
      by_cases hlt : j < l.length
      rotate_left
      · have hjl : j = l.length := by omega
        obtain ⟨xr, cr, rfl⟩ := OwnT_form hO
        have HQ : Hid (TermsPostN base w (togT l t) (.returned (.slice xr ((l.take j).filter (fun u => !(cmpT u t == 0))).length cr)) wr) := by
          show TermsPostN _ _ _ _ _
          rw [hjl, List.take_length] at hO ⊢
          rw [HT.out]
          exact ⟨_, rfl, OwnT_elems hO, HXw.out, FrV_own hO (Nat.le_succ _)⟩
        clear hO hB hjl hws
        go_wp2_with fail
        go_ret
        exact HQ.out
      obtain ⟨kb, ko, rfl⟩ := Row_at HR.out (by omega)
      obtain ⟨x0, x1, x2, x3, p0, p1, p2, p3, hKI⟩ := Row_get (Row_below HR.out HXw.out) j hlt
      obtain ⟨k1, n1, s1, ya1, yl1, yc1, rfl, rfl, rfl, rfl⟩ := Is_form hKI
      have hIr := Is_below (w' := wr) HI.out HXw.out
      have hC := fun W (x : Ext wr W) => same_any l[j] t _ _ _ _ _ _ _ _ W (by have := HSZ.out _ (List.getElem_mem hlt); omega) (by have := HHT.out; omega) (Is_below (w' := W) hKI x) (Is_below (w' := W) hIr x)
      have hIw : IsIn (fun b => b < base) wr l[j] (.int .i64 k1) (.string n1) (.int .i64 s1) (.slice ya1 yl1 yc1) := by
        obtain ⟨kb2, ko2, cap2, y0, y1, y2, y3, e, r0, r1, r2, r3, hKJ⟩ := Elems_get HEL.out j hlt
        simp only [Value.slice.injEq, Option.some.injEq, Addr.mk.injEq, and_true, true_and] at e
        obtain ⟨⟨rfl, rfl⟩, rfl⟩ := e
        have e0 := keep_below HXw.out _ _ r0
        have e1 := keep_below HXw.out _ _ r1
        have e2 := keep_below HXw.out _ _ r2
        have e3 := keep_below HXw.out _ _ r3
        rw [p0] at e0; rw [p1] at e1; rw [p2] at e2; rw [p3] at e3
        simp only [Option.some.injEq] at e0 e1 e2 e3
        rw [e0, e1, e2, e3]
        exact IsIn_below hKJ HBW.out HXw.out
      have HIW := Lib.hid hIw
      have HCr : Hid (∀ W, Ext wr W → (W.cell? ⟨kb, ko + j * 4, none⟩ = some (.int .i64 k1) ∧ W.cell? ⟨kb, ko + j * 4 + 1, none⟩ = some (.string n1) ∧ W.cell? ⟨kb, ko + j * 4 + 2, none⟩ = some (.int .i64 s1) ∧ W.cell? ⟨kb, ko + j * 4 + 3, none⟩ = some (.slice ya1 yl1 yc1)) ∧ (W.cell? ⟨w.heap.size, 0, none⟩ = some (.int .i64 k2) ∧ W.cell? ⟨w.heap.size, 1, none⟩ = some (.string n2) ∧ W.cell? ⟨w.heap.size, 2, none⟩ = some (.int .i64 s2) ∧ W.cell? ⟨w.heap.size, 3, none⟩ = some (.slice ya2 yl2 yc2))) := fun W x => ⟨⟨keep_below x _ _ p0, keep_below x _ _ p1, keep_below x _ _ p2, keep_below x _ _ p3⟩, HBK.out _ (HXr.out.trans x)⟩
      have i1 : (0 : Int) ≤ (j : Int) := by omega
      have i2 : (j : Int) < (l.length : Int) := by omega
      have hF0 : Ext wr wr.drew := (Ext.refl wr).drew
      have hfl := List.length_filter_le (fun u => !(cmpT u t == 0)) (l.take j)
      have hft := List.length_take_le j l
      have HFL : Hid (((l.take j).filter (fun u => !(cmpT u t == 0))).length ≤ 1048577) := (by omega : _ ≤ _)
      have HFT := Lib.hid (filt_take l t j hlt)
      have HO := Lib.hid hO
      clear p0 p1 p2 p3 hO hB hKI hIr hIw hfl hft
      generalize (l.take j).filter (fun u => !(cmpT u t == 0)) = acc at HFL HFT HO
      cases hcv : (cmpT l[j] t == 0)
      · have hC := fun W (x : Ext wr W) => (hcv ▸ hC W x : Calls _ _ _ _ _)
        have HC := Lib.hid hC
        have HF2 : Hid ((l.take (j + 1)).filter (fun u => !(cmpT u t == 0)) = acc ++ [l[j]]) := by show _ = _; rw [HFT.out, hcv]; rfl
        clear hC hcv
        go_wp2_with fail
        go_region_held3 (fun W => (W.cell? ⟨kb, ko + j * 4, none⟩ = some (.int .i64 k1) ∧ W.cell? ⟨kb, ko + j * 4 + 1, none⟩ = some (.string n1) ∧ W.cell? ⟨kb, ko + j * 4 + 2, none⟩ = some (.int .i64 s1) ∧ W.cell? ⟨kb, ko + j * 4 + 3, none⟩ = some (.slice ya1 yl1 yc1)) ∧ (W.cell? ⟨w.heap.size, 0, none⟩ = some (.int .i64 k2) ∧ W.cell? ⟨w.heap.size, 1, none⟩ = some (.string n2) ∧ W.cell? ⟨w.heap.size, 2, none⟩ = some (.int .i64 s2) ∧ W.cell? ⟨w.heap.size, 3, none⟩ = some (.slice ya2 yl2 yc2)))
          (first | exact HCr.out _ (by assumption) | go_keep)
          (first
            | (go_at_call 13; refine (HC.out _ hF0).mono ?_; rintro e w4 ⟨he, hB⟩; subst he; have hF1 : Ext wr w4 := Ext.trans hF0 hB; clear hB))
        obtain ⟨⟨p0, p1, p2, p3⟩, _⟩ := HCr.out _ hF1
        have HF1 := Lib.hid hF1
        have HO4 := Lib.hid (OwnT_extQ (Nat.le_succ_of_le HBW.out) HWS.out HO.out hF1)
        have HI4 := Lib.hid (IsIn_below HIW.out (by have := HWS.out; have := HBW.out; omega) hF1)
        clear hF0 hF1
        go_wp2_with (at_builtin; refine wpList_append_tm rfl _ _ rfl HO4.out (Nat.le_succ_of_le HBW.out) (Nat.le_trans HWS.out HF1.out.size) HFL.out ⟨rfl, rfl, rfl, rfl⟩ HI4.out rfl rfl rfl ?_; intro v9 w9 hO9 hB9 hs9; have HO9 := Lib.hid hO9; have HB9 := Lib.hid hB9; clear hO9 hB9 hs9)
        go_roundw
        case rel => exact ⟨j + 1, by omega, by go_num, by rw [HF2.out]; exact HO9.out, (HB.out.trans (HF1.out.mono HWS.out)).trans HB9.out⟩
        case measure => simp [intOf]; omega
      · have hC := fun W (x : Ext wr W) => (hcv ▸ hC W x : Calls _ _ _ _ _)
        have HC := Lib.hid hC
        have HF2 : Hid ((l.take (j + 1)).filter (fun u => !(cmpT u t == 0)) = acc) := by show _ = _; rw [HFT.out, hcv]; exact List.append_nil _
        clear hC hcv
        go_wp2_with fail
        go_region_held3 (fun W => (W.cell? ⟨kb, ko + j * 4, none⟩ = some (.int .i64 k1) ∧ W.cell? ⟨kb, ko + j * 4 + 1, none⟩ = some (.string n1) ∧ W.cell? ⟨kb, ko + j * 4 + 2, none⟩ = some (.int .i64 s1) ∧ W.cell? ⟨kb, ko + j * 4 + 3, none⟩ = some (.slice ya1 yl1 yc1)) ∧ (W.cell? ⟨w.heap.size, 0, none⟩ = some (.int .i64 k2) ∧ W.cell? ⟨w.heap.size, 1, none⟩ = some (.string n2) ∧ W.cell? ⟨w.heap.size, 2, none⟩ = some (.int .i64 s2) ∧ W.cell? ⟨w.heap.size, 3, none⟩ = some (.slice ya2 yl2 yc2)))
          (first | exact HCr.out _ (by assumption) | go_keep)
          (first
            | (go_at_call 13; refine (HC.out _ hF0).mono ?_; rintro e w4 ⟨he, hB⟩; subst he; have hF1 : Ext wr w4 := Ext.trans hF0 hB; clear hB))
        have HF1 := Lib.hid hF1
        have HO4 := Lib.hid (OwnT_extQ (Nat.le_succ_of_le HBW.out) HWS.out HO.out hF1)
        clear hF0 hF1
        go_wp2_with fail
        go_roundw
        case rel => exact ⟨j + 1, by omega, by go_num, by rw [HF2.out]; exact HO4.out, HB.out.trans (HF1.out.mono HWS.out)⟩
        case measure => simp [intOf]; omega
set_option maxHeartbeats 3200000 in
set_option maxRecDepth 100000 in
theorem rplusN_any (base : Nat) (a b : List Tm) (va vb : Value) (w : World) (hbw : base ≤ w.heap.size) (hl : a.length + b.length ≤ 1048576) (hsa : ∀ u ∈ a, size u ≤ 1073741824) (hsb : ∀ u ∈ b, size u ≤ 1073741824) (hA : Elems (fun q => q < base) w a va) (hB : Elems (fun q => q < base) w b vb) :
    Calls Tryd.prog 55 #[va, vb] w (TermsPostN base w (plusT a b)) := by
  obtain ⟨xa, ca, rfl, _, _, _⟩ := Elems_row hA
  obtain ⟨xb, cb, rfl, _, _, hBR⟩ := Elems_row hB
  have HA := Lib.hid hA
  have HB := Lib.hid hB
  have HBR := Lib.hid hBR
  have HSA := Lib.hid hsa
  have HSB := Lib.hid hsb
  have HBW := Lib.hid hbw
  clear hA hB hsa hsb hBR
  go_enter Tryd.func55, Tryd.ntmps55
  go_wp2_with (at_builtin; refine wpList_copy_tm rfl _ _ rfl hbw HA.out (Ext.refl w) (by omega) rfl rfl ?_; intro v3 w3 hO3 hE3; have HN3 : Hid (FrV w.heap.size v3) := FrV_own hO3 (Nat.le_refl _); have HO3 := Lib.hid (OwnT_elems hO3); have HX3 := Lib.hid hE3; clear hO3 hE3)
  go_loopw [5, 6] (fun lv i wr => ∃ (j : Nat), j ≤ b.length ∧ i = .int .i64 j ∧ Elems (fun q => q < base) wr (plusT a (b.take j)) lv ∧ Ext w wr ∧ FrV w.heap.size lv) (fun _ i _ => b.length - (intOf i).toNat)
  case atStart => exact ⟨0, Nat.zero_le _, rfl, HO3.out, HX3.out, HN3.out⟩
  case round =>
    obtain ⟨j, hj, rfl, hO, hX, hN⟩ := hrel
    have HX := Lib.hid hX
    by_cases hlt : j < b.length
    rotate_left
    · have hjl : j = b.length := by omega
      obtain ⟨xr, cr, rfl, _⟩ := Elems_row hO
      have HQ : Hid (TermsPostN base w (plusT a b) (.returned (.slice xr (plusT a (b.take j)).length cr)) wr) := by
        show TermsPostN _ _ _ _ _
        rw [hjl, List.take_length] at hO hN ⊢
        exact ⟨_, rfl, hO, HX.out, hN⟩
      clear hO hX hjl hN
      go_wp2_with fail
      go_ret
      exact HQ.out
    obtain ⟨kb, ko, rfl⟩ := Row_at HBR.out (by omega)
    obtain ⟨kb2, ko2, cap2, x0, x1, x2, x3, e, p0, p1, p2, p3, hKI⟩ := Elems_get (Elems_ext HB.out (fun q (hq : q < base) => by omega) hX) j hlt
    simp only [Value.slice.injEq, Option.some.injEq, Addr.mk.injEq, and_true, true_and] at e
    obtain ⟨⟨rfl, rfl⟩, rfl⟩ := e
    obtain ⟨k1, n1, s1, ya1, yl1, yc1, rfl, rfl, rfl, rfl⟩ := IsIn_form hKI
    obtain ⟨xr, cr, rfl, _⟩ := Elems_row hO
    have hpl := plusT_len (b.take j) a
    have hlt3 : (b.take j).length ≤ b.length := by rw [List.length_take]; omega
    have HT := Lib.hid (toggleN_any base (plusT a (b.take j)) b[j] _ _ _ _ _ wr (Nat.le_trans hbw hX.size) (by omega) (fun u hu => (plusT_mem hu).elim (HSA.out u) (fun h => HSB.out u (List.mem_of_mem_take h))) (HSB.out _ (List.getElem_mem hlt)) hO hKI)
    have HTK : Hid (plusT a (b.take (j + 1)) = togT (plusT a (b.take j)) b[j]) := plusT_take b j hlt a
    rw [← HTK.out] at HT
    have i1 : (0 : Int) ≤ (j : Int) := by omega
    have i2 : (j : Int) < (b.length : Int) := by omega
    clear hO hX hKI hpl hlt3 HTK hN
    go_wp2_with (go_at_call 78; refine (HT.out).mono ?_; rintro e w4 ⟨v4, he, h1, h2, h3⟩; subst he; have HF := Lib.hid (And.intro h1 (And.intro h2 (h3.mono HX.out.size))); clear h1 h2 h3)
    go_roundw
    case rel => exact ⟨j + 1, by omega, by go_num, HF.out.1, HX.out.trans HF.out.2.1, HF.out.2.2⟩
    case measure => simp [intOf]; omega
set_option maxHeartbeats 6400000 in
set_option maxRecDepth 100000 in
theorem rsummandsN_any (base : Nat) (M : Nat) : ∀ (t : Tm) (c0 c1 c2 c3 : Value) (w : World), base ≤ w.heap.size → size t ≤ M → M ≤ 1048576 → IsIn (fun q => q < base) w t c0 c1 c2 c3 →
    Calls Tryd.prog 29 #[.agg #[c0, c1, c2, c3]] w (TermsPostN base w (summT t)) := by
  induction M with
  | zero => intro t c0 c1 c2 c3 w _ h; have := size_pos t; omega
  | succ M ih =>
    intro t c0 c1 c2 c3 w hbw hm hM hI
    have HI := Lib.hid hI
    have HBW := Lib.hid hbw
    obtain ⟨k, n, s, ks⟩ := t
    simp only [IsIn] at hI
    obtain ⟨rfl, rfl, rfl, _, _, _, hkl, ya, kcap, rfl, hkc, hKR⟩ := hI
    have hsk : size (.mk k n s ks) = 1 + sizes ks := rfl
    rw [hsk] at hm
    have hkn := length_le_sizes ks
    have hB1 : Ext w (w.alloc (.cells #[.int .i64 k, .string n, .int .i64 s, .slice ya ks.length kcap] 24)) := (Ext.refl _).alloc _
    have HBK : Hid (∀ W, Ext (w.alloc (.cells #[.int .i64 k, .string n, .int .i64 s, .slice ya ks.length kcap] 24)) W → W.cell? ⟨w.heap.size, 0, none⟩ = some (.int .i64 k) ∧ W.cell? ⟨w.heap.size, 1, none⟩ = some (.string n) ∧ W.cell? ⟨w.heap.size, 2, none⟩ = some (.int .i64 s) ∧ W.cell? ⟨w.heap.size, 3, none⟩ = some (.slice ya ks.length kcap)) := by
      show ∀ _, _
      intro W x
      have hh := x.block w.heap.size (by simp)
      rw [heap_alloc_new] at hh
      exact (box_facts hh).1
    obtain ⟨b0, b1, b2, b3⟩ := HBK.out _ (Ext.refl _)
    have HB1 := Lib.hid hB1
    have HKR := Lib.hid hKR
    have HSING : Hid (summT (.mk k n s ks) = [.mk k n s ks] → ∀ H, (w.alloc (.cells #[.int .i64 k, .string n, .int .i64 s, .slice ya ks.length kcap] 24)).heap.size = H → TermsPostN base w (summT (.mk k n s ks)) (.returned (.slice (some ⟨H, 0, none⟩) 1 1)) ((w.alloc (.cells #[.int .i64 k, .string n, .int .i64 s, .slice ya ks.length kcap] 24)).alloc (.cells #[.int .i64 k, .string n, .int .i64 s, .slice ya ks.length kcap] 24))) := by
      show _ → _
      intro he H hH
      rw [he]
      subst hH
      exact ⟨_, rfl, OwnT_elems (OwnT_made 0 (Nat.zero_le _) (fun q (hq : q < base) => by rw [World.size_alloc]; omega) (IsIn_below HI.out hbw ((Ext.refl w).alloc _))), hB1.alloc _, fun b hb => by simp only [Value.ownBlock, Option.some.injEq, World.size_alloc] at hb; omega⟩
    clear hKR hB1
    have HSM : Hid (summT (.mk k n s ks) = if k = 3 ∧ n.toList = [122, 101, 114, 111] ∧ ks.length = 0 then [] else if k = 3 ∧ n.toList = [120, 111, 114] then summsT [] ks else [.mk k n s ks]) := by show _ = _; rw [summT]
    by_cases hk : k = 3
    rotate_left
    · have q0 : (k == 3) = false := by simp [hk]
      have q1 : (k != 3) = true := by simp [hk]
      have HE := Lib.hid (HSING.out (by rw [HSM.out, if_neg (fun h => hk h.1), if_neg (fun h => hk h.1)]))
      clear hk
      go_enter Tryd.func29, Tryd.ntmps29
      go_wp2_with fail
      go_ret
      exact HE.out _ (by simp)
    subst hk
    have q0 : ((3 : Int) == 3) = true := rfl
    have q1 : ((3 : Int) != 3) = false := rfl
    by_cases hz : n.toList = [122, 101, 114, 111]
    · have q2 : (n.toList == [122, 101, 114, 111]) = true := by rw [hz]; rfl
      have q4 : (n.toList == [120, 111, 114]) = false := by rw [hz]; rfl
      have q5 : (n.toList != [120, 111, 114]) = true := by rw [hz]; rfl
      by_cases h0 : ks.length = 0
      · have q3 : ((ks.length : Int) == 0) = true := by simp [h0]
        have HE : Hid (TermsPostN base w (summT (.mk 3 n s ks)) (.returned (.slice none 0 0)) (w.alloc (.cells #[.int .i64 3, .string n, .int .i64 s, .slice ya ks.length kcap] 24))) := by
          show TermsPostN _ _ _ _ _
          rw [HSM.out, if_pos ⟨rfl, hz, h0⟩]
          exact ⟨_, rfl, Elems_nil _ _, (Ext.refl w).alloc _, FrV_nil _ _ _⟩
        clear hz h0
        go_enter Tryd.func29, Tryd.ntmps29
        go_wp2_with fail
        go_ret
        exact HE.out
      · have q3 : ((ks.length : Int) == 0) = false := beq_eq_false_iff_ne.2 (by omega)
        have HE := Lib.hid (HSING.out (by rw [HSM.out, if_neg (fun h => h0 h.2.2), if_neg (fun h => by have := h.2; rw [hz] at this; revert this; decide)]))
        clear hz h0
        go_enter Tryd.func29, Tryd.ntmps29
        go_wp2_with fail
        go_ret
        exact HE.out _ (by simp)
    have q2 : (n.toList == [122, 101, 114, 111]) = false := beq_eq_false_iff_ne.2 hz
    by_cases hx : n.toList = [120, 111, 114]
    rotate_left
    · have q4 : (n.toList == [120, 111, 114]) = false := beq_eq_false_iff_ne.2 hx
      have q5 : (n.toList != [120, 111, 114]) = true := bne_iff_ne.2 hx
      have HE := Lib.hid (HSING.out (by rw [HSM.out, if_neg (fun h => hz h.2.1), if_neg (fun h => hx h.2)]))
      clear hz hx
      go_enter Tryd.func29, Tryd.ntmps29
      go_wp2_with fail
      go_ret
      exact HE.out _ (by simp)
    have q4 : (n.toList == [120, 111, 114]) = true := by rw [hx]; rfl
    have q5 : (n.toList != [120, 111, 114]) = false := by rw [hx]; rfl
    have HSE : Hid (summT (.mk 3 n s ks) = summsT [] ks) := by show _ = _; rw [HSM.out, if_neg (fun h => hz h.2.1), if_pos ⟨rfl, hx⟩]
    clear hz hx HSM HSING
    go_enter Tryd.func29, Tryd.ntmps29
    go_wp2_with fail
    go_loopw [3, 4] (fun lv i wr => ∃ (j : Nat), j ≤ ks.length ∧ i = .int .i64 j ∧ Elems (fun q => q < base) wr (summsT [] (ks.take j)) lv ∧ Ext (w.alloc (.cells #[.int .i64 3, .string n, .int .i64 s, .slice ya ks.length kcap] 24)) wr ∧ FrV w.heap.size lv) (fun _ i _ => ks.length - (intOf i).toNat)
    case atStart => exact ⟨0, Nat.zero_le _, rfl, Elems_nil _ _, Ext.refl _, FrV_nil _ _ _⟩
    case round =>
      obtain ⟨j, hj, rfl, hO, hX, hN⟩ := hrel
      have HX := Lib.hid hX
      have HXW := Lib.hid (HB1.out.trans hX)
      obtain ⟨b0, b1, b2, b3⟩ := HBK.out _ hX
      obtain ⟨xr, cr, rfl, _⟩ := Elems_row hO
      by_cases hlt : j < ks.length
      rotate_left
      · have hjl : j = ks.length := by omega
        have HQ : Hid (TermsPostN base w (summT (.mk 3 n s ks)) (.returned (.slice xr (summsT [] (ks.take j)).length cr)) wr) := by
          show TermsPostN _ _ _ _ _
          rw [hjl, List.take_length] at hO hN ⊢
          rw [HSE.out]
          exact ⟨_, rfl, hO, HXW.out, hN⟩
        clear hO hX hjl hN
        go_wp2_with fail
        go_ret
        exact HQ.out
      obtain ⟨kb, ko, rfl⟩ := RowIn_at HKR.out (by omega)
      obtain ⟨_, x0, x1, x2, x3, p0, p1, p2, p3, hKI⟩ := LiesIn_carry (w' := wr) (S' := fun q => q < base) (fun q (hq : q < base) => HXW.out.block q (by omega)) (fun _ h => h) (RowIn_get HKR.out j hlt)
      obtain ⟨k1, n1, s1, ya1, yl1, yc1, rfl, rfl, rfl, rfl⟩ := IsIn_form hKI
      have hst := sizes_take ks j hlt
      have hsl := sizes_take_le ks (j + 1)
      have hal := summsT_len (ks.take j) []
      simp only [List.length_nil] at hal
      have hal2 := summT_len ks[j]
      have hmem : ∀ u ∈ summsT [] (ks.take j), size u ≤ 1073741824 := fun u hu => by
        have := (sumsR_mem (ts := ks.take j) hu).2.2.1
        omega
      have hbr : base ≤ wr.heap.size := Nat.le_trans hbw HXW.out.size
      have HC := Lib.hid (ih ks[j] _ _ _ _ wr hbr (by omega) (by omega) hKI)
      have HPL : Hid (∀ W v4, Ext wr W → Elems (fun q => q < base) W (summT ks[j]) v4 → Calls Tryd.prog 55 #[.slice xr (summsT [] (ks.take j)).length cr, v4] W (TermsPostN base W (summsT [] (ks.take (j + 1))))) := by
        show ∀ _, _
        intro W v4 x r
        rw [summsT_take ks j hlt]
        exact rplusN_any base _ _ _ _ W (Nat.le_trans hbr x.size) (by omega) hmem (fun u hu => by have := (summT_mem hu).2.2.1; omega) (Elems_ext hO (fun q (hq : q < base) => by omega) x) r
      have i1 : (0 : Int) ≤ (j : Int) := by omega
      have i2 : (j : Int) < (ks.length : Int) := by omega
      clear hO hX hKI hst hsl hal hal2 hmem hbr hN
      go_wp2_with (first
        | (go_at_call 29; refine (HC.out).mono ?_; rintro e w4 ⟨v4, he, h1, h2, _⟩; subst he; have HF4 := Lib.hid (And.intro h1 h2); clear h1 h2)
        | (go_at_call 55; refine (HPL.out _ _ HF4.out.2 HF4.out.1).mono ?_; rintro e w5 ⟨v5, he, h1, h2, h3⟩; subst he; have HF := Lib.hid (And.intro h1 (And.intro h2 (h3.mono (Nat.le_trans HXW.out.size HF4.out.2.size)))); clear h1 h2 h3))
      go_roundw
      case rel => exact ⟨j + 1, by omega, by go_num, HF.out.1, HX.out.trans (Ext.trans HF4.out.2 HF.out.2.1), HF.out.2.2⟩
      case measure => simp [intOf]; omega
end Go.Proofs.YtfbomoginjknlaaDoor
