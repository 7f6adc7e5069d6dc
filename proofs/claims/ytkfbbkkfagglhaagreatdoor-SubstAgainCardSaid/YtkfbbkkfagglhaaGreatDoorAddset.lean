/-
  THE WALKS OF the reference's Add, Set.
-/
import Derived.Test.YtkfbbkkfagglhaaGreatDoorElems
import Derived.Test.YtkfbbkkfagglhaaGreatDoorPure
import Derived.Test.YtkfbbkkfagglhaaGreatDoorCopy
import Derived.Test.YtkfbbkkfagglhaaGreatDoorSetof
namespace Go.Proofs.YtkfbbkkfagglhaaGreatDoor
open Go.RowKit

/-- One term appended to a row of the call's own. -/
theorem OwnT_push {H base n g cap lcap : Nat} {w w' : World} {os : List Tm} {xl : Option Addr} {cs : List Value} {t : Tm} {c0 c1 c2 c3 : Value} {o : Obj} (hown0 : w.ownsRow H 36 4 (.slice xl n lcap) n cs) (hK : KC (fun b => b < base) w os cs) (hn : n = os.length) (hI : IsIn (fun b => b < base) w t c0 c1 c2 c3)
    (hb : base ≤ H) (hHw : H ≤ w.heap.size) (hown : w'.ownsRow H 36 4 (.slice (some ⟨g, 0, none⟩) (n + 1) cap) (n + 1) (cs ++ [c0, c1, c2, c3])) (hg : (w.alloc o).grownBy w' (Value.slice xl n lcap).ownBlock) :
    OwnT H (fun b => b < base) w' (os ++ [t]) (.slice (some ⟨g, 0, none⟩) (n + 1) cap) ∧ Below H w w' := by
  subst hn
  have hB : Below H w w' := ((Below.refl H w).alloc hHw _).grown hg (by rw [World.size_alloc]; omega) (fun q hq => (hown0.lt q hq).1)
  have hBl : Below base w w' := hB.mono hb
  refine ⟨⟨cs ++ [c0, c1, c2, c3], by simpa using hown, ?_⟩, hB⟩
  exact KC_append _ _ _ _ (KC_carry (fun b hb' => hBl.block b hb') (fun _ h => h) _ _ hK) (KC_one_term (IsIn_carry (fun b hb' => hBl.block b hb') (fun _ h => h) _ _ _ _ _ hI))

/-- At the head of Add's loop: what is out, whether the new term is done. -/
def AddR (base H : Nat) (B : World) (t : Tm) (ts : List Tm) (j n : Nat) (d : Bool) (v : Value) (wr : World) : Prop :=
  ∃ os, n = os.length ∧ OwnT H (fun b => b < base) wr os v ∧ Below H B wr ∧ os ++ addR t (ts.drop j) d = addR t ts false

theorem TermsPost_add {base : Nat} {w wr : World} {t : Tm} {ts os : List Tm} {v : Value} (hO : OwnT (w.heap.size + 1) (fun b => b < base) wr os v) (hB : Below w.heap.size w wr) (he : os = addR t ts false) : TermsPost base w (addR t ts false) (.returned v) wr :=
  ⟨v, rfl, by rw [← he]; exact OwnT_elems hO, hB⟩

set_option maxHeartbeats 3200000 in
set_option maxRecDepth 100000 in
theorem add_any (t : Tm) (ts : List Tm) (c0 c1 c2 c3 lv : Value) (base : Nat) (w : World) (hln : ts.length ≤ 1048576) (hst : size t ≤ 1073741824) (hss : ∀ x ∈ ts, size x ≤ 1073741824) (hbw : base ≤ w.heap.size)
    (hI : IsIn (fun b => b < base) w t c0 c1 c2 c3) (hE : Elems (fun b => b < base) w ts lv) :
    Calls Tryz.prog 149 #[lv, .agg #[c0, c1, c2, c3]] w (TermsPost base w (addR t ts false)) := by
  obtain ⟨k, nm, s, ya, yl, yc, rfl, rfl, rfl, rfl⟩ := IsIn_form hI
  have HE := Lib.hid hE
  have hBX : Below w.heap.size w (w.alloc (.cells #[.int .i64 k, .string nm, .int .i64 s, .slice ya yl yc] 36)) := (Below.refl _ _).alloc (Nat.le_refl _) _
  have HIB : Hid (∀ W, Below w.heap.size w W → IsIn (fun b => b < base) W t (.int .i64 k) (.string nm) (.int .i64 s) (.slice ya yl yc)) := fun W hW => IsIn_below hI hbw hW
  have HW : Hid (AddR base (w.heap.size + 1) (w.alloc (.cells #[.int .i64 k, .string nm, .int .i64 s, .slice ya yl yc] 36)) t ts 0 0 false (.slice none 0 0) (w.alloc (.cells #[.int .i64 k, .string nm, .int .i64 s, .slice ya yl yc] 36))) := ⟨[], rfl, OwnT_nil _ _ _, Below.refl _ _, rfl⟩
  obtain ⟨xa, cap, hlv, hcap, hml, hrow⟩ := Elems_row hE
  subst hlv
  have HRW := Lib.hid hrow
  obtain ⟨i0, hi0, hz0, hz1, hz2⟩ := info_parts info24
  have HI0 := Lib.hid (And.intro hi0 (And.intro hz0 (And.intro hz1 hz2)))
  clear hE hi0 hz0 hz1 hz2 hBX hI hrow
  go_enter Tryz.func149, Tryz.ntmps149
  go_wp2_with fail
  go_loopw [5, 6, 7] (fun v d i wr => ∃ (j n : Nat) (b : Bool), j ≤ ts.length ∧ n ≤ j + b.toNat ∧ i = .int .i64 j ∧ d = .bool b ∧ AddR base (w.heap.size + 1) (w.alloc (.cells #[.int .i64 k, .string nm, .int .i64 s, .slice ya yl yc] 36)) t ts j n b v wr) (fun _ _ i _ => ts.length - (intOf i).toNat)
  case atStart => exact ⟨0, 0, false, Nat.zero_le _, Nat.zero_le _, rfl, rfl, HW.out⟩
  case round =>
    obtain ⟨j, n, b, hj, hnj', rfl, rfl, os, hn, ⟨cs, hown, hKC⟩, hB, hos⟩ := hrel
    have hnj : n ≤ j + 1 := by have := Bool.toNat_le b; omega
    have HNJ := Lib.hid hnj'
    clear hnj'
    rw [← hn] at hown
    obtain ⟨xl, lcap, hv⟩ := own_form hown
    subst hv
    obtain ⟨p0, p1, p2, p3⟩ := box_kept hB
    have HB := Lib.hid hB
    have HO := Lib.hid hown
    have HK := Lib.hid hKC
    have HN := Lib.hid hn
    have HS := Lib.hid hos
    have hwr : w.heap.size + 1 ≤ wr.heap.size := by have := hB.size; simpa using this
    by_cases hlt : j < ts.length
    rotate_left
    · have hd : ts.drop j = [] := List.drop_eq_nil_of_le (by omega)
      have HD := Lib.hid hd
      clear hB hown hKC hn hos hd
      cases b with
      | true =>
        have HF : Hid (TermsPost base w (addR t ts false) (.returned (.slice xl n lcap)) wr) := TermsPost_add ⟨cs, by rw [← HN.out]; exact HO.out, HK.out⟩ (below_box HB.out) (by have := HS.out; rw [HD.out] at this; simpa [addR] using this)
        go_wp2_with fail
        go_ret
        exact HF.out
      | false =>
        have tok1 : True := trivial
        go_wp2_with (at_builtin; have _t := tok1; refine wpList_append_lies _ rfl _ _ _ rfl (w.heap.size + 1) 36 i0 _ 4 56 Tryz.underlying23 HI0.out.1 HI0.out.2.1 HI0.out.2.2.1 HI0.out.2.2.2 rfl (by omega) (.slice xl n lcap) (n) cs rfl (HO.out.alloc _) ⟨wr.heap.size, 0, none⟩ 1 1 [.int .i64 k, .string nm, .int .i64 s, .slice ya yl yc] rfl rfl (World.news_of_block (cs := #[.int .i64 k, .string nm, .int .i64 s, .slice ya yl yc]) (t := 36) (fr := (0, 0)) (heap_alloc_new wr _)) (by simp [Value.oneCell']) (by omega) (by unfold maxLen; omega) (by omega) (by simp; omega) (wr.heap.size + 1) (by simp) ?_; intro g cap2 w4 hown4 hgrow4 hat4 hlt4; have HP := Lib.hid (OwnT_push HO.out HK.out HN.out (HIB.out _ (below_box HB.out)) (by omega) hwr hown4 hgrow4); clear hown4 hgrow4 hat4 hlt4; clear tok1)
        go_ret
        exact TermsPost_add HP.out.1 ((below_box HB.out).trans (HP.out.2.mono (by omega))) (by have := HS.out; rw [HD.out] at this; simpa [addR] using this)
    obtain ⟨kb, ko, rfl⟩ := Row_at HRW.out (by omega)
    have HKB : kb < w.heap.size + 1 := by
      obtain ⟨kb', ko', cap', x0, x1, x2, x3, hve, m0, _⟩ := Elems_get HE.out j hlt
      simp only [Value.slice.injEq, Option.some.injEq, Addr.mk.injEq, and_true, true_and] at hve
      have := World.block_lt_of_cell? w _ m0
      simp only at this; omega
    obtain ⟨kb', ko', cap', x0, x1, x2, x3, hve, m0, m1, m2, m3, hKI⟩ := Elems_get (Elems_ext HE.out (fun b hb => by omega) (below_box hB)) j hlt
    simp only [Value.slice.injEq, Option.some.injEq, Addr.mk.injEq, and_true, true_and] at hve
    obtain ⟨⟨rfl, rfl⟩, rfl⟩ := hve
    obtain ⟨k', nm', s', ya', yl', yc', rfl, rfl, rfl, rfl⟩ := IsIn_form hKI
    have HKI := Lib.hid hKI
    have hsx := hss _ (List.getElem_mem hlt)
    have hdr := addR_drop t ts j hlt b
    obtain ⟨x, hx⟩ : ∃ x, ts[j] = x := ⟨_, rfl⟩
    rw [hx] at HKI hsx hdr
    have HDR := Lib.hid hdr
    obtain ⟨c, hc⟩ : ∃ c, cmpT t x = c := ⟨_, rfl⟩
    have HC := Lib.hid hc
    have HCr : Hid (∀ W, Ext wr W → W.cell? ⟨w.heap.size, 0, none⟩ = some (.int .i64 k) ∧ W.cell? ⟨w.heap.size, 1, none⟩ = some (.string nm) ∧ W.cell? ⟨w.heap.size, 2, none⟩ = some (.int .i64 s) ∧ W.cell? ⟨w.heap.size, 3, none⟩ = some (.slice ya yl yc) ∧ W.cell? ⟨kb, ko + j * 4, none⟩ = some (.int .i64 k') ∧ W.cell? ⟨kb, ko + j * 4 + 1, none⟩ = some (.string nm') ∧ W.cell? ⟨kb, ko + j * 4 + 2, none⟩ = some (.int .i64 s') ∧ W.cell? ⟨kb, ko + j * 4 + 3, none⟩ = some (.slice ya' yl' yc')) := fun W h => ⟨keep_below h _ _ p0, keep_below h _ _ p1, keep_below h _ _ p2, keep_below h _ _ p3, keep_below h _ _ m0, keep_below h _ _ m1, keep_below h _ _ m2, keep_below h _ _ m3⟩
    have i1 : (0 : Int) ≤ (j : Int) := by omega
    have i2 : (j : Int) < (ts.length : Int) := by omega
    have hF0 : Ext wr wr.drew := (Ext.refl wr).drew
    clear hB hown hKC hn hos hKI hdr hc hx
    go_upto_region 6 with (fail)
    go_cut [8] (fun v8 wc => v8 = .int .i64 c ∧ Ext wr wc)
    case first =>
      go_region_held3 (fun W => W.cell? ⟨w.heap.size, 0, none⟩ = some (.int .i64 k) ∧ W.cell? ⟨w.heap.size, 1, none⟩ = some (.string nm) ∧ W.cell? ⟨w.heap.size, 2, none⟩ = some (.int .i64 s) ∧ W.cell? ⟨w.heap.size, 3, none⟩ = some (.slice ya yl yc) ∧ W.cell? ⟨kb, ko + j * 4, none⟩ = some (.int .i64 k') ∧ W.cell? ⟨kb, ko + j * 4 + 1, none⟩ = some (.string nm') ∧ W.cell? ⟨kb, ko + j * 4 + 2, none⟩ = some (.int .i64 s') ∧ W.cell? ⟨kb, ko + j * 4 + 3, none⟩ = some (.slice ya' yl' yc'))
        (first | exact HCr.out _ (by assumption) | go_keep)
        (first
          | (go_at_call 67; refine (rcompare_any _ t x _ _ _ _ _ _ _ _ _ (Nat.le_refl _) (by omega) (by omega) (Is_below (IsIn_Is _ _ _ _ _ (HIB.out _ (below_box HB.out))) hF0) (Is_below (IsIn_Is _ _ _ _ _ HKI.out) hF0)).mono ?_; rintro e w3 ⟨he, hB⟩; rw [HC.out] at he; subst he; have hF1 : Ext wr w3 := hF0.trans hB; clear hB))
      go_wp2_with fail
      go_meet
      exact ⟨rfl, hF1⟩
    case rest =>
      obtain ⟨rfl, hEx⟩ := hcut
      have HEx := Lib.hid hEx
      obtain ⟨q0, q1, q2, q3, r0, r1, r2, r3⟩ := HCr.out _ hEx
      have HBc := Lib.hid (HB.out.trans (hEx.mono hwr))
      have HOc := Lib.hid (own_heap HO.out (fun q hq => hEx.block q (HO.out.lt q hq).2))
      have HKc := Lib.hid (KC_carry (fun b' (hb' : b' < base) => hEx.block b' (by omega)) (fun _ h => h) _ _ HK.out)
      have HIt := Lib.hid (HIB.out _ (below_box HBc.out))
      have HIx := Lib.hid (IsIn_below HKI.out (by omega) hEx)
      have hwc : wr.heap.size ≤ wc.heap.size := hEx.size
      have tok1 : True := trivial
      have tok2 : True := trivial
      clear hEx p0 p1 p2 p3 m0 m1 m2 m3
      cases b with
      | true =>
        clear tok2
        go_wp2_with (at_builtin; have _t := tok1; refine wpList_append_lies _ rfl _ _ _ rfl (w.heap.size + 1) 36 i0 _ 4 56 Tryz.underlying23 HI0.out.1 HI0.out.2.1 HI0.out.2.2.1 HI0.out.2.2.2 rfl (by omega) (.slice xl n lcap) (n) cs rfl (HOc.out.alloc _) ⟨wc.heap.size, 0, none⟩ 1 1 [.int .i64 k', .string nm', .int .i64 s', .slice ya' yl' yc'] rfl rfl (World.news_of_block (cs := #[.int .i64 k', .string nm', .int .i64 s', .slice ya' yl' yc']) (t := 36) (fr := (0, 0)) (heap_alloc_new wc _)) (by simp [Value.oneCell']) (by omega) (by unfold maxLen; omega) (by omega) (by simp; omega) (wc.heap.size + 1) (by simp) ?_; intro g cap2 w4 hown4 hgrow4 hat4 hlt4; have HP := Lib.hid (OwnT_push HOc.out HKc.out HN.out HIx.out (by omega) (by omega) hown4 hgrow4); clear hown4 hgrow4 hat4 hlt4; clear tok1)
        go_roundw
        case rel =>
          refine ⟨j + 1, n + 1, true, by omega, by simp only [Bool.toNat_true]; omega, by go_num, rfl, os ++ [x], by rw [List.length_append, ← HN.out]; rfl, HP.out.1, HBc.out.trans HP.out.2, ?_⟩
          rw [← HS.out, HDR.out]; simp
        case measure => simp [intOf]; omega
      | false =>
        by_cases h1 : c < 0
        · have h2 : ¬ 0 < c := by omega
          go_wp2_with (first
            | (at_builtin; have _t := tok1; refine wpList_append_lies _ rfl _ _ _ rfl (w.heap.size + 1) 36 i0 _ 4 56 Tryz.underlying23 HI0.out.1 HI0.out.2.1 HI0.out.2.2.1 HI0.out.2.2.2 rfl (by omega) (.slice xl n lcap) (n) cs rfl (HOc.out.alloc _) ⟨wc.heap.size, 0, none⟩ 1 1 [.int .i64 k, .string nm, .int .i64 s, .slice ya yl yc] rfl rfl (World.news_of_block (cs := #[.int .i64 k, .string nm, .int .i64 s, .slice ya yl yc]) (t := 36) (fr := (0, 0)) (heap_alloc_new wc _)) (by simp [Value.oneCell']) (by omega) (by unfold maxLen; omega) (by omega) (by simp; omega) (wc.heap.size + 1) (by simp) ?_; intro g cap2 w4 hown4 hgrow4 hat4 hlt4; have HP := Lib.hid (OwnT_push HOc.out HKc.out HN.out HIt.out (by omega) (by omega) hown4 hgrow4); obtain ⟨cs4, hown5, hKC5⟩ := HP.out.1; rw [List.length_append, List.length_singleton, ← HN.out] at hown5; have HO4 := Lib.hid hown5; have HK4 := Lib.hid hKC5; have hwr4 := HP.out.2.size; have HX4 := Lib.hid (IsIn_carry (fun b' (hb' : b' < base) => HP.out.2.block b' (by omega)) (fun _ h => h) _ _ _ _ _ HIx.out); have s0 := (HP.out.2.cell (p := ⟨kb, ko + j * 4, none⟩) HKB).trans r0; have s1 := (HP.out.2.cell (p := ⟨kb, ko + j * 4 + 1, none⟩) HKB).trans r1; have s2 := (HP.out.2.cell (p := ⟨kb, ko + j * 4 + 2, none⟩) HKB).trans r2; have s3 := (HP.out.2.cell (p := ⟨kb, ko + j * 4 + 3, none⟩) HKB).trans r3; clear hown4 hgrow4 hat4 hlt4 hown5 hKC5; clear tok1)
            | (at_builtin; have _t := tok2; refine wpList_append_lies _ rfl _ _ _ rfl (w.heap.size + 1) 36 i0 _ 4 56 Tryz.underlying23 HI0.out.1 HI0.out.2.1 HI0.out.2.2.1 HI0.out.2.2.2 rfl (by omega) (.slice (some ⟨g, 0, none⟩) (n + 1) cap2) (n + 1) cs4 rfl (HO4.out.alloc _) ⟨w4.heap.size, 0, none⟩ 1 1 [.int .i64 k', .string nm', .int .i64 s', .slice ya' yl' yc'] rfl rfl (World.news_of_block (cs := #[.int .i64 k', .string nm', .int .i64 s', .slice ya' yl' yc']) (t := 36) (fr := (0, 0)) (heap_alloc_new w4 _)) (by simp [Value.oneCell']) (by omega) (by unfold maxLen; omega) (by omega) (by simp; omega) (w4.heap.size + 1) (by simp) ?_; intro g5 cap5 w5 hown6 hgrow6 hat6 hlt6; have HP2 := Lib.hid (OwnT_push (os := os ++ [t]) HO4.out HK4.out (by rw [List.length_append, ← HN.out]; rfl) HX4.out (by omega) (by omega) hown6 hgrow6); clear hown6 hgrow6 hat6 hlt6; clear tok2))
          go_roundw
          case rel =>
            refine ⟨j + 1, n + 1 + 1, true, by omega, by have := HNJ.out; simp only [Bool.toNat_true, Bool.toNat_false] at *; omega, by go_num, rfl, os ++ [t] ++ [x], by rw [List.length_append, List.length_append, ← HN.out]; rfl, HP2.out.1, (HBc.out.trans HP.out.2).trans HP2.out.2, ?_⟩
            rw [← HS.out, HDR.out, HC.out, if_neg (by simp), if_pos h1]; simp
          case measure => simp [intOf]; omega
        · by_cases h2 : c = 0
          · have h3 : c ≤ 0 := by omega
            clear tok2
            go_wp2_with (at_builtin; have _t := tok1; refine wpList_append_lies _ rfl _ _ _ rfl (w.heap.size + 1) 36 i0 _ 4 56 Tryz.underlying23 HI0.out.1 HI0.out.2.1 HI0.out.2.2.1 HI0.out.2.2.2 rfl (by omega) (.slice xl n lcap) (n) cs rfl (HOc.out.alloc _) ⟨wc.heap.size, 0, none⟩ 1 1 [.int .i64 k', .string nm', .int .i64 s', .slice ya' yl' yc'] rfl rfl (World.news_of_block (cs := #[.int .i64 k', .string nm', .int .i64 s', .slice ya' yl' yc']) (t := 36) (fr := (0, 0)) (heap_alloc_new wc _)) (by simp [Value.oneCell']) (by omega) (by unfold maxLen; omega) (by omega) (by simp; omega) (wc.heap.size + 1) (by simp) ?_; intro g cap2 w4 hown4 hgrow4 hat4 hlt4; have HP := Lib.hid (OwnT_push HOc.out HKc.out HN.out HIx.out (by omega) (by omega) hown4 hgrow4); clear hown4 hgrow4 hat4 hlt4; clear tok1)
            go_roundw
            case rel =>
              refine ⟨j + 1, n + 1, true, by omega, by simp only [Bool.toNat_true]; omega, by go_num, rfl, os ++ [x], by rw [List.length_append, ← HN.out]; rfl, HP.out.1, HBc.out.trans HP.out.2, ?_⟩
              rw [← HS.out, HDR.out, HC.out, if_neg (by simp), if_neg h1, if_pos h2]; simp
            case measure => simp [intOf]; omega
          · have h3 : 0 < c := by omega
            clear tok2
            go_wp2_with (at_builtin; have _t := tok1; refine wpList_append_lies _ rfl _ _ _ rfl (w.heap.size + 1) 36 i0 _ 4 56 Tryz.underlying23 HI0.out.1 HI0.out.2.1 HI0.out.2.2.1 HI0.out.2.2.2 rfl (by omega) (.slice xl n lcap) (n) cs rfl (HOc.out.alloc _) ⟨wc.heap.size, 0, none⟩ 1 1 [.int .i64 k', .string nm', .int .i64 s', .slice ya' yl' yc'] rfl rfl (World.news_of_block (cs := #[.int .i64 k', .string nm', .int .i64 s', .slice ya' yl' yc']) (t := 36) (fr := (0, 0)) (heap_alloc_new wc _)) (by simp [Value.oneCell']) (by omega) (by unfold maxLen; omega) (by omega) (by simp; omega) (wc.heap.size + 1) (by simp) ?_; intro g cap2 w4 hown4 hgrow4 hat4 hlt4; have HP := Lib.hid (OwnT_push HOc.out HKc.out HN.out HIx.out (by omega) (by omega) hown4 hgrow4); clear hown4 hgrow4 hat4 hlt4; clear tok1)
            go_roundw
            case rel =>
              refine ⟨j + 1, n + 1, false, by omega, by have := HNJ.out; simp only [Bool.toNat_false] at *; omega, by go_num, rfl, os ++ [x], by rw [List.length_append, ← HN.out]; rfl, HP.out.1, HBc.out.trans HP.out.2, ?_⟩
              rw [← HS.out, HDR.out, HC.out, if_neg (by simp), if_neg h1, if_neg h2]; simp
            case measure => simp [intOf]; omega

end Go.Proofs.YtkfbbkkfagglhaaGreatDoor

/-
  THE WALKS OF the reference's Set, Subterms, kind, Vars, Atoms.
-/
namespace Go.Proofs.YtkfbbkkfagglhaaGreatDoor
open Go.RowKit

theorem setG_mem (ts : List Tm) (u : Tm) : u ∈ setG [] ts ↔ u ∈ ts := setT_mem ts u

set_option maxHeartbeats 1600000 in
set_option maxRecDepth 100000 in
theorem rset_any (ts : List Tm) (lv : Value) (base : Nat) (w : World) (hln : ts.length ≤ 1048576) (hss : ∀ x ∈ ts, size x ≤ 1073741824) (hbw : base ≤ w.heap.size) (hE : Elems (fun b => b < base) w ts lv) :
    Calls Tryz.prog 104 #[lv] w (TermsPost base w (setT ts)) := by
  have HE := Lib.hid hE
  have HS := Lib.hid hss
  obtain ⟨xa, cap, hlv, hcap, hml, hrow⟩ := Elems_row hE
  subst hlv
  have HRW := Lib.hid hrow
  clear hE hrow hss
  go_enter Tryz.func104, Tryz.ntmps104
  go_wp2_with fail
  go_loopw [3, 4] (fun v i wr => ∃ j : Nat, j ≤ ts.length ∧ i = .int .i64 j ∧ Elems (fun b => b < base) wr (setG [] (ts.take j)) v ∧ Below w.heap.size w wr) (fun _ i _ => ts.length - (intOf i).toNat)
  case atStart => exact ⟨0, Nat.zero_le _, rfl, Elems_nil _ _, Below.refl _ _⟩
  case round =>
    obtain ⟨j, hj, rfl, hO, hB⟩ := hrel
    have HO := Lib.hid hO
    have HB := Lib.hid hB
    by_cases hlt : j < ts.length
    rotate_left
    · have HF : Hid (TermsPost base w (setT ts) (.returned u3) wr) := by
        show TermsPost _ _ _ _ _
        rw [List.take_of_length_le (by omega)] at hO
        exact ⟨u3, rfl, hO, hB⟩
      clear hO hB
      go_wp2_with fail
      go_ret
      exact HF.out
    obtain ⟨kb, ko, rfl⟩ := Row_at HRW.out (by omega)
    obtain ⟨kb', ko', cap', x0, x1, x2, x3, hve, m0, m1, m2, m3, hKI⟩ := Elems_get (Elems_ext HE.out (fun b (hb : b < base) => by omega) hB) j hlt
    simp only [Value.slice.injEq, Option.some.injEq, Addr.mk.injEq, and_true, true_and] at hve
    obtain ⟨⟨rfl, rfl⟩, rfl⟩ := hve
    have hlen := setG_len (ts.take j) []
    rw [List.length_take, Nat.min_eq_left (by omega)] at hlen
    have HA := Lib.hid (add_any ts[j] (setG [] (ts.take j)) x0 x1 x2 x3 u3 base wr (by simp at hlen; omega) (HS.out _ (List.getElem_mem hlt)) (fun y hy => HS.out y (List.mem_of_mem_take ((setG_mem _ _).1 hy))) (by have := hB.size; omega) hKI hO)
    clear hO hB hKI hlen
    go_wp2_with (go_at_call 149; refine (HA.out).mono ?_; rintro e w3 ⟨v3, he, hE3, hB3⟩; subst he; have HE3 := Lib.hid hE3; have HB3 := Lib.hid hB3; clear hE3 hB3)
    go_roundw
    case rel => exact ⟨j + 1, by omega, by go_num, by rw [setG_take ts j hlt]; exact HE3.out, HB.out.trans (HB3.out.mono HB.out.size)⟩
    case measure => simp [intOf]; omega

/-- The terms of a kind. -/
def ofK (k : Int) (l : List Tm) : List Tm := l.filter fun t => t.kind == k
theorem ofK_take (k : Int) (l : List Tm) (j : Nat) (h : j < l.length) : ofK k (l.take (j + 1)) = ofK k (l.take j) ++ if l[j].kind == k then [l[j]] else [] := by
  rw [List.take_succ_eq_append_getElem h, ofK, ofK, List.filter_append]
  congr 1
  simp only [List.filter_cons, List.filter_nil]
theorem ofK_len (k : Int) (l : List Tm) : (ofK k l).length ≤ l.length := List.length_filter_le _ _

def KindR (base : Nat) (B : World) (k : Int) (ts : List Tm) (j n : Nat) (v : Value) (wr : World) : Prop :=
  n = (ofK k (ts.take j)).length ∧ OwnT B.heap.size (fun b => b < base) wr (ofK k (ts.take j)) v ∧ Below B.heap.size B wr

set_option maxHeartbeats 3200000 in
set_option maxRecDepth 100000 in
theorem rkind_any (t : Tm) (kk : Int) (c0 c1 c2 c3 : Value) (base : Nat) (w : World) (hst : size t ≤ 1048576) (hbw : base ≤ w.heap.size) (hI : IsIn (fun b => b < base) w t c0 c1 c2 c3) :
    Calls Tryz.prog 113 #[.agg #[c0, c1, c2, c3], .int .i64 kk] w (TermsPost base w (setT (ofK kk (subT t)))) := by
  have HIB : Hid (∀ W, Below w.heap.size w W → IsIn (fun b => b < base) W t c0 c1 c2 c3) := fun W hW => IsIn_below hI hbw hW
  have hBX : Below w.heap.size w (w.alloc (.cells #[c0, c1, c2, c3] 36)) := (Below.refl _ _).alloc (Nat.le_refl _) _
  have HX := Lib.hid hBX
  have HAll := Lib.hid (rall_any _ t c0 c1 c2 c3 base _ (Nat.le_refl _) (by omega) (Nat.le_trans hbw hBX.size) (HIB.out _ hBX))
  obtain ⟨i0, hi0, hz0, hz1, hz2⟩ := info_parts info24
  have HI0 := Lib.hid (And.intro hi0 (And.intro hz0 (And.intro hz1 hz2)))
  clear hi0 hz0 hz1 hz2 hBX hI
  go_enter Tryz.func113, Tryz.ntmps113
  go_wp2_with (go_at_call 58; refine (HAll.out).mono ?_; rintro e w1 ⟨v1, he, hE1, hB1⟩; subst he; have HE1 := Lib.hid hE1; have HB1 := Lib.hid hB1; obtain ⟨xa, cap, hv1, _, _, hrow⟩ := Elems_row hE1; rw [subT_len] at hv1; subst hv1; have HRW := Lib.hid hrow; clear hE1 hB1 hrow)
  have hw1 : w.heap.size + 1 ≤ w1.heap.size := by have := HB1.out.size; simpa using this
  go_loopw [5, 7] (fun v i wr => ∃ j n : Nat, j ≤ size t ∧ i = .int .i64 j ∧ KindR base w1 kk (subT t) j n v wr) (fun _ i _ => size t - (intOf i).toNat)
  case atStart => exact ⟨0, 0, Nat.zero_le _, rfl, rfl, OwnT_nil _ _ _, Below.refl _ _⟩
  case round =>
    obtain ⟨j, n, hj, rfl, hn, ⟨cs, hown, hKC⟩, hB⟩ := hrel
    rw [← hn] at hown
    have hnj : n ≤ j := by have := ofK_len kk ((subT t).take j); rw [List.length_take] at this; omega
    have HB := Lib.hid hB
    have HO := Lib.hid hown
    have HK := Lib.hid hKC
    have HN := Lib.hid hn
    obtain ⟨xl, lcap, hv⟩ := own_form hown
    subst hv
    have hwr : w1.heap.size ≤ wr.heap.size := hB.size
    have HFw := Lib.hid (HX.out.trans ((HB1.out.mono (by simp)).trans (hB.mono (by omega))))
    have HEr := Lib.hid (Elems_ext HE1.out (fun b (hb : b < base) => by omega) hB)
    by_cases hlt : j < size t
    rotate_left
    · have HS := Lib.hid (rset_any (ofK kk (subT t)) (.slice xl n lcap) base wr (by have := ofK_len kk (subT t); rw [subT_len] at this; omega) (fun x hx => by have := subT_size t x (List.mem_filter.1 hx).1; omega) (by omega)
        (by
          have h1 := OwnT_elems (w := wr) (ts := ofK kk ((subT t).take j)) ⟨cs, by rw [← hn]; exact hown, hKC⟩
          rw [List.take_of_length_le (by rw [subT_len]; omega)] at h1
          exact h1))
      clear hB hown hKC hn
      go_wp2_with (go_at_call 104; refine (HS.out).mono ?_; rintro e w3 ⟨v3, he, hE3, hB3⟩; subst he; have HE3 := Lib.hid hE3; have HB3 := Lib.hid hB3; clear hE3 hB3)
      go_ret
      exact ⟨v3, rfl, HE3.out, HFw.out.trans (HB3.out.mono HFw.out.size)⟩
    have hj2 : j < (subT t).length := by rw [subT_len]; exact hlt
    obtain ⟨kb, ko, rfl⟩ := Row_at HRW.out (by omega)
    obtain ⟨kb', ko', cap', x0, x1, x2, x3, hve, m0, m1, m2, m3, hKI⟩ := Elems_get HEr.out j hj2
    rw [subT_len] at hve
    simp only [Value.slice.injEq, Option.some.injEq, Addr.mk.injEq, and_true, true_and] at hve
    obtain ⟨⟨rfl, rfl⟩, rfl⟩ := hve
    have htk := ofK_take kk (subT t) j hj2
    have hkd : ∃ k', x0 = .int .i64 k' ∧ ((subT t)[j].kind == kk) = (k' == kk) := by
      generalize (subT t)[j] = u at hKI
      obtain ⟨k', n', s', ks'⟩ := u
      simp only [IsIn] at hKI
      exact ⟨k', hKI.1, rfl⟩
    obtain ⟨k', hx0, hke⟩ := hkd
    subst hx0
    rw [hke] at htk
    obtain ⟨k2, nm', s', ya', yl', yc', e0, rfl, rfl, rfl⟩ := IsIn_form hKI
    simp only [Value.int.injEq, true_and] at e0
    subst e0
    have HTK := Lib.hid htk
    have HKI := Lib.hid hKI
    have i1 : (0 : Int) ≤ (j : Int) := by omega
    have i2 : (j : Int) < (size t : Int) := by omega
    clear hB hown hKC hn htk hke hKI
    by_cases hk : k' = kk
    · have hb : (k' == kk) = true := by simp [hk]
      have HT := Lib.hid (by have := HTK.out; rw [hb] at this; exact this)
      subst hk
      clear hb
      have tok1 : True := trivial
      go_wp2_with (at_builtin; have _t := tok1; refine wpList_append_lies _ rfl _ _ _ rfl (w1.heap.size) 36 i0 _ 4 56 Tryz.underlying23 HI0.out.1 HI0.out.2.1 HI0.out.2.2.1 HI0.out.2.2.2 rfl (by omega) (.slice xl n lcap) (n) cs rfl (HO.out.alloc _) ⟨wr.heap.size, 0, none⟩ 1 1 [.int .i64 k', .string nm', .int .i64 s', .slice ya' yl' yc'] rfl rfl (World.news_of_block (cs := #[.int .i64 k', .string nm', .int .i64 s', .slice ya' yl' yc']) (t := 36) (fr := (0, 0)) (heap_alloc_new wr _)) (by simp [Value.oneCell']) (by omega) (by unfold maxLen; omega) (by omega) (by simp; omega) (wr.heap.size + 1) (by simp) ?_; intro g cap2 w4 hown4 hgrow4 hat4 hlt4; have HP := Lib.hid (OwnT_push HO.out HK.out HN.out HKI.out (by omega) hwr hown4 hgrow4); clear hown4 hgrow4 hat4 hlt4; clear tok1)
      go_roundw
      case rel =>
        refine ⟨j + 1, n + 1, by omega, by go_num, ?_, ?_, HB.out.trans HP.out.2⟩
        · rw [HT.out, List.length_append, ← HN.out]; rfl
        · rw [HT.out]; exact HP.out.1
      case measure => simp [intOf]; omega
    · have hb : (k' == kk) = false := by simp [hk]
      have HT := Lib.hid (by have := HTK.out; rw [hb] at this; exact this)
      go_wp2_with fail
      go_roundw
      case rel =>
        refine ⟨j + 1, n, by omega, by go_num, ?_, ?_, HB.out⟩
        · rw [HT.out, List.length_append, ← HN.out]; rfl
        · rw [HT.out]
          simp only [Bool.false_eq_true, if_false, List.append_nil]
          exact ⟨cs, by rw [← HN.out]; exact HO.out, HK.out⟩
      case measure => simp [intOf]; omega

theorem rVars_any (t : Tm) (c0 c1 c2 c3 : Value) (base : Nat) (w : World) (hst : size t ≤ 1048576) (hbw : base ≤ w.heap.size) (hI : IsIn (fun b => b < base) w t c0 c1 c2 c3) :
    Calls Tryz.prog 66 #[.agg #[c0, c1, c2, c3]] w (TermsPost base w (setT (ofK 1 (subT t)))) := by
  have hBX : Below w.heap.size w (w.alloc (.cells #[c0, c1, c2, c3] 36)) := (Below.refl _ _).alloc (Nat.le_refl _) _
  have HX := Lib.hid hBX
  have HK := Lib.hid (rkind_any t 1 c0 c1 c2 c3 base _ hst (Nat.le_trans hbw hBX.size) (IsIn_below hI hbw hBX))
  clear hBX hI
  go_enter Tryz.func66, Tryz.ntmps66
  go_wp2_with (go_at_call 113; refine (HK.out).mono ?_; rintro e w3 ⟨v3, he, hE3, hB3⟩; subst he; have HE3 := Lib.hid hE3; have HB3 := Lib.hid hB3; clear hE3 hB3)
  go_ret
  exact ⟨v3, rfl, HE3.out, HX.out.trans (HB3.out.mono (by simp))⟩

end Go.Proofs.YtkfbbkkfagglhaaGreatDoor

/-
  THE WALK OF the reference's Subterms: the subterms of a list, each once, in order.
-/
namespace Go.Proofs.YtkfbbkkfagglhaaGreatDoor
open Go.RowKit

set_option maxHeartbeats 1600000 in
set_option maxRecDepth 100000 in
theorem rsub_any (ls : List Tm) (lv : Value) (base : Nat) (w : World) (hln : sizes ls ≤ 1048576) (hbw : base ≤ w.heap.size) (hE : Elems (fun b => b < base) w ls lv) :
    Calls Tryz.prog 59 #[lv] w (TermsPost base w (setT (subL ls))) := by
  have HE := Lib.hid hE
  obtain ⟨xa, cap, hlv, hcap, hml, hrow⟩ := Elems_row hE
  subst hlv
  have HRW := Lib.hid hrow
  obtain ⟨i0, hi0, hz0, hz1, hz2⟩ := info_parts info24
  have HI0 := Lib.hid (And.intro hi0 (And.intro hz0 (And.intro hz1 hz2)))
  have hl2 := length_le_sizes ls
  clear hE hrow hi0 hz0 hz1 hz2
  go_enter Tryz.func59, Tryz.ntmps59
  go_wp2_with fail
  go_loopw [3, 4] (fun v i wr => ∃ j : Nat, j ≤ ls.length ∧ i = .int .i64 j ∧ OwnT w.heap.size (fun b => b < base) wr (subL (ls.take j)) v ∧ Below w.heap.size w wr) (fun _ i _ => ls.length - (intOf i).toNat)
  case atStart => exact ⟨0, Nat.zero_le _, rfl, OwnT_nil _ _ _, Below.refl _ _⟩
  case round =>
    obtain ⟨j, hj, rfl, hO, hB⟩ := hrel
    have HB := Lib.hid hB
    have hbr : base ≤ wr.heap.size := by have := hB.size; omega
    have HEr := Lib.hid (Elems_ext HE.out (fun b (hb : b < base) => by omega) hB)
    by_cases hlt : j < ls.length
    rotate_left
    · have hjl : ls.take j = ls := by rw [List.take_of_length_le]; omega
      rw [hjl] at hO
      have HS := Lib.hid (rset_any (subL ls) u3 base wr (by rw [subL_len]; omega) (fun x hx => by have := subL_size ls x hx; omega) hbr (OwnT_elems hO))
      obtain ⟨xl, lcap, hv⟩ := OwnT_form hO
      subst hv
      clear hO hB hjl
      go_wp2_with (go_at_call 104; refine (HS.out).mono ?_; rintro e w3 ⟨v3, he, hE3, hB3⟩; subst he; have HE3 := Lib.hid hE3; have HB3 := Lib.hid hB3; clear hE3 hB3)
      go_ret
      exact ⟨v3, rfl, HE3.out, HB.out.trans (HB3.out.mono HB.out.size)⟩
    have hlen : (subL (ls.take j)).length = sizes (ls.take j) := subL_len _
    have hsz := sizes_take ls j hlt
    have hle := sizes_take_le ls (j + 1)
    have hO2 : ∃ cs, wr.ownsRow w.heap.size 36 4 u3 (sizes (ls.take j)) cs ∧ KC (fun b => b < base) wr (subL (ls.take j)) cs := by
      obtain ⟨cs, h1, h2⟩ := hO; rw [hlen] at h1; exact ⟨cs, h1, h2⟩
    obtain ⟨cs, hown, hKC⟩ := hO2
    obtain ⟨xl, lcap, hv⟩ := own_form hown
    subst hv
    have HOW := Lib.hid hown
    have HKC := Lib.hid hKC
    have HLEN := Lib.hid hlen
    obtain ⟨kb, ko, rfl⟩ := Row_at HRW.out (by omega)
    obtain ⟨kb', ko', cap', x0, x1, x2, x3, hve, m0, m1, m2, m3, hKI⟩ := Elems_get HEr.out j hlt
    simp only [Value.slice.injEq, Option.some.injEq, Addr.mk.injEq, and_true, true_and] at hve
    obtain ⟨⟨rfl, rfl⟩, rfl⟩ := hve
    have HIH := Lib.hid (rall_any _ ls[j] x0 x1 x2 x3 base wr (Nat.le_refl _) (by omega) hbr hKI)
    have hsl := subT_len ls[j]
    have hsp := size_pos ls[j]
    have HSL := Lib.hid hsl
    have N1 : sizes (ls.take j) + size ls[j] ≤ 1073741824 := by omega
    clear hO hB hlen hsz hle hown hKC hKI hsl
    go_wp2_with (first
      | (go_at_call 58; refine (HIH.out).mono ?_; rintro e w2 ⟨v2, he, ⟨ya, ycap, ds, hv2, _, _, hKD, hcd⟩, hB2⟩; subst he hv2; rw [HSL.out] at hcd ⊢; obtain ⟨yb, yo, hya, hcell⟩ := hcd hsp; subst hya; have HD := Lib.hid hKD; have HCD := Lib.hid hcell; have HB2 := Lib.hid hB2; clear hKD hcd hcell hB2)
      | (at_builtin; refine wpList_append_lies _ rfl _ _ _ rfl (w.heap.size) 36 i0 _ 4 56 Tryz.underlying23 HI0.out.1 HI0.out.2.1 HI0.out.2.2.1 HI0.out.2.2.2 rfl (by omega) (.slice xl (sizes (ls.take j)) lcap) (sizes (ls.take j)) cs rfl (own_heap HOW.out (fun q hq => HB2.out.block q (HOW.out.lt q hq).2)) ⟨yb, yo, none⟩ (size ls[j]) ycap ds rfl (by rw [(KC_one _ _ HD.out).1, HSL.out]) (fun q u hu => by rw [add_plain]; exact HCD.out q u hu) (KC_one _ _ HD.out).2 hsp (by unfold maxLen; omega) (by omega) (by have := HB2.out.size; have := HB.out.size; omega) w2.heap.size rfl ?_; intro g2 cap3 w3 hown3 hgrow hat hlt3; have HO3 := Lib.hid hown3; have HG3 := Lib.hid hgrow; clear hown3 hgrow hat))
    go_roundw
    case rel =>
      refine ⟨j + 1, by omega, by go_num, ?_, ?_⟩
      · have hO3 := OwnT_grown (S := fun b => b < base) (v := .slice xl (sizes (ls.take j)) lcap) (KC_carry (w' := w2) (fun b (hb : b < base) => HB2.out.block b (by omega)) (fun _ h => h) _ _ HKC.out) HD.out HSL.out.symm (by rw [HLEN.out]; exact HO3.out) HG3.out (fun b (hb : b < base) => by have := HB2.out.size; omega)
          (fun b (hb : b < base) e => by have := (HOW.out.lt b e).1; omega)
        rw [HLEN.out] at hO3
        rw [subL_take ls j hlt]
        exact hO3
      · exact (HB.out.trans (HB2.out.mono (by have := HB.out.size; omega))).grown HG3.out (by have := HB.out.size; have := HB2.out.size; omega) (fun q hq => (HOW.out.lt q hq).1)
    case measure => simp [intOf]; omega

end Go.Proofs.YtkfbbkkfagglhaaGreatDoor
