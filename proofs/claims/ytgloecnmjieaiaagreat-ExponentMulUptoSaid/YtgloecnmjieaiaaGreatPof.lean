/-
  THE PRODUCT OF A TERM: pure part; the walks of hasItsKids, occurrences and Of.
-/
import Derived.Test.YtgloecnmjieaiaaGreatPgath
import Derived.Test.YtgloecnmjieaiaaGreatPos
import Derived.Test.YtgloecnmjieaiaaGreatApp
namespace Go.Proofs.YtgloecnmjieaiaaGreat
open Go.RowKit

/-- A right number of kids for a symbol of exponents. -/
def itsKids (t : Tm) : Bool := if t.name.toList == [109, 117, 108] then decide (2 ≤ t.kids.length) else if t.name.toList == [105, 110, 118] then decide (t.kids.length = 1) else decide (t.kids.length = 0)
mutual
/-- All symbols of exponents outside of factors have their kids. -/
def arityT : Tm → Bool
  | .mk k n s ks => if expo (.mk k n s ks) = true then itsKids (.mk k n s ks) && arityL ks else true
def arityL : List Tm → Bool
  | [] => true
  | t :: ts => arityT t && arityL ts
end
mutual
/-- The occurrences of factors, with 1 or -1 each. -/
def occT : Tm → Int → List Pw
  | .mk k n s ks, m => if expo (.mk k n s ks) = true then occL ks (if n.toList == [105, 110, 118] then -m else m) else [(.mk k n s ks, m)]
def occL : List Tm → Int → List Pw
  | [], _ => []
  | t :: ts, m => occT t m ++ occL ts m
end
theorem occL_take (ks : List Tm) (j : Nat) (h : j < ks.length) (m : Int) : occL (ks.take (j + 1)) m = occL (ks.take j) m ++ occT ks[j] m := by
  induction ks generalizing j with
  | nil => simp at h
  | cons t ts ih =>
    cases j with
    | zero => simp [occL]
    | succ j =>
      simp only [List.take_succ_cons, occL, List.getElem_cons_succ]
      rw [ih j (by simpa using h), List.append_assoc]
theorem arityL_take (ks : List Tm) (j : Nat) (h : j < ks.length) : arityL (ks.take (j + 1)) = (arityL (ks.take j) && arityT ks[j]) := by
  induction ks generalizing j with
  | nil => simp at h
  | cons t ts ih =>
    cases j with
    | zero => simp [arityL]
    | succ j =>
      simp only [List.take_succ_cons, arityL, List.getElem_cons_succ]
      rw [ih j (by simpa using h), Bool.and_assoc]
theorem arityL_mem : ∀ {ks : List Tm} {j : Nat} (h : j < ks.length), arityT ks[j] = false → arityL ks = false
  | t :: ts, 0, _, h => by simp only [List.getElem_cons_zero] at h; rw [arityL, h]; rfl
  | t :: ts, j + 1, hj, h => by
    simp only [List.getElem_cons_succ] at h
    rw [arityL, arityL_mem (by simpa using hj) h, Bool.and_false]
mutual
theorem occT_len : ∀ (t : Tm) (m : Int), (occT t m).length ≤ size t
  | .mk k n s ks, m => by
    rw [occT, size]
    split
    · have := occL_len ks (if n.toList == [105, 110, 118] then -m else m); omega
    · simp
theorem occL_len : ∀ (ts : List Tm) (m : Int), (occL ts m).length ≤ sizes ts
  | [], m => by simp [occL]
  | t :: ts, m => by
    rw [occL, sizes, List.length_append]
    have := occT_len t m
    have := occL_len ts m
    omega
end
mutual
theorem occT_one : ∀ (t : Tm) (m : Int), m = 1 ∨ m = -1 → ∀ p ∈ occT t m, (p.2 = 1 ∨ p.2 = -1) ∧ expo p.1 = false ∧ (nodesE t = 0 → nodesE p.1 = 0) ∧ size p.1 ≤ size t ∧ depth p.1 ≤ depth t
  | .mk k n s ks, m, hm, p, hp => by
    rw [occT] at hp
    by_cases he : expo (.mk k n s ks) = true
    · rw [if_pos he] at hp
      obtain ⟨h1, h2, h3, h4, h5⟩ := occL_one ks _ (by split <;> omega) p hp
      refine ⟨h1, h2, fun h => h3 ?_, by rw [size]; omega, by rw [depth]; omega⟩
      rw [nodesE] at h
      by_cases h0 : nodeE (.mk k n s ks) = 0
      · rw [if_pos h0] at h; exact h
      · rw [if_neg h0] at h; exact absurd h h0
    · rw [if_neg he] at hp
      simp only [List.mem_cons, List.not_mem_nil, or_false] at hp
      subst hp
      exact ⟨hm, by simpa using he, fun h => h, Nat.le_refl _, Nat.le_refl _⟩
theorem occL_one : ∀ (ts : List Tm) (m : Int), m = 1 ∨ m = -1 → ∀ p ∈ occL ts m, (p.2 = 1 ∨ p.2 = -1) ∧ expo p.1 = false ∧ (nodesL ts = 0 → nodesE p.1 = 0) ∧ size p.1 ≤ sizes ts ∧ depth p.1 ≤ depths ts
  | [], m, _, p, hp => by simp [occL] at hp
  | t :: ts, m, hm, p, hp => by
    rw [occL, List.mem_append] at hp
    have hn : nodesL (t :: ts) = 0 → nodesE t = 0 ∧ nodesL ts = 0 := fun h => by
      rw [nodesL] at h
      by_cases h0 : nodesE t = 0
      · rw [if_pos h0] at h; exact ⟨h0, h⟩
      · rw [if_neg h0] at h; exact absurd h h0
    rcases hp with hp | hp
    · obtain ⟨h1, h2, h3, h4, h5⟩ := occT_one t m hm p hp
      exact ⟨h1, h2, fun h => h3 (hn h).1, by rw [sizes]; omega, by rw [depths]; omega⟩
    · obtain ⟨h1, h2, h3, h4, h5⟩ := occL_one ts m hm p hp
      exact ⟨h1, h2, fun h => h3 (hn h).2, by rw [sizes]; omega, by rw [depths]; omega⟩
end
theorem abs_ones : ∀ {ps : List Pw}, (∀ p ∈ ps, p.2 = 1 ∨ p.2 = -1) → absS ps = ps.length
  | [], _ => rfl
  | p :: ps, h => by
    rw [absS, abs_ones (fun q hq => h q (List.mem_cons_of_mem _ hq)), List.length_cons]
    rcases h p (List.mem_cons_self ..) with e | e <;> rw [e] <;> simp <;> omega

set_option maxHeartbeats 800000 in
set_option maxRecDepth 100000 in
theorem itsKids_any (t : Tm) (b o : Nat) (w : World) (hL : Lies w t b o) :
    Calls Tryz.prog 82 #[.pointer (some ⟨b, o, none⟩)] w fun e w' => e = .returned (.bool (itsKids t)) ∧ w' = w := by
  obtain ⟨k, n, s, ks⟩ := t
  obtain ⟨g0, g1, g2, _, _, _, hl, xa, cap, g3, _⟩ := Lies_mk hL
  obtain ⟨R, hR⟩ : ∃ R, itsKids (.mk k n s ks) = R := ⟨_, rfl⟩
  rw [hR]
  have hR2 : (if n.toList == [109, 117, 108] then decide (2 ≤ ks.length) else if n.toList == [105, 110, 118] then decide (ks.length = 1) else decide (ks.length = 0)) = R := hR
  have HR := Lib.hid hR2
  clear hL hR hR2 g0 g2
  unfold maxLen at hl
  cases q1 : (n.toList == [109, 117, 108])
  rotate_left
  · have H : Hid (decide (2 ≤ ks.length) = R) := by show _ = _; rw [← HR.out, q1]; rfl
    go_enter Tryz.func82, Tryz.ntmps82
    go_wp2_with fail
    go_ret
    refine ⟨?_, rfl⟩
    rw [← H.out]
    have hq : decide ((2 : Int) ≤ (ks.length : Int)) = decide (2 ≤ ks.length) := by simp only [decide_eq_decide]; exact ⟨fun h => by exact_mod_cast h, fun h => by exact_mod_cast h⟩
    rw [← hq]; rfl
  cases q2 : (n.toList == [105, 110, 118])
  rotate_left
  · have H : Hid (decide (ks.length = 1) = R) := by show _ = _; rw [← HR.out, q1, q2]; rfl
    go_enter Tryz.func82, Tryz.ntmps82
    go_wp2_with fail
    go_ret
    refine ⟨?_, rfl⟩
    rw [← H.out]
    have hq : ((ks.length : Int) == 1) = decide (ks.length = 1) := by rw [Bool.eq_iff_iff, beq_iff_eq, decide_eq_true_iff]; exact ⟨fun h => by exact_mod_cast h, fun h => by exact_mod_cast h⟩
    rw [← hq]; rfl
  · have H : Hid (decide (ks.length = 0) = R) := by show _ = _; rw [← HR.out, q1, q2]; rfl
    go_enter Tryz.func82, Tryz.ntmps82
    go_wp2_with fail
    go_ret
    refine ⟨?_, rfl⟩
    rw [← H.out]
    have hq : ((ks.length : Int) == 0) = decide (ks.length = 0) := by rw [Bool.eq_iff_iff, beq_iff_eq, decide_eq_true_iff]; exact ⟨fun h => by exact_mod_cast h, fun h => by exact_mod_cast h⟩
    rw [← hq]; rfl

theorem LiesIn_lies' {S : Nat → Prop} {w : World} {t : Tm} {b o : Nat} (h : LiesIn S w t b o) : Lies w t b o := by
  obtain ⟨_, c0, c1, c2, c3, g0, g1, g2, g3, hI⟩ := h
  exact ⟨c0, c1, c2, c3, g0, g1, g2, g3, IsIn_Is _ _ _ _ _ hI⟩
/-- One more power. -/
theorem OwnP_push {H base n g cap lcap : Nat} {wr w6 w8 : World} {acc : List Pw} {xl : Option Addr} {cs : List Value} {t : Tm} {N : Int} {c0 c1 c2 c3 : Value} {ob : Obj} (hn : n = acc.length) (hown0 : wr.ownsRow H 77 5 (.slice xl n lcap) n cs) (hK : KP (fun b => b < base) wr acc cs) (hbH : base ≤ H) (hHw : H ≤ wr.heap.size) (hB : Ext wr w6)
    (hI : IsIn (fun b => b < base) w6 t c0 c1 c2 c3) (hN : i64ok N) (hown : w8.ownsRow H 77 5 (.slice (some ⟨g, 0, none⟩) (n + 1) cap) (n + 1) (cs ++ [c0, c1, c2, c3, .int .i64 N])) (hg : (w6.alloc ob).grownBy w8 (Value.slice xl n lcap).ownBlock) :
    OwnP H (fun b => b < base) w8 (acc ++ [(t, N)]) (.slice (some ⟨g, 0, none⟩) (n + 1) cap) ∧ Below H wr w8 ∧ wr.heap.size ≤ w8.heap.size := by
  subst hn
  have hlt := fun q hq => hown0.lt q hq
  have hgs := hg.size
  rw [World.size_alloc] at hgs
  have hB8 : Below H wr w8 := ((hB.mono hHw).alloc (Nat.le_trans hHw hB.size) _).grown hg (by rw [World.size_alloc]; have := hB.size; omega) (fun q hq => (hlt q hq).1)
  have hk : ∀ b, b < base → w8.heap[b]? = w6.heap[b]? := fun b hb => by
    have := hB.size
    rw [hg.block b (by rw [World.size_alloc]; omega) (fun e => by have := (hlt b e.symm).1; omega), Below.heap_alloc _ _ _ (by omega)]
  refine ⟨⟨_, by rw [List.length_append]; exact hown, KP_app (KP_carry (fun b hb => (hk b hb).trans (hB.block b (by have : b < base := hb; omega))) (fun _ h => h) hK) (KP_one (IsIn_carry hk (fun _ h => h) _ _ _ _ _ hI) hN)⟩, hB8, by have := hB.size; omega⟩
/-- What occurrences gives back. -/
def OccPostE (H base : Nat) (w : World) (acc : List Pw) (t : Tm) (m : Int) (e : Ending) (w' : World) : Prop :=
  Below H w w' ∧ w.heap.size ≤ w'.heap.size ∧ if arityT t = true then ∃ v, e = .returned (.tuple #[v, .int .i64 0]) ∧ OwnP H (fun q => q < base) w' (acc ++ occT t m) v else e = .returned (.tuple #[.slice none 0 0, .int .i64 6])
set_option maxHeartbeats 6400000 in
set_option maxRecDepth 100000 in
theorem occ_any (H base : Nat) (hbH0 : base ≤ H) (M : Nat) : ∀ (t : Tm) (b o : Nat) (m : Int) (acc : List Pw) (v : Value) (w : World), size t ≤ M → M ≤ 1048576 → acc.length + size t ≤ 1048576 → m = 1 ∨ m = -1 → H ≤ w.heap.size → LiesIn (fun q => q < base) w t b o → OwnP H (fun q => q < base) w acc v →
    Calls Tryz.prog 43 #[.pointer (some ⟨b, o, none⟩), .int .i64 m, v] w (OccPostE H base w acc t m) := by
  induction M with
  | zero => intro t b o m acc v w h; have := size_pos t; omega
  | succ M ih =>
    intro t b o m acc v w hm hM hn0 hm1 hHw hL hO
    have hLs := LiesIn_lies' hL
    have HX := Lib.hid (isexp_any t b o w hLs)
    have HIK := Lib.hid (itsKids_any t b o w hLs)
    obtain ⟨hb, c0, c1, c2, c3, p0, p1, p2, p3, hI⟩ := hL
    have HI := Lib.hid hI
    obtain ⟨k, n, s, ks⟩ := t
    simp only [IsIn] at hI
    obtain ⟨rfl, rfl, rfl, _, _, _, hkl, ya, kcap, rfl, hkc, hKR⟩ := hI
    have hsk : size (.mk k n s ks) = 1 + sizes ks := rfl
    rw [hsk] at hm hn0
    have HKR := Lib.hid hKR
    have HBB : Hid (b < base) := hb
    have HBH := Lib.hid hbH0
    have HHw := Lib.hid hHw
    have HN := Lib.hid hn0
    have HC3 := Lib.hid p3
    have hal := length_le_sizes ks
    obtain ⟨xl, lcap, rfl⟩ := OwnP_form hO
    have HO := Lib.hid hO
    have m1 : -1 ≤ m := by omega
    have m2 : m ≤ 1 := by omega
    have hwm : IntKind.i64.wrap (-m) = -m := IntWalk.i64_in _ (by omega)
    clear hKR hb hLs
    by_cases he : expo (.mk k n s ks) = true
    rotate_left
    · obtain ⟨i0, hi0, hz0, hz1, hz2⟩ := info_parts infoPw
      have HI0 := Lib.hid (And.intro hi0 (And.intro hz0 (And.intro hz1 hz2)))
      have he' : expo (.mk k n s ks) = false := by simpa using he
      rw [he'] at HX
      have HAT : Hid (arityT (.mk k n s ks) = true) := by show _ = _; rw [arityT, if_neg he]
      have HOC : Hid (occT (.mk k n s ks) m = [(.mk k n s ks, m)]) := by show _ = _; rw [occT, if_neg he]
      obtain ⟨cs, ho, hK⟩ := hO
      have HOO := Lib.hid ho
      obtain ⟨na, hna⟩ : ∃ na, na = acc.length := ⟨_, rfl⟩
      rw [← hna] at ho HOO ⊢
      have hcl : cs.length = na * 5 := ho.1
      have hnb : na + 1 ≤ 1048576 := by omega
      have HNA := Lib.hid hna
      have HPU : Hid (∀ g cap w8 ob, w8.ownsRow H 77 5 (.slice (some ⟨g, 0, none⟩) (na + 1) cap) (na + 1) (cs ++ [.int .i64 k, .string n, .int .i64 s, .slice ya ks.length kcap, .int .i64 m]) → (w.alloc ob).grownBy w8 (Value.slice xl na lcap).ownBlock → OccPostE H base w acc (.mk k n s ks) m (.returned (.tuple #[.slice (some ⟨g, 0, none⟩) (na + 1) cap, .int .i64 0])) w8) := by
        show ∀ _, _
        intro g cap w8 ob h8 hg
        have r := OwnP_push HNA.out ho hK hbH0 hHw (Ext.refl w) HI.out (by unfold i64ok; omega) h8 hg
        refine ⟨r.2.1, r.2.2, ?_⟩
        rw [HAT.out, HOC.out]
        exact ⟨_, rfl, r.1⟩
      clear ho hK he he' hna
      go_enter Tryz.func43, Tryz.ntmps43
      go_wp2_with (first
        | (go_at_call 81; refine (HX.out).mono ?_; rintro e w3 ⟨he, hw⟩; subst he; have hw' := hw.symm; subst hw')
        | (at_builtin; refine wpList_append_lies _ rfl _ _ _ rfl H 77 i0 _ 5 64 Tryz.underlying27 HI0.out.1 HI0.out.2.1 HI0.out.2.2.1 HI0.out.2.2.2 rfl (by omega) (.slice xl na lcap) na cs rfl (HOO.out.alloc _) ⟨w.heap.size, 0, none⟩ 1 1 [.int .i64 k, .string n, .int .i64 s, .slice ya ks.length kcap, .int .i64 m] rfl rfl (World.news_of_block (cs := #[.int .i64 k, .string n, .int .i64 s, .slice ya ks.length kcap, .int .i64 m]) (t := 77) (fr := (0, 0)) (heap_alloc_new w _)) (by simp [Value.oneCell']) (by omega) (by unfold maxLen; omega) (by omega) (by simp; omega) (w.heap.size + 1) (by simp) ?_; intro gg cap8 w8 hown8 hgrow hat hltt; have HF := Lib.hid (HPU.out _ _ _ _ hown8 hgrow); clear hown8 hgrow hat hltt))
      exact bodyPost_ret (v := .tuple #[.slice (some ⟨gg, 0, none⟩) (na + 1) cap8, .int .i64 0]) (by simp [results, Tryz.results43, go_sem]) rfl HF.out
    rw [he] at HX
    obtain ⟨kk, hkk⟩ : ∃ x, itsKids (.mk k n s ks) = x := ⟨_, rfl⟩
    rw [hkk] at HIK
    cases kk with
    | false =>
      have HQ : Hid (OccPostE H base w acc (.mk k n s ks) m (.returned (.tuple #[.slice none 0 0, .int .i64 6])) w) := by
        show OccPostE _ _ _ _ _ _ _ _
        have ha : arityT (.mk k n s ks) = false := by rw [arityT, if_pos he, hkk]; rfl
        refine ⟨Below.refl _ _, Nat.le_refl _, ?_⟩
        rw [ha]; rfl
      clear he hkk
      go_enter Tryz.func43, Tryz.ntmps43
      go_wp2_with (first
        | (go_at_call 81; refine (HX.out).mono ?_; rintro e w3 ⟨he, hw⟩; subst he; have hw' := hw.symm; subst hw')
        | (go_at_call 82; refine (HIK.out).mono ?_; rintro e w3 ⟨he, hw⟩; subst he; have hw' := hw.symm; subst hw'))
      exact bodyPost_ret (v := .tuple #[.slice none 0 0, .int .i64 6]) (by simp [results, Tryz.results43, go_sem]) rfl HQ.out
    | true =>
    have HAT : Hid (arityT (.mk k n s ks) = arityL ks) := by show _ = _; rw [arityT, if_pos he, hkk]; rfl
    cases qi : (n.toList == [105, 110, 118])
    · have qi' : (n.toList == [105, 110, 118]) = false := qi
      have HM : Hid ((if n.toList == [105, 110, 118] then -m else m) = m) := by show _ = _; rw [qi]; rfl
      have HOC : Hid (occT (.mk k n s ks) m = occL ks m) := by show _ = _; rw [occT, if_pos he, HM.out]
      clear he
      go_enter Tryz.func43, Tryz.ntmps43
      go_wp2_with (first
        | (go_at_call 81; refine (HX.out).mono ?_; rintro e w3 ⟨he, hw⟩; subst he; have hw' := hw.symm; subst hw')
        | (go_at_call 82; refine (HIK.out).mono ?_; rintro e w3 ⟨he, hw⟩; subst he; have hw' := hw.symm; subst hw'))
      go_loopw [2, 36] (fun lv i wr => ∃ j : Nat, j ≤ ks.length ∧ i = .int .i64 j ∧ OwnP H (fun q => q < base) wr (acc ++ occL (ks.take j) m) lv ∧ Below H w wr ∧ w.heap.size ≤ wr.heap.size ∧ Hid (arityL (ks.take j) = true)) (fun _ i _ => ks.length - (intOf i).toNat)
      case atStart => exact ⟨0, Nat.zero_le _, rfl, by simpa [occL] using HO.out, Below.refl _ _, Nat.le_refl _, by show _ = _; simp [arityL]⟩
      case round =>
        obtain ⟨j, hj, rfl, hOr, hB, hws, HAR⟩ := hrel
        have HB := Lib.hid hB
        have HWS := Lib.hid hws
        by_cases hlt : j < ks.length
        rotate_left
        · have hjl : j = ks.length := by omega
          obtain ⟨xr, cr, rfl⟩ := OwnP_form hOr
          have HQ : Hid (OccPostE H base w acc (.mk k n s ks) m (.returned (.tuple #[.slice xr (acc ++ occL (ks.take j) m).length cr, .int .i64 0])) wr) := by
            show OccPostE _ _ _ _ _ _ _ _
            refine ⟨hB, hws, ?_⟩
            have ha := HAR.out
            rw [hjl, List.take_length] at ha hOr ⊢
            rw [HAT.out, ha, HOC.out]
            exact ⟨_, rfl, hOr⟩
          clear hOr hB hjl hws
          go_wp2_with fail
          exact bodyPost_ret (v := .tuple #[.slice xr (acc ++ occL (ks.take j) m).length cr, .int .i64 0]) (by simp [results, Tryz.results43, go_sem]) rfl HQ.out
        obtain ⟨kb, ko, rfl⟩ := RowIn_at HKR.out (by omega)
        have hl1 := LiesIn_carry (w' := wr) (S' := fun q => q < base) (fun q hq => hB.block q (Nat.lt_of_lt_of_le hq HBH.out)) (fun _ h => h) (RowIn_get HKR.out j hlt)
        have hc0 : wr.cell? ⟨b, o + 3, none⟩ = some (.slice (some ⟨kb, ko, none⟩) ks.length kcap) := by
          rw [World.cell?_of_block (w := w) (a := ⟨b, o + 3, none⟩) (hB.block b (Nat.lt_of_lt_of_le HBB.out HBH.out))]; exact HC3.out
        have hst := sizes_take ks j hlt
        have hsl := sizes_take_le ks (j + 1)
        have hol := occL_len (ks.take j) m
        obtain ⟨xr, cr, rfl⟩ := OwnP_form hOr
        have HC := Lib.hid (ih ks[j] kb (ko + j * 4) m (acc ++ occL (ks.take j) m) (.slice xr (acc ++ occL (ks.take j) m).length cr) wr (by omega) (by omega) (by rw [List.length_append]; have := HN.out; omega) (by omega) (Nat.le_trans HHw.out hws) hl1 hOr)
        have HO2 : Hid ((acc ++ occL (ks.take j) m) ++ occT ks[j] m = acc ++ occL (ks.take (j + 1)) m) := by show _ = _; rw [occL_take ks j hlt, List.append_assoc]
        have HA2 := Lib.hid (arityL_take ks j hlt)
        have HAM := Lib.hid (fun h => arityL_mem (ks := ks) hlt h)
        generalize acc ++ occL (ks.take j) m = acc2 at hOr HC HO2 ⊢
        unfold OccPostE at HC
        have i1 : (0 : Int) ≤ (j : Int) := by omega
        have i2 : (j : Int) < (ks.length : Int) := by omega
        cases hta : arityT ks[j] with
        | false =>
          rw [hta] at HC HA2
          have HQ : Hid (∀ W, Below H wr W → wr.heap.size ≤ W.heap.size → OccPostE H base w acc (.mk k n s ks) m (.returned (.tuple #[.slice none 0 0, .int .i64 6])) W) := by
            show ∀ _, _
            intro W x y
            refine ⟨HB.out.trans x, Nat.le_trans HWS.out y, ?_⟩
            rw [HAT.out, HAM.out hta]; rfl
          clear hOr hB hl1 hst hsl hol hta hws
          go_wp2_with (go_at_call 43; refine (HC.out).mono ?_; rintro e w4 ⟨hB4, hs4, he⟩; simp only [Bool.false_eq_true, if_false] at he; subst he; have HB4 := Lib.hid (And.intro hB4 hs4); clear hB4 hs4)
          exact bodyPost_ret (v := .tuple #[.slice none 0 0, .int .i64 6]) (by simp [results, Tryz.results43, go_sem]) rfl (HQ.out _ HB4.out.1 HB4.out.2)
        | true =>
          rw [hta] at HC HA2
          clear hOr hB hl1 hst hsl hol hta hws
          go_wp2_with (go_at_call 43; refine (HC.out).mono ?_; rintro e w4 ⟨hB4, hs4, he⟩; simp only [if_true] at he; obtain ⟨v4, he, hO4⟩ := he; subst he; have HB4 := Lib.hid (And.intro hB4 hs4); have HO4 := Lib.hid hO4; clear hB4 hs4 hO4)
          go_roundw
          case rel => exact ⟨j + 1, by omega, by go_num, by rw [← HO2.out]; exact HO4.out, HB.out.trans HB4.out.1, Nat.le_trans HWS.out HB4.out.2, by show _ = _; rw [HA2.out, HAR.out]; rfl⟩
          case measure => simp [intOf]; omega
    · have qi' : (n.toList == [105, 110, 118]) = true := qi
      have HM : Hid ((if n.toList == [105, 110, 118] then -m else m) = (-m)) := by show _ = _; rw [qi]; rfl
      have HOC : Hid (occT (.mk k n s ks) m = occL ks (-m)) := by show _ = _; rw [occT, if_pos he, HM.out]
      clear he
      go_enter Tryz.func43, Tryz.ntmps43
      go_wp2_with (first
        | (go_at_call 81; refine (HX.out).mono ?_; rintro e w3 ⟨he, hw⟩; subst he; have hw' := hw.symm; subst hw')
        | (go_at_call 82; refine (HIK.out).mono ?_; rintro e w3 ⟨he, hw⟩; subst he; have hw' := hw.symm; subst hw'))
      go_loopw [2, 36] (fun lv i wr => ∃ j : Nat, j ≤ ks.length ∧ i = .int .i64 j ∧ OwnP H (fun q => q < base) wr (acc ++ occL (ks.take j) (-m)) lv ∧ Below H w wr ∧ w.heap.size ≤ wr.heap.size ∧ Hid (arityL (ks.take j) = true)) (fun _ i _ => ks.length - (intOf i).toNat)
      case atStart => exact ⟨0, Nat.zero_le _, rfl, by simpa [occL] using HO.out, Below.refl _ _, Nat.le_refl _, by show _ = _; simp [arityL]⟩
      case round =>
        obtain ⟨j, hj, rfl, hOr, hB, hws, HAR⟩ := hrel
        have HB := Lib.hid hB
        have HWS := Lib.hid hws
        by_cases hlt : j < ks.length
        rotate_left
        · have hjl : j = ks.length := by omega
          obtain ⟨xr, cr, rfl⟩ := OwnP_form hOr
          have HQ : Hid (OccPostE H base w acc (.mk k n s ks) m (.returned (.tuple #[.slice xr (acc ++ occL (ks.take j) (-m)).length cr, .int .i64 0])) wr) := by
            show OccPostE _ _ _ _ _ _ _ _
            refine ⟨hB, hws, ?_⟩
            have ha := HAR.out
            rw [hjl, List.take_length] at ha hOr ⊢
            rw [HAT.out, ha, HOC.out]
            exact ⟨_, rfl, hOr⟩
          clear hOr hB hjl hws
          go_wp2_with fail
          exact bodyPost_ret (v := .tuple #[.slice xr (acc ++ occL (ks.take j) (-m)).length cr, .int .i64 0]) (by simp [results, Tryz.results43, go_sem]) rfl HQ.out
        obtain ⟨kb, ko, rfl⟩ := RowIn_at HKR.out (by omega)
        have hl1 := LiesIn_carry (w' := wr) (S' := fun q => q < base) (fun q hq => hB.block q (Nat.lt_of_lt_of_le hq HBH.out)) (fun _ h => h) (RowIn_get HKR.out j hlt)
        have hc0 : wr.cell? ⟨b, o + 3, none⟩ = some (.slice (some ⟨kb, ko, none⟩) ks.length kcap) := by
          rw [World.cell?_of_block (w := w) (a := ⟨b, o + 3, none⟩) (hB.block b (Nat.lt_of_lt_of_le HBB.out HBH.out))]; exact HC3.out
        have hst := sizes_take ks j hlt
        have hsl := sizes_take_le ks (j + 1)
        have hol := occL_len (ks.take j) (-m)
        obtain ⟨xr, cr, rfl⟩ := OwnP_form hOr
        have HC := Lib.hid (ih ks[j] kb (ko + j * 4) (-m) (acc ++ occL (ks.take j) (-m)) (.slice xr (acc ++ occL (ks.take j) (-m)).length cr) wr (by omega) (by omega) (by rw [List.length_append]; have := HN.out; omega) (by omega) (Nat.le_trans HHw.out hws) hl1 hOr)
        have HO2 : Hid ((acc ++ occL (ks.take j) (-m)) ++ occT ks[j] (-m) = acc ++ occL (ks.take (j + 1)) (-m)) := by show _ = _; rw [occL_take ks j hlt, List.append_assoc]
        have HA2 := Lib.hid (arityL_take ks j hlt)
        have HAM := Lib.hid (fun h => arityL_mem (ks := ks) hlt h)
        generalize acc ++ occL (ks.take j) (-m) = acc2 at hOr HC HO2 ⊢
        unfold OccPostE at HC
        have i1 : (0 : Int) ≤ (j : Int) := by omega
        have i2 : (j : Int) < (ks.length : Int) := by omega
        cases hta : arityT ks[j] with
        | false =>
          rw [hta] at HC HA2
          have HQ : Hid (∀ W, Below H wr W → wr.heap.size ≤ W.heap.size → OccPostE H base w acc (.mk k n s ks) m (.returned (.tuple #[.slice none 0 0, .int .i64 6])) W) := by
            show ∀ _, _
            intro W x y
            refine ⟨HB.out.trans x, Nat.le_trans HWS.out y, ?_⟩
            rw [HAT.out, HAM.out hta]; rfl
          clear hOr hB hl1 hst hsl hol hta hws
          go_wp2_with (go_at_call 43; refine (HC.out).mono ?_; rintro e w4 ⟨hB4, hs4, he⟩; simp only [Bool.false_eq_true, if_false] at he; subst he; have HB4 := Lib.hid (And.intro hB4 hs4); clear hB4 hs4)
          exact bodyPost_ret (v := .tuple #[.slice none 0 0, .int .i64 6]) (by simp [results, Tryz.results43, go_sem]) rfl (HQ.out _ HB4.out.1 HB4.out.2)
        | true =>
          rw [hta] at HC HA2
          clear hOr hB hl1 hst hsl hol hta hws
          go_wp2_with (go_at_call 43; refine (HC.out).mono ?_; rintro e w4 ⟨hB4, hs4, he⟩; simp only [if_true] at he; obtain ⟨v4, he, hO4⟩ := he; subst he; have HB4 := Lib.hid (And.intro hB4 hs4); have HO4 := Lib.hid hO4; clear hB4 hs4 hO4)
          go_roundw
          case rel => exact ⟨j + 1, by omega, by go_num, by rw [← HO2.out]; exact HO4.out, HB.out.trans HB4.out.1, Nat.le_trans HWS.out HB4.out.2, by show _ = _; rw [HA2.out, HAR.out]; rfl⟩
          case measure => simp [intOf]; omega
end Go.Proofs.YtgloecnmjieaiaaGreat
