import Derived.Test.YtbcpnepjojppaaaGreatDoorLawTheoryKeyxNodes
import Derived.Test.YtbcpnepjojppaaaGreatDoorLawTheoryKeyxPgath
import Derived.Test.YtbcpnepjojppaaaGreatDoorLawTheoryKeyxPos
namespace Go.Proofs.YtbcpnepjojppaaaGreatDoor
open Go.RowKit
def itsKids (t : Tm) : Bool := if t.name.toList == [109, 117, 108] then decide (2 ≤ t.kids.length) else if t.name.toList == [105, 110, 118] then decide (t.kids.length = 1) else decide (t.kids.length = 0)
mutual
/-- All symbols of exponents outside of factors have their kids. -/
def arityT : Tm → Bool
  | .mk k n s ks => if expo (.mk k n s ks) = true then itsKids (.mk k n s ks) && arityL ks else true
def arityL : List Tm → Bool
  | [] => true
  | t :: ts => arityT t && arityL ts
end
mutual
/-- The occurrences of factors, with 1 or -1 each. -/
def occT : Tm → Int → List Pw
  | .mk k n s ks, m => if expo (.mk k n s ks) = true then occL ks (if n.toList == [105, 110, 118] then -m else m) else [(.mk k n s ks, m)]
def occL : List Tm → Int → List Pw
  | [], _ => []
  | t :: ts, m => occT t m ++ occL ts m
end
theorem occL_take (ks : List Tm) (j : Nat) (h : j < ks.length) (m : Int) : occL (ks.take (j + 1)) m = occL (ks.take j) m ++ occT ks[j] m := by
  induction ks generalizing j with
  | nil => simp at h
  | cons t ts ih =>
    cases j with
    | zero => simp [occL]
    | succ j =>
      simp only [List.take_succ_cons, occL, List.getElem_cons_succ]
      rw [ih j (by simpa using h), List.append_assoc]
theorem arityL_take (ks : List Tm) (j : Nat) (h : j < ks.length) : arityL (ks.take (j + 1)) = (arityL (ks.take j) && arityT ks[j]) := by
  induction ks generalizing j with
  | nil => simp at h
  | cons t ts ih =>
    cases j with
    | zero => simp [arityL]
    | succ j =>
      simp only [List.take_succ_cons, arityL, List.getElem_cons_succ]
      rw [ih j (by simpa using h), Bool.and_assoc]
theorem arityL_mem : ∀ {ks : List Tm} {j : Nat} (h : j < ks.length), arityT ks[j] = false → arityL ks = false
  | t :: ts, 0, _, h => by simp only [List.getElem_cons_zero] at h; rw [arityL, h]; rfl
  | t :: ts, j + 1, hj, h => by
    simp only [List.getElem_cons_succ] at h
    rw [arityL, arityL_mem (by simpa using hj) h, Bool.and_false]
mutual
theorem occT_len : ∀ (t : Tm) (m : Int), (occT t m).length ≤ size t
  | .mk k n s ks, m => by
    rw [occT, size]
    split
    · have := occL_len ks (if n.toList == [105, 110, 118] then -m else m); omega
    · simp
theorem occL_len : ∀ (ts : List Tm) (m : Int), (occL ts m).length ≤ sizes ts
  | [], m => by simp [occL]
  | t :: ts, m => by
    rw [occL, sizes, List.length_append]
    have := occT_len t m
    have := occL_len ts m
    omega
end
mutual
theorem occT_one : ∀ (t : Tm) (m : Int), m = 1 ∨ m = -1 → ∀ p ∈ occT t m, (p.2 = 1 ∨ p.2 = -1) ∧ expo p.1 = false ∧ (nodesE t = 0 → nodesE p.1 = 0) ∧ size p.1 ≤ size t ∧ depth p.1 ≤ depth t
  | .mk k n s ks, m, hm, p, hp => by
    rw [occT] at hp
    by_cases he : expo (.mk k n s ks) = true
    · rw [if_pos he] at hp
      obtain ⟨h1, h2, h3, h4, h5⟩ := occL_one ks _ (by split <;> omega) p hp
      refine ⟨h1, h2, fun h => h3 ?_, by rw [size]; omega, by rw [depth]; omega⟩
      rw [nodesE] at h
      by_cases h0 : nodeE (.mk k n s ks) = 0
      · rw [if_pos h0] at h; exact h
      · rw [if_neg h0] at h; exact absurd h h0
    · rw [if_neg he] at hp
      simp only [List.mem_cons, List.not_mem_nil, or_false] at hp
      subst hp
      exact ⟨hm, by simpa using he, fun h => h, Nat.le_refl _, Nat.le_refl _⟩
theorem occL_one : ∀ (ts : List Tm) (m : Int), m = 1 ∨ m = -1 → ∀ p ∈ occL ts m, (p.2 = 1 ∨ p.2 = -1) ∧ expo p.1 = false ∧ (nodesL ts = 0 → nodesE p.1 = 0) ∧ size p.1 ≤ sizes ts ∧ depth p.1 ≤ depths ts
  | [], m, _, p, hp => by simp [occL] at hp
  | t :: ts, m, hm, p, hp => by
    rw [occL, List.mem_append] at hp
    have hn : nodesL (t :: ts) = 0 → nodesE t = 0 ∧ nodesL ts = 0 := fun h => by
      rw [nodesL] at h
      by_cases h0 : nodesE t = 0
      · rw [if_pos h0] at h; exact ⟨h0, h⟩
      · rw [if_neg h0] at h; exact absurd h h0
    rcases hp with hp | hp
    · obtain ⟨h1, h2, h3, h4, h5⟩ := occT_one t m hm p hp
      exact ⟨h1, h2, fun h => h3 (hn h).1, by rw [sizes]; omega, by rw [depths]; omega⟩
    · obtain ⟨h1, h2, h3, h4, h5⟩ := occL_one ts m hm p hp
      exact ⟨h1, h2, fun h => h3 (hn h).2, by rw [sizes]; omega, by rw [depths]; omega⟩
end
theorem abs_ones : ∀ {ps : List Pw}, (∀ p ∈ ps, p.2 = 1 ∨ p.2 = -1) → absS ps = ps.length
  | [], _ => rfl
  | p :: ps, h => by
    rw [absS, abs_ones (fun q hq => h q (List.mem_cons_of_mem _ hq)), List.length_cons]
    rcases h p (List.mem_cons_self ..) with e | e <;> rw [e] <;> simp <;> omega
set_option maxHeartbeats 800000 in
set_option maxRecDepth 100000 in
theorem itsKids_any (t : Tm) (b o : Nat) (w : World) (hL : Lies w t b o) :
    Calls Tryz.prog 180 #[.pointer (some ⟨b, o, none⟩)] w fun e w' => e = .returned (.bool (itsKids t)) ∧ w' = w := by
  obtain ⟨k, n, s, ks⟩ := t
  obtain ⟨g0, g1, g2, _, _, _, hl, xa, cap, g3, _⟩ := Lies_mk hL
  obtain ⟨R, hR⟩ : ∃ R, itsKids (.mk k n s ks) = R := ⟨_, rfl⟩
  rw [hR]
  have hR2 : (if n.toList == [109, 117, 108] then decide (2 ≤ ks.length) else if n.toList == [105, 110, 118] then decide (ks.length = 1) else decide (ks.length = 0)) = R := hR
  have HR := Lib.hid hR2
  clear hL hR hR2 g0 g2
  unfold maxLen at hl
  cases q1 : (n.toList == [109, 117, 108])
  rotate_left
  · have H : Hid (decide (2 ≤ ks.length) = R) := by show _ = _; rw [← HR.out, q1]; rfl
    go_enter Tryz.func180, Tryz.ntmps180
    go_wp2_with fail
    go_ret
    refine ⟨?_, rfl⟩
    rw [← H.out]
    have hq : decide ((2 : Int) ≤ (ks.length : Int)) = decide (2 ≤ ks.length) := by simp only [decide_eq_decide]; exact ⟨fun h => by exact_mod_cast h, fun h => by exact_mod_cast h⟩
    rw [← hq]; rfl
  cases q2 : (n.toList == [105, 110, 118])
  rotate_left
  · have H : Hid (decide (ks.length = 1) = R) := by show _ = _; rw [← HR.out, q1, q2]; rfl
    go_enter Tryz.func180, Tryz.ntmps180
    go_wp2_with fail
    go_ret
    refine ⟨?_, rfl⟩
    rw [← H.out]
    have hq : ((ks.length : Int) == 1) = decide (ks.length = 1) := by rw [Bool.eq_iff_iff, beq_iff_eq, decide_eq_true_iff]; exact ⟨fun h => by exact_mod_cast h, fun h => by exact_mod_cast h⟩
    rw [← hq]; rfl
  · have H : Hid (decide (ks.length = 0) = R) := by show _ = _; rw [← HR.out, q1, q2]; rfl
    go_enter Tryz.func180, Tryz.ntmps180
    go_wp2_with fail
    go_ret
    refine ⟨?_, rfl⟩
    rw [← H.out]
    have hq : ((ks.length : Int) == 0) = decide (ks.length = 0) := by rw [Bool.eq_iff_iff, beq_iff_eq, decide_eq_true_iff]; exact ⟨fun h => by exact_mod_cast h, fun h => by exact_mod_cast h⟩
    rw [← hq]; rfl
theorem LiesIn_lies' {S : Nat → Prop} {w : World} {t : Tm} {b o : Nat} (h : LiesIn S w t b o) : Lies w t b o := by
  obtain ⟨_, c0, c1, c2, c3, g0, g1, g2, g3, hI⟩ := h
  exact ⟨c0, c1, c2, c3, g0, g1, g2, g3, IsIn_Is _ _ _ _ _ hI⟩
theorem OwnP_push {H base n g cap lcap : Nat} {wr w6 w8 : World} {acc : List Pw} {xl : Option Addr} {cs : List Value} {t : Tm} {N : Int} {c0 c1 c2 c3 : Value} {ob : Obj} (hn : n = acc.length) (hown0 : wr.ownsRow H 145 5 (.slice xl n lcap) n cs) (hK : KP (fun b => b < base) wr acc cs) (hbH : base ≤ H) (hHw : H ≤ wr.heap.size) (hB : Ext wr w6)
    (hI : IsIn (fun b => b < base) w6 t c0 c1 c2 c3) (hN : i64ok N) (hown : w8.ownsRow H 145 5 (.slice (some ⟨g, 0, none⟩) (n + 1) cap) (n + 1) (cs ++ [c0, c1, c2, c3, .int .i64 N])) (hg : (w6.alloc ob).grownBy w8 (Value.slice xl n lcap).ownBlock) :
    OwnP H (fun b => b < base) w8 (acc ++ [(t, N)]) (.slice (some ⟨g, 0, none⟩) (n + 1) cap) ∧ Below H wr w8 ∧ wr.heap.size ≤ w8.heap.size := by
  subst hn
  have hlt := fun q hq => hown0.lt q hq
  have hgs := hg.size
  rw [World.size_alloc] at hgs
  have hB8 : Below H wr w8 := ((hB.mono hHw).alloc (Nat.le_trans hHw hB.size) _).grown hg (by rw [World.size_alloc]; have := hB.size; omega) (fun q hq => (hlt q hq).1)
  have hk : ∀ b, b < base → w8.heap[b]? = w6.heap[b]? := fun b hb => by
    have := hB.size
    rw [hg.block b (by rw [World.size_alloc]; omega) (fun e => by have := (hlt b e.symm).1; omega), Below.heap_alloc _ _ _ (by omega)]
  refine ⟨⟨_, by rw [List.length_append]; exact hown, KP_app (KP_carry (fun b hb => (hk b hb).trans (hB.block b (by have : b < base := hb; omega))) (fun _ h => h) hK) (KP_one (IsIn_carry hk (fun _ h => h) _ _ _ _ _ hI) hN)⟩, hB8, by have := hB.size; omega⟩
def OccPostE (H base : Nat) (w : World) (acc : List Pw) (t : Tm) (m : Int) (e : Ending) (w' : World) : Prop :=
  Below H w w' ∧ w.heap.size ≤ w'.heap.size ∧ if arityT t = true then ∃ v, e = .returned (.tuple #[v, .int .i64 0]) ∧ OwnP H (fun q => q < base) w' (acc ++ occT t m) v else e = .returned (.tuple #[.slice none 0 0, .int .i64 6])
set_option maxHeartbeats 6400000 in
set_option maxRecDepth 100000 in
theorem occ_any (H base : Nat) (hbH0 : base ≤ H) (M : Nat) : ∀ (t : Tm) (b o : Nat) (m : Int) (acc : List Pw) (v : Value) (w : World), size t ≤ M → M ≤ 1048576 → acc.length + size t ≤ 1048576 → m = 1 ∨ m = -1 → H ≤ w.heap.size → LiesIn (fun q => q < base) w t b o → OwnP H (fun q => q < base) w acc v →
    Calls Tryz.prog 144 #[.pointer (some ⟨b, o, none⟩), .int .i64 m, v] w (OccPostE H base w acc t m) := by
  induction M with
  | zero => intro t b o m acc v w h; have := size_pos t; omega
  | succ M ih =>
    intro t b o m acc v w hm hM hn0 hm1 hHw hL hO
    have hLs := LiesIn_lies' hL
    have HX := Lib.hid (isexp_any t b o w hLs)
    have HIK := Lib.hid (itsKids_any t b o w hLs)
    obtain ⟨hb, c0, c1, c2, c3, p0, p1, p2, p3, hI⟩ := hL
    have HI := Lib.hid hI
    obtain ⟨k, n, s, ks⟩ := t
    simp only [IsIn] at hI
    obtain ⟨rfl, rfl, rfl, _, _, _, hkl, ya, kcap, rfl, hkc, hKR⟩ := hI
    have hsk : size (.mk k n s ks) = 1 + sizes ks := rfl
    rw [hsk] at hm hn0
    have HKR := Lib.hid hKR
    have HBB : Hid (b < base) := hb
    have HBH := Lib.hid hbH0
    have HHw := Lib.hid hHw
    have HN := Lib.hid hn0
    have HC3 := Lib.hid p3
    have hal := length_le_sizes ks
    obtain ⟨xl, lcap, rfl⟩ := OwnP_form hO
    have HO := Lib.hid hO
    have m1 : -1 ≤ m := by omega
    have m2 : m ≤ 1 := by omega
    have hwm : IntKind.i64.wrap (-m) = -m := IntWalk.i64_in _ (by omega)
    clear hKR hb hLs
    by_cases he : expo (.mk k n s ks) = true
    rotate_left
    · obtain ⟨i0, hi0, hz0, hz1, hz2⟩ := info_parts infoPw
      have HI0 := Lib.hid (And.intro hi0 (And.intro hz0 (And.intro hz1 hz2)))
      have he' : expo (.mk k n s ks) = false := by simpa using he
      rw [he'] at HX
      have HAT : Hid (arityT (.mk k n s ks) = true) := by show _ = _; rw [arityT, if_neg he]
      have HOC : Hid (occT (.mk k n s ks) m = [(.mk k n s ks, m)]) := by show _ = _; rw [occT, if_neg he]
      obtain ⟨cs, ho, hK⟩ := hO
      have HOO := Lib.hid ho
      obtain ⟨na, hna⟩ : ∃ na, na = acc.length := ⟨_, rfl⟩
      rw [← hna] at ho HOO ⊢
      have hcl : cs.length = na * 5 := ho.1
      have hnb : na + 1 ≤ 1048576 := by omega
      have HNA := Lib.hid hna
      have HPU : Hid (∀ g cap w8 ob, w8.ownsRow H 145 5 (.slice (some ⟨g, 0, none⟩) (na + 1) cap) (na + 1) (cs ++ [.int .i64 k, .string n, .int .i64 s, .slice ya ks.length kcap, .int .i64 m]) → (w.alloc ob).grownBy w8 (Value.slice xl na lcap).ownBlock → OccPostE H base w acc (.mk k n s ks) m (.returned (.tuple #[.slice (some ⟨g, 0, none⟩) (na + 1) cap, .int .i64 0])) w8) := by
        show ∀ _, _
        intro g cap w8 ob h8 hg
        have r := OwnP_push HNA.out ho hK hbH0 hHw (Ext.refl w) HI.out (by unfold i64ok; omega) h8 hg
        refine ⟨r.2.1, r.2.2, ?_⟩
        rw [HAT.out, HOC.out]
        exact ⟨_, rfl, r.1⟩
      clear ho hK he he' hna
      go_enter Tryz.func144, Tryz.ntmps144
      go_wp2_with (first
        | (go_at_call 179; refine (HX.out).mono ?_; rintro e w3 ⟨he, hw⟩; subst he; have hw' := hw.symm; subst hw')
        | (at_builtin; refine wpList_append_lies _ rfl _ _ _ rfl H 145 i0 _ 5 64 Tryz.underlying109 HI0.out.1 HI0.out.2.1 HI0.out.2.2.1 HI0.out.2.2.2 rfl (by omega) (.slice xl na lcap) na cs rfl (HOO.out.alloc _) ⟨w.heap.size, 0, none⟩ 1 1 [.int .i64 k, .string n, .int .i64 s, .slice ya ks.length kcap, .int .i64 m] rfl rfl (World.news_of_block (cs := #[.int .i64 k, .string n, .int .i64 s, .slice ya ks.length kcap, .int .i64 m]) (t := 145) (fr := (0, 0)) (heap_alloc_new w _)) (by simp [Value.oneCell']) (by omega) (by unfold maxLen; omega) (by omega) (by simp; omega) (w.heap.size + 1) (by simp) ?_; intro gg cap8 w8 hown8 hgrow hat hltt; have HF := Lib.hid (HPU.out _ _ _ _ hown8 hgrow); clear hown8 hgrow hat hltt))
      exact bodyPost_ret (v := .tuple #[.slice (some ⟨gg, 0, none⟩) (na + 1) cap8, .int .i64 0]) (by simp [results, Tryz.results144, go_sem]) rfl HF.out
    rw [he] at HX
    obtain ⟨kk, hkk⟩ : ∃ x, itsKids (.mk k n s ks) = x := ⟨_, rfl⟩
    rw [hkk] at HIK
    cases kk with
    | false =>
      have HQ : Hid (OccPostE H base w acc (.mk k n s ks) m (.returned (.tuple #[.slice none 0 0, .int .i64 6])) w) := by
        show OccPostE _ _ _ _ _ _ _ _
        have ha : arityT (.mk k n s ks) = false := by rw [arityT, if_pos he, hkk]; rfl
        refine ⟨Below.refl _ _, Nat.le_refl _, ?_⟩
        rw [ha]; rfl
      clear he hkk
      go_enter Tryz.func144, Tryz.ntmps144
      go_wp2_with (first
        | (go_at_call 179; refine (HX.out).mono ?_; rintro e w3 ⟨he, hw⟩; subst he; have hw' := hw.symm; subst hw')
        | (go_at_call 180; refine (HIK.out).mono ?_; rintro e w3 ⟨he, hw⟩; subst he; have hw' := hw.symm; subst hw'))
      exact bodyPost_ret (v := .tuple #[.slice none 0 0, .int .i64 6]) (by simp [results, Tryz.results144, go_sem]) rfl HQ.out
    | true =>
    have HAT : Hid (arityT (.mk k n s ks) = arityL ks) := by show _ = _; rw [arityT, if_pos he, hkk]; rfl
    cases qi : (n.toList == [105, 110, 118])
    · have qi' : (n.toList == [105, 110, 118]) = false := qi
      have HM : Hid ((if n.toList == [105, 110, 118] then -m else m) = m) := by show _ = _; rw [qi]; rfl
      have HOC : Hid (occT (.mk k n s ks) m = occL ks m) := by show _ = _; rw [occT, if_pos he, HM.out]
      clear he
      go_enter Tryz.func144, Tryz.ntmps144
      go_wp2_with (first
        | (go_at_call 179; refine (HX.out).mono ?_; rintro e w3 ⟨he, hw⟩; subst he; have hw' := hw.symm; subst hw')
        | (go_at_call 180; refine (HIK.out).mono ?_; rintro e w3 ⟨he, hw⟩; subst he; have hw' := hw.symm; subst hw'))
      go_loopw [2, 36] (fun lv i wr => ∃ j : Nat, j ≤ ks.length ∧ i = .int .i64 j ∧ OwnP H (fun q => q < base) wr (acc ++ occL (ks.take j) m) lv ∧ Below H w wr ∧ w.heap.size ≤ wr.heap.size ∧ Hid (arityL (ks.take j) = true)) (fun _ i _ => ks.length - (intOf i).toNat)
      case atStart => exact ⟨0, Nat.zero_le _, rfl, by simpa [occL] using HO.out, Below.refl _ _, Nat.le_refl _, by show _ = _; simp [arityL]⟩
      case round =>
        obtain ⟨j, hj, rfl, hOr, hB, hws, HAR⟩ := hrel
        have HB := Lib.hid hB
        have HWS := Lib.hid hws
        by_cases hlt : j < ks.length
        rotate_left
        · have hjl : j = ks.length := by omega
          obtain ⟨xr, cr, rfl⟩ := OwnP_form hOr
          have HQ : Hid (OccPostE H base w acc (.mk k n s ks) m (.returned (.tuple #[.slice xr (acc ++ occL (ks.take j) m).length cr, .int .i64 0])) wr) := by
            show OccPostE _ _ _ _ _ _ _ _
            refine ⟨hB, hws, ?_⟩
            have ha := HAR.out
            rw [hjl, List.take_length] at ha hOr ⊢
            rw [HAT.out, ha, HOC.out]
            exact ⟨_, rfl, hOr⟩
          clear hOr hB hjl hws
          go_wp2_with fail
          exact bodyPost_ret (v := .tuple #[.slice xr (acc ++ occL (ks.take j) m).length cr, .int .i64 0]) (by simp [results, Tryz.results144, go_sem]) rfl HQ.out
        obtain ⟨kb, ko, rfl⟩ := RowIn_at HKR.out (by omega)
        have hl1 := LiesIn_carry (w' := wr) (S' := fun q => q < base) (fun q hq => hB.block q (Nat.lt_of_lt_of_le hq HBH.out)) (fun _ h => h) (RowIn_get HKR.out j hlt)
        have hc0 : wr.cell? ⟨b, o + 3, none⟩ = some (.slice (some ⟨kb, ko, none⟩) ks.length kcap) := by
          rw [World.cell?_of_block (w := w) (a := ⟨b, o + 3, none⟩) (hB.block b (Nat.lt_of_lt_of_le HBB.out HBH.out))]; exact HC3.out
        have hst := sizes_take ks j hlt
        have hsl := sizes_take_le ks (j + 1)
        have hol := occL_len (ks.take j) m
        obtain ⟨xr, cr, rfl⟩ := OwnP_form hOr
        have HC := Lib.hid (ih ks[j] kb (ko + j * 4) m (acc ++ occL (ks.take j) m) (.slice xr (acc ++ occL (ks.take j) m).length cr) wr (by omega) (by omega) (by rw [List.length_append]; have := HN.out; omega) (by omega) (Nat.le_trans HHw.out hws) hl1 hOr)
        have HO2 : Hid ((acc ++ occL (ks.take j) m) ++ occT ks[j] m = acc ++ occL (ks.take (j + 1)) m) := by show _ = _; rw [occL_take ks j hlt, List.append_assoc]
        have HA2 := Lib.hid (arityL_take ks j hlt)
        have HAM := Lib.hid (fun h => arityL_mem (ks := ks) hlt h)
        generalize acc ++ occL (ks.take j) m = acc2 at hOr HC HO2 ⊢
        unfold OccPostE at HC
        have i1 : (0 : Int) ≤ (j : Int) := by omega
        have i2 : (j : Int) < (ks.length : Int) := by omega
        cases hta : arityT ks[j] with
        | false =>
          rw [hta] at HC HA2
          have HQ : Hid (∀ W, Below H wr W → wr.heap.size ≤ W.heap.size → OccPostE H base w acc (.mk k n s ks) m (.returned (.tuple #[.slice none 0 0, .int .i64 6])) W) := by
            show ∀ _, _
            intro W x y
            refine ⟨HB.out.trans x, Nat.le_trans HWS.out y, ?_⟩
            rw [HAT.out, HAM.out hta]; rfl
          clear hOr hB hl1 hst hsl hol hta hws
          go_wp2_with (go_at_call 144; refine (HC.out).mono ?_; rintro e w4 ⟨hB4, hs4, he⟩; simp only [Bool.false_eq_true, if_false] at he; subst he; have HB4 := Lib.hid (And.intro hB4 hs4); clear hB4 hs4)
          exact bodyPost_ret (v := .tuple #[.slice none 0 0, .int .i64 6]) (by simp [results, Tryz.results144, go_sem]) rfl (HQ.out _ HB4.out.1 HB4.out.2)
        | true =>
          rw [hta] at HC HA2
          clear hOr hB hl1 hst hsl hol hta hws
          go_wp2_with (go_at_call 144; refine (HC.out).mono ?_; rintro e w4 ⟨hB4, hs4, he⟩; simp only [if_true] at he; obtain ⟨v4, he, hO4⟩ := he; subst he; have HB4 := Lib.hid (And.intro hB4 hs4); have HO4 := Lib.hid hO4; clear hB4 hs4 hO4)
          go_roundw
          case rel => exact ⟨j + 1, by omega, by go_num, by rw [← HO2.out]; exact HO4.out, HB.out.trans HB4.out.1, Nat.le_trans HWS.out HB4.out.2, by show _ = _; rw [HA2.out, HAR.out]; rfl⟩
          case measure => simp [intOf]; omega
    · have qi' : (n.toList == [105, 110, 118]) = true := qi
      have HM : Hid ((if n.toList == [105, 110, 118] then -m else m) = (-m)) := by show _ = _; rw [qi]; rfl
      have HOC : Hid (occT (.mk k n s ks) m = occL ks (-m)) := by show _ = _; rw [occT, if_pos he, HM.out]
      clear he
      go_enter Tryz.func144, Tryz.ntmps144
      go_wp2_with (first
        | (go_at_call 179; refine (HX.out).mono ?_; rintro e w3 ⟨he, hw⟩; subst he; have hw' := hw.symm; subst hw')
        | (go_at_call 180; refine (HIK.out).mono ?_; rintro e w3 ⟨he, hw⟩; subst he; have hw' := hw.symm; subst hw'))
      go_loopw [2, 36] (fun lv i wr => ∃ j : Nat, j ≤ ks.length ∧ i = .int .i64 j ∧ OwnP H (fun q => q < base) wr (acc ++ occL (ks.take j) (-m)) lv ∧ Below H w wr ∧ w.heap.size ≤ wr.heap.size ∧ Hid (arityL (ks.take j) = true)) (fun _ i _ => ks.length - (intOf i).toNat)
      case atStart => exact ⟨0, Nat.zero_le _, rfl, by simpa [occL] using HO.out, Below.refl _ _, Nat.le_refl _, by show _ = _; simp [arityL]⟩
      case round =>
        obtain ⟨j, hj, rfl, hOr, hB, hws, HAR⟩ := hrel
        have HB := Lib.hid hB
        have HWS := Lib.hid hws
        by_cases hlt : j < ks.length
        rotate_left
        · have hjl : j = ks.length := by omega
          obtain ⟨xr, cr, rfl⟩ := OwnP_form hOr
          have HQ : Hid (OccPostE H base w acc (.mk k n s ks) m (.returned (.tuple #[.slice xr (acc ++ occL (ks.take j) (-m)).length cr, .int .i64 0])) wr) := by
            show OccPostE _ _ _ _ _ _ _ _
            refine ⟨hB, hws, ?_⟩
            have ha := HAR.out
            rw [hjl, List.take_length] at ha hOr ⊢
            rw [HAT.out, ha, HOC.out]
            exact ⟨_, rfl, hOr⟩
          clear hOr hB hjl hws
          go_wp2_with fail
          exact bodyPost_ret (v := .tuple #[.slice xr (acc ++ occL (ks.take j) (-m)).length cr, .int .i64 0]) (by simp [results, Tryz.results144, go_sem]) rfl HQ.out
        obtain ⟨kb, ko, rfl⟩ := RowIn_at HKR.out (by omega)
        have hl1 := LiesIn_carry (w' := wr) (S' := fun q => q < base) (fun q hq => hB.block q (Nat.lt_of_lt_of_le hq HBH.out)) (fun _ h => h) (RowIn_get HKR.out j hlt)
        have hc0 : wr.cell? ⟨b, o + 3, none⟩ = some (.slice (some ⟨kb, ko, none⟩) ks.length kcap) := by
          rw [World.cell?_of_block (w := w) (a := ⟨b, o + 3, none⟩) (hB.block b (Nat.lt_of_lt_of_le HBB.out HBH.out))]; exact HC3.out
        have hst := sizes_take ks j hlt
        have hsl := sizes_take_le ks (j + 1)
        have hol := occL_len (ks.take j) (-m)
        obtain ⟨xr, cr, rfl⟩ := OwnP_form hOr
        have HC := Lib.hid (ih ks[j] kb (ko + j * 4) (-m) (acc ++ occL (ks.take j) (-m)) (.slice xr (acc ++ occL (ks.take j) (-m)).length cr) wr (by omega) (by omega) (by rw [List.length_append]; have := HN.out; omega) (by omega) (Nat.le_trans HHw.out hws) hl1 hOr)
        have HO2 : Hid ((acc ++ occL (ks.take j) (-m)) ++ occT ks[j] (-m) = acc ++ occL (ks.take (j + 1)) (-m)) := by show _ = _; rw [occL_take ks j hlt, List.append_assoc]
        have HA2 := Lib.hid (arityL_take ks j hlt)
        have HAM := Lib.hid (fun h => arityL_mem (ks := ks) hlt h)
        generalize acc ++ occL (ks.take j) (-m) = acc2 at hOr HC HO2 ⊢
        unfold OccPostE at HC
        have i1 : (0 : Int) ≤ (j : Int) := by omega
        have i2 : (j : Int) < (ks.length : Int) := by omega
        cases hta : arityT ks[j] with
        | false =>
          rw [hta] at HC HA2
          have HQ : Hid (∀ W, Below H wr W → wr.heap.size ≤ W.heap.size → OccPostE H base w acc (.mk k n s ks) m (.returned (.tuple #[.slice none 0 0, .int .i64 6])) W) := by
            show ∀ _, _
            intro W x y
            refine ⟨HB.out.trans x, Nat.le_trans HWS.out y, ?_⟩
            rw [HAT.out, HAM.out hta]; rfl
          clear hOr hB hl1 hst hsl hol hta hws
          go_wp2_with (go_at_call 144; refine (HC.out).mono ?_; rintro e w4 ⟨hB4, hs4, he⟩; simp only [Bool.false_eq_true, if_false] at he; subst he; have HB4 := Lib.hid (And.intro hB4 hs4); clear hB4 hs4)
          exact bodyPost_ret (v := .tuple #[.slice none 0 0, .int .i64 6]) (by simp [results, Tryz.results144, go_sem]) rfl (HQ.out _ HB4.out.1 HB4.out.2)
        | true =>
          rw [hta] at HC HA2
          clear hOr hB hl1 hst hsl hol hta hws
          go_wp2_with (go_at_call 144; refine (HC.out).mono ?_; rintro e w4 ⟨hB4, hs4, he⟩; simp only [if_true] at he; obtain ⟨v4, he, hO4⟩ := he; subst he; have HB4 := Lib.hid (And.intro hB4 hs4); have HO4 := Lib.hid hO4; clear hB4 hs4 hO4)
          go_roundw
          case rel => exact ⟨j + 1, by omega, by go_num, by rw [← HO2.out]; exact HO4.out, HB.out.trans HB4.out.1, Nat.le_trans HWS.out HB4.out.2, by show _ = _; rw [HA2.out, HAR.out]; rfl⟩
          case measure => simp [intOf]; omega
end Go.Proofs.YtbcpnepjojppaaaGreatDoor
namespace Go.Proofs.YtbcpnepjojppaaaGreatDoor
open Go.RowKit
def addG (t : Tm) (n : Int) : List Pw → Bool → List Pw
  | [], d => if d = true then [] else [(t, n)]
  | p :: ps, d => if cmpT t p.1 = 0 then (if p.2 + n = 0 then addG t n ps true else (p.1, p.2 + n) :: addG t n ps true)
    else if d = false ∧ cmpT t p.1 < 0 then (t, n) :: (if p.2 = 0 then addG t n ps true else p :: addG t n ps true)
    else if p.2 = 0 then addG t n ps d else p :: addG t n ps d
def addP (l : List Pw) (p : Pw) : List Pw := addG p.1 p.2 l false
theorem addG_true {t : Tm} {n : Int} : ∀ {l : List Pw}, NormP l → (∀ p ∈ l, cmpT t p.1 < 0) → addG t n l true = l
  | [], _, _ => rfl
  | p :: ps, h, ht => by
    have h1 := ht p (List.mem_cons_self ..)
    have h2 := h.2 p (List.mem_cons_self ..)
    rw [addG, if_neg (by omega), if_neg (by simp), if_neg h2, addG_true ⟨(List.pairwise_cons.1 h.1).2, fun q hq => h.2 q (List.mem_cons_of_mem _ hq)⟩ (fun q hq => ht q (List.mem_cons_of_mem _ hq))]
theorem addG_norm {t : Tm} {n : Int} (hn : ¬ n = 0) : ∀ {l : List Pw}, NormP l → NormP (addG t n l false) ∧ (∀ q ∈ addG t n l false, q.1 = t ∨ ∃ p ∈ l, q.1 = p.1) ∧ ∀ u, pwr (addG t n l false) u = pwr l u + (if cmpT t u = 0 then n else 0)
  | [], _ => by
    have e : addG t n [] false = [(t, n)] := by rw [addG, if_neg (by simp)]
    rw [e]
    exact ⟨⟨List.pairwise_singleton _ _, fun p hp => by simp only [List.mem_cons, List.not_mem_nil, or_false] at hp; rw [hp]; exact hn⟩, fun q hq => by simp only [List.mem_cons, List.not_mem_nil, or_false] at hq; rw [hq]; exact Or.inl rfl, fun u => by simp [pwr]⟩
  | p :: ps, h => by
    obtain ⟨p1, p2⟩ := List.pairwise_cons.1 h.1
    have hp0 := h.2 p (List.mem_cons_self ..)
    have hps : NormP ps := ⟨p2, fun q hq => h.2 q (List.mem_cons_of_mem _ hq)⟩
    rw [addG]
    by_cases hc : cmpT t p.1 = 0
    · have e := cmpT_zero _ _ hc
      have et : addG t n ps true = ps := addG_true hps (fun q hq => by rw [e]; exact p1 q hq)
      rw [if_pos hc, et]
      by_cases h0 : p.2 + n = 0
      · rw [if_pos h0]
        refine ⟨hps, fun q hq => Or.inr ⟨q, List.mem_cons_of_mem _ hq, rfl⟩, fun u => ?_⟩
        rw [pwr, e]
        split <;> omega
      · rw [if_neg h0]
        refine ⟨⟨List.pairwise_cons.2 ⟨p1, p2⟩, fun q hq => ?_⟩, fun q hq => ?_, fun u => ?_⟩
        · rcases List.mem_cons.1 hq with rfl | hq
          · exact h0
          · exact hps.2 q hq
        · rcases List.mem_cons.1 hq with rfl | hq
          · exact Or.inl e.symm
          · exact Or.inr ⟨q, List.mem_cons_of_mem _ hq, rfl⟩
        · rw [pwr, pwr, e]
          simp only
          split <;> omega
    · rw [if_neg hc]
      by_cases hl : cmpT t p.1 < 0
      · have et : addG t n ps true = ps := addG_true hps (fun q hq => cmpT_trans hl (p1 q hq))
        rw [if_pos ⟨rfl, hl⟩, if_neg hp0, et]
        refine ⟨⟨List.pairwise_cons.2 ⟨fun q hq => ?_, h.1⟩, fun q hq => ?_⟩, fun q hq => ?_, fun u => ?_⟩
        · rcases List.mem_cons.1 hq with rfl | hq
          · exact hl
          · exact cmpT_trans hl (p1 q hq)
        · rcases List.mem_cons.1 hq with rfl | hq
          · exact hn
          · exact h.2 q hq
        · rcases List.mem_cons.1 hq with rfl | hq
          · exact Or.inl rfl
          · exact Or.inr ⟨q, hq, rfl⟩
        · rw [pwr]
          simp only
          omega
      · obtain ⟨i1, i2, i3⟩ := addG_norm (t := t) hn hps
        rw [if_neg (fun x => hl x.2), if_neg hp0]
        have hgt : cmpT p.1 t < 0 := by have := cmpT_anti t p.1; omega
        refine ⟨⟨List.pairwise_cons.2 ⟨fun q hq => ?_, i1.1⟩, fun q hq => ?_⟩, fun q hq => ?_, fun u => ?_⟩
        · rcases i2 q hq with e | ⟨r, hr, e⟩
          · rw [e]; exact hgt
          · rw [e]; exact p1 r hr
        · rcases List.mem_cons.1 hq with rfl | hq
          · exact hp0
          · exact i1.2 q hq
        · rcases List.mem_cons.1 hq with rfl | hq
          · exact Or.inr ⟨_, List.mem_cons_self .., rfl⟩
          · rcases i2 q hq with e | ⟨r, hr, e⟩
            · exact Or.inl e
            · exact Or.inr ⟨r, List.mem_cons_of_mem _ hr, e⟩
        · rw [pwr, pwr, i3 u]; omega
def addsP (l ps : List Pw) : List Pw := ps.foldl addP l
theorem addsP_norm : ∀ (ps : List Pw) {l : List Pw}, NormP l → (∀ p ∈ ps, ¬ p.2 = 0) → NormP (addsP l ps) ∧ (∀ q ∈ addsP l ps, (∃ p ∈ ps, q.1 = p.1) ∨ ∃ p ∈ l, q.1 = p.1) ∧ ∀ u, pwr (addsP l ps) u = pwr l u + pwr ps u
  | [], l, h, _ => ⟨h, fun q hq => Or.inr ⟨q, hq, rfl⟩, fun u => by simp [addsP, pwr]⟩
  | p :: ps, l, h, hz => by
    obtain ⟨a1, a2, a3⟩ := addG_norm (t := p.1) (hz p (List.mem_cons_self ..)) h
    obtain ⟨b1, b2, b3⟩ := addsP_norm ps (l := addP l p) a1 (fun q hq => hz q (List.mem_cons_of_mem _ hq))
    refine ⟨b1, fun q hq => ?_, fun u => ?_⟩
    · rcases b2 q hq with ⟨r, hr, e⟩ | ⟨r, hr, e⟩
      · exact Or.inl ⟨r, List.mem_cons_of_mem _ hr, e⟩
      · rcases a2 r hr with e2 | ⟨x, hx, e2⟩
        · exact Or.inl ⟨p, List.mem_cons_self .., e.trans e2⟩
        · exact Or.inr ⟨x, hx, e.trans e2⟩
    · have := b3 u
      rw [show addsP l (p :: ps) = addsP (addP l p) ps from rfl, this, show pwr (addP l p) u = pwr l u + (if cmpT p.1 u = 0 then p.2 else 0) from a3 u, pwr]
      omega
theorem normP_nil : NormP [] := ⟨List.Pairwise.nil, fun p hp => by simp at hp⟩
def ofP (t : Tm) : List Pw × Int := if validE t = 0 then (if arityT t = true then (if 200 < (addsP [] (occT t 1)).length then ([], 3) else (addsP [] (occT t 1), 0)) else ([], 6)) else ([], validE t)
theorem gath_adds {ps qs : List Pw} (hz : ∀ p ∈ ps, ¬ p.2 = 0) (h : NormP qs) (he : ∀ t, pwr qs t = pwr ps t) : qs = addsP [] ps := by
  obtain ⟨a, _, b⟩ := addsP_norm ps normP_nil hz
  exact norm_ext h a fun t => by rw [he, b, pwr]; omega
def PePost (w : World) (r : List Pw × Int) (e : Ending) (w' : World) : Prop :=
  ∃ xa c, e = .returned (.tuple #[.slice xa r.1.length c, .int .i64 r.2]) ∧ r.1.length ≤ c ∧ PRow w' r.1 xa ∧ Below w.heap.size w w'
theorem PePost_err {w W : World} {r : List Pw × Int} {x : Int} (h : r = ([], x)) (hB : Below w.heap.size w W) : PePost w r (.returned (.tuple #[.slice none 0 0, .int .i64 x])) W := by
  rw [h]; exact ⟨none, 0, rfl, Nat.le_refl _, Or.inl rfl, hB⟩
theorem pwr_i64 {qs ps : List Pw} (h : NormP qs) (he : ∀ t, pwr qs t = pwr ps t) (ha : absS ps ≤ 4611686018427387904) : ∀ q ∈ qs, i64ok q.2 := fun q hq => by
  have h1 := norm_get h hq
  have h2 := pwr_abs ps q.1
  rw [he] at h1
  unfold i64ok; omega
set_option maxHeartbeats 6400000 in
set_option maxRecDepth 100000 in
theorem Of_any (t : Tm) (c0 c1 c2 c3 : Value) (w : World) (hM : size t ≤ 1048570) (hI : Is w t c0 c1 c2 c3) :
    Calls Tryz.prog 111 #[.agg #[c0, c1, c2, c3]] w (PePost w (ofP t)) := by
  obtain ⟨k, n, s, xa, l, cap, rfl, rfl, rfl, rfl⟩ := Is_form hI
  have hb1 := heap_alloc_new w (.cells #[.int .i64 k, .string n, .int .i64 s, .slice xa l cap] 24)
  have hBw : Below w.heap.size w (w.alloc (.cells #[.int .i64 k, .string n, .int .i64 s, .slice xa l cap] 24)) := (Below.refl _ _).alloc (Nat.le_refl _) _
  have HV := Lib.hid (fun W (x : Ext w W) => tValid_any t _ _ _ _ W (by omega) (Is_below (w' := W) hI x))
  have hLi : LiesIn (fun q => q < w.heap.size + 1) (w.alloc (.cells #[.int .i64 k, .string n, .int .i64 s, .slice xa l cap] 24)) t w.heap.size 0 := by
    obtain ⟨⟨y0, y1, y2, y3⟩, _⟩ := box_facts hb1
    refine ⟨Nat.lt_succ_self _, _, _, _, _, y0, y1, y2, y3, ?_⟩
    exact IsIn_carry (fun b hb => Below.heap_alloc _ _ _ hb) (fun b hb => Nat.lt_succ_of_lt hb) _ _ _ _ _ (Is_IsIn _ _ _ _ _ hI)
  have hZ : (w.alloc (.cells #[.int .i64 k, .string n, .int .i64 s, .slice xa l cap] 24)).heap.size = w.heap.size + 1 := World.size_alloc _ _
  have HOC := Lib.hid (fun W (x : Ext (w.alloc (.cells #[.int .i64 k, .string n, .int .i64 s, .slice xa l cap] 24)) W) => occ_any (w.heap.size + 1) (w.heap.size + 1) (Nat.le_refl _) (size t) t w.heap.size 0 1 [] (.slice none 0 0) W (Nat.le_refl _) (by omega) (by simp only [List.length_nil]; omega) (Or.inl rfl) (by have := x.size; omega) (LiesIn_carry (fun b hb => x.block b (by rw [hZ]; exact hb)) (fun _ h => h) hLi) (OwnP_nil _ _ W))
  have HD : Hid (ofP t = if validE t = 0 then (if arityT t = true then (if 200 < (addsP [] (occT t 1)).length then ([], 3) else (addsP [] (occT t 1), 0)) else ([], 6)) else ([], validE t)) := rfl
  have HB := Lib.hid hBw
  have hbx := box_facts hb1
  have HBX : Hid (∀ W, Ext (w.alloc (.cells #[.int .i64 k, .string n, .int .i64 s, .slice xa l cap] 24)) W → W.cell? ⟨w.heap.size, 0, none⟩ = some (.int .i64 k) ∧ W.cell? ⟨w.heap.size, 1, none⟩ = some (.string n) ∧ W.cell? ⟨w.heap.size, 2, none⟩ = some (.int .i64 s) ∧ W.cell? ⟨w.heap.size, 3, none⟩ = some (.slice xa l cap)) := fun W x => (box_facts ((x.block _ (by rw [hZ]; exact Nat.lt_succ_self _)).trans hb1)).1
  have HON := Lib.hid (occT_one t 1 (Or.inl rfl))
  have HLN := Lib.hid (occT_len t 1)
  have HM := Lib.hid hM
  generalize ofP t = R at HD ⊢
  clear hI hb1 hBw hLi hbx
  have HZ := Lib.hid hZ
  clear hZ
  by_cases hv : validE t = 0
  rotate_left
  · have HE : Hid (R = ([], validE t)) := by show _ = _; rw [HD.out, if_neg hv]
    generalize validE t = E at hv HV HE
    have q1 : (E != 0) = true := by rw [bne_iff_ne]; exact hv
    clear hv
    go_enter Tryz.func111, Tryz.ntmps111
    go_wp2_with (go_at_call 52; refine (HV.out _ HB.out).mono ?_; rintro e w1 ⟨he, hB⟩; subst he; have HB1 := Lib.hid (Ext.trans (a := w) HB.out hB); clear hB)
    exact bodyPost_ret (v := .tuple #[.slice none 0 0, .int .i64 E]) (by simp [results, Tryz.results111, go_sem]) rfl (PePost_err HE.out HB1.out)
  rw [hv] at HV
  have HD2 : Hid (R = if arityT t = true then (if 200 < (addsP [] (occT t 1)).length then ([], 3) else (addsP [] (occT t 1), 0)) else ([], 6)) := by show _ = _; rw [HD.out, if_pos hv]
  have q0 : ((0 : Int) != 0) = false := rfl
  unfold OccPostE at HOC
  clear HD
  cases ha : arityT t with
  | false =>
    have HE : Hid (R = ([], 6)) := by show _ = _; rw [HD2.out, ha]; rfl
    rw [ha] at HOC
    clear ha hv
    go_enter Tryz.func111, Tryz.ntmps111
    go_wp2_with (first
      | (go_at_call 52; refine (HV.out _ HB.out).mono ?_; rintro e w1 ⟨he, hB⟩; subst he; have HX1 : Hid (Ext _ w1) := Lib.hid hB; clear hB)
      | (go_at_call 144; refine (HOC.out _ HX1.out).mono ?_; rintro e w2 ⟨hB, hs, he⟩; simp only [Bool.false_eq_true, if_false] at he; subst he; have HB2 := Lib.hid (show Below w.heap.size w w2 from HB.out.trans ((HX1.out.mono (by rw [HZ.out]; exact Nat.le_succ _)).trans (hB.mono (Nat.le_succ _)))); clear hB hs))
    exact bodyPost_ret (v := .tuple #[.slice none 0 0, .int .i64 6]) (by simp [results, Tryz.results111, go_sem]) rfl (PePost_err HE.out HB2.out)
  | true =>
    rw [ha] at HOC
    have HD3 : Hid (R = if 200 < (addsP [] (occT t 1)).length then ([], 3) else (addsP [] (occT t 1), 0)) := by show _ = _; rw [HD2.out, ha]; rfl
    have HONE : Hid (∀ p ∈ occT t 1, ¬ p.2 = 0) := by show ∀ _, _; intro p hp; rcases (HON.out p hp).1 with e | e <;> rw [e] <;> omega
    have HAB : Hid (absS (occT t 1) ≤ 4611686018427387904) := by show _ ≤ _; rw [abs_ones (fun p hp => (HON.out p hp).1)]; have := HLN.out; have := HM.out; omega
    have HSZ : Hid (SzP 1073741824 (occT t 1)) := fun p hp => by have := (HON.out p hp).2.2.2.1; have := HM.out; omega
    have HLE : Hid ((occT t 1).length < 1073741824) := by show _ < _; have := HLN.out; have := HM.out; omega
    generalize occT t 1 = os at HOC HD3 HONE HAB HSZ HLE
    have HGA : Hid (∀ qs : List Pw, NormP qs → (∀ u, pwr qs u = pwr os u) → qs = addsP [] os ∧ ∀ q ∈ qs, i64ok q.2) := fun qs h1 h2 => ⟨gath_adds HONE.out h1 h2, pwr_i64 h1 h2 HAB.out⟩
    clear ha hv HD2 HON HLN
    go_enter Tryz.func111, Tryz.ntmps111
    go_upto_region 7 with (first
      | (go_at_call 52; refine (HV.out _ HB.out).mono ?_; rintro e w1 ⟨he, hB⟩; subst he; have HX1 : Hid (Ext _ w1) := Lib.hid hB; clear hB)
      | (go_at_call 144; refine (HOC.out _ HX1.out).mono ?_; rintro e w2 ⟨hB, hs, he⟩; simp only [if_true, List.nil_append] at he; obtain ⟨v2, he, hO2⟩ := he; subst he; have HO2 := Lib.hid hO2; have HS2 : Hid (w.heap.size + 1 ≤ w2.heap.size) := (by have h1 := HX1.out.size; have h2 := HZ.out; omega : w.heap.size + 1 ≤ w2.heap.size); have HB2 := Lib.hid (show Below w.heap.size w w2 from HB.out.trans ((HX1.out.mono (by rw [HZ.out]; exact Nat.le_succ _)).trans (hB.mono (Nat.le_succ _)))); clear hB hs hO2))
    have HG := Lib.hid (gathered_any HO2.out (fun b hb => hb) HS2.out HSZ.out HLE.out HAB.out)
    unfold GaPost at HG
    go_upto_region 8 with (go_at_call 145; refine (HG.out).mono ?_; rintro e w3 ⟨qs, xq, cq, he, hr, hc, hle, hnm, hpw, hz, hB, hs⟩; subst he; have HQ := Lib.hid (HGA.out qs hnm hpw); have HR3 := Lib.hid hr; have HZ3 := Lib.hid hz; have HB3 := Lib.hid (HB2.out.trans (hB.mono (Nat.le_succ _))); have HQL : Hid (qs.length < 1073741824) := Lib.hid (Nat.lt_of_le_of_lt hle HLE.out); clear hr hc hle hnm hpw hz hB hs)
    have hqe := HQ.out.1
    have HD4 : Hid (R = if 200 < qs.length then ([], 3) else (qs, 0)) := by show _ = _; rw [HD3.out, ← hqe]
    clear hqe HD3
    by_cases h200 : 200 < qs.length
    · have HE : Hid (R = ([], 3)) := by show _ = _; rw [HD4.out, if_pos h200]
      have q2 : (200 : Int) < (qs.length : Int) := by omega
      clear h200
      go_wp2_with fail
      exact bodyPost_ret (v := .tuple #[.slice none 0 0, .int .i64 3]) (by simp [results, Tryz.results111, go_sem]) rfl (PePost_err HE.out HB3.out)
    · have HE : Hid (R = (qs, 0)) := by show _ = _; rw [HD4.out, if_neg h200]
      have q2 : (qs.length : Int) ≤ 200 := by omega
      have HSC := Lib.hid (scaled_any 1 qs xq cq w3 (by omega) HZ3.out HR3.out)
      rw [scalP_one HQ.out.2] at HSC
      unfold PwPost at HSC
      clear h200
      go_wp2_with (go_at_call 146; refine (HSC.out).mono ?_; rintro e w4 ⟨x4, c4, he, hc, hr, hB⟩; subst he; have HF : Hid (PePost w R (.returned (.tuple #[.slice x4 qs.length c4, .int .i64 0])) w4) := Lib.hid (by rw [HE.out]; exact ⟨x4, c4, rfl, hc, hr, Ext.trans (a := w) HB3.out hB⟩); clear hc hr hB)
      exact bodyPost_ret (v := .tuple #[.slice x4 qs.length c4, .int .i64 0]) (by simp [results, Tryz.results111, go_sem]) rfl HF.out
end Go.Proofs.YtbcpnepjojppaaaGreatDoor
