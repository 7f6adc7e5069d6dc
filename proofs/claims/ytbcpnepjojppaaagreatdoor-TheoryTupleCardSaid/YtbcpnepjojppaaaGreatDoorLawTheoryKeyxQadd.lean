import Derived.Test.YtbcpnepjojppaaaGreatDoorLawTheoryKeyxPos
import Derived.Test.YtbcpnepjojppaaaGreatDoorLawTheoryKeyxSetof
import Derived.Test.YtbcpnepjojppaaaGreatDoorLawTheoryKeyxValid
namespace Go.Proofs.YtbcpnepjojppaaaGreatDoor
open Go.RowKit
def sumB (t : Tm) : Bool := decide (t.kind = 3) && (t.name.toList == [120, 111, 114] || (t.name.toList == [122, 101, 114, 111] && decide (t.kids.length = 0)))
theorem sumB_mk (k : Int) (n : ByteArray) (s : Int) (ks : List Tm) : sumB (.mk k n s ks) = (decide (k = 3) && (n.toList == [120, 111, 114] || (n.toList == [122, 101, 114, 111] && decide (ks.length = 0)))) := rfl
mutual
/-- What a term adds: also what cancels. -/
def addT : Tm → List Tm
  | .mk k n s ks => if sumB (.mk k n s ks) = true then addsT ks else [.mk k n s ks]
def addsT : List Tm → List Tm
  | [] => []
  | t :: ts => addT t ++ addsT ts
end
theorem addsT_take (ks : List Tm) (j : Nat) (h : j < ks.length) : addsT (ks.take (j + 1)) = addsT (ks.take j) ++ addT ks[j] := by
  induction ks generalizing j with
  | nil => simp at h
  | cons t ts ih =>
    cases j with
    | zero => simp [addsT]
    | succ j =>
      rw [List.take_succ_cons, List.take_succ_cons, addsT, addsT, ih j (by simpa using h), List.append_assoc]; rfl
mutual
theorem addT_len : ∀ t : Tm, (addT t).length ≤ size t
  | .mk k n s ks => by
    rw [addT, size]
    split
    · have := addsT_len ks; omega
    · simp
theorem addsT_len : ∀ ts : List Tm, (addsT ts).length ≤ sizes ts
  | [] => by simp [addsT]
  | t :: ts => by
    rw [addsT, sizes, List.length_append]
    have := addT_len t
    have := addsT_len ts
    omega
end
mutual
theorem addT_mem : ∀ (t u : Tm), u ∈ addT t → sumB u = false ∧ (nodesE t = 0 → nodesE u = 0) ∧ size u ≤ size t ∧ depth u ≤ depth t
  | .mk k n s ks, u, hu => by
    rw [addT] at hu
    by_cases he : sumB (.mk k n s ks) = true
    · rw [if_pos he] at hu
      obtain ⟨h2, h3, h4, h5⟩ := addsT_mem ks u hu
      refine ⟨h2, fun h => h3 ?_, by rw [size]; omega, by rw [depth]; omega⟩
      rw [nodesE] at h
      by_cases h0 : nodeE (.mk k n s ks) = 0
      · rw [if_pos h0] at h; exact h
      · rw [if_neg h0] at h; exact absurd h h0
    · rw [if_neg he] at hu
      simp only [List.mem_cons, List.not_mem_nil, or_false] at hu
      subst hu
      exact ⟨by simpa using he, fun h => h, Nat.le_refl _, Nat.le_refl _⟩
theorem addsT_mem : ∀ (ts : List Tm) (u : Tm), u ∈ addsT ts → sumB u = false ∧ (nodesL ts = 0 → nodesE u = 0) ∧ size u ≤ sizes ts ∧ depth u ≤ depths ts
  | [], u, hu => by simp [addsT] at hu
  | t :: ts, u, hu => by
    rw [addsT, List.mem_append] at hu
    have hn : nodesL (t :: ts) = 0 → nodesE t = 0 ∧ nodesL ts = 0 := fun h => by
      rw [nodesL] at h
      by_cases h0 : nodesE t = 0
      · rw [if_pos h0] at h; exact ⟨h0, h⟩
      · rw [if_neg h0] at h; exact absurd h h0
    rcases hu with hu | hu
    · obtain ⟨h2, h3, h4, h5⟩ := addT_mem t u hu
      exact ⟨h2, fun h => h3 (hn h).1, by rw [sizes]; omega, by rw [depths]; omega⟩
    · obtain ⟨h2, h3, h4, h5⟩ := addsT_mem ts u hu
      exact ⟨h2, fun h => h3 (hn h).2, by rw [sizes]; omega, by rw [depths]; omega⟩
end
set_option maxHeartbeats 1600000 in
set_option maxRecDepth 100000 in
theorem issum_any (t : Tm) (b o : Nat) (w : World) (hL : Lies w t b o) :
    Calls Tryz.prog 201 #[.pointer (some ⟨b, o, none⟩)] w fun e w' => e = .returned (.bool (sumB t)) ∧ w' = w := by
  obtain ⟨k, n, s, ks⟩ := t
  obtain ⟨g0, g1, g2, _, _, _, _, ya, kcap, g3, _⟩ := Lies_mk hL
  clear hL
  obtain ⟨R, hR⟩ : ∃ R, sumB (.mk k n s ks) = R := ⟨_, rfl⟩
  rw [hR]
  rw [sumB_mk] at hR
  have HR := Lib.hid hR
  clear hR
  by_cases hk : k = 3
  rotate_left
  · have q0 : (k == 3) = false := by simp [hk]
    have H : Hid (R = false) := by show _ = _; rw [← HR.out, decide_eq_false hk]; rfl
    clear hk
    go_enter Tryz.func201, Tryz.ntmps201
    go_wp2_with fail
    go_ret
    exact ⟨by rw [H.out]; rfl, rfl⟩
  have q0 : (k == 3) = true := by simp [hk]
  have HR2 : Hid ((n.toList == [120, 111, 114] || (n.toList == [122, 101, 114, 111] && decide (ks.length = 0))) = R) := by show _ = _; rw [← HR.out, decide_eq_true hk]; rfl
  clear hk HR
  cases q1 : (n.toList == [120, 111, 114])
  rotate_left
  · have H : Hid (R = true) := by show _ = _; rw [← HR2.out, q1]; rfl
    go_enter Tryz.func201, Tryz.ntmps201
    go_wp2_with fail
    go_ret
    exact ⟨by rw [H.out]; rfl, rfl⟩
  cases q2 : (n.toList == [122, 101, 114, 111])
  · have H : Hid (R = false) := by show _ = _; rw [← HR2.out, q1, q2]; rfl
    go_enter Tryz.func201, Tryz.ntmps201
    go_wp2_with fail
    go_ret
    exact ⟨by rw [H.out]; rfl, rfl⟩
  by_cases hz : ks.length = 0
  · have H : Hid (R = true) := by show _ = _; rw [← HR2.out, q1, q2, decide_eq_true hz]; rfl
    have q3 : ((ks.length : Int) == 0) = true := by simp [hz]
    clear hz
    go_enter Tryz.func201, Tryz.ntmps201
    go_wp2_with fail
    go_ret
    exact ⟨by rw [H.out]; rfl, rfl⟩
  · have H : Hid (R = false) := by show _ = _; rw [← HR2.out, q1, q2, decide_eq_false hz]; rfl
    have q3 : ((ks.length : Int) == 0) = false := beq_eq_false_iff_ne.2 (by omega)
    clear hz
    go_enter Tryz.func201, Tryz.ntmps201
    go_wp2_with fail
    go_ret
    exact ⟨by rw [H.out]; rfl, rfl⟩
def LieK (H base : Nat) (w : World) (t : Tm) (b o : Nat) : Prop :=
  b < H ∧ ∃ c0 c1 c2 c3, w.cell? ⟨b, o, none⟩ = some c0 ∧ w.cell? ⟨b, o + 1, none⟩ = some c1 ∧ w.cell? ⟨b, o + 2, none⟩ = some c2 ∧ w.cell? ⟨b, o + 3, none⟩ = some c3 ∧ IsIn (fun q => q < base) w t c0 c1 c2 c3
theorem LieK_lies {H base : Nat} {w : World} {t : Tm} {b o : Nat} (h : LieK H base w t b o) : Lies w t b o := by
  obtain ⟨_, c0, c1, c2, c3, g0, g1, g2, g3, hI⟩ := h
  exact ⟨c0, c1, c2, c3, g0, g1, g2, g3, IsIn_Is _ _ _ _ _ hI⟩
theorem LiesIn_K {H base : Nat} {w : World} {t : Tm} {b o : Nat} (h : LiesIn (fun q => q < base) w t b o) (hb : base ≤ H) : LieK H base w t b o := ⟨Nat.lt_of_lt_of_le h.1 hb, h.2⟩
def AddPost (H base : Nat) (w : World) (acc : List Tm) (t : Tm) (e : Ending) (w' : World) : Prop :=
  Below H w w' ∧ w.heap.size ≤ w'.heap.size ∧ ∃ v, e = .returned v ∧ OwnT H (fun q => q < base) w' (acc ++ addT t) v
set_option maxHeartbeats 3200000 in
set_option maxRecDepth 100000 in
theorem addends_any (H base : Nat) (hbH0 : base ≤ H) (M : Nat) : ∀ (t : Tm) (b o : Nat) (acc : List Tm) (v : Value) (w : World), size t ≤ M → M ≤ 1048576 → acc.length + size t ≤ 1048576 → H ≤ w.heap.size → LieK H base w t b o → OwnT H (fun q => q < base) w acc v →
    Calls Tryz.prog 177 #[.pointer (some ⟨b, o, none⟩), v] w (AddPost H base w acc t) := by
  induction M with
  | zero => intro t b o acc v w h; have := size_pos t; omega
  | succ M ih =>
    intro t b o acc v w hm hM hn0 hHw hL hO
    have hLs := LieK_lies hL
    have HX := Lib.hid (issum_any t b o w hLs)
    obtain ⟨hb, c0, c1, c2, c3, p0, p1, p2, p3, hI⟩ := hL
    have HI := Lib.hid hI
    obtain ⟨k, n, s, ks⟩ := t
    simp only [IsIn] at hI
    obtain ⟨rfl, rfl, rfl, _, _, _, hkl, ya, kcap, rfl, hkc, hKR⟩ := hI
    have hsk : size (.mk k n s ks) = 1 + sizes ks := rfl
    rw [hsk] at hm hn0
    have HKR := Lib.hid hKR
    have HBB : Hid (b < H) := hb
    have HBH := Lib.hid hbH0
    have HHw := Lib.hid hHw
    have HN := Lib.hid hn0
    have HC3 := Lib.hid p3
    have hal := length_le_sizes ks
    obtain ⟨xl, lcap, rfl⟩ := OwnT_form hO
    have HO := Lib.hid hO
    clear hKR hb hLs
    by_cases he : sumB (.mk k n s ks) = true
    rotate_left
    · obtain ⟨i0, hi0, hz0, hz1, hz2⟩ := info_parts info24
      have HI0 := Lib.hid (And.intro hi0 (And.intro hz0 (And.intro hz1 hz2)))
      have he' : sumB (.mk k n s ks) = false := by simpa using he
      rw [he'] at HX
      have HOC : Hid (addT (.mk k n s ks) = [.mk k n s ks]) := by show _ = _; rw [addT, if_neg he]
      obtain ⟨cs, ho, hK⟩ := hO
      have HOO := Lib.hid ho
      obtain ⟨na, hna⟩ : ∃ na, na = acc.length := ⟨_, rfl⟩
      rw [← hna] at ho HOO ⊢
      have hnb : na + 1 ≤ 1048576 := by omega
      have HNA := Lib.hid hna
      have HPU : Hid (∀ g cap w8 ob, w8.ownsRow H 24 4 (.slice (some ⟨g, 0, none⟩) (na + 1) cap) (na + 1) (cs ++ [.int .i64 k, .string n, .int .i64 s, .slice ya ks.length kcap]) → (w.alloc ob).grownBy w8 (Value.slice xl na lcap).ownBlock → AddPost H base w acc (.mk k n s ks) (.returned (.slice (some ⟨g, 0, none⟩) (na + 1) cap)) w8) := by
        show ∀ _, _
        intro g cap w8 ob h8 hg
        have r := OwnT_push ho hK HNA.out HI.out hbH0 hHw h8 hg
        refine ⟨r.2, ?_, _, rfl, by rw [HOC.out]; exact r.1⟩
        have := hg.size
        rw [World.size_alloc] at this
        omega
      clear ho hK he he' hna
      go_enter Tryz.func177, Tryz.ntmps177
      go_wp2_with (first
        | (go_at_call 201; refine (HX.out).mono ?_; rintro e w3 ⟨he, hw⟩; subst he; have hw' := hw.symm; subst hw')
        | (at_builtin; refine wpList_append_lies _ rfl _ _ _ rfl H 24 i0 _ 4 56 Tryz.underlying22 HI0.out.1 HI0.out.2.1 HI0.out.2.2.1 HI0.out.2.2.2 rfl (by omega) (.slice xl na lcap) na cs rfl (HOO.out.alloc _) ⟨w.heap.size, 0, none⟩ 1 1 [.int .i64 k, .string n, .int .i64 s, .slice ya ks.length kcap] rfl rfl (World.news_of_block (cs := #[.int .i64 k, .string n, .int .i64 s, .slice ya ks.length kcap]) (t := 24) (fr := (0, 0)) (heap_alloc_new w _)) (by simp [Value.oneCell']) (by omega) (by unfold maxLen; omega) (by omega) (by simp; omega) (w.heap.size + 1) (by simp) ?_; intro gg cap8 w8 hown8 hgrow hat hltt; have HF := Lib.hid (HPU.out _ _ _ _ hown8 hgrow); clear hown8 hgrow hat hltt))
      go_ret
      exact HF.out
    rw [he] at HX
    have HOC : Hid (addT (.mk k n s ks) = addsT ks) := by show _ = _; rw [addT, if_pos he]
    clear he
    go_enter Tryz.func177, Tryz.ntmps177
    go_wp2_with (go_at_call 201; refine (HX.out).mono ?_; rintro e w3 ⟨he, hw⟩; subst he; have hw' := hw.symm; subst hw')
    go_loopw [1, 20] (fun lv i wr => ∃ j : Nat, j ≤ ks.length ∧ i = .int .i64 j ∧ OwnT H (fun q => q < base) wr (acc ++ addsT (ks.take j)) lv ∧ Below H w wr ∧ w.heap.size ≤ wr.heap.size) (fun _ i _ => ks.length - (intOf i).toNat)
    case atStart => exact ⟨0, Nat.zero_le _, rfl, by simpa [addsT] using HO.out, Below.refl _ _, Nat.le_refl _⟩
    case round =>
      obtain ⟨j, hj, rfl, hOr, hB, hws⟩ := hrel
      have HB := Lib.hid hB
      have HWS := Lib.hid hws
      by_cases hlt : j < ks.length
      rotate_left
      · have hjl : j = ks.length := by omega
        obtain ⟨xr, cr, rfl⟩ := OwnT_form hOr
        have HQ : Hid (AddPost H base w acc (.mk k n s ks) (.returned (.slice xr (acc ++ addsT (ks.take j)).length cr)) wr) := by
          show AddPost _ _ _ _ _ _ _
          refine ⟨hB, hws, _, rfl, ?_⟩
          rw [hjl, List.take_length] at hOr ⊢
          rw [HOC.out]
          exact hOr
        clear hOr hB hjl hws
        go_wp2_with fail
        go_ret
        exact HQ.out
      obtain ⟨kb, ko, rfl⟩ := RowIn_at HKR.out (by omega)
      have hl1 := LiesIn_K (LiesIn_carry (w' := wr) (S' := fun q => q < base) (fun q hq => hB.block q (Nat.lt_of_lt_of_le hq HBH.out)) (fun _ h => h) (RowIn_get HKR.out j hlt)) HBH.out
      have hc0 : wr.cell? ⟨b, o + 3, none⟩ = some (.slice (some ⟨kb, ko, none⟩) ks.length kcap) := by
        rw [World.cell?_of_block (w := w) (a := ⟨b, o + 3, none⟩) (hB.block b HBB.out)]; exact HC3.out
      have hst := sizes_take ks j hlt
      have hsl := sizes_take_le ks (j + 1)
      have hol := addsT_len (ks.take j)
      obtain ⟨xr, cr, rfl⟩ := OwnT_form hOr
      have HC := Lib.hid (ih ks[j] kb (ko + j * 4) (acc ++ addsT (ks.take j)) (.slice xr (acc ++ addsT (ks.take j)).length cr) wr (by omega) (by omega) (by rw [List.length_append]; have := HN.out; omega) (Nat.le_trans HHw.out hws) hl1 hOr)
      have HO2 : Hid ((acc ++ addsT (ks.take j)) ++ addT ks[j] = acc ++ addsT (ks.take (j + 1))) := by show _ = _; rw [addsT_take ks j hlt, List.append_assoc]
      generalize acc ++ addsT (ks.take j) = acc2 at hOr HC HO2 ⊢
      unfold AddPost at HC
      have i1 : (0 : Int) ≤ (j : Int) := by omega
      have i2 : (j : Int) < (ks.length : Int) := by omega
      clear hOr hB hl1 hst hsl hol hws
      go_wp2_with (go_at_call 177; refine (HC.out).mono ?_; rintro e w4 ⟨hB4, hs4, v4, he, hO4⟩; subst he; have HB4 := Lib.hid (And.intro hB4 hs4); have HO4 := Lib.hid hO4; clear hB4 hs4 hO4)
      go_roundw
      case rel => exact ⟨j + 1, by omega, by go_num, by rw [← HO2.out]; exact HO4.out, HB.out.trans HB4.out.1, Nat.le_trans HWS.out HB4.out.2⟩
      case measure => simp [intOf]; omega
end Go.Proofs.YtbcpnepjojppaaaGreatDoor
