/-
  THE WALK OF term.Subterms.
-/
import Derived.Test.YthhhmjjgckkdhaaDoorSetof
namespace Go.Proofs.YthhhmjjgckkdhaaDoor
open Go.RowKit Go.Lib

theorem subT_size (t : Tm) : ∀ u ∈ subT t, size u ≤ size t := by
  refine Tm.rec (motive_1 := fun t => ∀ u ∈ subT t, size u ≤ size t) (motive_2 := fun ts => ∀ u ∈ subL ts, size u ≤ sizes ts) ?_ ?_ ?_ t
  · intro k n s ks ih u hu
    simp only [subT, List.mem_cons] at hu
    rcases hu with rfl | hu
    · exact Nat.le_refl _
    · have := ih u hu; simp only [size]; omega
  · intro u hu; simp [subL] at hu
  · intro t ts h1 h2 u hu
    simp only [subL, List.mem_append] at hu
    simp only [sizes]
    rcases hu with hu | hu
    · have := h1 u hu; omega
    · have := h2 u hu; omega
theorem subL_size : ∀ (ts : List Tm), ∀ u ∈ subL ts, size u ≤ sizes ts
  | [], u, hu => by simp [subL] at hu
  | t :: ts, u, hu => by
    simp only [subL, List.mem_append] at hu
    simp only [sizes]
    rcases hu with hu | hu
    · have := subT_size t u hu; omega
    · have := subL_size ts u hu; omega

/-- What holds at the head of the loop. -/
def SubRel (w : World) (l : List Tm) (al : Value) (wr : World) : Prop :=
  ∃ vs, wr.ownsRow w.heap.size 97 2 al (sizes l) vs ∧ NL w.heap.size wr (subL l) vs ∧ Below w.heap.size w wr
theorem SubRel.next {w wr w3 : World} {ls : List Tm} {j : Nat} (hj : j < ls.length) {vs us : List Value} {l2 : Value} (hN : NL w.heap.size wr (subL (ls.take j)) vs) (hB : Below w.heap.size w wr)
    (h : w3.ownsRow w.heap.size 97 2 l2 (sizes (ls.take j) + size ls[j]) (vs ++ us)) (hN2 : NL w.heap.size w3 (subT ls[j]) us) (hB2 : Below w.heap.size wr w3) : SubRel w (ls.take (j + 1)) l2 w3 := by
  refine ⟨vs ++ us, ?_, ?_, hB.trans hB2⟩
  · have := sizes_take ls j hj; rw [this]; exact h
  · rw [subL_take ls j hj]; exact NL_append _ _ _ _ (NL_carry (fun b hb => hB2.block b hb) _ _ hN) hN2

set_option maxHeartbeats 3200000 in
set_option maxRecDepth 100000 in
theorem Subterms_any (ls : List Tm) (kb ko cap : Nat) (w : World) (hR : Row w ls (some ⟨kb, ko, none⟩)) (h0 : 0 < ls.length) (hs : sizes ls ≤ 1073741824) :
    Calls Tryd.prog 28 #[.slice (some ⟨kb, ko, none⟩) ls.length cap] w (SetPost w.heap.size (subL ls) w) := by
  have hlen := length_le_sizes ls
  have HR := Lib.hid hR
  clear hR
  go_enter Tryd.func28, Tryd.ntmps28
  go_wp2_with fail
  go_loopw [3, 7] (fun al i wr => ∃ j : Nat, j ≤ ls.length ∧ i = .int .i64 j ∧ SubRel w (ls.take j) al wr) (fun _ i _ => ls.length - (intOf i).toNat)
  case atStart => exact ⟨0, Nat.zero_le _, rfl, [], World.ownsRow_nil _ _ _ _, rfl, Below.refl _ _⟩
  case round =>
    obtain ⟨j, hj, rfl, vs, hO, hN, hB⟩ := hrel
    by_cases hjl : j < ls.length
    · obtain ⟨xl, lcap, hlv⟩ := own_form hO
      subst hlv
      have hsz := sizes_take ls j hjl
      have hle := sizes_take_le ls (j + 1)
      have hLj : LiesIn (fun b => b < w.heap.size) wr ls[j] kb (ko + j * 4) := by
        obtain ⟨c0, c1, c2, c3, g0, g1, g2, g3, hI⟩ := Row_get HR.out j hjl
        have hbl := World.block_lt_of_cell? w _ g0
        exact LiesIn_carry (fun b hb => hB.block b hb) (fun _ h => h) ⟨hbl, c0, c1, c2, c3, g0, g1, g2, g3, Is_IsIn _ _ _ _ _ hI⟩
      have HIH := Lib.hid (nodes_any 1073741824 ls[j] kb (ko + j * 4) (sizes (ls.take j)) (.slice xl (sizes (ls.take j)) lcap) vs w.heap.size wr (by omega) (Nat.le_refl _) hO hB.size hLj (by omega))
      have HX := Lib.hid (And.intro hN hB)
      have i1 : (0 : Int) ≤ (j : Int) := by omega
      have i2 : (j : Int) < (ls.length : Int) := by omega
      clear hsz hle hLj hO hN hB
      go_wp2_with (go_at_call 59; refine (HIH.out).mono ?_; rintro e w3 ⟨l2, us, he, q1, q2, q3⟩; subst he; have HN3 := Lib.hid (SubRel.next hjl HX.out.1 HX.out.2 q1 q2 q3); clear q1 q2 q3)
      go_roundw
      case rel => exact ⟨j + 1, by omega, by go_num, HN3.out⟩
      case measure => simp [intOf]; omega
    · have hje : ls.take j = ls := by rw [List.take_of_length_le]; omega
      rw [hje] at hO hN
      obtain ⟨g, cap', e⟩ := own_form_pos hO (by omega)
      subst e
      have HS := Lib.hid (setOf_any hO hN hB.size (by omega) (fun t ht => by have := subL_size ls t ht; omega) hs)
      have HB := Lib.hid hB
      clear hje hO hN hB
      go_wp2_with (go_at_call 60; refine (HS.out).mono ?_; rintro e w3 ⟨us, H, he, q1, q2, q3, q4⟩; subst he; have HF := Lib.hid (And.intro q1 (And.intro q2 (And.intro q3 q4))); clear q1 q2 q3 q4)
      go_ret
      exact ⟨us, H, by simp, HF.out.1, HF.out.2.1, HF.out.2.2.1, HB.out.trans HF.out.2.2.2⟩

end Go.Proofs.YthhhmjjgckkdhaaDoor
