/-
  THE REFERENCE's Few at bindings, walked: lists of whatever length the form bears.
-/
import Derived.Test.YtkfbbkkfagglhaaGreatDoorBnd
import Derived.Test.YtkfbbkkfagglhaaGreatDoorRef
import Derived.Test.YtkfbbkkfagglhaaGreatDoorElems
namespace Go.Proofs.YtkfbbkkfagglhaaGreatDoor
open Go.RowKit

theorem flatB_take : ∀ (bs : List Bd) (j : Nat) (h : j < bs.length), flatB (bs.take (j + 1)) = flatB (bs.take j) ++ [bs[j].1, bs[j].2]
  | b :: bs, 0, _ => by simp [flatB]
  | b :: bs, j + 1, h => by
    have := flatB_take bs j (by simpa using h)
    simp only [List.take_succ_cons, flatB, List.getElem_cons_succ, List.cons_append, this]
theorem OwnT_push2 {H base n g cap lcap : Nat} {w v w' : World} {os : List Tm} {xl : Option Addr} {cs : List Value} {t u : Tm} {c0 c1 c2 c3 d0 d1 d2 d3 : Value} (hown0 : w.ownsRow H 36 4 (.slice xl n lcap) n cs) (hK : KC (fun b => b < base) w os cs) (hn : n = os.length) (hI : IsIn (fun b => b < base) w t c0 c1 c2 c3) (hJ : IsIn (fun b => b < base) w u d0 d1 d2 d3)
    (hb : base ≤ H) (hv : Below H w v) (hHv : H ≤ v.heap.size) (hown : w'.ownsRow H 36 4 (.slice (some ⟨g, 0, none⟩) (n + 2) cap) (n + 2) (cs ++ [c0, c1, c2, c3, d0, d1, d2, d3])) (hg : v.grownBy w' (Value.slice xl n lcap).ownBlock) :
    OwnT H (fun b => b < base) w' (os ++ [t, u]) (.slice (some ⟨g, 0, none⟩) (n + 2) cap) ∧ Below H w w' := by
  subst hn
  have hB : Below H w w' := hv.grown hg hHv (fun q hq => (hown0.lt q hq).1)
  have hBl : Below base w w' := hB.mono hb
  refine ⟨⟨cs ++ [c0, c1, c2, c3, d0, d1, d2, d3], by simpa using hown, ?_⟩, hB⟩
  exact KC_append _ _ _ _ (KC_carry (fun b hb' => hBl.block b hb') (fun _ h => h) _ _ hK) ⟨_, _, _, _, _, rfl, IsIn_carry (fun b hb' => hBl.block b hb') (fun _ h => h) _ _ _ _ _ hI, KC_one_term (IsIn_carry (fun b hb' => hBl.block b hb') (fun _ h => h) _ _ _ _ _ hJ)⟩
/-- A row of the call's own, as a row. -/
theorem OwnT_row {H : Nat} {S : Nat → Prop} {w : World} {ts : List Tm} {xa : Option Addr} {cap : Nat} (h : OwnT H S w ts (.slice xa ts.length cap)) : Row w ts xa := by
  obtain ⟨cs, ho, hK⟩ := h
  have h := IsIn_Is _ _ _ _ _ (IsIn_app (S' := fun _ => True) (nm := ⟨#[]⟩) (Nat.zero_le _) ho hK (fun _ _ => trivial) (fun _ _ => trivial))
  simp only [Is] at h
  obtain ⟨_, _, _, _, _, _, _, xa', cap', e, _, hR⟩ := h
  simp only [Value.slice.injEq] at e
  rw [e.1]; exact hR

set_option maxHeartbeats 3200000 in
set_option maxRecDepth 100000 in
theorem few02_any (bs : List Bd) (xa : Option Addr) (cap : Nat) (n most : Int) (w : World) (hlen : bs.length * 112 ≤ 140737488355328) (hn : 0 ≤ n ∧ n ≤ 1048576) (h1 : most ≤ 4611686018427387904) (h2 : -9223372036854775808 ≤ most) (hR : Row w (flatB bs) xa) :
    Calls Tryz.prog 13 #[.slice xa bs.length cap, .int .i64 n, .int .i64 most] w fun e w' => e = .returned (.bool (few (flatB bs) (2 * n) most)) ∧ Below w.heap.size w w' := by
  have HF := Lib.hid (fun (xa' : Option Addr) (cap' : Nat) (W : World) (x : Row W (flatB bs) xa') => few_any (flatB bs) xa' cap' (2 * n) most W (by rw [flatB_length]; unfold maxLen; omega) h1 h2 x)
  have HFL := Lib.hid (flatB_length bs)
  rw [HFL.out] at HF
  generalize few (flatB bs) (2 * n) most = R at HF ⊢
  have HR := Lib.hid hR
  obtain ⟨i0, hi0, hz0, hz1, hz2⟩ := info_parts info24
  have HI0 := Lib.hid (And.intro hi0 (And.intro hz0 (And.intro hz1 hz2)))
  have hn0 := hn.1
  have hn1 := hn.2
  clear hR h1 h2 hi0 hz0 hz1 hz2 hn
  go_enter Tryz.func13, Tryz.ntmps13
  go_wp2_with fail
  go_loopw [7, 8] (fun l i wr => ∃ j : Nat, j ≤ bs.length ∧ i = .int .i64 j ∧ OwnT w.heap.size (fun b => b < w.heap.size) wr (flatB (bs.take j)) l ∧ Below w.heap.size w wr) (fun _ i _ => bs.length - (intOf i).toNat)
  case atStart => exact ⟨0, Nat.zero_le _, rfl, OwnT_nil _ _ _, Below.refl _ _⟩
  case round =>
    obtain ⟨j, hj, rfl, hO, hB⟩ := hrel
    obtain ⟨xl, lcap, rfl⟩ := OwnT_form hO
    have hll : (flatB (bs.take j)).length = 2 * j := by rw [flatB_length, List.length_take]; omega
    by_cases hlt : j < bs.length
    rotate_left
    · have hjl : j = bs.length := by omega
      rw [hjl, List.take_length] at hO hll ⊢
      have HR2 := Lib.hid (OwnT_row hO)
      have HB := Lib.hid hB
      rw [hll]
      have hll2 : bs.length = bs.length := rfl
      clear hO hB hjl hll hll2
      go_wp2_with (go_at_call 14; refine (HF.out xl lcap _ HR2.out).mono ?_; rintro e w3 ⟨he, hB3⟩; subst he; have HB3 := Lib.hid (HB.out.trans (hB3.mono HB.out.size)); clear hB3)
      go_ret
      exact ⟨rfl, HB3.out⟩
    obtain ⟨cs, hown, hK⟩ := hO
    rw [hll] at hown ⊢
    obtain ⟨b, o, rfl⟩ := Row_at HR.out (by rw [HFL.out]; omega)
    obtain ⟨⟨v0, v1, v2, v3, g0, g1, g2, g3, hI1⟩, t0, t1, t2, t3, g4, g5, g6, g7, hI2⟩ := bds_get HR.out j hlt
    obtain ⟨k1, n1, s1, ya1, yl1, yc1, rfl, rfl, rfl, rfl⟩ := Is_form hI1
    obtain ⟨k2, n2, s2, ya2, yl2, yc2, rfl, rfl, rfl, rfl⟩ := Is_form hI2
    rw [Nat.add_assoc] at g5 g6 g7
    replace g0 := keep_below hB _ _ g0
    replace g1 := keep_below hB _ _ g1
    replace g2 := keep_below hB _ _ g2
    replace g3 := keep_below hB _ _ g3
    replace g4 := keep_below hB _ _ g4
    replace g5 := keep_below hB _ _ g5
    replace g6 := keep_below hB _ _ g6
    replace g7 := keep_below hB _ _ g7
    have HP : Hid (∀ (gg cap8 : Nat) (w8 : World), w8.ownsRow w.heap.size 36 4 (.slice (some ⟨gg, 0, none⟩) (2 * j + 2) cap8) (2 * j + 2) (cs ++ [.int .i64 k1, .string n1, .int .i64 s1, .slice ya1 yl1 yc1, .int .i64 k2, .string n2, .int .i64 s2, .slice ya2 yl2 yc2]) →
        (wr.alloc (.cells #[.int .i64 k1, .string n1, .int .i64 s1, .slice ya1 yl1 yc1, .int .i64 k2, .string n2, .int .i64 s2, .slice ya2 yl2 yc2] 36)).drew.grownBy w8 (Value.slice xl (2 * j) lcap).ownBlock →
        OwnT w.heap.size (fun b => b < w.heap.size) w8 (flatB (bs.take (j + 1))) (.slice (some ⟨gg, 0, none⟩) (2 * j + 2) cap8) ∧ Below w.heap.size w w8) := fun gg cap8 w8 ho hg => by
      rw [flatB_take bs j hlt]
      have hz : w.heap.size ≤ wr.heap.size := hB.size
      have r := OwnT_push2 hown hK hll.symm (IsIn_carry (fun b hb => hB.block b hb) (fun _ h => h) _ _ _ _ _ (Is_IsIn _ _ _ _ _ hI1)) (IsIn_carry (fun b hb => hB.block b hb) (fun _ h => h) _ _ _ _ _ (Is_IsIn _ _ _ _ _ hI2)) (Nat.le_refl _) (((Below.refl w.heap.size wr).alloc hz _).drew) (by show w.heap.size ≤ (World.alloc _ _).heap.size; rw [World.size_alloc]; omega) ho hg
      exact ⟨r.1, hB.trans r.2⟩
    have HO := Lib.hid hown
    have hws : w.heap.size ≤ wr.heap.size := hB.size
    have i1 : (0 : Int) ≤ (j : Int) := by omega
    have i2 : (j : Int) < (bs.length : Int) := by omega
    have HLL := Lib.hid hll
    clear hown hK hB hI1 hI2 hll
    go_wp2_with fail
    go_region_law ((refine step_append_lies _ (by rfl) _ _ _ (by rfl) w.heap.size 36 i0 _ 4 56 Tryz.underlying23 HI0.out.1 HI0.out.2.1 HI0.out.2.2.1 HI0.out.2.2.2 rfl (by omega) (.slice xl (2 * j) lcap) (2 * j) cs (by rfl) ((HO.out.alloc _).drew) ⟨wr.heap.size, 0, none⟩ 2 2 [.int .i64 k1, .string n1, .int .i64 s1, .slice ya1 yl1 yc1, .int .i64 k2, .string n2, .int .i64 s2, .slice ya2 yl2 yc2] (by rfl) (by rfl) (World.news_of_block (cs := #[.int .i64 k1, .string n1, .int .i64 s1, .slice ya1 yl1 yc1, .int .i64 k2, .string n2, .int .i64 s2, .slice ya2 yl2 yc2]) (t := 36) (fr := (0, 0)) (heap_alloc_new wr _)) (by simp [Value.oneCell']) (by omega) (by unfold maxLen; omega) (by omega) (by simp; omega) (wr.heap.size + 1) (by simp) ?_; intro gg cap8 w1 hown1 hgrow hat hltt; have HP8 := Lib.hid (HP.out gg cap8 w1 hown1 hgrow); clear hown1 hgrow hat hltt))
    all_goals (go_wp2_with fail)
    all_goals (go_roundw)
    all_goals (first | exact ⟨j + 1, by omega, by go_num, HP8.out.1, HP8.out.2⟩ | (simp [intOf]; omega))
end Go.Proofs.YtkfbbkkfagglhaaGreatDoor
