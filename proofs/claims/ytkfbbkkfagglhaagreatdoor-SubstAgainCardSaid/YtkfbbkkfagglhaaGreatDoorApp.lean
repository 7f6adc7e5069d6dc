/-
  THE REFERENCE's App; the cells of a row of terms.
-/
import Derived.Test.YtkfbbkkfagglhaaGreatDoorPos
import Derived.Test.YtkfbbkkfagglhaaGreatDoorRef
namespace Go.Proofs.YtkfbbkkfagglhaaGreatDoor
open Go.RowKit

theorem add_plain (b o n : Nat) : (⟨b, o, none⟩ : Addr).add n = ⟨b, o + n, none⟩ := by
  unfold Addr.add; split <;> simp_all
theorem IsIn_one {S : Nat → Prop} {w : World} {t : Tm} {c0 c1 c2 c3 : Value} (h : IsIn S w t c0 c1 c2 c3) : c0.oneCell' = true ∧ c1.oneCell' = true ∧ c2.oneCell' = true ∧ c3.oneCell' = true := by
  obtain ⟨k, n, s, ks⟩ := t
  simp only [IsIn] at h
  obtain ⟨rfl, rfl, rfl, _, _, _, _, xa, cap, rfl, _⟩ := h
  exact ⟨rfl, rfl, rfl, rfl⟩
theorem KC_one {S : Nat → Prop} {w : World} : ∀ (ts : List Tm) (cs : List Value), KC S w ts cs → cs.length = ts.length * 4 ∧ ∀ u ∈ cs, u.oneCell' = true
  | [], cs, h => by subst h; simp
  | t :: ts, cs, h => by
    obtain ⟨c0, c1, c2, c3, r, rfl, hI, hr⟩ := h
    obtain ⟨h1, h2⟩ := KC_one ts r hr
    obtain ⟨p0, p1, p2, p3⟩ := IsIn_one hI
    refine ⟨by simp only [List.length_cons, h1]; omega, fun u hu => ?_⟩
    simp only [List.mem_cons] at hu
    rcases hu with rfl | rfl | rfl | rfl | hu
    · exact p0
    · exact p1
    · exact p2
    · exact p3
    · exact h2 u hu
/-- The cells of a row that lies. -/
theorem KC_of_Row {w : World} : ∀ (ts : List Tm) (b o : Nat), Row w ts (some ⟨b, o, none⟩) → ∃ cs, KC (fun b => b < w.heap.size) w ts cs ∧ ∀ j u, cs[j]? = some u → w.cell? ((⟨b, o, none⟩ : Addr).add j) = some u
  | [], b, o, _ => ⟨[], rfl, fun j u hu => by simp at hu⟩
  | t :: ts, b, o, h => by
    obtain ⟨b', o', e, ⟨c0, c1, c2, c3, g0, g1, g2, g3, hI⟩, h2⟩ := Row_cons h
    simp only [Option.some.injEq, Addr.mk.injEq, and_true] at e
    obtain ⟨rfl, rfl⟩ := e
    obtain ⟨r, hK, hr⟩ := KC_of_Row ts b (o + 4) h2
    refine ⟨c0 :: c1 :: c2 :: c3 :: r, ⟨c0, c1, c2, c3, r, rfl, Is_IsIn t _ _ _ _ hI, hK⟩, fun j u hu => ?_⟩
    match j, hu with
    | 0, hu => simp only [List.getElem?_cons_zero, Option.some.injEq] at hu; subst hu; exact g0
    | 1, hu => simp only [List.getElem?_cons_succ, List.getElem?_cons_zero, Option.some.injEq] at hu; subst hu; exact g1
    | 2, hu => simp only [List.getElem?_cons_succ, List.getElem?_cons_zero, Option.some.injEq] at hu; subst hu; exact g2
    | 3, hu => simp only [List.getElem?_cons_succ, List.getElem?_cons_zero, Option.some.injEq] at hu; subst hu; exact g3
    | j + 4, hu =>
      simp only [List.getElem?_cons_succ] at hu
      have := hr j u hu
      have e : (⟨b, o, none⟩ : Addr).add (j + 4) = (⟨b, o + 4, none⟩ : Addr).add j := by rw [add_plain, add_plain, show o + (j + 4) = o + 4 + j by omega]
      rw [e]; exact this

def AppPost (w : World) (n : ByteArray) (ks : List Tm) (e : Ending) (w' : World) : Prop := (∃ kv, e = .returned (.agg #[.int .i64 3, .string n, .int .i64 0, kv]) ∧ Is w' (.mk 3 n 0 ks) (.int .i64 3) (.string n) (.int .i64 0) kv) ∧ Below w.heap.size w w'

theorem app_grow {w w1 : World} {n m c : Nat} (h : ((w.alloc (.cells #[.int .i64 0, .string ⟨#[]⟩, .int .i64 0, .slice none 0 0] 36)).alloc (.cells #[] 36)).grownBy w1 (Value.slice (some ⟨w.heap.size + 1, n, none⟩) m c).ownBlock) :
    Below w.heap.size w w1 ∧ w1.cell? ⟨w.heap.size, 0, none⟩ = some (.int .i64 0) ∧ w1.cell? ⟨w.heap.size, 1, none⟩ = some (.string ⟨#[]⟩) ∧ w1.cell? ⟨w.heap.size, 2, none⟩ = some (.int .i64 0) ∧ w1.cell? ⟨w.heap.size, 3, none⟩ = some (.slice none 0 0) ∧
    w1.frozen? ⟨w.heap.size, 0, none⟩ = false ∧ w1.frozen? ⟨w.heap.size, 1, none⟩ = false ∧ w1.frozen? ⟨w.heap.size, 2, none⟩ = false ∧ w1.frozen? ⟨w.heap.size, 3, none⟩ = false := by
  have hB : Below w.heap.size w w1 := (((Below.refl w.heap.size w).alloc (Nat.le_refl _) _).alloc (by simp) _).grown h (by simp; omega) (fun k hk => by simp only [Value.ownBlock, Option.some.injEq] at hk; omega)
  obtain ⟨h0, h1, h2, h3⟩ := box_cells w (.int .i64 0) (.string ⟨#[]⟩) (.int .i64 0) (.slice none 0 0) 36
  have hf : ∀ i, w1.frozen? ⟨w.heap.size, i, none⟩ = false := fun i => by
    rw [h.frozen_far _ (by simp; omega) (by simp [Value.ownBlock])]
    refine (Below.frozen (p := ⟨w.heap.size, i, none⟩) ((Below.refl _ (w.alloc (.cells #[.int .i64 0, .string ⟨#[]⟩, .int .i64 0, .slice none 0 0] 36))).alloc (Nat.le_refl _) _) (by simp)).trans ?_
    unfold World.frozen?; rw [heap_alloc_new]; simp
  refine ⟨hB, ?_, ?_, ?_, ?_, hf 0, hf 1, hf 2, hf 3⟩ <;> (rw [h.cell_far _ (by simp; omega) (by simp [Value.ownBlock])]; exact keep_alloc _ _ _ _ (by assumption))

theorem app_end {w w1 : World} {n : ByteArray} {ks : List Tm} {gg cap' : Nat} {cs : List Value} (hn : n.size ≤ maxLen) (hB : Below w.heap.size w w1) (hg : w.heap.size < gg)
    (hown : w1.ownsRow w.heap.size 36 4 (.slice (some ⟨gg, 0, none⟩) (0 + ks.length) cap') (0 + ks.length) ([] ++ cs)) (hK : KC (fun b => b < w.heap.size) w ks cs) :
    AppPost w n ks (.returned (.agg #[.int .i64 3, .string n, .int .i64 0, .slice (some ⟨gg, 0, none⟩) ks.length cap'])) ((((w1.setCell ⟨w.heap.size, 0, none⟩ (.int .i64 3)).setCell ⟨w.heap.size, 1, none⟩ (.string n)).setCell ⟨w.heap.size, 2, none⟩ (.int .i64 0)).setCell ⟨w.heap.size, 3, none⟩ (.slice (some ⟨gg, 0, none⟩) ks.length cap')) := by
  have hB4 := (((hB.setCell (p := ⟨w.heap.size, 0, none⟩) (Nat.le_refl _) (.int .i64 3)).setCell (p := ⟨w.heap.size, 1, none⟩) (Nat.le_refl _) (.string n)).setCell (p := ⟨w.heap.size, 2, none⟩) (Nat.le_refl _) (.int .i64 0)).setCell (p := ⟨w.heap.size, 3, none⟩) (Nat.le_refl _) (.slice (some ⟨gg, 0, none⟩) ks.length cap')
  refine ⟨⟨_, rfl, ?_⟩, hB4⟩
  rw [Nat.zero_add, List.nil_append] at hown
  have ho := own_heap (w' := (((w1.setCell ⟨w.heap.size, 0, none⟩ (.int .i64 3)).setCell ⟨w.heap.size, 1, none⟩ (.string n)).setCell ⟨w.heap.size, 2, none⟩ (.int .i64 0)).setCell ⟨w.heap.size, 3, none⟩ (.slice (some ⟨gg, 0, none⟩) ks.length cap')) hown (fun q hq => by
    simp only [Value.ownBlock, Option.some.injEq] at hq; subst hq
    rw [Below.heap_setCell _ _ _ _ (by simp only; omega), Below.heap_setCell _ _ _ _ (by simp only; omega), Below.heap_setCell _ _ _ _ (by simp only; omega), Below.heap_setCell _ _ _ _ (by simp only; omega)])
  exact IsIn_Is _ _ _ _ _ (IsIn_app (S' := fun _ => True) hn ho (KC_carry (fun b hb => hB4.block b hb) (fun _ h => h) ks cs hK) (fun _ _ => trivial) (fun _ _ => trivial))

set_option maxHeartbeats 1600000 in
set_option maxRecDepth 100000 in
theorem app_any (n : ByteArray) (ks : List Tm) (kb ko cap : Nat) (w : World) (hn : n.size ≤ maxLen) (hl : ks.length ≤ 1073741824) (h0 : 0 < ks.length) (hR : Row w ks (some ⟨kb, ko, none⟩)) :
    Calls Tryz.prog 48 #[.string n, .slice (some ⟨kb, ko, none⟩) ks.length cap] w (AppPost w n ks) := by
  obtain ⟨cs, hK, hc⟩ := KC_of_Row ks kb ko hR
  obtain ⟨hcl, hone⟩ := KC_one ks cs hK
  have HC : Hid (∀ j u, cs[j]? = some u → ((w.alloc (.cells #[.int .i64 0, .string ⟨#[]⟩, .int .i64 0, .slice none 0 0] 36)).alloc (.cells #[] 36)).cell? ((⟨kb, ko, none⟩ : Addr).add j) = some u) := fun j u hu => keep_alloc _ _ _ _ (keep_alloc w _ _ _ (hc j u hu))
  have HP := Lib.hid hcl
  have HN := Lib.hid hone
  obtain ⟨i0, hi0, hz0, hz1, hz2⟩ := info_parts info24
  have HI0 := Lib.hid (And.intro hi0 (And.intro hz0 (And.intro hz1 hz2)))
  have HO : Hid (((w.alloc (.cells #[.int .i64 0, .string ⟨#[]⟩, .int .i64 0, .slice none 0 0] 36)).alloc (.cells #[] 36)).ownsRow w.heap.size 36 4 (.slice (some ⟨w.heap.size + 1, 0, none⟩) 0 0) 0 []) := by
    show World.ownsRow _ _ _ _ _ _ _
    have := World.ownsRow_made (e := 36) (size := 4) (base := w.heap.size) (w.alloc (.cells #[.int .i64 0, .string ⟨#[]⟩, .int .i64 0, .slice none 0 0] 36)) #[] 0 (by simp) (by simp [maxLen]) (by simp)
    simpa using this
  have HKC := Lib.hid hK
  clear hK hc hcl hone hi0 hz0 hz1 hz2
  go_enter Tryz.func48, Tryz.ntmps48
  go_wp2_with (at_builtin; (refine wpList_append_lies _ rfl _ _ _ rfl w.heap.size 36 i0 _ 4 56 Tryz.underlying23 HI0.out.1 HI0.out.2.1 HI0.out.2.2.1 HI0.out.2.2.2 rfl (by omega) (.slice (some ⟨w.heap.size + 1, 0, none⟩) 0 0) 0 [] rfl HO.out ⟨kb, ko, none⟩ ks.length cap cs rfl HP.out HC.out HN.out h0 (by unfold maxLen; omega) (by omega) (by simp; omega) (w.heap.size + 2) (by simp) ?_); intro gg cap' w1 hown1 hgrow hat hlt; have n1 : w.heap.size < gg := (by rcases hat with e | e; (simp only [Value.ownBlock, Option.some.injEq] at e; omega); omega); have hB1 := Lib.hid (app_grow hgrow); have y0 := hB1.out.2.1; have y1 := hB1.out.2.2.1; have y2 := hB1.out.2.2.2.1; have y3 := hB1.out.2.2.2.2.1; have z0 := hB1.out.2.2.2.2.2.1; have z1 := hB1.out.2.2.2.2.2.2.1; have z2 := hB1.out.2.2.2.2.2.2.2.1; have z3 := hB1.out.2.2.2.2.2.2.2.2; have HO1 := Lib.hid hown1; clear hown1 hgrow hat)
  exact bodyPost_ret (v := .agg #[.int .i64 3, .string n, .int .i64 0, .slice (some ⟨gg, 0, none⟩) ks.length cap']) (by simp [results, Tryz.results48, go_sem, y0, y1, y2, y3]) rfl (app_end hn hB1.out.1 n1 HO1.out HKC.out)

end Go.Proofs.YtkfbbkkfagglhaaGreatDoor
