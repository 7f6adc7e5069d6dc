/-
  THE REFERENCE's App: the blocks in which its term lies.
-/
import Derived.Test.YtcieadjjcpmieaaNodes
import Derived.Test.YtcieadjjcpmieaaPops
import Derived.Test.YtcieadjjcpmieaaPcat
import Derived.Test.YtcieadjjcpmieaaKeep
import Derived.Test.YtcieadjjcpmieaaPterm
namespace Go.Proofs.Ytcieadjjcpmieaa
open Go.RowKit

def AppS (S : Nat → Prop) (w : World) (n : ByteArray) (ks : List Tm) (l : Nat) (e : Ending) (w' : World) : Prop := (∃ xa cap, e = .returned (.agg #[.int .i64 3, .string n, .int .i64 0, .slice xa l cap]) ∧ IsIn (fun b => S b ∨ w.heap.size ≤ b ∧ b < w'.heap.size) w' (.mk 3 n 0 ks) (.int .i64 3) (.string n) (.int .i64 0) (.slice xa l cap)) ∧ Ext w w'
theorem app_end_s {S : Nat → Prop} {w w1 : World} {n : ByteArray} {ks : List Tm} {gg cap' : Nat} {cs : List Value} (hS : ∀ b, S b → b < w.heap.size) (hn : n.size ≤ maxLen) (hB : Below w.heap.size w w1) (hg : w.heap.size < gg)
    (hown : w1.ownsRow w.heap.size 34 4 (.slice (some ⟨gg, 0, none⟩) (0 + ks.length) cap') (0 + ks.length) ([] ++ cs)) (hK : KC S w ks cs) :
    AppS S w n ks ks.length (.returned (.agg #[.int .i64 3, .string n, .int .i64 0, .slice (some ⟨gg, 0, none⟩) ks.length cap'])) ((((w1.setCell ⟨w.heap.size, 0, none⟩ (.int .i64 3)).setCell ⟨w.heap.size, 1, none⟩ (.string n)).setCell ⟨w.heap.size, 2, none⟩ (.int .i64 0)).setCell ⟨w.heap.size, 3, none⟩ (.slice (some ⟨gg, 0, none⟩) ks.length cap')) := by
  have hB4 := (((hB.setCell (p := ⟨w.heap.size, 0, none⟩) (Nat.le_refl _) (.int .i64 3)).setCell (p := ⟨w.heap.size, 1, none⟩) (Nat.le_refl _) (.string n)).setCell (p := ⟨w.heap.size, 2, none⟩) (Nat.le_refl _) (.int .i64 0)).setCell (p := ⟨w.heap.size, 3, none⟩) (Nat.le_refl _) (.slice (some ⟨gg, 0, none⟩) ks.length cap')
  refine ⟨⟨_, _, rfl, ?_⟩, hB4⟩
  rw [Nat.zero_add, List.nil_append] at hown
  have ho := own_heap (w' := (((w1.setCell ⟨w.heap.size, 0, none⟩ (.int .i64 3)).setCell ⟨w.heap.size, 1, none⟩ (.string n)).setCell ⟨w.heap.size, 2, none⟩ (.int .i64 0)).setCell ⟨w.heap.size, 3, none⟩ (.slice (some ⟨gg, 0, none⟩) ks.length cap')) hown (fun q hq => by
    simp only [Value.ownBlock, Option.some.injEq] at hq; subst hq
    rw [Below.heap_setCell _ _ _ _ (by simp only; omega), Below.heap_setCell _ _ _ _ (by simp only; omega), Below.heap_setCell _ _ _ _ (by simp only; omega), Below.heap_setCell _ _ _ _ (by simp only; omega)])
  have hI := IsIn_lt _ _ _ _ _ (IsIn_app (S' := fun b => S b ∨ w.heap.size ≤ b) hn ho (KC_carry (fun b hb => hB4.block b (hS b hb)) (fun _ h => h) ks cs hK) (fun _ h => Or.inl h) (fun q hq => Or.inr (by simp only [Value.ownBlock, Option.some.injEq] at hq; omega)))
  exact IsIn_carry (fun _ _ => rfl) (fun b hb => by rcases hb.1 with h | h; exact Or.inl h; exact Or.inr ⟨h, hb.2⟩) _ _ _ _ _ hI

set_option maxHeartbeats 1600000 in
set_option maxRecDepth 100000 in
theorem app_s {S : Nat → Prop} (n : ByteArray) (ks : List Tm) (cs : List Value) (kb ko cap : Nat) (w : World) (hS : ∀ b, S b → b < w.heap.size) (hn : n.size ≤ maxLen) (hl : ks.length ≤ 1073741824) (h0 : 0 < ks.length) (hK : KC S w ks cs) (hc : ∀ j u, cs[j]? = some u → w.cell? ((⟨kb, ko, none⟩ : Addr).add j) = some u) :
    Calls Try.prog 12 #[.string n, .slice (some ⟨kb, ko, none⟩) ks.length cap] w (AppS S w n ks ks.length) := by
  obtain ⟨hcl, hone⟩ := KC_one ks cs hK
  have HC : Hid (∀ j u, cs[j]? = some u → ((w.alloc (.cells #[.int .i64 0, .string ⟨#[]⟩, .int .i64 0, .slice none 0 0] 34)).alloc (.cells #[] 34)).cell? ((⟨kb, ko, none⟩ : Addr).add j) = some u) := fun j u hu => keep_alloc _ _ _ _ (keep_alloc w _ _ _ (hc j u hu))
  have HP := Lib.hid hcl
  have HN := Lib.hid hone
  have HSS := Lib.hid hS
  obtain ⟨i0, hi0, hz0, hz1, hz2⟩ := info_parts info24
  have HI0 := Lib.hid (And.intro hi0 (And.intro hz0 (And.intro hz1 hz2)))
  have HO : Hid (((w.alloc (.cells #[.int .i64 0, .string ⟨#[]⟩, .int .i64 0, .slice none 0 0] 34)).alloc (.cells #[] 34)).ownsRow w.heap.size 34 4 (.slice (some ⟨w.heap.size + 1, 0, none⟩) 0 0) 0 []) := by
    show World.ownsRow _ _ _ _ _ _ _
    have := World.ownsRow_made (e := 34) (size := 4) (base := w.heap.size) (w.alloc (.cells #[.int .i64 0, .string ⟨#[]⟩, .int .i64 0, .slice none 0 0] 34)) #[] 0 (by simp) (by simp [maxLen]) (by simp)
    simpa using this
  have HKC := Lib.hid hK
  clear hK hc hcl hone hi0 hz0 hz1 hz2 hS
  go_enter Try.func12, Try.ntmps12
  go_wp2_with (at_builtin; (refine wpList_append_lies _ rfl _ _ _ rfl w.heap.size 34 i0 _ 4 56 Try.underlying32 HI0.out.1 HI0.out.2.1 HI0.out.2.2.1 HI0.out.2.2.2 rfl (by omega) (.slice (some ⟨w.heap.size + 1, 0, none⟩) 0 0) 0 [] rfl HO.out ⟨kb, ko, none⟩ ks.length cap cs rfl HP.out HC.out HN.out h0 (by unfold maxLen; omega) (by omega) (by simp; omega) (w.heap.size + 2) (by simp) ?_); intro gg cap' w1 hown1 hgrow hat hlt; have n1 : w.heap.size < gg := (by rcases hat with e | e; (simp only [Value.ownBlock, Option.some.injEq] at e; omega); omega); have hB1 := Lib.hid (app_grow hgrow); have y0 := hB1.out.2.1; have y1 := hB1.out.2.2.1; have y2 := hB1.out.2.2.2.1; have y3 := hB1.out.2.2.2.2.1; have z0 := hB1.out.2.2.2.2.2.1; have z1 := hB1.out.2.2.2.2.2.2.1; have z2 := hB1.out.2.2.2.2.2.2.2.1; have z3 := hB1.out.2.2.2.2.2.2.2.2; have HO1 := Lib.hid hown1; clear hown1 hgrow hat)
  exact bodyPost_ret (v := .agg #[.int .i64 3, .string n, .int .i64 0, .slice (some ⟨gg, 0, none⟩) ks.length cap']) (by simp [results, Try.results12, go_sem, y0, y1, y2, y3]) rfl (app_end_s HSS.out hn hB1.out.1 n1 HO1.out HKC.out)
/-- inv of a term that lies in S. -/
theorem app_inv {S : Nat → Prop} (t : Tm) (k : Int) (nm : ByteArray) (s : Int) (xa : Option Addr) (l c : Nat) (H : Nat) (w : World) (hH : w.heap.size = H) (hS : ∀ b, S b → b < w.heap.size) (hI : IsIn S w t (.int .i64 k) (.string nm) (.int .i64 s) (.slice xa l c)) (T : TypeId) :
    Calls Try.prog 12 #[.string ⟨#[105, 110, 118]⟩, .slice (some ⟨H, 0, none⟩) 1 1] (w.alloc (.cells #[.int .i64 k, .string nm, .int .i64 s, .slice xa l c] T)) (AppS S (w.alloc (.cells #[.int .i64 k, .string nm, .int .i64 s, .slice xa l c] T)) ⟨#[105, 110, 118]⟩ [t] 1) := by
  refine app_s ⟨#[105, 110, 118]⟩ [t] [.int .i64 k, .string nm, .int .i64 s, .slice xa l c] H 0 1 _ (fun b hb => by rw [World.size_alloc]; have := hS b hb; omega) (by decide) (by simp) (by simp) (KC_one_term (IsIn_carry (fun b hb => Below.heap_alloc _ _ _ (hS b hb)) (fun _ h => h) _ _ _ _ _ hI)) (fun j u hu => ?_)
  rw [add_plain, Nat.zero_add]
  exact cells_new_at w #[.int .i64 k, .string nm, .int .i64 s, .slice xa l c] T H hH j u (by simpa using hu)
end Go.Proofs.Ytcieadjjcpmieaa

/-
  THE WALK OF the reference's operands.
-/
namespace Go.Proofs.Ytcieadjjcpmieaa
open Go.RowKit

theorem t9_more {A B : List Tm} (h : 9 ≤ (A.take 9).length) : (A ++ B).take 9 = A.take 9 := by
  rw [List.length_take] at h
  rw [List.take_append_of_le_length (by omega)]
theorem t9_push {A : List Tm} {t : Tm} (h : (A.take 9).length < 9) : (A ++ [t]).take 9 = A.take 9 ++ [t] := by
  rw [List.length_take] at h
  rw [List.take_of_length_le (by rw [List.length_append]; simp; omega), List.take_of_length_le (by omega)]
/-- What operands gives back. -/
def RoPost (w : World) (ts : List Tm) (e : Ending) (w' : World) : Prop := ∃ v, e = .returned v ∧ KdIn w.heap.size w.heap.size w' ts v ∧ Below w.heap.size w w'
end Go.Proofs.Ytcieadjjcpmieaa

/-
  THE WALK OF the reference's Term.
-/
namespace Go.Proofs.Ytcieadjjcpmieaa
open Go.RowKit

set_option maxHeartbeats 1600000 in
set_option maxRecDepth 100000 in
/-- App of nothing. -/
theorem app_zero (n : ByteArray) (xa : Option Addr) (cap : Nat) (w : World) (hn : n.size ≤ maxLen) :
    Calls Try.prog 12 #[.string n, .slice xa 0 cap] w (AppPost w n []) := by
  obtain ⟨i0, hi0, hz0, hz1, hz2⟩ := info_parts info24
  have HI0 := Lib.hid (And.intro hi0 (And.intro hz0 (And.intro hz1 hz2)))
  have HF : Hid (∀ W, Ext w W → AppPost w n [] (.returned (.agg #[.int .i64 3, .string n, .int .i64 0, .slice (some ⟨w.heap.size + 1, 0, none⟩) 0 0])) W) := fun W y => by
    refine ⟨⟨_, rfl, ?_⟩, y⟩
    simp only [Is]
    exact ⟨trivial, trivial, trivial, by omega, by omega, hn, by simp, _, 0, rfl, Nat.le_refl _, by simp [Row]⟩
  clear hi0 hz0 hz1 hz2
  go_enter Try.func12, Try.ntmps12
  go_wp2_with (at_builtin; refine wpList_append_zero rfl _ _ 32 rfl 34 i0 Try.underlying32 HI0.out.1 (some ⟨w.heap.size + 1, 0, none⟩) 0 0 (by first | rfl | simp) xa cap rfl (Nat.le_refl _) ?_)
  exact bodyPost_ret (v := .agg #[.int .i64 3, .string n, .int .i64 0, .slice (some ⟨w.heap.size + 1, 0, none⟩) 0 0]) (by simp [results, Try.results12, go_sem]) rfl (HF.out _ (((Ext.refl w).alloc _).alloc _))

def opsR (ps : List Pw) : List Tm := (posO ps ++ negO ps).take 9
theorem opsR_len (ps : List Pw) : (opsR ps).length = min 9 (absS ps) := by unfold opsR; rw [List.length_take, List.length_append, ops_len]
theorem opsR_all {ps : List Pw} (h : absS ps ≤ 8) : opsR ps = posO ps ++ negO ps := by
  unfold opsR
  rw [List.take_of_length_le (by rw [List.length_append, ops_len]; omega)]
theorem zero_is (w : World) : Is w (.mk 0 ⟨#[]⟩ 0 []) (.int .i64 0) (.string ⟨#[]⟩) (.int .i64 0) (.slice none 0 0) := IsIn_Is _ _ _ _ _ (zero_isE (fun _ => True) w)
theorem box_new (w : World) (T : TypeId) : (w.alloc (.cells #[.int .i64 0, .string ⟨#[]⟩, .int .i64 0, .slice none 0 0] T)).heap[w.heap.size]? = some (.cells #[.int .i64 0, .string ⟨#[]⟩, .int .i64 0, .slice none 0 0] T (0, 0)) := heap_alloc_new _ _
/-- A kidless application beside another box. -/
theorem put_one {w : World} {g : Nat} {n : ByteArray} {y0 y1 y2 y3 d0 d1 d2 d3 : Value} {x : Option Addr} {l c : Nat} {T : TypeId} (_ : w.heap[g]? = some (.cells #[y0, y1, y2, y3] T (0, 0))) (hI : Is w (.mk 3 n 0 []) (.int .i64 3) (.string n) (.int .i64 0) (.slice x l c)) : Is (put4 w g 0 d0 d1 d2 d3) (.mk 3 n 0 []) (.int .i64 3) (.string n) (.int .i64 0) (.slice x l c) := by
  simp only [Is] at hI ⊢
  obtain ⟨a, b, c', d, e, f, h, xa, cap, i, j, _⟩ := hI
  exact ⟨a, b, c', d, e, f, h, xa, cap, i, j, by simp [Row]⟩
theorem put_new {w : World} {t : Tm} {c0 c1 c2 c3 d0 d1 d2 d3 : Value} {ob : Obj} (hI : IsIn (fun b => b < w.heap.size) w t c0 c1 c2 c3) : Is (put4 (w.alloc ob) w.heap.size 0 d0 d1 d2 d3) t c0 c1 c2 c3 :=
  IsIn_Is _ _ _ _ _ (IsIn_carry (S' := fun b => b < w.heap.size) (fun b hb => by rw [put4_other _ _ _ _ _ _ _ _ (Nat.ne_of_lt hb), Below.heap_alloc _ _ _ hb]) (fun _ h => h) _ _ _ _ _ hI)
theorem Row_one_get {w : World} {t : Tm} {b o : Nat} (h : Row w [t] (some ⟨b, o, none⟩)) : (∃ c0 c1 c2 c3, w.cell? ⟨b, o, none⟩ = some c0 ∧ w.cell? ⟨b, o + 1, none⟩ = some c1 ∧ w.cell? ⟨b, o + 2, none⟩ = some c2 ∧ w.cell? ⟨b, o + 3, none⟩ = some c3 ∧ Is w t c0 c1 c2 c3) ∧ True := by
  simp only [Row] at h
  obtain ⟨b', o', e, hL, _⟩ := h
  simp only [Option.some.injEq, Addr.mk.injEq, and_true] at e
  obtain ⟨rfl, rfl⟩ := e
  exact ⟨hL, trivial⟩
theorem put_keepE {w : World} {g : Nat} {t : Tm} {c0 c1 c2 c3 d0 d1 d2 d3 : Value} {T : TypeId} (hz : w.heap[g]? = some (.cells #[.int .i64 0, .string ⟨#[]⟩, .int .i64 0, .slice none 0 0] T (0, 0))) (h0 : nodesE t = 0) (hI : Is w t c0 c1 c2 c3) : Is (put4 w g 0 d0 d1 d2 d3) t c0 c1 c2 c3 := by
  refine is_keep (fun b hb => put4_other _ _ _ _ _ _ _ _ hb) (fun o n hc => ?_) t h0 _ _ _ _ hI
  unfold World.cell? at hc
  rw [hz] at hc
  match o, hc with
  | 0, hc => simp at hc; exact hc.symm
  | 1, hc => simp at hc
  | 2, hc => simp at hc; exact hc.symm
  | 3, hc => simp at hc
  | o + 4, hc => simp at hc
theorem validE_nodesE {t : Tm} (h : validE t = 0) : nodesE t = 0 := by
  unfold validE at h
  by_cases h0 : nodesE t = 0
  · exact h0
  · rw [if_neg h0] at h; exact absurd h h0

end Go.Proofs.Ytcieadjjcpmieaa
