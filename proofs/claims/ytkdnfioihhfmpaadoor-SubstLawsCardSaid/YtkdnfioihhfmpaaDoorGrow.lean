/-
  THE TERM THAT THE REFERENCE GROWS FROM A DRAFT's BYTES (node).
-/
import Derived.Test.YtkdnfioihhfmpaaDoorExs
import Derived.Test.YtkdnfioihhfmpaaDoorRput
import Derived.Test.YtkdnfioihhfmpaaDoorSep
namespace Go.Proofs.YtkdnfioihhfmpaaDoor
open Go.RowKit Go.Lib

/-- The bytes that a slice holds, each in its cell. -/
def Byts (w : World) (xa : Option Addr) (len : Nat) : Prop := ∀ i : Nat, i < len → ∃ (b o : Nat) (v : Int), xa = some ⟨b, o, none⟩ ∧ w.cell? ⟨b, o + i, none⟩ = some (.int .u8 v) ∧ 0 ≤ v ∧ v < 256
theorem Byts.below {w w' : World} {xa : Option Addr} {len : Nat} (h : Byts w xa len) (hb : Below w.heap.size w w') : Byts w' xa len := by
  intro i hi
  obtain ⟨b, o, v, e, hc, hv⟩ := h i hi
  exact ⟨b, o, v, e, keep_below hb _ _ hc, hv⟩
def AppIn (H : Nat) (w : World) (n : ByteArray) (ks : List Tm) (l : Nat) (e : Ending) (w' : World) : Prop := (∃ xa cap, e = .returned (.agg #[.int .i64 3, .string n, .int .i64 0, .slice xa l cap]) ∧ IsIn (fun b => H < b ∧ b < w'.heap.size) w' (.mk 3 n 0 ks) (.int .i64 3) (.string n) (.int .i64 0) (.slice xa l cap)) ∧ Ext w w'
theorem IsIn_mono {S S' : Nat → Prop} {w : World} {t : Tm} {c0 c1 c2 c3 : Value} (h : IsIn S w t c0 c1 c2 c3) (hS : ∀ b, S b → S' b) : IsIn S' w t c0 c1 c2 c3 := IsIn_carry (fun _ _ => rfl) hS t _ _ _ _ h

theorem app_end_in {H : Nat} {w w1 : World} {n : ByteArray} {ks : List Tm} {gg cap' : Nat} {cs : List Value} (hH : H ≤ w.heap.size) (hn : n.size ≤ maxLen) (hB : Below w.heap.size w w1) (hg : w.heap.size < gg)
    (hown : w1.ownsRow w.heap.size 25 4 (.slice (some ⟨gg, 0, none⟩) (0 + ks.length) cap') (0 + ks.length) ([] ++ cs)) (hK : KC (fun b => H < b ∧ b < w.heap.size) w ks cs) :
    AppIn H w n ks ks.length (.returned (.agg #[.int .i64 3, .string n, .int .i64 0, .slice (some ⟨gg, 0, none⟩) ks.length cap'])) ((((w1.setCell ⟨w.heap.size, 0, none⟩ (.int .i64 3)).setCell ⟨w.heap.size, 1, none⟩ (.string n)).setCell ⟨w.heap.size, 2, none⟩ (.int .i64 0)).setCell ⟨w.heap.size, 3, none⟩ (.slice (some ⟨gg, 0, none⟩) ks.length cap')) := by
  have hB4 := (((hB.setCell (p := ⟨w.heap.size, 0, none⟩) (Nat.le_refl _) (.int .i64 3)).setCell (p := ⟨w.heap.size, 1, none⟩) (Nat.le_refl _) (.string n)).setCell (p := ⟨w.heap.size, 2, none⟩) (Nat.le_refl _) (.int .i64 0)).setCell (p := ⟨w.heap.size, 3, none⟩) (Nat.le_refl _) (.slice (some ⟨gg, 0, none⟩) ks.length cap')
  refine ⟨⟨_, _, rfl, ?_⟩, hB4⟩
  rw [Nat.zero_add, List.nil_append] at hown
  have ho := own_heap (w' := (((w1.setCell ⟨w.heap.size, 0, none⟩ (.int .i64 3)).setCell ⟨w.heap.size, 1, none⟩ (.string n)).setCell ⟨w.heap.size, 2, none⟩ (.int .i64 0)).setCell ⟨w.heap.size, 3, none⟩ (.slice (some ⟨gg, 0, none⟩) ks.length cap')) hown (fun q hq => by
    simp only [Value.ownBlock, Option.some.injEq] at hq; subst hq
    rw [Below.heap_setCell _ _ _ _ (by simp only; omega), Below.heap_setCell _ _ _ _ (by simp only; omega), Below.heap_setCell _ _ _ _ (by simp only; omega), Below.heap_setCell _ _ _ _ (by simp only; omega)])
  refine IsIn_mono (IsIn_lt _ _ _ _ _ (IsIn_app (S' := fun b => H < b) hn ho (KC_carry (fun b hb => hB4.block b hb.2) (fun _ h => h) ks cs hK) (fun _ h => h.1) (fun q hq => ?_))) (fun _ h => h)
  simp only [Value.ownBlock, Option.some.injEq] at hq
  omega

set_option maxHeartbeats 1600000 in
set_option maxRecDepth 100000 in
theorem app_in (H : Nat) (n : ByteArray) (ks : List Tm) (cs : List Value) (kb ko cap : Nat) (w : World) (hH : H ≤ w.heap.size) (hn : n.size ≤ maxLen) (hl : ks.length ≤ 1073741824) (h0 : 0 < ks.length) (hK : KC (fun b => H < b ∧ b < w.heap.size) w ks cs) (hc : ∀ j u, cs[j]? = some u → w.cell? ((⟨kb, ko, none⟩ : Addr).add j) = some u) :
    Calls Tryd.prog 38 #[.string n, .slice (some ⟨kb, ko, none⟩) ks.length cap] w (AppIn H w n ks ks.length) := by
  obtain ⟨hcl, hone⟩ := KC_one ks cs hK
  have HC : Hid (∀ j u, cs[j]? = some u → ((w.alloc (.cells #[.int .i64 0, .string ⟨#[]⟩, .int .i64 0, .slice none 0 0] 25)).alloc (.cells #[] 25)).cell? ((⟨kb, ko, none⟩ : Addr).add j) = some u) := fun j u hu => keep_alloc _ _ _ _ (keep_alloc w _ _ _ (hc j u hu))
  have HP := Lib.hid hcl
  have HN := Lib.hid hone
  obtain ⟨i0, hi0, hz0, hz1, hz2⟩ := info_parts info24
  have HI0 := Lib.hid (And.intro hi0 (And.intro hz0 (And.intro hz1 hz2)))
  have HO : Hid (((w.alloc (.cells #[.int .i64 0, .string ⟨#[]⟩, .int .i64 0, .slice none 0 0] 25)).alloc (.cells #[] 25)).ownsRow w.heap.size 25 4 (.slice (some ⟨w.heap.size + 1, 0, none⟩) 0 0) 0 []) := by
    show World.ownsRow _ _ _ _ _ _ _
    have := World.ownsRow_made (e := 25) (size := 4) (base := w.heap.size) (w.alloc (.cells #[.int .i64 0, .string ⟨#[]⟩, .int .i64 0, .slice none 0 0] 25)) #[] 0 (by simp) (by simp [maxLen]) (by simp)
    simpa using this
  have HKC := Lib.hid hK
  clear hK hc hcl hone hi0 hz0 hz1 hz2
  go_enter Tryd.func38, Tryd.ntmps38
  go_wp2_with (at_builtin; (refine wpList_append_lies _ rfl _ _ _ rfl w.heap.size 25 i0 _ 4 56 Tryd.underlying23 HI0.out.1 HI0.out.2.1 HI0.out.2.2.1 HI0.out.2.2.2 rfl (by omega) (.slice (some ⟨w.heap.size + 1, 0, none⟩) 0 0) 0 [] rfl HO.out ⟨kb, ko, none⟩ ks.length cap cs rfl HP.out HC.out HN.out h0 (by unfold maxLen; omega) (by omega) (by simp; omega) (w.heap.size + 2) (by simp) ?_); intro gg cap' w1 hown1 hgrow hat hlt; have n1 : w.heap.size < gg := (by rcases hat with e | e; (simp only [Value.ownBlock, Option.some.injEq] at e; omega); omega); have hB1 := Lib.hid (app_grow hgrow); have y0 := hB1.out.2.1; have y1 := hB1.out.2.2.1; have y2 := hB1.out.2.2.2.1; have y3 := hB1.out.2.2.2.2.1; have z0 := hB1.out.2.2.2.2.2.1; have z1 := hB1.out.2.2.2.2.2.2.1; have z2 := hB1.out.2.2.2.2.2.2.2.1; have z3 := hB1.out.2.2.2.2.2.2.2.2; have HO1 := Lib.hid hown1; clear hown1 hgrow hat)
  exact bodyPost_ret (v := .agg #[.int .i64 3, .string n, .int .i64 0, .slice (some ⟨gg, 0, none⟩) ks.length cap']) (by simp [results, Tryd.results38, go_sem, y0, y1, y2, y3]) rfl (app_end_in hH hn hB1.out.1 n1 HO1.out HKC.out)

/-- A grown term is small, and its nodes are valid. -/
def FitT (h : Nat) (t : Tm) : Prop := size t + 1 ≤ 2 ^ (h + 1) ∧ nodesE t = 0
theorem nodes_g {n : ByteArray} {t : Tm} (hn : isNameB n.data.toList = true) (h : nodesE t = 0) : nodesE (.mk 3 n 0 [t]) = 0 := by
  rw [nodesE, if_pos (by simp [nodeE, hn]), nodesL, if_pos h, nodesL]
theorem nodes_f {n : ByteArray} {t u : Tm} (hn : isNameB n.data.toList = true) (h : nodesE t = 0) (h' : nodesE u = 0) : nodesE (.mk 3 n 0 [t, u]) = 0 := by
  rw [nodesE, if_pos (by simp [nodeE, hn]), nodesL, if_pos h, nodesL, if_pos h', nodesL]
def NodePost (w : World) (at' h : Nat) (e : Ending) (w' : World) : Prop :=
  ∃ (t : Tm) (k : Int) (n : ByteArray) (s : Int) (xa : Option Addr) (l c : Nat) (q : Nat), e = .returned (.tuple #[.agg #[.int .i64 k, .string n, .int .i64 s, .slice xa l c], .int .i64 (q : Int)]) ∧ IsIn (fun b => w.heap.size ≤ b ∧ b < w'.heap.size) w' t (.int .i64 k) (.string n) (.int .i64 s) (.slice xa l c) ∧ FitT h t ∧ q ≤ at' + size t ∧ Ext w w'

theorem put4_keep {w : World} {H b : Nat} {c0 c1 c2 c3 : Value} (h : b ≠ H) : (put4 w H 0 c0 c1 c2 c3).heap[b]? = w.heap[b]? := by
  unfold put4
  rw [Below.heap_setCell _ _ _ _ (by simp only; omega), Below.heap_setCell _ _ _ _ (by simp only; omega), Below.heap_setCell _ _ _ _ (by simp only; omega), Below.heap_setCell _ _ _ _ (by simp only; omega)]
theorem put4_len {w : World} {H : Nat} {c0 c1 c2 c3 : Value} : (put4 w H 0 c0 c1 c2 c3).heap.size = w.heap.size := by
  unfold put4
  simp [World.setCell]
theorem node_end2 {w w1 : World} {i h q : Nat} {k s : Int} {n : ByteArray} {t : Tm} {xa : Option Addr} {l c : Nat} (hI : IsIn (fun b => w.heap.size < b ∧ b < w1.heap.size) w1 t (.int .i64 k) (.string n) (.int .i64 s) (.slice xa l c)) (hs : FitT h t) (hq : q ≤ i + size t) (hE : Ext w w1) :
    NodePost w i h (.returned (.tuple #[.agg #[.int .i64 k, .string n, .int .i64 s, .slice xa l c], .int .i64 (q : Int)])) (put4 w1 w.heap.size 0 (.int .i64 k) (.string n) (.int .i64 s) (.slice xa l c)) := by
  refine ⟨t, k, n, s, xa, l, c, q, rfl, ?_, hs, hq, put4_below hE (Nat.le_refl _)⟩
  refine IsIn_carry (fun b hb => put4_keep (by omega)) (fun b hb => ?_) t _ _ _ _ hI
  rw [put4_len]
  exact ⟨by omega, hb.2⟩
theorem kid_ext {H : Nat} {w W : World} {t : Tm} {c0 c1 c2 c3 : Value} (hI : IsIn (fun b => H < b ∧ b < w.heap.size) w t c0 c1 c2 c3) (hE : Ext w W) : IsIn (fun b => H < b ∧ b < W.heap.size) W t c0 c1 c2 c3 :=
  IsIn_carry (fun b hb => hE.block b hb.2) (fun _ hb => ⟨hb.1, Nat.lt_of_lt_of_le hb.2 hE.size⟩) t _ _ _ _ hI
theorem kid_in {w V W : World} {t : Tm} {c0 c1 c2 c3 : Value} (hV : w.heap.size < V.heap.size) (hI : IsIn (fun b => V.heap.size ≤ b ∧ b < W.heap.size) W t c0 c1 c2 c3) : IsIn (fun b => w.heap.size < b ∧ b < W.heap.size) W t c0 c1 c2 c3 :=
  IsIn_mono hI fun b hb => ⟨by omega, hb.2⟩
theorem app_in1 (H : Nat) (n : ByteArray) (t : Tm) (c0 c1 c2 c3 : Value) (V : World) (kb : Nat) (T : TypeId) (hn : n.size ≤ maxLen) (hk : V.heap.size = kb) (hH : H < V.heap.size) (hI : IsIn (fun b => H < b ∧ b < V.heap.size) V t c0 c1 c2 c3) :
    Calls Tryd.prog 38 #[.string n, .slice (some ⟨kb, 0, none⟩) 1 1] (V.alloc (.cells #[c0, c1, c2, c3] T)) (AppIn H (V.alloc (.cells #[c0, c1, c2, c3] T)) n [t] 1) := by
  have c := cells_new_at V #[c0, c1, c2, c3] T kb hk
  refine app_in H n [t] [c0, c1, c2, c3] kb 0 1 _ (by rw [World.size_alloc]; omega) hn (by simp) (by simp) ⟨c0, c1, c2, c3, [], rfl, IsIn_carry (fun b hb => ((Ext.refl V).alloc _).block b hb.2) (fun b hb => ⟨hb.1, by rw [World.size_alloc]; omega⟩) t _ _ _ _ hI, rfl⟩ (fun j u hu => ?_)
  rw [add_plain, Nat.zero_add]
  exact c j u (by simpa using hu)
theorem app_in2 (H : Nat) (n : ByteArray) (t x : Tm) (c0 c1 c2 c3 d0 d1 d2 d3 : Value) (V : World) (kb : Nat) (T : TypeId) (hn : n.size ≤ maxLen) (hk : V.heap.size = kb) (hH : H < V.heap.size) (hI : IsIn (fun b => H < b ∧ b < V.heap.size) V t c0 c1 c2 c3) (hJ : IsIn (fun b => H < b ∧ b < V.heap.size) V x d0 d1 d2 d3) :
    Calls Tryd.prog 38 #[.string n, .slice (some ⟨kb, 0, none⟩) 2 2] (V.alloc (.cells #[c0, c1, c2, c3, d0, d1, d2, d3] T)) (AppIn H (V.alloc (.cells #[c0, c1, c2, c3, d0, d1, d2, d3] T)) n [t, x] 2) := by
  have c := cells_new_at V #[c0, c1, c2, c3, d0, d1, d2, d3] T kb hk
  have K : ∀ {y : Tm} {e0 e1 e2 e3 : Value}, IsIn (fun b => H < b ∧ b < V.heap.size) V y e0 e1 e2 e3 → IsIn (fun b => H < b ∧ b < (V.alloc (.cells #[c0, c1, c2, c3, d0, d1, d2, d3] T)).heap.size) (V.alloc (.cells #[c0, c1, c2, c3, d0, d1, d2, d3] T)) y e0 e1 e2 e3 := fun h => IsIn_carry (fun b hb => ((Ext.refl V).alloc _).block b hb.2) (fun b hb => ⟨hb.1, by rw [World.size_alloc]; omega⟩) _ _ _ _ _ h
  refine app_in H n [t, x] [c0, c1, c2, c3, d0, d1, d2, d3] kb 0 2 _ (by rw [World.size_alloc]; omega) hn (by simp) (by simp) ⟨c0, c1, c2, c3, _, rfl, K hI, d0, d1, d2, d3, [], rfl, K hJ, rfl⟩ (fun j u hu => ?_)
  rw [add_plain, Nat.zero_add]
  exact c j u (by simpa using hu)
theorem node_room {i q h : Nat} {t : Tm} (hs : FitT h t) (hq : q ≤ i + 1 + size t) (hi : i + (2 ^ (h + 1) + 2 ^ (h + 1)) ≤ 1048576) : q + 2 ^ (h + 1) ≤ 1048576 := by have := hs.1; omega
theorem node_end {w w1 : World} {i h : Nat} {k s : Int} {n : ByteArray} (hk : 0 ≤ k ∧ k ≤ 3) (hs : 0 ≤ s ∧ s ≤ 6) (hn : n.size ≤ maxLen) (hN : nodesE (.mk k n s []) = 0) (hE : Ext w w1) :
    NodePost w i h (.returned (.tuple #[.agg #[.int .i64 k, .string n, .int .i64 s, .slice none 0 0], .int .i64 ((i : Int) + 1)])) (put4 w1 w.heap.size 0 (.int .i64 k) (.string n) (.int .i64 s) (.slice none 0 0)) := by
  refine ⟨.mk k n s [], k, n, s, none, 0, 0, i + 1, rfl, IsIn_leaf hk hs hn, ⟨?_, hN⟩, by simp [size, sizes], put4_below hE (Nat.le_refl _)⟩
  have : 1 ≤ 2 ^ h := Nat.one_le_two_pow
  simp only [size, sizes, Nat.pow_succ]
  omega

set_option maxHeartbeats 1600000 in
set_option maxRecDepth 100000 in
theorem node_leaf (h : Nat) (xa : Option Addr) (len cap i d : Nat) (w : World) (hi : i + 2 ^ (h + 1) ≤ 1048576) (hd : d ≤ 1048576) (hB : Byts w xa len)
    (IH : d < 5 → ∃ h', h = h' + 1 ∧ ∀ (j e : Int) (q : Nat) (W : World), j = (q : Int) → e = (d : Int) + 1 → q + 2 ^ (h' + 1) ≤ 1048576 → Ext w W → Calls Tryd.prog 68 #[.slice xa len cap, .int .i64 j, .int .i64 e] W (NodePost W q h')) :
    Calls Tryd.prog 68 #[.slice xa len cap, .int .i64 (i : Int), .int .i64 (d : Int)] w (NodePost w i h) := by
  have HB := Lib.hid hB
  have HIH := Lib.hid IH
  clear hB IH
  go_enter Tryd.func68, Tryd.ntmps68
  go_upto_if 17 with (fail)
  go_cut [8] (fun t8 wc => ∃ c : Int, t8 = .int .u8 c ∧ 0 ≤ c ∧ c < 256 ∧ wc = w.alloc (.cells #[.int .i64 0, .string ⟨#[]⟩, .int .i64 0, .slice none 0 0] 25))
  case first =>
    by_cases hlt : i < len
    · obtain ⟨b, o, v, rfl, hc, hv0, hv1⟩ := HB.out i hlt
      have e0 : decide ((i : Int) < (len : Int)) = true := by simp [hlt]
      have hcc := keep_alloc w (.cells #[.int .i64 0, .string ⟨#[]⟩, .int .i64 0, .slice none 0 0] 25) _ _ hc
      clear hc
      go_wp2_with fail
      go_meet
      exact ⟨v, rfl, hv0, hv1, rfl⟩
    · have e0 : decide ((i : Int) < (len : Int)) = false := by simp [hlt]
      go_wp2_with fail
      go_meet
      exact ⟨3, rfl, by omega, by omega, rfl⟩
  case rest =>
  obtain ⟨c, rfl, hc0, hc1, rfl⟩ := hcut
  go_upto_if 23 with (fail)
  go_cut [8] (fun t8 wd => ∃ c : Int, t8 = .int .u8 c ∧ 0 ≤ c ∧ c < 256 ∧ (5 ≤ d → c < 6) ∧ wd = w.alloc (.cells #[.int .i64 0, .string ⟨#[]⟩, .int .i64 0, .slice none 0 0] 25))
  case first =>
    by_cases h5 : 5 ≤ d
    · have e1 : decide ((5 : Int) ≤ (d : Int)) = true := by simp; omega
      go_wp2_with fail
      go_meet
      exact ⟨c % 6, rfl, by omega, by omega, by omega, rfl⟩
    · have e1 : decide ((5 : Int) ≤ (d : Int)) = false := by simp; omega
      go_wp2_with fail
      go_meet
      exact ⟨c, rfl, hc0, hc1, by omega, rfl⟩
  case rest =>
  obtain ⟨c2, rfl, hd0, hd1, hd5, rfl⟩ := hcut
  obtain ⟨m, hm⟩ : ∃ m, c2.tmod 8 = m := ⟨_, rfl⟩
  have hm2 : c2 % 8 = m := by rw [← hm]; exact (Int.tmod_eq_emod_of_nonneg hd0).symm
  have hm8 : m = 0 ∨ m = 1 ∨ m = 2 ∨ m = 3 ∨ m = 4 ∨ m = 5 ∨ m = 6 ∨ m = 7 := by omega
  have HX : Hid (∀ W, Ext (w.alloc (.cells #[.int .i64 0, .string ⟨#[]⟩, .int .i64 0, .slice none 0 0] 25)) W → W.heap[w.heap.size]? = some (.cells #[.int .i64 0, .string ⟨#[]⟩, .int .i64 0, .slice none 0 0] 25 (0, 0)) ∧ Ext w W) := fun W h => ⟨(h.block _ (by simp)).trans (heap_alloc_new _ _), Ext.trans ((Ext.refl w).alloc _) h⟩
  have hd6 : m = 6 ∨ m = 7 → d < 5 := by omega
  rcases hm8 with rfl | rfl | rfl | rfl | rfl | rfl | rfl | rfl
  · clear hc0 hc1 hd0 hd1 hd5 hd6
    replace hi : i ≤ 1048576 := Nat.le_trans (Nat.le_add_right i _) hi
    have ex : (⟨#[120, 121, 122]⟩ : ByteArray).extract 0 1 = ⟨#[120]⟩ := by kernel_rfl
    go_wp2_with (go_at_call 52; refine (var_any _ _ _).mono ?_; rintro e w1 ⟨he, hB⟩; subst he; have HB1 := Lib.hid hB; obtain ⟨⟨y0, y1, y2, y3⟩, z0, z1, z2, z3⟩ := box_facts (HX.out _ hB).1; clear hB)
    exact bodyPost_ret (v := .tuple #[.agg #[.int .i64 1, .string ⟨#[120]⟩, .int .i64 0, .slice none 0 0], .int .i64 ((i : Int) + 1)]) (by simp [results, Tryd.results68, go_sem, y0, y1, y2, y3]) rfl (node_end (by omega) (by omega) (by decide) (by kernel_rfl) (HX.out _ HB1.out).2)
  · clear hc0 hc1 hd0 hd1 hd5 hd6
    replace hi : i ≤ 1048576 := Nat.le_trans (Nat.le_add_right i _) hi
    have ex : (⟨#[120, 121, 122]⟩ : ByteArray).extract 1 2 = ⟨#[121]⟩ := by kernel_rfl
    go_wp2_with (go_at_call 52; refine (var_any _ _ _).mono ?_; rintro e w1 ⟨he, hB⟩; subst he; have HB1 := Lib.hid hB; obtain ⟨⟨y0, y1, y2, y3⟩, z0, z1, z2, z3⟩ := box_facts (HX.out _ hB).1; clear hB)
    exact bodyPost_ret (v := .tuple #[.agg #[.int .i64 1, .string ⟨#[121]⟩, .int .i64 0, .slice none 0 0], .int .i64 ((i : Int) + 1)]) (by simp [results, Tryd.results68, go_sem, y0, y1, y2, y3]) rfl (node_end (by omega) (by omega) (by decide) (by kernel_rfl) (HX.out _ HB1.out).2)
  · clear hc0 hc1 hd0 hd1 hd5 hd6
    replace hi : i ≤ 1048576 := Nat.le_trans (Nat.le_add_right i _) hi
    have ex : (⟨#[120, 121, 122]⟩ : ByteArray).extract 2 3 = ⟨#[122]⟩ := by kernel_rfl
    go_wp2_with (go_at_call 52; refine (var_any _ _ _).mono ?_; rintro e w1 ⟨he, hB⟩; subst he; have HB1 := Lib.hid hB; obtain ⟨⟨y0, y1, y2, y3⟩, z0, z1, z2, z3⟩ := box_facts (HX.out _ hB).1; clear hB)
    exact bodyPost_ret (v := .tuple #[.agg #[.int .i64 1, .string ⟨#[122]⟩, .int .i64 0, .slice none 0 0], .int .i64 ((i : Int) + 1)]) (by simp [results, Tryd.results68, go_sem, y0, y1, y2, y3]) rfl (node_end (by omega) (by omega) (by decide) (by kernel_rfl) (HX.out _ HB1.out).2)
  · clear hc0 hc1 hd0 hd1 hd5 hd6
    replace hi : i ≤ 1048576 := Nat.le_trans (Nat.le_add_right i _) hi
    go_wp2_with (go_at_call 37; refine (atom_any _ _ _).mono ?_; rintro e w1 ⟨he, hB⟩; subst he; have HB1 := Lib.hid hB; obtain ⟨⟨y0, y1, y2, y3⟩, z0, z1, z2, z3⟩ := box_facts (HX.out _ hB).1; clear hB)
    exact bodyPost_ret (v := .tuple #[.agg #[.int .i64 2, .string ⟨#[97]⟩, .int .i64 0, .slice none 0 0], .int .i64 ((i : Int) + 1)]) (by simp [results, Tryd.results68, go_sem, y0, y1, y2, y3]) rfl (node_end (by omega) (by omega) (by decide) (by kernel_rfl) (HX.out _ HB1.out).2)
  · clear hc0 hc1 hd0 hd1 hd5 hd6
    replace hi : i ≤ 1048576 := Nat.le_trans (Nat.le_add_right i _) hi
    go_wp2_with (go_at_call 52; refine (var_any _ _ _).mono ?_; rintro e w1 ⟨he, hB⟩; subst he; have HB1 := Lib.hid hB; obtain ⟨⟨y0, y1, y2, y3⟩, z0, z1, z2, z3⟩ := box_facts (HX.out _ hB).1; clear hB)
    exact bodyPost_ret (v := .tuple #[.agg #[.int .i64 1, .string ⟨#[110]⟩, .int .i64 2, .slice none 0 0], .int .i64 ((i : Int) + 1)]) (by simp [results, Tryd.results68, go_sem, y0, y1, y2, y3]) rfl (node_end (by omega) (by omega) (by decide) (by kernel_rfl) (HX.out _ HB1.out).2)
  · clear hc0 hc1 hd0 hd1 hd5 hd6
    replace hi : i ≤ 1048576 := Nat.le_trans (Nat.le_add_right i _) hi
    go_wp2_with (go_at_call 37; refine (atom_any _ _ _).mono ?_; rintro e w1 ⟨he, hB⟩; subst he; have HB1 := Lib.hid hB; obtain ⟨⟨y0, y1, y2, y3⟩, z0, z1, z2, z3⟩ := box_facts (HX.out _ hB).1; clear hB)
    exact bodyPost_ret (v := .tuple #[.agg #[.int .i64 2, .string ⟨#[109]⟩, .int .i64 2, .slice none 0 0], .int .i64 ((i : Int) + 1)]) (by simp [results, Tryd.results68, go_sem, y0, y1, y2, y3]) rfl (node_end (by omega) (by omega) (by decide) (by kernel_rfl) (HX.out _ HB1.out).2)
  · obtain ⟨h', rfl, hIH⟩ := HIH.out (hd6 (Or.inl rfl))
    have HIA := Lib.hid hIH
    have hp : 2 ^ (h' + 1 + 1) = 2 * 2 ^ (h' + 1) := by rw [Nat.pow_succ, Nat.mul_comm]
    have hp1 : 1 ≤ 2 ^ (h' + 1) := Nat.one_le_two_pow
    have HI0 : Hid (i + 1 + 2 ^ (h' + 1) ≤ 1048576) := Lib.hid (by omega)
    have HP := Lib.hid hp
    replace hi : i ≤ 1048576 := Nat.le_trans (Nat.le_add_right i _) hi
    clear hc0 hc1 hd0 hd1 hd5 hd6 hIH HIH hp hp1
    go_wp2_with (first
      | (go_at_call 68; refine (HIA.out _ _ (i + 1) _ (by simp) (by simp) HI0.out ((Ext.refl w).alloc _)).mono ?_; rintro e w1 ⟨t, k, n, s, xt, l, c', q, he, hI, hsz, hq, hE⟩; subst he; have HI := Lib.hid (kid_in (w := w) (by simp) hI); have HSZ := Lib.hid hsz; have HQ := Lib.hid hq; have HE := Lib.hid hE; clear hI hsz hq hE)
      | (go_at_call 38; refine (app_in1 w.heap.size ⟨#[103]⟩ t _ _ _ _ (w1.alloc _) _ _ (by decide) (by simp) (by have := HE.out.size; simp at this ⊢; omega) (kid_ext HI.out ((Ext.refl w1).alloc _))).mono ?_; rintro e w3 ⟨⟨xa3, c3, he, hJ⟩, hB⟩; subst he; have HB3 := Lib.hid (Ext.trans HE.out (Ext.trans (((Ext.refl w1).alloc _).alloc _) hB)); obtain ⟨⟨y0, y1, y2, y3⟩, z0, z1, z2, z3⟩ := box_facts (HX.out _ HB3.out).1; have HJ := Lib.hid hJ; clear hJ hB))
    refine bodyPost_ret (v := .tuple #[.agg #[.int .i64 3, .string ⟨#[103]⟩, .int .i64 0, .slice xa3 1 c3], .int .i64 (q : Int)]) (by simp [results, Tryd.results68, go_sem, y0, y1, y2, y3]) rfl (node_end2 HJ.out ?_ ?_ (HX.out _ HB3.out).2)
    · have := HSZ.out.1
      have := HP.out
      refine ⟨?_, nodes_g (by kernel_rfl) HSZ.out.2⟩
      simp only [size, sizes]
      omega
    · have := HQ.out
      simp only [size, sizes]
      omega
  · obtain ⟨h', rfl, hIH⟩ := HIH.out (hd6 (Or.inr rfl))
    have HIA := Lib.hid hIH
    have hp : 2 ^ (h' + 1 + 1) = 2 * 2 ^ (h' + 1) := by rw [Nat.pow_succ, Nat.mul_comm]
    have hp1 : 1 ≤ 2 ^ (h' + 1) := Nat.one_le_two_pow
    have HI0 : Hid (i + 1 + 2 ^ (h' + 1) ≤ 1048576) := Lib.hid (by omega)
    have HP := Lib.hid hp
    have hiH : i + (2 ^ (h' + 1) + 2 ^ (h' + 1)) ≤ 1048576 := by omega
    replace hi : i ≤ 1048576 := Nat.le_trans (Nat.le_add_right i _) hi
    clear hc0 hc1 hd0 hd1 hd5 hd6 hIH HIH hp hp1
    have HH := Lib.hid hiH
    clear hiH
    have tok1 : True := trivial
    go_wp2_with (first
      | (go_at_call 68; (first
          | (have _t := tok1; refine (HIA.out _ _ (i + 1) _ (by simp) (by simp) HI0.out ((Ext.refl w).alloc _)).mono ?_; rintro e w1 ⟨t, k, n, s, xt, l, c', q, he, hI, hsz, hq, hE⟩; subst he; have HI := Lib.hid (kid_in (w := w) (by simp) hI); have HSZ := Lib.hid hsz; have HQ := Lib.hid hq; have HE := Lib.hid hE; have HHZ := Lib.hid (node_room hsz hq HH.out); clear hI hsz hq hE tok1)
          | (refine (HIA.out _ _ q _ rfl (by simp) HHZ.out (Ext.alloc (HX.out _ HE.out).2 _)).mono ?_; rintro e w2 ⟨t2, k2, n2, s2, xt2, l2, c2', q2, he, hI, hsz, hq, hE⟩; subst he; obtain ⟨⟨m0, m1, m2, m3⟩, v0, v1, v2, v3⟩ := box_facts ((hE.block w1.heap.size (by simp)).trans (heap_alloc_new _ _)); have p0 := keep_alloc w2 (.cells #[.int .i64 k2, .string n2, .int .i64 s2, .slice xt2 l2 c2'] 25) _ _ m0; have p1 := keep_alloc w2 (.cells #[.int .i64 k2, .string n2, .int .i64 s2, .slice xt2 l2 c2'] 25) _ _ m1; have p2 := keep_alloc w2 (.cells #[.int .i64 k2, .string n2, .int .i64 s2, .slice xt2 l2 c2'] 25) _ _ m2; have p3 := keep_alloc w2 (.cells #[.int .i64 k2, .string n2, .int .i64 s2, .slice xt2 l2 c2'] 25) _ _ m3; clear m0 m1 m2 m3 v0 v1 v2 v3; have HI2 := Lib.hid (kid_in (w := w) (by have := (HX.out _ HE.out).2.size; simp; omega) hI); have HSZ2 := Lib.hid hsz; have HQ2 := Lib.hid hq; have HE2 := Lib.hid hE; clear hI hsz hq hE)))
      | (go_at_call 38; refine (app_in2 w.heap.size ⟨#[102]⟩ t t2 _ _ _ _ _ _ _ _ (w2.alloc _) _ _ (by decide) (by simp) (by have := (HX.out _ HE.out).2.size; have := HE2.out.size; simp at this ⊢; omega) (kid_ext HI.out (Ext.alloc (Ext.trans ((Ext.refl w1).alloc _) HE2.out) _)) (kid_ext HI2.out ((Ext.refl w2).alloc _))).mono ?_; rintro e w3 ⟨⟨xa3, c3, he, hJ⟩, hB⟩; subst he; have HB3 := Lib.hid (Ext.trans HE.out (Ext.trans ((Ext.refl w1).alloc _) (Ext.trans HE2.out (Ext.trans (((Ext.refl w2).alloc _).alloc _) hB)))); obtain ⟨⟨y0, y1, y2, y3⟩, z0, z1, z2, z3⟩ := box_facts (HX.out _ HB3.out).1; have HJ := Lib.hid hJ; clear hJ hB))
    refine bodyPost_ret (v := .tuple #[.agg #[.int .i64 3, .string ⟨#[102]⟩, .int .i64 0, .slice xa3 2 c3], .int .i64 (q2 : Int)]) (by simp [results, Tryd.results68, go_sem, y0, y1, y2, y3]) rfl (node_end2 HJ.out ?_ ?_ (HX.out _ HB3.out).2)
    · have := HSZ.out.1
      have := HSZ2.out.1
      have := HP.out
      refine ⟨?_, nodes_f (by kernel_rfl) HSZ.out.2 HSZ2.out.2⟩
      simp only [size, sizes]
      omega
    · have := HQ.out
      have := HQ2.out
      simp only [size, sizes]
      omega

theorem gnode_any : ∀ (h : Nat) (xa : Option Addr) (len cap i d : Nat) (w : World), 5 ≤ d + h → i + 2 ^ (h + 1) ≤ 1048576 → d ≤ 1048576 → Byts w xa len →
    Calls Tryd.prog 68 #[.slice xa len cap, .int .i64 (i : Int), .int .i64 (d : Int)] w (NodePost w i h)
  | 0, xa, len, cap, i, d, w, h5, hi, hd, hB => node_leaf 0 xa len cap i d w hi hd hB (fun h => absurd h (by omega))
  | h + 1, xa, len, cap, i, d, w, h5, hi, hd, hB => node_leaf (h + 1) xa len cap i d w hi hd hB fun hlt => ⟨h, rfl, by
      rintro j e q W rfl rfl hq hE
      exact gnode_any h xa len cap q (d + 1) W (by omega) hq (by omega) (hB.below hE)⟩

def GrownPost (w : World) (e : Ending) (w' : World) : Prop :=
  ∃ (t : Tm) (k : Int) (n : ByteArray) (s : Int) (xa : Option Addr) (l c : Nat), e = .returned (.agg #[.int .i64 k, .string n, .int .i64 s, .slice xa l c]) ∧ IsIn (fun b => w.heap.size ≤ b ∧ b < w'.heap.size) w' t (.int .i64 k) (.string n) (.int .i64 s) (.slice xa l c) ∧ (size t ≤ 31 ∧ nodesE t = 0) ∧ Ext w w'

theorem grown_end {w w1 : World} {k s : Int} {n : ByteArray} {t : Tm} {xa : Option Addr} {l c : Nat} (hI : IsIn (fun b => w.heap.size < b ∧ b < w1.heap.size) w1 t (.int .i64 k) (.string n) (.int .i64 s) (.slice xa l c)) (hs : size t ≤ 31 ∧ nodesE t = 0) (hE : Ext w w1) :
    GrownPost w (.returned (.agg #[.int .i64 k, .string n, .int .i64 s, .slice xa l c])) (put4 w1 w.heap.size 0 (.int .i64 k) (.string n) (.int .i64 s) (.slice xa l c)) := by
  refine ⟨t, k, n, s, xa, l, c, rfl, ?_, hs, put4_below hE (Nat.le_refl _)⟩
  refine IsIn_carry (fun b hb => put4_keep (by omega)) (fun b hb => ?_) t _ _ _ _ hI
  rw [put4_len]
  exact ⟨by omega, hb.2⟩

set_option maxHeartbeats 1600000 in
set_option maxRecDepth 100000 in
theorem grown_any (xa : Option Addr) (len cap : Nat) (w : World) (hB : Byts w xa len) :
    Calls Tryd.prog 33 #[.slice xa len cap] w (GrownPost w) := by
  have HN := Lib.hid (gnode_any 4 xa len cap 0 1 (w.alloc (.cells #[.int .i64 0, .string ⟨#[]⟩, .int .i64 0, .slice none 0 0] 25)) (by omega) (by omega) (by omega) (hB.below ((Ext.refl w).alloc _)))
  have HX : Hid (∀ W, Ext (w.alloc (.cells #[.int .i64 0, .string ⟨#[]⟩, .int .i64 0, .slice none 0 0] 25)) W → W.heap[w.heap.size]? = some (.cells #[.int .i64 0, .string ⟨#[]⟩, .int .i64 0, .slice none 0 0] 25 (0, 0)) ∧ Ext w W) := fun W h => ⟨(h.block _ (by simp)).trans (heap_alloc_new _ _), Ext.trans ((Ext.refl w).alloc _) h⟩
  clear hB
  go_enter Tryd.func33, Tryd.ntmps33
  by_cases h0 : len = 0
  · have e0 : ((len : Int) == 0) = true := by simp [h0]
    clear h0
    go_wp2_with (first
      | (go_at_call 68; refine (HN.out).mono ?_; rintro e w1 ⟨t, k, n, s, xt, l, c', q, he, _, _, _, hE⟩; subst he; have HE := Lib.hid hE; clear hE)
      | (go_at_call 37; refine (atom_any _ _ _).mono ?_; rintro e w2 ⟨he, hB2⟩; subst he; have HB2 := Lib.hid (Ext.trans HE.out (Ext.trans ((Ext.refl w1).alloc _) hB2)); obtain ⟨⟨y0, y1, y2, y3⟩, z0, z1, z2, z3⟩ := box_facts (HX.out _ HB2.out).1; clear hB2))
    exact bodyPost_ret (v := .agg #[.int .i64 2, .string ⟨#[97]⟩, .int .i64 0, .slice none 0 0]) (by simp [results, Tryd.results33, go_sem, y0, y1, y2, y3]) rfl ⟨.mk 2 ⟨#[97]⟩ 0 [], _, _, _, _, _, _, rfl, IsIn_leaf (by omega) (by omega) (by decide), ⟨by simp [size, sizes], by kernel_rfl⟩, put4_below (w' := w2) (g := w.heap.size) (o := 0) (HX.out _ HB2.out).2 (Nat.le_refl _)⟩
  · have e0 : ((len : Int) == 0) = false := by simp [h0]
    clear h0
    go_wp2_with (go_at_call 68; refine (HN.out).mono ?_; rintro e w1 ⟨t, k, n, s, xt, l, c', q, he, hI, hsz, _, hE⟩; subst he; have HE := Lib.hid hE; have HB1 := Lib.hid (Ext.alloc hE (.cells #[.int .i64 k, .string n, .int .i64 s, .slice xt l c'] 25)); obtain ⟨⟨y0, y1, y2, y3⟩, z0, z1, z2, z3⟩ := box_facts (HX.out _ HB1.out).1; have HI := Lib.hid (kid_in (w := w) (by simp) hI); have HSZ := Lib.hid hsz; clear hI hsz hE)
    refine bodyPost_ret (v := .agg #[.int .i64 k, .string n, .int .i64 s, .slice xt l c']) (by simp [results, Tryd.results33, go_sem, y0, y1, y2, y3]) rfl (grown_end (kid_ext HI.out ((Ext.refl w1).alloc _)) ⟨by have := HSZ.out.1; omega, HSZ.out.2⟩ (HX.out _ HB1.out).2)

end Go.Proofs.YtkdnfioihhfmpaaDoor

/-
  THE COMPOSITION's LAWS, on plain data: its effect, that it is valid, that it is associative.
-/
namespace Go.Proofs.YtkdnfioihhfmpaaDoor
open Go.RowKit

theorem getB_iff {l : List Bd} (h : l.Pairwise NeB) (x v : Tm) : getB l x = some v ↔ (x, v) ∈ l := by
  induction l with
  | nil => simp [getB]
  | cons b l ih =>
    obtain ⟨h1, h2⟩ := List.pairwise_cons.1 h
    rw [getB]
    by_cases hc : cmpT b.1 x = 0
    · rw [if_pos hc]
      have e := cmpT_zero _ _ hc
      constructor
      · intro hv
        simp only [Option.some.injEq] at hv
        rw [← e, ← hv]
        exact List.mem_cons_self ..
      · intro hm
        rcases List.mem_cons.1 hm with hm | hm
        · rw [← hm]
        · exact absurd (by show cmpT b.1 x = 0; exact hc) (h1 _ hm)
    · rw [if_neg hc, ih h2]
      constructor
      · exact fun hm => List.mem_cons_of_mem _ hm
      · intro hm
        rcases List.mem_cons.1 hm with hm | hm
        · exfalso
          apply hc
          rw [← hm]
          exact cmpT_self _
        · exact hm
theorem getB_absent {l : List Bd} {x : Tm} (h : getB l x = none) : ∀ b ∈ l, ¬ cmpT b.1 x = 0 := by
  induction l with
  | nil => simp
  | cons b l ih =>
    rw [getB] at h
    by_cases hc : cmpT b.1 x = 0
    · rw [if_pos hc] at h; simp at h
    · rw [if_neg hc] at h
      intro c hm
      rcases List.mem_cons.1 hm with rfl | hm
      · exact hc
      · exact ih h c hm
/-- A valid substitution. -/
theorem valid_facts {bs : List Bd} (h : validB bs = 0) : (∀ b ∈ bs, bindE b.1 b.2 = 0) ∧ bs.Pairwise LtB := ⟨(validB_ok h).2.1, SortedB_pair (validB_ok h).2.2⟩
theorem LtB_NeBs {bs : List Bd} (h : bs.Pairwise LtB) : bs.Pairwise NeB := h.imp (fun x => LtB_NeB x)
theorem applyP_ok {bs : List Bd} {t : Tm} (h : (applyP bs t).2 = 0) : (applyP bs t).1 = apT bs t ∧ validE t = 0 ∧ validE (apT bs t) = 0 := by
  unfold applyP at h ⊢
  by_cases e1 : validE t = 0
  · rw [if_pos e1] at h ⊢
    by_cases e2 : validE (apT bs t) = 0
    · rw [if_pos e2]; exact ⟨rfl, e1, e2⟩
    · rw [if_neg e2] at h; exact absurd h e2
  · rw [if_neg e1] at h; exact absurd h e1
/-- What the composition makes of a variable. -/
theorem com_val {ss ts : List Bd} (h1 : validB ss = 0) (h2 : validB ts = 0) (hf : (folP ts ss).2 = 0) (n : ByteArray) (s : Int) : getR (comR ss ts) (.mk 1 n s []) = apT ts (getR ss (.mk 1 n s [])) := by
  obtain ⟨s2, s3⟩ := valid_facts h1
  obtain ⟨t2, t3⟩ := valid_facts h2
  obtain ⟨c1, c2, _⟩ := comR_facts s3 t3 (fun b hb => bindE_ne (t2 b hb))
  have hok := (folP_ok ts ss hf).2
  have hx : apT ts (.mk 1 n s []) = getR ts (.mk 1 n s []) := by
    rw [apT, if_pos rfl]
    unfold getR
    cases getB ts (.mk 1 n s []) with
    | none => rfl
    | some u => rfl
  generalize hX : (Tm.mk 1 n s []) = x at hx ⊢
  cases hs : getB ss x with
  | some v =>
    have hm : (x, v) ∈ ss := (getB_iff (LtB_NeBs s3) x v).1 hs
    have hv : getR ss x = v := by unfold getR; rw [hs]; rfl
    rw [hv]
    have hap := (applyP_ok (hok _ hm)).1
    by_cases he : cmpT x (apT ts v) = 0
    · have e := cmpT_zero _ _ he
      have hn : getB (comR ss ts) x = none := by
        cases hg : getB (comR ss ts) x with
        | none => rfl
        | some u =>
          exfalso
          have hmu := (c2.mem_iff).1 ((getB_iff (LtB_NeBs c1) x u).1 hg)
          rcases List.mem_append.1 hmu with hmu | hmu
          · obtain ⟨hm1, hm2⟩ := List.mem_filter.1 hmu
            obtain ⟨b, hb, hbe⟩ := List.mem_map.1 hm1
            have hb1 : b.1 = x := (Prod.mk.inj hbe).1
            have hb2 : (applyP ts b.2).1 = u := (Prod.mk.inj hbe).2
            have hbv : b.2 = v := by
              have := (getB_iff (LtB_NeBs s3) x b.2).2 (by rw [← hb1]; exact hb)
              rw [hs, Option.some.injEq] at this; exact this.symm
            rw [hbv] at hb2
            rw [hap] at hb2
            rw [← hb2] at hm2
            simp [he] at hm2
          · have := (List.mem_filter.1 hmu).2
            have hbd : bndB ss x = true := by
              unfold bndB
              rw [List.any_eq_true]
              exact ⟨_, hm, by rw [cmpT_self]; rfl⟩
            rw [hbd] at this
            exact absurd this (by decide)
      unfold getR
      rw [hn]
      exact e
    · have hmem : (x, apT ts v) ∈ comR ss ts := by
        rw [c2.mem_iff]
        refine List.mem_append.2 (Or.inl (List.mem_filter.2 ⟨List.mem_map.2 ⟨(x, v), hm, by rw [hap]⟩, by simpa using he⟩))
      unfold getR
      rw [(getB_iff (LtB_NeBs c1) x _).2 hmem]; rfl
  | none =>
    have hv : getR ss x = x := by unfold getR; rw [hs]; rfl
    rw [hv, hx]
    have hbd : bndB ss x = false := bndB_no (getB_absent hs)
    have hiff : ∀ u, getB (comR ss ts) x = some u ↔ getB ts x = some u := by
      intro u
      rw [getB_iff (LtB_NeBs c1), getB_iff (LtB_NeBs t3), c2.mem_iff, List.mem_append]
      constructor
      · rintro (h | h)
        · obtain ⟨b, hb, hbe⟩ := List.mem_map.1 (List.mem_filter.1 h).1
          have hb1 : b.1 = x := (Prod.mk.inj hbe).1
          exact absurd (by rw [hb1]; exact cmpT_self _) (getB_absent hs b hb)
        · exact (List.mem_filter.1 h).1
      · intro h
        exact Or.inr (List.mem_filter.2 ⟨h, by show (! bndB ss x) = true; rw [hbd]; rfl⟩)
    unfold getR
    congr 1
    exact Option.ext (fun u => hiff u)
/-- Its effect on a term: both substitutions, one after the other. -/
theorem com_effect {ss ts : List Bd} (h1 : validB ss = 0) (h2 : validB ts = 0) (hf : (folP ts ss).2 = 0) (t : Tm) : nodesE t = 0 → apT (comR ss ts) t = apT ts (apT ss t) := by
  have hvar : ∀ (bs : List Bd) (n : ByteArray) (s : Int), apT bs (.mk 1 n s []) = getR bs (.mk 1 n s []) := by
    intro bs n s
    rw [apT, if_pos rfl]
    unfold getR
    cases getB bs (.mk 1 n s []) with
    | none => rfl
    | some u => rfl
  refine Tm.rec (motive_1 := fun t => nodesE t = 0 → apT (comR ss ts) t = apT ts (apT ss t)) (motive_2 := fun us => nodesL us = 0 → apL (comR ss ts) us = apL ts (apL ss us)) ?_ ?_ ?_ t
  · intro k n s ks ih h
    obtain ⟨e1, e2⟩ := nodesE_parts h
    by_cases hk : k = 1
    · subst hk
      have := nodeE_var e1
      subst this
      rw [hvar, hvar ss, com_val h1 h2 hf]
    · rw [apT, if_neg hk, ih e2]
      have e3 : apT ss (.mk k n s ks) = .mk k n s (apL ss ks) := by rw [apT, if_neg hk]
      rw [e3, apT, if_neg hk]
  · intro _; rfl
  · intro t us h3 h4 h
    rw [nodesL] at h
    by_cases h0 : nodesE t = 0
    · rw [if_pos h0] at h
      rw [apL, h3 h0, h4 h]; rfl
    · rw [if_neg h0] at h; exact absurd h h0
theorem bindE_parts {v t : Tm} (h : bindE v t = 0) : validE v = 0 ∧ v.kind = 1 ∧ ¬ cmpT v t = 0 ∧ validE t = 0 ∧ (v.sort = 0 ∨ v.sort = t.sort) := by
  unfold bindE at h
  by_cases e1 : validE v = 0
  · rw [if_pos e1] at h
    by_cases e2 : ¬ v.kind = 1 ∨ cmpT v t = 0
    · rw [if_pos e2] at h; exact absurd h (by decide)
    · rw [if_neg e2] at h
      by_cases e3 : validE t = 0
      · rw [if_pos e3] at h
        by_cases e4 : v.sort = 0 ∨ v.sort = t.sort
        · exact ⟨e1, by by_cases hk : v.kind = 1; exact hk; exact absurd (Or.inl hk) e2, fun e => e2 (Or.inr e), e3, e4⟩
        · rw [if_neg e4] at h; exact absurd h (by decide)
      · rw [if_neg e3] at h; exact absurd h e3
  · rw [if_neg e1] at h; exact absurd h e1
theorem bindE_mk {v t : Tm} (h1 : validE v = 0) (h2 : v.kind = 1) (h3 : ¬ cmpT v t = 0) (h4 : validE t = 0) (h5 : v.sort = 0 ∨ v.sort = t.sort) : bindE v t = 0 := by
  unfold bindE
  rw [if_pos h1, if_neg (by rintro (h | h); exact h h2; exact h3 h), if_pos h4, if_pos h5]
/-- A valid variable is a leaf. -/
theorem var_leaf {v : Tm} (h1 : validE v = 0) (h2 : v.kind = 1) : ∃ n s, v = .mk 1 n s [] := by
  obtain ⟨k, n, s, ks⟩ := v
  simp only [Tm.kind] at h2
  subst h2
  obtain ⟨e1, _⟩ := nodesE_parts (validE_nodes h1)
  have := nodeE_var e1
  subst this
  exact ⟨n, s, rfl⟩
/-- A sort is kept. -/
theorem sort_keep {ts : List Bd} (h2 : validB ts = 0) {v : Tm} (hv : validE v = 0) (h0 : ¬ v.sort = 0) : (apT ts v).sort = v.sort := by
  obtain ⟨t2, t3⟩ := valid_facts h2
  rcases valid_leaf hv h0 with hk | hk
  · obtain ⟨n, s, rfl⟩ := var_leaf hv hk
    rw [apT, if_pos rfl]
    cases hg : getB ts (.mk 1 n s []) with
    | none => rfl
    | some u =>
      obtain ⟨_, _, _, _, h5⟩ := bindE_parts (t2 _ ((getB_iff (LtB_NeBs t3) _ u).1 hg))
      rcases h5 with h5 | h5
      · exact absurd h5 h0
      · exact h5.symm
  · obtain ⟨k, n, s, ks⟩ := v
    simp only [Tm.kind] at hk
    subst hk
    rw [apT, if_neg (by decide)]; rfl
theorem vloop_of : ∀ (bs : List Bd) (p : Option Tm), (∀ b ∈ bs, bindE b.1 b.2 = 0) → bs.Pairwise LtB → (∀ q, p = some q → ∀ b ∈ bs, cmpT q b.1 < 0) → vloop p bs = 0
  | [], p, _, _, _ => by cases p <;> rfl
  | b :: bs, p, h1, h2, h3 => by
    obtain ⟨a1, a2⟩ := List.pairwise_cons.1 h2
    have ih := vloop_of bs (some b.1) (fun c hc => h1 c (List.mem_cons_of_mem _ hc)) a2 (fun q hq c hc => by rw [← Option.some.inj hq]; exact a1 c hc)
    rw [vloop_cons, if_pos (h1 b (List.mem_cons_self ..))]
    cases p with
    | none => exact ih
    | some q =>
      have := h3 q rfl b (List.mem_cons_self ..)
      show (if 0 ≤ cmpT q b.1 then 5 else vloop (some b.1) bs) = 0
      rw [if_neg (by omega)]; exact ih
theorem validB_mk {bs : List Bd} (h0 : bs.length ≤ 200) (h1 : ∀ b ∈ bs, bindE b.1 b.2 = 0) (h2 : bs.Pairwise LtB) : validB bs = 0 := by
  unfold validB
  rw [if_neg (by omega)]
  exact vloop_of bs none h1 h2 (fun q hq => by simp at hq)
/-- The composition is valid. -/
theorem com_valid {ss ts : List Bd} (h1 : validB ss = 0) (h2 : validB ts = 0) (hf : (folP ts ss).2 = 0) (hl : (comR ss ts).length ≤ 200) : validB (comR ss ts) = 0 := by
  obtain ⟨s2, s3⟩ := valid_facts h1
  obtain ⟨t2, t3⟩ := valid_facts h2
  obtain ⟨c1, c2, _⟩ := comR_facts s3 t3 (fun b hb => bindE_ne (t2 b hb))
  have hok := (folP_ok ts ss hf).2
  refine validB_mk hl (fun b hb => ?_) c1
  rcases List.mem_append.1 (c2.mem_iff.1 hb) with h | h
  · obtain ⟨h4, h5⟩ := List.mem_filter.1 h
    obtain ⟨c, hc, rfl⟩ := List.mem_map.1 h4
    obtain ⟨p1, p2, _, p4, p5⟩ := bindE_parts (s2 c hc)
    obtain ⟨q1, _, q3⟩ := applyP_ok (hok c hc)
    have hne : ¬ cmpT c.1 (apT ts c.2) = 0 := by rw [q1] at h5; simpa using h5
    show bindE c.1 (applyP ts c.2).1 = 0
    rw [q1]
    refine bindE_mk p1 p2 hne q3 ?_
    by_cases e0 : c.1.sort = 0
    · exact Or.inl e0
    · right
      have e1 := p5.resolve_left e0
      rw [sort_keep h2 p4 (by rw [← e1]; exact e0), e1]
  · exact t2 b (List.mem_filter.1 h).1
/-- Two valid substitutions that make the same of each variable are equal. -/
theorem valid_same {us vs : List Bd} (h1 : validB us = 0) (h2 : validB vs = 0) (h : ∀ n s, nodesE (.mk 1 n s []) = 0 → getR us (.mk 1 n s []) = getR vs (.mk 1 n s [])) : us = vs := by
  obtain ⟨u2, u3⟩ := valid_facts h1
  obtain ⟨v2, v3⟩ := valid_facts h2
  have key : ∀ {ps cs : List Bd}, (∀ b ∈ ps, bindE b.1 b.2 = 0) → ps.Pairwise LtB → cs.Pairwise LtB → (∀ n s, nodesE (.mk 1 n s []) = 0 → getR ps (.mk 1 n s []) = getR cs (.mk 1 n s [])) → ∀ b ∈ ps, b ∈ cs := by
    intro ps cs a2 a3 c3 he b hb
    obtain ⟨p1, p2, p3, _, _⟩ := bindE_parts (a2 b hb)
    obtain ⟨n, s, hv⟩ := var_leaf p1 p2
    have hn : nodesE (.mk 1 n s []) = 0 := by rw [← hv]; exact validE_nodes p1
    have hg := (getB_iff (LtB_NeBs a3) b.1 b.2).2 hb
    have e := he n s hn
    rw [← hv] at e
    have ea : getR ps b.1 = b.2 := by unfold getR; rw [hg]; rfl
    rw [ea] at e
    cases hc : getB cs b.1 with
    | some w =>
      have : getR cs b.1 = w := by unfold getR; rw [hc]; rfl
      rw [this] at e
      exact (getB_iff (LtB_NeBs c3) b.1 b.2).1 (by rw [hc, e])
    | none =>
      have : getR cs b.1 = b.1 := by unfold getR; rw [hc]; rfl
      rw [this] at e
      exact absurd (by rw [e]; exact cmpT_self _) p3
  exact sorted_sameB us vs u3 v3 (fun b => ⟨key u2 u3 v3 h b, key v2 v3 u3 (fun n s hn => (h n s hn).symm) b⟩)
theorem getR_valid {ss : List Bd} (h1 : validB ss = 0) {n : ByteArray} {s : Int} (hn : nodesE (.mk 1 n s []) = 0) : nodesE (getR ss (.mk 1 n s [])) = 0 := by
  obtain ⟨s2, s3⟩ := valid_facts h1
  unfold getR
  cases hg : getB ss (.mk 1 n s []) with
  | none => exact hn
  | some v => exact validE_nodes (bindE_parts (s2 _ ((getB_iff (LtB_NeBs s3) _ v).1 hg))).2.2.2.1
/-- The composition is associative. -/
theorem com_assoc {ss ts us : List Bd} (h1 : validB ss = 0) (h2 : validB ts = 0) (h3 : validB us = 0) (f1 : (folP ts ss).2 = 0) (l1 : (comR ss ts).length ≤ 200) (f2 : (folP us ts).2 = 0) (l2 : (comR ts us).length ≤ 200)
    (f3 : (folP us (comR ss ts)).2 = 0) (l3 : (comR (comR ss ts) us).length ≤ 200) (f4 : (folP (comR ts us) ss).2 = 0) (l4 : (comR ss (comR ts us)).length ≤ 200) : comR (comR ss ts) us = comR ss (comR ts us) := by
  have v1 := com_valid h1 h2 f1 l1
  have v2 := com_valid h2 h3 f2 l2
  refine valid_same (com_valid v1 h3 f3 l3) (com_valid h1 v2 f4 l4) (fun n s hn => ?_)
  rw [com_val v1 h3 f3, com_val h1 v2 f4, com_val h1 h2 f1, com_effect h2 h3 f2 _ (getR_valid h1 hn)]
/-- What a valid substitution makes of a valid term has valid nodes. -/
theorem apT_nodes {bs : List Bd} (h1 : validB bs = 0) (t : Tm) : nodesE t = 0 → nodesE (apT bs t) = 0 := by
  have hlen : ∀ ks : List Tm, (apL bs ks).length = ks.length := fun ks => apL_length bs ks
  refine Tm.rec (motive_1 := fun t => nodesE t = 0 → nodesE (apT bs t) = 0) (motive_2 := fun us => nodesL us = 0 → nodesL (apL bs us) = 0) ?_ ?_ ?_ t
  · intro k n s ks ih h
    obtain ⟨e1, e2⟩ := nodesE_parts h
    by_cases hk : k = 1
    · subst hk
      have := nodeE_var e1
      subst this
      have := getR_valid h1 h
      rw [apT, if_pos rfl]
      unfold getR at this
      cases hg : getB bs (.mk 1 n s []) with
      | none => simpa [apL] using h
      | some u => rw [hg] at this; exact this
    · rw [apT, if_neg hk, nodesE]
      have hn : nodeE (.mk k n s (apL bs ks)) = nodeE (.mk k n s ks) := by simp only [nodeE, hlen]
      rw [hn, if_pos e1]
      exact ih e2
  · intro _; rfl
  · intro t us h3 h4 h
    rw [nodesL] at h
    by_cases h0 : nodesE t = 0
    · rw [if_pos h0] at h
      rw [apL, nodesL, if_pos (h3 h0)]
      exact h4 h
    · rw [if_neg h0] at h; exact absurd h h0
theorem validE_03 {t : Tm} (h : nodesE t = 0) : validE t = 0 ∨ validE t = 3 := by
  unfold validE
  rw [if_pos h]
  by_cases e : 400 < size t ∨ 40 < depth t
  · rw [if_pos e]; exact Or.inr rfl
  · rw [if_neg e]; exact Or.inl rfl
theorem applyP_03 {bs : List Bd} (h1 : validB bs = 0) {t : Tm} (h : validE t = 0) : (applyP bs t).2 = 0 ∨ (applyP bs t).2 = 3 := by
  unfold applyP
  rw [if_pos h]
  rcases validE_03 (apT_nodes h1 t (validE_nodes h)) with e | e
  · rw [if_pos e]; exact Or.inl rfl
  · rw [if_neg (by rw [e]; decide)]; exact Or.inr e
theorem folP_03 {ts : List Bd} (h2 : validB ts = 0) : ∀ ss : List Bd, (∀ b ∈ ss, validE b.2 = 0) → (folP ts ss).2 = 0 ∨ (folP ts ss).2 = 3
  | [], _ => Or.inl rfl
  | b :: bs, h => by
    have ih := folP_03 h2 bs (fun c hc => h c (List.mem_cons_of_mem _ hc))
    rw [folP]
    by_cases e1 : (applyP ts b.2).2 = 0
    · rw [if_pos e1]
      by_cases e2 : (folP ts bs).2 = 0
      · rw [if_pos e2]
        by_cases e3 : cmpT b.1 (applyP ts b.2).1 = 0
        · rw [if_pos e3]; exact Or.inl rfl
        · rw [if_neg e3]; exact Or.inl rfl
      · rw [if_neg e2]; exact Or.inr (ih.resolve_left e2)
    · rw [if_neg e1]; exact Or.inr ((applyP_03 h2 (h b (List.mem_cons_self ..))).resolve_left e1)
/-- The error of a composition of valid substitutions. -/
theorem comP_03 {ss ts : List Bd} (h1 : validB ss = 0) (h2 : validB ts = 0) : (comP ss ts).2 = 0 ∨ (comP ss ts).2 = 3 := by
  unfold comP
  rw [if_pos h1, if_pos h2]
  have hf := folP_03 h2 ss (fun b hb => (bindE_parts ((valid_facts h1).1 b hb)).2.2.2.1)
  by_cases e : (folP ts ss).2 = 0
  · rw [if_pos e]
    by_cases e2 : 200 < (comR ss ts).length
    · rw [if_pos e2]; exact Or.inr rfl
    · rw [if_neg e2]; exact Or.inl rfl
  · rw [if_neg e]; exact Or.inr (hf.resolve_left e)
theorem comP_ok {ss ts : List Bd} (h1 : validB ss = 0) (h2 : validB ts = 0) (h : (comP ss ts).2 = 0) : (comP ss ts).1 = comR ss ts ∧ (folP ts ss).2 = 0 ∧ (comR ss ts).length ≤ 200 := by
  unfold comP at h ⊢
  rw [if_pos h1, if_pos h2] at h ⊢
  by_cases e : (folP ts ss).2 = 0
  · rw [if_pos e] at h ⊢
    by_cases e2 : 200 < (comR ss ts).length
    · rw [if_pos e2] at h; exact absurd h (by decide)
    · rw [if_neg e2]; exact ⟨rfl, e, by omega⟩
  · rw [if_neg e] at h; exact absurd h e
/-- What the law asks where nothing is too large. -/
theorem laws_fin {ss ts : List Bd} {u : Tm} (h1 : validB ss = 0) (h2 : validB ts = 0) (hu : nodesE u = 0) (e : (comP ss ts).2 = 0) (f : (comP ts ss).2 = 0) (g : (applyV (comP ss ts).1 u).2 = 0) (h : (applyV ss u).2 = 0) (i : (applyV ts (applyV ss u).1).2 = 0) :
    validB (comP ss ts).1 = 0 ∧ (applyV (comP ss ts).1 u).1 = (applyV ts (applyV ss u).1).1 ∧ ((comP (comP ss ts).1 ss).2 = 0 → (comP ss (comP ts ss).1).2 = 0 → (comP (comP ss ts).1 ss).1 = (comP ss (comP ts ss).1).1) := by
  obtain ⟨e1, f1, l1⟩ := comP_ok h1 h2 e
  obtain ⟨e2, f2, l2⟩ := comP_ok h2 h1 f
  have v1 := com_valid h1 h2 f1 l1
  have v2 := com_valid h2 h1 f2 l2
  rw [e1] at g ⊢
  rw [e2]
  unfold applyV at g h i ⊢
  rw [if_pos v1] at g ⊢
  rw [if_pos h1] at h i ⊢
  rw [if_pos h2] at i ⊢
  obtain ⟨a1, _, _⟩ := applyP_ok g
  obtain ⟨a2, _, _⟩ := applyP_ok h
  obtain ⟨a3, _, _⟩ := applyP_ok i
  refine ⟨v1, by rw [a1, a3, a2]; exact com_effect h1 h2 f1 u hu, fun j k => ?_⟩
  obtain ⟨e3, f3, l3⟩ := comP_ok v1 h1 j
  obtain ⟨e4, f4, l4⟩ := comP_ok h1 v2 k
  rw [e3, e4]
  exact com_assoc h1 h2 h1 f1 l1 f2 l2 f3 l3 f4 l4
theorem validE_size {t : Tm} (h : validE t = 0) : size t ≤ 400 := by
  have hn := validE_nodes h
  unfold validE at h
  rw [if_pos hn] at h
  by_cases e : 400 < size t ∨ 40 < depth t
  · rw [if_pos e] at h; exact absurd h (by decide)
  · omega
/-- A valid substitution is small. -/
theorem valid_sz {bs : List Bd} (h : validB bs = 0) : bs.length ≤ 200 ∧ SzB 400 bs := by
  refine ⟨(validB_ok h).1, fun b hb => ?_⟩
  obtain ⟨p1, _, _, p4, _⟩ := bindE_parts ((validB_ok h).2.1 b hb)
  exact ⟨validE_size p1, validE_size p4⟩
theorem valid_sz' {bs : List Bd} (h : validB bs = 0) : SzB 1073741824 bs := fun b hb => ⟨Nat.le_trans ((valid_sz h).2 b hb).1 (by omega), Nat.le_trans ((valid_sz h).2 b hb).2 (by omega)⟩
theorem comP_val {ss ts : List Bd} (h1 : validB ss = 0) (h2 : validB ts = 0) : validB (comP ss ts).1 = 0 := by
  rcases comP_03 h1 h2 with e | e
  · obtain ⟨e1, f1, l1⟩ := comP_ok h1 h2 e
    rw [e1]; exact com_valid h1 h2 f1 l1
  · have : (comP ss ts).1 = [] := by
      unfold comP at e ⊢
      rw [if_pos h1, if_pos h2] at e ⊢
      by_cases e2 : (folP ts ss).2 = 0
      · rw [if_pos e2] at e ⊢
        by_cases e3 : 200 < (comR ss ts).length
        · rw [if_pos e3]
        · rw [if_neg e3] at e; exact absurd (show (0 : Int) = 3 from e) (by decide)
      · rw [if_neg e2]
    rw [this]; rfl
theorem applyV_400 (bs : List Bd) (t : Tm) : size (applyV bs t).1 ≤ 400 := by
  have hz : size zeroT ≤ 400 := by decide
  unfold applyV applyP
  by_cases e1 : validB bs = 0
  · rw [if_pos e1]
    by_cases e2 : validE t = 0
    · rw [if_pos e2]
      by_cases e3 : validE (apT bs t) = 0
      · rw [if_pos e3]; exact validE_size e3
      · rw [if_neg e3]; exact hz
    · rw [if_neg e2]; exact hz
  · rw [if_neg e1]; exact hz
end Go.Proofs.YtkdnfioihhfmpaaDoor

/-
  THE SUBSTITUTION THAT THE REFERENCE MAKES FROM A DRAFT.
-/
namespace Go.Proofs.YtkdnfioihhfmpaaDoor
open Go.RowKit Go.Lib

set_option maxHeartbeats 1600000 in
set_option maxRecDepth 100000 in
theorem few_draft (x0 x1 x2 : Option Addr) (l0 l1 l2 k0 k1 k2 : Nat) (m : Int) (w : World) :
    Calls Tryd.prog 31 #[.agg #[.slice x0 l0 k0, .slice x1 l1 k1, .slice x2 l2 k2, .int .u8 m]] w fun e w' => e = .returned (.bool (decide (l0 ≤ 30 ∧ l1 ≤ 30 ∧ l2 ≤ 30))) ∧ Ext w w' := by
  go_enter Tryd.func31, Tryd.ntmps31
  by_cases h0 : l0 ≤ 30
  · have e0 : decide ((l0 : Int) ≤ 30) = true := by simp; omega
    by_cases h1 : l1 ≤ 30
    · have e1 : decide ((l1 : Int) ≤ 30) = true := by simp; omega
      by_cases h2 : l2 ≤ 30
      · have e2 : decide ((l2 : Int) ≤ 30) = true := by simp; omega
        go_wp2_with fail
        go_ret
        exact ⟨by simp [h0, h1, h2], (Ext.refl w).alloc _⟩
      · have e2 : decide ((l2 : Int) ≤ 30) = false := by simp; omega
        go_wp2_with fail
        go_ret
        exact ⟨by simp [h2], (Ext.refl w).alloc _⟩
    · have e1 : decide ((l1 : Int) ≤ 30) = false := by simp; omega
      go_wp2_with fail
      go_ret
      exact ⟨by simp [h1], (Ext.refl w).alloc _⟩
  · have e0 : decide ((l0 : Int) ≤ 30) = false := by simp; omega
    go_wp2_with fail
    go_ret
    exact ⟨by simp [h0], (Ext.refl w).alloc _⟩

def MadePost (w : World) (e : Ending) (w' : World) : Prop :=
  ∃ (bs : List Bd) (xa : Option Addr) (cap : Nat), e = .returned (.slice xa bs.length cap) ∧ bs.length ≤ cap ∧ Row w' (flatB bs) xa ∧ SzB 31 bs ∧ bs.length ≤ 4 ∧ validB bs = 0 ∧ Ext w w'

theorem cells3 {w : World} {b : Nat} {c0 c1 c2 : Value} {T : TypeId} (h : w.heap[b]? = some (.cells #[c0, c1, c2] T (0, 0))) : w.cell? ⟨b, 0, none⟩ = some c0 ∧ w.cell? ⟨b, 1, none⟩ = some c1 ∧ w.cell? ⟨b, 2, none⟩ = some c2 := by
  unfold World.cell?
  simp [h]
/-- The variables that a draft binds, in order. -/
def madeV : List Tm := [.mk 1 ⟨#[120]⟩ 0 [], .mk 1 ⟨#[121]⟩ 0 [], .mk 1 ⟨#[122]⟩ 0 [], eN]
theorem madeV_ne : madeV.Pairwise (fun a b => ¬ cmpT b a = 0) := by
  unfold madeV eN
  simp only [List.pairwise_cons, List.mem_cons, List.not_mem_nil, or_false, forall_eq_or_imp, forall_eq, false_imp_iff, implies_true, List.Pairwise.nil, and_true]
  refine ⟨⟨?_, ?_, ?_⟩, ⟨?_, ?_⟩, ?_⟩ <;> (intro h; have := cmpT_zero _ _ h; simp at this)
/-- What a variable of a draft may stand for. -/
def OkB (v t : Tm) : Prop := validE v = 0 ∧ v.kind = 1 ∧ validE t = 0 ∧ (v.sort = 0 ∨ v.sort = t.sort)
theorem small_valid {t : Tm} (h : size t ≤ 31 ∧ nodesE t = 0) : validE t = 0 := by
  have := depth_le_size t
  unfold validE
  rw [if_pos h.2, if_neg (by omega)]
theorem okB_grown {v t : Tm} (h1 : validE v = 0) (h2 : v.kind = 1) (h3 : v.sort = 0) (h : size t ≤ 31 ∧ nodesE t = 0) : OkB v t := ⟨h1, h2, small_valid h, Or.inl h3⟩
/-- At the head of Made's loop: j slots are done. -/
structure MadeR (wb : World) (j : Nat) (bs : List Bd) (xa : Option Addr) (cap : Nat) (wr : World) : Prop where
  ext : Ext wb wr
  cap : bs.length ≤ cap
  row : Row wr (flatB bs) xa
  sz : SzB 31 bs
  len : bs.length ≤ j
  ord : bs.Pairwise LtB
  ok : ∀ b ∈ bs, bindE b.1 b.2 = 0
  keys : ∀ b ∈ bs, b.1 ∈ madeV.take j
theorem SzB_up {M N : Nat} {bs : List Bd} (h : SzB M bs) (hMN : M ≤ N) : SzB N bs := fun b hb => ⟨Nat.le_trans (h b hb).1 hMN, Nat.le_trans (h b hb).2 hMN⟩
theorem take_more {j : Nat} {v : Tm} (h : v ∈ madeV.take j) : v ∈ madeV.take (j + 1) := (List.take_subset_take_left madeV (Nat.le_succ j)) h
theorem MadeR.skip {wb wr : World} {j : Nat} {bs : List Bd} {xa : Option Addr} {cap : Nat} (h : MadeR wb j bs xa cap wr) : MadeR wb (j + 1) bs xa cap wr := ⟨h.ext, h.cap, h.row, h.sz, by have := h.len; omega, h.ord, h.ok, fun b hb => take_more (h.keys b hb)⟩
theorem made_ins {j : Nat} {bs : List Bd} {v t : Tm} (h1 : bs.Pairwise LtB) (h2 : ∀ b ∈ bs, bindE b.1 b.2 = 0) (h3 : ∀ b ∈ bs, b.1 ∈ madeV.take j) (hk : madeV[j]? = some v) (hok : OkB v t) : (insB bs (v, t)).Pairwise LtB ∧ (∀ b ∈ insB bs (v, t), bindE b.1 b.2 = 0) ∧ ∀ b ∈ insB bs (v, t), b.1 ∈ madeV.take (j + 1) := by
  unfold insB
  by_cases h0 : cmpT v t = 0
  · rw [if_pos h0]
    exact ⟨h1, h2, fun b hb => take_more (h3 b hb)⟩
  · rw [if_neg h0]
    obtain ⟨hj, hv⟩ := List.getElem?_eq_some_iff.1 hk
    refine ⟨insO_sorted bs (v, t) h1 (fun c hc => ?_), fun b hb => ?_, fun b hb => ?_⟩
    · have hm := h3 c hc
      obtain ⟨i, hi, he⟩ := List.getElem_of_mem hm
      rw [List.length_take] at hi
      rw [List.getElem_take] at he
      have := List.pairwise_iff_getElem.1 madeV_ne i j (by omega) hj (by omega)
      show ¬ cmpT v c.1 = 0
      rwa [hv, he] at this
    · rcases List.mem_cons.1 ((insO_perm bs (v, t)).mem_iff.1 hb) with rfl | hb
      · exact bindE_mk hok.1 hok.2.1 h0 hok.2.2.1 hok.2.2.2
      · exact h2 b hb
    · rcases List.mem_cons.1 ((insO_perm bs (v, t)).mem_iff.1 hb) with rfl | hb
      · rw [List.take_succ_eq_append_getElem hj]
        exact List.mem_append.2 (Or.inr (by rw [hv]; simp))
      · exact take_more (h3 b hb)
theorem MadeR.step {wb wr W : World} {j : Nat} {bs : List Bd} {xa ya : Option Addr} {cap cap' : Nat} {v t : Tm} (h : MadeR wb j bs xa cap wr) (hE : Ext wr W) (hk : madeV[j]? = some v) (hok : OkB v t) (hv : size v ≤ 31) (ht : size t ≤ 31) (hc : (insB bs (v, t)).length ≤ cap') (hR : Row W (flatB (insB bs (v, t))) ya) : MadeR wb (j + 1) (insB bs (v, t)) ya cap' W :=
  have hi := made_ins h.ord h.ok h.keys hk hok
  ⟨Ext.trans h.ext hE, hc, hR, insB_sz h.sz ⟨hv, ht⟩, by have := h.len; have := insB_len bs (v, t); omega, hi.1, hi.2.1, hi.2.2⟩

theorem MadeR.to {wb wr W : World} {j : Nat} {bs : List Bd} {xa : Option Addr} {cap : Nat} (h : MadeR wb j bs xa cap wr) (hE : Ext wr W) : MadeR wb (j + 1) bs xa cap W := ⟨Ext.trans h.ext hE, h.cap, Row_below h.row hE, h.sz, by have := h.len; omega, h.ord, h.ok, fun b hb => take_more (h.keys b hb)⟩
theorem made_end {w wb W : World} {bs : List Bd} {xa : Option Addr} {cap : Nat} (h : MadeR wb (3 + 1) bs xa cap W) (hE : Ext w W) : MadePost w (.returned (.slice xa bs.length cap)) W := ⟨bs, xa, cap, rfl, h.cap, h.row, h.sz, h.len, validB_mk (by have := h.len; omega) h.ok h.ord, hE⟩
set_option maxHeartbeats 1600000 in
set_option maxRecDepth 100000 in
theorem made_any (x0 x1 x2 : Option Addr) (l0 l1 l2 k0 k1 k2 : Nat) (m : Int) (w : World) (hm : 0 ≤ m ∧ m < 256) (hB0 : Byts w x0 l0) (hB1 : Byts w x1 l1) (hB2 : Byts w x2 l2) :
    Calls Tryd.prog 32 #[.agg #[.slice x0 l0 k0, .slice x1 l1 k1, .slice x2 l2 k2, .int .u8 m]] w (MadePost w) := by
  have HB := Lib.hid (And.intro hB0 (And.intro hB1 hB2))
  clear hB0 hB1 hB2
  go_enter Tryd.func32, Tryd.ntmps32
  go_wp2_with fail
  have HX : Hid (∀ W, Ext ((w.alloc (.cells #[.slice x0 l0 k0, .slice x1 l1 k1, .slice x2 l2 k2, .int .u8 m] 49)).alloc (.cells #[.slice x0 l0 k0, .slice x1 l1 k1, .slice x2 l2 k2] 47)) W → W.heap[w.heap.size]? = some (.cells #[.slice x0 l0 k0, .slice x1 l1 k1, .slice x2 l2 k2, .int .u8 m] 49 (0, 0)) ∧ W.heap[w.heap.size + 1]? = some (.cells #[.slice x0 l0 k0, .slice x1 l1 k1, .slice x2 l2 k2] 47 (0, 0)) ∧ Ext w W) := fun W h => ⟨(h.block _ (by simp; omega)).trans ((((Ext.refl _).alloc _).block w.heap.size (by simp)).trans (heap_alloc_new _ _)), (h.block _ (by simp)).trans (by have := heap_alloc_new (w.alloc (.cells #[.slice x0 l0 k0, .slice x1 l1 k1, .slice x2 l2 k2, .int .u8 m] 49)) (.cells #[.slice x0 l0 k0, .slice x1 l1 k1, .slice x2 l2 k2] 47); rwa [World.size_alloc] at this), Ext.trans (((Ext.refl w).alloc _).alloc _) h⟩
  generalize hgen : ((w.alloc (.cells #[.slice x0 l0 k0, .slice x1 l1 k1, .slice x2 l2 k2, .int .u8 m] 49)).alloc (.cells #[.slice x0 l0 k0, .slice x1 l1 k1, .slice x2 l2 k2] 47)) = wb at HX ⊢
  clear hgen
  go_loopw [3, 5] (fun s i wr => ∃ (j : Nat) (bs : List Bd) (xa : Option Addr) (cap : Nat), j ≤ 3 ∧ i = .int .i64 (j : Int) ∧ s = .slice xa bs.length cap ∧ Hid (MadeR wb j bs xa cap wr)) (fun _ i _ => 3 - (intOf i).toNat)
  case atStart => exact ⟨0, [], none, 0, by omega, rfl, rfl, Lib.hid ⟨Ext.refl wb, by simp, by simp [flatB, Row], fun b hb => by simp at hb, by simp, List.Pairwise.nil, fun b hb => by simp at hb, fun b hb => by simp at hb⟩⟩
  case round =>
    obtain ⟨j, bs, xa, cap, hj, rfl, rfl, HR⟩ := hrel
    have hj3 : j = 0 ∨ j = 1 ∨ j = 2 ∨ j = 3 := by omega
    clear hj
    rcases hj3 with rfl | rfl | rfl | rfl
    · obtain ⟨d0, d1, d2⟩ := cells3 (HX.out wr HR.out.ext).2.1
      by_cases h0 : 0 < l0
      · have e0 : decide (0 < l0) = true := decide_eq_true h0
        have ex : (⟨#[120, 121, 122]⟩ : ByteArray).extract 0 1 = ⟨#[120]⟩ := by kernel_rfl
        have ew : IntKind.i64.wrap 1 = 1 := by kernel_rfl
        have hC : Ext wr wr.drew := (Ext.refl wr).drew
        clear h0
        go_upto_region 7 with (fail)
        go_region_held3 (fun W => W.cell? ⟨w.heap.size + 1, 0, none⟩ = some (.slice x0 l0 k0))
          (first | exact keep_below hC _ _ d0 | go_keep)
          (first
            | (go_at_call 52; refine (var_any _ _ _).mono ?_; rintro e w4 ⟨he, hB⟩; subst he; replace hC := Ext.trans hC hB; (try replace hJ := Is_below hJ hB); clear hB)
            | (go_at_call 33; refine (grown_any x0 l0 k0 _ (HB.out.1.below (Ext.trans (HX.out wr HR.out.ext).2.2 hC))).mono ?_; rintro e w5 ⟨t, k, n, s, xt, l, c, he, hI, hsz, hB⟩; subst he; replace hC := Ext.trans hC hB; have hJ := IsIn_Is _ _ _ _ _ hI; have HSZ := Lib.hid hsz; clear hI hsz hB)
            | (go_at_call 66; refine (rbind_any bs xa cap (.mk 1 ⟨#[120]⟩ 0 []) t _ _ _ _ _ _ _ _ _ HR.out.cap (by have := HR.out.len; omega) (SzB_up HR.out.sz (by omega)) (Row_below HR.out.row hC) (by simp [size, sizes]) (by have := HSZ.out; omega) (Is_leaf _ 1 ⟨#[120]⟩ 0 (by decide) (by omega) (by omega)) hJ).mono ?_; rintro e w6 ⟨ya, cap', he, hc', hR', hB⟩; subst he; have HN := Lib.hid (HR.out.step (Ext.trans hC hB) (v := .mk 1 ⟨#[120]⟩ 0 []) (by rfl) (okB_grown (by kernel_rfl) rfl rfl HSZ.out) (by simp [size, sizes]) HSZ.out.1 hc' hR'); replace hC := Ext.trans hC hB; clear hc' hR' hJ hB))
        clear hC d0 d1 d2
        go_wp2_with fail
        go_roundw
        case rel => exact ⟨0 + 1, insB bs (.mk 1 ⟨#[120]⟩ 0 [], t), ya, cap', by omega, by go_num, rfl, HN⟩
        case measure => simp [intOf]
      · have e0 : decide (0 < l0) = false := decide_eq_false h0
        clear h0
        go_wp2_with fail
        go_roundw
        case rel => exact ⟨0 + 1, bs, xa, cap, by omega, by go_num, rfl, Lib.hid HR.out.skip⟩
        case measure => simp [intOf]
    · obtain ⟨d0, d1, d2⟩ := cells3 (HX.out wr HR.out.ext).2.1
      by_cases h0 : 0 < l1
      · have e0 : decide (0 < l1) = true := decide_eq_true h0
        have ex : (⟨#[120, 121, 122]⟩ : ByteArray).extract 1 2 = ⟨#[121]⟩ := by kernel_rfl
        have ew : IntKind.i64.wrap 2 = 2 := by kernel_rfl
        have hC : Ext wr wr.drew := (Ext.refl wr).drew
        clear h0
        go_upto_region 7 with (fail)
        go_region_held3 (fun W => W.cell? ⟨w.heap.size + 1, 1, none⟩ = some (.slice x1 l1 k1))
          (first | exact keep_below hC _ _ d1 | go_keep)
          (first
            | (go_at_call 52; refine (var_any _ _ _).mono ?_; rintro e w4 ⟨he, hB⟩; subst he; replace hC := Ext.trans hC hB; (try replace hJ := Is_below hJ hB); clear hB)
            | (go_at_call 33; refine (grown_any x1 l1 k1 _ (HB.out.2.1.below (Ext.trans (HX.out wr HR.out.ext).2.2 hC))).mono ?_; rintro e w5 ⟨t, k, n, s, xt, l, c, he, hI, hsz, hB⟩; subst he; replace hC := Ext.trans hC hB; have hJ := IsIn_Is _ _ _ _ _ hI; have HSZ := Lib.hid hsz; clear hI hsz hB)
            | (go_at_call 66; refine (rbind_any bs xa cap (.mk 1 ⟨#[121]⟩ 0 []) t _ _ _ _ _ _ _ _ _ HR.out.cap (by have := HR.out.len; omega) (SzB_up HR.out.sz (by omega)) (Row_below HR.out.row hC) (by simp [size, sizes]) (by have := HSZ.out; omega) (Is_leaf _ 1 ⟨#[121]⟩ 0 (by decide) (by omega) (by omega)) hJ).mono ?_; rintro e w6 ⟨ya, cap', he, hc', hR', hB⟩; subst he; have HN := Lib.hid (HR.out.step (Ext.trans hC hB) (v := .mk 1 ⟨#[121]⟩ 0 []) (by rfl) (okB_grown (by kernel_rfl) rfl rfl HSZ.out) (by simp [size, sizes]) HSZ.out.1 hc' hR'); replace hC := Ext.trans hC hB; clear hc' hR' hJ hB))
        clear hC d0 d1 d2
        go_wp2_with fail
        go_roundw
        case rel => exact ⟨1 + 1, insB bs (.mk 1 ⟨#[121]⟩ 0 [], t), ya, cap', by omega, by go_num, rfl, HN⟩
        case measure => simp [intOf]
      · have e0 : decide (0 < l1) = false := decide_eq_false h0
        clear h0
        go_wp2_with fail
        go_roundw
        case rel => exact ⟨1 + 1, bs, xa, cap, by omega, by go_num, rfl, Lib.hid HR.out.skip⟩
        case measure => simp [intOf]
    · obtain ⟨d0, d1, d2⟩ := cells3 (HX.out wr HR.out.ext).2.1
      by_cases h0 : 0 < l2
      · have e0 : decide (0 < l2) = true := decide_eq_true h0
        have ex : (⟨#[120, 121, 122]⟩ : ByteArray).extract 2 3 = ⟨#[122]⟩ := by kernel_rfl
        have ew : IntKind.i64.wrap 3 = 3 := by kernel_rfl
        have hC : Ext wr wr.drew := (Ext.refl wr).drew
        clear h0
        go_upto_region 7 with (fail)
        go_region_held3 (fun W => W.cell? ⟨w.heap.size + 1, 2, none⟩ = some (.slice x2 l2 k2))
          (first | exact keep_below hC _ _ d2 | go_keep)
          (first
            | (go_at_call 52; refine (var_any _ _ _).mono ?_; rintro e w4 ⟨he, hB⟩; subst he; replace hC := Ext.trans hC hB; (try replace hJ := Is_below hJ hB); clear hB)
            | (go_at_call 33; refine (grown_any x2 l2 k2 _ (HB.out.2.2.below (Ext.trans (HX.out wr HR.out.ext).2.2 hC))).mono ?_; rintro e w5 ⟨t, k, n, s, xt, l, c, he, hI, hsz, hB⟩; subst he; replace hC := Ext.trans hC hB; have hJ := IsIn_Is _ _ _ _ _ hI; have HSZ := Lib.hid hsz; clear hI hsz hB)
            | (go_at_call 66; refine (rbind_any bs xa cap (.mk 1 ⟨#[122]⟩ 0 []) t _ _ _ _ _ _ _ _ _ HR.out.cap (by have := HR.out.len; omega) (SzB_up HR.out.sz (by omega)) (Row_below HR.out.row hC) (by simp [size, sizes]) (by have := HSZ.out; omega) (Is_leaf _ 1 ⟨#[122]⟩ 0 (by decide) (by omega) (by omega)) hJ).mono ?_; rintro e w6 ⟨ya, cap', he, hc', hR', hB⟩; subst he; have HN := Lib.hid (HR.out.step (Ext.trans hC hB) (v := .mk 1 ⟨#[122]⟩ 0 []) (by rfl) (okB_grown (by kernel_rfl) rfl rfl HSZ.out) (by simp [size, sizes]) HSZ.out.1 hc' hR'); replace hC := Ext.trans hC hB; clear hc' hR' hJ hB))
        clear hC d0 d1 d2
        go_wp2_with fail
        go_roundw
        case rel => exact ⟨2 + 1, insB bs (.mk 1 ⟨#[122]⟩ 0 [], t), ya, cap', by omega, by go_num, rfl, HN⟩
        case measure => simp [intOf]
      · have e0 : decide (0 < l2) = false := decide_eq_false h0
        clear h0
        go_wp2_with fail
        go_roundw
        case rel => exact ⟨2 + 1, bs, xa, cap, by omega, by go_num, rfl, Lib.hid HR.out.skip⟩
        case measure => simp [intOf]
    · obtain ⟨r, hr⟩ : ∃ r, m.tmod 3 = r := ⟨_, rfl⟩
      have hr2 : m % 3 = r := by rw [← hr]; exact (Int.tmod_eq_emod_of_nonneg hm.1).symm
      have hr3 : r = 0 ∨ r = 1 ∨ r = 2 := by omega
      clear hm
      rcases hr3 with rfl | rfl | rfl
      · go_wp2_with (go_at_call 52; refine (var_any _ _ _).mono ?_; rintro e w4 ⟨he, hB⟩; subst he; obtain ⟨⟨d0, d1, d2, d3⟩, _⟩ := box_facts (HX.out _ (Ext.alloc (Ext.trans HR.out.ext hB) (.cells #[.int .i64 1, .string ⟨#[110]⟩, .int .i64 2, .slice none 0 0] 25))).1; have HB4 := Lib.hid (Ext.alloc hB (.cells #[.int .i64 1, .string ⟨#[110]⟩, .int .i64 2, .slice none 0 0] 25)); clear hB)
        go_ret
        exact made_end (HR.out.to HB4.out) (HX.out _ (Ext.trans HR.out.ext HB4.out)).2.2
      · go_upto_region 11 with (go_at_call 52; refine (var_any _ _ _).mono ?_; rintro e w4 ⟨he, hB⟩; subst he; obtain ⟨⟨d0, d1, d2, d3⟩, _⟩ := box_facts (HX.out _ (Ext.alloc (Ext.trans HR.out.ext hB) (.cells #[.int .i64 1, .string ⟨#[110]⟩, .int .i64 2, .slice none 0 0] 25))).1; have HB4 := Lib.hid (Ext.alloc hB (.cells #[.int .i64 1, .string ⟨#[110]⟩, .int .i64 2, .slice none 0 0] 25)); clear hB)
        obtain ⟨⟨n0, n1, n2, n3⟩, _⟩ := box_facts (heap_alloc_new w4 (.cells #[.int .i64 1, .string ⟨#[110]⟩, .int .i64 2, .slice none 0 0] 25))
        clear d0 d1 d2 d3
        have hC : Ext (w4.alloc (.cells #[.int .i64 1, .string ⟨#[110]⟩, .int .i64 2, .slice none 0 0] 25)) (w4.alloc (.cells #[.int .i64 1, .string ⟨#[110]⟩, .int .i64 2, .slice none 0 0] 25)).drew := (Ext.refl _).drew
        go_region_held3 (fun W => W.cell? ⟨w4.heap.size, 0, none⟩ = some (.int .i64 1) ∧ W.cell? ⟨w4.heap.size, 1, none⟩ = some (.string ⟨#[110]⟩) ∧ W.cell? ⟨w4.heap.size, 2, none⟩ = some (.int .i64 2) ∧ W.cell? ⟨w4.heap.size, 3, none⟩ = some (.slice none 0 0))
          (first | exact ⟨keep_below hC _ _ n0, keep_below hC _ _ n1, keep_below hC _ _ n2, keep_below hC _ _ n3⟩ | go_keep)
          (first
            | (go_at_call 37; refine (atom_any _ _ _).mono ?_; rintro e w5 ⟨he, hB⟩; subst he; replace hC := Ext.trans hC hB; clear hB)
            | (go_at_call 66; refine (rbind_any bs xa cap eN (.mk 2 ⟨#[109]⟩ 2 []) _ _ _ _ _ _ _ _ _ HR.out.cap (by have := HR.out.len; omega) (SzB_up HR.out.sz (by omega)) (Row_below HR.out.row (Ext.trans HB4.out hC)) (by simp [eN, size, sizes]) (by simp [size, sizes]) (Is_leaf _ 1 ⟨#[110]⟩ 2 (by decide) (by omega) (by omega)) (Is_leaf _ 2 ⟨#[109]⟩ 2 (by decide) (by omega) (by omega))).mono ?_; rintro e w6 ⟨ya, cap', he, hc', hR', hB⟩; subst he; have HN := Lib.hid (HR.out.step (Ext.trans HB4.out (Ext.trans hC hB)) (v := eN) (t := .mk 2 ⟨#[109]⟩ 2 []) (by rfl) ⟨by kernel_rfl, rfl, by kernel_rfl, Or.inr rfl⟩ (by simp [eN, size, sizes]) (by simp [size, sizes]) hc' hR'); replace hC := Ext.trans hC hB; clear hc' hR' hB))
        clear hC n0 n1 n2 n3
        go_wp2_with fail
        go_ret
        exact made_end HN.out (HX.out _ HN.out.ext).2.2
      · go_upto_region 13 with (go_at_call 52; refine (var_any _ _ _).mono ?_; rintro e w4 ⟨he, hB⟩; subst he; obtain ⟨⟨d0, d1, d2, d3⟩, _⟩ := box_facts (HX.out _ (Ext.alloc (Ext.trans HR.out.ext hB) (.cells #[.int .i64 1, .string ⟨#[110]⟩, .int .i64 2, .slice none 0 0] 25))).1; have HB4 := Lib.hid (Ext.alloc hB (.cells #[.int .i64 1, .string ⟨#[110]⟩, .int .i64 2, .slice none 0 0] 25)); clear hB)
        obtain ⟨⟨n0, n1, n2, n3⟩, _⟩ := box_facts (heap_alloc_new w4 (.cells #[.int .i64 1, .string ⟨#[110]⟩, .int .i64 2, .slice none 0 0] 25))
        clear d0 d1 d2 d3
        have hC : Ext (w4.alloc (.cells #[.int .i64 1, .string ⟨#[110]⟩, .int .i64 2, .slice none 0 0] 25)) (w4.alloc (.cells #[.int .i64 1, .string ⟨#[110]⟩, .int .i64 2, .slice none 0 0] 25)).drew := (Ext.refl _).drew
        go_region_held3 (fun W => W.cell? ⟨w4.heap.size, 0, none⟩ = some (.int .i64 1) ∧ W.cell? ⟨w4.heap.size, 1, none⟩ = some (.string ⟨#[110]⟩) ∧ W.cell? ⟨w4.heap.size, 2, none⟩ = some (.int .i64 2) ∧ W.cell? ⟨w4.heap.size, 3, none⟩ = some (.slice none 0 0))
          (first | exact ⟨keep_below hC _ _ n0, keep_below hC _ _ n1, keep_below hC _ _ n2, keep_below hC _ _ n3⟩ | go_keep)
          (first
            | (go_at_call 52; refine (var_any _ _ _).mono ?_; rintro e w5 ⟨he, hB⟩; subst he; replace hC := Ext.trans hC hB; clear hB)
            | (go_at_call 66; refine (rbind_any bs xa cap eN (.mk 1 ⟨#[107]⟩ 2 []) _ _ _ _ _ _ _ _ _ HR.out.cap (by have := HR.out.len; omega) (SzB_up HR.out.sz (by omega)) (Row_below HR.out.row (Ext.trans HB4.out hC)) (by simp [eN, size, sizes]) (by simp [size, sizes]) (Is_leaf _ 1 ⟨#[110]⟩ 2 (by decide) (by omega) (by omega)) (Is_leaf _ 1 ⟨#[107]⟩ 2 (by decide) (by omega) (by omega))).mono ?_; rintro e w6 ⟨ya, cap', he, hc', hR', hB⟩; subst he; have HN := Lib.hid (HR.out.step (Ext.trans HB4.out (Ext.trans hC hB)) (v := eN) (t := .mk 1 ⟨#[107]⟩ 2 []) (by rfl) ⟨by kernel_rfl, rfl, by kernel_rfl, Or.inr rfl⟩ (by simp [eN, size, sizes]) (by simp [size, sizes]) hc' hR'); replace hC := Ext.trans hC hB; clear hc' hR' hB))
        clear hC n0 n1 n2 n3
        go_wp2_with fail
        go_ret
        exact made_end HN.out (HX.out _ HN.out.ext).2.2

end Go.Proofs.YtkdnfioihhfmpaaDoor

/-
  A DRAFT THAT CAME IN, OPENED: three slices of bytes, and a byte; a slice of bytes alone.
-/
namespace Go.Proofs.YtkdnfioihhfmpaaDoor
open Go.ChangeShapes Go.WideShapes Go.ChangeAt Go.RowKit Go.Deep

theorem cellsByte : Tryd.prog.cellsOf 5 = 1 := by kernel_rfl

section
variable {H : Type} {enc : TypeId × Value → H} {W : World} {base : Nat} {sp : Nat → Bool} {held : Bool}
set_option maxRecDepth 100000 in
theorem open_bytes_in {fuel : Nat} {v : Value} {x : DataW H × List MemPlace} (h : DataW.trod enc Tryd.prog W base sp held fuel 47 [v] = some x) : ∃ xa l c, v = .slice xa l c ∧ Byts W xa l := by
  rcases open_ints Tryd.underlying47 Tryd.underlying5 cellsByte h with ⟨e3, _⟩ | ⟨a, len, cap, zs, e3, _, hlc, hcm, hzl, _, hcell, hwf⟩
  · simp only [List.cons.injEq, and_true] at e3
    subst e3
    exact ⟨none, 0, 0, rfl, fun i hi => by omega⟩
  · simp only [List.cons.injEq, and_true] at e3
    subst e3
    have hlz : len ≤ zs.length := by rw [hzl]; split <;> omega
    refine ⟨some a, len, cap, rfl, fun i hi => ?_⟩
    obtain ⟨ab, ao, spot⟩ := a
    have h0 := hcell 0 (by omega)
    have hspot : spot = none := by simpa [Addr.add] using World.cell?_spot h0
    subst hspot
    have hc := hcell i (by omega)
    rw [Addr.add_lit] at hc
    have hm : zs.getD i 0 ∈ zs := by
      rw [List.getD_eq_getElem?_getD, List.getElem?_eq_getElem (show i < zs.length by omega)]
      exact List.getElem_mem _
    have hb := bounds_u8 (hwf _ hm)
    exact ⟨ab, ao, _, rfl, hc, hb.1, by omega⟩
set_option maxRecDepth 100000 in
theorem open_bytes {v : Value} {d : DataW H} {ps : List MemPlace} {r : Reach} {b0 : Nat} (hv : Value.okWide Tryd.prog W r b0 47 v) (h : DataW.Trod enc Tryd.prog W base sp held 47 v d ps) : ∃ xa l c, v = .slice xa l c ∧ Byts W xa l := by
  obtain ⟨a0, l0, c0, rfl⟩ := okWide_slice Tryd.underlying47 hv
  obtain ⟨fuel, hf⟩ := h
  have hcs : (Value.slice a0 l0 c0).cells.toList = [.slice a0 l0 c0] := rfl
  rw [hcs] at hf
  exact open_bytes_in hf
set_option maxRecDepth 100000 in
theorem open_draft {v : Value} {d : DataW H} {ps : List MemPlace} {r : Reach} {b0 : Nat} (hv : Value.okWide Tryd.prog W r b0 49 v) (h : DataW.Trod enc Tryd.prog W base sp held 49 v d ps) :
    ∃ (x0 x1 x2 : Option Addr) (l0 l1 l2 k0 k1 k2 : Nat) (m : Int), v = .agg #[.slice x0 l0 k0, .slice x1 l1 k1, .slice x2 l2 k2, .int .u8 m] ∧ (0 ≤ m ∧ m < 256) ∧ Byts W x0 l0 ∧ Byts W x1 l1 ∧ Byts W x2 l2 := by
  obtain ⟨c0, c1, c2, c3, y0, y1, y2, y3, n, rfl, _, _, h0, h1, h2, h3⟩ := Go.Joins.open_agg4 Tryd.underlying49 (by kernel_rfl) (by kernel_rfl) hv h
  obtain ⟨x0, l0, k0, rfl, b0⟩ := open_bytes_in h0
  obtain ⟨x1, l1, k1, rfl, b1⟩ := open_bytes_in h1
  obtain ⟨x2, l2, k2, rfl, b2⟩ := open_bytes_in h2
  obtain ⟨m, e, _, wf⟩ := DataW.trod_int Tryd.underlying5 h3
  simp only [List.cons.injEq, and_true] at e
  subst e
  have hb := bounds_u8 wf
  exact ⟨x0, x1, x2, l0, l1, l2, k0, k1, k2, m, rfl, ⟨hb.1, by omega⟩, b0, b1, b2⟩
end
end Go.Proofs.YtkdnfioihhfmpaaDoor
