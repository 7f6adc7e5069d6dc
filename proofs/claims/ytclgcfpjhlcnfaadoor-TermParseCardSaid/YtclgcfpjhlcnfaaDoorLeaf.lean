/-
  THE WALK OF the reference's leaf.
-/
import Derived.Test.YtclgcfpjhlcnfaaDoorReadW
import Derived.Test.YtclgcfpjhlcnfaaDoorTextb
import Derived.Test.YtclgcfpjhlcnfaaDoorFind
namespace Go.Proofs.YtclgcfpjhlcnfaaDoor
open Go.RowKit

theorem bslice_slice (s : ByteArray) (k : Nat) (h : 1 ≤ s.size) : (s.extract 1 s.size).extract k (s.extract 1 s.size).size = s.extract (1 + k) s.size := by
  rw [ByteArray.extract_extract, ByteArray.size_extract]
  congr 1
  omega
theorem take_colon {s : ByteArray} (h : preB s bColon = true) : takeB s bColon = s.extract 1 s.size := by
  unfold takeB; rw [h]; rfl
theorem pre_one {s p : ByteArray} {c : UInt8} (hp : p = ⟨#[c]⟩) : preB s p = true ↔ ∃ h : 0 < s.size, s[0] = c := by
  subst hp
  have hsz : s.data.toList.length = s.size := by simp
  constructor
  · intro h
    have h1 := (takeB_eq h)
    have hc1 : (⟨#[c]⟩ : ByteArray).size = 1 := rfl
    have h2 : 1 ≤ s.size := by have := h1.2; omega
    refine ⟨h2, ?_⟩
    have h3 := preB_prefix h
    have e0 : s.data.toList[0]? = some s[0] := by rw [List.getElem?_eq_getElem (by omega)]; rfl
    obtain ⟨q, hq⟩ := h3
    rw [← hq] at e0
    simp at e0
    exact e0.symm
  · rintro ⟨h, hc⟩
    simp only [preB, Bool.and_eq_true, decide_eq_true_eq, beq_iff_eq, Lib.toList_data, ByteArray.data_extract, Array.toList_extract]
    refine ⟨h, ?_⟩
    have e0 : s.data.toList[0]? = some s[0] := by rw [List.getElem?_eq_getElem (by omega)]; rfl
    simp only [List.extract_eq_take_drop, List.drop_zero]
    generalize s.data.toList = l at e0
    cases l with
    | nil => simp at e0
    | cons a l =>
      simp only [List.getElem?_cons_zero, Option.some.injEq] at e0
      subst e0
      rw [hc]; rfl
theorem leafR_at {v : Bool} {s : ByteArray} {j : Int} (hcol : preB s bColon = true) (hj : 0 ≤ j ∧ j ≤ 5) (hn : nameAny (takeB s bColon) = wordB j) (h0 : ¬ (j = 0 ∧ v = true)) : leafR v s = some (j, (takeB s bColon).extract (nameAny (takeB s bColon)).size (takeB s bColon).size) := by
  rw [leafR_word v hcol (by rw [hn]; exact wordR_word j hj), if_neg h0]
theorem leafR_end {v : Bool} {s : ByteArray} (hcol : preB s bColon = true) (h : ∀ j : Int, 0 ≤ j → j ≤ 5 → nameAny (takeB s bColon) = wordB j → (j = 0 ∧ v = true)) : leafR v s = none := by
  cases hw : wordR (nameAny (takeB s bColon)) with
  | none => exact leafR_wrong v hcol hw
  | some k =>
    obtain ⟨hk, he⟩ := wordR_some hw
    rw [leafR_word v hcol hw, if_pos (h k hk.1 hk.2 he)]

def LeafPost (w : World) (k0 : Int) (n : ByteArray) (r : Option (Int × ByteArray)) (e : Ending) (w' : World) : Prop :=
  Below w.heap.size w w' ∧ match r with
    | none => ∃ x, e = .returned (.tuple #[.agg #[.int .i64 k0, .string n, .int .i64 0, .slice none 0 0], .string x, .bool false])
    | some (k, x) => e = .returned (.tuple #[.agg #[.int .i64 k0, .string n, .int .i64 k, .slice none 0 0], .string x, .bool true])

theorem two_cells (w : World) (o : Obj) (a b c d : Value) (T : TypeId) : ∀ W : World, W.heap = ((w.alloc o).alloc (.cells #[a, b, c, d] T)).heap → W.cell? ⟨w.heap.size + 1, 0, none⟩ = some a ∧ W.cell? ⟨w.heap.size + 1, 1, none⟩ = some b ∧ W.cell? ⟨w.heap.size + 1, 2, none⟩ = some c ∧ W.cell? ⟨w.heap.size + 1, 3, none⟩ = some d := by
  intro W h
  have hb := heap_alloc_new (w.alloc o) (.cells #[a, b, c, d] T)
  rw [World.size_alloc, ← h] at hb
  exact (box_facts hb).1
theorem two_below (w : World) (o o' : Obj) : Below w.heap.size w ((w.alloc o).alloc o') := ((Below.refl _ _).alloc (Nat.le_refl _) _).alloc (by simp) _

set_option maxHeartbeats 1600000 in
set_option maxRecDepth 100000 in
theorem leaf_e1 (n s : ByteArray) (w : World) (h0 : s.size = 0) :
    Calls Tryd.prog 85 #[.agg #[.int .i64 1, .string n, .int .i64 0, .slice none 0 0], .string s] w fun e w' => Below w.heap.size w w' ∧ e = .returned (.tuple #[.agg #[.int .i64 1, .string n, .int .i64 0, .slice none 0 0], .string s, .bool true]) := by
  have e0 : ((s.size : Int) == 0) = true := by simp [h0]
  clear h0
  go_enter Tryd.func85, Tryd.ntmps85
  go_wp2_with fail
  go_region
  go_wp2_with fail
  obtain ⟨m0, m1, m2, m3⟩ := two_cells w (.cells #[.int .i64 1, .string n, .int .i64 0, .slice none 0 0] 25) (.int .i64 1) (.string n) (.int .i64 0) (.slice none 0 0) 25 (((w.alloc (.cells #[.int .i64 1, .string n, .int .i64 0, .slice none 0 0] 25)).alloc (.cells #[.int .i64 1, .string n, .int .i64 0, .slice none 0 0] 25)).drew) rfl
  exact bodyPost_ret (v := .tuple #[.agg #[.int .i64 1, .string n, .int .i64 0, .slice none 0 0], .string s, .bool true]) (by simp [results, Tryd.results85, go_sem, m0, m1, m2, m3]) rfl ⟨(two_below w _ _).drew, rfl⟩
set_option maxHeartbeats 1600000 in
set_option maxRecDepth 100000 in
theorem leaf_n1 (n s : ByteArray) (w : World) (hs : s.size ≤ maxLen) (h0 : 0 < s.size) (hne : ¬ s[0] = 58) :
    Calls Tryd.prog 85 #[.agg #[.int .i64 1, .string n, .int .i64 0, .slice none 0 0], .string s] w fun e w' => Below w.heap.size w w' ∧ e = .returned (.tuple #[.agg #[.int .i64 1, .string n, .int .i64 0, .slice none 0 0], .string s, .bool true]) := by
  unfold maxLen at hs
  have e0 : ((s.size : Int) == 0) = false := by rw [beq_eq_false_iff_ne]; omega
  have e1 : ((s[0].toNat : Int) != 58) = true := by
    simp only [bne_iff_ne, ne_eq]
    intro h
    exact hne (UInt8.toNat_inj.1 (by rw [show (58 : UInt8).toNat = 58 from rfl]; omega))
  have e2 : (0 : Int) < (s.size : Int) := by omega
  clear hne
  go_enter Tryd.func85, Tryd.ntmps85
  go_wp2_with fail
  go_region
  go_wp2_with fail
  obtain ⟨m0, m1, m2, m3⟩ := two_cells w (.cells #[.int .i64 1, .string n, .int .i64 0, .slice none 0 0] 25) (.int .i64 1) (.string n) (.int .i64 0) (.slice none 0 0) 25 (((w.alloc (.cells #[.int .i64 1, .string n, .int .i64 0, .slice none 0 0] 25)).alloc (.cells #[.int .i64 1, .string n, .int .i64 0, .slice none 0 0] 25)).drew) rfl
  exact bodyPost_ret (v := .tuple #[.agg #[.int .i64 1, .string n, .int .i64 0, .slice none 0 0], .string s, .bool true]) (by simp [results, Tryd.results85, go_sem, m0, m1, m2, m3]) rfl ⟨(two_below w _ _).drew, rfl⟩
set_option maxHeartbeats 1600000 in
set_option maxRecDepth 100000 in
theorem leaf_e2 (n s : ByteArray) (w : World) (h0 : s.size = 0) :
    Calls Tryd.prog 85 #[.agg #[.int .i64 2, .string n, .int .i64 0, .slice none 0 0], .string s] w fun e w' => Below w.heap.size w w' ∧ e = .returned (.tuple #[.agg #[.int .i64 2, .string n, .int .i64 0, .slice none 0 0], .string s, .bool false]) := by
  have e0 : ((s.size : Int) == 0) = true := by simp [h0]
  clear h0
  go_enter Tryd.func85, Tryd.ntmps85
  go_wp2_with fail
  go_region
  go_wp2_with fail
  obtain ⟨m0, m1, m2, m3⟩ := two_cells w (.cells #[.int .i64 2, .string n, .int .i64 0, .slice none 0 0] 25) (.int .i64 2) (.string n) (.int .i64 0) (.slice none 0 0) 25 (((w.alloc (.cells #[.int .i64 2, .string n, .int .i64 0, .slice none 0 0] 25)).alloc (.cells #[.int .i64 2, .string n, .int .i64 0, .slice none 0 0] 25)).drew) rfl
  exact bodyPost_ret (v := .tuple #[.agg #[.int .i64 2, .string n, .int .i64 0, .slice none 0 0], .string s, .bool false]) (by simp [results, Tryd.results85, go_sem, m0, m1, m2, m3]) rfl ⟨(two_below w _ _).drew, rfl⟩
set_option maxHeartbeats 1600000 in
set_option maxRecDepth 100000 in
theorem leaf_n2 (n s : ByteArray) (w : World) (hs : s.size ≤ maxLen) (h0 : 0 < s.size) (hne : ¬ s[0] = 58) :
    Calls Tryd.prog 85 #[.agg #[.int .i64 2, .string n, .int .i64 0, .slice none 0 0], .string s] w fun e w' => Below w.heap.size w w' ∧ e = .returned (.tuple #[.agg #[.int .i64 2, .string n, .int .i64 0, .slice none 0 0], .string s, .bool false]) := by
  unfold maxLen at hs
  have e0 : ((s.size : Int) == 0) = false := by rw [beq_eq_false_iff_ne]; omega
  have e1 : ((s[0].toNat : Int) != 58) = true := by
    simp only [bne_iff_ne, ne_eq]
    intro h
    exact hne (UInt8.toNat_inj.1 (by rw [show (58 : UInt8).toNat = 58 from rfl]; omega))
  have e2 : (0 : Int) < (s.size : Int) := by omega
  clear hne
  go_enter Tryd.func85, Tryd.ntmps85
  go_wp2_with fail
  go_region
  go_wp2_with fail
  obtain ⟨m0, m1, m2, m3⟩ := two_cells w (.cells #[.int .i64 2, .string n, .int .i64 0, .slice none 0 0] 25) (.int .i64 2) (.string n) (.int .i64 0) (.slice none 0 0) 25 (((w.alloc (.cells #[.int .i64 2, .string n, .int .i64 0, .slice none 0 0] 25)).alloc (.cells #[.int .i64 2, .string n, .int .i64 0, .slice none 0 0] 25)).drew) rfl
  exact bodyPost_ret (v := .tuple #[.agg #[.int .i64 2, .string n, .int .i64 0, .slice none 0 0], .string s, .bool false]) (by simp [results, Tryd.results85, go_sem, m0, m1, m2, m3]) rfl ⟨(two_below w _ _).drew, rfl⟩

theorem leaf_none (k0 : Int) (hk : k0 = 1 ∨ k0 = 2) (n s : ByteArray) (w : World) (hs : s.size ≤ maxLen) (hcol : preB s bColon = false) :
    Calls Tryd.prog 85 #[.agg #[.int .i64 k0, .string n, .int .i64 0, .slice none 0 0], .string s] w (LeafPost w k0 n (leafR (decide (k0 = 1)) s)) := by
  have hz : s.size = 0 ∨ ∃ h : 0 < s.size, ¬ s[0] = 58 := by
    by_cases h : 0 < s.size
    · right; exact ⟨h, fun h2 => by have := (pre_one (s := s) (p := bColon) rfl).2 ⟨h, h2⟩; rw [hcol] at this; cases this⟩
    · left; omega
  rw [leafR_none _ hcol]
  rcases hk with rfl | rfl
  · rcases hz with h0 | ⟨h0, hne⟩
    · exact (leaf_e1 n s w h0).mono fun e w' h => ⟨h.1, h.2⟩
    · exact (leaf_n1 n s w hs h0 hne).mono fun e w' h => ⟨h.1, h.2⟩
  · rcases hz with h0 | ⟨h0, hne⟩
    · exact (leaf_e2 n s w h0).mono fun e w' h => ⟨h.1, _, h.2⟩
    · exact (leaf_n2 n s w hs h0 hne).mono fun e w' h => ⟨h.1, _, h.2⟩

set_option maxHeartbeats 3200000 in
set_option maxRecDepth 100000 in
theorem leaf_c1 (n s : ByteArray) (w : World) (hs : s.size ≤ maxLen) (hcol : preB s bColon = true) :
    Calls Tryd.prog 85 #[.agg #[.int .i64 1, .string n, .int .i64 0, .slice none 0 0], .string s] w (LeafPost w 1 n (leafR true s)) := by
  unfold maxLen at hs
  have htk := take_colon hcol
  obtain ⟨h0, h58⟩ := (pre_one (s := s) (p := bColon) rfl).1 hcol
  have e0 : ((s.size : Int) == 0) = false := by rw [beq_eq_false_iff_ne]; omega
  have e1 : ((s[0].toNat : Int) != 58) = false := by rw [h58]; rfl
  have e2 : (0 : Int) < (s.size : Int) := by omega
  have e3 : (1 : Int) ≤ (s.size : Int) := by omega
  have hxs : (s.extract 1 s.size).size + 1 = s.size := by rw [ByteArray.size_extract]; omega
  have hns : (nameAny (s.extract 1 s.size)).size ≤ (s.extract 1 s.size).size := by
    have := tailLen_le (s.extract 1 s.size).data.toList
    have hl : (s.extract 1 s.size).data.toList.length = (s.extract 1 s.size).size := by simp
    unfold nameAny; rw [ByteArray.size_extract]; omega
  have HN := Lib.hid (fun W => rname_any (s.extract 1 s.size) W (by unfold maxLen; omega))
  have HAT : Hid (∀ j : Int, 0 ≤ j ∧ j ≤ 5 → nameAny (s.extract 1 s.size) = wordB j → ¬ (j = 0) → leafR true s = some (j, s.extract (1 + (nameAny (s.extract 1 s.size)).size) s.size)) := fun j hj h hz => by
    rw [leafR_at hcol hj (by rw [htk]; exact h) (fun a => hz a.1), htk, bslice_slice s _ h0]
  have HEND : Hid ((∀ j : Int, 0 ≤ j → j ≤ 5 → nameAny (s.extract 1 s.size) = wordB j → (j = 0)) → leafR true s = none) := fun h => leafR_end hcol (fun j h1 h2 h3 => ⟨h j h1 h2 (by rw [← htk]; exact h3), rfl⟩)
  generalize nameAny (s.extract 1 s.size) = nm at hns HN HAT HEND
  have f1 : (1 : Int) + (nm.size : Int) ≤ (s.size : Int) := by omega
  have f2 : (0 : Int) ≤ 1 + (nm.size : Int) := by omega
  have f3 : IntKind.i64.wrap (1 + (nm.size : Int)) = ((1 + nm.size : Nat) : Int) := (IntWalk.i64_in _ (by omega)).trans (by omega)
  have f4 : ((1 + nm.size : Nat) : Int) ≤ (s.size : Int) := by omega
  clear hcol h58 htk hns hxs
  have hEr := Ext.refl ((w.alloc (.cells #[.int .i64 1, .string n, .int .i64 0, .slice none 0 0] 25)).alloc (.cells #[.int .i64 0, .string ⟨#[]⟩, .int .i64 0, .slice none 0 0] 25))
  have hEw : Ext w ((w.alloc (.cells #[.int .i64 1, .string n, .int .i64 0, .slice none 0 0] 25)).alloc (.cells #[.int .i64 0, .string ⟨#[]⟩, .int .i64 0, .slice none 0 0] 25)) := two_below w _ _
  go_enter Tryd.func85, Tryd.ntmps85
  go_wp2_with (go_at_call 83; refine (HN.out _).mono ?_; rintro e w3 ⟨he, hw⟩; subst he; subst hw)
  have HC : Hid (∀ W, Ext ((w.alloc (.cells #[.int .i64 1, .string n, .int .i64 0, .slice none 0 0] 25)).alloc (.cells #[.int .i64 0, .string ⟨#[]⟩, .int .i64 0, .slice none 0 0] 25)) W → W.heap[w.heap.size]? = some (.cells #[.int .i64 1, .string n, .int .i64 0, .slice none 0 0] 25 (0, 0)) ∧ W.heap[w.heap.size + 1]? = some (.cells #[.int .i64 0, .string ⟨#[]⟩, .int .i64 0, .slice none 0 0] 25 (0, 0))) := fun W h => by
    refine ⟨?_, ?_⟩
    · rw [h.block _ (by simp only [World.size_alloc]; omega), Below.heap_alloc _ _ _ (by simp)]; exact heap_alloc_new w _
    · rw [h.block _ (by simp only [World.size_alloc]; omega)]
      have := heap_alloc_new (w.alloc (.cells #[.int .i64 1, .string n, .int .i64 0, .slice none 0 0] 25)) (.cells #[.int .i64 0, .string ⟨#[]⟩, .int .i64 0, .slice none 0 0] 25)
      rw [World.size_alloc] at this; exact this
  generalize ((w.alloc (.cells #[.int .i64 1, .string n, .int .i64 0, .slice none 0 0] 25)).alloc (.cells #[.int .i64 0, .string ⟨#[]⟩, .int .i64 0, .slice none 0 0] 25)) = wq at hEr hEw HC ⊢
  go_loopw [8] (fun i wr => ∃ j : Nat, j ≤ 6 ∧ i = .int .i64 j ∧ Hid (∀ i : Int, 0 ≤ i → i < (j : Int) → nm = wordB i → (i = 0)) ∧ Ext wq wr) (fun i _ => 6 - (intOf i).toNat)
  case atStart => exact ⟨0, by omega, rfl, (fun i h1 h2 _ => by omega), hEr⟩
  case round =>
    obtain ⟨j, hj, rfl, HNO, hE⟩ := hrel
    have HE := Lib.hid hE
    obtain ⟨hb0, hb1⟩ := HC.out _ hE
    have HB := Lib.hid (And.intro hb0 hb1)
    by_cases hlt : j ≤ 5
    rotate_left
    · have hno : leafR true s = none := HEND.out (fun i h1 h2 h3 => HNO.out i h1 (by omega) h3)
      have HL := Lib.hid hno
      have hj6 : (5 : Int) < (j : Int) := by omega
      obtain ⟨⟨y0, y1, y2, y3⟩, z0, z1, z2, z3⟩ := box_facts hb0
      obtain ⟨⟨m0, m1, m2, m3⟩, n0, n1, n2, n3⟩ := box_facts hb1
      clear hno hb0 hb1 hE
      go_wp2_with fail
      exact bodyPost_ret (v := .tuple #[.agg #[.int .i64 1, .string n, .int .i64 0, .slice none 0 0], .string s, .bool false]) (by simp [results, Tryd.results85, go_sem, m0, m1, m2, m3]) rfl (by rw [HL.out]; exact ⟨put4_below (Ext.trans hEw HE.out) (by omega), _, rfl⟩)
    have HW := Lib.hid (fun W => rword_any (j : Int) ⟨by omega, by omega⟩ W)
    have HATj : Hid (nm = wordB (j : Int) → ¬ ((j : Int) = 0) → leafR true s = some ((j : Int), s.extract (1 + nm.size) s.size)) := fun h hz => HAT.out j ⟨by omega, by omega⟩ h hz
    have HNX : Hid ((nm = wordB (j : Int) → ((j : Int) = 0)) → ∀ i : Int, 0 ≤ i → i < ((j + 1 : Nat) : Int) → nm = wordB i → (i = 0)) := fun h i h1 h2 h3 => by
      by_cases hij : i = (j : Int)
      · subst hij; exact h h3
      · exact HNO.out i h1 (by omega) h3
    generalize wordB (j : Int) = wd at HW HATj HNX
    have hj5 : (j : Int) ≤ 5 := by omega
    clear hb0 hb1 hE
    by_cases hw : nm = wd
    rotate_left
    · have q : (nm.toList == wd.toList) = false := by rw [beq_eq_false_iff_ne]; intro h; exact hw (ByteArray.ext (Array.toList_inj.1 (by simpa only [Lib.toList_data] using h)))
      have HNX2 := Lib.hid (HNX.out (fun h => absurd h hw))
      clear hw
      go_wp2_with (go_at_call 117; refine (HW.out _).mono ?_; rintro e w5 ⟨he, hB5⟩; subst he; have HE5 : Hid (Ext wq w5) := Lib.hid (Ext.trans HE.out hB5); clear hB5)
      go_roundw
      case rel => exact ⟨j + 1, by omega, by go_num, HNX2, HE5.out⟩
      case measure => simp [intOf]; omega
    subst hw
    have q : (nm.toList == nm.toList) = true := by simp
    by_cases hj0 : (j : Int) = 0
    · have HNX2 := Lib.hid (HNX.out (fun _ => hj0))
      have q2 : ((j : Int) != 0) = false := by simp [hj0]
      clear hj0
      go_wp2_with (go_at_call 117; refine (HW.out _).mono ?_; rintro e w5 ⟨he, hB5⟩; subst he; have HE5 : Hid (Ext wq w5) := Lib.hid (Ext.trans HE.out hB5); obtain ⟨hc0, hc1⟩ := HC.out _ HE5.out; obtain ⟨⟨y0, y1, y2, y3⟩, z0, z1, z2, z3⟩ := box_facts hc0; clear hB5 hc0 hc1)
      go_roundw
      case rel => exact ⟨j + 1, by omega, by go_num, HNX2, HE5.out⟩
      case measure => simp [intOf]; omega
    have q2 : ((j : Int) != 0) = true := by rw [bne_iff_ne]; exact hj0
    have HATj2 := Lib.hid (HATj.out rfl hj0)
    clear hj0
    go_wp2_with (go_at_call 117; refine (HW.out _).mono ?_; rintro e w5 ⟨he, hB5⟩; subst he; have HE5 : Hid (Ext wq w5) := Lib.hid (Ext.trans HE.out hB5); obtain ⟨hc0, hc1⟩ := HC.out _ HE5.out; obtain ⟨⟨y0, y1, y2, y3⟩, z0, z1, z2, z3⟩ := box_facts hc0; have HC0 := Lib.hid hc0; have HC1 := Lib.hid hc1; clear hB5 hc0 hc1)
    have hs8 : (w5.setCell ⟨w.heap.size, 2, none⟩ (.int .i64 (j : Int))).heap[w.heap.size]? = some (.cells #[.int .i64 1, .string n, .int .i64 (j : Int), .slice none 0 0] 25 (0, 0)) := by simp [World.setCell, Array.getElem?_modify, HC0.out]
    have hr8 : (w5.setCell ⟨w.heap.size, 2, none⟩ (.int .i64 (j : Int))).heap[w.heap.size + 1]? = some (.cells #[.int .i64 0, .string ⟨#[]⟩, .int .i64 0, .slice none 0 0] 25 (0, 0)) := by rw [Below.heap_setCell _ _ _ _ (by show w.heap.size + 1 ≠ w.heap.size; omega)]; exact HC1.out
    have hB8 : Below w.heap.size w (w5.setCell ⟨w.heap.size, 2, none⟩ (.int .i64 (j : Int))) := (Ext.trans hEw HE5.out).setCell (Nat.le_refl _) _
    clear y0 y1 y2 y3 z0 z1 z2 z3
    generalize w5.setCell ⟨w.heap.size, 2, none⟩ (.int .i64 (j : Int)) = w8 at hs8 hr8 hB8 ⊢
    obtain ⟨⟨y0, y1, y2, y3⟩, z0, z1, z2, z3⟩ := box_facts hs8
    obtain ⟨⟨m0, m1, m2, m3⟩, n0, n1, n2, n3⟩ := box_facts hr8
    have HB8 := Lib.hid hB8
    clear hs8 hr8 hB8
    go_region
    go_wp2_with fail
    exact bodyPost_ret (v := .tuple #[.agg #[.int .i64 1, .string n, .int .i64 (j : Int), .slice none 0 0], .string (s.extract (1 + nm.size) s.size), .bool true]) (by simp [results, Tryd.results85, go_sem, m0, m1, m2, m3]) rfl (by rw [HATj2.out]; exact ⟨put4_below (w' := w8.drew) (g := w.heap.size + 1) (o := 0) HB8.out.drew (by omega), rfl⟩)

set_option maxHeartbeats 3200000 in
set_option maxRecDepth 100000 in
theorem leaf_c2 (n s : ByteArray) (w : World) (hs : s.size ≤ maxLen) (hcol : preB s bColon = true) :
    Calls Tryd.prog 85 #[.agg #[.int .i64 2, .string n, .int .i64 0, .slice none 0 0], .string s] w (LeafPost w 2 n (leafR false s)) := by
  unfold maxLen at hs
  have htk := take_colon hcol
  obtain ⟨h0, h58⟩ := (pre_one (s := s) (p := bColon) rfl).1 hcol
  have e0 : ((s.size : Int) == 0) = false := by rw [beq_eq_false_iff_ne]; omega
  have e1 : ((s[0].toNat : Int) != 58) = false := by rw [h58]; rfl
  have e2 : (0 : Int) < (s.size : Int) := by omega
  have e3 : (1 : Int) ≤ (s.size : Int) := by omega
  have hxs : (s.extract 1 s.size).size + 1 = s.size := by rw [ByteArray.size_extract]; omega
  have hns : (nameAny (s.extract 1 s.size)).size ≤ (s.extract 1 s.size).size := by
    have := tailLen_le (s.extract 1 s.size).data.toList
    have hl : (s.extract 1 s.size).data.toList.length = (s.extract 1 s.size).size := by simp
    unfold nameAny; rw [ByteArray.size_extract]; omega
  have HN := Lib.hid (fun W => rname_any (s.extract 1 s.size) W (by unfold maxLen; omega))
  have HAT : Hid (∀ j : Int, 0 ≤ j ∧ j ≤ 5 → nameAny (s.extract 1 s.size) = wordB j → ¬ (False) → leafR false s = some (j, s.extract (1 + (nameAny (s.extract 1 s.size)).size) s.size)) := fun j hj h hz => by
    rw [leafR_at hcol hj (by rw [htk]; exact h) (fun a => by simp at a), htk, bslice_slice s _ h0]
  have HEND : Hid ((∀ j : Int, 0 ≤ j → j ≤ 5 → nameAny (s.extract 1 s.size) = wordB j → (False)) → leafR false s = none) := fun h => leafR_end hcol (fun j h1 h2 h3 => (h j h1 h2 (by rw [← htk]; exact h3)).elim)
  generalize nameAny (s.extract 1 s.size) = nm at hns HN HAT HEND
  have f1 : (1 : Int) + (nm.size : Int) ≤ (s.size : Int) := by omega
  have f2 : (0 : Int) ≤ 1 + (nm.size : Int) := by omega
  have f3 : IntKind.i64.wrap (1 + (nm.size : Int)) = ((1 + nm.size : Nat) : Int) := (IntWalk.i64_in _ (by omega)).trans (by omega)
  have f4 : ((1 + nm.size : Nat) : Int) ≤ (s.size : Int) := by omega
  clear hcol h58 htk hns hxs
  have hEr := Ext.refl ((w.alloc (.cells #[.int .i64 2, .string n, .int .i64 0, .slice none 0 0] 25)).alloc (.cells #[.int .i64 0, .string ⟨#[]⟩, .int .i64 0, .slice none 0 0] 25))
  have hEw : Ext w ((w.alloc (.cells #[.int .i64 2, .string n, .int .i64 0, .slice none 0 0] 25)).alloc (.cells #[.int .i64 0, .string ⟨#[]⟩, .int .i64 0, .slice none 0 0] 25)) := two_below w _ _
  go_enter Tryd.func85, Tryd.ntmps85
  go_wp2_with (go_at_call 83; refine (HN.out _).mono ?_; rintro e w3 ⟨he, hw⟩; subst he; subst hw)
  have HC : Hid (∀ W, Ext ((w.alloc (.cells #[.int .i64 2, .string n, .int .i64 0, .slice none 0 0] 25)).alloc (.cells #[.int .i64 0, .string ⟨#[]⟩, .int .i64 0, .slice none 0 0] 25)) W → W.heap[w.heap.size]? = some (.cells #[.int .i64 2, .string n, .int .i64 0, .slice none 0 0] 25 (0, 0)) ∧ W.heap[w.heap.size + 1]? = some (.cells #[.int .i64 0, .string ⟨#[]⟩, .int .i64 0, .slice none 0 0] 25 (0, 0))) := fun W h => by
    refine ⟨?_, ?_⟩
    · rw [h.block _ (by simp only [World.size_alloc]; omega), Below.heap_alloc _ _ _ (by simp)]; exact heap_alloc_new w _
    · rw [h.block _ (by simp only [World.size_alloc]; omega)]
      have := heap_alloc_new (w.alloc (.cells #[.int .i64 2, .string n, .int .i64 0, .slice none 0 0] 25)) (.cells #[.int .i64 0, .string ⟨#[]⟩, .int .i64 0, .slice none 0 0] 25)
      rw [World.size_alloc] at this; exact this
  generalize ((w.alloc (.cells #[.int .i64 2, .string n, .int .i64 0, .slice none 0 0] 25)).alloc (.cells #[.int .i64 0, .string ⟨#[]⟩, .int .i64 0, .slice none 0 0] 25)) = wq at hEr hEw HC ⊢
  go_loopw [8] (fun i wr => ∃ j : Nat, j ≤ 6 ∧ i = .int .i64 j ∧ Hid (∀ i : Int, 0 ≤ i → i < (j : Int) → nm = wordB i → (False)) ∧ Ext wq wr) (fun i _ => 6 - (intOf i).toNat)
  case atStart => exact ⟨0, by omega, rfl, (fun i h1 h2 _ => by omega), hEr⟩
  case round =>
    obtain ⟨j, hj, rfl, HNO, hE⟩ := hrel
    have HE := Lib.hid hE
    obtain ⟨hb0, hb1⟩ := HC.out _ hE
    have HB := Lib.hid (And.intro hb0 hb1)
    by_cases hlt : j ≤ 5
    rotate_left
    · have hno : leafR false s = none := HEND.out (fun i h1 h2 h3 => HNO.out i h1 (by omega) h3)
      have HL := Lib.hid hno
      have hj6 : (5 : Int) < (j : Int) := by omega
      obtain ⟨⟨y0, y1, y2, y3⟩, z0, z1, z2, z3⟩ := box_facts hb0
      obtain ⟨⟨m0, m1, m2, m3⟩, n0, n1, n2, n3⟩ := box_facts hb1
      clear hno hb0 hb1 hE
      go_wp2_with fail
      exact bodyPost_ret (v := .tuple #[.agg #[.int .i64 2, .string n, .int .i64 0, .slice none 0 0], .string s, .bool false]) (by simp [results, Tryd.results85, go_sem, m0, m1, m2, m3]) rfl (by rw [HL.out]; exact ⟨put4_below (Ext.trans hEw HE.out) (by omega), _, rfl⟩)
    have HW := Lib.hid (fun W => rword_any (j : Int) ⟨by omega, by omega⟩ W)
    have HATj : Hid (nm = wordB (j : Int) → ¬ (False) → leafR false s = some ((j : Int), s.extract (1 + nm.size) s.size)) := fun h hz => HAT.out j ⟨by omega, by omega⟩ h hz
    have HNX : Hid ((nm = wordB (j : Int) → (False)) → ∀ i : Int, 0 ≤ i → i < ((j + 1 : Nat) : Int) → nm = wordB i → (False)) := fun h i h1 h2 h3 => by
      by_cases hij : i = (j : Int)
      · subst hij; exact h h3
      · exact HNO.out i h1 (by omega) h3
    generalize wordB (j : Int) = wd at HW HATj HNX
    have hj5 : (j : Int) ≤ 5 := by omega
    clear hb0 hb1 hE
    by_cases hw : nm = wd
    rotate_left
    · have q : (nm.toList == wd.toList) = false := by rw [beq_eq_false_iff_ne]; intro h; exact hw (ByteArray.ext (Array.toList_inj.1 (by simpa only [Lib.toList_data] using h)))
      have HNX2 := Lib.hid (HNX.out (fun h => absurd h hw))
      clear hw
      go_wp2_with (go_at_call 117; refine (HW.out _).mono ?_; rintro e w5 ⟨he, hB5⟩; subst he; have HE5 : Hid (Ext wq w5) := Lib.hid (Ext.trans HE.out hB5); clear hB5)
      go_roundw
      case rel => exact ⟨j + 1, by omega, by go_num, HNX2, HE5.out⟩
      case measure => simp [intOf]; omega
    subst hw
    have q : (nm.toList == nm.toList) = true := by simp
    have HATj2 := Lib.hid (HATj.out rfl (fun h => h))
    by_cases hj0 : (j : Int) = 0
    · have q2 : ((j : Int) != 0) = false := by simp [hj0]
      clear hj0
      go_wp2_with (go_at_call 117; refine (HW.out _).mono ?_; rintro e w5 ⟨he, hB5⟩; subst he; have HE5 : Hid (Ext wq w5) := Lib.hid (Ext.trans HE.out hB5); obtain ⟨hc0, hc1⟩ := HC.out _ HE5.out; obtain ⟨⟨y0, y1, y2, y3⟩, z0, z1, z2, z3⟩ := box_facts hc0; have HC0 := Lib.hid hc0; have HC1 := Lib.hid hc1; clear hB5 hc0 hc1)
      have hs8 : (w5.setCell ⟨w.heap.size, 2, none⟩ (.int .i64 (j : Int))).heap[w.heap.size]? = some (.cells #[.int .i64 2, .string n, .int .i64 (j : Int), .slice none 0 0] 25 (0, 0)) := by simp [World.setCell, Array.getElem?_modify, HC0.out]
      have hr8 : (w5.setCell ⟨w.heap.size, 2, none⟩ (.int .i64 (j : Int))).heap[w.heap.size + 1]? = some (.cells #[.int .i64 0, .string ⟨#[]⟩, .int .i64 0, .slice none 0 0] 25 (0, 0)) := by rw [Below.heap_setCell _ _ _ _ (by show w.heap.size + 1 ≠ w.heap.size; omega)]; exact HC1.out
      have hB8 : Below w.heap.size w (w5.setCell ⟨w.heap.size, 2, none⟩ (.int .i64 (j : Int))) := (Ext.trans hEw HE5.out).setCell (Nat.le_refl _) _
      clear y0 y1 y2 y3 z0 z1 z2 z3
      generalize w5.setCell ⟨w.heap.size, 2, none⟩ (.int .i64 (j : Int)) = w8 at hs8 hr8 hB8 ⊢
      obtain ⟨⟨y0, y1, y2, y3⟩, z0, z1, z2, z3⟩ := box_facts hs8
      obtain ⟨⟨m0, m1, m2, m3⟩, n0, n1, n2, n3⟩ := box_facts hr8
      have HB8 := Lib.hid hB8
      clear hs8 hr8 hB8
      go_region
      go_wp2_with fail
      exact bodyPost_ret (v := .tuple #[.agg #[.int .i64 2, .string n, .int .i64 (j : Int), .slice none 0 0], .string (s.extract (1 + nm.size) s.size), .bool true]) (by simp [results, Tryd.results85, go_sem, m0, m1, m2, m3]) rfl (by rw [HATj2.out]; exact ⟨put4_below (w' := w8.drew) (g := w.heap.size + 1) (o := 0) HB8.out.drew (by omega), rfl⟩)
    have q2 : ((j : Int) != 0) = true := by rw [bne_iff_ne]; exact hj0
    clear hj0
    go_wp2_with (go_at_call 117; refine (HW.out _).mono ?_; rintro e w5 ⟨he, hB5⟩; subst he; have HE5 : Hid (Ext wq w5) := Lib.hid (Ext.trans HE.out hB5); obtain ⟨hc0, hc1⟩ := HC.out _ HE5.out; obtain ⟨⟨y0, y1, y2, y3⟩, z0, z1, z2, z3⟩ := box_facts hc0; have HC0 := Lib.hid hc0; have HC1 := Lib.hid hc1; clear hB5 hc0 hc1)
    have hs8 : (w5.setCell ⟨w.heap.size, 2, none⟩ (.int .i64 (j : Int))).heap[w.heap.size]? = some (.cells #[.int .i64 2, .string n, .int .i64 (j : Int), .slice none 0 0] 25 (0, 0)) := by simp [World.setCell, Array.getElem?_modify, HC0.out]
    have hr8 : (w5.setCell ⟨w.heap.size, 2, none⟩ (.int .i64 (j : Int))).heap[w.heap.size + 1]? = some (.cells #[.int .i64 0, .string ⟨#[]⟩, .int .i64 0, .slice none 0 0] 25 (0, 0)) := by rw [Below.heap_setCell _ _ _ _ (by show w.heap.size + 1 ≠ w.heap.size; omega)]; exact HC1.out
    have hB8 : Below w.heap.size w (w5.setCell ⟨w.heap.size, 2, none⟩ (.int .i64 (j : Int))) := (Ext.trans hEw HE5.out).setCell (Nat.le_refl _) _
    clear y0 y1 y2 y3 z0 z1 z2 z3
    generalize w5.setCell ⟨w.heap.size, 2, none⟩ (.int .i64 (j : Int)) = w8 at hs8 hr8 hB8 ⊢
    obtain ⟨⟨y0, y1, y2, y3⟩, z0, z1, z2, z3⟩ := box_facts hs8
    obtain ⟨⟨m0, m1, m2, m3⟩, n0, n1, n2, n3⟩ := box_facts hr8
    have HB8 := Lib.hid hB8
    clear hs8 hr8 hB8
    go_region
    go_wp2_with fail
    exact bodyPost_ret (v := .tuple #[.agg #[.int .i64 2, .string n, .int .i64 (j : Int), .slice none 0 0], .string (s.extract (1 + nm.size) s.size), .bool true]) (by simp [results, Tryd.results85, go_sem, m0, m1, m2, m3]) rfl (by rw [HATj2.out]; exact ⟨put4_below (w' := w8.drew) (g := w.heap.size + 1) (o := 0) HB8.out.drew (by omega), rfl⟩)

theorem leaf_any (k0 : Int) (hk : k0 = 1 ∨ k0 = 2) (n s : ByteArray) (w : World) (hs : s.size ≤ maxLen) :
    Calls Tryd.prog 85 #[.agg #[.int .i64 k0, .string n, .int .i64 0, .slice none 0 0], .string s] w (LeafPost w k0 n (leafR (decide (k0 = 1)) s)) := by
  cases hcol : preB s bColon with
  | false => exact leaf_none k0 hk n s w hs hcol
  | true =>
    rcases hk with rfl | rfl
    · exact leaf_c1 n s w hs hcol
    · exact leaf_c2 n s w hs hcol
end Go.Proofs.YtclgcfpjhlcnfaaDoor
