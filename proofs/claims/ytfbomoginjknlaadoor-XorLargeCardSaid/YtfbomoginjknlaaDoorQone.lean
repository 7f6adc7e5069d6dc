/-
  A NUMBER APPENDED TO NUMBERS; THE WALK OF ones.
-/
import Derived.Test.YtfbomoginjknlaaDoorQtz
import Derived.Test.YtfbomoginjknlaaDoorQcmp
namespace Go.Proofs.YtfbomoginjknlaaDoor
open Go.RowKit Go.Lib

/-- Numbers in a row of one's own. -/
def OwnI (H : Nat) (w : World) (c : List Int) (v : Value) : Prop := w.ownsRow H 3 1 v c.length (zints c)
theorem OwnI_nil (H : Nat) (w : World) : OwnI H w [] (.slice none 0 0) := World.ownsRow_nil w H _ 1
theorem OwnI_form {H : Nat} {w : World} {c : List Int} {v : Value} (h : OwnI H w c v) : ∃ xa cap, v = .slice xa c.length cap := by
  rcases h.2 with ⟨rfl, e⟩ | ⟨g, cap, _, rfl, _⟩
  · exact ⟨none, 0, by rw [e]⟩
  · exact ⟨_, cap, rfl⟩
theorem OwnI_ext {H : Nat} {w W : World} {c : List Int} {v : Value} (h : OwnI H w c v) (x : Ext w W) : OwnI H W c v := own_heap h fun q hq => x.block q (h.lt q hq).2
theorem info3Q : (Tryd.prog.info? 3).map (fun i => (i.zero, i.size, i.bytes)) = some (some (.int .i64 0), 1, 8) := by kernel_rfl
theorem wpList_append_int {W : World} {ops : Array Oper} {rest : List Oper} {o : Oper} {a : Act} {Q : Exit → Act → World → Prop} (hgd : o.guard = none) (s x : Operand)
    (ho : o.op = .call { callee := .builtin .append, args := #[s, x], argTypes := #[45, 45] }) {H : Nat} {acc : List Int} {v : Value} (hO : OwnI H W acc v) (hH : H ≤ W.heap.size) (hlen : acc.length ≤ 1073741824)
    {i : Int} (hs : a.eval s = v) {z : Nat} (hzW : W.heap.size = z) (hx : a.eval x = .slice (some ⟨z, 0, none⟩) 1 1)
    (h : ∀ v' w8, OwnI H w8 (acc ++ [i]) v' → Below H W w8 → W.heap.size ≤ w8.heap.size → wpList Tryd.prog ops Q rest (a.put o.dst v') w8) :
    wpList Tryd.prog ops Q (o :: rest) a (W.alloc (.cells #[.int .i64 i] 3)) := by
  subst hzW
  obtain ⟨i0, hi0, hz0, hz1, hz2⟩ := info_parts info3Q
  obtain ⟨xl, lcap, rfl⟩ := OwnI_form hO
  have hown : W.ownsRow H 3 1 (.slice xl acc.length lcap) acc.length (zints acc) := hO
  refine wpList_append_lies _ hgd s x _ ho H 3 i0 _ 1 8 Tryd.underlying45 hi0 hz0 hz1 hz2 rfl (by omega) (.slice xl acc.length lcap) acc.length (zints acc) hs (hown.alloc _) ⟨W.heap.size, 0, none⟩ 1 1 [.int .i64 i] hx rfl
    (World.news_of_block (cs := #[.int .i64 i]) (t := 3) (fr := (0, 0)) (heap_alloc_new W _)) (fun u hu => by simp only [List.mem_cons, List.not_mem_nil, or_false] at hu; subst hu; rfl) (by omega) (by unfold maxLen; omega) (by omega) (by rw [World.size_alloc]; omega) (W.heap.size + 1) (by rw [World.size_alloc]) ?_
  intro g cap w8 ho8 hg _ _
  have hsz := hg.size
  rw [World.size_alloc] at hsz
  refine h _ _ ?_ (((Below.refl H W).alloc hH _).grown hg (by rw [World.size_alloc]; omega) (fun q hq => (hown.lt q hq).1)) (by omega)
  show w8.ownsRow H 3 1 _ (acc ++ [i]).length (zints (acc ++ [i]))
  have e : zints (acc ++ [i]) = zints acc ++ [.int .i64 i] := by unfold zints; rw [List.map_append]; rfl
  rw [List.length_append, e]
  exact ho8
theorem asc_oneN : ∀ (l m : List Nat), l.Pairwise (· < ·) → m.Pairwise (· < ·) → (∀ t, t ∈ l ↔ t ∈ m) → l = m
  | [], [], _, _, _ => rfl
  | [], u :: m, _, _, h => absurd ((h u).2 (by simp)) (by simp)
  | t :: l, [], _, _, h => absurd ((h t).1 (by simp)) (by simp)
  | t :: l, u :: m, hl, hm, h => by
    have l1 := (List.pairwise_cons.1 hl).1
    have m1 := (List.pairwise_cons.1 hm).1
    have e : t = u := by
      rcases List.mem_cons.1 ((h t).1 (by simp)) with e | h1
      · exact e
      · rcases List.mem_cons.1 ((h u).2 (by simp)) with e | h2
        · exact e.symm
        · have := m1 t h1
          have := l1 u h2
          omega
    subst e
    rw [asc_oneN l m (List.pairwise_cons.1 hl).2 (List.pairwise_cons.1 hm).2 (fun x => ?_)]
    constructor
    · intro hx
      rcases List.mem_cons.1 ((h x).1 (List.mem_cons_of_mem _ hx)) with e | h1
      · subst e; exact absurd (l1 x hx) (by omega)
      · exact h1
    · intro hx
      rcases List.mem_cons.1 ((h x).2 (List.mem_cons_of_mem _ hx)) with e | h1
      · subst e; exact absurd (m1 x hx) (by omega)
      · exact h1
/-- The ones of a word, as numbers of coordinates. -/
def wordI (j x : Nat) : List Int := (onesN 64 x.testBit).map fun (r : Nat) => ((j * 64 + r : Nat) : Int)
theorem onesI_word (f : Nat → Nat) (j : Nat) : onesI ((j + 1) * 64) (bitV f) = onesI (j * 64) (bitV f) ++ wordI j (f j) := by
  unfold onesI wordI onesN
  rw [show (j + 1) * 64 = j * 64 + 64 by omega, List.range_add, List.filter_append, List.map_append, List.filter_map, List.map_map]
  congr 1
  have e : List.filter (bitV f ∘ fun x => j * 64 + x) (List.range 64) = List.filter (f j).testBit (List.range 64) := by
    refine List.filter_congr fun r hr => ?_
    have := List.mem_range.1 hr
    show bitV f (j * 64 + r) = _
    unfold bitV
    rw [show (j * 64 + r) / 64 = j by omega, show (j * 64 + r) % 64 = r by omega]
  rw [e]; rfl
theorem wordI_zero (j : Nat) : wordI j 0 = [] := by
  unfold wordI onesN
  have : List.filter (Nat.testBit 0) (List.range 64) = [] := by
    rw [List.filter_eq_nil_iff]
    intro a _
    rw [Nat.zero_testBit]; decide
  rw [this]; rfl
theorem wordI_low {j x k : Nat} (hk : k < 64) (h1 : x.testBit k = true) (h2 : ∀ i, i < k → x.testBit i = false) (h3 : ∀ i, (x &&& (x - 1)).testBit i = (x.testBit i && !decide (i = k))) :
    wordI j x = ((j * 64 + k : Nat) : Int) :: wordI j (x &&& (x - 1)) := by
  have e : onesN 64 x.testBit = k :: onesN 64 (x &&& (x - 1)).testBit := by
    refine asc_oneN _ _ (onesN_asc _ _) (List.pairwise_cons.2 ⟨fun i hi => ?_, onesN_asc _ _⟩) fun i => ?_
    · obtain ⟨_, hb⟩ := onesN_mem.1 hi
      rw [h3, Bool.and_eq_true, Bool.not_eq_true', decide_eq_false_iff_not] at hb
      rcases Nat.lt_trichotomy i k with h | h | h
      · rw [h2 i h] at hb; exact absurd hb.1 (by decide)
      · exact absurd h hb.2
      · exact h
    · rw [List.mem_cons, onesN_mem, onesN_mem, h3, Bool.and_eq_true, Bool.not_eq_true', decide_eq_false_iff_not]
      constructor
      · rintro ⟨a, b⟩
        by_cases e : i = k
        · exact Or.inl e
        · exact Or.inr ⟨a, b, e⟩
      · rintro (e | ⟨a, b, _⟩)
        · subst e; exact ⟨hk, h1⟩
        · exact ⟨a, b⟩
  unfold wordI
  rw [e]; rfl
theorem onesI_len (m : Nat) (A : Nat → Bool) : (onesI m A).length ≤ m := by
  unfold onesI
  rw [List.length_map]; exact onesN_len m A
/-- What ones gives back. -/
def OnesPost (w : World) (c : List Int) (e : Ending) (w' : World) : Prop := ∃ v, e = .returned v ∧ OwnI w.heap.size w' c v ∧ Ext w w'
set_option maxHeartbeats 3200000 in
set_option maxRecDepth 100000 in
theorem ones_any (b n cap : Nat) (f : Nat → Nat) (w : World) (hn : n ≤ 1048576) (hbl : b < w.heap.size) (hc : VecAt w b n f) (hT : TabQ w) :
    Calls Tryd.prog 42 #[.slice (some ⟨b, 0, none⟩) n cap] w (OnesPost w (onesI (n * 64) (bitV f))) := by
  have HC := Lib.hid hc
  have HT := Lib.hid hT
  have HBL := Lib.hid hbl
  clear hc hT hbl
  go_enter Tryd.func42, Tryd.ntmps42
  go_wp2_with fail
  go_loopw [3, 8] (fun v i wr => ∃ j : Nat, j ≤ n ∧ i = .int .i64 j ∧ OwnI w.heap.size wr (onesI (j * 64) (bitV f)) v ∧ Ext w wr) (fun _ i _ => n - (intOf i).toNat)
  case atStart => exact ⟨0, Nat.zero_le _, rfl, OwnI_nil _ _, Ext.refl _⟩
  case round =>
    obtain ⟨j, hj, rfl, hO, hX⟩ := hrel
    have HX := Lib.hid hX
    by_cases hlt : j < n
    rotate_left
    · have hjl : j = n := by omega
      rw [hjl] at hO
      obtain ⟨xr, cr, rfl⟩ := OwnI_form hO
      have HF : Hid (OnesPost w (onesI (n * 64) (bitV f)) (.returned (.slice xr (onesI (n * 64) (bitV f)).length cr)) wr) := ⟨_, rfl, hO, hX⟩
      clear hO hX hjl
      go_wp2_with fail
      go_ret
      exact HF.out
    obtain ⟨hx, h1⟩ := HC.out j hlt
    have hx2 := keep_below hX _ _ hx
    have HW := Lib.hid (onesI_word f j)
    have HO := Lib.hid hO
    have HLN : Hid (∀ acc : List Int, (∃ r, acc ++ r = onesI ((j + 1) * 64) (bitV f)) → acc.length ≤ 1073741824) := by
      show ∀ _, _
      rintro acc ⟨r, h⟩
      have h2 := congrArg List.length h
      rw [List.length_append] at h2
      have := onesI_len ((j + 1) * 64) (bitV f)
      omega
    have i1 : (0 : Int) ≤ (j : Int) := by omega
    have i2 : (j : Int) < (n : Int) := by omega
    obtain ⟨x0, hfx⟩ : ∃ x, f j = x := ⟨_, rfl⟩
    rw [hfx] at hx2 h1 HW
    obtain ⟨xr, cr, rfl⟩ := OwnI_form hO
    clear hfx hx hO hX
    generalize onesI (j * 64) (bitV f) = acc0 at HO HW ⊢
    obtain ⟨tot, htot⟩ : ∃ tot, onesI ((j + 1) * 64) (bitV f) = tot := ⟨_, rfl⟩
    rw [htot] at HW HLN
    have HTOT := Lib.hid htot
    clear htot
    go_wp2_with fail
    obtain ⟨w1, hw1⟩ : ∃ v : World, v = wr := ⟨_, rfl⟩
    subst hw1
    go_loopw [3, 5] (fun v i wq => ∃ (x : Nat) (acc : List Int), i = .int .u64 x ∧ x < 18446744073709551616 ∧ OwnI w.heap.size wq acc v ∧ Hid (acc ++ wordI j x = tot) ∧ Ext w wq) (fun _ i _ => (intOf i).toNat)
    case atStart => exact ⟨x0, acc0, rfl, h1, HO.out, HW.out.symm, HX.out⟩
    case round =>
      obtain ⟨x, acc, rfl, hxl, hO, HE, hX⟩ := hrel
      have HX2 := Lib.hid hX
      obtain ⟨xq, cq, rfl⟩ := OwnI_form hO
      have HO2 := Lib.hid hO
      by_cases h0 : x = 0
      · have q0 : ((x : Int) != 0) = false := by simp [h0]
        have HE2 : Hid (acc = tot) := by show _ = _; have := HE.out; rw [h0, wordI_zero, List.append_nil] at this; exact this
        clear hO hX h0
        go_wp2_with fail
        go_roundw
        case rel => exact ⟨j + 1, by omega, by go_num, by rw [HTOT.out, ← HE2.out]; exact HO2.out, HX2.out⟩
        case measure => simp [intOf]; omega
      · have q0 : ((x : Int) != 0) = true := by rw [bne_iff_ne]; omega
        obtain ⟨k, hk, hk6, hb1, hb2, hb3⟩ := ctz_bits x hxl h0
        have HTZ := Lib.hid (tz_any x hxl h0 _ (HT.out.ext hX))
        rw [hk] at HTZ
        have HLOW := Lib.hid (wordI_low (j := j) hk6 hb1 hb2 hb3)
        obtain ⟨y, rfl⟩ : ∃ y, x = y + 1 := ⟨x - 1, by omega⟩
        rw [Nat.add_sub_cancel] at HLOW
        have hand := u64_and_nat (y + 1) y hxl (by omega)
        rw [show ((y + 1 : Nat) : Int) = (y : Int) + 1 by omega] at hand
        have hle : (y + 1) &&& y ≤ y := Nat.and_le_right
        obtain ⟨z, hz⟩ : ∃ z, (y + 1) &&& y = z := ⟨_, rfl⟩
        rw [hz] at hand hle HLOW
        have HAND := Lib.hid hand
        have HE3 : Hid ((acc ++ [((j * 64 + k : Nat) : Int)]) ++ wordI j z = tot) := by
          show _ = _
          rw [List.append_assoc, ← HE.out, HLOW.out]; rfl
        have hal := HLN.out acc ⟨_, HE.out⟩
        have hws := hX.size
        clear hO hX h0 hk hb1 hb2 hb3 hand hz
        go_wp2_with (first
          | (go_at_call 68; refine (HTZ.out).mono ?_; rintro e w3 ⟨he, hw⟩; subst he; have hw' := hw.symm; subst hw')
          | (at_builtin; refine wpList_append_int rfl _ _ rfl HO2.out hws hal rfl rfl rfl ?_; intro v9 w9 hO9 hB9 hs9; have HO9 := Lib.hid hO9; have HB9 : Hid (Ext w w9) := Lib.hid (Below.trans HX2.out hB9); clear hO9 hB9 hs9))
        rw [HAND.out]
        go_roundw
        case rel => exact ⟨z, _, rfl, by omega, HO9.out, by show _ = _; have := HE3.out; simpa using this, HB9.out⟩
        case measure => simp [intOf]; omega
end Go.Proofs.YtfbomoginjknlaaDoor
