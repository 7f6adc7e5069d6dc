/-
  THE WALK OF term.copyOf, SAID WITH MORE: in the copy each row of kids lies in a block of its own.
-/
import Derived.Test.YtdgofofhkebkkaaDoorSep
namespace Go.Proofs.YtdgofofhkebkkaaDoor
open Go.RowKit

def CopySep (w : World) (t : Tm) (e : Ending) (w' : World) : Prop :=
  ∃ c0 c1 c2 c3, e = .returned (.agg #[c0, c1, c2, c3]) ∧ SepT w' t w.heap.size w'.heap.size c0 c1 c2 c3 ∧ Below w.heap.size w w'

/-- The kids that are copied, each in an interval behind the one ahead. -/
def KS (w : World) : List Tm → List Value → Nat → Nat → Prop
  | [], cs, lo, hi => cs = [] ∧ lo ≤ hi
  | t :: ts, cs, lo, hi => ∃ m c0 c1 c2 c3 r, cs = c0 :: c1 :: c2 :: c3 :: r ∧ lo ≤ m ∧ SepT w t lo m c0 c1 c2 c3 ∧ KS w ts r m hi
theorem KS_le {w : World} : ∀ (ts : List Tm) (cs : List Value) (lo hi : Nat), KS w ts cs lo hi → lo ≤ hi
  | [], _, _, _, h => h.2
  | t :: ts, cs, lo, hi, h => by
    obtain ⟨m, c0, c1, c2, c3, r, rfl, hm, _, hr⟩ := h
    exact Nat.le_trans hm (KS_le ts r m hi hr)
theorem KS_carry {w w' : World} : ∀ (ts : List Tm) (cs : List Value) (lo hi : Nat), (∀ x, lo ≤ x → x < hi → w'.heap[x]? = w.heap[x]?) → KS w ts cs lo hi → KS w' ts cs lo hi
  | [], _, _, _, _, h => h
  | t :: ts, cs, lo, hi, hh, h => by
    obtain ⟨m, c0, c1, c2, c3, r, rfl, hm, hT, hr⟩ := h
    have := KS_le ts r m hi hr
    exact ⟨m, c0, c1, c2, c3, r, rfl, hm, SepT_carry t lo m c0 c1 c2 c3 (fun x h1 h2 => hh x h1 (by omega)) hT, KS_carry ts r m hi (fun x h1 h2 => hh x (by omega) h2) hr⟩
theorem KS_snoc {w : World} {t : Tm} {m hi : Nat} {c0 c1 c2 c3 : Value} (hT : SepT w t m hi c0 c1 c2 c3) (hm : m ≤ hi) : ∀ (ts : List Tm) (cs : List Value) (lo : Nat), KS w ts cs lo m → KS w (ts ++ [t]) (cs ++ [c0, c1, c2, c3]) lo hi
  | [], cs, lo, h => by
    obtain ⟨rfl, hl⟩ := h
    refine ⟨hi, c0, c1, c2, c3, [], rfl, by omega, SepT_wider t hl (Nat.le_refl _) hT, rfl, Nat.le_refl _⟩
  | x :: ts, cs, lo, h => by
    obtain ⟨k, d0, d1, d2, d3, r, rfl, hk, hX, hr⟩ := h
    exact ⟨k, d0, d1, d2, d3, r ++ [c0, c1, c2, c3], rfl, hk, hX, KS_snoc hT hm ts r k hr⟩
theorem KS_row {w : World} {b : Nat} : ∀ (ts : List Tm) (cs : List Value) (o lo hi : Nat), KS w ts cs lo hi → (∀ j u, cs[j]? = some u → w.cell? ⟨b, o + j, none⟩ = some u) → SepL w ts b o lo hi
  | [], _, _, _, _, _, _ => by simp [SepL]
  | t :: ts, cs, o, lo, hi, h, hc => by
    obtain ⟨m, c0, c1, c2, c3, r, rfl, hm, hT, hr⟩ := h
    simp only [SepL]
    refine ⟨m, hm, KS_le ts r m hi hr, ⟨c0, c1, c2, c3, hc 0 _ rfl, hc 1 _ rfl, hc 2 _ rfl, hc 3 _ rfl, hT⟩, KS_row ts r (o + 4) m hi hr fun j u hu => ?_⟩
    rw [show o + 4 + j = o + (j + 4) by omega]
    exact hc (j + 4) u (by simpa using hu)

theorem copy_leaf_s {w : World} {k s : Int} {n : ByteArray} {ks : List Tm} (hk : -9223372036854775808 ≤ k ∧ k ≤ 9223372036854775807) (hs : -9223372036854775808 ≤ s ∧ s ≤ 9223372036854775807) (hn : n.size ≤ maxLen) (h0 : ks.length = 0) {x y : Obj} :
    CopySep w (.mk k n s ks) (.returned (.agg #[.int .i64 k, .string n, .int .i64 s, .slice none 0 0])) ((w.alloc x).alloc y).drew := by
  have e : ks = [] := List.length_eq_zero_iff.1 h0
  subst e
  refine ⟨_, _, _, _, rfl, ?_, (((Below.refl _ _).alloc (Nat.le_refl _) _).alloc (by simp) _).drew⟩
  simp only [SepT]
  exact ⟨trivial, trivial, trivial, hk, hs, hn, by simp, none, 0, rfl, by simp, Or.inl rfl⟩
theorem SepT_form {w : World} {t : Tm} {lo hi : Nat} {c0 c1 c2 c3 : Value} (h : SepT w t lo hi c0 c1 c2 c3) : ∃ (k : Int) (n : ByteArray) (s : Int) (xa : Option Addr) (l c : Nat), c0 = .int .i64 k ∧ c1 = .string n ∧ c2 = .int .i64 s ∧ c3 = .slice xa l c := by
  obtain ⟨k, n, s, ks⟩ := t
  simp only [SepT] at h
  obtain ⟨rfl, rfl, rfl, _, _, _, _, xa, cap, rfl, _⟩ := h
  exact ⟨_, _, _, _, _, _, rfl, rfl, rfl, rfl⟩

/-- What holds at the head of the loop: j kids are copied. -/
structure CRs (w : World) (k : Int) (n : ByteArray) (s : Int) (ks : List Tm) (j : Nat) (wr : World) : Prop where
  below : Below w.heap.size w wr
  res : wr.heap[w.heap.size]? = some (.cells #[.int .i64 0, .string ⟨#[]⟩, .int .i64 0, .slice none 0 0] 25 (0, 0))
  box : wr.heap[w.heap.size + 1]? = some (.cells #[.int .i64 k, .string n, .int .i64 s, .slice (some ⟨w.heap.size + 2, 0, none⟩) ks.length ks.length] 25 (0, 0))
  row : ∃ cs zs, wr.ownsRow (w.heap.size + 2) 25 4 (.slice (some ⟨w.heap.size + 2, 0, none⟩) ks.length ks.length) ks.length (cs ++ zs) ∧ cs.length = j * 4 ∧ KS wr (ks.take j) cs (w.heap.size + 3) wr.heap.size

theorem copy_made_s {w w1 : World} {k s : Int} {n : ByteArray} {ks : List Tm} {xs : List Value} (hown : w1.ownsRow (w.heap.size + 2) 25 4 (.slice (some ⟨w.heap.size + 2, 0, none⟩) ks.length ks.length) ks.length xs)
    (hg : (((w.alloc (.cells #[.int .i64 0, .string ⟨#[]⟩, .int .i64 0, .slice none 0 0] 25)).alloc (.cells #[.int .i64 k, .string n, .int .i64 s, .slice none 0 0] 25)).drew).grownBy w1 none) :
    CRs w k n s ks 0 (w1.setCell ⟨w.heap.size + 1, 3, none⟩ (.slice (some ⟨w.heap.size + 2, 0, none⟩) ks.length ks.length)) ∧
    w1.heap[w.heap.size + 1]? = some (.cells #[.int .i64 k, .string n, .int .i64 s, .slice none 0 0] 25 (0, 0)) ∧ Below w.heap.size w w1 := by
  have hB : Below w.heap.size w w1 := ((((Below.refl w.heap.size w).alloc (Nat.le_refl _) _).alloc (by simp) _).drew).grown hg (by simp; omega) (fun q hq => by simp at hq)
  have h1 : w1.heap[w.heap.size + 1]? = some (.cells #[.int .i64 k, .string n, .int .i64 s, .slice none 0 0] 25 (0, 0)) := by
    rw [hg.block _ (by simp) (by simp)]
    have := heap_alloc_new (w.alloc (.cells #[.int .i64 0, .string ⟨#[]⟩, .int .i64 0, .slice none 0 0] 25)) (.cells #[.int .i64 k, .string n, .int .i64 s, .slice none 0 0] 25)
    rw [World.size_alloc] at this
    exact this
  have h0 : w1.heap[w.heap.size]? = some (.cells #[.int .i64 0, .string ⟨#[]⟩, .int .i64 0, .slice none 0 0] 25 (0, 0)) := by
    rw [hg.block _ (by simp; omega) (by simp)]
    exact ((((Below.refl (w.heap.size + 1) (w.alloc (.cells #[.int .i64 0, .string ⟨#[]⟩, .int .i64 0, .slice none 0 0] 25))).alloc (by simp) (.cells #[.int .i64 k, .string n, .int .i64 s, .slice none 0 0] 25)).drew).block w.heap.size (by omega)).trans (heap_alloc_new w _)
  refine ⟨⟨hB.setCell (by simp) _, ?_, ?_, [], xs, ?_, by simp, ⟨rfl, by have := (hown.lt (w.heap.size + 2) rfl).2; simp [World.setCell]; omega⟩⟩, h1, hB⟩
  · rw [Below.heap_setCell _ _ _ _ (by simp)]; exact h0
  · simp [World.setCell, Array.getElem?_modify, h1]
  · exact own_heap hown (fun q hq => by simp only [Value.ownBlock, Option.some.injEq] at hq; subst hq; exact Below.heap_setCell _ _ _ _ (by simp))

theorem CRs.cells {w wr w3 : World} {k s : Int} {n : ByteArray} {ks : List Tm} {j : Nat} (h : CRs w k n s ks j wr) (hj : j < ks.length) (hB : Below wr.heap.size wr w3) :
    (∃ z0 z1 z2 z3, w3.cell? ⟨w.heap.size + 2, j * 4, none⟩ = some z0 ∧ w3.cell? ⟨w.heap.size + 2, j * 4 + 1, none⟩ = some z1 ∧ w3.cell? ⟨w.heap.size + 2, j * 4 + 2, none⟩ = some z2 ∧ w3.cell? ⟨w.heap.size + 2, j * 4 + 3, none⟩ = some z3) ∧
    ∀ i, w3.frozen? ⟨w.heap.size + 2, i, none⟩ = false := by
  obtain ⟨cs, zs, ho, hc, _⟩ := h.row
  have ho3 := own_heap (w' := w3) ho (fun q hq => hB.block q (ho.lt q hq).2)
  have hl := ho3.1
  have hz : ∀ i, i < 4 → ∃ z, w3.cell? ⟨w.heap.size + 2, j * 4 + i, none⟩ = some z := fun i hi => by
    rw [ho3.cellAt _ (by omega)]
    exact ⟨_, List.getElem?_eq_getElem (by omega)⟩
  obtain ⟨z0, h0⟩ := hz 0 (by omega)
  obtain ⟨z1, h1⟩ := hz 1 (by omega)
  obtain ⟨z2, h2⟩ := hz 2 (by omega)
  obtain ⟨z3, h3⟩ := hz 3 (by omega)
  exact ⟨⟨z0, z1, z2, z3, h0, h1, h2, h3⟩, fun i => ho3.frozenAt i⟩

theorem CRs.next {w wr w3 : World} {k s : Int} {n : ByteArray} {ks : List Tm} {j : Nat} (h : CRs w k n s ks j wr) (hj : j < ks.length) {c0 c1 c2 c3 : Value}
    (hI : SepT w3 ks[j] wr.heap.size w3.heap.size c0 c1 c2 c3) (hB : Below wr.heap.size wr w3) : CRs w k n s ks (j + 1) (put4 w3 (w.heap.size + 2) (j * 4) c0 c1 c2 c3) := by
  obtain ⟨cs, zs, ho, hc, hK⟩ := h.row
  have hlt := ho.lt (w.heap.size + 2) rfl
  have ho3 := own_heap (w' := w3) ho (fun q hq => hB.block q (ho.lt q hq).2)
  have hs := hB.size
  have hp : ∀ q, q ≠ w.heap.size + 2 → (put4 w3 (w.heap.size + 2) (j * 4) c0 c1 c2 c3).heap[q]? = w3.heap[q]? := fun q hq => put4_other _ _ _ _ _ _ _ _ hq
  have hb3 : Below w.heap.size w w3 := h.below.trans (hB.mono h.below.size)
  refine ⟨?_, ?_, ?_, cs ++ [c0, c1, c2, c3], zs.drop 4, ?_, ?_, ?_⟩
  · unfold put4
    exact (((hb3.setCell (by simp) _).setCell (by simp) _).setCell (by simp) _).setCell (by simp) _
  · rw [hp _ (by omega), hB.block _ (by omega)]; exact h.res
  · rw [hp _ (by omega), hB.block _ (by omega)]; exact h.box
  · have h1 := ((((((ho3.stored (j * 4) c0).1).stored (j * 4 + 1) c1).1).stored (j * 4 + 2) c2).1.stored (j * 4 + 3) c3).1
    have hz : ∃ z0 z1 z2 z3 r, zs = z0 :: z1 :: z2 :: z3 :: r := by
      have hl := ho3.1
      rw [List.length_append] at hl
      exact four_of zs (by omega)
    obtain ⟨z0, z1, z2, z3, r, rfl⟩ := hz
    have e : ((((cs ++ z0 :: z1 :: z2 :: z3 :: r).set (j * 4) c0).set (j * 4 + 1) c1).set (j * 4 + 2) c2).set (j * 4 + 3) c3 = (cs ++ [c0, c1, c2, c3]) ++ List.drop 4 (z0 :: z1 :: z2 :: z3 :: r) := by
      rw [← hc]
      simp only [List.set_append_right _ _ (Nat.le_refl _), List.set_append_right _ _ (Nat.le_add_right _ _), Nat.sub_self, Nat.add_sub_cancel_left, List.set_cons_zero, List.set_cons_succ, List.drop_succ_cons, List.drop_zero, List.append_assoc, List.cons_append, List.nil_append]
    rw [e] at h1
    exact h1
  · simp only [List.length_append, hc, List.length_cons, List.length_nil]; omega
  · rw [List.take_succ_eq_append_getElem hj]
    have hsz : (put4 w3 (w.heap.size + 2) (j * 4) c0 c1 c2 c3).heap.size = w3.heap.size := put4_size _ _ _ _ _ _ _
    rw [hsz]
    exact KS_snoc (SepT_carry _ _ _ _ _ _ _ (fun b h1 _ => hp b (by omega)) hI) hs (ks.take j) cs _ (KS_carry _ _ _ _ (fun b h1 h2 => (hp b (by omega)).trans (hB.block b h2)) hK)

theorem CRs.done {w wr : World} {k s : Int} {n : ByteArray} {ks : List Tm} (h : CRs w k n s ks ks.length wr) (hk : -9223372036854775808 ≤ k ∧ k ≤ 9223372036854775807) (hs : -9223372036854775808 ≤ s ∧ s ≤ 9223372036854775807) (hn : n.size ≤ maxLen) (hl : ks.length ≤ maxLen) :
    CopySep w (.mk k n s ks) (.returned (.agg #[.int .i64 k, .string n, .int .i64 s, .slice (some ⟨w.heap.size + 2, 0, none⟩) ks.length ks.length])) (put4 wr w.heap.size 0 (.int .i64 k) (.string n) (.int .i64 s) (.slice (some ⟨w.heap.size + 2, 0, none⟩) ks.length ks.length)) := by
  obtain ⟨cs, zs, ho, hc, hK⟩ := h.row
  rw [List.take_length] at hK
  have hp : ∀ q, q ≠ w.heap.size → (put4 wr w.heap.size 0 (.int .i64 k) (.string n) (.int .i64 s) (.slice (some ⟨w.heap.size + 2, 0, none⟩) ks.length ks.length)).heap[q]? = wr.heap[q]? := fun q hq => put4_other _ _ _ _ _ _ _ _ hq
  have hsz : (put4 wr w.heap.size 0 (.int .i64 k) (.string n) (.int .i64 s) (.slice (some ⟨w.heap.size + 2, 0, none⟩) ks.length ks.length)).heap.size = wr.heap.size := put4_size _ _ _ _ _ _ _
  have ho2 := own_heap (w' := put4 wr w.heap.size 0 (.int .i64 k) (.string n) (.int .i64 s) (.slice (some ⟨w.heap.size + 2, 0, none⟩) ks.length ks.length)) ho (fun q hq => by simp only [Value.ownBlock, Option.some.injEq] at hq; subst hq; exact hp _ (by omega))
  have hlt := ho.lt (w.heap.size + 2) rfl
  refine ⟨_, _, _, _, rfl, ?_, ?_⟩
  · rw [hsz]
    simp only [SepT]
    refine ⟨trivial, trivial, trivial, hk, hs, hn, hl, _, _, rfl, Nat.le_refl _, Or.inr ⟨w.heap.size + 2, rfl, by omega, by omega, ?_, ?_⟩⟩
    · rcases ho2.2 with ⟨e, _⟩ | ⟨g', c', cur, e, _, hb, _⟩
      · cases e
      · simp only [Value.slice.injEq, Option.some.injEq, Addr.mk.injEq, and_true] at e
        obtain ⟨rfl, _⟩ := e
        exact ⟨cur, hb⟩
    refine KS_row ks cs 0 _ _ (KS_carry ks cs _ _ (fun b h1 h2 => hp b (by omega)) hK) fun i u hu => ?_
    have hi : i < cs.length := by
      rcases Nat.lt_or_ge i cs.length with h | h
      · exact h
      · rw [List.getElem?_eq_none h] at hu; cases hu
    rw [Nat.zero_add, ho2.cellAt i (by omega), List.getElem?_append_left hi]; exact hu
  · unfold put4
    exact (((h.below.setCell (by simp) _).setCell (by simp) _).setCell (by simp) _).setCell (by simp) _

set_option maxHeartbeats 3200000 in
set_option maxRecDepth 100000 in
theorem copyOf_sep (m : Nat) : ∀ (t : Tm) (b o : Nat) (w : World), size t ≤ m → m ≤ 1073741824 → Lies w t b o →
    Calls Tryd.prog 109 #[.pointer (some ⟨b, o, none⟩)] w (CopySep w t) := by
  induction m with
  | zero => intro t b o w h; have := size_pos t; omega
  | succ m ih =>
    intro t b o w hm hM hL
    obtain ⟨k, n, s, ks⟩ := t
    obtain ⟨g0, g1, g2, hk, hs, hn, hl, xa, cap, g3, hcap, hR⟩ := Lies_mk hL
    have hsk : size (.mk k n s ks) = 1 + sizes ks := rfl
    rw [hsk] at hm
    have hkl2 := length_le_sizes ks
    by_cases h0 : ks.length = 0
    · have h0' : (ks.length : Int) = 0 := by omega
      go_enter Tryd.func109, Tryd.ntmps109
      go_wp2_with fail
      go_region_held3 (fun W => W.cell? ⟨b, o, none⟩ = some (.int .i64 k) ∧ W.cell? ⟨b, o + 1, none⟩ = some (.string n) ∧ W.cell? ⟨b, o + 2, none⟩ = some (.int .i64 s) ∧ W.cell? ⟨b, o + 3, none⟩ = some (.slice xa ks.length cap)) (first | go_keep | assumption) (first | fail)
      clear ih hR hL
      go_wp2_with fail
      exact bodyPost_ret (v := .agg #[.int .i64 k, .string n, .int .i64 s, .slice none 0 0]) (by simp [results, Tryd.results109, go_sem]) rfl (copy_leaf_s hk hs hn h0)
    have h0' : ¬ (ks.length : Int) = 0 := by omega
    obtain ⟨kb, ko, rfl⟩ := Row_at hR (by omega)
    have hkm : ks.length ≤ 1073741824 := by omega
    have HKK := Lib.hid hm
    have hbs := World.block_lt_of_cell? w _ g3
    simp only at hbs
    have nb1 : ¬ b = w.heap.size + 1 := by omega
    have nb2 : ¬ b = w.heap.size + 2 := by omega
    have nb3 : ¬ w.heap.size + 1 = b := by omega
    have nb4 : ¬ w.heap.size + 2 = b := by omega
    clear hm hsk
    go_enter Tryd.func109, Tryd.ntmps109
    go_wp2_with fail
    go_region_held3 (fun W => W.cell? ⟨b, o, none⟩ = some (.int .i64 k) ∧ W.cell? ⟨b, o + 1, none⟩ = some (.string n) ∧ W.cell? ⟨b, o + 2, none⟩ = some (.int .i64 s) ∧ W.cell? ⟨b, o + 3, none⟩ = some (.slice (some ⟨kb, ko, none⟩) ks.length cap)) (first | go_keep | assumption) (first | fail)
    have HR := Lib.hid hR
    have HL := Lib.hid hL
    have HIH := Lib.hid ih
    clear hR hL ih
    obtain ⟨i0, hi0, hz0, hz1, hz2⟩ := info_parts info24
    have HI0 := Lib.hid (And.intro hi0 (And.intro hz0 (And.intro hz1 hz2)))
    clear hi0 hz0 hz1 hz2
    go_wp2_with (at_make; refine make_full_at _ (w.heap.size + 2) (by simp) rfl _ _ _ rfl 25 i0 _ 4 Tryd.underlying23 HI0.out.1 HI0.out.2.1 HI0.out.2.2.1 ks.length rfl rfl (by rw [HI0.out.2.2.2]; omega) (by unfold maxLen; omega) ?_; intro w1 hown1 hgrow; obtain ⟨hm1, hm2, hm3⟩ := copy_made_s hown1 hgrow; have HM := Lib.hid hm1; obtain ⟨⟨x0, x1, x2, x3⟩, x4, x5, x6, x7⟩ := box_facts hm2; have g3' := (hm3.cell (World.block_lt_of_cell? w _ g3)).trans g3; clear hm1 hm2 hown1 hgrow x4 x5 x6)
    go_loopw [37] (fun i wr => ∃ j : Nat, j ≤ ks.length ∧ i = .int .i64 j ∧ CRs w k n s ks j wr) (fun i _ => ks.length - (intOf i).toNat)
    case atStart => exact ⟨0, Nat.zero_le _, rfl, HM.out⟩
    case round =>
      obtain ⟨j, hj, rfl, hC⟩ := hrel
      have hgr : wr.cell? ⟨b, o + 3, none⟩ = some (.slice (some ⟨kb, ko, none⟩) ks.length cap) := (hC.below.cell (World.block_lt_of_cell? w _ g3)).trans g3
      have HC := Lib.hid hC
      clear g3' hC
      by_cases hlt : j < ks.length
      rotate_left
      · have hjl : j = ks.length := by omega
        subst hjl
        have HD := Lib.hid (HC.out.done hk hs hn hl)
        obtain ⟨⟨y0, y1, y2, y3⟩, y4, y5, y6, y7⟩ := box_facts HC.out.res
        obtain ⟨⟨z0, z1, z2, z3⟩, z4, z5, z6, z7⟩ := box_facts HC.out.box
        go_wp2_with fail
        exact bodyPost_ret (v := .agg #[.int .i64 k, .string n, .int .i64 s, .slice (some ⟨w.heap.size + 2, 0, none⟩) ks.length ks.length]) (by simp [results, Tryd.results109, go_sem, y0, y1, y2, y3]) rfl HD.out
      have HLK := Lib.hid (Row_get (Row_below HR.out HC.out.below) j hlt)
      have hsz := sizes_take ks j hlt
      have hle := sizes_take_le ks (j + 1)
      have hs1 : size ks[j] ≤ m := by have := HKK.out; omega
      obtain ⟨⟨_, _, _, q3⟩, _⟩ := box_facts HC.out.box
      have i1 : (0 : Int) ≤ (j : Int) := by omega
      have i2 : (j : Int) < (ks.length : Int) := by omega
      clear hsz hle
      go_wp2_with fail
      go_region_held3 (fun W => W.cell? ⟨w.heap.size + 1, 3, none⟩ = some (.slice (some ⟨w.heap.size + 2, 0, none⟩) ks.length ks.length) ∧ W.cell? ⟨b, o + 3, none⟩ = some (.slice (some ⟨kb, ko, none⟩) ks.length cap))
        (first | go_keep | assumption)
        (first | (go_at_call 109; refine (HIH.out ks[j] kb (ko + j * 4) _ hs1 (by omega) (Lies_carry (keep_drew _) HLK.out)).mono ?_; rintro e w3 ⟨c0, c1, c2, c3, he, hI, hB⟩; subst he; obtain ⟨k', n', s', x', l', c', e0, e1, e2, e3⟩ := SepT_form hI; subst e0 e1 e2 e3; have hB' : Below wr.heap.size wr w3 := ((Below.refl _ _).drew).trans hB; obtain ⟨⟨z0, z1, z2, z3, y0, y1, y2, y3⟩, hz⟩ := HC.out.cells hlt hB'; have f0 := hz (j * 4); have f1 := hz (j * 4 + 1); have f2 := hz (j * 4 + 2); have f3 := hz (j * 4 + 3); have HN := Lib.hid (HC.out.next hlt hI hB'); have r1 : w3.cell? ⟨w.heap.size + 1, 3, none⟩ = some (.slice (some ⟨w.heap.size + 2, 0, none⟩) ks.length ks.length) := (hB'.cell (World.block_lt_of_cell? wr _ q3)).trans q3; have r2 : w3.cell? ⟨b, o + 3, none⟩ = some (.slice (some ⟨kb, ko, none⟩) ks.length cap) := (hB'.cell (World.block_lt_of_cell? wr _ hgr)).trans hgr; clear hI hB hB' hz))
      go_wp2_with fail
      go_roundw
      case rel => exact ⟨j + 1, by omega, by go_num, HN.out⟩
      case measure => simp [intOf]; omega

end Go.Proofs.YtdgofofhkebkkaaDoor

/-
  THE SHAPE OF A TERM IN MEMORY OF ITS OWN: rows of kids, each in a block of its own, whatever the other fields hold; what the reference's Spoil asks.
-/
namespace Go.Proofs.YtdgofofhkebkkaaDoor
open Go.RowKit

mutual
/-- A value that is the row of a term's kids, the rows below lying in blocks from lo to hi. -/
def ShT (w : World) : Tm → Nat → Nat → Value → Prop
  | .mk _ _ _ ks, lo, hi, c3 => ks.length ≤ maxLen ∧ ∃ xa cap, c3 = .slice xa ks.length cap ∧ ks.length ≤ cap ∧ (ks.length = 0 ∨ ∃ kb, xa = some ⟨kb, 0, none⟩ ∧ lo ≤ kb ∧ kb < hi ∧ Sound w kb ∧ ShL w ks kb 0 (kb + 1) hi)
def ShL (w : World) : List Tm → Nat → Nat → Nat → Nat → Prop
  | [], _, _, _, _ => True
  | t :: ts, b, o, lo, hi => ∃ m, lo ≤ m ∧ m ≤ hi ∧ (∃ (c0 : Int) (c1 : ByteArray) (c2 : Int) (c3 : Value), w.cell? ⟨b, o, none⟩ = some (.int .i64 c0) ∧ w.cell? ⟨b, o + 1, none⟩ = some (.string c1) ∧ w.cell? ⟨b, o + 2, none⟩ = some (.int .i64 c2) ∧ w.cell? ⟨b, o + 3, none⟩ = some c3 ∧ ShT w t lo m c3) ∧ ShL w ts b (o + 4) m hi
end

theorem SepT_head {w : World} {t : Tm} {lo hi : Nat} {c0 c1 c2 c3 : Value} (h : SepT w t lo hi c0 c1 c2 c3) : ∃ (k : Int) (n : ByteArray) (s : Int), c0 = .int .i64 k ∧ c1 = .string n ∧ c2 = .int .i64 s := by
  obtain ⟨k, n, s, ks⟩ := t
  simp only [SepT] at h
  obtain ⟨rfl, rfl, rfl, _⟩ := h
  exact ⟨_, _, _, rfl, rfl, rfl⟩
theorem SepT_ShT {w : World} (t : Tm) : ∀ lo hi c0 c1 c2 c3, SepT w t lo hi c0 c1 c2 c3 → ShT w t lo hi c3 := by
  refine Tm.rec (motive_1 := fun t => ∀ lo hi c0 c1 c2 c3, SepT w t lo hi c0 c1 c2 c3 → ShT w t lo hi c3) (motive_2 := fun ts => ∀ b o lo hi, SepL w ts b o lo hi → ShL w ts b o lo hi) ?_ ?_ ?_ t
  · intro k n s ks ih lo hi c0 c1 c2 c3 h
    simp only [SepT] at h
    simp only [ShT]
    obtain ⟨_, _, _, _, _, _, h7, xa, cap, h8, h9, h10⟩ := h
    refine ⟨h7, xa, cap, h8, h9, ?_⟩
    rcases h10 with h0 | ⟨kb, e, hl, hb, hs, hr⟩
    · exact Or.inl h0
    · exact Or.inr ⟨kb, e, hl, hb, hs, ih _ _ _ _ hr⟩
  · intro b o lo hi _; simp [ShL]
  · intro t ts h1 h2 b o lo hi h
    simp only [SepL] at h
    simp only [ShL]
    obtain ⟨m, hm1, hm2, ⟨c0, c1, c2, c3, g0, g1, g2, g3, hI⟩, hR⟩ := h
    have hh := h1 _ _ _ _ _ _ hI
    obtain ⟨k, n, s, rfl, rfl, rfl⟩ := SepT_head hI
    exact ⟨m, hm1, hm2, ⟨k, n, s, c3, g0, g1, g2, g3, hh⟩, h2 _ _ _ _ hR⟩
theorem ShT_carry {w w' : World} (t : Tm) : ∀ lo hi c3, (∀ x, lo ≤ x → x < hi → w'.heap[x]? = w.heap[x]?) → ShT w t lo hi c3 → ShT w' t lo hi c3 := by
  refine Tm.rec (motive_1 := fun t => ∀ lo hi c3, (∀ x, lo ≤ x → x < hi → w'.heap[x]? = w.heap[x]?) → ShT w t lo hi c3 → ShT w' t lo hi c3)
    (motive_2 := fun ts => ∀ b o lo hi, (∀ x, lo ≤ x → x < hi → w'.heap[x]? = w.heap[x]?) → (∀ q c, o ≤ q → w.cell? ⟨b, q, none⟩ = some c → w'.cell? ⟨b, q, none⟩ = some c) → ShL w ts b o lo hi → ShL w' ts b o lo hi) ?_ ?_ ?_ t
  · intro k n s ks ih lo hi c3 hh h
    simp only [ShT] at h ⊢
    obtain ⟨h7, xa, cap, h8, h9, h10⟩ := h
    refine ⟨h7, xa, cap, h8, h9, ?_⟩
    rcases h10 with h0 | ⟨kb, rfl, hl, hb, ⟨cs, hs⟩, hr⟩
    · exact Or.inl h0
    · have hk := hh kb hl hb
      refine Or.inr ⟨kb, rfl, hl, hb, ⟨cs, by rw [hk]; exact hs⟩, ih kb 0 (kb + 1) hi (fun x hx hx2 => hh x (by omega) hx2) (fun q c _ hc => ?_) hr⟩
      unfold World.cell? at hc ⊢
      simp only at hc ⊢
      rw [hk]; exact hc
  · intro b o lo hi _ _ _; simp [ShL]
  · intro t ts h1 h2 b o lo hi hh hc h
    simp only [ShL] at h ⊢
    obtain ⟨m, hm1, hm2, ⟨c0, c1, c2, c3, g0, g1, g2, g3, hI⟩, hR⟩ := h
    exact ⟨m, hm1, hm2, ⟨c0, c1, c2, c3, hc _ _ (Nat.le_refl _) g0, hc _ _ (by omega) g1, hc _ _ (by omega) g2, hc _ _ (by omega) g3, h1 lo m c3 (fun x hx hx2 => hh x hx (by omega)) hI⟩,
      h2 b (o + 4) m hi (fun x hx hx2 => hh x (by omega) hx2) (fun q c hq hq2 => hc q c (by omega) hq2) hR⟩
theorem ShL_carry {w w' : World} : ∀ (ts : List Tm) (b o lo hi : Nat), (∀ x, lo ≤ x → x < hi → w'.heap[x]? = w.heap[x]?) → (∀ q c, o ≤ q → w.cell? ⟨b, q, none⟩ = some c → w'.cell? ⟨b, q, none⟩ = some c) → ShL w ts b o lo hi → ShL w' ts b o lo hi
  | [], b, o, lo, hi, _, _, _ => by simp [ShL]
  | t :: ts, b, o, lo, hi, hh, hc, h => by
    simp only [ShL] at h ⊢
    obtain ⟨m, hm1, hm2, ⟨c0, c1, c2, c3, g0, g1, g2, g3, hI⟩, hR⟩ := h
    exact ⟨m, hm1, hm2, ⟨c0, c1, c2, c3, hc _ _ (Nat.le_refl _) g0, hc _ _ (by omega) g1, hc _ _ (by omega) g2, hc _ _ (by omega) g3, ShT_carry t lo m c3 (fun x hx hx2 => hh x hx (by omega)) hI⟩,
      ShL_carry ts b (o + 4) m hi (fun x hx hx2 => hh x (by omega) hx2) (fun q c hq hq2 => hc q c (by omega) hq2) hR⟩
theorem ShL_hi {w : World} {hi hi' : Nat} (hh : hi ≤ hi') : ∀ (ts : List Tm) (b o lo : Nat), ShL w ts b o lo hi → ShL w ts b o lo hi'
  | [], _, _, _, _ => by simp [ShL]
  | t :: ts, b, o, lo, h => by
    simp only [ShL] at h ⊢
    obtain ⟨m, hm1, hm2, hc, hR⟩ := h
    exact ⟨m, hm1, by omega, hc, ShL_hi hh ts b (o + 4) m hR⟩
theorem ShT_wider {w : World} (t : Tm) {lo lo' hi hi' : Nat} {c3 : Value} (hl : lo' ≤ lo) (hh : hi ≤ hi') (h : ShT w t lo hi c3) : ShT w t lo' hi' c3 := by
  obtain ⟨k, n, s, ks⟩ := t
  simp only [ShT] at h ⊢
  obtain ⟨h7, xa, cap, h8, h9, h10⟩ := h
  refine ⟨h7, xa, cap, h8, h9, ?_⟩
  rcases h10 with h0 | ⟨kb, e, a1, a2, hs, hr⟩
  · exact Or.inl h0
  · exact Or.inr ⟨kb, e, by omega, by omega, hs, ShL_hi hh _ _ _ _ hr⟩

theorem Sound_set {w : World} {b : Nat} (h : Sound w b) (a : Addr) (v : Value) : Sound (w.setCell a v) b := by
  obtain ⟨cs, h⟩ := h
  by_cases e : a.block = b
  · subst e
    by_cases hsp : a.spot.isSome = true
    · exact ⟨cs, by simp [World.setCell, Array.getElem?_modify, h, hsp]⟩
    · exact ⟨cs.setIfInBounds a.off v, by simp [World.setCell, Array.getElem?_modify, h, hsp]⟩
  · exact ⟨cs, by rw [Below.heap_setCell _ _ _ _ (fun e2 => e e2.symm)]; exact h⟩
theorem Sound_put4 {w : World} {b : Nat} (h : Sound w b) (g o : Nat) (d0 d1 d2 d3 : Value) : Sound (put4 w g o d0 d1 d2 d3) b := by
  unfold put4
  exact Sound_set (Sound_set (Sound_set (Sound_set h _ _) _ _) _ _) _ _

theorem ShL_set {w : World} : ∀ (ts : List Tm) (b o lo hi y : Nat), ShL w ts b o lo hi → ∀ hy : y < ts.length, ∃ ly uy, ∃ (c0 : Int) (c1 : ByteArray) (c2 : Int) (c3 : Value), lo ≤ ly ∧ ly ≤ uy ∧ uy ≤ hi ∧ w.cell? ⟨b, o + y * 4, none⟩ = some (.int .i64 c0) ∧ w.cell? ⟨b, o + y * 4 + 1, none⟩ = some (.string c1) ∧ w.cell? ⟨b, o + y * 4 + 2, none⟩ = some (.int .i64 c2) ∧ w.cell? ⟨b, o + y * 4 + 3, none⟩ = some c3 ∧
    ShT w ts[y] ly uy c3 ∧ ∀ (w' : World) (a : Tm) (e0 : Int) (e1 : ByteArray) (e2 : Int) (e3 : Value), (∀ x, lo ≤ x → x < hi → ¬ (ly ≤ x ∧ x < uy) → w'.heap[x]? = w.heap[x]?) → (∀ q c, o ≤ q → (q < o + y * 4 ∨ o + y * 4 + 4 ≤ q) → w.cell? ⟨b, q, none⟩ = some c → w'.cell? ⟨b, q, none⟩ = some c) →
      w'.cell? ⟨b, o + y * 4, none⟩ = some (.int .i64 e0) → w'.cell? ⟨b, o + y * 4 + 1, none⟩ = some (.string e1) → w'.cell? ⟨b, o + y * 4 + 2, none⟩ = some (.int .i64 e2) → w'.cell? ⟨b, o + y * 4 + 3, none⟩ = some e3 → ShT w' a ly uy e3 → ShL w' (ts.set y a) b o lo hi
  | t :: ts, b, o, lo, hi, 0, h, _ => by
    simp only [ShL] at h
    obtain ⟨m, hm1, hm2, ⟨c0, c1, c2, c3, g0, g1, g2, g3, hI⟩, hR⟩ := h
    refine ⟨lo, m, c0, c1, c2, c3, Nat.le_refl _, hm1, hm2, by simpa using g0, by simpa using g1, by simpa using g2, by simpa using g3, hI, fun w' a e0 e1 e2 e3 hh hc q0 q1 q2 q3 hA => ?_⟩
    simp only [List.set_cons_zero, ShL]
    simp only [Nat.zero_mul, Nat.add_zero] at q0 q1 q2 q3 hc
    exact ⟨m, hm1, hm2, ⟨e0, e1, e2, e3, q0, q1, q2, q3, hA⟩, ShL_carry ts b (o + 4) m hi (fun x hx hx2 => hh x (by omega) hx2 (by omega)) (fun q c hq hq2 => hc q c (by omega) (Or.inr (by omega)) hq2) hR⟩
  | t :: ts, b, o, lo, hi, y + 1, h, hy => by
    simp only [ShL] at h
    obtain ⟨m, hm1, hm2, ⟨c0, c1, c2, c3, g0, g1, g2, g3, hI⟩, hR⟩ := h
    obtain ⟨ly, uy, d0, d1, d2, d3, h1, h2, h3, r0, r1, r2, r3, hT, hF⟩ := ShL_set ts b (o + 4) m hi y hR (by simpa using hy)
    have e : o + (y + 1) * 4 = o + 4 + y * 4 := by omega
    rw [e]
    refine ⟨ly, uy, d0, d1, d2, d3, by omega, h2, h3, r0, r1, r2, r3, by simpa using hT, fun w' a e0 e1 e2 e3 hh hc q0 q1 q2 q3 hA => ?_⟩
    simp only [List.set_cons_succ, ShL]
    exact ⟨m, hm1, hm2, ⟨c0, c1, c2, c3, hc _ _ (Nat.le_refl _) (Or.inl (by omega)) g0, hc _ _ (by omega) (Or.inl (by omega)) g1, hc _ _ (by omega) (Or.inl (by omega)) g2, hc _ _ (by omega) (Or.inl (by omega)) g3,
        ShT_carry t lo m c3 (fun x hx hx2 => hh x hx (by omega) (by omega)) hI⟩,
      hF w' a e0 e1 e2 e3 (fun x hx hx2 => hh x (by omega) hx2) (fun q c hq => hc q c (by omega)) q0 q1 q2 q3 hA⟩

/-- A STORE OF A TERM WITHOUT KIDS AT A PLACE OF THE TERM. -/
theorem sh_store {w : World} {u : Tm} {d0 : Int} {d1 : ByteArray} {d2 : Int} {d3 : Value} (hU : ∀ W l h, ShT W u l h d3) : ∀ (p : List Int) (t : Tm) (b o lo hi b' o' : Nat) (c0 : Int) (c1 : ByteArray) (c2 : Int) (c3 : Value), w.cell? ⟨b, o, none⟩ = some (.int .i64 c0) → w.cell? ⟨b, o + 1, none⟩ = some (.string c1) → w.cell? ⟨b, o + 2, none⟩ = some (.int .i64 c2) → w.cell? ⟨b, o + 3, none⟩ = some c3 →
    ShT w t lo hi c3 → ¬ (lo ≤ b ∧ b < hi) → Way w t b o p b' o' →
    ∃ (a : Tm) (e0 : Int) (e1 : ByteArray) (e2 : Int) (e3 : Value), repT t p u = some a ∧ (put4 w b' o' (.int .i64 d0) (.string d1) (.int .i64 d2) d3).cell? ⟨b, o, none⟩ = some (.int .i64 e0) ∧ (put4 w b' o' (.int .i64 d0) (.string d1) (.int .i64 d2) d3).cell? ⟨b, o + 1, none⟩ = some (.string e1) ∧ (put4 w b' o' (.int .i64 d0) (.string d1) (.int .i64 d2) d3).cell? ⟨b, o + 2, none⟩ = some (.int .i64 e2) ∧ (put4 w b' o' (.int .i64 d0) (.string d1) (.int .i64 d2) d3).cell? ⟨b, o + 3, none⟩ = some e3 ∧
      ShT (put4 w b' o' (.int .i64 d0) (.string d1) (.int .i64 d2) d3) a lo hi e3 ∧ (b' = b ∧ o' = o ∨ lo ≤ b' ∧ b' < hi)
  | [], t, b, o, lo, hi, b', o', c0, c1, c2, c3, g0, g1, g2, g3, hT, hb, hw => by
    obtain ⟨rfl, rfl⟩ := hw
    obtain ⟨q0, q1, q2, q3⟩ := put4_at (d0 := .int .i64 d0) (d1 := .string d1) (d2 := .int .i64 d2) (d3 := d3) g0 g1 g2 g3
    exact ⟨u, d0, d1, d2, d3, rfl, q0, q1, q2, q3, hU _ _ _, Or.inl ⟨rfl, rfl⟩⟩
  | i :: p, .mk k n s ks, b, o, lo, hi, b', o', c0, c1, c2, c3, g0, g1, g2, g3, hT, hb, hw => by
    obtain ⟨hi2, kb, ko, cap, hc3, hw⟩ := hw
    simp only [Tm.kids] at hi2 hc3 hw
    simp only [ShT] at hT
    obtain ⟨h7, xa, cap', rfl, h9, h10⟩ := hT
    rw [g3] at hc3
    simp only [Option.some.injEq, Value.slice.injEq] at hc3
    obtain ⟨rfl, _, rfl⟩ := hc3
    rcases h10 with h0 | ⟨kb', he, hl, hbb, hsd, hr⟩
    · omega
    simp only [Option.some.injEq, Addr.mk.injEq, and_true] at he
    obtain ⟨rfl, rfl⟩ := he
    have hy : i.toNat < ks.length := by omega
    obtain ⟨ly, uy, f0, f1, f2, f3, j1, j2, j3, r0, r1, r2, r3, hK, hF⟩ := ShL_set ks kb 0 (kb + 1) hi i.toNat hr hy
    obtain ⟨a, e0, e1, e2, e3, hrep, s0, s1, s2, s3, hA, hplace⟩ := sh_store hU p ks[i.toNat] kb (0 + i.toNat * 4) ly uy b' o' f0 f1 f2 f3 r0 r1 r2 r3 hK (by omega) hw
    have hbn : b ≠ b' := by
      intro e; subst e
      rcases hplace with ⟨e, _⟩ | h
      · subst e; exact hb ⟨hl, hbb⟩
      · exact hb (by omega)
    have hRow := hF (put4 w b' o' (.int .i64 d0) (.string d1) (.int .i64 d2) d3) a e0 e1 e2 e3 (fun x hx hx2 hn => put4_other _ _ _ _ _ _ _ _ (by
        rcases hplace with ⟨e, _⟩ | h
        · omega
        · intro e; subst e; exact hn h))
      (fun q c _ hq hc => by
        rw [put4_far]
        · exact hc
        · rcases hplace with ⟨e, e2⟩ | h
          · right; omega
          · left; omega) s0 s1 s2 s3 hA
    refine ⟨.mk k n s (ks.set i.toNat a), c0, c1, c2, .slice (some ⟨kb, 0, none⟩) ks.length cap', ?_, ?_, ?_, ?_, ?_, ?_, Or.inr ?_⟩
    · simp only [repT]
      rw [dif_pos (show 0 ≤ i ∧ i < ((Tm.mk k n s ks).kids.length : Int) from hi2)]
      simp only [Tm.kids, Tm.kind, Tm.name, Tm.sort, hrep, Option.map_some]
    · rw [put4_far (Or.inl hbn)]; exact g0
    · rw [put4_far (Or.inl hbn)]; exact g1
    · rw [put4_far (Or.inl hbn)]; exact g2
    · rw [put4_far (Or.inl hbn)]; exact g3
    · simp only [ShT]
      exact ⟨by rw [List.length_set]; exact h7, _, cap', by rw [List.length_set], by rw [List.length_set]; exact h9, Or.inr ⟨kb, rfl, hl, hbb, Sound_put4 hsd _ _ _ _ _ _, hRow⟩⟩
    · rcases hplace with ⟨e, _⟩ | h
      · subst e; exact ⟨hl, hbb⟩
      · omega

theorem repT_mk' {k s : Int} {n : ByteArray} {ks : List Tm} {i : Int} {p : List Int} {u a : Tm} (h : repT (.mk k n s ks) (i :: p) u = some a) : ∃ (y : Nat) (hy : y < ks.length) (x : Tm), i = (y : Int) ∧ repT ks[y] p u = some x ∧ a = .mk k n s (ks.set y x) := by
  simp only [repT] at h
  split at h
  · rename_i hh
    rw [Option.map_eq_some_iff] at h
    obtain ⟨x, hx, rfl⟩ := h
    have hh' : 0 ≤ i ∧ i < (ks.length : Int) := hh
    refine ⟨i.toNat, by omega, x, by omega, hx, rfl⟩
  · cases h
theorem set_size' : ∀ (ks : List Tm) (y : Nat) (x : Tm) (h : y < ks.length), sizes (ks.set y x) + size ks[y] = sizes ks + size x
  | k :: ks, 0, x, _ => by simp only [List.set_cons_zero, sizes, List.getElem_cons_zero]; omega
  | k :: ks, y + 1, x, h => by
    have := set_size' ks y x (by simpa using h)
    simp only [List.set_cons_succ, sizes, List.getElem_cons_succ]; omega
theorem rep_size' : ∀ (p : List Int) (t u a : Tm), repT t p u = some a → size a ≤ size t + size u
  | [], t, u, a, h => by simp only [repT, Option.some.injEq] at h; subst h; omega
  | i :: p, .mk k n s ks, u, a, h => by
    obtain ⟨y, hy, x, rfl, hx, rfl⟩ := repT_mk' h
    have h1 := rep_size' p _ u x hx
    have h2 := set_size' ks y x hy
    simp only [size]; omega
theorem rep_some' : ∀ (p : List Int) (t u x : Tm), atT t p = some x → ∃ a, repT t p u = some a
  | [], t, u, x, _ => ⟨u, rfl⟩
  | i :: p, t, u, x, h => by
    simp only [atT] at h
    split at h
    · rename_i hh
      obtain ⟨a, ha⟩ := rep_some' p _ u x h
      simp only [repT]
      rw [dif_pos hh, ha]
      exact ⟨_, rfl⟩
    · cases h

end Go.Proofs.YtdgofofhkebkkaaDoor
