/-
  THE WALKS OF subst.writeTerm and Format (by gen_sformat.py).
-/
import Derived.Test.YtkfbbkkfagglhaaGreatDoorBval
import Derived.Test.YtkfbbkkfagglhaaGreatDoorSapply
import Derived.Test.YtkfbbkkfagglhaaGreatDoorTformat
namespace Go.Proofs.YtkfbbkkfagglhaaGreatDoor
open Go.RowKit

def bEq : ByteArray := ⟨#[32, 61, 32]⟩
def bLbr : ByteArray := ⟨#[123]⟩
def bRbr : ByteArray := ⟨#[125]⟩
/-- The text of bindings behind what is there. -/
def fmtA : ByteArray → Bool → List Bd → ByteArray
  | acc, _, [] => acc
  | acc, p, b :: bs => fmtA ((((if p then acc ++ bComma else acc) ++ textT b.1) ++ bEq) ++ textT b.2) true bs
theorem fmtA_snoc : ∀ (l : List Bd) (acc : ByteArray) (p : Bool) (b : Bd), fmtA acc p (l ++ [b]) = (((if p || !l.isEmpty then fmtA acc p l ++ bComma else fmtA acc p l) ++ textT b.1) ++ bEq) ++ textT b.2
  | [], acc, p, b => by simp [fmtA]
  | x :: l, acc, p, b => by
    simp only [List.cons_append, fmtA, fmtA_snoc l, Bool.true_or, if_true, List.isEmpty_cons, Bool.not_false, Bool.or_true]
theorem fmtA_take (l : List Bd) (acc : ByteArray) (j : Nat) (h : j < l.length) : fmtA acc false (l.take (j + 1)) = (((if 0 < j then fmtA acc false (l.take j) ++ bComma else fmtA acc false (l.take j)) ++ textT l[j].1) ++ bEq) ++ textT l[j].2 := by
  rw [List.take_succ_eq_append_getElem h, fmtA_snoc]
  congr 3
  cases j with
  | zero => simp
  | succ j =>
    cases l with
    | nil => simp at h
    | cons a l => simp
def formS (bs : List Bd) : ByteArray × Int := if validB bs = 0 then (fmtA bLbr false bs ++ bRbr, 0) else (⟨#[]⟩, validB bs)
theorem bindE_valid {v t : Tm} (h : bindE v t = 0) : validE v = 0 ∧ validE t = 0 := by
  unfold bindE at h
  by_cases h1 : validE v = 0
  · rw [if_pos h1] at h
    by_cases h2 : ¬ v.kind = 1 ∨ cmpT v t = 0
    · rw [if_pos h2] at h; omega
    · rw [if_neg h2] at h
      by_cases h3 : validE t = 0
      · exact ⟨h1, h3⟩
      · rw [if_neg h3] at h; exact absurd h h3
  · rw [if_neg h1] at h; exact absurd h h1
theorem text_small {t : Tm} (h : validE t = 0) : (textT t).size ≤ 13600 := by
  have := validE_zero h
  have := text_bound t this.1
  omega
theorem fmtA_size (bs : List Bd) (hv : ∀ b ∈ bs, bindE b.1 b.2 = 0) (j : Nat) (hj : j ≤ bs.length) : (fmtA bLbr false (bs.take j)).size ≤ 1 + 27210 * j := by
  induction j with
  | zero => simp [fmtA]; exact Nat.le_refl _
  | succ j ih =>
    have h := ih (by omega)
    have hb := bindE_valid (hv _ (List.getElem_mem (show j < bs.length by omega)))
    have h1 := text_small hb.1
    have h2 := text_small hb.2
    have hc : bComma.size = 2 := rfl
    have he : bEq.size = 3 := rfl
    rw [fmtA_take bs bLbr j (by omega)]
    split <;> (simp only [ByteArray.size_append]; omega)

theorem builder_ext {B b : Nat} {l : List Value} {w w' : World} (h : Lib.IsBuilder 110 5 B b l w) (hE : Ext w w') : Lib.IsBuilder 110 5 B b l w' := by
  have key : ∀ p, Lib.BuilderAt 110 5 B b p l w → Lib.BuilderAt 110 5 B b p l w' := by
    rintro p ⟨hb, v, hh, ho, hne⟩
    have hlt : b < w.heap.size := by
      rcases Nat.lt_or_ge b w.heap.size with h | h
      · exact h
      · rw [Array.getElem?_eq_none h] at hh; cases hh
    exact ⟨hb, v, (hE.block b hlt).trans hh, own_heap ho (fun q hq => hE.block q (ho.lt q hq).2), hne⟩
  rcases h with h | h
  · exact Or.inl (key _ h)
  · exact Or.inr (key _ h)

set_option maxHeartbeats 3200000 in
set_option maxRecDepth 100000 in
theorem swriteTerm_any (B b : Nat) (l : List Value) (t : Tm) (c0 c1 c2 c3 : Value) (w : World) (hv : validE t = 0) (hz : l.length + (textT t).size ≤ 140737488355328) (hI : Is w t c0 c1 c2 c3) (hL : Laid w) (hb : Lib.IsBuilder 110 5 B b l w) (hBw : B ≤ w.heap.size) :
    Calls Tryz.prog 96 #[.pointer (some ⟨b, 0, none⟩), .agg #[c0, c1, c2, c3]] w (WrPost B b l (textT t) w) := by
  obtain ⟨k, n, s, xa, tl, cap, rfl, rfl, rfl, rfl⟩ := Is_form hI
  have hE : Ext w (w.alloc (.cells #[.int .i64 k, .string n, .int .i64 s, .slice xa tl cap] 36)) := (Ext.refl w).alloc _
  have hz2 := validE_zero hv
  have hF := fun W (x : Ext w W) => tFormat_any t _ _ _ _ W (by omega) (Is_below (w' := W) hI x) (Laid_ext hL x)
  have hf : formP t = (textT t, 0) := by unfold formP; rw [if_pos hv]
  rw [hf] at hF
  have HF := Lib.hid hF
  have HE := Lib.hid hE
  have HW := Lib.hid (fun W (x : Ext w W) => writeString_any B b l (textT t) W (builder_ext hb x) hz (Nat.le_trans hBw x.size))
  have HBw := Lib.hid hBw
  generalize textT t = tx at HF HW ⊢
  clear hE hI hL hb hv hz hz2 hF hf hBw
  go_enter Tryz.func96, Tryz.ntmps96
  go_wp2_with (first
    | (go_at_call 140; refine (HF.out _ HE.out).mono ?_; rintro e w3 ⟨he, hB⟩; subst he; have HE3 : Hid (Ext w w3) := Lib.hid (Ext.trans HE.out hB); clear hB)
    | (go_at_call 95; refine (HW.out _ HE3.out).mono ?_; rintro e w4 ⟨he, hA, hB⟩; subst he; have HA := Lib.hid hA; have HB : Hid (Below B w w4) := Lib.hid ((Below.mono HE3.out HBw.out).trans hB); clear hA hB))
  go_end0
  exact ⟨rfl, HA.out, HB.out⟩

set_option maxHeartbeats 6400000 in
set_option maxRecDepth 100000 in
theorem sFormat_any (bs : List Bd) (xa : Option Addr) (cap : Nat) (w : World) (hcap : bs.length ≤ cap) (hlen : bs.length ≤ 1073741824) (hsz : SzB 1073741824 bs) (hR : Row w (flatB bs) xa) (hL : Laid w) :
    Calls Tryz.prog 51 #[.slice xa bs.length cap] w fun e w' => e = .returned (.tuple #[.string (formS bs).1, .int .i64 (formS bs).2]) ∧ Below w.heap.size w w' := by
  have HV := Lib.hid (bvalid_any bs xa cap w hcap (by unfold maxLen; omega) hsz hR)
  have hf : formS bs = if validB bs = 0 then (fmtA bLbr false bs ++ bRbr, 0) else (⟨#[]⟩, validB bs) := rfl
  have hvo := fun h : validB bs = 0 => validB_ok h
  generalize validB bs = x at hf HV hvo
  by_cases h0 : x = 0
  rotate_left
  · rw [if_neg h0] at hf
    have HF := Lib.hid hf
    have hb : (x != 0) = true := by rw [bne_iff_ne]; exact h0
    clear hf hvo h0 hR hL hsz hcap
    go_enter Tryz.func51, Tryz.ntmps51
    go_wp2_with (go_at_call 52; refine (HV.out).mono ?_; rintro e w1 ⟨he, hB⟩; subst he; have HE1 := Lib.hid hB; clear hB)
    go_ret2
    rw [HF.out]
    exact ⟨rfl, HE1.out⟩
  rw [if_pos h0] at hf
  obtain ⟨h200, hbe, _⟩ := hvo h0
  subst h0
  have HF := Lib.hid hf
  have HBE := Lib.hid hbe
  have HR := Lib.hid hR
  have HL := Lib.hid hL
  have HSZ := Lib.hid (fmtA_size bs hbe)
  have HCAP := Lib.hid hcap
  have q0 : ((0 : Int) != 0) = false := rfl
  clear hf hvo hbe hR hL hsz hcap
  go_enter Tryz.func51, Tryz.ntmps51
  go_upto_region 4 with (go_at_call 52; refine (HV.out).mono ?_; rintro e w1 ⟨he, hB⟩; subst he; have HE1 : Hid (Ext w w1) := Lib.hid hB; clear hB)
  have hA0 : Below w1.heap.size w1 (w1.alloc (.cells #[.pointer none, .slice none 0 0] 110)) := (Below.refl _ _).alloc (Nat.le_refl _) _
  have HW0 := Lib.hid (writeString_any w1.heap.size w1.heap.size [] bLbr _ (builder_new w1) (by have h1 : bLbr.size = 1 := rfl; simp only [List.length_nil]; omega) hA0.size)
  have HA0 := Lib.hid hA0
  have HWS : Hid (∀ (l : List Value) (s : ByteArray) W, Lib.BuilderAt 110 5 w1.heap.size w1.heap.size (.pointer (some ⟨w1.heap.size, 0, none⟩)) l W → Below w1.heap.size w1 W → l.length + s.size ≤ 140737488355328 → Calls Tryz.prog 95 #[.pointer (some ⟨w1.heap.size, 0, none⟩), .string s] W fun e w' => e = .returned (.tuple #[.int .i64 s.size, .nilIface]) ∧ (Lib.BuilderAt 110 5 w1.heap.size w1.heap.size (.pointer (some ⟨w1.heap.size, 0, none⟩)) (l ++ Lib.strCells s) w' ∧ Below w1.heap.size W w')) := fun l s W hA hB hz => writeString_any w1.heap.size w1.heap.size l s W (Or.inr hA) hz hB.size
  have HWT : Hid (∀ (l : List Value) (t : Tm) c0 c1 c2 c3 W, validE t = 0 → Is w1 t c0 c1 c2 c3 → Lib.BuilderAt 110 5 w1.heap.size w1.heap.size (.pointer (some ⟨w1.heap.size, 0, none⟩)) l W → Below w1.heap.size w1 W → l.length + (textT t).size ≤ 140737488355328 → Calls Tryz.prog 96 #[.pointer (some ⟨w1.heap.size, 0, none⟩), .agg #[c0, c1, c2, c3]] W (WrPost w1.heap.size w1.heap.size l (textT t) W)) := fun l t c0 c1 c2 c3 W hv hI hA hB hz => swriteTerm_any w1.heap.size w1.heap.size l t c0 c1 c2 c3 W hv hz (Is_below hI hB) (Laid_ext (Laid_ext HL.out HE1.out) hB) (Or.inr hA) hB.size
  clear hA0
  go_wp2_with (go_at_call 95; refine (HW0.out).mono ?_; rintro e w2 ⟨he, hA, hB⟩; subst he; have HA2 := Lib.hid hA; have HB2 : Hid (Below w1.heap.size w1 w2) := Lib.hid (HA0.out.trans hB); clear hA hB)
  go_loopw [15] (fun i wr => ∃ j : Nat, j ≤ bs.length ∧ i = .int .i64 j ∧ Lib.BuilderAt 110 5 w1.heap.size w1.heap.size (.pointer (some ⟨w1.heap.size, 0, none⟩)) (Lib.strCells (fmtA bLbr false (bs.take j))) wr ∧ Below w1.heap.size w1 wr) (fun i _ => bs.length - (intOf i).toNat)
  case atStart => exact ⟨0, Nat.zero_le _, rfl, by simpa [fmtA] using HA2.out, HB2.out⟩
  case round =>
    obtain ⟨j, hj, rfl, hA, hB⟩ := hrel
    have hl : (Lib.strCells (fmtA bLbr false (bs.take j))).length = (fmtA bLbr false (bs.take j)).size := Lib.strCells_length _
    have hs1 := HSZ.out j hj
    have HA := Lib.hid hA
    have HB := Lib.hid hB
    by_cases hlt : j < bs.length
    rotate_left
    · have hjl : bs.take j = bs := by rw [List.take_of_length_le]; omega
      have HW := Lib.hid (HWS.out _ bRbr wr hA hB (by have : bRbr.size = 1 := rfl; omega))
      rw [hjl] at HW
      clear hA hB hl hs1 hjl
      go_wp2_with (first
        | (go_at_call 95; refine (HW.out).mono ?_; rintro e w3 ⟨he, hA3, hB3⟩; subst he; have HA3 := Lib.hid hA3; have HB3 := Lib.hid (HB.out.trans hB3); have HS := Lib.hid (Tryz.Builder_String_any w1.heap.size w1.heap.size (fmtA bLbr false bs ++ bRbr).data.toList w3 (Or.inr (by simpa [Lib.strCells_eq, strCells_app, Lib.byteCells] using hA3)) HB3.out.size); clear hA3 hB3)
        | (go_at_call 97; refine (HS.out).mono ?_; rintro e w4 ⟨he, hB⟩; subst he; have HE4 : Hid (Ext w w4) := Lib.hid (Ext.trans HE1.out (Below.trans HB3.out hB)); clear hB))
      go_ret2
      rw [HF.out]
      exact ⟨rfl, HE4.out⟩
    obtain ⟨b, o, rfl⟩ := Row_at HR.out (by rw [flatB_length]; omega)
    obtain ⟨⟨v0, v1, v2, v3, g0, g1, g2, g3, hIv⟩, t0, t1, t2, t3, g4, g5, g6, g7, hIt⟩ := bds_get (Row_below HR.out HE1.out) j hlt
    obtain ⟨k, n, s, ya, yl, yc, rfl, rfl, rfl, rfl⟩ := Is_form hIv
    obtain ⟨k2, n2, s2, ya2, yl2, yc2, rfl, rfl, rfl, rfl⟩ := Is_form hIt
    rw [Nat.add_assoc] at g5 g6 g7
    have HG : Hid (∀ W, Below w1.heap.size w1 W → (W.cell? ⟨b, o + j * 8, none⟩ = some (.int .i64 k) ∧ W.cell? ⟨b, o + j * 8 + 1, none⟩ = some (.string n) ∧ W.cell? ⟨b, o + j * 8 + 2, none⟩ = some (.int .i64 s) ∧ W.cell? ⟨b, o + j * 8 + 3, none⟩ = some (.slice ya yl yc)) ∧ W.cell? ⟨b, o + j * 8 + 4, none⟩ = some (.int .i64 k2) ∧ W.cell? ⟨b, o + j * 8 + (4 + 1), none⟩ = some (.string n2) ∧ W.cell? ⟨b, o + j * 8 + (4 + 2), none⟩ = some (.int .i64 s2) ∧ W.cell? ⟨b, o + j * 8 + (4 + 3), none⟩ = some (.slice ya2 yl2 yc2)) := fun W h => ⟨⟨keep_below h _ _ g0, keep_below h _ _ g1, keep_below h _ _ g2, keep_below h _ _ g3⟩, keep_below h _ _ g4, keep_below h _ _ g5, keep_below h _ _ g6, keep_below h _ _ g7⟩
    have hbv := bindE_valid (HBE.out _ (List.getElem_mem hlt))
    have hz1 := text_small hbv.1
    have hz2 := text_small hbv.2
    have htk := fmtA_take bs bLbr j hlt
    have HT1 := Lib.hid (fun l W x y z => HWT.out l (bs[j]'hlt).1 _ _ _ _ W hbv.1 hIv x y z)
    have HT2 := Lib.hid (fun l W x y z => HWT.out l (bs[j]'hlt).2 _ _ _ _ W hbv.2 hIt x y z)
    have HTK := Lib.hid htk
    have i1 : (0 : Int) ≤ (j : Int) := by omega
    have i2 : (j : Int) < (bs.length : Int) := by omega
    have HZ := Lib.hid (And.intro hl (And.intro hs1 (And.intro hz1 hz2)))
    have he3 : bEq.size = 3 := rfl
    have hc2 : bComma.size = 2 := rfl
    have HEC := Lib.hid (And.intro he3 hc2)
    have H200 := Lib.hid h200
    have tok1 : True := trivial
    have tok2 : True := trivial
    clear g0 g1 g2 g3 g4 g5 g6 g7 hIv hIt hbv hz1 hz2 htk hl hs1 hA hB he3 hc2
    obtain ⟨⟨g0, g1, g2, g3⟩, g4, g5, g6, g7⟩ := HG.out _ HB.out
    by_cases hj0 : 0 < j
    · have i3 : (0 : Int) < (j : Int) := by omega
      have tok3 : True := trivial
      have tok4 : True := trivial
      go_upto_region 11 with (go_at_call 95; have _t := tok1; refine (HWS.out _ bComma _ HA.out HB.out (by have := HZ.out; have := HEC.out; have := H200.out; simp only [Lib.strCells_length]; omega)).mono ?_; rintro e w5 ⟨he, hA, hB⟩; subst he; have HA5 := Lib.hid hA; have HB5 := Lib.hid (HB.out.trans hB); clear hA hB; clear g0 g1 g2 g3 g4 g5 g6 g7; obtain ⟨⟨g0, g1, g2, g3⟩, g4, g5, g6, g7⟩ := HG.out _ HB5.out; clear tok1)
      go_upto_region 12 with (go_at_call 96; have _t := tok2; refine (HT1.out _ _ HA5.out HB5.out (by have := HZ.out; have := HEC.out; have := H200.out; simp only [List.length_append, Lib.strCells_length]; omega)).mono ?_; rintro e w6 ⟨he, hA, hB⟩; subst he; have HA6 := Lib.hid hA; have HB6 := Lib.hid (HB5.out.trans hB); clear hA hB; clear g0 g1 g2 g3 g4 g5 g6 g7; obtain ⟨⟨g0, g1, g2, g3⟩, g4, g5, g6, g7⟩ := HG.out _ HB6.out; clear tok2)
      go_upto_region 13 with (go_at_call 95; have _t := tok3; refine (HWS.out _ bEq _ HA6.out HB6.out (by have := HZ.out; have := HEC.out; have := H200.out; simp only [List.length_append, Lib.strCells_length]; omega)).mono ?_; rintro e w7 ⟨he, hA, hB⟩; subst he; have HA7 := Lib.hid hA; have HB7 := Lib.hid (HB6.out.trans hB); clear hA hB; clear g0 g1 g2 g3 g4 g5 g6 g7; obtain ⟨⟨g0, g1, g2, g3⟩, g4, g5, g6, g7⟩ := HG.out _ HB7.out; clear tok3)
      go_wp2_with (go_at_call 96; have _t := tok4; refine (HT2.out _ _ HA7.out HB7.out (by have := HZ.out; have := HEC.out; have := H200.out; simp only [List.length_append, Lib.strCells_length]; omega)).mono ?_; rintro e w8 ⟨he, hA, hB⟩; subst he; have HA8 := Lib.hid hA; have HB8 := Lib.hid (HB7.out.trans hB); clear hA hB; clear g0 g1 g2 g3 g4 g5 g6 g7; obtain ⟨⟨g0, g1, g2, g3⟩, g4, g5, g6, g7⟩ := HG.out _ HB8.out; clear tok4)
      go_roundw
      case rel =>
        refine ⟨j + 1, by omega, by go_num, ?_, HB8.out⟩
        rw [HTK.out, if_pos hj0, strCells_app, strCells_app, strCells_app, strCells_app]; exact HA8.out
      case measure => simp [intOf]; omega
    · have i3 : ¬ (0 : Int) < (j : Int) := by omega
      have tok3 : True := trivial
      have tok4 : True := trivial
      clear tok1
      go_upto_region 12 with (go_at_call 96; have _t := tok2; refine (HT1.out _ _ HA.out HB.out (by have := HZ.out; have := HEC.out; have := H200.out; simp only [Lib.strCells_length]; omega)).mono ?_; rintro e w6 ⟨he, hA, hB⟩; subst he; have HA6 := Lib.hid hA; have HB6 := Lib.hid (HB.out.trans hB); clear hA hB; clear g0 g1 g2 g3 g4 g5 g6 g7; obtain ⟨⟨g0, g1, g2, g3⟩, g4, g5, g6, g7⟩ := HG.out _ HB6.out; clear tok2)
      go_upto_region 13 with (go_at_call 95; have _t := tok3; refine (HWS.out _ bEq _ HA6.out HB6.out (by have := HZ.out; have := HEC.out; have := H200.out; simp only [List.length_append, Lib.strCells_length]; omega)).mono ?_; rintro e w7 ⟨he, hA, hB⟩; subst he; have HA7 := Lib.hid hA; have HB7 := Lib.hid (HB6.out.trans hB); clear hA hB; clear g0 g1 g2 g3 g4 g5 g6 g7; obtain ⟨⟨g0, g1, g2, g3⟩, g4, g5, g6, g7⟩ := HG.out _ HB7.out; clear tok3)
      go_wp2_with (go_at_call 96; have _t := tok4; refine (HT2.out _ _ HA7.out HB7.out (by have := HZ.out; have := HEC.out; have := H200.out; simp only [List.length_append, Lib.strCells_length]; omega)).mono ?_; rintro e w8 ⟨he, hA, hB⟩; subst he; have HA8 := Lib.hid hA; have HB8 := Lib.hid (HB7.out.trans hB); clear hA hB; clear g0 g1 g2 g3 g4 g5 g6 g7; obtain ⟨⟨g0, g1, g2, g3⟩, g4, g5, g6, g7⟩ := HG.out _ HB8.out; clear tok4)
      go_roundw
      case rel =>
        refine ⟨j + 1, by omega, by go_num, ?_, HB8.out⟩
        rw [HTK.out, if_neg hj0, strCells_app, strCells_app, strCells_app]; exact HA8.out
      case measure => simp [intOf]; omega
end Go.Proofs.YtkfbbkkfagglhaaGreatDoor
