/-
  THE WALK OF areIndices (made by gen_qidx.py).
-/
import Derived.Test.YtfbomoginjknlaaDoorQsep
import Derived.Laws.Shifts
import Derived.Laws.BitsAllLaws
namespace Go.Proofs.YtfbomoginjknlaaDoor
open Go.RowKit Go.Lib

/-- Whether numbers are indices below n that ascend strictly, behind a number. -/
def idxG (n : Nat) : Int → List Int → Bool
  | _, [] => true
  | y, x :: l => decide (0 ≤ x) && decide (x < (n : Int)) && decide (y < x) && idxG n x l
def idxB (n : Nat) (l : List Int) : Bool := idxG n (-1) l
/-- The number ahead of an index, -1 at the first one. -/
def ahead (l : List Int) (j : Nat) : Int := if j = 0 then -1 else l.getD (j - 1) 0
theorem idxG_drop (n : Nat) (l : List Int) (j : Nat) (h : j < l.length) : idxG n (ahead l j) (l.drop j) = (decide (0 ≤ l[j]) && decide (l[j] < (n : Int)) && decide (ahead l j < l[j]) && idxG n (ahead l (j + 1)) (l.drop (j + 1))) := by
  rw [List.drop_eq_getElem_cons h, idxG]
  have e : ahead l (j + 1) = l[j] := by
    unfold ahead
    rw [if_neg (by omega), Nat.add_sub_cancel, List.getD_eq_getElem?_getD, List.getElem?_eq_getElem h]; rfl
  rw [e]
set_option maxHeartbeats 3200000 in
set_option maxRecDepth 100000 in
theorem areIndices_any (c : List Int) (n : Nat) (v : Value) (w : World) (_hn : n ≤ 1048576) (hl : c.length ≤ 1048576) (hI : IntsV w v c) :
    Calls Tryd.prog 43 #[v, .int .i64 n] w fun e w' => e = .returned (.bool (idxB n c)) ∧ w' = w := by
  obtain ⟨xa, cap, rfl, _, hrg, hcs⟩ := hI
  have HRG := Lib.hid hrg
  have HCS := Lib.hid hcs
  clear hrg hcs
  go_enter Tryd.func43, Tryd.ntmps43
  go_wp2_with fail
  go_loopw [9] (fun i wr => ∃ j : Nat, j ≤ c.length ∧ i = .int .i64 j ∧ Hid (idxB n c = idxG n (ahead c j) (c.drop j)) ∧ wr = w) (fun i _ => c.length - (intOf i).toNat)
  case atStart => exact ⟨0, Nat.zero_le _, rfl, rfl, rfl⟩
  case round =>
    obtain ⟨j, hj, rfl, HD, rfl⟩ := hrel
    by_cases hlt : j < c.length
    rotate_left
    · have hnil : c.drop j = [] := List.drop_eq_nil_of_le (by omega)
      have HR : Hid (idxB n c = true) := by show _ = _; rw [HD.out, hnil]; rfl
      clear hnil
      go_wp2_with fail
      go_ret
      exact ⟨by rw [HR.out]; rfl, rfl⟩
    obtain ⟨b, o, rfl, hc⟩ := HCS.out (by omega)
    have hd := idxG_drop n c j hlt
    have hx0 := hc j hlt
    have hrx := HRG.out c[j] (List.getElem_mem hlt)
    have hah : 0 < j → ∃ y, ahead c j = y ∧ wr.cell? ⟨b, o + (j - 1), none⟩ = some (.int .i64 y) ∧ (-9223372036854775808 ≤ y ∧ y ≤ 9223372036854775807) := fun h0 => by
      have h1 : j - 1 < c.length := by omega
      refine ⟨c[j - 1], ?_, hc (j - 1) h1, HRG.out _ (List.getElem_mem h1)⟩
      unfold ahead
      rw [if_neg (by omega), List.getD_eq_getElem?_getD, List.getElem?_eq_getElem h1]; rfl
    have h00 : j = 0 → ahead c j = -1 := fun h => by unfold ahead; rw [if_pos h]
    generalize c[j] = x at hd hx0 hrx
    generalize ahead c j = y0 at hd HD hah h00
    have i1 : (0 : Int) ≤ (j : Int) := by omega
    have i2 : (j : Int) < (c.length : Int) := by omega
    clear hc
    by_cases hx : x < 0
    · have q1 : decide (x < 0) = true := decide_eq_true hx
      have HR : Hid (idxB n c = false) := by show _ = _; rw [HD.out, hd, decide_eq_false (by omega : ¬ 0 ≤ x)]; simp
      clear hd hah h00 hx
      go_wp2_with fail
      go_ret
      exact ⟨by rw [HR.out]; rfl, rfl⟩
    have q1 : decide (x < 0) = false := decide_eq_false hx
    by_cases hxn : (n : Int) ≤ x
    · have q2 : decide ((n : Int) ≤ x) = true := decide_eq_true hxn
      have HR : Hid (idxB n c = false) := by show _ = _; rw [HD.out, hd, decide_eq_false (by omega : ¬ x < (n : Int))]; simp
      clear hd hah h00 hx hxn
      go_wp2_with fail
      go_ret
      exact ⟨by rw [HR.out]; rfl, rfl⟩
    have q2 : decide ((n : Int) ≤ x) = false := decide_eq_false hxn
    rw [decide_eq_true (by omega : 0 ≤ x), decide_eq_true (by omega : x < (n : Int)), Bool.true_and, Bool.true_and] at hd
    by_cases hj0 : j = 0
    · have hy := h00 hj0
      rw [hy, decide_eq_true (by omega : (-1 : Int) < x), Bool.true_and] at hd
      have HD3 : Hid (idxB n c = idxG n (ahead c (j + 1)) (c.drop (j + 1))) := by show _ = _; rw [HD.out, hy, hd]
      have q3 : decide ((0 : Int) < (j : Int)) = false := decide_eq_false (by omega)
      have q5 : decide (0 < j) = false := decide_eq_false (by omega)
      have q6 : ¬ 0 < j := by omega
      clear hd hah h00 hx hxn hy hj0
      go_wp2_with fail
      go_roundw
      case rel => exact ⟨j + 1, by omega, by go_num, HD3, by first | rfl | trivial⟩
      case measure => simp [intOf]; omega
    obtain ⟨_, rfl, hyc, hyr⟩ := hah (by omega)
    obtain ⟨m, hm⟩ : ∃ m, j - 1 = m := ⟨_, rfl⟩
    rw [hm] at hyc
    have i3 : (0 : Int) ≤ (m : Int) := by omega
    have i4 : (m : Int) < (c.length : Int) := by omega
    have q3 : decide ((0 : Int) < (j : Int)) = true := decide_eq_true (by omega)
    have hw1 : IntKind.i64.wrap ((j : Int) - 1) = (m : Int) := (IntWalk.i64_in _ (by omega)).trans (by omega)
    have hw3 : IntKind.i64.wrap (m : Int) = (m : Int) := IntWalk.i64_in _ (by omega)
    by_cases hyx : x ≤ y0
    · have q4 : decide (x ≤ y0) = true := decide_eq_true hyx
      have HR : Hid (idxB n c = false) := by show _ = _; rw [HD.out, hd, decide_eq_false (by omega : ¬ y0 < x)]; rfl
      clear hd h00 hx hxn hyx hm hah
      go_wp2_with fail
      go_ret
      exact ⟨by rw [HR.out]; rfl, rfl⟩
    · have q4 : decide (x ≤ y0) = false := decide_eq_false hyx
      rw [decide_eq_true (by omega : y0 < x), Bool.true_and] at hd
      have HD3 : Hid (idxB n c = idxG n (ahead c (j + 1)) (c.drop (j + 1))) := by show _ = _; rw [HD.out, hd]
      clear hd h00 hx hxn hyx hm hah
      go_wp2_with fail
      go_roundw
      case rel => exact ⟨j + 1, by omega, by go_num, HD3, by first | rfl | trivial⟩
      case measure => simp [intOf]; omega
end Go.Proofs.YtfbomoginjknlaaDoor

/-
  slices.EqualFunc at rows of terms (made by gen_qeqf.py from XPchk).
-/
namespace Go.Proofs.YtfbomoginjknlaaDoor
open Go.RowKit Go.Lib

def SaysQ (P : Prop) (e : Ending) : Prop := ∃ R : Bool, e = .returned (.bool R) ∧ (R = true ↔ P)
theorem saysQ {P : Prop} {e : Ending} {R : Bool} (he : e = .returned (.bool R)) (h : R = true ↔ P) : SaysQ P e := ⟨R, he, h⟩
theorem takeQ_next {qs m : List Tm} {j : Nat} (h : qs.take j = m.take j) (h1 : j < qs.length) (h2 : j < m.length) (e : qs[j] = m[j]) : qs.take (j + 1) = m.take (j + 1) := by
  rw [List.take_succ_eq_append_getElem h1, List.take_succ_eq_append_getElem h2, h, e]
set_option maxHeartbeats 3200000 in
set_option maxRecDepth 100000 in
theorem eqfQ_any (qs m : List Tm) (xq xm : Option Addr) (cq cm : Nat) (w : World) (hlen : qs.length ≤ 1073741824) (_hlm : m.length ≤ 1073741824) (hzq : ∀ u ∈ qs, size u ≤ 1073741824) (hzm : ∀ u ∈ m, size u ≤ 1073741824) (hQ : Row w qs xq) (hM : Row w m xm) :
    Calls Tryd.prog 44 #[.slice xq qs.length cq, .slice xm m.length cm, .func (.func 45) #[] #[]] w fun e w' => SaysQ (qs = m) e ∧ Below w.heap.size w w' := by
  by_cases hne : qs.length = m.length
  rotate_left
  · have H : Hid (false = true ↔ qs = m) := ⟨fun h => (by cases h), fun h => absurd (congrArg List.length h) hne⟩
    have q : ((qs.length : Int) != (m.length : Int)) = true := by rw [bne_iff_ne]; omega
    clear hne hQ hM hzq hzm
    go_enter Tryd.func44, Tryd.ntmps44
    go_wp2_with fail
    go_ret
    exact ⟨saysQ rfl H.out, Below.refl _ _⟩
  have HNE := Lib.hid hne
  have HQ := Lib.hid hQ
  have HM := Lib.hid hM
  have HZQ := Lib.hid hzq
  have HZM := Lib.hid hzm
  rw [← hne]
  have q : ((qs.length : Int) != (qs.length : Int)) = false := by simp
  clear hne hQ hM hzq hzm
  go_enter Tryd.func44, Tryd.ntmps44
  go_wp2_with fail
  go_loopw [17] (fun i wr => ∃ j : Nat, j ≤ qs.length ∧ i = .int .i64 j ∧ Hid (qs.take j = m.take j) ∧ Ext w wr) (fun i _ => qs.length - (intOf i).toNat)
  case atStart => exact ⟨0, Nat.zero_le _, rfl, by show _ = _; rfl, Ext.refl w⟩
  case round =>
    obtain ⟨j, hj, rfl, HT, hE⟩ := hrel
    have HE := Lib.hid hE
    by_cases hlt : j < qs.length
    rotate_left
    · have H : Hid (qs = m) := by
        show _ = _
        have h := HT.out
        rw [List.take_of_length_le (by omega), List.take_of_length_le (by have := HNE.out; omega)] at h
        exact h
      clear hE
      go_wp2_with fail
      go_ret
      exact ⟨saysQ (R := true) rfl ⟨fun _ => H.out, fun _ => rfl⟩, HE.out⟩
    have hlt2 : j < m.length := by have := HNE.out; omega
    obtain ⟨b, o, rfl⟩ := Row_at HQ.out (by omega)
    obtain ⟨b2, o2, rfl⟩ := Row_at HM.out (by omega)
    obtain ⟨c0, c1, c2, c3, e0, e1, e2, e3, hI⟩ := Row_get (Row_below HQ.out hE) j hlt
    obtain ⟨d0, d1, d2, d3, f0, f1, f2, f3, hJ⟩ := Row_get (Row_below HM.out hE) j hlt2
    obtain ⟨k, n, s, ya, yl, yc, rfl, rfl, rfl, rfl⟩ := Is_form hI
    obtain ⟨k3, n3, s3, ya3, yl3, yc3, rfl, rfl, rfl, rfl⟩ := Is_form hJ
    have hz1 := HZQ.out _ (List.getElem_mem hlt)
    have hz2 := HZM.out _ (List.getElem_mem hlt2)
    have HC := Lib.hid (fun W (y : Ext wr W) => (xequal_any qs[j] m[j] _ _ _ _ _ _ _ _ W (by omega) (by omega) (Is_below (w' := W) hI y) (Is_below (w' := W) hJ y)).mono (R' := fun e w' => e = .returned (.bool (cmpT qs[j] m[j] == 0)) ∧ Below W.heap.size W w') (fun e w' h => ⟨h.1, h.2.below⟩))
    have HEQ : Hid ((cmpT qs[j] m[j] == 0) = true ↔ qs[j] = m[j]) := by
      show _ ↔ _
      rw [beq_iff_eq]
      exact ⟨cmpT_zero _ _, fun h => by rw [h]; exact cmpT_self _⟩
    have HNX := Lib.hid (fun h => takeQ_next HT.out hlt hlt2 h)
    have HBD : Hid (¬ qs[j] = m[j] → ¬ qs = m) := fun h e => h (by subst e; rfl)
    generalize (cmpT qs[j] m[j] == 0) = R at HC HEQ
    have hX2 : Ext wr ((wr.alloc (.cells #[.int .i64 k, .string n, .int .i64 s, .slice ya yl yc] 24)).alloc (.cells #[.int .i64 k3, .string n3, .int .i64 s3, .slice ya3 yl3 yc3] 24)) := ((Ext.refl wr).alloc _).alloc _
    have HC2 := Lib.hid (HC.out _ hX2)
    have HX2 := Lib.hid hX2
    have i1 : (0 : Int) ≤ (j : Int) := by omega
    have i2 : (j : Int) < (qs.length : Int) := by omega
    have f0' := fun o => keep_alloc wr o _ _ f0
    have f1' := fun o => keep_alloc wr o _ _ f1
    have f2' := fun o => keep_alloc wr o _ _ f2
    have f3' := fun o => keep_alloc wr o _ _ f3
    have g0 := f0' (.cells #[.int .i64 k, .string n, .int .i64 s, .slice ya yl yc] 24)
    have g1 := f1' (.cells #[.int .i64 k, .string n, .int .i64 s, .slice ya yl yc] 24)
    have g2 := f2' (.cells #[.int .i64 k, .string n, .int .i64 s, .slice ya yl yc] 24)
    have g3 := f3' (.cells #[.int .i64 k, .string n, .int .i64 s, .slice ya yl yc] 24)
    clear hE hI hJ f0 f1 f2 f3 f0' f1' f2' f3' hX2 HC
    cases R with
    | true =>
      have HN := Lib.hid (HNX.out (HEQ.out.1 rfl))
      go_wp2_with (go_at_call 45; refine (HC2.out).mono ?_; rintro e w3 ⟨he, hB⟩; subst he; have HE3 := Lib.hid (Ext.trans HE.out (Ext.trans HX2.out hB)); clear hB)
      all_goals (go_roundw)
      all_goals (first | exact ⟨j + 1, by omega, by go_num, HN.out, HE3.out⟩ | (simp [intOf]; omega))
    | false =>
      have HN : Hid (false = true ↔ qs = m) := ⟨fun h => (by cases h), fun h => absurd h (HBD.out (fun e => (by cases HEQ.out.2 e)))⟩
      go_wp2_with (go_at_call 45; refine (HC2.out).mono ?_; rintro e w3 ⟨he, hB⟩; subst he; have HE3 := Lib.hid (Ext.trans HE.out (Ext.trans HX2.out hB)); clear hB)
      go_ret
      exact ⟨saysQ rfl HN.out, HE3.out⟩

end Go.Proofs.YtfbomoginjknlaaDoor

/-
  VECTORS: words as numbers; the walk of has.
-/
namespace Go.Proofs.YtfbomoginjknlaaDoor
open Go.RowKit Go.Lib

/-- A vector that lies in a block: its words. -/
def VecAt (w : World) (b n : Nat) (f : Nat → Nat) : Prop := ∀ k, k < n → w.cell? ⟨b, k, none⟩ = some (.int .u64 (f k)) ∧ f k < 18446744073709551616
/-- A coordinate of a vector. -/
def bitV (f : Nat → Nat) (i : Nat) : Bool := (f (i / 64)).testBit (i % 64)
theorem wrapU64 (x : Nat) (h : x < 18446744073709551616) : IntKind.u64.wrap (x : Int) = (x : Int) := by
  first | exact IntWalk.u64_in _ (by omega) | (simp [IntKind.wrap, IntKind.signed, IntKind.bits]; omega)
theorem and_one (x r : Nat) (h : x < 18446744073709551616) : (bits BinOp.and IntKind.u64 ((x : Int) / 2 ^ r) 1 == 1) = x.testBit r := by
  have e : ((x : Int) / 2 ^ r) = ((x / 2 ^ r : Nat) : Int) := by
    rw [Int.natCast_ediv]; norm_cast
  have hl : x / 2 ^ r < 18446744073709551616 := Nat.lt_of_le_of_lt (Nat.div_le_self _ _) h
  rw [e, show (1 : Int) = ((1 : Nat) : Int) from rfl, u64_and_nat _ _ hl (by omega), Nat.and_one_is_mod, Nat.testBit_eq_decide_div_mod_eq]
  by_cases hp : x / 2 ^ r % 2 = 1
  · rw [hp]; rfl
  · rw [decide_eq_false hp]
    exact beq_eq_false_iff_ne.2 (fun h => hp (by exact_mod_cast h))
set_option maxHeartbeats 1600000 in
set_option maxRecDepth 100000 in
theorem has_any (b n cap i : Nat) (f : Nat → Nat) (w : World) (hi : i < n * 64) (hn : n ≤ 1048576) (hc : VecAt w b n f) :
    Calls Tryd.prog 66 #[.slice (some ⟨b, 0, none⟩) n cap, .int .i64 i] w fun e w' => e = .returned (.bool (bitV f i)) ∧ w' = w := by
  unfold bitV
  obtain ⟨q, hq⟩ : ∃ q, i / 64 = q := ⟨_, rfl⟩
  obtain ⟨r, hr⟩ : ∃ r, i % 64 = r := ⟨_, rfl⟩
  have hqn : q < n := by omega
  obtain ⟨hx, h1⟩ := hc q hqn
  rw [hq, hr]
  have e1 : ((i : Int) / 64) = (q : Int) := by omega
  have e2 : ((i : Int) % 64) = (r : Int) := by omega
  have i1 : (0 : Int) ≤ (q : Int) := by omega
  have i2 : (q : Int) < (n : Int) := by omega
  have i3 : (0 : Int) ≤ (r : Int) := by omega
  generalize f q = x at hx h1 ⊢
  have HA := Lib.hid (and_one x r h1)
  have h0 : (0 : Int) ≤ (x : Int) := by omega
  clear hc hq hr
  go_enter Tryd.func66, Tryd.ntmps66
  go_wp2_with fail
  go_ret
  exact ⟨by rw [← HA.out]; rfl, rfl⟩
/-- A vector in a block of its own. -/
def VRow (w : World) (g n : Nat) (f : Nat → Nat) : Prop := g < w.heap.size ∧ (∀ p, w.frozen? ⟨g, p, none⟩ = false) ∧ VecAt w g n f
theorem VRow.carry {w w' : World} {g n : Nat} {f : Nat → Nat} (h : VRow w g n f) (hs : w.heap.size ≤ w'.heap.size) (hb : w'.heap[g]? = w.heap[g]?) : VRow w' g n f :=
  ⟨Nat.lt_of_lt_of_le h.1 hs, fun p => by
    have := h.2.1 p
    unfold World.frozen? at this ⊢
    rw [hb]; exact this, fun k hk => by rw [World.cell?_of_block (w := w) (a := ⟨g, k, none⟩) hb]; exact h.2.2 k hk⟩
theorem VRow.ext {w w' : World} {g n : Nat} {f : Nat → Nat} (h : VRow w g n f) (x : Ext w w') : VRow w' g n f := h.carry x.size (x.block g h.1)
theorem setOtherV {w : World} {a b : Addr} {v : Value} (h : a ≠ b) : (w.setCell a v).cell? b = w.cell? b := by
  apply World.cell?_setCell_other; exact h
theorem setSameV {w : World} {a : Addr} {v u : Value} (h : w.cell? a = some u) : (w.setCell a v).cell? a = some v := by
  apply World.cell?_setCell_same; exact h
/-- A word put into a vector. -/
def putV (f : Nat → Nat) (q x : Nat) : Nat → Nat := fun k => if k = q then x else f k
theorem putV_same (f : Nat → Nat) (q x : Nat) : putV f q x q = x := by unfold putV; rw [if_pos rfl]
theorem putV_other (f : Nat → Nat) (q x : Nat) {k : Nat} (h : ¬ k = q) : putV f q x k = f k := by unfold putV; rw [if_neg h]
theorem VRow.set {w : World} {g n q x : Nat} {f : Nat → Nat} (h : VRow w g n f) (_ : q < n) (hx : x < 18446744073709551616) : VRow (w.setCell ⟨g, q, none⟩ (.int .u64 x)) g n (putV f q x) :=
  ⟨by rw [World.size_setCell]; exact h.1, fun p => by rw [World.frozen?_setCell]; exact h.2.1 p, fun k hk => by
    by_cases e : k = q
    · subst e
      rw [putV_same]
      exact ⟨setSameV (h.2.2 k hk).1, hx⟩
    · rw [putV_other _ _ _ e, setOtherV (fun h => by simp only [Addr.mk.injEq] at h; omega)]; exact h.2.2 k hk⟩
/-- A coordinate that is set. -/
def setV (f : Nat → Nat) (i : Nat) : Nat → Nat := putV f (i / 64) (f (i / 64) ||| 2 ^ (i % 64))
theorem pow_lt64 {r : Nat} (h : r < 64) : 2 ^ r < 18446744073709551616 := Nat.lt_of_lt_of_le (Nat.pow_lt_pow_right (by omega) h) (by decide)
theorem or_word {x r : Nat} (hx : x < 18446744073709551616) (hr : r < 64) : bits BinOp.or IntKind.u64 (x : Int) (IntKind.u64.wrap (2 ^ r)) = ((x ||| 2 ^ r : Nat) : Int) ∧ x ||| 2 ^ r < 18446744073709551616 := by
  have hp := pow_lt64 hr
  have e : IntKind.u64.wrap ((2 : Int) ^ r) = ((2 ^ r : Nat) : Int) := by
    have e2 : ((2 : Int) ^ r) = ((2 ^ r : Nat) : Int) := by norm_cast
    rw [e2]
    exact wrapU64 _ hp
  rw [e, u64_or_nat _ _ hx hp]
  exact ⟨rfl, Nat.or_lt_two_pow (n := 64) hx hp⟩
set_option maxHeartbeats 1600000 in
set_option maxRecDepth 100000 in
theorem vset_any (b n cap i : Nat) (f : Nat → Nat) (w : World) (hi : i < n * 64) (hn : n ≤ 1048576) (hc : VRow w b n f) :
    Calls Tryd.prog 62 #[.slice (some ⟨b, 0, none⟩) n cap, .int .i64 i] w fun e w' => e = .returned (.tuple #[]) ∧ VRow w' b n (setV f i) ∧ But b w w' := by
  have hr64 : i % 64 < 64 := Nat.mod_lt _ (by omega)
  have hq1 : i / 64 < n := by omega
  obtain ⟨hx0, h10⟩ := hc.2.2 (i / 64) hq1
  have hF : Hid (∀ x, x = f (i / 64) ||| 2 ^ (i % 64) → x < 18446744073709551616 → VRow (w.setCell ⟨b, i / 64, none⟩ (.int .u64 x)) b n (setV f i)) := by
    show ∀ _, _
    intro x e h
    have := hc.set hq1 h
    rw [e] at this ⊢
    exact this
  obtain ⟨q, hq⟩ : ∃ q, i / 64 = q := ⟨_, rfl⟩
  obtain ⟨r, hr⟩ : ∃ r, i % 64 = r := ⟨_, rfl⟩
  have hqn : q < n := by omega
  have hfz := hc.2.1 q
  rw [hq] at hx0 h10 hF
  rw [hr] at hr64 hF
  have e1 : ((i : Int) / 64) = (q : Int) := by omega
  have e2 : ((i : Int) % 64) = (r : Int) := by omega
  have i1 : (0 : Int) ≤ (q : Int) := by omega
  have i2 : (q : Int) < (n : Int) := by omega
  have i3 : (0 : Int) ≤ (r : Int) := by omega
  generalize f q = x at hx0 h10 hF
  have HOW := Lib.hid (or_word h10 hr64)
  clear hc hq hr hr64 h10
  go_enter Tryd.func62, Tryd.ntmps62
  go_region
  rw [HOW.out.1]
  go_end0
  exact ⟨rfl, (hF.out _ rfl HOW.out.2).carry (Nat.le_refl _) rfl, ((But.refl b w).setCell _ _).drew⟩
theorem VRow.congr {w : World} {g n : Nat} {f f' : Nat → Nat} (h : VRow w g n f) (e : ∀ k, k < n → f k = f' k) : VRow w g n f' :=
  ⟨h.1, h.2.1, fun k hk => by rw [← e k hk]; exact h.2.2 k hk⟩
/-- The sum of two vectors, and the sum of their first j words. -/
def xorV (f e : Nat → Nat) : Nat → Nat := fun k => f k ^^^ e k
def xorJ (f e : Nat → Nat) (j : Nat) : Nat → Nat := fun k => if k < j then f k ^^^ e k else f k
theorem xorJ_zero (f e : Nat → Nat) (k : Nat) : f k = xorJ f e 0 k := by unfold xorJ; rw [if_neg (by omega)]
theorem xorJ_all (f e : Nat → Nat) (n k : Nat) (h : k < n) : xorJ f e n k = xorV f e k := by unfold xorJ xorV; rw [if_pos h]
theorem xorJ_at (f e : Nat → Nat) (j : Nat) : xorJ f e j j = f j := by unfold xorJ; rw [if_neg (by omega)]
theorem xorJ_put (f e : Nat → Nat) (j k : Nat) : putV (xorJ f e j) j (f j ^^^ e j) k = xorJ f e (j + 1) k := by
  by_cases h : k = j
  · subst h; rw [putV_same]; unfold xorJ; rw [if_pos (by omega)]
  · rw [putV_other _ _ _ h]
    unfold xorJ
    by_cases h2 : k < j
    · rw [if_pos h2, if_pos (by omega)]
    · rw [if_neg h2, if_neg (by omega)]
theorem VecAt.but {w wr : World} {h g n : Nat} {e : Nat → Nat} (x : VecAt w h n e) (hl : h < w.heap.size) (hne : h ≠ g) (b : But g w wr) : VecAt wr h n e := fun k hk => by
  rw [World.cell?_of_block (w := w) (a := ⟨h, k, none⟩) (b.block h hl (by simp only [ne_eq, Option.some.injEq]; omega))]
  exact x k hk
set_option maxHeartbeats 1600000 in
set_option maxRecDepth 100000 in
theorem vadd_any (g h n cf ch : Nat) (f e : Nat → Nat) (w : World) (hn : n ≤ 1048576) (hne : h ≠ g) (hf : VRow w g n f) (hhl : h < w.heap.size) (he : VecAt w h n e) :
    Calls Tryd.prog 82 #[.slice (some ⟨g, 0, none⟩) n cf, .slice (some ⟨h, 0, none⟩) n ch] w fun r w' => r = .returned (.tuple #[]) ∧ VRow w' g n (xorV f e) ∧ But g w w' := by
  have HF := Lib.hid hf
  have HE := Lib.hid he
  have HHL := Lib.hid hhl
  clear hf he hhl
  go_enter Tryd.func82, Tryd.ntmps82
  go_wp2_with fail
  go_loopw [7] (fun i wr => ∃ j : Nat, j ≤ n ∧ i = .int .i64 j ∧ But g w wr ∧ VRow wr g n (xorJ f e j)) (fun i _ => n - (intOf i).toNat)
  case atStart => exact ⟨0, Nat.zero_le _, rfl, But.refl _ _, HF.out.congr fun k _ => xorJ_zero f e k⟩
  case round =>
    obtain ⟨j, hj, rfl, hB, hI⟩ := hrel
    have HB := Lib.hid hB
    have HI := Lib.hid hI
    by_cases hlt : j < n
    rotate_left
    · have hjl : j = n := by omega
      have HQ : Hid (VRow wr g n (xorV f e)) := by show VRow _ _ _ _; rw [hjl] at hI; exact hI.congr fun k hk => xorJ_all f e n k hk
      clear hB hI hjl
      go_wp2_with fail
      go_end0
      exact ⟨rfl, HQ.out, HB.out⟩
    obtain ⟨c0, c1⟩ := hI.2.2 j hlt
    rw [xorJ_at] at c0 c1
    obtain ⟨d0, d1⟩ := (HE.out.but HHL.out hne hB) j hlt
    have hfz := hI.2.1 j
    have hx := u64_xor_nat (f j) (e j) c1 d1
    have hxl : f j ^^^ e j < 18446744073709551616 := Nat.xor_lt_two_pow (n := 64) c1 d1
    have HNX : Hid (VRow (wr.setCell ⟨g, j, none⟩ (.int .u64 (f j ^^^ e j : Nat))) g n (xorJ f e (j + 1)) ∧ But g w (wr.setCell ⟨g, j, none⟩ (.int .u64 (f j ^^^ e j : Nat)))) :=
      ⟨(hI.set hlt hxl).congr fun k _ => xorJ_put f e j k, hB.setCell _ _⟩
    have i1 : (0 : Int) ≤ (j : Int) := by omega
    have i2 : (j : Int) < (n : Int) := by omega
    generalize hFJ : f j ^^^ e j = X at hx hxl HNX
    generalize f j = F at c0 c1 hx
    generalize e j = E at d0 d1 hx
    clear hB hI hFJ
    have HXE := Lib.hid hx
    clear hx
    go_upto_region 3 with fail
    go_region
    rw [HXE.out]
    go_wp2_with fail
    go_roundw
    case rel => exact ⟨j + 1, by omega, by go_num, HNX.out.2.drew, HNX.out.1.carry (Nat.le_refl _) rfl⟩
    case measure => simp [intOf]; omega
theorem infoU64 : (Tryd.prog.info? 86).map (fun i => (i.zero, i.size, i.bytes)) = some (some (.int .u64 0), 1, 8) := by kernel_rfl
set_option maxHeartbeats 1600000 in
set_option maxRecDepth 100000 in
theorem newVector_any (n : Nat) (w : World) (hn : n ≤ 1048576) :
    Calls Tryd.prog 65 #[.int .i64 n] w fun r w' => ∃ g, r = .returned (.slice (some ⟨g, 0, none⟩) ((n + 63) / 64) ((n + 63) / 64)) ∧ w.heap.size ≤ g ∧ VRow w' g ((n + 63) / 64) (fun _ => 0) ∧ Ext w w' := by
  obtain ⟨i0, hi0, hz0, hz1, hz2⟩ := info_parts infoU64
  have HI0 := Lib.hid (And.intro hi0 (And.intro hz0 (And.intro hz1 hz2)))
  clear hi0 hz0 hz1 hz2
  obtain ⟨m, hm⟩ : ∃ m, (n + 63) / 64 = m := ⟨_, rfl⟩
  rw [hm]
  have e1 : ((n : Int) + 64 - 1) / 64 = (m : Int) := by omega
  have e2 : ((n : Int) + 63) / 64 = (m : Int) := by omega
  have hml : m ≤ 1048576 := by omega
  clear hm
  go_enter Tryd.func65, Tryd.ntmps65
  go_wp2_with (at_make; refine make_full_at _ w.heap.size rfl rfl _ _ _ rfl 86 i0 _ 1 Tryd.underlying65 HI0.out.1 HI0.out.2.1 HI0.out.2.2.1 m (congrArg (Value.int IntKind.i64) e1) (congrArg (Value.int IntKind.i64) e1) (by rw [HI0.out.2.2.2]; omega) (by unfold maxLen; omega) ?_; intro w2 hown1 hgrow; have HO := Lib.hid hown1; have HG := Lib.hid hgrow; clear hown1 hgrow)
  have hown := HO.out
  rw [Nat.mul_one, show (madeCells (Value.int IntKind.u64 0).cells m).toList = List.replicate m (Value.int IntKind.u64 0) from toList_madeCells_one _ _] at hown
  have HV : Hid (VRow w2 w.heap.size m (fun _ => 0)) := by
    refine ⟨(hown.lt _ rfl).2, fun p => hown.frozenAt p, fun k hk => ⟨?_, (by decide : 0 < 18446744073709551616)⟩⟩
    rw [hown.cellAt k (by omega), List.getElem?_replicate, if_pos hk]; rfl
  have HX : Hid (Ext w w2) := (Below.refl w.heap.size w).grown HG.out (Nat.le_refl _) (fun q hq => by simp at hq)
  clear hown
  go_wp2_with fail
  go_ret
  exact ⟨_, rfl, Nat.le_refl _, HV.out, HX.out⟩
end Go.Proofs.YtfbomoginjknlaaDoor
