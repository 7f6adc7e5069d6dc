/-
  THE WALKS OF exponent's vanishes, productsError and CheckRefute.
-/
import Derived.Test.YtcieadjjcpmieaaGreatPcopy
import Derived.Test.YtcieadjjcpmieaaGreatPgath
namespace Go.Proofs.YtcieadjjcpmieaaGreat
open Go.RowKit

/-- The value of a product by the integers of a list. -/
def sumC (vs : List Pw) : List Pw → Int
  | [] => 0
  | p :: ps => sumC vs ps + powF vs p.1 * p.2
theorem sumC_app (vs : List Pw) : ∀ ps qs : List Pw, sumC vs (ps ++ qs) = sumC vs ps + sumC vs qs
  | [], qs => by simp [sumC]
  | p :: ps, qs => by rw [List.cons_append, sumC, sumC, sumC_app vs ps qs]; omega
theorem sumC_take (vs ps : List Pw) (j : Nat) (h : j < ps.length) : sumC vs (ps.take (j + 1)) = sumC vs (ps.take j) + powF vs ps[j].1 * ps[j].2 := by
  rw [List.take_succ_eq_append_getElem h, sumC_app]; simp [sumC]
theorem powF_bound {B : Nat} : ∀ {vs : List Pw} (_ : ∀ p ∈ vs, p.2.natAbs ≤ B) (x : Tm), (powF vs x).natAbs ≤ B
  | [], _, x => by simp [powF]
  | p :: ps, h, x => by
    rw [powF]
    split
    · exact h p (List.mem_cons_self ..)
    · exact powF_bound (fun q hq => h q (List.mem_cons_of_mem _ hq)) x
theorem mul_bound {a b : Int} {A B : Nat} (ha : a.natAbs ≤ A) (hb : b.natAbs ≤ B) : (a * b).natAbs ≤ A * B := by
  rw [Int.natAbs_mul]; exact Nat.mul_le_mul ha hb
theorem sumC_bound {B C : Nat} {vs : List Pw} (hv : ∀ p ∈ vs, p.2.natAbs ≤ B) : ∀ {ps : List Pw}, (∀ p ∈ ps, p.2.natAbs ≤ C) → (sumC vs ps).natAbs ≤ ps.length * (B * C)
  | [], _ => by simp [sumC]
  | p :: ps, h => by
    have h1 := sumC_bound hv (ps := ps) (fun q hq => h q (List.mem_cons_of_mem _ hq))
    have h2 := mul_bound (powF_bound hv p.1) (h p (List.mem_cons_self ..))
    rw [sumC, List.length_cons, Nat.add_mul, Nat.one_mul]
    omega
/-- Whether the value is 0. -/
def vanB (md : Int) (vs ps : List Pw) : Bool := if md = 0 then decide (sumC vs ps = 0) else decide ((sumC vs ps).tmod md = 0)
theorem cells2 {w : World} {b : Nat} {c0 c1 : Value} {T : TypeId} (h : w.heap[b]? = some (.cells #[c0, c1] T (0, 0))) : w.cell? ⟨b, 0, none⟩ = some c0 ∧ w.cell? ⟨b, 1, none⟩ = some c1 := by
  constructor <;> (unfold World.cell?; rw [h]; rfl)
set_option maxHeartbeats 6400000 in
set_option maxRecDepth 100000 in
theorem vanishes_any (md : Int) (vs ps : List Pw) (xv xa : Option Addr) (cv cap : Nat) (w : World) (hmd : md = 0 ∨ 2 ≤ md ∧ md ≤ 35184372088832) (hcv : vs.length ≤ cv) (hlv : vs.length ≤ 1073741824) (hzv : SzP 1073741824 vs) (hav : AscP vs) (hbv : ∀ p ∈ vs, p.2.natAbs ≤ 35184372088832) (hRv : PRow w vs xv)
    (hl : ps.length ≤ 200) (hz : SzP 1073741824 ps) (hb : ∀ p ∈ ps, p.2.natAbs ≤ 1000) (hR : PRow w ps xa) :
    Calls Tryz.prog 77 #[.agg #[.int .i64 md, .slice xv vs.length cv], .slice xa ps.length cap] w fun e w' => e = .returned (.bool (vanB md vs ps)) ∧ Below w.heap.size w w' := by
  have hb1 := heap_alloc_new w (.cells #[.int .i64 md, .slice xv vs.length cv] 53)
  have hE1 : Ext w (w.alloc (.cells #[.int .i64 md, .slice xv vs.length cv] 53)) := (Ext.refl w).alloc _
  have hs1 : (w.alloc (.cells #[.int .i64 md, .slice xv vs.length cv] 53)).heap.size = w.heap.size + 1 := World.size_alloc _ _
  have HPO := Lib.hid (fun (x : Tm) c0 c1 c2 c3 W (y : Ext w W) (hx : size x ≤ 1073741824) (hI : Is W x c0 c1 c2 c3) => powerOf_any vs x c0 c1 c2 c3 xv cv W hcv hlv hzv hx hav (PRow_below (w' := W) hRv y) hI)
  have HRP := Lib.hid (fun W (y : Ext w W) => PRow_below (w' := W) hR y)
  have HZ := Lib.hid hz
  have HBB : Hid (∀ j (h : j < ps.length), (powF vs ps[j].1 * ps[j].2).natAbs ≤ 35184372088832 * 1000) := fun j h => mul_bound (powF_bound hbv _) (hb _ (List.getElem_mem h))
  have HSB : Hid (∀ j, j ≤ ps.length → (sumC vs (ps.take j)).natAbs ≤ 200 * (35184372088832 * 1000)) := by
    show ∀ _, _
    intro j hj
    have h1 := sumC_bound hbv (ps := ps.take j) (fun p hp => hb p (List.mem_of_mem_take hp))
    refine Nat.le_trans h1 (Nat.mul_le_mul_right _ ?_)
    rw [List.length_take]; omega
  have HTK := Lib.hid (sumC_take vs ps)
  obtain ⟨R, hR'⟩ : ∃ R, vanB md vs ps = R := ⟨_, rfl⟩
  have HRR : Hid ((if md = 0 then decide (sumC vs ps = 0) else decide ((sumC vs ps).tmod md = 0)) = R) := hR'
  rw [hR']
  clear hcv hlv hzv hav hbv hRv hz hb hR hR'
  go_enter Tryz.func77, Tryz.ntmps77
  go_wp2_with fail
  have HX1 : Hid (∀ W, Ext (w.alloc (.cells #[.int .i64 md, .slice xv vs.length cv] 53)) W → (W.cell? ⟨w.heap.size, 0, none⟩ = some (.int .i64 md) ∧ W.cell? ⟨w.heap.size, 1, none⟩ = some (.slice xv vs.length cv)) ∧ Ext w W) := fun W y => ⟨cells2 ((y.block _ (by rw [hs1]; exact Nat.lt_succ_self _)).trans hb1), Ext.trans hE1 y⟩
  have hr0 := Ext.refl (w.alloc (.cells #[.int .i64 md, .slice xv vs.length cv] 53))
  generalize w.alloc (.cells #[.int .i64 md, .slice xv vs.length cv] 53) = wn at HX1 hr0 ⊢
  clear hb1 hE1 hs1
  go_loopw [5, 10] (fun s i wr => ∃ j : Nat, j ≤ ps.length ∧ i = .int .i64 j ∧ s = .int .i64 (sumC vs (ps.take j)) ∧ Ext wn wr) (fun _ i _ => ps.length - (intOf i).toNat)
  case atStart => exact ⟨0, Nat.zero_le _, rfl, by simp [sumC], hr0⟩
  case round =>
    obtain ⟨j, hj, rfl, rfl, hE⟩ := hrel
    have HE := Lib.hid hE
    by_cases hlt : j < ps.length
    rotate_left
    · obtain rfl : j = ps.length := by omega
      rw [List.take_length]
      have hsb := HSB.out ps.length (Nat.le_refl _)
      rw [List.take_length] at hsb
      obtain ⟨⟨a0, a1⟩, hw⟩ := HX1.out wr hE
      have HW := Lib.hid hw
      generalize sumC vs ps = A at HRR hsb ⊢
      by_cases h0 : md = 0
      · have H : Hid (decide (A = 0) = R) := by show _ = _; have := HRR.out; rw [if_pos h0] at this; exact this
        have q1 : (md == 0) = true := by simp [h0]
        clear h0 hw hE hsb
        go_wp2_with fail
        go_ret
        refine ⟨?_, HW.out⟩
        rw [← H.out]
        have hq : (A == 0) = decide (A = 0) := by rw [Bool.eq_iff_iff, beq_iff_eq, decide_eq_true_iff]
        rw [← hq]; rfl
      · have H : Hid (decide (A.tmod md = 0) = R) := by show _ = _; have := HRR.out; rw [if_neg h0] at this; exact this
        have q1 : (md == 0) = false := by simp [h0]
        have hmd2 : 2 ≤ md := by omega
        clear hw hE
        go_wp2_with fail
        go_ret
        refine ⟨?_, HW.out⟩
        rw [← H.out]
        have hq : (A.tmod md == 0) = decide (A.tmod md = 0) := by rw [Bool.eq_iff_iff, beq_iff_eq, decide_eq_true_iff]
        rw [← hq]; rfl
    obtain ⟨b, o, rfl⟩ := PRow_at (HRP.out _ (Ext.refl _)) (by omega)
    obtain ⟨⟨c0, c1, c2, c3, g0, g1, g2, g3, hI⟩, hNj, hNo⟩ := PRow_get (HRP.out _ (HX1.out wr hE).2) j hlt
    obtain ⟨k, n, s, ya, yl, yc, rfl, rfl, rfl, rfl⟩ := Is_form hI
    have hbb := HBB.out j hlt
    have hsb := HSB.out j hj
    have HT1 := Lib.hid (HTK.out j hlt)
    have hzj := HZ.out _ (List.getElem_mem hlt)
    have HPJ := Lib.hid (fun W (y : Ext wr W) => HPO.out ps[j].1 _ _ _ _ W (Ext.trans (HX1.out wr hE).2 y) hzj (Is_below (w' := W) hI y))
    generalize powF vs ps[j].1 = P at HPJ hbb HT1
    generalize ps[j].2 = N at hNj hbb HT1
    obtain ⟨M, hM⟩ : ∃ M, P * N = M := ⟨_, rfl⟩
    rw [hM] at hbb HT1
    generalize sumC vs (ps.take j) = A at hsb HT1 ⊢
    have hwM : IntKind.i64.wrap (P * N) = M := (IntWalk.i64_in _ (by rw [hM]; omega)).trans hM
    have hwM2 : IntKind.i64.wrap M = M := IntWalk.i64_in _ (by omega)
    have hwA : IntKind.i64.wrap (A + M) = A + M := IntWalk.i64_in _ (by omega)
    have hq0 := heap_alloc_new wr (.cells #[.int .i64 k, .string n, .int .i64 s, .slice ya yl yc, .int .i64 N] 77)
    have HS5 := Lib.hid (SumAt.new wr k n s ya yl yc N)
    have HEn : Hid (Ext wr (wr.alloc (.cells #[.int .i64 k, .string n, .int .i64 s, .slice ya yl yc, .int .i64 N] 77))) := (Ext.refl wr).alloc _
    have i1 : (0 : Int) ≤ (j : Int) := by omega
    have i2 : (j : Int) < (ps.length : Int) := by omega
    clear hE hI hNo hq0 hzj
    go_upto_region 5 with fail
    generalize wr.alloc (.cells #[.int .i64 k, .string n, .int .i64 s, .slice ya yl yc, .int .i64 N] 77) = wq at HS5 HEn ⊢
    obtain ⟨q, hq⟩ : ∃ q, wr.heap.size = q := ⟨_, rfl⟩
    rw [hq] at HS5 ⊢
    have HCr : Hid (∀ W, Ext wq W → (W.cell? ⟨w.heap.size, 1, none⟩ = some (.slice xv vs.length cv)) ∧ ((W.cell? ⟨q, 0, none⟩ = some (.int .i64 k) ∧ W.cell? ⟨q, 1, none⟩ = some (.string n) ∧ W.cell? ⟨q, 2, none⟩ = some (.int .i64 s) ∧ W.cell? ⟨q, 3, none⟩ = some (.slice ya yl yc)) ∧ W.cell? ⟨q, 4, none⟩ = some (.int .i64 N))) := fun W y => ⟨(HX1.out W (Ext.trans HE.out (Ext.trans HEn.out y))).1.2, (HS5.out.ext y).1⟩
    obtain ⟨a1, ⟨x0, x1, x2, x3⟩, x4⟩ := HCr.out wq (Ext.refl _)
    have hF0 : Ext wq wq.drew := (Ext.refl wq).drew
    clear g0 g1 g2 g3 hNj hq
    go_region_held3 (fun W => (W.cell? ⟨w.heap.size, 1, none⟩ = some (.slice xv vs.length cv)) ∧ ((W.cell? ⟨q, 0, none⟩ = some (.int .i64 k) ∧ W.cell? ⟨q, 1, none⟩ = some (.string n) ∧ W.cell? ⟨q, 2, none⟩ = some (.int .i64 s) ∧ W.cell? ⟨q, 3, none⟩ = some (.slice ya yl yc)) ∧ W.cell? ⟨q, 4, none⟩ = some (.int .i64 N)))
      (first | exact HCr.out _ (by assumption) | go_keep)
      (first | (go_at_call 107; refine (HPJ.out _ (Ext.trans HEn.out hF0)).mono ?_; rintro e w6 ⟨he, hB⟩; subst he; have hF1 : Ext wq w6 := hF0.trans hB; clear hB))
    go_wp2_with fail
    go_roundw
    case rel => exact ⟨j + 1, by omega, by go_num, by rw [HT1.out], Ext.trans HE.out (Ext.trans HEn.out hF1)⟩
    case measure => simp [intOf]; omega

/-- Lists of powers that lie in a row of slices. -/
def PsRow (w : World) (ls : List (List Pw)) (xa : Option Addr) : Prop := ls = [] ∨ ∃ b o, xa = some ⟨b, o, none⟩ ∧ ∀ k (h : k < ls.length), ∃ ya c, w.cell? ⟨b, o + k, none⟩ = some (.slice ya ls[k].length c) ∧ ls[k].length ≤ c ∧ PRow w ls[k] ya
theorem PsRow_at {w : World} {ls : List (List Pw)} {xa : Option Addr} (h : PsRow w ls xa) (hne : 0 < ls.length) : ∃ b o, xa = some ⟨b, o, none⟩ := by
  rcases h with rfl | ⟨b, o, e, _⟩
  · simp at hne
  · exact ⟨b, o, e⟩
theorem PsRow_get {w : World} {ls : List (List Pw)} {b o : Nat} (h : PsRow w ls (some ⟨b, o, none⟩)) (k : Nat) (hk : k < ls.length) : ∃ ya c, w.cell? ⟨b, o + k, none⟩ = some (.slice ya ls[k].length c) ∧ ls[k].length ≤ c ∧ PRow w ls[k] ya := by
  rcases h with rfl | ⟨b', o', e, h⟩
  · simp at hk
  · simp only [Option.some.injEq, Addr.mk.injEq, and_true] at e
    obtain ⟨rfl, rfl⟩ := e
    exact h k hk
theorem PsRow_below {w w' : World} {ls : List (List Pw)} {xa : Option Addr} (h : PsRow w ls xa) (x : Below w.heap.size w w') : PsRow w' ls xa := by
  rcases h with rfl | ⟨b, o, e, h⟩
  · exact Or.inl rfl
  · refine Or.inr ⟨b, o, e, fun k hk => ?_⟩
    obtain ⟨ya, c, h1, h2, h3⟩ := h k hk
    exact ⟨ya, c, keep_below x _ _ h1, h2, PRow_below h3 x⟩
/-- The first error of some products and of one more. -/
def prodsE : List (List Pw) → List Pw → Int
  | [], m => powE 1000 m
  | l :: ls, m => if powE 1000 l = 0 then prodsE ls m else powE 1000 l
theorem prodsE_drop {ls : List (List Pw)} {m : List Pw} {j : Nat} (h : j < ls.length) : prodsE (ls.drop j) m = if powE 1000 ls[j] = 0 then prodsE (ls.drop (j + 1)) m else powE 1000 ls[j] := by
  rw [List.drop_eq_getElem_cons h]; rfl
theorem prodsE_ok : ∀ {ls : List (List Pw)} {m : List Pw}, prodsE ls m = 0 → (∀ l ∈ ls, powE 1000 l = 0) ∧ powE 1000 m = 0
  | [], m, h => ⟨fun l hl => by simp at hl, h⟩
  | l :: ls, m, h => by
    rw [prodsE] at h
    by_cases h0 : powE 1000 l = 0
    · rw [if_pos h0] at h
      obtain ⟨a, b⟩ := prodsE_ok h
      refine ⟨fun x hx => ?_, b⟩
      rcases List.mem_cons.1 hx with rfl | hx
      · exact h0
      · exact a x hx
    · rw [if_neg h0] at h; exact absurd h h0
set_option maxHeartbeats 3200000 in
set_option maxRecDepth 100000 in
theorem prodsE_any (ls : List (List Pw)) (m : List Pw) (xa xm : Option Addr) (ca cm : Nat) (w : World) (hl : ls.length ≤ 1073741824) (hz : ∀ l ∈ ls, l.length ≤ maxLen ∧ SzP 1073741824 l) (hR : PsRow w ls xa) (hm : m.length ≤ maxLen) (hzm : SzP 1073741824 m) (hRm : PRow w m xm) :
    Calls Tryz.prog 70 #[.slice xa ls.length ca, .slice xm m.length cm] w fun e w' => e = .returned (.int .i64 (prodsE ls m)) ∧ Below w.heap.size w w' := by
  have HR := Lib.hid hR
  have HZ := Lib.hid hz
  have HM := Lib.hid (fun W (x : Ext w W) => prodE_any m xm cm W hm hzm (PRow_below (w' := W) hRm x))
  clear hR hz hm hzm hRm
  go_enter Tryz.func70, Tryz.ntmps70
  go_wp2_with fail
  go_loopw [10] (fun i wr => ∃ j : Nat, j ≤ ls.length ∧ i = .int .i64 j ∧ Hid (prodsE ls m = prodsE (ls.drop j) m) ∧ Ext w wr) (fun i _ => ls.length - (intOf i).toNat)
  case atStart => exact ⟨0, Nat.zero_le _, rfl, rfl, Ext.refl _⟩
  case round =>
    obtain ⟨j, hj, rfl, HD, hE⟩ := hrel
    have HE := Lib.hid hE
    by_cases hlt : j < ls.length
    rotate_left
    · have hn : ls.drop j = [] := List.drop_eq_nil_of_le (by omega)
      have HD2 : Hid (prodsE ls m = powE 1000 m) := by show _ = _; rw [HD.out, hn]; rfl
      have HC := Lib.hid (HM.out wr hE)
      generalize powE 1000 m = E at HC HD2
      clear hE hn
      go_wp2_with (go_at_call 49; refine (HC.out).mono ?_; rintro e w3 ⟨he, hB⟩; subst he; have HB := Lib.hid (Ext.trans HE.out hB); clear hB)
      go_ret
      exact ⟨by rw [HD2.out]; rfl, HB.out⟩
    obtain ⟨b, o, rfl⟩ := PsRow_at HR.out (by omega)
    obtain ⟨ya, c, g0, hc, hr⟩ := PsRow_get (PsRow_below HR.out hE) j hlt
    have hzj := HZ.out _ (List.getElem_mem hlt)
    have HC := Lib.hid (prodE_any ls[j] ya c wr hzj.1 hzj.2 hr)
    have hd := prodsE_drop (m := m) hlt
    obtain ⟨E, hEE⟩ : ∃ E, powE 1000 ls[j] = E := ⟨_, rfl⟩
    rw [hEE] at HC hd
    have i1 : (0 : Int) ≤ (j : Int) := by omega
    have i2 : (j : Int) < (ls.length : Int) := by omega
    clear hE hzj hr hEE
    by_cases h0 : E = 0
    · rw [if_pos h0] at hd
      have HD2 : Hid (prodsE ls m = prodsE (ls.drop (j + 1)) m) := by show _ = _; rw [HD.out, hd]
      have q : (E != 0) = false := by simp [h0]
      clear hd h0
      go_wp2_with (go_at_call 49; refine (HC.out).mono ?_; rintro e w3 ⟨he, hB⟩; subst he; have HB := Lib.hid (Ext.trans HE.out hB); clear hB)
      go_roundw
      case rel => exact ⟨j + 1, by omega, by go_num, HD2, HB.out⟩
      case measure => simp [intOf]; omega
    · rw [if_neg h0] at hd
      have HD2 : Hid (prodsE ls m = E) := by show _ = _; rw [HD.out, hd]
      have q : (E != 0) = true := by rw [bne_iff_ne]; exact h0
      clear hd h0
      go_wp2_with (go_at_call 49; refine (HC.out).mono ?_; rintro e w3 ⟨he, hB⟩; subst he; have HB := Lib.hid (Ext.trans HE.out hB); clear hB)
      go_ret
      exact ⟨by rw [HD2.out]; rfl, HB.out⟩

/-- Whether a character refutes that a product is generated. -/
def crefB (ls : List (List Pw)) (m : List Pw) (md : Int) (vs : List Pw) : Bool :=
  if prodsE ls m = 0 then (if md = 0 ∨ 2 ≤ md ∧ md ≤ 35184372088832 then (if powE 35184372088832 vs = 0 then (ls.all (vanB md vs) && !vanB md vs m) else false) else false) else false
theorem pow_abs {lim : Nat} {vs : List Pw} (h : powE (lim : Int) vs = 0) : ∀ p ∈ vs, p.2.natAbs ≤ lim := fun p hp => by
  have := pwE_ok ((powE_ok h).2.1 p hp)
  omega
theorem all_drop (f : List Pw → Bool) (ls : List (List Pw)) (j : Nat) (h : j < ls.length) : (ls.drop j).all f = (f ls[j] && (ls.drop (j + 1)).all f) := by
  rw [List.drop_eq_getElem_cons h]; rfl
set_option maxHeartbeats 12800000 in
set_option maxRecDepth 100000 in
theorem cref_any (ls : List (List Pw)) (m vs : List Pw) (md : Int) (xa xm xv : Option Addr) (ca cm cv : Nat) (w : World) (hmo : i64ok md) (hl : ls.length ≤ 1073741824) (hz : ∀ l ∈ ls, l.length ≤ maxLen ∧ SzP 1073741824 l) (hR : PsRow w ls xa) (hm : m.length ≤ maxLen) (hzm : SzP 1073741824 m) (hRm : PRow w m xm) (hcv : vs.length ≤ cv) (hlv : vs.length ≤ 1073741824) (hzv : SzP 1073741824 vs) (hRv : PRow w vs xv) :
    Calls Tryz.prog 33 #[.slice xa ls.length ca, .slice xm m.length cm, .agg #[.int .i64 md, .slice xv vs.length cv]] w fun e w' => e = .returned (.bool (crefB ls m md vs)) ∧ Below w.heap.size w w' := by
  have hb1 := heap_alloc_new w (.cells #[.int .i64 md, .slice xv vs.length cv] 53)
  have hE1 : Ext w (w.alloc (.cells #[.int .i64 md, .slice xv vs.length cv] 53)) := (Ext.refl w).alloc _
  have hs1 : (w.alloc (.cells #[.int .i64 md, .slice xv vs.length cv] 53)).heap.size = w.heap.size + 1 := World.size_alloc _ _
  have HPE := Lib.hid (prodsE_any ls m xa xm ca cm _ hl hz (PsRow_below hR hE1) hm hzm (PRow_below hRm hE1))
  have HVE := Lib.hid (fun W (x : Ext w W) => powE_any 35184372088832 (by omega) vs xv cv W (by unfold maxLen; omega) hzv (PRow_below (w' := W) hRv x))
  have HX1 : Hid (∀ W, Ext (w.alloc (.cells #[.int .i64 md, .slice xv vs.length cv] 53)) W → (W.cell? ⟨w.heap.size, 0, none⟩ = some (.int .i64 md) ∧ W.cell? ⟨w.heap.size, 1, none⟩ = some (.slice xv vs.length cv)) ∧ Ext w W) := fun W y => ⟨cells2 ((y.block _ (by rw [hs1]; exact Nat.lt_succ_self _)).trans hb1), Ext.trans hE1 y⟩
  have HVA := Lib.hid (fun (h1 : md = 0 ∨ 2 ≤ md ∧ md ≤ 35184372088832) (h2 : powE 35184372088832 vs = 0) (l : List Pw) (h3 : powE 1000 l = 0) (hz : SzP 1073741824 l) xl cl W (x : Ext w W) (hr : PRow W l xl) => vanishes_any md vs l xv xl cv cl W h1 hcv hlv hzv (powE_ok h2).2.2 (pow_abs (lim := 35184372088832) h2) (PRow_below (w' := W) hRv x) (powE_ok h3).1 hz (pow_abs (lim := 1000) h3) hr)
  obtain ⟨R, hR'⟩ : ∃ R, crefB ls m md vs = R := ⟨_, rfl⟩
  have HD : Hid (R = if prodsE ls m = 0 then (if md = 0 ∨ 2 ≤ md ∧ md ≤ 35184372088832 then (if powE 35184372088832 vs = 0 then (ls.all (vanB md vs) && !vanB md vs m) else false) else false) else false) := hR'.symm
  rw [hR']
  have HRL := Lib.hid hR
  have HRM := Lib.hid hRm
  have HZ := Lib.hid hz
  have HZM := Lib.hid hzm
  have HOKS := Lib.hid (fun h => prodsE_ok (ls := ls) (m := m) h)
  unfold i64ok at hmo
  clear hR hz hm hzm hRm hcv hlv hzv hRv hR' hb1 hE1 hs1
  by_cases hp : prodsE ls m = 0
  rotate_left
  · have H : Hid (R = false) := by show _ = _; rw [HD.out, if_neg hp]
    generalize prodsE ls m = E at hp HPE
    have q1 : (E != 0) = true := by rw [bne_iff_ne]; exact hp
    clear hp
    go_enter Tryz.func33, Tryz.ntmps33
    go_wp2_with (go_at_call 70; refine (HPE.out).mono ?_; rintro e w3 ⟨he, hB⟩; subst he; have HB := Lib.hid (HX1.out _ hB).2; clear hB)
    go_ret
    exact ⟨by rw [H.out]; rfl, HB.out⟩
  obtain ⟨hoks, hokm⟩ := HOKS.out hp
  have HOK := Lib.hid hoks
  have HOM := Lib.hid hokm
  have HD2 : Hid (R = if md = 0 ∨ 2 ≤ md ∧ md ≤ 35184372088832 then (if powE 35184372088832 vs = 0 then (ls.all (vanB md vs) && !vanB md vs m) else false) else false) := by show _ = _; rw [HD.out, if_pos hp]
  rw [hp] at HPE
  have q1 : ((0 : Int) != 0) = false := rfl
  clear hoks hokm hp HD HOKS
  by_cases hmd : md = 0 ∨ 2 ≤ md ∧ md ≤ 35184372088832
  rotate_left
  · have H : Hid (R = false) := by show _ = _; rw [HD2.out, if_neg hmd]
    have hm0 : ¬ md = 0 := fun h => hmd (Or.inl h)
    have q2 : (md != 0) = true := by rw [bne_iff_ne]; exact hm0
    by_cases h2 : md < 2
    · have q3 : decide (md < 2) = true := decide_eq_true h2
      clear hmd hm0 h2
      go_enter Tryz.func33, Tryz.ntmps33
      go_wp2_with (go_at_call 70; refine (HPE.out).mono ?_; rintro e w3 ⟨he, hB⟩; subst he; obtain ⟨⟨a0, a1⟩, hx⟩ := HX1.out _ hB; have HB := Lib.hid hx; clear hB hx)
      go_ret
      exact ⟨by rw [H.out]; rfl, HB.out⟩
    · have q3 : decide (md < 2) = false := decide_eq_false h2
      have q4 : decide (35184372088832 < md) = true := decide_eq_true (by omega)
      clear hmd hm0 h2
      go_enter Tryz.func33, Tryz.ntmps33
      go_wp2_with (go_at_call 70; refine (HPE.out).mono ?_; rintro e w3 ⟨he, hB⟩; subst he; obtain ⟨⟨a0, a1⟩, hx⟩ := HX1.out _ hB; have HB := Lib.hid hx; clear hB hx)
      go_ret
      exact ⟨by rw [H.out]; rfl, HB.out⟩
  have HD3 : Hid (R = if powE 35184372088832 vs = 0 then (ls.all (vanB md vs) && !vanB md vs m) else false) := by show _ = _; rw [HD2.out, if_pos hmd]
  have HMD := Lib.hid hmd
  clear HD2
  rcases hmd with h0 | ⟨h2, h45⟩
  · have q2 : (md != 0) = false := by simp [h0]
    clear h0
    by_cases hpv : powE 35184372088832 vs = 0
    rotate_left
    · have H : Hid (R = false) := by show _ = _; rw [HD3.out, if_neg hpv]
      generalize powE 35184372088832 vs = E at hpv HVE
      have q5 : (E != 0) = true := by rw [bne_iff_ne]; exact hpv
      clear hpv HVA HD3
      go_enter Tryz.func33, Tryz.ntmps33
      go_wp2_with (first
        | (go_at_call 70; refine (HPE.out).mono ?_; rintro e w3 ⟨he, hB⟩; subst he; obtain ⟨⟨a0, a1⟩, hx⟩ := HX1.out _ hB; have HB := Lib.hid hx; clear hB hx)
        | (go_at_call 76; refine (HVE.out _ HB.out).mono ?_; rintro e w4 ⟨he, hB⟩; subst he; have HB4 := Lib.hid (Ext.trans HB.out hB); clear hB))
      go_ret
      exact ⟨by rw [H.out]; rfl, HB4.out⟩
    have HD4 : Hid (R = (ls.all (vanB md vs) && !vanB md vs m)) := by show _ = _; rw [HD3.out, if_pos hpv]
    have HVQ := Lib.hid (HVA.out HMD.out hpv)
    rw [hpv] at HVE
    clear hpv HVA HD3
    go_enter Tryz.func33, Tryz.ntmps33
    go_wp2_with (first
      | (go_at_call 70; refine (HPE.out).mono ?_; rintro e w3 ⟨he, hB⟩; subst he; have HX3 : Hid (Ext _ w3) := Lib.hid hB; obtain ⟨⟨a0, a1⟩, hx⟩ := HX1.out _ hB; have HB := Lib.hid hx; clear hB hx)
      | (go_at_call 76; refine (HVE.out _ HB.out).mono ?_; rintro e w4 ⟨he, hB⟩; subst he; have HX4 := Lib.hid (Ext.trans HX3.out hB); clear hB))
    go_loopw [34] (fun i wr => ∃ j : Nat, j ≤ ls.length ∧ i = .int .i64 j ∧ Hid (R = ((ls.drop j).all (vanB md vs) && !vanB md vs m)) ∧ Ext w4 wr) (fun i _ => ls.length - (intOf i).toNat)
    case atStart => exact ⟨0, Nat.zero_le _, rfl, HD4.out, Ext.refl _⟩
    case round =>
      obtain ⟨j, hj, rfl, HJ, hE⟩ := hrel
      have HE := Lib.hid (Ext.trans HX4.out hE)
      obtain ⟨⟨a0, a1⟩, hw⟩ := HX1.out _ HE.out
      have HW := Lib.hid hw
      have HE4 := Lib.hid hE
      by_cases hlt : j < ls.length
      rotate_left
      · have hn : ls.drop j = [] := List.drop_eq_nil_of_le (by omega)
        have HR2 : Hid (R = !vanB md vs m) := by show _ = _; rw [HJ.out, hn]; rfl
        have HC := Lib.hid (HVQ.out m HOM.out HZM.out xm cm wr hw (PRow_below HRM.out hw))
        generalize vanB md vs m = B at HC HR2
        clear hn hw hE
        go_wp2_with (go_at_call 77; refine (HC.out).mono ?_; rintro e w6 ⟨he, hB⟩; subst he; have HB6 := Lib.hid (Ext.trans HW.out hB); clear hB)
        go_ret
        exact ⟨by rw [HR2.out]; rfl, HB6.out⟩
      obtain ⟨b, o, rfl⟩ := PsRow_at HRL.out (by omega)
      obtain ⟨ya, c, g0, hc, hr⟩ := PsRow_get (PsRow_below HRL.out hw) j hlt
      have HC := Lib.hid (HVQ.out ls[j] (HOK.out _ (List.getElem_mem hlt)) (HZ.out _ (List.getElem_mem hlt)).2 ya c wr hw hr)
      have hd := all_drop (vanB md vs) ls j hlt
      have i1 : (0 : Int) ≤ (j : Int) := by omega
      have i2 : (j : Int) < (ls.length : Int) := by omega
      obtain ⟨B, hB⟩ : ∃ B, vanB md vs ls[j] = B := ⟨_, rfl⟩
      rw [hB] at HC hd
      clear hw hE hr hB
      cases B with
      | true =>
        have HJ2 : Hid (R = ((ls.drop (j + 1)).all (vanB md vs) && !vanB md vs m)) := by show _ = _; rw [HJ.out, hd, Bool.true_and]
        clear hd
        go_wp2_with (go_at_call 77; refine (HC.out).mono ?_; rintro e w6 ⟨he, hB⟩; subst he; have HB6 := Lib.hid (Ext.trans HE4.out hB); clear hB)
        go_roundw
        case rel => exact ⟨j + 1, by omega, by go_num, HJ2, HB6.out⟩
        case measure => simp [intOf]; omega
      | false =>
        have HR2 : Hid (R = false) := by show _ = _; rw [HJ.out, hd]; rfl
        clear hd
        go_wp2_with (go_at_call 77; refine (HC.out).mono ?_; rintro e w6 ⟨he, hB⟩; subst he; have HB6 := Lib.hid (Ext.trans HW.out hB); clear hB)
        go_ret
        exact ⟨by rw [HR2.out]; rfl, HB6.out⟩
  · have q2 : (md != 0) = true := by rw [bne_iff_ne]; omega
    have q3 : decide (md < 2) = false := decide_eq_false (by omega)
    have q4 : decide (35184372088832 < md) = false := decide_eq_false (by omega)
    by_cases hpv : powE 35184372088832 vs = 0
    rotate_left
    · have H : Hid (R = false) := by show _ = _; rw [HD3.out, if_neg hpv]
      generalize powE 35184372088832 vs = E at hpv HVE
      have q5 : (E != 0) = true := by rw [bne_iff_ne]; exact hpv
      clear hpv HVA HD3
      go_enter Tryz.func33, Tryz.ntmps33
      go_wp2_with (first
        | (go_at_call 70; refine (HPE.out).mono ?_; rintro e w3 ⟨he, hB⟩; subst he; obtain ⟨⟨a0, a1⟩, hx⟩ := HX1.out _ hB; have HB := Lib.hid hx; clear hB hx)
        | (go_at_call 76; refine (HVE.out _ HB.out).mono ?_; rintro e w4 ⟨he, hB⟩; subst he; have HB4 := Lib.hid (Ext.trans HB.out hB); clear hB))
      go_ret
      exact ⟨by rw [H.out]; rfl, HB4.out⟩
    have HD4 : Hid (R = (ls.all (vanB md vs) && !vanB md vs m)) := by show _ = _; rw [HD3.out, if_pos hpv]
    have HVQ := Lib.hid (HVA.out HMD.out hpv)
    rw [hpv] at HVE
    clear hpv HVA HD3
    go_enter Tryz.func33, Tryz.ntmps33
    go_wp2_with (first
      | (go_at_call 70; refine (HPE.out).mono ?_; rintro e w3 ⟨he, hB⟩; subst he; have HX3 : Hid (Ext _ w3) := Lib.hid hB; obtain ⟨⟨a0, a1⟩, hx⟩ := HX1.out _ hB; have HB := Lib.hid hx; clear hB hx)
      | (go_at_call 76; refine (HVE.out _ HB.out).mono ?_; rintro e w4 ⟨he, hB⟩; subst he; have HX4 := Lib.hid (Ext.trans HX3.out hB); clear hB))
    go_loopw [34] (fun i wr => ∃ j : Nat, j ≤ ls.length ∧ i = .int .i64 j ∧ Hid (R = ((ls.drop j).all (vanB md vs) && !vanB md vs m)) ∧ Ext w4 wr) (fun i _ => ls.length - (intOf i).toNat)
    case atStart => exact ⟨0, Nat.zero_le _, rfl, HD4.out, Ext.refl _⟩
    case round =>
      obtain ⟨j, hj, rfl, HJ, hE⟩ := hrel
      have HE := Lib.hid (Ext.trans HX4.out hE)
      obtain ⟨⟨a0, a1⟩, hw⟩ := HX1.out _ HE.out
      have HW := Lib.hid hw
      have HE4 := Lib.hid hE
      by_cases hlt : j < ls.length
      rotate_left
      · have hn : ls.drop j = [] := List.drop_eq_nil_of_le (by omega)
        have HR2 : Hid (R = !vanB md vs m) := by show _ = _; rw [HJ.out, hn]; rfl
        have HC := Lib.hid (HVQ.out m HOM.out HZM.out xm cm wr hw (PRow_below HRM.out hw))
        generalize vanB md vs m = B at HC HR2
        clear hn hw hE
        go_wp2_with (go_at_call 77; refine (HC.out).mono ?_; rintro e w6 ⟨he, hB⟩; subst he; have HB6 := Lib.hid (Ext.trans HW.out hB); clear hB)
        go_ret
        exact ⟨by rw [HR2.out]; rfl, HB6.out⟩
      obtain ⟨b, o, rfl⟩ := PsRow_at HRL.out (by omega)
      obtain ⟨ya, c, g0, hc, hr⟩ := PsRow_get (PsRow_below HRL.out hw) j hlt
      have HC := Lib.hid (HVQ.out ls[j] (HOK.out _ (List.getElem_mem hlt)) (HZ.out _ (List.getElem_mem hlt)).2 ya c wr hw hr)
      have hd := all_drop (vanB md vs) ls j hlt
      have i1 : (0 : Int) ≤ (j : Int) := by omega
      have i2 : (j : Int) < (ls.length : Int) := by omega
      obtain ⟨B, hB⟩ : ∃ B, vanB md vs ls[j] = B := ⟨_, rfl⟩
      rw [hB] at HC hd
      clear hw hE hr hB
      cases B with
      | true =>
        have HJ2 : Hid (R = ((ls.drop (j + 1)).all (vanB md vs) && !vanB md vs m)) := by show _ = _; rw [HJ.out, hd, Bool.true_and]
        clear hd
        go_wp2_with (go_at_call 77; refine (HC.out).mono ?_; rintro e w6 ⟨he, hB⟩; subst he; have HB6 := Lib.hid (Ext.trans HE4.out hB); clear hB)
        go_roundw
        case rel => exact ⟨j + 1, by omega, by go_num, HJ2, HB6.out⟩
        case measure => simp [intOf]; omega
      | false =>
        have HR2 : Hid (R = false) := by show _ = _; rw [HJ.out, hd]; rfl
        clear hd
        go_wp2_with (go_at_call 77; refine (HC.out).mono ?_; rintro e w6 ⟨he, hB⟩; subst he; have HB6 := Lib.hid (Ext.trans HW.out hB); clear hB)
        go_ret
        exact ⟨by rw [HR2.out]; rfl, HB6.out⟩
end Go.Proofs.YtcieadjjcpmieaaGreat
