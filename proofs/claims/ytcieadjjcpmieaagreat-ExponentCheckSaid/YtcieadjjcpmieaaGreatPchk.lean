/-
  exponent.Check: its closure, slices.EqualFunc at powers, the occurrences that it gathers, and its walk.
-/
import Derived.Test.YtcieadjjcpmieaaGreatPall
import Derived.Test.YtcieadjjcpmieaaGreatPvan
import Derived.Test.YtcieadjjcpmieaaGreatIntz
import Derived.Deep.RegionHeldLaw
import Derived.Test.YtcieadjjcpmieaaGreatPchar
namespace Go.Proofs.YtcieadjjcpmieaaGreat
open Go.RowKit

/-- A call reports whether something holds. -/
def SaysB (P : Prop) (e : Ending) : Prop := ∃ R : Bool, e = .returned (.bool R) ∧ (R = true ↔ P)
theorem saysB {P : Prop} {e : Ending} {R : Bool} (he : e = .returned (.bool R)) (h : R = true ↔ P) : SaysB P e := ⟨R, he, h⟩
def eqPw (N M C : Int) : Bool := (N == M) && (C == 0)
set_option maxHeartbeats 1600000 in
set_option maxRecDepth 100000 in
theorem chkcl_any (v u : Tm) (k s : Int) (n : ByteArray) (xa : Option Addr) (l c : Nat) (N : Int) (k3 s3 : Int) (n3 : ByteArray) (xa3 : Option Addr) (l3 c3 : Nat) (M : Int) (w : World) (hv : size v ≤ 1073741824) (hu : size u ≤ 1073741824) (hI : Is w v (.int .i64 k) (.string n) (.int .i64 s) (.slice xa l c)) (hJ : Is w u (.int .i64 k3) (.string n3) (.int .i64 s3) (.slice xa3 l3 c3)) :
    Calls Tryz.prog 72 #[.agg #[.int .i64 k, .string n, .int .i64 s, .slice xa l c, .int .i64 N], .agg #[.int .i64 k3, .string n3, .int .i64 s3, .slice xa3 l3 c3, .int .i64 M]] w fun e w' => e = .returned (.bool (eqPw N M (cmpT v u))) ∧ Below w.heap.size w w' := by
  have hX : Ext w ((w.alloc (.cells #[.int .i64 k, .string n, .int .i64 s, .slice xa l c, .int .i64 N] 77)).alloc (.cells #[.int .i64 k3, .string n3, .int .i64 s3, .slice xa3 l3 c3, .int .i64 M] 77)) := ((Ext.refl w).alloc _).alloc _
  have HC := Lib.hid (cfac_any v u k s n xa l c N k3 s3 n3 xa3 l3 c3 M _ hv hu (Is_below hI hX) (Is_below hJ hX))
  have HX := Lib.hid hX
  generalize cmpT v u = C at HC ⊢
  clear hX hI hJ hv hu
  by_cases h : N = M
  · have q1 : (N == M) = true := by simp [h]
    have HE : Hid (eqPw N M C = (C == 0)) := by show _ = _; unfold eqPw; rw [q1, Bool.true_and]
    clear h
    go_enter Tryz.func72, Tryz.ntmps72
    go_wp2_with (go_at_call 73; refine (HC.out).mono ?_; rintro e w3 ⟨he, hB⟩; subst he; have HB := Lib.hid (Ext.trans HX.out hB); clear hB)
    go_ret
    exact ⟨by rw [HE.out]; rfl, HB.out⟩
  · have q1 : (N == M) = false := by simp [h]
    have HE : Hid (eqPw N M C = false) := by show _ = _; unfold eqPw; rw [q1, Bool.false_and]
    clear h
    go_enter Tryz.func72, Tryz.ntmps72
    go_wp2_with fail
    go_ret
    exact ⟨by rw [HE.out]; rfl, HX.out⟩
theorem take_next {qs m : List Pw} {j : Nat} (h : qs.take j = m.take j) (h1 : j < qs.length) (h2 : j < m.length) (e : qs[j] = m[j]) : qs.take (j + 1) = m.take (j + 1) := by
  rw [List.take_succ_eq_append_getElem h1, List.take_succ_eq_append_getElem h2, h, e]
set_option maxHeartbeats 3200000 in
set_option maxRecDepth 100000 in
theorem eqf_any (qs m : List Pw) (xq xm : Option Addr) (cq cm : Nat) (w : World) (hlen : qs.length ≤ 1073741824) (_hlm : m.length ≤ 1073741824) (hzq : SzP 1073741824 qs) (hzm : SzP 1073741824 m) (hQ : PRow w qs xq) (hM : PRow w m xm) :
    Calls Tryz.prog 71 #[.slice xq qs.length cq, .slice xm m.length cm, .func (.func 72) #[] #[]] w fun e w' => SaysB (qs = m) e ∧ Below w.heap.size w w' := by
  by_cases hne : qs.length = m.length
  rotate_left
  · have H : Hid (false = true ↔ qs = m) := ⟨fun h => (by cases h), fun h => absurd (congrArg List.length h) hne⟩
    have q : ((qs.length : Int) != (m.length : Int)) = true := by rw [bne_iff_ne]; omega
    clear hne hQ hM hzq hzm
    go_enter Tryz.func71, Tryz.ntmps71
    go_wp2_with fail
    go_ret
    exact ⟨saysB rfl H.out, Below.refl _ _⟩
  have HNE := Lib.hid hne
  have HQ := Lib.hid hQ
  have HM := Lib.hid hM
  have HZQ := Lib.hid hzq
  have HZM := Lib.hid hzm
  rw [← hne]
  have q : ((qs.length : Int) != (qs.length : Int)) = false := by simp
  clear hne hQ hM hzq hzm
  go_enter Tryz.func71, Tryz.ntmps71
  go_wp2_with fail
  go_loopw [17] (fun i wr => ∃ j : Nat, j ≤ qs.length ∧ i = .int .i64 j ∧ Hid (qs.take j = m.take j) ∧ Ext w wr) (fun i _ => qs.length - (intOf i).toNat)
  case atStart => exact ⟨0, Nat.zero_le _, rfl, by show _ = _; rfl, Ext.refl w⟩
  case round =>
    obtain ⟨j, hj, rfl, HT, hE⟩ := hrel
    have HE := Lib.hid hE
    by_cases hlt : j < qs.length
    rotate_left
    · have H : Hid (qs = m) := by
        show _ = _
        have h := HT.out
        rw [List.take_of_length_le (by omega), List.take_of_length_le (by have := HNE.out; omega)] at h
        exact h
      clear hE
      go_wp2_with fail
      go_ret
      exact ⟨saysB (R := true) rfl ⟨fun _ => H.out, fun _ => rfl⟩, HE.out⟩
    have hlt2 : j < m.length := by have := HNE.out; omega
    obtain ⟨b, o, rfl⟩ := PRow_at HQ.out (by omega)
    obtain ⟨b2, o2, rfl⟩ := PRow_at HM.out (by omega)
    obtain ⟨⟨c0, c1, c2, c3, e0, e1, e2, e3, hI⟩, e4, _⟩ := PRow_get (PRow_below HQ.out hE) j hlt
    obtain ⟨⟨d0, d1, d2, d3, f0, f1, f2, f3, hJ⟩, f4, _⟩ := PRow_get (PRow_below HM.out hE) j hlt2
    obtain ⟨k, n, s, ya, yl, yc, rfl, rfl, rfl, rfl⟩ := Is_form hI
    obtain ⟨k3, n3, s3, ya3, yl3, yc3, rfl, rfl, rfl, rfl⟩ := Is_form hJ
    have HC := Lib.hid (fun W (y : Ext wr W) => chkcl_any qs[j].1 m[j].1 k s n ya yl yc qs[j].2 k3 s3 n3 ya3 yl3 yc3 m[j].2 W (HZQ.out _ (List.getElem_mem hlt)) (HZM.out _ (List.getElem_mem hlt2)) (Is_below (w' := W) hI y) (Is_below (w' := W) hJ y))
    have HEQ : Hid (eqPw qs[j].2 m[j].2 (cmpT qs[j].1 m[j].1) = true ↔ qs[j] = m[j]) := by
      show _ ↔ _
      unfold eqPw
      rw [Bool.and_eq_true, beq_iff_eq, beq_iff_eq, cmp_iffE]
      exact ⟨fun h => Prod.ext h.2 h.1, fun h => by rw [h]; exact ⟨rfl, rfl⟩⟩
    have HNX := Lib.hid (fun h => take_next HT.out hlt hlt2 h)
    have HBD : Hid (¬ qs[j] = m[j] → ¬ qs = m) := fun h e => h (by subst e; rfl)
    generalize eqPw qs[j].2 m[j].2 (cmpT qs[j].1 m[j].1) = R at HC HEQ
    generalize qs[j].2 = N at HC e4
    generalize m[j].2 = M at HC f4
    have hX2 : Ext wr ((wr.alloc (.cells #[.int .i64 k, .string n, .int .i64 s, .slice ya yl yc, .int .i64 N] 77)).alloc (.cells #[.int .i64 k3, .string n3, .int .i64 s3, .slice ya3 yl3 yc3, .int .i64 M] 77)) := ((Ext.refl wr).alloc _).alloc _
    have HC2 := Lib.hid (HC.out _ hX2)
    have HX2 := Lib.hid hX2
    have i1 : (0 : Int) ≤ (j : Int) := by omega
    have i2 : (j : Int) < (qs.length : Int) := by omega
    have f0' := fun o => keep_alloc wr o _ _ f0
    have f1' := fun o => keep_alloc wr o _ _ f1
    have f2' := fun o => keep_alloc wr o _ _ f2
    have f3' := fun o => keep_alloc wr o _ _ f3
    have f4' := fun o => keep_alloc wr o _ _ f4
    have g0 := f0' (.cells #[.int .i64 k, .string n, .int .i64 s, .slice ya yl yc, .int .i64 N] 77)
    have g1 := f1' (.cells #[.int .i64 k, .string n, .int .i64 s, .slice ya yl yc, .int .i64 N] 77)
    have g2 := f2' (.cells #[.int .i64 k, .string n, .int .i64 s, .slice ya yl yc, .int .i64 N] 77)
    have g3 := f3' (.cells #[.int .i64 k, .string n, .int .i64 s, .slice ya yl yc, .int .i64 N] 77)
    have g4 := f4' (.cells #[.int .i64 k, .string n, .int .i64 s, .slice ya yl yc, .int .i64 N] 77)
    clear hE hI hJ f0 f1 f2 f3 f4 f0' f1' f2' f3' f4' hX2 HC
    cases R with
    | true =>
      have HN := Lib.hid (HNX.out (HEQ.out.1 rfl))
      go_wp2_with (go_at_call 72; refine (HC2.out).mono ?_; rintro e w3 ⟨he, hB⟩; subst he; have HE3 := Lib.hid (Ext.trans HE.out (Ext.trans HX2.out hB)); clear hB)
      all_goals (go_roundw)
      all_goals (first | exact ⟨j + 1, by omega, by go_num, HN.out, HE3.out⟩ | (simp [intOf]; omega))
    | false =>
      have HN : Hid (false = true ↔ qs = m) := ⟨fun h => (by cases h), fun h => absurd h (HBD.out (fun e => (by cases HEQ.out.2 e)))⟩
      go_wp2_with (go_at_call 72; refine (HC2.out).mono ?_; rintro e w3 ⟨he, hB⟩; subst he; have HE3 := Lib.hid (Ext.trans HE.out (Ext.trans HX2.out hB)); clear hB)
      go_ret
      exact ⟨saysB rfl HN.out, HE3.out⟩
end Go.Proofs.YtcieadjjcpmieaaGreat

/-
  exponent.Check: what it gathers, on plain data, and its walk.
-/
namespace Go.Proofs.YtcieadjjcpmieaaGreat
open Go.RowKit

/-- The powers of the generators, each to its power. -/
def allC : List (List Pw) → List Int → List Pw
  | [], _ => []
  | _ :: _, [] => []
  | l :: ls, c :: cs => (l.map fun p => (p.1, c * p.2)) ++ allC ls cs
theorem allC_take : ∀ (ls : List (List Pw)) (cs : List Int) (j : Nat) (h : j < ls.length) (h2 : j < cs.length), allC (ls.take (j + 1)) (cs.take (j + 1)) = allC (ls.take j) (cs.take j) ++ (ls[j].map fun p => (p.1, cs[j] * p.2))
  | [], cs, j, h, _ => by simp at h
  | l :: ls, [], j, _, h2 => by simp at h2
  | l :: ls, c :: cs, 0, _, _ => by
    rw [List.take_succ_cons, List.take_succ_cons, List.take_zero, List.take_zero, List.take_zero, List.take_zero, allC, allC, allC, List.append_nil, List.nil_append]; rfl
  | l :: ls, c :: cs, j + 1, h, h2 => by
    rw [List.take_succ_cons, List.take_succ_cons, List.take_succ_cons, List.take_succ_cons, allC, allC, allC_take ls cs j (by simpa using h) (by simpa using h2), List.append_assoc]; rfl
theorem map_cp {K n : Nat} {l : List Pw} (h : Cp K n l) {c : Int} (hc : c.natAbs ≤ 35184372088832) : ∀ p ∈ (l.map fun p => (p.1, c * p.2)), p.2.natAbs ≤ 35184372088832 * K ∧ ∃ i, i < 6 ∧ p.1 = atomN i := fun p hp => by
  obtain ⟨r, hr, rfl⟩ := List.mem_map.1 hp
  refine ⟨?_, h.2.2.2 r hr⟩
  show (c * r.2).natAbs ≤ _
  rw [Int.natAbs_mul]
  exact Nat.mul_le_mul hc (h.2.2.1 r hr)
theorem allC_ok : ∀ {ls : List (List Pw)} {cs : List Int}, (∀ l ∈ ls, Cp 128 6 l) → (∀ c ∈ cs, c.natAbs ≤ 35184372088832) → (allC ls cs).length ≤ 6 * ls.length ∧ ∀ p ∈ allC ls cs, p.2.natAbs ≤ 35184372088832 * 128 ∧ ∃ i, i < 6 ∧ p.1 = atomN i
  | [], cs, _, _ => ⟨by simp [allC], fun p hp => by simp [allC] at hp⟩
  | l :: ls, [], _, _ => ⟨by simp [allC], fun p hp => by simp [allC] at hp⟩
  | l :: ls, c :: cs, h, hc => by
    obtain ⟨i1, i2⟩ := allC_ok (ls := ls) (cs := cs) (fun x hx => h x (List.mem_cons_of_mem _ hx)) (fun x hx => hc x (List.mem_cons_of_mem _ hx))
    have hl := h l (List.mem_cons_self ..)
    refine ⟨?_, fun p hp => ?_⟩
    · have := hl.2.1
      rw [allC, List.length_append, List.length_map, List.length_cons]; omega
    · rw [allC] at hp
      rcases List.mem_append.1 hp with hp | hp
      · exact map_cp hl (hc c (List.mem_cons_self ..)) p hp
      · exact i2 p hp
theorem absS_leB {B : Nat} : ∀ {ps : List Pw}, (∀ p ∈ ps, p.2.natAbs ≤ B) → absS ps ≤ ps.length * B
  | [], _ => by simp [absS]
  | p :: ps, h => by
    have h1 := h p (List.mem_cons_self ..)
    have h2 := absS_leB (ps := ps) fun q hq => h q (List.mem_cons_of_mem _ hq)
    rw [absS, List.length_cons, Nat.succ_mul]; omega
/-- The product of the generators to the powers is the product. -/
def ChkP (ls : List (List Pw)) (m : List Pw) (cs : List Int) : Prop := cs.length = ls.length ∧ (∀ c ∈ cs, c.natAbs ≤ 35184372088832) ∧ ∀ t, pwr (allC ls cs) t = pwr m t
/-- Numbers in a row. -/
def IntR (w : World) (cs : List Int) (xc : Option Addr) : Prop := cs.length ≤ maxLen ∧ (∀ x ∈ cs, i64ok x) ∧ ∀ i (h : i < cs.length), ∃ b o, xc = some ⟨b, o, none⟩ ∧ w.cell? ⟨b, o + i, none⟩ = some (.int .i64 cs[i])
theorem IntR.ext {w W : World} {cs : List Int} {xc : Option Addr} (h : IntR w cs xc) (y : Ext w W) : IntR W cs xc := ⟨h.1, h.2.1, fun i hi => by
  obtain ⟨b, o, e, hc⟩ := h.2.2 i hi
  exact ⟨b, o, e, keep_below y _ _ hc⟩⟩
theorem IntR_of {w : World} {cs : List Int} {v : Value} (h : IntsV w v cs) : ∃ xc cap, v = .slice xc cs.length cap ∧ IntR w cs xc := by
  obtain ⟨xc, cap, rfl, h1, h2, h3⟩ := h
  refine ⟨xc, cap, rfl, h1, h2, fun i hi => ?_⟩
  obtain ⟨b, o, e, hc⟩ := h3 (by omega)
  exact ⟨b, o, e, hc i hi⟩
set_option maxHeartbeats 6400000 in
set_option maxRecDepth 100000 in
theorem chk_any (ls : List (List Pw)) (m : List Pw) (cs : List Int) (xa xm xc : Option Addr) (ca cm cc : Nat) (w : World) (hcp : ∀ l ∈ ls, Cp 128 6 l) (h8 : ls.length ≤ 8) (hm : Cp 1000 200 m) (hR : PsRow w ls xa) (hRm : PRow w m xm) (hC : IntR w cs xc) :
    Calls Tryz.prog 31 #[.slice xa ls.length ca, .slice xm m.length cm, .slice xc cs.length cc] w fun e w' => SaysB (ChkP ls m cs) e ∧ Below w.heap.size w w' := by
  have hcl := hC.1
  unfold maxLen at hcl
  have q1 : (ls.length : Int) ≤ 200 := by omega
  by_cases hne : cs.length = ls.length
  rotate_left
  · have H : Hid (false = true ↔ ChkP ls m cs) := ⟨fun h => (by cases h), fun h => absurd h.1 hne⟩
    have q2 : ((cs.length : Int) != (ls.length : Int)) = true := by rw [bne_iff_ne]; omega
    clear hne hR hRm hC hcp hm
    go_enter Tryz.func31, Tryz.ntmps31
    go_wp2_with fail
    go_ret
    exact ⟨saysB rfl H.out, Below.refl _ _⟩
  have HPE := Lib.hid (prodsE_any ls m xa xm ca cm w (by omega) (fun l hl => ⟨by have := (hcp l hl).2.1; unfold maxLen; omega, (hcp l hl).sz _ (by omega)⟩) hR (by have := hm.2.1; unfold maxLen; omega) (hm.sz _ (by omega)) hRm)
  rw [prodsE_mk (fun l hl => (hcp l hl).ok (by decide) (by decide)) (hm.ok (by decide) (by decide))] at HPE
  have HR := Lib.hid hR
  have HRM := Lib.hid (fun W (y : Ext w W) => PRow_below (w' := W) hRm y)
  have HC := Lib.hid hC
  have HCP := Lib.hid hcp
  have HM := Lib.hid hm
  have HNE := Lib.hid hne
  have H8 := Lib.hid h8
  have HTK := Lib.hid (fun j h h2 => allC_take ls cs j h h2)
  have HBD : Hid (∀ c ∈ cs, ¬ c.natAbs ≤ 35184372088832 → (false = true ↔ ChkP ls m cs)) := fun c hc h => ⟨fun x => (by cases x), fun x => absurd (x.2.1 c hc) h⟩
  have HFI : Hid (∀ qs : List Pw, (∀ c ∈ cs, c.natAbs ≤ 35184372088832) → NormP qs → (∀ t, pwr qs t = pwr (allC ls cs) t) → ∀ R : Bool, (R = true ↔ qs = m) → (R = true ↔ ChkP ls m cs)) := by
    show ∀ _, _
    intro qs hn h1 h2 R hr
    rw [hr]
    refine ⟨fun e => ⟨hne, hn, fun t => ?_⟩, fun e => norm_ext h1 hm.1 fun t => ?_⟩
    · rw [← h2, e]
    · rw [h2, e.2.2]
  obtain ⟨i0, hi0, hz0, hz1, hz2⟩ := info_parts infoPw
  have HI0 := Lib.hid (And.intro hi0 (And.intro hz0 (And.intro hz1 hz2)))
  have q2 : ((ls.length : Int) != (ls.length : Int)) = false := by simp
  have q3 : ((0 : Int) != 0) = false := rfl
  rw [hne]
  clear hne hR hRm hC hcp hm hi0 hz0 hz1 hz2
  go_enter Tryz.func31, Tryz.ntmps31
  go_wp2_with (go_at_call 70; refine (HPE.out).mono ?_; rintro e w2 ⟨he, hB⟩; subst he; have HX2 := Lib.hid (show Ext w w2 from hB); clear hB)
  go_loopw [7, 30] (fun v i wr => ∃ j : Nat, j ≤ ls.length ∧ i = .int .i64 j ∧ OwnP w.heap.size (fun b => b < w.heap.size) wr (allC (ls.take j) (cs.take j)) v ∧ Hid (∀ c ∈ cs.take j, c.natAbs ≤ 35184372088832) ∧ Ext w wr) (fun _ i _ => ls.length - (intOf i).toNat)
  case atStart => exact ⟨0, Nat.zero_le _, rfl, by rw [List.take_zero, List.take_zero]; exact OwnP_nil _ _ _, fun c hc => by simp at hc, HX2.out⟩
  case round =>
    obtain ⟨j, hj, rfl, hO, HN, hE⟩ := hrel
    have HE := Lib.hid hE
    by_cases hlt : j < ls.length
    rotate_left
    · have hjl : j = ls.length := by omega
      have hT1 : ls.take j = ls := by rw [hjl, List.take_length]
      have hT2 : cs.take j = cs := by rw [hjl, ← HNE.out, List.take_length]
      rw [hT1, hT2] at hO
      have hnear : ∀ c ∈ cs, c.natAbs ≤ 35184372088832 := by have h := HN.out; rw [hT2] at h; exact h
      obtain ⟨o1, o2⟩ := allC_ok HCP.out hnear
      have hab := absS_leB (fun p hp => (o2 p hp).1)
      have hsz : SzP 1073741824 (allC ls cs) := fun p hp => by obtain ⟨i, hi, e⟩ := (o2 p hp).2; rw [e, (atom_facts i hi).2.2.1]; decide
      obtain ⟨xl, lcap, rfl⟩ := OwnP_form hO
      have HG := Lib.hid (gathered_any hO (fun b hb => hb) hE.size hsz (by omega) (Nat.le_trans hab (Nat.le_trans (Nat.mul_le_mul_right _ (show (allC ls cs).length ≤ 48 by omega)) (by decide))))
      unfold GaPost at HG
      have HFI2 := Lib.hid (fun qs h1 h2 R hr => HFI.out qs hnear h1 h2 R hr)
      obtain ⟨A, hA⟩ : ∃ A, (allC ls cs).length = A := ⟨_, rfl⟩
      have HA : Hid (A ≤ 48) := Lib.hid (by omega)
      rw [hA] at HG ⊢
      clear hO hnear o1 o2 hab hsz hT1 hT2 hE hA
      go_wp2_with (first
        | (go_at_call 44; (refine (HG.out).mono ?_; rintro e w3 ⟨qs, xq, cq, he, hr, hc, hle, hnm, hpw, hz, hB, hs⟩; subst he; have HX3 := Lib.hid (show Ext w w3 from Below.trans HE.out hB); have HQ := Lib.hid hr; have HNP := Lib.hid hnm; have HPW := Lib.hid hpw; have HZ := Lib.hid hz; have HLE : Hid (qs.length ≤ 48) := Lib.hid (Nat.le_trans hle HA.out); have HEQ := Lib.hid (eqf_any qs m xq xm cq cm w3 (by have := HLE.out; omega) (by have := HM.out.2.1; omega) HZ.out (HM.out.sz _ (by omega)) HQ.out (HRM.out _ HX3.out)); clear hr hc hle hnm hpw hz hB hs))
        | (go_at_call 71; refine (HEQ.out).mono ?_; rintro e w4 ⟨⟨R, he, hr⟩, hB⟩; subst he; have HF := Lib.hid (HFI2.out qs HNP.out HPW.out R hr); have HX4 := Lib.hid (Ext.trans HX3.out hB); clear hr hB))
      go_ret
      exact ⟨saysB rfl HF.out, HX4.out⟩
    have hltc : j < cs.length := by rw [HNE.out]; exact hlt
    obtain ⟨b, o, rfl⟩ := PsRow_at HR.out (by omega)
    obtain ⟨ya, c, g0, hc0, hRj⟩ := PsRow_get HR.out j hlt
    obtain ⟨bc, oc, rfl, gc⟩ := HC.out.2.2 j hltc
    have hci := HC.out.2.1 _ (List.getElem_mem hltc)
    have HTJ := Lib.hid (HTK.out j hlt hltc)
    have HPJ := Lib.hid (HCP.out _ (List.getElem_mem hlt))
    have HBJ := Lib.hid (HBD.out _ (List.getElem_mem hltc))
    have HNJ : Hid (cs[j].natAbs ≤ 35184372088832 → ∀ c ∈ cs.take (j + 1), c.natAbs ≤ 35184372088832) := by
      show _ → _
      intro h c hc
      rw [List.take_succ_eq_append_getElem hltc] at hc
      rcases List.mem_append.1 hc with hc | hc
      · exact HN.out c hc
      · simp only [List.mem_cons, List.not_mem_nil, or_false] at hc
        rw [hc]; exact h
    have HG0 : Hid (∀ W, Ext w W → W.cell? ⟨b, o + j, none⟩ = some (.slice ya ls[j].length c)) := fun W y => keep_below y _ _ g0
    have HRj := Lib.hid (fun W (y : Ext w W) => PRow_below (w' := W) hRj y)
    obtain ⟨P, hP⟩ : ∃ P, ls[j] = P := ⟨_, rfl⟩
    obtain ⟨C, hCC⟩ : ∃ C, cs[j] = C := ⟨_, rfl⟩
    rw [hP] at HTJ HPJ HG0 HRj
    rw [hCC] at HTJ HBJ HNJ gc hci
    have HGC : Hid (∀ W, Ext w W → W.cell? ⟨bc, oc + j, none⟩ = some (.int .i64 C)) := fun W y => keep_below y _ _ gc
    have hPl : P.length ≤ 6 := HPJ.out.2.1
    have i1 : (0 : Int) ≤ (j : Int) := by omega
    have i2 : (j : Int) < (ls.length : Int) := by omega
    have e0 := HG0.out wr hE
    have ec := HGC.out wr hE
    have HBE := Lib.hid (fun W => beyond_any C 35184372088832 W (by omega) (by omega))
    unfold i64ok at hci
    have HO0 := Lib.hid hO
    obtain ⟨w1, hw1⟩ : ∃ v : World, v = wr := ⟨_, rfl⟩
    subst hw1
    have HE0 := Lib.hid hE
    have hws : w.heap.size ≤ w1.heap.size := hE.size
    clear hO hE g0 gc hRj hP hCC hc0
    by_cases hnr : C.natAbs ≤ 35184372088832
    rotate_left
    · have H := Lib.hid (HBJ.out hnr)
      have hbb : (decide (C < -35184372088832) || decide (35184372088832 < C)) = true := by
        rw [Bool.or_eq_true, decide_eq_true_iff, decide_eq_true_iff]; omega
      rw [hbb] at HBE
      clear hnr hbb
      go_wp2_with (go_at_call 60; refine (HBE.out _).mono ?_; rintro e w3 ⟨he, hB⟩; subst he; subst hB)
      go_ret
      exact ⟨saysB rfl H.out, HE0.out⟩
    have hbb : (decide (C < -35184372088832) || decide (35184372088832 < C)) = false := by
      rw [Bool.or_eq_false_iff, decide_eq_false_iff_not, decide_eq_false_iff_not]; omega
    rw [hbb] at HBE
    have HNX := Lib.hid (HNJ.out hnr)
    have HNR := Lib.hid hnr
    obtain ⟨A0, hA0⟩ : ∃ A, allC (ls.take j) (cs.take j) = A := ⟨_, rfl⟩
    have HL0 : Hid (A0.length ≤ 48) := by
      have h1 := (allC_ok (ls := ls.take j) (cs := cs.take j) (fun l hl => HCP.out l (List.mem_of_mem_take hl)) HN.out).1
      rw [hA0, List.length_take] at h1
      have := H8.out
      show _ ≤ _
      omega
    rw [hA0] at HTJ HO0
    clear hnr hbb hA0 HBJ HNJ HBD
    go_wp2_with (go_at_call 60; refine (HBE.out _).mono ?_; rintro e w3 ⟨he, hB⟩; subst he; subst hB)
    go_loopw [7, 42] (fun v i wr => ∃ k : Nat, k ≤ P.length ∧ i = .int .i64 k ∧ OwnP w.heap.size (fun b => b < w.heap.size) wr (A0 ++ (P.take k).map fun p => (p.1, C * p.2)) v ∧ Ext w wr) (fun _ i _ => P.length - (intOf i).toNat)
    case atStart => exact ⟨0, Nat.zero_le _, rfl, by rw [List.take_zero, List.map_nil, List.append_nil]; exact HO0.out, HE0.out⟩
    case round =>
      obtain ⟨k, hk, rfl, hO, hE⟩ := hrel
      have HE := Lib.hid hE
      by_cases hkt : k < P.length
      rotate_left
      · obtain rfl : k = P.length := by omega
        rw [List.take_length, ← HTJ.out] at hO
        have HO := Lib.hid hO
        clear hO hE
        go_wp2_with fail
        go_roundw
        case rel => exact ⟨j + 1, by omega, by go_num, HO.out, HNX.out, HE.out⟩
        case measure => simp [intOf]; omega
      obtain ⟨b2, o2, rfl⟩ := PRow_at (HRj.out w (Ext.refl _)) (by omega)
      obtain ⟨⟨c0, c1, c2, c3, f0, f1, f2, f3, hIw⟩, f4, hno⟩ := PRow_get (HRj.out w (Ext.refl _)) k hkt
      obtain ⟨kk, nm, s, za, zl, zc, rfl, rfl, rfl, rfl⟩ := Is_form hIw
      have HIB : Hid (∀ W, Ext w W → IsIn (fun b => b < w.heap.size) W P[k].1 (.int .i64 kk) (.string nm) (.int .i64 s) (.slice za zl zc)) := fun W y => IsIn_carry (fun b hb => y.block b hb) (fun _ h => h) _ _ _ _ _ (Is_IsIn _ _ _ _ _ hIw)
      replace f0 := keep_below hE _ _ f0
      replace f1 := keep_below hE _ _ f1
      replace f2 := keep_below hE _ _ f2
      replace f3 := keep_below hE _ _ f3
      replace f4 := keep_below hE _ _ f4
      have hmk := (map_cp (l := [P[k]]) (K := 128) (n := 1) ⟨⟨List.pairwise_singleton _ _, fun p hp => by simp only [List.mem_singleton] at hp; rw [hp]; exact HPJ.out.1.2 _ (List.getElem_mem hkt)⟩, by simp, fun p hp => by simp only [List.mem_singleton] at hp; rw [hp]; exact HPJ.out.2.2.1 _ (List.getElem_mem hkt), fun p hp => by simp only [List.mem_singleton] at hp; rw [hp]; exact HPJ.out.2.2.2 _ (List.getElem_mem hkt)⟩ HNR.out (P[k].1, C * P[k].2) (by simp)).1
      simp only at hmk
      have HST : Hid ((P.take (k + 1)).map (fun p => (p.1, C * p.2)) = (P.take k).map (fun p => (p.1, C * p.2)) ++ [(P[k].1, C * P[k].2)]) := by show _ = _; rw [List.take_succ_eq_append_getElem hkt, List.map_append]; rfl
      have hll : (A0 ++ (P.take k).map fun p => (p.1, C * p.2)).length ≤ 54 := by
        rw [List.length_append, List.length_map, List.length_take]; have := HL0.out; omega
      obtain ⟨xl, lcap, rfl⟩ := OwnP_form hO
      obtain ⟨cs', hown, hK⟩ := hO
      obtain ⟨acc, hacc⟩ : ∃ acc, (A0 ++ (P.take k).map fun p => (p.1, C * p.2)) = acc := ⟨_, rfl⟩
      have HAC : Hid (A0 ++ (P.take (k + 1)).map (fun p => (p.1, C * p.2)) = acc ++ [(P[k].1, C * P[k].2)]) := by show _ = _; rw [HST.out, ← List.append_assoc, hacc]
      rw [hacc] at hown hK hll ⊢
      generalize P[k].1 = T at HIB HAC
      generalize P[k].2 = N at f4 hmk HAC
      obtain ⟨M, hM⟩ : ∃ M, C * N = M := ⟨_, rfl⟩
      rw [hM] at hmk HAC
      have hwM : IntKind.i64.wrap (C * N) = M := (IntWalk.i64_in _ (by rw [hM]; omega)).trans hM
      have hwM2 : IntKind.i64.wrap M = M := IntWalk.i64_in _ (by omega)
      have HMO : Hid (i64ok M) := by show _ ∧ _; omega
      have HWR := Lib.hid (show w.heap.size ≤ wr.heap.size from hE.size)
      obtain ⟨A, hA⟩ : ∃ A, acc.length = A := ⟨_, rfl⟩
      have HA := Lib.hid hA
      rw [hA] at hown hll ⊢
      have HO := Lib.hid (fun W (x : Ext wr W) => own_heap hown (fun q hq => x.block q (hown.lt q hq).2))
      have HPU : Hid (∀ w6, Ext wr w6 → ∀ g cap w8 ob, w8.ownsRow w.heap.size 77 5 (.slice (some ⟨g, 0, none⟩) (A + 1) cap) (A + 1) (cs' ++ [.int .i64 kk, .string nm, .int .i64 s, .slice za zl zc, .int .i64 M]) → (w6.alloc ob).grownBy w8 (Value.slice xl A lcap).ownBlock → OwnP w.heap.size (fun b => b < w.heap.size) w8 (A0 ++ (P.take (k + 1)).map fun p => (p.1, C * p.2)) (.slice (some ⟨g, 0, none⟩) (A + 1) cap) ∧ Ext w w8 ∧ (wr.heap.size < w6.heap.size → w8.heap[wr.heap.size]? = w6.heap[wr.heap.size]?)) := by
        show ∀ _, _
        intro w6 hE6 g cap w8 ob ho8 hg
        have r := OwnP_push HA.out.symm hown hK (Nat.le_refl _) HWR.out hE6 (HIB.out _ (Ext.trans HE.out hE6)) HMO.out ho8 hg
        rw [HAC.out]
        exact ⟨r.1, Below.trans HE.out r.2.1, fun hl => by rw [hg.block _ (by rw [World.size_alloc]; omega) (fun e => by have := (hown.lt _ e.symm).2; omega), Below.heap_alloc _ _ _ hl]⟩
      have HS5 := Lib.hid (SumAt.new wr kk nm s za zl zc N)
      have HEn : Hid (Ext wr (wr.alloc (.cells #[.int .i64 kk, .string nm, .int .i64 s, .slice za zl zc, .int .i64 N] 77))) := (Ext.refl wr).alloc _
      have k1 : (0 : Int) ≤ (k : Int) := by omega
      have k2 : (k : Int) < (P.length : Int) := by omega
      have hP6 : P.length ≤ 6 := hPl
      clear hown hK hIw hno hE hM hacc hA HST
      go_upto_region 12 with fail
      generalize wr.alloc (.cells #[.int .i64 kk, .string nm, .int .i64 s, .slice za zl zc, .int .i64 N] 77) = wq at HS5 HEn ⊢
      obtain ⟨q, hq⟩ : ∃ q, wr.heap.size = q := ⟨_, rfl⟩
      rw [hq] at HS5 HPU ⊢
      have HQL : Hid (q < wq.heap.size) := Lib.hid (World.block_lt_of_cell? wq _ (HS5.out.ext (Ext.refl _)).1.1.1)
      have HS8 : Hid (∀ W W8, Ext wq W → (q < W.heap.size → W8.heap[q]? = W.heap[q]?) → Ext w W8 → (fun W => ((W.cell? ⟨q, 0, none⟩ = some (.int .i64 kk) ∧ W.cell? ⟨q, 1, none⟩ = some (.string nm) ∧ W.cell? ⟨q, 2, none⟩ = some (.int .i64 s) ∧ W.cell? ⟨q, 3, none⟩ = some (.slice za zl zc)) ∧ W.cell? ⟨q, 4, none⟩ = some (.int .i64 N)) ∧ W.cell? ⟨bc, oc + j, none⟩ = some (.int .i64 C)) W8) := by
        show ∀ _, _
        intro W W8 y h z
        have h2 := h (Nat.lt_of_lt_of_le HQL.out y.size)
        obtain ⟨⟨z0, z1, z2, z3⟩, z4⟩ := (HS5.out.ext y).1
        have hc : ∀ p v, W.cell? ⟨q, p, none⟩ = some v → W8.cell? ⟨q, p, none⟩ = some v := fun p v hv => by rw [World.cell?_of_block (w := W) (a := ⟨q, p, none⟩) h2]; exact hv
        exact ⟨⟨⟨hc _ _ z0, hc _ _ z1, hc _ _ z2, hc _ _ z3⟩, hc _ _ z4⟩, HGC.out W8 z⟩
      have HCr : Hid (∀ W, Ext wq W → (fun W => ((W.cell? ⟨q, 0, none⟩ = some (.int .i64 kk) ∧ W.cell? ⟨q, 1, none⟩ = some (.string nm) ∧ W.cell? ⟨q, 2, none⟩ = some (.int .i64 s) ∧ W.cell? ⟨q, 3, none⟩ = some (.slice za zl zc)) ∧ W.cell? ⟨q, 4, none⟩ = some (.int .i64 N)) ∧ W.cell? ⟨bc, oc + j, none⟩ = some (.int .i64 C)) W) := fun W y => ⟨(HS5.out.ext y).1, HGC.out W (Ext.trans HE.out (Ext.trans HEn.out y))⟩
      obtain ⟨⟨⟨x0, x1, x2, x3⟩, x4⟩, x5⟩ := HCr.out wq (Ext.refl _)
      have hF0 : Ext wq wq.drew := (Ext.refl wq).drew
      have HQW : Hid (w.heap.size ≤ wq.heap.size) := Lib.hid (by have := HWR.out; have := HEn.out.size; omega)
      clear f0 f1 f2 f3 f4 hq
      go_region_held_law (fun W => ((W.cell? ⟨q, 0, none⟩ = some (.int .i64 kk) ∧ W.cell? ⟨q, 1, none⟩ = some (.string nm) ∧ W.cell? ⟨q, 2, none⟩ = some (.int .i64 s) ∧ W.cell? ⟨q, 3, none⟩ = some (.slice za zl zc)) ∧ W.cell? ⟨q, 4, none⟩ = some (.int .i64 N)) ∧ W.cell? ⟨bc, oc + j, none⟩ = some (.int .i64 C))
        (first | exact HS8.out _ _ hF0 HP8.out.2.2 HP8.out.2.1 | exact HCr.out _ (by assumption) | go_keep)
        (first
          | (refine step_append_lies _ (by rfl) _ _ _ (by rfl) w.heap.size 77 i0 _ 5 64 Tryz.underlying27 HI0.out.1 HI0.out.2.1 HI0.out.2.2.1 HI0.out.2.2.2 rfl (by omega) (.slice xl A lcap) A cs' (by rfl) ((HO.out _ (Ext.trans HEn.out hF0)).alloc _) ⟨wq.heap.size, 0, none⟩ 1 1 [.int .i64 kk, .string nm, .int .i64 s, .slice za zl zc, .int .i64 M] (by rfl) (by rfl) (World.news_of_block (cs := #[.int .i64 kk, .string nm, .int .i64 s, .slice za zl zc, .int .i64 M]) (t := 77) (fr := (0, 0)) (heap_alloc_new _ _)) (by simp [Value.oneCell']) (by omega) (by unfold maxLen; omega) (by omega) (by simp; have := HQW.out; omega) (wq.heap.size + 1) (by simp) ?_; intro gg cap8 w8 hown8 hgrow hat hltt; have HP8 := Lib.hid (HPU.out _ (Ext.trans HEn.out hF0) _ _ _ _ hown8 hgrow); clear hown8 hgrow hat hltt))
      all_goals (go_wp2_with fail)
      all_goals (go_roundw)
      all_goals (first | exact ⟨k + 1, by omega, by go_num, HP8.out.1, HP8.out.2.1⟩ | (simp [intOf]; omega))
end Go.Proofs.YtcieadjjcpmieaaGreat
