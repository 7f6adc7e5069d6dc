/-
  THE REFERENCE'S Mul: the product of two products.
-/
import Derived.Test.YtgloecnmjieaiaaGreatPradd
import Derived.Test.YtgloecnmjieaiaaGreatPops
namespace Go.Proofs.YtgloecnmjieaiaaGreat
open Go.RowKit

theorem addG_len (t : Tm) (n : Int) : ∀ (l : List Pw) (d : Bool), (addG t n l d).length ≤ l.length + (if d = true then 0 else 1)
  | [], d => by rw [addG]; cases d <;> simp
  | p :: ps, d => by
    have h1 := addG_len t n ps true
    have h2 := addG_len t n ps d
    rw [addG]
    cases d <;> simp only [List.length_cons, Bool.false_eq_true, if_true, if_false, true_and, false_and, Nat.add_zero, reduceCtorEq] at h1 h2 ⊢ <;> (repeat' split) <;> (try simp only [List.length_cons]) <;> omega
theorem addsP_len : ∀ (ps l : List Pw), (addsP l ps).length ≤ l.length + ps.length
  | [], l => by simp [addsP]
  | p :: ps, l => by
    have h1 := addsP_len ps (addP l p)
    have h2 : (addP l p).length ≤ l.length + 1 := addG_len p.1 p.2 l false
    rw [show addsP l (p :: ps) = addsP (addP l p) ps from rfl, List.length_cons]
    omega
theorem addsP_take {a b : List Pw} {j : Nat} (h : j < b.length) : addsP a (b.take (j + 1)) = addP (addsP a (b.take j)) b[j] := by
  rw [List.take_succ_eq_append_getElem h, addsP_app]; rfl
theorem mul_step {a b : List Pw} (ha : powE 1000 a = 0) (hb : powE 1000 b = 0) (hsa : SzP 1073741824 a) (hsb : SzP 1073741824 b) (j : Nat) : (addsP a (b.take j)).length ≤ 400 ∧ SzP 1073741824 (addsP a (b.take j)) ∧ (∀ p ∈ addsP a (b.take j), ¬ p.2 = 0) ∧ ∀ p ∈ addsP a (b.take j), -2305843009213693952 ≤ p.2 ∧ p.2 ≤ 2305843009213693952 := by
  obtain ⟨a1, a2, a3, a4⟩ := prod_norm ha
  obtain ⟨b1, b2, b3, b4⟩ := prod_norm hb
  obtain ⟨c1, c2, c3⟩ := addsP_norm (b.take j) a2 (fun p hp => b2.2 p (List.mem_of_mem_take hp))
  refine ⟨?_, fun q hq => ?_, c1.2, fun q hq => ?_⟩
  · have := addsP_len (b.take j) a
    have h := List.length_take_le j b
    have h2 : (b.take j).length ≤ b.length := by rw [List.length_take]; omega
    omega
  · rcases c2 q hq with ⟨p, hp, e⟩ | ⟨p, hp, e⟩
    · rw [e]; exact hsb p (List.mem_of_mem_take hp)
    · rw [e]; exact hsa p hp
  · have h1 := norm_get c1 hq
    have h2 := pwr_abs a q.1
    have h3 := pwr_abs (b.take j) q.1
    have h4 := absS_take_le b j
    rw [c3] at h1
    omega
/-- A whole row appended to an empty slice that was just made. -/
theorem wpList_copy_pow {W w0 : World} {ops : Array Oper} {rest : List Oper} {o : Oper} {a : Act} {Q : Exit → Act → World → Prop} (hgd : o.guard = none) (s x : Operand)
    (ho : o.op = .call { callee := .builtin .append, args := #[s, x], argTypes := #[27, 27] }) {ps : List Pw} {xa : Option Addr} {ca : Nat} (hR : PRow w0 ps xa) (hE : Ext w0 W) (hlen : ps.length ≤ 1048577)
    (hs : a.eval s = .slice (some ⟨W.heap.size, 0, none⟩) 0 0) (hx : a.eval x = .slice xa ps.length ca)
    (h : ∀ xo co w8, PRow w8 ps xo → ps.length ≤ co → Ext W w8 → wpList Tryz.prog ops Q rest (a.put o.dst (.slice xo ps.length co)) w8) :
    wpList Tryz.prog ops Q (o :: rest) a (W.alloc (.cells #[] 77)) := by
  obtain ⟨i0, hi0, hz0, hz1, hz2⟩ := info_parts infoPw
  have hown : (W.alloc (.cells #[] 77)).ownsRow W.heap.size 77 5 (.slice (some ⟨W.heap.size, 0, none⟩) 0 0) 0 [] := World.ownsRow_made W #[] 0 (Nat.le_refl _) (by simp [maxLen]) rfl
  have hEa : Ext w0 (W.alloc (.cells #[] 77)) := hE.alloc _
  by_cases h0 : ps.length = 0
  · have hn : ps = [] := List.length_eq_zero_iff.1 h0
    subst hn
    exact wpList_append_zero hgd s x _ ho 77 i0 Tryz.underlying27 hi0 _ 0 0 hs xa ca hx (Nat.le_refl _) (h _ 0 _ (Or.inl rfl) (Nat.le_refl _) ((Ext.refl W).alloc _))
  · obtain ⟨b2, o2, rfl⟩ := PRow_at hR (by omega)
    obtain ⟨ds, hd1, hd2, hd3⟩ := src_cells hR
    obtain ⟨hd4, hd5⟩ := hd1 _ hEa
    refine wpList_append_own_at _ hgd s x _ ho W.heap.size 77 i0 _ 5 64 Tryz.underlying27 hi0 hz0 hz1 hz2 rfl (by omega) (.slice (some ⟨W.heap.size, 0, none⟩) 0 0) 0 [] hs hown ⟨b2, o2, none⟩ ps.length ca ds hx hd2 hd5 hd3 (by unfold maxLen; omega) (by omega) (by rw [World.size_alloc]; omega) ?_
    intro v1 w1 hown1 hgrow _ _
    have hj := OwnP_join (H := W.heap.size) (base := w0.heap.size) (acc := []) (qs := ps) hown rfl (Below.size hE) (by rw [World.size_alloc]; omega) hd4 hown1 hgrow
    rw [List.nil_append] at hj
    obtain ⟨xo, co, rfl⟩ := OwnP_form hj.1
    exact h xo co w1 (OwnP_row hj.1).1 (OwnP_row hj.1).2 (((Below.refl W.heap.size W).alloc (Nat.le_refl _) _).trans hj.2)
set_option maxHeartbeats 3200000 in
set_option maxRecDepth 100000 in
theorem rMul_any (a b : List Pw) (xa xb : Option Addr) (ca cb : Nat) (w : World) (hla : a.length ≤ maxLen) (hlb : b.length ≤ maxLen) (hsa : SzP 1073741824 a) (hsb : SzP 1073741824 b) (hA : PRow w a xa) (hB : PRow w b xb) :
    Calls Tryz.prog 22 #[.slice xa a.length ca, .slice xb b.length cb] w (PePost w (mulP a b)) := by
  have HVA := Lib.hid (rpowE_any a xa ca w hla hsa hA)
  have HVB := Lib.hid (fun W (y : Ext w W) => rpowE_any b xb cb W hlb hsb (PRow_below (w' := W) hB y))
  have HD : Hid (mulP a b = if powE 1000 a = 0 then (if powE 1000 b = 0 then (if rangeE (addsP a b) = 0 then (addsP a b, 0) else ([], rangeE (addsP a b))) else ([], powE 1000 b)) else ([], powE 1000 a)) := rfl
  generalize mulP a b = R at HD ⊢
  by_cases ha : powE 1000 a = 0
  rotate_left
  · have HE : Hid (R = ([], powE 1000 a)) := by show _ = _; rw [HD.out, if_neg ha]
    generalize powE 1000 a = E at ha HVA HE
    have q1 : (E != 0) = true := by rw [bne_iff_ne]; exact ha
    clear ha hA hB HD HVB hsa hsb hla hlb
    go_enter Tryz.func22, Tryz.ntmps22
    go_wp2_with (go_at_call 53; refine (HVA.out).mono ?_; rintro e w1 ⟨he, hB⟩; subst he; have HB1 := Lib.hid hB; clear hB)
    exact bodyPost_ret (v := .tuple #[.slice none 0 0, .int .i64 E]) (by simp [results, Tryz.results22, go_sem]) rfl (PePost_err HE.out HB1.out)
  by_cases hb : powE 1000 b = 0
  rotate_left
  · have HE : Hid (R = ([], powE 1000 b)) := by show _ = _; rw [HD.out, if_pos ha, if_neg hb]
    rw [ha] at HVA
    generalize powE 1000 b = E at hb HVB HE
    have q0 : ((0 : Int) != 0) = false := rfl
    have q1 : (E != 0) = true := by rw [bne_iff_ne]; exact hb
    clear ha hb hA hB HD hsa hsb hla hlb
    go_enter Tryz.func22, Tryz.ntmps22
    have tok1 : True := trivial
    go_wp2_with (first
      | (go_at_call 53; have _t := tok1; refine (HVA.out).mono ?_; rintro e w1 ⟨he, hB⟩; subst he; have HX1 : Hid (Ext w w1) := hB; clear hB tok1)
      | (go_at_call 53; refine (HVB.out _ HX1.out).mono ?_; rintro e w2 ⟨he, hB⟩; subst he; have HX2 : Hid (Ext w w2) := Ext.trans HX1.out hB; clear hB))
    exact bodyPost_ret (v := .tuple #[.slice none 0 0, .int .i64 E]) (by simp [results, Tryz.results22, go_sem]) rfl (PePost_err HE.out HX2.out)
  rw [ha] at HVA
  rw [hb] at HVB
  have HMS := Lib.hid (fun j => mul_step ha hb hsa hsb j)
  have hal := (powE_ok ha).1
  have hbl := (powE_ok hb).1
  have HD2 : Hid (R = if rangeE (addsP a b) = 0 then (addsP a b, 0) else ([], rangeE (addsP a b))) := by show _ = _; rw [HD.out, if_pos ha, if_pos hb]
  have q0 : ((0 : Int) != 0) = false := rfl
  have HRA := Lib.hid hA
  have HRB := Lib.hid hB
  have HSB := Lib.hid hsb
  have HBR : Hid (∀ p ∈ b, -2305843009213693952 ≤ p.2 ∧ p.2 ≤ 2305843009213693952) := fun p hp => by have := (prod_norm hb).2.2.1 p hp; omega
  clear ha hb hA hB HD hsa hsb hla hlb
  go_enter Tryz.func22, Tryz.ntmps22
  have tok1 : True := trivial
  go_wp2_with (first
    | (go_at_call 53; have _t := tok1; refine (HVA.out).mono ?_; rintro e w1 ⟨he, hB⟩; subst he; have HX1 : Hid (Ext w w1) := hB; clear hB tok1)
    | (go_at_call 53; refine (HVB.out _ HX1.out).mono ?_; rintro e w2 ⟨he, hB⟩; subst he; have HX2 : Hid (Ext w w2) := Ext.trans HX1.out hB; clear hB)
    | (at_builtin; refine wpList_copy_pow rfl _ _ rfl HRA.out HX2.out (by omega) rfl rfl ?_; intro xo co w3 hr3 hc3 hE3; have HR3 := Lib.hid hr3; have HC3 := Lib.hid hc3; have HX3 : Hid (Ext w w3) := Ext.trans HX2.out hE3; clear hr3 hc3 hE3))
  go_loopw [8, 9] (fun v i wr => ∃ (j : Nat) (xl : Option Addr) (cl : Nat), j ≤ b.length ∧ i = .int .i64 j ∧ v = .slice xl (addsP a (b.take j)).length cl ∧ (addsP a (b.take j)).length ≤ cl ∧ PRow wr (addsP a (b.take j)) xl ∧ Ext w wr) (fun _ i _ => b.length - (intOf i).toNat)
  case atStart => exact ⟨0, xo, co, Nat.zero_le _, rfl, by rw [List.take_zero]; rfl, by rw [List.take_zero]; exact HC3.out, by rw [List.take_zero]; exact HR3.out, HX3.out⟩
  case round =>
    obtain ⟨j, xl, cl, hj, rfl, rfl, hcl, hRl, hE⟩ := hrel
    obtain ⟨m1, m2, m3, m4⟩ := HMS.out j
    have HX := Lib.hid hE
    by_cases hlt : j < b.length
    rotate_left
    · obtain rfl : j = b.length := by omega
      rw [List.take_length] at *
      have HRG := Lib.hid (inRange_any (addsP a b) xl cl wr (by omega) hRl)
      have HRL := Lib.hid hRl
      have HCL := Lib.hid hcl
      generalize addsP a b = Q at HRG HRL HCL HD2 ⊢
      clear m1 m2 m3 m4 hRl hcl hE
      by_cases hr0 : rangeE Q = 0
      · have HE : Hid (R = (Q, 0)) := by show _ = _; rw [HD2.out, if_pos hr0]
        rw [hr0] at HRG
        clear hr0 HD2
        go_wp2_with (go_at_call 59; refine (HRG.out).mono ?_; rintro e w3 ⟨he, hB⟩; subst he; have HF : Hid (PePost w R (.returned (.tuple #[.slice xl Q.length cl, .int .i64 0])) w3) := Lib.hid (by rw [HE.out]; exact ⟨xl, cl, rfl, HCL.out, PRow_below HRL.out hB, Ext.trans (a := w) HX.out hB⟩); clear hB)
        exact bodyPost_ret (v := .tuple #[.slice xl Q.length cl, .int .i64 0]) (by simp [results, Tryz.results22, go_sem]) rfl HF.out
      · have HE : Hid (R = ([], rangeE Q)) := by show _ = _; rw [HD2.out, if_neg hr0]
        generalize rangeE Q = E at hr0 HRG HE
        have q1 : (E != 0) = true := by rw [bne_iff_ne]; exact hr0
        clear hr0 HD2
        go_wp2_with (go_at_call 59; refine (HRG.out).mono ?_; rintro e w3 ⟨he, hB⟩; subst he; have HB3 : Hid (Ext w w3) := Ext.trans (a := w) HX.out hB; clear hB)
        exact bodyPost_ret (v := .tuple #[.slice none 0 0, .int .i64 E]) (by simp [results, Tryz.results22, go_sem]) rfl (PePost_err HE.out HB3.out)
    obtain ⟨bb, o, rfl⟩ := PRow_at HRB.out (by omega)
    obtain ⟨⟨c0, c1, c2, c3, f0, f1, f2, f3, hIw⟩, f4, hno⟩ := PRow_get HRB.out j hlt
    obtain ⟨kk, nm, s, za, zl, zc, rfl, rfl, rfl, rfl⟩ := Is_form hIw
    have HCE : Hid (∀ W, Ext w W → (W.cell? ⟨bb, o + j * 5, none⟩ = some (.int .i64 kk) ∧ W.cell? ⟨bb, o + j * 5 + 1, none⟩ = some (.string nm) ∧ W.cell? ⟨bb, o + j * 5 + 2, none⟩ = some (.int .i64 s) ∧ W.cell? ⟨bb, o + j * 5 + 3, none⟩ = some (.slice za zl zc)) ∧ W.cell? ⟨bb, o + j * 5 + 4, none⟩ = some (.int .i64 b[j].2)) := fun W y => ⟨⟨keep_below y _ _ f0, keep_below y _ _ f1, keep_below y _ _ f2, keep_below y _ _ f3⟩, keep_below y _ _ f4⟩
    have HAD := Lib.hid (fun W (y : Ext wr W) => radd_any (addsP a (b.take j)) b[j].1 b[j].2 _ _ _ _ xl cl W (by omega) m2 (HSB.out _ (List.getElem_mem hlt)) m3 m4 (HBR.out _ (List.getElem_mem hlt)) (PRow_below (w' := W) hRl y) (Is_below (w' := W) hIw (Ext.trans hE y)))
    have HST : Hid (addP (addsP a (b.take j)) (b[j].1, b[j].2) = addsP a (b.take (j + 1))) := (addsP_take hlt).symm
    rw [HST.out] at HAD
    obtain ⟨Q2, hQ2⟩ : ∃ Q2, addsP a (b.take (j + 1)) = Q2 := ⟨_, rfl⟩
    have HQ2 := Lib.hid hQ2
    rw [hQ2] at HAD
    generalize b[j].2 = N at HCE HAD
    generalize addsP a (b.take j) = Q at HAD m1 ⊢
    obtain ⟨⟨e0, e1, e2, e3⟩, e4⟩ := HCE.out wr hE
    have i1 : (0 : Int) ≤ (j : Int) := by omega
    have i2 : (j : Int) < (b.length : Int) := by omega
    have hF0 : Ext wr wr.drew := (Ext.refl wr).drew
    clear f0 f1 f2 f3 f4 hIw hno m1 m2 m3 m4 hcl hRl hE hQ2 HST
    go_wp2_with fail
    go_region_held3 (fun W => (W.cell? ⟨bb, o + j * 5, none⟩ = some (.int .i64 kk) ∧ W.cell? ⟨bb, o + j * 5 + 1, none⟩ = some (.string nm) ∧ W.cell? ⟨bb, o + j * 5 + 2, none⟩ = some (.int .i64 s) ∧ W.cell? ⟨bb, o + j * 5 + 3, none⟩ = some (.slice za zl zc)) ∧ W.cell? ⟨bb, o + j * 5 + 4, none⟩ = some (.int .i64 N))
      (first | exact HCE.out _ (Ext.trans HX.out (by assumption)) | go_keep)
      (first | (go_at_call 58; refine (HAD.out _ hF0).mono ?_; rintro e w4 ⟨x4, c4, he, hc, hr, hB⟩; subst he; have hF1 : Ext wr w4 := hF0.trans hB; have HR4 := Lib.hid hr; have HC4 := Lib.hid hc; clear hc hr hB))
    all_goals (go_wp2_with fail)
    all_goals (go_roundw)
    all_goals (first | exact ⟨j + 1, x4, c4, by omega, by go_num, by rw [HQ2.out], by rw [HQ2.out]; exact HC4.out, by rw [HQ2.out]; exact HR4.out, Ext.trans HX.out hF1⟩ | (simp [intOf]; omega))
end Go.Proofs.YtgloecnmjieaiaaGreat
