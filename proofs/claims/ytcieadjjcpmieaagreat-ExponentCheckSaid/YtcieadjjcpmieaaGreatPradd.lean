/-
  THE REFERENCE'S add: a power added to an ordered list.
-/
import Derived.Test.YtcieadjjcpmieaaGreatPmul
import Derived.Test.YtcieadjjcpmieaaGreatPops
namespace Go.Proofs.YtcieadjjcpmieaaGreat
open Go.RowKit

theorem addG_at {t : Tm} {n : Int} {l : List Pw} {j : Nat} {d : Bool} (h : j < l.length) (hc : cmpT t l[j].1 = 0) : addG t n (l.drop j) d = if l[j].2 + n = 0 then addG t n (l.drop (j + 1)) true else (l[j].1, l[j].2 + n) :: addG t n (l.drop (j + 1)) true := by
  rw [List.drop_eq_getElem_cons h, addG, if_pos hc]
theorem addG_lt {t : Tm} {n : Int} {l : List Pw} {j : Nat} (h : j < l.length) (hc : cmpT t l[j].1 < 0) (hz : ¬ l[j].2 = 0) : addG t n (l.drop j) false = (t, n) :: l[j] :: addG t n (l.drop (j + 1)) true := by
  rw [List.drop_eq_getElem_cons h, addG, if_neg (by omega), if_pos ⟨rfl, hc⟩, if_neg hz]
theorem addG_no {t : Tm} {n : Int} {l : List Pw} {j : Nat} {d : Bool} (h : j < l.length) (hc : ¬ cmpT t l[j].1 = 0) (hd : ¬ (d = false ∧ cmpT t l[j].1 < 0)) (hz : ¬ l[j].2 = 0) : addG t n (l.drop j) d = l[j] :: addG t n (l.drop (j + 1)) d := by
  rw [List.drop_eq_getElem_cons h, addG, if_neg hc, if_neg hd, if_neg hz]
/-- A row that lies in blocks from H on. -/
def Fsh (H : Nat) (xa : Option Addr) : Prop := ∀ b o s, xa = some ⟨b, o, s⟩ → H ≤ b
theorem Fsh.mono {H K : Nat} {xa : Option Addr} (h : Fsh H xa) (hk : K ≤ H) : Fsh K xa := fun b o s e => Nat.le_trans hk (h b o s e)
theorem Fsh_none (H : Nat) : Fsh H none := fun _ _ _ e => by cases e
theorem OwnP_fr {H : Nat} {S : Nat → Prop} {w : World} {ps : List Pw} {xa : Option Addr} {n cap : Nat} (h : OwnP H S w ps (.slice xa n cap)) : Fsh H xa := fun b o s e => by
  subst e
  obtain ⟨cs, hown, _⟩ := h
  exact (hown.lt b rfl).1
def PwF (w : World) (ps : List Pw) (e : Ending) (w' : World) : Prop := ∃ xa c, e = .returned (.slice xa ps.length c) ∧ ps.length ≤ c ∧ PRow w' ps xa ∧ Below w.heap.size w w' ∧ Fsh w.heap.size xa
theorem PwF.post {w : World} {ps : List Pw} {e : Ending} {w' : World} (h : PwF w ps e w') : PwPost w ps e w' := by
  obtain ⟨xa, c, h1, h2, h3, h4, _⟩ := h
  exact ⟨xa, c, h1, h2, h3, h4⟩
def PeF (w : World) (r : List Pw × Int) (e : Ending) (w' : World) : Prop :=
  ∃ xa c, e = .returned (.tuple #[.slice xa r.1.length c, .int .i64 r.2]) ∧ r.1.length ≤ c ∧ PRow w' r.1 xa ∧ Below w.heap.size w w' ∧ Fsh w.heap.size xa
theorem PeF.post {w : World} {r : List Pw × Int} {e : Ending} {w' : World} (h : PeF w r e w') : PePost w r e w' := by
  obtain ⟨xa, c, h1, h2, h3, h4, _⟩ := h
  exact ⟨xa, c, h1, h2, h3, h4⟩
theorem PeF_err {w W : World} {r : List Pw × Int} {x : Int} (h : r = ([], x)) (hB : Below w.heap.size w W) : PeF w r (.returned (.tuple #[.slice none 0 0, .int .i64 x])) W := by
  rw [h]; exact ⟨none, 0, rfl, Nat.le_refl _, Or.inl rfl, hB, Fsh_none _⟩
/-- A power appended: the element lies alone in the newest block. -/
theorem wpList_append_pow {W : World} {ops : Array Oper} {rest : List Oper} {o : Oper} {a : Act} {Q : Exit → Act → World → Prop} (hgd : o.guard = none) (s x : Operand)
    (ho : o.op = .call { callee := .builtin .append, args := #[s, x], argTypes := #[27, 27] }) {H base : Nat} {acc : List Pw} {v : Value} (hO : OwnP H (fun b => b < base) W acc v) (hbH : base ≤ H) (hH : H ≤ W.heap.size) (hlen : acc.length ≤ 1048577)
    {t : Tm} {c0 c1 c2 c3 : Value} {N : Int} (h1 : c0.oneCell' = true ∧ c1.oneCell' = true ∧ c2.oneCell' = true ∧ c3.oneCell' = true) (hI : IsIn (fun b => b < base) W t c0 c1 c2 c3) (hN : i64ok N) (hs : a.eval s = v) {z : Nat} (hzW : W.heap.size = z) (hx : a.eval x = .slice (some ⟨z, 0, none⟩) 1 1)
    (h : ∀ v' w8, OwnP H (fun b => b < base) w8 (acc ++ [(t, N)]) v' → Below H W w8 → W.heap.size ≤ w8.heap.size → wpList Tryz.prog ops Q rest (a.put o.dst v') w8) :
    wpList Tryz.prog ops Q (o :: rest) a (W.alloc (.cells #[c0, c1, c2, c3, .int .i64 N] 77)) := by
  subst hzW
  obtain ⟨i0, hi0, hz0, hz1, hz2⟩ := info_parts infoPw
  obtain ⟨xl, lcap, rfl⟩ := OwnP_form hO
  obtain ⟨cs, hown, hK⟩ := hO
  refine wpList_append_lies _ hgd s x _ ho H 77 i0 _ 5 64 Tryz.underlying27 hi0 hz0 hz1 hz2 rfl (by omega) (.slice xl acc.length lcap) acc.length cs hs (hown.alloc _) ⟨W.heap.size, 0, none⟩ 1 1 [c0, c1, c2, c3, .int .i64 N] hx rfl
    (World.news_of_block (cs := #[c0, c1, c2, c3, .int .i64 N]) (t := 77) (fr := (0, 0)) (heap_alloc_new W _)) (fun u hu => by simp only [List.mem_cons, List.not_mem_nil, or_false] at hu; rcases hu with rfl | rfl | rfl | rfl | rfl <;> first | exact h1.1 | exact h1.2.1 | exact h1.2.2.1 | exact h1.2.2.2 | rfl) (by omega) (by unfold maxLen; omega) (by omega) (by rw [World.size_alloc]; omega) (W.heap.size + 1) (by rw [World.size_alloc]) ?_
  intro g cap w8 ho8 hg _ _
  have r := OwnP_push rfl hown hK hbH hH (Ext.refl W) hI hN ho8 hg
  exact h _ _ r.1 r.2.1 r.2.2

theorem OwnP_ext {H base : Nat} {w W : World} {ps : List Pw} {v : Value} (hb : base ≤ H) (hH : H ≤ w.heap.size) (h : OwnP H (fun b => b < base) w ps v) (y : Ext w W) : OwnP H (fun b => b < base) W ps v := by
  obtain ⟨cs, hown, hK⟩ := h
  exact ⟨cs, own_heap hown (fun q hq => y.block q (hown.lt q hq).2), KP_carry (fun b hb => y.block b (by have : b < base := hb; omega)) (fun _ h => h) hK⟩
def AddI (l : List Pw) (t : Tm) (n : Int) (w w0 : World) (v d i : Value) (wr : World) : Prop :=
  ∃ (j : Nat) (out : List Pw) (f : Bool), j ≤ l.length ∧ i = .int .i64 j ∧ d = .bool f ∧ OwnP (w.heap.size + 1) (fun b => b < w.heap.size) wr out v ∧ out.length ≤ j + 1 ∧ (f = false → out.length ≤ j) ∧ addG t n l false = out ++ addG t n (l.drop j) f ∧ Below (w.heap.size + 1) w0 wr
set_option maxHeartbeats 3200000 in
set_option maxRecDepth 100000 in
theorem radd_fr (l : List Pw) (t : Tm) (n : Int) (b0 b1 b2 b3 : Value) (xa : Option Addr) (cap : Nat) (w : World) (hlen : l.length ≤ 1048576) (hsz : SzP 1073741824 l) (hst : size t ≤ 1073741824) (hz : ∀ p ∈ l, ¬ p.2 = 0) (hr : ∀ p ∈ l, -2305843009213693952 ≤ p.2 ∧ p.2 ≤ 2305843009213693952) (hn : -2305843009213693952 ≤ n ∧ n ≤ 2305843009213693952) (hR : PRow w l xa) (hI : Is w t b0 b1 b2 b3) :
    Calls Tryz.prog 58 #[.slice xa l.length cap, .agg #[b0, b1, b2, b3], .int .i64 n] w (PwF w (addP l (t, n))) := by
  obtain ⟨xk, xn, xs, xa2, xl2, xc, rfl, rfl, rfl, rfl⟩ := Is_form hI
  have hbx := heap_alloc_new w (.cells #[.int .i64 xk, .string xn, .int .i64 xs, .slice xa2 xl2 xc] 24)
  have hE0 : Ext w (w.alloc (.cells #[.int .i64 xk, .string xn, .int .i64 xs, .slice xa2 xl2 xc] 24)) := (Ext.refl w).alloc _
  have hS0 : (w.alloc (.cells #[.int .i64 xk, .string xn, .int .i64 xs, .slice xa2 xl2 xc] 24)).heap.size = w.heap.size + 1 := World.size_alloc _ _
  have HR := Lib.hid (fun W (y : Ext w W) => PRow_below (w' := W) hR y)
  have HIT := Lib.hid (fun W (y : Ext w W) => Is_below (w' := W) hI y)
  have HITI : Hid (∀ W, Ext w W → IsIn (fun b => b < w.heap.size) W t (.int .i64 xk) (.string xn) (.int .i64 xs) (.slice xa2 xl2 xc)) := fun W y => IsIn_carry (fun b hb => y.block b hb) (fun _ h => h) _ _ _ _ _ (Is_IsIn _ _ _ _ _ hI)
  have HSZ := Lib.hid hsz
  have HST := Lib.hid hst
  have HNZ := Lib.hid hz
  have HRG := Lib.hid hr
  have HNN : Hid (i64ok n) := by show _ ∧ _; omega
  have HAP : Hid (addP l (t, n) = addG t n l false) := rfl
  generalize addP l (t, n) = R at HAP ⊢
  clear hR hI hsz hst hz hr
  go_enter Tryz.func58, Tryz.ntmps58
  go_wp2_with fail
  generalize (w.alloc (.cells #[.int .i64 xk, .string xn, .int .i64 xs, .slice xa2 xl2 xc] 24)) = w0 at hbx hE0 hS0 ⊢
  have HBX : Hid (∀ W, Below (w.heap.size + 1) w0 W → W.heap[w.heap.size]? = some (.cells #[.int .i64 xk, .string xn, .int .i64 xs, .slice xa2 xl2 xc] 24 (0, 0))) := fun W h => (h.block _ (Nat.lt_succ_self _)).trans hbx
  have HS0 := Lib.hid hS0
  have HE0 : Hid (∀ W, Below (w.heap.size + 1) w0 W → Ext w W) := fun W h => Ext.trans hE0 (h.mono (by omega))
  clear hbx hE0 hS0
  go_loopw [7, 8, 9] (fun v d i wr => AddI l t n w w0 v d i wr) (fun _ _ i _ => l.length - (intOf i).toNat)
  case atStart => exact ⟨0, [], false, Nat.zero_le _, rfl, rfl, OwnP_nil _ _ _, by simp, by simp, by rw [List.drop_zero]; rfl, Below.refl _ _⟩
  case round =>
    obtain ⟨j, out, f, hj, rfl, rfl, hO, hol, hof, hA, hB⟩ := hrel
    have hE := HE0.out _ hB
    have hw0 := hB.size
    have HB := Lib.hid hB
    have HHW : Hid (w.heap.size + 1 ≤ wr.heap.size) := by show _ ≤ _; have := HS0.out; omega
    have HOL := Lib.hid hol
    by_cases hlt : j < l.length
    rotate_left
    · obtain rfl : j = l.length := by omega
      rw [List.drop_eq_nil_of_le (Nat.le_refl _)] at hA
      obtain ⟨xl, lcap, rfl⟩ := OwnP_form hO
      have HO := Lib.hid hO
      have HITW := Lib.hid (HITI.out _ hE)
      obtain ⟨⟨y0, y1, y2, y3⟩, _⟩ := box_facts (HBX.out _ hB)
      cases f with
      | true =>
        rw [addG, if_pos rfl, List.append_nil] at hA
        have hRo : R = out := HAP.out.trans hA
        subst hRo
        have HF : Hid (PwF w R (.returned (.slice xl R.length lcap)) wr) := ⟨xl, lcap, rfl, (OwnP_row HO.out).2, (OwnP_row HO.out).1, hE, (OwnP_fr HO.out).mono (Nat.le_succ _)⟩
        clear hA hO hB hE hw0
        go_wp2_with fail
        go_ret
        exact HF.out
      | false =>
        rw [addG, if_neg (by simp)] at hA
        have hRo : R = out ++ [(t, n)] := HAP.out.trans hA
        have HRO := Lib.hid hRo
        have HEX := Lib.hid hE
        clear hA hO hB hE hw0 hRo
        go_wp2_with (at_builtin; refine wpList_append_pow rfl _ _ rfl HO.out (by omega) HHW.out (by first | omega | (simp; omega)) ⟨rfl, rfl, rfl, rfl⟩ HITW.out HNN.out rfl (by first | rfl | simp) rfl ?_; intro v8 w8 hO8 hB8 hs8; obtain ⟨x8, c8, hv8⟩ := OwnP_form hO8; subst hv8; have HF : Hid (PwF w R (.returned (.slice x8 (out.length + 1) c8)) w8) := Lib.hid (by rw [HRO.out]; exact ⟨x8, c8, by simp, (OwnP_row hO8).2, (OwnP_row hO8).1, HE0.out _ (HB.out.trans hB8), (OwnP_fr hO8).mono (Nat.le_succ _)⟩); clear hO8 hB8 hs8)
        go_ret
        exact HF.out
    obtain ⟨xl, lcap, rfl⟩ := OwnP_form hO
    obtain ⟨b, o, rfl⟩ := PRow_at (HR.out w (Ext.refl w)) (by omega)
    obtain ⟨⟨c0, c1, c2, c3, g0, g1, g2, g3, hIv⟩, g4, hNo⟩ := PRow_get (HR.out w (Ext.refl w)) j hlt
    obtain ⟨k, nm, s, ya, yl, yc, rfl, rfl, rfl, rfl⟩ := Is_form hIv
    have HTI : Hid (∀ W, Ext w W → IsIn (fun b => b < w.heap.size) W l[j].1 (.int .i64 k) (.string nm) (.int .i64 s) (.slice ya yl yc)) := fun W y => IsIn_carry (fun b hb => y.block b hb) (fun _ h => h) _ _ _ _ _ (Is_IsIn _ _ _ _ _ hIv)
    have hs1 := HSZ.out _ (List.getElem_mem hlt)
    have hnz := HNZ.out _ (List.getElem_mem hlt)
    have hrg := HRG.out _ (List.getElem_mem hlt)
    have HCM := Lib.hid (fun W (h : Ext w W) => rcompare_any 1073741824 t l[j].1 _ _ _ _ _ _ _ _ W HST.out (by omega) (by omega) (HIT.out W h) (Is_below (w' := W) hIv h))
    have HCE : Hid (∀ W, Below (w.heap.size + 1) w0 W → (W.cell? ⟨b, o + j * 5, none⟩ = some (.int .i64 k) ∧ W.cell? ⟨b, o + j * 5 + 1, none⟩ = some (.string nm) ∧ W.cell? ⟨b, o + j * 5 + 2, none⟩ = some (.int .i64 s) ∧ W.cell? ⟨b, o + j * 5 + 3, none⟩ = some (.slice ya yl yc) ∧ W.cell? ⟨b, o + j * 5 + 4, none⟩ = some (.int .i64 l[j].2)) ∧ W.cell? ⟨w.heap.size, 0, none⟩ = some (.int .i64 xk) ∧ W.cell? ⟨w.heap.size, 1, none⟩ = some (.string xn) ∧ W.cell? ⟨w.heap.size, 2, none⟩ = some (.int .i64 xs) ∧ W.cell? ⟨w.heap.size, 3, none⟩ = some (.slice xa2 xl2 xc)) := by
      show ∀ _, _
      intro W y
      have z := HE0.out _ y
      obtain ⟨⟨y0, y1, y2, y3⟩, _⟩ := box_facts (HBX.out _ y)
      exact ⟨⟨keep_below z _ _ g0, keep_below z _ _ g1, keep_below z _ _ g2, keep_below z _ _ g3, keep_below z _ _ g4⟩, y0, y1, y2, y3⟩
    have HOW : Hid (∀ W, Ext wr W → OwnP (w.heap.size + 1) (fun b => b < w.heap.size) W out (.slice xl out.length lcap)) := by
      show ∀ _, _
      intro W y
      exact OwnP_ext (by omega) HHW.out hO y
    have hAT := addG_at (t := t) (n := n) (d := f) hlt
    have hLT := addG_lt (t := t) (n := n) hlt
    have hNO := addG_no (t := t) (n := n) (d := f) hlt
    have hpe : l[j] = (l[j].1, l[j].2) := rfl
    rw [hpe] at hLT hNO
    obtain ⟨c, hc⟩ : ∃ c, cmpT t l[j].1 = c := ⟨_, rfl⟩
    rw [hc] at hAT hLT hNO HCM
    generalize l[j].2 = N at HCE hAT hLT hNO hnz hrg hNo
    generalize l[j].1 = T at HTI hAT hLT hNO HCM
    obtain ⟨⟨f0, f1, f2, f3, f4⟩, y0, y1, y2, y3⟩ := HCE.out _ hB
    have i1 : (0 : Int) ≤ (j : Int) := by omega
    have i2 : (j : Int) < (l.length : Int) := by omega
    have hF0 : Ext wr wr.drew := (Ext.refl wr).drew
    have HWE : Hid (∀ W, Ext wr W → Below (w.heap.size + 1) w0 W) := fun W y => HB.out.trans (y.mono HHW.out)
    have HAL := Lib.hid hA
    have hNi : i64ok N := hNo
    have HNi := Lib.hid hNi
    clear g0 g1 g2 g3 g4 hIv hs1 hO hB hE hA hc hpe hNo hNi
    by_cases hc0 : c = 0
    · subst hc0
      have hS := hAT rfl
      clear hAT hLT hNO
      have ew : IntKind.i64.wrap (N + n) = N + n := IntWalk.i64_in _ (by omega)
      by_cases hs0 : N + n = 0
      · rw [if_pos hs0] at hS
        have q6 : (N + n != 0) = false := by simp [hs0]
        have HS := Lib.hid hS
        clear hS hs0
        cases f
        all_goals
          go_wp2_with fail
          go_region_held3 (fun W => (W.cell? ⟨b, o + j * 5, none⟩ = some (.int .i64 k) ∧ W.cell? ⟨b, o + j * 5 + 1, none⟩ = some (.string nm) ∧ W.cell? ⟨b, o + j * 5 + 2, none⟩ = some (.int .i64 s) ∧ W.cell? ⟨b, o + j * 5 + 3, none⟩ = some (.slice ya yl yc) ∧ W.cell? ⟨b, o + j * 5 + 4, none⟩ = some (.int .i64 N)) ∧ W.cell? ⟨w.heap.size, 0, none⟩ = some (.int .i64 xk) ∧ W.cell? ⟨w.heap.size, 1, none⟩ = some (.string xn) ∧ W.cell? ⟨w.heap.size, 2, none⟩ = some (.int .i64 xs) ∧ W.cell? ⟨w.heap.size, 3, none⟩ = some (.slice xa2 xl2 xc))
            (first | exact HCE.out _ (HWE.out _ (by assumption)) | go_keep)
            (first | (go_at_call 55; refine (HCM.out _ (HE0.out _ (HWE.out _ hF0))).mono ?_; rintro e w4 ⟨he, hB⟩; subst he; have hF1 : Ext wr w4 := hF0.trans hB; clear hB))
          go_wp2_with fail
          go_roundw
          case rel => exact ⟨j + 1, out, true, by omega, by go_num, rfl, HOW.out _ (Ext.alloc hF1 _), by omega, fun h => (by cases h), by rw [HAL.out, HS.out], HWE.out _ (Ext.alloc hF1 _)⟩
          case measure => simp [intOf]; omega
      · rw [if_neg hs0] at hS
        have q6 : (N + n != 0) = true := by rw [bne_iff_ne]; exact hs0
        have HS := Lib.hid hS
        clear hS hs0
        have HNS : Hid (i64ok (N + n)) := by show _ ∧ _; omega
        cases f
        all_goals
          go_wp2_with fail
          go_region_held3 (fun W => (W.cell? ⟨b, o + j * 5, none⟩ = some (.int .i64 k) ∧ W.cell? ⟨b, o + j * 5 + 1, none⟩ = some (.string nm) ∧ W.cell? ⟨b, o + j * 5 + 2, none⟩ = some (.int .i64 s) ∧ W.cell? ⟨b, o + j * 5 + 3, none⟩ = some (.slice ya yl yc) ∧ W.cell? ⟨b, o + j * 5 + 4, none⟩ = some (.int .i64 N)) ∧ W.cell? ⟨w.heap.size, 0, none⟩ = some (.int .i64 xk) ∧ W.cell? ⟨w.heap.size, 1, none⟩ = some (.string xn) ∧ W.cell? ⟨w.heap.size, 2, none⟩ = some (.int .i64 xs) ∧ W.cell? ⟨w.heap.size, 3, none⟩ = some (.slice xa2 xl2 xc))
            (first | exact HCE.out _ (HWE.out _ (by assumption)) | go_keep)
            (first | (go_at_call 55; refine (HCM.out _ (HE0.out _ (HWE.out _ hF0))).mono ?_; rintro e w4 ⟨he, hB⟩; subst he; have hF1 : Ext wr w4 := hF0.trans hB; clear hB))
          go_wp2_with (at_builtin; refine wpList_append_pow rfl _ _ rfl (HOW.out _ (Ext.alloc hF1 _)) (by omega) (Nat.le_trans HHW.out (Below.size (Ext.alloc hF1 _))) (by first | omega | (simp; omega)) ⟨rfl, rfl, rfl, rfl⟩ (HTI.out _ (HE0.out _ (HWE.out _ (Ext.alloc hF1 _)))) HNS.out rfl (by first | rfl | simp) rfl ?_; intro v8 w8 hO8 hB8 hs8; have HO8 := Lib.hid hO8; have HB8 : Hid (Below (w.heap.size + 1) w0 w8) := Below.trans (HWE.out _ (Ext.alloc hF1 _)) hB8; clear hO8 hB8 hs8)
          go_roundw
          case rel => exact ⟨j + 1, out ++ [(T, N + n)], true, by omega, by go_num, rfl, HO8.out, by simp; omega, fun h => (by cases h), by rw [HAL.out, HS.out, List.append_assoc]; rfl, HB8.out⟩
          case measure => simp [intOf]; omega
    · have q4 : (c == 0) = false := by simp [hc0]
      have q6 : (N != 0) = true := by rw [bne_iff_ne]; exact hnz
      by_cases hB2 : f = false ∧ c < 0
      · obtain ⟨rfl, hcl⟩ := hB2
        have HS := Lib.hid (hLT hcl hnz)
        clear hAT hLT hNO
        have q5 : decide (c < 0) = true := decide_eq_true hcl
        go_wp2_with fail
        go_region_held3 (fun W => (W.cell? ⟨b, o + j * 5, none⟩ = some (.int .i64 k) ∧ W.cell? ⟨b, o + j * 5 + 1, none⟩ = some (.string nm) ∧ W.cell? ⟨b, o + j * 5 + 2, none⟩ = some (.int .i64 s) ∧ W.cell? ⟨b, o + j * 5 + 3, none⟩ = some (.slice ya yl yc) ∧ W.cell? ⟨b, o + j * 5 + 4, none⟩ = some (.int .i64 N)) ∧ W.cell? ⟨w.heap.size, 0, none⟩ = some (.int .i64 xk) ∧ W.cell? ⟨w.heap.size, 1, none⟩ = some (.string xn) ∧ W.cell? ⟨w.heap.size, 2, none⟩ = some (.int .i64 xs) ∧ W.cell? ⟨w.heap.size, 3, none⟩ = some (.slice xa2 xl2 xc))
          (first | exact HCE.out _ (HWE.out _ (by assumption)) | go_keep)
          (first | (go_at_call 55; refine (HCM.out _ (HE0.out _ (HWE.out _ hF0))).mono ?_; rintro e w4 ⟨he, hB⟩; subst he; have hF1 : Ext wr w4 := hF0.trans hB; clear hB))
        have hof0 : out.length ≤ j := hof (by first | rfl | trivial)
        have tok1 : True := trivial
        go_wp2_with (first
          | (at_builtin; have _t := tok1; refine wpList_append_pow rfl _ _ rfl (HOW.out _ hF1) (by omega) (Nat.le_trans HHW.out hF1.size) (by first | omega | (simp; omega)) ⟨rfl, rfl, rfl, rfl⟩ (HITI.out _ (HE0.out _ (HWE.out _ hF1))) HNN.out rfl (by first | rfl | simp) rfl ?_; intro v8 w8 hO8 hB8 hs8; have HO8 := Lib.hid hO8; have HB8 : Hid (Below (w.heap.size + 1) w0 w8) := Below.trans (HWE.out _ hF1) hB8; have HS8 : Hid (w.heap.size + 1 ≤ w8.heap.size) := Nat.le_trans HHW.out (Nat.le_trans hF1.size hs8); obtain ⟨⟨e0, e1, e2, e3, e4⟩, _⟩ := HCE.out _ HB8.out; clear hO8 hB8 hs8 tok1)
          | (at_builtin; refine wpList_append_pow rfl _ _ rfl (OwnP_ext (by omega) HS8.out HO8.out ((Ext.refl w8).alloc _)) (by omega) (Nat.le_trans HS8.out (Below.size ((Ext.refl w8).alloc _))) (by first | omega | (simp; omega)) ⟨rfl, rfl, rfl, rfl⟩ (HTI.out _ (HE0.out _ (HB8.out.alloc HS8.out _))) HNi.out rfl (by first | rfl | simp) rfl ?_; intro v9 w9 hO9 hB9 hs9; have HO9 := Lib.hid hO9; have HB9 : Hid (Below (w.heap.size + 1) w0 w9) := Below.trans (HB8.out.alloc HS8.out _) hB9; clear hO9 hB9 hs9))
        go_roundw
        case rel => exact ⟨j + 1, (out ++ [(t, n)]) ++ [(T, N)], true, by omega, by go_num, rfl, HO9.out, by simp; omega, fun h => (by cases h), by rw [HAL.out, HS.out, List.append_assoc, List.append_assoc]; rfl, HB9.out⟩
        case measure => simp [intOf]; omega
      · have HS := Lib.hid (hNO hc0 hB2 hnz)
        clear hAT hLT hNO
        cases f with
        | true =>
          go_wp2_with fail
          go_region_held3 (fun W => (W.cell? ⟨b, o + j * 5, none⟩ = some (.int .i64 k) ∧ W.cell? ⟨b, o + j * 5 + 1, none⟩ = some (.string nm) ∧ W.cell? ⟨b, o + j * 5 + 2, none⟩ = some (.int .i64 s) ∧ W.cell? ⟨b, o + j * 5 + 3, none⟩ = some (.slice ya yl yc) ∧ W.cell? ⟨b, o + j * 5 + 4, none⟩ = some (.int .i64 N)) ∧ W.cell? ⟨w.heap.size, 0, none⟩ = some (.int .i64 xk) ∧ W.cell? ⟨w.heap.size, 1, none⟩ = some (.string xn) ∧ W.cell? ⟨w.heap.size, 2, none⟩ = some (.int .i64 xs) ∧ W.cell? ⟨w.heap.size, 3, none⟩ = some (.slice xa2 xl2 xc))
            (first | exact HCE.out _ (HWE.out _ (by assumption)) | go_keep)
            (first | (go_at_call 55; refine (HCM.out _ (HE0.out _ (HWE.out _ hF0))).mono ?_; rintro e w4 ⟨he, hB⟩; subst he; have hF1 : Ext wr w4 := hF0.trans hB; clear hB))
          go_wp2_with (at_builtin; refine wpList_append_pow rfl _ _ rfl (HOW.out _ (Ext.alloc hF1 _)) (by omega) (Nat.le_trans HHW.out (Below.size (Ext.alloc hF1 _))) (by first | omega | (simp; omega)) ⟨rfl, rfl, rfl, rfl⟩ (HTI.out _ (HE0.out _ (HWE.out _ (Ext.alloc hF1 _)))) HNi.out rfl (by first | rfl | simp) rfl ?_; intro v8 w8 hO8 hB8 hs8; have HO8 := Lib.hid hO8; have HB8 : Hid (Below (w.heap.size + 1) w0 w8) := Below.trans (HWE.out _ (Ext.alloc hF1 _)) hB8; clear hO8 hB8 hs8)
          go_roundw
          case rel => exact ⟨j + 1, out ++ [(T, N)], true, by omega, by go_num, rfl, HO8.out, by simp; omega, fun h => (by cases h), by rw [HAL.out, HS.out, List.append_assoc]; rfl, HB8.out⟩
          case measure => simp [intOf]; omega
        | false =>
          have q5 : decide (c < 0) = false := decide_eq_false (fun h => hB2 ⟨rfl, h⟩)
          have hof0 : out.length ≤ j := hof (by first | rfl | trivial)
          go_wp2_with fail
          go_region_held3 (fun W => (W.cell? ⟨b, o + j * 5, none⟩ = some (.int .i64 k) ∧ W.cell? ⟨b, o + j * 5 + 1, none⟩ = some (.string nm) ∧ W.cell? ⟨b, o + j * 5 + 2, none⟩ = some (.int .i64 s) ∧ W.cell? ⟨b, o + j * 5 + 3, none⟩ = some (.slice ya yl yc) ∧ W.cell? ⟨b, o + j * 5 + 4, none⟩ = some (.int .i64 N)) ∧ W.cell? ⟨w.heap.size, 0, none⟩ = some (.int .i64 xk) ∧ W.cell? ⟨w.heap.size, 1, none⟩ = some (.string xn) ∧ W.cell? ⟨w.heap.size, 2, none⟩ = some (.int .i64 xs) ∧ W.cell? ⟨w.heap.size, 3, none⟩ = some (.slice xa2 xl2 xc))
            (first | exact HCE.out _ (HWE.out _ (by assumption)) | go_keep)
            (first | (go_at_call 55; refine (HCM.out _ (HE0.out _ (HWE.out _ hF0))).mono ?_; rintro e w4 ⟨he, hB⟩; subst he; have hF1 : Ext wr w4 := hF0.trans hB; clear hB))
          go_wp2_with (at_builtin; refine wpList_append_pow rfl _ _ rfl (HOW.out _ (Ext.alloc hF1 _)) (by omega) (Nat.le_trans HHW.out (Below.size (Ext.alloc hF1 _))) (by first | omega | (simp; omega)) ⟨rfl, rfl, rfl, rfl⟩ (HTI.out _ (HE0.out _ (HWE.out _ (Ext.alloc hF1 _)))) HNi.out rfl (by first | rfl | simp) rfl ?_; intro v8 w8 hO8 hB8 hs8; have HO8 := Lib.hid hO8; have HB8 : Hid (Below (w.heap.size + 1) w0 w8) := Below.trans (HWE.out _ (Ext.alloc hF1 _)) hB8; clear hO8 hB8 hs8)
          go_roundw
          case rel => exact ⟨j + 1, out ++ [(T, N)], false, by omega, by go_num, rfl, HO8.out, by simp; omega, fun _ => (by simp; omega), by rw [HAL.out, HS.out, List.append_assoc]; rfl, HB8.out⟩
          case measure => simp [intOf]; omega
end Go.Proofs.YtcieadjjcpmieaaGreat

/-
  THE REFERENCE'S Mul: the product of two products.
-/
namespace Go.Proofs.YtcieadjjcpmieaaGreat
open Go.RowKit

theorem radd_any (l : List Pw) (t : Tm) (n : Int) (b0 b1 b2 b3 : Value) (xa : Option Addr) (cap : Nat) (w : World) (hlen : l.length ≤ 1048576) (hsz : SzP 1073741824 l) (hst : size t ≤ 1073741824) (hz : ∀ p ∈ l, ¬ p.2 = 0) (hr : ∀ p ∈ l, -2305843009213693952 ≤ p.2 ∧ p.2 ≤ 2305843009213693952) (hn : -2305843009213693952 ≤ n ∧ n ≤ 2305843009213693952) (hR : PRow w l xa) (hI : Is w t b0 b1 b2 b3) :
    Calls Tryz.prog 58 #[.slice xa l.length cap, .agg #[b0, b1, b2, b3], .int .i64 n] w (PwPost w (addP l (t, n))) :=
  (radd_fr l t n b0 b1 b2 b3 xa cap w hlen hsz hst hz hr hn hR hI).mono fun _ _ h => h.post
theorem addG_len (t : Tm) (n : Int) : ∀ (l : List Pw) (d : Bool), (addG t n l d).length ≤ l.length + (if d = true then 0 else 1)
  | [], d => by rw [addG]; cases d <;> simp
  | p :: ps, d => by
    have h1 := addG_len t n ps true
    have h2 := addG_len t n ps d
    rw [addG]
    cases d <;> simp only [List.length_cons, Bool.false_eq_true, if_true, if_false, true_and, false_and, Nat.add_zero, reduceCtorEq] at h1 h2 ⊢ <;> (repeat' split) <;> (try simp only [List.length_cons]) <;> omega
theorem addsP_len : ∀ (ps l : List Pw), (addsP l ps).length ≤ l.length + ps.length
  | [], l => by simp [addsP]
  | p :: ps, l => by
    have h1 := addsP_len ps (addP l p)
    have h2 : (addP l p).length ≤ l.length + 1 := addG_len p.1 p.2 l false
    rw [show addsP l (p :: ps) = addsP (addP l p) ps from rfl, List.length_cons]
    omega
theorem addsP_take {a b : List Pw} {j : Nat} (h : j < b.length) : addsP a (b.take (j + 1)) = addP (addsP a (b.take j)) b[j] := by
  rw [List.take_succ_eq_append_getElem h, addsP_app]; rfl
theorem mul_step {a b : List Pw} (ha : powE 1000 a = 0) (hb : powE 1000 b = 0) (hsa : SzP 1073741824 a) (hsb : SzP 1073741824 b) (j : Nat) : (addsP a (b.take j)).length ≤ 400 ∧ SzP 1073741824 (addsP a (b.take j)) ∧ (∀ p ∈ addsP a (b.take j), ¬ p.2 = 0) ∧ ∀ p ∈ addsP a (b.take j), -2305843009213693952 ≤ p.2 ∧ p.2 ≤ 2305843009213693952 := by
  obtain ⟨a1, a2, a3, a4⟩ := prod_norm ha
  obtain ⟨b1, b2, b3, b4⟩ := prod_norm hb
  obtain ⟨c1, c2, c3⟩ := addsP_norm (b.take j) a2 (fun p hp => b2.2 p (List.mem_of_mem_take hp))
  refine ⟨?_, fun q hq => ?_, c1.2, fun q hq => ?_⟩
  · have := addsP_len (b.take j) a
    have h := List.length_take_le j b
    have h2 : (b.take j).length ≤ b.length := by rw [List.length_take]; omega
    omega
  · rcases c2 q hq with ⟨p, hp, e⟩ | ⟨p, hp, e⟩
    · rw [e]; exact hsb p (List.mem_of_mem_take hp)
    · rw [e]; exact hsa p hp
  · have h1 := norm_get c1 hq
    have h2 := pwr_abs a q.1
    have h3 := pwr_abs (b.take j) q.1
    have h4 := absS_take_le b j
    rw [c3] at h1
    omega
/-- A whole row appended to an empty slice that was just made. -/
theorem wpList_copy_pow {W w0 : World} {ops : Array Oper} {rest : List Oper} {o : Oper} {a : Act} {Q : Exit → Act → World → Prop} (hgd : o.guard = none) (s x : Operand)
    (ho : o.op = .call { callee := .builtin .append, args := #[s, x], argTypes := #[27, 27] }) {ps : List Pw} {xa : Option Addr} {ca : Nat} (hR : PRow w0 ps xa) (hE : Ext w0 W) (hlen : ps.length ≤ 1048577)
    (hs : a.eval s = .slice (some ⟨W.heap.size, 0, none⟩) 0 0) (hx : a.eval x = .slice xa ps.length ca)
    (h : ∀ xo co w8, PRow w8 ps xo → ps.length ≤ co → Ext W w8 → Fsh W.heap.size xo → wpList Tryz.prog ops Q rest (a.put o.dst (.slice xo ps.length co)) w8) :
    wpList Tryz.prog ops Q (o :: rest) a (W.alloc (.cells #[] 77)) := by
  obtain ⟨i0, hi0, hz0, hz1, hz2⟩ := info_parts infoPw
  have hown : (W.alloc (.cells #[] 77)).ownsRow W.heap.size 77 5 (.slice (some ⟨W.heap.size, 0, none⟩) 0 0) 0 [] := World.ownsRow_made W #[] 0 (Nat.le_refl _) (by simp [maxLen]) rfl
  have hEa : Ext w0 (W.alloc (.cells #[] 77)) := hE.alloc _
  by_cases h0 : ps.length = 0
  · have hn : ps = [] := List.length_eq_zero_iff.1 h0
    subst hn
    exact wpList_append_zero hgd s x _ ho 77 i0 Tryz.underlying27 hi0 _ 0 0 hs xa ca hx (Nat.le_refl _) (h _ 0 _ (Or.inl rfl) (Nat.le_refl _) ((Ext.refl W).alloc _) (fun b o s e => by simp only [Option.some.injEq, Addr.mk.injEq] at e; omega))
  · obtain ⟨b2, o2, rfl⟩ := PRow_at hR (by omega)
    obtain ⟨ds, hd1, hd2, hd3⟩ := src_cells hR
    obtain ⟨hd4, hd5⟩ := hd1 _ hEa
    refine wpList_append_own_at _ hgd s x _ ho W.heap.size 77 i0 _ 5 64 Tryz.underlying27 hi0 hz0 hz1 hz2 rfl (by omega) (.slice (some ⟨W.heap.size, 0, none⟩) 0 0) 0 [] hs hown ⟨b2, o2, none⟩ ps.length ca ds hx hd2 hd5 hd3 (by unfold maxLen; omega) (by omega) (by rw [World.size_alloc]; omega) ?_
    intro v1 w1 hown1 hgrow _ _
    have hj := OwnP_join (H := W.heap.size) (base := w0.heap.size) (acc := []) (qs := ps) hown rfl (Below.size hE) (by rw [World.size_alloc]; omega) hd4 hown1 hgrow
    rw [List.nil_append] at hj
    obtain ⟨xo, co, rfl⟩ := OwnP_form hj.1
    exact h xo co w1 (OwnP_row hj.1).1 (OwnP_row hj.1).2 (((Below.refl W.heap.size W).alloc (Nat.le_refl _) _).trans hj.2) (OwnP_fr hj.1)
set_option maxHeartbeats 3200000 in
set_option maxRecDepth 100000 in
theorem rMul_fr (a b : List Pw) (xa xb : Option Addr) (ca cb : Nat) (w : World) (hla : a.length ≤ maxLen) (hlb : b.length ≤ maxLen) (hsa : SzP 1073741824 a) (hsb : SzP 1073741824 b) (hA : PRow w a xa) (hB : PRow w b xb) :
    Calls Tryz.prog 22 #[.slice xa a.length ca, .slice xb b.length cb] w (PeF w (mulP a b)) := by
  have HVA := Lib.hid (rpowE_any a xa ca w hla hsa hA)
  have HVB := Lib.hid (fun W (y : Ext w W) => rpowE_any b xb cb W hlb hsb (PRow_below (w' := W) hB y))
  have HD : Hid (mulP a b = if powE 1000 a = 0 then (if powE 1000 b = 0 then (if rangeE (addsP a b) = 0 then (addsP a b, 0) else ([], rangeE (addsP a b))) else ([], powE 1000 b)) else ([], powE 1000 a)) := rfl
  generalize mulP a b = R at HD ⊢
  by_cases ha : powE 1000 a = 0
  rotate_left
  · have HE : Hid (R = ([], powE 1000 a)) := by show _ = _; rw [HD.out, if_neg ha]
    generalize powE 1000 a = E at ha HVA HE
    have q1 : (E != 0) = true := by rw [bne_iff_ne]; exact ha
    clear ha hA hB HD HVB hsa hsb hla hlb
    go_enter Tryz.func22, Tryz.ntmps22
    go_wp2_with (go_at_call 53; refine (HVA.out).mono ?_; rintro e w1 ⟨he, hB⟩; subst he; have HB1 := Lib.hid hB; clear hB)
    exact bodyPost_ret (v := .tuple #[.slice none 0 0, .int .i64 E]) (by simp [results, Tryz.results22, go_sem]) rfl (PeF_err HE.out HB1.out)
  by_cases hb : powE 1000 b = 0
  rotate_left
  · have HE : Hid (R = ([], powE 1000 b)) := by show _ = _; rw [HD.out, if_pos ha, if_neg hb]
    rw [ha] at HVA
    generalize powE 1000 b = E at hb HVB HE
    have q0 : ((0 : Int) != 0) = false := rfl
    have q1 : (E != 0) = true := by rw [bne_iff_ne]; exact hb
    clear ha hb hA hB HD hsa hsb hla hlb
    go_enter Tryz.func22, Tryz.ntmps22
    have tok1 : True := trivial
    go_wp2_with (first
      | (go_at_call 53; have _t := tok1; refine (HVA.out).mono ?_; rintro e w1 ⟨he, hB⟩; subst he; have HX1 : Hid (Ext w w1) := hB; clear hB tok1)
      | (go_at_call 53; refine (HVB.out _ HX1.out).mono ?_; rintro e w2 ⟨he, hB⟩; subst he; have HX2 : Hid (Ext w w2) := Ext.trans HX1.out hB; clear hB))
    exact bodyPost_ret (v := .tuple #[.slice none 0 0, .int .i64 E]) (by simp [results, Tryz.results22, go_sem]) rfl (PeF_err HE.out HX2.out)
  rw [ha] at HVA
  rw [hb] at HVB
  have HMS := Lib.hid (fun j => mul_step ha hb hsa hsb j)
  have hal := (powE_ok ha).1
  have hbl := (powE_ok hb).1
  have HD2 : Hid (R = if rangeE (addsP a b) = 0 then (addsP a b, 0) else ([], rangeE (addsP a b))) := by show _ = _; rw [HD.out, if_pos ha, if_pos hb]
  have q0 : ((0 : Int) != 0) = false := rfl
  have HRA := Lib.hid hA
  have HRB := Lib.hid hB
  have HSB := Lib.hid hsb
  have HBR : Hid (∀ p ∈ b, -2305843009213693952 ≤ p.2 ∧ p.2 ≤ 2305843009213693952) := fun p hp => by have := (prod_norm hb).2.2.1 p hp; omega
  clear ha hb hA hB HD hsa hsb hla hlb
  go_enter Tryz.func22, Tryz.ntmps22
  have tok1 : True := trivial
  go_wp2_with (first
    | (go_at_call 53; have _t := tok1; refine (HVA.out).mono ?_; rintro e w1 ⟨he, hB⟩; subst he; have HX1 : Hid (Ext w w1) := hB; clear hB tok1)
    | (go_at_call 53; refine (HVB.out _ HX1.out).mono ?_; rintro e w2 ⟨he, hB⟩; subst he; have HX2 : Hid (Ext w w2) := Ext.trans HX1.out hB; clear hB)
    | (at_builtin; refine wpList_copy_pow rfl _ _ rfl HRA.out HX2.out (by omega) rfl rfl ?_; intro xo co w3 hr3 hc3 hE3 hf3; have HFR3 := Lib.hid (hf3.mono (Below.size HX2.out)); have HR3 := Lib.hid hr3; have HC3 := Lib.hid hc3; have HX3 : Hid (Ext w w3) := Ext.trans HX2.out hE3; clear hr3 hc3 hE3 hf3))
  go_loopw [8, 9] (fun v i wr => ∃ (j : Nat) (xl : Option Addr) (cl : Nat), j ≤ b.length ∧ i = .int .i64 j ∧ v = .slice xl (addsP a (b.take j)).length cl ∧ (addsP a (b.take j)).length ≤ cl ∧ PRow wr (addsP a (b.take j)) xl ∧ Ext w wr ∧ Fsh w.heap.size xl) (fun _ i _ => b.length - (intOf i).toNat)
  case atStart => exact ⟨0, xo, co, Nat.zero_le _, rfl, by rw [List.take_zero]; rfl, by rw [List.take_zero]; exact HC3.out, by rw [List.take_zero]; exact HR3.out, HX3.out, HFR3.out⟩
  case round =>
    obtain ⟨j, xl, cl, hj, rfl, rfl, hcl, hRl, hE, hfr⟩ := hrel
    have HFRL := Lib.hid hfr
    clear hfr
    obtain ⟨m1, m2, m3, m4⟩ := HMS.out j
    have HX := Lib.hid hE
    by_cases hlt : j < b.length
    rotate_left
    · obtain rfl : j = b.length := by omega
      rw [List.take_length] at *
      have HRG := Lib.hid (inRange_any (addsP a b) xl cl wr (by omega) hRl)
      have HRL := Lib.hid hRl
      have HCL := Lib.hid hcl
      generalize addsP a b = Q at HRG HRL HCL HD2 ⊢
      clear m1 m2 m3 m4 hRl hcl hE
      by_cases hr0 : rangeE Q = 0
      · have HE : Hid (R = (Q, 0)) := by show _ = _; rw [HD2.out, if_pos hr0]
        rw [hr0] at HRG
        clear hr0 HD2
        go_wp2_with (go_at_call 59; refine (HRG.out).mono ?_; rintro e w3 ⟨he, hB⟩; subst he; have HF : Hid (PeF w R (.returned (.tuple #[.slice xl Q.length cl, .int .i64 0])) w3) := Lib.hid (by rw [HE.out]; exact ⟨xl, cl, rfl, HCL.out, PRow_below HRL.out hB, Ext.trans (a := w) HX.out hB, HFRL.out⟩); clear hB)
        exact bodyPost_ret (v := .tuple #[.slice xl Q.length cl, .int .i64 0]) (by simp [results, Tryz.results22, go_sem]) rfl HF.out
      · have HE : Hid (R = ([], rangeE Q)) := by show _ = _; rw [HD2.out, if_neg hr0]
        generalize rangeE Q = E at hr0 HRG HE
        have q1 : (E != 0) = true := by rw [bne_iff_ne]; exact hr0
        clear hr0 HD2
        go_wp2_with (go_at_call 59; refine (HRG.out).mono ?_; rintro e w3 ⟨he, hB⟩; subst he; have HB3 : Hid (Ext w w3) := Ext.trans (a := w) HX.out hB; clear hB)
        exact bodyPost_ret (v := .tuple #[.slice none 0 0, .int .i64 E]) (by simp [results, Tryz.results22, go_sem]) rfl (PeF_err HE.out HB3.out)
    obtain ⟨bb, o, rfl⟩ := PRow_at HRB.out (by omega)
    obtain ⟨⟨c0, c1, c2, c3, f0, f1, f2, f3, hIw⟩, f4, hno⟩ := PRow_get HRB.out j hlt
    obtain ⟨kk, nm, s, za, zl, zc, rfl, rfl, rfl, rfl⟩ := Is_form hIw
    have HCE : Hid (∀ W, Ext w W → (W.cell? ⟨bb, o + j * 5, none⟩ = some (.int .i64 kk) ∧ W.cell? ⟨bb, o + j * 5 + 1, none⟩ = some (.string nm) ∧ W.cell? ⟨bb, o + j * 5 + 2, none⟩ = some (.int .i64 s) ∧ W.cell? ⟨bb, o + j * 5 + 3, none⟩ = some (.slice za zl zc)) ∧ W.cell? ⟨bb, o + j * 5 + 4, none⟩ = some (.int .i64 b[j].2)) := fun W y => ⟨⟨keep_below y _ _ f0, keep_below y _ _ f1, keep_below y _ _ f2, keep_below y _ _ f3⟩, keep_below y _ _ f4⟩
    have HAD := Lib.hid (fun W (y : Ext wr W) => radd_fr (addsP a (b.take j)) b[j].1 b[j].2 _ _ _ _ xl cl W (by omega) m2 (HSB.out _ (List.getElem_mem hlt)) m3 m4 (HBR.out _ (List.getElem_mem hlt)) (PRow_below (w' := W) hRl y) (Is_below (w' := W) hIw (Ext.trans hE y)))
    have HST : Hid (addP (addsP a (b.take j)) (b[j].1, b[j].2) = addsP a (b.take (j + 1))) := (addsP_take hlt).symm
    rw [HST.out] at HAD
    obtain ⟨Q2, hQ2⟩ : ∃ Q2, addsP a (b.take (j + 1)) = Q2 := ⟨_, rfl⟩
    have HQ2 := Lib.hid hQ2
    rw [hQ2] at HAD
    generalize b[j].2 = N at HCE HAD
    generalize addsP a (b.take j) = Q at HAD m1 ⊢
    obtain ⟨⟨e0, e1, e2, e3⟩, e4⟩ := HCE.out wr hE
    have i1 : (0 : Int) ≤ (j : Int) := by omega
    have i2 : (j : Int) < (b.length : Int) := by omega
    have hF0 : Ext wr wr.drew := (Ext.refl wr).drew
    clear f0 f1 f2 f3 f4 hIw hno m1 m2 m3 m4 hcl hRl hE hQ2 HST
    go_wp2_with fail
    go_region_held3 (fun W => (W.cell? ⟨bb, o + j * 5, none⟩ = some (.int .i64 kk) ∧ W.cell? ⟨bb, o + j * 5 + 1, none⟩ = some (.string nm) ∧ W.cell? ⟨bb, o + j * 5 + 2, none⟩ = some (.int .i64 s) ∧ W.cell? ⟨bb, o + j * 5 + 3, none⟩ = some (.slice za zl zc)) ∧ W.cell? ⟨bb, o + j * 5 + 4, none⟩ = some (.int .i64 N))
      (first | exact HCE.out _ (Ext.trans HX.out (by assumption)) | go_keep)
      (first | (go_at_call 58; refine (HAD.out _ hF0).mono ?_; rintro e w4 ⟨x4, c4, he, hc, hr, hB, hf⟩; subst he; have hF1 : Ext wr w4 := hF0.trans hB; have HFR4 := Lib.hid (Fsh.mono hf (Nat.le_trans (Below.size HX.out) (Below.size hF0))); have HR4 := Lib.hid hr; have HC4 := Lib.hid hc; clear hc hr hB hf))
    all_goals (go_wp2_with fail)
    all_goals (go_roundw)
    all_goals (first | exact ⟨j + 1, x4, c4, by omega, by go_num, by rw [HQ2.out], by rw [HQ2.out]; exact HC4.out, by rw [HQ2.out]; exact HR4.out, Ext.trans HX.out hF1, HFR4.out⟩ | (simp [intOf]; omega))
theorem rMul_any (a b : List Pw) (xa xb : Option Addr) (ca cb : Nat) (w : World) (hla : a.length ≤ maxLen) (hlb : b.length ≤ maxLen) (hsa : SzP 1073741824 a) (hsb : SzP 1073741824 b) (hA : PRow w a xa) (hB : PRow w b xb) :
    Calls Tryz.prog 22 #[.slice xa a.length ca, .slice xb b.length cb] w (PePost w (mulP a b)) :=
  (rMul_fr a b xa xb ca cb w hla hlb hsa hsb hA hB).mono fun _ _ h => h.post
end Go.Proofs.YtcieadjjcpmieaaGreat
