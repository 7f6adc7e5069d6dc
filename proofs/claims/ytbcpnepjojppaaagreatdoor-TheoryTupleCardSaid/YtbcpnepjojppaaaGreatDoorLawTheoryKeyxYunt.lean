import Derived.Deep.RegionHeldLaw
import Derived.Deep.RegionLawGrows
import Derived.Test.YtbcpnepjojppaaaGreatDoorLawTheoryKeyxYkey
namespace Go.Proofs.YtbcpnepjojppaaaGreatDoor
open Go.RowKit
theorem wpList_append_kd {wr W : World} {ops : Array Oper} {rest : List Oper} {o : Oper} {a : Act} {Q : Exit → Act → World → Prop} (hgd : o.guard = none) (s x : Operand)
    (ho : o.op = .call { callee := .builtin .append, args := #[s, x], argTypes := #[22, 22] }) {base H : Nat} {acc : List Tm} {v : Value} (hO : KdIn base H wr acc v) (hbH : base ≤ H) (hH : H ≤ wr.heap.size) (hlen : acc.length ≤ 1048577) (hE : Ext wr W)
    {t : Tm} {c0 c1 c2 c3 : Value} (h1 : c0.oneCell' = true ∧ c1.oneCell' = true ∧ c2.oneCell' = true ∧ c3.oneCell' = true) (hI : IsIn (fun b => b < base ∨ (wr.heap.size ≤ b ∧ b < W.heap.size)) W t c0 c1 c2 c3) (hs : a.eval s = v) {z : Nat} (hzW : W.heap.size = z) (hx : a.eval x = .slice (some ⟨z, 0, none⟩) 1 1)
    (h : ∀ v' w8, KdIn base H w8 (acc ++ [t]) v' → Below H W w8 → W.heap.size ≤ w8.heap.size → wpList Tryz.prog ops Q rest (a.put o.dst v') w8) :
    wpList Tryz.prog ops Q (o :: rest) a (W.alloc (.cells #[c0, c1, c2, c3] 24)) := by
  subst hzW
  obtain ⟨i0, hi0, hz0, hz1, hz2⟩ := info_parts info24
  obtain ⟨xl, lcap, rfl⟩ := KdIn_form hO
  obtain ⟨F, ⟨cs, hown, hK⟩, hF⟩ := hO
  have hsz := hE.size
  have hown2 := own_heap (w' := W) hown (fun q hq => hE.block q (hown.lt q hq).2)
  refine wpList_append_lies _ hgd s x _ ho H 24 i0 _ 4 56 Tryz.underlying22 hi0 hz0 hz1 hz2 rfl (by omega) (.slice xl acc.length lcap) acc.length cs hs (hown2.alloc _) ⟨W.heap.size, 0, none⟩ 1 1 [c0, c1, c2, c3] hx rfl
    (World.news_of_block (cs := #[c0, c1, c2, c3]) (t := 24) (fr := (0, 0)) (heap_alloc_new W _)) (fun u hu => by simp only [List.mem_cons, List.not_mem_nil, or_false] at hu; rcases hu with rfl | rfl | rfl | rfl <;> first | exact h1.1 | exact h1.2.1 | exact h1.2.2.1 | exact h1.2.2.2) (by omega) (by unfold maxLen; omega) (by omega) (by rw [World.size_alloc]; omega) (W.heap.size + 1) (by rw [World.size_alloc]) ?_
  intro g cap w8 ho8 hg hat _
  have r := KdIn_push rfl hown hK hF hbH hH hE hI ho8 hg hat
  exact h _ _ r.1 r.2.2.2 r.2.2.1
def untF : Nat → Tm → List Tm
  | 0, t => [t]
  | m + 1, t => if isApp t yPair = true ∧ t.kids.length = 2 then kidT t.kids 0 :: untF m (kidT t.kids 1) else [t]
theorem untF_more : ∀ (m : Nat) (t : Tm), size t ≤ m → untF m t = untF (size t) t
  | 0, t, h => by have := size_pos t; omega
  | m + 1, t, h => by
    obtain ⟨p, hp⟩ : ∃ p, size t = p + 1 := ⟨size t - 1, by have := size_pos t; omega⟩
    rw [hp, untF, untF]
    by_cases c : isApp t yPair = true ∧ t.kids.length = 2
    · rw [if_pos c, if_pos c]
      have hs : size (kidT t.kids 1) ≤ p := by
        obtain ⟨k, n, s, ks⟩ := t
        have h1 := size_le_sizes (kidT_mem (show 1 < ks.length by have := c.2; simp only [Tm.kids] at this; omega))
        have h2 : size (.mk k n s ks) = 1 + sizes ks := rfl
        simp only [Tm.kids]; omega
      rw [untF_more m _ (by omega), untF_more p _ hs]
    · rw [if_neg c, if_neg c]
def untT (t : Tm) : List Tm := untF (size t) t
theorem untT_pair {t : Tm} (c : isApp t yPair = true ∧ t.kids.length = 2) : untT t = kidT t.kids 0 :: untT (kidT t.kids 1) ∧ size (kidT t.kids 0) + size (kidT t.kids 1) < size t := by
  obtain ⟨k, n, s, ks⟩ := t
  have hl : ks.length = 2 := c.2
  have h2 : size (.mk k n s ks) = 1 + sizes ks := rfl
  match ks, hl with
  | [x, y], _ =>
    have e0 : kidT [x, y] 0 = x := rfl
    have e1 : kidT [x, y] 1 = y := rfl
    have h3 : sizes [x, y] = size x + (size y + 0) := rfl
    simp only [Tm.kids, e0, e1]
    refine ⟨?_, by omega⟩
    unfold untT
    rw [h2, Nat.add_comm 1, untF, if_pos c]
    simp only [Tm.kids, e0, e1]
    rw [untF_more _ y (by omega)]
theorem untT_one {t : Tm} (c : ¬ (isApp t yPair = true ∧ t.kids.length = 2)) : untT t = [t] := by
  obtain ⟨p, hp⟩ : ∃ p, size t = p + 1 := ⟨size t - 1, by have := size_pos t; omega⟩
  unfold untT
  rw [hp, untF, if_neg c]
theorem untF_size : ∀ (m : Nat) (t : Tm), sizes (untF m t) ≤ size t
  | 0, t => by simp [untF, sizes]
  | m + 1, t => by
    rw [untF]
    by_cases c : isApp t yPair = true ∧ t.kids.length = 2
    · rw [if_pos c]
      have h1 := (untT_pair c).2
      have h2 := untF_size m (kidT t.kids 1)
      simp only [sizes]; omega
    · rw [if_neg c]; simp [sizes]
theorem untT_size (t : Tm) : sizes (untT t) ≤ size t := untF_size _ t
def slen : Value → Nat
  | .slice _ n _ => n
  | _ => 0
theorem ext_then {a b c : World} {H : Nat} (h : Ext a b) (hs : a.heap.size = H) (k : Below H b c) : Ext a c := by
  subst hs; exact Below.trans h k
set_option maxHeartbeats 3200000 in
set_option maxRecDepth 100000 in
theorem yUntuple_any (t : Tm) (c0 c1 c2 c3 : Value) (w : World) (hM : size t ≤ 1048576) (hI : Is w t c0 c1 c2 c3) :
    Calls Tryz.prog 44 #[.agg #[c0, c1, c2, c3]] w (TsPost w (untT t)) := by
  obtain ⟨k, n, s, xa, l, cap, rfl, rfl, rfl, rfl⟩ := Is_form hI
  have hB := Lies_box hI 24
  have HX0 : Hid (Ext w (w.alloc (.cells #[.int .i64 k, .string n, .int .i64 s, .slice xa l cap] 24))) := (Ext.refl w).alloc _
  have HS1 : Hid ((w.alloc (.cells #[.int .i64 k, .string n, .int .i64 s, .slice xa l cap] 24)).heap.size = w.heap.size + 1) := World.size_alloc _ _
  have HB := Lib.hid hB
  have HM := Lib.hid hM
  clear hI hB
  go_enter Tryz.func44, Tryz.ntmps44
  go_wp2_with fail
  go_loopw [3, 4] (fun v p wr => ∃ (acc : List Tm) (r : Tm) (b o : Nat), p = .pointer (some ⟨b, o, none⟩) ∧ KdIn (w.heap.size + 1) (w.heap.size + 1) wr acc v ∧ Lies (w.alloc (.cells #[.int .i64 k, .string n, .int .i64 s, .slice xa l cap] 24)) r b o ∧ untT t = acc ++ untT r ∧ acc.length + size r ≤ size t ∧ Ext (w.alloc (.cells #[.int .i64 k, .string n, .int .i64 s, .slice xa l cap] 24)) wr) (fun v _ _ => size t - slen v)
  case atStart => exact ⟨[], t, w.heap.size, 0, rfl, KdIn_nil _ _ _, HB.out, rfl, by simp, Ext.refl _⟩
  case round =>
    obtain ⟨acc, r, b, o, rfl, hK, hL, hU, hA, hE⟩ := hrel
    obtain ⟨xl, cl, rfl⟩ := KdIn_form hK
    have HA : Hid (∀ W, Ext wr W → Calls Tryz.prog 72 #[.pointer (some ⟨b, o, none⟩), .string ⟨#[112, 97, 105, 114]⟩] W fun e w' => e = .returned (.bool (isApp r ⟨#[112, 97, 105, 114]⟩)) ∧ w' = W) := fun W x => applies_any r _ b o W (Lies_carry (keep_below (Ext.trans hE x)) hL)
    have HK := Lib.hid hK
    have HE := Lib.hid hE
    have hsw : w.heap.size + 1 ≤ wr.heap.size := by have := hE.size; rw [HS1.out] at this; exact this
    have HSW := Lib.hid hsw
    have HLN : Hid (acc.length ≤ 1048577) := Lib.hid (by have := HM.out; omega)
    have hsr : size r ≤ 1048576 := by omega
    by_cases c : isApp r yPair = true ∧ r.kids.length = 2
    · obtain ⟨hU2, hS2⟩ := untT_pair c
      obtain ⟨s', ks, hkk⟩ := isApp_mk c.1
      have hkl : ks.length = 2 := by have := c.2; rw [hkk] at this; exact this
      have hLs := hL
      rw [hkk] at hLs
      obtain ⟨cb, co, cc, g4, hLk⟩ := Lies_kids hLs (by omega)
      have hL0 := hLk 0 (by omega)
      have hL1 := hLk 1 (by omega)
      rw [Nat.zero_mul, Nat.add_zero] at hL0
      rw [Nat.one_mul] at hL1
      have hKk : r.kids = ks := by rw [hkk]; rfl
      rw [hKk] at hU2 hS2
      have HCP : Hid (Calls Tryz.prog 73 #[.pointer (some ⟨cb, co, none⟩)] wr (CopyPost wr (kidT ks 0))) := ycopy_any (kidT ks 0) _ _ wr (by omega) (Lies_carry (keep_below hE) hL0)
      have HA1 : Hid (isApp r ⟨#[112, 97, 105, 114]⟩ = true) := Lib.hid c.1
      rw [HA1.out] at HA
      rw [hkl] at g4
      have HG4 := Lib.hid (fun W (x : Ext (w.alloc (.cells #[.int .i64 k, .string n, .int .i64 s, .slice xa l cap] 24)) W) => keep_below x _ _ g4)
      have g3 := HG4.out wr hE
      have HRL : Hid (untT t = (acc ++ [kidT ks 0]) ++ untT (kidT ks 1)) := by show _ = _; rw [hU, hU2]; simp
      have HL1 := Lib.hid hL1
      have hp0 := size_pos (kidT ks 0)
      have HSS : Hid (acc.length + 1 + size (kidT ks 1) ≤ size t ∧ acc.length < size t) := Lib.hid ⟨by omega, by omega⟩
      clear hU hU2 c hkk hkl hLk hL0 hLs g4 hL1 hKk hS2 hA hK hE hL hsr hp0
      go_wp2_with (first
        | (go_at_call 72; refine (HA.out _ (Ext.refl _)).mono ?_; rintro e w3 ⟨he, hw⟩; subst he; have hw' := hw.symm; subst hw')
        | (go_at_call 73; refine (HCP.out).mono ?_; rintro e w5 ⟨d0, d1, d2, d3, he, hI5, hX5⟩; subst he; obtain ⟨rk, rn, rs, rx, rl, rc, e0, e1, e2, e3⟩ := IsIn_form hI5; subst e0 e1 e2 e3; have HI5 := Lib.hid hI5; have HX5 : Hid (Ext wr w5) := Lib.hid hX5; clear hI5 hX5)
        | (at_builtin; refine wpList_append_kd (base := w.heap.size + 1) (H := w.heap.size + 1) rfl _ _ rfl HK.out (Nat.le_refl _) HSW.out HLN.out HX5.out ⟨rfl, rfl, rfl, rfl⟩ (IsIn_carry (fun _ _ => rfl) (fun q hq => Or.inr hq) _ _ _ _ _ HI5.out) rfl rfl (by first | rfl | simp) ?_; intro v8 w8 hK8 hB8 hs8; obtain ⟨x8, c8, hv8⟩ := KdIn_form hK8; subst hv8; have HK8 := Lib.hid hK8; have HE8 := Lib.hid (ext_then (Ext.trans HE.out HX5.out) HS1.out hB8); clear hK8 hB8 hs8; clear g3; have g6 := HG4.out w8 HE8.out))
      go_roundw
      case rel => exact ⟨acc ++ [kidT ks 0], kidT ks 1, cb, co + 4, rfl, by have h := HK8.out; rw [show (acc ++ [kidT ks 0]).length = acc.length + 1 by simp] at h; exact h, HL1.out, HRL.out, by have := HSS.out.1; simp; omega, HE8.out⟩
      case measure => have := HSS.out.2; simp [slen]; omega
    · have HU : Hid (untT t = acc ++ [r]) := by show _ = _; rw [hU, untT_one c]
      have HCP : Hid (Calls Tryz.prog 73 #[.pointer (some ⟨b, o, none⟩)] wr (CopyPost wr r)) := ycopy_any r _ _ wr (by omega) (Lies_carry (keep_below hE) hL)
      have HFIN : Hid (∀ w8 x8 c8, KdIn (w.heap.size + 1) (w.heap.size + 1) w8 (acc ++ [r]) (.slice x8 (acc ++ [r]).length c8) → Ext (w.alloc (.cells #[.int .i64 k, .string n, .int .i64 s, .slice xa l cap] 24)) w8 → TsPost w (untT t) (.returned (.slice x8 (acc.length + 1) c8)) w8) := fun w8 x8 c8 h1 h2 => by
        rw [HU.out]
        have h3 := KdIn_row h1
        exact ⟨x8, c8, by simp, h3.2, h3.1, Ext.trans HX0.out h2⟩
      cases hp : isApp r ⟨#[112, 97, 105, 114]⟩
      · rw [hp] at HA
        clear hU c hA hK hE hL hsr hp
        go_wp2_with (first
          | (go_at_call 72; refine (HA.out _ (Ext.refl _)).mono ?_; rintro e w3 ⟨he, hw⟩; subst he; have hw' := hw.symm; subst hw')
          | (go_at_call 73; refine (HCP.out).mono ?_; rintro e w5 ⟨d0, d1, d2, d3, he, hI5, hX5⟩; subst he; obtain ⟨rk, rn, rs, rx, rl, rc, e0, e1, e2, e3⟩ := IsIn_form hI5; subst e0 e1 e2 e3; have HI5 := Lib.hid hI5; have HX5 : Hid (Ext wr w5) := Lib.hid hX5; clear hI5 hX5)
          | (at_builtin; refine wpList_append_kd (base := w.heap.size + 1) (H := w.heap.size + 1) rfl _ _ rfl HK.out (Nat.le_refl _) HSW.out HLN.out HX5.out ⟨rfl, rfl, rfl, rfl⟩ (IsIn_carry (fun _ _ => rfl) (fun q hq => Or.inr hq) _ _ _ _ _ HI5.out) rfl rfl (by first | rfl | simp) ?_; intro v8 w8 hK8 hB8 hs8; obtain ⟨x8, c8, hv8⟩ := KdIn_form hK8; subst hv8; have HK8 := Lib.hid hK8; have HE8 := Lib.hid (ext_then (Ext.trans HE.out HX5.out) HS1.out hB8); clear hK8 hB8 hs8))
        go_ret
        have := HFIN.out w8 x8 c8 HK8.out HE8.out
        simpa using this
      · rw [hp] at HA
        obtain ⟨s', ks, hkk⟩ := isApp_mk hp
        rw [hkk] at hL
        obtain ⟨_, _, _, _, _, _, hkm, ya, yc, g4, _, _⟩ := Lies_mk hL
        have g3 := keep_below hE _ _ g4
        have hlk : ¬ (ks.length : Int) = 2 := fun e => c ⟨hp, by rw [hkk]; show ks.length = 2; omega⟩
        clear hU c hA hK hE hL hsr hp hkk g4
        go_wp2_with (first
          | (go_at_call 72; refine (HA.out _ (Ext.refl _)).mono ?_; rintro e w3 ⟨he, hw⟩; subst he; have hw' := hw.symm; subst hw')
          | (go_at_call 73; refine (HCP.out).mono ?_; rintro e w5 ⟨d0, d1, d2, d3, he, hI5, hX5⟩; subst he; obtain ⟨rk, rn, rs, rx, rl, rc, e0, e1, e2, e3⟩ := IsIn_form hI5; subst e0 e1 e2 e3; have HI5 := Lib.hid hI5; have HX5 : Hid (Ext wr w5) := Lib.hid hX5; clear hI5 hX5)
          | (at_builtin; refine wpList_append_kd (base := w.heap.size + 1) (H := w.heap.size + 1) rfl _ _ rfl HK.out (Nat.le_refl _) HSW.out HLN.out HX5.out ⟨rfl, rfl, rfl, rfl⟩ (IsIn_carry (fun _ _ => rfl) (fun q hq => Or.inr hq) _ _ _ _ _ HI5.out) rfl rfl (by first | rfl | simp) ?_; intro v8 w8 hK8 hB8 hs8; obtain ⟨x8, c8, hv8⟩ := KdIn_form hK8; subst hv8; have HK8 := Lib.hid hK8; have HE8 := Lib.hid (ext_then (Ext.trans HE.out HX5.out) HS1.out hB8); clear hK8 hB8 hs8))
        go_ret
        have := HFIN.out w8 x8 c8 HK8.out HE8.out
        simpa using this
theorem Is_form2 {w : World} {t : Tm} {c0 c1 c2 c3 : Value} (h : Is w t c0 c1 c2 c3) : ∃ (_ : c0.oneCell' = true) (_ : c1.oneCell' = true) (_ : c2.oneCell' = true), c3.oneCell' = true ∧ True := by
  obtain ⟨k, n, s, xa, l, c, rfl, rfl, rfl, rfl⟩ := Is_form h
  exact ⟨rfl, rfl, rfl, rfl, trivial⟩
theorem step_append_unt {W : World} {ops : Array Oper} {o : Oper} {a : Act} {K : Act → World → Prop} {Q : Exit → Act → World → Prop} {E : Prop} (hgd : o.guard = none) (s x : Operand)
    (ho : o.op = .call { callee := .builtin .append, args := #[s, x], argTypes := #[22, 22] }) {t : Tm} {us : List Tm} {g : Nat} {xa : Option Addr} {c : Nat} {x0 x1 x2 x3 : Value}
    (hs : a.eval s = .slice (some ⟨g, 0, none⟩) 1 1) (hx : a.eval x = .slice xa us.length c) (hg : W.cell? ⟨g, 0, none⟩ = some x0 ∧ W.cell? ⟨g, 1, none⟩ = some x1 ∧ W.cell? ⟨g, 2, none⟩ = some x2 ∧ W.cell? ⟨g, 3, none⟩ = some x3) (hI : Is W t x0 x1 x2 x3) (hR : Row W us xa) (h0 : 0 < us.length) (hl : us.length ≤ 1048576)
    (h : ∀ xb cap w8, Row w8 (t :: us) xb → (t :: us).length ≤ cap → Ext W w8 → K (a.put o.dst (.slice xb (t :: us).length cap)) w8) :
    if Region.wanted o (yielded ops a.tmps) = true then Oper.wp Tryz.prog o a W K Q else E := by
  obtain ⟨i0, hi0, hz0, hz1, hz2⟩ := info_parts info24
  obtain ⟨kb, ko, rfl⟩ := Row_at hR h0
  obtain ⟨cs, hK, hc⟩ := KC_of_Row us kb ko hR
  have hone := KC_one _ _ hK
  have hIi := Is_IsIn _ _ _ _ _ hI
  refine step_append_grows hgd s x _ ho 24 i0 _ 4 56 Tryz.underlying22 hi0 hz0 hz1 hz2 rfl (by omega) (some ⟨g, 0, none⟩) 1 1 [x0, x1, x2, x3] hs (fun e => by cases e) rfl (fun b hb j u hu => ?_) ⟨kb, ko, none⟩ us.length c cs hx hone.1 hc hone.2 (by omega) (by unfold maxLen; omega) (by omega) ?_
  · simp only [Option.some.injEq] at hb
    subst hb
    rw [add_plain, Nat.zero_add]
    have hj : j < 4 := by
      rcases Nat.lt_or_ge j 4 with h | h
      · exact h
      · rw [List.getElem?_eq_none (by simpa using h)] at hu; cases hu
    have hc4 : j = 0 ∨ j = 1 ∨ j = 2 ∨ j = 3 := by omega
    rcases hc4 with rfl | rfl | rfl | rfl <;> simp only [List.getElem?_cons_zero, List.getElem?_cons_succ, Option.some.injEq] at hu <;> subst hu
    · exact hg.1
    · exact hg.2.1
    · exact hg.2.2.1
    · exact hg.2.2.2
  · intro v' w8 hown hgr
    have hB : Ext W w8 := (Below.refl _ _).grown hgr (Nat.le_refl _) (fun q hq => by cases hq)
    have hOT : OwnT W.heap.size (fun b => b < W.heap.size) w8 (t :: us) v' := ⟨[x0, x1, x2, x3] ++ cs, by rw [List.length_cons, Nat.add_comm]; exact hown, x0, x1, x2, x3, cs, rfl, IsIn_carry (fun b hb => hB.block b hb) (fun _ h => h) _ _ _ _ _ hIi, KC_carry (fun b hb => hB.block b hb) (fun _ h => h) _ _ hK⟩
    obtain ⟨xb, cap, rfl⟩ := OwnT_form hOT
    have r := OwnT_rowQ hOT
    exact h xb cap w8 r.1 r.2 hB
set_option maxHeartbeats 3200000 in
set_option maxRecDepth 100000 in
theorem rUntuple_any9 (m : Nat) : ∀ (t : Tm) (c0 c1 c2 c3 : Value) (w : World), size t ≤ m → m ≤ 1048576 → Is w t c0 c1 c2 c3 →
    Calls Tryz.prog 45 #[.agg #[c0, c1, c2, c3]] w (TsPost w (untT t)) := by
  induction m with
  | zero => intro t c0 c1 c2 c3 w h; have := size_pos t; omega
  | succ m ih =>
    intro t c0 c1 c2 c3 w hm hM hI
    obtain ⟨k, n, s, xa, l, cap, rfl, rfl, rfl, rfl⟩ := Is_form hI
    have hb0 := heap_alloc_new w (.cells #[.int .i64 k, .string n, .int .i64 s, .slice xa l cap] 24)
    have hX0 : Ext w (w.alloc (.cells #[.int .i64 k, .string n, .int .i64 s, .slice xa l cap] 24)) := (Ext.refl w).alloc _
    have HX0 := Lib.hid hX0
    have HBX : Hid (∀ W, Ext (w.alloc (.cells #[.int .i64 k, .string n, .int .i64 s, .slice xa l cap] 24)) W → W.heap[w.heap.size]? = some (.cells #[.int .i64 k, .string n, .int .i64 s, .slice xa l cap] 24 (0, 0))) := fun W x => (x.block _ (by rw [World.size_alloc]; omega)).trans hb0
    have HI : Hid (∀ W, Ext (w.alloc (.cells #[.int .i64 k, .string n, .int .i64 s, .slice xa l cap] 24)) W → Is W t (.int .i64 k) (.string n) (.int .i64 s) (.slice xa l cap)) := fun W x => Is_below hI (Ext.trans hX0 x)
    have HIS : Hid (Calls Tryz.prog 29 #[.agg #[.int .i64 k, .string n, .int .i64 s, .slice xa l cap], .string ⟨#[112, 97, 105, 114]⟩] (w.alloc (.cells #[.int .i64 k, .string n, .int .i64 s, .slice xa l cap] 24)) fun e w' => e = .returned (.bool (isApp t ⟨#[112, 97, 105, 114]⟩)) ∧ Ext (w.alloc (.cells #[.int .i64 k, .string n, .int .i64 s, .slice xa l cap] 24)) w') := ris_any t _ _ _ _ _ _ (Is_alloc hI _)
    obtain ⟨⟨p0, p1, p2, p3⟩, _⟩ := box_facts hb0
    by_cases c : isApp t yPair = true ∧ t.kids.length = 2
    rotate_left
    · have HU := Lib.hid (untT_one c)
      have HFIN : Hid (∀ w3, Ext (w.alloc (.cells #[.int .i64 k, .string n, .int .i64 s, .slice xa l cap] 24)) w3 → TsPost w (untT t) (.returned (.slice (some ⟨w3.heap.size, 0, none⟩) 1 1)) (w3.alloc (.cells #[.int .i64 k, .string n, .int .i64 s, .slice xa l cap] 24))) := fun w3 x => by
        rw [HU.out]
        exact ⟨_, 1, rfl, Nat.le_refl _, Row_one_at _ rfl (HI.out w3 x) 24, Ext.alloc (Ext.trans HX0.out x) _⟩
      cases hp : isApp t ⟨#[112, 97, 105, 114]⟩
      · rw [hp] at HIS
        clear hb0 hX0 hI c hp ih hm hM
        go_enter Tryz.func45, Tryz.ntmps45
        go_wp2_with (go_at_call 29; refine (HIS.out).mono ?_; rintro e w3 ⟨he, hX⟩; subst he; have HX3 := Lib.hid hX; clear p0 p1 p2 p3; obtain ⟨⟨p0, p1, p2, p3⟩, _⟩ := box_facts (HBX.out _ hX); clear hX)
        go_ret
        exact HFIN.out w3 HX3.out
      · rw [hp] at HIS
        obtain ⟨s', ks, hkk⟩ := isApp_mk hp
        have hlk : ¬ (l : Int) = 2 := fun e => c ⟨hp, by
          have hi := hI
          rw [hkk] at hi
          have := (Is_row hi).1
          rw [hkk]; show ks.length = 2; omega⟩
        clear hb0 hX0 hI c hp ih hm hM hkk
        go_enter Tryz.func45, Tryz.ntmps45
        go_wp2_with (go_at_call 29; refine (HIS.out).mono ?_; rintro e w3 ⟨he, hX⟩; subst he; have HX3 := Lib.hid hX; clear p0 p1 p2 p3; obtain ⟨⟨p0, p1, p2, p3⟩, _⟩ := box_facts (HBX.out _ hX); clear hX)
        go_ret
        exact HFIN.out w3 HX3.out
    obtain ⟨hU2, hS2⟩ := untT_pair c
    obtain ⟨s', ks, hkk⟩ := isApp_mk c.1
    have hkl : ks.length = 2 := by have := c.2; rw [hkk] at this; exact this
    have hi := hI
    rw [hkk] at hi
    obtain ⟨hl2, _, hRk⟩ := Is_row hi
    have hl3 : l = 2 := hl2.trans hkl
    subst hl3
    obtain ⟨cb, co, rfl⟩ := Row_at hRk (by omega)
    have hKk : t.kids = ks := by rw [hkk]; rfl
    rw [hKk] at hU2 hS2
    have hL0 := Row_get hRk 0 (by omega)
    have hL1 := Row_get hRk 1 (by omega)
    rw [← kidT_eq (by omega : 0 < ks.length), Nat.zero_mul, Nat.add_zero] at hL0
    rw [← kidT_eq (by omega : 1 < ks.length), Nat.one_mul] at hL1
    obtain ⟨d0, d1, d2, d3, r0, r1, r2, r3, hI0⟩ := hL0
    obtain ⟨f0, f1, f2, f3, u0, u1, u2, u3, hI1⟩ := hL1
    rw [Nat.add_assoc] at u1 u2 u3
    have hul : 0 < (untT (kidT ks 1)).length := by
      obtain ⟨q, hq⟩ : ∃ q, size (kidT ks 1) = q + 1 := ⟨size (kidT ks 1) - 1, by have := size_pos (kidT ks 1); omega⟩
      unfold untT; rw [hq, untF]; split <;> simp
    have hul2 : (untT (kidT ks 1)).length ≤ 1048576 := by have h1 := length_le_sizes (untT (kidT ks 1)); have h2 := untT_size (kidT ks 1); omega
    have HC : Hid (∀ W, Ext (w.alloc (.cells #[.int .i64 k, .string n, .int .i64 s, .slice (some ⟨cb, co, none⟩) 2 cap] 24)) W → Calls Tryz.prog 45 #[.agg #[f0, f1, f2, f3]] W (TsPost W (untT (kidT ks 1)))) := fun W x => ih (kidT ks 1) f0 f1 f2 f3 W (by omega) (by omega) (Is_below hI1 (Ext.trans hX0 x))
    have HI0 : Hid (∀ W, Ext (w.alloc (.cells #[.int .i64 k, .string n, .int .i64 s, .slice (some ⟨cb, co, none⟩) 2 cap] 24)) W → Is W (kidT ks 0) d0 d1 d2 d3) := fun W x => Is_below hI0 (Ext.trans hX0 x)
    have HS : Hid (∀ W, Ext (w.alloc (.cells #[.int .i64 k, .string n, .int .i64 s, .slice (some ⟨cb, co, none⟩) 2 cap] 24)) W → W.cell? ⟨w.heap.size, 3, none⟩ = some (.slice (some ⟨cb, co, none⟩) 2 cap) ∧ W.cell? ⟨cb, co, none⟩ = some d0 ∧ W.cell? ⟨cb, co + 1, none⟩ = some d1 ∧ W.cell? ⟨cb, co + 2, none⟩ = some d2 ∧ W.cell? ⟨cb, co + 3, none⟩ = some d3 ∧ W.cell? ⟨cb, co + 4, none⟩ = some f0 ∧ W.cell? ⟨cb, co + 5, none⟩ = some f1 ∧ W.cell? ⟨cb, co + 6, none⟩ = some f2 ∧ W.cell? ⟨cb, co + 7, none⟩ = some f3) := fun W x => by
      have c := keep_below (Ext.trans hX0 x)
      exact ⟨keep_below x _ _ p3, c _ _ r0, c _ _ r1, c _ _ r2, c _ _ r3, c _ _ u0, c _ _ u1, c _ _ u2, c _ _ u3⟩
    have HA1 : Hid (isApp t ⟨#[112, 97, 105, 114]⟩ = true) := Lib.hid c.1
    rw [HA1.out] at HIS
    have HU := Lib.hid hU2
    obtain ⟨z0, z1, z2, z3, hz0⟩ := Is_form2 hI0
    generalize untT (kidT ks 1) = us at HC HU hul hul2
    clear hl2 hb0 hX0 hI hi c ih hm hM hkk hkl hRk hKk hU2 hS2 r0 r1 r2 r3 u0 u1 u2 u3 hI0 hI1 HI
    go_enter Tryz.func45, Tryz.ntmps45
    go_wp2_with (go_at_call 29; refine (HIS.out).mono ?_; rintro e w3 ⟨he, hX⟩; subst he; have HX3 := Lib.hid hX; clear p0 p1 p2 p3; obtain ⟨⟨p0, p1, p2, p3⟩, _⟩ := box_facts (HBX.out _ hX); obtain ⟨_, v1, v2, v3, v4, v5, v6, v7, v8⟩ := HS.out _ hX; clear hX)
    go_region_held_law (fun W => W.cell? ⟨w.heap.size, 3, none⟩ = some (.slice (some ⟨cb, co, none⟩) 2 cap) ∧ W.cell? ⟨cb, co, none⟩ = some d0 ∧ W.cell? ⟨cb, co + 1, none⟩ = some d1 ∧ W.cell? ⟨cb, co + 2, none⟩ = some d2 ∧ W.cell? ⟨cb, co + 3, none⟩ = some d3 ∧ W.cell? ⟨cb, co + 4, none⟩ = some f0 ∧ W.cell? ⟨cb, co + 5, none⟩ = some f1 ∧ W.cell? ⟨cb, co + 6, none⟩ = some f2 ∧ W.cell? ⟨cb, co + 7, none⟩ = some f3)
      (first | exact HS.out _ HE8.out | exact HS.out _ HE5.out | go_keep | assumption)
      (first
        | (go_simp; go_at_call 45; refine (HC.out _ (Ext.drew (Ext.alloc HX3.out (.cells #[d0, d1, d2, d3] 24)))).mono ?_; rintro e w5 ⟨xa5, c5, he, hc5, hR5, hX5⟩; subst he; have HE5 := Lib.hid (Ext.trans (Ext.drew (Ext.alloc HX3.out (.cells #[d0, d1, d2, d3] 24))) hX5); have HR5 := Lib.hid hR5; have HD5 := Lib.hid (box_facts ((hX5.block w3.heap.size (show w3.heap.size < (w3.alloc (.cells #[d0, d1, d2, d3] 24)).heap.size by rw [World.size_alloc]; omega)).trans (heap_alloc_new w3 (.cells #[d0, d1, d2, d3] 24)))).1; clear hc5 hR5 hX5; dsimp only)
        | (go_simp; go_at_call 45; refine (HC.out _ (Ext.drew HX3.out)).mono ?_; rintro e w5 ⟨xa5, c5, he, hc5, hR5, hX5⟩; subst he; have HE5 := Lib.hid (Ext.trans (Ext.drew HX3.out) hX5); have HR5 := Lib.hid hR5; clear hc5 hR5 hX5; dsimp only)
        | (refine step_append_unt (by rfl) _ _ (by rfl) (g := w3.heap.size) (by rfl) (by rfl) HD5.out (HI0.out _ HE5.out) HR5.out hul hul2 ?_; intro xb cp w8 hR8 hc8 hX8; have HF : Hid (TsPost w (untT t) (.returned (.slice xb (kidT ks 0 :: us).length cp)) w8) := Lib.hid (by rw [HU.out]; exact ⟨xb, cp, rfl, hc8, hR8, Ext.trans HX0.out (Ext.trans HE5.out hX8)⟩); have HE8 := Lib.hid (Ext.trans HE5.out hX8); clear hR8 hc8 hX8)
        | (refine step_append_unt (by rfl) _ _ (by rfl) (g := w5.heap.size) (by rfl) (by rfl) (box_facts (heap_alloc_new w5 _)).1 (HI0.out _ (Ext.alloc HE5.out _)) (Row_alloc HR5.out _) hul hul2 ?_; intro xb cp w8 hR8 hc8 hX8; have HF : Hid (TsPost w (untT t) (.returned (.slice xb (kidT ks 0 :: us).length cp)) w8) := Lib.hid (by rw [HU.out]; exact ⟨xb, cp, rfl, hc8, hR8, Ext.trans HX0.out (Ext.trans (Ext.alloc HE5.out _) hX8)⟩); have HE8 := Lib.hid (Ext.trans (Ext.alloc HE5.out _) hX8); clear hR8 hc8 hX8))
    all_goals (go_wp2_with fail)
    all_goals go_ret
    all_goals simpa using HF.out
end Go.Proofs.YtbcpnepjojppaaaGreatDoor
