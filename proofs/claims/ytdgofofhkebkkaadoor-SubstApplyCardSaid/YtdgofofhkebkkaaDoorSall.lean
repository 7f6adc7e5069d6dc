/-
  THE WALKS OF the law's own copy of bindings, of subst.All and of the reference's All.
-/
import Derived.Test.YtdgofofhkebkkaaDoorRput
import Derived.Test.YtdgofofhkebkkaaDoorLawFitsW
namespace Go.Proofs.YtdgofofhkebkkaaDoor
open Go.RowKit

/-- Bindings gathered in a row of the call's own; what they hold lies in the old memory, or in the call's own elsewhere. -/
def BdsIn (base H : Nat) (wr : World) (acc : List Bd) (kv : Value) : Prop :=
  ∃ (F : Nat → Prop) (cs : List Value), wr.ownsRow H 77 8 kv acc.length cs ∧ KC F wr (flatB acc) cs ∧ ∀ b, F b → (b < base ∨ H ≤ b ∧ b < wr.heap.size) ∧ kv.ownBlock ≠ some b
theorem BdsIn_nil (base H : Nat) (w : World) : BdsIn base H w [] (.slice none 0 0) := ⟨fun _ => False, [], World.ownsRow_nil w H _ 8, rfl, fun _ h => h.elim⟩
theorem BdsIn_form {base H : Nat} {w : World} {acc : List Bd} {kv : Value} (h : BdsIn base H w acc kv) : ∃ xa cap, kv = .slice xa acc.length cap := by
  obtain ⟨F, cs, ho, _⟩ := h; exact own_form ho
theorem BdsIn_row {base H : Nat} {w : World} {acc : List Bd} {xa : Option Addr} {cap : Nat} (h : BdsIn base H w acc (.slice xa acc.length cap)) : Row w (flatB acc) xa ∧ acc.length ≤ cap := by
  obtain ⟨F, cs, ho, hK, _⟩ := h
  obtain ⟨xa', cap', e, h1, _, h2⟩ := ElemsB_row (own_elemsB ho hK)
  simp only [Value.slice.injEq] at e
  obtain ⟨rfl, _, rfl⟩ := e
  exact ⟨h2, h1⟩
theorem BdsIn_push {base H n g lcap cap : Nat} {wr w6 w8 : World} {acc : List Bd} {xl : Option Addr} {cs : List Value} {F : Nat → Prop} {v t : Tm} {c0 c1 c2 c3 d0 d1 d2 d3 : Value} {o : Obj} (hn : n = acc.length)
    (ho : wr.ownsRow H 77 8 (.slice xl n lcap) n cs) (hK : KC F wr (flatB acc) cs) (hF : ∀ b, F b → (b < base ∨ H ≤ b ∧ b < wr.heap.size) ∧ (Value.slice xl n lcap).ownBlock ≠ some b) (hbH : base ≤ H) (hH : H ≤ wr.heap.size)
    (hB : Below wr.heap.size wr w6) (hI : IsIn (fun b => b < base ∨ (wr.heap.size ≤ b ∧ b < w6.heap.size)) w6 v c0 c1 c2 c3) (hJ : IsIn (fun b => b < base ∨ (wr.heap.size ≤ b ∧ b < w6.heap.size)) w6 t d0 d1 d2 d3) (hown : w8.ownsRow H 77 8 (.slice (some ⟨g, 0, none⟩) (n + 1) cap) (n + 1) (cs ++ [c0, c1, c2, c3, d0, d1, d2, d3])) (hg : (w6.alloc o).grownBy w8 (Value.slice xl n lcap).ownBlock)
    (hat : (Value.slice xl n lcap).ownBlock = some g ∨ g = w6.heap.size + 1) :
    BdsIn base H w8 (acc ++ [(v, t)]) (.slice (some ⟨g, 0, none⟩) (n + 1) cap) ∧ (∀ b, wr.heap.size ≤ b → b < w6.heap.size → w8.heap[b]? = w6.heap[b]?) ∧ Below H wr w8 := by
  subst hn
  have hsz := hB.size
  have hgs := hg.size
  rw [World.size_alloc] at hgs
  have hlt := fun q hq => ho.lt q hq
  have hk : ∀ b, b < w6.heap.size → (Value.slice xl acc.length lcap).ownBlock ≠ some b → w8.heap[b]? = w6.heap[b]? := fun b hb hne => by
    rw [hg.block b (by rw [World.size_alloc]; omega) (fun e => hne e.symm), Below.heap_alloc _ _ _ hb]
  have hnew : ∀ b, b < w6.heap.size → (Value.slice xl acc.length lcap).ownBlock ≠ some b → (Value.slice (some ⟨g, 0, none⟩) (acc.length + 1) cap).ownBlock ≠ some b := fun b h1 h2 e => by
    have e2 : g = b := by simpa [Value.ownBlock] using e
    rcases hat with h | h
    · exact h2 (by rw [h, e2])
    · omega
  have hFl : ∀ b, F b → b < wr.heap.size := fun b hb => by rcases (hF b hb).1 with h | h <;> omega
  have hS : ∀ b, (b < base ∨ (wr.heap.size ≤ b ∧ b < w6.heap.size)) → b < w6.heap.size ∧ (Value.slice xl acc.length lcap).ownBlock ≠ some b := fun b hb => ⟨by rcases hb with h | h <;> omega, fun e => by have := hlt b e; rcases hb with h | h <;> omega⟩
  refine ⟨⟨fun b => F b ∨ (b < base ∨ (wr.heap.size ≤ b ∧ b < w6.heap.size)), cs ++ [c0, c1, c2, c3, d0, d1, d2, d3], by simpa using hown, ?_, ?_⟩, fun b h1 h2 => hk b h2 (fun e => by have := (hlt b e).2; omega), ((hB.mono hH).alloc (by omega) _).grown hg (by rw [World.size_alloc]; omega) (fun q hq => (hlt q hq).1)⟩
  · rw [flatB_snoc]
    refine KC_append _ _ _ _ (KC_carry (fun b hb => ?_) (fun b hb => Or.inl hb) _ _ hK) ⟨_, _, _, _, _, rfl, IsIn_carry (fun b hb => ?_) (fun b hb => Or.inr hb) _ _ _ _ _ hI, KC_one_term (IsIn_carry (fun b hb => ?_) (fun b hb => Or.inr hb) _ _ _ _ _ hJ)⟩
    · rw [hk b (by have := hFl b hb; omega) (hF b hb).2]; exact hB.block b (hFl b hb)
    · exact hk b (hS b hb).1 (hS b hb).2
    · exact hk b (hS b hb).1 (hS b hb).2
  · rintro b (hb | hb)
    · refine ⟨?_, hnew b (by have := hFl b hb; omega) (hF b hb).2⟩
      rcases (hF b hb).1 with h | h
      · exact Or.inl h
      · exact Or.inr ⟨h.1, by omega⟩
    · refine ⟨?_, hnew b (hS b hb).1 (hS b hb).2⟩
      rcases hb with h | h
      · exact Or.inl h
      · exact Or.inr ⟨by omega, by omega⟩

set_option maxHeartbeats 6400000 in
set_option maxRecDepth 100000 in
theorem own_any (bs : List Bd) (xa : Option Addr) (cap : Nat) (w : World) (hcap : bs.length ≤ cap) (hlen : bs.length ≤ 1048576) (hsz : SzB 1073741824 bs) (hR : Row w (flatB bs) xa) :
    Calls Tryd.prog 22 #[.slice xa bs.length cap] w (BindPost w bs) := by
  have HP := Lib.hid (fun (t : Tm) (c0 c1 c2 c3 : Value) W (hz : size t ≤ 1073741824) (hE : Ext w W) (hI : Is w t c0 c1 c2 c3) => (by have h := rput_any [] none 0 w (Nat.le_refl _) (Nat.zero_le _) (fun b hb => by simp at hb) (by simp [flatB, Row]) (size t) t c0 c1 c2 c3 W (Nat.le_refl _) hz hE hI; rw [putT_nil] at h; exact h : Calls Tryd.prog 59 #[.slice none 0 0, .agg #[c0, c1, c2, c3]] W (PutPost w.heap.size W t)))
  have HR := Lib.hid hR
  have HSZ := Lib.hid hsz
  have HCC := Lib.hid hcap
  obtain ⟨i0, hi0, hz0, hz1, hz2⟩ := info_parts infoBd
  have HI0 := Lib.hid (And.intro hi0 (And.intro hz0 (And.intro hz1 hz2)))
  clear hR hsz hcap hi0 hz0 hz1 hz2
  go_enter Tryd.func22, Tryd.ntmps22
  go_wp2_with fail
  go_loopw [3, 8] (fun lv i wr => ∃ j : Nat, j ≤ bs.length ∧ i = .int .i64 j ∧ BdsIn w.heap.size w.heap.size wr (bs.take j) lv ∧ Below w.heap.size w wr) (fun _ i _ => bs.length - (intOf i).toNat)
  case atStart => exact ⟨0, Nat.zero_le _, rfl, BdsIn_nil _ _ _, Below.refl _ _⟩
  case round =>
    obtain ⟨j, hj, rfl, hO, hB⟩ := hrel
    obtain ⟨xl, lcap, rfl⟩ := BdsIn_form hO
    by_cases hlt : j < bs.length
    rotate_left
    · have hjl : j = bs.length := by omega
      rw [hjl, List.take_length] at hO ⊢
      have HRO := Lib.hid (BdsIn_row hO)
      have HB := Lib.hid hB
      clear hO hB hjl
      go_wp2_with fail
      go_ret
      exact ⟨xl, lcap, rfl, HRO.out.2, HRO.out.1, HB.out⟩
    have hll : (bs.take j).length = j := by rw [List.length_take]; omega
    obtain ⟨F, cs, hown, hK, hF⟩ := hO
    rw [hll] at hown hF ⊢
    obtain ⟨b, o, rfl⟩ := Row_at HR.out (by rw [flatB_length]; omega)
    obtain ⟨⟨v0, v1, v2, v3, g0, g1, g2, g3, hI1⟩, t0, t1, t2, t3, g4, g5, g6, g7, hI2⟩ := bds_get HR.out j hlt
    obtain ⟨k1, n1, s1, ya1, yl1, yc1, rfl, rfl, rfl, rfl⟩ := Is_form hI1
    obtain ⟨k2, n2, s2, ya2, yl2, yc2, rfl, rfl, rfl, rfl⟩ := Is_form hI2
    rw [Nat.add_assoc] at g5 g6 g7
    replace g0 := keep_below hB _ _ g0
    replace g1 := keep_below hB _ _ g1
    replace g2 := keep_below hB _ _ g2
    replace g3 := keep_below hB _ _ g3
    replace g4 := keep_below hB _ _ g4
    replace g5 := keep_below hB _ _ g5
    replace g6 := keep_below hB _ _ g6
    replace g7 := keep_below hB _ _ g7
    have hz1 := HSZ.out bs[j] (List.getElem_mem hlt)
    have HP1 := Lib.hid (fun W (hE : Ext w W) => HP.out bs[j].1 _ _ _ _ W hz1.1 hE hI1)
    have HP2 := Lib.hid (fun W (hE : Ext w W) => HP.out bs[j].2 _ _ _ _ W hz1.2 hE hI2)
    have hbx := heap_alloc_new wr (.cells #[.int .i64 k1, .string n1, .int .i64 s1, .slice ya1 yl1 yc1, .int .i64 k2, .string n2, .int .i64 s2, .slice ya2 yl2 yc2] 77)
    have HX : Hid (∀ W, Ext (wr.alloc (.cells #[.int .i64 k1, .string n1, .int .i64 s1, .slice ya1 yl1 yc1, .int .i64 k2, .string n2, .int .i64 s2, .slice ya2 yl2 yc2] 77)) W → W.heap[wr.heap.size]? = some (.cells #[.int .i64 k1, .string n1, .int .i64 s1, .slice ya1 yl1 yc1, .int .i64 k2, .string n2, .int .i64 s2, .slice ya2 yl2 yc2] 77 (0, 0)) ∧ Ext wr W) := fun W h => ⟨(h.block _ (by simp)).trans hbx, Ext.trans ((Ext.refl wr).alloc _) h⟩
    have HB := Lib.hid hB
    have HO := Lib.hid (fun W (x : Ext wr W) => own_heap hown (fun q hq => x.block q (hown.lt q hq).2))
    have hws := hB.size
    have HPU : Hid (∀ w6, Ext wr w6 → ∀ c0 c1 c2 c3 d0 d1 d2 d3, IsIn (fun b => b < w.heap.size ∨ (wr.heap.size ≤ b ∧ b < w6.heap.size)) w6 bs[j].1 c0 c1 c2 c3 → IsIn (fun b => b < w.heap.size ∨ (wr.heap.size ≤ b ∧ b < w6.heap.size)) w6 bs[j].2 d0 d1 d2 d3 → ∀ g cap w8 ob, w8.ownsRow w.heap.size 77 8 (.slice (some ⟨g, 0, none⟩) (j + 1) cap) (j + 1) (cs ++ [c0, c1, c2, c3, d0, d1, d2, d3]) → (w6.alloc ob).grownBy w8 (Value.slice xl j lcap).ownBlock → ((Value.slice xl j lcap).ownBlock = some g ∨ g = w6.heap.size + 1) →
        BdsIn w.heap.size w.heap.size w8 (bs.take (j + 1)) (.slice (some ⟨g, 0, none⟩) (j + 1) cap) ∧ (∀ b, wr.heap.size ≤ b → b < w6.heap.size → w8.heap[b]? = w6.heap[b]?) ∧ Below w.heap.size w w8) := by
      show ∀ _, _
      intro w6 hE6 c0 c1 c2 c3 d0 d1 d2 d3 hI hJ g cap w8 ob ho8 hg hat
      have r := BdsIn_push hll.symm hown hK hF (Nat.le_refl _) hws hE6 hI hJ ho8 hg hat
      rw [List.take_succ_eq_append_getElem hlt]
      exact ⟨r.1, r.2.1, HB.out.trans r.2.2⟩
    have i1 : (0 : Int) ≤ (j : Int) := by omega
    have i2 : (j : Int) < (bs.length : Int) := by omega
    clear hown hK hF hB hI1 hI2 hz1 hbx hll
    go_upto_region 5 with (fail)
    generalize hgen : (wr.alloc (.cells #[.int .i64 k1, .string n1, .int .i64 s1, .slice ya1 yl1 yc1, .int .i64 k2, .string n2, .int .i64 s2, .slice ya2 yl2 yc2] 77)) = w5 at HX ⊢
    have hs5 : wr.heap.size < w5.heap.size := by rw [← hgen, World.size_alloc]; omega
    clear hgen g0 g1 g2 g3 g4 g5 g6 g7
    have HCx : Hid (∀ W, Ext w5 W → (W.cell? ⟨wr.heap.size, 0, none⟩ = some (.int .i64 k1) ∧ W.cell? ⟨wr.heap.size, 1, none⟩ = some (.string n1) ∧ W.cell? ⟨wr.heap.size, 2, none⟩ = some (.int .i64 s1) ∧ W.cell? ⟨wr.heap.size, 3, none⟩ = some (.slice ya1 yl1 yc1)) ∧ W.cell? ⟨wr.heap.size, 4, none⟩ = some (.int .i64 k2) ∧ W.cell? ⟨wr.heap.size, 5, none⟩ = some (.string n2) ∧ W.cell? ⟨wr.heap.size, 6, none⟩ = some (.int .i64 s2) ∧ W.cell? ⟨wr.heap.size, 7, none⟩ = some (.slice ya2 yl2 yc2)) := fun W h => box8_facts (HX.out W h).1
    obtain ⟨⟨g0, g1, g2, g3⟩, g4, g5, g6, g7⟩ := HCx.out w5 (Ext.refl w5)
    have hF0 : Ext w5 w5.drew := (Ext.refl w5).drew
    have tok1 : True := trivial
    go_region_held_law (fun W => (W.cell? ⟨wr.heap.size, 0, none⟩ = some (.int .i64 k1) ∧ W.cell? ⟨wr.heap.size, 1, none⟩ = some (.string n1) ∧ W.cell? ⟨wr.heap.size, 2, none⟩ = some (.int .i64 s1) ∧ W.cell? ⟨wr.heap.size, 3, none⟩ = some (.slice ya1 yl1 yc1)) ∧ W.cell? ⟨wr.heap.size, 4, none⟩ = some (.int .i64 k2) ∧ W.cell? ⟨wr.heap.size, 5, none⟩ = some (.string n2) ∧ W.cell? ⟨wr.heap.size, 6, none⟩ = some (.int .i64 s2) ∧ W.cell? ⟨wr.heap.size, 7, none⟩ = some (.slice ya2 yl2 yc2))
      (first | exact HK8.out | exact HCx.out _ (by assumption) | go_keep)
      (first
        | (go_at_call 59; have _t := tok1; refine (HP1.out _ (Ext.trans HB.out (HX.out _ hF0).2)).mono ?_; rintro e w6 ⟨c0, c1, c2, c3, he, hI6, hB6⟩; subst he; obtain ⟨k6, n6, s6, xa6, l6, cap6, e0, e1, e2, e3⟩ := IsIn_form hI6; subst e0 e1 e2 e3; have hF1 : Ext w5 w6 := hF0.trans hB6; have HI6 := Lib.hid hI6; clear hI6 hB6 tok1)
        | (go_at_call 59; refine (HP2.out _ (Ext.trans HB.out (HX.out _ hF1).2)).mono ?_; rintro e w7 ⟨c0, c1, c2, c3, he, hI7, hB7⟩; subst he; obtain ⟨k7, n7, s7, xa7, l7, cap7, e0, e1, e2, e3⟩ := IsIn_form hI7; subst e0 e1 e2 e3; have hF2 : Ext w5 w7 := hF1.trans hB7; have HE7 := Lib.hid (HX.out _ hF2).2; have HI7 : Hid (IsIn (fun b => b < w.heap.size ∨ (wr.heap.size ≤ b ∧ b < w7.heap.size)) w7 bs[j].2 (.int .i64 k7) (.string n7) (.int .i64 s7) (.slice xa7 l7 cap7)) := Lib.hid (IsIn_carry (fun b hb => rfl) (fun b hb => by have := hF1.size; rcases hb with h | h <;> omega) _ _ _ _ _ hI7); have HI6b : Hid (IsIn (fun b => b < w.heap.size ∨ (wr.heap.size ≤ b ∧ b < w7.heap.size)) w7 bs[j].1 (.int .i64 k6) (.string n6) (.int .i64 s6) (.slice xa6 l6 cap6)) := Lib.hid (IsIn_carry (fun b hb => hB7.block b (by have := hF1.size; rcases hb with h | h <;> omega)) (fun b hb => by have h5 : w5.heap.size ≤ w5.drew.heap.size := Nat.le_refl _; have := hB7.size; rcases hb with h | h <;> omega) _ _ _ _ _ HI6.out); have HO7 := Lib.hid (HO.out _ HE7.out); have hw7 : w.heap.size ≤ w7.heap.size := Nat.le_trans hws HE7.out.size; have hw75 : w5.heap.size ≤ w7.heap.size := hF2.size; clear hI7 hB7)
        | (refine step_append_lies _ (by rfl) _ _ _ (by rfl) w.heap.size 77 i0 _ 8 112 Tryd.underlying33 HI0.out.1 HI0.out.2.1 HI0.out.2.2.1 HI0.out.2.2.2 rfl (by omega) (.slice xl j lcap) j cs (by rfl) (HO7.out.alloc _) ⟨w7.heap.size, 0, none⟩ 1 1 [.int .i64 k6, .string n6, .int .i64 s6, .slice xa6 l6 cap6, .int .i64 k7, .string n7, .int .i64 s7, .slice xa7 l7 cap7] (by rfl) (by rfl) (World.news_of_block (cs := #[.int .i64 k6, .string n6, .int .i64 s6, .slice xa6 l6 cap6, .int .i64 k7, .string n7, .int .i64 s7, .slice xa7 l7 cap7]) (t := 77) (fr := (0, 0)) (heap_alloc_new w7 _)) (by simp [Value.oneCell']) (by omega) (by unfold maxLen; omega) (by omega) (by simp; omega) (w7.heap.size + 1) (by simp) ?_; intro gg cap8 w8 hown8 hgrow hat hltt; have hpu := HPU.out w7 HE7.out _ _ _ _ _ _ _ _ HI6b.out HI7.out _ _ _ _ hown8 hgrow hat; have HK8 := Lib.hid (box8_facts ((hpu.2.1 wr.heap.size (Nat.le_refl _) (by omega)).trans (HX.out _ hF2).1)); have HP8 := Lib.hid (And.intro hpu.1 hpu.2.2); clear hown8 hgrow hat hltt hpu))
    all_goals (go_wp2_with fail)
    all_goals (go_roundw)
    all_goals (first | exact ⟨j + 1, by omega, by go_num, by simpa using HP8.out.1, HP8.out.2⟩ | (simp [intOf]; omega))
end Go.Proofs.YtdgofofhkebkkaaDoor

/-
  THE WALKS OF subst.All and of the reference's All.
-/
namespace Go.Proofs.YtdgofofhkebkkaaDoor
open Go.RowKit

/-- The terms with a substitution applied, in order, or the first error. -/
def allP (bs : List Bd) : List Tm → List Tm × Int
  | [] => ([], 0)
  | t :: ts => if (applyP bs t).2 = 0 then (if (allP bs ts).2 = 0 then ((applyP bs t).1 :: (allP bs ts).1, 0) else ([], (allP bs ts).2)) else ([], (applyP bs t).2)
def allV (bs : List Bd) (l : List Tm) : List Tm × Int := if validB bs = 0 then (if 200 < l.length then ([], 3) else allP bs l) else ([], validB bs)
def appL (bs : List Bd) (l : List Tm) : List Tm := l.map (fun t => (applyP bs t).1)
theorem allP_err (bs : List Bd) : ∀ (l : List Tm) (j : Nat) (h : j < l.length), (∀ (i : Nat) (hi : i < j), (applyP bs (l[i]'(by omega))).2 = 0) → ¬ (applyP bs l[j]).2 = 0 → allP bs l = ([], (applyP bs l[j]).2)
  | t :: ts, 0, _, _, he => by
    simp only [List.getElem_cons_zero] at he ⊢
    rw [allP, if_neg he]
  | t :: ts, j + 1, h, hok, he => by
    have h0 := hok 0 (by omega)
    simp only [List.getElem_cons_zero] at h0
    simp only [List.getElem_cons_succ] at he ⊢
    have hl : j < ts.length := by simpa using h
    have ih := allP_err bs ts j hl (fun i hi => by have := hok (i + 1) (by omega); simpa using this) he
    rw [allP, if_pos h0, ih, if_neg (by exact he)]
theorem allP_fine (bs : List Bd) : ∀ l : List Tm, (∀ t ∈ l, (applyP bs t).2 = 0) → allP bs l = (appL bs l, 0)
  | [], _ => rfl
  | t :: ts, h => by
    have ih := allP_fine bs ts (fun c hc => h c (List.mem_cons_of_mem _ hc))
    rw [allP, if_pos (h t (List.mem_cons_self ..)), ih, if_pos rfl]; rfl
theorem allP_len (bs : List Bd) : ∀ l : List Tm, (allP bs l).1.length ≤ l.length
  | [] => Nat.le_refl _
  | t :: ts => by
    have ih := allP_len bs ts
    rw [allP]
    by_cases h0 : (applyP bs t).2 = 0
    · rw [if_pos h0]
      by_cases h1 : (allP bs ts).2 = 0
      · rw [if_pos h1]; simpa using ih
      · rw [if_neg h1]; exact Nat.zero_le _
    · rw [if_neg h0]; exact Nat.zero_le _
theorem allP_mem (bs : List Bd) : ∀ (l : List Tm) (u : Tm), u ∈ (allP bs l).1 → ∃ t ∈ l, (applyP bs t).2 = 0 ∧ u = (applyP bs t).1
  | [], u, h => by simp [allP] at h
  | t :: ts, u, h => by
    rw [allP] at h
    by_cases h0 : (applyP bs t).2 = 0
    · rw [if_pos h0] at h
      by_cases h1 : (allP bs ts).2 = 0
      · rw [if_pos h1] at h
        rcases List.mem_cons.1 h with rfl | h
        · exact ⟨t, List.mem_cons_self .., h0, rfl⟩
        · obtain ⟨x, hx, e⟩ := allP_mem bs ts u h
          exact ⟨x, List.mem_cons_of_mem _ hx, e⟩
      · rw [if_neg h1] at h; simp at h
    · rw [if_neg h0] at h; simp at h
/-- A list of terms and an error, given back. -/
def RtPost (w : World) (r : List Tm × Int) (e : Ending) (w' : World) : Prop :=
  ∃ xa cap, e = .returned (.tuple #[.slice xa r.1.length cap, .int .i64 r.2]) ∧ r.1.length ≤ cap ∧ Row w' r.1 xa ∧ Below w.heap.size w w'
theorem RtPost_err {w W : World} {r : List Tm × Int} {x : Int} (h : r = ([], x)) (hB : Below w.heap.size w W) : RtPost w r (.returned (.tuple #[.slice none 0 0, .int .i64 x])) W := by
  rw [h]; exact ⟨none, 0, rfl, Nat.le_refl _, by simp [Row], hB⟩
theorem KidsIn_row {base H : Nat} {w : World} {acc : List Tm} {xa : Option Addr} {cap : Nat} (h : KidsIn base H w acc (.slice xa acc.length cap)) : Row w acc xa ∧ acc.length ≤ cap := by
  have h := IsIn_Is _ _ _ _ _ (KidsIn_node (k := 3) (s := 0) (n := ⟨#[]⟩) h (by omega) (by omega) (Nat.zero_le _))
  simp only [Is] at h
  obtain ⟨_, _, _, _, _, _, _, xa', cap', e, hc, hR⟩ := h
  simp only [Value.slice.injEq] at e
  obtain ⟨rfl, _, rfl⟩ := e
  exact ⟨hR, hc⟩

set_option maxHeartbeats 6400000 in
set_option maxRecDepth 100000 in
theorem rall02_any (bs : List Bd) (l : List Tm) (xs xl : Option Addr) (cs cl N : Nat) (w : World) (hcs : bs.length ≤ cs) (hlen : bs.length ≤ 1073741824) (hsz : SzB 1073741824 bs) (hrow : Row w (flatB bs) xs) (hll : l.length ≤ 1048576) (hrl : Row w l xl) (hN : ∀ b ∈ bs, size b.2 ≤ N) (h1 : 1 ≤ N) (hsn : ∀ t ∈ l, size t * N ≤ 1073741824) :
    Calls Tryd.prog 24 #[.slice xs bs.length cs, .slice xl l.length cl] w (RtPost w (allV bs l)) := by
  have HV := Lib.hid (rbvalid_any bs xs cs w hcs (by unfold maxLen; omega) hsz hrow)
  have HAP := Lib.hid (fun (hv : validB bs = 0) (t : Tm) (ht : t ∈ l) (c0 c1 c2 c3 : Value) W (x : Ext w W) (hI : Is w t c0 c1 c2 c3) => (by have h := rapply_at bs xs cs N t c0 c1 c2 c3 w W x hcs hlen hsz hrow hN h1 (hsn t ht) hI; have e : applyV bs t = applyP bs t := (by unfold applyV; rw [if_pos hv]); rw [e] at h; exact h : Calls Tryd.prog 28 #[.slice xs bs.length cs, .agg #[c0, c1, c2, c3]] W (RaPostB w.heap.size W (applyP bs t))))
  have HD : Hid (allV bs l = if validB bs = 0 then (if 200 < l.length then ([], 3) else allP bs l) else ([], validB bs)) := rfl
  have HRL := Lib.hid hrl
  obtain ⟨i0, hi0, hz0, hz1, hz2⟩ := info_parts info24
  have HI0 := Lib.hid (And.intro hi0 (And.intro hz0 (And.intro hz1 hz2)))
  generalize allV bs l = R at HD ⊢
  clear hcs hlen hsz hrow hrl hN h1 hsn hi0 hz0 hz1 hz2
  by_cases hv : validB bs = 0
  rotate_left
  · have HE : Hid (R = ([], validB bs)) := by show _ = _; rw [HD.out, if_neg hv]
    generalize validB bs = E at hv HV HE
    have q1 : (E != 0) = true := by rw [bne_iff_ne]; exact hv
    clear hv
    go_enter Tryd.func24, Tryd.ntmps24
    go_wp2_with (go_at_call 18; refine (HV.out).mono ?_; rintro e w1 ⟨he, hB⟩; subst he; have HB1 := Lib.hid hB; clear hB)
    exact bodyPost_ret (v := .tuple #[.slice none 0 0, .int .i64 E]) (by simp [results, Tryd.results24, go_sem]) rfl (RtPost_err HE.out HB1.out)
  have HD2 : Hid (R = if 200 < l.length then ([], 3) else allP bs l) := by show _ = _; rw [HD.out, if_pos hv]
  have HAQ := Lib.hid (HAP.out hv)
  rw [hv] at HV
  have q0 : ((0 : Int) != 0) = false := rfl
  clear HD HAP
  by_cases h200 : 200 < l.length
  · have HE : Hid (R = ([], 3)) := by show _ = _; rw [HD2.out, if_pos h200]
    have q2 : (200 : Int) < (l.length : Int) := by omega
    clear h200
    go_enter Tryd.func24, Tryd.ntmps24
    go_wp2_with (go_at_call 18; refine (HV.out).mono ?_; rintro e w1 ⟨he, hB⟩; subst he; have HB1 := Lib.hid hB; clear hB)
    exact bodyPost_ret (v := .tuple #[.slice none 0 0, .int .i64 3]) (by simp [results, Tryd.results24, go_sem]) rfl (RtPost_err HE.out HB1.out)
  have HD3 : Hid (R = allP bs l) := by show _ = _; rw [HD2.out, if_neg h200]
  have q2 : (l.length : Int) ≤ 200 := by omega
  clear h200 HD2
  go_enter Tryd.func24, Tryd.ntmps24
  go_wp2_with (go_at_call 18; refine (HV.out).mono ?_; rintro e w1 ⟨he, hB⟩; subst he; have HB1 := Lib.hid (show Ext w w1 from hB); clear hB)
  go_loopw [7, 8] (fun lv i wr => ∃ j : Nat, j ≤ l.length ∧ i = .int .i64 j ∧ KidsIn w.heap.size w.heap.size wr (appL bs (l.take j)) lv ∧ Below w.heap.size w wr ∧ Hid (∀ (a : Nat) (ha : a < j) (hb : a < l.length), (applyP bs l[a]).2 = 0)) (fun _ i _ => l.length - (intOf i).toNat)
  case atStart => exact ⟨0, Nat.zero_le _, rfl, KidsIn_nil _ _ _, HB1.out, fun a ha => absurd ha (by omega)⟩
  case round =>
    obtain ⟨j, hj, rfl, hK, hB, HOK⟩ := hrel
    obtain ⟨xo, co, rfl⟩ := KidsIn_form hK
    have hal : (appL bs (l.take j)).length = j := by unfold appL; rw [List.length_map, List.length_take]; omega
    by_cases hlt : j < l.length
    rotate_left
    · have hjl : j = l.length := by omega
      rw [hjl, List.take_length] at hK ⊢
      have HE : Hid (R = (appL bs l, 0)) := by
        show _ = _
        rw [HD3.out, allP_fine bs l (fun t ht => by obtain ⟨a, ha, rfl⟩ := List.getElem_of_mem ht; exact HOK.out a (by omega) ha)]
      have HRO := Lib.hid (KidsIn_row hK)
      have HB := Lib.hid hB
      clear hK hB hjl hal
      go_wp2_with fail
      refine bodyPost_ret (v := .tuple #[.slice xo (appL bs l).length co, .int .i64 0]) (by simp [results, Tryd.results24, go_sem]) rfl ?_
      rw [HE.out]
      exact ⟨xo, co, rfl, HRO.out.2, HRO.out.1, HB.out⟩
    obtain ⟨F, ⟨cs', hown, hKC⟩, hF⟩ := hK
    rw [hal] at hown hF ⊢
    obtain ⟨b, o, rfl⟩ := Row_at HRL.out (by omega)
    obtain ⟨t0, t1, t2, t3, g0, g1, g2, g3, hI2⟩ := Row_get HRL.out j hlt
    obtain ⟨k2, n2, s2, ya2, yl2, yc2, rfl, rfl, rfl, rfl⟩ := Is_form hI2
    replace g0 := keep_below hB _ _ g0
    replace g1 := keep_below hB _ _ g1
    replace g2 := keep_below hB _ _ g2
    replace g3 := keep_below hB _ _ g3
    have hC := HAQ.out l[j] (List.getElem_mem hlt) _ _ _ _ wr hB hI2
    have HERR := Lib.hid (fun (h : ¬ (applyP bs l[j]).2 = 0) => allP_err bs l j hlt (fun i hi => HOK.out i hi (by omega)) h)
    have HOK2 : Hid ((applyP bs l[j]).2 = 0 → ∀ (a : Nat) (ha : a < j + 1) (hb : a < l.length), (applyP bs l[a]).2 = 0) := fun h a ha hb => by
      by_cases e : a = j
      · subst e; exact h
      · exact HOK.out a (by omega) hb
    have htk : appL bs (l.take (j + 1)) = appL bs (l.take j) ++ [(applyP bs l[j]).1] := by unfold appL; rw [List.take_succ_eq_append_getElem hlt, List.map_append]; rfl
    generalize applyP bs l[j] = r at hC htk HERR HOK2
    obtain ⟨u, x⟩ := r
    have HC := Lib.hid hC
    have hws := hB.size
    have HB := Lib.hid hB
    have HO := Lib.hid (fun W (y : Ext wr W) => own_heap hown (fun q hq => y.block q (hown.lt q hq).2))
    have HPU : Hid (∀ w6, Ext wr w6 → ∀ c0 c1 c2 c3, IsIn (fun b => b < w.heap.size ∨ (wr.heap.size ≤ b ∧ b < w6.heap.size)) w6 u c0 c1 c2 c3 → ∀ g cap w8 ob, w8.ownsRow w.heap.size 25 4 (.slice (some ⟨g, 0, none⟩) (j + 1) cap) (j + 1) (cs' ++ [c0, c1, c2, c3]) → (w6.alloc ob).grownBy w8 (Value.slice xo j co).ownBlock → ((Value.slice xo j co).ownBlock = some g ∨ g = w6.heap.size + 1) →
        KidsIn w.heap.size w.heap.size w8 (appL bs (l.take (j + 1))) (.slice (some ⟨g, 0, none⟩) (j + 1) cap) ∧ Below w.heap.size w w8) := by
      show ∀ _, _
      intro w6 hE6 c0 c1 c2 c3 hI g cap w8 ob ho8 hg hat
      have r := KidsIn_push hal.symm hown hKC hF (Nat.le_refl _) hws hE6 hI ho8 hg hat
      rw [htk]
      exact ⟨r.1, (HB.out.trans (hE6.mono hws)).trans (r.2.2.2.mono (Nat.le_refl _))⟩
    have i1 : (0 : Int) ≤ (j : Int) := by omega
    have i2 : (j : Int) < (l.length : Int) := by omega
    clear hown hKC hF hB hI2 hC htk hal
    by_cases hx : x = 0
    rotate_left
    · have HQ : Hid (R = ([], x)) := by show _ = _; rw [HD3.out]; exact HERR.out hx
      have q3 : (x != 0) = true := by rw [bne_iff_ne]; exact hx
      clear hx
      go_wp2_with (go_at_call 28; refine (HC.out).mono ?_; rintro e w4 ⟨c0, c1, c2, c3, he, hI4, hB4⟩; subst he; obtain ⟨k6, n6, s6, xa6, l6, cap6, e0, e1, e2, e3⟩ := IsIn_form hI4; subst e0 e1 e2 e3; have HB4 := Lib.hid hB4; clear hI4 hB4)
      exact bodyPost_ret (v := .tuple #[.slice none 0 0, .int .i64 x]) (by simp [results, Tryd.results24, go_sem]) rfl (RtPost_err HQ.out (Ext.alloc (a := w) (Ext.trans (a := w) HB.out HB4.out) _))
    have HOK3 := Lib.hid (HOK2.out hx)
    subst hx
    go_upto_region 13 with (go_at_call 28; refine (HC.out).mono ?_; rintro e w4 ⟨c0, c1, c2, c3, he, hI4, hB4⟩; subst he; obtain ⟨k6, n6, s6, xa6, l6, cap6, e0, e1, e2, e3⟩ := IsIn_form hI4; subst e0 e1 e2 e3; have HI4 := Lib.hid hI4; have HB4 := Lib.hid hB4; clear hI4 hB4)
    have hx5 := heap_alloc_new w4 (.cells #[.int .i64 k6, .string n6, .int .i64 s6, .slice xa6 l6 cap6] 25)
    have hI5 : IsIn (fun b => b < w.heap.size ∨ (wr.heap.size ≤ b ∧ b < (w4.alloc (.cells #[.int .i64 k6, .string n6, .int .i64 s6, .slice xa6 l6 cap6] 25)).heap.size)) (w4.alloc (.cells #[.int .i64 k6, .string n6, .int .i64 s6, .slice xa6 l6 cap6] 25)) u (.int .i64 k6) (.string n6) (.int .i64 s6) (.slice xa6 l6 cap6) := IsIn_carry (fun b hb => Below.heap_alloc _ _ _ (by have := HB4.out.size; rcases hb with h | h <;> omega)) (fun b hb => by rw [World.size_alloc]; rcases hb with h | h <;> omega) _ _ _ _ _ HI4.out
    have hE5 : Ext wr (w4.alloc (.cells #[.int .i64 k6, .string n6, .int .i64 s6, .slice xa6 l6 cap6] 25)) := Ext.alloc HB4.out _
    generalize (w4.alloc (.cells #[.int .i64 k6, .string n6, .int .i64 s6, .slice xa6 l6 cap6] 25)) = w5 at hx5 hI5 hE5 ⊢
    obtain ⟨⟨m0, m1, m2, m3⟩, _⟩ := box_facts hx5
    have HI5 := Lib.hid hI5
    have HE5 := Lib.hid hE5
    have HO5 := Lib.hid (HO.out _ hE5)
    have hw5 : w.heap.size ≤ w5.heap.size := Nat.le_trans hws hE5.size
    clear hx5 hI5 hE5 g0 g1 g2 g3
    go_wp2_with (at_builtin; refine wpList_append_lies _ rfl _ _ _ rfl w.heap.size 25 i0 _ 4 56 Tryd.underlying23 HI0.out.1 HI0.out.2.1 HI0.out.2.2.1 HI0.out.2.2.2 rfl (by omega) (.slice xo j co) j cs' rfl (HO5.out.alloc _) ⟨w5.heap.size, 0, none⟩ 1 1 [.int .i64 k6, .string n6, .int .i64 s6, .slice xa6 l6 cap6] rfl rfl (World.news_of_block (cs := #[.int .i64 k6, .string n6, .int .i64 s6, .slice xa6 l6 cap6]) (t := 25) (fr := (0, 0)) (heap_alloc_new w5 _)) (by simp [Value.oneCell']) (by omega) (by unfold maxLen; omega) (by omega) (by simp; omega) (w5.heap.size + 1) (by simp) ?_; intro gg cap2 w8 hown8 hgrow8 hat8 hlt8; have HP8 := Lib.hid (HPU.out w5 HE5.out _ _ _ _ HI5.out _ _ _ _ hown8 hgrow8 hat8); clear hown8 hgrow8 hat8 hlt8)
    go_roundw
    case rel => exact ⟨j + 1, by omega, by go_num, by simpa using HP8.out.1, HP8.out.2, HOK3⟩
    case measure => simp [intOf]; omega

/-- A made row of terms, the first j of which are set. -/
structure AR (w : World) (g : Nat) (us : List Tm) (j : Nat) (wr : World) : Prop where
  below : Below w.heap.size w wr
  own : w.heap.size ≤ g
  row : ∃ cs zs, wr.ownsRow g 25 4 (.slice (some ⟨g, 0, none⟩) us.length us.length) us.length (cs ++ zs) ∧ cs.length = j * 4 ∧ KC (fun b => g < b ∧ b < wr.heap.size) wr (us.take j) cs
theorem AR.ext {w wr w3 : World} {g j : Nat} {us : List Tm} (h : AR w g us j wr) (hB : Ext wr w3) : AR w g us j w3 := by
  obtain ⟨cs, zs, ho, hc, hK⟩ := h.row
  exact ⟨Ext.trans h.below hB, h.own, cs, zs, own_heap ho (fun q hq => hB.block q (ho.lt q hq).2), hc, KC_carry (fun b hb => hB.block b hb.2) (fun b hb => ⟨hb.1, by have := hB.size; omega⟩) _ _ hK⟩
theorem AR.cells {w wr : World} {g j : Nat} {us : List Tm} (h : AR w g us j wr) (hj : j < us.length) :
    (∃ z0 z1 z2 z3, wr.cell? ⟨g, j * 4, none⟩ = some z0 ∧ wr.cell? ⟨g, j * 4 + 1, none⟩ = some z1 ∧ wr.cell? ⟨g, j * 4 + 2, none⟩ = some z2 ∧ wr.cell? ⟨g, j * 4 + 3, none⟩ = some z3) ∧ ∀ i, wr.frozen? ⟨g, i, none⟩ = false := by
  obtain ⟨cs, zs, ho, hc, _⟩ := h.row
  have hl := ho.1
  have hz : ∀ i, i < 4 → ∃ z, wr.cell? ⟨g, j * 4 + i, none⟩ = some z := fun i hi => by
    rw [ho.cellAt _ (by omega)]
    exact ⟨_, List.getElem?_eq_getElem (by omega)⟩
  obtain ⟨z0, h0⟩ := hz 0 (by omega)
  obtain ⟨z1, h1⟩ := hz 1 (by omega)
  obtain ⟨z2, h2⟩ := hz 2 (by omega)
  obtain ⟨z3, h3⟩ := hz 3 (by omega)
  exact ⟨⟨z0, z1, z2, z3, h0, h1, h2, h3⟩, fun i => ho.frozenAt i⟩
theorem AR.lt {w wr : World} {g j : Nat} {us : List Tm} (h : AR w g us j wr) : g < wr.heap.size := by
  obtain ⟨cs, zs, ho, _⟩ := h.row
  exact (ho.lt g rfl).2
theorem AR.next {w wr : World} {g j : Nat} {us : List Tm} (h : AR w g us j wr) (hj : j < us.length) {c0 c1 c2 c3 : Value}
    (hI : IsIn (fun b => g < b ∧ b < wr.heap.size) wr us[j] c0 c1 c2 c3) : AR w g us (j + 1) (put4 wr g (j * 4) c0 c1 c2 c3) := by
  obtain ⟨cs, zs, ho, hc, hK⟩ := h.row
  have hp : ∀ q, q ≠ g → (put4 wr g (j * 4) c0 c1 c2 c3).heap[q]? = wr.heap[q]? := fun q hq => put4_other _ _ _ _ _ _ _ _ hq
  have hsz : (put4 wr g (j * 4) c0 c1 c2 c3).heap.size = wr.heap.size := put4_size _ _ _ _ _ _ _
  refine ⟨put4_below h.below h.own, h.own, cs ++ [c0, c1, c2, c3], zs.drop 4, ?_, ?_, ?_⟩
  · have h1 := ((((((ho.stored (j * 4) c0).1).stored (j * 4 + 1) c1).1).stored (j * 4 + 2) c2).1.stored (j * 4 + 3) c3).1
    have hz : ∃ z0 z1 z2 z3 r, zs = z0 :: z1 :: z2 :: z3 :: r := by
      have hl := ho.1
      rw [List.length_append] at hl
      exact four_of zs (by omega)
    obtain ⟨z0, z1, z2, z3, r, rfl⟩ := hz
    have e : ((((cs ++ z0 :: z1 :: z2 :: z3 :: r).set (j * 4) c0).set (j * 4 + 1) c1).set (j * 4 + 2) c2).set (j * 4 + 3) c3 = (cs ++ [c0, c1, c2, c3]) ++ List.drop 4 (z0 :: z1 :: z2 :: z3 :: r) := by
      rw [← hc]
      simp only [List.set_append_right _ _ (Nat.le_refl _), List.set_append_right _ _ (Nat.le_add_right _ _), Nat.sub_self, Nat.add_sub_cancel_left, List.set_cons_zero, List.set_cons_succ, List.drop_succ_cons, List.drop_zero, List.append_assoc, List.cons_append, List.nil_append]
    rw [e] at h1
    exact h1
  · simp only [List.length_append, hc, List.length_cons, List.length_nil]; omega
  · rw [List.take_succ_eq_append_getElem hj]
    exact KC_snoc (IsIn_carry (fun b hb => hp b (by omega)) (fun b hb => ⟨hb.1, by rw [hsz]; exact hb.2⟩) _ _ _ _ _ hI) _ _ (KC_carry (fun b hb => hp b (by omega)) (fun b hb => ⟨hb.1, by rw [hsz]; exact hb.2⟩) _ _ hK)
theorem AR.done {w wr : World} {g : Nat} {us : List Tm} (h : AR w g us us.length wr) : Row wr us (some ⟨g, 0, none⟩) ∧ Below w.heap.size w wr := by
  obtain ⟨cs, zs, ho, hc, hK⟩ := h.row
  rw [List.take_length] at hK
  refine ⟨Row_cells g us 0 cs hK (fun i u hu => ?_), h.below⟩
  have hi : i < cs.length := by
    rcases Nat.lt_or_ge i cs.length with h | h
    · exact h
    · rw [List.getElem?_eq_none h] at hu; cases hu
  have hl := ho.1
  rw [List.length_append] at hl
  rw [Nat.zero_add, ho.cellAt i (by omega), List.getElem?_append_left hi]; exact hu
theorem AR_made {w w0 w1 : World} {g : Nat} {us : List Tm} {xs : List Value} (hown : w1.ownsRow g 25 4 (.slice (some ⟨g, 0, none⟩) us.length us.length) us.length xs) (hw : w.heap.size ≤ g) (hz : g ≤ w0.heap.size) (hB : Below w.heap.size w w0) (hg : w0.grownBy w1 none) : AR w g us 0 w1 :=
  ⟨hB.grown hg (by omega) (fun q hq => by simp at hq), hw, [], xs, hown, by simp, rfl⟩

set_option maxHeartbeats 6400000 in
set_option maxRecDepth 100000 in
theorem sall_any (bs : List Bd) (l : List Tm) (xs xl : Option Addr) (cs cl N : Nat) (w : World) (hcs : bs.length ≤ cs) (hlen : bs.length ≤ 1073741824) (hsz : SzB 1073741824 bs) (hrow : Row w (flatB bs) xs) (_hcl : l.length ≤ cl) (hll : l.length ≤ 1048576) (hrl : Row w l xl) (hN : ∀ b ∈ bs, size b.2 ≤ N) (h1 : 1 ≤ N) (hsn : ∀ t ∈ l, size t * N ≤ 1073741824) :
    Calls Tryd.prog 23 #[.slice xs bs.length cs, .slice xl l.length cl] w (RtPost w (allV bs l)) := by
  have HV := Lib.hid (bvalid_any bs xs cs w hcs (by unfold maxLen; omega) hsz hrow)
  have HAP := Lib.hid (fun (hv : validB bs = 0) (t : Tm) (ht : t ∈ l) (c0 c1 c2 c3 : Value) W (x : Ext w W) (hI : Is W t c0 c1 c2 c3) => sapply_any bs xs cs N t c0 c1 c2 c3 W hN h1 (hsn t ht) ⟨Row_below (w' := W) hrow x, hcs, hlen, hsz, (validB_ok hv).2.2⟩ hI)
  have HD : Hid (allV bs l = if validB bs = 0 then (if 200 < l.length then ([], 3) else allP bs l) else ([], validB bs)) := rfl
  have HRL := Lib.hid hrl
  obtain ⟨i0, hi0, hz0, hz1, hz2⟩ := info_parts info24
  have HI0 := Lib.hid (And.intro hi0 (And.intro hz0 (And.intro hz1 hz2)))
  generalize allV bs l = R at HD ⊢
  clear hcs hlen hsz hrow hrl hN h1 hsn hi0 hz0 hz1 hz2
  by_cases hv : validB bs = 0
  rotate_left
  · have HE : Hid (R = ([], validB bs)) := by show _ = _; rw [HD.out, if_neg hv]
    generalize validB bs = E at hv HV HE
    have q1 : (E != 0) = true := by rw [bne_iff_ne]; exact hv
    clear hv
    go_enter Tryd.func23, Tryd.ntmps23
    go_wp2_with (go_at_call 17; refine (HV.out).mono ?_; rintro e w1 ⟨he, hB⟩; subst he; have HB1 := Lib.hid hB; clear hB)
    exact bodyPost_ret (v := .tuple #[.slice none 0 0, .int .i64 E]) (by simp [results, Tryd.results23, go_sem]) rfl (RtPost_err HE.out HB1.out)
  have HD2 : Hid (R = if 200 < l.length then ([], 3) else allP bs l) := by show _ = _; rw [HD.out, if_pos hv]
  have HAQ := Lib.hid (HAP.out hv)
  rw [hv] at HV
  have q0 : ((0 : Int) != 0) = false := rfl
  clear HD HAP
  by_cases h200 : 200 < l.length
  · have HE : Hid (R = ([], 3)) := by show _ = _; rw [HD2.out, if_pos h200]
    have q2 : (200 : Int) < (l.length : Int) := by omega
    clear h200
    go_enter Tryd.func23, Tryd.ntmps23
    go_wp2_with (go_at_call 17; refine (HV.out).mono ?_; rintro e w1 ⟨he, hB⟩; subst he; have HB1 := Lib.hid hB; clear hB)
    exact bodyPost_ret (v := .tuple #[.slice none 0 0, .int .i64 3]) (by simp [results, Tryd.results23, go_sem]) rfl (RtPost_err HE.out HB1.out)
  have HD3 : Hid (R = allP bs l) := by show _ = _; rw [HD2.out, if_neg h200]
  have q2 : (l.length : Int) ≤ 200 := by omega
  obtain ⟨us, hus⟩ : ∃ us, appL bs l = us := ⟨_, rfl⟩
  have hul : us.length = l.length := by rw [← hus]; unfold appL; rw [List.length_map]
  have HUS := Lib.hid hus
  have HUL := Lib.hid hul
  rw [← hul] at q2 hll ⊢
  clear h200 HD2 hus hul
  go_enter Tryd.func23, Tryd.ntmps23
  go_upto_region 6 with (go_at_call 17; refine (HV.out).mono ?_; rintro e w1 ⟨he, hB⟩; subst he; have HB1 := Lib.hid (show Ext w w1 from hB); clear hB)
  have hw1 := HB1.out.size
  go_wp2_with (at_make; refine make_full_at _ w1.heap.size (by simp) rfl _ _ _ rfl 25 i0 _ 4 Tryd.underlying23 HI0.out.1 HI0.out.2.1 HI0.out.2.2.1 us.length rfl rfl (by rw [HI0.out.2.2.2]; omega) (by unfold maxLen; omega) ?_; intro w2 hown1 hgrow; have HM := Lib.hid (AR_made hown1 hw1 (Nat.le_refl _) HB1.out hgrow); clear hown1 hgrow)
  have HG1 := Lib.hid (fun W (x : Ext w2 W) => (show w1.heap.size < W.heap.size from Nat.lt_of_lt_of_le HM.out.lt x.size))
  generalize w1.heap.size = g at HM HG1 ⊢
  go_loopw [24] (fun i wr => ∃ j : Nat, j ≤ us.length ∧ i = .int .i64 j ∧ AR w g us j wr ∧ Hid (∀ (a : Nat) (ha : a < j) (hb : a < l.length), (applyP bs l[a]).2 = 0)) (fun i _ => us.length - (intOf i).toNat)
  case atStart => exact ⟨0, Nat.zero_le _, rfl, HM.out, fun a ha => absurd ha (by omega)⟩
  case round =>
    obtain ⟨j, hj, rfl, hA, HOK⟩ := hrel
    have HA := Lib.hid hA
    by_cases hlt : j < us.length
    rotate_left
    · have hjl : j = us.length := by omega
      have HE : Hid (R = (us, 0)) := by
        show _ = _
        rw [HD3.out, allP_fine bs l (fun t ht => by obtain ⟨a, ha, rfl⟩ := List.getElem_of_mem ht; exact HOK.out a (by have := HUL.out; omega) ha), HUS.out]
      have HRO := Lib.hid (show Row wr us (some ⟨g, 0, none⟩) ∧ Below w.heap.size w wr from by rw [hjl] at hA; exact hA.done)
      clear hA hjl
      go_wp2_with fail
      refine bodyPost_ret (v := .tuple #[.slice (some ⟨g, 0, none⟩) us.length us.length, .int .i64 0]) (by simp [results, Tryd.results23, go_sem]) rfl ?_
      rw [HE.out]
      exact ⟨_, _, rfl, Nat.le_refl _, HRO.out.1, HRO.out.2⟩
    have hlt1 : j < l.length := by have := HUL.out; omega
    have huj : us[j] = (applyP bs l[j]).1 := by
      have h : us[j]? = some (applyP bs l[j]).1 := by rw [← HUS.out]; unfold appL; rw [List.getElem?_map, List.getElem?_eq_getElem hlt1]; rfl
      rw [List.getElem?_eq_getElem hlt, Option.some.injEq] at h; exact h
    obtain ⟨b, o, rfl⟩ := Row_at HRL.out (by omega)
    have hB := hA.below
    obtain ⟨t0, t1, t2, t3, g0, g1, g2, g3, hI2⟩ := Row_get (Row_below HRL.out hB) j hlt1
    obtain ⟨k2, n2, s2, ya2, yl2, yc2, rfl, rfl, rfl, rfl⟩ := Is_form hI2
    have hC := HAQ.out l[j] (List.getElem_mem hlt1) _ _ _ _ wr hB hI2
    have HERR := Lib.hid (fun (h : ¬ (applyP bs l[j]).2 = 0) => allP_err bs l j hlt1 (fun i hi => HOK.out i hi (by omega)) h)
    have HOK2 : Hid ((applyP bs l[j]).2 = 0 → ∀ (a : Nat) (ha : a < j + 1) (hb : a < l.length), (applyP bs l[a]).2 = 0) := fun h a ha hb => by
      by_cases e : a = j
      · subst e; exact h
      · exact HOK.out a (by omega) hb
    generalize applyP bs l[j] = r at hC huj HERR HOK2
    obtain ⟨u, x⟩ := r
    have HC := Lib.hid hC
    have HUJ := Lib.hid (show us[j] = u from huj)
    have i1 : (0 : Int) ≤ (j : Int) := by omega
    have i2 : (j : Int) < (us.length : Int) := by omega
    clear hA hB hI2 hC huj hlt1
    by_cases hx : x = 0
    rotate_left
    · have HQ : Hid (R = ([], x)) := by show _ = _; rw [HD3.out]; exact HERR.out hx
      have q3 : (x != 0) = true := by rw [bne_iff_ne]; exact hx
      clear hx
      go_wp2_with (go_at_call 60; refine (HC.out).mono ?_; rintro e w4 ⟨c0, c1, c2, c3, he, hI4, hB4⟩; subst he; obtain ⟨k6, n6, s6, xa6, l6, cap6, e0, e1, e2, e3⟩ := IsIn_form hI4; subst e0 e1 e2 e3; have HB4 := Lib.hid hB4; clear hI4 hB4)
      exact bodyPost_ret (v := .tuple #[.slice none 0 0, .int .i64 x]) (by simp [results, Tryd.results23, go_sem]) rfl (RtPost_err HQ.out (Ext.alloc (a := w) (Ext.trans (a := w) HA.out.below HB4.out) _))
    have HOK3 := Lib.hid (HOK2.out hx)
    subst hx
    go_upto_region 13 with (go_at_call 60; refine (HC.out).mono ?_; rintro e w4 ⟨c0, c1, c2, c3, he, hI4, hB4⟩; subst he; obtain ⟨k6, n6, s6, xa6, l6, cap6, e0, e1, e2, e3⟩ := IsIn_form hI4; subst e0 e1 e2 e3; have HI4 := Lib.hid hI4; have HB4 := Lib.hid hB4; clear hI4 hB4)
    have hx5 := heap_alloc_new w4 (.cells #[.int .i64 k6, .string n6, .int .i64 s6, .slice xa6 l6 cap6] 25)
    have hE5 : Ext wr (w4.alloc (.cells #[.int .i64 k6, .string n6, .int .i64 s6, .slice xa6 l6 cap6] 25)) := Ext.alloc HB4.out _
    have hgl := HA.out.lt
    have hI5 : IsIn (fun b => g < b ∧ b < (w4.alloc (.cells #[.int .i64 k6, .string n6, .int .i64 s6, .slice xa6 l6 cap6] 25)).heap.size) (w4.alloc (.cells #[.int .i64 k6, .string n6, .int .i64 s6, .slice xa6 l6 cap6] 25)) us[j] (.int .i64 k6) (.string n6) (.int .i64 s6) (.slice xa6 l6 cap6) := by
      rw [HUJ.out]
      exact IsIn_carry (fun b hb => Below.heap_alloc _ _ _ hb.2) (fun b hb => ⟨by have : wr.heap.size ≤ b := hb.1; omega, by rw [World.size_alloc]; have := hb.2; omega⟩) _ _ _ _ _ HI4.out
    have hA5 := HA.out.ext hE5
    have hng : ¬ g = w4.heap.size := by have := HB4.out.size; omega
    have hng2 : ¬ w4.heap.size = g := fun e => hng e.symm
    generalize (w4.alloc (.cells #[.int .i64 k6, .string n6, .int .i64 s6, .slice xa6 l6 cap6] 25)) = w5 at hx5 hI5 hE5 hA5 ⊢
    obtain ⟨⟨m0, m1, m2, m3⟩, _⟩ := box_facts hx5
    obtain ⟨⟨z0, z1, z2, z3, y0, y1, y2, y3⟩, hz⟩ := hA5.cells hlt
    have f0 := hz (j * 4)
    have f1 := hz (j * 4 + 1)
    have f2 := hz (j * 4 + 2)
    have f3 := hz (j * 4 + 3)
    have HN := Lib.hid (hA5.next hlt hI5)
    clear hx5 hI5 hE5 hA5 hz g0 g1 g2 g3
    go_wp2_with fail
    go_roundw
    case rel => exact ⟨j + 1, by omega, by go_num, HN.out, HOK3⟩
    case measure => simp [intOf]; omega
end Go.Proofs.YtdgofofhkebkkaaDoor

/-
  THE WALKS OF the law SubstApply, the chapter's examples by hypothesis.
-/
namespace Go.Proofs.YtdgofofhkebkkaaDoor
open Go.RowKit

theorem lists_eq (l : List Tm) : listsEq l l = true := by
  have h : ∀ l : List Tm, cmpL l l = 0 := by
    intro l
    induction l with
    | nil => simp [cmpL]
    | cons a l ih => simp only [cmpL, cmpT_self, ih]; rfl
  unfold listsEq
  rw [h l]; simp
theorem few_terms {l : List Tm} {n most : Nat} (h : few l (n : Int) most = true) : l.length ≤ n ∧ ∀ t ∈ l, size t ≤ most := by
  simp only [few] at h
  by_cases h0 : (n : Int) < (l.length : Int)
  · rw [if_pos h0] at h; simp at h
  · rw [if_neg h0] at h
    have hs := fewL_sizes _ (most : Int) (by omega) h
    exact ⟨by omega, fun t ht => by have := size_le_sizes ht; omega⟩
theorem sizes_le {M : Nat} : ∀ (l : List Tm), (∀ t ∈ l, size t ≤ M) → sizes l ≤ l.length * M
  | [], _ => by simp [sizes]
  | t :: ts, h => by
    have h1 := h t (List.mem_cons_self ..)
    have h2 := sizes_le ts (fun u hu => h u (List.mem_cons_of_mem _ hu))
    simp only [sizes, List.length_cons, Nat.add_mul, Nat.one_mul]; omega
theorem allV_small {bs : List Bd} {l : List Tm} {N : Nat} (hN : ∀ b ∈ bs, size b.2 ≤ N) (h1 : 1 ≤ N) (hsn : ∀ t ∈ l, size t * N ≤ 1073741824) : (allV bs l).1.length ≤ l.length ∧ sizes (allV bs l).1 ≤ l.length * 1073741824 := by
  have hmem : ∀ u ∈ (allV bs l).1, size u ≤ 1073741824 := by
    intro u hu
    unfold allV at hu
    by_cases hv : validB bs = 0
    · rw [if_pos hv] at hu
      by_cases h2 : 200 < l.length
      · rw [if_pos h2] at hu; simp at hu
      · rw [if_neg h2] at hu
        obtain ⟨t, ht, hz, rfl⟩ := allP_mem bs l u hu
        exact applyP_size hN h1 (hsn t ht) hz
    · rw [if_neg hv] at hu; simp at hu
  have hlen : (allV bs l).1.length ≤ l.length := by
    unfold allV
    by_cases hv : validB bs = 0
    · rw [if_pos hv]
      by_cases h2 : 200 < l.length
      · rw [if_pos h2]; exact Nat.zero_le _
      · rw [if_neg h2]; exact allP_len bs l
    · rw [if_neg hv]; exact Nat.zero_le _
  exact ⟨hlen, Nat.le_trans (sizes_le _ hmem) (Nat.mul_le_mul_right _ hlen)⟩
theorem applyV_small {bs : List Bd} {t : Tm} {N : Nat} (hN : ∀ b ∈ bs, size b.2 ≤ N) (h1 : 1 ≤ N) (hsn : size t * N ≤ 1073741824) : size (applyV bs t).1 ≤ 1073741824 := by
  have hz : size zeroT ≤ 1073741824 := by simp [zeroT, size, sizes]
  unfold applyV
  by_cases hv : validB bs = 0
  · rw [if_pos hv]
    by_cases h0 : (applyP bs t).2 = 0
    · exact applyP_size hN h1 hsn h0
    · unfold applyP at h0 ⊢
      by_cases e1 : validE t = 0
      · rw [if_pos e1] at h0 ⊢
        by_cases e2 : validE (apT bs t) = 0
        · rw [if_pos e2] at h0; exact absurd rfl h0
        · rw [if_neg e2]; exact hz
      · rw [if_neg e1]; exact hz
  · rw [if_neg hv]; exact hz

set_option maxHeartbeats 3200000 in
set_option maxRecDepth 100000 in
theorem sapp_N1 (HA : Hid Awake2Ok) (bs : List Bd) (l : List Tm) (xs xl : Option Addr) (cs cl : Nat) (w : World) (hL : Laid w) (hb : bs.length * 112 ≤ 140737488355328) (hR : Row w (flatB bs) xs) (h1 : few (flatB bs) (2 * 20) 600 = false) :
    Calls Tryd.prog 6 #[.slice xs bs.length cs, .slice xl l.length cl] w fun e w' => e = .returned (.bool true) ∧ Below w.heap.size w w' := by
  have HL := Lib.hid hL
  have HF := Lib.hid (fun W (x : Ext w W) => few02_any bs xs cs 20 600 W hb (by omega) (by omega) (by omega) (Row_below (w' := W) hR x))
  rw [h1] at HF
  have tok1 : True := trivial
  clear h1 hL hb hR
  go_enter Tryd.func6, Tryd.ntmps6
  go_wp2_with (first
    | (go_at_call 15; have _t := tok1; refine (HA.out _ HL.out).mono ?_; rintro e w1 ⟨he, hB1⟩; subst he; have HB1 := Lib.hid (show Ext w w1 from hB1); clear hB1 tok1)
    | (go_at_call 15; refine (HA.out _ (Laid_ext HL.out HB2.out)).mono ?_; rintro e w3 ⟨he, hB⟩; subst he; have HB3 := Lib.hid (Ext.trans HB2.out hB); clear hB)
    | (go_at_call 16; refine (HF.out _ HB1.out).mono ?_; rintro e w2 ⟨he, hB2⟩; subst he; have HB2 := Lib.hid (Ext.trans HB1.out hB2); clear hB2))
  go_ret
  exact ⟨rfl, HB3.out⟩
set_option maxHeartbeats 3200000 in
set_option maxRecDepth 100000 in
theorem sapp_N2 (HA : Hid Awake2Ok) (bs : List Bd) (l : List Tm) (xs xl : Option Addr) (cs cl : Nat) (w : World) (hL : Laid w) (hb : bs.length * 112 ≤ 140737488355328) (hR : Row w (flatB bs) xs) (hll : l.length ≤ maxLen) (hRl : Row w l xl) (h1 : few (flatB bs) (2 * 20) 600 = true) (h2 : few l 20 600 = false) :
    Calls Tryd.prog 6 #[.slice xs bs.length cs, .slice xl l.length cl] w fun e w' => e = .returned (.bool true) ∧ Below w.heap.size w w' := by
  have HL := Lib.hid hL
  have HF := Lib.hid (fun W (x : Ext w W) => few02_any bs xs cs 20 600 W hb (by omega) (by omega) (by omega) (Row_below (w' := W) hR x))
  have HG := Lib.hid (fun W (x : Ext w W) => few_any l xl cl 20 600 W hll (by omega) (by omega) (Row_below (w' := W) hRl x))
  rw [h1] at HF
  rw [h2] at HG
  have tok1 : True := trivial
  clear h1 h2 hL hb hR hll hRl
  go_enter Tryd.func6, Tryd.ntmps6
  go_wp2_with (first
    | (go_at_call 15; have _t := tok1; refine (HA.out _ HL.out).mono ?_; rintro e w1 ⟨he, hB1⟩; subst he; have HB1 := Lib.hid (show Ext w w1 from hB1); clear hB1 tok1)
    | (go_at_call 15; refine (HA.out _ (Laid_ext HL.out HB3.out)).mono ?_; rintro e w4 ⟨he, hB⟩; subst he; have HB4 := Lib.hid (Ext.trans HB3.out hB); clear hB)
    | (go_at_call 16; refine (HF.out _ HB1.out).mono ?_; rintro e w2 ⟨he, hB2⟩; subst he; have HB2 := Lib.hid (Ext.trans HB1.out hB2); clear hB2)
    | (go_at_call 19; refine (HG.out _ HB2.out).mono ?_; rintro e w3 ⟨he, hB3⟩; subst he; have HB3 := Lib.hid (Ext.trans HB2.out hB3); clear hB3))
  go_ret
  exact ⟨rfl, HB4.out⟩

set_option maxHeartbeats 6400000 in
set_option maxRecDepth 100000 in
theorem sapp_S (HA : Hid Awake2Ok) (bs : List Bd) (l : List Tm) (xs xl : Option Addr) (cs cl : Nat) (w : World) (hL : Laid w) (hcs : bs.length ≤ cs) (hb : bs.length * 112 ≤ 140737488355328) (hR : Row w (flatB bs) xs) (hcl : l.length ≤ cl) (hRl : Row w l xl) (h1 : few (flatB bs) (2 * ((20 : Nat) : Int)) ((600 : Nat) : Int) = true) (h2 : few l ((20 : Nat) : Int) ((600 : Nat) : Int) = true) :
    Calls Tryd.prog 6 #[.slice xs bs.length cs, .slice xl l.length cl] w fun e w' => e = .returned (.bool true) ∧ Below w.heap.size w w' := by
  obtain ⟨hl, hz⟩ := few_binds h1
  obtain ⟨hl2, hz2⟩ := few_terms h2
  have hsz : SzB 1073741824 bs := fun b hb => ⟨by have := (hz b hb).1; omega, by have := (hz b hb).2; omega⟩
  have HL := Lib.hid hL
  have HF := Lib.hid (fun W (x : Ext w W) => few02_any bs xs cs 20 600 W hb (by omega) (by omega) (by omega) (Row_below (w' := W) hR x))
  have HG := Lib.hid (fun W (x : Ext w W) => few_any l xl cl 20 600 W (by unfold maxLen; omega) (by omega) (by omega) (Row_below (w' := W) hRl x))
  have h1' : few (flatB bs) (2 * 20) 600 = true := h1
  have h2' : few l 20 600 = true := h2
  rw [h1'] at HF
  rw [h2'] at HG
  have hN : ∀ b ∈ bs, size b.2 ≤ 600 := fun b hb => (hz b hb).2
  have hsn : ∀ t ∈ l, size t * 600 ≤ 1073741824 := fun t ht => by have := hz2 t ht; omega
  have HOWN := Lib.hid (fun W (x : Ext w W) => own_any bs xs cs W hcs (by omega) hsz (Row_below (w' := W) hR x))
  have HS1 := Lib.hid (fun W (x : Ext w W) => sall_any bs l xs xl cs cl 600 W hcs (by omega) hsz (Row_below (w' := W) hR x) hcl (by omega) (Row_below (w' := W) hRl x) hN (by omega) hsn)
  have HS2 := Lib.hid (fun xc cc W (x : Ext w W) (p : bs.length ≤ cc) (r : Row W (flatB bs) xc) => rall02_any bs l xc xl cc cl 600 W p (by omega) hsz r (by omega) (Row_below (w' := W) hRl x) hN (by omega) hsn)
  obtain ⟨al1, al2⟩ := allV_small hN (by omega) hsn
  have HLS := Lib.hid (fun (xa ya : Option Addr) (c1 c2 : Nat) W (r1 : Row W (allV bs l).1 xa) (r2 : Row W (allV bs l).1 ya) => (by have h := lists_any (allV bs l).1 (allV bs l).1 xa ya c1 c2 W (by unfold maxLen; omega) (by unfold maxLen; omega) (by omega) (by omega) r1 r2; rw [lists_eq] at h; exact h : Calls Tryd.prog 25 #[.slice xa (allV bs l).1.length c1, .slice ya (allV bs l).1.length c2] W fun e w' => e = .returned (.bool true) ∧ Below W.heap.size W w'))
  have HVC := Lib.hid (fun xc cc W (p : bs.length ≤ cc) (r : Row W (flatB bs) xc) => rbvalid_any bs xc cc W p (by unfold maxLen; omega) hsz r)
  have HSM := Lib.hid (fun xc cc W (x : Ext w W) (p : bs.length ≤ cc) (r : Row W (flatB bs) xc) => bsame_eq bs xs xc cs cc W hcs p (by unfold maxLen; omega) hsz (Row_below (w' := W) hR x) r)
  have HA1 := Lib.hid (fun (t : Tm) (ht : t ∈ l) c0 c1 c2 c3 W (x : Ext w W) (hI : Is W t c0 c1 c2 c3) => sApply_any bs xs cs 600 t c0 c1 c2 c3 W hcs (by omega) hsz (Row_below (w' := W) hR x) hN (by omega) (hsn t ht) hI)
  have HA2 := Lib.hid (fun (t : Tm) (ht : t ∈ l) xc cc c0 c1 c2 c3 W (p : bs.length ≤ cc) (r : Row W (flatB bs) xc) (hI : Is W t c0 c1 c2 c3) => rapply_any bs xc cc 600 t c0 c1 c2 c3 W p (by omega) hsz r hN (by omega) (hsn t ht) hI)
  have HAZ := Lib.hid (fun (t : Tm) (ht : t ∈ l) => applyV_small (t := t) hN (by omega) (hsn t ht))
  have HRL := Lib.hid hRl
  generalize allV bs l = R at HS1 HS2 HLS
  obtain ⟨us, E⟩ := R
  unfold RtPost at HS1 HS2
  have hEE : (E != E) = false := by simp
  clear h1 h1' h2 h2' hL hcs hb hR hcl hRl hl hz hz2 hsz hN hsn al1 al2
  obtain ⟨V, hV⟩ : ∃ V, validB bs = V := ⟨_, rfl⟩
  rw [hV] at HVC
  clear hV
  go_enter Tryd.func6, Tryd.ntmps6
  go_upto_region 6 with (first
    | (go_at_call 15; refine (HA.out _ HL.out).mono ?_; rintro e w1 ⟨he, hB1⟩; subst he; have HB1 := Lib.hid (show Ext w w1 from hB1); clear hB1)
    | (go_at_call 16; refine (HF.out _ HB1.out).mono ?_; rintro e w2 ⟨he, hB2⟩; subst he; have HB2 := Lib.hid (Ext.trans HB1.out hB2); clear hB2)
    | (go_at_call 19; refine (HG.out _ HB2.out).mono ?_; rintro e w3 ⟨he, hB3⟩; subst he; have HB3 := Lib.hid (Ext.trans HB2.out hB3); clear hB3)
    | (go_at_call 22; refine (HOWN.out _ HB3.out).mono ?_; rintro e w4 ⟨xc, cc, he, pc, rc, hB4⟩; subst he; have HB4 := Lib.hid (Ext.trans HB3.out hB4); have HRC := Lib.hid (fun W (x : Ext w4 W) => And.intro pc (Row_below (w' := W) rc x)); clear hB4 pc rc)
    | (go_at_call 23; refine (HS1.out _ HB4.out).mono ?_; rintro e w5 ⟨xa5, c5, he, p5, r5, hB5⟩; subst he; have HX5 := Lib.hid (show Ext w4 w5 from hB5); have HB5 := Lib.hid (Ext.trans HB4.out hB5); have HR5 := Lib.hid (fun W (x : Ext w5 W) => Row_below (w' := W) r5 x); clear hB5 p5 r5)
    | (go_at_call 24; refine (HS2.out _ _ _ HB5.out (HRC.out _ HX5.out).1 (HRC.out _ HX5.out).2).mono ?_; rintro e w6 ⟨xa6, c6, he, p6, r6, hB6⟩; subst he; have HX6 := Lib.hid (Ext.trans HX5.out hB6); have HB6 := Lib.hid (Ext.trans HB5.out hB6); have HR6 := Lib.hid (And.intro (HR5.out _ hB6) r6); clear hB6 p6 r6))
  go_cut [62] (fun s wd => s = .bool false ∧ Ext w4 wd)
  case first =>
    by_cases hV0 : V = 0
    · have q0 : (V == 0) = true := by simp [hV0]
      go_wp2_with (first
        | (go_at_call 25; refine (HLS.out _ _ _ _ _ HR6.out.1 HR6.out.2).mono ?_; rintro e w7 ⟨he, hB7⟩; subst he; have HX7 := Lib.hid (Ext.trans HX6.out hB7); have HB7 := Lib.hid (Ext.trans HB6.out hB7); clear hB7)
        | (go_at_call 18; refine (HVC.out _ _ _ (HRC.out _ HX7.out).1 (HRC.out _ HX7.out).2).mono ?_; rintro e w8 ⟨he, hB8⟩; subst he; have HX8 := Lib.hid (Ext.trans HX7.out hB8); have HB8 := Lib.hid (Ext.trans HB7.out hB8); clear hB8)
        | (go_at_call 26; refine (HSM.out _ _ _ HB8.out (HRC.out _ HX8.out).1 (HRC.out _ HX8.out).2).mono ?_; rintro e w9 ⟨he, hB9⟩; subst he; have HX9 := Lib.hid (Ext.trans HX8.out hB9); clear hB9))
      go_meet
      exact ⟨rfl, HX9.out⟩
    · have q0 : (V == 0) = false := by simp [hV0]
      go_wp2_with (first
        | (go_at_call 25; refine (HLS.out _ _ _ _ _ HR6.out.1 HR6.out.2).mono ?_; rintro e w7 ⟨he, hB7⟩; subst he; have HX7 := Lib.hid (Ext.trans HX6.out hB7); have HB7 := Lib.hid (Ext.trans HB6.out hB7); clear hB7)
        | (go_at_call 18; refine (HVC.out _ _ _ (HRC.out _ HX7.out).1 (HRC.out _ HX7.out).2).mono ?_; rintro e w8 ⟨he, hB8⟩; subst he; have HX8 := Lib.hid (Ext.trans HX7.out hB8); have HB8 := Lib.hid (Ext.trans HB7.out hB8); clear hB8)
        | (go_at_call 26; refine (HSM.out _ _ _ HB8.out (HRC.out _ HX8.out).1 (HRC.out _ HX8.out).2).mono ?_; rintro e w9 ⟨he, hB9⟩; subst he; have HX9 := Lib.hid (Ext.trans HX8.out hB9); clear hB9))
      go_meet
      exact ⟨rfl, HX8.out⟩
  case rest =>
  obtain ⟨rfl, hX⟩ := hcut
  have HXc := Lib.hid hX
  have HWc := Lib.hid (Ext.trans HB4.out hX)
  clear hX
  go_wp2_with fail
  go_loopw [65] (fun i wr => ∃ j : Nat, j ≤ l.length ∧ i = .int .i64 j ∧ Ext w4 wr) (fun i _ => l.length - (intOf i).toNat)
  case atStart => exact ⟨0, Nat.zero_le _, rfl, HXc.out⟩
  case round =>
    obtain ⟨j, hj, rfl, hX⟩ := hrel
    have HX := Lib.hid hX
    have HW := Lib.hid (Ext.trans HB4.out hX)
    by_cases hlt : j < l.length
    rotate_left
    · clear hX
      go_wp2_with fail
      go_ret
      exact ⟨rfl, HW.out⟩
    obtain ⟨b, o, rfl⟩ := Row_at HRL.out (by omega)
    obtain ⟨t0, t1, t2, t3, g0, g1, g2, g3, hI2⟩ := Row_get (Row_below HRL.out HW.out) j hlt
    obtain ⟨k2, n2, s2, ya2, yl2, yc2, rfl, rfl, rfl, rfl⟩ := Is_form hI2
    have HC1 := Lib.hid (fun W (x : Ext wr W) => HA1.out l[j] (List.getElem_mem hlt) _ _ _ _ W (Ext.trans HW.out x) (Is_below (w' := W) hI2 x))
    have HC2 := Lib.hid (fun W (x : Ext wr W) => HA2.out l[j] (List.getElem_mem hlt) _ _ _ _ _ _ W (HRC.out W (Ext.trans HX.out x)).1 (HRC.out W (Ext.trans HX.out x)).2 (Is_below (w' := W) hI2 x))
    have hzz := HAZ.out l[j] (List.getElem_mem hlt)
    have HSS := Lib.hid (fun W c0 c1 c2 c3 d0 d1 d2 d3 (x : Is W (applyV bs l[j]).1 c0 c1 c2 c3) (y : Is W (applyV bs l[j]).1 d0 d1 d2 d3) => same_any (applyV bs l[j]).1 (applyV bs l[j]).1 c0 c1 c2 c3 d0 d1 d2 d3 W (by omega) (by omega) x y)
    have e1 : (cmpT (applyV bs l[j]).1 (applyV bs l[j]).1 == 0) = true := (cmp_eq_iff _ _).2 rfl
    rw [e1] at HSS
    generalize applyV bs l[j] = r at HC1 HC2 HSS
    obtain ⟨u, x⟩ := r
    unfold ApPost at HC1
    unfold RaPost at HC2
    have hxx : (x != x) = false := by simp
    have i1 : (0 : Int) ≤ (j : Int) := by omega
    have i2 : (j : Int) < (l.length : Int) := by omega
    clear hX hI2 hzz e1
    go_upto_region 11 with (fail)
    have hb1 := heap_alloc_new wr (.cells #[.int .i64 k2, .string n2, .int .i64 s2, .slice ya2 yl2 yc2] 25)
    have hE1 : Ext wr (wr.alloc (.cells #[.int .i64 k2, .string n2, .int .i64 s2, .slice ya2 yl2 yc2] 25)) := (Ext.refl wr).alloc _
    have hs1 : (wr.alloc (.cells #[.int .i64 k2, .string n2, .int .i64 s2, .slice ya2 yl2 yc2] 25)).heap.size = wr.heap.size + 1 := World.size_alloc _ _
    generalize (wr.alloc (.cells #[.int .i64 k2, .string n2, .int .i64 s2, .slice ya2 yl2 yc2] 25)) = v1 at hb1 hE1 hs1 ⊢
    have HK1 : Hid (∀ W, Ext v1 W → (W.cell? ⟨wr.heap.size, 0, none⟩ = some (.int .i64 k2) ∧ W.cell? ⟨wr.heap.size, 1, none⟩ = some (.string n2) ∧ W.cell? ⟨wr.heap.size, 2, none⟩ = some (.int .i64 s2) ∧ W.cell? ⟨wr.heap.size, 3, none⟩ = some (.slice ya2 yl2 yc2)) ∧ Ext wr W) := fun W h => ⟨(box_facts ((h.block _ (by omega)).trans hb1)).1, Ext.trans hE1 h⟩
    clear g0 g1 g2 g3 hb1 hE1 hs1
    obtain ⟨⟨g0, g1, g2, g3⟩, _⟩ := HK1.out v1 (Ext.refl v1)
    go_upto_region 12 with (go_at_call 27; refine (HC1.out _ (HK1.out v1 (Ext.refl v1)).2).mono ?_; rintro e v2 ⟨c0, c1, c2, c3, he, hI4, hB4⟩; subst he; obtain ⟨k6, n6, s6, xa6, l6, cap6, e0, e1, e2, e3⟩ := IsIn_form hI4; subst e0 e1 e2 e3; have HI4 := Lib.hid (IsIn_Is _ _ _ _ _ hI4); have HE2 := Lib.hid (show Ext v1 v2 from hB4); clear hI4 hB4)
    have hb3 := heap_alloc_new v2 (.cells #[.int .i64 k6, .string n6, .int .i64 s6, .slice xa6 l6 cap6] 25)
    have hE3 : Ext v1 (v2.alloc (.cells #[.int .i64 k6, .string n6, .int .i64 s6, .slice xa6 l6 cap6] 25)) := Ext.alloc HE2.out _
    have hI5 : Is (v2.alloc (.cells #[.int .i64 k6, .string n6, .int .i64 s6, .slice xa6 l6 cap6] 25)) u (.int .i64 k6) (.string n6) (.int .i64 s6) (.slice xa6 l6 cap6) := Is_alloc HI4.out _
    have hs3 : (v2.alloc (.cells #[.int .i64 k6, .string n6, .int .i64 s6, .slice xa6 l6 cap6] 25)).heap.size = v2.heap.size + 1 := World.size_alloc _ _
    generalize (v2.alloc (.cells #[.int .i64 k6, .string n6, .int .i64 s6, .slice xa6 l6 cap6] 25)) = v3 at hb3 hE3 hI5 hs3 ⊢
    generalize v2.heap.size = gb at hb3 hs3 ⊢
    have HK3 : Hid (∀ W, Ext v3 W → (W.cell? ⟨gb, 0, none⟩ = some (.int .i64 k6) ∧ W.cell? ⟨gb, 1, none⟩ = some (.string n6) ∧ W.cell? ⟨gb, 2, none⟩ = some (.int .i64 s6) ∧ W.cell? ⟨gb, 3, none⟩ = some (.slice xa6 l6 cap6)) ∧ Is W u (.int .i64 k6) (.string n6) (.int .i64 s6) (.slice xa6 l6 cap6)) := fun W h => ⟨(box_facts ((h.block _ (by omega)).trans hb3)).1, Is_below hI5 h⟩
    have HE3 := Lib.hid hE3
    clear g0 g1 g2 g3 hb3 hE3 hI5 hs3
    obtain ⟨⟨g0, g1, g2, g3⟩, _⟩ := HK1.out v3 HE3.out
    go_upto_region 13 with (go_at_call 28; refine (HC2.out _ (HK1.out v3 HE3.out).2).mono ?_; rintro e v4 ⟨c0, c1, c2, c3, he, hI7, hB7⟩; subst he; obtain ⟨k8, n8, s8, xa8, l8, cap8, e0, e1, e2, e3⟩ := Is_form hI7; subst e0 e1 e2 e3; have HI7 := Lib.hid hI7; have HE4 := Lib.hid (show Ext v3 v4 from hB7); clear hI7 hB7)
    have hb5 := heap_alloc_new v4 (.cells #[.int .i64 k8, .string n8, .int .i64 s8, .slice xa8 l8 cap8] 25)
    have hE5 : Ext v3 (v4.alloc (.cells #[.int .i64 k8, .string n8, .int .i64 s8, .slice xa8 l8 cap8] 25)) := Ext.alloc HE4.out _
    have hI9 : Is (v4.alloc (.cells #[.int .i64 k8, .string n8, .int .i64 s8, .slice xa8 l8 cap8] 25)) u (.int .i64 k8) (.string n8) (.int .i64 s8) (.slice xa8 l8 cap8) := Is_alloc HI7.out _
    generalize (v4.alloc (.cells #[.int .i64 k8, .string n8, .int .i64 s8, .slice xa8 l8 cap8] 25)) = v5 at hb5 hE5 hI9 ⊢
    obtain ⟨⟨m0, m1, m2, m3⟩, _⟩ := box_facts hb5
    obtain ⟨⟨z0, z1, z2, z3⟩, hI6⟩ := HK3.out v5 hE5
    have HS5 := Lib.hid (HSS.out v5 _ _ _ _ _ _ _ _ hI6 hI9)
    have HE5 := Lib.hid (Ext.trans HE3.out hE5)
    clear g0 g1 g2 g3 hb5 hE5 hI9 hI6
    go_wp2_with (go_at_call 13; refine (HS5.out).mono ?_; rintro e v6 ⟨he, hB⟩; subst he; have HE6 := Lib.hid (Ext.trans HE5.out hB); clear hB)
    go_roundw
    case rel => exact ⟨j + 1, by omega, by go_num, Ext.trans HX.out (HK1.out _ HE6.out).2⟩
    case measure => simp [intOf]; omega
theorem lawSa_any (HA : Awake2Ok) (bs : List Bd) (l : List Tm) (xs xl : Option Addr) (cs cl : Nat) (w : World) (hL : Laid w) (hcs : bs.length ≤ cs) (hb : bs.length * 112 ≤ 140737488355328) (hR : Row w (flatB bs) xs) (hcl : l.length ≤ cl) (hll : l.length ≤ maxLen) (hRl : Row w l xl) :
    Calls Tryd.prog 6 #[.slice xs bs.length cs, .slice xl l.length cl] w fun e w' => e = .returned (.bool true) ∧ Below w.heap.size w w' := by
  cases h : few (flatB bs) (2 * 20) 600 with
  | false => exact sapp_N1 (Lib.hid HA) bs l xs xl cs cl w hL hb hR h
  | true =>
    cases h2 : few l 20 600 with
    | false => exact sapp_N2 (Lib.hid HA) bs l xs xl cs cl w hL hb hR hll hRl h h2
    | true => exact sapp_S (Lib.hid HA) bs l xs xl cs cl w hL hcs hb hR hcl hRl h h2
end Go.Proofs.YtdgofofhkebkkaaDoor
