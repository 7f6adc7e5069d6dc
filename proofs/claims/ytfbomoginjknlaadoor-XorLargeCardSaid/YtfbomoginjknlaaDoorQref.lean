/-
  THE WALKS OF the reference's Has, toggle, Plus, Summands (made by gen_qref.py).
-/
import Derived.Test.YtfbomoginjknlaaDoorQcan
namespace Go.Proofs.YtfbomoginjknlaaDoor
open Go.RowKit Go.Lib

theorem memT_drop (l : List Tm) (t : Tm) (j : Nat) (h : j < l.length) : memT (l.drop j) t = (cmpT l[j] t == 0 || memT (l.drop (j + 1)) t) := by
  rw [List.drop_eq_getElem_cons h]; rfl

set_option maxHeartbeats 1600000 in
set_option maxRecDepth 100000 in
theorem qhas_any (l : List Tm) (t : Tm) (xa : Option Addr) (cap : Nat) (c0 c1 c2 c3 : Value) (w : World) (hl : l.length ≤ maxLen) (hs : ∀ u ∈ l, size u ≤ 1073741824) (ht : size t ≤ 1073741824) (hR : Row w l xa) (hI : Is w t c0 c1 c2 c3) :
    Calls Tryd.prog 87 #[.slice xa l.length cap, .agg #[c0, c1, c2, c3]] w fun e w' => e = .returned (.bool (memT l t)) ∧ Below w.heap.size w w' := by
  unfold maxLen at hl
  obtain ⟨k2, n2, s2, ya2, yl2, yc2, rfl, rfl, rfl, rfl⟩ := Is_form hI
  obtain ⟨b0, b1, b2, b3⟩ := box_kept (Below.refl (w.heap.size + 1) (w.alloc (.cells #[.int .i64 k2, .string n2, .int .i64 s2, .slice ya2 yl2 yc2] 24)))
  have hB1 : Below w.heap.size w (w.alloc (.cells #[.int .i64 k2, .string n2, .int .i64 s2, .slice ya2 yl2 yc2] 24)) := (Below.refl _ _).alloc (Nat.le_refl _) _
  have hR1 := Row_below hR hB1
  have hI1 := Is_below hI hB1
  clear hR hI
  go_enter Tryd.func87, Tryd.ntmps87
  go_wp2_with fail
  generalize w.alloc (.cells #[.int .i64 k2, .string n2, .int .i64 s2, .slice ya2 yl2 yc2] 24) = w1 at b0 b1 b2 b3 hB1 hR1 hI1 ⊢
  have HB1 := Lib.hid hB1
  clear hB1
  go_loopw [5] (fun i wr => ∃ j : Nat, j ≤ l.length ∧ i = .int .i64 j ∧ Hid (memT l t = memT (l.drop j) t) ∧ Ext w1 wr) (fun i _ => l.length - (intOf i).toNat)
  case atStart => exact ⟨0, Nat.zero_le _, rfl, rfl, Ext.refl _⟩
  case round =>
    obtain ⟨j, hj, rfl, HD, hE⟩ := hrel
    have HE := Lib.hid hE
    by_cases hlt : j < l.length
    rotate_left
    · have hjl : l.drop j = [] := List.drop_eq_nil_of_le (by omega)
      have HD3 : Hid (memT l t = false) := by show _ = _; rw [HD.out, hjl]; rfl
      clear hjl hE b0 b1 b2 b3
      go_wp2_with fail
      go_ret
      exact ⟨by rw [HD3.out]; rfl, Ext.trans HB1.out HE.out⟩
    obtain ⟨kb, ko, rfl⟩ := Row_at hR1 (by omega)
    obtain ⟨x0, x1, x2, x3, p0, p1, p2, p3, hKI⟩ := Row_get (Row_below hR1 hE) j hlt
    obtain ⟨k1, n1, s1, ya1, yl1, yc1, rfl, rfl, rfl, rfl⟩ := Is_form hKI
    have hIr := Is_below (w' := wr) hI1 hE
    have hC := fun W (x : Ext wr W) => same_any l[j] t _ _ _ _ _ _ _ _ W (by have := hs _ (List.getElem_mem hlt); omega) (by omega) (Is_below (w' := W) hKI x) (Is_below (w' := W) hIr x)
    have hd := memT_drop l t j hlt
    have HCr : Hid (∀ W, Ext wr W → (W.cell? ⟨kb, ko + j * 4, none⟩ = some (.int .i64 k1) ∧ W.cell? ⟨kb, ko + j * 4 + 1, none⟩ = some (.string n1) ∧ W.cell? ⟨kb, ko + j * 4 + 2, none⟩ = some (.int .i64 s1) ∧ W.cell? ⟨kb, ko + j * 4 + 3, none⟩ = some (.slice ya1 yl1 yc1)) ∧ (W.cell? ⟨w.heap.size, 0, none⟩ = some (.int .i64 k2) ∧ W.cell? ⟨w.heap.size, 1, none⟩ = some (.string n2) ∧ W.cell? ⟨w.heap.size, 2, none⟩ = some (.int .i64 s2) ∧ W.cell? ⟨w.heap.size, 3, none⟩ = some (.slice ya2 yl2 yc2))) := fun W h => ⟨⟨keep_below h _ _ p0, keep_below h _ _ p1, keep_below h _ _ p2, keep_below h _ _ p3⟩, ⟨keep_below (hE.trans h) _ _ b0, keep_below (hE.trans h) _ _ b1, keep_below (hE.trans h) _ _ b2, keep_below (hE.trans h) _ _ b3⟩⟩
    have i1 : (0 : Int) ≤ (j : Int) := by omega
    have i2 : (j : Int) < (l.length : Int) := by omega
    have hF0 : Ext wr wr.drew := (Ext.refl wr).drew
    clear p0 p1 p2 p3 b0 b1 b2 b3 hE hKI hIr hR1 hI1
    cases hcv : (cmpT l[j] t == 0)
    · rw [hcv] at hC hd
      have HD3 : Hid (memT l t = memT (l.drop (j + 1)) t) := by show _ = _; rw [HD.out, hd]; rfl
      have HC := Lib.hid hC
      clear hC hd hcv
      go_wp2_with fail
      go_region_held3 (fun W => (W.cell? ⟨kb, ko + j * 4, none⟩ = some (.int .i64 k1) ∧ W.cell? ⟨kb, ko + j * 4 + 1, none⟩ = some (.string n1) ∧ W.cell? ⟨kb, ko + j * 4 + 2, none⟩ = some (.int .i64 s1) ∧ W.cell? ⟨kb, ko + j * 4 + 3, none⟩ = some (.slice ya1 yl1 yc1)) ∧ (W.cell? ⟨w.heap.size, 0, none⟩ = some (.int .i64 k2) ∧ W.cell? ⟨w.heap.size, 1, none⟩ = some (.string n2) ∧ W.cell? ⟨w.heap.size, 2, none⟩ = some (.int .i64 s2) ∧ W.cell? ⟨w.heap.size, 3, none⟩ = some (.slice ya2 yl2 yc2)))
          (first | exact HCr.out _ (by assumption) | go_keep)
          (first
            | (go_at_call 13; refine (HC.out _ hF0).mono ?_; rintro e w4 ⟨he, hB⟩; subst he; have hF1 : Ext wr w4 := Ext.trans hF0 hB; clear hB))
      all_goals (try go_wp2_with fail)
      all_goals go_roundw
      case rel => exact ⟨j + 1, by omega, by go_num, HD3, Ext.trans HE.out hF1⟩
      case measure => simp [intOf]; omega
    · rw [hcv] at hC hd
      have HD3 : Hid (memT l t = true) := by show _ = _; rw [HD.out, hd]; rfl
      have HC := Lib.hid hC
      clear hC hd hcv
      go_wp2_with fail
      go_region_held3 (fun W => (W.cell? ⟨kb, ko + j * 4, none⟩ = some (.int .i64 k1) ∧ W.cell? ⟨kb, ko + j * 4 + 1, none⟩ = some (.string n1) ∧ W.cell? ⟨kb, ko + j * 4 + 2, none⟩ = some (.int .i64 s1) ∧ W.cell? ⟨kb, ko + j * 4 + 3, none⟩ = some (.slice ya1 yl1 yc1)) ∧ (W.cell? ⟨w.heap.size, 0, none⟩ = some (.int .i64 k2) ∧ W.cell? ⟨w.heap.size, 1, none⟩ = some (.string n2) ∧ W.cell? ⟨w.heap.size, 2, none⟩ = some (.int .i64 s2) ∧ W.cell? ⟨w.heap.size, 3, none⟩ = some (.slice ya2 yl2 yc2)))
          (first | exact HCr.out _ (by assumption) | go_keep)
          (first
            | (go_at_call 13; refine (HC.out _ hF0).mono ?_; rintro e w4 ⟨he, hB⟩; subst he; have hF1 : Ext wr w4 := Ext.trans hF0 hB; clear hB))
      all_goals (try go_wp2_with fail)
      all_goals go_ret
      exact ⟨by rw [HD3.out]; rfl, Ext.trans HB1.out (Ext.trans HE.out hF1)⟩

theorem Elems_of_RowQ {w : World} {ls : List Tm} {xa : Option Addr} {cap : Nat} (h : Row w ls xa) (hc : ls.length ≤ cap) (hl : ls.length ≤ maxLen) : Elems (fun b => b < w.heap.size) w ls (.slice xa ls.length cap) := by
  cases ls with
  | nil => exact ⟨xa, cap, [], rfl, hc, hl, rfl, fun h => by simp at h⟩
  | cons t ts =>
    obtain ⟨b, o, rfl⟩ := Row_at h (by simp)
    obtain ⟨cs, hK, hcs⟩ := KC_of_Row _ b o h
    exact ⟨_, cap, cs, rfl, hc, hl, hK, fun _ => ⟨b, o, rfl, fun j u hu => by have := hcs j u hu; rw [add_plain] at this; exact this⟩⟩
theorem run_append_zeroQ {P : Program} (w : World) (t ty e : TypeId) (i : TypeInfo) (ht : P.underlying t = some (.slice e)) (hi : P.info? e = some i) (base : Option Addr) (n cap : Nat) (xa : Option Addr) (c : Nat) (h : n ≤ cap) :
    (Builtin.append_ #[t, t] ty #[.slice base n cap, .slice xa 0 c]).run P w = .ok (.slice base n cap) w := by
  cases xa <;> cases base <;> simp [Builtin.append_, run_underlying ht, sizeOf, typeInfo, hi, Builtin.lenOf, Builtin.firstCells, loadCells, loadCellsFrom, storeCells, h]
theorem wpList_append_zeroQ {P : Program} {w : World} {ops : Array Oper} {rest : List Oper} {o : Oper} {a : Act} {Q : Exit → Act → World → Prop} (hgd : o.guard = none) (s x : Operand) (t : TypeId)
    (ho : o.op = .call { callee := .builtin .append, args := #[s, x], argTypes := #[t, t] }) (e : TypeId) (i : TypeInfo) (ht : P.underlying t = some (.slice e)) (hi : P.info? e = some i)
    (base : Option Addr) (n cap : Nat) (hs : a.eval s = .slice base n cap) (xa : Option Addr) (c : Nat) (hx : a.eval x = .slice xa 0 c) (hle : n ≤ cap)
    (h : wpList P ops Q rest (a.put o.dst (.slice base n cap)) w) : wpList P ops Q (o :: rest) a w := by
  refine wpList_plain hgd fun K hK => ?_
  have hr := run_append_zeroQ (P := P) w t o.type e i ht hi base n cap xa c hle
  unfold Oper.wp execOp
  simp only [ho, resolve, invoke, builtin, Sem.run_bind, Sem.run_pure, Result.andThen_ok, List.map_toArray, List.map_cons, List.map_nil, hs, hx, hr]
  exact hK _ _ h
theorem OwnT_extQ {H base : Nat} {w W : World} {ts : List Tm} {v : Value} (hb : base ≤ H) (hH : H ≤ w.heap.size) (h : OwnT H (fun b => b < base) w ts v) (y : Ext w W) : OwnT H (fun b => b < base) W ts v := by
  obtain ⟨cs, hown, hK⟩ := h
  exact ⟨cs, own_heap hown (fun q hq => y.block q (hown.lt q hq).2), KC_carry (fun b hb => y.block b (by have : b < base := hb; omega)) (fun _ h => h) _ _ hK⟩
/-- A term appended: the element lies alone in the newest block. -/
theorem wpList_append_tm {W : World} {ops : Array Oper} {rest : List Oper} {o : Oper} {a : Act} {Q : Exit → Act → World → Prop} (hgd : o.guard = none) (s x : Operand)
    (ho : o.op = .call { callee := .builtin .append, args := #[s, x], argTypes := #[22, 22] }) {H base : Nat} {acc : List Tm} {v : Value} (hO : OwnT H (fun b => b < base) W acc v) (hbH : base ≤ H) (hH : H ≤ W.heap.size) (hlen : acc.length ≤ 1048577)
    {t : Tm} {c0 c1 c2 c3 : Value} (h1 : c0.oneCell' = true ∧ c1.oneCell' = true ∧ c2.oneCell' = true ∧ c3.oneCell' = true) (hI : IsIn (fun b => b < base) W t c0 c1 c2 c3) (hs : a.eval s = v) {z : Nat} (hzW : W.heap.size = z) (hx : a.eval x = .slice (some ⟨z, 0, none⟩) 1 1)
    (h : ∀ v' w8, OwnT H (fun b => b < base) w8 (acc ++ [t]) v' → Below H W w8 → W.heap.size ≤ w8.heap.size → wpList Tryd.prog ops Q rest (a.put o.dst v') w8) :
    wpList Tryd.prog ops Q (o :: rest) a (W.alloc (.cells #[c0, c1, c2, c3] 24)) := by
  subst hzW
  obtain ⟨i0, hi0, hz0, hz1, hz2⟩ := info_parts info24
  obtain ⟨xl, lcap, rfl⟩ := OwnT_form hO
  obtain ⟨cs, hown, hK⟩ := hO
  refine wpList_append_lies _ hgd s x _ ho H 24 i0 _ 4 56 Tryd.underlying22 hi0 hz0 hz1 hz2 rfl (by omega) (.slice xl acc.length lcap) acc.length cs hs (hown.alloc _) ⟨W.heap.size, 0, none⟩ 1 1 [c0, c1, c2, c3] hx rfl
    (World.news_of_block (cs := #[c0, c1, c2, c3]) (t := 24) (fr := (0, 0)) (heap_alloc_new W _)) (fun u hu => by simp only [List.mem_cons, List.not_mem_nil, or_false] at hu; rcases hu with rfl | rfl | rfl | rfl <;> first | exact h1.1 | exact h1.2.1 | exact h1.2.2.1 | exact h1.2.2.2) (by omega) (by unfold maxLen; omega) (by omega) (by rw [World.size_alloc]; omega) (W.heap.size + 1) (by rw [World.size_alloc]) ?_
  intro g cap w8 ho8 hg _ _
  have r := OwnT_push hown hK rfl hI hbH hH ho8 hg
  refine h _ _ r.1 r.2 ?_
  have := hg.size
  rw [World.size_alloc] at this; omega
/-- A whole row appended to an empty slice that was just made. -/
theorem wpList_copy_tm {W w0 : World} {ops : Array Oper} {rest : List Oper} {o : Oper} {a : Act} {Q : Exit → Act → World → Prop} (hgd : o.guard = none) (s x : Operand)
    (ho : o.op = .call { callee := .builtin .append, args := #[s, x], argTypes := #[22, 22] }) {base : Nat} {ps : List Tm} {v : Value} (hbw : base ≤ w0.heap.size) (hR : Elems (fun b => b < base) w0 ps v) (hE : Ext w0 W) (hlen : ps.length ≤ 1048577)
    (hs : a.eval s = .slice (some ⟨W.heap.size, 0, none⟩) 0 0) (hx : a.eval x = v)
    (h : ∀ v' w8, OwnT W.heap.size (fun b => b < base) w8 ps v' → Ext W w8 → wpList Tryd.prog ops Q rest (a.put o.dst v') w8) :
    wpList Tryd.prog ops Q (o :: rest) a (W.alloc (.cells #[] 24)) := by
  obtain ⟨i0, hi0, hz0, hz1, hz2⟩ := info_parts info24
  obtain ⟨xa, ca, ds, rfl, hc1, hc2, hK, hcs⟩ := hR
  have hown : (W.alloc (.cells #[] 24)).ownsRow W.heap.size 24 4 (.slice (some ⟨W.heap.size, 0, none⟩) 0 0) 0 [] := World.ownsRow_made W #[] 0 (Nat.le_refl _) (by simp [maxLen]) rfl
  have hEa : Ext w0 (W.alloc (.cells #[] 24)) := hE.alloc _
  by_cases h0 : ps.length = 0
  · have hn : ps = [] := List.length_eq_zero_iff.1 h0
    subst hn
    exact wpList_append_zeroQ hgd s x _ ho 24 i0 Tryd.underlying22 hi0 _ 0 0 hs xa ca hx (Nat.le_refl _) (h _ _ ⟨[], hown, rfl⟩ ((Ext.refl W).alloc _))
  · obtain ⟨b2, o2, rfl, hd⟩ := hcs (by omega)
    have hd0 := KC_one _ _ hK
    refine wpList_append_own_at _ hgd s x _ ho W.heap.size 24 i0 _ 4 56 Tryd.underlying22 hi0 hz0 hz1 hz2 rfl (by omega) (.slice (some ⟨W.heap.size, 0, none⟩) 0 0) 0 [] hs hown ⟨b2, o2, none⟩ ps.length ca ds hx hd0.1 (fun j u hj => by rw [add_plain]; exact keep_below hEa _ _ (hd j u hj)) hd0.2 (by unfold maxLen; omega) (by omega) (by rw [World.size_alloc]; omega) ?_
    intro v1 w1 hown1 hgrow _ _
    rw [Nat.zero_add, List.nil_append] at hown1
    have hs1 := hE.size
    have hb1 : Below W.heap.size (W.alloc (.cells #[] 24)) w1 := (Below.refl _ _).grown hgrow (by rw [World.size_alloc]; omega) (fun q hq => (hown.lt q hq).1)
    have hkb : ∀ b, b < base → w1.heap[b]? = w0.heap[b]? := fun b hb => (hb1.block b (by omega)).trans (hEa.block b (by omega))
    exact h v1 w1 ⟨ds, hown1, KC_carry (S' := fun b => b < base) hkb (fun _ h => h) _ _ hK⟩ (((Below.refl W.heap.size W).alloc (Nat.le_refl _) _).trans hb1)
theorem filt_take (l : List Tm) (t : Tm) (j : Nat) (h : j < l.length) : (l.take (j + 1)).filter (fun u => !(cmpT u t == 0)) = (l.take j).filter (fun u => !(cmpT u t == 0)) ++ (if (cmpT l[j] t == 0) = true then [] else [l[j]]) := by
  rw [List.take_succ_eq_append_getElem h, List.filter_append]
  congr 1
  cases hc : (cmpT l[j] t == 0) <;> simp [hc]
set_option maxHeartbeats 3200000 in
set_option maxRecDepth 100000 in
theorem toggle_any (base : Nat) (l : List Tm) (t : Tm) (v c0 c1 c2 c3 : Value) (w : World) (hbw : base ≤ w.heap.size) (hl : l.length ≤ 1048576) (hs : ∀ u ∈ l, size u ≤ 1073741824) (ht : size t ≤ 1073741824) (hE : Elems (fun b => b < base) w l v) (hIb : IsIn (fun b => b < base) w t c0 c1 c2 c3) :
    Calls Tryd.prog 78 #[v, .agg #[c0, c1, c2, c3]] w (TermsPost base w (togT l t)) := by
  obtain ⟨xa, cap, rfl, hcp, _, hR⟩ := Elems_row hE
  have hI := IsIn_Is _ _ _ _ _ hIb
  obtain ⟨k2, n2, s2, ya2, yl2, yc2, rfl, rfl, rfl, rfl⟩ := Is_form hI
  have hB1 : Ext w (w.alloc (.cells #[.int .i64 k2, .string n2, .int .i64 s2, .slice ya2 yl2 yc2] 24)) := (Ext.refl _).alloc _
  have HHAS := Lib.hid (fun W (x : Ext w W) => qhas_any l t xa cap _ _ _ _ W (by unfold maxLen; omega) hs ht (Row_below (w' := W) hR x) (Is_below (w' := W) hI x))
  have HBK : Hid (∀ W, Ext (w.alloc (.cells #[.int .i64 k2, .string n2, .int .i64 s2, .slice ya2 yl2 yc2] 24)) W → W.cell? ⟨w.heap.size, 0, none⟩ = some (.int .i64 k2) ∧ W.cell? ⟨w.heap.size, 1, none⟩ = some (.string n2) ∧ W.cell? ⟨w.heap.size, 2, none⟩ = some (.int .i64 s2) ∧ W.cell? ⟨w.heap.size, 3, none⟩ = some (.slice ya2 yl2 yc2)) := by
    show ∀ _, _
    intro W x
    have hh := x.block w.heap.size (by simp)
    rw [heap_alloc_new] at hh
    exact (box_facts hh).1
  have HZ : Hid ((w.alloc (.cells #[.int .i64 k2, .string n2, .int .i64 s2, .slice ya2 yl2 yc2] 24)).heap.size = w.heap.size + 1) := World.size_alloc _ _
  obtain ⟨b0, b1, b2, b3⟩ := HBK.out _ (Ext.refl _)
  have HB1 := Lib.hid hB1
  cases hm : memT l t
  · rw [hm] at HHAS
    have HP : Hid (∀ W v, Elems (fun b => b < base) W (addR t l false) v → Ext w W → TermsPost base w (togT l t) (.returned v) W) := by
      show ∀ _, _
      intro W v h1 h3
      have e : togT l t = addR t l false := by unfold togT; rw [hm]; rfl
      rw [e]; exact ⟨v, rfl, h1, h3⟩
    have HADD := Lib.hid (fun W (x : Ext w W) => add_any t l _ _ _ _ (.slice xa l.length cap) base W hl ht hs (Nat.le_trans hbw x.size) (IsIn_below hIb hbw x) (Elems_ext hE (fun b (hb : b < base) => by omega) x))
    clear hR hI hB1 hE hIb
    go_enter Tryd.func78, Tryd.ntmps78
    go_wp2_with (first
      | (go_at_call 87; refine (HHAS.out _ HB1.out).mono ?_; rintro e w3 ⟨he, hB⟩; subst he; obtain ⟨b0, b1, b2, b3⟩ := HBK.out _ hB; have HX3 := Lib.hid (HB1.out.trans hB); clear hB)
      | (go_at_call 88; refine (HADD.out _ HX3.out).mono ?_; rintro e w4 ⟨v4, he, hE4, hB4⟩; subst he; have HF := Lib.hid (HP.out _ v4 hE4 (HX3.out.trans hB4)); clear hE4 hB4))
    go_ret
    exact HF.out
  · rw [hm] at HHAS
    have HT : Hid (togT l t = l.filter (fun u => !(cmpT u t == 0))) := by show _ = _; unfold togT; rw [hm]; rfl
    have HR := Lib.hid hR
    have HI := Lib.hid hI
    have HSZ := Lib.hid hs
    have HHT := Lib.hid ht
    have HEL := Lib.hid hE
    have HBW := Lib.hid hbw
    clear hR hI hs ht hm hB1 hE hIb
    go_enter Tryd.func78, Tryd.ntmps78
    go_wp2_with (go_at_call 87; refine (HHAS.out _ HB1.out).mono ?_; rintro e w3 ⟨he, hB⟩; subst he; have HX3 := Lib.hid hB; clear hB)
    clear HHAS b0 b1 b2 b3
    go_loopw [5, 6] (fun lv i wr => ∃ j : Nat, j ≤ l.length ∧ i = .int .i64 j ∧ OwnT (w.heap.size + 1) (fun b => b < base) wr ((l.take j).filter (fun u => !(cmpT u t == 0))) lv ∧ Below (w.heap.size + 1) w3 wr) (fun _ i _ => l.length - (intOf i).toNat)
    case atStart => exact ⟨0, Nat.zero_le _, rfl, by rw [List.take_zero]; exact OwnT_nil _ _ _, Below.refl _ _⟩
    case round =>
      obtain ⟨j, hj, rfl, hO, hB⟩ := hrel
      have HXr : Hid (Ext (w.alloc (.cells #[.int .i64 k2, .string n2, .int .i64 s2, .slice ya2 yl2 yc2] 24)) wr) := by
        have := HX3.out
        unfold Ext at this ⊢
        rw [HZ.out] at this ⊢
        exact this.trans hB
      have HXw : Hid (Ext w wr) := HB1.out.trans HXr.out
      have hws : w.heap.size + 1 ≤ wr.heap.size := by have := HXr.out.size; rw [HZ.out] at this; exact this
      have HWS := Lib.hid hws
      have HB := Lib.hid hB
      by_cases hlt : j < l.length
      rotate_left
      · have hjl : j = l.length := by omega
        obtain ⟨xr, cr, rfl⟩ := OwnT_form hO
        have HQ : Hid (TermsPost base w (togT l t) (.returned (.slice xr ((l.take j).filter (fun u => !(cmpT u t == 0))).length cr)) wr) := by
          show TermsPost _ _ _ _ _
          rw [hjl, List.take_length] at hO ⊢
          rw [HT.out]
          exact ⟨_, rfl, OwnT_elems hO, HXw.out⟩
        clear hO hB hjl hws
        go_wp2_with fail
        go_ret
        exact HQ.out
      obtain ⟨kb, ko, rfl⟩ := Row_at HR.out (by omega)
      obtain ⟨x0, x1, x2, x3, p0, p1, p2, p3, hKI⟩ := Row_get (Row_below HR.out HXw.out) j hlt
      obtain ⟨k1, n1, s1, ya1, yl1, yc1, rfl, rfl, rfl, rfl⟩ := Is_form hKI
      have hIr := Is_below (w' := wr) HI.out HXw.out
      have hC := fun W (x : Ext wr W) => same_any l[j] t _ _ _ _ _ _ _ _ W (by have := HSZ.out _ (List.getElem_mem hlt); omega) (by have := HHT.out; omega) (Is_below (w' := W) hKI x) (Is_below (w' := W) hIr x)
      have hIw : IsIn (fun b => b < base) wr l[j] (.int .i64 k1) (.string n1) (.int .i64 s1) (.slice ya1 yl1 yc1) := by
        obtain ⟨kb2, ko2, cap2, y0, y1, y2, y3, e, r0, r1, r2, r3, hKJ⟩ := Elems_get HEL.out j hlt
        simp only [Value.slice.injEq, Option.some.injEq, Addr.mk.injEq, and_true, true_and] at e
        obtain ⟨⟨rfl, rfl⟩, rfl⟩ := e
        have e0 := keep_below HXw.out _ _ r0
        have e1 := keep_below HXw.out _ _ r1
        have e2 := keep_below HXw.out _ _ r2
        have e3 := keep_below HXw.out _ _ r3
        rw [p0] at e0; rw [p1] at e1; rw [p2] at e2; rw [p3] at e3
        simp only [Option.some.injEq] at e0 e1 e2 e3
        rw [e0, e1, e2, e3]
        exact IsIn_below hKJ HBW.out HXw.out
      have HIW := Lib.hid hIw
      have HCr : Hid (∀ W, Ext wr W → (W.cell? ⟨kb, ko + j * 4, none⟩ = some (.int .i64 k1) ∧ W.cell? ⟨kb, ko + j * 4 + 1, none⟩ = some (.string n1) ∧ W.cell? ⟨kb, ko + j * 4 + 2, none⟩ = some (.int .i64 s1) ∧ W.cell? ⟨kb, ko + j * 4 + 3, none⟩ = some (.slice ya1 yl1 yc1)) ∧ (W.cell? ⟨w.heap.size, 0, none⟩ = some (.int .i64 k2) ∧ W.cell? ⟨w.heap.size, 1, none⟩ = some (.string n2) ∧ W.cell? ⟨w.heap.size, 2, none⟩ = some (.int .i64 s2) ∧ W.cell? ⟨w.heap.size, 3, none⟩ = some (.slice ya2 yl2 yc2))) := fun W x => ⟨⟨keep_below x _ _ p0, keep_below x _ _ p1, keep_below x _ _ p2, keep_below x _ _ p3⟩, HBK.out _ (HXr.out.trans x)⟩
      have i1 : (0 : Int) ≤ (j : Int) := by omega
      have i2 : (j : Int) < (l.length : Int) := by omega
      have hF0 : Ext wr wr.drew := (Ext.refl wr).drew
      have hfl := List.length_filter_le (fun u => !(cmpT u t == 0)) (l.take j)
      have hft := List.length_take_le j l
      have HFL : Hid (((l.take j).filter (fun u => !(cmpT u t == 0))).length ≤ 1048577) := (by omega : _ ≤ _)
      have HFT := Lib.hid (filt_take l t j hlt)
      have HO := Lib.hid hO
      clear p0 p1 p2 p3 hO hB hKI hIr hIw hfl hft
      generalize (l.take j).filter (fun u => !(cmpT u t == 0)) = acc at HFL HFT HO
      cases hcv : (cmpT l[j] t == 0)
      · have hC := fun W (x : Ext wr W) => (hcv ▸ hC W x : Calls _ _ _ _ _)
        have HC := Lib.hid hC
        have HF2 : Hid ((l.take (j + 1)).filter (fun u => !(cmpT u t == 0)) = acc ++ [l[j]]) := by show _ = _; rw [HFT.out, hcv]; rfl
        clear hC hcv
        go_wp2_with fail
        go_region_held3 (fun W => (W.cell? ⟨kb, ko + j * 4, none⟩ = some (.int .i64 k1) ∧ W.cell? ⟨kb, ko + j * 4 + 1, none⟩ = some (.string n1) ∧ W.cell? ⟨kb, ko + j * 4 + 2, none⟩ = some (.int .i64 s1) ∧ W.cell? ⟨kb, ko + j * 4 + 3, none⟩ = some (.slice ya1 yl1 yc1)) ∧ (W.cell? ⟨w.heap.size, 0, none⟩ = some (.int .i64 k2) ∧ W.cell? ⟨w.heap.size, 1, none⟩ = some (.string n2) ∧ W.cell? ⟨w.heap.size, 2, none⟩ = some (.int .i64 s2) ∧ W.cell? ⟨w.heap.size, 3, none⟩ = some (.slice ya2 yl2 yc2)))
          (first | exact HCr.out _ (by assumption) | go_keep)
          (first
            | (go_at_call 13; refine (HC.out _ hF0).mono ?_; rintro e w4 ⟨he, hB⟩; subst he; have hF1 : Ext wr w4 := Ext.trans hF0 hB; clear hB))
        obtain ⟨⟨p0, p1, p2, p3⟩, _⟩ := HCr.out _ hF1
        have HF1 := Lib.hid hF1
        have HO4 := Lib.hid (OwnT_extQ (Nat.le_succ_of_le HBW.out) HWS.out HO.out hF1)
        have HI4 := Lib.hid (IsIn_below HIW.out (by have := HWS.out; have := HBW.out; omega) hF1)
        clear hF0 hF1
        go_wp2_with (at_builtin; refine wpList_append_tm rfl _ _ rfl HO4.out (Nat.le_succ_of_le HBW.out) (Nat.le_trans HWS.out HF1.out.size) HFL.out ⟨rfl, rfl, rfl, rfl⟩ HI4.out rfl rfl rfl ?_; intro v9 w9 hO9 hB9 hs9; have HO9 := Lib.hid hO9; have HB9 := Lib.hid hB9; clear hO9 hB9 hs9)
        go_roundw
        case rel => exact ⟨j + 1, by omega, by go_num, by rw [HF2.out]; exact HO9.out, (HB.out.trans (HF1.out.mono HWS.out)).trans HB9.out⟩
        case measure => simp [intOf]; omega
      · have hC := fun W (x : Ext wr W) => (hcv ▸ hC W x : Calls _ _ _ _ _)
        have HC := Lib.hid hC
        have HF2 : Hid ((l.take (j + 1)).filter (fun u => !(cmpT u t == 0)) = acc) := by show _ = _; rw [HFT.out, hcv]; exact List.append_nil _
        clear hC hcv
        go_wp2_with fail
        go_region_held3 (fun W => (W.cell? ⟨kb, ko + j * 4, none⟩ = some (.int .i64 k1) ∧ W.cell? ⟨kb, ko + j * 4 + 1, none⟩ = some (.string n1) ∧ W.cell? ⟨kb, ko + j * 4 + 2, none⟩ = some (.int .i64 s1) ∧ W.cell? ⟨kb, ko + j * 4 + 3, none⟩ = some (.slice ya1 yl1 yc1)) ∧ (W.cell? ⟨w.heap.size, 0, none⟩ = some (.int .i64 k2) ∧ W.cell? ⟨w.heap.size, 1, none⟩ = some (.string n2) ∧ W.cell? ⟨w.heap.size, 2, none⟩ = some (.int .i64 s2) ∧ W.cell? ⟨w.heap.size, 3, none⟩ = some (.slice ya2 yl2 yc2)))
          (first | exact HCr.out _ (by assumption) | go_keep)
          (first
            | (go_at_call 13; refine (HC.out _ hF0).mono ?_; rintro e w4 ⟨he, hB⟩; subst he; have hF1 : Ext wr w4 := Ext.trans hF0 hB; clear hB))
        have HF1 := Lib.hid hF1
        have HO4 := Lib.hid (OwnT_extQ (Nat.le_succ_of_le HBW.out) HWS.out HO.out hF1)
        clear hF0 hF1
        go_wp2_with fail
        go_roundw
        case rel => exact ⟨j + 1, by omega, by go_num, by rw [HF2.out]; exact HO4.out, HB.out.trans (HF1.out.mono HWS.out)⟩
        case measure => simp [intOf]; omega
end Go.Proofs.YtfbomoginjknlaaDoor
