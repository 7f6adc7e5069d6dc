import Derived.Test.YtbcpnepjojppaaaGreatDoorLawTheoryKeyxYopn
namespace Go.Proofs.YtbcpnepjojppaaaGreatDoor
open Go.RowKit
def SmP (l : List Pw) : Prop := l.length ≤ 200 ∧ SzP 1048576 l
theorem ofP_sm (t : Tm) : SmP (ofP t).1 := by
  by_cases h0 : (ofP t).2 = 0
  · have h : ofP t = ((ofP t).1, 0) := Prod.ext rfl h0
    obtain ⟨_, h2, h3⟩ := ofP_ok h
    exact ⟨h2, fun p hp => by have := (valid_parts (pwE_ok ((powE_ok h3).2.1 p hp)).1).2.1; omega⟩
  · rw [ofP_nil h0]; exact ⟨by simp, fun p hp => by simp at hp⟩
theorem SmP_nil : SmP [] := ⟨by simp, fun p hp => by simp at hp⟩
theorem factU_sm (b : Tm) : SmP (factU b).2.1 := by
  unfold factU
  by_cases c : isApp b yExp = true
  · rw [if_pos c]; exact ofP_sm _
  · rw [if_neg c]; exact SmP_nil
theorem mulP_sm {a b : List Pw} (ha : SmP a) (hb : SmP b) : SmP (mulP a b).1 := by
  unfold mulP
  by_cases c0 : powE 1000 a = 0
  · rw [if_pos c0]
    by_cases c1 : powE 1000 b = 0
    · rw [if_pos c1]
      by_cases c2 : rangeE (addsP a b) = 0
      · rw [if_pos c2]
        constructor
        · unfold rangeE at c2
          by_cases h1 : tooG (addsP a b) = true
          · rw [if_pos h1] at c2; exact absurd c2 (by decide)
          · rw [if_neg h1] at c2
            by_cases h2 : 200 < (addsP a b).length
            · rw [if_pos h2] at c2; exact absurd c2 (by decide)
            · simp only; omega
        · intro p hp
          obtain ⟨_, h1, h2⟩ := powE_ok c0
          obtain ⟨_, h3, _⟩ := powE_ok c1
          obtain ⟨_, b2, _⟩ := addsP_norm b (l := a) ⟨h2, fun p hp => (pwE_ok (h1 p hp)).2.2.1⟩ fun p hp => (pwE_ok (h3 p hp)).2.2.1
          rcases b2 p hp with ⟨q, hq, e⟩ | ⟨q, hq, e⟩
          · rw [e]; exact hb.2 q hq
          · rw [e]; exact ha.2 q hq
      · rw [if_neg c2]; exact SmP_nil
    · rw [if_neg c1]; exact SmP_nil
  · rw [if_neg c0]; exact SmP_nil
theorem PRow_keepZ {w w' : World} {g : Nat} (hk : Only4 w w' g 0) (hz : Z4 w g 0) {ps : List Pw} {xa : Option Addr} (hv : ∀ p ∈ ps, nodesE p.1 = 0) (h : PRow w ps xa) : PRow w' ps xa := by
  rcases h with h | ⟨b, o, e, h⟩
  · exact Or.inl h
  · refine Or.inr ⟨b, o, e, fun k hk2 => ?_⟩
    obtain ⟨h1, h2, h3⟩ := h k hk2
    refine ⟨lies_keepZ hk hz (hv _ (List.getElem_mem hk2)) h1, ?_, h3⟩
    obtain ⟨c0, c1, c2, c3, g0, g1, g2, g3, hI⟩ := h1
    have ha := node_apart hz (hv _ (List.getElem_mem hk2)) g0 g1 g2 g3 hI
    rcases hk b (o + k * 5 + 4) with ⟨e1, _, e3⟩ | e1
    · exfalso; rcases ha with h | h | h
      · exact h e1
      · omega
      · omega
    · exact e1.trans h2
def FacPost (w : World) (r : Tm × List Pw × Int) (e : Ending) (w' : World) : Prop :=
  ∃ k n s xa l c pa pc, e = .returned (.tuple #[.agg #[.int .i64 k, .string n, .int .i64 s, .slice xa l c], .slice pa r.2.1.length pc, .int .i64 r.2.2]) ∧ Is w' r.1 (.int .i64 k) (.string n) (.int .i64 s) (.slice xa l c) ∧ r.2.1.length ≤ pc ∧ PRow w' r.2.1 pa ∧ Ext w w'
theorem FacFin {w W : World} {b : Nat} {T : TypeId} {r : Tm × List Pw × Int} {k : Int} {n : ByteArray} {s : Int} {xa : Option Addr} {l c : Nat} {pa : Option Addr} {pc : Nat} (hb : W.heap[b]? = some (.cells #[.int .i64 0, .string ⟨#[]⟩, .int .i64 0, .slice none 0 0] T (0, 0))) (hw : w.heap.size ≤ b) (hE : Ext w W) (hv : nodesE r.1 = 0) (hl : r.2.1.length ≤ pc) (hP : PRow W r.2.1 pa) (hg : ∀ p ∈ r.2.1, nodesE p.1 = 0)
    (hI : Is W r.1 (.int .i64 k) (.string n) (.int .i64 s) (.slice xa l c)) : FacPost w r (.returned (.tuple #[.agg #[.int .i64 k, .string n, .int .i64 s, .slice xa l c], .slice pa r.2.1.length pc, .int .i64 r.2.2])) (put4 W b 0 (.int .i64 k) (.string n) (.int .i64 s) (.slice xa l c)) :=
  ⟨_, _, _, _, _, _, _, _, rfl, is_keepZ (put4_only W b 0 _ _ _ _) (Z4box hb) r.1 hv _ _ _ _ hI, hl, PRow_keepZ (put4_only W b 0 _ _ _ _) (Z4box hb) hg hP, put4_below hE hw⟩
set_option maxHeartbeats 1600000 in
set_option maxRecDepth 100000 in
theorem yapplication_any (n : ByteArray) (xa : Option Addr) (l c : Nat) (w : World) :
    Calls Tryz.prog 65 #[.string n, .slice xa l c] w fun e w' => e = .returned (.agg #[.int .i64 3, .string n, .int .i64 0, .slice xa l c]) ∧ Ext w w' := by
  have HX : Hid (Ext w (w.alloc (.cells #[.int .i64 3, .string n, .int .i64 0, .slice xa l c] 24))) := (Ext.refl w).alloc _
  go_enter Tryz.func65, Tryz.ntmps65
  go_wp2_with fail
  exact bodyPost_ret (v := .agg #[.int .i64 3, .string n, .int .i64 0, .slice xa l c]) (by simp [results, Tryz.results65, go_sem]) rfl ⟨rfl, HX.out⟩
set_option maxHeartbeats 3200000 in
set_option maxRecDepth 100000 in
theorem factored_any (b : Tm) (c0 c1 c2 c3 : Value) (w : World) (hg : gd b) (hsz : size b ≤ 1048570) (hI : Is w b c0 c1 c2 c3) :
    Calls Tryz.prog 151 #[.agg #[c0, c1, c2, c3]] w (FacPost w (factU b)) := by
  obtain ⟨k, n, s, xa, l, cap, rfl, rfl, rfl, rfl⟩ := Is_form hI
  obtain ⟨hb0, hb1, hBw, hZ⟩ := boxes2 w (.int .i64 k) (.string n) (.int .i64 s) (.slice xa l cap) (.int .i64 0) (.string ⟨#[]⟩) (.int .i64 0) (.slice none 0 0) 24
  have hL : Lies ((w.alloc (.cells #[.int .i64 k, .string n, .int .i64 s, .slice xa l cap] 24)).alloc (.cells #[.int .i64 0, .string ⟨#[]⟩, .int .i64 0, .slice none 0 0] 24)) b w.heap.size 0 := ⟨_, _, _, _, (box_facts hb0).1.1, (box_facts hb0).1.2.1, (box_facts hb0).1.2.2.1, (box_facts hb0).1.2.2.2, Is_below hI hBw⟩
  have HA : Hid (∀ W, Ext ((w.alloc (.cells #[.int .i64 k, .string n, .int .i64 s, .slice xa l cap] 24)).alloc (.cells #[.int .i64 0, .string ⟨#[]⟩, .int .i64 0, .slice none 0 0] 24)) W → Calls Tryz.prog 72 #[.pointer (some ⟨w.heap.size, 0, none⟩), .string ⟨#[101, 120, 112]⟩] W fun e w' => e = .returned (.bool (isApp b ⟨#[101, 120, 112]⟩)) ∧ w' = W) := fun W x => applies_any b ⟨#[101, 120, 112]⟩ _ _ W (Lies_carry (keep_below x) hL)
  obtain ⟨⟨m0, m1, m2, m3⟩, n0, n1, n2, n3⟩ := box_facts hb1
  obtain ⟨⟨p0, p1, p2, p3⟩, _⟩ := box_facts hb0
  cases ha : isApp b ⟨#[101, 120, 112]⟩
  · have hf : factU b = (b, [], 0) := by unfold factU; rw [if_neg (fun e => Bool.noConfusion (e.symm.trans ha))]
    have HF : Hid (FacPost w (factU b) (.returned (.tuple #[.agg #[.int .i64 k, .string n, .int .i64 s, .slice xa l cap], .slice none 0 0, .int .i64 0])) ((w.alloc (.cells #[.int .i64 k, .string n, .int .i64 s, .slice xa l cap] 24)).alloc (.cells #[.int .i64 k, .string n, .int .i64 s, .slice xa l cap] 24))) := by
      show FacPost _ _ _ _
      rw [hf]
      exact ⟨_, _, _, _, _, _, none, 0, rfl, Is_alloc (Is_alloc hI _) _, Nat.le_refl _, Or.inl rfl, ((Ext.refl w).alloc _).alloc _⟩
    rw [ha] at HA
    clear ha hg hI hL hf hb0 hb1 hBw hZ
    go_enter Tryz.func151, Tryz.ntmps151
    go_wp2_with (go_at_call 72; refine (HA.out _ (Ext.refl _)).mono ?_; rintro e w3 ⟨he, hw⟩; subst he; have hw' := hw.symm; subst hw')
    exact bodyPost_ret (v := .tuple #[.agg #[.int .i64 k, .string n, .int .i64 s, .slice xa l cap], .slice none 0 0, .int .i64 0]) (by simp [results, Tryz.results151, go_sem]) rfl HF.out
  obtain ⟨s', ks, hkk⟩ := isApp_mk ha
  have hkl : ks.length = 2 := ln_exp (gd_mk (by rw [hkk] at hg; exact hg)).2.1
  have hL' := hL
  rw [hkk] at hL' hg hsz
  obtain ⟨cb, co, cc, g3, hLk⟩ := Lies_kids hL' (by omega)
  have e3 : xa = some ⟨cb, co, none⟩ ∧ l = 2 ∧ cap = cc := by
    have := p3.symm.trans g3
    simp only [Option.some.injEq, Value.slice.injEq] at this
    exact ⟨this.1, by omega, this.2.2⟩
  obtain ⟨rfl, rfl, rfl⟩ := e3
  have hLx := hLk 0 (by omega)
  have hLe := hLk 1 (by omega)
  have hgx := gd_kid hg (show 0 < ks.length by omega)
  have hge := gd_kid hg (show 1 < ks.length by omega)
  have hze : size (kidT ks 1) ≤ 1048570 := Nat.le_trans (size_kid (n := ⟨#[101, 120, 112]⟩) (s := s') (show 1 < ks.length by omega)) hsz
  have hf : factU b = (kidT ks 0, ofP (kidT ks 1)) := by unfold factU; rw [if_pos (c := isApp b yExp = true) ha, hkk]; rfl
  obtain ⟨x0, x1, x2, x3, y0, y1, y2, y3, hIx⟩ := hLx
  obtain ⟨kk, kn, kt, kx, kl, kc, rfl, rfl, rfl, rfl⟩ := Is_form hIx
  obtain ⟨e0, e1, e2, e3, r0, r1, r2, r3, hIe⟩ := hLe
  rw [Nat.zero_mul, Nat.add_zero] at y0 y1 y2 y3
  rw [Nat.one_mul] at r0 r1 r2 r3
  rw [Nat.add_assoc] at r1 r2 r3
  have HO : Hid (∀ W, Ext ((w.alloc (.cells #[.int .i64 k, .string n, .int .i64 s, .slice (some ⟨cb, co, none⟩) 2 cap] 24)).alloc (.cells #[.int .i64 0, .string ⟨#[]⟩, .int .i64 0, .slice none 0 0] 24)) W → Calls Tryz.prog 111 #[.agg #[e0, e1, e2, e3]] W (PePost W (ofP (kidT ks 1)))) := fun W x => Of_any (kidT ks 1) e0 e1 e2 e3 W hze (Is_below hIe x)
  have HF : Hid (∀ W pa pc, Ext ((w.alloc (.cells #[.int .i64 k, .string n, .int .i64 s, .slice (some ⟨cb, co, none⟩) 2 cap] 24)).alloc (.cells #[.int .i64 0, .string ⟨#[]⟩, .int .i64 0, .slice none 0 0] 24)) W → (ofP (kidT ks 1)).1.length ≤ pc → PRow W (ofP (kidT ks 1)).1 pa → FacPost w (factU b) (.returned (.tuple #[.agg #[.int .i64 kk, .string kn, .int .i64 kt, .slice kx kl kc], .slice pa (ofP (kidT ks 1)).1.length pc, .int .i64 (ofP (kidT ks 1)).2])) (put4 W (w.heap.size + 1) 0 (.int .i64 kk) (.string kn) (.int .i64 kt) (.slice kx kl kc))) := fun W pa pc x hl hP => by
    have := FacFin (r := factU b) (W := W) (w := w) (b := w.heap.size + 1) (k := kk) (n := kn) (s := kt) (xa := kx) (l := kl) (c := kc) (pa := pa) (pc := pc) ((x.block _ (by omega)).trans hb1) (by omega) (Ext.trans hBw x) (by rw [hf]; exact hgx.1) (by rw [hf]; exact hl) (by rw [hf]; exact hP) (by rw [hf]; exact fun p hp => (ofP_gd hge p hp).1) (by rw [hf]; exact Is_below hIx x)
    rw [hf] at this ⊢
    exact this
  have HS : Hid (∀ W, Ext ((w.alloc (.cells #[.int .i64 k, .string n, .int .i64 s, .slice (some ⟨cb, co, none⟩) 2 cap] 24)).alloc (.cells #[.int .i64 0, .string ⟨#[]⟩, .int .i64 0, .slice none 0 0] 24)) W → W.heap[w.heap.size + 1]? = some (.cells #[.int .i64 0, .string ⟨#[]⟩, .int .i64 0, .slice none 0 0] 24 (0, 0)) ∧ W.cell? ⟨w.heap.size, 3, none⟩ = some (.slice (some ⟨cb, co, none⟩) 2 cap) ∧ W.cell? ⟨cb, co, none⟩ = some (.int .i64 kk) ∧ W.cell? ⟨cb, co + 1, none⟩ = some (.string kn) ∧ W.cell? ⟨cb, co + 2, none⟩ = some (.int .i64 kt) ∧ W.cell? ⟨cb, co + 3, none⟩ = some (.slice kx kl kc)) := fun W x => by
    have c := keep_below x
    exact ⟨(x.block _ (by omega)).trans hb1, c _ _ p3, c _ _ y0, c _ _ y1, c _ _ y2, c _ _ y3⟩
  rw [ha] at HA
  generalize ofP (kidT ks 1) = R at HO HF
  clear ha hg hsz hI hL hL' hf hb0 hb1 hBw hZ hkk g3 hLk hIx hIe hgx hge hze hkl
  go_enter Tryz.func151, Tryz.ntmps151
  go_wp2_with (first
    | (go_at_call 72; refine (HA.out _ (Ext.refl _)).mono ?_; rintro e w3 ⟨he, hw⟩; subst he; have hw' := hw.symm; subst hw')
    | (go_at_call 111; refine (HO.out _ (Ext.refl _)).mono ?_; rintro e w4 ⟨pa, pc, he, hc4, hP4, hX4⟩; subst he; have HF4 := Lib.hid (HF.out w4 pa pc hX4 hc4 hP4); clear y0 y1 y2 y3 m0 m1 m2 m3 n0 n1 n2 n3 p3; obtain ⟨hz4, p3, y0, y1, y2, y3⟩ := HS.out _ hX4; obtain ⟨⟨m0, m1, m2, m3⟩, n0, n1, n2, n3⟩ := box_facts hz4; clear hz4 hc4 hP4 hX4))
  exact bodyPost_ret (v := .tuple #[.agg #[.int .i64 kk, .string kn, .int .i64 kt, .slice kx kl kc], .slice pa R.1.length pc, .int .i64 R.2]) (by simp [results, Tryz.results151, go_sem, m0, m1, m2, m3]) rfl HF4.out
end Go.Proofs.YtbcpnepjojppaaaGreatDoor
