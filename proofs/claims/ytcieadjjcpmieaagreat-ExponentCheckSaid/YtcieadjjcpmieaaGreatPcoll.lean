/-
  THE REFERENCE'S collect, pure part: lists that grow by single powers.
-/
import Derived.Test.YtcieadjjcpmieaaGreatPradd
import Derived.Test.YtcieadjjcpmieaaGreatPterm
namespace Go.Proofs.YtcieadjjcpmieaaGreat
open Go.RowKit

/-- A list in the normal form with at most k powers, none past k. -/
def Okl (k : Nat) (l : List Pw) : Prop := NormP l ∧ l.length ≤ k ∧ (∀ u, (pwr l u).natAbs ≤ k) ∧ SzP 1073741824 l
theorem Okl_nil : Okl 0 [] := ⟨normP_nil, Nat.le_refl _, fun u => by simp [pwr], fun p hp => by simp at hp⟩
theorem Okl.num {k : Nat} {l : List Pw} (h : Okl k l) {p : Pw} (hp : p ∈ l) : p.2.natAbs ≤ k := by
  have := h.2.2.1 p.1
  rw [norm_get h.1 hp] at this
  exact this
theorem Okl.add {k : Nat} {l : List Pw} {t : Tm} {n : Int} (h : Okl k l) (hn : n = 1 ∨ n = -1) (ht : size t ≤ 1073741824) : Okl (k + 1) (addP l (t, n)) := by
  obtain ⟨a1, a2, a3⟩ := addG_norm (t := t) (n := n) (by omega) h.1
  refine ⟨a1, ?_, fun u => ?_, fun q hq => ?_⟩
  · have h2 : (addP l (t, n)).length ≤ l.length + 1 := addG_len t n l false
    have := h.2.1
    omega
  · have h1 := h.2.2.1 u
    rw [show pwr (addP l (t, n)) u = pwr l u + (if cmpT t u = 0 then n else 0) from a3 u]
    split <;> omega
  · rcases a2 q hq with e | ⟨p, hp, e⟩
    · rw [e]; exact ht
    · rw [e]; exact h.2.2.2 p hp
theorem Okl.adds : ∀ (ps : List Pw) {k : Nat} {l : List Pw}, Okl k l → (∀ p ∈ ps, (p.2 = 1 ∨ p.2 = -1) ∧ size p.1 ≤ 1073741824) → Okl (k + ps.length) (addsP l ps)
  | [], _, _, h, _ => h
  | p :: ps, k, l, h, hp => by
    have h1 := Okl.add h (hp p (List.mem_cons_self ..)).1 (hp p (List.mem_cons_self ..)).2
    have h2 := Okl.adds ps h1 (fun q hq => hp q (List.mem_cons_of_mem _ hq))
    rw [show addsP l (p :: ps) = addsP (addP l p) ps from rfl, List.length_cons, show k + (ps.length + 1) = k + 1 + ps.length by omega]
    exact h2
theorem Okl.mono {k k' : Nat} {l : List Pw} (h : Okl k l) (hk : k ≤ k') : Okl k' l := ⟨h.1, Nat.le_trans h.2.1 hk, fun u => Nat.le_trans (h.2.2.1 u) hk, h.2.2.2⟩
theorem Row_some {w : World} {ts : List Tm} {xa : Option Addr} (h : Row w ts xa) (hne : 0 < ts.length) : ∃ b o, xa = some ⟨b, o, none⟩ := by
  cases ts with
  | nil => simp at hne
  | cons t ts => obtain ⟨b, o, e, _⟩ := Row_cons h; exact ⟨b, o, e⟩
theorem Okl_occ {k0 m : Nat} {l : List Pw} {ks : List Tm} {x : Int} (h : Okl k0 l) (hx : x = 1 ∨ x = -1) (hm : sizes ks ≤ m) (hm2 : m ≤ 1073741824) (j : Nat) : Okl (k0 + sizes (ks.take j)) (addsP l (occL (ks.take j) x)) := by
  have h1 := occL_len (ks.take j) x
  have h3 := sizes_take_le ks j
  refine (Okl.adds _ h fun p hp => ?_).mono (by omega)
  have h2 := occL_one (ks.take j) x hx p hp
  exact ⟨h2.1, by have := h2.2.2.2.1; omega⟩
set_option maxHeartbeats 1600000 in
set_option maxRecDepth 100000 in
theorem rcollect_any (M : Nat) : ∀ (t : Tm) (c0 c1 c2 c3 : Value) (l : List Pw) (m : Int) (k0 : Nat) (xl : Option Addr) (cl : Nat) (w : World), size t ≤ M → k0 + size t ≤ 1048576 → m = 1 ∨ m = -1 → Okl k0 l → PRow w l xl → l.length ≤ cl → Is w t c0 c1 c2 c3 →
    Calls Tryz.prog 48 #[.slice xl l.length cl, .agg #[c0, c1, c2, c3], .int .i64 m] w (PwPost w (addsP l (occT t m))) := by
  induction M with
  | zero => intro t c0 c1 c2 c3 l m k0 xl cl w h; have := size_pos t; omega
  | succ M ih =>
    intro t c0 c1 c2 c3 l m k0 xl cl w hM hK hm hO hR hcl hI
    have HSP := Lib.hid (fun W (y : Ext w W) => special_any t c0 c1 c2 c3 W (Is_below (w' := W) hI y))
    have hI0 := hI
    obtain ⟨kk, n, s, ks⟩ := t
    cases hx : expo (.mk kk n s ks) with
    | false =>
      have hoc : occT (.mk kk n s ks) m = [(.mk kk n s ks, m)] := by rw [occT, hx]; rfl
      have HAD := Lib.hid (fun W (y : Ext w W) => radd_any l (.mk kk n s ks) m c0 c1 c2 c3 xl cl W (by have := hO.2.1; omega) hO.2.2.2 (by omega) hO.1.2 (fun p hp => by have := hO.num hp; omega) (by omega) (PRow_below (w' := W) hR y) (Is_below (w' := W) hI0 y))
      rw [hoc, show addsP l [(Tm.mk kk n s ks, m)] = addP l (.mk kk n s ks, m) from rfl]
      rw [hx] at HSP
      generalize addP l (.mk kk n s ks, m) = R at HAD ⊢
      obtain ⟨ka, na, sa, xa, la, capa, rfl, rfl, rfl, rfl⟩ := Is_form hI
      have hb1 := heap_alloc_new w (.cells #[.int .i64 ka, .string na, .int .i64 sa, .slice xa la capa] 24)
      have hX0 : Ext w (w.alloc (.cells #[.int .i64 ka, .string na, .int .i64 sa, .slice xa la capa] 24)) := (Ext.refl w).alloc _
      have HX0 := Lib.hid hX0
      have HBX : Hid (∀ W, Ext (w.alloc (.cells #[.int .i64 ka, .string na, .int .i64 sa, .slice xa la capa] 24)) W → W.cell? ⟨w.heap.size, 0, none⟩ = some (.int .i64 ka) ∧ W.cell? ⟨w.heap.size, 1, none⟩ = some (.string na) ∧ W.cell? ⟨w.heap.size, 2, none⟩ = some (.int .i64 sa) ∧ W.cell? ⟨w.heap.size, 3, none⟩ = some (.slice xa la capa)) := fun W x => (box_facts ((x.block _ (by rw [World.size_alloc]; exact Nat.lt_succ_self _)).trans hb1)).1
      clear hI hI0 hR hO hm hK hM hoc hx ih hb1 hX0 hcl
      go_enter Tryz.func48, Tryz.ntmps48
      go_wp2_with (first
        | (go_at_call 88; refine (HSP.out _ HX0.out).mono ?_; rintro e w2 ⟨he, hB⟩; subst he; have HX2 : Hid (Ext w w2) := Ext.trans HX0.out hB; obtain ⟨e0, e1, e2, e3⟩ := HBX.out _ hB; clear hB)
        | (go_at_call 58; refine (HAD.out _ HX2.out).mono ?_; rintro e w3 ⟨x3, c3, he, hc, hr, hB⟩; subst he; have HF : Hid (PwPost w R (.returned (.slice x3 R.length c3)) w3) := ⟨x3, c3, rfl, hc, hr, Ext.trans HX2.out hB⟩; clear hc hr hB))
      go_ret
      exact HF.out
    | true =>
      cases hiv : (n.toList == [105, 110, 118]) with
      | true =>
        have hoc : occT (.mk kk n s ks) m = occL ks (-m) := by rw [occT, if_pos hx, hiv]; rfl
        rw [hoc]
        have hm2 : (-m) = 1 ∨ (-m) = -1 := by omega
        have ew : IntKind.i64.wrap (-m) = -m := IntWalk.i64_in _ (by omega)
        rw [hx] at HSP
        simp only [Is] at hI
        obtain ⟨rfl, rfl, rfl, _, _, _, hl, xa, capa, rfl, hcapa, hRk⟩ := hI
        unfold maxLen at hl
        have hss : size (.mk kk n s ks) = 1 + sizes ks := rfl
        rw [hss] at hM hK
        have hb1 := heap_alloc_new w (.cells #[.int .i64 kk, .string n, .int .i64 s, .slice xa ks.length capa] 24)
        have hX0 : Ext w (w.alloc (.cells #[.int .i64 kk, .string n, .int .i64 s, .slice xa ks.length capa] 24)) := (Ext.refl w).alloc _
        have HX0 := Lib.hid hX0
        have HBX : Hid (∀ W, Ext (w.alloc (.cells #[.int .i64 kk, .string n, .int .i64 s, .slice xa ks.length capa] 24)) W → W.cell? ⟨w.heap.size, 0, none⟩ = some (.int .i64 kk) ∧ W.cell? ⟨w.heap.size, 1, none⟩ = some (.string n) ∧ W.cell? ⟨w.heap.size, 2, none⟩ = some (.int .i64 s) ∧ W.cell? ⟨w.heap.size, 3, none⟩ = some (.slice xa ks.length capa)) := fun W x => (box_facts ((x.block _ (by rw [World.size_alloc]; exact Nat.lt_succ_self _)).trans hb1)).1
        have HROW := Lib.hid (fun W (y : Ext w W) => Row_below (w' := W) hRk y)
        have HOK := Lib.hid (fun j => Okl_occ (ks := ks) (m := 1048576) hO hm2 (by omega) (by omega) j)
        have HIH := Lib.hid ih
        have HR := Lib.hid hR
        have HCL := Lib.hid hcl
        have HMM := Lib.hid hm2
        clear hI0 hR hO hm hoc hx ih hb1 hX0 hcl hRk hm2 hss
        go_enter Tryz.func48, Tryz.ntmps48
        go_wp2_with (go_at_call 88; refine (HSP.out _ HX0.out).mono ?_; rintro e w2 ⟨he, hB⟩; subst he; have HY2 := Lib.hid (show Ext _ w2 from hB); obtain ⟨e0, e1, e2, e3⟩ := HBX.out _ hB; clear hB)
        go_loopw [0, 7] (fun v i wr => ∃ (j : Nat) (x : Option Addr) (c : Nat), j ≤ ks.length ∧ i = .int .i64 j ∧ v = .slice x (addsP l (occL (ks.take j) (-m))).length c ∧ (addsP l (occL (ks.take j) (-m))).length ≤ c ∧ PRow wr (addsP l (occL (ks.take j) (-m))) x ∧ Ext (w.alloc (.cells #[.int .i64 kk, .string n, .int .i64 s, .slice xa ks.length capa] 24)) wr) (fun _ i _ => ks.length - (intOf i).toNat)
        case atStart => exact ⟨0, xl, cl, Nat.zero_le _, rfl, by rw [List.take_zero, occL]; rfl, by rw [List.take_zero, occL]; exact HCL.out, by rw [List.take_zero, occL]; exact PRow_below HR.out (Ext.trans HX0.out HY2.out), HY2.out⟩
        case round =>
          obtain ⟨j, x, c, hj, rfl, rfl, hc, hr, hE⟩ := hrel
          have hEw := Ext.trans HX0.out hE
          have HE := Lib.hid hE
          obtain ⟨y0, y1, y2, y3⟩ := HBX.out wr hE
          by_cases hlt : j < ks.length
          rotate_left
          · obtain rfl : j = ks.length := by omega
            rw [List.take_length] at hc hr ⊢
            obtain ⟨Q, hQ⟩ : ∃ Q, addsP l (occL ks (-m)) = Q := ⟨_, rfl⟩
            rw [hQ] at hc hr ⊢
            have HF : Hid (PwPost w (addsP l (occL ks (-m))) (.returned (.slice x Q.length c)) wr) := Lib.hid (by rw [hQ]; exact ⟨x, c, rfl, hc, hr, hEw⟩)
            clear hc hr hE hEw hQ
            go_wp2_with fail
            go_ret
            exact HF.out
          obtain ⟨b, o, rfl⟩ := Row_some (HROW.out wr hEw) (by omega)
          obtain ⟨d0, d1, d2, d3, f0, f1, f2, f3, hIk⟩ := Row_get (HROW.out wr hEw) j hlt
          have hst := sizes_take ks j hlt
          have hle := sizes_take_le ks (j + 1)
          have HC := Lib.hid (HIH.out ks[j] _ _ _ _ (addsP l (occL (ks.take j) (-m))) (-m) (k0 + sizes (ks.take j)) x c wr (by omega) (by omega) HMM.out (HOK.out j) hr hc hIk)
          obtain ⟨ka, na, sa, za, la, ca, rfl, rfl, rfl, rfl⟩ := Is_form hIk
          have hQ : addsP (addsP l (occL (ks.take j) (-m))) (occT ks[j] (-m)) = addsP l (occL (ks.take (j + 1)) (-m)) := by rw [occL_take ks j hlt, addsP_app]
          rw [hQ] at HC
          obtain ⟨Q2, hQ2⟩ : ∃ Q2, addsP l (occL (ks.take (j + 1)) (-m)) = Q2 := ⟨_, rfl⟩
          have HQ2 := Lib.hid hQ2
          rw [hQ2] at HC
          generalize addsP l (occL (ks.take j) (-m)) = Q at HC ⊢
          have i1 : (0 : Int) ≤ (j : Int) := by omega
          have i2 : (j : Int) < (ks.length : Int) := by omega
          clear hc hr hE hEw hIk hst hle hQ hQ2
          go_wp2_with (go_at_call 48; refine (HC.out).mono ?_; rintro e w4 ⟨x4, c4, he, hc, hr, hB⟩; subst he; have hF1 : Ext wr w4 := hB; have HR4 := Lib.hid hr; have HC4 := Lib.hid hc; clear hc hr hB)
          all_goals (go_roundw)
          all_goals (first | exact ⟨j + 1, x4, c4, by omega, by go_num, by rw [HQ2.out], by rw [HQ2.out]; exact HC4.out, by rw [HQ2.out]; exact HR4.out, Ext.trans HE.out hF1⟩ | (simp [intOf]; omega))
      | false =>
        have hoc : occT (.mk kk n s ks) m = occL ks m := by rw [occT, if_pos hx, hiv]; rfl
        rw [hoc]
        have hm2 : m = 1 ∨ m = -1 := by omega
        rw [hx] at HSP
        simp only [Is] at hI
        obtain ⟨rfl, rfl, rfl, _, _, _, hl, xa, capa, rfl, hcapa, hRk⟩ := hI
        unfold maxLen at hl
        have hss : size (.mk kk n s ks) = 1 + sizes ks := rfl
        rw [hss] at hM hK
        have hb1 := heap_alloc_new w (.cells #[.int .i64 kk, .string n, .int .i64 s, .slice xa ks.length capa] 24)
        have hX0 : Ext w (w.alloc (.cells #[.int .i64 kk, .string n, .int .i64 s, .slice xa ks.length capa] 24)) := (Ext.refl w).alloc _
        have HX0 := Lib.hid hX0
        have HBX : Hid (∀ W, Ext (w.alloc (.cells #[.int .i64 kk, .string n, .int .i64 s, .slice xa ks.length capa] 24)) W → W.cell? ⟨w.heap.size, 0, none⟩ = some (.int .i64 kk) ∧ W.cell? ⟨w.heap.size, 1, none⟩ = some (.string n) ∧ W.cell? ⟨w.heap.size, 2, none⟩ = some (.int .i64 s) ∧ W.cell? ⟨w.heap.size, 3, none⟩ = some (.slice xa ks.length capa)) := fun W x => (box_facts ((x.block _ (by rw [World.size_alloc]; exact Nat.lt_succ_self _)).trans hb1)).1
        have HROW := Lib.hid (fun W (y : Ext w W) => Row_below (w' := W) hRk y)
        have HOK := Lib.hid (fun j => Okl_occ (ks := ks) (m := 1048576) hO hm2 (by omega) (by omega) j)
        have HIH := Lib.hid ih
        have HR := Lib.hid hR
        have HCL := Lib.hid hcl
        have HMM := Lib.hid hm2
        clear hI0 hR hO hm hoc hx ih hb1 hX0 hcl hRk hm2 hss
        go_enter Tryz.func48, Tryz.ntmps48
        go_wp2_with (go_at_call 88; refine (HSP.out _ HX0.out).mono ?_; rintro e w2 ⟨he, hB⟩; subst he; have HY2 := Lib.hid (show Ext _ w2 from hB); obtain ⟨e0, e1, e2, e3⟩ := HBX.out _ hB; clear hB)
        go_loopw [0, 7] (fun v i wr => ∃ (j : Nat) (x : Option Addr) (c : Nat), j ≤ ks.length ∧ i = .int .i64 j ∧ v = .slice x (addsP l (occL (ks.take j) m)).length c ∧ (addsP l (occL (ks.take j) m)).length ≤ c ∧ PRow wr (addsP l (occL (ks.take j) m)) x ∧ Ext (w.alloc (.cells #[.int .i64 kk, .string n, .int .i64 s, .slice xa ks.length capa] 24)) wr) (fun _ i _ => ks.length - (intOf i).toNat)
        case atStart => exact ⟨0, xl, cl, Nat.zero_le _, rfl, by rw [List.take_zero, occL]; rfl, by rw [List.take_zero, occL]; exact HCL.out, by rw [List.take_zero, occL]; exact PRow_below HR.out (Ext.trans HX0.out HY2.out), HY2.out⟩
        case round =>
          obtain ⟨j, x, c, hj, rfl, rfl, hc, hr, hE⟩ := hrel
          have hEw := Ext.trans HX0.out hE
          have HE := Lib.hid hE
          obtain ⟨y0, y1, y2, y3⟩ := HBX.out wr hE
          by_cases hlt : j < ks.length
          rotate_left
          · obtain rfl : j = ks.length := by omega
            rw [List.take_length] at hc hr ⊢
            obtain ⟨Q, hQ⟩ : ∃ Q, addsP l (occL ks m) = Q := ⟨_, rfl⟩
            rw [hQ] at hc hr ⊢
            have HF : Hid (PwPost w (addsP l (occL ks m)) (.returned (.slice x Q.length c)) wr) := Lib.hid (by rw [hQ]; exact ⟨x, c, rfl, hc, hr, hEw⟩)
            clear hc hr hE hEw hQ
            go_wp2_with fail
            go_ret
            exact HF.out
          obtain ⟨b, o, rfl⟩ := Row_some (HROW.out wr hEw) (by omega)
          obtain ⟨d0, d1, d2, d3, f0, f1, f2, f3, hIk⟩ := Row_get (HROW.out wr hEw) j hlt
          have hst := sizes_take ks j hlt
          have hle := sizes_take_le ks (j + 1)
          have HC := Lib.hid (HIH.out ks[j] _ _ _ _ (addsP l (occL (ks.take j) m)) m (k0 + sizes (ks.take j)) x c wr (by omega) (by omega) HMM.out (HOK.out j) hr hc hIk)
          obtain ⟨ka, na, sa, za, la, ca, rfl, rfl, rfl, rfl⟩ := Is_form hIk
          have hQ : addsP (addsP l (occL (ks.take j) m)) (occT ks[j] m) = addsP l (occL (ks.take (j + 1)) m) := by rw [occL_take ks j hlt, addsP_app]
          rw [hQ] at HC
          obtain ⟨Q2, hQ2⟩ : ∃ Q2, addsP l (occL (ks.take (j + 1)) m) = Q2 := ⟨_, rfl⟩
          have HQ2 := Lib.hid hQ2
          rw [hQ2] at HC
          generalize addsP l (occL (ks.take j) m) = Q at HC ⊢
          have i1 : (0 : Int) ≤ (j : Int) := by omega
          have i2 : (j : Int) < (ks.length : Int) := by omega
          clear hc hr hE hEw hIk hst hle hQ hQ2
          go_wp2_with (go_at_call 48; refine (HC.out).mono ?_; rintro e w4 ⟨x4, c4, he, hc, hr, hB⟩; subst he; have hF1 : Ext wr w4 := hB; have HR4 := Lib.hid hr; have HC4 := Lib.hid hc; clear hc hr hB)
          all_goals (go_roundw)
          all_goals (first | exact ⟨j + 1, x4, c4, by omega, by go_num, by rw [HQ2.out], by rw [HQ2.out]; exact HC4.out, by rw [HQ2.out]; exact HR4.out, Ext.trans HE.out hF1⟩ | (simp [intOf]; omega))
end Go.Proofs.YtcieadjjcpmieaaGreat

/-
  THE REFERENCE'S arity.
-/
namespace Go.Proofs.YtcieadjjcpmieaaGreat
open Go.RowKit

set_option maxHeartbeats 1600000 in
set_option maxRecDepth 100000 in
theorem rarity_any (M : Nat) : ∀ (t : Tm) (c0 c1 c2 c3 : Value) (w : World), size t ≤ M → Is w t c0 c1 c2 c3 →
    Calls Tryz.prog 47 #[.agg #[c0, c1, c2, c3]] w fun e w' => e = .returned (.bool (arityT t)) ∧ Below w.heap.size w w' := by
  induction M with
  | zero => intro t c0 c1 c2 c3 w h; have := size_pos t; omega
  | succ M ih =>
    intro t c0 c1 c2 c3 w hM hI
    have HSP := Lib.hid (fun W (y : Ext w W) => special_any t c0 c1 c2 c3 W (Is_below (w' := W) hI y))
    obtain ⟨kk, n, s, ks⟩ := t
    have hss : size (.mk kk n s ks) = 1 + sizes ks := rfl
    rw [hss] at hM
    simp only [Is] at hI
    obtain ⟨rfl, rfl, rfl, _, _, _, hl, xa, capa, rfl, hcapa, hRk⟩ := hI
    unfold maxLen at hl
    have hb1 := heap_alloc_new w (.cells #[.int .i64 kk, .string n, .int .i64 s, .slice xa ks.length capa] 24)
    have hX0 : Ext w (w.alloc (.cells #[.int .i64 kk, .string n, .int .i64 s, .slice xa ks.length capa] 24)) := (Ext.refl w).alloc _
    have HX0 := Lib.hid hX0
    have HBX : Hid (∀ W, Ext (w.alloc (.cells #[.int .i64 kk, .string n, .int .i64 s, .slice xa ks.length capa] 24)) W → W.cell? ⟨w.heap.size, 0, none⟩ = some (.int .i64 kk) ∧ W.cell? ⟨w.heap.size, 1, none⟩ = some (.string n) ∧ W.cell? ⟨w.heap.size, 2, none⟩ = some (.int .i64 s) ∧ W.cell? ⟨w.heap.size, 3, none⟩ = some (.slice xa ks.length capa)) := fun W x => (box_facts ((x.block _ (by rw [World.size_alloc]; exact Nat.lt_succ_self _)).trans hb1)).1
    have HROW := Lib.hid (fun W (y : Ext w W) => Row_below (w' := W) hRk y)
    have HIH := Lib.hid ih
    have hdef : arityT (.mk kk n s ks) = if expo (.mk kk n s ks) = true then itsKids (.mk kk n s ks) && arityL ks else true := by rw [arityT]
    have hexd : expo (.mk kk n s ks) = (decide (kk = 3) && (n.toList == [109, 117, 108] || n.toList == [105, 110, 118] || n.toList == [111, 110, 101])) := rfl
    obtain ⟨R, hR⟩ : ∃ R, arityT (.mk kk n s ks) = R := ⟨_, rfl⟩
    rw [hR] at hdef ⊢
    clear ih hb1 hX0 hRk hss hR
    cases hx : expo (.mk kk n s ks) with
    | false =>
      rw [hx] at HSP
      rw [if_neg (by rw [hx]; simp)] at hdef
      subst hdef
      clear hx hexd
      go_enter Tryz.func47, Tryz.ntmps47
      go_wp2_with (go_at_call 88; refine (HSP.out _ HX0.out).mono ?_; rintro e w2 ⟨he, hB⟩; subst he; have HY2 := Lib.hid (Ext.trans HX0.out hB); clear hB)
      go_ret
      exact ⟨rfl, HY2.out⟩
    | true =>
      rw [hx] at HSP
      rw [if_pos hx] at hdef
      have HD := Lib.hid hdef
      clear hdef
      cases hm : (n.toList == [109, 117, 108]) with
      | true =>
        have q1 : (n.toList == [105, 110, 118]) = false := by rw [beq_iff_eq] at hm; rw [hm]; rfl
        have q2 : (n.toList == [111, 110, 101]) = false := by rw [beq_iff_eq] at hm; rw [hm]; rfl
        clear hx hexd
        by_cases hk : 2 ≤ ks.length
        · have hit : itsKids (.mk kk n s ks) = true := by simp_all [itsKids, Tm.name, Tm.kids] <;> exact decide_eq_false (by omega)
          have HRES : Hid (R = arityL ks) := by show _ = _; rw [HD.out, hit, Bool.true_and]
          have q5 : (2 : Int) ≤ (ks.length : Int) := by omega
          clear hk hit HD
          have HB := Lib.hid (And.intro q1 q2)
          go_enter Tryz.func47, Tryz.ntmps47
          go_wp2_with (go_at_call 88; refine (HSP.out _ HX0.out).mono ?_; rintro e w2 ⟨he, hB⟩; subst he; have HY2 := Lib.hid (show Ext _ w2 from hB); obtain ⟨e0, e1, e2, e3⟩ := HBX.out _ hB; clear hB)
          go_loopw [4] (fun i wr => ∃ j : Nat, j ≤ ks.length ∧ i = .int .i64 j ∧ arityL (ks.take j) = true ∧ Ext (w.alloc (.cells #[.int .i64 kk, .string n, .int .i64 s, .slice xa ks.length capa] 24)) wr) (fun i _ => ks.length - (intOf i).toNat)
          case atStart => exact ⟨0, Nat.zero_le _, rfl, by rw [List.take_zero, arityL], HY2.out⟩
          case round =>
            obtain ⟨j, hj, rfl, hA, hE⟩ := hrel
            have hEw := Ext.trans HX0.out hE
            have HE := Lib.hid hE
            have HEW := Lib.hid hEw
            obtain ⟨y0, y1, y2, y3⟩ := HBX.out wr hE
            by_cases hlt : j < ks.length
            rotate_left
            · obtain rfl : j = ks.length := by omega
              rw [List.take_length] at hA
              have H : Hid (R = true) := by show _ = _; rw [HRES.out, hA]
              clear hA hE hEw
              go_wp2_with fail
              go_ret
              exact ⟨by rw [H.out]; rfl, HEW.out⟩
            obtain ⟨b, o, rfl⟩ := Row_some (HROW.out wr hEw) (by omega)
            obtain ⟨d0, d1, d2, d3, f0, f1, f2, f3, hIk⟩ := Row_get (HROW.out wr hEw) j hlt
            have hst := sizes_take ks j hlt
            have hle := sizes_take_le ks (j + 1)
            have HC := Lib.hid (HIH.out ks[j] _ _ _ _ wr (by omega) hIk)
            obtain ⟨ka, na, sa, za, la, ca, rfl, rfl, rfl, rfl⟩ := Is_form hIk
            have htk := arityL_take ks j hlt
            have hmm := arityL_mem (ks := ks) hlt
            rw [hA] at htk
            have i1 : (0 : Int) ≤ (j : Int) := by omega
            have i2 : (j : Int) < (ks.length : Int) := by omega
            cases har : arityT ks[j] with
            | true =>
              rw [har] at HC htk
              have HTK := Lib.hid htk
              clear hE hEw hIk hst hle htk hmm har hA
              go_wp2_with (go_at_call 47; refine (HC.out).mono ?_; rintro e w4 ⟨he, hB⟩; subst he; have hF1 : Ext wr w4 := hB; clear hB)
              all_goals (go_roundw)
              all_goals (first | exact ⟨j + 1, by omega, by go_num, by rw [HTK.out]; rfl, Ext.trans HE.out hF1⟩ | (simp [intOf]; omega))
            | false =>
              rw [har] at HC
              have H : Hid (R = false) := by show _ = _; rw [HRES.out, hmm har]
              clear hE hEw hIk hst hle htk hmm har hA
              go_wp2_with (go_at_call 47; refine (HC.out).mono ?_; rintro e w4 ⟨he, hB⟩; subst he; have HF1 := Lib.hid (Ext.trans HEW.out hB); clear hB)
              go_ret
              exact ⟨by rw [H.out]; rfl, HF1.out⟩
        · have hit : itsKids (.mk kk n s ks) = false := by simp_all [itsKids, Tm.name, Tm.kids] <;> exact decide_eq_false (by omega)
          have HRES : Hid (R = false) := by show _ = _; rw [HD.out, hit, Bool.false_and]
          have q5 : (ks.length : Int) < 2 := by omega
          clear hk hit HD
          have HB := Lib.hid (And.intro q1 q2)
          go_enter Tryz.func47, Tryz.ntmps47
          go_wp2_with (go_at_call 88; refine (HSP.out _ HX0.out).mono ?_; rintro e w2 ⟨he, hB⟩; subst he; have HY2 := Lib.hid (show Ext _ w2 from hB); obtain ⟨e0, e1, e2, e3⟩ := HBX.out _ hB; clear hB)
          go_ret
          exact ⟨by rw [HRES.out]; rfl, Ext.trans HX0.out HY2.out⟩
      | false =>
        cases hi : (n.toList == [105, 110, 118]) with
        | true =>
          have q1 : (n.toList == [111, 110, 101]) = false := by rw [beq_iff_eq] at hi; rw [hi]; rfl
          have q2 : True := trivial
          clear hx hexd
          by_cases hk : ks.length = 1
          · have hit : itsKids (.mk kk n s ks) = true := by simp_all [itsKids, Tm.name, Tm.kids] <;> exact decide_eq_false (by omega)
            have HRES : Hid (R = arityL ks) := by show _ = _; rw [HD.out, hit, Bool.true_and]
            have q5 : ((ks.length : Int) != 1) = false := by rw [bne_eq_false_iff_eq]; omega
            clear hk hit HD
            have HB := Lib.hid (And.intro q1 q2)
            go_enter Tryz.func47, Tryz.ntmps47
            go_wp2_with (go_at_call 88; refine (HSP.out _ HX0.out).mono ?_; rintro e w2 ⟨he, hB⟩; subst he; have HY2 := Lib.hid (show Ext _ w2 from hB); obtain ⟨e0, e1, e2, e3⟩ := HBX.out _ hB; clear hB)
            go_loopw [4] (fun i wr => ∃ j : Nat, j ≤ ks.length ∧ i = .int .i64 j ∧ arityL (ks.take j) = true ∧ Ext (w.alloc (.cells #[.int .i64 kk, .string n, .int .i64 s, .slice xa ks.length capa] 24)) wr) (fun i _ => ks.length - (intOf i).toNat)
            case atStart => exact ⟨0, Nat.zero_le _, rfl, by rw [List.take_zero, arityL], HY2.out⟩
            case round =>
              obtain ⟨j, hj, rfl, hA, hE⟩ := hrel
              have hEw := Ext.trans HX0.out hE
              have HE := Lib.hid hE
              have HEW := Lib.hid hEw
              obtain ⟨y0, y1, y2, y3⟩ := HBX.out wr hE
              by_cases hlt : j < ks.length
              rotate_left
              · obtain rfl : j = ks.length := by omega
                rw [List.take_length] at hA
                have H : Hid (R = true) := by show _ = _; rw [HRES.out, hA]
                clear hA hE hEw
                go_wp2_with fail
                go_ret
                exact ⟨by rw [H.out]; rfl, HEW.out⟩
              obtain ⟨b, o, rfl⟩ := Row_some (HROW.out wr hEw) (by omega)
              obtain ⟨d0, d1, d2, d3, f0, f1, f2, f3, hIk⟩ := Row_get (HROW.out wr hEw) j hlt
              have hst := sizes_take ks j hlt
              have hle := sizes_take_le ks (j + 1)
              have HC := Lib.hid (HIH.out ks[j] _ _ _ _ wr (by omega) hIk)
              obtain ⟨ka, na, sa, za, la, ca, rfl, rfl, rfl, rfl⟩ := Is_form hIk
              have htk := arityL_take ks j hlt
              have hmm := arityL_mem (ks := ks) hlt
              rw [hA] at htk
              have i1 : (0 : Int) ≤ (j : Int) := by omega
              have i2 : (j : Int) < (ks.length : Int) := by omega
              cases har : arityT ks[j] with
              | true =>
                rw [har] at HC htk
                have HTK := Lib.hid htk
                clear hE hEw hIk hst hle htk hmm har hA
                go_wp2_with (go_at_call 47; refine (HC.out).mono ?_; rintro e w4 ⟨he, hB⟩; subst he; have hF1 : Ext wr w4 := hB; clear hB)
                all_goals (go_roundw)
                all_goals (first | exact ⟨j + 1, by omega, by go_num, by rw [HTK.out]; rfl, Ext.trans HE.out hF1⟩ | (simp [intOf]; omega))
              | false =>
                rw [har] at HC
                have H : Hid (R = false) := by show _ = _; rw [HRES.out, hmm har]
                clear hE hEw hIk hst hle htk hmm har hA
                go_wp2_with (go_at_call 47; refine (HC.out).mono ?_; rintro e w4 ⟨he, hB⟩; subst he; have HF1 := Lib.hid (Ext.trans HEW.out hB); clear hB)
                go_ret
                exact ⟨by rw [H.out]; rfl, HF1.out⟩
          · have hit : itsKids (.mk kk n s ks) = false := by simp_all [itsKids, Tm.name, Tm.kids] <;> exact decide_eq_false (by omega)
            have HRES : Hid (R = false) := by show _ = _; rw [HD.out, hit, Bool.false_and]
            have q5 : ((ks.length : Int) != 1) = true := by rw [bne_iff_ne]; omega
            clear hk hit HD
            have HB := Lib.hid (And.intro q1 q2)
            go_enter Tryz.func47, Tryz.ntmps47
            go_wp2_with (go_at_call 88; refine (HSP.out _ HX0.out).mono ?_; rintro e w2 ⟨he, hB⟩; subst he; have HY2 := Lib.hid (show Ext _ w2 from hB); obtain ⟨e0, e1, e2, e3⟩ := HBX.out _ hB; clear hB)
            go_ret
            exact ⟨by rw [HRES.out]; rfl, Ext.trans HX0.out HY2.out⟩
        | false =>
          have q1 : (n.toList == [111, 110, 101]) = true := by rw [hx, hm, hi] at hexd; simp only [Bool.false_or] at hexd; exact (Bool.and_eq_true_iff.1 hexd.symm).2
          have q2 : True := trivial
          clear hx hexd
          by_cases hk : ks.length = 0
          · have hit : itsKids (.mk kk n s ks) = true := by simp_all [itsKids, Tm.name, Tm.kids] <;> exact decide_eq_false (by omega)
            have HRES : Hid (R = arityL ks) := by show _ = _; rw [HD.out, hit, Bool.true_and]
            have q5 : ((ks.length : Int) != 0) = false := by rw [bne_eq_false_iff_eq]; omega
            clear hk hit HD
            have HB := Lib.hid (And.intro q1 q2)
            go_enter Tryz.func47, Tryz.ntmps47
            go_wp2_with (go_at_call 88; refine (HSP.out _ HX0.out).mono ?_; rintro e w2 ⟨he, hB⟩; subst he; have HY2 := Lib.hid (show Ext _ w2 from hB); obtain ⟨e0, e1, e2, e3⟩ := HBX.out _ hB; clear hB)
            go_loopw [4] (fun i wr => ∃ j : Nat, j ≤ ks.length ∧ i = .int .i64 j ∧ arityL (ks.take j) = true ∧ Ext (w.alloc (.cells #[.int .i64 kk, .string n, .int .i64 s, .slice xa ks.length capa] 24)) wr) (fun i _ => ks.length - (intOf i).toNat)
            case atStart => exact ⟨0, Nat.zero_le _, rfl, by rw [List.take_zero, arityL], HY2.out⟩
            case round =>
              obtain ⟨j, hj, rfl, hA, hE⟩ := hrel
              have hEw := Ext.trans HX0.out hE
              have HE := Lib.hid hE
              have HEW := Lib.hid hEw
              obtain ⟨y0, y1, y2, y3⟩ := HBX.out wr hE
              by_cases hlt : j < ks.length
              rotate_left
              · obtain rfl : j = ks.length := by omega
                rw [List.take_length] at hA
                have H : Hid (R = true) := by show _ = _; rw [HRES.out, hA]
                clear hA hE hEw
                go_wp2_with fail
                go_ret
                exact ⟨by rw [H.out]; rfl, HEW.out⟩
              obtain ⟨b, o, rfl⟩ := Row_some (HROW.out wr hEw) (by omega)
              obtain ⟨d0, d1, d2, d3, f0, f1, f2, f3, hIk⟩ := Row_get (HROW.out wr hEw) j hlt
              have hst := sizes_take ks j hlt
              have hle := sizes_take_le ks (j + 1)
              have HC := Lib.hid (HIH.out ks[j] _ _ _ _ wr (by omega) hIk)
              obtain ⟨ka, na, sa, za, la, ca, rfl, rfl, rfl, rfl⟩ := Is_form hIk
              have htk := arityL_take ks j hlt
              have hmm := arityL_mem (ks := ks) hlt
              rw [hA] at htk
              have i1 : (0 : Int) ≤ (j : Int) := by omega
              have i2 : (j : Int) < (ks.length : Int) := by omega
              cases har : arityT ks[j] with
              | true =>
                rw [har] at HC htk
                have HTK := Lib.hid htk
                clear hE hEw hIk hst hle htk hmm har hA
                go_wp2_with (go_at_call 47; refine (HC.out).mono ?_; rintro e w4 ⟨he, hB⟩; subst he; have hF1 : Ext wr w4 := hB; clear hB)
                all_goals (go_roundw)
                all_goals (first | exact ⟨j + 1, by omega, by go_num, by rw [HTK.out]; rfl, Ext.trans HE.out hF1⟩ | (simp [intOf]; omega))
              | false =>
                rw [har] at HC
                have H : Hid (R = false) := by show _ = _; rw [HRES.out, hmm har]
                clear hE hEw hIk hst hle htk hmm har hA
                go_wp2_with (go_at_call 47; refine (HC.out).mono ?_; rintro e w4 ⟨he, hB⟩; subst he; have HF1 := Lib.hid (Ext.trans HEW.out hB); clear hB)
                go_ret
                exact ⟨by rw [H.out]; rfl, HF1.out⟩
          · have hit : itsKids (.mk kk n s ks) = false := by simp_all [itsKids, Tm.name, Tm.kids] <;> exact decide_eq_false (by omega)
            have HRES : Hid (R = false) := by show _ = _; rw [HD.out, hit, Bool.false_and]
            have q5 : ((ks.length : Int) != 0) = true := by rw [bne_iff_ne]; omega
            clear hk hit HD
            have HB := Lib.hid (And.intro q1 q2)
            go_enter Tryz.func47, Tryz.ntmps47
            go_wp2_with (go_at_call 88; refine (HSP.out _ HX0.out).mono ?_; rintro e w2 ⟨he, hB⟩; subst he; have HY2 := Lib.hid (show Ext _ w2 from hB); obtain ⟨e0, e1, e2, e3⟩ := HBX.out _ hB; clear hB)
            go_ret
            exact ⟨by rw [HRES.out]; rfl, Ext.trans HX0.out HY2.out⟩
end Go.Proofs.YtcieadjjcpmieaaGreat

/-
  THE REFERENCE'S Of: the product of a term.
-/
namespace Go.Proofs.YtcieadjjcpmieaaGreat
open Go.RowKit

set_option maxHeartbeats 1600000 in
set_option maxRecDepth 100000 in
theorem rOf_any (t : Tm) (c0 c1 c2 c3 : Value) (w : World) (hM : size t ≤ 1048576) (hI : Is w t c0 c1 c2 c3) :
    Calls Tryz.prog 13 #[.agg #[c0, c1, c2, c3]] w (PePost w (ofP t)) := by
  have HV := Lib.hid (fun W (y : Ext w W) => rValid_any t c0 c1 c2 c3 W (by omega) (Is_below (w' := W) hI y))
  have HAR := Lib.hid (fun W (y : Ext w W) => rarity_any (size t) t c0 c1 c2 c3 W (Nat.le_refl _) (Is_below (w' := W) hI y))
  have HCO := Lib.hid (fun W (y : Ext w W) => rcollect_any (size t) t c0 c1 c2 c3 [] 1 0 none 0 W (Nat.le_refl _) (by omega) (Or.inl rfl) Okl_nil (Or.inl rfl) (Nat.le_refl _) (Is_below (w' := W) hI y))
  have HD : Hid (ofP t = if validE t = 0 then (if arityT t = true then (if 200 < (addsP [] (occT t 1)).length then ([], 3) else (addsP [] (occT t 1), 0)) else ([], 6)) else ([], validE t)) := rfl
  obtain ⟨ka, na, sa, xa, la, capa, rfl, rfl, rfl, rfl⟩ := Is_form hI
  have hb1 := heap_alloc_new w (.cells #[.int .i64 ka, .string na, .int .i64 sa, .slice xa la capa] 24)
  have hX0 : Ext w (w.alloc (.cells #[.int .i64 ka, .string na, .int .i64 sa, .slice xa la capa] 24)) := (Ext.refl w).alloc _
  have HX0 := Lib.hid hX0
  have HBX : Hid (∀ W, Ext (w.alloc (.cells #[.int .i64 ka, .string na, .int .i64 sa, .slice xa la capa] 24)) W → W.cell? ⟨w.heap.size, 0, none⟩ = some (.int .i64 ka) ∧ W.cell? ⟨w.heap.size, 1, none⟩ = some (.string na) ∧ W.cell? ⟨w.heap.size, 2, none⟩ = some (.int .i64 sa) ∧ W.cell? ⟨w.heap.size, 3, none⟩ = some (.slice xa la capa)) := fun W x => (box_facts ((x.block _ (by rw [World.size_alloc]; exact Nat.lt_succ_self _)).trans hb1)).1
  generalize ofP t = R at HD ⊢
  clear hI hb1 hX0
  by_cases hv : validE t = 0
  rotate_left
  · have HE : Hid (R = ([], validE t)) := by show _ = _; rw [HD.out, if_neg hv]
    generalize validE t = E at hv HV HE
    have q1 : (E != 0) = true := by rw [bne_iff_ne]; exact hv
    clear hv HD
    go_enter Tryz.func13, Tryz.ntmps13
    go_wp2_with (go_at_call 46; refine (HV.out _ HX0.out).mono ?_; rintro e w2 ⟨he, hB⟩; subst he; have HB1 : Hid (Ext w w2) := Ext.trans HX0.out hB; clear hB)
    exact bodyPost_ret (v := .tuple #[.slice none 0 0, .int .i64 E]) (by simp [results, Tryz.results13, go_sem]) rfl (PePost_err HE.out HB1.out)
  rw [hv] at HV
  have q0 : ((0 : Int) != 0) = false := rfl
  have HD2 : Hid (R = if arityT t = true then (if 200 < (addsP [] (occT t 1)).length then ([], 3) else (addsP [] (occT t 1), 0)) else ([], 6)) := by show _ = _; rw [HD.out, if_pos hv]
  cases ha : arityT t with
  | false =>
    rw [ha] at HAR
    have HE : Hid (R = ([], 6)) := by show _ = _; rw [HD2.out, ha]; rfl
    clear hv HD HD2 ha HCO
    go_enter Tryz.func13, Tryz.ntmps13
    go_wp2_with (first
      | (go_at_call 46; refine (HV.out _ HX0.out).mono ?_; rintro e w2 ⟨he, hB⟩; subst he; have HY2 := Lib.hid (show Ext _ w2 from hB); obtain ⟨e0, e1, e2, e3⟩ := HBX.out _ hB; clear hB)
      | (go_at_call 47; refine (HAR.out _ (Ext.trans HX0.out HY2.out)).mono ?_; rintro e w3 ⟨he, hB⟩; subst he; have HB3 : Hid (Ext w w3) := Ext.trans (Ext.trans HX0.out HY2.out) hB; clear hB))
    exact bodyPost_ret (v := .tuple #[.slice none 0 0, .int .i64 6]) (by simp [results, Tryz.results13, go_sem]) rfl (PePost_err HE.out HB3.out)
  | true =>
    rw [ha] at HAR
    have HD3 : Hid (R = if 200 < (addsP [] (occT t 1)).length then ([], 3) else (addsP [] (occT t 1), 0)) := by show _ = _; rw [HD2.out, if_pos ha]
    simp only [List.length_nil] at HCO
    generalize addsP [] (occT t 1) = Q at HD3 HCO
    clear hv HD HD2 ha
    by_cases h200 : 200 < Q.length
    · have HE : Hid (R = ([], 3)) := by show _ = _; rw [HD3.out, if_pos h200]
      have q2 : (200 : Int) < (Q.length : Int) := by omega
      clear h200 HD3
      go_enter Tryz.func13, Tryz.ntmps13
      go_wp2_with (first
        | (go_at_call 46; refine (HV.out _ HX0.out).mono ?_; rintro e w2 ⟨he, hB⟩; subst he; have HY2 := Lib.hid (show Ext _ w2 from hB); obtain ⟨e0, e1, e2, e3⟩ := HBX.out _ hB; clear hB)
        | (go_at_call 47; refine (HAR.out _ (Ext.trans HX0.out HY2.out)).mono ?_; rintro e w3 ⟨he, hB⟩; subst he; have HY3 := Lib.hid (show Ext _ w3 from Ext.trans HY2.out hB); obtain ⟨f0, f1, f2, f3⟩ := HBX.out _ HY3.out; clear hB)
        | (go_at_call 48; refine (HCO.out _ (Ext.trans HX0.out HY3.out)).mono ?_; rintro e w4 ⟨x4, c4, he, hc, hr, hB⟩; subst he; have HB4 : Hid (Ext w w4) := Ext.trans (Ext.trans HX0.out HY3.out) hB; clear hc hr hB))
      exact bodyPost_ret (v := .tuple #[.slice none 0 0, .int .i64 3]) (by simp [results, Tryz.results13, go_sem]) rfl (PePost_err HE.out HB4.out)
    · have HE : Hid (R = (Q, 0)) := by show _ = _; rw [HD3.out, if_neg h200]
      have q2 : (Q.length : Int) ≤ 200 := by omega
      clear h200 HD3
      go_enter Tryz.func13, Tryz.ntmps13
      go_wp2_with (first
        | (go_at_call 46; refine (HV.out _ HX0.out).mono ?_; rintro e w2 ⟨he, hB⟩; subst he; have HY2 := Lib.hid (show Ext _ w2 from hB); obtain ⟨e0, e1, e2, e3⟩ := HBX.out _ hB; clear hB)
        | (go_at_call 47; refine (HAR.out _ (Ext.trans HX0.out HY2.out)).mono ?_; rintro e w3 ⟨he, hB⟩; subst he; have HY3 := Lib.hid (show Ext _ w3 from Ext.trans HY2.out hB); obtain ⟨f0, f1, f2, f3⟩ := HBX.out _ HY3.out; clear hB)
        | (go_at_call 48; refine (HCO.out _ (Ext.trans HX0.out HY3.out)).mono ?_; rintro e w4 ⟨x4, c4, he, hc, hr, hB⟩; subst he; have HF : Hid (PePost w R (.returned (.tuple #[.slice x4 Q.length c4, .int .i64 0])) w4) := Lib.hid (by rw [HE.out]; exact ⟨x4, c4, rfl, hc, hr, Ext.trans (Ext.trans HX0.out HY3.out) hB⟩); clear hc hr hB))
      exact bodyPost_ret (v := .tuple #[.slice x4 Q.length c4, .int .i64 0]) (by simp [results, Tryz.results13, go_sem]) rfl HF.out
end Go.Proofs.YtcieadjjcpmieaaGreat

/-
  THE PRODUCT OF THE TERM OF A PRODUCT, on plain data.
-/
namespace Go.Proofs.YtcieadjjcpmieaaGreat
open Go.RowKit

theorem itsKids_mk (k : Int) (n : ByteArray) (s : Int) (ks : List Tm) : itsKids (.mk k n s ks) = if (n.toList == [109, 117, 108]) = true then decide (2 ≤ ks.length) else if (n.toList == [105, 110, 118]) = true then decide (ks.length = 1) else decide (ks.length = 0) := rfl
theorem isMul : ((⟨#[109, 117, 108]⟩ : ByteArray).toList == [109, 117, 108]) = true := by kernel_rfl
theorem invMul : ¬ ((⟨#[105, 110, 118]⟩ : ByteArray).toList == [109, 117, 108]) = true := Bool.eq_false_iff.1 (by kernel_rfl)
theorem isInv : ((⟨#[105, 110, 118]⟩ : ByteArray).toList == [105, 110, 118]) = true := by kernel_rfl
theorem oneMul : ¬ ((⟨#[111, 110, 101]⟩ : ByteArray).toList == [109, 117, 108]) = true := Bool.eq_false_iff.1 (by kernel_rfl)
theorem oneInv : ¬ ((⟨#[111, 110, 101]⟩ : ByteArray).toList == [105, 110, 118]) = true := Bool.eq_false_iff.1 (by kernel_rfl)
theorem valid_parts {t : Tm} (h : validE t = 0) : nodesE t = 0 ∧ size t ≤ 400 ∧ depth t ≤ 40 := by
  unfold validE at h
  by_cases h0 : nodesE t = 0
  · rw [if_pos h0] at h
    by_cases h1 : 400 < size t ∨ 40 < depth t
    · rw [if_pos h1] at h; exact absurd h (by decide)
    · exact ⟨h0, by omega, by omega⟩
  · rw [if_neg h0] at h; exact absurd h h0
theorem occL_app (m : Int) : ∀ a b : List Tm, occL (a ++ b) m = occL a m ++ occL b m
  | [], b => by simp [occL]
  | t :: a, b => by rw [List.cons_append, occL, occL, occL_app m a b, List.append_assoc]
theorem arityL_app : ∀ a b : List Tm, arityL (a ++ b) = (arityL a && arityL b)
  | [], b => by simp [arityL]
  | t :: a, b => by rw [List.cons_append, arityL, arityL, arityL_app a b, Bool.and_assoc]
theorem arityL_all : ∀ {l : List Tm}, (∀ t ∈ l, arityT t = true) → arityL l = true
  | [], _ => rfl
  | t :: l, h => by rw [arityL, h t (List.mem_cons_self ..), arityL_all (fun u hu => h u (List.mem_cons_of_mem _ hu))]; rfl
theorem nodesL_all : ∀ {l : List Tm}, (∀ t ∈ l, nodesE t = 0) → nodesL l = 0
  | [], _ => rfl
  | t :: l, h => by rw [nodesL, if_pos (h t (List.mem_cons_self ..)), nodesL_all (fun u hu => h u (List.mem_cons_of_mem _ hu))]
theorem occT_no {t : Tm} (h : expo t = false) (m : Int) : occT t m = [(t, m)] := by
  obtain ⟨k, n, s, ks⟩ := t
  rw [occT, h]; rfl
theorem arityT_no {t : Tm} (h : expo t = false) : arityT t = true := by
  obtain ⟨k, n, s, ks⟩ := t
  rw [arityT, h]; rfl
theorem occT_inv {t : Tm} (h : expo t = false) (m : Int) : occT (tInv t) m = [(t, -m)] := by
  have e : expo (tInv t) = true := by rw [tInv, expo_mk]; kernel_rfl
  rw [tInv] at e ⊢
  rw [occT, if_pos e, show ((⟨#[105, 110, 118]⟩ : ByteArray).toList == [105, 110, 118]) = true by kernel_rfl, if_pos rfl, occL, occL, occT_no h, List.append_nil]
theorem arityT_inv {t : Tm} (h : expo t = false) : arityT (tInv t) = true := by
  have e : expo (tInv t) = true := by rw [tInv, expo_mk]; kernel_rfl
  rw [tInv] at e ⊢
  rw [arityT, if_pos e, arityL, arityL, arityT_no h, Bool.and_true, Bool.and_true, itsKids_mk, if_neg invMul, if_pos isInv]
  rfl
theorem occL_rep {t u : Tm} {x m : Int} (h : occT t m = [(u, x)]) : ∀ n : Nat, occL (List.replicate n t) m = List.replicate n (u, x)
  | 0 => rfl
  | n + 1 => by rw [List.replicate_succ, List.replicate_succ, occL, h, occL_rep h n]; rfl
theorem pwr_rep (t u : Tm) (x : Int) : ∀ n : Nat, pwr (List.replicate n (t, x)) u = if cmpT t u = 0 then n * x else 0
  | 0 => by simp [pwr]
  | n + 1 => by
    rw [List.replicate_succ, pwr, pwr_rep t u x n]
    by_cases h : cmpT t u = 0
    · rw [if_pos h, if_pos h, if_pos h]; push_cast; rw [Int.add_mul]; omega
    · rw [if_neg h, if_neg h, if_neg h]; rfl
theorem pwr_ops (u : Tm) : ∀ {ps : List Pw}, (∀ p ∈ ps, expo p.1 = false) → pwr (occL (posO ps) 1) u + pwr (occL (negO ps) 1) u = pwr ps u
  | [], _ => rfl
  | p :: ps, h => by
    have ih := pwr_ops u (fun q hq => h q (List.mem_cons_of_mem _ hq))
    have hp := h p (List.mem_cons_self ..)
    have e1 : posO (p :: ps) = List.replicate p.2.toNat p.1 ++ posO ps := rfl
    have e2 : negO (p :: ps) = List.replicate (-p.2).toNat (tInv p.1) ++ negO ps := rfl
    rw [e1, e2, occL_app, occL_app, pwr_app, pwr_app, occL_rep (occT_no hp 1), occL_rep (occT_inv hp 1), pwr_rep, pwr_rep, pwr, ← ih]
    by_cases hc : cmpT p.1 u = 0
    · rw [if_pos hc, if_pos hc, if_pos hc]; omega
    · rw [if_neg hc, if_neg hc, if_neg hc]; omega
theorem occ_prod (l : List Tm) : occT (prodT l) 1 = occL l 1 := by
  match l with
  | [] => rw [prodT, occT, if_pos (by rw [expo_mk]; kernel_rfl), occL, occL]
  | [t] => rw [prodT, occL, occL, List.append_nil]
  | t :: u :: l =>
    rw [prodT, occT, if_pos (by rw [expo_mk]; kernel_rfl), show ((⟨#[109, 117, 108]⟩ : ByteArray).toList == [105, 110, 118]) = false by kernel_rfl]
    rfl
theorem arity_prod {l : List Tm} (h : arityL l = true) : arityT (prodT l) = true := by
  match l, h with
  | [], _ => rw [prodT, arityT, if_pos (by rw [expo_mk]; kernel_rfl), itsKids_mk, if_neg oneMul, if_neg oneInv]; rfl
  | [t], h => rw [arityL, arityL, Bool.and_true] at h; exact h
  | t :: u :: l, h =>
    rw [prodT, arityT, if_pos (by rw [expo_mk]; kernel_rfl), h, Bool.and_true, itsKids_mk, if_pos isMul, decide_eq_true (by simp)]
theorem nodes_prod {l : List Tm} (h8 : l.length ≤ 8) (h : ∀ t ∈ l, nodesE t = 0) : nodesE (prodT l) = 0 := by
  match l, h8, h with
  | [], _, _ => rfl
  | [t], _, h => exact h t (List.mem_cons_self ..)
  | t :: u :: l, h8, h =>
    have e : nodeE (.mk 3 ⟨#[109, 117, 108]⟩ 0 (t :: u :: l)) = 0 := by
      rw [nodeE, if_neg (by omega), if_neg (by omega), if_neg (by omega), if_neg (by omega), if_pos (by kernel_rfl), if_neg (by omega)]
    rw [prodT, nodesE, if_pos e, nodesL_all h]
theorem nodes_inv {t : Tm} (h : nodesE t = 0) : nodesE (tInv t) = 0 := by
  have e : nodeE (tInv t) = 0 := by
    rw [tInv, nodeE, if_neg (by omega), if_neg (by omega), if_neg (by omega), if_neg (by omega), if_pos (by kernel_rfl), if_neg (by simp)]
  rw [tInv] at e ⊢
  rw [nodesE, if_pos e, nodesL, if_pos h, nodesL]
theorem mem_posO {ps : List Pw} {t : Tm} (h : t ∈ posO ps) : ∃ p ∈ ps, t = p.1 := by
  obtain ⟨p, hp, h2⟩ := List.mem_flatMap.1 h
  exact ⟨p, hp, List.eq_of_mem_replicate h2⟩
theorem mem_negO {ps : List Pw} {t : Tm} (h : t ∈ negO ps) : ∃ p ∈ ps, t = tInv p.1 := by
  obtain ⟨p, hp, h2⟩ := List.mem_flatMap.1 h
  exact ⟨p, hp, List.eq_of_mem_replicate h2⟩
/-- What the product of a small term is like. -/
theorem ofP_ok {t : Tm} {l : List Pw} (h : ofP t = (l, 0)) : NormP l ∧ l.length ≤ 200 ∧ powE 1000 l = 0 := by
  unfold ofP at h
  by_cases hv : validE t = 0
  rotate_left
  · rw [if_neg hv] at h; exact absurd (congrArg Prod.snd h) hv
  rw [if_pos hv] at h
  by_cases ha : arityT t = true
  rotate_left
  · rw [if_neg ha] at h; exact absurd (show _ = (0 : Int) from congrArg Prod.snd h) (by decide)
  rw [if_pos ha] at h
  by_cases hl : 200 < (addsP [] (occT t 1)).length
  · rw [if_pos hl] at h; exact absurd (show _ = (0 : Int) from congrArg Prod.snd h) (by decide)
  rw [if_neg hl] at h
  have e : addsP [] (occT t 1) = l := congrArg Prod.fst h
  obtain ⟨hn, hs, hd⟩ := valid_parts hv
  have h1 := occT_one t 1 (Or.inl rfl)
  obtain ⟨b1, b2, b3⟩ := addsP_norm (occT t 1) normP_nil (fun p hp => by rcases (h1 p hp).1 with e | e <;> rw [e] <;> decide)
  rw [e] at b1 b2 b3 hl
  refine ⟨b1, by omega, powE_mk (by omega) (fun p hp => ?_) b1.1⟩
  have hab : p.2.natAbs ≤ 400 := by
    have c1 := norm_get b1 hp
    have c2 := pwr_abs (occT t 1) p.1
    have c3 := occT_len t 1
    rw [abs_ones (fun q hq => (h1 q hq).1)] at c2
    rw [b3, pwr] at c1
    omega
  rcases b2 p hp with ⟨q, hq, e⟩ | ⟨q, hq, _⟩
  · obtain ⟨_, g2, g3, g4, g5⟩ := h1 q hq
    refine pwE_mk ?_ (by rw [e]; exact g2) (b1.2 p hp) (by omega) (by omega)
    rw [e, validE, if_pos (g3 hn), if_neg (by omega)]
  · simp at hq
theorem ofP_back {t : Tm} {l : List Pw} (h : ofP t = (l, 0)) : ((termP l).2 = 0 → ofP (termP l).1 = (l, 0)) ∧ ((termP l).2 = 0 ∨ (termP l).2 = 3) := by
  obtain ⟨h1, h2, h3⟩ := ofP_ok h
  obtain ⟨_, h4, _⟩ := powE_ok h3
  have hx : ∀ p ∈ l, validE p.1 = 0 ∧ expo p.1 = false := fun p hp => ⟨(pwE_ok (h4 p hp)).1, (pwE_ok (h4 p hp)).2.1⟩
  unfold termP
  rw [if_pos h3]
  by_cases h8 : 8 < absS l
  · rw [if_pos h8]; exact ⟨fun h => absurd h (by decide), Or.inr rfl⟩
  rw [if_neg h8]
  have hlen : (posO l ++ negO l).length ≤ 8 := by rw [List.length_append, ops_len]; omega
  have hnn : nodesE (prodT (posO l ++ negO l)) = 0 := nodes_prod hlen (fun u hu => by
    rcases List.mem_append.1 hu with hu | hu
    · obtain ⟨p, hp, rfl⟩ := mem_posO hu; exact (valid_parts (hx p hp).1).1
    · obtain ⟨p, hp, rfl⟩ := mem_negO hu; exact nodes_inv (valid_parts (hx p hp).1).1)
  have haa : arityT (prodT (posO l ++ negO l)) = true := arity_prod (arityL_all (fun u hu => by
    rcases List.mem_append.1 hu with hu | hu
    · obtain ⟨p, hp, rfl⟩ := mem_posO hu; exact arityT_no (hx p hp).2
    · obtain ⟨p, hp, rfl⟩ := mem_negO hu; exact arityT_inv (hx p hp).2))
  by_cases hv : validE (prodT (posO l ++ negO l)) = 0
  · rw [if_pos hv]
    refine ⟨fun _ => ?_, Or.inl rfl⟩
    have e : addsP [] (occT (prodT (posO l ++ negO l)) 1) = l := by
      refine (gath_adds (fun p hp => ?_) h1 (fun u => ?_)).symm
      · rcases (occT_one _ 1 (Or.inl rfl) p hp).1 with e | e <;> rw [e] <;> decide
      · rw [occ_prod, occL_app, pwr_app, pwr_ops u (fun p hp => (hx p hp).2)]
    show ofP (prodT (posO l ++ negO l)) = (l, 0)
    unfold ofP
    rw [if_pos hv, if_pos haa, e, if_neg (by omega)]
  · rw [if_neg hv]
    refine ⟨fun h => absurd h hv, ?_⟩
    unfold validE at hv ⊢
    rw [if_pos hnn] at hv ⊢
    by_cases c : 400 < size (prodT (posO l ++ negO l)) ∨ 40 < depth (prodT (posO l ++ negO l))
    · rw [if_pos c]; exact Or.inr rfl
    · rw [if_neg c]; exact Or.inl rfl
end Go.Proofs.YtcieadjjcpmieaaGreat
