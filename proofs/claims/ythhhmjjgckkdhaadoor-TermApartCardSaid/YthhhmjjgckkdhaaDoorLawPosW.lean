/-
  THE WALKS OF the law TermPositions, the chapter's examples by hypothesis.
-/
import Derived.Test.YthhhmjjgckkdhaaDoorLawSizesW
import Derived.Test.YthhhmjjgckkdhaaDoorRpos
import Derived.Test.YthhhmjjgckkdhaaDoorSetof
import Derived.Test.YthhhmjjgckkdhaaDoorElems
import Derived.Test.YthhhmjjgckkdhaaDoorFind
import Derived.Test.YthhhmjjgckkdhaaDoorPure
import Derived.Deep.DeepCutAuto
namespace Go.Proofs.YthhhmjjgckkdhaaDoor
open Go.RowKit

def zs (p : List Nat) : List Int := p.map fun (i : Nat) => (i : Int)
theorem atT_cons {k s : Int} {n : ByteArray} {ks : List Tm} {i : Nat} (h : i < ks.length) (p : List Int) : atT (.mk k n s ks) ((i : Int) :: p) = atT ks[i] p := by
  exact atT_in (t := .mk k n s ks) (p := (i : Int) :: p) (j := 0) (y := i) (by simp) h rfl
/-- At each position stands the subterm of the same number. -/
theorem posT_at (t : Tm) : (posT [] t).map (fun p => atT t (zs p)) = (subT t).map some := by
  refine Tm.rec (motive_1 := fun t => (posT [] t).map (fun p => atT t (zs p)) = (subT t).map some)
    (motive_2 := fun ts => ∀ (k s : Int) (n : ByteArray) (pre : List Tm), (posL [] pre.length ts).map (fun p => atT (.mk k n s (pre ++ ts)) (zs p)) = (subL ts).map some) ?_ ?_ ?_ t
  · intro k n s ks ih
    simp only [posT, subT, List.map_cons]
    have := ih k s n []
    simp only [List.length_nil, List.nil_append] at this
    rw [this]; rfl
  · intro k s n pre; rfl
  · intro t ts h1 h2 k s n pre
    simp only [posL, subL, List.map_append]
    have e := h2 k s n (pre ++ [t])
    rw [List.length_append, List.length_singleton, List.append_assoc] at e
    simp only [List.singleton_append] at e
    rw [e, List.nil_append, posT_one, List.map_map, ← h1]
    congr 1
    apply List.map_congr_left
    intro p _
    have hi : pre.length < (pre ++ t :: ts).length := by simp
    have := atT_cons (k := k) (s := s) (n := n) hi (zs p)
    simp only [Function.comp]
    show atT _ ((pre.length : Int) :: zs p) = _
    rw [this]
    congr 1
    simp
theorem posT_at_get (t : Tm) (j : Nat) (h : j < (posT [] t).length) (h2 : j < (subT t).length) : atT t (zs (posT [] t)[j]) = some (subT t)[j] := by
  have := congrArg (·[j]?) (posT_at t)
  simp only [List.getElem?_map, List.getElem?_eq_getElem h, List.getElem?_eq_getElem h2, Option.map_some, Option.some.injEq] at this
  exact this

theorem IntsV_of_row {w : World} {v : Value} {p : List Nat} (h : IntRow w v p) (hl : p.length ≤ maxLen) (hb : ∀ x ∈ p, x ≤ 9223372036854775807) : IntsV w v (zs p) := by
  obtain ⟨xa, cap, e, hc⟩ := h
  refine ⟨xa, cap, by rw [e]; simp [zs], by simpa [zs] using hl, fun x hx => ?_, fun hp => ?_⟩
  · simp only [zs, List.mem_map] at hx
    obtain ⟨y, hy, rfl⟩ := hx
    have := hb y hy; omega
  · have hp' : 0 < p.length := by simpa [zs] using hp
    obtain ⟨b, o, e2, hc⟩ := hc hp'
    refine ⟨b, o, e2, fun i hi => ?_⟩
    have hi' : i < p.length := by simpa [zs] using hi
    rw [hc i hi']
    simp [zs]
theorem posT_small (t : Tm) : ∀ path, ∀ p ∈ posT path t, ∀ x ∈ p, x ∈ path ∨ x < size t := by
  refine Tm.rec (motive_1 := fun t => ∀ path, ∀ p ∈ posT path t, ∀ x ∈ p, x ∈ path ∨ x < size t) (motive_2 := fun ts => ∀ path i, ∀ p ∈ posL path i ts, ∀ x ∈ p, x ∈ path ∨ x < i + sizes ts) ?_ ?_ ?_ t
  · intro k n s ks ih path p hp x hx
    simp only [posT, List.mem_cons] at hp
    simp only [size]
    rcases hp with rfl | hp
    · exact Or.inl hx
    · rcases ih path 0 p hp x hx with h | h
      · exact Or.inl h
      · right; omega
  · intro path i p hp; simp [posL] at hp
  · intro t ts h1 h2 path i p hp x hx
    simp only [posL, List.mem_append] at hp
    simp only [sizes]
    have := size_pos t
    rcases hp with hp | hp
    · rcases h1 (path ++ [i]) p hp x hx with h | h
      · simp only [List.mem_append, List.mem_singleton] at h
        rcases h with h | h
        · exact Or.inl h
        · right; omega
      · right; omega
    · rcases h2 path (i + 1) p hp x hx with h | h
      · exact Or.inl h
      · right; omega

/-- A slice of positions that lies: each element a row of numbers. -/
def PosV (w : World) (ps : List (List Nat)) (g : Nat) : Prop := ∀ j (h : j < ps.length), ∃ xa cap, w.cell? ⟨g, j, none⟩ = some (.slice xa ps[j].length cap) ∧ IntRow w (.slice xa ps[j].length cap) ps[j]
theorem PosV_ext {w w' : World} {ps : List (List Nat)} {g : Nat} (h : PosV w ps g) (hB : Ext w w') : PosV w' ps g := fun j hj => by
  obtain ⟨xa, cap, h1, h2⟩ := h j hj
  exact ⟨xa, cap, keep_below hB _ _ h1, IntRow_below h2 hB⟩
theorem PosV_of_PL {S : Nat → Prop} {w : World} {base n g cap : Nat} {ps : List (List Nat)} {vs : List Value} (ho : w.ownsRow base 46 1 (.slice (some ⟨g, 0, none⟩) n cap) n vs) (hn : n = ps.length) (h : PL S w ps vs) : PosV w ps g := fun j hj => by
  have hg : ∀ {ps : List (List Nat)} {vs : List Value} (_ : PL S w ps vs) (j : Nat) (hj : j < ps.length), ∃ v, vs[j]? = some v ∧ PV S w ps[j] v := by
    intro ps
    induction ps with
    | nil => intro vs _ j hj; simp at hj
    | cons p ps ih =>
      intro vs h j hj
      obtain ⟨v, r, rfl, hv, hr⟩ := h
      cases j with
      | zero => exact ⟨v, rfl, hv⟩
      | succ j =>
        obtain ⟨u, h1, h2⟩ := ih hr j (by simpa using hj)
        exact ⟨u, by simpa using h1, by simpa using h2⟩
  obtain ⟨v, h1, h2⟩ := hg h j hj
  have hr := IntRow_of_own h2.1
  obtain ⟨xa, c, e, _⟩ := id hr
  subst e
  exact ⟨xa, c, by rw [ho.cellAt j (by omega)]; exact h1, hr⟩
theorem PosV_of_RP {H n g cap : Nat} {w : World} {ps : List (List Nat)} {vs : List Value} {F : Nat → Prop} (h : RP H w n ps (.slice (some ⟨g, 0, none⟩) n cap) vs F) : PosV w ps g := fun j hj => by
  obtain ⟨v, h1, gq, c, rfl, hF, ho⟩ := PWL_get h.pl j hj
  exact ⟨_, c, by rw [h.own.cellAt j (by have := h.len; omega)]; exact h1, IntRow_of_own ho⟩

theorem Lies_put4 {w : World} {H : Nat} {z0 z1 z2 z3 c0 c1 c2 c3 : Value} {T : TypeId} {t : Tm} {S : Nat → Prop} (hb : w.heap[H]? = some (.cells #[z0, z1, z2, z3] T (0, 0))) (hI : IsIn S w t c0 c1 c2 c3) (hS : ∀ b, S b → b ≠ H) : Lies (put4 w H 0 c0 c1 c2 c3) t H 0 := by
  have ho : w.ownsRow 0 T 4 (.slice (some ⟨H, 0, none⟩) (0 + 1) 1) (0 + 1) ([] ++ [z0, z1, z2, z3]) := ⟨rfl, Or.inr ⟨H, 1, #[z0, z1, z2, z3], rfl, Nat.zero_le _, hb, Nat.le_refl _, by simp [maxLen], rfl, rfl⟩⟩
  have h2 := put4_owns (c0 := c0) (c1 := c1) (c2 := c2) (c3 := c3) ho rfl rfl
  have hc := fun j u hu => h2.cells (g := H) rfl j u hu
  simp only [add_plain, Nat.zero_add, Nat.zero_mul, List.nil_append] at hc
  exact ⟨c0, c1, c2, c3, hc 0 _ rfl, hc 1 _ rfl, hc 2 _ rfl, hc 3 _ rfl, IsIn_Is _ _ _ _ _ (IsIn_carry (fun b hb' => put4_other _ _ _ _ _ _ _ _ (hS b hb')) (fun _ h => h) _ _ _ _ _ hI)⟩

theorem box_ext {w W : World} {c0 c1 c2 c3 : Value} (h : Ext (w.alloc (.cells #[c0, c1, c2, c3] 24)) W) : W.cell? ⟨w.heap.size, 0, none⟩ = some c0 ∧ W.cell? ⟨w.heap.size, 1, none⟩ = some c1 ∧ W.cell? ⟨w.heap.size, 2, none⟩ = some c2 ∧ W.cell? ⟨w.heap.size, 3, none⟩ = some c3 :=
  box_kept (T := 24) (h.mono (by simp))

set_option maxHeartbeats 3200000 in
set_option maxRecDepth 100000 in
theorem positions_small (HA : Hid AwakeOk) (t : Tm) (c0 c1 c2 c3 : Value) (w : World) (hL : Laid w) (hI : Is w t c0 c1 c2 c3) (h1 : few [t] 1 450 = true) (h2 : ((depth t : Nat) : Int) ≤ 60) :
    Calls Tryd.prog 8 #[.agg #[c0, c1, c2, c3]] w fun e w' => e = .returned (.bool true) ∧ Below w.heap.size w w' := by
  have hsz := one_size h1
  have H1 := Lib.hid h1
  have HL := Lib.hid hL
  have HI := Lib.hid hI
  have HX : Hid (Ext w (w.alloc (.cells #[c0, c1, c2, c3] 24))) := (Ext.refl w).alloc _
  have HX0 : Hid (Ext (w.alloc (.cells #[c0, c1, c2, c3] 24)) (w.alloc (.cells #[c0, c1, c2, c3] 24))) := Ext.refl _
  have HIX : Hid (∀ W, Ext (w.alloc (.cells #[c0, c1, c2, c3] 24)) W → Is W t c0 c1 c2 c3) := fun W h => Is_below (Is_alloc hI _) h
  have HC : Hid (∀ W, Ext (w.alloc (.cells #[c0, c1, c2, c3] 24)) W → W.cell? ⟨w.heap.size, 0, none⟩ = some c0 ∧ W.cell? ⟨w.heap.size, 1, none⟩ = some c1 ∧ W.cell? ⟨w.heap.size, 2, none⟩ = some c2 ∧ W.cell? ⟨w.heap.size, 3, none⟩ = some c3) := fun W h => box_ext h
  clear h1 hL hI
  go_enter Tryd.func8, Tryd.ntmps8
  go_wp2_with (first
    | (go_at_call 11; refine (HA.out _ ?_).mono ?_; (exact Laid_ext HL.out HX.out); rintro e w1 ⟨he, hB1⟩; subst he; have HB1 := Lib.hid (Ext.trans HX0.out hB1); obtain ⟨b0, b1, b2, b3⟩ := HC.out _ HB1.out; clear hB1)
    | (go_at_call 12; refine (one_any t _ _ _ _ _ (HIX.out _ HB1.out)).mono ?_; rintro e w2 ⟨he, hB2⟩; rw [H1.out] at he; subst he; have HB2 := Lib.hid (Ext.trans HB1.out hB2); obtain ⟨d0, d1, d2, d3⟩ := HC.out _ HB2.out; clear hB2 b0 b1 b2 b3)
    | (go_at_call 23; refine (rdepth_any _ t _ _ _ _ _ (Nat.le_refl _) (by omega) (HIX.out _ HB2.out)).mono ?_; rintro e w3 ⟨he, hB3⟩; subst he; have HB3 := Lib.hid (Ext.trans HB2.out hB3); clear hB3 d0 d1 d2 d3))
  have hE0 : Ext (w.alloc (.cells #[c0, c1, c2, c3] 24)) w3.drew := HB3.out.drew
  go_region_held3 (fun W => W.cell? ⟨w.heap.size, 0, none⟩ = some c0 ∧ W.cell? ⟨w.heap.size, 1, none⟩ = some c1 ∧ W.cell? ⟨w.heap.size, 2, none⟩ = some c2 ∧ W.cell? ⟨w.heap.size, 3, none⟩ = some c3)
    (first | exact HC.out _ (by assumption) | go_keep)
    (first
      | (go_at_call 34; refine (Positions_any t _ _ _ _ _ (by omega) (HIX.out _ hE0)).mono ?_; rintro e w4 ⟨v4, vs4, F4, he, ho4, hp4, hB⟩; subst he; obtain ⟨g4, cap4, hv4⟩ := own_form_pos ho4 (by rw [posT_length]; exact size_pos t); subst hv4; have HP4 := Lib.hid (PosV_of_PL ho4 rfl hp4); have hE1 := Ext.trans hE0 hB; clear hB ho4 hp4)
      | (go_at_call 35; refine (rpositions_any _ t _ _ _ _ _ (Nat.le_refl _) (by omega) (HIX.out _ hE1)).mono ?_; rintro e w5 ⟨v5, vs5, F5, he, hp5, hB⟩; subst he; obtain ⟨g5, cap5, hv5⟩ := own_form_pos hp5.own (size_pos t); subst hv5; have HP5 := Lib.hid (PosV_of_RP hp5); have HP45 := Lib.hid (PosV_ext HP4.out hB); have hE2 := Ext.trans hE1 hB; clear hB hp5))
  have HE2 := Lib.hid hE2
  obtain ⟨d0, d1, d2, d3⟩ := HC.out _ hE2
  have hpl := posT_length t []
  have HPL := Lib.hid hpl
  rw [hpl]
  clear hE0 hE1 hE2 hpl
  go_wp2_with (go_at_call 36; refine (rall_any _ t _ _ _ _ w5.heap.size _ (Nat.le_refl _) (by omega) (Nat.le_refl _) (Is_IsIn _ _ _ _ _ (HIX.out _ HE2.out))).mono ?_; rintro e w6 ⟨v6, he, hA6, hB⟩; subst he; obtain ⟨xa6, cap6, hv6, _, _, hR6⟩ := Elems_row hA6; rw [subT_len] at hv6; subst hv6; have HR6 := Lib.hid hR6; have HB6 := Lib.hid (Ext.trans HE2.out hB); have HQ4 := Lib.hid (PosV_ext HP45.out hB); have HQ5 := Lib.hid (PosV_ext HP5.out hB); clear hB hA6 hR6 d0 d1 d2 d3)
  go_loopw [35] (fun i wr => ∃ j : Nat, j ≤ size t ∧ i = .int .i64 j ∧ Ext w6 wr) (fun i _ => size t - (intOf i).toNat)
  case atStart => exact ⟨0, Nat.zero_le _, rfl, Ext.refl _⟩
  case round =>
    obtain ⟨j, hj, rfl, hE⟩ := hrel
    have HE := Lib.hid hE
    by_cases hlt : j < size t
    rotate_left
    · clear hE
      go_wp2_with fail
      go_ret
      exact ⟨rfl, Ext.trans (a := w) HX.out (Ext.trans HB6.out HE.out)⟩
    have hj1 : j < (posT [] t).length := by rw [HPL.out]; exact hlt
    have hj2 : j < (subT t).length := by rw [subT_len]; exact hlt
    obtain ⟨xp, cp, hc4, hr4⟩ := PosV_ext HQ4.out hE j hj1
    obtain ⟨xq, cq, hc5, hr5⟩ := PosV_ext HQ5.out hE j hj1
    obtain ⟨ab, ao, rfl⟩ := Row_at HR6.out (by omega)
    obtain ⟨y0, y1, y2, y3, m0, m1, m2, m3, hKI⟩ := Row_get (Row_below HR6.out hE) j hj2
    have hat := posT_at_get t j hj1 hj2
    have hbd := posT_bound t [] _ (List.getElem_mem hj1)
    have hsm := posT_small t [] _ (List.getElem_mem hj1)
    have hus := subT_size t _ (List.getElem_mem hj2)
    obtain ⟨p, hp⟩ : ∃ p, (posT [] t)[j] = p := ⟨_, rfl⟩
    obtain ⟨u, hu⟩ : ∃ u, (subT t)[j] = u := ⟨_, rfl⟩
    rw [hp] at hc4 hr4 hc5 hr5 hat hbd hsm
    rw [hu] at hKI hat hus
    simp only [List.length_nil, Nat.zero_add] at hbd
    have HAT := Lib.hid hat
    have HR4 := Lib.hid hr4
    have HR5 := Lib.hid hr5
    have HKI := Lib.hid hKI
    have HIV := Lib.hid (IntsV_of_row hr4 (by unfold maxLen; omega) (fun x hx => by
      rcases hsm x hx with h | h
      · simp at h
      · omega))
    have HEr := Lib.hid (Ext.trans HB6.out hE)
    have HCr : Hid (∀ W, Ext wr W → W.cell? ⟨w.heap.size, 0, none⟩ = some c0 ∧ W.cell? ⟨w.heap.size, 1, none⟩ = some c1 ∧ W.cell? ⟨w.heap.size, 2, none⟩ = some c2 ∧ W.cell? ⟨w.heap.size, 3, none⟩ = some c3 ∧ W.cell? ⟨g4, j, none⟩ = some (.slice xp p.length cp)) := fun W h => by
      obtain ⟨z0, z1, z2, z3⟩ := HC.out W (Ext.trans HEr.out h)
      exact ⟨z0, z1, z2, z3, keep_below h _ _ hc4⟩
    have i1 : (0 : Int) ≤ (j : Int) := by omega
    have i2 : (j : Int) < (size t : Int) := by omega
    have hF0 : Ext wr wr.drew := (Ext.refl wr).drew
    clear hE hr4 hr5 hKI hat hsm hp hu
    go_upto_region 10 with (fail)
    go_cut [7, 8] (fun v7 v8 wc => ∃ B, v7 = .pointer (some ⟨B, 0, none⟩) ∧ v8 = .int .i64 0 ∧ Lies wc u B 0 ∧ Ext wr wc)
    case first =>
      go_region_held3 (fun W => W.cell? ⟨w.heap.size, 0, none⟩ = some c0 ∧ W.cell? ⟨w.heap.size, 1, none⟩ = some c1 ∧ W.cell? ⟨w.heap.size, 2, none⟩ = some c2 ∧ W.cell? ⟨w.heap.size, 3, none⟩ = some c3 ∧ W.cell? ⟨g4, j, none⟩ = some (.slice xp p.length cp))
        (first | exact HCr.out _ (by assumption) | exact HCr.out _ (Ext.alloc (by assumption) _) | exact HCr.out _ (Ext.drew (Ext.alloc (Ext.refl wr) _)) | (have r2 := put4_below (w' := w7) (g := wr.heap.size) (o := 0) (c0 := .int .i64 k') (c1 := .string n') (c2 := .int .i64 s') (c3 := .slice x' l' c') hF1 (Nat.le_refl _); simp only [put4, Nat.zero_add] at r2; exact HCr.out _ r2) | go_keep)
        (first
          | (go_at_call 37; refine (At_any t (zs p) _ _ _ _ _ _ (by omega) ?_ ?_).mono ?_; (exact HIX.out _ (Ext.trans HEr.out (by first | exact hF0 | exact Ext.drew (Ext.alloc (Ext.refl wr) _)))); (exact IntsV_below HIV.out (by first | exact hF0 | exact Ext.drew (Ext.alloc (Ext.refl wr) _))); rw [HAT.out]; rintro e w7 ⟨hB, f0, f1, f2, f3, he, hJ⟩; subst he; obtain ⟨k', n', s', x', l', c', e0, e1, e2, e3⟩ := IsIn_form hJ; subst e0 e1 e2 e3; have HJ := Lib.hid hJ; have hF1 : Ext wr w7 := Ext.trans (by first | exact hF0 | exact Ext.drew (Ext.alloc (Ext.refl wr) _)) hB; (first | (have HZ := Lib.hid ((hB.block wr.heap.size (by simp)).trans (heap_alloc_new wr _)); have hz := box_facts (w := w7) (b := wr.heap.size) HZ.out; obtain ⟨⟨z0, z1, z2, z3⟩, zf0, zf1, zf2, zf3⟩ := hz) | skip); clear hB hJ))
      all_goals go_wp2_with fail
      all_goals go_meet
      all_goals first
        | (have r := Lies_put4 HZ.out HJ.out (fun b hb => by have := hb.1; simp at this; omega)
           have r2 := put4_below (w' := w7) (g := wr.heap.size) (o := 0) (c0 := .int .i64 k') (c1 := .string n') (c2 := .int .i64 s') (c3 := .slice x' l' c') hF1 (Nat.le_refl _)
           simp only [put4, Nat.zero_add] at r r2
           exact ⟨wr.heap.size, rfl, rfl, r, r2⟩)
        | exact ⟨w7.heap.size, rfl, rfl, Lies_box (IsIn_Is _ _ _ _ _ HJ.out) _, hF1.alloc _⟩
    case rest =>
      obtain ⟨B, rfl, rfl, hLu, hEx⟩ := hcut
      obtain ⟨ku, nu, su, xu, lu, cu, f0, f1, f2, f3, hJu⟩ := Lies_cells hLu
      have HJu := Lib.hid hJu
      have HEx := Lib.hid hEx
      have q4 := keep_below hEx _ _ hc4
      have q5 := keep_below hEx _ _ hc5
      have n0 := keep_below hEx _ _ m0
      have n1 := keep_below hEx _ _ m1
      have n2 := keep_below hEx _ _ m2
      have n3 := keep_below hEx _ _ m3
      have HCx : Hid (∀ W, Ext wc W → W.cell? ⟨g4, j, none⟩ = some (.slice xp p.length cp) ∧ W.cell? ⟨g5, j, none⟩ = some (.slice xq p.length cq) ∧ W.cell? ⟨B, 0, none⟩ = some (.int .i64 ku) ∧ W.cell? ⟨B, 1, none⟩ = some (.string nu) ∧ W.cell? ⟨B, 2, none⟩ = some (.int .i64 su) ∧ W.cell? ⟨B, 3, none⟩ = some (.slice xu lu cu) ∧
          W.cell? ⟨ab, ao + j * 4, none⟩ = some y0 ∧ W.cell? ⟨ab, ao + j * 4 + 1, none⟩ = some y1 ∧ W.cell? ⟨ab, ao + j * 4 + 2, none⟩ = some y2 ∧ W.cell? ⟨ab, ao + j * 4 + 3, none⟩ = some y3) := fun W h =>
        ⟨keep_below h _ _ q4, keep_below h _ _ q5, keep_below h _ _ f0, keep_below h _ _ f1, keep_below h _ _ f2, keep_below h _ _ f3, keep_below h _ _ n0, keep_below h _ _ n1, keep_below h _ _ n2, keep_below h _ _ n3⟩
      have hG0 : Ext wc wc.drew := (Ext.refl wc).drew
      have hself : (p == p) = true := by simp
      have HSF := Lib.hid hself
      have hcs : (cmpT u u == 0) = true := by rw [cmpT_self]; rfl
      have HCS := Lib.hid hcs
      clear hLu hJu hEx q4 q5 f0 f1 f2 f3 n0 n1 n2 n3 hself hcs hc4 hc5 m0 m1 m2 m3
      go_upto_region 11 with (fail)
      go_region_held3 (fun W => W.cell? ⟨g4, j, none⟩ = some (.slice xp p.length cp) ∧ W.cell? ⟨g5, j, none⟩ = some (.slice xq p.length cq) ∧ W.cell? ⟨B, 0, none⟩ = some (.int .i64 ku) ∧ W.cell? ⟨B, 1, none⟩ = some (.string nu) ∧ W.cell? ⟨B, 2, none⟩ = some (.int .i64 su) ∧ W.cell? ⟨B, 3, none⟩ = some (.slice xu lu cu) ∧
          W.cell? ⟨ab, ao + j * 4, none⟩ = some y0 ∧ W.cell? ⟨ab, ao + j * 4 + 1, none⟩ = some y1 ∧ W.cell? ⟨ab, ao + j * 4 + 2, none⟩ = some y2 ∧ W.cell? ⟨ab, ao + j * 4 + 3, none⟩ = some y3)
        (first | exact HCx.out _ (by assumption) | go_keep)
        (first
          | (go_at_call 38; refine (equal_any p p _ _ _ (IntRow_below HR4.out (Ext.trans HEx.out hG0)) (IntRow_below HR5.out (Ext.trans HEx.out hG0)) (by omega) (by omega)).mono ?_; rw [HSF.out]; rintro e w8 ⟨he, hB⟩; subst he; have hG1 : Ext wc w8 := hG0.trans hB; clear hB)
          | (go_at_call 18; refine (same_any u u _ _ _ _ _ _ _ _ _ (by omega) (by omega) (Is_below HJu.out hG1) (Is_below HKI.out (Ext.trans HEx.out hG1))).mono ?_; rw [HCS.out]; rintro e w9 ⟨he, hB⟩; subst he; have hG2 : Ext wc w9 := hG1.trans hB; clear hB))
      go_wp2_with fail
      go_roundw
      case rel => exact ⟨j + 1, by omega, by go_num, Ext.trans HE.out (Ext.trans HEx.out hG2)⟩
      case measure => simp [intOf]; omega

end Go.Proofs.YthhhmjjgckkdhaaDoor
