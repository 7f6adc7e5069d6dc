/-
  THE WALK OF columnsOf: all summands of some terms, ascending, each once.
-/
import Derived.Test.YtfbomoginjknlaaDoorQcmp
import Derived.Test.YtfbomoginjknlaaDoorQgf
namespace Go.Proofs.YtfbomoginjknlaaDoor
open Go.RowKit Go.Lib

def SoTPost (H : Nat) (S : Nat → Prop) (w : World) (v : Value) (ps : List Tm) (e : Ending) (w' : World) : Prop :=
  e = .returned (.tuple #[]) ∧ ∃ ps', OwnT H S w' ps' v ∧ ps'.Perm ps ∧ AscQ ps' ∧ Below H w w' ∧ w.heap.size ≤ w'.heap.size
theorem sortT_any {H : Nat} {S : Nat → Prop} {ps : List Tm} {v : Value} {w : World} (hown : OwnT H S w ps v) (hS : ∀ b, S b → b < H) (hHw : H ≤ w.heap.size) (hsz : ∀ t ∈ ps, size t ≤ 1073741824) (hlt : ps.length < 1073741824) :
    Calls Tryd.prog 77 #[v, .func (.func 69) #[] #[]] w (SoTPost H S w v ps) := by
  by_cases h0 : ps.length = 0
  · have hn : ps = [] := List.length_eq_zero_iff.1 h0
    subst hn
    obtain ⟨xa, cap, rfl⟩ := OwnT_form hown
    refine (AnyF.slices_SortFunc_none Tryd.sortTerms xa cap (.func (.func 69) #[] #[]) w).mono fun e w' h => ?_
    obtain ⟨rfl, rfl⟩ := h
    exact ⟨rfl, [], hown, List.Perm.refl _, List.Pairwise.nil, Below.refl _ _, Nat.le_refl _⟩
  · obtain ⟨cs, ho, hK⟩ := id hown
    rcases id ho.2 with ⟨rfl, e⟩ | ⟨g, cap, _, rfl, hg, _, hcap, _⟩
    · exact absurd e h0
    · have hgl := (ho.lt g rfl).2
      refine (sort_terms ho hK (fun b hb => ⟨by have := hS b hb; omega, by have := hS b hb; omega⟩) hHw (by omega) hsz hlt).mono fun e w' h => ?_
      obtain ⟨rfl, ps', vs', h1, h2, h3, h4, h5, h6, _⟩ := h
      exact ⟨rfl, ps', ⟨vs', by rw [h3.length_eq]; exact h1, h2⟩, h3, h4, h5, h6⟩
def CoTPost (H : Nat) (S : Nat → Prop) (w : World) (ps : List Tm) (e : Ending) (w' : World) : Prop :=
  ∃ xa cap, e = .returned (.slice xa (uniqT ps).length cap) ∧ OwnT H S w' (uniqT ps) (.slice xa (uniqT ps).length cap) ∧ Below H w w' ∧ w.heap.size ≤ w'.heap.size
set_option maxHeartbeats 1600000 in
set_option maxRecDepth 100000 in
theorem compactT_zero (xa : Option Addr) (cap : Nat) (w : World) :
    Calls Tryd.prog 80 #[.slice xa 0 cap, .func (.func 45) #[] #[]] w fun e w' => e = .returned (.slice xa 0 cap) ∧ w' = w := by
  go_enter Tryd.func80, Tryd.ntmps80
  go_wp2_with fail
  go_ret
  exact ⟨rfl, rfl⟩
theorem compT_any {H : Nat} {S : Nat → Prop} {ps : List Tm} {v : Value} {w : World} (hown : OwnT H S w ps v) (hS : ∀ b, S b → b < H) (hHw : H ≤ w.heap.size) (hsz : ∀ t ∈ ps, size t ≤ 1073741824) (hlt : ps.length < 1073741824) :
    Calls Tryd.prog 80 #[v, .func (.func 45) #[] #[]] w (CoTPost H S w ps) := by
  by_cases h0 : ps.length = 0
  · have hn : ps = [] := List.length_eq_zero_iff.1 h0
    subst hn
    obtain ⟨xa, cap, rfl⟩ := OwnT_form hown
    refine (compactT_zero xa cap w).mono fun e w' h => ?_
    obtain ⟨rfl, rfl⟩ := h
    have e : uniqT [] = [] := by rw [uniqT]
    refine ⟨xa, cap, by rw [e]; rfl, by rw [e]; exact hown, Below.refl _ _, Nat.le_refl _⟩
  · obtain ⟨cs, ho, hK⟩ := id hown
    rcases id ho.2 with ⟨rfl, e⟩ | ⟨g, cap, _, rfl, hg, _, hcap, _⟩
    · exact absurd e h0
    · refine (compactU_any ho hK hS hHw (by omega) hsz hlt).mono fun e w' h => ?_
      exact ⟨_, _, h.1, h.2.1, h.2.2.1, h.2.2.2⟩
/-- The columns of some terms. -/
structure ColsT (C ts : List Tm) : Prop where
  asc : AscT C
  mem : ∀ u, u ∈ C ↔ ∃ x ∈ ts, u ∈ summT x
  len : C.length ≤ sizes ts
  small : ∀ u ∈ C, size u ≤ sizes ts
def ColsTPost (w : World) (ts : List Tm) (e : Ending) (w' : World) : Prop :=
  ∃ C xa cap, e = .returned (.slice xa C.length cap) ∧ C.length ≤ cap ∧ Row w' C xa ∧ ColsT C ts ∧ Below w.heap.size w w'
theorem sumsL_len : ∀ ts : List Tm, (ts.flatMap summT).length ≤ sizes ts
  | [] => by simp
  | t :: ts => by
    rw [List.flatMap_cons, List.length_append, sizes]
    have := sumsL_len ts
    have := summT_len t
    omega
theorem sumsL_take (ts : List Tm) (j : Nat) (h : j < ts.length) : (ts.take (j + 1)).flatMap summT = (ts.take j).flatMap summT ++ summT ts[j] := by
  rw [List.take_succ_eq_append_getElem h, List.flatMap_append]; simp
theorem sumsL_le (ts : List Tm) (j : Nat) : ((ts.take j).flatMap summT).length ≤ (ts.flatMap summT).length := by
  have h : ts.flatMap summT = (ts.take j).flatMap summT ++ (ts.drop j).flatMap summT := by rw [← List.flatMap_append, List.take_append_drop]
  rw [h, List.length_append]; omega
theorem sumsL_small {ts : List Tm} {u : Tm} (h : u ∈ ts.flatMap summT) : size u ≤ sizes ts := by
  obtain ⟨x, hx, hu⟩ := List.mem_flatMap.1 h
  have := (summT_mem hu).2.2.1
  have := size_le_sizes hx
  omega
theorem colsT_end {w w6 w7 w8 : World} {H : Nat} {S : Nat → Prop} {ts ps' : List Tm} {e : Ending} (hH : H = w.heap.size) (hp : ps'.Perm (ts.flatMap summT)) (ha : AscQ ps') (hB6 : Below H w w6) (hB7 : Below H w6 w7) (h : CoTPost H S w7 ps' e w8) : ColsTPost w ts e w8 := by
  subst hH
  obtain ⟨xa, cap, he, hO, hB8, _⟩ := h
  obtain ⟨r1, r2⟩ := OwnT_rowQ hO
  have m1 := uniqT_mem _ ps' (Nat.le_refl _)
  refine ⟨uniqT ps', xa, cap, he, r2, r1, ⟨uniqT_asc _ ps' (Nat.le_refl _) ha, fun u => ?_, ?_, fun u hu => ?_⟩, (hB6.trans hB7).trans hB8⟩
  · rw [m1, hp.mem_iff, List.mem_flatMap]
  · have := uniqT_len _ ps' (Nat.le_refl _)
    have := hp.length_eq
    have := sumsL_len ts
    omega
  · exact sumsL_small (hp.mem_iff.1 ((m1 u).1 hu))
set_option maxHeartbeats 6400000 in
set_option maxRecDepth 100000 in
theorem columnsOfT_any (ts : List Tm) (xa : Option Addr) (cap : Nat) (w : World) (hn : ts.length ≤ 1048576) (hsz : sizes ts ≤ 1048576) (hR : Row w ts xa) :
    Calls Tryd.prog 60 #[.slice xa ts.length cap] w (ColsTPost w ts) := by
  have HR := Lib.hid (Row_RowInQ _ _ hR)
  have HSZ := Lib.hid hsz
  obtain ⟨i0, hi0, hz0, hz1, hz2⟩ := info_parts info24
  have HI0 := Lib.hid (And.intro hi0 (And.intro hz0 (And.intro hz1 hz2)))
  clear hi0 hz0 hz1 hz2 hR
  go_enter Tryd.func60, Tryd.ntmps60
  go_wp2_with fail
  go_loopw [3, 7] (fun lv i wr => ∃ j : Nat, j ≤ ts.length ∧ i = .int .i64 j ∧ OwnT w.heap.size (fun q => q < w.heap.size) wr ((ts.take j).flatMap summT) lv ∧ Ext w wr) (fun _ i _ => ts.length - (intOf i).toNat)
  case atStart => exact ⟨0, Nat.zero_le _, rfl, by rw [List.take_zero]; exact OwnT_nil _ _ _, Ext.refl _⟩
  case round =>
    obtain ⟨j, hj, rfl, hO, hX⟩ := hrel
    have HX := Lib.hid hX
    by_cases hlt : j < ts.length
    rotate_left
    · have hjl : j = ts.length := by omega
      rw [hjl, List.take_length] at hO
      have hal := sumsL_len ts
      have HEND : Hid (∀ e7 w7 v, SoTPost w.heap.size (fun b => b < w.heap.size) wr v (ts.flatMap summT) e7 w7 → e7 = .returned (.tuple #[]) ∧ ∃ ps', OwnT w.heap.size (fun b => b < w.heap.size) w7 ps' v ∧ ps'.length = (ts.flatMap summT).length ∧ (∀ t ∈ ps', size t ≤ 1073741824) ∧ w.heap.size ≤ w7.heap.size ∧ ∀ e w8, CoTPost w.heap.size (fun b => b < w.heap.size) w7 ps' e w8 → ColsTPost w ts e w8) := by
        show ∀ _, _
        intro e7 w7 v h7
        obtain ⟨he, ps', h1, h2, h3, h4, h5⟩ := h7
        exact ⟨he, ps', h1, h2.length_eq, fun t ht => by have := sumsL_small (h2.mem_iff.1 ht); omega, Nat.le_trans hX.size h5, fun e w8 h => colsT_end rfl h2 h3 hX h4 h⟩
      have HSO := Lib.hid (sortT_any hO (fun _ h => h) hX.size (fun t ht => by have := sumsL_small ht; omega) (by omega))
      have HLE : Hid ((ts.flatMap summT).length < 1073741824) := (by omega : _ < _)
      obtain ⟨xr, cr, rfl⟩ := OwnT_form hO
      clear hO hX hjl hal
      generalize (ts.flatMap summT).length = A at HSO HEND HLE ⊢
      go_wp2_with (first
        | (go_at_call 77; refine (HSO.out).mono ?_; rintro e w7 h7; obtain ⟨he, ps', hO7, hl7, hz7, hs7, hend⟩ := HEND.out _ _ _ h7; subst he; have HEN := Lib.hid hend; have HCO := Lib.hid (compT_any hO7 (fun _ h => h) hs7 hz7 (by rw [hl7]; exact HLE.out)); clear h7 hO7 hl7 hz7 hs7 hend)
        | (go_at_call 80; refine (HCO.out).mono ?_; rintro e w8 h8; have hf := HEN.out _ _ h8; obtain ⟨xa8, cap8, he8, _⟩ := h8; subst he8; have HF := Lib.hid hf; clear hf))
      go_ret
      exact HF.out
    obtain ⟨kb, ko, rfl⟩ := RowIn_at HR.out (by omega)
    obtain ⟨_, x0, x1, x2, x3, p0, p1, p2, p3, hKI⟩ := LiesIn_carry (w' := wr) (S' := fun q => q < w.heap.size) (fun q (hq : q < w.heap.size) => hX.block q hq) (fun _ h => h) (RowIn_get HR.out j hlt)
    obtain ⟨k1, n1, s1, ya1, yl1, yc1, rfl, rfl, rfl, rfl⟩ := IsIn_form hKI
    have hws : w.heap.size ≤ wr.heap.size := hX.size
    have HSU : Hid (∀ H, wr.heap.size = H → Calls Tryd.prog 28 #[.slice (some ⟨H, 0, none⟩) 1 1] (wr.alloc (.cells #[.int .i64 k1, .string n1, .int .i64 s1, .slice ya1 yl1 yc1] 24)) (TsPostE w.heap.size (wr.alloc (.cells #[.int .i64 k1, .string n1, .int .i64 s1, .slice ya1 yl1 yc1] 24)) (summT ts[j]))) := by
      show ∀ _, _
      intro H hH
      exact summandsE_one w.heap.size ts[j] H _ _ _ _ _ _ wr (by have := size_le_sizes (List.getElem_mem hlt); omega) hH (by omega) hKI
    have hl1 := sumsL_le ts (j + 1)
    have hl2 := sumsL_len ts
    have hl3 := congrArg List.length (sumsL_take ts j hlt)
    rw [List.length_append] at hl3
    have HTK := Lib.hid (sumsL_take ts j hlt)
    have HO := Lib.hid hO
    have HWS := Lib.hid hws
    obtain ⟨xr, cr, rfl⟩ := OwnT_form hO
    have i1 : (0 : Int) ≤ (j : Int) := by omega
    have i2 : (j : Int) < (ts.length : Int) := by omega
    have HXA : Hid (∀ W, Below (wr.alloc (.cells #[.int .i64 k1, .string n1, .int .i64 s1, .slice ya1 yl1 yc1] 24)).heap.size (wr.alloc (.cells #[.int .i64 k1, .string n1, .int .i64 s1, .slice ya1 yl1 yc1] 24)) W → Ext wr W) := fun W x => ((Ext.refl wr).alloc _).trans x
    obtain ⟨B, hB⟩ : ∃ B, (summT ts[j]).length = B := ⟨_, rfl⟩
    obtain ⟨A, hA⟩ : ∃ A, ((ts.take j).flatMap summT).length = A := ⟨_, rfl⟩
    have hAB : A + B ≤ 1048576 := by omega
    have HA := Lib.hid hA
    have HBB := Lib.hid hB
    have hcp := (OwnT_rowQ hO).2
    rw [hA] at hcp
    rw [hA]
    clear hO hX hKI hws hl1 hl2 hl3 hA
    by_cases h0 : B = 0
    · subst h0
      have hn0 : summT ts[j] = [] := List.length_eq_zero_iff.1 hB
      have HN : Hid ((ts.take (j + 1)).flatMap summT = (ts.take j).flatMap summT) := by show _ = _; rw [HTK.out, hn0, List.append_nil]
      clear hB hn0
      go_wp2_with (first
        | (go_at_call 28; refine (HSU.out _ (by simp)).mono ?_; rintro e w4 ⟨x4, c4, he, h1, h2, h3, h4⟩; subst he; have HX4 := Lib.hid (HXA.out _ h3); rw [HBB.out]; clear h1 h2 h3 h4)
        | (at_builtin; refine wpList_append_none8 rfl _ _ 22 rfl 24 i0 Tryd.underlying22 HI0.out.1 xr A cr rfl x4 c4 rfl hcp ?_))
      go_roundw
      case rel => exact ⟨j + 1, by omega, by go_num, by rw [HN.out, ← HA.out]; exact OwnT_extQ (Nat.le_refl _) HWS.out HO.out HX4.out, HX.out.trans HX4.out⟩
      case measure => simp [intOf]; omega
    · clear hB
      have HAP : Hid (∀ W x4 c4, Ext wr W → Elems (fun q => q < w.heap.size) W (summT ts[j]) (.slice x4 B c4) → ∃ b o ds cs, x4 = some ⟨b, o, none⟩ ∧ ds.length = B * 4 ∧ (∀ u ∈ ds, u.oneCell' = true) ∧ (∀ i u, ds[i]? = some u → W.cell? ((⟨b, o, none⟩ : Addr).add i) = some u) ∧ KC (fun q => q < w.heap.size) W (summT ts[j]) ds ∧ W.ownsRow w.heap.size 24 4 (.slice xr A cr) A cs ∧ KC (fun q => q < w.heap.size) W ((ts.take j).flatMap summT) cs ∧ w.heap.size ≤ W.heap.size) := by
        show ∀ _, _
        intro W x4 c4 x hE
        obtain ⟨xa', cap', ds, e, _, _, hK, hc⟩ := hE
        simp only [Value.slice.injEq] at e
        obtain ⟨rfl, _, _⟩ := e
        obtain ⟨b, o, rfl, hcc⟩ := hc (by rw [HBB.out]; omega)
        obtain ⟨q1, q2⟩ := KC_one _ _ hK
        obtain ⟨cs, ho, hK2⟩ := OwnT_extQ (Nat.le_refl _) HWS.out HO.out x
        rw [HA.out] at ho
        exact ⟨b, o, ds, cs, rfl, by rw [q1, HBB.out], q2, fun i u hu => by rw [add_plain]; exact hcc i u hu, hK, ho, hK2, Nat.le_trans HWS.out x.size⟩
      have hB0 : 0 < B := by omega
      go_wp2_with (first
        | (go_at_call 28; refine (HSU.out _ (by simp)).mono ?_; rintro e w4 ⟨x4, c4, he, h1, h2, h3, h4⟩; subst he; have HX4 := Lib.hid (HXA.out _ h3); rw [HBB.out] at h4 ⊢; obtain ⟨b4, o4, ds, cs, e4, hd1, hd2, hd3, hd4, ho4, hk4, hs4⟩ := HAP.out _ _ _ HX4.out (OwnT_elems h4); subst e4; have HD := Lib.hid (And.intro hd1 (And.intro hd2 (And.intro hd3 hd4))); have HO4 := Lib.hid (And.intro ho4 hk4); clear h1 h2 h3 h4 hd1 hd2 hd3 hd4 ho4 hk4)
        | (at_builtin; refine wpList_append_own_at _ rfl _ _ _ rfl w.heap.size 24 i0 _ 4 56 Tryd.underlying22 HI0.out.1 HI0.out.2.1 HI0.out.2.2.1 HI0.out.2.2.2 rfl (by omega) (.slice xr A cr) A cs rfl HO4.out.1 ⟨b4, o4, none⟩ B c4 ds rfl HD.out.1 HD.out.2.2.1 HD.out.2.1 (by unfold maxLen; omega) (by omega) hs4 ?_; intro v1 w5 hown1 hgrow _ _; have HP := Lib.hid (OwnT_joinQ (acc := (ts.take j).flatMap summT) (qs := summT ts[j]) (by rw [HA.out]; exact HO4.out.1) HO4.out.2 (Nat.le_refl _) hs4 HD.out.2.2.2 (by rw [HA.out, HBB.out]; exact hown1) hgrow); clear hown1 hgrow))
      go_roundw
      case rel => exact ⟨j + 1, by omega, by go_num, by rw [HTK.out]; exact HP.out.1, Below.trans (HX.out.trans HX4.out) HP.out.2⟩
      case measure => simp [intOf]; omega
end Go.Proofs.YtfbomoginjknlaaDoor
