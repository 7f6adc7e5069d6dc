/-
  THE WALK OF separation.
-/
import Derived.Test.YtfbomoginjknlaaGreatDoorQspr
import Derived.Test.YtfbomoginjknlaaGreatDoorQinc
import Derived.Test.YtfbomoginjknlaaGreatDoorQsrt
namespace Go.Proofs.YtfbomoginjknlaaGreatDoor
open Go.RowKit Go.Lib

/-- The columns as separation collects them. -/
def chI (ps : List PvM) (c : Nat) : List Int := (c : Int) :: (ps.filter fun p => bitV p.s c).map fun p => (p.c : Int)
theorem chI_eq (ps : List PvM) (c : Nat) : chI ps c = (sepN (ps.map pvB) c).map (fun (i : Nat) => (i : Int)) := by
  unfold chI sepN
  rw [List.map_cons, List.filter_map, List.map_map, List.map_map]
  rfl
theorem chI_take (ps : List PvM) (c j : Nat) (h : j < ps.length) : chI (ps.take (j + 1)) c = chI (ps.take j) c ++ (if bitV ps[j].s c = true then [((ps[j].c : Nat) : Int)] else []) := by
  unfold chI
  rw [List.take_succ_eq_append_getElem h, List.filter_append, List.map_append, List.cons_append]
  congr 2
  cases hb : bitV ps[j].s c <;> simp [hb]
theorem chI_len (ps : List PvM) (c : Nat) : (chI ps c).length ≤ ps.length + 1 := by
  rw [chI_eq, List.length_map]
  have := sepN_len (ps.map pvB) c
  rw [List.length_map] at this
  exact this
theorem chI_sorted (ps : List PvM) (c : Nat) : ((chI ps c).mergeSort fun x y => decide (x ≤ y)) = (sepS (ps.map pvB) c).map (fun (i : Nat) => (i : Int)) := by
  unfold sepS
  rw [chI_eq, List.map_mergeSort]
  intro a _ b _
  rw [decide_eq_decide]
  omega
theorem sepT_take (C : List Tm) (l : List Nat) (j : Nat) (h : j < l.length) : sepT C (l.take (j + 1)) = sepT C (l.take j) ++ [C.getD l[j] zilT] := by
  unfold sepT
  rw [List.take_succ_eq_append_getElem h, List.map_append]; rfl
theorem sepT_len (C : List Tm) (l : List Nat) : (sepT C l).length = l.length := by unfold sepT; rw [List.length_map]
theorem sepT_mem {C : List Tm} {l : List Nat} (hl : ∀ i ∈ l, i < C.length) : ∀ u ∈ sepT C l, u ∈ C := fun u hu => by
  unfold sepT at hu
  obtain ⟨i, hi, rfl⟩ := List.mem_map.1 hu
  rw [List.getD_eq_getElem?_getD, List.getElem?_eq_getElem (hl i hi)]
  exact List.getElem_mem _
theorem RowIn_weak {S T : Nat → Prop} {w : World} (h : ∀ b, S b → T b) : ∀ (ts : List Tm) (xa : Option Addr), RowIn S w ts xa → RowIn T w ts xa
  | [], _, _ => by simp [RowIn]
  | t :: ts, xa, k => by
    simp only [RowIn] at k ⊢
    obtain ⟨b, o, e, hb, ⟨c0, c1, c2, c3, g0, g1, g2, g3, hI⟩, h2⟩ := k
    exact ⟨b, o, e, h b hb, ⟨c0, c1, c2, c3, g0, g1, g2, g3, IsIn_carry (fun _ _ => rfl) h _ _ _ _ _ hI⟩, RowIn_weak h ts _ h2⟩
set_option maxHeartbeats 3200000 in
set_option maxRecDepth 100000 in
theorem separation_any (eb n1 n2 : Nat) (C : List Tm) (ps : List PvM) (v : Value) (c : Nat) (w : World) (hn1 : (C.length + 63) / 64 = n1) (hps : ps.length ≤ 1000000) (hE : EL eb C n1 n2 ps v w) (hc : c < C.length) :
    Calls Tryz.prog 51 #[.pointer (some ⟨eb, 0, none⟩), .int .i64 c] w (CpPost w (sepT C (sepS (ps.map pvB) c))) := by
  have hcl := hE.len
  have hn1l : n1 ≤ 1048576 := by omega
  have hn64 : C.length ≤ n1 * 64 := by omega
  have HEL := Lib.hid (fun W (x : Ext w W) => hE.ext x)
  have HPV := Lib.hid hE.vec
  have HSM := Lib.hid hE.small
  obtain ⟨xv, cv, hv⟩ := hE.nlen
  subst hv
  obtain ⟨xc, cc, hc0, hcc, hrw⟩ := id hE.low
  have hpc := hE.pv
  have HLE := Lib.hid hE.lt
  have HEB : Hid (∀ W, Ext w W → W.cell? ⟨eb, 0, none⟩ = some (.slice xc C.length cc) ∧ W.cell? ⟨eb, 1, none⟩ = some (.slice xv ps.length cv)) := by
    show ∀ _, _
    intro W x
    exact ⟨keep_below x _ _ hc0, keep_below x _ _ hpc⟩
  have HRW : Hid (∀ W, Ext w W → RowIn (fun q => q < eb) W C xc) := by
    show ∀ _, _
    intro W x
    exact RowIn_carryQ (fun b (hb : b < eb) => x.block b (by have := HLE.out; omega)) _ _ hrw
  have HFORM := Lib.hid hE.form
  have hLlt := sepS_lt (ps := ps.map pvB) (n := C.length) (c := c) (fun p hp => by
    obtain ⟨q, hq, rfl⟩ := List.mem_map.1 hp
    exact (hE.vec q hq).2.2.2.2.2) hc
  have hLlen := sepS_len (ps.map pvB) c
  rw [List.length_map] at hLlen
  have hSRT := chI_sorted ps c
  have hchl := chI_len ps c
  generalize sepS (ps.map pvB) c = l at hLlt hLlen hSRT ⊢
  have HLT := Lib.hid hLlt
  have HSRT := Lib.hid hSRT
  have hlen2 : l.length = (chI ps c).length := by
    have := congrArg List.length hSRT
    rw [List.length_mergeSort, List.length_map] at this
    exact this.symm
  have HL2 := Lib.hid hlen2
  clear hE hc0 hrw hpc hLlt hSRT hlen2
  go_enter Tryz.func51, Tryz.ntmps51
  go_upto_region 2 with fail
  have hO0 : OwnI w.heap.size (w.alloc (.cells #[.int .i64 c] 3)) (chI (ps.take 0) c) (.slice (some ⟨w.heap.size, 0, none⟩) 1 1) := OwnI_one _ w c (Nat.le_refl _)
  have hX0 : Ext w (w.alloc (.cells #[.int .i64 c] 3)) := (Ext.refl w).alloc _
  obtain ⟨e0, e1⟩ := HEB.out _ hX0
  generalize w.alloc (.cells #[.int .i64 c] 3) = w1 at hO0 hX0 e0 e1 ⊢
  generalize (Value.slice (some ⟨w.heap.size, 0, none⟩) 1 1) = v0 at hO0 ⊢
  have HO0 := Lib.hid (And.intro hO0 hX0)
  clear hO0 hX0
  go_wp2_with fail
  go_loopw [5, 18] (fun v5 i wr => ∃ j : Nat, j ≤ ps.length ∧ i = .int .i64 j ∧ OwnI w.heap.size wr (chI (ps.take j) c) v5 ∧ Ext w wr) (fun _ i _ => ps.length - (intOf i).toNat)
  case atStart => exact ⟨0, Nat.zero_le _, rfl, HO0.out.1, HO0.out.2⟩
  case round =>
    obtain ⟨j, hj, rfl, hO, hX⟩ := hrel
    have HX := Lib.hid hX
    obtain ⟨e0, e1⟩ := HEB.out _ hX
    by_cases hlt : j < ps.length
    rotate_left
    · have hjl : j = ps.length := by omega
      rw [hjl, List.take_length] at hO
      obtain ⟨xr, cr, rfl⟩ := OwnI_form hO
      have HSO := Lib.hid (sorti_any hO hX.size (by omega))
      rw [HSRT.out] at HSO
      obtain ⟨n, hn⟩ : ∃ n, (chI ps c).length = n := ⟨_, rfl⟩
      have hln : l.length = n := HL2.out.trans hn
      rw [hn] at HSO hchl ⊢
      have HLN := Lib.hid hln
      clear hO hX hjl hn
      go_upto_region 10 with (go_at_call 81; refine (HSO.out).mono ?_; rintro e w3 ⟨he, hO3, hB3, hs3⟩; subst he; have HO3 := Lib.hid hO3; have HX3 : Hid (Ext w w3) := Lib.hid (Below.trans HX.out hB3); clear hO3 hB3 hs3)
      obtain ⟨e0, e1⟩ := HEB.out _ HX3.out
      go_wp2_with fail
      go_loopw [8, 37] (fun r i wr => ∃ j : Nat, j ≤ n ∧ i = .int .i64 j ∧ OwnT w3.heap.size (fun b => b < eb) wr (sepT C (l.take j)) r ∧ Ext w3 wr) (fun _ i _ => n - (intOf i).toNat)
      case atStart => exact ⟨0, Nat.zero_le _, rfl, OwnT_nil _ _ _, Ext.refl _⟩
      case round =>
        obtain ⟨j, hj, rfl, hT, hX⟩ := hrel
        have HY := Lib.hid hX
        have hxw : Ext w wr := HX3.out.trans hX
        obtain ⟨e0, e1⟩ := HEB.out _ hxw
        by_cases hlt : j < n
        rotate_left
        · have hjl : j = n := by omega
          rw [hjl, ← HLN.out, List.take_length] at hT
          obtain ⟨xq, cq, rfl⟩ := OwnT_form hT
          obtain ⟨hR, hcq⟩ := OwnT_rowQ hT
          have HCO := Lib.hid (copies_any (sepT C l) xq cq wr (by rw [sepT_len]; omega) (fun u hu => by have := HSM.out u (sepT_mem HLT.out u hu); omega) hR)
          have HXW := Lib.hid hxw
          clear hT hX hxw hjl hR hcq
          go_wp2_with (go_at_call 37; refine (HCO.out).mono ?_; rintro e w5 ⟨xa, c5, he, h1, h2, h3, h4⟩; subst he; have HQ : Hid (CpPost w (sepT C l) (.returned (.slice xa (sepT C l).length c5)) w5) := Lib.hid ⟨xa, c5, rfl, h1, h2, RowIn_weak (fun b hb => Nat.le_trans HXW.out.size hb) _ _ h3, Below.trans HXW.out (h4.mono HXW.out.size)⟩; clear h1 h2 h3 h4)
          go_ret
          exact HQ.out
        have hjl : j < l.length := by have := HLN.out; omega
        have hyl := HLT.out _ (List.getElem_mem hjl)
        have hOI := OwnI_ext HO3.out hX
        have hyc : ∃ g, xr = some ⟨g, 0, none⟩ ∧ wr.cell? ⟨g, j, none⟩ = some (.int .i64 (l[j] : Nat)) := by
          rcases hOI.2 with ⟨e, e'⟩ | ⟨g, cap, _, e, _⟩
          · rw [List.length_map] at e'; omega
          · simp only [Value.slice.injEq] at e
            obtain ⟨e5, e6, e7⟩ := e
            subst e5
            refine ⟨g, rfl, ?_⟩
            have := hOI.cells (g := g) rfl j (.int .i64 (l[j] : Nat)) (by simp [zints, hjl])
            rw [add_plain, Nat.zero_add] at this
            exact this
        obtain ⟨g, rfl, hy⟩ := hyc
        have htk := sepT_take C l j hjl
        rw [List.getD_eq_getElem?_getD, List.getElem?_eq_getElem hyl, Option.getD_some] at htk
        obtain ⟨y, hyy⟩ : ∃ y, l[j] = y := ⟨_, rfl⟩
        have hcell := RowIn_at (HRW.out _ hxw) (by omega)
        obtain ⟨kb, ko, hxc⟩ := hcell
        subst hxc
        have hrow := RowIn_get (HRW.out _ hxw) l[j] hyl
        obtain ⟨_, d0, d1, d2, d3, x0, x1, x2, x3, hI⟩ := hrow
        obtain ⟨k1, m1, s1, ya1, yl1, yc1, rfl, rfl, rfl, rfl⟩ := IsIn_form hI
        generalize C[l[j]] = u at hI htk
        simp only [hyy] at hy hyl x0 x1 x2 x3
        have HTK := Lib.hid htk
        have HI := Lib.hid hI
        have HT := Lib.hid hT
        have htl : (sepT C (l.take j)).length ≤ 1048577 := by rw [sepT_len, List.length_take]; omega
        have HTL := Lib.hid htl
        have hwsz : w3.heap.size ≤ wr.heap.size := hX.size
        have hebw : eb ≤ w3.heap.size := by have := HLE.out; have := HX3.out.size; omega
        have i1 : (0 : Int) ≤ (j : Int) := by omega
        have i2 : (j : Int) < (n : Int) := by omega
        have i3 : (0 : Int) ≤ (y : Int) := by omega
        have i4 : (y : Int) < (C.length : Int) := by omega
        clear hT hX hxw hjl hOI htk hI htl hyy
        go_wp2_with (at_builtin; refine wpList_append_tm rfl _ _ rfl HT.out hebw hwsz HTL.out ⟨rfl, rfl, rfl, rfl⟩ HI.out rfl rfl rfl ?_; intro v9 w9 hO9 hB9 hs9; have HO9 := Lib.hid hO9; have HB9 : Hid (Ext w3 w9) := Lib.hid (Below.trans HY.out hB9); clear hO9 hB9 hs9)
        go_roundw
        case rel => exact ⟨j + 1, by omega, by go_num, by rw [HTK.out]; exact HO9.out, HB9.out⟩
        case measure => simp [intOf]; omega
    have hel := HEL.out wr hX
    rcases hel.form with ⟨_, e9⟩ | ⟨g, cap, e9, hg1, hg2, hg3⟩
    · rw [e9] at hlt; exact absurd hlt (by simp)
    simp only [Value.slice.injEq, true_and] at e9
    obtain ⟨rfl, rfl⟩ := e9
    obtain ⟨p0, p1, p2, p3⟩ := hel.cells j hlt
    obtain ⟨u1, u2, _⟩ := hel.vec ps[j] (List.getElem_mem hlt)
    obtain ⟨_, _, _, _, _, v6⟩ := HPV.out ps[j] (List.getElem_mem hlt)
    have htk := chI_take ps c j hlt
    obtain ⟨P, hP⟩ : ∃ P, ps[j] = P := ⟨_, rfl⟩
    rw [hP] at p0 p1 p2 p3 u1 u2 v6 htk
    have hA6 : Ext wr (wr.alloc (.cells #[.slice (some ⟨P.gs, 0, none⟩) n1 n1, .slice (some ⟨P.ge, 0, none⟩) n2 n2, .int .i64 P.c, .int .i64 P.i] 71)) := (Ext.refl wr).alloc _
    have HHAS := Lib.hid (has_any P.gs n1 n1 c P.s (wr.alloc (.cells #[.slice (some ⟨P.gs, 0, none⟩) n1 n1, .slice (some ⟨P.ge, 0, none⟩) n2 n2, .int .i64 P.c, .int .i64 P.i] 71)) (by omega) hn1l (u1.ext hA6).2.2)
    have hO6 := OwnI_ext hO hA6
    have hX6 : Ext w (wr.alloc (.cells #[.slice (some ⟨P.gs, 0, none⟩) n1 n1, .slice (some ⟨P.ge, 0, none⟩) n2 n2, .int .i64 P.c, .int .i64 P.i] 71)) := hX.trans hA6
    have hbox := heap_alloc_new wr (.cells #[.slice (some ⟨P.gs, 0, none⟩) n1 n1, .slice (some ⟨P.ge, 0, none⟩) n2 n2, .int .i64 P.c, .int .i64 P.i] 71)
    have hcl2 : (chI (ps.take j) c).length ≤ 1073741824 := by have := chI_len (ps.take j) c; rw [List.length_take] at this; omega
    have HO6 := Lib.hid (And.intro hO6 hX6)
    have HCL2 := Lib.hid hcl2
    have hws6 : w.heap.size ≤ (wr.alloc (.cells #[.slice (some ⟨P.gs, 0, none⟩) n1 n1, .slice (some ⟨P.ge, 0, none⟩) n2 n2, .int .i64 P.c, .int .i64 P.i] 71)).heap.size := hX6.size
    have HWS6 := Lib.hid hws6
    obtain ⟨xr, cr, rfl⟩ := OwnI_form hO
    have i1 : (0 : Int) ≤ (j : Int) := by omega
    have i2 : (j : Int) < (ps.length : Int) := by omega
    clear hO hX hel u1 u2 v6 hP hA6 hO6 hX6 hcl2 hws6 hbox
    cases hb : bitV P.s c
    · rw [hb] at HHAS htk
      have HTK : Hid (chI (ps.take (j + 1)) c = chI (ps.take j) c) := by show _ = _; rw [htk]; simp
      clear htk hb
      go_wp2_with (go_at_call 78; refine (HHAS.out).mono ?_; rintro e w6 ⟨he, hw⟩; subst he; subst hw)
      go_roundw
      case rel => exact ⟨j + 1, by omega, by go_num, by rw [HTK.out]; exact HO6.out.1, HO6.out.2⟩
      case measure => simp [intOf]; omega
    · rw [hb] at HHAS htk
      have HTK : Hid (chI (ps.take (j + 1)) c = chI (ps.take j) c ++ [((P.c : Nat) : Int)]) := by show _ = _; rw [htk]; rfl
      clear htk hb
      go_wp2_with (first
        | (go_at_call 78; refine (HHAS.out).mono ?_; rintro e w6 ⟨he, hw⟩; subst he; subst hw)
        | (at_builtin; refine wpList_append_int rfl _ _ rfl HO6.out.1 HWS6.out HCL2.out rfl (by first | rfl | simp) rfl ?_; intro v9 w9 hO9 hB9 hs9; have HO9 := Lib.hid hO9; have HB9 : Hid (Ext w w9) := Lib.hid (Below.trans HO6.out.2 hB9); clear hO9 hB9 hs9))
      go_roundw
      case rel => exact ⟨j + 1, by omega, by go_num, by rw [HTK.out]; exact HO9.out, HB9.out⟩
      case measure => simp [intOf]; omega
end Go.Proofs.YtfbomoginjknlaaGreatDoor

/-
  THE WALK OF Refute.
-/
namespace Go.Proofs.YtfbomoginjknlaaGreatDoor
open Go.RowKit Go.Lib

theorem run_row0 (a b : Option Addr) (l c m d : Nat) (w : World) : (Instr.field 69 (.agg #[.slice a l c, .slice b m d]) 0).run Tryz.prog w = .ok (.slice a l c) w := by kernel_rfl
/-- What Refute gives back. -/
def RefPost (ts : List Tm) (t : Tm) (w : World) (e : Ending) (w' : World) : Prop :=
  ∃ r xa cap E, e = .returned (.tuple #[.slice xa r.length cap, .int .i64 E]) ∧ RefuteR ts t r E ∧ r.length ≤ cap ∧ r.length ≤ ts.length + 1 ∧ (∀ u ∈ r, size u ≤ 1048576) ∧ Row w' r xa ∧ Ext w w'
set_option maxHeartbeats 3200000 in
set_option maxRecDepth 100000 in
theorem Refute_any (ts : List Tm) (t : Tm) (xl : Option Addr) (cl : Nat) (c0 c1 c2 c3 : Value) (w : World) (hn : ts.length ≤ 1000000) (hsz : sizes ts + size t ≤ 1048576) (hcl : ts.length ≤ cl) (hT : TabQ w) (hL : Row w ts xl) (hI : Is w t c0 c1 c2 c3) :
    Calls Tryz.prog 22 #[.slice xl ts.length cl, .agg #[c0, c1, c2, c3]] w (RefPost ts t w) := by
  obtain ⟨k2, m2, s2, ya2, yl2, yc2, rfl, rfl, rfl, rfl⟩ := Is_form hI
  have hB1 : Ext w (w.alloc (.cells #[.int .i64 k2, .string m2, .int .i64 s2, .slice ya2 yl2 yc2] 26)) := (Ext.refl _).alloc _
  have HBK : Hid (∀ W, Ext (w.alloc (.cells #[.int .i64 k2, .string m2, .int .i64 s2, .slice ya2 yl2 yc2] 26)) W → W.cell? ⟨w.heap.size, 0, none⟩ = some (.int .i64 k2) ∧ W.cell? ⟨w.heap.size, 1, none⟩ = some (.string m2) ∧ W.cell? ⟨w.heap.size, 2, none⟩ = some (.int .i64 s2) ∧ W.cell? ⟨w.heap.size, 3, none⟩ = some (.slice ya2 yl2 yc2)) := by
    show ∀ _, _
    intro W x
    have hh := x.block w.heap.size (by simp)
    rw [heap_alloc_new] at hh
    exact (box_facts hh).1
  obtain ⟨b0', b1', b2', b3'⟩ := HBK.out _ (Ext.refl _)
  have hszt : size t ≤ 1048576 := by omega
  have hmem : ∀ u ∈ ts, size u ≤ 1048576 := fun u hu => by have := size_le_sizes hu; omega
  have HSE := Lib.hid (spanError_any ts t xl cl _ _ _ _ _ (by omega) (fun u hu => by have := hmem u hu; omega) (by omega) (Row_below hL hB1) (Is_below hI hB1))
  have happ : ∀ (l : List Tm) (u : Tm), sizes (l ++ [u]) = sizes l + size u := by
    intro l u
    induction l with
    | nil => simp [sizes]
    | cons x l ih => rw [List.cons_append, sizes, sizes, ih]; omega
  have HEL : Hid (∀ W x, Ext w W → Row W [t] x → Calls Tryz.prog 45 #[.slice xl ts.length cl, .slice x 1 1] W (EliPost ts (ts ++ [t]) W)) := by
    show ∀ _, _
    intro W x y r
    exact eliminate_any ts [t] (ts ++ [t]) xl x cl 1 W rfl (by simp; omega) (by rw [happ]; omega) hcl (by simp) (hT.ext y) (Row_below hL y) r
  have HSS : Hid (sizes (ts ++ [t]) ≤ 1048576) := by show _ ≤ _; rw [happ]; omega
  have HRW : Hid (∀ W H, Ext w W → W.heap.size = H → Row (W.alloc (.cells #[.int .i64 k2, .string m2, .int .i64 s2, .slice ya2 yl2 yc2] 26)) [t] (some ⟨H, 0, none⟩)) := fun W H x hH => Row_one_at H hH (Is_below hI x) _
  have HTI := Lib.hid (fun W (x : Ext w W) => Is_below (w' := W) hI x)
  have HT := Lib.hid hT
  have HB1 := Lib.hid hB1
  have HN := Lib.hid hn
  have HZ := Lib.hid hszt
  obtain ⟨VE, hVE⟩ : ∃ VE, vE ts t = VE := ⟨_, rfl⟩
  rw [hVE] at HSE
  have HVE := Lib.hid hVE
  clear hL hI hB1 hsz hszt hmem happ hT hVE hcl
  by_cases hv : VE = 0
  rotate_left
  · have q0 : (VE != 0) = true := bne_iff_ne.2 hv
    have HQ : Hid (∀ W, Ext w W → RefPost ts t w (.returned (.tuple #[.slice none 0 0, .int .i64 VE])) W) := fun W x => ⟨[], none, 0, VE, rfl, Or.inl ⟨by rw [HVE.out]; exact hv, HVE.out.symm, rfl⟩, Nat.le_refl _, Nat.zero_le _, fun u hu => absurd hu (by simp), by simp [Row], x⟩
    clear hv
    go_enter Tryz.func22, Tryz.ntmps22
    go_wp2_with (go_at_call 47; refine (HSE.out).mono ?_; rintro e w3 ⟨he, hB⟩; subst he; have HX3 := Lib.hid (HB1.out.trans hB); clear hB)
    exact bodyPost_ret (v := .tuple #[.slice none 0 0, .int .i64 VE]) (by simp [results, Tryz.results22, go_sem]) rfl (HQ.out _ HX3.out)
  subst hv
  have q0 : ((0 : Int) != 0) = false := rfl
  go_enter Tryz.func22, Tryz.ntmps22
  go_upto_region 5 with (first
    | (go_at_call 47; refine (HSE.out).mono ?_; rintro e w3 ⟨he, hB⟩; subst he; obtain ⟨b0', b1', b2', b3'⟩ := HBK.out _ hB; have HX3 := Lib.hid hB; clear hB)
    | (go_at_call 45; refine (HEL.out _ _ ((HB1.out.trans HX3.out).alloc _) (HRW.out _ _ (HB1.out.trans HX3.out) rfl)).mono ?_; rintro e w5 ⟨eb, C, ps, v, he, hf⟩; subst he; have HF5 := Lib.hid hf; have HX5 := Lib.hid (Ext.trans (HX3.out.alloc _) hf.ext); clear hf))
  obtain ⟨b0', b1', b2', b3'⟩ := HBK.out _ HX5.out
  have HE5 : Hid (Ext w w5) := Lib.hid (HB1.out.trans HX5.out)
  obtain ⟨n1, hn1⟩ : ∃ n1, (C.length + 63) / 64 = n1 := ⟨_, rfl⟩
  obtain ⟨n2, hn2⟩ : ∃ n2, (ts.length + 63) / 64 = n2 := ⟨_, rfl⟩
  have hel := HF5.out.el
  rw [hn1, hn2] at hel
  have hcl := hel.len
  have hn1l : n1 ≤ 1048576 := by omega
  have hn164 : C.length ≤ n1 * 64 := by omega
  have hpl := HF5.out.len
  have hmm := HF5.out.elm
  have hcc := HF5.out.cols
  have hnl := HN.out
  have HRD := Lib.hid (reduced_any eb n1 n2 ts.length C ps v t (.int .i64 k2) (.string m2) (.int .i64 s2) (.slice ya2 yl2 yc2) w5 hn1 hn2 (by omega) (by omega) hel HZ.out (fun u hu => (hcc.mem u).2 ⟨t, by simp, hu⟩) (HTI.out _ HE5.out))
  have HSP := Lib.hid (fun W (x : Ext w5 W) c (hc : c < C.length) => separation_any eb n1 n2 C ps v c W hn1 (by omega) (hel.ext x) hc)
  have hsupp : ∀ i, C.length ≤ i → chiP C (addT t) i = false := fun i hi => chiP_supp _ _ _ hi
  have HSUP := Lib.hid (hmm.red_supp hsupp)
  have hC1 : ∀ x ∈ ts, ∀ u ∈ summT x, u ∈ C := fun x hx u hu => (hcc.mem u).2 ⟨x, List.mem_append_left _ hx, hu⟩
  have hC2 : ∀ u ∈ summT t, u ∈ C := fun u hu => (hcc.mem u).2 ⟨t, by simp, hu⟩
  have HYES : Hid (redS (ps.map pvB) (chiP C (addT t)) = b0 → ∀ W, Ext w W → RefPost ts t w (.returned (.tuple #[.slice none 0 0, .int .i64 5])) W) := by
    show _ → _
    intro h0 W x
    exact ⟨[], none, 0, 5, rfl, Or.inr (Or.inr ⟨HVE.out, rfl, rfl, _, span_found hC1 hC2 HVE.out hmm h0⟩), Nat.le_refl _, Nat.zero_le _, fun u hu => absurd hu (by simp), by simp [Row], x⟩
  have HNO : Hid (∀ c, c < C.length → redS (ps.map pvB) (chiP C (addT t)) c = true → ∀ W0 W e, Ext w W0 → CpPost W0 (sepT C (sepS (ps.map pvB) c)) e W → ∃ xa k, e = .returned (.slice xa (sepT C (sepS (ps.map pvB) c)).length k) ∧ RefPost ts t w (.returned (.tuple #[.slice xa (sepT C (sepS (ps.map pvB) c)).length k, .int .i64 0])) W) := by
    show ∀ _, _
    rintro c hcl hc W0 W e x ⟨xa, k, he, h1, h2, h3, h4⟩
    have hls := sepS_len (ps.map pvB) c
    rw [List.length_map] at hls
    refine ⟨xa, k, he, _, xa, k, 0, rfl, Or.inr (Or.inl ⟨HVE.out, rfl, span_none hC1 hC2 HVE.out hmm (fun e => by rw [e] at hc; cases hc), fun hl => sep_found hel.asc HVE.out hmm hcl hc hl⟩), h1, ?_, fun u hu => ?_, h2, Ext.trans x h4⟩
    · rw [sepT_len]; omega
    · exact hel.small u (sepT_mem (sepS_lt (ps := ps.map pvB) hmm.col hcl) u hu)
  clear hn1 hn2 hsupp hC1 hC2 hcl hnl hel hpl hmm hcc
  generalize redS (ps.map pvB) (chiP C (addT t)) = X at HRD HSUP HYES HNO
  have hfd := run_row0
  go_upto_region 6 with (first
    | (go_at_call 48; refine (HRD.out).mono ?_; rintro e w6 ⟨gs, ge, fs6, fe6, he, hg1, hg2, hg3, hv1, hv2, hb1, hb2, hx⟩; subst he; have HX6 := Lib.hid hx; have HFI := Lib.hid (first_any gs n1 n1 fs6 w6 hn1l hv1.2.2 (HT.out.ext (HE5.out.trans hx))); have HFB := Lib.hid (fun e (h : FirstV n1 fs6 e) => first_bits h hb1 HSUP.out hn164); clear hv1 hv2 hb1 hb2 hg1 hg2 hg3 hx)
    | (go_at_call 49; refine (HFI.out).mono ?_; rintro e w8 ⟨hf, hw⟩; subst hw; rcases HFB.out _ hf with ⟨he, hz⟩ | ⟨c, he, hc1, hc2⟩ <;> subst he))
  · have HY := Lib.hid (HYES.out hz)
    clear hf hz
    go_wp2_with fail
    exact bodyPost_ret (v := .tuple #[.slice none 0 0, .int .i64 5]) (by simp [results, Tryz.results22, go_sem]) rfl (HY.out _ (HE5.out.trans HX6.out))
  · have HNC := Lib.hid (HNO.out c hc1 hc2)
    have HS := Lib.hid (HSP.out _ HX6.out c hc1)
    have HXX := Lib.hid (HE5.out.trans HX6.out)
    have q7 : ((c : Int) == -1) = false := by rw [beq_eq_false_iff_ne]; omega
    clear hf hc2
    go_wp2_with (go_at_call 51; refine (HS.out).mono ?_; intro e w9 h9; obtain ⟨xa, k, he, hq⟩ := HNC.out _ _ _ HXX.out h9; subst he; have HQ := Lib.hid hq; clear hq h9)
    generalize (sepT C (sepS (ps.map pvB) c)).length = L at HQ ⊢
    exact bodyPost_ret (v := .tuple #[.slice xa L k, .int .i64 0]) (by simp [results, Tryz.results22, go_sem]) rfl HQ.out
end Go.Proofs.YtfbomoginjknlaaGreatDoor
