import Derived.Test.YtbcpnepjojppaaaGreatDoorLawTheoryKeyxPops
namespace Go.Proofs.YtbcpnepjojppaaaGreatDoor
open Go.RowKit
theorem sizes_leE {M : Nat} : ∀ (l : List Tm), (∀ t ∈ l, size t ≤ M) → sizes l ≤ l.length * M
  | [], _ => by simp [sizes]
  | t :: ts, h => by
    have h1 := h t (List.mem_cons_self ..)
    have h2 := sizes_leE ts (fun u hu => h u (List.mem_cons_of_mem _ hu))
    simp only [sizes, List.length_cons, Nat.add_mul, Nat.one_mul]; omega
theorem size_prodT {M : Nat} : ∀ (l : List Tm), (∀ t ∈ l, size t ≤ M) → size (prodT l) ≤ 1 + l.length * M + M
  | [], _ => by rw [prodT]; simp [size, sizes]
  | [t], h => by rw [prodT]; have := h t (by simp); omega
  | t :: u :: l, h => by
    have h1 := sizes_leE _ h
    rw [prodT, size]; omega
theorem IsIn_appE {S : Nat → Prop} {w : World} {n : ByteArray} {l : List Tm} {xa : Option Addr} {cap : Nat} (hn : n.size ≤ maxLen) (hl : l.length ≤ 1048576) (hc : l.length ≤ cap) (hR : RowIn S w l xa) : IsIn S w (.mk 3 n 0 l) (.int .i64 3) (.string n) (.int .i64 0) (.slice xa l.length cap) := by
  simp only [IsIn]
  exact ⟨trivial, trivial, trivial, by omega, by omega, hn, by unfold maxLen; omega, xa, cap, rfl, hc, hR⟩
def TaPost (S : Nat → Prop) (w : World) (t : Tm) (e : Ending) (w' : World) : Prop := ∃ c0 c1 c2 c3, e = .returned (.agg #[c0, c1, c2, c3]) ∧ IsIn S w' t c0 c1 c2 c3 ∧ Below w.heap.size w w'
set_option maxHeartbeats 1600000 in
set_option maxRecDepth 100000 in
theorem product_any (S : Nat → Prop) (l : List Tm) (xa : Option Addr) (cap : Nat) (w : World) (hS : ∀ b, S b → b < w.heap.size) (hl : l.length ≤ 1048576) (hc : l.length ≤ cap) (hR : RowIn S w l xa) :
    Calls Tryz.prog 149 #[.slice xa l.length cap] w (TaPost S w (prodT l)) := by
  have hb1 := heap_alloc_new w (.cells #[.int .i64 0, .string ⟨#[]⟩, .int .i64 0, .slice none 0 0] 24)
  have hBw : Ext w (w.alloc (.cells #[.int .i64 0, .string ⟨#[]⟩, .int .i64 0, .slice none 0 0] 24)) := (Ext.refl w).alloc _
  have hZ : (w.alloc (.cells #[.int .i64 0, .string ⟨#[]⟩, .int .i64 0, .slice none 0 0] 24)).heap.size = w.heap.size + 1 := World.size_alloc _ _
  have HAP := Lib.hid (fun n xa l c W => application_any n xa l c W)
  have HFIN : Hid (∀ W t c0 c1 c2 c3, Ext (w.alloc (.cells #[.int .i64 0, .string ⟨#[]⟩, .int .i64 0, .slice none 0 0] 24)) W → IsIn S w t c0 c1 c2 c3 → TaPost S w t (.returned (.agg #[c0, c1, c2, c3])) (put4 W w.heap.size 0 c0 c1 c2 c3)) := by
    show ∀ _, _
    intro W t c0 c1 c2 c3 hx hI
    have hB : Below w.heap.size w W := Ext.trans hBw hx
    have hP := put4_below (g := w.heap.size) (o := 0) (c0 := c0) (c1 := c1) (c2 := c2) (c3 := c3) hB (Nat.le_refl _)
    exact ⟨_, _, _, _, rfl, IsIn_carry (fun b hb => hP.block b (hS b hb)) (fun _ h => h) _ _ _ _ _ hI, hP⟩
  have HBX : Hid (∀ W, Ext (w.alloc (.cells #[.int .i64 0, .string ⟨#[]⟩, .int .i64 0, .slice none 0 0] 24)) W → W.heap[w.heap.size]? = some (.cells #[.int .i64 0, .string ⟨#[]⟩, .int .i64 0, .slice none 0 0] 24 (0, 0))) := fun W x => (x.block _ (by rw [hZ]; exact Nat.lt_succ_self _)).trans hb1
  match l, hl, hc, hR with
  | [], _, _, _ =>
    have hI := IsIn_appE (S := S) (w := w) (n := ⟨#[111, 110, 101]⟩) (l := []) (xa := none) (cap := 0) (by decide) (Nat.zero_le _) (Nat.le_refl _) (by simp [RowIn])
    have HI := Lib.hid hI
    clear hb1 hBw hZ hI
    go_enter Tryz.func149, Tryz.ntmps149
    go_wp2_with (go_at_call 185; refine (HAP.out _ _ _ _ _).mono ?_; rintro e w5 ⟨he, hB⟩; subst he; have hx := HBX.out w5 hB; obtain ⟨⟨m0, m1, m2, m3⟩, n0, n1, n2, n3⟩ := box_facts hx; have HF := Lib.hid (HFIN.out w5 _ _ _ _ _ hB HI.out); clear hB hx)
    exact bodyPost_ret (v := .agg #[.int .i64 3, .string ⟨#[111, 110, 101]⟩, .int .i64 0, .slice none 0 0]) (by simp [results, Tryz.results149, go_sem, m0, m1, m2, m3]) rfl HF.out
  | [t], _, _, hR =>
    simp only [RowIn] at hR
    obtain ⟨b, o, rfl, _, ⟨c0, c1, c2, c3, g0, g1, g2, g3, hI⟩, _⟩ := hR
    obtain ⟨k, n, s, ya, yl, yc, rfl, rfl, rfl, rfl⟩ := IsIn_form hI
    have HI := Lib.hid hI
    have x0 := keep_below hBw _ _ g0
    have x1 := keep_below hBw _ _ g1
    have x2 := keep_below hBw _ _ g2
    have x3 := keep_below hBw _ _ g3
    have hx := HBX.out _ (Ext.refl _)
    obtain ⟨⟨m0, m1, m2, m3⟩, n0, n1, n2, n3⟩ := box_facts hx
    have HF := Lib.hid (HFIN.out _ _ _ _ _ _ (Ext.refl _) HI.out)
    clear hb1 hBw hZ hI g0 g1 g2 g3 hx
    go_enter Tryz.func149, Tryz.ntmps149
    go_upto_region 4 with fail
    generalize w.alloc (.cells #[.int .i64 0, .string ⟨#[]⟩, .int .i64 0, .slice none 0 0] 24) = wn at x0 x1 x2 x3 m0 m1 m2 m3 n0 n1 n2 n3 HF ⊢
    go_wp2_with fail
    exact bodyPost_ret (v := .agg #[.int .i64 k, .string n, .int .i64 s, .slice ya yl yc]) (by simp [results, Tryz.results149, go_sem, m0, m1, m2, m3]) rfl HF.out
  | t :: u :: l, hl, hc, hR =>
    have hI := IsIn_appE (n := ⟨#[109, 117, 108]⟩) (l := t :: u :: l) (xa := xa) (cap := cap) (by decide) hl hc hR
    have HI := Lib.hid hI
    obtain ⟨nn, hnn⟩ : ∃ nn, (t :: u :: l).length = nn := ⟨_, rfl⟩
    have hn2 : 2 ≤ nn := by rw [← hnn]; simp
    rw [hnn] at hI HI ⊢
    have q1 : ((nn : Int) == 0) = false := by rw [beq_eq_false_iff_ne]; omega
    have q2 : ((nn : Int) == 1) = false := by rw [beq_eq_false_iff_ne]; omega
    clear hb1 hBw hZ hI hnn hl hc hR
    go_enter Tryz.func149, Tryz.ntmps149
    go_wp2_with (go_at_call 185; refine (HAP.out _ _ _ _ _).mono ?_; rintro e w5 ⟨he, hB⟩; subst he; have hx := HBX.out w5 hB; obtain ⟨⟨m0, m1, m2, m3⟩, n0, n1, n2, n3⟩ := box_facts hx; have HF := Lib.hid (HFIN.out w5 _ _ _ _ _ hB HI.out); clear hB hx)
    exact bodyPost_ret (v := .agg #[.int .i64 3, .string ⟨#[109, 117, 108]⟩, .int .i64 0, .slice xa nn cap]) (by simp [results, Tryz.results149, go_sem, m0, m1, m2, m3]) rfl HF.out
set_option maxHeartbeats 800000 in
theorem absolute_any (n : Int) (w : World) (h0 : -4611686018427387904 ≤ n) (h1 : n ≤ 4611686018427387904) :
    Calls Tryz.prog 148 #[.int .i64 n] w fun e w' => e = .returned (.int .i64 (n.natAbs : Int)) ∧ w' = w := by
  have hw : IntKind.i64.wrap (-n) = -n := IntWalk.i64_in _ (by omega)
  have HM : Hid (max n (-n) = (n.natAbs : Int)) := by show _ = _; omega
  go_enter Tryz.func148, Tryz.ntmps148
  go_wp2_with fail
  go_ret
  exact ⟨by rw [← HM.out]; rfl, rfl⟩
def termP (ps : List Pw) : Tm × Int := if powE 1000 ps = 0 then (if 8 < absS ps then (.mk 0 ⟨#[]⟩ 0 [], 3) else if validE (prodT (posO ps ++ negO ps)) = 0 then (prodT (posO ps ++ negO ps), 0) else (.mk 0 ⟨#[]⟩ 0 [], validE (prodT (posO ps ++ negO ps)))) else (.mk 0 ⟨#[]⟩ 0 [], powE 1000 ps)
def TpPost (w : World) (r : Tm × Int) (e : Ending) (w' : World) : Prop :=
  ∃ c0 c1 c2 c3, e = .returned (.tuple #[.agg #[c0, c1, c2, c3], .int .i64 r.2]) ∧ Is w' r.1 c0 c1 c2 c3 ∧ Below w.heap.size w w'
theorem zero_isE (S : Nat → Prop) (w : World) : IsIn S w (.mk 0 ⟨#[]⟩ 0 []) (.int .i64 0) (.string ⟨#[]⟩) (.int .i64 0) (.slice none 0 0) := by
  simp only [IsIn]
  exact ⟨trivial, trivial, trivial, by omega, by omega, Nat.zero_le _, Nat.zero_le _, none, 0, rfl, Nat.le_refl _, by simp [RowIn]⟩
set_option maxHeartbeats 6400000 in
set_option maxRecDepth 100000 in
theorem Term_any (ps : List Pw) (xa : Option Addr) (cap : Nat) (w : World) (hlen : ps.length ≤ 1048576) (hsz : SzP 1048576 ps) (hR : PRow w ps xa) :
    Calls Tryz.prog 112 #[.slice xa ps.length cap] w (TpPost w (termP ps)) := by
  have hb1 := heap_alloc_new w (.cells #[.int .i64 0, .string ⟨#[]⟩, .int .i64 0, .slice none 0 0] 24)
  have hBw : Ext w (w.alloc (.cells #[.int .i64 0, .string ⟨#[]⟩, .int .i64 0, .slice none 0 0] 24)) := (Ext.refl w).alloc _
  have hZ : (w.alloc (.cells #[.int .i64 0, .string ⟨#[]⟩, .int .i64 0, .slice none 0 0] 24)).heap.size = w.heap.size + 1 := World.size_alloc _ _
  obtain ⟨r, hr⟩ : ∃ r, termP ps = r := ⟨_, rfl⟩
  have HFIN : Hid (∀ W T E c0 c1 c2 c3, Ext (w.alloc (.cells #[.int .i64 0, .string ⟨#[]⟩, .int .i64 0, .slice none 0 0] 24)) W → r = (T, E) → IsIn (fun b => w.heap.size < b) W T c0 c1 c2 c3 → TpPost w r (.returned (.tuple #[.agg #[c0, c1, c2, c3], .int .i64 E])) (put4 W w.heap.size 0 c0 c1 c2 c3)) := by
    show ∀ _, _
    intro W T E c0 c1 c2 c3 hx he hI
    have hB : Below w.heap.size w W := Ext.trans hBw hx
    rw [he]
    exact ⟨_, _, _, _, rfl, IsIn_Is _ _ _ _ _ (IsIn_carry (S' := fun b => w.heap.size < b) (fun b hb => put4_other _ _ _ _ _ _ _ _ (by have : w.heap.size < b := hb; omega)) (fun _ h => h) _ _ _ _ _ hI), put4_below hB (Nat.le_refl _)⟩
  have HBX : Hid (∀ W, Ext (w.alloc (.cells #[.int .i64 0, .string ⟨#[]⟩, .int .i64 0, .slice none 0 0] 24)) W → W.heap[w.heap.size]? = some (.cells #[.int .i64 0, .string ⟨#[]⟩, .int .i64 0, .slice none 0 0] 24 (0, 0))) := fun W x => (x.block _ (by rw [hZ]; exact Nat.lt_succ_self _)).trans hb1
  have HPE := Lib.hid (prodE_any ps xa cap _ (by unfold maxLen; omega) (fun p hp => by have := hsz p hp; omega) (PRow_below hR hBw))
  have HRX := Lib.hid (fun W (x : Ext (w.alloc (.cells #[.int .i64 0, .string ⟨#[]⟩, .int .i64 0, .slice none 0 0] 24)) W) => PRow_below (w' := W) hR (Ext.trans hBw x))
  have HSZ := Lib.hid hsz
  have HD : Hid (r = if powE 1000 ps = 0 then (if 8 < absS ps then (.mk 0 ⟨#[]⟩ 0 [], 3) else if validE (prodT (posO ps ++ negO ps)) = 0 then (prodT (posO ps ++ negO ps), 0) else (.mk 0 ⟨#[]⟩ 0 [], validE (prodT (posO ps ++ negO ps)))) else (.mk 0 ⟨#[]⟩ 0 [], powE 1000 ps)) := hr.symm.trans rfl
  rw [hr]
  have HRX0 := HRX
  clear hb1 hBw hZ hR hsz hr
  by_cases hv : powE 1000 ps = 0
  rotate_left
  · have HE : Hid (r = (.mk 0 ⟨#[]⟩ 0 [], powE 1000 ps)) := by show _ = _; rw [HD.out, if_neg hv]
    generalize powE 1000 ps = E at hv HPE HE
    have q1 : (E != 0) = true := by rw [bne_iff_ne]; exact hv
    clear hv HD
    go_enter Tryz.func112, Tryz.ntmps112
    go_wp2_with (go_at_call 147; refine (HPE.out).mono ?_; rintro e w5 ⟨he, hB⟩; subst he; have hx := HBX.out w5 hB; obtain ⟨⟨m0, m1, m2, m3⟩, n0, n1, n2, n3⟩ := box_facts hx; have HF := Lib.hid (HFIN.out w5 _ _ _ _ _ _ hB HE.out (zero_isE _ w5)); clear hB hx)
    exact bodyPost_ret (v := .tuple #[.agg #[.int .i64 0, .string ⟨#[]⟩, .int .i64 0, .slice none 0 0], .int .i64 E]) (by simp [results, Tryz.results112, go_sem, m0, m1, m2, m3]) rfl HF.out
  obtain ⟨hl200, hok, _⟩ := powE_ok hv
  have HOK : Hid (∀ p ∈ ps, -1000 ≤ p.2 ∧ p.2 ≤ 1000) := fun p hp => (pwE_ok (hok p hp)).2.2.2
  have HL2 := Lib.hid hl200
  have HD2 : Hid (r = if 8 < absS ps then (.mk 0 ⟨#[]⟩ 0 [], 3) else if validE (prodT (posO ps ++ negO ps)) = 0 then (prodT (posO ps ++ negO ps), 0) else (.mk 0 ⟨#[]⟩ 0 [], validE (prodT (posO ps ++ negO ps)))) := by show _ = _; rw [HD.out, if_pos hv]
  have HTK : Hid (∀ j (h : j < ps.length), absS (ps.take (j + 1)) = absS (ps.take j) + ps[j].2.natAbs) := by
    show ∀ _, _
    intro j h
    rw [List.take_succ_eq_append_getElem h, absS_app]; simp [absS]
  have HTB : Hid (∀ j, j ≤ ps.length → absS (ps.take j) ≤ j * 1000) := by
    show ∀ _, _
    intro j
    induction j with
    | zero => intro _; simp [absS]
    | succ j ih =>
      intro h
      have h1 := HTK.out j (by omega)
      have h2 := ih (by omega)
      have h3 := HOK.out ps[j] (List.getElem_mem (by omega))
      omega
  rw [hv] at HPE
  have q1 : ((0 : Int) != 0) = false := rfl
  clear hok hl200 hv HD
  go_enter Tryz.func112, Tryz.ntmps112
  go_wp2_with (go_at_call 147; refine (HPE.out).mono ?_; rintro e w5 ⟨he, hB⟩; subst he; have HB5 : Hid (Ext _ w5) := Lib.hid hB; clear hB)
  go_loopw [5, 18] (fun c i wr => ∃ j : Nat, j ≤ ps.length ∧ i = .int .i64 j ∧ c = .int .i64 ((absS (ps.take j) : Nat) : Int) ∧ Ext w5 wr) (fun _ i _ => ps.length - (intOf i).toNat)
  case atStart => exact ⟨0, Nat.zero_le _, rfl, by simp [absS], Ext.refl _⟩
  case round =>
    obtain ⟨j, hj, rfl, rfl, hE⟩ := hrel
    have HE := Lib.hid hE
    by_cases hlt : j < ps.length
    · obtain ⟨b, o, rfl⟩ := PRow_at (HRX.out _ (Ext.refl _)) (by omega)
      obtain ⟨⟨c0, c1, c2, c3, g0, g1, g2, g3, hI⟩, hNj, hNo⟩ := PRow_get (HRX.out _ (Ext.trans HB5.out hE)) j hlt
      obtain ⟨k, n, s, ya, yl, yc, rfl, rfl, rfl, rfl⟩ := Is_form hI
      have hb := HOK.out ps[j] (List.getElem_mem hlt)
      have HT1 := Lib.hid (HTK.out j hlt)
      have ht := HTB.out j hj
      have hl := HL2.out
      generalize ps[j].2 = N at hNj hb HT1
      have HAB := Lib.hid (fun W => absolute_any N W (by omega) (by omega))
      have i1 : (0 : Int) ≤ (j : Int) := by omega
      have i2 : (j : Int) < (ps.length : Int) := by omega
      have hx1 : (0 : Int) ≤ ((absS (ps.take j) : Nat) : Int) := by omega
      have hx2 : ((absS (ps.take j) : Nat) : Int) + ((N.natAbs : Nat) : Int) ≤ 9223372036854775807 := by
        have : absS (ps.take j) ≤ 200 * 1000 := Nat.le_trans ht (Nat.mul_le_mul_right _ (by omega))
        omega
      have hx3 : (0 : Int) ≤ ((N.natAbs : Nat) : Int) := by omega
      have HNA : Hid (((absS (ps.take (j + 1)) : Nat) : Int) = ((absS (ps.take j) : Nat) : Int) + ((N.natAbs : Nat) : Int)) := by show _ = _; rw [HT1.out]; omega
      generalize ((absS (ps.take j) : Nat) : Int) = A at hx1 hx2 HNA ⊢
      obtain ⟨B, hB⟩ : ∃ B : Int, ((N.natAbs : Nat) : Int) = B := ⟨_, rfl⟩
      rw [hB] at HAB hx2 hx3 HNA
      have HEn : Hid (Ext wr (wr.alloc (.cells #[.int .i64 k, .string n, .int .i64 s, .slice ya yl yc, .int .i64 N] 145))) := (Ext.refl wr).alloc _
      clear hE hI hNo hb ht hl hB
      go_wp2_with (go_at_call 148; refine (HAB.out _).mono ?_; rintro e w6 ⟨he, hw⟩; subst he; have hw' := hw.symm; subst hw')
      go_roundw
      case rel => exact ⟨j + 1, by omega, by go_num, by rw [HNA.out], Ext.trans HE.out HEn.out⟩
      case measure => simp [intOf]; omega
    · obtain rfl : j = ps.length := by omega
      rw [List.take_length] at *
      have HW := Lib.hid (Ext.trans HB5.out hE)
      by_cases h8 : 8 < absS ps
      · have HE3 : Hid (r = (.mk 0 ⟨#[]⟩ 0 [], 3)) := by show _ = _; rw [HD2.out, if_pos h8]
        have q8 : (8 : Int) < ((absS ps : Nat) : Int) := by omega
        have hx := HBX.out wr HW.out
        obtain ⟨⟨m0, m1, m2, m3⟩, n0, n1, n2, n3⟩ := box_facts hx
        have HF := Lib.hid (HFIN.out wr _ _ _ _ _ _ HW.out HE3.out (zero_isE _ wr))
        clear hx h8 hE
        go_wp2_with fail
        exact bodyPost_ret (v := .tuple #[.agg #[.int .i64 0, .string ⟨#[]⟩, .int .i64 0, .slice none 0 0], .int .i64 3]) (by simp [results, Tryz.results112, go_sem, m0, m1, m2, m3]) rfl HF.out
      · have HD3 : Hid (r = if validE (prodT (posO ps ++ negO ps)) = 0 then (prodT (posO ps ++ negO ps), 0) else (.mk 0 ⟨#[]⟩ 0 [], validE (prodT (posO ps ++ negO ps)))) := by show _ = _; rw [HD2.out, if_neg h8]
        have q8 : ((absS ps : Nat) : Int) ≤ 8 := by omega
        have HOP := Lib.hid (operands_any ps xa cap wr hlen (fun p hp => by have := HSZ.out p hp; omega) (by omega) (HRX.out _ HW.out))
        have h88 := ops_len ps
        have hll : (posO ps ++ negO ps).length ≤ 8 := by rw [List.length_append]; omega
        have HPZ : Hid (size (prodT (posO ps ++ negO ps)) ≤ 1073741824) := by
          show _ ≤ _
          have hm : ∀ t ∈ posO ps ++ negO ps, size t ≤ 1048577 := by
            intro t ht
            rw [List.mem_append] at ht
            rcases ht with ht | ht
            · obtain ⟨p, hp, h⟩ := List.mem_flatMap.1 ht
              rw [(List.mem_replicate.1 h).2]; have := HSZ.out p hp; omega
            · obtain ⟨p, hp, h⟩ := List.mem_flatMap.1 ht
              rw [(List.mem_replicate.1 h).2]
              have := HSZ.out p hp
              have e : size (tInv p.1) = 1 + (size p.1 + 0) := rfl
              rw [e]; omega
          have h1 := size_prodT _ hm
          have h2 : (posO ps ++ negO ps).length * 1048577 ≤ 8 * 1048577 := Nat.mul_le_mul_right _ hll
          omega
        generalize posO ps ++ negO ps = ol at HOP HD3 HPZ hll
        have HLL := Lib.hid hll
        have HPD := Lib.hid (fun (S : Nat → Prop) xa cap W hS hc hR => product_any S ol xa cap W hS (by omega) hc hR)
        unfold TaPost at HPD
        generalize prodT ol = T at HPD HD3 HPZ
        have HWR : Hid (w.heap.size < wr.heap.size) := by show _ < _; have := HW.out.size; rw [World.size_alloc] at this; omega
        clear h88 h8 hE hll
        go_upto_region 13 with (first
          | (go_at_call 150; refine (HOP.out).mono ?_; rintro e w6 ⟨ya, c, he, hc, hr, hB⟩; subst he; have HPR := Lib.hid (HPD.out _ ya c w6 (fun b hb => hb.2) hc hr); have HB6 : Hid (Ext wr w6) := Lib.hid hB; clear hc hr hB)
          | (go_at_call 149; refine (HPR.out).mono ?_; rintro e w7 ⟨c0, c1, c2, c3, he, hI7, hB⟩; subst he; obtain ⟨k6, n6, s6, xa6, l6, cap6, e0, e1, e2, e3⟩ := IsIn_form hI7; subst e0 e1 e2 e3; have HI7 := Lib.hid hI7; have HB67 : Hid (Ext w6 w7) := Lib.hid hB; have HB7 := Lib.hid (Ext.trans HB6.out hB); clear hI7 hB))
        have hb8 := heap_alloc_new w7 (.cells #[.int .i64 k6, .string n6, .int .i64 s6, .slice xa6 l6 cap6] 24)
        have hE8 : Ext w7 (w7.alloc (.cells #[.int .i64 k6, .string n6, .int .i64 s6, .slice xa6 l6 cap6] 24)) := (Ext.refl w7).alloc _
        have hs8 : (w7.alloc (.cells #[.int .i64 k6, .string n6, .int .i64 s6, .slice xa6 l6 cap6] 24)).heap.size = w7.heap.size + 1 := World.size_alloc _ _
        have hI8 := IsIn_carry (S' := fun b => w.heap.size < b ∧ b < (w7.alloc (.cells #[.int .i64 k6, .string n6, .int .i64 s6, .slice xa6 l6 cap6] 24)).heap.size) (fun b hb => hE8.block b (by have := hb.2; have := HB67.out.size; omega)) (fun b hb => ⟨by have := hb.1; have := HWR.out; omega, by rw [hs8]; have := hb.2; have := HB67.out.size; omega⟩) _ _ _ _ _ HI7.out
        have hE9 : Ext (w.alloc (.cells #[.int .i64 0, .string ⟨#[]⟩, .int .i64 0, .slice none 0 0] 24)) (w7.alloc (.cells #[.int .i64 k6, .string n6, .int .i64 s6, .slice xa6 l6 cap6] 24)) := Ext.trans HW.out (Ext.alloc HB7.out _)
        have hqn : w.heap.size < w7.heap.size := by have := HWR.out; have := HB7.out.size; omega
        generalize (w7.alloc (.cells #[.int .i64 k6, .string n6, .int .i64 s6, .slice xa6 l6 cap6] 24)) = w8 at hb8 hE8 hs8 hI8 hE9 ⊢
        generalize w7.heap.size = q at hb8 hs8 hqn ⊢
        have HVT := Lib.hid (tValid_any T _ _ _ _ w8 HPZ.out (IsIn_Is _ _ _ _ _ hI8))
        have HI8 := Lib.hid hI8
        have HE9 := Lib.hid hE9
        have HK8 : Hid (∀ W, Ext w8 W → (W.cell? ⟨q, 0, none⟩ = some (.int .i64 k6) ∧ W.cell? ⟨q, 1, none⟩ = some (.string n6) ∧ W.cell? ⟨q, 2, none⟩ = some (.int .i64 s6) ∧ W.cell? ⟨q, 3, none⟩ = some (.slice xa6 l6 cap6))) := fun W x => (box_facts ((x.block _ (by omega)).trans hb8)).1
        obtain ⟨x0, x1, x2, x3⟩ := HK8.out w8 (Ext.refl _)
        obtain ⟨E, hE'⟩ : ∃ E, validE T = E := ⟨_, rfl⟩
        rw [hE'] at HVT HD3
        clear hb8 hE8 hs8 hI8 hE9 hE'
        by_cases hE0 : E = 0
        rotate_left
        · have HE3 : Hid (r = (.mk 0 ⟨#[]⟩ 0 [], E)) := by show _ = _; rw [HD3.out, if_neg hE0]
          have q9 : (E != 0) = true := by rw [bne_iff_ne]; exact hE0
          clear hE0
          go_wp2_with (go_at_call 52; refine (HVT.out).mono ?_; rintro e w9 ⟨he, hB⟩; subst he; have hX9 : Ext _ w9 := Ext.trans HE9.out hB; obtain ⟨⟨m0, m1, m2, m3⟩, n0, n1, n2, n3⟩ := box_facts (HBX.out w9 hX9); have HF := Lib.hid (HFIN.out w9 _ _ _ _ _ _ hX9 HE3.out (zero_isE _ w9)); clear hB hX9)
          exact bodyPost_ret (v := .tuple #[.agg #[.int .i64 0, .string ⟨#[]⟩, .int .i64 0, .slice none 0 0], .int .i64 E]) (by simp [results, Tryz.results112, go_sem, m0, m1, m2, m3]) rfl HF.out
        · subst hE0
          have HE3 : Hid (r = (T, 0)) := by show _ = _; rw [HD3.out, if_pos rfl]
          have hqq : ¬ w.heap.size = q := by omega
          go_wp2_with (go_at_call 52; refine (HVT.out).mono ?_; rintro e w9 ⟨he, hB⟩; subst he; have hX9 : Ext _ w9 := Ext.trans HE9.out hB; obtain ⟨⟨m0, m1, m2, m3⟩, n0, n1, n2, n3⟩ := box_facts (HBX.out w9 hX9); obtain ⟨y0, y1, y2, y3⟩ := HK8.out w9 hB; have HF := Lib.hid (HFIN.out w9 _ _ _ _ _ _ hX9 HE3.out (IsIn_carry (S' := fun b => w.heap.size < b) (fun b hb => hB.block b hb.2) (fun b hb => hb.1) _ _ _ _ _ HI8.out)); clear hB hX9)
          exact bodyPost_ret (v := .tuple #[.agg #[.int .i64 k6, .string n6, .int .i64 s6, .slice xa6 l6 cap6], .int .i64 0]) (by simp [results, Tryz.results112, go_sem, m0, m1, m2, m3]) rfl HF.out
end Go.Proofs.YtbcpnepjojppaaaGreatDoor
