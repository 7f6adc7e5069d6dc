import Derived.Test.YtbcpnepjojppaaaGreatDoorLawTheoryKeyxPcat
import Derived.Test.YtbcpnepjojppaaaGreatDoorLawTheoryKeyxPof
namespace Go.Proofs.YtbcpnepjojppaaaGreatDoor
open Go.RowKit
def farP (n : Int) : Bool := decide (n < -1000) || decide (1000 < n)
def tooG (ps : List Pw) : Bool := ps.any fun p => farP p.2
theorem tooG_at {ps : List Pw} {j : Nat} (h : j < ps.length) (hf : farP ps[j].2 = true) : tooG ps = true := List.any_eq_true.2 ⟨_, List.getElem_mem h, hf⟩
theorem tooG_none {ps : List Pw} (h : ∀ p ∈ ps.take ps.length, farP p.2 = false) : tooG ps = false := by
  rw [List.take_length] at h
  unfold tooG
  rw [List.any_eq_false]
  intro p hp; rw [h p hp]; simp
theorem near_next {ps : List Pw} {j : Nat} (h : j < ps.length) (hf : farP ps[j].2 = false) (hp : ∀ p ∈ ps.take j, farP p.2 = false) : ∀ p ∈ ps.take (j + 1), farP p.2 = false := by
  rw [List.take_succ_eq_append_getElem h]
  intro p hq
  rcases List.mem_append.1 hq with hq | hq
  · exact hp p hq
  · rw [List.mem_singleton.1 hq]; exact hf
set_option maxHeartbeats 1600000 in
set_option maxRecDepth 100000 in
theorem farcl_any (k : Int) (n : ByteArray) (s : Int) (xa : Option Addr) (l cap : Nat) (N : Int) (w : World) :
    Calls Tryz.prog 209 #[.agg #[.int .i64 k, .string n, .int .i64 s, .slice xa l cap, .int .i64 N]] w fun e w' => e = .returned (.bool (farP N)) ∧ Below w.heap.size w w' := by
  have HC := Lib.hid (fun W => beyond_any N 1000 W (by omega) (by omega))
  have HE : Hid (Ext w (w.alloc (.cells #[.int .i64 k, .string n, .int .i64 s, .slice xa l cap, .int .i64 N] 145))) := Lib.hid ((Below.refl w.heap.size w).alloc (Nat.le_refl _) _)
  unfold farP
  generalize (decide (N < -1000) || decide (1000 < N)) = r at HC ⊢
  go_enter Tryz.func209, Tryz.ntmps209
  go_wp2_with (go_at_call 206; refine (HC.out _).mono ?_; rintro e w3 ⟨he, hB⟩; subst he; subst hB)
  go_ret
  exact ⟨rfl, HE.out⟩
set_option maxHeartbeats 1600000 in
set_option maxRecDepth 100000 in
theorem farix_any (ps : List Pw) (xa : Option Addr) (cap : Nat) (w : World) (hlen : ps.length ≤ 1073741824) (hR : PRow w ps xa) :
    Calls Tryz.prog 233 #[.slice xa ps.length cap, .func (.func 209) #[] #[]] w fun e w' => (∃ i : Int, e = .returned (.int .i64 i) ∧ decide (0 ≤ i) = tooG ps) ∧ Below w.heap.size w w' := by
  have HR := Lib.hid hR
  clear hR
  go_enter Tryz.func233, Tryz.ntmps233
  go_wp2_with fail
  go_loopw [8] (fun i wr => ∃ j : Nat, j ≤ ps.length ∧ i = .int .i64 j ∧ (∀ p ∈ ps.take j, farP p.2 = false) ∧ Ext w wr) (fun i _ => ps.length - (intOf i).toNat)
  case atStart => exact ⟨0, Nat.zero_le _, rfl, fun p hp => by simp at hp, Ext.refl w⟩
  case round =>
    obtain ⟨j, hj, rfl, hN, hE⟩ := hrel
    have HN := Lib.hid hN
    have HE := Lib.hid hE
    clear hN
    by_cases hlt : j < ps.length
    rotate_left
    · obtain rfl : j = ps.length := by omega
      have H : Hid (tooG ps = false) := tooG_none HN.out
      clear hE
      go_wp2_with fail
      go_ret
      exact ⟨⟨-1, rfl, by rw [H.out]; rfl⟩, HE.out⟩
    obtain ⟨b, o, rfl⟩ := PRow_at HR.out (by omega)
    obtain ⟨⟨c0, c1, c2, c3, e0, e1, e2, e3, hI⟩, e4, hNo⟩ := PRow_get (PRow_below HR.out hE) j hlt
    obtain ⟨k, n, s, ya, yl, yc, rfl, rfl, rfl, rfl⟩ := Is_form hI
    have HC := Lib.hid (fun W => farcl_any k n s ya yl yc ps[j].2 W)
    have HBad := Lib.hid (fun h => tooG_at (ps := ps) hlt h)
    have HNx := Lib.hid (fun h => near_next (ps := ps) hlt h HN.out)
    generalize ps[j].2 = N at HC HBad HNx e4
    have i1 : (0 : Int) ≤ (j : Int) := by omega
    have i2 : (j : Int) < (ps.length : Int) := by omega
    clear hE hI hNo
    cases hf : farP N with
    | true =>
      rw [hf] at HC
      have H : Hid (tooG ps = true) := HBad.out hf
      clear hf
      go_wp2_with (go_at_call 209; refine (HC.out _).mono ?_; rintro e w3 ⟨he, hB⟩; subst he; have HE3 := Lib.hid (Ext.trans HE.out hB); clear hB)
      go_ret
      exact ⟨⟨j, rfl, by rw [H.out]; exact decide_eq_true i1⟩, HE3.out⟩
    | false =>
      rw [hf] at HC
      have H := Lib.hid (HNx.out hf)
      clear hf
      go_wp2_with (go_at_call 209; refine (HC.out _).mono ?_; rintro e w3 ⟨he, hB⟩; subst he; have HE3 := Lib.hid (Ext.trans HE.out hB); clear hB)
      all_goals (go_roundw)
      all_goals (first | exact ⟨j + 1, by omega, by go_num, H.out, HE3.out⟩ | (simp [intOf]; omega))
set_option maxHeartbeats 800000 in
set_option maxRecDepth 100000 in
theorem farco_any (ps : List Pw) (xa : Option Addr) (cap : Nat) (w : World) (hlen : ps.length ≤ 1073741824) (hR : PRow w ps xa) :
    Calls Tryz.prog 208 #[.slice xa ps.length cap, .func (.func 209) #[] #[]] w fun e w' => e = .returned (.bool (tooG ps)) ∧ Below w.heap.size w w' := by
  have HC := Lib.hid (farix_any ps xa cap w hlen hR)
  generalize tooG ps = r at HC ⊢
  clear hR
  go_enter Tryz.func208, Tryz.ntmps208
  go_wp2_with (go_at_call 233; refine (HC.out).mono ?_; rintro e w3 ⟨⟨i, he, hd⟩, hB⟩; subst he; have HB := Lib.hid hB; clear hB)
  go_ret
  exact ⟨by rw [← hd]; rfl, HB.out⟩
set_option maxHeartbeats 800000 in
set_option maxRecDepth 100000 in
theorem tooGreat_any (ps : List Pw) (xa : Option Addr) (cap : Nat) (w : World) (hlen : ps.length ≤ 1073741824) (hR : PRow w ps xa) :
    Calls Tryz.prog 187 #[.slice xa ps.length cap] w fun e w' => e = .returned (.bool (tooG ps)) ∧ Below w.heap.size w w' := by
  have HC := Lib.hid (farco_any ps xa cap w hlen hR)
  generalize tooG ps = r at HC ⊢
  clear hR
  go_enter Tryz.func187, Tryz.ntmps187
  go_wp2_with (go_at_call 208; refine (HC.out).mono ?_; rintro e w3 ⟨he, hB⟩; subst he; have HB := Lib.hid hB; clear hB)
  go_ret
  exact ⟨rfl, HB.out⟩
def rangeE (ps : List Pw) : Int := if tooG ps = true then 7 else if 200 < ps.length then 3 else 0
end Go.Proofs.YtbcpnepjojppaaaGreatDoor
namespace Go.Proofs.YtbcpnepjojppaaaGreatDoor
open Go.RowKit
def mulP (a b : List Pw) : List Pw × Int := if powE 1000 a = 0 then (if powE 1000 b = 0 then (if rangeE (addsP a b) = 0 then (addsP a b, 0) else ([], rangeE (addsP a b))) else ([], powE 1000 b)) else ([], powE 1000 a)
theorem absS_le : ∀ {ps : List Pw}, (∀ p ∈ ps, -1000 ≤ p.2 ∧ p.2 ≤ 1000) → absS ps ≤ 1000 * ps.length
  | [], _ => by simp [absS]
  | p :: ps, h => by
    have h1 := h p (List.mem_cons_self ..)
    have h2 := absS_le (ps := ps) fun q hq => h q (List.mem_cons_of_mem _ hq)
    rw [absS, List.length_cons]; omega
theorem prod_norm {ps : List Pw} (h : powE 1000 ps = 0) : ps.length ≤ 200 ∧ NormP ps ∧ (∀ p ∈ ps, -1000 ≤ p.2 ∧ p.2 ≤ 1000) ∧ absS ps ≤ 200000 := by
  obtain ⟨h1, h2, h3⟩ := powE_ok h
  have h4 : ∀ p ∈ ps, -1000 ≤ p.2 ∧ p.2 ≤ 1000 := fun p hp => (pwE_ok (h2 p hp)).2.2.2
  have := absS_le h4
  exact ⟨h1, ⟨h3, fun p hp => (pwE_ok (h2 p hp)).2.2.1⟩, h4, by omega⟩
theorem mul_facts {a b : List Pw} (ha : powE 1000 a = 0) (hb : powE 1000 b = 0) : (a ++ b).length ≤ 400 ∧ absS (a ++ b) ≤ 400000 ∧ ∀ qs : List Pw, NormP qs → (∀ t, pwr qs t = pwr (a ++ b) t) → qs = addsP a b ∧ ∀ q ∈ qs, i64ok q.2 := by
  obtain ⟨a1, a2, a3, a4⟩ := prod_norm ha
  obtain ⟨b1, b2, b3, b4⟩ := prod_norm hb
  have h4 : absS (a ++ b) ≤ 400000 := by rw [absS_app]; omega
  refine ⟨by rw [List.length_append]; omega, h4, fun qs h1 h2 => ⟨?_, pwr_i64 h1 h2 (by omega)⟩⟩
  obtain ⟨c1, _, c3⟩ := addsP_norm b a2 b2.2
  exact norm_ext h1 c1 fun t => by rw [h2, c3, pwr_app]
theorem PsRow_pair {w : World} {H : Nat} (hH : w.heap.size = H) {l l2 : List Pw} {x x2 : Option Addr} {c c2 : Nat} (hc : l.length ≤ c) (hc2 : l2.length ≤ c2) (h1 : PRow w l x) (h2 : PRow w l2 x2) (T : TypeId) : PsRow (w.alloc (.cells #[.slice x l.length c, .slice x2 l2.length c2] T)) [l, l2] (some ⟨H, 0, none⟩) := by
  have c := cells_new_at w #[.slice x l.length c, .slice x2 l2.length c2] T H hH
  refine Or.inr ⟨H, 0, rfl, fun k hk => ?_⟩
  match k, hk with
  | 0, _ => exact ⟨x, _, c 0 _ rfl, hc, PRow_below h1 ((Ext.refl w).alloc _)⟩
  | 1, _ => exact ⟨x2, _, c 1 _ rfl, hc2, PRow_below h2 ((Ext.refl w).alloc _)⟩
theorem rangeE_far {ps : List Pw} (h : tooG ps = true) : rangeE ps = 7 := by unfold rangeE; rw [if_pos h]
theorem rangeE_long {ps : List Pw} (h : tooG ps = false) (h2 : 200 < ps.length) : rangeE ps = 3 := by unfold rangeE; rw [h, if_neg (by simp), if_pos h2]
theorem rangeE_ok {ps : List Pw} (h : tooG ps = false) (h2 : ¬ 200 < ps.length) : rangeE ps = 0 := by unfold rangeE; rw [h, if_neg (by simp), if_neg h2]
set_option maxHeartbeats 3200000 in
set_option maxRecDepth 100000 in
theorem Mul_any (a b : List Pw) (xa xb : Option Addr) (ca cb : Nat) (w : World) (hla : a.length ≤ maxLen) (hlb : b.length ≤ maxLen) (hca : a.length ≤ ca) (hcb : b.length ≤ cb) (hsa : SzP 1073741824 a) (hsb : SzP 1073741824 b) (hA : PRow w a xa) (hB : PRow w b xb) :
    Calls Tryz.prog 152 #[.slice xa a.length ca, .slice xb b.length cb] w (PePost w (mulP a b)) := by
  have HVA := Lib.hid (prodE_any a xa ca w hla hsa hA)
  have HVB := Lib.hid (fun W (y : Ext w W) => prodE_any b xb cb W hlb hsb (PRow_below (w' := W) hB y))
  have HD : Hid (mulP a b = if powE 1000 a = 0 then (if powE 1000 b = 0 then (if rangeE (addsP a b) = 0 then (addsP a b, 0) else ([], rangeE (addsP a b))) else ([], powE 1000 b)) else ([], powE 1000 a)) := rfl
  have HPS := Lib.hid (fun W (y : Ext w W) => PsRow_pair (w := W) rfl hca hcb (PRow_below (w' := W) hA y) (PRow_below (w' := W) hB y) 109)
  have HSZ : Hid (SzP 1073741824 (a ++ b)) := fun p hp => (List.mem_append.1 hp).elim (hsa p) (hsb p)
  have HMF := Lib.hid (fun h1 h2 => mul_facts (a := a) (b := b) h1 h2)
  generalize mulP a b = R at HD ⊢
  by_cases ha : powE 1000 a = 0
  rotate_left
  · have HE : Hid (R = ([], powE 1000 a)) := by show _ = _; rw [HD.out, if_neg ha]
    generalize powE 1000 a = E at ha HVA HE
    have q1 : (E != 0) = true := by rw [bne_iff_ne]; exact ha
    clear ha hA hB HD HPS HMF HSZ HVB hsa hsb hla hlb hca hcb
    go_enter Tryz.func152, Tryz.ntmps152
    go_wp2_with (go_at_call 147; refine (HVA.out).mono ?_; rintro e w1 ⟨he, hB⟩; subst he; have HB1 := Lib.hid hB; clear hB)
    exact bodyPost_ret (v := .tuple #[.slice none 0 0, .int .i64 E]) (by simp [results, Tryz.results152, go_sem]) rfl (PePost_err HE.out HB1.out)
  by_cases hb : powE 1000 b = 0
  rotate_left
  · have HE : Hid (R = ([], powE 1000 b)) := by show _ = _; rw [HD.out, if_pos ha, if_neg hb]
    rw [ha] at HVA
    generalize powE 1000 b = E at hb HVB HE
    have q0 : ((0 : Int) != 0) = false := rfl
    have q1 : (E != 0) = true := by rw [bne_iff_ne]; exact hb
    clear ha hb hA hB HD HPS HMF HSZ hsa hsb hla hlb hca hcb
    go_enter Tryz.func152, Tryz.ntmps152
    have tok1 : True := trivial
    go_wp2_with (first
      | (go_at_call 147; have _t := tok1; refine (HVA.out).mono ?_; rintro e w1 ⟨he, hB⟩; subst he; have HX1 : Hid (Ext w w1) := hB; clear hB tok1)
      | (go_at_call 147; refine (HVB.out _ HX1.out).mono ?_; rintro e w2 ⟨he, hB⟩; subst he; have HX2 : Hid (Ext w w2) := Ext.trans HX1.out hB; clear hB))
    exact bodyPost_ret (v := .tuple #[.slice none 0 0, .int .i64 E]) (by simp [results, Tryz.results152, go_sem]) rfl (PePost_err HE.out HX2.out)
  rw [ha] at HVA
  rw [hb] at HVB
  obtain ⟨hl, habs, hga⟩ := HMF.out ha hb
  have HD2 : Hid (R = if rangeE (addsP a b) = 0 then (addsP a b, 0) else ([], rangeE (addsP a b))) := by show _ = _; rw [HD.out, if_pos ha, if_pos hb]
  have HCC := Lib.hid (fun W g (h : PsRow W [a, b] (some ⟨g, 0, none⟩)) => by
    have r := concat_any [a, b] (some ⟨g, 0, none⟩) 2 W (by simp) (by simp only [List.flatten_cons, List.flatten_nil, List.append_nil]; omega) h
    simp only [List.flatten_cons, List.flatten_nil, List.append_nil, List.length_cons, List.length_nil, Nat.zero_add, Nat.reduceAdd] at r
    exact r)
  generalize addsP a b = Q at hga HD2
  have HGA := Lib.hid hga
  have HLE : Hid ((a ++ b).length < 1073741824) := Nat.lt_of_le_of_lt hl (by omega)
  have HL4 : Hid ((a ++ b).length ≤ 400) := hl
  have HAB : Hid (absS (a ++ b) ≤ 4611686018427387904) := Nat.le_trans habs (by omega)
  generalize a ++ b = ab at HSZ HCC HGA HLE HL4 HAB
  have q0 : ((0 : Int) != 0) = false := rfl
  clear ha hb hA hB HD HMF hsa hsb hla hlb hca hcb hl habs hga
  cases hT : tooG Q with
  | true =>
    have HE : Hid (R = ([], 7)) := by show _ = _; rw [HD2.out, rangeE_far hT]; rfl
    have HT := Lib.hid hT
    clear hT HD2
    go_enter Tryz.func152, Tryz.ntmps152
    have tok1 : True := trivial
    go_wp2_with (first
      | (go_at_call 147; have _t := tok1; refine (HVA.out).mono ?_; rintro e w1 ⟨he, hB⟩; subst he; have HX1 : Hid (Ext w w1) := hB; clear hB tok1)
      | (go_at_call 147; refine (HVB.out _ HX1.out).mono ?_; rintro e w2 ⟨he, hB⟩; subst he; have HX2 : Hid (Ext w w2) := Ext.trans HX1.out hB; clear hB)
      | (go_at_call 186; refine (HCC.out _ _ (HPS.out _ HX2.out)).mono ?_; rintro e w3 ⟨v3, he, hO, hB⟩; subst he; have HX3 : Hid (Ext w w3) := Ext.trans (Ext.alloc HX2.out _) hB; have HG := Lib.hid (gathered_any hO (fun _ h => h) hB.size HSZ.out HLE.out HAB.out); clear hO hB)
      | (go_at_call 145; refine (HG.out).mono ?_; rintro e w4 ⟨qs, xq, cq, he, hr, hc, hle, hnm, hpw, hz, hB, hs⟩; subst he; obtain ⟨hq, hi⟩ := HGA.out qs hnm hpw; subst hq; have HX4 : Hid (Ext w w4) := Below.trans HX3.out (hB.mono (by rw [World.size_alloc]; have := HX2.out.size; omega)); have htg := tooGreat_any qs xq cq w4 (by have := HL4.out; omega) hr; rw [HT.out] at htg; have HTG := Lib.hid htg; clear htg hr hc hle hnm hpw hz hB hs hi)
      | (go_at_call 187; refine (HTG.out).mono ?_; rintro e w5 ⟨he, hB⟩; subst he; have HX5 : Hid (Ext w w5) := Ext.trans HX4.out hB; clear hB))
    exact bodyPost_ret (v := .tuple #[.slice none 0 0, .int .i64 7]) (by simp [results, Tryz.results152, go_sem]) rfl (PePost_err HE.out HX5.out)
  | false =>
    by_cases h200 : 200 < Q.length
    · have HE : Hid (R = ([], 3)) := by show _ = _; rw [HD2.out, rangeE_long hT h200]; rfl
      have HT := Lib.hid hT
      have q2 : (200 : Int) < (Q.length : Int) := by omega
      clear hT HD2 h200
      go_enter Tryz.func152, Tryz.ntmps152
      have tok1 : True := trivial
      go_wp2_with (first
        | (go_at_call 147; have _t := tok1; refine (HVA.out).mono ?_; rintro e w1 ⟨he, hB⟩; subst he; have HX1 : Hid (Ext w w1) := hB; clear hB tok1)
        | (go_at_call 147; refine (HVB.out _ HX1.out).mono ?_; rintro e w2 ⟨he, hB⟩; subst he; have HX2 : Hid (Ext w w2) := Ext.trans HX1.out hB; clear hB)
        | (go_at_call 186; refine (HCC.out _ _ (HPS.out _ HX2.out)).mono ?_; rintro e w3 ⟨v3, he, hO, hB⟩; subst he; have HX3 : Hid (Ext w w3) := Ext.trans (Ext.alloc HX2.out _) hB; have HG := Lib.hid (gathered_any hO (fun _ h => h) hB.size HSZ.out HLE.out HAB.out); clear hO hB)
        | (go_at_call 145; refine (HG.out).mono ?_; rintro e w4 ⟨qs, xq, cq, he, hr, hc, hle, hnm, hpw, hz, hB, hs⟩; subst he; obtain ⟨hq, hi⟩ := HGA.out qs hnm hpw; subst hq; have HX4 : Hid (Ext w w4) := Below.trans HX3.out (hB.mono (by rw [World.size_alloc]; have := HX2.out.size; omega)); have htg := tooGreat_any qs xq cq w4 (by have := HL4.out; omega) hr; rw [HT.out] at htg; have HTG := Lib.hid htg; clear htg hr hc hle hnm hpw hz hB hs hi)
        | (go_at_call 187; refine (HTG.out).mono ?_; rintro e w5 ⟨he, hB⟩; subst he; have HX5 : Hid (Ext w w5) := Ext.trans HX4.out hB; clear hB))
      exact bodyPost_ret (v := .tuple #[.slice none 0 0, .int .i64 3]) (by simp [results, Tryz.results152, go_sem]) rfl (PePost_err HE.out HX5.out)
    · have HE : Hid (R = (Q, 0)) := by show _ = _; rw [HD2.out, rangeE_ok hT h200]; rfl
      have HT := Lib.hid hT
      have q2 : (Q.length : Int) ≤ 200 := by omega
      clear hT HD2 h200
      go_enter Tryz.func152, Tryz.ntmps152
      have tok1 : True := trivial
      go_wp2_with (first
        | (go_at_call 147; have _t := tok1; refine (HVA.out).mono ?_; rintro e w1 ⟨he, hB⟩; subst he; have HX1 : Hid (Ext w w1) := hB; clear hB tok1)
        | (go_at_call 147; refine (HVB.out _ HX1.out).mono ?_; rintro e w2 ⟨he, hB⟩; subst he; have HX2 : Hid (Ext w w2) := Ext.trans HX1.out hB; clear hB)
        | (go_at_call 186; refine (HCC.out _ _ (HPS.out _ HX2.out)).mono ?_; rintro e w3 ⟨v3, he, hO, hB⟩; subst he; have HX3 : Hid (Ext w w3) := Ext.trans (Ext.alloc HX2.out _) hB; have HG := Lib.hid (gathered_any hO (fun _ h => h) hB.size HSZ.out HLE.out HAB.out); clear hO hB)
        | (go_at_call 145; refine (HG.out).mono ?_; rintro e w4 ⟨qs, xq, cq, he, hr, hc, hle, hnm, hpw, hz, hB, hs⟩; subst he; obtain ⟨hq, hi⟩ := HGA.out qs hnm hpw; subst hq; have HX4 : Hid (Ext w w4) := Below.trans HX3.out (hB.mono (by rw [World.size_alloc]; have := HX2.out.size; omega)); have htg := tooGreat_any qs xq cq w4 (by have := HL4.out; omega) hr; rw [HT.out] at htg; have HTG := Lib.hid htg; have HSC := Lib.hid (fun W (y : Ext w4 W) => by have h := scaled_any 1 qs xq cq W (by omega) hz (PRow_below (w' := W) hr y); rw [scalP_one hi] at h; exact h); clear htg hr hc hle hnm hpw hz hB hs hi)
        | (go_at_call 187; refine (HTG.out).mono ?_; rintro e w5 ⟨he, hB⟩; subst he; have HY5 : Hid (Ext w4 w5) := hB; have HX5 : Hid (Ext w w5) := Ext.trans HX4.out hB; clear hB)
        | (go_at_call 146; refine (HSC.out _ HY5.out).mono ?_; rintro e w6 ⟨x6, c6, he, hc, hr, hB⟩; subst he; have HF : Hid (PePost w R (.returned (.tuple #[.slice x6 qs.length c6, .int .i64 0])) w6) := Lib.hid (by rw [HE.out]; exact ⟨x6, c6, rfl, hc, hr, Ext.trans (a := w) HX5.out hB⟩); clear hc hr hB))
      exact bodyPost_ret (v := .tuple #[.slice x6 _ c6, .int .i64 0]) (by simp [results, Tryz.results152, go_sem]) rfl HF.out
end Go.Proofs.YtbcpnepjojppaaaGreatDoor
