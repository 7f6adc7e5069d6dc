/-
  THE GROUP'S OPERATIONS, first part: powers that are too great.
-/
import Derived.Test.YtgloecnmjieaiaaGreatPcat
import Derived.Test.YtgloecnmjieaiaaGreatPadd
namespace Go.Proofs.YtgloecnmjieaiaaGreat
open Go.RowKit

/-- A power that is out of range. -/
def farP (n : Int) : Bool := decide (n < -1000) || decide (1000 < n)
def tooG (ps : List Pw) : Bool := ps.any fun p => farP p.2
theorem tooG_at {ps : List Pw} {j : Nat} (h : j < ps.length) (hf : farP ps[j].2 = true) : tooG ps = true := List.any_eq_true.2 ⟨_, List.getElem_mem h, hf⟩
theorem tooG_none {ps : List Pw} (h : ∀ p ∈ ps.take ps.length, farP p.2 = false) : tooG ps = false := by
  rw [List.take_length] at h
  unfold tooG
  rw [List.any_eq_false]
  intro p hp; rw [h p hp]; simp
theorem near_next {ps : List Pw} {j : Nat} (h : j < ps.length) (hf : farP ps[j].2 = false) (hp : ∀ p ∈ ps.take j, farP p.2 = false) : ∀ p ∈ ps.take (j + 1), farP p.2 = false := by
  rw [List.take_succ_eq_append_getElem h]
  intro p hq
  rcases List.mem_append.1 hq with hq | hq
  · exact hp p hq
  · rw [List.mem_singleton.1 hq]; exact hf
set_option maxHeartbeats 1600000 in
set_option maxRecDepth 100000 in
theorem farcl_any (k : Int) (n : ByteArray) (s : Int) (xa : Option Addr) (l cap : Nat) (N : Int) (w : World) :
    Calls Tryz.prog 93 #[.agg #[.int .i64 k, .string n, .int .i64 s, .slice xa l cap, .int .i64 N]] w fun e w' => e = .returned (.bool (farP N)) ∧ Below w.heap.size w w' := by
  have HC := Lib.hid (fun W => beyond_any N 1000 W (by omega) (by omega))
  have HE : Hid (Ext w (w.alloc (.cells #[.int .i64 k, .string n, .int .i64 s, .slice xa l cap, .int .i64 N] 77))) := Lib.hid ((Below.refl w.heap.size w).alloc (Nat.le_refl _) _)
  unfold farP
  generalize (decide (N < -1000) || decide (1000 < N)) = r at HC ⊢
  go_enter Tryz.func93, Tryz.ntmps93
  go_wp2_with (go_at_call 60; refine (HC.out _).mono ?_; rintro e w3 ⟨he, hB⟩; subst he; subst hB)
  go_ret
  exact ⟨rfl, HE.out⟩
set_option maxHeartbeats 1600000 in
set_option maxRecDepth 100000 in
theorem farix_any (ps : List Pw) (xa : Option Addr) (cap : Nat) (w : World) (hlen : ps.length ≤ 1073741824) (hR : PRow w ps xa) :
    Calls Tryz.prog 115 #[.slice xa ps.length cap, .func (.func 93) #[] #[]] w fun e w' => (∃ i : Int, e = .returned (.int .i64 i) ∧ decide (0 ≤ i) = tooG ps) ∧ Below w.heap.size w w' := by
  have HR := Lib.hid hR
  clear hR
  go_enter Tryz.func115, Tryz.ntmps115
  go_wp2_with fail
  go_loopw [8] (fun i wr => ∃ j : Nat, j ≤ ps.length ∧ i = .int .i64 j ∧ (∀ p ∈ ps.take j, farP p.2 = false) ∧ Ext w wr) (fun i _ => ps.length - (intOf i).toNat)
  case atStart => exact ⟨0, Nat.zero_le _, rfl, fun p hp => by simp at hp, Ext.refl w⟩
  case round =>
    obtain ⟨j, hj, rfl, hN, hE⟩ := hrel
    have HN := Lib.hid hN
    have HE := Lib.hid hE
    clear hN
    by_cases hlt : j < ps.length
    rotate_left
    · obtain rfl : j = ps.length := by omega
      have H : Hid (tooG ps = false) := tooG_none HN.out
      clear hE
      go_wp2_with fail
      go_ret
      exact ⟨⟨-1, rfl, by rw [H.out]; rfl⟩, HE.out⟩
    obtain ⟨b, o, rfl⟩ := PRow_at HR.out (by omega)
    obtain ⟨⟨c0, c1, c2, c3, e0, e1, e2, e3, hI⟩, e4, hNo⟩ := PRow_get (PRow_below HR.out hE) j hlt
    obtain ⟨k, n, s, ya, yl, yc, rfl, rfl, rfl, rfl⟩ := Is_form hI
    have HC := Lib.hid (fun W => farcl_any k n s ya yl yc ps[j].2 W)
    have HBad := Lib.hid (fun h => tooG_at (ps := ps) hlt h)
    have HNx := Lib.hid (fun h => near_next (ps := ps) hlt h HN.out)
    generalize ps[j].2 = N at HC HBad HNx e4
    have i1 : (0 : Int) ≤ (j : Int) := by omega
    have i2 : (j : Int) < (ps.length : Int) := by omega
    clear hE hI hNo
    cases hf : farP N with
    | true =>
      rw [hf] at HC
      have H : Hid (tooG ps = true) := HBad.out hf
      clear hf
      go_wp2_with (go_at_call 93; refine (HC.out _).mono ?_; rintro e w3 ⟨he, hB⟩; subst he; have HE3 := Lib.hid (Ext.trans HE.out hB); clear hB)
      go_ret
      exact ⟨⟨j, rfl, by rw [H.out]; exact decide_eq_true i1⟩, HE3.out⟩
    | false =>
      rw [hf] at HC
      have H := Lib.hid (HNx.out hf)
      clear hf
      go_wp2_with (go_at_call 93; refine (HC.out _).mono ?_; rintro e w3 ⟨he, hB⟩; subst he; have HE3 := Lib.hid (Ext.trans HE.out hB); clear hB)
      all_goals (go_roundw)
      all_goals (first | exact ⟨j + 1, by omega, by go_num, H.out, HE3.out⟩ | (simp [intOf]; omega))
set_option maxHeartbeats 800000 in
set_option maxRecDepth 100000 in
theorem farco_any (ps : List Pw) (xa : Option Addr) (cap : Nat) (w : World) (hlen : ps.length ≤ 1073741824) (hR : PRow w ps xa) :
    Calls Tryz.prog 92 #[.slice xa ps.length cap, .func (.func 93) #[] #[]] w fun e w' => e = .returned (.bool (tooG ps)) ∧ Below w.heap.size w w' := by
  have HC := Lib.hid (farix_any ps xa cap w hlen hR)
  generalize tooG ps = r at HC ⊢
  clear hR
  go_enter Tryz.func92, Tryz.ntmps92
  go_wp2_with (go_at_call 115; refine (HC.out).mono ?_; rintro e w3 ⟨⟨i, he, hd⟩, hB⟩; subst he; have HB := Lib.hid hB; clear hB)
  go_ret
  exact ⟨by rw [← hd]; rfl, HB.out⟩
set_option maxHeartbeats 800000 in
set_option maxRecDepth 100000 in
theorem tooGreat_any (ps : List Pw) (xa : Option Addr) (cap : Nat) (w : World) (hlen : ps.length ≤ 1073741824) (hR : PRow w ps xa) :
    Calls Tryz.prog 57 #[.slice xa ps.length cap] w fun e w' => e = .returned (.bool (tooG ps)) ∧ Below w.heap.size w w' := by
  have HC := Lib.hid (farco_any ps xa cap w hlen hR)
  generalize tooG ps = r at HC ⊢
  clear hR
  go_enter Tryz.func57, Tryz.ntmps57
  go_wp2_with (go_at_call 92; refine (HC.out).mono ?_; rintro e w3 ⟨he, hB⟩; subst he; have HB := Lib.hid hB; clear hB)
  go_ret
  exact ⟨rfl, HB.out⟩
/-- What a result's range asks. -/
def rangeE (ps : List Pw) : Int := if tooG ps = true then 7 else if 200 < ps.length then 3 else 0
set_option maxHeartbeats 1600000 in
set_option maxRecDepth 100000 in
theorem inRange_any (ps : List Pw) (xa : Option Addr) (cap : Nat) (w : World) (hlen : ps.length ≤ 1073741824) (hR : PRow w ps xa) :
    Calls Tryz.prog 59 #[.slice xa ps.length cap] w fun e w' => e = .returned (.int .i64 (rangeE ps)) ∧ Below w.heap.size w w' := by
  have HR := Lib.hid hR
  clear hR
  go_enter Tryz.func59, Tryz.ntmps59
  go_wp2_with fail
  go_loopw [3] (fun i wr => ∃ j : Nat, j ≤ ps.length ∧ i = .int .i64 j ∧ (∀ p ∈ ps.take j, farP p.2 = false) ∧ Ext w wr) (fun i _ => ps.length - (intOf i).toNat)
  case atStart => exact ⟨0, Nat.zero_le _, rfl, fun p hp => by simp at hp, Ext.refl w⟩
  case round =>
    obtain ⟨j, hj, rfl, hN, hE⟩ := hrel
    have HN := Lib.hid hN
    have HE := Lib.hid hE
    clear hN
    by_cases hlt : j < ps.length
    rotate_left
    · obtain rfl : j = ps.length := by omega
      have h0 : tooG ps = false := tooG_none HN.out
      by_cases h200 : 200 < ps.length
      · have H : Hid (rangeE ps = 3) := by show _ = _; unfold rangeE; rw [h0, if_neg (by simp), if_pos h200]
        have q : (200 : Int) < (ps.length : Int) := by omega
        clear hE h200 h0
        go_wp2_with fail
        go_ret
        exact ⟨by rw [H.out]; rfl, HE.out⟩
      · have H : Hid (rangeE ps = 0) := by show _ = _; unfold rangeE; rw [h0, if_neg (by simp), if_neg h200]
        have q : (ps.length : Int) ≤ 200 := by omega
        clear hE h200 h0
        go_wp2_with fail
        go_ret
        exact ⟨by rw [H.out]; rfl, HE.out⟩
    obtain ⟨b, o, rfl⟩ := PRow_at HR.out (by omega)
    obtain ⟨_, e4, hNo⟩ := PRow_get (PRow_below HR.out hE) j hlt
    have HBad := Lib.hid (fun h => tooG_at (ps := ps) hlt h)
    have HNx := Lib.hid (fun h => near_next (ps := ps) hlt h HN.out)
    generalize ps[j].2 = N at HBad HNx e4 hNo
    unfold i64ok at hNo
    have i1 : (0 : Int) ≤ (j : Int) := by omega
    have i2 : (j : Int) < (ps.length : Int) := by omega
    clear hE
    by_cases ha : N < -1000
    · have H : Hid (rangeE ps = 7) := by show _ = _; unfold rangeE; rw [if_pos (HBad.out (by unfold farP; rw [decide_eq_true ha]; rfl))]
      go_wp2_with fail
      go_ret
      exact ⟨by rw [H.out]; rfl, HE.out⟩
    by_cases hb : 1000 < N
    · have H : Hid (rangeE ps = 7) := by show _ = _; unfold rangeE; rw [if_pos (HBad.out (by unfold farP; rw [decide_eq_true hb, Bool.or_true]))]
      go_wp2_with fail
      go_ret
      exact ⟨by rw [H.out]; rfl, HE.out⟩
    have H := Lib.hid (HNx.out (by unfold farP; rw [decide_eq_false ha, decide_eq_false hb]; rfl))
    go_wp2_with fail
    all_goals (go_roundw)
    all_goals (first | exact ⟨j + 1, by omega, by go_num, H.out, HE.out⟩ | (simp [intOf]; omega))
end Go.Proofs.YtgloecnmjieaiaaGreat
