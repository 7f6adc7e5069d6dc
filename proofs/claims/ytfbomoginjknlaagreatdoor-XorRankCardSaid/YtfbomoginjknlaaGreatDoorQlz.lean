/-
  THE LAW XorSum: sums of lists in any order and in two parts, and the law's walk.
-/
import Derived.Test.YtfbomoginjknlaaGreatDoorQlw
import Derived.Test.YtfbomoginjknlaaGreatDoorQrev
namespace Go.Proofs.YtfbomoginjknlaaGreatDoor
open Go.RowKit Go.Lib

def Awake8Ok : Prop := ∀ w : World, TabQ w → Calls Tryz.prog 9 #[] w fun e w' => e = .returned (.bool true) ∧ Below w.heap.size w w'
theorem addsT_appZ : ∀ (a b : List Tm), addsT (a ++ b) = addsT a ++ addsT b
  | [], b => by rw [List.nil_append, addsT, List.nil_append]
  | t :: a, b => by rw [List.cons_append, addsT, addsT, addsT_appZ a b, List.append_assoc]
theorem firstE_iff : ∀ (l : List Tm), firstE l = 0 ↔ ∀ t ∈ l, validE t = 0
  | [] => ⟨fun _ t ht => by simp at ht, fun _ => rfl⟩
  | u :: l => ⟨fun h => firstE_all h, fun h => by
      rw [firstE, if_pos (h u (List.mem_cons_self ..))]
      exact (firstE_iff l).2 fun t ht => h t (List.mem_cons_of_mem _ ht)⟩
theorem cntA_perm {us ts : List Tm} (h : us.Perm ts) (t : Tm) : cntT (addsT us) t = cntT (addsT ts) t := by
  induction h with
  | nil => rfl
  | cons x _ ih => rw [addsT, addsT, cntT_app, cntT_app, ih]
  | swap x y l => rw [addsT, addsT, addsT, addsT, cntT_app, cntT_app, cntT_app, cntT_app]; omega
  | trans _ _ h1 h2 => rw [h1, h2]
theorem sumP_ok {ts : List Tm} (h : (sumP ts).2 = 0) : listE ts = 0 ∧ validE (sumTm (sumsR ts)) = 0 ∧ sumP ts = (sumTm (sumsR ts), 0) := by
  unfold sumP at h ⊢
  by_cases h0 : listE ts = 0
  · rw [if_pos h0] at h ⊢
    by_cases hv : validE (sumTm (sumsR ts)) = 0
    · rw [if_pos hv]; exact ⟨h0, hv, rfl⟩
    · rw [if_neg hv] at h; exact absurd h hv
  · rw [if_neg h0] at h; exact absurd h h0
theorem sumP_of {ts : List Tm} (h0 : listE ts = 0) (hv : validE (sumTm (sumsR ts)) = 0) : sumP ts = (sumTm (sumsR ts), 0) := by
  unfold sumP
  rw [if_pos h0, if_pos hv]
theorem listE_all {ts : List Tm} (h : listE ts = 0) : ts.length ≤ 200 ∧ ∀ t ∈ ts, validE t = 0 := by
  unfold listE at h
  split at h
  · cases h
  · exact ⟨by omega, firstE_all h⟩
theorem listE_of {ts : List Tm} (h1 : ts.length ≤ 200) (h : ∀ t ∈ ts, validE t = 0) : listE ts = 0 := by
  unfold listE
  rw [if_neg (by omega)]
  exact (firstE_iff ts).2 h
/-- The order does not matter. -/
theorem sumP_perm {us ts : List Tm} (hp : us.Perm ts) (h : (sumP ts).2 = 0) : sumP us = sumP ts := by
  obtain ⟨h1, h2, h3⟩ := sumP_ok h
  obtain ⟨h4, h5⟩ := listE_all h1
  have e : sumsR us = sumsR ts := (sumsR_odd us).one (sumsR_odd ts) fun t => by rw [cntA_perm hp]
  rw [h3, sumP_of (listE_of (by rw [hp.length_eq]; exact h4) fun t ht => h5 t (hp.mem_iff.1 ht)) (by rw [e]; exact h2), e]
/-- Nor that a list is summed in two parts. -/
theorem sumP_parts {ts a b : List Tm} (hab : a ++ b = ts) (h : (sumP ts).2 = 0) (ha : (sumP a).2 = 0) (hb : (sumP b).2 = 0) : sumP [(sumP a).1, (sumP b).1] = sumP ts := by
  obtain ⟨_, h2, h3⟩ := sumP_ok h
  obtain ⟨_, a2, a3⟩ := sumP_ok ha
  obtain ⟨_, b2, b3⟩ := sumP_ok hb
  have e : sumsR [(sumP a).1, (sumP b).1] = sumsR ts := by
    refine (sumsR_odd _).one (sumsR_odd ts) fun t => ?_
    rw [a3, b3]
    simp only
    rw [addsT, addsT, addsT, List.append_nil, addT_sumTm fun u hu => (sumsR_mem hu).1, addT_sumTm fun u hu => (sumsR_mem hu).1, ← hab, addsT_appZ, cntT_app, cntT_app]
    have h1 := (sumsR_odd a).cnt t
    have h2 := (sumsR_odd b).cnt t
    omega
  rw [h3, sumP_of (listE_of (by simp) fun t ht => ?_) (by rw [e]; exact h2), e]
  simp only [List.mem_cons, List.not_mem_nil, or_false] at ht
  rcases ht with rfl | rfl
  · rw [a3]; exact a2
  · rw [b3]; exact b2
theorem sizes_appZ : ∀ (l r : List Tm), sizes (l ++ r) = sizes l + sizes r
  | [], r => by simp [sizes]
  | x :: l, r => by rw [List.cons_append, sizes, sizes, sizes_appZ l r]; omega
theorem sumP_size (ts : List Tm) : size (sumP ts).1 ≤ 1 + sizes ts := by
  have h1 : size (sumTm (sumsR ts)) ≤ 1 + sizes ts := by
    have := sumTm_size (K := sumsR ts)
    have := sumsR_sizes ts
    omega
  have hz : size zilT = 1 := by kernel_rfl
  unfold sumP
  split
  · split
    · exact h1
    · simp only [hz]; omega
  · simp only [hz]; omega
theorem RowIn_takeZ {S : Nat → Prop} {w : World} : ∀ (ts : List Tm) (xa : Option Addr) (k : Nat), RowIn S w ts xa → RowIn S w (ts.take k) xa
  | [], xa, k, _ => by simp [RowIn]
  | t :: ts, xa, 0, _ => by simp [RowIn]
  | t :: ts, xa, k + 1, h => by
    simp only [List.take_succ_cons, RowIn] at h ⊢
    obtain ⟨b, o, e, hb, c, r⟩ := h
    exact ⟨b, o, e, hb, c, RowIn_takeZ ts _ k r⟩
theorem RowIn_dropZ {S : Nat → Prop} {w : World} : ∀ (ts : List Tm) (b o k : Nat), RowIn S w ts (some ⟨b, o, none⟩) → RowIn S w (ts.drop k) (some ⟨b, o + k * 4, none⟩)
  | [], b, o, k, _ => by simp [RowIn]
  | t :: ts, b, o, 0, h => by simpa using h
  | t :: ts, b, o, k + 1, h => by
    simp only [RowIn] at h
    obtain ⟨b', o', e, hb, c, r⟩ := h
    simp only [Option.some.injEq, Addr.mk.injEq, and_true] at e
    obtain ⟨rfl, rfl⟩ := e
    have := RowIn_dropZ ts b (o + 4) k r
    rw [show o + 4 + k * 4 = o + (k + 1) * 4 by omega] at this
    simpa using this
theorem cloneZ_any (base : Nat) (us : List Tm) (n : Nat) (hn : us.length = n) (xa : Option Addr) (cap : Nat) (w : World) (hb : n * 56 ≤ 140737488351232) (hbw : base ≤ w.heap.size) (hR : RowIn (fun q => q < base) w us xa) :
    Calls Tryz.prog 12 #[.slice xa n cap] w fun e w' => ∃ x c, e = .returned (.slice x n c) ∧ OwnT w.heap.size (fun q => q < base) w' us (.slice x n c) ∧ Row w' us x ∧ Ext w w' := by
  subst hn
  refine (cloneT_any base us xa cap w (by omega) hbw hR).mono fun e w' h => ?_
  obtain ⟨x, c, he, hO, hB⟩ := h
  exact ⟨x, c, he, hO, (OwnT_rowQ hO).1, hB⟩
theorem sumZ_any (us : List Tm) (P : Tm × Int) (hP : sumP us = P) (n : Nat) (hn : us.length = n) (hn2 : n ≤ 20) (hs : sizes us ≤ 300) (xa : Option Addr) (cap : Nat) (w : World) (hR : Row w us xa) :
    Calls Tryz.prog 11 #[.slice xa n cap] w (TePost w P) := by
  subst hn; subst hP
  exact Sum_any us xa cap w (by omega) (by omega) hR
theorem qsumZ_any (us : List Tm) (P : Tm × Int) (hP : sumP us = P) (n : Nat) (hn : us.length = n) (hn2 : n ≤ 20) (hs : sizes us ≤ 300) (xa : Option Addr) (cap : Nat) (w : World) (hR : Row w us xa) :
    Calls Tryz.prog 13 #[.slice xa n cap] w (TrPost w P) := by
  subst hn; subst hP
  exact qSum_any us xa cap w (by omega) (by omega) hR
theorem sameZ_any (t : Tm) (c0 c1 c2 c3 d0 d1 d2 d3 : Value) (w : World) (ht : size t ≤ 1048576) (hI : Is w t c0 c1 c2 c3) (hJ : Is w t d0 d1 d2 d3) :
    Calls Tryz.prog 14 #[.agg #[c0, c1, c2, c3], .agg #[d0, d1, d2, d3]] w fun e w' => e = .returned (.bool true) ∧ Below w.heap.size w w' := by
  have h := same_any t t _ _ _ _ _ _ _ _ w (by omega) (by omega) hI hJ
  rw [cmpT_self] at h
  exact h
theorem sizes_perm {us ts : List Tm} (h : us.Perm ts) : sizes us = sizes ts := by
  induction h with
  | nil => rfl
  | cons x _ ih => rw [sizes, sizes, ih]
  | swap x y l => rw [sizes, sizes, sizes, sizes]; omega
  | trans _ _ h1 h2 => rw [h1, h2]
theorem reverseZ_any {H : Nat} {S : Nat → Prop} (ts : List Tm) (n : Nat) (hn : ts.length = n) (hn2 : n ≤ 20) (hs : sizes ts ≤ 300) (xa : Option Addr) (cap : Nat) (w : World) (hown : OwnT H S w ts (.slice xa n cap)) (hS : ∀ b, S b → b < H) :
    Calls Tryz.prog 15 #[.slice xa n cap] w fun e w' => e = .returned (.tuple #[]) ∧ ∃ us : List Tm, us.Perm ts ∧ Row w' us xa ∧ Below H w w' := by
  subst hn
  refine (reverse_any hown hS (by omega) fun t ht => by have := size_le_sizes ht; omega).mono fun e w' h => ?_
  obtain ⟨he, us, hp, hO, hB, _⟩ := h
  rw [← hp.length_eq] at hO
  exact ⟨he, us, hp, (OwnT_rowQ hO).1, hB⟩
def SmL (w : World) (l : List (Tm × Nat)) (W : World) : Prop := Ext w W ∧ ∀ p ∈ l, Lies W p.1 p.2 0
theorem SmL.ext {w W W' : World} {l : List (Tm × Nat)} (h : SmL w l W) (x : Ext W W') : SmL w l W' := ⟨h.1.trans x, fun p hp => Lies_below (h.2 p hp) x⟩
theorem SmL.add {w W W' : World} {l : List (Tm × Nat)} {t : Tm} {b : Nat} (h : SmL w l W) (x : Ext W W') (hb : Lies W' t b 0) : SmL w ((t, b) :: l) W' := ⟨h.1.trans x, fun p hp => by
  rcases List.mem_cons.1 hp with rfl | hp
  · exact hb
  · exact Lies_below (h.2 p hp) x⟩
end Go.Proofs.YtfbomoginjknlaaGreatDoor
namespace Go.Proofs.YtfbomoginjknlaaGreatDoor
open Go.ChangeShapes Go.WideShapes Go.ChangeAt Go.RowKit Go.Deep
set_option maxRecDepth 100000 in
theorem slice_none {W : World} {r : Reach} {b0 : Nat} {xa : Option Addr} {l c : Nat} (h : Value.okWide Tryz.prog W r b0 22 (.slice xa l c)) : xa = none → c = 0 := by
  rintro rfl
  simp only [Value.okWide, Tryz.underlying22, Cell.okWide] at h
  cases l <;> cases c <;> simp_all [Cell.ok]
set_option maxRecDepth 100000 in
theorem open_u8 {W : World} {r : Reach} {b0 : Nat} {v : Value} (h : Value.okWide Tryz.prog W r b0 5 v) : ∃ z : Nat, v = .int .u8 (z : Int) ∧ z ≤ 255 := by
  obtain ⟨n, rfl⟩ := okWide_int Tryz.underlying5 h
  simp only [Value.okWide, Tryz.underlying5, Cell.okWide] at h
  have h' : IntKind.u8.has n := by
    simp only [Cell.ok, Tryz.underlying5] at h
    exact h.2
  have h : (0 : Int) ≤ n ∧ n ≤ 255 := h'
  exact ⟨n.toNat, by rw [Int.toNat_of_nonneg (by omega)], by omega⟩
end Go.Proofs.YtfbomoginjknlaaGreatDoor
