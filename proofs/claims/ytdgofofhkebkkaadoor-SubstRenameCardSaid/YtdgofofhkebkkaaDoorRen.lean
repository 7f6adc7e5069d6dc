/-
  RENAMING: its pure part; the bytes of a suffix, walked on both sides; the reference's longer.
-/
import Derived.Test.YtdgofofhkebkkaaDoorRput
import Derived.Test.YtdgofofhkebkkaaDoorCopyS
import Derived.Test.YtdgofofhkebkkaaDoorRound
import Derived.Test.YtdgofofhkebkkaaDoorLawFitsW
namespace Go.Proofs.YtdgofofhkebkkaaDoor
open Go.RowKit

mutual
/-- A suffix behind the names of the variables. -/
def renT (x : ByteArray) : Tm → Tm
  | .mk k n s ks => .mk k (if k = 1 then n ++ x else n) s (renL x ks)
def renL (x : ByteArray) : List Tm → List Tm
  | [] => []
  | t :: ts => renT x t :: renL x ts
end
mutual
/-- Whether the names of the variables stay short enough. -/
def shortT (x : ByteArray) : Tm → Bool
  | .mk k n _ ks => (if k = 1 then decide ((n ++ x).size ≤ 24) else true) && shortL x ks
def shortL (x : ByteArray) : List Tm → Bool
  | [] => true
  | t :: ts => shortT x t && shortL x ts
end
theorem renL_map (x : ByteArray) : ∀ ts, renL x ts = ts.map (renT x)
  | [] => rfl
  | t :: ts => by rw [renL, renL_map x ts]; rfl
theorem renL_length (x : ByteArray) (ts : List Tm) : (renL x ts).length = ts.length := by rw [renL_map, List.length_map]
theorem renL_take (x : ByteArray) (ts : List Tm) (j : Nat) (h : j < ts.length) : renL x (ts.take (j + 1)) = renL x (ts.take j) ++ [renT x ts[j]] := by
  rw [renL_map, renL_map, List.take_succ_eq_append_getElem h, List.map_append]; rfl
theorem shortL_append (x : ByteArray) : ∀ (ts us : List Tm), shortL x (ts ++ us) = (shortL x ts && shortL x us)
  | [], us => by simp [shortL]
  | t :: ts, us => by simp only [List.cons_append, shortL, shortL_append x ts us, Bool.and_assoc]
theorem shortL_take (x : ByteArray) (ts : List Tm) (j : Nat) (h : j < ts.length) : shortL x (ts.take (j + 1)) = (shortL x (ts.take j) && shortT x ts[j]) := by
  rw [List.take_succ_eq_append_getElem h, shortL_append]; simp [shortL]
theorem shortL_not (x : ByteArray) (ts : List Tm) (j : Nat) (h : j < ts.length) (hs : shortT x ts[j] = false) : shortL x ts = false := by
  have e : ts = ts.take j ++ (ts[j] :: ts.drop (j + 1)) := by rw [← List.drop_eq_getElem_cons h, List.take_append_drop]
  rw [e, shortL_append]
  simp only [shortL, hs, Bool.false_and, Bool.and_false]
theorem renT_size (x : ByteArray) (t : Tm) : size (renT x t) = size t := by
  refine Tm.rec (motive_1 := fun t => size (renT x t) = size t) (motive_2 := fun ts => sizes (renL x ts) = sizes ts) ?_ ?_ ?_ t
  · intro k n s ks ih; simp only [renT, size, ih]
  · rfl
  · intro t ts h1 h2; simp only [renL, sizes, h1, h2]
/-- The bytes of a suffix. -/
def plainB (x : ByteArray) : Bool := x.data.toList.all nameByte
/-- What Rename answers. -/
def renV (x : ByteArray) (t : Tm) : Tm × Int := if validE t = 0 then (if plainB x = true then (if shortT x t = true then (renT x t, 0) else (zeroT, 3)) else (zeroT, 2)) else (zeroT, validE t)

set_option maxHeartbeats 3200000 in
set_option maxRecDepth 100000 in
theorem isNameByte_any (n : Int) (w : World) :
    Calls Tryd.prog 69 #[.int .u8 n] w fun e w' => e = .returned (.bool (letterI n || laterI n)) ∧ w' = w := by
  have H0 : Hid ((letterI n || laterI n) = (decide ((65 ≤ n ∧ n ≤ 90) ∨ (97 ≤ n ∧ n ≤ 122)) || decide ((48 ≤ n ∧ n ≤ 57) ∨ n = 95 ∨ n = 35))) := rfl
  generalize (letterI n || laterI n) = R at H0 ⊢
  rcases (show n ≤ 34 ∨ (35 ≤ n ∧ n ≤ 35) ∨ (36 ≤ n ∧ n ≤ 47) ∨ (48 ≤ n ∧ n ≤ 57) ∨ (58 ≤ n ∧ n ≤ 64) ∨ (65 ≤ n ∧ n ≤ 90) ∨ (91 ≤ n ∧ n ≤ 94) ∨ (95 ≤ n ∧ n ≤ 95) ∨ (96 ≤ n ∧ n ≤ 96) ∨ (97 ≤ n ∧ n ≤ 122) ∨ 123 ≤ n from by omega) with hc | hc | hc | hc | hc | hc | hc | hc | hc | hc | hc
  · have HR : Hid (R = false) := by show _ = _; rw [H0.out]; simp; omega
    have b1 : (n == 95) = false := by rw [beq_eq_false_iff_ne]; omega
    have b2 : (n == 35) = false := by rw [beq_eq_false_iff_ne]; omega
    have f1 : n < 65 := by omega
    have f2 : n ≤ 90 := by omega
    have f3 : n < 97 := by omega
    have f4 : n ≤ 122 := by omega
    have f5 : n < 48 := by omega
    have f6 : n ≤ 57 := by omega
    clear hc H0
    go_enter Tryd.func69, Tryd.ntmps69
    go_wp2_with fail
    go_ret
    exact ⟨by rw [HR.out]; rfl, rfl⟩
  · have HR : Hid (R = true) := by show _ = _; rw [H0.out]; simp; omega
    have b1 : (n == 95) = false := by rw [beq_eq_false_iff_ne]; omega
    have b2 : (n == 35) = true := by rw [beq_iff_eq]; omega
    have f1 : n < 65 := by omega
    have f2 : n ≤ 90 := by omega
    have f3 : n < 97 := by omega
    have f4 : n ≤ 122 := by omega
    have f5 : n < 48 := by omega
    have f6 : n ≤ 57 := by omega
    clear hc H0
    go_enter Tryd.func69, Tryd.ntmps69
    go_wp2_with fail
    go_ret
    exact ⟨by rw [HR.out]; rfl, rfl⟩
  · have HR : Hid (R = false) := by show _ = _; rw [H0.out]; simp; omega
    have b1 : (n == 95) = false := by rw [beq_eq_false_iff_ne]; omega
    have b2 : (n == 35) = false := by rw [beq_eq_false_iff_ne]; omega
    have f1 : n < 65 := by omega
    have f2 : n ≤ 90 := by omega
    have f3 : n < 97 := by omega
    have f4 : n ≤ 122 := by omega
    have f5 : n < 48 := by omega
    have f6 : n ≤ 57 := by omega
    clear hc H0
    go_enter Tryd.func69, Tryd.ntmps69
    go_wp2_with fail
    go_ret
    exact ⟨by rw [HR.out]; rfl, rfl⟩
  · have HR : Hid (R = true) := by show _ = _; rw [H0.out]; simp; omega
    have b1 : (n == 95) = false := by rw [beq_eq_false_iff_ne]; omega
    have b2 : (n == 35) = false := by rw [beq_eq_false_iff_ne]; omega
    have f1 : n < 65 := by omega
    have f2 : n ≤ 90 := by omega
    have f3 : n < 97 := by omega
    have f4 : n ≤ 122 := by omega
    have f5 : 48 ≤ n := by omega
    have f6 : n ≤ 57 := by omega
    clear hc H0
    go_enter Tryd.func69, Tryd.ntmps69
    go_wp2_with fail
    go_ret
    exact ⟨by rw [HR.out]; rfl, rfl⟩
  · have HR : Hid (R = false) := by show _ = _; rw [H0.out]; simp; omega
    have b1 : (n == 95) = false := by rw [beq_eq_false_iff_ne]; omega
    have b2 : (n == 35) = false := by rw [beq_eq_false_iff_ne]; omega
    have f1 : n < 65 := by omega
    have f2 : n ≤ 90 := by omega
    have f3 : n < 97 := by omega
    have f4 : n ≤ 122 := by omega
    have f5 : 48 ≤ n := by omega
    have f6 : decide (n ≤ 57) = false := decide_eq_false (by omega)
    clear hc H0
    go_enter Tryd.func69, Tryd.ntmps69
    go_wp2_with fail
    go_ret
    exact ⟨by rw [HR.out]; rfl, rfl⟩
  · have HR : Hid (R = true) := by show _ = _; rw [H0.out]; simp; omega
    have b1 : (n == 95) = false := by rw [beq_eq_false_iff_ne]; omega
    have b2 : (n == 35) = false := by rw [beq_eq_false_iff_ne]; omega
    have f1 : 65 ≤ n := by omega
    have f2 : n ≤ 90 := by omega
    have f3 : n < 97 := by omega
    have f4 : n ≤ 122 := by omega
    have f5 : 48 ≤ n := by omega
    have f6 : decide (n ≤ 57) = false := decide_eq_false (by omega)
    clear hc H0
    go_enter Tryd.func69, Tryd.ntmps69
    go_wp2_with fail
    go_ret
    exact ⟨by rw [HR.out]; rfl, rfl⟩
  · have HR : Hid (R = false) := by show _ = _; rw [H0.out]; simp; omega
    have b1 : (n == 95) = false := by rw [beq_eq_false_iff_ne]; omega
    have b2 : (n == 35) = false := by rw [beq_eq_false_iff_ne]; omega
    have f1 : 65 ≤ n := by omega
    have f2 : decide (n ≤ 90) = false := decide_eq_false (by omega)
    have f3 : n < 97 := by omega
    have f4 : n ≤ 122 := by omega
    have f5 : 48 ≤ n := by omega
    have f6 : decide (n ≤ 57) = false := decide_eq_false (by omega)
    clear hc H0
    go_enter Tryd.func69, Tryd.ntmps69
    go_wp2_with fail
    go_ret
    exact ⟨by rw [HR.out]; rfl, rfl⟩
  · have HR : Hid (R = true) := by show _ = _; rw [H0.out]; simp; omega
    have b1 : (n == 95) = true := by rw [beq_iff_eq]; omega
    have b2 : (n == 35) = false := by rw [beq_eq_false_iff_ne]; omega
    have f1 : 65 ≤ n := by omega
    have f2 : decide (n ≤ 90) = false := decide_eq_false (by omega)
    have f3 : n < 97 := by omega
    have f4 : n ≤ 122 := by omega
    have f5 : 48 ≤ n := by omega
    have f6 : decide (n ≤ 57) = false := decide_eq_false (by omega)
    clear hc H0
    go_enter Tryd.func69, Tryd.ntmps69
    go_wp2_with fail
    go_ret
    exact ⟨by rw [HR.out]; rfl, rfl⟩
  · have HR : Hid (R = false) := by show _ = _; rw [H0.out]; simp; omega
    have b1 : (n == 95) = false := by rw [beq_eq_false_iff_ne]; omega
    have b2 : (n == 35) = false := by rw [beq_eq_false_iff_ne]; omega
    have f1 : 65 ≤ n := by omega
    have f2 : decide (n ≤ 90) = false := decide_eq_false (by omega)
    have f3 : n < 97 := by omega
    have f4 : n ≤ 122 := by omega
    have f5 : 48 ≤ n := by omega
    have f6 : decide (n ≤ 57) = false := decide_eq_false (by omega)
    clear hc H0
    go_enter Tryd.func69, Tryd.ntmps69
    go_wp2_with fail
    go_ret
    exact ⟨by rw [HR.out]; rfl, rfl⟩
  · have HR : Hid (R = true) := by show _ = _; rw [H0.out]; simp; omega
    have b1 : (n == 95) = false := by rw [beq_eq_false_iff_ne]; omega
    have b2 : (n == 35) = false := by rw [beq_eq_false_iff_ne]; omega
    have f1 : 65 ≤ n := by omega
    have f2 : decide (n ≤ 90) = false := decide_eq_false (by omega)
    have f3 : 97 ≤ n := by omega
    have f4 : n ≤ 122 := by omega
    have f5 : 48 ≤ n := by omega
    have f6 : decide (n ≤ 57) = false := decide_eq_false (by omega)
    clear hc H0
    go_enter Tryd.func69, Tryd.ntmps69
    go_wp2_with fail
    go_ret
    exact ⟨by rw [HR.out]; rfl, rfl⟩
  · have HR : Hid (R = false) := by show _ = _; rw [H0.out]; simp; omega
    have b1 : (n == 95) = false := by rw [beq_eq_false_iff_ne]; omega
    have b2 : (n == 35) = false := by rw [beq_eq_false_iff_ne]; omega
    have f1 : 65 ≤ n := by omega
    have f2 : decide (n ≤ 90) = false := decide_eq_false (by omega)
    have f3 : 97 ≤ n := by omega
    have f4 : decide (n ≤ 122) = false := decide_eq_false (by omega)
    have f5 : 48 ≤ n := by omega
    have f6 : decide (n ≤ 57) = false := decide_eq_false (by omega)
    clear hc H0
    go_enter Tryd.func69, Tryd.ntmps69
    go_wp2_with fail
    go_ret
    exact ⟨by rw [HR.out]; rfl, rfl⟩

theorem plain_take (x : ByteArray) (j : Nat) (h : j < x.data.toList.length) : (x.data.toList.take (j + 1)).all nameByte = ((x.data.toList.take j).all nameByte && nameByte x.data.toList[j]) := all_take h

set_option maxHeartbeats 3200000 in
set_option maxRecDepth 100000 in
/-- The reference's plain. -/
theorem rplain_any (x : ByteArray) (w : World) (hx : x.size ≤ 1048576) :
    Calls Tryd.prog 72 #[.string x] w fun e w' => e = .returned (.bool (plainB x)) ∧ w' = w := by
  have hxl : x.data.toList.length = x.size := by simp
  have HXL := Lib.hid hxl
  clear hxl
  go_enter Tryd.func72, Tryd.ntmps72
  go_wp2_with fail
  go_loopw [3] (fun i wr => ∃ j : Nat, j ≤ x.size ∧ i = .int .i64 j ∧ Hid ((x.data.toList.take j).all nameByte = true) ∧ wr = w) (fun i _ => x.size - (intOf i).toNat)
  case atStart => exact ⟨0, Nat.zero_le _, rfl, Lib.hid rfl, rfl⟩
  case round =>
    obtain ⟨j, hj, rfl, HJ, rfl⟩ := hrel
    by_cases hlt : j < x.size
    rotate_left
    · have HU : Hid (plainB x = true) := by
        show _ = _
        have h := HJ.out
        rw [List.take_of_length_le (by have := HXL.out; omega)] at h; exact h
      go_wp2_with fail
      go_ret
      exact ⟨by rw [HU.out]; rfl, rfl⟩
    have i0 : (0 : Int) ≤ (j : Int) := by omega
    have i1 : (j : Int) ≤ (j : Int) + 1 := by omega
    have i2 : (j : Int) + 1 ≤ (x.size : Int) := by omega
    have hE : (x.extract j (j + 1)).data.toList = [x.data.toList[j]'(by have := HXL.out; omega)] := by
      have hlj : j < x.data.toList.length := by have := HXL.out; omega
      simp only [ByteArray.data_extract, Array.toList_extract, List.extract_eq_take_drop]
      rw [show j + 1 - j = 1 by omega, List.drop_eq_getElem_cons hlj]
      rfl
    have hsz : (x.extract j (j + 1)).size = 1 := by rw [ByteArray.size_extract]; omega
    obtain ⟨X, hX⟩ : ∃ X, x.extract j (j + 1) = X := ⟨_, rfl⟩
    rw [hX] at hE hsz
    have hn : isNameB ((⟨#[97]⟩ ++ X : ByteArray)).data.toList = nameByte (x.data.toList[j]'(by have := HXL.out; omega)) := by
      have e : ((⟨#[97]⟩ ++ X : ByteArray)).data.toList = 97 :: X.data.toList := by simp
      rw [e, hE, isName_all]
      simp [letterI, nameByte]
    have hs1 : ((⟨#[97]⟩ ++ X : ByteArray)).size ≤ maxLen := by rw [ByteArray.size_append, hsz]; have h97 : (⟨#[97]⟩ : ByteArray).size = 1 := rfl; unfold maxLen; omega
    have HN := Lib.hid (fun W => rIsName_any (⟨#[97]⟩ ++ X) W hs1)
    rw [hn] at HN
    have HTK := Lib.hid (plain_take x j (by have := HXL.out; omega))
    have hlj : j < x.data.toList.length := by have := HXL.out; omega
    have HNOT := Lib.hid (fun (hb : nameByte x.data.toList[j] = false) => (show plainB x = false from all_not hlj hb))
    generalize nameByte (x.data.toList[j]'(by have := HXL.out; omega)) = nb at HN HTK HNOT
    have hsX : (X.size : Int) = 1 := by omega
    clear hE hsz hn hs1 hlj
    cases nb with
    | true =>
      go_wp2_with (go_at_call 84; refine (HN.out _).mono ?_; rintro e w2 ⟨he, hw⟩; subst he; subst hw)
      go_roundw
      case rel => exact ⟨j + 1, by omega, by go_num, Lib.hid (by rw [HTK.out, HJ.out]; rfl), by first | trivial | rfl⟩
      case measure => simp [intOf]; omega
    | false =>
      have HU : Hid (plainB x = false) := HNOT.out rfl
      go_wp2_with (go_at_call 84; refine (HN.out _).mono ?_; rintro e w2 ⟨he, hw⟩; subst he; subst hw)
      go_ret
      exact ⟨by rw [HU.out]; rfl, rfl⟩
end Go.Proofs.YtdgofofhkebkkaaDoor

/-
  THE WALK OF subst.rename: in place, on a term in memory of its own.
-/
namespace Go.Proofs.YtdgofofhkebkkaaDoor
open Go.RowKit

theorem SepL_move {w w' : World} : ∀ (ts : List Tm) (b o lo hi : Nat), (∀ x, lo ≤ x → x < hi → w'.heap[x]? = w.heap[x]?) → (∀ q c, o ≤ q → w.cell? ⟨b, q, none⟩ = some c → w'.cell? ⟨b, q, none⟩ = some c) → SepL w ts b o lo hi → SepL w' ts b o lo hi
  | [], b, o, lo, hi, _, _, _ => by simp [SepL]
  | t :: ts, b, o, lo, hi, hh, hc, h => by
    simp only [SepL] at h ⊢
    obtain ⟨m, hm1, hm2, ⟨c0, c1, c2, c3, g0, g1, g2, g3, hI⟩, hR⟩ := h
    exact ⟨m, hm1, hm2, ⟨c0, c1, c2, c3, hc _ _ (Nat.le_refl _) g0, hc _ _ (by omega) g1, hc _ _ (by omega) g2, hc _ _ (by omega) g3, SepT_carry t lo m c0 c1 c2 c3 (fun x hx hx2 => hh x hx (by omega)) hI⟩,
      SepL_move ts b (o + 4) m hi (fun x hx hx2 => hh x (by omega) hx2) (fun q c hq hq2 => hc q c (by omega) hq2) hR⟩
/-- One kid of a row is replaced in place; the others stand. -/
theorem SepL_put {w : World} : ∀ (ts : List Tm) (b o lo hi y : Nat), SepL w ts b o lo hi → ∀ hy : y < ts.length, ∃ ly uy c0 c1 c2 c3, lo ≤ ly ∧ ly ≤ uy ∧ uy ≤ hi ∧ w.cell? ⟨b, o + y * 4, none⟩ = some c0 ∧ w.cell? ⟨b, o + y * 4 + 1, none⟩ = some c1 ∧ w.cell? ⟨b, o + y * 4 + 2, none⟩ = some c2 ∧ w.cell? ⟨b, o + y * 4 + 3, none⟩ = some c3 ∧
    SepT w ts[y] ly uy c0 c1 c2 c3 ∧ ∀ (w' : World) (a : Tm) (e0 e1 e2 e3 : Value), (∀ x, lo ≤ x → x < hi → ¬ (ly ≤ x ∧ x < uy) → w'.heap[x]? = w.heap[x]?) → (∀ q c, o ≤ q → (q < o + y * 4 ∨ o + y * 4 + 4 ≤ q) → w.cell? ⟨b, q, none⟩ = some c → w'.cell? ⟨b, q, none⟩ = some c) →
      w'.cell? ⟨b, o + y * 4, none⟩ = some e0 → w'.cell? ⟨b, o + y * 4 + 1, none⟩ = some e1 → w'.cell? ⟨b, o + y * 4 + 2, none⟩ = some e2 → w'.cell? ⟨b, o + y * 4 + 3, none⟩ = some e3 → SepT w' a ly uy e0 e1 e2 e3 → SepL w' (ts.set y a) b o lo hi
  | t :: ts, b, o, lo, hi, 0, h, _ => by
    simp only [SepL] at h
    obtain ⟨m, hm1, hm2, ⟨c0, c1, c2, c3, g0, g1, g2, g3, hI⟩, hR⟩ := h
    refine ⟨lo, m, c0, c1, c2, c3, Nat.le_refl _, hm1, hm2, by simpa using g0, by simpa using g1, by simpa using g2, by simpa using g3, hI, fun w' a e0 e1 e2 e3 hh hc q0 q1 q2 q3 hA => ?_⟩
    simp only [List.set_cons_zero, SepL]
    simp only [Nat.zero_mul, Nat.add_zero] at q0 q1 q2 q3 hc
    exact ⟨m, hm1, hm2, ⟨e0, e1, e2, e3, q0, q1, q2, q3, hA⟩, SepL_move ts b (o + 4) m hi (fun x hx hx2 => hh x (by omega) hx2 (by omega)) (fun q c hq hq2 => hc q c (by omega) (Or.inr (by omega)) hq2) hR⟩
  | t :: ts, b, o, lo, hi, y + 1, h, hy => by
    simp only [SepL] at h
    obtain ⟨m, hm1, hm2, ⟨c0, c1, c2, c3, g0, g1, g2, g3, hI⟩, hR⟩ := h
    obtain ⟨ly, uy, d0, d1, d2, d3, h1, h2, h3, r0, r1, r2, r3, hT, hF⟩ := SepL_put ts b (o + 4) m hi y hR (by simpa using hy)
    have e : o + (y + 1) * 4 = o + 4 + y * 4 := by omega
    rw [e]
    refine ⟨ly, uy, d0, d1, d2, d3, by omega, h2, h3, r0, r1, r2, r3, by simpa using hT, fun w' a e0 e1 e2 e3 hh hc q0 q1 q2 q3 hA => ?_⟩
    simp only [List.set_cons_succ, SepL]
    exact ⟨m, hm1, hm2, ⟨c0, c1, c2, c3, hc _ _ (Nat.le_refl _) (Or.inl (by omega)) g0, hc _ _ (by omega) (Or.inl (by omega)) g1, hc _ _ (by omega) (Or.inl (by omega)) g2, hc _ _ (by omega) (Or.inl (by omega)) g3,
        SepT_carry t lo m c0 c1 c2 c3 (fun x hx hx2 => hh x hx (by omega) (by omega)) hI⟩,
      hF w' a e0 e1 e2 e3 (fun x hx hx2 => hh x (by omega) hx2) (fun q c hq => hc q c (by omega)) q0 q1 q2 q3 hA⟩

/-- A node in memory of its own that may be written. -/
structure NodeS (L : Nat) (w : World) (t : Tm) (b o lo hi : Nat) : Prop where
  cells : ∃ c0 c1 c2 c3, w.cell? ⟨b, o, none⟩ = some c0 ∧ w.cell? ⟨b, o + 1, none⟩ = some c1 ∧ w.cell? ⟨b, o + 2, none⟩ = some c2 ∧ w.cell? ⟨b, o + 3, none⟩ = some c3 ∧ SepT w t lo hi c0 c1 c2 c3
  sound : Sound w b
  out : ¬ (lo ≤ b ∧ b < hi)
  low : L ≤ lo
  lowb : L ≤ b
/-- What the call leaves: it says whether all names stay short; then the node is renamed. -/
def RnPost (L : Nat) (x : ByteArray) (t : Tm) (b o lo hi : Nat) (w : World) (e : Ending) (w' : World) : Prop :=
  e = .returned (.bool (shortT x t)) ∧ Below L w w' ∧ (∀ q, ¬ (lo ≤ q ∧ q < hi) → q ≠ b → w'.heap[q]? = w.heap[q]?) ∧ (∀ q c, (q < o ∨ o + 4 ≤ q) → w.cell? ⟨b, q, none⟩ = some c → w'.cell? ⟨b, q, none⟩ = some c) ∧ Sound w' b ∧
    (shortT x t = true → ∃ c0 c1 c2 c3, w'.cell? ⟨b, o, none⟩ = some c0 ∧ w'.cell? ⟨b, o + 1, none⟩ = some c1 ∧ w'.cell? ⟨b, o + 2, none⟩ = some c2 ∧ w'.cell? ⟨b, o + 3, none⟩ = some c3 ∧ SepT w' (renT x t) lo hi c0 c1 c2 c3)
theorem mix_set (x : ByteArray) (ks : List Tm) (j : Nat) (h : j < ks.length) : (renL x (ks.take j) ++ ks.drop j).set j (renT x ks[j]) = renL x (ks.take (j + 1)) ++ ks.drop (j + 1) := by
  have hl : (renL x (ks.take j)).length = j := by rw [renL_length, List.length_take]; omega
  rw [List.set_append_right _ _ (by omega), hl, Nat.sub_self, List.drop_eq_getElem_cons h, List.set_cons_zero, renL_take x ks j h, List.append_assoc]; rfl
theorem mix_get (x : ByteArray) (ks : List Tm) (j : Nat) (h : j < ks.length) (h2 : j < (renL x (ks.take j) ++ ks.drop j).length) : (renL x (ks.take j) ++ ks.drop j)[j] = ks[j] := by
  have hl : (renL x (ks.take j)).length = j := by rw [renL_length, List.length_take]; omega
  rw [List.getElem_append_right (by omega)]
  simp [hl]
theorem mix_len (x : ByteArray) (ks : List Tm) (j : Nat) (h : j ≤ ks.length) : (renL x (ks.take j) ++ ks.drop j).length = ks.length := by
  rw [List.length_append, renL_length, List.length_take, List.length_drop]; omega
theorem name_short {k s : Int} {n : ByteArray} {ks : List Tm} (h : nodesE (.mk k n s ks) = 0) : n.size ≤ 24 := by
  obtain ⟨h0, _⟩ := nodesE_parts h
  obtain ⟨hn, _, _⟩ := node_cases h0
  simp only [isNameB, Bool.and_eq_true, decide_eq_true_eq] at hn
  simpa using hn.1.2

set_option maxHeartbeats 3200000 in
set_option maxRecDepth 100000 in
theorem rn_var (L : Nat) (x : ByteArray) (n : ByteArray) (s : Int) (b o lo hi : Nat) (w : World) (hx : x.size ≤ 1048576) (hv : nodesE (.mk 1 n s []) = 0) (hS : NodeS L w (.mk 1 n s []) b o lo hi) :
    Calls Tryd.prog 71 #[.pointer (some ⟨b, o, none⟩), .string x] w (RnPost L x (.mk 1 n s []) b o lo hi w) := by
  have hn := name_short hv
  obtain ⟨⟨c0, c1, c2, c3, g0, g1, g2, g3, hT⟩, hsnd, hout, hlo, hlb⟩ := hS
  simp only [SepT] at hT
  obtain ⟨rfl, rfl, rfl, _, hsr, hnm, _, xa, cap, rfl, hcap, _⟩ := hT
  have e0 : ([] : List Tm).length = 0 := rfl
  rw [e0] at g3
  have q0 : (n ++ x).size = n.size + x.size := by simp
  have hsum : n.size + x.size ≤ 9223372036854775807 := by omega
  by_cases hs : n.size + x.size ≤ 24
  rotate_left
  · have HR : Hid (shortT x (.mk 1 n s []) = false) := by show _ = _; simp only [shortT, shortL, if_true, q0]; simp; omega
    have HF : Hid (RnPost L x (.mk 1 n s []) b o lo hi w (.returned (.bool false)) w) := by
      show RnPost _ _ _ _ _ _ _ _ _ _
      exact ⟨by rw [HR.out], Below.refl _ _, fun _ _ _ => rfl, fun _ _ _ h => h, hsnd, fun h => absurd (HR.out.symm.trans h) (by decide)⟩
    have q1 : (24 : Int) < (n.size : Int) + (x.size : Int) := by omega
    clear hs hsnd hv
    go_enter Tryd.func71, Tryd.ntmps71
    go_wp2_with fail
    go_ret
    exact HF.out
  · have HR : Hid (shortT x (.mk 1 n s []) = true) := by show _ = _; simp only [shortT, shortL, if_true, q0]; simp; omega
    have HF : Hid (RnPost L x (.mk 1 n s []) b o lo hi w (.returned (.bool true)) (w.setCell ⟨b, o + 1, none⟩ (.string (n ++ x)))) := by
      show RnPost _ _ _ _ _ _ _ _ _ _
      have hne : ∀ q, q ≠ o + 1 → (w.setCell ⟨b, o + 1, none⟩ (.string (n ++ x))).cell? ⟨b, q, none⟩ = w.cell? ⟨b, q, none⟩ := fun q hq => setOther (fun e => by simp only [Addr.mk.injEq, and_true, true_and] at e; omega)
      refine ⟨by rw [HR.out], (Below.refl _ _).setCell hlb _, fun q _ h2 => Below.heap_setCell _ _ _ _ h2, fun q c h1 h2 => by rw [hne q (by omega)]; exact h2, Sound_set hsnd _ _, fun _ => ⟨.int .i64 1, .string (n ++ x), .int .i64 s, .slice xa 0 cap, ?_, ?_, ?_, ?_, ?_⟩⟩
      · rw [hne o (by omega)]; exact g0
      · exact setSame g1
      · rw [hne (o + 2) (by omega)]; exact g2
      · rw [hne (o + 3) (by omega)]; exact g3
      · simp only [renT, renL, if_true, SepT]
        exact ⟨trivial, trivial, trivial, by omega, hsr, by rw [q0]; unfold maxLen; omega, by simp, xa, cap, rfl, by simp, Or.inl rfl⟩
    have q1 : (n.size : Int) + (x.size : Int) ≤ 24 := by omega
    have z1 := hsnd.free (o + 1)
    clear hs hsnd hv
    go_enter Tryd.func71, Tryd.ntmps71
    go_wp2_with fail
    go_loopw [33] (fun i wr => i = .int .i64 0 ∧ wr = w.setCell ⟨b, o + 1, none⟩ (.string (n ++ x))) (fun i _ => 0)
    case atStart => exact ⟨rfl, rfl⟩
    case round =>
      obtain ⟨rfl, rfl⟩ := hrel
      go_wp2_with fail
      go_ret
      exact HF.out

/-- At the head of rename's loop. -/
structure RnR (L : Nat) (x : ByteArray) (ks : List Tm) (lo hi kb j : Nat) (w wr : World) : Prop where
  row : SepL wr (renL x (ks.take j) ++ ks.drop j) kb 0 (kb + 1) hi
  snd : Sound wr kb
  same : ∀ q, ¬ (lo ≤ q ∧ q < hi) → wr.heap[q]? = w.heap[q]?
  below : Below L w wr
  short : shortL x (ks.take j) = true
set_option maxHeartbeats 6400000 in
set_option maxRecDepth 100000 in
theorem rn_node (L : Nat) (x : ByteArray) (k : Int) (n : ByteArray) (s : Int) (ks : List Tm) (b o lo hi : Nat) (w : World) (hk1 : ¬ k = 1) (hkl : ks.length ≤ 1048576) (hS : NodeS L w (.mk k n s ks) b o lo hi)
    (ih : ∀ (j : Nat) (h : j < ks.length) (b o lo hi : Nat) (w : World), NodeS L w ks[j] b o lo hi → Calls Tryd.prog 71 #[.pointer (some ⟨b, o, none⟩), .string x] w (RnPost L x ks[j] b o lo hi w)) :
    Calls Tryd.prog 71 #[.pointer (some ⟨b, o, none⟩), .string x] w (RnPost L x (.mk k n s ks) b o lo hi w) := by
  obtain ⟨⟨c0, c1, c2, c3, g0, g1, g2, g3, hT⟩, hsnd, hout, hlo, hlb⟩ := hS
  simp only [SepT] at hT
  obtain ⟨rfl, rfl, rfl, hkr, hsr, hnm, hlm, xa, cap, rfl, hcap, hrow⟩ := hT
  have q1 : (k == 1) = false := by simp [hk1]
  have HSH : Hid (shortT x (.mk k n s ks) = shortL x ks) := by show _ = _; simp [shortT, hk1]
  have HRT : Hid (renT x (.mk k n s ks) = .mk k n s (renL x ks)) := by show _ = _; simp [renT, hk1]
  have hcs : ∀ (W : World), (∀ q, ¬ (lo ≤ q ∧ q < hi) → W.heap[q]? = w.heap[q]?) → ∀ q, W.cell? ⟨b, q, none⟩ = w.cell? ⟨b, q, none⟩ := fun W h q => by unfold World.cell?; simp only; rw [h b hout]
  have HBAD : Hid (∀ (W : World), Below L w W → (∀ q, ¬ (lo ≤ q ∧ q < hi) → W.heap[q]? = w.heap[q]?) → shortL x ks = false → RnPost L x (.mk k n s ks) b o lo hi w (.returned (.bool false)) W) := fun W hB hq hsh =>
    ⟨by rw [HSH.out, hsh], hB, fun q h1 _ => hq q h1, fun q c _ h => (hcs W hq q).trans h, by obtain ⟨cs, h⟩ := hsnd; exact ⟨cs, (hq b hout).trans h⟩, fun h => by rw [HSH.out, hsh] at h; exact absurd h (by decide)⟩
  have HEND : Hid (∀ (W : World), Below L w W → (∀ q, ¬ (lo ≤ q ∧ q < hi) → W.heap[q]? = w.heap[q]?) → shortL x ks = true → (ks.length = 0 ∨ ∃ kb, xa = some ⟨kb, 0, none⟩ ∧ lo ≤ kb ∧ kb < hi ∧ Sound W kb ∧ SepL W (renL x ks) kb 0 (kb + 1) hi) → RnPost L x (.mk k n s ks) b o lo hi w (.returned (.bool true)) W) := fun W hB hq hsh hr => by
    refine ⟨by rw [HSH.out, hsh], hB, fun q h1 _ => hq q h1, fun q c _ h => (hcs W hq q).trans h, by obtain ⟨cs, h⟩ := hsnd; exact ⟨cs, (hq b hout).trans h⟩, fun _ => ⟨_, _, _, _, (hcs W hq _).trans g0, (hcs W hq _).trans g1, (hcs W hq _).trans g2, (hcs W hq _).trans g3, ?_⟩⟩
    rw [HRT.out]
    simp only [SepT]
    refine ⟨trivial, trivial, trivial, hkr, hsr, hnm, by rw [renL_length]; exact hlm, xa, cap, by rw [renL_length], by rw [renL_length]; exact hcap, ?_⟩
    rw [renL_length]; exact hr
  have HC : Hid (∀ (W : World), (∀ q, ¬ (lo ≤ q ∧ q < hi) → W.heap[q]? = w.heap[q]?) → W.cell? ⟨b, o + 3, none⟩ = some (.slice xa ks.length cap)) := fun W hq => (hcs W hq _).trans g3
  clear hk1 hkr hsr hnm hlm hcap hsnd hcs HSH HRT
  by_cases h0 : ks.length = 0
  · have hnil : ks = [] := List.length_eq_zero_iff.1 h0
    subst hnil
    have HF := Lib.hid (HEND.out w (Below.refl _ _) (fun _ _ => rfl) rfl (Or.inl rfl))
    have e0 : ([] : List Tm).length = 0 := rfl
    rw [e0] at g3
    clear hrow h0 HBAD HEND HC
    go_enter Tryd.func71, Tryd.ntmps71
    go_wp2_with fail
    go_loopw [33] (fun i wr => i = .int .i64 0 ∧ wr = w) (fun i _ => 0)
    case atStart => exact ⟨rfl, rfl⟩
    case round =>
      obtain ⟨rfl, rfl⟩ := hrel
      go_wp2_with fail
      go_ret
      exact HF.out
  have hrow2 : ∃ kb, xa = some ⟨kb, 0, none⟩ ∧ lo ≤ kb ∧ kb < hi ∧ Sound w kb ∧ SepL w ks kb 0 (kb + 1) hi := hrow.resolve_left h0
  clear hrow
  obtain ⟨kb, rfl, hk0, hk2, hks, hkr⟩ := hrow2
  have HST : Hid (RnR L x ks lo hi kb 0 w w) := ⟨by simpa [renL] using hkr, hks, fun _ _ => rfl, Below.refl _ _, by simp [shortL]⟩
  have HIH := Lib.hid ih
  have HLK := Lib.hid (And.intro hlo hk0)
  clear hks hkr ih h0
  go_enter Tryd.func71, Tryd.ntmps71
  go_wp2_with fail
  go_loopw [33] (fun i wr => ∃ j : Nat, j ≤ ks.length ∧ i = .int .i64 j ∧ RnR L x ks lo hi kb j w wr) (fun i _ => ks.length - (intOf i).toNat)
  case atStart => exact ⟨0, Nat.zero_le _, rfl, HST.out⟩
  case round =>
    obtain ⟨j, hj, rfl, hR⟩ := hrel
    have HR := Lib.hid hR
    by_cases hlt : j < ks.length
    rotate_left
    · have hjl : j = ks.length := by omega
      have HF : Hid (RnPost L x (.mk k n s ks) b o lo hi w (.returned (.bool true)) wr) := by
        show RnPost _ _ _ _ _ _ _ _ _ _
        have h1 := hR.row
        have h2 := hR.short
        rw [hjl, List.take_length] at h1 h2
        rw [List.drop_length, List.append_nil] at h1
        exact HEND.out wr hR.below hR.same h2 (Or.inr ⟨kb, rfl, hk0, hk2, hR.snd, h1⟩)
      clear hR hjl
      go_wp2_with fail
      go_ret
      exact HF.out
    have hml := mix_len x ks j hj
    obtain ⟨ly, uy, d0, d1, d2, d3, l1, l2, l3, r0, r1, r2, r3, hT, hput⟩ := SepL_put _ kb 0 (kb + 1) hi j hR.row (by omega)
    rw [mix_get x ks j hlt] at hT
    rw [Nat.zero_add] at r0 r1 r2 r3
    have HCALL := Lib.hid (HIH.out j hlt kb (j * 4) ly uy wr ⟨⟨d0, d1, d2, d3, r0, r1, r2, r3, hT⟩, hR.snd, by omega, by omega, by omega⟩)
    have HNB := Lib.hid (fun (h : shortT x ks[j] = false) => shortL_not x ks j hlt h)
    have HTK := Lib.hid (shortL_take x ks j hlt)
    have HNX : Hid (∀ w3, Below L wr w3 → (∀ q, ¬ (ly ≤ q ∧ q < uy) → q ≠ kb → w3.heap[q]? = wr.heap[q]?) → (∀ q c, (q < j * 4 ∨ j * 4 + 4 ≤ q) → wr.cell? ⟨kb, q, none⟩ = some c → w3.cell? ⟨kb, q, none⟩ = some c) → Sound w3 kb → shortT x ks[j] = true → (∃ c0 c1 c2 c3, w3.cell? ⟨kb, j * 4, none⟩ = some c0 ∧ w3.cell? ⟨kb, j * 4 + 1, none⟩ = some c1 ∧ w3.cell? ⟨kb, j * 4 + 2, none⟩ = some c2 ∧ w3.cell? ⟨kb, j * 4 + 3, none⟩ = some c3 ∧ SepT w3 (renT x ks[j]) ly uy c0 c1 c2 c3) → RnR L x ks lo hi kb (j + 1) w w3) := by
      show ∀ _, _
      intro w3 hB hq hc hsn hsh ⟨e0, e1, e2, e3, p0, p1, p2, p3, hT3⟩
      refine ⟨?_, hsn, fun q h => (hq q (by omega) (by omega)).trans (HR.out.same q h), HR.out.below.trans hB, by rw [HTK.out, HR.out.short, hsh]; rfl⟩
      rw [← mix_set x ks j hlt]
      refine hput w3 _ e0 e1 e2 e3 (fun y h1 h2 h3 => hq y h3 (by omega)) (fun q c _ h2 h3 => hc q c (by omega) h3) ?_ ?_ ?_ ?_ hT3
      · rw [Nat.zero_add]; exact p0
      · rw [Nat.zero_add]; exact p1
      · rw [Nat.zero_add]; exact p2
      · rw [Nat.zero_add]; exact p3
    have HFR : Hid (∀ w3, Below L wr w3 → (∀ q, ¬ (ly ≤ q ∧ q < uy) → q ≠ kb → w3.heap[q]? = wr.heap[q]?) → Below L w w3 ∧ ∀ q, ¬ (lo ≤ q ∧ q < hi) → w3.heap[q]? = w.heap[q]?) := fun w3 hB hq => ⟨HR.out.below.trans hB, fun q h => (hq q (by omega) (by omega)).trans (HR.out.same q h)⟩
    have hg := HC.out wr hR.same
    have i1 : (0 : Int) ≤ (j : Int) := by omega
    have i2 : (j : Int) < (ks.length : Int) := by omega
    unfold RnPost at HCALL
    clear g3 hml l1 l2 l3 r0 r1 r2 r3 hT hput hR
    obtain ⟨sb, hsb⟩ : ∃ sb, shortT x ks[j] = sb := ⟨_, rfl⟩
    rw [hsb] at HCALL HNB HNX
    clear hsb
    cases sb with
    | true =>
      go_wp2_with (go_at_call 71; refine (HCALL.out).mono ?_; rintro e w3 ⟨he, hB, hq, hc, hsn, hok⟩; subst he; have HN3 := Lib.hid (HNX.out w3 hB hq hc hsn (by first | trivial | rfl) (hok (by first | trivial | rfl))); clear hB hq hc hsn hok)
      go_roundw
      case rel => exact ⟨j + 1, by omega, by go_num, HN3.out⟩
      case measure => simp [intOf]; omega
    | false =>
      go_wp2_with (go_at_call 71; refine (HCALL.out).mono ?_; rintro e w3 ⟨he, hB, hq, hc, hsn, hok⟩; subst he; have HF3 := Lib.hid (HFR.out w3 hB hq); clear hB hq hc hsn hok)
      go_ret
      exact HBAD.out _ HF3.out.1 HF3.out.2 (HNB.out (by first | trivial | rfl))

theorem rename_any (L : Nat) (x : ByteArray) (hx : x.size ≤ 1048576) (m : Nat) : ∀ (t : Tm) (b o lo hi : Nat) (w : World), size t ≤ m → m ≤ 1048576 → nodesE t = 0 → NodeS L w t b o lo hi →
    Calls Tryd.prog 71 #[.pointer (some ⟨b, o, none⟩), .string x] w (RnPost L x t b o lo hi w) := by
  induction m with
  | zero => intro t b o lo hi w h; have := size_pos t; omega
  | succ m ih =>
    intro t b o lo hi w hm hM hv hS
    obtain ⟨k, n, s, ks⟩ := t
    have hs : size (.mk k n s ks) = 1 + sizes ks := rfl
    have hl := length_le_sizes ks
    obtain ⟨h1, h2⟩ := nodesE_parts hv
    by_cases hk : k = 1
    · subst hk
      have := nodeE_var h1
      subst this
      exact rn_var L x n s b o lo hi w hx hv hS
    · refine rn_node L x k n s ks b o lo hi w hk (by omega) hS (fun j hj b o lo hi w hS => ih ks[j] b o lo hi w ?_ (by omega) (nodesL_get h2 j hj) hS)
      have := size_le_sizes (List.getElem_mem hj)
      omega
end Go.Proofs.YtdgofofhkebkkaaDoor

/-
  THE WALKS OF subst.Rename, of the reference's longer and Rename.
-/
namespace Go.Proofs.YtdgofofhkebkkaaDoor
open Go.RowKit

/-- A copy, each row of kids in a block of its own. -/
def SepPost (w : World) (t : Tm) (tail : Value → Value) (e : Ending) (w' : World) : Prop :=
  ∃ c0 c1 c2 c3 lo hi, e = .returned (tail (.agg #[c0, c1, c2, c3])) ∧ w.heap.size ≤ lo ∧ lo ≤ hi ∧ hi ≤ w'.heap.size ∧ SepT w' t lo hi c0 c1 c2 c3 ∧ Below w.heap.size w w'

set_option maxHeartbeats 1600000 in
set_option maxRecDepth 100000 in
theorem At_sep (t : Tm) (c0 c1 c2 c3 v : Value) (w : World) (hM : size t ≤ 1073741824) (hI : Is w t c0 c1 c2 c3) (hp : IntsV w v []) :
    Calls Tryd.prog 100 #[.agg #[c0, c1, c2, c3], v] w (SepPost w t (fun x => .tuple #[x, .int .i64 0])) := by
  have hp' := hp
  obtain ⟨xa, cap, hv, _⟩ := hp'
  subst hv
  have hX : Ext w ((w.alloc (.cells #[c0, c1, c2, c3] 25)).alloc (.cells #[.int .i64 0, .string ⟨#[]⟩, .int .i64 0, .slice none 0 0] 25)) := ((Ext.refl w).alloc _).alloc _
  have hL0 : Lies ((w.alloc (.cells #[c0, c1, c2, c3] 25)).alloc (.cells #[.int .i64 0, .string ⟨#[]⟩, .int .i64 0, .slice none 0 0] 25)) t w.heap.size 0 := Lies_carry (keep_alloc _ _) (Lies_box hI 25)
  have HF := Lib.hid (find_any t [] _ _ _ _ hL0 (IntsV_below hp hX))
  have HX := Lib.hid hX
  have hr : atT t [] = some t := by simp [atT]
  rw [hr] at HF
  clear hp hI hL0 hr
  go_enter Tryd.func100, Tryd.ntmps100
  go_wp2_with (first
    | (go_at_call 131; refine (HF.out).mono ?_; rintro e w' ⟨rfl, b', o', he, hU⟩; subst he; have HU := Lib.hid hU; clear hU)
    | (go_at_call 109; refine (copyOf_sep _ t b' o' _ (Nat.le_refl _) (by omega) HU.out).mono ?_; rintro e w3 ⟨d0, d1, d2, d3, he, hJ, hB⟩; subst he; obtain ⟨k', n', s', x', l', c', e0, e1, e2, e3⟩ := SepT_form hJ; subst e0 e1 e2 e3; have HJ := Lib.hid hJ; have HB := Lib.hid hB; obtain ⟨⟨y0, y1, y2, y3⟩, z0, z1, z2, z3⟩ := box_facts (at_boxes hB); clear hJ hB))
  refine bodyPost_ret (v := .tuple #[.agg #[.int .i64 k', .string n', .int .i64 s', .slice x' l' c'], .int .i64 0]) (by simp [results, Tryd.results100, go_sem, y0, y1, y2, y3]) rfl ?_
  have hB3 : Below w.heap.size w w3 := Ext.trans (a := w) HX.out HB.out
  have hz : w.heap.size + 2 ≤ w3.heap.size := by have := HB.out.size; simpa using this
  refine ⟨_, _, _, _, w.heap.size + 2, w3.heap.size, rfl, by omega, hz, ?_, ?_, put4_below (g := w.heap.size + 1) (o := 0) hB3 (by omega)⟩
  · have h3 := put4_size w3 (w.heap.size + 1) 0 (.int .i64 k') (.string n') (.int .i64 s') (.slice x' l' c')
    show w3.heap.size ≤ (put4 w3 (w.heap.size + 1) 0 (.int .i64 k') (.string n') (.int .i64 s') (.slice x' l' c')).heap.size
    omega
  · have hj := HJ.out
    simp only [World.size_alloc] at hj
    exact SepT_carry (w' := put4 w3 (w.heap.size + 1) 0 (.int .i64 k') (.string n') (.int .i64 s') (.slice x' l' c')) t _ _ _ _ _ _ (fun x h1 h2 => put4_other _ _ _ _ _ _ _ _ (by omega)) hj

set_option maxHeartbeats 3200000 in
set_option maxRecDepth 100000 in
theorem scopy_sep (t : Tm) (c0 c1 c2 c3 : Value) (w : World) (hM : size t ≤ 1073741824) (hI : Is w t c0 c1 c2 c3) :
    Calls Tryd.prog 70 #[.agg #[c0, c1, c2, c3]] w (SepPost w t id) := by
  obtain ⟨k, n, s, xa, l, cap, rfl, rfl, rfl, rfl⟩ := Is_form hI
  obtain ⟨hb0, hb1, hBw, hZ⟩ := boxes2 w (.int .i64 k) (.string n) (.int .i64 s) (.slice xa l cap) (.int .i64 0) (.string ⟨#[]⟩) (.int .i64 0) (.slice none 0 0) 25
  have hIV : ∀ W, IntsV W (.slice none 0 0) [] := fun W => ⟨none, 0, rfl, Nat.zero_le _, fun x hx => by simp at hx, fun h => by simp at h⟩
  have HA := Lib.hid (At_sep t _ _ _ _ _ _ hM (Is_below hI hBw) (hIV _))
  have HB := Lib.hid hBw
  have HZ := Lib.hid hZ
  have HB1 := Lib.hid hb1
  clear hI hb0 hb1 hBw hZ hIV
  go_enter Tryd.func70, Tryd.ntmps70
  go_upto_region 2 with (go_at_call 100; refine (HA.out).mono ?_; rintro e w5 ⟨d0, d1, d2, d3, lo, hi, he, hlo, hlh, hhi, hI, hB5⟩; subst he; obtain ⟨xk, xn, xs, xr, xn2, xc, e0', e1', e2', e3'⟩ := SepT_form hI; subst e0'; subst e1'; subst e2'; subst e3'; have HE5 := Lib.hid hB5; have HI5 := Lib.hid hI; have HLH := Lib.hid (And.intro hlo (And.intro hlh hhi)); clear hB5 hI hlo hlh hhi)
  have hs5 := HE5.out.size
  have hZZ := HZ.out
  have hb : (w5.alloc (.cells #[.int .i64 xk, .string xn, .int .i64 xs, .slice xr xn2 xc] 25)).heap[w.heap.size + 1]? = some (.cells #[.int .i64 0, .string ⟨#[]⟩, .int .i64 0, .slice none 0 0] 25 (0, 0)) := (Below.heap_alloc _ _ _ (by omega)).trans ((HE5.out.block _ (by omega)).trans HB1.out)
  have hx0 := heap_alloc_new w5 (.cells #[.int .i64 xk, .string xn, .int .i64 xs, .slice xr xn2 xc] 25)
  have hB6 : Below w.heap.size w (w5.alloc (.cells #[.int .i64 xk, .string xn, .int .i64 xs, .slice xr xn2 xc] 25)) := (HB.out.trans (HE5.out.mono (by omega))).alloc (by omega) _
  have hI6 : SepT (w5.alloc (.cells #[.int .i64 xk, .string xn, .int .i64 xs, .slice xr xn2 xc] 25)) t lo hi (.int .i64 xk) (.string xn) (.int .i64 xs) (.slice xr xn2 xc) := SepT_carry t _ _ _ _ _ _ (fun x h1 h2 => Below.heap_alloc _ _ _ (by have := HLH.out.2.2; omega)) HI5.out
  have hs6 : (w5.alloc (.cells #[.int .i64 xk, .string xn, .int .i64 xs, .slice xr xn2 xc] 25)).heap.size = w5.heap.size + 1 := World.size_alloc _ _
  generalize (w5.alloc (.cells #[.int .i64 xk, .string xn, .int .i64 xs, .slice xr xn2 xc] 25)) = w6 at hb hx0 hB6 hI6 hs6 ⊢
  obtain ⟨⟨m0, m1, m2, m3⟩, n0, n1, n2, n3⟩ := box_facts hb
  obtain ⟨⟨y0, y1, y2, y3⟩, _⟩ := box_facts hx0
  have HF : Hid (SepPost w t id (.returned (.agg #[.int .i64 xk, .string xn, .int .i64 xs, .slice xr xn2 xc])) (put4 w6 (w.heap.size + 1) 0 (.int .i64 xk) (.string xn) (.int .i64 xs) (.slice xr xn2 xc))) := by
    show SepPost _ _ _ _ _
    have h1 := HLH.out.1
    have h2 := HLH.out.2
    exact ⟨_, _, _, _, lo, hi, rfl, by omega, h2.1, by rw [put4_size]; omega, SepT_carry t _ _ _ _ _ _ (fun x a1 a2 => put4_other _ _ _ _ _ _ _ _ (by omega)) hI6, put4_below hB6 (by omega)⟩
  clear hb hx0 hB6 hI6 hs6 hs5 hZZ
  go_wp2_with fail
  exact bodyPost_ret (v := .agg #[.int .i64 xk, .string xn, .int .i64 xs, .slice xr xn2 xc]) (by simp [results, Tryd.results70, go_sem, m0, m1, m2, m3]) rfl HF.out

/-- The reference's longer, at the head of its loop. -/
structure LgR (base : Nat) (w : World) (k s : Int) (n n2 : ByteArray) (kids : Value) (acc : List Tm) (kv : Value) (wr : World) : Prop where
  arg : wr.heap[w.heap.size]? = some (.cells #[.int .i64 k, .string n, .int .i64 s, kids] 25 (0, 0))
  res : wr.heap[w.heap.size + 1]? = some (.cells #[.int .i64 0, .string ⟨#[]⟩, .int .i64 0, .slice none 0 0] 25 (0, 0))
  out : wr.heap[w.heap.size + 2]? = some (.cells #[.int .i64 k, .string n2, .int .i64 s, kv] 25 (0, 0))
  acc : KidsIn base (w.heap.size + 3) wr acc kv
  below : Below w.heap.size w wr
  size : w.heap.size + 3 ≤ wr.heap.size
theorem LgR.store {base : Nat} {w w8 : World} {k s : Int} {n n2 : ByteArray} {kids kv kv' : Value} {acc : List Tm} (hb : base ≤ w.heap.size)
    (h0 : w8.heap[w.heap.size]? = some (.cells #[.int .i64 k, .string n, .int .i64 s, kids] 25 (0, 0)))
    (h1 : w8.heap[w.heap.size + 1]? = some (.cells #[.int .i64 0, .string ⟨#[]⟩, .int .i64 0, .slice none 0 0] 25 (0, 0)))
    (h2 : w8.heap[w.heap.size + 2]? = some (.cells #[.int .i64 k, .string n2, .int .i64 s, kv] 25 (0, 0)))
    (hK : KidsIn base (w.heap.size + 3) w8 acc kv') (hB : Below w.heap.size w w8) (hz : w.heap.size + 3 ≤ w8.heap.size) :
    LgR base w k s n n2 kids acc kv' (w8.setCell ⟨w.heap.size + 2, 3, none⟩ kv') := by
  refine ⟨?_, ?_, ?_, KidsIn_keep hK (by simp [World.setCell]) (fun b hb' _ => Below.heap_setCell _ _ _ _ (by show b ≠ w.heap.size + 2; rcases hb' with h | h <;> omega)) (by omega), hB.setCell (by show w.heap.size ≤ w.heap.size + 2; omega) _, by simpa [World.setCell] using hz⟩
  · rw [Below.heap_setCell _ _ _ _ (by show w.heap.size ≠ w.heap.size + 2; omega)]; exact h0
  · rw [Below.heap_setCell _ _ _ _ (by show w.heap.size + 1 ≠ w.heap.size + 2; omega)]; exact h1
  · simp [World.setCell, Array.getElem?_modify, h2]
/-- A term and whether its names are short, given back. -/
def LgPost (base : Nat) (w : World) (t : Tm) (ok : Bool) (e : Ending) (w' : World) : Prop :=
  ∃ c0 c1 c2 c3, e = .returned (.tuple #[.agg #[c0, c1, c2, c3], .bool ok]) ∧ IsIn (fun b => b < base ∨ (w.heap.size ≤ b ∧ b < w'.heap.size)) w' t c0 c1 c2 c3 ∧ Below w.heap.size w w'

set_option maxHeartbeats 3200000 in
set_option maxRecDepth 100000 in
theorem lg_var (x : ByteArray) (n : ByteArray) (s : Int) (xk : Option Addr) (kc : Nat) (w0 w : World) (hE0 : Ext w0 w) (hx : x.size ≤ 1048576) (hn : n.size ≤ 1048576) (hI : Is w0 (.mk 1 n s []) (.int .i64 1) (.string n) (.int .i64 s) (.slice xk 0 kc)) :
    Calls Tryd.prog 73 #[.agg #[.int .i64 1, .string n, .int .i64 s, .slice xk 0 kc], .string x] w (LgPost w0.heap.size w (renT x (.mk 1 n s [])) (shortT x (.mk 1 n s []))) := by
  simp only [Is] at hI
  obtain ⟨_, _, _, _, hs, _, _, _⟩ := hI
  have q0 : (n ++ x).size = n.size + x.size := by simp
  have hsum : n.size + x.size ≤ 9223372036854775807 := by omega
  have HRS : Hid (shortT x (.mk 1 n s []) = decide ((n ++ x).size ≤ 24)) := by show _ = _; simp [shortT, shortL]
  have HRT : Hid (renT x (.mk 1 n s []) = .mk 1 (n ++ x) s []) := by show _ = _; simp [renT, renL]
  obtain ⟨hb0, hb1, hb2, hBw, hZ⟩ := boxes3 w (.int .i64 1) (.string n) (.int .i64 s) (.slice xk 0 kc) (.int .i64 0) (.string ⟨#[]⟩) (.int .i64 0) (.slice none 0 0) (.int .i64 1) (.string (n ++ x)) (.int .i64 s) (.slice none 0 0) 25
  generalize shortT x (.mk 1 n s []) = sb at HRS ⊢
  go_enter Tryd.func73, Tryd.ntmps73
  have hd : Hid ((decide ((n.size : Int) + (x.size : Int) ≤ 24)) = sb) := by
    show _ = _
    rw [HRS.out, q0]
    by_cases h : n.size + x.size ≤ 24
    · rw [decide_eq_true h, decide_eq_true (by omega)]
    · rw [decide_eq_false h, decide_eq_false (by omega)]
  have HT := Lib.hid (And.intro hs q0)
  clear HRS q0 hs
  go_wp2_with fail
  generalize (((w.alloc (.cells #[.int .i64 1, .string n, .int .i64 s, .slice xk 0 kc] 25)).alloc (.cells #[.int .i64 0, .string ⟨#[]⟩, .int .i64 0, .slice none 0 0] 25)).alloc (.cells #[.int .i64 1, .string (n ++ x), .int .i64 s, .slice none 0 0] 25)) = wb at hb0 hb1 hb2 hBw hZ ⊢
  rw [hd.out]
  have hbase := hE0.size
  obtain ⟨⟨x0, x1, x2, x3⟩, _⟩ := box_facts hb0
  obtain ⟨⟨y0, y1, y2, y3⟩, y4, y5, y6, y7⟩ := box_facts hb1
  obtain ⟨⟨z0, z1, z2, z3⟩, _⟩ := box_facts hb2
  have HF : Hid (LgPost w0.heap.size w (renT x (.mk 1 n s [])) sb (.returned (.tuple #[.agg #[.int .i64 1, .string (n ++ x), .int .i64 s, .slice none 0 0], .bool sb])) (put4 wb (w.heap.size + 1) 0 (.int .i64 1) (.string (n ++ x)) (.int .i64 s) (.slice none 0 0))) := by
    show LgPost _ _ _ _ _ _
    rw [HRT.out]
    refine ⟨_, _, _, _, rfl, ?_, put4_below hBw (by omega)⟩
    simp only [IsIn]
    exact ⟨trivial, trivial, trivial, by omega, HT.out.1, by rw [HT.out.2]; unfold maxLen; omega, Nat.zero_le _, none, 0, rfl, Nat.le_refl _, by simp [RowIn]⟩
  clear hb0 hb1 hb2 hBw hZ HT HRT hsum hd hbase
  go_loopw [7, 8] (fun okv i wr => okv = .bool sb ∧ i = .int .i64 0 ∧ wr = wb) (fun _ i _ => 0)
  case atStart => exact ⟨rfl, rfl, rfl⟩
  case round =>
    obtain ⟨rfl, rfl, rfl⟩ := hrel
    go_wp2_with fail
    exact bodyPost_ret (v := .tuple #[.agg #[.int .i64 1, .string (n ++ x), .int .i64 s, .slice none 0 0], .bool sb]) (by simp [results, Tryd.results73, go_sem, y0, y1, y2, y3]) rfl HF.out

set_option maxHeartbeats 6400000 in
set_option maxRecDepth 100000 in
theorem lg_node (x : ByteArray) (k s : Int) (n : ByteArray) (ks : List Tm) (xk : Option Addr) (kc : Nat) (w0 w : World) (hk1 : ¬ k = 1) (hE0 : Ext w0 w) (hkl : ks.length ≤ 1048576) (hI : Is w0 (.mk k n s ks) (.int .i64 k) (.string n) (.int .i64 s) (.slice xk ks.length kc))
    (ih : ∀ (j : Nat) (h : j < ks.length) (c0 c1 c2 c3 : Value) (w : World), Ext w0 w → Is w0 ks[j] c0 c1 c2 c3 → Calls Tryd.prog 73 #[.agg #[c0, c1, c2, c3], .string x] w (LgPost w0.heap.size w (renT x ks[j]) (shortT x ks[j]))) :
    Calls Tryd.prog 73 #[.agg #[.int .i64 k, .string n, .int .i64 s, .slice xk ks.length kc], .string x] w (LgPost w0.heap.size w (.mk k n s (renL x ks)) (shortL x ks)) := by
  have q1 : (k == 1) = false := by simp [hk1]
  simp only [Is] at hI
  obtain ⟨_, _, _, hk, hs, hn, hl, xa', cap', e3, hcap, hR⟩ := hI
  simp only [Value.slice.injEq, true_and] at e3
  obtain ⟨e3, e4⟩ := e3
  subst e3 e4
  have HR := Lib.hid hR
  have HE0 := Lib.hid hE0
  have HIH := Lib.hid ih
  have HN := Lib.hid (And.intro hk (And.intro hs hn))
  obtain ⟨i0, hi0, hz0, hz1, hz2⟩ := info_parts info24
  have HI0 := Lib.hid (And.intro hi0 (And.intro hz0 (And.intro hz1 hz2)))
  clear hk1 hR hE0 ih hk hs hn hi0 hz0 hz1 hz2
  obtain ⟨hb0, hb1, hb2, hBw, hZ⟩ := boxes3 w (.int .i64 k) (.string n) (.int .i64 s) (.slice xk ks.length kc) (.int .i64 0) (.string ⟨#[]⟩) (.int .i64 0) (.slice none 0 0) (.int .i64 k) (.string n) (.int .i64 s) (.slice none 0 0) 25
  have HST : Hid (LgR w0.heap.size w k s n n (.slice xk ks.length kc) (renL x (ks.take 0)) (.slice none 0 0) (((w.alloc (.cells #[.int .i64 k, .string n, .int .i64 s, .slice xk ks.length kc] 25)).alloc (.cells #[.int .i64 0, .string ⟨#[]⟩, .int .i64 0, .slice none 0 0] 25)).alloc (.cells #[.int .i64 k, .string n, .int .i64 s, .slice none 0 0] 25))) := ⟨hb0, hb1, hb2, KidsIn_nil _ _ _, hBw, by omega⟩
  have hbase := HE0.out.size
  clear hb0 hb1 hb2 hBw hZ
  go_enter Tryd.func73, Tryd.ntmps73
  go_wp2_with fail
  go_loopw [7, 8] (fun okv i wr => ∃ (j : Nat) (kv : Value) (ob : Bool), j ≤ ks.length ∧ i = .int .i64 j ∧ okv = .bool ob ∧ Hid (ob = shortL x (ks.take j)) ∧ LgR w0.heap.size w k s n n (.slice xk ks.length kc) (renL x (ks.take j)) kv wr) (fun _ i _ => ks.length - (intOf i).toNat)
  case atStart => exact ⟨0, _, true, Nat.zero_le _, rfl, rfl, Lib.hid rfl, HST.out⟩
  case round =>
    obtain ⟨j, kv, ob, hj, rfl, rfl, HOB, hP⟩ := hrel
    have hll : (renL x (ks.take j)).length = j := by rw [renL_length, List.length_take]; omega
    obtain ⟨xl, lcap, hkv⟩ := KidsIn_form hP.acc
    rw [hll] at hkv
    subst hkv
    have HP := Lib.hid hP
    have HLL := Lib.hid hll
    obtain ⟨⟨x0, x1, x2, x3⟩, _⟩ := box_facts hP.arg
    clear hP hll
    by_cases hlt : j < ks.length
    rotate_left
    · have hjl : j = ks.length := by omega
      obtain ⟨⟨y0, y1, y2, y3⟩, y4, y5, y6, y7⟩ := box_facts HP.out.res
      obtain ⟨⟨z0, z1, z2, z3⟩, z4, z5, z6, z7⟩ := box_facts HP.out.out
      have HF : Hid (LgPost w0.heap.size w (.mk k n s (renL x ks)) (shortL x ks) (.returned (.tuple #[.agg #[.int .i64 k, .string n, .int .i64 s, .slice xl j lcap], .bool ob])) (put4 wr (w.heap.size + 1) 0 (.int .i64 k) (.string n) (.int .i64 s) (.slice xl j lcap))) := by
        show LgPost _ _ _ _ _ _
        have h := KidsIn_node HP.out.acc HN.out.1 HN.out.2.1 HN.out.2.2
        have ho := HOB.out
        rw [hjl, List.take_length] at h ho
        rw [hjl, ho]
        exact ⟨_, _, _, _, rfl, IsIn_carry (fun b hb => put4_other _ _ _ _ _ _ _ _ (by rcases hb with h | h <;> omega)) (fun b hb => by rw [put4_size]; rcases hb with h | h <;> omega) _ _ _ _ _ h, put4_below HP.out.below (by omega)⟩
      clear hjl
      go_wp2_with fail
      exact bodyPost_ret (v := .tuple #[.agg #[.int .i64 k, .string n, .int .i64 s, .slice xl j lcap], .bool ob]) (by simp [results, Tryd.results73, go_sem, y0, y1, y2, y3]) rfl HF.out
    obtain ⟨b, o, rfl⟩ := Row_at HR.out (by omega)
    obtain ⟨v0, v1, v2, v3, g0, g1, g2, g3, hIk⟩ := Row_get HR.out j hlt
    obtain ⟨k1, n1, s1, ya1, yl1, yc1, rfl, rfl, rfl, rfl⟩ := Is_form hIk
    have HIk := Lib.hid hIk
    have HEr := Lib.hid (Ext.trans HE0.out HP.out.below)
    replace g0 := keep_below HEr.out _ _ g0
    replace g1 := keep_below HEr.out _ _ g1
    replace g2 := keep_below HEr.out _ _ g2
    replace g3 := keep_below HEr.out _ _ g3
    have hws := HP.out.size
    have i1 : (0 : Int) ≤ (j : Int) := by omega
    have i2 : (j : Int) < (ks.length : Int) := by omega
    obtain ⟨F, ⟨cs, hown, hK⟩, hF⟩ := HP.out.acc
    rw [HLL.out] at hown
    have HO := Lib.hid (fun W (x : Ext wr W) => own_heap hown (fun q hq => x.block q (hown.lt q hq).2))
    have HPU : Hid (∀ w6, Ext wr w6 → ∀ c0 c1 c2 c3, IsIn (fun b => b < w0.heap.size ∨ (wr.heap.size ≤ b ∧ b < w6.heap.size)) w6 (renT x ks[j]) c0 c1 c2 c3 → ∀ g cap w8 ob, w8.ownsRow (w.heap.size + 3) 25 4 (.slice (some ⟨g, 0, none⟩) (j + 1) cap) (j + 1) (cs ++ [c0, c1, c2, c3]) → (w6.alloc ob).grownBy w8 (Value.slice xl j lcap).ownBlock → ((Value.slice xl j lcap).ownBlock = some g ∨ g = w6.heap.size + 1) →
        LgR w0.heap.size w k s n n (.slice (some ⟨b, o, none⟩) ks.length kc) (renL x (ks.take (j + 1))) (.slice (some ⟨g, 0, none⟩) (j + 1) cap) (w8.setCell ⟨w.heap.size + 2, 3, none⟩ (.slice (some ⟨g, 0, none⟩) (j + 1) cap)) ∧ w8.cell? ⟨w.heap.size + 2, 3, none⟩ = some (.slice xl j lcap) ∧ w8.frozen? ⟨w.heap.size + 2, 3, none⟩ = false) := by
      show ∀ _, _
      intro w6 hE6 c0 c1 c2 c3 hI g cap w8 ob hown8 hgrow hat
      have r := KidsIn_push HLL.out.symm hown hK hF (by omega) hws hE6 hI hown8 hgrow hat
      have h6 := hE6.size
      have hq : ∀ q, q < w.heap.size + 3 → w8.heap[q]? = wr.heap[q]? := fun q hq => (r.2.1 q hq).trans (hE6.block q (by omega))
      have e0 := (hq (w.heap.size) (by omega)).trans HP.out.arg
      have e1 := (hq (w.heap.size + 1) (by omega)).trans HP.out.res
      have e2 := (hq (w.heap.size + 2) (by omega)).trans HP.out.out
      refine ⟨LgR.store hbase e0 e1 e2 ?_ ((HP.out.below.trans (hE6.mono (by omega))).trans (r.2.2.2.mono (by omega))) (by have := r.2.2.1; omega), (box_facts e2).1.2.2.2, (box_facts e2).2.2.2.2⟩
      rw [renL_take x ks j hlt]
      exact r.1
    have HTK := Lib.hid (shortL_take x ks j hlt)
    have hC := HIH.out j hlt _ _ _ _ wr HEr.out HIk.out
    have HC := Lib.hid hC
    generalize shortT x ks[j] = sb at HC HTK
    clear hown hK hF hIk hC
    go_upto_region 10 with (go_at_call 73; refine (HC.out).mono ?_; rintro e w4 ⟨c0, c1, c2, c3, he, hI4, hB4⟩; subst he; obtain ⟨k6, n6, s6, xa6, l6, cap6, e0, e1, e2, e3⟩ := IsIn_form hI4; subst e0 e1 e2 e3; have HI4 := Lib.hid hI4; have HB4 := Lib.hid hB4; clear hI4 hB4)
    have hx5 := heap_alloc_new w4 (.cells #[.int .i64 k6, .string n6, .int .i64 s6, .slice xa6 l6 cap6] 25)
    have hI5 : IsIn (fun b => b < w0.heap.size ∨ (wr.heap.size ≤ b ∧ b < (w4.alloc (.cells #[.int .i64 k6, .string n6, .int .i64 s6, .slice xa6 l6 cap6] 25)).heap.size)) (w4.alloc (.cells #[.int .i64 k6, .string n6, .int .i64 s6, .slice xa6 l6 cap6] 25)) (renT x ks[j]) (.int .i64 k6) (.string n6) (.int .i64 s6) (.slice xa6 l6 cap6) := IsIn_carry (fun b hb => Below.heap_alloc _ _ _ (by have := HB4.out.size; rcases hb with h | h <;> omega)) (fun b hb => by rw [World.size_alloc]; rcases hb with h | h <;> omega) _ _ _ _ _ HI4.out
    have hE5 : Ext wr (w4.alloc (.cells #[.int .i64 k6, .string n6, .int .i64 s6, .slice xa6 l6 cap6] 25)) := Ext.alloc HB4.out _
    generalize (w4.alloc (.cells #[.int .i64 k6, .string n6, .int .i64 s6, .slice xa6 l6 cap6] 25)) = w5 at hx5 hI5 hE5 ⊢
    obtain ⟨⟨m0, m1, m2, m3⟩, _⟩ := box_facts hx5
    obtain ⟨⟨z0, z1, z2, z3⟩, _⟩ := box_facts ((hE5.block (w.heap.size + 2) (by omega)).trans HP.out.out)
    have HI5 := Lib.hid hI5
    have HE5 := Lib.hid hE5
    have HO5 := Lib.hid (HO.out _ hE5)
    have hw5 : w.heap.size + 3 ≤ w5.heap.size := Nat.le_trans hws hE5.size
    clear hx5 hI5 hE5 g0 g1 g2 g3 x0 x1 x2 x3 z0 z1 z2
    go_upto_region 11 with (at_builtin; refine wpList_append_lies _ rfl _ _ _ rfl (w.heap.size + 3) 25 i0 _ 4 56 Tryd.underlying23 HI0.out.1 HI0.out.2.1 HI0.out.2.2.1 HI0.out.2.2.2 rfl (by omega) (.slice xl j lcap) j cs rfl (HO5.out.alloc _) ⟨w5.heap.size, 0, none⟩ 1 1 [.int .i64 k6, .string n6, .int .i64 s6, .slice xa6 l6 cap6] rfl rfl (World.news_of_block (cs := #[.int .i64 k6, .string n6, .int .i64 s6, .slice xa6 l6 cap6]) (t := 25) (fr := (0, 0)) (heap_alloc_new w5 _)) (by simp [Value.oneCell']) (by omega) (by unfold maxLen; omega) (by omega) (by simp; omega) (w5.heap.size + 1) (by simp) ?_; intro gg cap2 w8 hown8 hgrow8 hat8 hlt8; have hpu := HPU.out w5 HE5.out _ _ _ _ HI5.out _ _ _ _ hown8 hgrow8 hat8; have HP8 := Lib.hid hpu.1; have q8 := hpu.2.1; have f8 := hpu.2.2; clear hown8 hgrow8 hat8 hlt8 hpu m0 m1 m2 m3 z3)
    cases ob with
    | true =>
      go_wp2_with fail
      go_roundw
      case rel => exact ⟨j + 1, _, sb, by omega, by go_num, rfl, Lib.hid (by rw [HTK.out, ← HOB.out]; rfl), HP8.out⟩
      case measure => simp [intOf]; omega
    | false =>
      go_wp2_with fail
      go_roundw
      case rel => exact ⟨j + 1, _, false, by omega, by go_num, rfl, Lib.hid (by rw [HTK.out, ← HOB.out]; rfl), HP8.out⟩
      case measure => simp [intOf]; omega

theorem longer_any (x : ByteArray) (hx : x.size ≤ 1048576) (w0 : World) (m : Nat) : ∀ (t : Tm) (c0 c1 c2 c3 : Value) (w : World), size t ≤ m → m ≤ 1048576 → nodesE t = 0 → Ext w0 w → Is w0 t c0 c1 c2 c3 →
    Calls Tryd.prog 73 #[.agg #[c0, c1, c2, c3], .string x] w (LgPost w0.heap.size w (renT x t) (shortT x t)) := by
  induction m with
  | zero => intro t _ _ _ _ _ h; have := size_pos t; omega
  | succ m ih =>
    intro t c0 c1 c2 c3 w hm hM hv hE hI
    obtain ⟨k, n, s, ks⟩ := t
    have hI2 := hI
    simp only [Is] at hI2
    obtain ⟨rfl, rfl, rfl, _, _, _, _, xk, kc, rfl, _, _⟩ := hI2
    obtain ⟨h1, h2⟩ := nodesE_parts hv
    by_cases hk : k = 1
    · subst hk
      have := nodeE_var h1
      subst this
      exact lg_var x n s xk kc w0 w hE hx (by have := name_short hv; omega) hI
    · have hs : size (.mk k n s ks) = 1 + sizes ks := rfl
      have hl := length_le_sizes ks
      have e1 : renT x (.mk k n s ks) = .mk k n s (renL x ks) := by simp [renT, hk]
      have e2 : shortT x (.mk k n s ks) = shortL x ks := by simp [shortT, hk]
      rw [e1, e2]
      refine lg_node x k s n ks xk kc w0 w hk hE (by omega) hI (fun j hj d0 d1 d2 d3 w' hE' hI' => ih ks[j] d0 d1 d2 d3 w' ?_ (by omega) (nodesL_get h2 j hj) hE' hI')
      have := size_le_sizes (List.getElem_mem hj)
      omega
end Go.Proofs.YtdgofofhkebkkaaDoor

/-
  THE WALKS OF subst.Rename, the reference's Rename, and of the law SubstRename.
-/
namespace Go.Proofs.YtdgofofhkebkkaaDoor
open Go.RowKit

theorem RaPost_z {w W : World} {R : Tm × Int} {x : Int} (h : R = (zeroT, x)) (hB : Below w.heap.size w W) : RaPost w R (.returned (.tuple #[.agg #[.int .i64 0, .string ⟨#[]⟩, .int .i64 0, .slice none 0 0], .int .i64 x])) W := by
  rw [h]; exact ⟨_, _, _, _, rfl, IsIn_Is _ _ _ _ _ (zero_IsIn (fun _ => True) _), hB⟩

set_option maxHeartbeats 6400000 in
set_option maxRecDepth 100000 in
theorem sRename_any (t : Tm) (x : ByteArray) (c0 c1 c2 c3 : Value) (w : World) (hst : size t ≤ 1048576) (hx : x.size ≤ 1048576) (hI : Is w t c0 c1 c2 c3) :
    Calls Tryd.prog 34 #[.agg #[c0, c1, c2, c3], .string x] w (RaPost w (renV x t)) := by
  obtain ⟨k, n, s, xa, l, cap, rfl, rfl, rfl, rfl⟩ := Is_form hI
  obtain ⟨hb0, hb1, hBw, hZ⟩ := boxes2 w (.int .i64 k) (.string n) (.int .i64 s) (.slice xa l cap) (.int .i64 0) (.string ⟨#[]⟩) (.int .i64 0) (.slice none 0 0) 25
  have HV := Lib.hid (fun W (y : Ext w W) => tValid_any t _ _ _ _ W (by omega) (Is_below (w' := W) hI y))
  have HCP := Lib.hid (fun W (y : Ext w W) => scopy_sep t _ _ _ _ W (by omega) (Is_below (w' := W) hI y))
  have HRN := Lib.hid (fun (hv : nodesE t = 0) L b o lo hi W (y : NodeS L W t b o lo hi) => rename_any L x hx (size t) t b o lo hi W (Nat.le_refl _) hst hv y)
  have HP : Hid (renV x t = if validE t = 0 then (if plainB x = true then (if shortT x t = true then (renT x t, 0) else (zeroT, 3)) else (zeroT, 2)) else (zeroT, validE t)) := rfl
  have HVN : Hid (validE t = 0 → nodesE t = 0) := validE_nodes
  have HX : Hid (∀ W, Ext ((w.alloc (.cells #[.int .i64 k, .string n, .int .i64 s, .slice xa l cap] 25)).alloc (.cells #[.int .i64 0, .string ⟨#[]⟩, .int .i64 0, .slice none 0 0] 25)) W → W.heap[w.heap.size]? = some (.cells #[.int .i64 k, .string n, .int .i64 s, .slice xa l cap] 25 (0, 0)) ∧ W.heap[w.heap.size + 1]? = some (.cells #[.int .i64 0, .string ⟨#[]⟩, .int .i64 0, .slice none 0 0] 25 (0, 0)) ∧ w.heap.size + 2 ≤ W.heap.size ∧ Ext w W) := fun W h => ⟨(h.block _ (by simp; omega)).trans hb0, (h.block _ (by simp)).trans hb1, by have := h.size; omega, Ext.trans hBw h⟩
  have HBw := Lib.hid hBw
  have hxl : x.data.toList.length = x.size := by simp
  have HXL := Lib.hid hxl
  generalize renV x t = R at HP ⊢
  generalize validE t = ev at HV HP HVN
  clear hI hb0 hb1 hBw hZ hst hxl
  by_cases he : ev = 0
  rotate_left
  · have HR : Hid (R = (zeroT, ev)) := by show _ = _; rw [HP.out, if_neg he]
    have q1 : (ev != 0) = true := by rw [bne_iff_ne]; exact he
    clear he
    go_enter Tryd.func34, Tryd.ntmps34
    go_wp2_with (go_at_call 49; refine (HV.out _ HBw.out).mono ?_; rintro e w3 ⟨he, hB⟩; subst he; have HB3 := Lib.hid hB; obtain ⟨_, hc, _⟩ := HX.out _ hB; obtain ⟨⟨m0, m1, m2, m3⟩, z0, z1, z2, z3⟩ := box_facts hc; clear hB hc)
    exact bodyPost_ret (v := .tuple #[.agg #[.int .i64 0, .string ⟨#[]⟩, .int .i64 0, .slice none 0 0], .int .i64 ev]) (by simp [results, Tryd.results34, go_sem, m0, m1, m2, m3]) rfl (RaPost_z HR.out (put4_below (g := w.heap.size + 1) (o := 0) (HX.out _ HB3.out).2.2.2 (by omega)))
  have HRQ := Lib.hid (HRN.out (HVN.out he))
  have HP2 : Hid (R = if plainB x = true then (if shortT x t = true then (renT x t, 0) else (zeroT, 3)) else (zeroT, 2)) := by show _ = _; rw [HP.out, if_pos he]
  subst he
  have q0 : ((0 : Int) != 0) = false := rfl
  clear HRN HVN HP
  go_enter Tryd.func34, Tryd.ntmps34
  go_wp2_with (go_at_call 49; refine (HV.out _ HBw.out).mono ?_; rintro e w3 ⟨he, hB⟩; subst he; have HB3 := Lib.hid hB; clear hB)
  go_loopw [17] (fun i wr => ∃ j : Nat, j ≤ x.size ∧ i = .int .i64 j ∧ Hid ((x.data.toList.take j).all nameByte = true) ∧ wr = w3) (fun i _ => x.size - (intOf i).toNat)
  case atStart => exact ⟨0, Nat.zero_le _, rfl, Lib.hid rfl, rfl⟩
  case round =>
    obtain ⟨j, hj, rfl, HJ, rfl⟩ := hrel
    obtain ⟨hc0, hc, hw2, _⟩ := HX.out _ HB3.out
    by_cases hlt : j < x.size
    · have hlj : j < x.data.toList.length := by have := HXL.out; omega
      have hxe : x.data.toList[j] = x[j] := by simp [ByteArray.getElem_eq_getElem_data]
      have HTK := Lib.hid (plain_take x j hlj)
      have HNOT := Lib.hid (fun (hb : nameByte x.data.toList[j] = false) => (show plainB x = false from all_not hlj hb))
      have HN := Lib.hid (fun W => isNameByte_any (x[j].toNat : Int) W)
      rw [hxe] at HTK HNOT
      have hnb : (letterI (x[j].toNat : Int) || laterI (x[j].toNat : Int)) = nameByte x[j] := rfl
      rw [hnb] at HN
      generalize nameByte x[j] = nb at HN HTK HNOT
      have i1 : (0 : Int) ≤ (j : Int) := by omega
      have i2 : (j : Int) < (x.size : Int) := by omega
      clear hnb hxe
      cases nb with
      | true =>
        clear hc0 hc hw2
        go_wp2_with (go_at_call 69; refine (HN.out _).mono ?_; rintro e w4 ⟨he, hw⟩; subst he; subst hw)
        go_roundw
        case rel => exact ⟨j + 1, by omega, by go_num, Lib.hid (by rw [HTK.out, HJ.out]; rfl), by first | trivial | rfl⟩
        case measure => simp [intOf]; omega
      | false =>
        have HR : Hid (R = (zeroT, 2)) := by show _ = _; rw [HP2.out, HNOT.out rfl]; rfl
        obtain ⟨⟨m0, m1, m2, m3⟩, z0, z1, z2, z3⟩ := box_facts hc
        clear hc0 hc hw2
        go_wp2_with (go_at_call 69; refine (HN.out _).mono ?_; rintro e w4 ⟨he, hw⟩; subst he; subst hw)
        exact bodyPost_ret (v := .tuple #[.agg #[.int .i64 0, .string ⟨#[]⟩, .int .i64 0, .slice none 0 0], .int .i64 2]) (by simp [results, Tryd.results34, go_sem, m0, m1, m2, m3]) rfl (RaPost_z HR.out (put4_below (g := w.heap.size + 1) (o := 0) (HX.out _ HB3.out).2.2.2 (by omega)))
    · have hpl : plainB x = true := by
        have h := HJ.out
        rw [List.take_of_length_le (by have := HXL.out; omega)] at h; exact h
      have HP3 : Hid (R = if shortT x t = true then (renT x t, 0) else (zeroT, 3)) := by show _ = _; rw [HP2.out, if_pos hpl]
      obtain ⟨⟨x0, x1, x2, x3⟩, _⟩ := box_facts hc0
      clear hpl hc0 hc HP2
      go_upto_region 11 with (go_at_call 70; refine (HCP.out _ (HX.out _ HB3.out).2.2.2).mono ?_; rintro e w5 ⟨d0, d1, d2, d3, lo, hi, he, hlo, hlh, hhi, hI5, hB5⟩; subst he; obtain ⟨k6, n6, s6, xa6, l6, cap6, e0, e1, e2, e3⟩ := SepT_form hI5; subst e0 e1 e2 e3; have HI5 := Lib.hid hI5; have HB5 := Lib.hid (Ext.trans HB3.out hB5); have HLH := Lib.hid (And.intro hlo (And.intro hlh hhi)); clear hI5 hB5 hlo hlh hhi)
      have hx6 := heap_alloc_new w5 (.cells #[.int .i64 k6, .string n6, .int .i64 s6, .slice xa6 l6 cap6] 25)
      have hE6 := Ext.alloc HB5.out (.cells #[.int .i64 k6, .string n6, .int .i64 s6, .slice xa6 l6 cap6] 25)
      have hS6 : SepT (w5.alloc (.cells #[.int .i64 k6, .string n6, .int .i64 s6, .slice xa6 l6 cap6] 25)) t lo hi (.int .i64 k6) (.string n6) (.int .i64 s6) (.slice xa6 l6 cap6) := SepT_carry t _ _ _ _ _ _ (fun y a1 a2 => Below.heap_alloc _ _ _ (by have := HLH.out.2.2; omega)) HI5.out
      have hs6 : (w5.alloc (.cells #[.int .i64 k6, .string n6, .int .i64 s6, .slice xa6 l6 cap6] 25)).heap.size = w5.heap.size + 1 := World.size_alloc _ _
      have hlh := HLH.out
      generalize (w5.alloc (.cells #[.int .i64 k6, .string n6, .int .i64 s6, .slice xa6 l6 cap6] 25)) = w6 at hx6 hE6 hS6 hs6 ⊢
      generalize w5.heap.size = gb at hx6 hs6 hlh ⊢
      obtain ⟨g0, g1, g2, g3⟩ := (box_facts hx6).1
      have HCALL := Lib.hid (HRQ.out (w.heap.size + 2) gb 0 lo hi w6 ⟨⟨_, _, _, _, g0, g1, g2, g3, hS6⟩, ⟨_, hx6⟩, by omega, by omega, by omega⟩)
      have HX6 := Lib.hid (And.intro (HX.out _ hE6).2.1 (And.intro (HX.out _ hE6).2.2.2 hlh))
      unfold RnPost at HCALL
      clear hx6 hE6 hS6 hs6 hlh g0 g1 g2 g3 x0 x1 x2 x3
      obtain ⟨sb, hsb⟩ : ∃ sb, shortT x t = sb := ⟨_, rfl⟩
      rw [hsb] at HCALL HP3
      clear hsb
      cases sb with
      | true =>
        have HR : Hid (R = (renT x t, 0)) := by show _ = _; rw [HP3.out]; rfl
        go_wp2_with (go_at_call 71; refine (HCALL.out).mono ?_; rintro e w7 ⟨he, hB, hq, hc, hsn, hok⟩; subst he; obtain ⟨e0, e1, e2, e3, p0, p1, p2, p3, hT7⟩ := hok (by first | trivial | rfl); obtain ⟨k8, n8, s8, xa8, l8, cap8, f0, f1, f2, f3⟩ := SepT_form hT7; subst f0 f1 f2 f3; have HT7 := Lib.hid hT7; have HB7 := Lib.hid (And.intro hB hq); have hr7 := (hB.block (w.heap.size + 1) (by omega)).trans HX6.out.1; obtain ⟨⟨m0, m1, m2, m3⟩, z0, z1, z2, z3⟩ := box_facts hr7; have nb1 : ¬ gb = w.heap.size + 1 := (by have := HX6.out.2.2; omega); have nb2 : ¬ w.heap.size + 1 = gb := (fun e => nb1 e.symm); clear hT7 hB hq hc hsn hok hr7)
        have HF : Hid (RaPost w R (.returned (.tuple #[.agg #[.int .i64 k8, .string n8, .int .i64 s8, .slice xa8 l8 cap8], .int .i64 0])) (put4 w7 (w.heap.size + 1) 0 (.int .i64 k8) (.string n8) (.int .i64 s8) (.slice xa8 l8 cap8))) := by
          show RaPost _ _ _ _
          rw [HR.out]
          have h6 := HX6.out.2.2
          refine ⟨_, _, _, _, rfl, IsIn_Is (S := fun _ => True) _ _ _ _ _ (SepT_IsIn (w' := put4 w7 (w.heap.size + 1) 0 (.int .i64 k8) (.string n8) (.int .i64 s8) (.slice xa8 l8 cap8)) _ lo hi _ _ _ _ (fun y a1 a2 => put4_other _ _ _ _ _ _ _ _ (by omega)) (fun _ _ _ => trivial) HT7.out), put4_below (Below.trans (show Below w.heap.size w w6 from HX6.out.2.1) (HB7.out.1.mono (by omega))) (by omega)⟩
        exact bodyPost_ret (v := .tuple #[.agg #[.int .i64 k8, .string n8, .int .i64 s8, .slice xa8 l8 cap8], .int .i64 0]) (by simp [results, Tryd.results34, go_sem, m0, m1, m2, m3]) rfl HF.out
      | false =>
        have HR : Hid (R = (zeroT, 3)) := by show _ = _; rw [HP3.out]; rfl
        go_wp2_with (go_at_call 71; refine (HCALL.out).mono ?_; rintro e w7 ⟨he, hB, hq, hc, hsn, hok⟩; subst he; have HB7 := Lib.hid (Below.trans (show Below w.heap.size w w6 from HX6.out.2.1) (hB.mono (by omega))); have hr7 := (hB.block (w.heap.size + 1) (by omega)).trans HX6.out.1; obtain ⟨⟨m0, m1, m2, m3⟩, z0, z1, z2, z3⟩ := box_facts hr7; clear hB hq hc hsn hok hr7)
        exact bodyPost_ret (v := .tuple #[.agg #[.int .i64 0, .string ⟨#[]⟩, .int .i64 0, .slice none 0 0], .int .i64 3]) (by simp [results, Tryd.results34, go_sem, m0, m1, m2, m3]) rfl (RaPost_z HR.out (put4_below (g := w.heap.size + 1) (o := 0) HB7.out (by omega)))

set_option maxHeartbeats 6400000 in
set_option maxRecDepth 100000 in
theorem rRename_any (t : Tm) (x : ByteArray) (c0 c1 c2 c3 : Value) (w : World) (hst : size t ≤ 1048576) (hx : x.size ≤ 1048576) (hI : Is w t c0 c1 c2 c3) :
    Calls Tryd.prog 35 #[.agg #[c0, c1, c2, c3], .string x] w (RaPost w (renV x t)) := by
  obtain ⟨k, n, s, xa, l, cap, rfl, rfl, rfl, rfl⟩ := Is_form hI
  obtain ⟨hb0, hb1, hBw, hZ⟩ := boxes2 w (.int .i64 k) (.string n) (.int .i64 s) (.slice xa l cap) (.int .i64 0) (.string ⟨#[]⟩) (.int .i64 0) (.slice none 0 0) 25
  have HV := Lib.hid (fun W (y : Ext w W) => rValid_any t _ _ _ _ W (by omega) (Is_below (w' := W) hI y))
  have HLG := Lib.hid (fun (hv : nodesE t = 0) W (y : Ext w W) => longer_any x hx w (size t) t _ _ _ _ W (Nat.le_refl _) hst hv y hI)
  have HPL := Lib.hid (fun W => rplain_any x W hx)
  have HP : Hid (renV x t = if validE t = 0 then (if plainB x = true then (if shortT x t = true then (renT x t, 0) else (zeroT, 3)) else (zeroT, 2)) else (zeroT, validE t)) := rfl
  have HVN : Hid (validE t = 0 → nodesE t = 0) := validE_nodes
  have HX : Hid (∀ W, Ext ((w.alloc (.cells #[.int .i64 k, .string n, .int .i64 s, .slice xa l cap] 25)).alloc (.cells #[.int .i64 0, .string ⟨#[]⟩, .int .i64 0, .slice none 0 0] 25)) W → W.heap[w.heap.size]? = some (.cells #[.int .i64 k, .string n, .int .i64 s, .slice xa l cap] 25 (0, 0)) ∧ W.heap[w.heap.size + 1]? = some (.cells #[.int .i64 0, .string ⟨#[]⟩, .int .i64 0, .slice none 0 0] 25 (0, 0)) ∧ w.heap.size + 2 ≤ W.heap.size ∧ Ext w W) := fun W h => ⟨(h.block _ (by simp; omega)).trans hb0, (h.block _ (by simp)).trans hb1, by have := h.size; omega, Ext.trans hBw h⟩
  have HBw := Lib.hid hBw
  generalize renV x t = R at HP ⊢
  generalize validE t = ev at HV HP HVN
  clear hI hb0 hb1 hBw hZ hst
  by_cases he : ev = 0
  rotate_left
  · have HR : Hid (R = (zeroT, ev)) := by show _ = _; rw [HP.out, if_neg he]
    have q1 : (ev != 0) = true := by rw [bne_iff_ne]; exact he
    clear he
    go_enter Tryd.func35, Tryd.ntmps35
    go_wp2_with (go_at_call 47; refine (HV.out _ HBw.out).mono ?_; rintro e w3 ⟨he, hB⟩; subst he; have HB3 := Lib.hid hB; obtain ⟨_, hc, _⟩ := HX.out _ hB; obtain ⟨⟨m0, m1, m2, m3⟩, z0, z1, z2, z3⟩ := box_facts hc; clear hB hc)
    exact bodyPost_ret (v := .tuple #[.agg #[.int .i64 0, .string ⟨#[]⟩, .int .i64 0, .slice none 0 0], .int .i64 ev]) (by simp [results, Tryd.results35, go_sem, m0, m1, m2, m3]) rfl (RaPost_z HR.out (put4_below (g := w.heap.size + 1) (o := 0) (HX.out _ HB3.out).2.2.2 (by omega)))
  have HLQ := Lib.hid (HLG.out (HVN.out he))
  have HP2 : Hid (R = if plainB x = true then (if shortT x t = true then (renT x t, 0) else (zeroT, 3)) else (zeroT, 2)) := by show _ = _; rw [HP.out, if_pos he]
  subst he
  have q0 : ((0 : Int) != 0) = false := rfl
  clear HLG HVN HP
  obtain ⟨pb, hpb⟩ : ∃ pb, plainB x = pb := ⟨_, rfl⟩
  rw [hpb] at HPL HP2
  clear hpb
  cases pb with
  | false =>
    have HR : Hid (R = (zeroT, 2)) := by show _ = _; rw [HP2.out]; rfl
    go_enter Tryd.func35, Tryd.ntmps35
    go_wp2_with (first
      | (go_at_call 47; refine (HV.out _ HBw.out).mono ?_; rintro e w3 ⟨he, hB⟩; subst he; have HB3 := Lib.hid hB; obtain ⟨_, hc, _⟩ := HX.out _ hB; obtain ⟨⟨m0, m1, m2, m3⟩, z0, z1, z2, z3⟩ := box_facts hc; clear hB hc)
      | (go_at_call 72; refine (HPL.out _).mono ?_; rintro e w4 ⟨he, hw⟩; subst he; subst hw))
    exact bodyPost_ret (v := .tuple #[.agg #[.int .i64 0, .string ⟨#[]⟩, .int .i64 0, .slice none 0 0], .int .i64 2]) (by simp [results, Tryd.results35, go_sem, m0, m1, m2, m3]) rfl (RaPost_z HR.out (put4_below (g := w.heap.size + 1) (o := 0) (HX.out _ HB3.out).2.2.2 (by omega)))
  | true =>
    have HP3 : Hid (R = if shortT x t = true then (renT x t, 0) else (zeroT, 3)) := by show _ = _; rw [HP2.out]; rfl
    clear HP2
    obtain ⟨sb, hsb⟩ : ∃ sb, shortT x t = sb := ⟨_, rfl⟩
    rw [hsb] at HLQ HP3
    clear hsb
    go_enter Tryd.func35, Tryd.ntmps35
    go_upto_region 7 with (first
      | (go_at_call 47; refine (HV.out _ HBw.out).mono ?_; rintro e w3 ⟨he, hB⟩; subst he; have HB3 := Lib.hid hB; obtain ⟨hc, _⟩ := HX.out _ hB; obtain ⟨⟨m0, m1, m2, m3⟩, _⟩ := box_facts hc; clear hB hc)
      | (go_at_call 72; refine (HPL.out _).mono ?_; rintro e w4 ⟨he, hw⟩; subst he; subst hw)
      | (go_at_call 73; refine (HLQ.out _ (HX.out _ HB3.out).2.2.2).mono ?_; rintro e w5 ⟨c0, c1, c2, c3, he, hI5, hB5⟩; subst he; obtain ⟨k6, n6, s6, xa6, l6, cap6, e0, e1, e2, e3⟩ := IsIn_form hI5; subst e0 e1 e2 e3; have HI5 := Lib.hid (IsIn_lt _ _ _ _ _ hI5); have HX5 := Lib.hid (Ext.trans HB3.out hB5); have HZ3 := Lib.hid (HX.out _ HB3.out).2.2.1; clear hI5 hB5))
    have hx6 := heap_alloc_new w5 (.cells #[.int .i64 k6, .string n6, .int .i64 s6, .slice xa6 l6 cap6] 25)
    have hE6 := Ext.alloc HX5.out (.cells #[.int .i64 k6, .string n6, .int .i64 s6, .slice xa6 l6 cap6] 25)
    have hI6 : IsIn (fun b => b ≠ w.heap.size + 1) (w5.alloc (.cells #[.int .i64 k6, .string n6, .int .i64 s6, .slice xa6 l6 cap6] 25)) (renT x t) (.int .i64 k6) (.string n6) (.int .i64 s6) (.slice xa6 l6 cap6) := IsIn_carry (fun b hb => Below.heap_alloc _ _ _ hb.2) (fun b hb => by have := HZ3.out; rcases hb.1 with h | h <;> omega) _ _ _ _ _ HI5.out
    have hgb : w.heap.size + 2 ≤ w5.heap.size := (HX.out _ HX5.out).2.2.1
    clear m0 m1 m2 m3
    generalize (w5.alloc (.cells #[.int .i64 k6, .string n6, .int .i64 s6, .slice xa6 l6 cap6] 25)) = w6 at hx6 hE6 hI6 ⊢
    generalize w5.heap.size = gb at hx6 hgb ⊢
    obtain ⟨⟨g0, g1, g2, g3⟩, _⟩ := box_facts hx6
    obtain ⟨⟨m0, m1, m2, m3⟩, z0, z1, z2, z3⟩ := box_facts (HX.out _ hE6).2.1
    have nb1 : ¬ gb = w.heap.size + 1 := by omega
    have nb2 : ¬ w.heap.size + 1 = gb := fun e => nb1 e.symm
    have HE6 := Lib.hid (HX.out _ hE6).2.2.2
    have HI6 := Lib.hid hI6
    clear hx6 hE6 hI6
    cases sb with
    | true =>
      have HR : Hid (R = (renT x t, 0)) := by show _ = _; rw [HP3.out]; rfl
      have HF : Hid (RaPost w R (.returned (.tuple #[.agg #[.int .i64 k6, .string n6, .int .i64 s6, .slice xa6 l6 cap6], .int .i64 0])) (put4 w6 (w.heap.size + 1) 0 (.int .i64 k6) (.string n6) (.int .i64 s6) (.slice xa6 l6 cap6))) := by
        show RaPost _ _ _ _
        rw [HR.out]
        exact ⟨_, _, _, _, rfl, IsIn_Is (S := fun _ => True) _ _ _ _ _ (IsIn_carry (fun b hb => put4_other _ _ _ _ _ _ _ _ hb) (fun _ _ => trivial) _ _ _ _ _ HI6.out), put4_below (g := w.heap.size + 1) (o := 0) HE6.out (by omega)⟩
      go_wp2_with fail
      exact bodyPost_ret (v := .tuple #[.agg #[.int .i64 k6, .string n6, .int .i64 s6, .slice xa6 l6 cap6], .int .i64 0]) (by simp [results, Tryd.results35, go_sem, m0, m1, m2, m3]) rfl HF.out
    | false =>
      have HR : Hid (R = (zeroT, 3)) := by show _ = _; rw [HP3.out]; rfl
      go_wp2_with fail
      exact bodyPost_ret (v := .tuple #[.agg #[.int .i64 0, .string ⟨#[]⟩, .int .i64 0, .slice none 0 0], .int .i64 3]) (by simp [results, Tryd.results35, go_sem, m0, m1, m2, m3]) rfl (RaPost_z HR.out (put4_below (g := w.heap.size + 1) (o := 0) HE6.out (by omega)))
end Go.Proofs.YtdgofofhkebkkaaDoor

/-
  THE WALKS OF the law SubstRename, the chapter's examples by hypothesis.
-/
namespace Go.Proofs.YtdgofofhkebkkaaDoor
open Go.RowKit

set_option maxHeartbeats 1600000 in
set_option maxRecDepth 100000 in
theorem sren_N1 (HA : Hid Awake2Ok) (t : Tm) (x : ByteArray) (t0 t1 t2 t3 : Value) (w : World) (hL : Laid w) (hI : Is w t t0 t1 t2 t3) (h1 : few [t] 1 450 = false) :
    Calls Tryd.prog 9 #[.agg #[t0, t1, t2, t3], .string x] w fun e w' => e = .returned (.bool true) ∧ Below w.heap.size w w' := by
  obtain ⟨k, n, s, xa, l, cap, rfl, rfl, rfl, rfl⟩ := Is_form hI
  have H1 := Lib.hid h1
  have HL := Lib.hid hL
  have hX : Ext w (w.alloc (.cells #[.int .i64 k, .string n, .int .i64 s, .slice xa l cap] 25)) := (Ext.refl w).alloc _
  have hb := heap_alloc_new w (.cells #[.int .i64 k, .string n, .int .i64 s, .slice xa l cap] 25)
  have HX := Lib.hid hX
  have HC : Hid (∀ W, Ext (w.alloc (.cells #[.int .i64 k, .string n, .int .i64 s, .slice xa l cap] 25)) W → (W.cell? ⟨w.heap.size, 0, none⟩ = some (.int .i64 k) ∧ W.cell? ⟨w.heap.size, 1, none⟩ = some (.string n) ∧ W.cell? ⟨w.heap.size, 2, none⟩ = some (.int .i64 s) ∧ W.cell? ⟨w.heap.size, 3, none⟩ = some (.slice xa l cap)) ∧ Is W t (.int .i64 k) (.string n) (.int .i64 s) (.slice xa l cap)) := fun W h => ⟨(box_facts ((h.block _ (by simp)).trans hb)).1, Is_below (Is_below hI hX) h⟩
  have tok1 : True := trivial
  clear h1 hL hI hX hb
  go_enter Tryd.func9, Tryd.ntmps9
  go_wp2_with (first
    | (go_at_call 15; have _t := tok1; refine (HA.out _ (Laid_ext HL.out HX.out)).mono ?_; rintro e w1 ⟨he, hB1⟩; subst he; have HB1 := Lib.hid (show Ext (w.alloc (.cells #[.int .i64 k, .string n, .int .i64 s, .slice xa l cap] 25)) w1 from hB1); obtain ⟨⟨a0, a1, a2, a3⟩, _⟩ := HC.out _ hB1; clear hB1 tok1)
    | (go_at_call 15; refine (HA.out _ (Laid_ext HL.out (Ext.trans HX.out HB2.out))).mono ?_; rintro e w3 ⟨he, hB⟩; subst he; have HB3 := Lib.hid (Ext.trans HB2.out hB); clear hB)
    | (go_at_call 19; refine (few_any [t] _ 1 1 450 _ (by simp [maxLen]) (by omega) (by omega) (Row_one_at _ rfl (HC.out _ HB1.out).2 25)).mono ?_; rintro e w2 ⟨he, hB2⟩; rw [H1.out] at he; subst he; have HB2 := Lib.hid (Ext.trans (Ext.alloc HB1.out _) hB2); clear hB2))
  go_ret
  exact ⟨rfl, Ext.trans (a := w) HX.out HB3.out⟩

set_option maxHeartbeats 1600000 in
set_option maxRecDepth 100000 in
theorem sren_N2 (HA : Hid Awake2Ok) (t : Tm) (x : ByteArray) (t0 t1 t2 t3 : Value) (w : World) (hL : Laid w) (hI : Is w t t0 t1 t2 t3) (h1 : few [t] 1 450 = true) (h2 : 40 < x.size) :
    Calls Tryd.prog 9 #[.agg #[t0, t1, t2, t3], .string x] w fun e w' => e = .returned (.bool true) ∧ Below w.heap.size w w' := by
  obtain ⟨k, n, s, xa, l, cap, rfl, rfl, rfl, rfl⟩ := Is_form hI
  have H1 := Lib.hid h1
  have HL := Lib.hid hL
  have hX : Ext w (w.alloc (.cells #[.int .i64 k, .string n, .int .i64 s, .slice xa l cap] 25)) := (Ext.refl w).alloc _
  have hb := heap_alloc_new w (.cells #[.int .i64 k, .string n, .int .i64 s, .slice xa l cap] 25)
  have HX := Lib.hid hX
  have HC : Hid (∀ W, Ext (w.alloc (.cells #[.int .i64 k, .string n, .int .i64 s, .slice xa l cap] 25)) W → (W.cell? ⟨w.heap.size, 0, none⟩ = some (.int .i64 k) ∧ W.cell? ⟨w.heap.size, 1, none⟩ = some (.string n) ∧ W.cell? ⟨w.heap.size, 2, none⟩ = some (.int .i64 s) ∧ W.cell? ⟨w.heap.size, 3, none⟩ = some (.slice xa l cap)) ∧ Is W t (.int .i64 k) (.string n) (.int .i64 s) (.slice xa l cap)) := fun W h => ⟨(box_facts ((h.block _ (by simp)).trans hb)).1, Is_below (Is_below hI hX) h⟩
  have tok1 : True := trivial
  have q2 : (40 : Int) < (x.size : Int) := by omega
  clear h1 hL hI hX hb h2
  go_enter Tryd.func9, Tryd.ntmps9
  go_wp2_with (first
    | (go_at_call 15; have _t := tok1; refine (HA.out _ (Laid_ext HL.out HX.out)).mono ?_; rintro e w1 ⟨he, hB1⟩; subst he; have HB1 := Lib.hid (show Ext (w.alloc (.cells #[.int .i64 k, .string n, .int .i64 s, .slice xa l cap] 25)) w1 from hB1); obtain ⟨⟨a0, a1, a2, a3⟩, _⟩ := HC.out _ hB1; clear hB1 tok1)
    | (go_at_call 15; refine (HA.out _ (Laid_ext HL.out (Ext.trans HX.out HB2.out))).mono ?_; rintro e w3 ⟨he, hB⟩; subst he; have HB3 := Lib.hid (Ext.trans HB2.out hB); clear hB)
    | (go_at_call 19; refine (few_any [t] _ 1 1 450 _ (by simp [maxLen]) (by omega) (by omega) (Row_one_at _ rfl (HC.out _ HB1.out).2 25)).mono ?_; rintro e w2 ⟨he, hB2⟩; rw [H1.out] at he; subst he; have HB2 := Lib.hid (Ext.trans (Ext.alloc HB1.out _) hB2); clear hB2))
  go_ret
  exact ⟨rfl, Ext.trans (a := w) HX.out HB3.out⟩

theorem renV_small {t : Tm} {x : ByteArray} (h : size t ≤ 450) : size (renV x t).1 ≤ 450 ∧ ((renV x t).2 = 0 → size (renV x t).1 = size t) := by
  have hz : size zeroT ≤ 450 := by simp [zeroT, size, sizes]
  unfold renV
  by_cases h1 : validE t = 0
  · rw [if_pos h1]
    by_cases h2 : plainB x = true
    · rw [if_pos h2]
      by_cases h3 : shortT x t = true
      · rw [if_pos h3]
        exact ⟨by show size (renT x t) ≤ 450; rw [renT_size]; exact h, fun _ => renT_size x t⟩
      · rw [if_neg h3]; exact ⟨hz, fun e => absurd e (by decide)⟩
    · rw [if_neg h2]; exact ⟨hz, fun e => absurd e (by decide)⟩
  · rw [if_neg h1]; exact ⟨hz, fun e => absurd e h1⟩

set_option maxHeartbeats 6400000 in
set_option maxRecDepth 100000 in
theorem sren_S (HA : Hid Awake2Ok) (t : Tm) (x : ByteArray) (t0 t1 t2 t3 : Value) (w : World) (hL : Laid w) (hI : Is w t t0 t1 t2 t3) (h1 : few [t] 1 450 = true) (h2 : x.size ≤ 40) :
    Calls Tryd.prog 9 #[.agg #[t0, t1, t2, t3], .string x] w fun e w' => e = .returned (.bool true) ∧ Below w.heap.size w w' := by
  have hsz := one_size h1
  obtain ⟨hr1, hr2⟩ := renV_small (x := x) hsz
  obtain ⟨k, n, s, xa, l, cap, rfl, rfl, rfl, rfl⟩ := Is_form hI
  have H1 := Lib.hid h1
  have HL := Lib.hid hL
  have hX : Ext w (w.alloc (.cells #[.int .i64 k, .string n, .int .i64 s, .slice xa l cap] 25)) := (Ext.refl w).alloc _
  have hb := heap_alloc_new w (.cells #[.int .i64 k, .string n, .int .i64 s, .slice xa l cap] 25)
  have HX := Lib.hid hX
  have HC : Hid (∀ W, Ext (w.alloc (.cells #[.int .i64 k, .string n, .int .i64 s, .slice xa l cap] 25)) W → (W.cell? ⟨w.heap.size, 0, none⟩ = some (.int .i64 k) ∧ W.cell? ⟨w.heap.size, 1, none⟩ = some (.string n) ∧ W.cell? ⟨w.heap.size, 2, none⟩ = some (.int .i64 s) ∧ W.cell? ⟨w.heap.size, 3, none⟩ = some (.slice xa l cap)) ∧ Is W t (.int .i64 k) (.string n) (.int .i64 s) (.slice xa l cap)) := fun W h => ⟨(box_facts ((h.block _ (by simp)).trans hb)).1, Is_below (Is_below hI hX) h⟩
  have HR1 := Lib.hid (fun c0 c1 c2 c3 W (y : Is W t c0 c1 c2 c3) => sRename_any t x c0 c1 c2 c3 W (by omega) (by omega) y)
  have HR2 := Lib.hid (fun c0 c1 c2 c3 W (y : Is W t c0 c1 c2 c3) => rRename_any t x c0 c1 c2 c3 W (by omega) (by omega) y)
  have HS1 := Lib.hid (fun W a0 a1 a2 a3 b0 b1 b2 b3 (y : Is W (renV x t).1 a0 a1 a2 a3) (z : Is W (renV x t).1 b0 b1 b2 b3) => (by have h := same_any (renV x t).1 (renV x t).1 a0 a1 a2 a3 b0 b1 b2 b3 W (by omega) (by omega) y z; rw [(cmp_eq_iff _ _).2 rfl] at h; exact h : Calls Tryd.prog 13 #[.agg #[a0, a1, a2, a3], .agg #[b0, b1, b2, b3]] W fun e w' => e = .returned (.bool true) ∧ Below W.heap.size W w'))
  have HZ1 := Lib.hid (fun W a0 a1 a2 a3 (y : Is W (renV x t).1 a0 a1 a2 a3) => rsize_any (size (renV x t).1) (renV x t).1 a0 a1 a2 a3 W (Nat.le_refl _) (by omega) y)
  have HZ2 := Lib.hid (fun W a0 a1 a2 a3 (y : Is W t a0 a1 a2 a3) => rsize_any (size t) t a0 a1 a2 a3 W (Nat.le_refl _) (by omega) y)
  have HEQ := Lib.hid hr2
  generalize renV x t = R at HR1 HR2 HS1 HZ1 HEQ
  obtain ⟨u, E⟩ := R
  unfold RaPost at HR1 HR2
  generalize size u = zu at HZ1 HEQ
  generalize size t = zt at HZ2 HEQ
  have q2 : (x.size : Int) ≤ 40 := by omega
  have hEE : (E == E) = true := by simp
  clear h1 hL hI hX hb h2 hsz hr1 hr2
  go_enter Tryd.func9, Tryd.ntmps9
  go_upto_region 3 with (first
    | (go_at_call 15; refine (HA.out _ (Laid_ext HL.out HX.out)).mono ?_; rintro e w1 ⟨he, hB1⟩; subst he; have HB1 := Lib.hid (show Ext (w.alloc (.cells #[.int .i64 k, .string n, .int .i64 s, .slice xa l cap] 25)) w1 from hB1); obtain ⟨⟨a0, a1, a2, a3⟩, _⟩ := HC.out _ hB1; clear hB1)
    | (go_at_call 19; refine (few_any [t] _ 1 1 450 _ (by simp [maxLen]) (by omega) (by omega) (Row_one_at _ rfl (HC.out _ HB1.out).2 25)).mono ?_; rintro e w2 ⟨he, hB2⟩; rw [H1.out] at he; subst he; have HB2 := Lib.hid (Ext.trans (Ext.alloc HB1.out _) hB2); clear hB2 a0 a1 a2 a3))
  obtain ⟨⟨a0, a1, a2, a3⟩, _⟩ := HC.out _ HB2.out
  go_upto_region 4 with (go_at_call 34; refine (HR1.out _ _ _ _ _ (HC.out _ HB2.out).2).mono ?_; rintro e w3 ⟨c0, c1, c2, c3, he, hI3, hB3⟩; subst he; obtain ⟨k6, n6, s6, xa6, l6, cap6, e0, e1, e2, e3⟩ := Is_form hI3; subst e0 e1 e2 e3; have HI3 := Lib.hid hI3; have HB3 := Lib.hid (Ext.trans HB2.out hB3); clear hI3 hB3)
  have hx4 := heap_alloc_new w3 (.cells #[.int .i64 k6, .string n6, .int .i64 s6, .slice xa6 l6 cap6] 25)
  have hI4 : Is (w3.alloc (.cells #[.int .i64 k6, .string n6, .int .i64 s6, .slice xa6 l6 cap6] 25)) u (.int .i64 k6) (.string n6) (.int .i64 s6) (.slice xa6 l6 cap6) := Is_alloc HI3.out _
  have hE4 := Ext.alloc HB3.out (.cells #[.int .i64 k6, .string n6, .int .i64 s6, .slice xa6 l6 cap6] 25)
  have hs4 : w3.heap.size < (w3.alloc (.cells #[.int .i64 k6, .string n6, .int .i64 s6, .slice xa6 l6 cap6] 25)).heap.size := by rw [World.size_alloc]; omega
  generalize (w3.alloc (.cells #[.int .i64 k6, .string n6, .int .i64 s6, .slice xa6 l6 cap6] 25)) = w4 at hx4 hI4 hE4 hs4 ⊢
  generalize w3.heap.size = g3 at hx4 hs4 ⊢
  have HK4 : Hid (∀ W, Ext w4 W → (W.cell? ⟨g3, 0, none⟩ = some (.int .i64 k6) ∧ W.cell? ⟨g3, 1, none⟩ = some (.string n6) ∧ W.cell? ⟨g3, 2, none⟩ = some (.int .i64 s6) ∧ W.cell? ⟨g3, 3, none⟩ = some (.slice xa6 l6 cap6)) ∧ Is W u (.int .i64 k6) (.string n6) (.int .i64 s6) (.slice xa6 l6 cap6)) := fun W h => ⟨(box_facts ((h.block _ hs4).trans hx4)).1, Is_below hI4 h⟩
  have HE4 := Lib.hid hE4
  clear hx4 hI4 hE4 hs4 a0 a1 a2 a3
  obtain ⟨⟨a0, a1, a2, a3⟩, _⟩ := HC.out _ HE4.out
  go_upto_region 5 with (go_at_call 35; refine (HR2.out _ _ _ _ _ (HC.out _ HE4.out).2).mono ?_; rintro e w5 ⟨c0, c1, c2, c3, he, hI5, hB5⟩; subst he; obtain ⟨k7, n7, s7, xa7, l7, cap7, e0, e1, e2, e3⟩ := Is_form hI5; subst e0 e1 e2 e3; have HI5 := Lib.hid hI5; have HB5 := Lib.hid (show Ext w4 w5 from hB5); clear hI5 hB5)
  have hx6 := heap_alloc_new w5 (.cells #[.int .i64 k7, .string n7, .int .i64 s7, .slice xa7 l7 cap7] 25)
  have hI6 : Is (w5.alloc (.cells #[.int .i64 k7, .string n7, .int .i64 s7, .slice xa7 l7 cap7] 25)) u (.int .i64 k7) (.string n7) (.int .i64 s7) (.slice xa7 l7 cap7) := Is_alloc HI5.out _
  have hE6 := Ext.alloc HB5.out (.cells #[.int .i64 k7, .string n7, .int .i64 s7, .slice xa7 l7 cap7] 25)
  have hs6 : w5.heap.size < (w5.alloc (.cells #[.int .i64 k7, .string n7, .int .i64 s7, .slice xa7 l7 cap7] 25)).heap.size := by rw [World.size_alloc]; omega
  generalize (w5.alloc (.cells #[.int .i64 k7, .string n7, .int .i64 s7, .slice xa7 l7 cap7] 25)) = w6 at hx6 hI6 hE6 hs6 ⊢
  generalize w5.heap.size = g5 at hx6 hs6 ⊢
  have HW6 := Lib.hid (Ext.trans HX.out (Ext.trans HE4.out hE6))
  have HK : Hid (∀ W, Ext w6 W → (W.cell? ⟨g3, 0, none⟩ = some (.int .i64 k6) ∧ W.cell? ⟨g3, 1, none⟩ = some (.string n6) ∧ W.cell? ⟨g3, 2, none⟩ = some (.int .i64 s6) ∧ W.cell? ⟨g3, 3, none⟩ = some (.slice xa6 l6 cap6)) ∧ (W.cell? ⟨g5, 0, none⟩ = some (.int .i64 k7) ∧ W.cell? ⟨g5, 1, none⟩ = some (.string n7) ∧ W.cell? ⟨g5, 2, none⟩ = some (.int .i64 s7) ∧ W.cell? ⟨g5, 3, none⟩ = some (.slice xa7 l7 cap7)) ∧ (W.cell? ⟨w.heap.size, 0, none⟩ = some (.int .i64 k) ∧ W.cell? ⟨w.heap.size, 1, none⟩ = some (.string n) ∧ W.cell? ⟨w.heap.size, 2, none⟩ = some (.int .i64 s) ∧ W.cell? ⟨w.heap.size, 3, none⟩ = some (.slice xa l cap))) := fun W h => ⟨(HK4.out W (Ext.trans hE6 h)).1, (box_facts ((h.block _ hs6).trans hx6)).1, (HC.out W (Ext.trans HE4.out (Ext.trans hE6 h))).1⟩
  have HIS : Hid (∀ W, Ext w6 W → Is W u (.int .i64 k6) (.string n6) (.int .i64 s6) (.slice xa6 l6 cap6) ∧ Is W u (.int .i64 k7) (.string n7) (.int .i64 s7) (.slice xa7 l7 cap7) ∧ Is W t (.int .i64 k) (.string n) (.int .i64 s) (.slice xa l cap)) := fun W h => ⟨(HK4.out W (Ext.trans hE6 h)).2, Is_below hI6 h, (HC.out W (Ext.trans HE4.out (Ext.trans hE6 h))).2⟩
  clear hx6 hI6 hE6 hs6 a0 a1 a2 a3
  have hF0 : Ext w6 w6.drew := (Ext.refl w6).drew
  obtain ⟨⟨a0, a1, a2, a3⟩, ⟨b0, b1, b2, b3⟩, ⟨d0, d1, d2, d3⟩⟩ := HK.out w6 (Ext.refl w6)
  have tok1 : True := trivial
  by_cases hE : E = 0
  · have he0 : (E != 0) = false := by simp [hE]
    have hzz := HEQ.out hE
    subst hzz
    have hzq : ((zu : Int) == (zu : Int)) = true := by simp
    clear hE
    go_region_held3 (fun W => (W.cell? ⟨g3, 0, none⟩ = some (.int .i64 k6) ∧ W.cell? ⟨g3, 1, none⟩ = some (.string n6) ∧ W.cell? ⟨g3, 2, none⟩ = some (.int .i64 s6) ∧ W.cell? ⟨g3, 3, none⟩ = some (.slice xa6 l6 cap6)) ∧ (W.cell? ⟨g5, 0, none⟩ = some (.int .i64 k7) ∧ W.cell? ⟨g5, 1, none⟩ = some (.string n7) ∧ W.cell? ⟨g5, 2, none⟩ = some (.int .i64 s7) ∧ W.cell? ⟨g5, 3, none⟩ = some (.slice xa7 l7 cap7)) ∧ (W.cell? ⟨w.heap.size, 0, none⟩ = some (.int .i64 k) ∧ W.cell? ⟨w.heap.size, 1, none⟩ = some (.string n) ∧ W.cell? ⟨w.heap.size, 2, none⟩ = some (.int .i64 s) ∧ W.cell? ⟨w.heap.size, 3, none⟩ = some (.slice xa l cap)))
      (first | exact HK.out _ (by assumption) | go_keep)
      (first
        | (go_at_call 13; refine (HS1.out _ _ _ _ _ _ _ _ _ (HIS.out _ hF0).1 (HIS.out _ hF0).2.1).mono ?_; rintro e w7 ⟨he, hB⟩; subst he; have hF1 : Ext w6 w7 := hF0.trans hB; clear hB)
        | (go_at_call 36; have _t := tok1; refine (HZ1.out _ _ _ _ _ (HIS.out _ hF1).1).mono ?_; rintro e w8 ⟨he, hB⟩; subst he; have hF2 : Ext w6 w8 := hF1.trans hB; clear hB; clear tok1)
        | (go_at_call 36; refine (HZ2.out _ _ _ _ _ (HIS.out _ hF2).2.2).mono ?_; rintro e w9 ⟨he, hB⟩; subst he; have hF3 : Ext w6 w9 := hF2.trans hB; clear hB))
    all_goals (try go_wp2_with fail)
    all_goals go_ret
    all_goals exact ⟨by simp, Ext.trans HW6.out hF3⟩
  · have he0 : (E != 0) = true := by rw [bne_iff_ne]; exact hE
    clear hE
    go_region_with (go_at_call 13; refine (HS1.out _ _ _ _ _ _ _ _ _ (HIS.out _ hF0).1 (HIS.out _ hF0).2.1).mono ?_; rintro e w7 ⟨he, hB⟩; subst he; have hF1 : Ext w6 w7 := hF0.trans hB; clear hB)
    all_goals (try go_wp2_with fail)
    all_goals go_ret
    all_goals exact ⟨by first | rfl | simp [Act.put], Ext.trans HW6.out hF1⟩
theorem lawSr_any (HA : Awake2Ok) (t : Tm) (x : ByteArray) (t0 t1 t2 t3 : Value) (w : World) (hL : Laid w) (hI : Is w t t0 t1 t2 t3) :
    Calls Tryd.prog 9 #[.agg #[t0, t1, t2, t3], .string x] w fun e w' => e = .returned (.bool true) ∧ Below w.heap.size w w' := by
  cases h : few [t] 1 450 with
  | false => exact sren_N1 (Lib.hid HA) t x t0 t1 t2 t3 w hL hI h
  | true =>
    by_cases h2 : x.size ≤ 40
    · exact sren_S (Lib.hid HA) t x t0 t1 t2 t3 w hL hI h h2
    · exact sren_N2 (Lib.hid HA) t x t0 t1 t2 t3 w hL hI h (by omega)
end Go.Proofs.YtdgofofhkebkkaaDoor
