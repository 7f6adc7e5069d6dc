import Derived.Lib.Hide
import Derived.Lib.Strings
import Derived.Outline
import Derived.Test.YtbcpnepjojppaaaGreatDoorProg
import Derived.WalkKit
import Derived.WalkLawsBesides
import Derived.WalkSpells
namespace Go.Proofs.YtbcpnepjojppaaaGreatDoor
open Go.RowKit
def letterI (n : Int) : Bool := decide ((65 ≤ n ∧ n ≤ 90) ∨ (97 ≤ n ∧ n ≤ 122))
def laterI (n : Int) : Bool := decide ((48 ≤ n ∧ n ≤ 57) ∨ n = 95 ∨ n = 35)
def tailLen : List UInt8 → Nat
  | [] => 0
  | c :: r => if letterI c.toNat then 1 + tailLen r else if laterI c.toNat then 1 + tailLen r else 0
def nameLen : List UInt8 → Nat
  | [] => 0
  | c :: r => if letterI c.toNat then 1 + tailLen r else 0
def scan (k : Nat) (l : List UInt8) : Nat := if k = 0 then nameLen l else tailLen l
def isNameB (l : List UInt8) : Bool := decide (0 < l.length) && decide (l.length ≤ 24) && decide (nameLen l = l.length)
theorem tailLen_le : ∀ l : List UInt8, tailLen l ≤ l.length
  | [] => by simp [tailLen]
  | c :: r => by
    have := tailLen_le r
    simp only [tailLen, List.length_cons]; split <;> (try split) <;> omega
theorem nameLen_le (l : List UInt8) : nameLen l ≤ l.length := by
  cases l with
  | nil => simp [nameLen]
  | cons c r =>
    have := tailLen_le r
    simp only [nameLen, List.length_cons]; split <;> omega
set_option maxHeartbeats 400000 in
theorem isLetter_any (n : Int) (w : World) :
    Calls Tryz.prog 199 #[.int .u8 n] w fun e w' => e = .returned (.bool (letterI n)) ∧ w = w' := by
  by_cases h1 : 65 ≤ n
  · by_cases h2 : n ≤ 90
    · have H : Hid (letterI n = true) := by show _ = _; simp [letterI]; omega
      go_enter Tryz.func199, Tryz.ntmps199
      go_wp2_with fail
      go_ret
      exact ⟨by rw [H.out]; rfl, rfl⟩
    · by_cases h3 : 97 ≤ n
      · by_cases h4 : n ≤ 122
        · have H : Hid (letterI n = true) := by show _ = _; simp [letterI]; omega
          go_enter Tryz.func199, Tryz.ntmps199
          go_wp2_with fail
          go_ret
          exact ⟨by rw [H.out]; rfl, rfl⟩
        · have H : Hid (letterI n = false) := by show _ = _; simp [letterI]; omega
          go_enter Tryz.func199, Tryz.ntmps199
          go_wp2_with fail
          go_ret
          exact ⟨by rw [H.out]; rfl, rfl⟩
      · have H : Hid (letterI n = false) := by show _ = _; simp [letterI]; omega
        go_enter Tryz.func199, Tryz.ntmps199
        go_wp2_with fail
        go_ret
        exact ⟨by rw [H.out]; rfl, rfl⟩
  · have H : Hid (letterI n = false) := by show _ = _; simp [letterI]; omega
    have h3 : ¬ 97 ≤ n := by omega
    go_enter Tryz.func199, Tryz.ntmps199
    go_wp2_with fail
    go_ret
    exact ⟨by rw [H.out]; rfl, rfl⟩
set_option maxHeartbeats 400000 in
theorem isLater_any (n : Int) (w : World) :
    Calls Tryz.prog 200 #[.int .u8 n] w fun e w' => e = .returned (.bool (laterI n)) ∧ w = w' := by
  by_cases h1 : 48 ≤ n
  · by_cases h2 : n ≤ 57
    · have H : Hid (laterI n = true) := by show _ = _; simp [laterI]; omega
      go_enter Tryz.func200, Tryz.ntmps200
      go_wp2_with fail
      go_ret
      exact ⟨by rw [H.out]; rfl, rfl⟩
    · by_cases h3 : n = 95
      · have H : Hid (laterI n = true) := by show _ = _; simp [laterI, h3]
        have hb : (n == 95) = true := by simp [h3]
        clear h3
        go_enter Tryz.func200, Tryz.ntmps200
        go_wp2_with fail
        go_ret
        exact ⟨by rw [H.out]; rfl, rfl⟩
      · have H : Hid (laterI n = false) := by show _ = _; simp [laterI]; omega
        have hb : (n == 95) = false := by simp [h3]
        have hb2 : (n == 35) = false := by simp; omega
        clear h3
        go_enter Tryz.func200, Tryz.ntmps200
        go_wp2_with fail
        go_ret
        exact ⟨by rw [H.out]; rfl, rfl⟩
  · have hb : (n == 95) = false := by simp; omega
    by_cases h4 : n = 35
    · have H : Hid (laterI n = true) := by show _ = _; simp [laterI, h4]
      have hb2 : (n == 35) = true := by simp [h4]
      have h5 : n < 48 := by omega
      clear h4 h1
      go_enter Tryz.func200, Tryz.ntmps200
      go_wp2_with fail
      go_ret
      exact ⟨by rw [H.out]; rfl, rfl⟩
    · have H : Hid (laterI n = false) := by show _ = _; simp [laterI]; omega
      have hb2 : (n == 35) = false := by simp [h4]
      clear h4
      go_enter Tryz.func200, Tryz.ntmps200
      go_wp2_with fail
      go_ret
      exact ⟨by rw [H.out]; rfl, rfl⟩
theorem scan_step {k : Nat} {s : ByteArray} (h : k < s.size) : scan k (s.data.toList.drop k) = if letterI s[k].toNat then 1 + scan (k + 1) (s.data.toList.drop (k + 1)) else if k = 0 then 0 else if laterI s[k].toNat then 1 + scan (k + 1) (s.data.toList.drop (k + 1)) else 0 := by
  have hl : k < s.data.toList.length := by simpa using h
  rw [List.drop_eq_getElem_cons hl]
  have e : s.data.toList[k] = s[k] := rfl
  rw [e]
  simp only [scan]
  rw [if_neg (by omega : ¬ k + 1 = 0)]
  by_cases hk : k = 0
  · simp only [if_pos hk, nameLen]
  · simp only [if_neg hk, tailLen]
set_option maxHeartbeats 800000 in
theorem nameLength_any (s : ByteArray) (w : World) (hs : s.size ≤ maxLen) :
    Calls Tryz.prog 176 #[.string s] w fun e w' => e = .returned (.int .i64 (nameLen s.data.toList)) ∧ w = w' := by
  unfold maxLen at hs
  go_enter Tryz.func176, Tryz.ntmps176
  go_wp2_with fail
  go_loop [6] (fun i => ∃ k : Nat, k ≤ s.size ∧ i = .int .i64 k ∧ Hid (nameLen s.data.toList = k + scan k (s.data.toList.drop k))) (fun i => s.size - (intOf i).toNat)
  case atStart => exact ⟨0, Nat.zero_le _, rfl, by show _ = _; simp [scan]⟩
  case round =>
    obtain ⟨k, hk, rfl, HN⟩ := hrel
    by_cases hlt : k < s.size
    · have hst := scan_step hlt
      have HL := Lib.hid (isLetter_any (s[k].toNat : Int) w)
      have HT := Lib.hid (isLater_any (s[k].toNat : Int) w)
      generalize hL : letterI (s[k].toNat : Int) = L at hst HL
      generalize hT : laterI (s[k].toNat : Int) = T at hst HT
      clear hL hT
      by_cases hL : L = true
      · subst hL
        have HN2 : Hid (nameLen s.data.toList = (k + 1) + scan (k + 1) (s.data.toList.drop (k + 1))) := by show _ = _; rw [HN.out, hst, if_pos rfl]; omega
        clear hst
        go_wp2_with (go_at_call 199; refine (HL.out).mono ?_; rintro e w' ⟨rfl, rfl⟩)
        go_round
        case rel => exact ⟨k + 1, by omega, by go_num, HN2⟩
        case measure => simp [intOf]; omega
      · have hL' : L = false := by simpa using hL
        subst hL'
        by_cases h0 : k = 0
        · have HN2 : Hid (nameLen s.data.toList = k) := by show _ = _; rw [HN.out, hst, if_neg (by simp), if_pos h0]; rfl
          have hb : ((k : Int) == 0) = true := by simp [h0]
          clear hst h0
          go_wp2_with (go_at_call 199; refine (HL.out).mono ?_; rintro e w' ⟨rfl, rfl⟩)
          go_ret
          exact ⟨by rw [HN2.out]; rfl, rfl⟩
        · have hb : ((k : Int) == 0) = false := by simp [h0]
          by_cases hT : T = true
          · subst hT
            have HN2 : Hid (nameLen s.data.toList = (k + 1) + scan (k + 1) (s.data.toList.drop (k + 1))) := by show _ = _; rw [HN.out, hst, if_neg (by simp), if_neg h0, if_pos rfl]; omega
            clear hst h0
            go_wp2_with (first
              | (go_at_call 199; refine (HL.out).mono ?_; rintro e w' ⟨rfl, rfl⟩)
              | (go_at_call 200; refine (HT.out).mono ?_; rintro e w' ⟨rfl, rfl⟩))
            go_round
            case rel => exact ⟨k + 1, by omega, by go_num, HN2⟩
            case measure => simp [intOf]; omega
          · have hT' : T = false := by simpa using hT
            subst hT'
            have HN2 : Hid (nameLen s.data.toList = k) := by show _ = _; rw [HN.out, hst, if_neg (by simp), if_neg h0, if_neg (by simp)]; rfl
            clear hst h0
            go_wp2_with (first
              | (go_at_call 199; refine (HL.out).mono ?_; rintro e w' ⟨rfl, rfl⟩)
              | (go_at_call 200; refine (HT.out).mono ?_; rintro e w' ⟨rfl, rfl⟩))
            go_ret
            exact ⟨by rw [HN2.out]; rfl, rfl⟩
    · have hkl : k = s.size := by omega
      have HN2 : Hid (nameLen s.data.toList = s.size) := by
        show _ = _
        rw [HN.out, List.drop_eq_nil_of_le (by simp; omega)]
        have : scan k [] = 0 := by simp [scan, nameLen, tailLen]
        rw [this]; omega
      clear hkl
      go_wp2_with fail
      go_ret
      exact ⟨by rw [HN2.out]; rfl, rfl⟩
set_option maxHeartbeats 800000 in
theorem isName_any (s : ByteArray) (w : World) (hs : s.size ≤ maxLen) :
    Calls Tryz.prog 137 #[.string s] w fun e w' => e = .returned (.bool (isNameB s.data.toList)) ∧ w = w' := by
  have hsz : s.data.toList.length = s.size := by simp
  have HC := Lib.hid (nameLength_any s w hs)
  unfold maxLen at hs
  by_cases h0 : s.size = 0
  · have H : Hid (isNameB s.data.toList = false) := by show _ = _; simp [isNameB, hsz, h0]
    have hb : s.toList.isEmpty = true := by rw [Lib.toList_data]; exact List.isEmpty_iff.2 (List.length_eq_zero_iff.1 (by rw [hsz, h0]))
    clear h0 hsz
    go_enter Tryz.func137, Tryz.ntmps137
    go_wp2_with fail
    go_ret
    exact ⟨by rw [H.out]; rfl, rfl⟩
  have hb : s.toList.isEmpty = false := by
    rw [Lib.toList_data]
    cases hd : s.data.toList with
    | nil => rw [hd] at hsz; simp at hsz; omega
    | cons a r => rfl
  by_cases h1 : 24 < s.size
  · have H : Hid (isNameB s.data.toList = false) := by show _ = _; simp only [isNameB, hsz]; simp; omega
    have h1' : (24 : Int) < (s.size : Int) := by omega
    clear h0 hsz
    go_enter Tryz.func137, Tryz.ntmps137
    go_wp2_with fail
    go_ret
    exact ⟨by rw [H.out]; rfl, rfl⟩
  have h1' : (s.size : Int) ≤ 24 := by omega
  by_cases h2 : nameLen s.data.toList = s.size
  · have H : Hid (isNameB s.data.toList = true) := by show _ = _; simp only [isNameB, hsz]; simp; omega
    rw [h2] at HC
    have hb2 : ((s.size : Int) == (s.size : Int)) = true := by simp
    clear h0 hsz h2
    go_enter Tryz.func137, Tryz.ntmps137
    go_wp2_with (go_at_call 176; refine (HC.out).mono ?_; rintro e w' ⟨rfl, rfl⟩)
    go_ret
    exact ⟨by rw [H.out]; rfl, rfl⟩
  · have H : Hid (isNameB s.data.toList = false) := by show _ = _; simp only [isNameB, hsz]; simp; omega
    generalize hn : nameLen s.data.toList = q at HC h2
    have hb2 : ((q : Int) == (s.size : Int)) = false := by simp; omega
    clear h0 hsz h2 hn
    go_enter Tryz.func137, Tryz.ntmps137
    go_wp2_with (go_at_call 176; refine (HC.out).mono ?_; rintro e w' ⟨rfl, rfl⟩)
    go_ret
    exact ⟨by rw [H.out]; rfl, rfl⟩
def preB (s p : ByteArray) : Bool := decide (p.size ≤ s.size) && ((s.extract 0 p.size).toList == p.toList)
end Go.Proofs.YtbcpnepjojppaaaGreatDoor
namespace Go.Proofs.YtbcpnepjojppaaaGreatDoor
open Go.RowKit
def digitI (n : Int) : Bool := decide (48 ≤ n ∧ n ≤ 57)
set_option maxHeartbeats 800000 in
theorem rletter_any (n : Int) (w : World) :
    Calls Tryz.prog 173 #[.int .u8 n] w fun e w' => e = .returned (.bool (letterI n)) ∧ w = w' := by
  by_cases h1 : 97 ≤ n
  · have h3 : 65 ≤ n := by omega
    by_cases h2 : n ≤ 122
    · have H : Hid (letterI n = true) := by show _ = _; simp [letterI]; omega
      go_enter Tryz.func173, Tryz.ntmps173
      go_wp2_with fail
      go_ret
      exact ⟨by rw [H.out]; rfl, rfl⟩
    · have h4 : ¬ n ≤ 90 := by omega
      have H : Hid (letterI n = false) := by show _ = _; simp [letterI]; omega
      go_enter Tryz.func173, Tryz.ntmps173
      go_wp2_with fail
      go_ret
      exact ⟨by rw [H.out]; rfl, rfl⟩
  · by_cases h3 : 65 ≤ n
    · by_cases h4 : n ≤ 90
      · have H : Hid (letterI n = true) := by show _ = _; simp [letterI]; omega
        go_enter Tryz.func173, Tryz.ntmps173
        go_wp2_with fail
        go_ret
        exact ⟨by rw [H.out]; rfl, rfl⟩
      · have H : Hid (letterI n = false) := by show _ = _; simp [letterI]; omega
        go_enter Tryz.func173, Tryz.ntmps173
        go_wp2_with fail
        go_ret
        exact ⟨by rw [H.out]; rfl, rfl⟩
    · have H : Hid (letterI n = false) := by show _ = _; simp [letterI]; omega
      go_enter Tryz.func173, Tryz.ntmps173
      go_wp2_with fail
      go_ret
      exact ⟨by rw [H.out]; rfl, rfl⟩
set_option maxHeartbeats 400000 in
theorem rdigit_any (n : Int) (w : World) :
    Calls Tryz.prog 174 #[.int .u8 n] w fun e w' => e = .returned (.bool (digitI n)) ∧ w = w' := by
  by_cases h1 : 48 ≤ n
  · by_cases h2 : n ≤ 57
    · have H : Hid (digitI n = true) := by show _ = _; simp [digitI]; omega
      go_enter Tryz.func174, Tryz.ntmps174
      go_wp2_with fail
      go_ret
      exact ⟨by rw [H.out]; rfl, rfl⟩
    · have H : Hid (digitI n = false) := by show _ = _; simp [digitI]; omega
      go_enter Tryz.func174, Tryz.ntmps174
      go_wp2_with fail
      go_ret
      exact ⟨by rw [H.out]; rfl, rfl⟩
  · have H : Hid (digitI n = false) := by show _ = _; simp [digitI]; omega
    go_enter Tryz.func174, Tryz.ntmps174
    go_wp2_with fail
    go_ret
    exact ⟨by rw [H.out]; rfl, rfl⟩
def nameByte (b : UInt8) : Bool := letterI b.toNat || laterI b.toNat
theorem tail_all : ∀ l : List UInt8, (tailLen l = l.length) ↔ l.all nameByte = true
  | [] => by simp [tailLen]
  | c :: r => by
    have ih := tail_all r
    have hle := tailLen_le r
    simp only [tailLen, List.length_cons, List.all_cons, Bool.and_eq_true, nameByte, Bool.or_eq_true]
    cases h1 : letterI c.toNat
    · cases h2 : laterI c.toNat
      · simp
      · simp only [Bool.false_eq_true, if_false, if_true, true_and, or_true]
        constructor
        · intro h; exact ih.1 (by omega)
        · intro h; have := ih.2 h; omega
    · simp only [if_true, true_or, true_and]
      constructor
      · intro h; exact ih.1 (by omega)
      · intro h; have := ih.2 h; omega
theorem isName_all (c : UInt8) (r : List UInt8) : isNameB (c :: r) = (decide ((c :: r).length ≤ 24) && letterI c.toNat && (c :: r).all nameByte) := by
  have ht := tail_all r
  have hle := tailLen_le r
  have hl : (0 : Nat) < (c :: r).length := by simp
  simp only [isNameB, hl, decide_true, Bool.true_and, nameLen]
  by_cases h1 : letterI c.toNat = true
  · simp only [h1, if_true, Bool.and_true]
    congr 1
    simp only [List.all_cons, nameByte, h1, Bool.true_or, Bool.true_and, List.length_cons]
    rw [Bool.eq_iff_iff, decide_eq_true_eq]
    constructor
    · intro h; exact ht.1 (by omega)
    · intro h; have := ht.2 h; omega
  · have h2 : letterI c.toNat = false := by simpa using h1
    simp [h2]
theorem name_first {s : ByteArray} (h0 : 0 < s.size) (h1 : s.size ≤ 24) (hl : letterI s[0].toNat = true) : isNameB s.data.toList = s.data.toList.all nameByte := by
  have hsz : s.data.toList.length = s.size := by simp
  have e0 : s.data.toList[0]? = some s[0] := by rw [List.getElem?_eq_getElem (by omega)]; rfl
  generalize s.data.toList = l at hsz e0 ⊢
  cases l with
  | nil => simp at hsz; omega
  | cons c r =>
    simp only [List.getElem?_cons_zero, Option.some.injEq] at e0
    subst e0
    rw [isName_all, hl]
    have : decide ((s[0] :: r).length ≤ 24) = true := by simp only [decide_eq_true_eq]; omega
    rw [this]; rfl
theorem name_first_not {s : ByteArray} (h0 : 0 < s.size) (hl : letterI s[0].toNat = false) : isNameB s.data.toList = false := by
  have hsz : s.data.toList.length = s.size := by simp
  have e0 : s.data.toList[0]? = some s[0] := by rw [List.getElem?_eq_getElem (by omega)]; rfl
  generalize s.data.toList = l at hsz e0 ⊢
  cases l with
  | nil => simp at hsz; omega
  | cons c r =>
    simp only [List.getElem?_cons_zero, Option.some.injEq] at e0
    subst e0
    rw [isName_all, hl]
    simp
theorem all_take {l : List UInt8} {k : Nat} (h : k < l.length) : (l.take (k + 1)).all nameByte = ((l.take k).all nameByte && nameByte l[k]) := by
  rw [List.take_succ_eq_append_getElem h, List.all_append]
  simp
theorem all_not {l : List UInt8} {k : Nat} (h : k < l.length) (hb : nameByte l[k] = false) : l.all nameByte = false := by
  rw [List.all_eq_false]
  exact ⟨l[k], List.getElem_mem h, by rw [hb]; simp⟩
set_option maxHeartbeats 1600000 in
set_option maxRecDepth 100000 in
theorem rIsName_any (s : ByteArray) (w : World) (hs : s.size ≤ maxLen) :
    Calls Tryz.prog 135 #[.string s] w fun e w' => e = .returned (.bool (isNameB s.data.toList)) ∧ w = w' := by
  have hsz : s.data.toList.length = s.size := by simp
  unfold maxLen at hs
  by_cases h0 : s.size = 0
  · have H : Hid (isNameB s.data.toList = false) := by show _ = _; simp [isNameB, hsz, h0]
    have hb : ((s.size : Int) == 0) = true := by simp [h0]
    clear h0 hsz
    go_enter Tryz.func135, Tryz.ntmps135
    go_wp2_with fail
    go_ret
    exact ⟨by rw [H.out]; rfl, rfl⟩
  have hb : ((s.size : Int) == 0) = false := by rw [beq_eq_false_iff_ne]; omega
  by_cases h1 : 24 < s.size
  · have H : Hid (isNameB s.data.toList = false) := by show _ = _; simp only [isNameB, hsz]; simp; omega
    have h1' : (24 : Int) < (s.size : Int) := by omega
    clear h0 hsz
    go_enter Tryz.func135, Tryz.ntmps135
    go_wp2_with fail
    go_ret
    exact ⟨by rw [H.out]; rfl, rfl⟩
  have h1' : (s.size : Int) ≤ 24 := by omega
  have hpos : 0 < s.size := by omega
  have hposi : (0 : Int) < (s.size : Int) := by omega
  have HL0 := Lib.hid (rletter_any (s[0].toNat : Int) w)
  by_cases hl : letterI s[0].toNat = true
  rotate_left
  · have hl' : letterI s[0].toNat = false := by simpa using hl
    have H : Hid (isNameB s.data.toList = false) := name_first_not hpos hl'
    rw [hl'] at HL0
    clear h0 hsz hl hl'
    go_enter Tryz.func135, Tryz.ntmps135
    go_wp2_with (go_at_call 173; refine (HL0.out).mono ?_; rintro e w' ⟨rfl, rfl⟩)
    go_ret
    exact ⟨by rw [H.out]; rfl, rfl⟩
  have HN : Hid (isNameB s.data.toList = s.data.toList.all nameByte) := name_first hpos (by omega) hl
  rw [hl] at HL0
  have tok1 : True := trivial
  clear h0 hl
  go_enter Tryz.func135, Tryz.ntmps135
  go_wp2_with (go_at_call 173; refine (HL0.out).mono ?_; rintro e w' ⟨rfl, rfl⟩)
  go_loop [3] (fun i => ∃ k : Nat, k ≤ s.size ∧ i = .int .i64 k ∧ Hid ((s.data.toList.take k).all nameByte = true)) (fun i => s.size - (intOf i).toNat)
  case atStart => exact ⟨0, Nat.zero_le _, rfl, by show _ = _; simp⟩
  case round =>
    obtain ⟨k, hk, rfl, HA⟩ := hrel
    by_cases hlt : k < s.size
    rotate_left
    · have H : Hid (isNameB s.data.toList = true) := by
        show _ = _
        have := HA.out
        rw [List.take_of_length_le (by omega)] at this
        rw [HN.out, this]
      go_wp2_with fail
      go_ret
      exact ⟨by rw [H.out]; rfl, rfl⟩
    have hkl : k < s.data.toList.length := by omega
    have HST := Lib.hid (all_take hkl)
    have HNO : Hid (nameByte s[k] = false → isNameB s.data.toList = false) := fun h => by rw [HN.out]; exact all_not hkl h
    have HL := Lib.hid (rletter_any (s[k].toNat : Int) w)
    have HD := Lib.hid (rdigit_any (s[k].toNat : Int) w)
    have e0 : s.data.toList[k] = s[k] := rfl
    rw [e0] at HST
    have hnb : nameByte s[k] = (letterI s[k].toNat || laterI s[k].toNat) := rfl
    have hdl : digitI s[k].toNat = true → laterI s[k].toNat = true := by intro h; simp [digitI, laterI] at *; omega
    have h95 : (s[k].toNat : Int) = 95 → laterI s[k].toNat = true := by intro h; simp [laterI]; omega
    have h35 : (s[k].toNat : Int) = 35 → laterI s[k].toNat = true := by intro h; simp [laterI]; omega
    have hno : digitI s[k].toNat = false → ¬ (s[k].toNat : Int) = 95 → ¬ (s[k].toNat : Int) = 35 → laterI s[k].toNat = false := by intro h a b; simp [digitI, laterI] at *; omega
    generalize nameByte s[k] = nb at hnb HST HNO
    have HNX : Hid (nb = true → (s.data.toList.take (k + 1)).all nameByte = true) := fun h => by rw [HST.out, HA.out, h]; rfl
    by_cases hL : letterI (s[k].toNat : Int) = true
    · have HA2 : Hid ((s.data.toList.take (k + 1)).all nameByte = true) := HNX.out (by rw [hnb, hL]; rfl)
      rw [hL] at HL
      clear hnb hdl h95 h35 hno hL e0
      go_wp2_with (first
          | (go_at_call 173; refine (HL.out).mono ?_; rintro e w' ⟨rfl, rfl⟩)
          | (go_at_call 174; refine (HD.out).mono ?_; rintro e w' ⟨rfl, rfl⟩))
      go_round
      case rel => exact ⟨k + 1, by omega, by go_num, HA2⟩
      case measure => simp [intOf]; omega
    have hL' : letterI (s[k].toNat : Int) = false := by simpa using hL
    rw [hL'] at HL
    by_cases hD : digitI (s[k].toNat : Int) = true
    · have HA2 : Hid ((s.data.toList.take (k + 1)).all nameByte = true) := HNX.out (by rw [hnb, hdl hD]; simp)
      rw [hD] at HD
      clear hnb hdl h95 h35 hno hL hL' hD e0
      go_wp2_with (first
          | (go_at_call 173; refine (HL.out).mono ?_; rintro e w' ⟨rfl, rfl⟩)
          | (go_at_call 174; refine (HD.out).mono ?_; rintro e w' ⟨rfl, rfl⟩))
      go_round
      case rel => exact ⟨k + 1, by omega, by go_num, HA2⟩
      case measure => simp [intOf]; omega
    have hD' : digitI (s[k].toNat : Int) = false := by simpa using hD
    rw [hD'] at HD
    by_cases hx : (s[k].toNat : Int) = 95
    · have HA2 : Hid ((s.data.toList.take (k + 1)).all nameByte = true) := HNX.out (by rw [hnb, h95 hx]; simp)
      have hb1 : ((s[k].toNat : Int) != 95) = false := by simp [hx]
      clear hnb hdl h95 h35 hno hL hL' hD hD' hx e0
      go_wp2_with (first
          | (go_at_call 173; refine (HL.out).mono ?_; rintro e w' ⟨rfl, rfl⟩)
          | (go_at_call 174; refine (HD.out).mono ?_; rintro e w' ⟨rfl, rfl⟩))
      go_round
      case rel => exact ⟨k + 1, by omega, by go_num, HA2⟩
      case measure => simp [intOf]; omega
    have hb1 : ((s[k].toNat : Int) != 95) = true := by simp [hx]
    by_cases hy : (s[k].toNat : Int) = 35
    · have HA2 : Hid ((s.data.toList.take (k + 1)).all nameByte = true) := HNX.out (by rw [hnb, h35 hy]; simp)
      have hb2 : ((s[k].toNat : Int) != 35) = false := by simp [hy]
      clear hnb hdl h95 h35 hno hL hL' hD hD' hx hy e0
      go_wp2_with (first
          | (go_at_call 173; refine (HL.out).mono ?_; rintro e w' ⟨rfl, rfl⟩)
          | (go_at_call 174; refine (HD.out).mono ?_; rintro e w' ⟨rfl, rfl⟩))
      go_round
      case rel => exact ⟨k + 1, by omega, by go_num, HA2⟩
      case measure => simp [intOf]; omega
    have hb2 : ((s[k].toNat : Int) != 35) = true := by simp [hy]
    have H : Hid (isNameB s.data.toList = false) := HNO.out (by rw [hnb, hL', hno hD' hx hy]; rfl)
    clear hnb hdl h95 h35 hno hL hL' hD hD' hx hy e0
    go_wp2_with (first
          | (go_at_call 173; refine (HL.out).mono ?_; rintro e w' ⟨rfl, rfl⟩)
          | (go_at_call 174; refine (HD.out).mono ?_; rintro e w' ⟨rfl, rfl⟩))
    go_ret
    exact ⟨by rw [H.out]; rfl, rfl⟩
end Go.Proofs.YtbcpnepjojppaaaGreatDoor
