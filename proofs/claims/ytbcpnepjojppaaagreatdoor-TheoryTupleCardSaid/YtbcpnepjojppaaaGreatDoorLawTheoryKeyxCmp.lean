import Derived.Deep.Draws
import Derived.Deep.RegionHeld3
import Derived.KernelRfl
import Derived.Lib.Hide
import Derived.Lib.Walk
import Derived.Outline
import Derived.Sort.Grow
import Derived.StillTactics
import Derived.Test.YtbcpnepjojppaaaGreatDoorProg
import Derived.WalkLawsBesides
import Derived.WalkSpells
import Derived.Test.YtbcpnepjojppaaaGreatDoorLawTheoryKeyxMem
namespace Go.Proofs.YtbcpnepjojppaaaGreatDoor
open Go.RowKit
set_option maxHeartbeats 400000 in
theorem number_any (a b : Int) (w : World) :
    Calls Tryz.prog 93 #[.int .i64 a, .int .i64 b] w fun e w' => e = .returned (.int .i64 (num a b)) ∧ w = w' := by
  by_cases h : a < b
  · go_enter Tryz.func93, Tryz.ntmps93
    go_wp2_with fail
    go_ret
    exact ⟨by simp [num, h], rfl⟩
  · by_cases h2 : b < a
    · go_enter Tryz.func93, Tryz.ntmps93
      go_wp2_with fail
      go_ret
      exact ⟨by simp [num, h2]; omega, rfl⟩
    · go_enter Tryz.func93, Tryz.ntmps93
      go_wp2_with fail
      go_ret
      exact ⟨by simp [num]; omega, rfl⟩
theorem isNaN_any (a : Int) (w : World) :
    Calls Tryz.prog 189 #[.int .i64 a] w fun e w' => e = .returned (.bool false) ∧ w = w' := by
  go_enter Tryz.func189, Tryz.ntmps189
  go_wp2_with fail
  go_ret
  exact ⟨by simp, rfl⟩
set_option maxHeartbeats 400000 in
theorem Compare_int_any (a b : Int) (w : World) :
    Calls Tryz.prog 155 #[.int .i64 a, .int .i64 b] w fun e w' => e = .returned (.int .i64 (num a b)) ∧ w = w' := by
  by_cases h : a < b
  · go_enter Tryz.func155, Tryz.ntmps155
    go_wp2_with (go_at_call 189; refine (isNaN_any _ _).mono ?_; rintro e w' ⟨rfl, rfl⟩)
    go_ret
    exact ⟨by simp [num, h], rfl⟩
  · by_cases h2 : b < a
    · go_enter Tryz.func155, Tryz.ntmps155
      go_wp2_with (go_at_call 189; refine (isNaN_any _ _).mono ?_; rintro e w' ⟨rfl, rfl⟩)
      go_ret
      exact ⟨by simp [num, h2]; omega, rfl⟩
    · go_enter Tryz.func155, Tryz.ntmps155
      go_wp2_with (go_at_call 189; refine (isNaN_any _ _).mono ?_; rintro e w' ⟨rfl, rfl⟩)
      go_ret
      exact ⟨by simp [num]; omega, rfl⟩
theorem orl_drop (xs : List Int) (j : Nat) (h : j < xs.length) : orl (xs.drop j) = orr xs[j] (orl (xs.drop (j + 1))) := by
  rw [List.drop_eq_getElem_cons h]; rfl
set_option maxHeartbeats 400000 in
theorem Or_any (xs : List Int) (b o : Nat) (w : World) (hl : xs.length ≤ 1000) (hc : ∀ i (h : i < xs.length), w.cell? ⟨b, o + i, none⟩ = some (.int .i64 xs[i])) :
    Calls Tryz.prog 154 #[.slice (some ⟨b, o, none⟩) xs.length xs.length] w fun e w' => e = .returned (.int .i64 (orl xs)) ∧ w = w' := by
  have HC : Hid (∀ i (h : i < xs.length), w.cell? ⟨b, o + i, none⟩ = some (.int .i64 xs[i])) := hc
  clear hc
  go_enter Tryz.func154, Tryz.ntmps154
  go_wp2_with fail
  go_loop [8] (fun i => ∃ j : Nat, j ≤ xs.length ∧ i = .int .i64 j ∧ Hid (orl xs = orl (xs.drop j))) (fun i => xs.length - (intOf i).toNat)
  case atStart => exact ⟨0, Nat.zero_le _, rfl, rfl⟩
  case round =>
    obtain ⟨j, hj, rfl, HO⟩ := hrel
    by_cases hlt : j < xs.length
    · have hcj := HC.out j hlt
      have hd := orl_drop xs j hlt
      by_cases hz : xs[j] = 0
      · have HO' : Hid (orl xs = orl (xs.drop (j + 1))) := by show _ = _; rw [HO.out, hd, orr, if_pos hz]
        have hb : (xs[j] != 0) = false := by simp [hz]
        rw [hz] at hcj
        clear hd hz HO hb
        go_wp2_with fail
        go_round
        case rel => exact ⟨j + 1, by omega, by go_num, HO'⟩
        case measure => simp [intOf]; omega
      · have HO' : Hid (orl xs = xs[j]) := by show _ = _; rw [HO.out, hd, orr, if_neg hz]
        have hb : (xs[j] != 0) = true := by simp [hz]
        clear hd HO
        generalize xs[j] = x at *
        clear hz
        go_wp2_with fail
        go_ret
        exact ⟨by rw [HO'.out]; rfl, rfl⟩
    · have hjl : xs.drop j = [] := List.drop_eq_nil_of_le (by omega)
      have HO' : Hid (orl xs = 0) := by show _ = _; rw [HO.out, hjl]; rfl
      clear hjl HO
      go_wp2_with fail
      go_ret
      exact ⟨by rw [HO'.out]; rfl, rfl⟩
theorem Or2_any (x y : Int) (b : Nat) (w : World) (h0 : w.cell? ⟨b, 0, none⟩ = some (.int .i64 x)) (h1 : w.cell? ⟨b, 1, none⟩ = some (.int .i64 y)) :
    Calls Tryz.prog 154 #[.slice (some ⟨b, 0, none⟩) 2 2] w fun e w' => e = .returned (.int .i64 (orr x y)) ∧ w = w' := by
  refine (Or_any [x, y] b 0 w (by simp) ?_).mono ?_
  · intro i h
    match i, h with
    | 0, _ => exact h0
    | 1, _ => exact h1
  · rintro e w' ⟨rfl, rfl⟩
    refine ⟨?_, rfl⟩
    have : orl [x, y] = orr x y := by simp only [orl, orr]; split <;> (try split) <;> simp_all
    rw [this]
theorem Or4_any (x y z u : Int) (b : Nat) (w : World) (h0 : w.cell? ⟨b, 0, none⟩ = some (.int .i64 x)) (h1 : w.cell? ⟨b, 1, none⟩ = some (.int .i64 y)) (h2 : w.cell? ⟨b, 2, none⟩ = some (.int .i64 z)) (h3 : w.cell? ⟨b, 3, none⟩ = some (.int .i64 u)) :
    Calls Tryz.prog 154 #[.slice (some ⟨b, 0, none⟩) 4 4] w fun e w' => e = .returned (.int .i64 (orr x (orr y (orr z u)))) ∧ w = w' := by
  refine (Or_any [x, y, z, u] b 0 w (by simp) ?_).mono ?_
  · intro i h
    match i, h with
    | 0, _ => exact h0
    | 1, _ => exact h1
    | 2, _ => exact h2
    | 3, _ => exact h3
  · rintro e w' ⟨rfl, rfl⟩
    refine ⟨?_, rfl⟩
    have : orl [x, y, z, u] = orr x (orr y (orr z u)) := by
      simp only [orl]
      have : orr u 0 = u := by simp only [orr]; split <;> simp_all
      rw [this]
    rw [this]
theorem cells_new (w : World) (cs : Array Value) (T : TypeId) (i : Nat) (v : Value) (h : cs[i]? = some v) : (w.alloc (.cells cs T)).cell? ⟨w.heap.size, i, none⟩ = some v := by
  unfold World.cell?; rw [heap_alloc_new]; exact h
end Go.Proofs.YtbcpnepjojppaaaGreatDoor
namespace Go.Proofs.YtbcpnepjojppaaaGreatDoor
open Go.RowKit
structure Gr (w w' : World) : Prop where
  below : Below w.heap.size w w'
  drawn : w.drawn ≤ w'.drawn
theorem Gr.refl (w : World) : Gr w w := ⟨Below.refl _ _, Nat.le_refl _⟩
theorem Gr.trans {a b c : World} (h : Gr a b) (k : Gr b c) : Gr a c := ⟨h.below.trans (k.below.mono h.below.size), Nat.le_trans h.drawn k.drawn⟩
theorem Gr.alloc {w w' : World} (h : Gr w w') (o : Obj) : Gr w (w'.alloc o) := ⟨h.below.alloc h.below.size o, h.drawn⟩
theorem Gr.drew {w w' : World} (h : Gr w w') : Gr w w'.drew := ⟨h.below.drew, Nat.le_succ_of_le h.drawn⟩
set_option maxHeartbeats 1000000 in
set_option maxRecDepth 100000 in
theorem CompareString_any (a b : ByteArray) (w : World) :
    Calls Tryz.prog 210 #[.string a, .string b] w fun e w' => e = .returned (.int .i64 (str a b)) ∧ w = w' := by
  go_enter Tryz.func210, Tryz.ntmps210
  go_wp2
  rw [run_callFunc_extern Tryz.func234 (by kernel_rfl) (by kernel_rfl) (by kernel_rfl) (e := Extern.BytealgCompare.compare) (by kernel_rfl), Lib.run_compareString]
  simp only [Result.andThen]
  rw [Oper.upon_value]
  go_wp2
  go_ret
  exact ⟨rfl, rfl⟩
theorem strCompare_any (a b : ByteArray) (w : World) :
    Calls Tryz.prog 188 #[.string a, .string b] w fun e w' => e = .returned (.int .i64 (str a b)) ∧ w = w' := by
  go_enter Tryz.func188, Tryz.ntmps188
  go_wp2_with (go_at_call 210; refine (CompareString_any _ _ _).mono ?_; rintro e w' ⟨rfl, rfl⟩)
  go_ret
  exact ⟨rfl, rfl⟩
set_option maxHeartbeats 1600000 in
set_option maxRecDepth 100000 in
theorem compareRoots_any (k s k' s' : Int) (n n' : ByteArray) (l cap l' cap' : Nat) (xa xa' : Option Addr) (b o b' o' : Nat) (w : World)
    (g0 : w.cell? ⟨b, o, none⟩ = some (.int .i64 k)) (g1 : w.cell? ⟨b, o + 1, none⟩ = some (.string n)) (g2 : w.cell? ⟨b, o + 2, none⟩ = some (.int .i64 s)) (g3 : w.cell? ⟨b, o + 3, none⟩ = some (.slice xa l cap))
    (h0 : w.cell? ⟨b', o', none⟩ = some (.int .i64 k')) (h1 : w.cell? ⟨b', o' + 1, none⟩ = some (.string n')) (h2 : w.cell? ⟨b', o' + 2, none⟩ = some (.int .i64 s')) (h3 : w.cell? ⟨b', o' + 3, none⟩ = some (.slice xa' l' cap')) :
    Calls Tryz.prog 153 #[.pointer (some ⟨b, o, none⟩), .pointer (some ⟨b', o', none⟩)] w fun e w' => e = .returned (.int .i64 (orr (num k k') (orr (str n n') (orr (num s s') (num l l'))))) ∧ Gr w w' := by
  have C4 := cells_new w #[.int .i64 (num k k'), .int .i64 (str n n'), .int .i64 (num s s'), .int .i64 (num l l')] 3
  go_enter Tryz.func153, Tryz.ntmps153
  go_wp2_with fail
  go_region_held3 (fun w' => w'.cell? ⟨b, o, none⟩ = some (.int .i64 k) ∧ w'.cell? ⟨b, o + 1, none⟩ = some (.string n) ∧ w'.cell? ⟨b, o + 2, none⟩ = some (.int .i64 s) ∧ w'.cell? ⟨b, o + 3, none⟩ = some (.slice xa l cap) ∧
      w'.cell? ⟨b', o', none⟩ = some (.int .i64 k') ∧ w'.cell? ⟨b', o' + 1, none⟩ = some (.string n') ∧ w'.cell? ⟨b', o' + 2, none⟩ = some (.int .i64 s') ∧ w'.cell? ⟨b', o' + 3, none⟩ = some (.slice xa' l' cap')) (go_keep)
    (first
      | (go_at_call 155; refine (Compare_int_any _ _ _).mono ?_; rintro e w' ⟨rfl, rfl⟩)
      | (go_at_call 188; refine (strCompare_any _ _ _).mono ?_; rintro e w' ⟨rfl, rfl⟩)
      | (go_at_call 154; refine (Or4_any (num k k') (str n n') (num s s') (num l l') _ _ ?_ ?_ ?_ ?_).mono ?_; (exact C4 0 _ rfl); (exact C4 1 _ rfl); (exact C4 2 _ rfl); (exact C4 3 _ rfl); rintro e w' ⟨rfl, rfl⟩))
  go_wp2_with fail
  go_ret
  exact ⟨rfl, ((Gr.refl _).alloc _).drew⟩
end Go.Proofs.YtbcpnepjojppaaaGreatDoor
namespace Go.Proofs.YtbcpnepjojppaaaGreatDoor
open Go.RowKit
theorem ret3 {a b c a' b' c' : Int} (h1 : a = a') (h2 : b = b') (h3 : c = c') : Ending.returned (.tuple #[.int .i64 a, .int .i64 b, .int .i64 c]) = Ending.returned (.tuple #[.int .i64 a', .int .i64 b', .int .i64 c']) := by rw [h1, h2, h3]
theorem roots_zero {k k' s s' : Int} {n n' : ByteArray} {l l' : Int} (h : orr (num k k') (orr (str n n') (orr (num s s') (num l l'))) = 0) : num k k' = 0 ∧ str n n' = 0 ∧ num s s' = 0 ∧ num l l' = 0 := by
  simp only [orr] at h; split at h <;> (try split at h) <;> (try split at h) <;> simp_all
theorem num_zero {a b : Int} (h : num a b = 0) : a = b := by
  unfold num at h; split at h <;> (try split at h) <;> omega
theorem cmp_roots {k k' s s' : Int} {n n' : ByteArray} {ks ks' : List Tm} (h : orr (num k k') (orr (str n n') (orr (num s s') (num ks.length ks'.length))) ≠ 0) :
    cmpT (.mk k n s ks) (.mk k' n' s' ks') = orr (num ((1 + sizes ks : Nat) : Int) ((1 + sizes ks' : Nat) : Int)) (orr (num k k') (orr (str n n') (orr (num s s') (num ks.length ks'.length)))) := by
  simp only [cmpT, orr] at h ⊢
  split <;> (try split) <;> (try split) <;> (try split) <;> (try split) <;> simp_all
theorem cmp_kids {k k' s s' : Int} {n n' : ByteArray} {ks ks' : List Tm} (h : orr (num k k') (orr (str n n') (orr (num s s') (num ks.length ks'.length))) = 0) :
    cmpT (.mk k n s ks) (.mk k' n' s' ks') = orr (num ((1 + sizes ks : Nat) : Int) ((1 + sizes ks' : Nat) : Int)) (cmpL ks ks') := by
  obtain ⟨h1, h2, h3, h4⟩ := roots_zero h
  simp only [cmpT, h1, h2, h3, h4, orr, if_true]
set_option maxHeartbeats 1600000 in
set_option maxRecDepth 100000 in
theorem compare_any (m : Nat) : ∀ (t u : Tm) (b o b' o' : Nat) (w : World), size t ≤ m → m ≤ 4611686018427387904 → size u ≤ 4611686018427387904 → Lies w t b o → Lies w u b' o' →
    Calls Tryz.prog 114 #[.pointer (some ⟨b, o, none⟩), .pointer (some ⟨b', o', none⟩)] w fun e w' => e = .returned (.tuple #[.int .i64 (cmpT t u), .int .i64 (size t), .int .i64 (size u)]) ∧ Gr w w' := by
  induction m with
  | zero => intro t u b o b' o' w h; have := size_pos t; omega
  | succ m ih =>
    intro t u b o b' o' w hm hM hU hL hL'
    obtain ⟨k, n, s, ks⟩ := t
    obtain ⟨k', n', s', ks'⟩ := u
    obtain ⟨g0, g1, g2, _, _, _, hl, xa, cap, g3, hcap, hR⟩ := Lies_mk hL
    obtain ⟨h0, h1, h2, _, _, _, hl', xa', cap', h3, hcap', hR'⟩ := Lies_mk hL'
    have hroots := compareRoots_any k s k' s' n n' _ _ _ _ xa xa' b o b' o' w g0 g1 g2 g3 h0 h1 h2 h3
    unfold maxLen at hl hl'
    have hsk : size (.mk k n s ks) = 1 + sizes ks := rfl
    have hsk' : size (.mk k' n' s' ks') = 1 + sizes ks' := rfl
    have hm2 : sizes ks ≤ m := by omega
    have hm2' : sizes ks' < 4611686018427387904 := by omega
    by_cases hz : orr (num k k') (orr (str n n') (orr (num s s') (num ks.length ks'.length))) = 0
    · have hcmp := cmp_kids hz
      have hlen : ks.length = ks'.length := by have := num_zero (roots_zero hz).2.2.2; omega
      rw [hz] at hroots
      have HC : Hid (cmpT (.mk k n s ks) (.mk k' n' s' ks') = orr (num ((1 + sizes ks : Nat) : Int) ((1 + sizes ks' : Nat) : Int)) (cmpL ks ks') ∧ size (.mk k n s ks) = 1 + sizes ks ∧ size (.mk k' n' s' ks') = 1 + sizes ks') := ⟨hcmp, hsk, hsk'⟩
      have HR := Lib.hid hroots
      have HL : Hid (ks.length = ks'.length) := hlen
      clear hlen hcmp hz hroots g0 g1 g2 h0 h1 h2 hL hL' hsk hsk' hm
      go_enter Tryz.func114, Tryz.ntmps114
      go_wp2_with (go_at_call 153; refine (HR.out).mono ?_; rintro e w1 ⟨rfl, hB⟩; have g3' := keep_below hB.below _ _ g3; have h3' := keep_below hB.below _ _ h3)
      clear g3' h3'
      go_loopw [4, 5, 6, 25] (fun or sa sb i wr => ∃ j : Nat, j ≤ ks.length ∧ i = .int .i64 j ∧ or = .int .i64 (cmpL (ks.take j) (ks'.take j)) ∧ sa = .int .i64 ((1 + sizes (ks.take j) : Nat) : Int) ∧ sb = .int .i64 ((1 + sizes (ks'.take j) : Nat) : Int) ∧ Gr w wr) (fun _ _ _ i _ => ks.length - (intOf i).toNat)
      case atStart => exact ⟨0, Nat.zero_le _, rfl, by simp [cmpL], rfl, rfl, hB⟩
      case round =>
        obtain ⟨j, hj, rfl, rfl, rfl, rfl, hGr⟩ := hrel
        have hBr := hGr.below
        have g3' := keep_below hBr _ _ g3
        have h3' := keep_below hBr _ _ h3
        have hle := sizes_take_le ks j
        have hle' := sizes_take_le ks' j
        by_cases hlt : j < ks.length
        · have hlt' : j < ks'.length := by have := HL.out; omega
          obtain ⟨kb, ko, rfl⟩ := Row_at hR (by omega)
          obtain ⟨kb', ko', rfl⟩ := Row_at hR' (by omega)
          have hK := Row_get (Row_below hR hBr) j hlt
          have hK' := Row_get (Row_below hR' hBr) j hlt'
          have hsz := sizes_take ks j hlt
          have hsz' := sizes_take ks' j hlt'
          have hcm := cmpL_take ks ks' j hlt hlt'
          have hq := sizes_take_le ks (j + 1)
          have hq' := sizes_take_le ks' (j + 1)
          have hsz1 : sizes (ks.take j) + size ks[j] ≤ m := by omega
          have hsz1' : sizes (ks'.take j) + size ks'[j] < 4611686018427387904 := by omega
          have H : Hid (sizes (ks.take (j + 1)) = sizes (ks.take j) + size ks[j] ∧ sizes (ks'.take (j + 1)) = sizes (ks'.take j) + size ks'[j] ∧ cmpL (ks.take (j + 1)) (ks'.take (j + 1)) = orr (cmpL (ks.take j) (ks'.take j)) (cmpT ks[j] ks'[j])) := ⟨hsz, hsz', hcm⟩
          have HIH := Lib.hid (ih ks[j] ks'[j] kb (ko + j * 4) kb' (ko' + j * 4))
          have e1 : (0 : Int) ≤ (j : Int) := by omega
          have e2 : (j : Int) < (ks.length : Int) := by omega
          have e3 : (j : Int) < (ks'.length : Int) := by omega
          clear hsz hsz' hq hq' hcm ih
          go_wp2_with fail
          go_region_held3 (fun W => W.cell? ⟨b, o + 3, none⟩ = some (.slice (some ⟨kb, ko, none⟩) ks.length cap) ∧ W.cell? ⟨b', o' + 3, none⟩ = some (.slice (some ⟨kb', ko', none⟩) ks'.length cap')) (first | go_keep | exact ⟨by assumption, by assumption⟩)
            (first
              | (go_at_call 114; refine (HIH.out _ (by omega) (by omega) (by omega) (Lies_carry (keep_drew _) hK) (Lies_carry (keep_drew _) hK')).mono ?_; rintro e w2 ⟨rfl, hB2⟩; have hG3 : Gr w w2 := hGr.drew.trans hB2; have hB3 := hG3.below; have g3'' := keep_below hB3 _ _ g3; have h3'' := keep_below hB3 _ _ h3))
          clear g3'' h3'' g3' h3'
          go_wp2_with (go_at_call 154; refine (Or2_any (cmpL (ks.take j) (ks'.take j)) (cmpT ks[j] ks'[j]) _ _ ?_ ?_).mono ?_; (exact cells_new _ _ _ 0 _ rfl); (exact cells_new _ _ _ 1 _ rfl); rintro e w3 ⟨rfl, rfl⟩)
          go_roundw
          case rel => exact ⟨j + 1, by omega, by go_num, by rw [H.out.2.2], by rw [H.out.1]; go_num, by rw [H.out.2.1]; go_num, hG3.alloc _⟩
          case measure => simp [intOf]; omega
        · have hjl : j = ks.length := by omega
          have hjl' : j = ks'.length := by have := HL.out; omega
          have H : Hid (cmpL (ks.take j) (ks'.take j) = cmpL ks ks' ∧ sizes (ks.take j) = sizes ks ∧ sizes (ks'.take j) = sizes ks') := by
            refine ⟨?_, ?_, ?_⟩
            · rw [hjl, List.take_length, ← hjl, hjl', List.take_length]
            · rw [hjl, List.take_length]
            · rw [hjl', List.take_length]
          clear hjl hjl' g3' h3'
          go_wp2_with (first
            | (go_at_call 155; refine (Compare_int_any _ _ _).mono ?_; rintro e w3 ⟨rfl, rfl⟩)
            | (go_at_call 154; refine (Or2_any (num (1 + sizes (ks.take j) : Nat) (1 + sizes (ks'.take j) : Nat)) (cmpL (ks.take j) (ks'.take j)) _ _ ?_ ?_).mono ?_; (exact cells_new _ _ _ 0 _ rfl); (exact cells_new _ _ _ 1 _ rfl); rintro e w3 ⟨rfl, rfl⟩))
          go_ret3
          have e1 : orr (num ((1 + sizes (ks.take j) : Nat) : Int) ((1 + sizes (ks'.take j) : Nat) : Int)) (cmpL (ks.take j) (ks'.take j)) = cmpT (.mk k n s ks) (.mk k' n' s' ks') := by rw [HC.out.1, H.out.1, H.out.2.1, H.out.2.2]
          have e2 : ((1 + sizes (ks.take j) : Nat) : Int) = (size (.mk k n s ks) : Nat) := by rw [HC.out.2.1, H.out.2.1]
          have e3 : ((1 + sizes (ks'.take j) : Nat) : Int) = (size (.mk k' n' s' ks') : Nat) := by rw [HC.out.2.2, H.out.2.2]
          exact ⟨ret3 e1 e2 e3, hGr.alloc _⟩
    · have hcmp := cmp_roots hz
      generalize hr : orr (num k k') (orr (str n n') (orr (num s s') (num ks.length ks'.length))) = r at hroots hz hcmp
      have HC : Hid (cmpT (.mk k n s ks) (.mk k' n' s' ks') = orr (num ((1 + sizes ks : Nat) : Int) ((1 + sizes ks' : Nat) : Int)) r ∧ size (.mk k n s ks) = 1 + sizes ks ∧ size (.mk k' n' s' ks') = 1 + sizes ks') := ⟨hcmp, hsk, hsk'⟩
      have HR := Lib.hid hroots
      have hb : (r != 0) = true := by simp [hz]
      have hs1 := size_any (m + 1) (.mk k n s ks) b o
      have hs2 := size_any 4611686018427387904 (.mk k' n' s' ks') b' o'
      have HS := Lib.hid (And.intro hs1 hs2)
      have HLL := Lib.hid (And.intro hL hL')
      clear hs1 hs2 hcmp hz hr hroots g0 g1 g2 h0 h1 h2 hL hL' ih g3 h3
      rw [hsk] at HS hm; rw [hsk'] at HS hU
      clear hsk hsk'
      go_enter Tryz.func114, Tryz.ntmps114
      go_wp2_with (first
        | (go_at_call 153; refine (HR.out).mono ?_; rintro e w1 ⟨rfl, hB⟩)
        | (go_at_call_of 105 (Value.pointer (some ⟨b, o, none⟩)); refine (HS.out.1 _ (by omega) (by omega) (Lies_below HLL.out.1 hB.below)).mono ?_; rintro e w2 ⟨rfl, rfl⟩)
        | (go_at_call_of 105 (Value.pointer (some ⟨b', o', none⟩)); refine (HS.out.2 _ (by omega) (by omega) (Lies_below HLL.out.2 hB.below)).mono ?_; rintro e w2 ⟨rfl, rfl⟩)
        | (go_at_call 155; refine (Compare_int_any _ _ _).mono ?_; rintro e w3 ⟨rfl, rfl⟩)
        | (go_at_call 154; refine (Or2_any (num (1 + sizes ks : Nat) (1 + sizes ks' : Nat)) r _ _ ?_ ?_).mono ?_; (exact cells_new _ _ _ 0 _ rfl); (exact cells_new _ _ _ 1 _ rfl); rintro e w3 ⟨rfl, rfl⟩))
      go_ret3
      exact ⟨ret3 HC.out.1.symm (by rw [HC.out.2.1]; omega) (by rw [HC.out.2.2]; omega), hB.alloc _⟩
end Go.Proofs.YtbcpnepjojppaaaGreatDoor
namespace Go.Proofs.YtbcpnepjojppaaaGreatDoor
open Go.RowKit
theorem Gr.grow {w w' : World} (h : Gr w w') : ∃ q os, w' = Sort.grow (w.drewN q) os := by
  refine ⟨w'.drawn - w.drawn, w'.heap.extract w.heap.size w'.heap.size, ?_⟩
  have hs := h.below.size
  have hb := h.below.block
  have hd := h.drawn
  have e1 := h.below.os; have e2 := h.below.tape; have e3 := h.below.output
  obtain ⟨hp, tp, dr, os, out⟩ := w
  obtain ⟨hp', tp', dr', os', out'⟩ := w'
  simp only at hs hb hd e1 e2 e3
  subst e1 e2 e3
  simp only [Sort.grow, World.drewN, World.mk.injEq, true_and, and_true]
  refine ⟨?_, by omega⟩
  apply Array.ext_getElem?
  intro i
  rw [Array.getElem?_append]
  split
  · rename_i hi; exact hb i hi
  · rename_i hi
    rw [Array.getElem?_extract]
    split
    · congr 1; omega
    · rw [Array.getElem?_eq_none]; omega
end Go.Proofs.YtbcpnepjojppaaaGreatDoor
