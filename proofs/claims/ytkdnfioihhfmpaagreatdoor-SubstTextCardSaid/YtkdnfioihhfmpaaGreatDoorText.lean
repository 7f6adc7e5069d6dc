/-
  THE TEXT OF A TERM, plain; the walks of the reference's word, Text, Format.
-/
import Derived.Test.YtkdnfioihhfmpaaGreatDoorValidb
import Derived.Test.YtkdnfioihhfmpaaGreatDoorParts
import Derived.Test.YtkdnfioihhfmpaaGreatDoorNode
import Derived.BigQuiet
namespace Go.Proofs.YtkdnfioihhfmpaaGreatDoor
open Go.RowKit

def wordB (s : Int) : ByteArray := if s = 0 then wAny else if s = 1 then wAgent else if s = 2 then wNonce else if s = 3 then wKey else if s = 4 then wData else wTag
mutual
/-- The text of a valid term. -/
def textT : Tm → ByteArray
  | .mk k n s ks => if k = 1 then (if s = 0 then bQ ++ n else ((bQ ++ n) ++ bColon) ++ wordB s) else if k = 2 then (n ++ bColon) ++ wordB s else textL (n ++ bOpen) false ks ++ bClose
def textL : ByteArray → Bool → List Tm → ByteArray
  | acc, _, [] => acc
  | acc, p, t :: ts => textL ((if p then acc ++ bComma else acc) ++ textT t) true ts
end
theorem textL_snoc : ∀ (l : List Tm) (acc : ByteArray) (p : Bool) (t : Tm), textL acc p (l ++ [t]) = (if p || !l.isEmpty then textL acc p l ++ bComma else textL acc p l) ++ textT t
  | [], acc, p, t => by simp [textL]
  | x :: l, acc, p, t => by
    simp only [List.cons_append, textL, textL_snoc l, Bool.true_or, if_true, List.isEmpty_cons, Bool.not_false, Bool.or_true]
theorem textL_take (l : List Tm) (acc : ByteArray) (j : Nat) (h : j < l.length) : textL acc false (l.take (j + 1)) = (if 0 < j then textL acc false (l.take j) ++ bComma else textL acc false (l.take j)) ++ textT l[j] := by
  rw [List.take_succ_eq_append_getElem h, textL_snoc]
  congr 1
  cases j with
  | zero => simp
  | succ j =>
    cases l with
    | nil => simp at h
    | cons a l => simp

theorem wordB_size (s : Int) : (wordB s).size ≤ 5 := by
  unfold wordB
  split; · decide
  split; · decide
  split; · decide
  split; · decide
  split; · decide
  decide

set_option maxHeartbeats 800000 in
set_option maxRecDepth 100000 in
theorem rword_any (s : Int) (h : 0 ≤ s ∧ s ≤ 5) (w : World) :
    Calls Tryz.prog 64 #[.int .i64 s] w fun e w' => e = .returned (.string (wordB s)) ∧ Below w.heap.size w w' := by
  have hB := fun o => (Below.refl w.heap.size w).alloc (Nat.le_refl _) o
  have HB := Lib.hid hB
  clear hB
  have hc : s = 0 ∨ s = 1 ∨ s = 2 ∨ s = 3 ∨ s = 4 ∨ s = 5 := by omega
  rcases hc with rfl | rfl | rfl | rfl | rfl | rfl
  all_goals go_enter Tryz.func64, Tryz.ntmps64
  all_goals go_wp2_with fail
  all_goals go_ret
  all_goals exact ⟨rfl, HB.out _⟩

mutual
/-- What a term's text asks: kinds and sorts in their ranges. -/
def okT : Tm → Prop
  | .mk k _ s ks => (k = 1 ∨ k = 2 ∨ k = 3) ∧ (0 ≤ s ∧ s ≤ 5) ∧ okL ks
def okL : List Tm → Prop
  | [] => True
  | t :: ts => okT t ∧ okL ts
end
theorem okL_get : ∀ (l : List Tm) (j : Nat) (h : j < l.length), okL l → okT l[j]
  | t :: ts, 0, _, h => h.1
  | t :: ts, j + 1, hj, h => okL_get ts j (by simpa using hj) h.2
theorem valid_ok (t : Tm) : nodesE t = 0 → okT t := by
  refine Tm.rec (motive_1 := fun t => nodesE t = 0 → okT t) (motive_2 := fun ts => nodesL ts = 0 → okL ts) ?_ ?_ ?_ t
  · intro k n s ks ih h
    rw [nodesE_mk] at h
    split at h
    · rename_i h0
      have hk := ih h
      simp only [nodeE] at h0
      refine ⟨?_, ?_, hk⟩
      · split at h0
        · cases h0
        · omega
      · split at h0
        · cases h0
        split at h0
        · cases h0
        · omega
    · rename_i h0; exact absurd h h0
  · intro _; trivial
  · intro t ts h1 h2 h
    rw [nodesL] at h
    split at h
    · rename_i h0; exact ⟨h1 h0, h2 h⟩
    · rename_i h0; exact absurd h h0

theorem textL_size : ∀ (l : List Tm) (acc : ByteArray) (p : Bool), acc.size ≤ (textL acc p l).size
  | [], acc, p => by simp only [textL]; exact Nat.le_refl _
  | x :: l, acc, p => by
    have := textL_size l ((if p then acc ++ bComma else acc) ++ textT x) true
    rw [ba_app] at this
    simp only [textL]
    cases p
    · simp only [Bool.false_eq_true, if_false] at this ⊢; omega
    · simp only [if_true] at this ⊢; rw [ba_app] at this; omega
theorem textL_mono (l : List Tm) (acc : ByteArray) (j : Nat) (_h : j < l.length) : (textL acc false (l.take (j + 1))).size ≤ (textL acc false l).size := by
  have h2 : ∀ (a b : List Tm) (acc : ByteArray) (p : Bool), textL acc p (a ++ b) = textL (textL acc p a) (p || !a.isEmpty) b := by
    intro a
    induction a with
    | nil => intro b acc p; simp [textL]
    | cons x a ih => intro b acc p; simp only [List.cons_append, textL, ih, Bool.true_or, List.isEmpty_cons, Bool.not_false, Bool.or_true]
  have h3 := textL_size (l.drop (j + 1)) (textL acc false (l.take (j + 1))) (false || !(l.take (j + 1)).isEmpty)
  rw [← h2, List.take_append_drop] at h3
  exact h3

end Go.Proofs.YtkdnfioihhfmpaaGreatDoor

/-
  THE WALKS OF the reference's Text and Format.
-/
namespace Go.Proofs.YtkdnfioihhfmpaaGreatDoor
open Go.RowKit

section
variable (w : World) (n : ByteArray) (s : Int) (ks : List Tm) (xa : Option Addr) (cap : Nat)

set_option maxHeartbeats 1600000 in
set_option maxRecDepth 100000 in
theorem rtext_var0 (hn : n.size ≤ 4611686018427387904) : Calls Tryz.prog 39 #[.agg #[.int .i64 1, .string n, .int .i64 0, .slice xa ks.length cap]] w fun e w' => e = .returned (.string (textT (.mk 1 n 0 ks))) ∧ Below w.heap.size w w' := by
  have HB : Hid (Below w.heap.size w (w.alloc (.cells #[.int .i64 1, .string n, .int .i64 0, .slice xa ks.length cap] 41))) := Lib.hid ((Below.refl _ _).alloc (Nat.le_refl _) _)
  have H : Hid (textT (.mk 1 n 0 ks) = (⟨#[63]⟩ : ByteArray) ++ n) := by show _ = _; simp only [textT]; rfl
  have h1 : 1 + n.size ≤ 9223372036854775807 := by omega
  go_enter Tryz.func39, Tryz.ntmps39
  go_wp2_with fail
  go_ret
  exact ⟨by rw [H.out]; rfl, HB.out⟩

set_option maxHeartbeats 1600000 in
set_option maxRecDepth 100000 in
theorem rtext_var (hn : n.size ≤ 4611686018427387904) (hs : 0 ≤ s ∧ s ≤ 5) (h0 : ¬ s = 0) : Calls Tryz.prog 39 #[.agg #[.int .i64 1, .string n, .int .i64 s, .slice xa ks.length cap]] w fun e w' => e = .returned (.string (textT (.mk 1 n s ks))) ∧ Below w.heap.size w w' := by
  have hX : Ext w (w.alloc (.cells #[.int .i64 1, .string n, .int .i64 s, .slice xa ks.length cap] 41)) := (Ext.refl w).alloc _
  have HW := Lib.hid (fun W => rword_any s hs W)
  have hwz := wordB_size s
  have hHt : textT (.mk 1 n s ks) = (((⟨#[63]⟩ : ByteArray) ++ n) ++ ⟨#[58]⟩) ++ wordB s := by simp only [textT, h0, if_true, if_false]; rfl
  generalize wordB s = wd at hHt HW hwz
  have H := Lib.hid hHt
  have HC : Hid (∀ W, Ext (w.alloc (.cells #[.int .i64 1, .string n, .int .i64 s, .slice xa ks.length cap] 41)) W → W.cell? ⟨w.heap.size, 1, none⟩ = some (.string n) ∧ W.cell? ⟨w.heap.size, 2, none⟩ = some (.int .i64 s)) := fun W h => by
    obtain ⟨_, a1, a2, _⟩ := box_kept (T := 41) (Below.mono h (by simp))
    exact ⟨a1, a2⟩
  have h1 : 1 + n.size ≤ 9223372036854775807 := by omega
  have h2 : ((⟨#[63]⟩ : ByteArray) ++ n).size + 1 ≤ 9223372036854775807 := by rw [ba_app, ba_one]; omega
  have h3 : (((⟨#[63]⟩ : ByteArray) ++ n) ++ ⟨#[58]⟩).size + wd.size ≤ 9223372036854775807 := by rw [ba_app, ba_app, ba_one, ba_one]; omega
  have hb : (s == 0) = false := by simp [h0]
  have m1 : ¬ 9223372036854775807 < 1 + n.size := by omega
  have m2 : ¬ 9223372036854775807 < 1 + n.size + 1 := by omega
  have m3 : ¬ 9223372036854775807 < 1 + n.size + 1 + wd.size := by omega
  clear hHt h0
  go_enter Tryz.func39, Tryz.ntmps39
  go_wp2_with fail
  have hEr := Ext.refl (w.alloc (.cells #[.int .i64 1, .string n, .int .i64 s, .slice xa ks.length cap] 41))
  generalize w.alloc (.cells #[.int .i64 1, .string n, .int .i64 s, .slice xa ks.length cap] 41) = wq at hX HC hEr ⊢
  obtain ⟨b1, b2⟩ := HC.out _ hEr
  have hF0 : Ext wq wq.drew := (Ext.refl wq).drew
  go_region_held3 (fun W => W.cell? ⟨w.heap.size, 1, none⟩ = some (.string n) ∧ W.cell? ⟨w.heap.size, 2, none⟩ = some (.int .i64 s))
    (first | exact HC.out _ (by assumption) | go_keep)
    (first
      | (go_at_call 64; refine (HW.out _).mono ?_; rintro e w3 ⟨he, hB⟩; subst he; have hF1 : Ext wq w3 := Ext.trans hF0 hB; clear hB))
  all_goals (try go_wp2_with fail)
  all_goals go_ret
  all_goals exact ⟨by rw [H.out]; rfl, Ext.trans (a := w) hX hF1⟩

set_option maxHeartbeats 1600000 in
set_option maxRecDepth 100000 in
theorem rtext_atom (hn : n.size ≤ 4611686018427387904) (hs : 0 ≤ s ∧ s ≤ 5) : Calls Tryz.prog 39 #[.agg #[.int .i64 2, .string n, .int .i64 s, .slice xa ks.length cap]] w fun e w' => e = .returned (.string (textT (.mk 2 n s ks))) ∧ Below w.heap.size w w' := by
  have hX : Ext w (w.alloc (.cells #[.int .i64 2, .string n, .int .i64 s, .slice xa ks.length cap] 41)) := (Ext.refl w).alloc _
  have HW := Lib.hid (fun W => rword_any s hs W)
  have hwz := wordB_size s
  have hHt : textT (.mk 2 n s ks) = (n ++ (⟨#[58]⟩ : ByteArray)) ++ wordB s := by
    simp [textT, bColon]
  generalize wordB s = wd at hHt HW hwz
  have H := Lib.hid hHt
  have HC : Hid (∀ W, Ext (w.alloc (.cells #[.int .i64 2, .string n, .int .i64 s, .slice xa ks.length cap] 41)) W → W.cell? ⟨w.heap.size, 1, none⟩ = some (.string n) ∧ W.cell? ⟨w.heap.size, 2, none⟩ = some (.int .i64 s)) := fun W h => by
    obtain ⟨_, a1, a2, _⟩ := box_kept (T := 41) (Below.mono h (by simp))
    exact ⟨a1, a2⟩
  have h2 : n.size + 1 ≤ 9223372036854775807 := by omega
  have h3 : (n ++ (⟨#[58]⟩ : ByteArray)).size + wd.size ≤ 9223372036854775807 := by rw [ba_app, ba_one]; omega
  have m2 : ¬ 9223372036854775807 < n.size + 1 := by omega
  have m3 : ¬ 9223372036854775807 < n.size + 1 + wd.size := by omega
  clear hHt
  go_enter Tryz.func39, Tryz.ntmps39
  go_wp2_with fail
  have hEr := Ext.refl (w.alloc (.cells #[.int .i64 2, .string n, .int .i64 s, .slice xa ks.length cap] 41))
  generalize w.alloc (.cells #[.int .i64 2, .string n, .int .i64 s, .slice xa ks.length cap] 41) = wq at hX HC hEr ⊢
  obtain ⟨b1, b2⟩ := HC.out _ hEr
  have hF0 : Ext wq wq.drew := (Ext.refl wq).drew
  go_region_held3 (fun W => W.cell? ⟨w.heap.size, 1, none⟩ = some (.string n) ∧ W.cell? ⟨w.heap.size, 2, none⟩ = some (.int .i64 s))
    (first | exact HC.out _ (by assumption) | go_keep)
    (first
      | (go_at_call 64; refine (HW.out _).mono ?_; rintro e w3 ⟨he, hB⟩; subst he; have hF1 : Ext wq w3 := Ext.trans hF0 hB; clear hB))
  all_goals (try go_wp2_with fail)
  all_goals go_ret
  all_goals exact ⟨by rw [H.out]; rfl, Ext.trans (a := w) hX hF1⟩
end

theorem textL_first (n : ByteArray) (ks : List Tm) (s : Int) : textT (.mk 3 n s ks) = textL (n ++ (⟨#[40]⟩ : ByteArray)) false ks ++ ⟨#[41]⟩ := by
  simp only [textT]
  rw [if_neg (by omega), if_neg (by omega)]; rfl

set_option maxHeartbeats 1600000 in
set_option maxRecDepth 100000 in
theorem rText_any (m : Nat) : ∀ (t : Tm) (c0 c1 c2 c3 : Value) (w : World), size t ≤ m → okT t → (textT t).size ≤ 4611686018427387904 → Is w t c0 c1 c2 c3 →
    Calls Tryz.prog 39 #[.agg #[c0, c1, c2, c3]] w fun e w' => e = .returned (.string (textT t)) ∧ Below w.heap.size w w' := by
  induction m with
  | zero => intro t c0 c1 c2 c3 w h; have := size_pos t; omega
  | succ m ih =>
    intro t c0 c1 c2 c3 w hm hok hz hI
    obtain ⟨k, n, s, ks⟩ := t
    have hsk : size (.mk k n s ks) = 1 + sizes ks := rfl
    rw [hsk] at hm
    simp only [Is] at hI
    obtain ⟨rfl, rfl, rfl, _, _, hn, hkl, xa, cap, rfl, hcap, hR⟩ := hI
    obtain ⟨hk, hs, hokl⟩ := hok
    rcases hk with rfl | rfl | rfl
    · by_cases h0 : s = 0
      · subst h0
        refine rtext_var0 w n ks xa cap ?_
        have e : textT (.mk 1 n 0 ks) = (⟨#[63]⟩ : ByteArray) ++ n := by simp only [textT]; rfl
        rw [e, ba_app] at hz; omega
      · refine rtext_var w n s ks xa cap ?_ hs h0
        have e : textT (.mk 1 n s ks) = (((⟨#[63]⟩ : ByteArray) ++ n) ++ ⟨#[58]⟩) ++ wordB s := by simp only [textT, h0, if_true, if_false]; rfl
        rw [e, ba_app, ba_app, ba_app] at hz; omega
    · refine rtext_atom w n s ks xa cap ?_ hs
      have e : textT (.mk 2 n s ks) = (n ++ (⟨#[58]⟩ : ByteArray)) ++ wordB s := by
        simp [textT, bColon]
      rw [e, ba_app, ba_app] at hz; omega
    · rw [textL_first] at hz ⊢
      rw [ba_app, ba_one] at hz
      unfold maxLen at hkl
      have h1 : n.size + 1 ≤ 9223372036854775807 := by
        have := textL_size ks (n ++ (⟨#[40]⟩ : ByteArray)) false
        rw [ba_app, ba_one] at this; omega
      have HR := Lib.hid hR
      have HOK := Lib.hid hokl
      have HIH := Lib.hid ih
      have hkl2 := length_le_sizes ks
      clear hR hokl ih hsk
      go_enter Tryz.func39, Tryz.ntmps39
      go_wp2_with fail
      obtain ⟨a0, ha0⟩ : ∃ a0, n ++ (⟨#[40]⟩ : ByteArray) = a0 := ⟨_, rfl⟩
      rw [ha0] at hz ⊢
      have HA0 := Lib.hid ha0
      have hz0 : (textL a0 false ks).size + 1 ≤ 9223372036854775807 := by omega
      have HZ := Lib.hid hz
      clear ha0 h1 hz
      go_loopw [3, 4] (fun v i wr => ∃ j : Nat, j ≤ ks.length ∧ i = .int .i64 j ∧ v = .string (textL a0 false (ks.take j)) ∧ Below (w.heap.size + 1) (w.alloc (.cells #[.int .i64 3, .string n, .int .i64 s, .slice xa ks.length cap] 41)) wr) (fun _ i _ => ks.length - (intOf i).toNat)
      case atStart => exact ⟨0, Nat.zero_le _, rfl, by simp [textL], Below.refl _ _⟩
      case round =>
        obtain ⟨j, hj, rfl, rfl, hB⟩ := hrel
        obtain ⟨_, _, _, g3⟩ := box_kept hB
        have HB := Lib.hid (below_box hB)
        by_cases hlt : j < ks.length
        rotate_left
        · have hjl : ks.take j = ks := by rw [List.take_of_length_le]; omega
          rw [hjl]
          clear hB hjl
          go_wp2_with fail
          go_ret
          exact ⟨by rw [HA0.out]; rfl, HB.out⟩
        have hmo := textL_mono ks a0 j hlt
        have htk := textL_take ks a0 j hlt
        have hzz := HZ.out
        have hsz : size ks[j] ≤ sizes ks := size_le_sizes (List.getElem_mem hlt)
        obtain ⟨kb, ko, rfl⟩ := Row_at HR.out (by omega)
        obtain ⟨x0, x1, x2, x3, k0, k1, k2, k3, hKI⟩ := Row_get (Row_below HR.out HB.out) j hlt
        have hpt : (textT ks[j]).size ≤ 4611686018427387904 := by rw [htk, ba_app] at hmo; omega
        have HIX := Lib.hid (HIH.out ks[j] x0 x1 x2 x3 wr (by omega) (okL_get ks j hlt HOK.out) hpt hKI)
        generalize textL a0 false (ks.take j) = acc at hmo htk ⊢
        generalize textT ks[j] = pt at hmo htk HIX
        have HTK := Lib.hid htk
        have i1 : (0 : Int) ≤ (j : Int) := by omega
        have i2 : (j : Int) < (ks.length : Int) := by omega
        have HBB := Lib.hid hB
        rw [htk, ba_app] at hmo
        by_cases hj0 : 0 < j
        · have i3 : (0 : Int) < (j : Int) := by omega
          rw [if_pos hj0, ba_app] at hmo
          have hc2 : bComma.size = 2 := rfl
          have q1 : acc.size + 2 ≤ 9223372036854775807 := by omega
          have q2 : (acc ++ (⟨#[44, 32]⟩ : ByteArray)).size + pt.size ≤ 9223372036854775807 := by rw [ba_app]; have : (⟨#[44, 32]⟩ : ByteArray).size = 2 := rfl; omega
          clear htk hsz hKI hB hmo hzz hpt
          go_wp2_with (go_at_call 39; refine (HIX.out).mono ?_; rintro e w2 ⟨he, hB2⟩; subst he; have HB2 := Lib.hid hB2; clear hB2)
          go_roundw
          case rel => exact ⟨j + 1, by omega, by go_num, by rw [HTK.out, if_pos hj0]; rfl, HBB.out.trans (HB2.out.mono (by have := HBB.out.size; simpa using this))⟩
          case measure => simp [intOf]; omega
        · have i3 : ¬ (0 : Int) < (j : Int) := by omega
          rw [if_neg hj0] at hmo
          have q2 : acc.size + pt.size ≤ 9223372036854775807 := by omega
          clear htk hsz hKI hB hmo hzz hpt
          go_wp2_with (go_at_call 39; refine (HIX.out).mono ?_; rintro e w2 ⟨he, hB2⟩; subst he; have HB2 := Lib.hid hB2; clear hB2)
          go_roundw
          case rel => exact ⟨j + 1, by omega, by go_num, by rw [HTK.out, if_neg hj0], HBB.out.trans (HB2.out.mono (by have := HBB.out.size; simpa using this))⟩
          case measure => simp [intOf]; omega

end Go.Proofs.YtkdnfioihhfmpaaGreatDoor

/-
  THE WALK OF the reference's Format; what it computes.
-/
namespace Go.Proofs.YtkdnfioihhfmpaaGreatDoor
open Go.RowKit

/-- The text of a valid term, or no text and its error. -/
def formP (t : Tm) : ByteArray × Int := if validE t = 0 then (textT t, 0) else (⟨#[]⟩, validE t)
theorem validE_zero {t : Tm} (h : validE t = 0) : nodesE t = 0 ∧ size t ≤ 400 ∧ depth t ≤ 40 := by
  unfold validE at h
  split at h
  · rename_i h0
    split at h
    · cases h
    · exact ⟨h0, by omega, by omega⟩
  · rename_i h0; exact absurd h h0

end Go.Proofs.YtkdnfioihhfmpaaGreatDoor
