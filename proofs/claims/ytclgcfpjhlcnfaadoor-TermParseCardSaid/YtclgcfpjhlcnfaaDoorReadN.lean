/-
  THE WALK OF the reference's read, where it reads no application (by gen_read.py).
-/
import Derived.Test.YtclgcfpjhlcnfaaDoorLeaf
namespace Go.Proofs.YtclgcfpjhlcnfaaDoor
open Go.RowKit

theorem two_boxes (w : World) (a0 a1 a2 a3 b0 b1 b2 b3 : Value) (T : TypeId) : ((w.alloc (.cells #[a0, a1, a2, a3] T)).alloc (.cells #[b0, b1, b2, b3] T)).heap[w.heap.size]? = some (.cells #[a0, a1, a2, a3] T (0, 0)) ∧ ((w.alloc (.cells #[a0, a1, a2, a3] T)).alloc (.cells #[b0, b1, b2, b3] T)).heap[w.heap.size + 1]? = some (.cells #[b0, b1, b2, b3] T (0, 0)) ∧ Below w.heap.size w ((w.alloc (.cells #[a0, a1, a2, a3] T)).alloc (.cells #[b0, b1, b2, b3] T)) ∧ w.heap.size + 2 = ((w.alloc (.cells #[a0, a1, a2, a3] T)).alloc (.cells #[b0, b1, b2, b3] T)).heap.size := by
  refine ⟨?_, ?_, two_below w _ _, by simp only [World.size_alloc]⟩
  · rw [Below.heap_alloc _ _ _ (by simp)]; exact heap_alloc_new w _
  · have := heap_alloc_new (w.alloc (.cells #[a0, a1, a2, a3] T)) (.cells #[b0, b1, b2, b3] T)
    rw [World.size_alloc] at this; exact this

theorem nameAny_le (s : ByteArray) : (nameAny s).size ≤ s.size := by
  unfold nameAny
  rw [ByteArray.size_extract]
  omega
/-- Where the reader starts, behind the question mark. -/
theorem name_eq (s : ByteArray) : isNameB (nodeName s).data.toList = isNameB (nameAny (takeB s bQ)).data.toList ∧ (isNameB (nodeName s).data.toList = true → nameAny (takeB s bQ) = nodeName s) := by
  unfold nodeName nameAny
  generalize takeB s bQ = x
  have hl : x.data.toList.length = x.size := by simp
  have e : nameLen x.data.toList = tailLen x.data.toList ∨ (nameLen x.data.toList = 0 ∧ ∀ k, isNameB (x.extract 0 k).data.toList = false) := by
    cases hx : x.data.toList with
    | nil => left; rfl
    | cons c r =>
      simp only [nameLen, tailLen]
      by_cases h1 : letterI c.toNat = true
      · left; rw [if_pos h1, if_pos h1]
      · right
        refine ⟨by rw [if_neg h1], fun k => ?_⟩
        rw [ByteArray.data_extract, Array.toList_extract, hx]
        simp only [List.extract_eq_take_drop, List.drop_zero, Nat.sub_zero]
        cases k with
        | zero => simp [isNameB]
        | succ k => rw [List.take_succ_cons]; simp [isNameB, nameLen, h1]
  rcases e with e | ⟨e, h⟩
  · rw [e]; exact ⟨rfl, fun _ => rfl⟩
  · refine ⟨(h _).trans (h _).symm, fun a => ?_⟩
    rw [h] at a; cases a

def ReadPost (w : World) (r : Option (Tm × ByteArray)) (e : Ending) (w' : World) : Prop :=
  Below w.heap.size w w' ∧ match r with
    | none => ∃ a b c d l k x, e = .returned (.tuple #[.agg #[.int .i64 a, .string b, .int .i64 c, .slice d l k], .string x, .bool false])
    | some (t, x) => ∃ c0 c1 c2 c3, e = .returned (.tuple #[.agg #[c0, c1, c2, c3], .string x, .bool true]) ∧ IsIn (fun b => w.heap.size ≤ b) w' t c0 c1 c2 c3

theorem name_range (n : ByteArray) (k v : Int) (hn : n.size ≤ maxLen) (hk : k = 1 ∨ k = 2) (hv : 0 ≤ v ∧ v ≤ 5) (S : Nat → Prop) (w : World) : IsIn S w (.mk k n v []) (.int .i64 k) (.string n) (.int .i64 v) (.slice none 0 0) := by
  simp only [IsIn]
  exact ⟨trivial, trivial, trivial, by omega, by omega, hn, Nat.zero_le _, none, 0, rfl, Nat.le_refl _, by simp [RowIn]⟩

set_option maxHeartbeats 1600000 in
set_option maxRecDepth 100000 in
theorem read_qn (s : ByteArray) (d : Int) (w : World) (hs : s.size ≤ maxLen) (h0 : 0 < s.size) (hc : s[0] = 63) (hno : isNameB (nameAny (s.extract 1 s.size)).data.toList = false) :
    Calls Tryd.prog 46 #[.string s, .int .i64 d] w (ReadPost w none) := by
  unfold maxLen at hs
  have e0 : (0 : Int) < (s.size : Int) := by omega
  have e1 : ((s[0].toNat : Int) == 63) = true := by rw [hc]; rfl
  have e3 : (1 : Int) ≤ (s.size : Int) := by omega
  have hsp : (s.extract 1 s.size).size ≤ maxLen := by rw [ByteArray.size_extract]; unfold maxLen; omega
  clear hc
  have HN := Lib.hid (fun W => rname_any (s.extract 1 s.size) W hsp)
  have hnm : (nameAny (s.extract 1 s.size)).size ≤ maxLen := Nat.le_trans (nameAny_le _) hsp
  have HI := Lib.hid (fun W => rIsName_any (nameAny (s.extract 1 s.size)) W hnm)
  rw [hno] at HI
  generalize nameAny (s.extract 1 s.size) = nm at HN HI
  clear hno hnm hsp
  go_enter Tryd.func46, Tryd.ntmps46
  go_wp2_with (first
    | (go_at_call 83; refine (HN.out _).mono ?_; rintro e w3 ⟨he, hw⟩; subst he; subst hw)
    | (go_at_call 84; refine (HI.out _).mono ?_; rintro e w4 ⟨he, hw⟩; subst he; subst hw; obtain ⟨hb0, hb1, hB, hZ⟩ := two_boxes w (.int .i64 0) (.string ⟨#[]⟩) (.int .i64 0) (.slice none 0 0) (.int .i64 1) (.string nm) (.int .i64 0) (.slice none 0 0) 25; generalize ((w.alloc (.cells #[.int .i64 0, .string ⟨#[]⟩, .int .i64 0, .slice none 0 0] 25)).alloc (.cells #[.int .i64 1, .string nm, .int .i64 0, .slice none 0 0] 25)) = wq at hb0 hb1 hB hZ ⊢; obtain ⟨⟨m0, m1, m2, m3⟩, n0, n1, n2, n3⟩ := box_facts hb0; obtain ⟨⟨y0, y1, y2, y3⟩, z0, z1, z2, z3⟩ := box_facts hb1; have HB := Lib.hid hB; have HZ := Lib.hid hZ; have HB0 := Lib.hid hb0; have HB1 := Lib.hid hb1; clear hb0 hb1 hB hZ))
  exact bodyPost_ret (v := .tuple #[.agg #[.int .i64 1, .string nm, .int .i64 0, .slice none 0 0], .string (s.extract 1 s.size), .bool false]) (by simp [results, Tryd.results46, go_sem, m0, m1, m2, m3]) rfl ⟨put4_below (g := w.heap.size) (o := 0) HB.out (Nat.le_refl _), _, _, _, _, _, _, _, rfl⟩

set_option maxHeartbeats 1600000 in
set_option maxRecDepth 100000 in
theorem read_qz (s : ByteArray)  (w : World) (hs : s.size ≤ maxLen) (h0 : 0 < s.size) (hc : s[0] = 63) (hno : isNameB (nameAny (s.extract 1 s.size)).data.toList = true) :
    Calls Tryd.prog 46 #[.string s, .int .i64 0] w (ReadPost w none) := by
  unfold maxLen at hs
  have e0 : (0 : Int) < (s.size : Int) := by omega
  have e1 : ((s[0].toNat : Int) == 63) = true := by rw [hc]; rfl
  have e3 : (1 : Int) ≤ (s.size : Int) := by omega
  have hsp : (s.extract 1 s.size).size ≤ maxLen := by rw [ByteArray.size_extract]; unfold maxLen; omega
  clear hc
  have HN := Lib.hid (fun W => rname_any (s.extract 1 s.size) W hsp)
  have hnm : (nameAny (s.extract 1 s.size)).size ≤ maxLen := Nat.le_trans (nameAny_le _) hsp
  have HI := Lib.hid (fun W => rIsName_any (nameAny (s.extract 1 s.size)) W hnm)
  rw [hno] at HI
  generalize nameAny (s.extract 1 s.size) = nm at HN HI
  clear hno hnm hsp
  go_enter Tryd.func46, Tryd.ntmps46
  go_wp2_with (first
    | (go_at_call 83; refine (HN.out _).mono ?_; rintro e w3 ⟨he, hw⟩; subst he; subst hw)
    | (go_at_call 84; refine (HI.out _).mono ?_; rintro e w4 ⟨he, hw⟩; subst he; subst hw; obtain ⟨hb0, hb1, hB, hZ⟩ := two_boxes w (.int .i64 0) (.string ⟨#[]⟩) (.int .i64 0) (.slice none 0 0) (.int .i64 1) (.string nm) (.int .i64 0) (.slice none 0 0) 25; generalize ((w.alloc (.cells #[.int .i64 0, .string ⟨#[]⟩, .int .i64 0, .slice none 0 0] 25)).alloc (.cells #[.int .i64 1, .string nm, .int .i64 0, .slice none 0 0] 25)) = wq at hb0 hb1 hB hZ ⊢; obtain ⟨⟨m0, m1, m2, m3⟩, n0, n1, n2, n3⟩ := box_facts hb0; obtain ⟨⟨y0, y1, y2, y3⟩, z0, z1, z2, z3⟩ := box_facts hb1; have HB := Lib.hid hB; have HZ := Lib.hid hZ; have HB0 := Lib.hid hb0; have HB1 := Lib.hid hb1; clear hb0 hb1 hB hZ))
  exact bodyPost_ret (v := .tuple #[.agg #[.int .i64 1, .string nm, .int .i64 0, .slice none 0 0], .string (s.extract 1 s.size), .bool false]) (by simp [results, Tryd.results46, go_sem, m0, m1, m2, m3]) rfl ⟨put4_below (g := w.heap.size) (o := 0) HB.out (Nat.le_refl _), _, _, _, _, _, _, _, rfl⟩

set_option maxHeartbeats 1600000 in
set_option maxRecDepth 100000 in
theorem read_on (s : ByteArray) (d : Int) (w : World) (hs : s.size ≤ maxLen) (h0 : 0 < s.size) (hc : ¬ s[0] = 63) (hno : isNameB (nameAny (s)).data.toList = false) :
    Calls Tryd.prog 46 #[.string s, .int .i64 d] w (ReadPost w none) := by
  unfold maxLen at hs
  have e0 : (0 : Int) < (s.size : Int) := by omega
  have e1 : ((s[0].toNat : Int) == 63) = false := by
    rw [beq_eq_false_iff_ne]
    intro h
    exact hc (UInt8.toNat_inj.1 (by rw [show (63 : UInt8).toNat = 63 from rfl]; omega))
  have hsp : s.size ≤ maxLen := by unfold maxLen; omega
  clear hc
  have HN := Lib.hid (fun W => rname_any (s) W hsp)
  have hnm : (nameAny (s)).size ≤ maxLen := Nat.le_trans (nameAny_le _) hsp
  have HI := Lib.hid (fun W => rIsName_any (nameAny (s)) W hnm)
  rw [hno] at HI
  generalize nameAny (s) = nm at HN HI
  clear hno hnm hsp
  go_enter Tryd.func46, Tryd.ntmps46
  go_wp2_with (first
    | (go_at_call 83; refine (HN.out _).mono ?_; rintro e w3 ⟨he, hw⟩; subst he; subst hw)
    | (go_at_call 84; refine (HI.out _).mono ?_; rintro e w4 ⟨he, hw⟩; subst he; subst hw; obtain ⟨hb0, hb1, hB, hZ⟩ := two_boxes w (.int .i64 0) (.string ⟨#[]⟩) (.int .i64 0) (.slice none 0 0) (.int .i64 2) (.string nm) (.int .i64 0) (.slice none 0 0) 25; generalize ((w.alloc (.cells #[.int .i64 0, .string ⟨#[]⟩, .int .i64 0, .slice none 0 0] 25)).alloc (.cells #[.int .i64 2, .string nm, .int .i64 0, .slice none 0 0] 25)) = wq at hb0 hb1 hB hZ ⊢; obtain ⟨⟨m0, m1, m2, m3⟩, n0, n1, n2, n3⟩ := box_facts hb0; obtain ⟨⟨y0, y1, y2, y3⟩, z0, z1, z2, z3⟩ := box_facts hb1; have HB := Lib.hid hB; have HZ := Lib.hid hZ; have HB0 := Lib.hid hb0; have HB1 := Lib.hid hb1; clear hb0 hb1 hB hZ))
  exact bodyPost_ret (v := .tuple #[.agg #[.int .i64 2, .string nm, .int .i64 0, .slice none 0 0], .string (s), .bool false]) (by simp [results, Tryd.results46, go_sem, m0, m1, m2, m3]) rfl ⟨put4_below (g := w.heap.size) (o := 0) HB.out (Nat.le_refl _), _, _, _, _, _, _, _, rfl⟩

set_option maxHeartbeats 1600000 in
set_option maxRecDepth 100000 in
theorem read_oz (s : ByteArray)  (w : World) (hs : s.size ≤ maxLen) (h0 : 0 < s.size) (hc : ¬ s[0] = 63) (hno : isNameB (nameAny (s)).data.toList = true) :
    Calls Tryd.prog 46 #[.string s, .int .i64 0] w (ReadPost w none) := by
  unfold maxLen at hs
  have e0 : (0 : Int) < (s.size : Int) := by omega
  have e1 : ((s[0].toNat : Int) == 63) = false := by
    rw [beq_eq_false_iff_ne]
    intro h
    exact hc (UInt8.toNat_inj.1 (by rw [show (63 : UInt8).toNat = 63 from rfl]; omega))
  have hsp : s.size ≤ maxLen := by unfold maxLen; omega
  clear hc
  have HN := Lib.hid (fun W => rname_any (s) W hsp)
  have hnm : (nameAny (s)).size ≤ maxLen := Nat.le_trans (nameAny_le _) hsp
  have HI := Lib.hid (fun W => rIsName_any (nameAny (s)) W hnm)
  rw [hno] at HI
  generalize nameAny (s) = nm at HN HI
  clear hno hnm hsp
  go_enter Tryd.func46, Tryd.ntmps46
  go_wp2_with (first
    | (go_at_call 83; refine (HN.out _).mono ?_; rintro e w3 ⟨he, hw⟩; subst he; subst hw)
    | (go_at_call 84; refine (HI.out _).mono ?_; rintro e w4 ⟨he, hw⟩; subst he; subst hw; obtain ⟨hb0, hb1, hB, hZ⟩ := two_boxes w (.int .i64 0) (.string ⟨#[]⟩) (.int .i64 0) (.slice none 0 0) (.int .i64 2) (.string nm) (.int .i64 0) (.slice none 0 0) 25; generalize ((w.alloc (.cells #[.int .i64 0, .string ⟨#[]⟩, .int .i64 0, .slice none 0 0] 25)).alloc (.cells #[.int .i64 2, .string nm, .int .i64 0, .slice none 0 0] 25)) = wq at hb0 hb1 hB hZ ⊢; obtain ⟨⟨m0, m1, m2, m3⟩, n0, n1, n2, n3⟩ := box_facts hb0; obtain ⟨⟨y0, y1, y2, y3⟩, z0, z1, z2, z3⟩ := box_facts hb1; have HB := Lib.hid hB; have HZ := Lib.hid hZ; have HB0 := Lib.hid hb0; have HB1 := Lib.hid hb1; clear hb0 hb1 hB hZ))
  exact bodyPost_ret (v := .tuple #[.agg #[.int .i64 2, .string nm, .int .i64 0, .slice none 0 0], .string (s), .bool false]) (by simp [results, Tryd.results46, go_sem, m0, m1, m2, m3]) rfl ⟨put4_below (g := w.heap.size) (o := 0) HB.out (Nat.le_refl _), _, _, _, _, _, _, _, rfl⟩

set_option maxHeartbeats 1600000 in
set_option maxRecDepth 100000 in
theorem read_en (s : ByteArray) (d : Int) (w : World) (hs : s.size ≤ maxLen) (h0 : s.size = 0) (hno : isNameB (nameAny (s)).data.toList = false) :
    Calls Tryd.prog 46 #[.string s, .int .i64 d] w (ReadPost w none) := by
  unfold maxLen at hs
  have e0 : (s.size : Int) ≤ 0 := by omega
  have hsp : s.size ≤ maxLen := by unfold maxLen; omega
  clear h0
  have HN := Lib.hid (fun W => rname_any (s) W hsp)
  have hnm : (nameAny (s)).size ≤ maxLen := Nat.le_trans (nameAny_le _) hsp
  have HI := Lib.hid (fun W => rIsName_any (nameAny (s)) W hnm)
  rw [hno] at HI
  generalize nameAny (s) = nm at HN HI
  clear hno hnm hsp
  go_enter Tryd.func46, Tryd.ntmps46
  go_wp2_with (first
    | (go_at_call 83; refine (HN.out _).mono ?_; rintro e w3 ⟨he, hw⟩; subst he; subst hw)
    | (go_at_call 84; refine (HI.out _).mono ?_; rintro e w4 ⟨he, hw⟩; subst he; subst hw; obtain ⟨hb0, hb1, hB, hZ⟩ := two_boxes w (.int .i64 0) (.string ⟨#[]⟩) (.int .i64 0) (.slice none 0 0) (.int .i64 2) (.string nm) (.int .i64 0) (.slice none 0 0) 25; generalize ((w.alloc (.cells #[.int .i64 0, .string ⟨#[]⟩, .int .i64 0, .slice none 0 0] 25)).alloc (.cells #[.int .i64 2, .string nm, .int .i64 0, .slice none 0 0] 25)) = wq at hb0 hb1 hB hZ ⊢; obtain ⟨⟨m0, m1, m2, m3⟩, n0, n1, n2, n3⟩ := box_facts hb0; obtain ⟨⟨y0, y1, y2, y3⟩, z0, z1, z2, z3⟩ := box_facts hb1; have HB := Lib.hid hB; have HZ := Lib.hid hZ; have HB0 := Lib.hid hb0; have HB1 := Lib.hid hb1; clear hb0 hb1 hB hZ))
  exact bodyPost_ret (v := .tuple #[.agg #[.int .i64 2, .string nm, .int .i64 0, .slice none 0 0], .string (s), .bool false]) (by simp [results, Tryd.results46, go_sem, m0, m1, m2, m3]) rfl ⟨put4_below (g := w.heap.size) (o := 0) HB.out (Nat.le_refl _), _, _, _, _, _, _, _, rfl⟩

set_option maxHeartbeats 3200000 in
set_option maxRecDepth 100000 in
theorem read_lq (s sx nm R : ByteArray) (dp : Int) (d0 : (dp == 0) = false) (w : World) (hs : s.size ≤ maxLen) (h0 : 0 < s.size) (hc : s[0] = 63) (hsx : s.extract 1 s.size = sx) (hnm : nameAny sx = nm) (hR : sx.extract nm.size sx.size = R) (hno : isNameB nm.data.toList = true) :
    Calls Tryd.prog 46 #[.string s, .int .i64 dp] w (ReadPost w ((leafR true R).map fun p => (.mk 1 nm p.1 [], p.2))) := by
  unfold maxLen at hs
  have e0 : (0 : Int) < (s.size : Int) := by omega
  have e1 : ((s[0].toNat : Int) == 63) = true := by rw [hc]; rfl
  have e3 : (1 : Int) ≤ (s.size : Int) := by omega
  have hsp : sx.size ≤ maxLen := by rw [← hsx]; rw [ByteArray.size_extract]; unfold maxLen; omega
  clear hc
  have HN := Lib.hid (fun W => rname_any sx W hsp)
  have hle := nameAny_le sx
  rw [hnm] at hle HN
  have hnmx : nm.size ≤ maxLen := Nat.le_trans hle hsp
  have HI := Lib.hid (fun W => rIsName_any nm W hnmx)
  rw [hno] at HI
  have hRs : R.size ≤ maxLen := by rw [← hR, ByteArray.size_extract]; omega
  have HLF := Lib.hid (fun W => leaf_any 1 (by omega) nm R W hRs)
  have HLT : Hid (∀ kk x, leafR true R = some (kk, x) → 0 ≤ kk ∧ kk ≤ 5) := fun kk x h => (leaf_text h).1
  have HNS := Lib.hid hnmx
  have hv : decide ((1 : Int) = 1) = true := by decide
  rw [hv] at HLF
  have s0 : (nm.size : Int) ≤ (sx.size : Int) := by omega
  generalize leafR true R = LR at HLF HLT ⊢
  clear hv hno hle hnmx hRs hsp hnm
  cases LR with
  | none =>
    have HF : Hid (∀ W, Below w.heap.size w W → ∀ x, ReadPost w (Option.map (fun p : Int × ByteArray => (Tm.mk 1 nm p.1 [], p.2)) none) (.returned (.tuple #[.agg #[.int .i64 1, .string nm, .int .i64 0, .slice none 0 0], .string x, .bool false])) W) := fun W h x => ⟨h, _, _, _, _, _, _, x, rfl⟩
    go_enter Tryd.func46, Tryd.ntmps46
    go_wp2_with (first
      | (go_at_call 83; refine (HN.out _).mono ?_; rintro e w3 ⟨he, hw⟩; subst he; subst hw)
      | (go_at_call 84; refine (HI.out _).mono ?_; rintro e w4 ⟨he, hw⟩; subst he; subst hw; obtain ⟨hb0, hb1, hB, hZ⟩ := two_boxes w (.int .i64 0) (.string ⟨#[]⟩) (.int .i64 0) (.slice none 0 0) (.int .i64 1) (.string nm) (.int .i64 0) (.slice none 0 0) 25; generalize ((w.alloc (.cells #[.int .i64 0, .string ⟨#[]⟩, .int .i64 0, .slice none 0 0] 25)).alloc (.cells #[.int .i64 1, .string nm, .int .i64 0, .slice none 0 0] 25)) = wq at hb0 hb1 hB hZ ⊢; obtain ⟨⟨m0, m1, m2, m3⟩, n0, n1, n2, n3⟩ := box_facts hb0; obtain ⟨⟨y0, y1, y2, y3⟩, z0, z1, z2, z3⟩ := box_facts hb1; have HB := Lib.hid hB; have HZ := Lib.hid hZ; have HB0 := Lib.hid hb0; have HB1 := Lib.hid hb1; clear hb0 hb1 hB hZ)
      | (go_at_call 85; refine (HLF.out _).mono ?_; rintro e w5 ⟨hB5, xx, he⟩; subst he; have hb0 := (hB5.block w.heap.size (by rw [← HZ.out]; omega)).trans HB0.out; have HB5 := Lib.hid (HB.out.trans (hB5.mono (by rw [← HZ.out]; omega))); clear m0 m1 m2 m3 n0 n1 n2 n3 y0 y1 y2 y3 z0 z1 z2 z3; obtain ⟨⟨m0, m1, m2, m3⟩, n0, n1, n2, n3⟩ := box_facts hb0; clear hb0 hB5))
    exact bodyPost_ret (v := .tuple #[.agg #[.int .i64 1, .string nm, .int .i64 0, .slice none 0 0], .string xx, .bool false]) (by simp [results, Tryd.results46, go_sem, m0, m1, m2, m3]) rfl (HF.out _ (put4_below (g := w.heap.size) (o := 0) HB5.out (Nat.le_refl _)) xx)
  | some p =>
    obtain ⟨kk, xx⟩ := p
    have hk5 := HLT.out kk xx rfl
    have HK5 := Lib.hid hk5
    clear hk5
    have HF : Hid (∀ W, Below w.heap.size w W → ReadPost w (Option.map (fun p : Int × ByteArray => (Tm.mk 1 nm p.1 [], p.2)) (some (kk, xx))) (.returned (.tuple #[.agg #[.int .i64 1, .string nm, .int .i64 kk, .slice none 0 0], .string xx, .bool true])) W) := fun W h => ⟨h, _, _, _, _, rfl, name_range nm 1 kk HNS.out (by omega) HK5.out _ _⟩
    go_enter Tryd.func46, Tryd.ntmps46
    go_wp2_with (first
      | (go_at_call 83; refine (HN.out _).mono ?_; rintro e w3 ⟨he, hw⟩; subst he; subst hw)
      | (go_at_call 84; refine (HI.out _).mono ?_; rintro e w4 ⟨he, hw⟩; subst he; subst hw; obtain ⟨hb0, hb1, hB, hZ⟩ := two_boxes w (.int .i64 0) (.string ⟨#[]⟩) (.int .i64 0) (.slice none 0 0) (.int .i64 1) (.string nm) (.int .i64 0) (.slice none 0 0) 25; generalize ((w.alloc (.cells #[.int .i64 0, .string ⟨#[]⟩, .int .i64 0, .slice none 0 0] 25)).alloc (.cells #[.int .i64 1, .string nm, .int .i64 0, .slice none 0 0] 25)) = wq at hb0 hb1 hB hZ ⊢; obtain ⟨⟨m0, m1, m2, m3⟩, n0, n1, n2, n3⟩ := box_facts hb0; obtain ⟨⟨y0, y1, y2, y3⟩, z0, z1, z2, z3⟩ := box_facts hb1; have HB := Lib.hid hB; have HZ := Lib.hid hZ; have HB0 := Lib.hid hb0; have HB1 := Lib.hid hb1; clear hb0 hb1 hB hZ)
      | (go_at_call 85; refine (HLF.out _).mono ?_; rintro e w5 ⟨hB5, he⟩; subst he; have hb0 := (hB5.block w.heap.size (by rw [← HZ.out]; omega)).trans HB0.out; have HB5 := Lib.hid (HB.out.trans (hB5.mono (by rw [← HZ.out]; omega))); clear m0 m1 m2 m3 n0 n1 n2 n3 y0 y1 y2 y3 z0 z1 z2 z3; obtain ⟨⟨m0, m1, m2, m3⟩, n0, n1, n2, n3⟩ := box_facts hb0; clear hb0 hB5))
    exact bodyPost_ret (v := .tuple #[.agg #[.int .i64 1, .string nm, .int .i64 kk, .slice none 0 0], .string xx, .bool true]) (by simp [results, Tryd.results46, go_sem, m0, m1, m2, m3]) rfl (HF.out _ (put4_below (g := w.heap.size) (o := 0) HB5.out (Nat.le_refl _)))

set_option maxHeartbeats 3200000 in
set_option maxRecDepth 100000 in
theorem read_loe (s sx nm R : ByteArray) (dp : Int) (d0 : (dp == 0) = false) (w : World) (hs : s.size ≤ maxLen) (h0 : 0 < s.size) (hc : ¬ s[0] = 63) (hsx : s = sx) (hnm : nameAny sx = nm) (hR : sx.extract nm.size sx.size = R) (hno : isNameB nm.data.toList = true) (hr : R.size = 0) :
    Calls Tryd.prog 46 #[.string s, .int .i64 dp] w (ReadPost w ((leafR false R).map fun p => (.mk 2 nm p.1 [], p.2))) := by
  unfold maxLen at hs
  subst hsx
  have e0 : (0 : Int) < (s.size : Int) := by omega
  have e1 : ((s[0].toNat : Int) == 63) = false := by
    rw [beq_eq_false_iff_ne]
    intro h
    exact hc (UInt8.toNat_inj.1 (by rw [show (63 : UInt8).toNat = 63 from rfl]; omega))
  have hsp : s.size ≤ maxLen := by unfold maxLen; omega
  clear hc
  have HN := Lib.hid (fun W => rname_any s W hsp)
  have hle := nameAny_le s
  rw [hnm] at hle HN
  have hnmx : nm.size ≤ maxLen := Nat.le_trans hle hsp
  have HI := Lib.hid (fun W => rIsName_any nm W hnmx)
  rw [hno] at HI
  have hRs : R.size ≤ maxLen := by rw [← hR, ByteArray.size_extract]; omega
  have HLF := Lib.hid (fun W => leaf_any 2 (by omega) nm R W hRs)
  have HLT : Hid (∀ kk x, leafR false R = some (kk, x) → 0 ≤ kk ∧ kk ≤ 5) := fun kk x h => (leaf_text h).1
  have HNS := Lib.hid hnmx
  have hv : decide ((2 : Int) = 1) = false := by decide
  rw [hv] at HLF
  have s0 : (nm.size : Int) ≤ (s.size : Int) := by omega
  have r0 : ((R.size : Int) == 0) = true := by rw [hr]; rfl
  clear hr
  generalize leafR false R = LR at HLF HLT ⊢
  clear hv hno hle hnmx hRs hsp hnm
  cases LR with
  | none =>
    have HF : Hid (∀ W, Below w.heap.size w W → ∀ x, ReadPost w (Option.map (fun p : Int × ByteArray => (Tm.mk 2 nm p.1 [], p.2)) none) (.returned (.tuple #[.agg #[.int .i64 2, .string nm, .int .i64 0, .slice none 0 0], .string x, .bool false])) W) := fun W h x => ⟨h, _, _, _, _, _, _, x, rfl⟩
    go_enter Tryd.func46, Tryd.ntmps46
    go_wp2_with (first
      | (go_at_call 83; refine (HN.out _).mono ?_; rintro e w3 ⟨he, hw⟩; subst he; subst hw)
      | (go_at_call 84; refine (HI.out _).mono ?_; rintro e w4 ⟨he, hw⟩; subst he; subst hw; obtain ⟨hb0, hb1, hB, hZ⟩ := two_boxes w (.int .i64 0) (.string ⟨#[]⟩) (.int .i64 0) (.slice none 0 0) (.int .i64 2) (.string nm) (.int .i64 0) (.slice none 0 0) 25; generalize ((w.alloc (.cells #[.int .i64 0, .string ⟨#[]⟩, .int .i64 0, .slice none 0 0] 25)).alloc (.cells #[.int .i64 2, .string nm, .int .i64 0, .slice none 0 0] 25)) = wq at hb0 hb1 hB hZ ⊢; obtain ⟨⟨m0, m1, m2, m3⟩, n0, n1, n2, n3⟩ := box_facts hb0; obtain ⟨⟨y0, y1, y2, y3⟩, z0, z1, z2, z3⟩ := box_facts hb1; have HB := Lib.hid hB; have HZ := Lib.hid hZ; have HB0 := Lib.hid hb0; have HB1 := Lib.hid hb1; clear hb0 hb1 hB hZ)
      | (go_at_call 85; refine (HLF.out _).mono ?_; rintro e w5 ⟨hB5, xx, he⟩; subst he; have hb0 := (hB5.block w.heap.size (by rw [← HZ.out]; omega)).trans HB0.out; have HB5 := Lib.hid (HB.out.trans (hB5.mono (by rw [← HZ.out]; omega))); clear m0 m1 m2 m3 n0 n1 n2 n3 y0 y1 y2 y3 z0 z1 z2 z3; obtain ⟨⟨m0, m1, m2, m3⟩, n0, n1, n2, n3⟩ := box_facts hb0; clear hb0 hB5))
    exact bodyPost_ret (v := .tuple #[.agg #[.int .i64 2, .string nm, .int .i64 0, .slice none 0 0], .string xx, .bool false]) (by simp [results, Tryd.results46, go_sem, m0, m1, m2, m3]) rfl (HF.out _ (put4_below (g := w.heap.size) (o := 0) HB5.out (Nat.le_refl _)) xx)
  | some p =>
    obtain ⟨kk, xx⟩ := p
    have hk5 := HLT.out kk xx rfl
    have HK5 := Lib.hid hk5
    clear hk5
    have HF : Hid (∀ W, Below w.heap.size w W → ReadPost w (Option.map (fun p : Int × ByteArray => (Tm.mk 2 nm p.1 [], p.2)) (some (kk, xx))) (.returned (.tuple #[.agg #[.int .i64 2, .string nm, .int .i64 kk, .slice none 0 0], .string xx, .bool true])) W) := fun W h => ⟨h, _, _, _, _, rfl, name_range nm 2 kk HNS.out (by omega) HK5.out _ _⟩
    go_enter Tryd.func46, Tryd.ntmps46
    go_wp2_with (first
      | (go_at_call 83; refine (HN.out _).mono ?_; rintro e w3 ⟨he, hw⟩; subst he; subst hw)
      | (go_at_call 84; refine (HI.out _).mono ?_; rintro e w4 ⟨he, hw⟩; subst he; subst hw; obtain ⟨hb0, hb1, hB, hZ⟩ := two_boxes w (.int .i64 0) (.string ⟨#[]⟩) (.int .i64 0) (.slice none 0 0) (.int .i64 2) (.string nm) (.int .i64 0) (.slice none 0 0) 25; generalize ((w.alloc (.cells #[.int .i64 0, .string ⟨#[]⟩, .int .i64 0, .slice none 0 0] 25)).alloc (.cells #[.int .i64 2, .string nm, .int .i64 0, .slice none 0 0] 25)) = wq at hb0 hb1 hB hZ ⊢; obtain ⟨⟨m0, m1, m2, m3⟩, n0, n1, n2, n3⟩ := box_facts hb0; obtain ⟨⟨y0, y1, y2, y3⟩, z0, z1, z2, z3⟩ := box_facts hb1; have HB := Lib.hid hB; have HZ := Lib.hid hZ; have HB0 := Lib.hid hb0; have HB1 := Lib.hid hb1; clear hb0 hb1 hB hZ)
      | (go_at_call 85; refine (HLF.out _).mono ?_; rintro e w5 ⟨hB5, he⟩; subst he; have hb0 := (hB5.block w.heap.size (by rw [← HZ.out]; omega)).trans HB0.out; have HB5 := Lib.hid (HB.out.trans (hB5.mono (by rw [← HZ.out]; omega))); clear m0 m1 m2 m3 n0 n1 n2 n3 y0 y1 y2 y3 z0 z1 z2 z3; obtain ⟨⟨m0, m1, m2, m3⟩, n0, n1, n2, n3⟩ := box_facts hb0; clear hb0 hB5))
    exact bodyPost_ret (v := .tuple #[.agg #[.int .i64 2, .string nm, .int .i64 kk, .slice none 0 0], .string xx, .bool true]) (by simp [results, Tryd.results46, go_sem, m0, m1, m2, m3]) rfl (HF.out _ (put4_below (g := w.heap.size) (o := 0) HB5.out (Nat.le_refl _)))

set_option maxHeartbeats 3200000 in
set_option maxRecDepth 100000 in
theorem read_lon (s sx nm R : ByteArray) (dp : Int) (d0 : (dp == 0) = false) (w : World) (hs : s.size ≤ maxLen) (h0 : 0 < s.size) (hc : ¬ s[0] = 63) (hsx : s = sx) (hnm : nameAny sx = nm) (hR : sx.extract nm.size sx.size = R) (hno : isNameB nm.data.toList = true) (hr : 0 < R.size) (hr2 : ¬ R[0] = 40) :
    Calls Tryd.prog 46 #[.string s, .int .i64 dp] w (ReadPost w ((leafR false R).map fun p => (.mk 2 nm p.1 [], p.2))) := by
  unfold maxLen at hs
  subst hsx
  have e0 : (0 : Int) < (s.size : Int) := by omega
  have e1 : ((s[0].toNat : Int) == 63) = false := by
    rw [beq_eq_false_iff_ne]
    intro h
    exact hc (UInt8.toNat_inj.1 (by rw [show (63 : UInt8).toNat = 63 from rfl]; omega))
  have hsp : s.size ≤ maxLen := by unfold maxLen; omega
  clear hc
  have HN := Lib.hid (fun W => rname_any s W hsp)
  have hle := nameAny_le s
  rw [hnm] at hle HN
  have hnmx : nm.size ≤ maxLen := Nat.le_trans hle hsp
  have HI := Lib.hid (fun W => rIsName_any nm W hnmx)
  rw [hno] at HI
  have hRs : R.size ≤ maxLen := by rw [← hR, ByteArray.size_extract]; omega
  have HLF := Lib.hid (fun W => leaf_any 2 (by omega) nm R W hRs)
  have HLT : Hid (∀ kk x, leafR false R = some (kk, x) → 0 ≤ kk ∧ kk ≤ 5) := fun kk x h => (leaf_text h).1
  have HNS := Lib.hid hnmx
  have hv : decide ((2 : Int) = 1) = false := by decide
  rw [hv] at HLF
  have s0 : (nm.size : Int) ≤ (s.size : Int) := by omega
  have r0 : ((R.size : Int) == 0) = false := by rw [beq_eq_false_iff_ne]; omega
  have r1 : ((R[0].toNat : Int) != 40) = true := by
    rw [bne_iff_ne]
    intro h
    exact hr2 (UInt8.toNat_inj.1 (by rw [show (40 : UInt8).toNat = 40 from rfl]; omega))
  have r2 : (0 : Int) < (R.size : Int) := by omega
  clear hr2
  generalize leafR false R = LR at HLF HLT ⊢
  clear hv hno hle hnmx hRs hsp hnm
  cases LR with
  | none =>
    have HF : Hid (∀ W, Below w.heap.size w W → ∀ x, ReadPost w (Option.map (fun p : Int × ByteArray => (Tm.mk 2 nm p.1 [], p.2)) none) (.returned (.tuple #[.agg #[.int .i64 2, .string nm, .int .i64 0, .slice none 0 0], .string x, .bool false])) W) := fun W h x => ⟨h, _, _, _, _, _, _, x, rfl⟩
    go_enter Tryd.func46, Tryd.ntmps46
    go_wp2_with (first
      | (go_at_call 83; refine (HN.out _).mono ?_; rintro e w3 ⟨he, hw⟩; subst he; subst hw)
      | (go_at_call 84; refine (HI.out _).mono ?_; rintro e w4 ⟨he, hw⟩; subst he; subst hw; obtain ⟨hb0, hb1, hB, hZ⟩ := two_boxes w (.int .i64 0) (.string ⟨#[]⟩) (.int .i64 0) (.slice none 0 0) (.int .i64 2) (.string nm) (.int .i64 0) (.slice none 0 0) 25; generalize ((w.alloc (.cells #[.int .i64 0, .string ⟨#[]⟩, .int .i64 0, .slice none 0 0] 25)).alloc (.cells #[.int .i64 2, .string nm, .int .i64 0, .slice none 0 0] 25)) = wq at hb0 hb1 hB hZ ⊢; obtain ⟨⟨m0, m1, m2, m3⟩, n0, n1, n2, n3⟩ := box_facts hb0; obtain ⟨⟨y0, y1, y2, y3⟩, z0, z1, z2, z3⟩ := box_facts hb1; have HB := Lib.hid hB; have HZ := Lib.hid hZ; have HB0 := Lib.hid hb0; have HB1 := Lib.hid hb1; clear hb0 hb1 hB hZ)
      | (go_at_call 85; refine (HLF.out _).mono ?_; rintro e w5 ⟨hB5, xx, he⟩; subst he; have hb0 := (hB5.block w.heap.size (by rw [← HZ.out]; omega)).trans HB0.out; have HB5 := Lib.hid (HB.out.trans (hB5.mono (by rw [← HZ.out]; omega))); clear m0 m1 m2 m3 n0 n1 n2 n3 y0 y1 y2 y3 z0 z1 z2 z3; obtain ⟨⟨m0, m1, m2, m3⟩, n0, n1, n2, n3⟩ := box_facts hb0; clear hb0 hB5))
    exact bodyPost_ret (v := .tuple #[.agg #[.int .i64 2, .string nm, .int .i64 0, .slice none 0 0], .string xx, .bool false]) (by simp [results, Tryd.results46, go_sem, m0, m1, m2, m3]) rfl (HF.out _ (put4_below (g := w.heap.size) (o := 0) HB5.out (Nat.le_refl _)) xx)
  | some p =>
    obtain ⟨kk, xx⟩ := p
    have hk5 := HLT.out kk xx rfl
    have HK5 := Lib.hid hk5
    clear hk5
    have HF : Hid (∀ W, Below w.heap.size w W → ReadPost w (Option.map (fun p : Int × ByteArray => (Tm.mk 2 nm p.1 [], p.2)) (some (kk, xx))) (.returned (.tuple #[.agg #[.int .i64 2, .string nm, .int .i64 kk, .slice none 0 0], .string xx, .bool true])) W) := fun W h => ⟨h, _, _, _, _, rfl, name_range nm 2 kk HNS.out (by omega) HK5.out _ _⟩
    go_enter Tryd.func46, Tryd.ntmps46
    go_wp2_with (first
      | (go_at_call 83; refine (HN.out _).mono ?_; rintro e w3 ⟨he, hw⟩; subst he; subst hw)
      | (go_at_call 84; refine (HI.out _).mono ?_; rintro e w4 ⟨he, hw⟩; subst he; subst hw; obtain ⟨hb0, hb1, hB, hZ⟩ := two_boxes w (.int .i64 0) (.string ⟨#[]⟩) (.int .i64 0) (.slice none 0 0) (.int .i64 2) (.string nm) (.int .i64 0) (.slice none 0 0) 25; generalize ((w.alloc (.cells #[.int .i64 0, .string ⟨#[]⟩, .int .i64 0, .slice none 0 0] 25)).alloc (.cells #[.int .i64 2, .string nm, .int .i64 0, .slice none 0 0] 25)) = wq at hb0 hb1 hB hZ ⊢; obtain ⟨⟨m0, m1, m2, m3⟩, n0, n1, n2, n3⟩ := box_facts hb0; obtain ⟨⟨y0, y1, y2, y3⟩, z0, z1, z2, z3⟩ := box_facts hb1; have HB := Lib.hid hB; have HZ := Lib.hid hZ; have HB0 := Lib.hid hb0; have HB1 := Lib.hid hb1; clear hb0 hb1 hB hZ)
      | (go_at_call 85; refine (HLF.out _).mono ?_; rintro e w5 ⟨hB5, he⟩; subst he; have hb0 := (hB5.block w.heap.size (by rw [← HZ.out]; omega)).trans HB0.out; have HB5 := Lib.hid (HB.out.trans (hB5.mono (by rw [← HZ.out]; omega))); clear m0 m1 m2 m3 n0 n1 n2 n3 y0 y1 y2 y3 z0 z1 z2 z3; obtain ⟨⟨m0, m1, m2, m3⟩, n0, n1, n2, n3⟩ := box_facts hb0; clear hb0 hB5))
    exact bodyPost_ret (v := .tuple #[.agg #[.int .i64 2, .string nm, .int .i64 kk, .slice none 0 0], .string xx, .bool true]) (by simp [results, Tryd.results46, go_sem, m0, m1, m2, m3]) rfl (HF.out _ (put4_below (g := w.heap.size) (o := 0) HB5.out (Nat.le_refl _)))

end Go.Proofs.YtclgcfpjhlcnfaaDoor
