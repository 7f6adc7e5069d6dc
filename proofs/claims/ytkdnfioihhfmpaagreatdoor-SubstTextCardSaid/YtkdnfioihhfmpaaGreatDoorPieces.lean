/-
  THE PIECES OF A SUBSTITUTION's TEXT: what both sides divide it into, and their walks.
-/
import Derived.Test.YtkdnfioihhfmpaaGreatDoorName
import Derived.Test.YtkdnfioihhfmpaaGreatDoorTake
import Derived.Test.YtkdnfioihhfmpaaGreatDoorNode
import Derived.Test.YtkdnfioihhfmpaaGreatDoorInts
import Derived.Test.YtkdnfioihhfmpaaGreatDoorEndb
import Derived.Test.YtkdnfioihhfmpaaGreatDoorReadP
import Derived.Deep.RegionHeld3
import Derived.Test.YtkdnfioihhfmpaaGreatDoorStrlay
import Derived.Test.YtkdnfioihhfmpaaGreatDoorParse
import Derived.Test.YtkdnfioihhfmpaaGreatDoorSbcopy
import Derived.Test.YtkdnfioihhfmpaaGreatDoorSapply
import Derived.Test.YtkdnfioihhfmpaaGreatDoorBval
import Derived.Deep.QuietTactic
import Derived.BigQuiet
import Derived.Test.YtkdnfioihhfmpaaGreatDoorSall
import Derived.Test.YtkdnfioihhfmpaaGreatDoorSformat
import Derived.Test.YtkdnfioihhfmpaaGreatDoorLawFitsW
namespace Go.Proofs.YtkdnfioihhfmpaaGreatDoor
open Go.RowKit

theorem infoStr : (Tryz.prog.info? 9).map (fun i => (i.zero, i.size, i.bytes)) = some (some (.string ⟨#[]⟩), 1, 16) := by kernel_rfl
def strs (l : List ByteArray) : List Value := l.map Value.string
theorem strs_snoc (l : List ByteArray) (x : ByteArray) : strs (l ++ [x]) = strs l ++ [.string x] := by simp [strs]
theorem strs_length (l : List ByteArray) : (strs l).length = l.length := by simp [strs]
theorem strs_get (l : List ByteArray) (j : Nat) (h : j < l.length) : (strs l)[j]? = some (.string l[j]) := by simp [strs, h]

/-- The pieces from place i on (n bytes are left), where the last one began at b, at depth d. -/
def pcs (s : ByteArray) : Nat → Nat → Int → List ByteArray
  | 0, b, _ => [s.extract b s.size]
  | n + 1, b, d =>
    if s.data.toList[s.size - (n + 1)]? = some 40 then pcs s n b (d + 1)
    else if s.data.toList[s.size - (n + 1)]? = some 41 then pcs s n b (d - 1)
    else if d = 0 ∧ preB (s.extract (s.size - (n + 1)) s.size) ⟨#[44, 32]⟩ = true then s.extract b (s.size - (n + 1)) :: pcs s n (s.size - (n + 1) + 2) d
    else pcs s n b d
def piecesP (s : ByteArray) : List ByteArray := if s.size = 0 then [] else pcs s s.size 0 0
theorem data_at (s : ByteArray) (i : Nat) (h : i < s.size) : s.data.toList[i]? = some s[i] := by
  rw [Array.getElem?_toList]
  exact Array.getElem?_eq_getElem (by simpa using h)
theorem pcs_step {s : ByteArray} {k b : Nat} {d : Int} (h : k < s.size) : pcs s (s.size - k) b d = if s[k] = 40 then pcs s (s.size - (k + 1)) b (d + 1) else if s[k] = 41 then pcs s (s.size - (k + 1)) b (d - 1)
    else if d = 0 ∧ preB (s.extract k s.size) ⟨#[44, 32]⟩ = true then s.extract b k :: pcs s (s.size - (k + 1)) (k + 2) d else pcs s (s.size - (k + 1)) b d := by
  obtain ⟨n, hn⟩ : ∃ n, s.size - k = n + 1 := ⟨s.size - k - 1, by omega⟩
  have e1 : s.size - (n + 1) = k := by omega
  have e2 : s.size - (k + 1) = n := by omega
  rw [hn, pcs, e1, e2, data_at s k h]
  simp only [Option.some.injEq]
theorem pcs_open {s : ByteArray} {k b : Nat} {d : Int} (h : k < s.size) (hc : s[k] = 40) : pcs s (s.size - k) b d = pcs s (s.size - (k + 1)) b (d + 1) := by rw [pcs_step h, if_pos hc]
theorem pcs_close {s : ByteArray} {k b : Nat} {d : Int} (h : k < s.size) (hc : ¬ s[k] = 40) (hc2 : s[k] = 41) : pcs s (s.size - k) b d = pcs s (s.size - (k + 1)) b (d - 1) := by rw [pcs_step h, if_neg hc, if_pos hc2]
theorem pcs_cut {s : ByteArray} {k b : Nat} {d : Int} (h : k < s.size) (hc : ¬ s[k] = 40) (hc2 : ¬ s[k] = 41) (hd : d = 0) (hp : preB (s.extract k s.size) ⟨#[44, 32]⟩ = true) : pcs s (s.size - k) b d = s.extract b k :: pcs s (s.size - (k + 1)) (k + 2) d := by rw [pcs_step h, if_neg hc, if_neg hc2, if_pos ⟨hd, hp⟩]
theorem pcs_on {s : ByteArray} {k b : Nat} {d : Int} (h : k < s.size) (hc : ¬ s[k] = 40) (hc2 : ¬ s[k] = 41) (hp : ¬ (d = 0 ∧ preB (s.extract k s.size) ⟨#[44, 32]⟩ = true)) : pcs s (s.size - k) b d = pcs s (s.size - (k + 1)) b d := by rw [pcs_step h, if_neg hc, if_neg hc2, if_neg hp]
theorem pcs_end (s : ByteArray) (b : Nat) (d : Int) : pcs s (s.size - s.size) b d = [s.extract b s.size] := by rw [Nat.sub_self, pcs]
/-- No piece is longer than the text, nor are there more than bytes and one. -/
theorem pcs_small (s : ByteArray) : ∀ (n b : Nat) (d : Int), (pcs s n b d).length ≤ n + 1 ∧ ∀ p ∈ pcs s n b d, p.size ≤ s.size
  | 0, b, d => by
    rw [pcs]
    refine ⟨by simp, fun p hp => ?_⟩
    simp only [List.mem_singleton] at hp
    subst hp
    rw [ByteArray.size_extract]; omega
  | n + 1, b, d => by
    rw [pcs]
    split
    · have := pcs_small s n b (d + 1); exact ⟨by omega, this.2⟩
    · split
      · have := pcs_small s n b (d - 1); exact ⟨by omega, this.2⟩
      · split
        · have := pcs_small s n (s.size - (n + 1) + 2) d
          refine ⟨by rw [List.length_cons]; omega, fun p hp => ?_⟩
          rcases List.mem_cons.1 hp with rfl | hp
          · rw [ByteArray.size_extract]; omega
          · exact this.2 p hp
        · have := pcs_small s n b d; exact ⟨by omega, this.2⟩
theorem pieces_small (s : ByteArray) : (piecesP s).length ≤ s.size + 1 ∧ ∀ p ∈ piecesP s, p.size ≤ s.size := by
  unfold piecesP
  split
  · exact ⟨by simp, fun p hp => by simp at hp⟩
  · exact pcs_small s s.size 0 0
/-- Where ", " begins. -/
theorem pre_at {s : ByteArray} {k : Nat} (h : k < s.size) : preB (s.extract k s.size) ⟨#[44, 32]⟩ = true ↔ k + 2 ≤ s.size ∧ ((s.extract k (k + 2)).toList == [44, 32]) = true := by
  have hz : (s.extract k s.size).size = s.size - k := by rw [ByteArray.size_extract]; omega
  have he : k + 2 ≤ s.size → (s.extract k s.size).extract 0 2 = s.extract k (k + 2) := by
    intro h2
    rw [ByteArray.extract_extract]
    congr 1
    omega
  have h2 : (⟨#[44, 32]⟩ : ByteArray).size = 2 := rfl
  have h3 : (⟨#[44, 32]⟩ : ByteArray).toList = [44, 32] := by kernel_rfl
  unfold preB
  rw [hz, h2, h3]
  by_cases hk : k + 2 ≤ s.size
  · rw [he hk]
    simp [show 2 ≤ s.size - k by omega, hk]
  · simp [hk]; omega
theorem pre_char {s : ByteArray} {k : Nat} (h : k < s.size) (hp : ((s.extract k (k + 2)).toList == [44, 32]) = true) : s[k] = 44 ∧ ∀ h2 : k + 1 < s.size, s[k + 1] = 32 := by
  have e : (s.extract k (k + 2)).toList = [44, 32] := by simpa using hp
  rw [Lib.toList_data, ByteArray.data_extract, Array.toList_extract, List.extract_eq_take_drop] at e
  have g0 := congrArg (·[0]?) e
  have g1 := congrArg (·[1]?) e
  simp only [List.getElem?_take, List.getElem?_drop] at g0 g1
  refine ⟨?_, fun h2 => ?_⟩
  · rw [if_pos (by omega), Nat.add_zero, data_at s k h] at g0
    simpa using g0
  · rw [if_pos (by omega), data_at s (k + 1) h2] at g1
    simpa using g1

/-- A row of the call's own that holds these strings. -/
structure SOut (w : World) (l : List ByteArray) (v : Value) (wr : World) : Prop where
  own : wr.ownsRow w.heap.size 9 1 v l.length (strs l)
  ext : Ext w wr
theorem SOut.nil (w : World) : SOut w [] (.slice none 0 0) w := ⟨World.ownsRow_nil w _ _ 1, Ext.refl w⟩
theorem SOut.push {w wr w1 : World} {l : List ByteArray} {xl : Option Addr} {lcap g cap : Nat} {x : ByteArray} {T : TypeId} (h : SOut w l (.slice xl l.length lcap) wr)
    (hown : w1.ownsRow w.heap.size 9 1 (.slice (some ⟨g, 0, none⟩) (l.length + 1) cap) (l.length + 1) (strs l ++ [.string x])) (hg : (wr.alloc (.cells #[.string x] T)).grownBy w1 (Value.slice xl l.length lcap).ownBlock) : SOut w (l ++ [x]) (.slice (some ⟨g, 0, none⟩) (l.length + 1) cap) w1 := by
  refine ⟨by rw [strs_snoc, List.length_append]; exact hown, ?_⟩
  have h0 : Ext w (wr.alloc (.cells #[.string x] T)) := h.ext.alloc _
  have hs := h.ext.size
  exact ⟨hg.os.trans h0.os, hg.tape.trans h0.tape, hg.output.trans h0.output, Nat.le_trans h0.size hg.size, fun b hb => (hg.block b (by rw [World.size_alloc]; omega) (fun e => absurd (h.own.lt b e.symm).1 (by omega))).trans (h0.block b hb)⟩
def StrsPost (w : World) (l : List ByteArray) (e : Ending) (w' : World) : Prop := ∃ xa cap, e = .returned (.slice xa l.length cap) ∧ SOut w l (.slice xa l.length cap) w'
theorem SOut.post {w w' : World} {l l' : List ByteArray} {xa : Option Addr} {n cap : Nat} (h : SOut w l (.slice xa n cap) w') (hl : l = l') (hn : n = l.length) : StrsPost w l' (.returned (.slice xa n cap)) w' := by
  subst hl hn; exact ⟨xa, cap, rfl, h⟩

/-- At the head of both loops. -/
structure PcR (w : World) (s : ByteArray) (k b : Nat) (d : Int) (l : List ByteArray) (v : Value) (wr : World) : Prop where
  out : SOut w l v wr
  eq : l ++ pcs s (s.size - k) b d = pcs s s.size 0 0
  le : b ≤ k ∨ (b = k + 1 ∧ ∃ h : k < s.size, s[k] = 32)
  top : b ≤ s.size
  len : l.length ≤ k
theorem PcR.same {w : World} {s : ByteArray} {k b : Nat} {d d' : Int} {l : List ByteArray} {v : Value} {wr : World} (h : PcR w s k b d l v wr) (e : pcs s (s.size - k) b d = pcs s (s.size - (k + 1)) b d') (_hk : k < s.size) : PcR w s (k + 1) b d' l v wr :=
  ⟨h.out, by rw [← e]; exact h.eq, Or.inl (by have := h.le; omega), h.top, by have := h.len; omega⟩
theorem PcR.begin {w : World} {s : ByteArray} {k b : Nat} {d : Int} {l : List ByteArray} {v : Value} {wr : World} (h : PcR w s k b d l v wr) {hk : k < s.size} (hc : s[k] = 44) : b ≤ k := by
  rcases h.le with h | ⟨_, _, h⟩
  · exact h
  · rw [hc] at h; exact absurd h (by decide)
theorem PcR.cut {w : World} {s : ByteArray} {k b : Nat} {d : Int} {l : List ByteArray} {v v' : Value} {wr w1 : World} (h : PcR w s k b d l v wr) (hk : k + 2 ≤ s.size) (hc : s[k + 1] = 32) (e : pcs s (s.size - k) b d = s.extract b k :: pcs s (s.size - (k + 1)) (k + 2) d) (h1 : SOut w (l ++ [s.extract b k]) v' w1) : PcR w s (k + 1) (k + 2) d (l ++ [s.extract b k]) v' w1 :=
  ⟨h1, by rw [List.append_assoc]; show l ++ (s.extract b k :: pcs s (s.size - (k + 1)) (k + 2) d) = _; rw [← e]; exact h.eq, Or.inr ⟨by omega, by omega, hc⟩, hk, by rw [List.length_append]; have := h.len; simp; omega⟩
theorem PcR.start (w : World) (s : ByteArray) : PcR w s 0 0 0 [] (.slice none 0 0) w := ⟨SOut.nil w, by simp, Or.inl (Nat.le_refl _), Nat.zero_le _, Nat.le_refl _⟩
theorem PcR.form {w : World} {s : ByteArray} {k b : Nat} {d : Int} {l : List ByteArray} {v : Value} {wr : World} (h : PcR w s k b d l v wr) : ∃ xl lcap, v = .slice xl l.length lcap := own_form h.out.own

set_option maxHeartbeats 3200000 in
set_option maxRecDepth 100000 in
theorem spieces_any (s : ByteArray) (w : World) (hs : s.size ≤ 8388608) :
    Calls Tryz.prog 40 #[.string s] w (StrsPost w (piecesP s)) := by
  obtain ⟨i0, hi0, hz0, hz1, hz2⟩ := info_parts infoStr
  have HI0 := Lib.hid (And.intro hi0 (And.intro hz0 (And.intro hz1 hz2)))
  clear hi0 hz0 hz1 hz2
  by_cases h0 : s.size = 0
  · have es : s.toList = [] := by
      have := Lib.size_eq s
      rw [Lib.toList_data]
      exact List.length_eq_zero_iff.1 (by omega)
    have HP : Hid (piecesP s = []) := by show _ = _; rw [piecesP, if_pos h0]
    have es2 : s.toList.isEmpty = true := by rw [es]; rfl
    clear h0 es
    go_enter Tryz.func40, Tryz.ntmps40
    go_wp2_with fail
    go_ret
    exact SOut.post (SOut.nil w) HP.out.symm rfl
  have es2 : s.toList.isEmpty = false := by
    have := Lib.size_eq s
    rw [Lib.toList_data]
    cases h : s.data.toList with
    | nil => rw [h, List.length_nil] at this; omega
    | cons => rfl
  have HP : Hid (piecesP s = pcs s s.size 0 0) := by show _ = _; rw [piecesP, if_neg h0]
  clear h0
  go_enter Tryz.func40, Tryz.ntmps40
  go_wp2_with fail
  go_loopw [3, 4, 5, 11] (fun v_ b_ d_ i_ wr => ∃ (k b : Nat) (d : Int) (l : List ByteArray), k ≤ s.size ∧ i_ = .int .i64 k ∧ b_ = .int .i64 b ∧ d_ = .int .i64 d ∧ (-(k : Int) ≤ d ∧ d ≤ k) ∧ Hid (PcR w s k b d l v_ wr)) (fun _ _ _ i_ _ => s.size - (intOf i_).toNat)
  case atStart => exact ⟨0, 0, 0, [], Nat.zero_le _, rfl, rfl, rfl, by omega, Lib.hid (PcR.start w s)⟩
  case round =>
    obtain ⟨k, b, d, l, hk, rfl, rfl, rfl, hd12, HR⟩ := hrel
    obtain ⟨xl, lcap, rfl⟩ := HR.out.form
    obtain ⟨hd1, hd2⟩ := hd12
    have hll : l.length ≤ 8388608 := by have := HR.out.len; omega
    have hb1 := HR.out.top
    have hsw := HR.out.out.ext.size
    by_cases hlt : k < s.size
    rotate_left
    · have hke : k = s.size := by omega
      have HE : Hid (l ++ [s.extract b s.size] = pcs s s.size 0 0) := by
        have := HR.out.eq
        rw [hke, pcs_end] at this
        exact this
      clear hke
      go_wp2_with (at_builtin; refine wpList_append_lies _ rfl _ _ _ rfl w.heap.size 9 i0 _ 1 16 Tryz.underlying70 HI0.out.1 HI0.out.2.1 HI0.out.2.2.1 HI0.out.2.2.2 rfl (by omega) (.slice xl l.length lcap) l.length (strs l) rfl (HR.out.out.own.alloc _) ⟨wr.heap.size, 0, none⟩ 1 1 [.string (s.extract b s.size)] rfl rfl (World.news_of_block (cs := #[.string (s.extract b s.size)]) (t := 9) (fr := (0, 0)) (heap_alloc_new wr _)) (by simp [Value.oneCell']) (by omega) (by unfold maxLen; omega) (by omega) (by simp; omega) (wr.heap.size + 1) (by simp) ?_; intro gl lcap' w1 hown1 hgrow hat hlt2; have HS1 := Lib.hid (HR.out.out.push hown1 hgrow); clear hown1 hgrow hat hlt2)
      go_ret
      exact SOut.post HS1.out (HE.out.trans HP.out.symm) (by simp)
    have i1 : (0 : Int) ≤ (k : Int) := by omega
    have i2 : (k : Int) < (s.size : Int) := by omega
    by_cases c40 : s[k] = 40
    · have e1 : (((s[k].toNat : Nat) : Int) == 40) = true := by rw [c40]; rfl
      have e2 : (((s[k].toNat : Nat) : Int) == 41) = false := by rw [c40]; rfl
      have HN := Lib.hid (HR.out.same (pcs_open hlt c40) hlt)
      clear c40
      go_wp2_with fail
      go_roundw
      case rel => exact ⟨k + 1, b, (d + 1), l, by omega, by go_num, rfl, rfl, by omega, HN⟩
      case measure => simp [intOf]; omega
    have e1 : (((s[k].toNat : Nat) : Int) == 40) = false := by
      cases h : (((s[k].toNat : Nat) : Int) == 40) with
      | false => rfl
      | true =>
        have h2 : ((s[k].toNat : Nat) : Int) = 40 := by simpa only [beq_iff_eq] using h
        exact absurd (UInt8.toNat_inj.1 (show s[k].toNat = (40 : UInt8).toNat by show s[k].toNat = 40; omega)) c40
    by_cases c41 : s[k] = 41
    · have e2 : (((s[k].toNat : Nat) : Int) == 41) = true := by rw [c41]; rfl
      have HN := Lib.hid (HR.out.same (pcs_close hlt c40 c41) hlt)
      clear c40 c41
      go_wp2_with fail
      go_roundw
      case rel => exact ⟨k + 1, b, (d - 1), l, by omega, by go_num, rfl, rfl, by omega, HN⟩
      case measure => simp [intOf]; omega
    have e2 : (((s[k].toNat : Nat) : Int) == 41) = false := by
      cases h : (((s[k].toNat : Nat) : Int) == 41) with
      | false => rfl
      | true =>
        have h2 : ((s[k].toNat : Nat) : Int) = 41 := by simpa only [beq_iff_eq] using h
        exact absurd (UInt8.toNat_inj.1 (show s[k].toNat = (41 : UInt8).toNat by show s[k].toNat = 41; omega)) c41
    by_cases hz : d = 0
    rotate_left
    · have e3 : (d == 0) = false := by simpa using hz
      have HN := Lib.hid (HR.out.same (pcs_on hlt c40 c41 (fun h => hz h.1)) hlt)
      clear c40 c41 hz
      go_wp2_with fail
      go_roundw
      case rel => exact ⟨k + 1, b, d, l, by omega, by go_num, rfl, rfl, by omega, HN⟩
      case measure => simp [intOf]; omega
    have e3 : (d == 0) = true := by rw [hz]; rfl
    cases hp : preB (s.extract k s.size) ⟨#[44, 32]⟩ with
    | false =>
      have HN := Lib.hid (HR.out.same (pcs_on hlt c40 c41 (fun h => by rw [hp] at h; exact absurd h.2 (by decide))) hlt)
      clear c40 c41 hz
      go_wp2_with (go_at_call 65; refine (hasPrefix_any _ _ _).mono ?_; rintro e w' ⟨he, rfl⟩; subst he; try rw [hp])
      go_roundw
      case rel => exact ⟨k + 1, b, d, l, by omega, by go_num, rfl, rfl, by omega, HN⟩
      case measure => simp [intOf]; omega
    | true =>
      obtain ⟨hr, hq⟩ := (pre_at hlt).1 hp
      obtain ⟨q1, q2⟩ := pre_char hlt hq
      have hbk := HR.out.begin (hk := hlt) q1
      have HCUT := Lib.hid (fun v' w1 (x : SOut w (l ++ [s.extract b k]) v' w1) => HR.out.cut hr (q2 (by omega)) (pcs_cut hlt c40 c41 hz hp) x)
      have i3 : (b : Int) ≤ (k : Int) := by omega
      clear c40 c41 hz hq q1 q2
      go_wp2_with (first
        | (go_at_call 65; refine (hasPrefix_any _ _ _).mono ?_; rintro e w' ⟨he, rfl⟩; subst he; try rw [hp])
        | (at_builtin; refine wpList_append_lies _ rfl _ _ _ rfl w.heap.size 9 i0 _ 1 16 Tryz.underlying70 HI0.out.1 HI0.out.2.1 HI0.out.2.2.1 HI0.out.2.2.2 rfl (by omega) (.slice xl l.length lcap) l.length (strs l) rfl (HR.out.out.own.alloc _) ⟨wr.heap.size, 0, none⟩ 1 1 [.string (s.extract b k)] rfl rfl (World.news_of_block (cs := #[.string (s.extract b k)]) (t := 9) (fr := (0, 0)) (heap_alloc_new wr _)) (by simp [Value.oneCell']) (by omega) (by unfold maxLen; omega) (by omega) (by simp; omega) (wr.heap.size + 1) (by simp) ?_; intro gl lcap' w1 hown1 hgrow hat hlt2; have HS1 := Lib.hid (HR.out.out.push hown1 hgrow); clear hown1 hgrow hat hlt2))
      go_roundw
      case rel => exact ⟨k + 1, k + 2, d, l ++ [s.extract b k], by omega, by go_num, by go_num, rfl, by omega, Lib.hid (HCUT.out _ _ HS1.out)⟩
      case measure => simp [intOf]; omega

set_option maxHeartbeats 3200000 in
set_option maxRecDepth 100000 in
theorem rpieces_any (s : ByteArray) (w : World) (hs : s.size ≤ 8388608) (h0 : 0 < s.size) :
    Calls Tryz.prog 43 #[.string s] w (StrsPost w (piecesP s)) := by
  obtain ⟨i0, hi0, hz0, hz1, hz2⟩ := info_parts infoStr
  have HI0 := Lib.hid (And.intro hi0 (And.intro hz0 (And.intro hz1 hz2)))
  clear hi0 hz0 hz1 hz2
  have HP : Hid (piecesP s = pcs s s.size 0 0) := by show _ = _; rw [piecesP, if_neg (by omega)]
  clear h0
  go_enter Tryz.func43, Tryz.ntmps43
  go_wp2_with fail
  go_loopw [3, 4, 5, 6] (fun v_ d_ b_ i_ wr => ∃ (k b : Nat) (d : Int) (l : List ByteArray), k ≤ s.size ∧ i_ = .int .i64 k ∧ b_ = .int .i64 b ∧ d_ = .int .i64 d ∧ (-(k : Int) ≤ d ∧ d ≤ k) ∧ Hid (PcR w s k b d l v_ wr)) (fun _ _ _ i_ _ => s.size - (intOf i_).toNat)
  case atStart => exact ⟨0, 0, 0, [], Nat.zero_le _, rfl, rfl, rfl, by omega, Lib.hid (PcR.start w s)⟩
  case round =>
    obtain ⟨k, b, d, l, hk, rfl, rfl, rfl, hd12, HR⟩ := hrel
    obtain ⟨xl, lcap, rfl⟩ := HR.out.form
    obtain ⟨hd1, hd2⟩ := hd12
    have hll : l.length ≤ 8388608 := by have := HR.out.len; omega
    have hb1 := HR.out.top
    have hsw := HR.out.out.ext.size
    by_cases hlt : k < s.size
    rotate_left
    · have hke : k = s.size := by omega
      have HE : Hid (l ++ [s.extract b s.size] = pcs s s.size 0 0) := by
        have := HR.out.eq
        rw [hke, pcs_end] at this
        exact this
      clear hke
      go_wp2_with (at_builtin; refine wpList_append_lies _ rfl _ _ _ rfl w.heap.size 9 i0 _ 1 16 Tryz.underlying70 HI0.out.1 HI0.out.2.1 HI0.out.2.2.1 HI0.out.2.2.2 rfl (by omega) (.slice xl l.length lcap) l.length (strs l) rfl (HR.out.out.own.alloc _) ⟨wr.heap.size, 0, none⟩ 1 1 [.string (s.extract b s.size)] rfl rfl (World.news_of_block (cs := #[.string (s.extract b s.size)]) (t := 9) (fr := (0, 0)) (heap_alloc_new wr _)) (by simp [Value.oneCell']) (by omega) (by unfold maxLen; omega) (by omega) (by simp; omega) (wr.heap.size + 1) (by simp) ?_; intro gl lcap' w1 hown1 hgrow hat hlt2; have HS1 := Lib.hid (HR.out.out.push hown1 hgrow); clear hown1 hgrow hat hlt2)
      go_ret
      exact SOut.post HS1.out (HE.out.trans HP.out.symm) (by simp)
    have i1 : (0 : Int) ≤ (k : Int) := by omega
    have i2 : (k : Int) < (s.size : Int) := by omega
    by_cases c40 : s[k] = 40
    · have e1 : (((s[k].toNat : Nat) : Int) == 40) = true := by rw [c40]; rfl
      have e2 : (((s[k].toNat : Nat) : Int) == 41) = false := by rw [c40]; rfl
      have HN := Lib.hid (HR.out.same (pcs_open hlt c40) hlt)
      have e5 : ((s.extract k (k + 2)).toList == [44, 32]) = false := by
        cases h : ((s.extract k (k + 2)).toList == [44, 32]) with
        | false => rfl
        | true => exact absurd (pre_char hlt h).1 (by rw [c40]; decide)
      by_cases hz : (d + 1) = 0
      · have e3 : ((d + 1) == 0) = true := by rw [hz]; rfl
        by_cases hr : k + 2 ≤ s.size
        · have e4 : decide ((k : Int) + 1 < (s.size : Int)) = true := by simp; omega
          have i3 : (k : Int) + 2 ≤ (s.size : Int) := by omega
          clear c40 hz hr
          go_wp2_with fail
          go_roundw
          case rel => exact ⟨k + 1, b, (d + 1), l, by omega, by go_num, rfl, rfl, by omega, HN⟩
          case measure => simp [intOf]; omega
        · have e4 : decide ((k : Int) + 1 < (s.size : Int)) = false := by simp; omega
          clear c40 hz hr
          go_wp2_with fail
          go_roundw
          case rel => exact ⟨k + 1, b, (d + 1), l, by omega, by go_num, rfl, rfl, by omega, HN⟩
          case measure => simp [intOf]; omega
      · have e3 : ((d + 1) == 0) = false := by simpa using hz
        clear c40 hz
        go_wp2_with fail
        go_roundw
        case rel => exact ⟨k + 1, b, (d + 1), l, by omega, by go_num, rfl, rfl, by omega, HN⟩
        case measure => simp [intOf]; omega
    have e1 : (((s[k].toNat : Nat) : Int) == 40) = false := by
      cases h : (((s[k].toNat : Nat) : Int) == 40) with
      | false => rfl
      | true =>
        have h2 : ((s[k].toNat : Nat) : Int) = 40 := by simpa only [beq_iff_eq] using h
        exact absurd (UInt8.toNat_inj.1 (show s[k].toNat = (40 : UInt8).toNat by show s[k].toNat = 40; omega)) c40
    by_cases c41 : s[k] = 41
    · have e2 : (((s[k].toNat : Nat) : Int) == 41) = true := by rw [c41]; rfl
      have HN := Lib.hid (HR.out.same (pcs_close hlt c40 c41) hlt)
      have e5 : ((s.extract k (k + 2)).toList == [44, 32]) = false := by
        cases h : ((s.extract k (k + 2)).toList == [44, 32]) with
        | false => rfl
        | true => exact absurd (pre_char hlt h).1 (by rw [c41]; decide)
      by_cases hz : (d - 1) = 0
      · have e3 : ((d - 1) == 0) = true := by rw [hz]; rfl
        by_cases hr : k + 2 ≤ s.size
        · have e4 : decide ((k : Int) + 1 < (s.size : Int)) = true := by simp; omega
          have i3 : (k : Int) + 2 ≤ (s.size : Int) := by omega
          clear c40 c41 hz hr
          go_wp2_with fail
          go_roundw
          case rel => exact ⟨k + 1, b, (d - 1), l, by omega, by go_num, rfl, rfl, by omega, HN⟩
          case measure => simp [intOf]; omega
        · have e4 : decide ((k : Int) + 1 < (s.size : Int)) = false := by simp; omega
          clear c40 c41 hz hr
          go_wp2_with fail
          go_roundw
          case rel => exact ⟨k + 1, b, (d - 1), l, by omega, by go_num, rfl, rfl, by omega, HN⟩
          case measure => simp [intOf]; omega
      · have e3 : ((d - 1) == 0) = false := by simpa using hz
        clear c40 c41 hz
        go_wp2_with fail
        go_roundw
        case rel => exact ⟨k + 1, b, (d - 1), l, by omega, by go_num, rfl, rfl, by omega, HN⟩
        case measure => simp [intOf]; omega
    have e2 : (((s[k].toNat : Nat) : Int) == 41) = false := by
      cases h : (((s[k].toNat : Nat) : Int) == 41) with
      | false => rfl
      | true =>
        have h2 : ((s[k].toNat : Nat) : Int) = 41 := by simpa only [beq_iff_eq] using h
        exact absurd (UInt8.toNat_inj.1 (show s[k].toNat = (41 : UInt8).toNat by show s[k].toNat = 41; omega)) c41
    by_cases hz : d = 0
    rotate_left
    · have e3 : (d == 0) = false := by simpa using hz
      have HN := Lib.hid (HR.out.same (pcs_on hlt c40 c41 (fun h => hz h.1)) hlt)
      clear c40 c41 hz
      go_wp2_with fail
      go_roundw
      case rel => exact ⟨k + 1, b, d, l, by omega, by go_num, rfl, rfl, by omega, HN⟩
      case measure => simp [intOf]; omega
    have e3 : (d == 0) = true := by rw [hz]; rfl
    by_cases hr : k + 2 ≤ s.size
    rotate_left
    · have e4 : decide ((k : Int) + 1 < (s.size : Int)) = false := by simp; omega
      have HN := Lib.hid (HR.out.same (pcs_on hlt c40 c41 (fun h => hr ((pre_at hlt).1 h.2).1)) hlt)
      clear c40 c41 hz hr
      go_wp2_with fail
      go_roundw
      case rel => exact ⟨k + 1, b, d, l, by omega, by go_num, rfl, rfl, by omega, HN⟩
      case measure => simp [intOf]; omega
    have e4 : decide ((k : Int) + 1 < (s.size : Int)) = true := by simp; omega
    have i4 : (k : Int) + 2 ≤ (s.size : Int) := by omega
    cases hp : ((s.extract k (k + 2)).toList == [44, 32]) with
    | false =>
      have HN := Lib.hid (HR.out.same (pcs_on hlt c40 c41 (fun h => by have := ((pre_at hlt).1 h.2).2; rw [hp] at this; exact absurd this (by decide))) hlt)
      clear c40 c41 hz hr
      go_wp2_with fail
      go_roundw
      case rel => exact ⟨k + 1, b, d, l, by omega, by go_num, rfl, rfl, by omega, HN⟩
      case measure => simp [intOf]; omega
    | true =>
      obtain ⟨q1, q2⟩ := pre_char hlt hp
      have hbk := HR.out.begin (hk := hlt) q1
      have HCUT := Lib.hid (fun v' w1 (x : SOut w (l ++ [s.extract b k]) v' w1) => HR.out.cut hr (q2 (by omega)) (pcs_cut hlt c40 c41 hz ((pre_at hlt).2 ⟨hr, hp⟩)) x)
      have i3 : (b : Int) ≤ (k : Int) := by omega
      clear c40 c41 hz q1 q2
      go_wp2_with (at_builtin; refine wpList_append_lies _ rfl _ _ _ rfl w.heap.size 9 i0 _ 1 16 Tryz.underlying70 HI0.out.1 HI0.out.2.1 HI0.out.2.2.1 HI0.out.2.2.2 rfl (by omega) (.slice xl l.length lcap) l.length (strs l) rfl (HR.out.out.own.alloc _) ⟨wr.heap.size, 0, none⟩ 1 1 [.string (s.extract b k)] rfl rfl (World.news_of_block (cs := #[.string (s.extract b k)]) (t := 9) (fr := (0, 0)) (heap_alloc_new wr _)) (by simp [Value.oneCell']) (by omega) (by unfold maxLen; omega) (by omega) (by simp; omega) (wr.heap.size + 1) (by simp) ?_; intro gl lcap' w1 hown1 hgrow hat hlt2; have HS1 := Lib.hid (HR.out.out.push hown1 hgrow); clear hown1 hgrow hat hlt2)
      go_roundw
      case rel => exact ⟨k + 1, k + 2, d, l ++ [s.extract b k], by omega, by go_num, by go_num, rfl, by omega, Lib.hid (HCUT.out _ _ HS1.out)⟩
      case measure => simp [intOf]; omega
end Go.Proofs.YtkdnfioihhfmpaaGreatDoor

/-
  A BINDING's TEXT: its two sides; the walks of the reference's sides and of subst.parseBinding.
-/
namespace Go.Proofs.YtkdnfioihhfmpaaGreatDoor
open Go.RowKit

/-- Where the first sign of a piece begins, or -1. -/
def eqAt (p : ByteArray) : Int := Lib.index p.data.toList [32, 61, 32]
def hasEq (p : ByteArray) : Bool := decide (0 ≤ eqAt p)
def lftP (p : ByteArray) : ByteArray := p.extract 0 (eqAt p).toNat
def rgtP (p : ByteArray) : ByteArray := p.extract ((eqAt p).toNat + 3) p.size
def errP (p : ByteArray) : Int := if (parseP (lftP p)).2 = 0 then (parseP (rgtP p)).2 else (parseP (lftP p)).2
def bdP (p : ByteArray) : Bd := if errP p = 0 then ((parseP (lftP p)).1, (parseP (rgtP p)).1) else (zeroT, zeroT)
theorem eqAt_room {p : ByteArray} {i : Nat} (h : eqAt p = i) : i + 3 ≤ p.size := by
  have := Lib.index_room p.data.toList [32, 61, 32] (by show 0 ≤ eqAt p; omega)
  have e : Lib.index p.data.toList [32, 61, 32] = i := h
  rw [e] at this
  have hz := Lib.size_eq p
  simp at this
  omega
theorem lftP_size (p : ByteArray) : (lftP p).size ≤ p.size := by unfold lftP; rw [ByteArray.size_extract]; omega
theorem rgtP_size (p : ByteArray) : (rgtP p).size ≤ p.size := by unfold rgtP; rw [ByteArray.size_extract]; omega
theorem contains_eq (p : ByteArray) (w : World) (hs : p.size ≤ 8388608) (hm : MaxL w) : Calls Tryz.prog 41 #[.string p, .string ⟨#[32, 61, 32]⟩] w fun e w' => e = .returned (.bool (hasEq p)) ∧ w' = w :=
  contains_any p ⟨#[32, 61, 32]⟩ w (by omega) hm
theorem cut_eq (p : ByteArray) (w : World) (hs : p.size ≤ 8388608) (hm : MaxL w) (hi : hasEq p = true) : Calls Tryz.prog 67 #[.string p, .string ⟨#[32, 61, 32]⟩] w fun e w' => e = .returned (.tuple #[.string (lftP p), .string (rgtP p), .bool true]) ∧ Ext w w' := by
  have h0 : 0 ≤ eqAt p := of_decide_eq_true hi
  obtain ⟨e1, e2, e3⟩ := Lib.cutB_hit p ⟨#[32, 61, 32]⟩ (eqAt p).toNat (by show eqAt p = _; omega)
  refine (cut_any p ⟨#[32, 61, 32]⟩ w (by omega) hm).mono ?_
  rintro e w' ⟨he, n, rfl⟩
  rw [e1, e2, e3] at he
  exact ⟨he, below_drewN (Below.refl _ _) _⟩

/-- Whether the sign stands at a place. -/
theorem occ_at {p : ByteArray} {k : Nat} (_h : k + 3 ≤ p.size) : Lib.occAt p.data.toList [32, 61, 32] k = ((p.extract k (k + 3)).toList == [32, 61, 32]) := by
  have e : (p.extract k (k + 3)).toList = (p.data.toList.drop k).take 3 := by
    rw [Lib.toList_data, ByteArray.data_extract, Array.toList_extract, List.extract_eq_take_drop]
    congr 1; omega
  rw [e]
  unfold Lib.occAt
  rw [Bool.eq_iff_iff, List.isPrefixOf_iff_prefix, List.prefix_iff_eq_take, beq_iff_eq]
  exact ⟨fun h => h.symm, fun h => h.symm⟩
def sidesV (p : ByteArray) : Value := if 0 ≤ eqAt p then .tuple #[.string (lftP p), .string (rgtP p), .bool true] else .tuple #[.string ⟨#[]⟩, .string ⟨#[]⟩, .bool false]

set_option maxHeartbeats 1600000 in
set_option maxRecDepth 100000 in
theorem rsides_any (p : ByteArray) (w : World) (hs : p.size ≤ 8388608) :
    Calls Tryz.prog 44 #[.string p] w fun e w' => e = .returned (sidesV p) ∧ Ext w w' := by
  go_enter Tryz.func44, Tryz.ntmps44
  go_wp2_with fail
  go_loopw [5] (fun i wr => ∃ k : Nat, k ≤ p.size ∧ i = .int .i64 k ∧ wr = w ∧ Hid (Lib.NoOcc p.data.toList [32, 61, 32] k)) (fun i _ => p.size - (intOf i).toNat)
  case atStart => exact ⟨0, Nat.zero_le _, rfl, rfl, Lib.hid (Lib.NoOcc.zero _ _)⟩
  case round =>
    obtain ⟨k, hk, rfl, rfl, HN⟩ := hrel
    by_cases hlt : k + 3 ≤ p.size
    rotate_left
    · have HS : Hid (sidesV p = .tuple #[.string ⟨#[]⟩, .string ⟨#[]⟩, .bool false]) := by
        show _ = _
        have : eqAt p = -1 := Lib.index_past (by simp) HN.out (by have := Lib.size_eq p; simp; omega)
        unfold sidesV; rw [if_neg (by omega)]
      have e1 : decide ((k : Int) + 3 ≤ (p.size : Int)) = false := by simp; omega
      clear hlt
      go_wp2_with fail
      go_ret3
      exact ⟨by rw [HS.out]; rfl, Ext.refl _⟩
    have i1 : (k : Int) + 3 ≤ (p.size : Int) := by omega
    have e1 : decide ((k : Int) + 3 ≤ (p.size : Int)) = true := by simp; omega
    cases hc : ((p.extract k (k + 3)).toList == [32, 61, 32]) with
    | false =>
      have HN1 : Hid (Lib.NoOcc p.data.toList [32, 61, 32] (k + 1)) := by
        show Lib.NoOcc _ _ _
        intro j hj
        by_cases e : j = k
        · rw [e, occ_at hlt]; exact hc
        · exact HN.out j (by omega)
      clear hlt
      go_wp2_with fail
      go_roundw
      case rel => exact ⟨k + 1, by omega, by go_num, trivial, HN1⟩
      case measure => simp [intOf]; omega
    | true =>
      have HS : Hid (sidesV p = .tuple #[.string (p.extract 0 k), .string (p.extract (k + 3) p.size), .bool true]) := by
        show _ = _
        have : eqAt p = (k : Int) := Lib.index_hit HN.out (by have := Lib.size_eq p; omega) (by rw [occ_at hlt]; exact hc)
        unfold sidesV lftP rgtP
        rw [this, if_pos (by omega)]
        rfl
      clear hlt
      go_wp2_with fail
      go_quiet (fail)
      go_wp2_with fail
      go_ret3
      exact ⟨by rw [HS.out]; rfl, below_drewN (Below.refl _ _) _⟩

def PbPost (w : World) (p : ByteArray) (e : Ending) (w' : World) : Prop :=
  ∃ (k n : Int) (s : ByteArray) (xa : Option Addr) (l c : Nat) (k2 n2 : Int) (s2 : ByteArray) (xa2 : Option Addr) (l2 c2 : Nat), e = .returned (.tuple #[.agg #[.int .i64 k, .string s, .int .i64 n, .slice xa l c, .int .i64 k2, .string s2, .int .i64 n2, .slice xa2 l2 c2], .int .i64 (errP p)]) ∧
    IsIn (fun b => w.heap.size ≤ b ∧ b < w'.heap.size) w' (bdP p).1 (.int .i64 k) (.string s) (.int .i64 n) (.slice xa l c) ∧ IsIn (fun b => w.heap.size ≤ b ∧ b < w'.heap.size) w' (bdP p).2 (.int .i64 k2) (.string s2) (.int .i64 n2) (.slice xa2 l2 c2) ∧ Ext w w'
theorem pb_err {w w' : World} {p : ByteArray} {x : Int} (hx : ¬ x = 0) (he : errP p = x) (hE : Ext w w') : PbPost w p (.returned (.tuple #[.agg #[.int .i64 0, .string ⟨#[]⟩, .int .i64 0, .slice none 0 0, .int .i64 0, .string ⟨#[]⟩, .int .i64 0, .slice none 0 0], .int .i64 x])) w' := by
  refine ⟨0, 0, ⟨#[]⟩, none, 0, 0, 0, 0, ⟨#[]⟩, none, 0, 0, by rw [he], ?_, ?_, hE⟩ <;> (unfold bdP; rw [if_neg (by rw [he]; exact hx)]; exact zero_In _ w')

set_option maxHeartbeats 3200000 in
set_option maxRecDepth 100000 in
theorem pbind_any (p : ByteArray) (w : World) (hL : Laid w) (hM : MaxL w) (hs : p.size ≤ 8388608) (hi : hasEq p = true) :
    Calls Tryz.prog 42 #[.string p] w (PbPost w p) := by
  have hl := lftP_size p
  have hr := rgtP_size p
  have HL := Lib.hid hL
  have hMX : ∀ W, Ext w W → MaxL W := fun W x => by obtain ⟨m, hm⟩ := hM; exact ⟨m, keep_below x _ _ hm⟩
  have HC := Lib.hid (fun W (x : Ext w W) => cut_eq p W (by omega) (hMX W x) hi)
  have HP1 := Lib.hid (fun W (x : Ext w W) => parse_in (lftP p) W (Laid_ext hL x) (by omega))
  have HP2 := Lib.hid (fun W (x : Ext w W) => parse_in (rgtP p) W (Laid_ext hL x) (by omega))
  unfold ParseInP at HP1 HP2
  have HE : Hid (errP p = if (parseP (lftP p)).2 = 0 then (parseP (rgtP p)).2 else (parseP (lftP p)).2) := rfl
  have HD : Hid (bdP p = if errP p = 0 then ((parseP (lftP p)).1, (parseP (rgtP p)).1) else (zeroT, zeroT)) := rfl
  generalize parseP (lftP p) = R1 at HP1 HE HD
  generalize parseP (rgtP p) = R2 at HP2 HE HD
  obtain ⟨t1, x1⟩ := R1
  obtain ⟨t2, x2⟩ := R2
  simp only at HP1 HP2 HE HD
  have hX : ∀ W, Ext (w.alloc (.cells #[.int .i64 0, .string ⟨#[]⟩, .int .i64 0, .slice none 0 0, .int .i64 0, .string ⟨#[]⟩, .int .i64 0, .slice none 0 0] 45)) W → W.heap[w.heap.size]? = some (.cells #[.int .i64 0, .string ⟨#[]⟩, .int .i64 0, .slice none 0 0, .int .i64 0, .string ⟨#[]⟩, .int .i64 0, .slice none 0 0] 45 (0, 0)) ∧ Ext w W := fun W h => ⟨(h.block _ (by simp)).trans (heap_alloc_new _ _), Ext.trans ((Ext.refl w).alloc _) h⟩
  have HX := Lib.hid hX
  have tok1 : True := trivial
  clear hL hM hMX hs hi hl hr hX
  by_cases h1 : x1 = 0
  rotate_left
  · have q1 : (x1 != 0) = true := by rw [bne_iff_ne]; exact h1
    have HE2 : Hid (errP p = x1) := by show _ = _; rw [HE.out, if_neg h1]
    have H1 := Lib.hid h1
    clear h1
    go_enter Tryz.func42, Tryz.ntmps42
    go_wp2_with (first
      | (go_at_call 67; refine (HC.out _ (HX.out _ (Ext.refl _)).2).mono ?_; rintro e w1 ⟨he, hB⟩; subst he; have HB := Lib.hid hB; clear hB)
      | (go_at_call 68; refine (HP1.out _ (HX.out _ HB.out).2).mono ?_; rintro e w2 ⟨c0, c1, c2, c3, he, hI, hB⟩; subst he; obtain ⟨k, n, s, xa, l, cap, e0, e1, e2, e3⟩ := IsIn_form hI; subst e0 e1 e2 e3; have HB2 := Lib.hid (Ext.alloc (Ext.trans HB.out hB) (.cells #[.int .i64 k, .string n, .int .i64 s, .slice xa l cap] 41)); obtain ⟨⟨m0, m1, m2, m3⟩, m4, m5, m6, m7⟩ := box8_facts (HX.out _ HB2.out).1; have hfz := box8_all (HX.out _ HB2.out).1; have z0 := hfz 0; have z1 := hfz 1; have z2 := hfz 2; have z3 := hfz 3; have z4 := hfz 4; have z5 := hfz 5; have z6 := hfz 6; have z7 := hfz 7; clear hfz hB hI))
    exact bodyPost_ret (v := .tuple #[.agg #[.int .i64 0, .string ⟨#[]⟩, .int .i64 0, .slice none 0 0, .int .i64 0, .string ⟨#[]⟩, .int .i64 0, .slice none 0 0], .int .i64 x1]) (by simp [results, Tryz.results42, go_sem, m0, m1, m2, m3, m4, m5, m6, m7]) rfl (pb_err H1.out HE2.out (put8_below (g := w.heap.size) (o := 0) (HX.out _ HB2.out).2 (Nat.le_refl _)))
  subst h1
  by_cases h2 : x2 = 0
  rotate_left
  · have q1 : (x2 != 0) = true := by rw [bne_iff_ne]; exact h2
    have HE2 : Hid (errP p = x2) := by show _ = _; rw [HE.out, if_pos rfl]
    have H1 := Lib.hid h2
    clear h2
    go_enter Tryz.func42, Tryz.ntmps42
    go_wp2_with (first
      | (go_at_call 67; refine (HC.out _ (HX.out _ (Ext.refl _)).2).mono ?_; rintro e w1 ⟨he, hB⟩; subst he; have HB := Lib.hid hB; clear hB)
      | (go_at_call 68; have _t := tok1; refine (HP1.out _ (HX.out _ HB.out).2).mono ?_; rintro e w2 ⟨c0, c1, c2, c3, he, hI, hB⟩; subst he; obtain ⟨k, n, s, xa, l, cap, e0, e1, e2, e3⟩ := IsIn_form hI; subst e0 e1 e2 e3; have HB2 := Lib.hid (Ext.alloc (Ext.trans HB.out hB) (.cells #[.int .i64 k, .string n, .int .i64 s, .slice xa l cap] 41)); clear hB hI tok1)
      | (go_at_call 68; refine (HP2.out _ (HX.out _ HB2.out).2).mono ?_; rintro e w3 ⟨c0, c1, c2, c3, he, hI, hB⟩; subst he; obtain ⟨k', n', s', xa', l', cap', e0, e1, e2, e3⟩ := IsIn_form hI; subst e0 e1 e2 e3; have HB3 := Lib.hid (Ext.alloc (Ext.trans HB2.out hB) (.cells #[.int .i64 k', .string n', .int .i64 s', .slice xa' l' cap'] 41)); obtain ⟨⟨m0, m1, m2, m3⟩, m4, m5, m6, m7⟩ := box8_facts (HX.out _ HB3.out).1; have hfz := box8_all (HX.out _ HB3.out).1; have z0 := hfz 0; have z1 := hfz 1; have z2 := hfz 2; have z3 := hfz 3; have z4 := hfz 4; have z5 := hfz 5; have z6 := hfz 6; have z7 := hfz 7; clear hfz hB hI))
    exact bodyPost_ret (v := .tuple #[.agg #[.int .i64 0, .string ⟨#[]⟩, .int .i64 0, .slice none 0 0, .int .i64 0, .string ⟨#[]⟩, .int .i64 0, .slice none 0 0], .int .i64 x2]) (by simp [results, Tryz.results42, go_sem, m0, m1, m2, m3, m4, m5, m6, m7]) rfl (pb_err H1.out HE2.out (put8_below (g := w.heap.size) (o := 0) (HX.out _ HB3.out).2 (Nat.le_refl _)))
  subst h2
  have HE2 : Hid (errP p = 0) := by show _ = _; rw [HE.out, if_pos rfl]
  have HD2 : Hid (bdP p = (t1, t2)) := by show _ = _; rw [HD.out, if_pos HE2.out]
  go_enter Tryz.func42, Tryz.ntmps42
  go_wp2_with (first
    | (go_at_call 67; refine (HC.out _ (HX.out _ (Ext.refl _)).2).mono ?_; rintro e w1 ⟨he, hB⟩; subst he; have HB := Lib.hid hB; clear hB)
    | (go_at_call 68; have _t := tok1; refine (HP1.out _ (HX.out _ HB.out).2).mono ?_; rintro e w2 ⟨c0, c1, c2, c3, he, hI, hB⟩; subst he; obtain ⟨k, n, s, xa, l, cap, e0, e1, e2, e3⟩ := IsIn_form hI; subst e0 e1 e2 e3; have HB2 := Lib.hid (Ext.alloc (Ext.trans HB.out hB) (.cells #[.int .i64 k, .string n, .int .i64 s, .slice xa l cap] 41)); have HI1 := Lib.hid (IsIn_lt _ _ _ _ _ hI); have HS1 := Lib.hid (And.intro (show w.heap.size < w1.heap.size by have := HB.out.size; simp at this; omega) hB.size); clear hB hI tok1)
    | (go_at_call 68; refine (HP2.out _ (HX.out _ HB2.out).2).mono ?_; rintro e w3 ⟨c0, c1, c2, c3, he, hI, hB⟩; subst he; obtain ⟨k', n', s', xa', l', cap', e0, e1, e2, e3⟩ := IsIn_form hI; subst e0 e1 e2 e3; have hB4 := Ext.alloc hB (.cells #[.int .i64 k', .string n', .int .i64 s', .slice xa' l' cap'] 41); have HB4 := Lib.hid hB4; have HB3 := Lib.hid (Ext.trans HB2.out hB4); obtain ⟨⟨m0, m1, m2, m3⟩, m4, m5, m6, m7⟩ := box8_facts (HX.out _ HB3.out).1; have hfz := box8_all (HX.out _ HB3.out).1; have z0 := hfz 0; have z1 := hfz 1; have z2 := hfz 2; have z3 := hfz 3; have z4 := hfz 4; have z5 := hfz 5; have z6 := hfz 6; have z7 := hfz 7; obtain ⟨⟨y0, y1, y2, y3⟩, _⟩ := box_facts ((hB4.block w2.heap.size (by simp)).trans (heap_alloc_new w2 _)); have HI2 := Lib.hid (IsIn_lt _ _ _ _ _ hI); have HS2 := Lib.hid hB.size; clear hfz hB hI hB4))
  refine bodyPost_ret (v := .tuple #[.agg #[.int .i64 k, .string n, .int .i64 s, .slice xa l cap, .int .i64 k', .string n', .int .i64 s', .slice xa' l' cap'], .int .i64 0]) (by simp [results, Tryz.results42, go_sem, m0, m1, m2, m3, m4, m5, m6, m7]) rfl ?_
  have s1 := HS1.out
  have s2 := HS2.out
  have s4 := HB4.out.size
  simp only [World.size_alloc] at s2 s4
  refine ⟨k, s, n, xa, l, cap, k', s', n', xa', l', cap', by rw [HE2.out], ?_, ?_, put8_below (g := w.heap.size) (o := 0) (HX.out _ HB3.out).2 (Nat.le_refl _)⟩
  · rw [HD2.out]
    refine IsIn_carry (fun b hb => ?_) (fun b hb => ?_) _ _ _ _ _ HI1.out
    · refine Eq.trans (put8_other _ w.heap.size 0 b _ _ _ _ _ _ _ _ (by have := hb.1; omega)) ?_
      exact (HB4.out.block b (by have := hb.2; simp; omega)).trans (Below.heap_alloc _ _ _ hb.2)
    · show _ ∧ _ < (put8 _ _ _ _ _ _ _ _ _ _ _).heap.size
      rw [put8_size, World.size_alloc]
      have h1 := hb.1
      have h2 := hb.2
      omega
  · rw [HD2.out]
    refine IsIn_carry (fun b hb => ?_) (fun b hb => ?_) _ _ _ _ _ HI2.out
    · refine Eq.trans (put8_other _ w.heap.size 0 b _ _ _ _ _ _ _ _ (by have := hb.1; simp only [World.size_alloc] at this; omega)) ?_
      exact Below.heap_alloc _ _ _ hb.2
    · show _ ∧ _ < (put8 _ _ _ _ _ _ _ _ _ _ _).heap.size
      rw [put8_size, World.size_alloc]
      have h1 := hb.1
      have h2 := hb.2
      simp only [World.size_alloc] at h1
      omega
end Go.Proofs.YtkdnfioihhfmpaaGreatDoor

/-
  THE WALK OF subst.Parse.
-/
namespace Go.Proofs.YtkdnfioihhfmpaaGreatDoor
open Go.RowKit

/-- The first error of a piece. -/
def firstE : List ByteArray → Int
  | [] => 0
  | p :: ps => if errP p = 0 then firstE ps else errP p
def restP (ps : List ByteArray) : List Bd × Int := if ps.all hasEq = true then (if firstE ps = 0 then (if validB (ps.map bdP) = 0 then (ps.map bdP, 0) else ([], validB (ps.map bdP))) else ([], firstE ps)) else ([], 2)
def braceB (s : ByteArray) : Bool := decide (2 ≤ s.size) && (s.data.toList[0]? == some 123) && (s.data.toList[s.size - 1]? == some 125)
def sparseP (s : ByteArray) : List Bd × Int := if braceB s = true then restP (piecesP (s.extract 1 (s.size - 1))) else ([], 2)
theorem firstE_drop (ps : List ByteArray) (j : Nat) (h : j < ps.length) : firstE (ps.drop j) = if errP ps[j] = 0 then firstE (ps.drop (j + 1)) else errP ps[j] := by
  rw [List.drop_eq_getElem_cons h, firstE]
theorem vsz {t : Tm} (h : validE t = 0) : size t ≤ 400 := by
  have hn := validE_nodes h
  unfold validE at h
  rw [if_pos hn] at h
  by_cases e : 400 < size t ∨ 40 < depth t
  · rw [if_pos e] at h; exact absurd h (by decide)
  · omega
theorem bd_pair {R1 R2 : Tm × Int} (h1 : R1.2 = 0 → validE R1.1 = 0) (h2 : R2.2 = 0 → validE R2.1 = 0) : size (if (if R1.2 = 0 then R2.2 else R1.2) = 0 then (R1.1, R2.1) else (zeroT, zeroT)).1 ≤ 400 ∧ size (if (if R1.2 = 0 then R2.2 else R1.2) = 0 then (R1.1, R2.1) else (zeroT, zeroT)).2 ≤ 400 := by
  by_cases e1 : R1.2 = 0
  · rw [if_pos e1]
    by_cases e2 : R2.2 = 0
    · rw [if_pos e2]; exact ⟨vsz (h1 e1), vsz (h2 e2)⟩
    · rw [if_neg e2]; exact ⟨by decide, by decide⟩
  · rw [if_neg e1, if_neg e1]; exact ⟨by decide, by decide⟩
theorem bdP_sz {p : ByteArray} (h : p.size ≤ 2000) : size (bdP p).1 ≤ 400 ∧ size (bdP p).2 ≤ 400 :=
  bd_pair (R1 := parseP (lftP p)) (R2 := parseP (rgtP p)) (fun e => (parse_back _ (Nat.le_trans (lftP_size p) h) e).1) (fun e => (parse_back _ (Nat.le_trans (rgtP_size p) h) e).1)
/-- The bindings of the first pieces. -/
theorem bds_take (ps : List ByteArray) (j : Nat) (h : j < ps.length) : (ps.take (j + 1)).map bdP = (ps.take j).map bdP ++ [bdP ps[j]] := by
  rw [List.take_succ_eq_append_getElem h, List.map_append]; rfl
/-- At the head of the second loop. -/
structure SpR (w0 : World) (ps : List ByteArray) (j : Nat) (kv : Value) (wr : World) : Prop where
  bds : BdsIn w0.heap.size w0.heap.size wr ((ps.take j).map bdP) kv
  ext : Ext w0 wr
  ok : firstE ps = firstE (ps.drop j)
theorem SOut.at {w w' : World} {l : List ByteArray} {xa : Option Addr} {cap : Nat} (h : SOut w l (.slice xa l.length cap) w') (hl : 0 < l.length) : ∃ g, xa = some ⟨g, 0, none⟩ ∧ ∀ j (hj : j < l.length), w'.cell? ⟨g, j, none⟩ = some (.string l[j]) := by
  obtain ⟨g, cap', e⟩ := own_form_pos h.own hl
  simp only [Value.slice.injEq] at e
  obtain ⟨rfl, _, rfl⟩ := e
  refine ⟨g, rfl, fun j hj => ?_⟩
  have := h.own.cells (g := g) rfl j _ (strs_get l j hj)
  rw [add_plain, Nat.zero_add] at this
  exact this

set_option maxHeartbeats 3200000 in
set_option maxRecDepth 100000 in
theorem sparse_good (s : ByteArray) (m : Nat) (w : World) (hL : Laid w) (hM : MaxL w) (hm : s.size = m + 1) (hm1 : 1 ≤ m) (hs : m ≤ 8388000) (hbz : ∀ p ∈ piecesP (s.extract 1 m), size (bdP p).1 ≤ 1073741824 ∧ size (bdP p).2 ≤ 1073741824) (h0 : s[0]'(by omega) = 123) (h1 : s[m]'(by omega) = 125) :
    Calls Tryz.prog 18 #[.string s] w (RcPost w (restP (piecesP (s.extract 1 m)))) := by
  have e0 : (((s[0]'(by omega)).toNat : Int) != 123) = false := by rw [h0]; rfl
  have e1 : (((s[m]'(by omega)).toNat : Int) != 125) = false := by rw [h1]; rfl
  have e2 : decide ((m : Int) + 1 < 2) = false := by simp; omega
  have i1 : (1 : Int) ≤ (m : Int) := by omega
  have i2 : (m : Int) ≤ 8388000 := by omega
  obtain ⟨x, hx⟩ : ∃ x, s.extract 1 m = x := ⟨_, rfl⟩
  have hxs : x.size ≤ 8388000 := by rw [← hx, ByteArray.size_extract]; omega
  obtain ⟨hp1, hp2⟩ := pieces_small x
  have HPC := Lib.hid (fun W => spieces_any x W (by omega))
  rw [hx] at hbz ⊢
  generalize piecesP x = ps at HPC hp1 hp2 hbz ⊢
  have hpl : ps.length ≤ 8388001 := by omega
  have hps : ∀ p ∈ ps, p.size ≤ 8388000 := fun p hp => by have := hp2 p hp; omega
  have hMX : ∀ W, Ext w W → MaxL W := fun W x => by obtain ⟨m, hm⟩ := hM; exact ⟨m, keep_below x _ _ hm⟩
  have HCT := Lib.hid (fun p (hp : p ∈ ps) W (x : Ext w W) => contains_eq p W (by have := hps p hp; omega) (hMX W x))
  have HPB := Lib.hid (fun p (hp : p ∈ ps) (hq : hasEq p = true) W (x : Ext w W) => pbind_any p W (Laid_ext hL x) (hMX W x) (by have := hps p hp; omega) hq)
  have HVB := Lib.hid (fun xa cap W (h : ps.length ≤ cap) (hR : Row W (flatB (ps.map bdP)) xa) => (by have := bvalid_any (ps.map bdP) xa cap W (by rw [List.length_map]; exact h) (by rw [List.length_map]; unfold maxLen; omega) (fun b hb => by obtain ⟨p, hp, rfl⟩ := List.mem_map.1 hb; exact hbz p hp) hR; rw [List.length_map] at this; exact this : Calls Tryz.prog 26 #[.slice xa ps.length cap] W fun e w' => e = .returned (.int .i64 (validB (ps.map bdP))) ∧ Below W.heap.size W w'))
  have HD : Hid (restP ps = if ps.all hasEq = true then (if firstE ps = 0 then (if validB (ps.map bdP) = 0 then (ps.map bdP, 0) else ([], validB (ps.map bdP))) else ([], firstE ps)) else ([], 2)) := rfl
  generalize restP ps = R at HD ⊢
  clear hL hM h0 h1 hMX hxs hp1 hp2 hbz
  go_enter Tryz.func18, Tryz.ntmps18
  go_upto_region 4 with (go_at_call 40; refine (HPC.out _).mono ?_; rintro e w1 ⟨xa, cap, he, hS⟩; subst he; have HS := Lib.hid hS; clear hS)
  have HALL : Hid (∀ j : Nat, ps.length ≤ j → (ps.take j).all hasEq = true → ps.all hasEq = true) := fun j h e => by rwa [List.take_of_length_le h] at e
  have HN2 : Hid (∀ (j : Nat) (h : j < ps.length), hasEq ps[j] = false → ps.all hasEq = false) := fun j h e => by
    cases h2 : ps.all hasEq with
    | false => rfl
    | true => rw [List.all_eq_true] at h2; have := h2 _ (List.getElem_mem h); rw [e] at this; exact absurd this (by decide)
  go_wp2_with fail
  go_loopw [37] (fun i wr => ∃ j : Nat, j ≤ ps.length ∧ i = .int .i64 j ∧ wr = w1 ∧ Hid ((ps.take j).all hasEq = true)) (fun i _ => ps.length - (intOf i).toNat)
  case atStart => exact ⟨0, Nat.zero_le _, rfl, rfl, Lib.hid (by simp)⟩
  case round =>
    obtain ⟨j, hj, rfl, rfl, HA⟩ := hrel
    by_cases hlt : j < ps.length
    · obtain ⟨g, rfl, hc⟩ := HS.out.at (by omega)
      have gj := hc j hlt
      have HC1 := Lib.hid (HCT.out ps[j] (List.getElem_mem hlt) _ HS.out.ext)
      have i3 : (0 : Int) ≤ (j : Int) := by omega
      have i4 : (j : Int) < (ps.length : Int) := by omega
      have HA2 : Hid (hasEq ps[j] = true → (ps.take (j + 1)).all hasEq = true) := fun e => by rw [List.take_succ_eq_append_getElem hlt, List.all_append, HA.out]; simp [e]
      have HN3 := Lib.hid (HN2.out j hlt)
      clear hc
      generalize hasEq ps[j] = q at HC1 HA2 HN3
      cases q with
      | true =>
        go_wp2_with (go_at_call 41; refine (HC1.out).mono ?_; rintro e w' ⟨he, rfl⟩; subst he)
        go_roundw
        case rel => exact ⟨j + 1, by omega, by go_num, trivial, Lib.hid (HA2.out trivial)⟩
        case measure => simp [intOf]; omega
      | false =>
        have HR : Hid (R = ([], 2)) := by show _ = _; rw [HD.out, HN3.out rfl]; rfl
        go_wp2_with (go_at_call 41; refine (HC1.out).mono ?_; rintro e w' ⟨he, rfl⟩; subst he)
        go_ret2
        exact RcPost_err HR.out HS.out.ext
    have hall := HALL.out j (by omega) HA.out
    have HD2 : Hid (R = if firstE ps = 0 then (if validB (ps.map bdP) = 0 then (ps.map bdP, 0) else ([], validB (ps.map bdP))) else ([], firstE ps)) := by show _ = _; rw [HD.out, if_pos hall]
    have HQ : Hid (∀ (j : Nat) (h : j < ps.length), hasEq ps[j] = true) := fun j h => (List.all_eq_true.1 hall) _ (List.getElem_mem h)
    obtain ⟨i0, hi0, hz0, hz1, hz2⟩ := info_parts infoBd
    have HI0 := Lib.hid (And.intro hi0 (And.intro hz0 (And.intro hz1 hz2)))
    clear hi0 hz0 hz1 hz2 hall HA HALL HN2 HCT HD HPC
    obtain ⟨w1, hw1⟩ : ∃ v : World, v = wr := ⟨_, rfl⟩
    subst hw1
    go_wp2_with fail
    go_loopw [7, 47] (fun kv i wr => ∃ j : Nat, j ≤ ps.length ∧ i = .int .i64 j ∧ Hid (SpR w1 ps j kv wr)) (fun _ i _ => ps.length - (intOf i).toNat)
    case atStart => exact ⟨0, Nat.zero_le _, rfl, Lib.hid ⟨by simpa using BdsIn_nil _ _ _, Ext.refl _, rfl⟩⟩
    case round =>
      obtain ⟨j, hj, rfl, HR⟩ := hrel
      obtain ⟨xl, lcap, rfl⟩ := BdsIn_form HR.out.bds
      have hll : ((ps.take j).map bdP).length = j := by rw [List.length_map, List.length_take]; omega
      have hsz := HR.out.ext.size
      have HEW := Lib.hid (Ext.trans HS.out.ext HR.out.ext)
      by_cases hlt : j < ps.length
      rotate_left
      · have hjl : j = ps.length := by omega
        have hrow := BdsIn_row HR.out.bds
        have hok := HR.out.ok
        rw [hll] at hrow ⊢
        rw [hjl, List.take_length] at hrow
        rw [hjl, List.drop_length] at hok
        replace hok : firstE ps = 0 := hok
        rw [hjl]
        have HROW := Lib.hid hrow
        have HD3 : Hid (R = if validB (ps.map bdP) = 0 then (ps.map bdP, 0) else ([], validB (ps.map bdP))) := by show _ = _; rw [HD2.out, if_pos hok]
        have HV := Lib.hid (HVB.out xl lcap _ hrow.2 hrow.1)
        clear hrow hok hll
        generalize validB (ps.map bdP) = V at HD3 HV
        by_cases hV : V = 0
        · subst hV
          have HR2 : Hid (R = (ps.map bdP, 0)) := by show _ = _; rw [HD3.out, if_pos rfl]
          go_wp2_with (go_at_call 26; refine (HV.out).mono ?_; rintro e w5 ⟨he, hB⟩; subst he; have HB5 := Lib.hid hB; clear hB)
          go_ret2
          rw [HR2.out]
          exact ⟨xl, lcap, by rw [List.length_map]; rfl, by rw [List.length_map]; exact HROW.out.2, Row_below HROW.out.1 HB5.out, Ext.trans HEW.out HB5.out⟩
        · have HR2 : Hid (R = ([], V)) := by show _ = _; rw [HD3.out, if_neg hV]
          have q1 : (V != 0) = true := by rw [bne_iff_ne]; exact hV
          clear hV
          go_wp2_with (go_at_call 26; refine (HV.out).mono ?_; rintro e w5 ⟨he, hB⟩; subst he; have HB5 := Lib.hid hB; clear hB)
          go_ret2
          exact RcPost_err HR2.out (Ext.trans HEW.out HB5.out)
      obtain ⟨g, rfl, hc⟩ := HS.out.at (by omega)
      have gj := keep_below HR.out.ext _ _ (hc j hlt)
      have HP := Lib.hid (HPB.out ps[j] (List.getElem_mem hlt) (HQ.out j hlt) _ HEW.out)
      have hfd : firstE ps = if errP ps[j] = 0 then firstE (ps.drop (j + 1)) else errP ps[j] := HR.out.ok.trans (firstE_drop ps j hlt)
      have HFD := Lib.hid hfd
      have HBT : Hid ((ps.take (j + 1)).map bdP = (ps.take j).map bdP ++ [bdP ps[j]]) := bds_take ps j hlt
      unfold PbPost at HP
      obtain ⟨F, cs, hown, hK, hF⟩ := HR.out.bds
      rw [hll] at hown hF ⊢
      have i3 : (0 : Int) ≤ (j : Int) := by omega
      have i4 : (j : Int) < (ps.length : Int) := by omega
      generalize errP ps[j] = x at HP HFD
      generalize bdP ps[j] = bb at HP HBT
      obtain ⟨bv, bt⟩ := bb
      simp only at HP HBT
      have HOW := Lib.hid (And.intro hown (And.intro hK hF))
      have HLL := Lib.hid hll
      clear hown hK hF hll hc hfd
      go_upto_region 15 with (go_at_call 42; refine (HP.out).mono ?_; rintro e w5 ⟨k, n, sx, xx, lx, cx, k2, n2, sx2, xx2, lx2, cx2, he, hI, hJ, hB⟩; subst he; have HI := Lib.hid hI; have HJ := Lib.hid hJ; have HB5 := Lib.hid hB; clear hI hJ hB gj)
      have hb6 := heap_alloc_new w5 (.cells #[.int .i64 k, .string sx, .int .i64 n, .slice xx lx cx, .int .i64 k2, .string sx2, .int .i64 n2, .slice xx2 lx2 cx2] 45)
      have hE6 := Ext.alloc HB5.out (.cells #[.int .i64 k, .string sx, .int .i64 n, .slice xx lx cx, .int .i64 k2, .string sx2, .int .i64 n2, .slice xx2 lx2 cx2] 45)
      have hs6 : (w5.alloc (.cells #[.int .i64 k, .string sx, .int .i64 n, .slice xx lx cx, .int .i64 k2, .string sx2, .int .i64 n2, .slice xx2 lx2 cx2] 45)).heap.size = w5.heap.size + 1 := World.size_alloc _ _
      have hkp : ∀ b, b < w5.heap.size → (w5.alloc (.cells #[.int .i64 k, .string sx, .int .i64 n, .slice xx lx cx, .int .i64 k2, .string sx2, .int .i64 n2, .slice xx2 lx2 cx2] 45)).heap[b]? = w5.heap[b]? := fun b hb => Below.heap_alloc _ _ _ hb
      generalize (w5.alloc (.cells #[.int .i64 k, .string sx, .int .i64 n, .slice xx lx cx, .int .i64 k2, .string sx2, .int .i64 n2, .slice xx2 lx2 cx2] 45)) = w6 at hb6 hE6 hs6 hkp ⊢
      generalize w5.heap.size = g6 at hb6 hs6 hkp HI HJ ⊢
      obtain ⟨⟨y0, y1, y2, y3⟩, y4, y5, y6, y7⟩ := box8_facts hb6
      have HE6 := Lib.hid hE6
      clear hb6 hE6
      by_cases hx : x = 0
      rotate_left
      · have q1 : (x != 0) = true := by rw [bne_iff_ne]; exact hx
        have HR2 : Hid (R = ([], x)) := by
          show _ = _
          have e := HFD.out
          rw [if_neg hx] at e
          rw [HD2.out, e, if_neg hx]
        clear hx hkp hs6
        go_wp2_with fail
        go_ret2
        exact RcPost_err HR2.out (Ext.trans HEW.out HE6.out)
      subst hx
      have HFD2 : Hid (firstE ps = firstE (ps.drop (j + 1))) := by show _ = _; have e := HFD.out; rw [if_pos rfl] at e; exact e
      have hI6 : IsIn (fun b => b < w1.heap.size ∨ (wr.heap.size ≤ b ∧ b < w6.heap.size)) w6 bv (.int .i64 k) (.string sx) (.int .i64 n) (.slice xx lx cx) := IsIn_carry (fun b hb => hkp b hb.2) (fun b hb => by have := hb.1; have := hb.2; omega) _ _ _ _ _ HI.out
      have hJ6 : IsIn (fun b => b < w1.heap.size ∨ (wr.heap.size ≤ b ∧ b < w6.heap.size)) w6 bt (.int .i64 k2) (.string sx2) (.int .i64 n2) (.slice xx2 lx2 cx2) := IsIn_carry (fun b hb => hkp b hb.2) (fun b hb => by have := hb.1; have := hb.2; omega) _ _ _ _ _ HJ.out
      have HPU : Hid (∀ g cap w8 ob, w8.ownsRow w1.heap.size 45 8 (.slice (some ⟨g, 0, none⟩) (j + 1) cap) (j + 1) (cs ++ [.int .i64 k, .string sx, .int .i64 n, .slice xx lx cx, .int .i64 k2, .string sx2, .int .i64 n2, .slice xx2 lx2 cx2]) → (w6.alloc ob).grownBy w8 (Value.slice xl j lcap).ownBlock → ((Value.slice xl j lcap).ownBlock = some g ∨ g = w6.heap.size + 1) → SpR w1 ps (j + 1) (.slice (some ⟨g, 0, none⟩) (j + 1) cap) w8) := by
        show ∀ _, _
        intro g cap w8 ob ho8 hg hat
        have r := BdsIn_push HLL.out.symm HOW.out.1 HOW.out.2.1 HOW.out.2.2 (Nat.le_refl _) hsz HE6.out hI6 hJ6 ho8 hg hat
        exact ⟨by rw [HBT.out]; exact r.1, Below.trans (show Below w1.heap.size w1 wr from HR.out.ext) r.2.2, HFD2.out⟩
      have HO6 : Hid (w6.ownsRow w1.heap.size 45 8 (.slice xl j lcap) j cs) := own_heap HOW.out.1 (fun q hq => HE6.out.block q (HOW.out.1.lt q hq).2)
      have hw6 : w1.heap.size ≤ w6.heap.size := Nat.le_trans hsz HE6.out.size
      have hcl : cs.length = j * 8 := HOW.out.1.1
      clear hI6 hJ6 hkp hs6
      go_wp2_with (at_builtin; refine wpList_append_lies _ rfl _ _ _ rfl w1.heap.size 45 i0 _ 8 112 Tryz.underlying22 HI0.out.1 HI0.out.2.1 HI0.out.2.2.1 HI0.out.2.2.2 rfl (by omega) (.slice xl j lcap) j cs rfl (HO6.out.alloc _) ⟨w6.heap.size, 0, none⟩ 1 1 [.int .i64 k, .string sx, .int .i64 n, .slice xx lx cx, .int .i64 k2, .string sx2, .int .i64 n2, .slice xx2 lx2 cx2] rfl rfl (World.news_of_block (cs := #[.int .i64 k, .string sx, .int .i64 n, .slice xx lx cx, .int .i64 k2, .string sx2, .int .i64 n2, .slice xx2 lx2 cx2]) (t := 45) (fr := (0, 0)) (heap_alloc_new w6 _)) (by simp [Value.oneCell']) (by omega) (by unfold maxLen; omega) (by omega) (by simp; omega) (w6.heap.size + 1) (by simp) ?_; intro gg cap8 w8 hown8 hgrow hat hltt; have HN := Lib.hid (HPU.out _ _ _ _ hown8 hgrow hat); clear hown8 hgrow hat hltt)
      go_roundw
      case rel => exact ⟨j + 1, by omega, by go_num, HN⟩
      case measure => simp [intOf]; omega

def badE (w : World) (e : Ending) (w' : World) : Prop := RcPost w ([], 2) e w'
theorem badE_mk {w w' : World} (h : Ext w w') : badE w (.returned (.tuple #[.slice none 0 0, .int .i64 2])) w' := RcPost_err rfl h
set_option maxHeartbeats 800000 in
theorem sbad_0 (s : ByteArray) (w : World) (h2 : s.size < 2) : Calls Tryz.prog 18 #[.string s] w (badE w) := by
  have e2 : decide ((s.size : Int) < 2) = true := by simp; omega
  clear h2
  go_enter Tryz.func18, Tryz.ntmps18
  go_wp2_with fail
  go_ret2
  exact badE_mk (Ext.refl w)
set_option maxHeartbeats 800000 in
theorem sbad_1 (s : ByteArray) (m : Nat) (w : World) (hm : s.size = m + 1) (hm1 : 1 ≤ m) (hs : m ≤ 2000) (h0 : ¬ s[0]'(by omega) = 123) : Calls Tryz.prog 18 #[.string s] w (badE w) := by
  have e0 : (((s[0]'(by omega)).toNat : Int) != 123) = true := by
    rw [bne_iff_ne]
    intro h2
    exact h0 (UInt8.toNat_inj.1 (show _ = (123 : UInt8).toNat by show _ = 123; omega))
  have e2 : decide ((m : Int) + 1 < 2) = false := by simp; omega
  have i1 : (1 : Int) ≤ (m : Int) := by omega
  have i2 : (m : Int) ≤ 2000 := by omega
  clear h0
  go_enter Tryz.func18, Tryz.ntmps18
  go_wp2_with fail
  go_ret2
  exact badE_mk (Ext.refl w)
set_option maxHeartbeats 800000 in
theorem sbad_2 (s : ByteArray) (m : Nat) (w : World) (hm : s.size = m + 1) (hm1 : 1 ≤ m) (hs : m ≤ 2000) (h0 : s[0]'(by omega) = 123) (h1 : ¬ s[m]'(by omega) = 125) : Calls Tryz.prog 18 #[.string s] w (badE w) := by
  have e0 : (((s[0]'(by omega)).toNat : Int) != 123) = false := by rw [h0]; rfl
  have e1 : (((s[m]'(by omega)).toNat : Int) != 125) = true := by
    rw [bne_iff_ne]
    intro h2
    exact h1 (UInt8.toNat_inj.1 (show _ = (125 : UInt8).toNat by show _ = 125; omega))
  have e2 : decide ((m : Int) + 1 < 2) = false := by simp; omega
  have i1 : (1 : Int) ≤ (m : Int) := by omega
  have i2 : (m : Int) ≤ 2000 := by omega
  clear h0 h1
  go_enter Tryz.func18, Tryz.ntmps18
  go_wp2_with fail
  go_ret2
  exact badE_mk (Ext.refl w)
set_option maxHeartbeats 800000 in
theorem rbad_0 (s : ByteArray) (w : World) (h2 : s.size < 2) : Calls Tryz.prog 19 #[.string s] w (badE w) := by
  have e2 : decide ((s.size : Int) < 2) = true := by simp; omega
  clear h2
  go_enter Tryz.func19, Tryz.ntmps19
  go_wp2_with fail
  go_ret2
  exact badE_mk (Ext.refl w)
set_option maxHeartbeats 800000 in
theorem rbad_1 (s : ByteArray) (m : Nat) (w : World) (hm : s.size = m + 1) (hm1 : 1 ≤ m) (hs : m ≤ 2000) (h0 : ¬ s[0]'(by omega) = 123) : Calls Tryz.prog 19 #[.string s] w (badE w) := by
  have e0 : (((s[0]'(by omega)).toNat : Int) != 123) = true := by
    rw [bne_iff_ne]
    intro h2
    exact h0 (UInt8.toNat_inj.1 (show _ = (123 : UInt8).toNat by show _ = 123; omega))
  have e2 : decide ((m : Int) + 1 < 2) = false := by simp; omega
  have i1 : (1 : Int) ≤ (m : Int) := by omega
  have i2 : (m : Int) ≤ 2000 := by omega
  clear h0
  go_enter Tryz.func19, Tryz.ntmps19
  go_wp2_with fail
  go_ret2
  exact badE_mk (Ext.refl w)
set_option maxHeartbeats 800000 in
theorem rbad_2 (s : ByteArray) (m : Nat) (w : World) (hm : s.size = m + 1) (hm1 : 1 ≤ m) (hs : m ≤ 2000) (h0 : s[0]'(by omega) = 123) (h1 : ¬ s[m]'(by omega) = 125) : Calls Tryz.prog 19 #[.string s] w (badE w) := by
  have e0 : (((s[0]'(by omega)).toNat : Int) != 123) = false := by rw [h0]; rfl
  have e1 : (((s[m]'(by omega)).toNat : Int) != 125) = true := by
    rw [bne_iff_ne]
    intro h2
    exact h1 (UInt8.toNat_inj.1 (show _ = (125 : UInt8).toNat by show _ = 125; omega))
  have e2 : decide ((m : Int) + 1 < 2) = false := by simp; omega
  have i1 : (1 : Int) ≤ (m : Int) := by omega
  have i2 : (m : Int) ≤ 2000 := by omega
  clear h0 h1
  go_enter Tryz.func19, Tryz.ntmps19
  go_wp2_with fail
  go_ret2
  exact badE_mk (Ext.refl w)

theorem brace_eq {s : ByteArray} {m : Nat} (hm : s.size = m + 1) (hm1 : 1 ≤ m) : braceB s = (decide (s[0]'(by omega) = 123) && decide (s[m]'(by omega) = 125)) := by
  unfold braceB
  rw [data_at s 0 (by omega), show s.size - 1 = m by omega, data_at s m (by omega), decide_eq_true (by omega : 2 ≤ s.size)]
  rw [Bool.eq_iff_iff]
  simp
theorem sparseP_short {s : ByteArray} (h : s.size < 2) : sparseP s = ([], 2) := by
  unfold sparseP
  rw [if_neg]
  unfold braceB
  rw [decide_eq_false (by omega : ¬ 2 ≤ s.size)]
  simp
theorem sparseP_0 {s : ByteArray} {m : Nat} (hm : s.size = m + 1) (hm1 : 1 ≤ m) (h : ¬ s[0]'(by omega) = 123) : sparseP s = ([], 2) := by
  unfold sparseP
  rw [brace_eq hm hm1, if_neg (by rw [decide_eq_false h]; simp)]
theorem sparseP_1 {s : ByteArray} {m : Nat} (hm : s.size = m + 1) (hm1 : 1 ≤ m) (h : ¬ s[m]'(by omega) = 125) : sparseP s = ([], 2) := by
  unfold sparseP
  rw [brace_eq hm hm1, if_neg (by rw [decide_eq_false h]; simp)]
theorem sparseP_2 {s : ByteArray} {m : Nat} (hm : s.size = m + 1) (hm1 : 1 ≤ m) (h0 : s[0]'(by omega) = 123) (h1 : s[m]'(by omega) = 125) : sparseP s = restP (piecesP (s.extract 1 m)) := by
  unfold sparseP
  rw [brace_eq hm hm1, if_pos (by rw [decide_eq_true h0, decide_eq_true h1]; rfl), show s.size - 1 = m by omega]
theorem sparse_any (s : ByteArray) (w : World) (hL : Laid w) (hM : MaxL w) (hs : s.size ≤ 2001) : Calls Tryz.prog 18 #[.string s] w (RcPost w (sparseP s)) := by
  by_cases h2 : s.size < 2
  · rw [sparseP_short h2]; exact sbad_0 s w h2
  obtain ⟨m, hm⟩ : ∃ m, s.size = m + 1 := ⟨s.size - 1, by omega⟩
  by_cases h0 : s[0]'(by omega) = 123
  rotate_left
  · rw [sparseP_0 hm (by omega) h0]; exact sbad_1 s m w hm (by omega) (by omega) h0
  by_cases h1 : s[m]'(by omega) = 125
  rotate_left
  · rw [sparseP_1 hm (by omega) h1]; exact sbad_2 s m w hm (by omega) (by omega) h0 h1
  rw [sparseP_2 hm (by omega) h0 h1]
  refine sparse_good s m w hL hM hm (by omega) (by omega) (fun p hp => ?_) h0 h1
  have q1 := (pieces_small _).2 p hp
  have q2 : (s.extract 1 m).size ≤ 2000 := by rw [ByteArray.size_extract]; omega
  have := bdP_sz (p := p) (by omega)
  omega
end Go.Proofs.YtkdnfioihhfmpaaGreatDoor

/-
  THE WALK OF the reference's Parse of a substitution.
-/
namespace Go.Proofs.YtkdnfioihhfmpaaGreatDoor
open Go.RowKit

theorem restP_nil : restP [] = ([], 0) := by
  unfold restP
  rw [if_pos (by rfl), if_pos (by rfl)]
  rfl
theorem sides_hit {p : ByteArray} (h : hasEq p = true) : sidesV p = .tuple #[.string (lftP p), .string (rgtP p), .bool true] := by
  unfold sidesV; rw [if_pos (of_decide_eq_true h)]
theorem sides_miss {p : ByteArray} (h : hasEq p = false) : sidesV p = .tuple #[.string ⟨#[]⟩, .string ⟨#[]⟩, .bool false] := by
  unfold sidesV; rw [if_neg (of_decide_eq_false h)]
/-- What a binding's text is, by its sides' readings. -/
theorem errP_eq (p : ByteArray) : errP p = if (parseP (lftP p)).2 = 0 then (parseP (rgtP p)).2 else (parseP (lftP p)).2 := rfl
theorem bdP_eq (p : ByteArray) : bdP p = if errP p = 0 then ((parseP (lftP p)).1, (parseP (rgtP p)).1) else (zeroT, zeroT) := rfl

set_option maxHeartbeats 800000 in
set_option maxRecDepth 100000 in
theorem rsparse_empty (s : ByteArray) (w : World) (hm : s.size = 1 + 1) (h0 : s[0]'(by omega) = 123) (h1 : s[1]'(by omega) = 125) :
    Calls Tryz.prog 19 #[.string s] w (RcPost w (restP (piecesP (s.extract 1 1)))) := by
  have HR : Hid (restP (piecesP (s.extract 1 1)) = ([], 0)) := by
    show _ = _
    have : piecesP (s.extract 1 1) = [] := by unfold piecesP; rw [if_pos (by rw [ByteArray.size_extract]; omega)]
    rw [this]; exact restP_nil
  have es : (s.toList == [123, 125]) = true := by
    have hl : s.data.toList.length = 2 := by have := Lib.size_eq s; omega
    have g0 := data_at s 0 (by omega)
    have g1 := data_at s 1 (by omega)
    rw [h0] at g0
    rw [h1] at g1
    rw [Lib.toList_data, beq_iff_eq]
    generalize s.data.toList = l at hl g0 g1
    match l, hl, g0, g1 with
    | [a, b], _, g0, g1 => simp at g0 g1; rw [g0, g1]
    | [], hl, _, _ => simp at hl
    | [a], hl, _, _ => simp at hl
    | a :: b :: c :: l, hl, _, _ => simp at hl
  have e0 : (((s[0]'(by omega)).toNat : Int) != 123) = false := by rw [h0]; rfl
  have e1 : (((s[1]'(by omega)).toNat : Int) != 125) = false := by rw [h1]; rfl
  clear h0 h1
  go_enter Tryz.func19, Tryz.ntmps19
  go_wp2_with fail
  go_ret2
  rw [HR.out]
  exact RcPost_err rfl (Ext.refl w)

set_option maxHeartbeats 3200000 in
set_option maxRecDepth 100000 in
theorem rsparse_good (s : ByteArray) (m : Nat) (w : World) (hm : s.size = m + 1) (hm1 : 2 ≤ m) (hs : m ≤ 2000) (h0 : s[0]'(by omega) = 123) (h1 : s[m]'(by omega) = 125) :
    Calls Tryz.prog 19 #[.string s] w (RcPost w (restP (piecesP (s.extract 1 m)))) := by
  have e0 : (((s[0]'(by omega)).toNat : Int) != 123) = false := by rw [h0]; rfl
  have e1 : (((s[m]'(by omega)).toNat : Int) != 125) = false := by rw [h1]; rfl
  have e2 : decide ((m : Int) + 1 < 2) = false := by simp; omega
  have es : (s.toList == [123, 125]) = false := by
    have hl := Lib.size_eq s
    cases h : (s.toList == [123, 125]) with
    | false => rfl
    | true =>
      rw [Lib.toList_data, beq_iff_eq] at h
      rw [h] at hl; simp at hl; omega
  have i1 : (1 : Int) ≤ (m : Int) := by omega
  have i2 : (m : Int) ≤ 2000 := by omega
  obtain ⟨x, hx⟩ : ∃ x, s.extract 1 m = x := ⟨_, rfl⟩
  have hxs : x.size ≤ 2000 ∧ 0 < x.size := by rw [← hx, ByteArray.size_extract]; omega
  obtain ⟨hp1, hp2⟩ := pieces_small x
  have HPC := Lib.hid (fun W => rpieces_any x W (by omega) hxs.2)
  rw [hx]
  generalize piecesP x = ps at HPC hp1 hp2 ⊢
  have hpl : ps.length ≤ 2001 := by omega
  have hps : ∀ p ∈ ps, p.size ≤ 2000 := fun p hp => by have := hp2 p hp; omega
  have HSD := Lib.hid (fun p (hp : p ∈ ps) W => rsides_any p W (by have := hps p hp; omega))
  have HP1 := Lib.hid (fun p (hp : p ∈ ps) W => (by have h := rparse_in (lftP p) W (by have := hps p hp; have := lftP_size p; omega); rw [← parse_ref _ (by have := hps p hp; have := lftP_size p; omega)] at h; exact h : Calls Tryz.prog 45 #[.string (lftP p)] W (ParseInP (parseP (lftP p)) W)))
  have HP2 := Lib.hid (fun p (hp : p ∈ ps) W => (by have h := rparse_in (rgtP p) W (by have := hps p hp; have := rgtP_size p; omega); rw [← parse_ref _ (by have := hps p hp; have := rgtP_size p; omega)] at h; exact h : Calls Tryz.prog 45 #[.string (rgtP p)] W (ParseInP (parseP (rgtP p)) W)))
  have HVB := Lib.hid (fun xa cap W (h : ps.length ≤ cap) (hR : Row W (flatB (ps.map bdP)) xa) => (by have := rbvalid_any (ps.map bdP) xa cap W (by rw [List.length_map]; exact h) (by rw [List.length_map]; unfold maxLen; omega) (fun b hb => by obtain ⟨p, hp, rfl⟩ := List.mem_map.1 hb; have := bdP_sz (hps p hp); omega) hR; rw [List.length_map] at this; exact this : Calls Tryz.prog 38 #[.slice xa ps.length cap] W fun e w' => e = .returned (.int .i64 (validB (ps.map bdP))) ∧ Below W.heap.size W w'))
  have HD : Hid (restP ps = if ps.all hasEq = true then (if firstE ps = 0 then (if validB (ps.map bdP) = 0 then (ps.map bdP, 0) else ([], validB (ps.map bdP))) else ([], firstE ps)) else ([], 2)) := rfl
  generalize restP ps = R at HD ⊢
  clear h0 h1 hxs hp1 hp2
  go_enter Tryz.func19, Tryz.ntmps19
  go_upto_region 6 with (go_at_call 43; refine (HPC.out _).mono ?_; rintro e w1 ⟨xa, cap, he, hS⟩; subst he; have HS := Lib.hid hS; clear hS)
  have HALL : Hid (∀ j : Nat, ps.length ≤ j → (ps.take j).all hasEq = true → ps.all hasEq = true) := fun j h e => by rwa [List.take_of_length_le h] at e
  have HN2 : Hid (∀ (j : Nat) (h : j < ps.length), hasEq ps[j] = false → ps.all hasEq = false) := fun j h e => by
    cases h2 : ps.all hasEq with
    | false => rfl
    | true => rw [List.all_eq_true] at h2; have := h2 _ (List.getElem_mem h); rw [e] at this; exact absurd this (by decide)
  go_wp2_with fail
  go_loopw [5] (fun i wr => ∃ j : Nat, j ≤ ps.length ∧ i = .int .i64 j ∧ Ext w1 wr ∧ Hid ((ps.take j).all hasEq = true)) (fun i _ => ps.length - (intOf i).toNat)
  case atStart => exact ⟨0, Nat.zero_le _, rfl, Ext.refl _, Lib.hid (by simp)⟩
  case round =>
    obtain ⟨j, hj, rfl, hE, HA⟩ := hrel
    have HE := Lib.hid hE
    clear hE
    by_cases hlt : j < ps.length
    · obtain ⟨g, rfl, hc⟩ := HS.out.at (by omega)
      have gj := keep_below HE.out _ _ (hc j hlt)
      have HC1 := Lib.hid (HSD.out ps[j] (List.getElem_mem hlt))
      have i3 : (0 : Int) ≤ (j : Int) := by omega
      have i4 : (j : Int) < (ps.length : Int) := by omega
      have HA2 : Hid (hasEq ps[j] = true → (ps.take (j + 1)).all hasEq = true) := fun e => by rw [List.take_succ_eq_append_getElem hlt, List.all_append, HA.out]; simp [e]
      have HN3 := Lib.hid (HN2.out j hlt)
      have HH := Lib.hid (fun (e : hasEq ps[j] = true) => sides_hit e)
      have HM := Lib.hid (fun (e : hasEq ps[j] = false) => sides_miss e)
      clear hc
      generalize hasEq ps[j] = q at HC1 HA2 HN3 HH HM
      generalize lftP ps[j] = lf at HH
      generalize rgtP ps[j] = rg at HH
      generalize sidesV ps[j] = sv at HC1 HH HM
      cases q with
      | true =>
        have hsv := HH.out rfl
        subst hsv
        go_wp2_with (go_at_call 44; refine (HC1.out _).mono ?_; rintro e w2 ⟨he, hB⟩; subst he; have HB := Lib.hid hB; clear hB)
        go_roundw
        case rel => exact ⟨j + 1, by omega, by go_num, Ext.trans HE.out HB.out, Lib.hid (HA2.out trivial)⟩
        case measure => simp [intOf]; omega
      | false =>
        have hsv := HM.out rfl
        subst hsv
        have HR : Hid (R = ([], 2)) := by show _ = _; rw [HD.out, HN3.out rfl]; rfl
        go_wp2_with (go_at_call 44; refine (HC1.out _).mono ?_; rintro e w2 ⟨he, hB⟩; subst he; have HB := Lib.hid hB; clear hB)
        go_ret2
        exact RcPost_err HR.out (Ext.trans HS.out.ext (Ext.trans HE.out HB.out))
    have hall := HALL.out j (by omega) HA.out
    have HD2 : Hid (R = if firstE ps = 0 then (if validB (ps.map bdP) = 0 then (ps.map bdP, 0) else ([], validB (ps.map bdP))) else ([], firstE ps)) := by show _ = _; rw [HD.out, if_pos hall]
    have HQ : Hid (∀ (j : Nat) (h : j < ps.length), hasEq ps[j] = true) := fun j h => (List.all_eq_true.1 hall) _ (List.getElem_mem h)
    obtain ⟨i0, hi0, hz0, hz1, hz2⟩ := info_parts infoBd
    have HI0 := Lib.hid (And.intro hi0 (And.intro hz0 (And.intro hz1 hz2)))
    clear hi0 hz0 hz1 hz2 hall HA HALL HN2 HD HPC
    obtain ⟨w2, hw2⟩ : ∃ v : World, v = wr := ⟨_, rfl⟩
    subst hw2
    go_wp2_with fail
    go_loopw [9, 10] (fun kv i wr => ∃ j : Nat, j ≤ ps.length ∧ i = .int .i64 j ∧ Hid (SpR w2 ps j kv wr)) (fun _ i _ => ps.length - (intOf i).toNat)
    case atStart => exact ⟨0, Nat.zero_le _, rfl, Lib.hid ⟨by simpa using BdsIn_nil _ _ _, Ext.refl _, rfl⟩⟩
    case round =>
      obtain ⟨j, hj, rfl, HR⟩ := hrel
      obtain ⟨xl, lcap, rfl⟩ := BdsIn_form HR.out.bds
      have hll : ((ps.take j).map bdP).length = j := by rw [List.length_map, List.length_take]; omega
      have hsz := HR.out.ext.size
      have HEW := Lib.hid (Ext.trans HS.out.ext (Ext.trans HE.out HR.out.ext))
      by_cases hlt : j < ps.length
      rotate_left
      · have hjl : j = ps.length := by omega
        have hrow := BdsIn_row HR.out.bds
        have hok := HR.out.ok
        rw [hll] at hrow ⊢
        rw [hjl, List.take_length] at hrow
        rw [hjl, List.drop_length] at hok
        replace hok : firstE ps = 0 := hok
        rw [hjl]
        have HROW := Lib.hid hrow
        have HD3 : Hid (R = if validB (ps.map bdP) = 0 then (ps.map bdP, 0) else ([], validB (ps.map bdP))) := by show _ = _; rw [HD2.out, if_pos hok]
        have HV := Lib.hid (HVB.out xl lcap _ hrow.2 hrow.1)
        clear hrow hok hll
        generalize validB (ps.map bdP) = V at HD3 HV
        by_cases hV : V = 0
        · subst hV
          have HR2 : Hid (R = (ps.map bdP, 0)) := by show _ = _; rw [HD3.out, if_pos rfl]
          go_wp2_with (go_at_call 38; refine (HV.out).mono ?_; rintro e w5 ⟨he, hB⟩; subst he; have HB5 := Lib.hid hB; clear hB)
          go_ret2
          rw [HR2.out]
          exact ⟨xl, lcap, by rw [List.length_map]; rfl, by rw [List.length_map]; exact HROW.out.2, Row_below HROW.out.1 HB5.out, Ext.trans HEW.out HB5.out⟩
        · have HR2 : Hid (R = ([], V)) := by show _ = _; rw [HD3.out, if_neg hV]
          have q1 : (V != 0) = true := by rw [bne_iff_ne]; exact hV
          clear hV
          go_wp2_with (go_at_call 38; refine (HV.out).mono ?_; rintro e w5 ⟨he, hB⟩; subst he; have HB5 := Lib.hid hB; clear hB)
          go_ret2
          exact RcPost_err HR2.out (Ext.trans HEW.out HB5.out)
      obtain ⟨g, rfl, hc⟩ := HS.out.at (by omega)
      have gj := keep_below (Ext.trans HE.out HR.out.ext) _ _ (hc j hlt)
      have HC1 := Lib.hid (HSD.out ps[j] (List.getElem_mem hlt))
      have HPA := Lib.hid (HP1.out ps[j] (List.getElem_mem hlt))
      have HPB := Lib.hid (HP2.out ps[j] (List.getElem_mem hlt))
      have hsv := sides_hit (HQ.out j hlt)
      have hfd : firstE ps = if errP ps[j] = 0 then firstE (ps.drop (j + 1)) else errP ps[j] := HR.out.ok.trans (firstE_drop ps j hlt)
      have HFD := Lib.hid hfd
      have HBT : Hid ((ps.take (j + 1)).map bdP = (ps.take j).map bdP ++ [bdP ps[j]]) := bds_take ps j hlt
      have hee := errP_eq ps[j]
      have hbe := bdP_eq ps[j]
      unfold ParseInP at HPA HPB
      obtain ⟨F, cs, hown, hK, hF⟩ := HR.out.bds
      rw [hll] at hown hF ⊢
      have i3 : (0 : Int) ≤ (j : Int) := by omega
      have i4 : (j : Int) < (ps.length : Int) := by omega
      generalize errP ps[j] = x at HFD hee hbe
      generalize bdP ps[j] = bb at HBT hbe
      generalize sidesV ps[j] = sv at HC1 hsv
      subst hsv
      generalize parseP (lftP ps[j]) = Ra at HPA hee hbe
      generalize parseP (rgtP ps[j]) = Rb at HPB hee hbe
      generalize lftP ps[j] = lf at HC1 HPA
      generalize rgtP ps[j] = rg at HC1 HPB
      obtain ⟨ta, xA⟩ := Ra
      obtain ⟨tb, xB⟩ := Rb
      simp only at HPA HPB hee hbe
      have HEE := Lib.hid (And.intro hee hbe)
      have HOW := Lib.hid (And.intro hown (And.intro hK hF))
      have HLL := Lib.hid hll
      have HEQ := Lib.hid HR
      clear hown hK hF hll hc hfd hee hbe
      go_upto_region 18 with (first
        | (go_at_call 44; refine (HC1.out _).mono ?_; rintro e w4 ⟨he, hB⟩; subst he; have HB4 := Lib.hid hB; clear hB)
        | (go_at_call 45; refine (HPA.out _).mono ?_; rintro e w5 ⟨d0, d1, d2, d3, he, hI, hB⟩; subst he; obtain ⟨k, sx, n, xx, lx, cx, e0', e1', e2', e3'⟩ := IsIn_form hI; subst e0' e1' e2' e3'; have HI := Lib.hid (IsIn_lt _ _ _ _ _ hI); have HB5 := Lib.hid hB; clear hI hB))
      have hb6 := heap_alloc_new w5 (.cells #[.int .i64 k, .string sx, .int .i64 n, .slice xx lx cx] 41)
      have hE6 := Ext.alloc (Ext.trans HB4.out HB5.out) (.cells #[.int .i64 k, .string sx, .int .i64 n, .slice xx lx cx] 41)
      have hs6 : (w5.alloc (.cells #[.int .i64 k, .string sx, .int .i64 n, .slice xx lx cx] 41)).heap.size = w5.heap.size + 1 := World.size_alloc _ _
      have hkp : ∀ b, b < w5.heap.size → (w5.alloc (.cells #[.int .i64 k, .string sx, .int .i64 n, .slice xx lx cx] 41)).heap[b]? = w5.heap[b]? := fun b hb => Below.heap_alloc _ _ _ hb
      have hs45 := HB4.out.size
      generalize (w5.alloc (.cells #[.int .i64 k, .string sx, .int .i64 n, .slice xx lx cx] 41)) = w6 at hb6 hE6 hs6 hkp ⊢
      generalize w5.heap.size = g6 at hb6 hs6 hkp HI ⊢
      have HE6 := Lib.hid hE6
      have HI6 : Hid (IsIn (fun b => b < w2.heap.size ∨ (wr.heap.size ≤ b ∧ b < w6.heap.size)) w6 ta (.int .i64 k) (.string sx) (.int .i64 n) (.slice xx lx cx)) := IsIn_carry (fun b hb => hkp b hb.2) (fun b hb => by have := hb.1; have := hb.2; omega) _ _ _ _ _ HI.out
      have HBX := Lib.hid (And.intro hb6 hs6)
      clear hb6 hE6 hs6 hkp
      by_cases ha : xA = 0
      rotate_left
      · have q1 : (xA != 0) = true := by rw [bne_iff_ne]; exact ha
        have HR2 : Hid (R = ([], xA)) := by
          show _ = _
          have e1 := HEE.out.1
          rw [if_neg ha] at e1
          have e := HFD.out
          rw [e1, if_neg ha] at e
          rw [HD2.out, e, if_neg ha]
        clear ha
        go_wp2_with fail
        go_ret2
        exact RcPost_err HR2.out (Ext.trans HEW.out HE6.out)
      subst ha
      go_upto_region 21 with (go_at_call 45; refine (HPB.out _).mono ?_; rintro e w7 ⟨d0, d1, d2, d3, he, hI, hB⟩; subst he; obtain ⟨k2, sx2, n2, xx2, lx2, cx2, e0', e1', e2', e3'⟩ := IsIn_form hI; subst e0' e1' e2' e3'; have HJ := Lib.hid (IsIn_lt _ _ _ _ _ hI); have HB7 := Lib.hid hB; clear hI hB)
      have hb8 := heap_alloc_new w7 (.cells #[.int .i64 k2, .string sx2, .int .i64 n2, .slice xx2 lx2 cx2] 41)
      have hE8 := Ext.alloc HB7.out (.cells #[.int .i64 k2, .string sx2, .int .i64 n2, .slice xx2 lx2 cx2] 41)
      have hs8 : (w7.alloc (.cells #[.int .i64 k2, .string sx2, .int .i64 n2, .slice xx2 lx2 cx2] 41)).heap.size = w7.heap.size + 1 := World.size_alloc _ _
      have hkp : ∀ b, b < w7.heap.size → (w7.alloc (.cells #[.int .i64 k2, .string sx2, .int .i64 n2, .slice xx2 lx2 cx2] 41)).heap[b]? = w7.heap[b]? := fun b hb => Below.heap_alloc _ _ _ hb
      generalize (w7.alloc (.cells #[.int .i64 k2, .string sx2, .int .i64 n2, .slice xx2 lx2 cx2] 41)) = w8 at hb8 hE8 hs8 hkp ⊢
      generalize w7.heap.size = g8 at hb8 hs8 hkp HJ ⊢
      obtain ⟨⟨z0, z1, z2, z3⟩, _⟩ := box_facts hb8
      have hbx := HBX.out
      obtain ⟨⟨y0, y1, y2, y3⟩, _⟩ := box_facts ((hE8.block g6 (by omega)).trans hbx.1)
      have hs68 := hE8.size
      have hs06 := HE6.out.size
      have hI8 : IsIn (fun b => b < w2.heap.size ∨ (wr.heap.size ≤ b ∧ b < w8.heap.size)) w8 ta (.int .i64 k) (.string sx) (.int .i64 n) (.slice xx lx cx) := IsIn_carry (fun b hb => hE8.block b (by omega)) (fun b hb => by omega) _ _ _ _ _ HI6.out
      have hJ8 : IsIn (fun b => b < w2.heap.size ∨ (wr.heap.size ≤ b ∧ b < w8.heap.size)) w8 tb (.int .i64 k2) (.string sx2) (.int .i64 n2) (.slice xx2 lx2 cx2) := IsIn_carry (fun b hb => hkp b hb.2) (fun b hb => by have := hb.1; have := hb.2; omega) _ _ _ _ _ HJ.out
      have HE8 := Lib.hid (Ext.trans HE6.out hE8)
      by_cases hb : xB = 0
      rotate_left
      · have q1 : (xB != 0) = true := by rw [bne_iff_ne]; exact hb
        have HR2 : Hid (R = ([], xB)) := by
          show _ = _
          have e1 := HEE.out.1
          rw [if_pos trivial] at e1
          have e := HFD.out
          rw [e1, if_neg hb] at e
          rw [HD2.out, e, if_neg hb]
        clear hb hb8 hE8 hs8 hkp hbx hs68 hs06 hI8 hJ8
        go_wp2_with fail
        go_ret2
        exact RcPost_err HR2.out (Ext.trans HEW.out HE8.out)
      subst hb
      have HFD2 : Hid (firstE ps = firstE (ps.drop (j + 1))) := by
        show _ = _
        have e1 := HEE.out.1
        rw [if_pos trivial] at e1
        have e := HFD.out
        rw [e1, if_pos rfl] at e
        exact e
      have HBB : Hid (bb = (ta, tb)) := by
        show _ = _
        have e1 := HEE.out.1
        rw [if_pos trivial] at e1
        have e := HEE.out.2
        rw [e1, if_pos rfl] at e
        exact e
      have HPU : Hid (∀ g cap w9 ob, w9.ownsRow w2.heap.size 45 8 (.slice (some ⟨g, 0, none⟩) (j + 1) cap) (j + 1) (cs ++ [.int .i64 k, .string sx, .int .i64 n, .slice xx lx cx, .int .i64 k2, .string sx2, .int .i64 n2, .slice xx2 lx2 cx2]) → (w8.alloc ob).grownBy w9 (Value.slice xl j lcap).ownBlock → ((Value.slice xl j lcap).ownBlock = some g ∨ g = w8.heap.size + 1) → SpR w2 ps (j + 1) (.slice (some ⟨g, 0, none⟩) (j + 1) cap) w9) := by
        show ∀ _, _
        intro g cap w9 ob ho8 hg hat
        have r := BdsIn_push HLL.out.symm HOW.out.1 HOW.out.2.1 HOW.out.2.2 (Nat.le_refl _) hsz HE8.out hI8 hJ8 ho8 hg hat
        exact ⟨by rw [HBT.out, HBB.out]; exact r.1, Below.trans (show Below w2.heap.size w2 wr from HR.out.ext) r.2.2, HFD2.out⟩
      have HO8 : Hid (w8.ownsRow w2.heap.size 45 8 (.slice xl j lcap) j cs) := own_heap HOW.out.1 (fun q hq => HE8.out.block q (HOW.out.1.lt q hq).2)
      have hw8 : w2.heap.size ≤ w8.heap.size := Nat.le_trans hsz HE8.out.size
      have hcl : cs.length = j * 8 := HOW.out.1.1
      clear hb8 hE8 hs8 hkp hbx hs68 hs06 hI8 hJ8
      go_wp2_with (at_builtin; refine wpList_append_lies _ rfl _ _ _ rfl w2.heap.size 45 i0 _ 8 112 Tryz.underlying22 HI0.out.1 HI0.out.2.1 HI0.out.2.2.1 HI0.out.2.2.2 rfl (by omega) (.slice xl j lcap) j cs rfl (HO8.out.alloc _) ⟨w8.heap.size, 0, none⟩ 1 1 [.int .i64 k, .string sx, .int .i64 n, .slice xx lx cx, .int .i64 k2, .string sx2, .int .i64 n2, .slice xx2 lx2 cx2] rfl rfl (World.news_of_block (cs := #[.int .i64 k, .string sx, .int .i64 n, .slice xx lx cx, .int .i64 k2, .string sx2, .int .i64 n2, .slice xx2 lx2 cx2]) (t := 45) (fr := (0, 0)) (heap_alloc_new w8 _)) (by simp [Value.oneCell']) (by omega) (by unfold maxLen; omega) (by omega) (by simp; omega) (w8.heap.size + 1) (by simp) ?_; intro gg cap8 w9 hown8 hgrow hat hltt; have HN := Lib.hid (HPU.out _ _ _ _ hown8 hgrow hat); clear hown8 hgrow hat hltt)
      go_roundw
      case rel => exact ⟨j + 1, by omega, by go_num, HN⟩
      case measure => simp [intOf]; omega
theorem rsparse_any (s : ByteArray) (w : World) (hs : s.size ≤ 2001) : Calls Tryz.prog 19 #[.string s] w (RcPost w (sparseP s)) := by
  by_cases h2 : s.size < 2
  · rw [sparseP_short h2]; exact rbad_0 s w h2
  obtain ⟨m, hm⟩ : ∃ m, s.size = m + 1 := ⟨s.size - 1, by omega⟩
  by_cases h0 : s[0]'(by omega) = 123
  rotate_left
  · rw [sparseP_0 hm (by omega) h0]; exact rbad_1 s m w hm (by omega) (by omega) h0
  by_cases h1 : s[m]'(by omega) = 125
  rotate_left
  · rw [sparseP_1 hm (by omega) h1]; exact rbad_2 s m w hm (by omega) (by omega) h0 h1
  rw [sparseP_2 hm (by omega) h0 h1]
  by_cases hm2 : m = 1
  · subst hm2
    exact rsparse_empty s w hm h0 h1
  · exact rsparse_good s m w hm (by omega) (by omega) h0 h1
end Go.Proofs.YtkdnfioihhfmpaaGreatDoor

/-
  WHAT Parse READS HAS THAT TEXT.
-/
namespace Go.Proofs.YtkdnfioihhfmpaaGreatDoor
open Go.RowKit

def joinP : List ByteArray → ByteArray
  | [] => ByteArray.empty
  | [p] => p
  | p :: q :: ps => p ++ (bComma ++ joinP (q :: ps))
theorem ext_cat (s : ByteArray) {a b c : Nat} (h1 : a ≤ b) (h2 : b ≤ c) : s.extract a b ++ s.extract b c = s.extract a c := by
  rw [ByteArray.extract_append_extract, Nat.min_eq_left h1, Nat.max_eq_right h2]
theorem ext_is {s p : ByteArray} {a b : Nat} (h : (s.extract a b).toList = p.toList) : s.extract a b = p := by
  rw [Lib.toList_data, Lib.toList_data] at h
  exact ByteArray.ext (Array.toList_inj.1 h)
theorem pcs_ne (s : ByteArray) : ∀ (n b : Nat) (d : Int), pcs s n b d ≠ []
  | 0, b, d => by rw [pcs]; simp
  | n + 1, b, d => by
    rw [pcs]
    split
    · exact pcs_ne s n b _
    · split
      · exact pcs_ne s n b _
      · split
        · simp
        · exact pcs_ne s n b d
theorem pcs_join (s : ByteArray) : ∀ (n k b : Nat) (d : Int), k + n = s.size → b ≤ s.size → (b ≤ k ∨ (b = k + 1 ∧ ∃ h : k < s.size, s[k] = 32)) → joinP (pcs s n b d) = s.extract b s.size
  | 0, k, b, d, hk, hb, hle => by rw [pcs]; rfl
  | n + 1, k, b, d, hk, hb, hle => by
    have hlt : k < s.size := by omega
    have e : n + 1 = s.size - k := by omega
    have e2 : s.size - (k + 1) = n := by omega
    rw [e, pcs_step hlt, e2]
    split
    · exact pcs_join s n (k + 1) b _ (by omega) hb (Or.inl (by omega))
    · split
      · exact pcs_join s n (k + 1) b _ (by omega) hb (Or.inl (by omega))
      · split
        · rename_i hc
          obtain ⟨hr, hq⟩ := (pre_at hlt).1 hc.2
          obtain ⟨q1, q2⟩ := pre_char hlt hq
          have hbk : b ≤ k := by
            rcases hle with h | ⟨_, _, h⟩
            · exact h
            · rw [q1] at h; exact absurd h (by decide)
          have ih := pcs_join s n (k + 1) (k + 2) d (by omega) hr (Or.inr ⟨by omega, by omega, q2 (by omega)⟩)
          have hne := pcs_ne s n (k + 2) d
          generalize pcs s n (k + 2) d = ps at ih hne
          cases ps with
          | nil => exact absurd rfl hne
          | cons p ps =>
            show s.extract b k ++ (bComma ++ joinP (p :: ps)) = _
            have hcm : s.extract k (k + 2) = bComma := ext_is (by rw [beq_iff_eq] at hq; rw [hq]; kernel_rfl)
            rw [ih, ← hcm, ext_cat s (by omega) hr, ext_cat s hbk (by omega)]
        · exact pcs_join s n (k + 1) b d (by omega) hb (Or.inl (by omega))
theorem fmt_join : ∀ (ps : List ByteArray) (acc : ByteArray) (f : Bool), ps ≠ [] → (∀ p ∈ ps, (textT (bdP p).1 ++ bEq) ++ textT (bdP p).2 = p) → fmtA acc f (ps.map bdP) = (if f then acc ++ bComma else acc) ++ joinP ps
  | [], _, _, h, _ => absurd rfl h
  | p :: ps, acc, f, _, h => by
    have hp := h p (List.mem_cons_self ..)
    rw [List.map_cons, fmtA]
    have e : (((if f then acc ++ bComma else acc) ++ textT (bdP p).1) ++ bEq) ++ textT (bdP p).2 = (if f then acc ++ bComma else acc) ++ p := by
      conv => rhs; rw [← hp]
      simp only [ByteArray.append_assoc]
    rw [e]
    generalize (if f then acc ++ bComma else acc) = X
    cases ps with
    | nil => rfl
    | cons q ps =>
      rw [fmt_join (q :: ps) (X ++ p) true (by simp) (fun r hr => h r (List.mem_cons_of_mem _ hr))]
      simp only [if_true, joinP, ByteArray.append_assoc]
theorem firstE_cons (p : ByteArray) (ps : List ByteArray) : firstE (p :: ps) = if errP p = 0 then firstE ps else errP p := rfl
theorem firstE_all (ps : List ByteArray) : firstE ps = 0 → ∀ p ∈ ps, errP p = 0 := by
  induction ps with
  | nil => intro _ p hp; exact absurd hp List.not_mem_nil
  | cons q ps ih =>
    intro h p hp
    rw [firstE_cons] at h
    generalize hx : errP q = x at h
    by_cases e : x = 0
    · rw [if_pos e] at h
      rcases List.mem_cons.1 hp with hq | hp
      · rw [hq, hx]; exact e
      · exact ih h p hp
    · rw [if_neg e] at h; exact absurd h e
theorem eq_split {p : ByteArray} (h : hasEq p = true) : (lftP p ++ bEq) ++ rgtP p = p := by
  have h0 : 0 ≤ eqAt p := of_decide_eq_true h
  obtain ⟨i, hi⟩ : ∃ i : Nat, eqAt p = i := ⟨(eqAt p).toNat, by omega⟩
  have hr := eqAt_room hi
  have ho : Lib.occAt p.data.toList [32, 61, 32] i = true := by
    rcases Lib.index_spec p.data.toList [32, 61, 32] with ⟨e, _⟩ | ⟨i', e, _, ho, _⟩
    · have : eqAt p = -1 := e
      omega
    · have e2 : eqAt p = (i' : Int) := e
      have : i' = i := by omega
      rw [← this]; exact ho
  rw [occ_at hr, beq_iff_eq] at ho
  have he : p.extract i (i + 3) = bEq := ext_is (by rw [ho]; kernel_rfl)
  unfold lftP rgtP
  rw [hi]
  show (p.extract 0 i ++ bEq) ++ p.extract (i + 3) p.size = p
  rw [← he, ext_cat p (by omega) (by omega), ext_cat p (by omega) hr]
  simp
theorem text_pair {R1 R2 : Tm × Int} {l r : ByteArray} (h1 : R1.2 = 0 → textT R1.1 = l) (h2 : R2.2 = 0 → textT R2.1 = r) (he : (if R1.2 = 0 then R2.2 else R1.2) = 0) : textT (if (if R1.2 = 0 then R2.2 else R1.2) = 0 then (R1.1, R2.1) else (zeroT, zeroT)).1 = l ∧ textT (if (if R1.2 = 0 then R2.2 else R1.2) = 0 then (R1.1, R2.1) else (zeroT, zeroT)).2 = r := by
  rw [if_pos he]
  by_cases e1 : R1.2 = 0
  · rw [if_pos e1] at he; exact ⟨h1 e1, h2 he⟩
  · rw [if_neg e1] at he; exact absurd he e1
theorem text_piece {p : ByteArray} (hs : p.size ≤ 2000) (h : hasEq p = true) (he : errP p = 0) : (textT (bdP p).1 ++ bEq) ++ textT (bdP p).2 = p := by
  have := text_pair (R1 := parseP (lftP p)) (R2 := parseP (rgtP p)) (fun e => (parse_back _ (Nat.le_trans (lftP_size p) hs) e).2) (fun e => (parse_back _ (Nat.le_trans (rgtP_size p) hs) e).2) he
  have e1 : textT (bdP p).1 = lftP p := this.1
  have e2 : textT (bdP p).2 = rgtP p := this.2
  rw [e1, e2]; exact eq_split h
theorem ends_brace {s : ByteArray} {m : Nat} (hm : s.size = m + 1) (hm1 : 1 ≤ m) (h0 : s[0]'(by omega) = 123) (h1 : s[m]'(by omega) = 125) : (bLbr ++ s.extract 1 m) ++ bRbr = s := by
  have e0 : s.extract 0 1 = bLbr := ext_is (by
    rw [Lib.toList_data, ByteArray.data_extract, Array.toList_extract, List.extract_eq_take_drop]
    have := data_at s 0 (by omega)
    rw [h0] at this
    generalize s.data.toList = l at this
    match l, this with
    | a :: l, this =>
      have hb : bLbr.toList = [123] := by kernel_rfl
      simp at this; subst this; rw [hb]; rfl)
  have e1 : s.extract m (m + 1) = bRbr := ext_is (by
    rw [Lib.toList_data, ByteArray.data_extract, Array.toList_extract, List.extract_eq_take_drop]
    have := data_at s m (by omega)
    rw [h1] at this
    have hd : s.data.toList.drop m = 125 :: s.data.toList.drop (m + 1) := by
      obtain ⟨hl, he⟩ := List.getElem?_eq_some_iff.1 this
      rw [List.drop_eq_getElem_cons hl, he]
    have hb : bRbr.toList = [125] := by kernel_rfl
    rw [hd, show m + 1 - m = 1 by omega, hb]
    rfl)
  rw [← e0, ← e1, ext_cat s (by omega) (by omega), ext_cat s (by omega) (by omega), ← hm]
  simp
theorem restP_ok {ps : List ByteArray} (h : (restP ps).2 = 0) : ps.all hasEq = true ∧ firstE ps = 0 ∧ validB (ps.map bdP) = 0 ∧ (restP ps).1 = ps.map bdP := by
  unfold restP at h ⊢
  by_cases e1 : ps.all hasEq = true
  · rw [if_pos e1] at h ⊢
    by_cases e2 : firstE ps = 0
    · rw [if_pos e2] at h ⊢
      by_cases e3 : validB (ps.map bdP) = 0
      · rw [if_pos e3]; exact ⟨e1, e2, e3, rfl⟩
      · rw [if_neg e3] at h; exact absurd h e3
    · rw [if_neg e2] at h; exact absurd h e2
  · rw [if_neg e1] at h; exact absurd (show (2 : Int) = 0 from h) (by decide)
/-- What is read has the text that it was read from. -/
theorem sparse_back {s : ByteArray} (hs : s.size ≤ 1000) (h : (sparseP s).2 = 0) : formS (sparseP s).1 = (s, 0) := by
  by_cases h2 : s.size < 2
  · rw [sparseP_short h2] at h; exact absurd (show (2 : Int) = 0 from h) (by decide)
  obtain ⟨m, hm⟩ : ∃ m, s.size = m + 1 := ⟨s.size - 1, by omega⟩
  have hm1 : 1 ≤ m := by omega
  by_cases h0 : s[0]'(by omega) = 123
  rotate_left
  · rw [sparseP_0 hm hm1 h0] at h; exact absurd (show (2 : Int) = 0 from h) (by decide)
  by_cases h1 : s[m]'(by omega) = 125
  rotate_left
  · rw [sparseP_1 hm hm1 h1] at h; exact absurd (show (2 : Int) = 0 from h) (by decide)
  rw [sparseP_2 hm hm1 h0 h1] at h ⊢
  have hb := ends_brace hm hm1 h0 h1
  have hxs : (s.extract 1 m).size = m - 1 := by rw [ByteArray.size_extract]; omega
  generalize s.extract 1 m = x at h hb hxs ⊢
  obtain ⟨a1, a2, a3, a4⟩ := restP_ok h
  rw [a4]
  unfold formS
  rw [if_pos a3]
  have hfm : fmtA bLbr false ((piecesP x).map bdP) = bLbr ++ x := by
    by_cases hx : x.size = 0
    · have hn : piecesP x = [] := by unfold piecesP; rw [if_pos hx]
      have hxe : x = ByteArray.empty := by
        have := ext_is (s := x) (p := ByteArray.empty) (a := 0) (b := x.size) (by rw [hx]; simp)
        simpa using this
      rw [hn, hxe]
      simp [fmtA]
    · have hne : piecesP x ≠ [] := by unfold piecesP; rw [if_neg hx]; exact pcs_ne _ _ _ _
      rw [fmt_join _ _ _ hne (fun p hp => text_piece (by have := (pieces_small x).2 p hp; omega) ((List.all_eq_true.1 a1) p hp) (firstE_all _ a2 p hp))]
      have hj : joinP (piecesP x) = x := by
        unfold piecesP
        rw [if_neg hx, pcs_join x x.size 0 0 0 (by omega) (by omega) (Or.inl (Nat.le_refl _))]
        simp
      rw [hj]; rfl
  rw [hfm, hb]
end Go.Proofs.YtkdnfioihhfmpaaGreatDoor

/-
  THE WALK OF the law SubstParse, the chapter's examples by hypothesis.
-/
namespace Go.Proofs.YtkdnfioihhfmpaaGreatDoor
open Go.RowKit

theorem sparse_small {s : ByteArray} : (sparseP s).1.length ≤ 200 ∧ SzB 1073741824 (sparseP s).1 := by
  have hnil : ((([] : List Bd).length ≤ 200) ∧ SzB 1073741824 []) := ⟨by simp, fun b hb => by simp at hb⟩
  unfold sparseP
  by_cases hb : braceB s = true
  · rw [if_pos hb]
    generalize piecesP (s.extract 1 (s.size - 1)) = ps
    unfold restP
    by_cases e1 : ps.all hasEq = true
    · rw [if_pos e1]
      by_cases e2 : firstE ps = 0
      · rw [if_pos e2]
        generalize ps.map bdP = bs
        by_cases e3 : validB bs = 0
        · rw [if_pos e3]
          refine ⟨(validB_ok e3).1, fun b hb => ?_⟩
          obtain ⟨p1, p2⟩ := bindE_valid ((validB_ok e3).2.1 b hb)
          have := vsz p1
          have := vsz p2
          omega
        · rw [if_neg e3]; exact hnil
      · rw [if_neg e2]; exact hnil
    · rw [if_neg e1]; exact hnil
  · rw [if_neg hb]; exact hnil

set_option maxHeartbeats 1000000 in
set_option maxRecDepth 100000 in
theorem spar_big (HA : Hid Awake2Ok) (s : ByteArray) (w : World) (hL : Laid w) (hs : s.size ≤ maxLen) (h1 : 1000 < s.size) :
    Calls Tryz.prog 5 #[.string s] w fun e w' => e = .returned (.bool true) ∧ Below w.heap.size w w' := by
  have HL := Lib.hid hL
  unfold maxLen at hs
  have h2 : (1000 : Int) < (s.size : Int) := by omega
  have tok1 : True := trivial
  clear hL h1
  go_enter Tryz.func5, Tryz.ntmps5
  go_wp2_with (first
    | (go_at_call 6; have _t := tok1; refine (HA.out _ HL.out).mono ?_; rintro e w1 ⟨he, hB1⟩; subst he; have HB1 := Lib.hid (show Ext w w1 from hB1); clear hB1 tok1)
    | (go_at_call 6; refine (HA.out _ (Laid_ext HL.out HB1.out)).mono ?_; rintro e w3 ⟨he, hB⟩; subst he; have HB3 := Lib.hid (Ext.trans HB1.out hB); clear hB))
  go_ret
  exact ⟨rfl, HB3.out⟩

set_option maxHeartbeats 1600000 in
set_option maxRecDepth 100000 in
theorem spar_small (HA : Hid Awake2Ok) (s : ByteArray) (w : World) (hL : Laid w) (hM : MaxL w) (h1 : s.size ≤ 1000) :
    Calls Tryz.prog 5 #[.string s] w fun e w' => e = .returned (.bool true) ∧ Below w.heap.size w w' := by
  have HL := Lib.hid hL
  have h2 : (s.size : Int) ≤ 1000 := by omega
  have hMX : ∀ W, Ext w W → MaxL W := fun W x => by obtain ⟨m, hm⟩ := hM; exact ⟨m, keep_below x _ _ hm⟩
  have HP := Lib.hid (fun W (x : Ext w W) => sparse_any s W (Laid_ext hL x) (hMX W x) (by omega))
  have HR := Lib.hid (fun W => rsparse_any s W (by omega))
  obtain ⟨sl, sz⟩ := sparse_small (s := s)
  have HSM := Lib.hid (fun xa ya c c' W p q r r' => bsame_eq (sparseP s).1 xa ya c c' W p q (by unfold maxLen; omega) sz r r')
  have HF := Lib.hid (fun xa c W p r (hl : Laid W) => sFormat_any (sparseP s).1 xa c W p (by omega) sz r hl)
  have HBK := Lib.hid (fun h => sparse_back (s := s) h1 h)
  generalize sparseP s = R at HP HR HSM HF HBK
  obtain ⟨bs, E⟩ := R
  unfold RcPost at HP HR
  simp only at HP HR HSM HF HBK
  generalize formS bs = fm at HF HBK
  have q1 : (s.toList == s.toList) = true := by simp
  have q3 : (E != E) = false := by simp
  have q4 : (E == E) = true := by simp
  have tok1 : True := trivial
  clear hL hM hMX h1 sl sz
  by_cases hE : E = 0
  · subst hE
    have hfm := HBK.out rfl
    subst hfm
    go_enter Tryz.func5, Tryz.ntmps5
    go_wp2_with (first
      | (go_at_call 6; refine (HA.out _ HL.out).mono ?_; rintro e w1 ⟨he, hB1⟩; subst he; have HB1 := Lib.hid (show Ext w w1 from hB1); clear hB1)
      | (go_at_call 18; refine (HP.out _ HB1.out).mono ?_; rintro e w2 ⟨xa, ca, he, hc, hr, hB⟩; subst he; have HR2 := Lib.hid (And.intro hc (fun W (x : Ext w2 W) => Row_below (w' := W) hr x)); have HB2 := Lib.hid (Ext.trans HB1.out hB); clear hc hr hB)
      | (go_at_call 19; refine (HR.out _).mono ?_; rintro e w3 ⟨xb, cb, he, hc, hr, hB⟩; subst he; have HR3 := Lib.hid (And.intro hc hr); have HX3 := Lib.hid (show Ext w2 w3 from hB); have HB3 := Lib.hid (Ext.trans HB2.out hB); clear hc hr hB)
      | (go_at_call 12; refine (HSM.out _ _ _ _ _ HR2.out.1 HR3.out.1 (HR2.out.2 _ HX3.out) HR3.out.2).mono ?_; rintro e w4 ⟨he, hB⟩; subst he; have HX4 := Lib.hid (Ext.trans HX3.out hB); have HB4 := Lib.hid (Ext.trans HB3.out hB); clear hB)
      | (go_at_call 16; refine (HF.out _ _ _ HR2.out.1 (HR2.out.2 _ HX4.out) (Laid_ext HL.out HB4.out)).mono ?_; rintro e w5 ⟨he, hB⟩; subst he; have HB5 := Lib.hid (Ext.trans HB4.out hB); clear hB))
    go_ret
    exact ⟨rfl, HB5.out⟩
  · have q5 : (E != 0) = true := by rw [bne_iff_ne]; exact hE
    clear hE
    go_enter Tryz.func5, Tryz.ntmps5
    go_wp2_with (first
      | (go_at_call 6; refine (HA.out _ HL.out).mono ?_; rintro e w1 ⟨he, hB1⟩; subst he; have HB1 := Lib.hid (show Ext w w1 from hB1); clear hB1)
      | (go_at_call 18; refine (HP.out _ HB1.out).mono ?_; rintro e w2 ⟨xa, ca, he, hc, hr, hB⟩; subst he; have HR2 := Lib.hid (And.intro hc (fun W (x : Ext w2 W) => Row_below (w' := W) hr x)); have HB2 := Lib.hid (Ext.trans HB1.out hB); clear hc hr hB)
      | (go_at_call 19; refine (HR.out _).mono ?_; rintro e w3 ⟨xb, cb, he, hc, hr, hB⟩; subst he; have HR3 := Lib.hid (And.intro hc (fun W (x : Ext w3 W) => Row_below (w' := W) hr x)); have HX3 := Lib.hid (show Ext w2 w3 from hB); have HB3 := Lib.hid (Ext.trans HB2.out hB); clear hc hr hB)
      | (go_at_call 12; have _t := tok1; refine (HSM.out _ _ _ _ _ HR2.out.1 HR3.out.1 (HR2.out.2 _ HX3.out) (HR3.out.2 _ (Ext.refl _))).mono ?_; rintro e w4 ⟨he, hB⟩; subst he; have HY4 := Lib.hid (show Ext w3 w4 from hB); have HX4 := Lib.hid (Ext.trans HX3.out hB); have HB4 := Lib.hid (Ext.trans HB3.out hB); clear hB tok1)
      | (go_at_call 12; refine (HSM.out _ _ _ _ _ HR2.out.1 HR3.out.1 (HR2.out.2 _ HX4.out) (HR3.out.2 _ HY4.out)).mono ?_; rintro e w5 ⟨he, hB⟩; subst he; have HB5 := Lib.hid (Ext.trans HB4.out hB); clear hB))
    go_ret
    exact ⟨rfl, HB5.out⟩

theorem lawSp_any (HA : Awake2Ok) (s : ByteArray) (w : World) (hL : Laid w) (hM : MaxL w) (hs : s.size ≤ maxLen) :
    Calls Tryz.prog 5 #[.string s] w fun e w' => e = .returned (.bool true) ∧ Below w.heap.size w w' := by
  by_cases h : s.size ≤ 1000
  · exact spar_small (Lib.hid HA) s w hL hM h
  · exact spar_big (Lib.hid HA) s w hL hs (by omega)
end Go.Proofs.YtkdnfioihhfmpaaGreatDoor
