/-
  strings.Builder: copyCheck and WriteString walked (the shelf's body of copyCheck is another); String as the shelf lays it.
-/
import Derived.Shelf.Strings.Builder1
import Derived.Test.YtkfbbkkfagglhaaGreatDoorName
import Derived.Test.YtkfbbkkfagglhaaGreatDoorText
import Derived.Test.YtkfbbkkfagglhaaGreatDoorPos
namespace Go.Proofs
open Go.Shelf
def Tryz.lays169_ren : Go.Shelf.Ren := ⟨fun | 169 => 97 | n => n, fun | 70 => 107 | 9 => 9 | 0 => 0 | 72 => 110 | 37 => 108 | 127 => 168 | 3 => 3 | 5 => 5 | n => n, fun | n => n⟩
theorem Tryz.lays169 : Go.Proofs.Lays.n169 Tryz.prog Tryz.lays169_ren := {
  mixed := by kernel_rfl
  f169 := Tryz.func97.trans (congrArg some (by kernel_rfl))
  t0 := Tryz.underlying0
  a0 := Tryz.isAgg0
  z0 := Tryz.sizeOf0
  v0 := Tryz.zeroValue0
  t3 := Tryz.underlying3
  a3 := Tryz.isAgg3
  z3 := Tryz.sizeOf3
  v3 := Tryz.zeroValue3
  t9 := Tryz.underlying9
  a9 := Tryz.isAgg9
  z9 := Tryz.sizeOf9
  v9 := Tryz.zeroValue9
  t37 := Tryz.underlying108
  a37 := Tryz.isAgg108
  z37 := Tryz.sizeOf108
  v37 := Tryz.zeroValue108
  t70 := Tryz.underlying107
  a70 := Tryz.isAgg107
  z70 := Tryz.sizeOf107
  v70 := Tryz.zeroValue107
  t72 := Tryz.underlying110
  a72 := Tryz.isAgg110
  z72 := Tryz.sizeOf110
  v72 := Tryz.zeroValue110
  t127 := Tryz.underlying168
  a127 := Tryz.isAgg168
  z127 := Tryz.sizeOf168
  v127 := Tryz.zeroValue168 }
theorem Tryz.Builder_Extra_169 : Builder.Extra Tryz.prog Tryz.lays169_ren := {
  sizeBuilder := by kernel_rfl
  liesBuilder := by kernel_rfl
  t5 := Tryz.underlying5
  a5 := Tryz.isAgg5
  z5 := Tryz.sizeOf5
  v5 := Tryz.zeroValue5
  infoByte := by kernel_rfl
  cellsByte := by kernel_rfl
  sizeByte := by kernel_rfl
  neB5 := by decide }
open Go.RowKit in
theorem Tryz.Builder_String_any (B b : Nat) (l : List UInt8) (w : World) (h : Lib.IsBuilder 110 5 B b (Lib.byteCells l) w) (hBw : B ≤ w.heap.size) :
    Calls Tryz.prog 97 #[.pointer (some ⟨b, 0, none⟩)] w fun e w' => e = .returned (.string ⟨l.toArray⟩) ∧ Below B w w' := Any.Builder_String_any Tryz.lays169 Tryz.Builder_Extra_169 B b l w h hBw
end Go.Proofs
namespace Go.Proofs.YtkfbbkkfagglhaaGreatDoor
open Go.RowKit Go.Shelf

theorem bld_size : (Tryz.prog.info? 110).map (·.size) = some 2 := by kernel_rfl
theorem bld_lies : liesAt Tryz.prog Tryz.prog.depth 110 (2 / Tryz.prog.cellsOf 110) 0 110 1 = true := by kernel_rfl
theorem bld_byte : (Tryz.prog.info? 5).map (fun i => (i.zero, i.size, i.bytes)) = some (some (.int .u8 0), 1, 1) := by kernel_rfl

set_option maxHeartbeats 1000000 in
set_option maxRecDepth 100000 in
theorem copyCheck_used (b : Nat) (w : World) (h0 : w.cell? ⟨b, 0, none⟩ = some (.pointer (some ⟨b, 0, none⟩))) :
    Calls Tryz.prog 139 #[.pointer (some ⟨b, 0, none⟩)] w fun e w' => e = .returned (.tuple #[]) ∧ w' = w := by
  obtain ⟨j, hj, _⟩ := Option.map_eq_some_iff.1 bld_size
  go_enter Tryz.func139, Tryz.ntmps139
  go_wp2
  rw [Lib.run_neq_ptr_same w _ Tryz.underlying107 hj]
  go_wp2
  go_end0
  exact ⟨rfl, rfl⟩

set_option maxHeartbeats 1000000 in
set_option maxRecDepth 100000 in
theorem copyCheck_fresh (b : Nat) (w : World) (h0 : w.cell? ⟨b, 0, none⟩ = some (.pointer none)) (hsh : w.shape? b = some (110, 2)) (hfz : w.frozen? ⟨b, 0, none⟩ = false) :
    Calls Tryz.prog 139 #[.pointer (some ⟨b, 0, none⟩)] w fun e w' => e = .returned (.tuple #[]) ∧ w' = w.setCell ⟨b, 0, none⟩ (.pointer (some ⟨b, 0, none⟩)) := by
  obtain ⟨j, hj, hjs⟩ := Option.map_eq_some_iff.1 bld_size
  go_enter Tryz.func139, Tryz.ntmps139
  go_wp2
  rw [Lib.run_to_unsafe w ⟨b, 0, none⟩ Tryz.underlying107 Tryz.underlying212 hj (by rw [hjs]; decide) hsh (Nat.zero_lt_succ 1)]
  simp only [Result.andThen]
  rw [Oper.upon_value]
  go_wp2
  rw [run_callFunc_extern Tryz.func184 (by kernel_rfl) (by kernel_rfl) (by kernel_rfl) (e := Extern.AbiNoEscape.same) (by kernel_rfl)]
  rw [Lib.run_noEscape]
  simp only [Result.andThen]
  rw [Oper.upon_value]
  go_wp2
  rw [Lib.run_from_unsafe w ⟨b, 0, none⟩ Tryz.underlying212 Tryz.underlying107 hj hsh bld_lies]
  simp only [Result.andThen]
  rw [Oper.upon_value]
  go_wp2
  go_end0
  exact ⟨rfl, rfl⟩

theorem copyCheck_any (B b : Nat) (bs : List Value) (w : World) (h : Lib.IsBuilder 110 5 B b bs w) :
    Calls Tryz.prog 139 #[.pointer (some ⟨b, 0, none⟩)] w fun e w' => e = .returned (.tuple #[]) ∧ (Lib.BuilderAt 110 5 B b (.pointer (some ⟨b, 0, none⟩)) bs w' ∧ Below B w w') := by
  rcases h with h | h
  · refine (copyCheck_fresh b w h.cell0 h.shape h.frozen0).mono ?_
    rintro e w' ⟨rfl, rfl⟩
    exact ⟨rfl, h.used _, (Below.refl B w).setCell (p := ⟨b, 0, none⟩) h.1 _⟩
  · refine (copyCheck_used b w h.cell0).mono ?_
    rintro e w' ⟨rfl, rfl⟩
    exact ⟨rfl, h, Below.refl B _⟩

set_option maxHeartbeats 2000000 in
set_option maxRecDepth 100000 in
theorem writeString_any (B b : Nat) (bs : List Value) (s : ByteArray) (w : World) (h : Lib.IsBuilder 110 5 B b bs w) (hlen : bs.length + s.size ≤ 140737488355328) (hBw : B ≤ w.heap.size) :
    Calls Tryz.prog 95 #[.pointer (some ⟨b, 0, none⟩), .string s] w fun e w' => e = .returned (.tuple #[.int .i64 s.size, .nilIface]) ∧ (Lib.BuilderAt 110 5 B b (.pointer (some ⟨b, 0, none⟩)) (bs ++ Lib.strCells s) w' ∧ Below B w w') := by
  obtain ⟨i0, hi, hz0, hz1, hz2⟩ := info_parts bld_byte
  have HK := Lib.hid (copyCheck_any B b bs w h)
  go_enter Tryz.func95, Tryz.ntmps95
  go_wp2_with (go_at_call 139; refine (HK.out).mono ?_)
  rintro e w1 ⟨rfl, h1, hb1⟩
  obtain ⟨hB, v, hbk, hown, hne⟩ := h1
  have c0 : w1.cell? ⟨b, 0, none⟩ = some (.pointer (some ⟨b, 0, none⟩)) := by rw [Lib.cell_of_heap hbk]; rfl
  have c1 : w1.cell? ⟨b, 1, none⟩ = some v := by rw [Lib.cell_of_heap hbk]; rfl
  go_wp2_with (at_builtin; refine Lib.wpList_append_own_string _ rfl _ _ 108 9 rfl B 5 i0 Tryz.underlying108 Tryz.underlying9 hi hz0 hz1 hz2 _ _ _ rfl hown s rfl ?c3 ?c4 ?c5 ?_)
  case c3 => unfold maxLen; omega
  case c4 => omega
  case c5 => have := hb1.size; omega
  intro v' w2 hown' hgrow _
  have hlt : b < w1.heap.size := by
    rcases Nat.lt_or_ge b w1.heap.size with h' | h'
    · exact h'
    · simp [Array.getElem?_eq_none h'] at hbk
  have hb2 : w2.heap[b]? = some (.cells #[.pointer (some ⟨b, 0, none⟩), v] 110 (0, 0)) := by
    rw [hgrow.block b hlt (fun e => hne e.symm)]
    exact hbk
  have d0 : w2.cell? ⟨b, 0, none⟩ = some (.pointer (some ⟨b, 0, none⟩)) := by rw [Lib.cell_of_heap hb2]; rfl
  have d1 : w2.cell? ⟨b, 1, none⟩ = some v := by rw [Lib.cell_of_heap hb2]; rfl
  have f1 : w2.frozen? ⟨b, 1, none⟩ = false := Lib.frozen_of_heap hb2 1
  obtain ⟨ao, n', cap, rfl⟩ : ∃ ao n' cap, v' = .slice ao n' cap := by
    rcases hown'.2 with ⟨hv, _⟩ | ⟨g, cap, cur, hv, _⟩
    · exact ⟨_, _, _, hv⟩
    · exact ⟨_, _, _, hv⟩
  go_wp2
  go_ret2
  refine ⟨rfl, ?_, ?_⟩
  · exact Lib.BuilderAt.put (T := 110) (e := 5) hB hb2 (bs' := bs ++ Lib.strCells s) (by simpa [Lib.strCells_length] using hown') (by decide)
  · exact (hb1.grown hgrow (by have := hb1.size; omega) (fun k hk => (hown.lt k hk).1)).setCell (p := ⟨b, 1, none⟩) hB _
end Go.Proofs.YtkfbbkkfagglhaaGreatDoor

/-
  THE WALKS OF term.write, writeKids.
-/
namespace Go.Proofs.YtkfbbkkfagglhaaGreatDoor
open Go.RowKit

theorem strCells_app (a b : ByteArray) : Lib.strCells (a ++ b) = Lib.strCells a ++ Lib.strCells b := by
  simp [Lib.strCells_eq, Lib.byteCells]
theorem textL_app (a : ByteArray) : ∀ (ks : List Tm) (acc : ByteArray) (p : Bool), textL (a ++ acc) p ks = a ++ textL acc p ks
  | [], acc, p => by simp [textL]
  | t :: ts, acc, p => by
    simp only [textL]
    cases p
    · simp only [Bool.false_eq_true, if_false]; rw [ByteArray.append_assoc, textL_app a ts]
    · simp only [if_true]; rw [ByteArray.append_assoc, ByteArray.append_assoc, textL_app a ts]; simp only [ByteArray.append_assoc]
theorem textL_sz : ∀ (l : List Tm) (acc : ByteArray) (p : Bool), acc.size ≤ (textL acc p l).size
  | [], acc, p => by simp [textL]
  | t :: ts, acc, p => by
    have := textL_sz ts ((if p then acc ++ bComma else acc) ++ textT t) true
    rw [textL]
    rw [ByteArray.size_append] at this
    cases p
    · simp only [Bool.false_eq_true, if_false] at this ⊢; omega
    · simp only [if_true, ByteArray.size_append] at this ⊢; omega

def WrPost (B b : Nat) (bs : List Value) (x : ByteArray) (w : World) (e : Ending) (w' : World) : Prop :=
  e = .returned (.tuple #[]) ∧ Lib.BuilderAt 110 5 B b (.pointer (some ⟨b, 0, none⟩)) (bs ++ Lib.strCells x) w' ∧ Below B w w'
def WriteOk (B b m : Nat) : Prop := ∀ (t : Tm) (tb tq : Nat) (bs : List Value) (w : World), size t ≤ m → okT t → bs.length + (textT t).size ≤ 140737488355328 → LiesIn (fun x => x < B) w t tb tq → Laid w → Lib.IsBuilder 110 5 B b bs w → B ≤ w.heap.size →
  Calls Tryz.prog 185 #[.pointer (some ⟨b, 0, none⟩), .pointer (some ⟨tb, tq, none⟩)] w (WrPost B b bs (textT t) w)

theorem Laid_belowB {B : Nat} {w W : World} (h : Laid w) (hg : 0 < B) (hB : Below B w W) : Laid W := by
  obtain ⟨l0, l1, l2, l3, l4, l5⟩ := h
  have hk : W.heap[0]? = w.heap[0]? := hB.block _ hg
  refine ⟨?_, ?_, ?_, ?_, ?_, ?_⟩ <;> (rw [World.cell?_of_block (w := w) hk]; assumption)
theorem RowIn_carry' {S : Nat → Prop} {w w' : World} (hc : ∀ b, S b → w'.heap[b]? = w.heap[b]?) : ∀ {ts : List Tm} {xa : Option Addr}, RowIn S w ts xa → RowIn S w' ts xa
  | [], _, _ => by simp [RowIn]
  | t :: ts, xa, h => by
    simp only [RowIn] at h ⊢
    obtain ⟨b, o, e, hs, h1, h2⟩ := h
    have := LiesIn_carry (S' := S) hc (fun _ hb => hb) (t := t) (b := b) (o := o) ⟨hs, h1⟩
    exact ⟨b, o, e, this.1, this.2, RowIn_carry' hc h2⟩

set_option maxHeartbeats 1600000 in
set_option maxRecDepth 100000 in
theorem writeKids_any (B b m : Nat) (ih : WriteOk B b m) (hg : 0 < B) (ks : List Tm) (xa : Option Addr) (cap : Nat) (bs : List Value) (w : World) (hm : sizes ks ≤ m) (hM : m ≤ 1073741824) (hok : okL ks)
    (hz : bs.length + (textL bOpen false ks ++ bClose).size ≤ 140737488355328) (hcap : ks.length ≤ cap) (hR : RowIn (fun x => x < B) w ks xa) (hL : Laid w) (hb : Lib.IsBuilder 110 5 B b bs w) (hBw : B ≤ w.heap.size) :
    Calls Tryz.prog 213 #[.pointer (some ⟨b, 0, none⟩), .slice xa ks.length cap] w (WrPost B b bs (textL bOpen false ks ++ bClose) w) := by
  have hz2 := textL_sz ks bOpen false
  have hkl := length_le_sizes ks
  rw [ByteArray.size_append] at hz
  have hc1 : bClose.size = 1 := rfl
  rw [hc1] at hz
  have HW0 := Lib.hid (writeString_any B b bs bOpen w hb (by omega) hBw)
  have HR := Lib.hid hR
  have HK : Hid (∀ W, Below B w W → RowIn (fun x => x < B) W ks xa ∧ Laid W ∧ B ≤ W.heap.size) := fun W h => ⟨RowIn_carry' (fun b hb => h.block b hb) hR, Laid_belowB hL hg h, Nat.le_trans hBw h.size⟩
  have HIH := Lib.hid ih
  have HOK := Lib.hid hok
  have HZ := Lib.hid hz
  clear hR hL hb ih hok hz hz2 hc1
  go_enter Tryz.func213, Tryz.ntmps213
  go_wp2_with (go_at_call 95; refine (HW0.out).mono ?_; rintro e w1 ⟨he, hA1, hB1⟩; subst he; have HA1 := Lib.hid hA1; have HB1 := Lib.hid hB1; clear hA1 hB1)
  go_loopw [9] (fun i wr => ∃ j : Nat, j ≤ ks.length ∧ i = .int .i64 j ∧ Lib.BuilderAt 110 5 B b (.pointer (some ⟨b, 0, none⟩)) (bs ++ Lib.strCells (textL bOpen false (ks.take j))) wr ∧ Below B w wr) (fun i _ => ks.length - (intOf i).toNat)
  case atStart => exact ⟨0, Nat.zero_le _, rfl, by simpa [textL] using HA1.out, HB1.out⟩
  case round =>
    obtain ⟨j, hj, rfl, hA, hB⟩ := hrel
    have hlen : (bs ++ Lib.strCells (textL bOpen false (ks.take j))).length = bs.length + (textL bOpen false (ks.take j)).size := by rw [List.length_append, Lib.strCells_length]
    by_cases hlt : j < ks.length
    rotate_left
    · have hjl : ks.take j = ks := by rw [List.take_of_length_le]; omega
      rw [hjl] at hA hlen
      have HW := Lib.hid (writeString_any B b _ bClose wr (Or.inr hA) (by have := HZ.out; have hc1 : bClose.size = 1 := rfl; omega) (HK.out wr hB).2.2)
      have HB := Lib.hid hB
      clear hA hB hlen hjl
      go_wp2_with (go_at_call 95; refine (HW.out).mono ?_; rintro e w3 ⟨he, hA3, hB3⟩; subst he; have HA3 := Lib.hid hA3; have HB3 := Lib.hid hB3; clear hA3 hB3)
      go_end0
      refine ⟨rfl, ?_, HB.out.trans HB3.out⟩
      have := HA3.out
      rw [strCells_app, ← List.append_assoc]; exact this
    have hmo := textL_mono ks bOpen j hlt
    have htk := textL_take ks bOpen j hlt
    have hzz := HZ.out
    have hsz : size ks[j] ≤ sizes ks := size_le_sizes (List.getElem_mem hlt)
    obtain ⟨kb, ko, rfl⟩ := RowIn_at HR.out (by omega)
    have hK := RowIn_get (HK.out wr hB).1 j hlt
    have i1 : (0 : Int) ≤ (j : Int) := by omega
    have i2 : (j : Int) < (ks.length : Int) := by omega
    have i4 : (j : Int) < (cap : Int) := by omega
    rw [htk, ByteArray.size_append] at hmo
    by_cases hj0 : 0 < j
    · have i3 : (0 : Int) < (j : Int) := by omega
      rw [if_pos hj0, ByteArray.size_append] at hmo
      have hc2 : bComma.size = 2 := rfl
      have HW1 := Lib.hid (writeString_any B b _ bComma wr (Or.inr hA) (by omega) (HK.out wr hB).2.2)
      have HW2 : Hid (∀ w2, Lib.BuilderAt 110 5 B b (.pointer (some ⟨b, 0, none⟩)) ((bs ++ Lib.strCells (textL bOpen false (ks.take j))) ++ Lib.strCells bComma) w2 → Below B wr w2 →
          Calls Tryz.prog 185 #[.pointer (some ⟨b, 0, none⟩), .pointer (some ⟨kb, ko + j * 4, none⟩)] w2 (WrPost B b ((bs ++ Lib.strCells (textL bOpen false (ks.take j))) ++ Lib.strCells bComma) (textT ks[j]) w2)) := fun w2 hA2 hB2 =>
        HIH.out ks[j] kb (ko + j * 4) _ w2 (by omega) (okL_get ks j hlt HOK.out) (by rw [List.length_append, hlen, Lib.strCells_length]; omega) (RowIn_get (HK.out w2 (hB.trans hB2)).1 j hlt) (HK.out w2 (hB.trans hB2)).2.1 (Or.inr hA2) (HK.out w2 (hB.trans hB2)).2.2
      have HTK := Lib.hid htk
      have HB := Lib.hid hB
      clear hA hB hlen hmo htk hzz hsz hK
      go_wp2_with (first
        | (go_at_call 95; refine (HW1.out).mono ?_; rintro e w2 ⟨he, hA2, hB2⟩; subst he; have HA2 := Lib.hid hA2; have HB2 := Lib.hid hB2; clear hA2 hB2)
        | (go_at_call 185; refine (HW2.out _ HA2.out HB2.out).mono ?_; rintro e w3 ⟨he, hA3, hB3⟩; subst he; have HA3 := Lib.hid hA3; have HB3 := Lib.hid hB3; clear hA3 hB3))
      go_roundw
      case rel =>
        refine ⟨j + 1, by omega, by go_num, ?_, (HB.out.trans HB2.out).trans HB3.out⟩
        rw [HTK.out, if_pos hj0, strCells_app, strCells_app, ← List.append_assoc, ← List.append_assoc]; exact HA3.out
      case measure => simp [intOf]; omega
    · have i3 : ¬ (0 : Int) < (j : Int) := by omega
      rw [if_neg hj0] at hmo
      have HW2 := Lib.hid (HIH.out ks[j] kb (ko + j * 4) _ wr (by omega) (okL_get ks j hlt HOK.out) (by rw [hlen]; omega) hK (HK.out wr hB).2.1 (Or.inr hA) (HK.out wr hB).2.2)
      have HTK := Lib.hid htk
      have HB := Lib.hid hB
      clear hA hB hlen hmo htk hzz hsz hK
      go_wp2_with (go_at_call 185; refine (HW2.out).mono ?_; rintro e w3 ⟨he, hA3, hB3⟩; subst he; have HA3 := Lib.hid hA3; have HB3 := Lib.hid hB3; clear hA3 hB3)
      go_roundw
      case rel =>
        refine ⟨j + 1, by omega, by go_num, ?_, HB.out.trans HB3.out⟩
        rw [HTK.out, if_neg hj0, strCells_app, ← List.append_assoc]; exact HA3.out
      case measure => simp [intOf]; omega
end Go.Proofs.YtkfbbkkfagglhaaGreatDoor

/-
  THE WALKS OF term.write AND term.Format (made by gen_write.py).
-/
namespace Go.Proofs.YtkfbbkkfagglhaaGreatDoor
open Go.RowKit

/-- What is kept of the term and of the table of words. -/
def WrHeld (B tb tq : Nat) (k : Int) (n : ByteArray) (s : Int) (xl : Value) (w : World) : Prop :=
  ∀ W, Below B w W → (W.cell? ⟨tb, tq, none⟩ = some (.int .i64 k) ∧ W.cell? ⟨tb, tq + 1, none⟩ = some (.string n) ∧ W.cell? ⟨tb, tq + 2, none⟩ = some (.int .i64 s) ∧ W.cell? ⟨tb, tq + 3, none⟩ = some xl) ∧ Laid W ∧ B ≤ W.heap.size

set_option maxHeartbeats 1600000 in
set_option maxRecDepth 100000 in
theorem wr_var0 (B b tb tq : Nat) (n : ByteArray) (ks : List Tm) (xl : Value) (bs : List Value) (w : World) (hC : WrHeld B tb tq 1 n 0 xl w) (hb : Lib.IsBuilder 110 5 B b bs w) (hz : bs.length + (textT (.mk 1 n 0 ks)).size ≤ 140737488355328) :
    Calls Tryz.prog 185 #[.pointer (some ⟨b, 0, none⟩), .pointer (some ⟨tb, tq, none⟩)] w (WrPost B b bs (textT (.mk 1 n 0 ks)) w) := by
  have hT : textT (.mk 1 n 0 ks) = bQ ++ n := by simp [textT]
  rw [hT]
  rw [hT] at hz
  simp only [ByteArray.size_append] at hz
  have HC := Lib.hid hC
  obtain ⟨⟨g0, g1, g2, g3⟩, gL, gB⟩ := hC w (Below.refl _ _)
  obtain ⟨l0, l1, l2, l3, l4, l5⟩ := gL
  have H1 := Lib.hid (writeString_any B b bs bQ w hb (by omega) gB)
  have H2 : Hid (∀ w2, Lib.BuilderAt 110 5 B b (.pointer (some ⟨b, 0, none⟩)) (bs ++ Lib.strCells bQ) w2 → Below B w w2 → Calls Tryz.prog 95 #[.pointer (some ⟨b, 0, none⟩), .string n] w2 (fun e w' => e = .returned (.tuple #[.int .i64 (n).size, .nilIface]) ∧ (Lib.BuilderAt 110 5 B b (.pointer (some ⟨b, 0, none⟩)) ((bs ++ Lib.strCells bQ) ++ Lib.strCells n) w' ∧ Below B w2 w'))) :=
    fun w2 hA hB => writeString_any B b _ n w2 (Or.inr hA) (by simp only [List.length_append, Lib.strCells_length]; omega) (HC.out w2 hB).2.2
  have tok1 : True := trivial
  have tok2 : True := trivial
  clear hC hb hz hT gB
  go_enter Tryz.func185, Tryz.ntmps185
  go_wp2_with (first
    | (go_at_call 95; have _t := tok1; refine (H1.out).mono ?_; rintro e w1 ⟨he, hA, hB⟩; subst he; have HA1 := Lib.hid hA; have HB1 := Lib.hid hB; clear hA hB tok1; obtain ⟨⟨_, _, _, _⟩, hLL, _⟩ := HC.out _ HB1.out; obtain ⟨_, _, _, _, _, _⟩ := hLL)
    | (go_at_call 95; have _t := tok2; refine (H2.out _ HA1.out HB1.out).mono ?_; rintro e w2 ⟨he, hA, hB⟩; subst he; have HA2 := Lib.hid hA; have HB2 := Lib.hid (HB1.out.trans hB); clear hA hB tok2; obtain ⟨⟨_, _, _, _⟩, hLL, _⟩ := HC.out _ HB2.out; obtain ⟨_, _, _, _, _, _⟩ := hLL))
  go_end0
  refine ⟨rfl, ?_, HB2.out⟩
  have := HA2.out
  simp only [strCells_app, ← List.append_assoc]; exact this

set_option maxHeartbeats 1600000 in
set_option maxRecDepth 100000 in
theorem wr_var1 (B b tb tq : Nat) (n : ByteArray) (ks : List Tm) (xl : Value) (bs : List Value) (w : World) (hC : WrHeld B tb tq 1 n 1 xl w) (hb : Lib.IsBuilder 110 5 B b bs w) (hz : bs.length + (textT (.mk 1 n 1 ks)).size ≤ 140737488355328) :
    Calls Tryz.prog 185 #[.pointer (some ⟨b, 0, none⟩), .pointer (some ⟨tb, tq, none⟩)] w (WrPost B b bs (textT (.mk 1 n 1 ks)) w) := by
  have hT : textT (.mk 1 n 1 ks) = ((bQ ++ n) ++ bColon) ++ wAgent := by simp [textT, wordB]
  rw [hT]
  rw [hT] at hz
  simp only [ByteArray.size_append] at hz
  have HC := Lib.hid hC
  obtain ⟨⟨g0, g1, g2, g3⟩, gL, gB⟩ := hC w (Below.refl _ _)
  obtain ⟨l0, l1, l2, l3, l4, l5⟩ := gL
  have H1 := Lib.hid (writeString_any B b bs bQ w hb (by omega) gB)
  have H2 : Hid (∀ w2, Lib.BuilderAt 110 5 B b (.pointer (some ⟨b, 0, none⟩)) (bs ++ Lib.strCells bQ) w2 → Below B w w2 → Calls Tryz.prog 95 #[.pointer (some ⟨b, 0, none⟩), .string n] w2 (fun e w' => e = .returned (.tuple #[.int .i64 (n).size, .nilIface]) ∧ (Lib.BuilderAt 110 5 B b (.pointer (some ⟨b, 0, none⟩)) ((bs ++ Lib.strCells bQ) ++ Lib.strCells n) w' ∧ Below B w2 w'))) :=
    fun w2 hA hB => writeString_any B b _ n w2 (Or.inr hA) (by simp only [List.length_append, Lib.strCells_length]; omega) (HC.out w2 hB).2.2
  have H3 : Hid (∀ w2, Lib.BuilderAt 110 5 B b (.pointer (some ⟨b, 0, none⟩)) ((bs ++ Lib.strCells bQ) ++ Lib.strCells n) w2 → Below B w w2 → Calls Tryz.prog 95 #[.pointer (some ⟨b, 0, none⟩), .string bColon] w2 (fun e w' => e = .returned (.tuple #[.int .i64 (bColon).size, .nilIface]) ∧ (Lib.BuilderAt 110 5 B b (.pointer (some ⟨b, 0, none⟩)) (((bs ++ Lib.strCells bQ) ++ Lib.strCells n) ++ Lib.strCells bColon) w' ∧ Below B w2 w'))) :=
    fun w2 hA hB => writeString_any B b _ bColon w2 (Or.inr hA) (by simp only [List.length_append, Lib.strCells_length]; omega) (HC.out w2 hB).2.2
  have H4 : Hid (∀ w2, Lib.BuilderAt 110 5 B b (.pointer (some ⟨b, 0, none⟩)) (((bs ++ Lib.strCells bQ) ++ Lib.strCells n) ++ Lib.strCells bColon) w2 → Below B w w2 → Calls Tryz.prog 95 #[.pointer (some ⟨b, 0, none⟩), .string wAgent] w2 (fun e w' => e = .returned (.tuple #[.int .i64 (wAgent).size, .nilIface]) ∧ (Lib.BuilderAt 110 5 B b (.pointer (some ⟨b, 0, none⟩)) ((((bs ++ Lib.strCells bQ) ++ Lib.strCells n) ++ Lib.strCells bColon) ++ Lib.strCells wAgent) w' ∧ Below B w2 w'))) :=
    fun w2 hA hB => writeString_any B b _ wAgent w2 (Or.inr hA) (by simp only [List.length_append, Lib.strCells_length]; omega) (HC.out w2 hB).2.2
  have tok1 : True := trivial
  have tok2 : True := trivial
  have tok3 : True := trivial
  have tok4 : True := trivial
  clear hC hb hz hT gB
  go_enter Tryz.func185, Tryz.ntmps185
  go_wp2_with (first
    | (go_at_call 95; have _t := tok1; refine (H1.out).mono ?_; rintro e w1 ⟨he, hA, hB⟩; subst he; have HA1 := Lib.hid hA; have HB1 := Lib.hid hB; clear hA hB tok1; obtain ⟨⟨_, _, _, _⟩, hLL, _⟩ := HC.out _ HB1.out; obtain ⟨_, _, _, _, _, _⟩ := hLL)
    | (go_at_call 95; have _t := tok2; refine (H2.out _ HA1.out HB1.out).mono ?_; rintro e w2 ⟨he, hA, hB⟩; subst he; have HA2 := Lib.hid hA; have HB2 := Lib.hid (HB1.out.trans hB); clear hA hB tok2; obtain ⟨⟨_, _, _, _⟩, hLL, _⟩ := HC.out _ HB2.out; obtain ⟨_, _, _, _, _, _⟩ := hLL)
    | (go_at_call 95; have _t := tok3; refine (H3.out _ HA2.out HB2.out).mono ?_; rintro e w3 ⟨he, hA, hB⟩; subst he; have HA3 := Lib.hid hA; have HB3 := Lib.hid (HB2.out.trans hB); clear hA hB tok3; obtain ⟨⟨_, _, _, _⟩, hLL, _⟩ := HC.out _ HB3.out; obtain ⟨_, _, _, _, _, _⟩ := hLL)
    | (go_at_call 95; have _t := tok4; refine (H4.out _ HA3.out HB3.out).mono ?_; rintro e w4 ⟨he, hA, hB⟩; subst he; have HA4 := Lib.hid hA; have HB4 := Lib.hid (HB3.out.trans hB); clear hA hB tok4; obtain ⟨⟨_, _, _, _⟩, hLL, _⟩ := HC.out _ HB4.out; obtain ⟨_, _, _, _, _, _⟩ := hLL))
  go_end0
  refine ⟨rfl, ?_, HB4.out⟩
  have := HA4.out
  simp only [strCells_app, ← List.append_assoc]; exact this

set_option maxHeartbeats 1600000 in
set_option maxRecDepth 100000 in
theorem wr_var2 (B b tb tq : Nat) (n : ByteArray) (ks : List Tm) (xl : Value) (bs : List Value) (w : World) (hC : WrHeld B tb tq 1 n 2 xl w) (hb : Lib.IsBuilder 110 5 B b bs w) (hz : bs.length + (textT (.mk 1 n 2 ks)).size ≤ 140737488355328) :
    Calls Tryz.prog 185 #[.pointer (some ⟨b, 0, none⟩), .pointer (some ⟨tb, tq, none⟩)] w (WrPost B b bs (textT (.mk 1 n 2 ks)) w) := by
  have hT : textT (.mk 1 n 2 ks) = ((bQ ++ n) ++ bColon) ++ wNonce := by simp [textT, wordB]
  rw [hT]
  rw [hT] at hz
  simp only [ByteArray.size_append] at hz
  have HC := Lib.hid hC
  obtain ⟨⟨g0, g1, g2, g3⟩, gL, gB⟩ := hC w (Below.refl _ _)
  obtain ⟨l0, l1, l2, l3, l4, l5⟩ := gL
  have H1 := Lib.hid (writeString_any B b bs bQ w hb (by omega) gB)
  have H2 : Hid (∀ w2, Lib.BuilderAt 110 5 B b (.pointer (some ⟨b, 0, none⟩)) (bs ++ Lib.strCells bQ) w2 → Below B w w2 → Calls Tryz.prog 95 #[.pointer (some ⟨b, 0, none⟩), .string n] w2 (fun e w' => e = .returned (.tuple #[.int .i64 (n).size, .nilIface]) ∧ (Lib.BuilderAt 110 5 B b (.pointer (some ⟨b, 0, none⟩)) ((bs ++ Lib.strCells bQ) ++ Lib.strCells n) w' ∧ Below B w2 w'))) :=
    fun w2 hA hB => writeString_any B b _ n w2 (Or.inr hA) (by simp only [List.length_append, Lib.strCells_length]; omega) (HC.out w2 hB).2.2
  have H3 : Hid (∀ w2, Lib.BuilderAt 110 5 B b (.pointer (some ⟨b, 0, none⟩)) ((bs ++ Lib.strCells bQ) ++ Lib.strCells n) w2 → Below B w w2 → Calls Tryz.prog 95 #[.pointer (some ⟨b, 0, none⟩), .string bColon] w2 (fun e w' => e = .returned (.tuple #[.int .i64 (bColon).size, .nilIface]) ∧ (Lib.BuilderAt 110 5 B b (.pointer (some ⟨b, 0, none⟩)) (((bs ++ Lib.strCells bQ) ++ Lib.strCells n) ++ Lib.strCells bColon) w' ∧ Below B w2 w'))) :=
    fun w2 hA hB => writeString_any B b _ bColon w2 (Or.inr hA) (by simp only [List.length_append, Lib.strCells_length]; omega) (HC.out w2 hB).2.2
  have H4 : Hid (∀ w2, Lib.BuilderAt 110 5 B b (.pointer (some ⟨b, 0, none⟩)) (((bs ++ Lib.strCells bQ) ++ Lib.strCells n) ++ Lib.strCells bColon) w2 → Below B w w2 → Calls Tryz.prog 95 #[.pointer (some ⟨b, 0, none⟩), .string wNonce] w2 (fun e w' => e = .returned (.tuple #[.int .i64 (wNonce).size, .nilIface]) ∧ (Lib.BuilderAt 110 5 B b (.pointer (some ⟨b, 0, none⟩)) ((((bs ++ Lib.strCells bQ) ++ Lib.strCells n) ++ Lib.strCells bColon) ++ Lib.strCells wNonce) w' ∧ Below B w2 w'))) :=
    fun w2 hA hB => writeString_any B b _ wNonce w2 (Or.inr hA) (by simp only [List.length_append, Lib.strCells_length]; omega) (HC.out w2 hB).2.2
  have tok1 : True := trivial
  have tok2 : True := trivial
  have tok3 : True := trivial
  have tok4 : True := trivial
  clear hC hb hz hT gB
  go_enter Tryz.func185, Tryz.ntmps185
  go_wp2_with (first
    | (go_at_call 95; have _t := tok1; refine (H1.out).mono ?_; rintro e w1 ⟨he, hA, hB⟩; subst he; have HA1 := Lib.hid hA; have HB1 := Lib.hid hB; clear hA hB tok1; obtain ⟨⟨_, _, _, _⟩, hLL, _⟩ := HC.out _ HB1.out; obtain ⟨_, _, _, _, _, _⟩ := hLL)
    | (go_at_call 95; have _t := tok2; refine (H2.out _ HA1.out HB1.out).mono ?_; rintro e w2 ⟨he, hA, hB⟩; subst he; have HA2 := Lib.hid hA; have HB2 := Lib.hid (HB1.out.trans hB); clear hA hB tok2; obtain ⟨⟨_, _, _, _⟩, hLL, _⟩ := HC.out _ HB2.out; obtain ⟨_, _, _, _, _, _⟩ := hLL)
    | (go_at_call 95; have _t := tok3; refine (H3.out _ HA2.out HB2.out).mono ?_; rintro e w3 ⟨he, hA, hB⟩; subst he; have HA3 := Lib.hid hA; have HB3 := Lib.hid (HB2.out.trans hB); clear hA hB tok3; obtain ⟨⟨_, _, _, _⟩, hLL, _⟩ := HC.out _ HB3.out; obtain ⟨_, _, _, _, _, _⟩ := hLL)
    | (go_at_call 95; have _t := tok4; refine (H4.out _ HA3.out HB3.out).mono ?_; rintro e w4 ⟨he, hA, hB⟩; subst he; have HA4 := Lib.hid hA; have HB4 := Lib.hid (HB3.out.trans hB); clear hA hB tok4; obtain ⟨⟨_, _, _, _⟩, hLL, _⟩ := HC.out _ HB4.out; obtain ⟨_, _, _, _, _, _⟩ := hLL))
  go_end0
  refine ⟨rfl, ?_, HB4.out⟩
  have := HA4.out
  simp only [strCells_app, ← List.append_assoc]; exact this

set_option maxHeartbeats 1600000 in
set_option maxRecDepth 100000 in
theorem wr_var3 (B b tb tq : Nat) (n : ByteArray) (ks : List Tm) (xl : Value) (bs : List Value) (w : World) (hC : WrHeld B tb tq 1 n 3 xl w) (hb : Lib.IsBuilder 110 5 B b bs w) (hz : bs.length + (textT (.mk 1 n 3 ks)).size ≤ 140737488355328) :
    Calls Tryz.prog 185 #[.pointer (some ⟨b, 0, none⟩), .pointer (some ⟨tb, tq, none⟩)] w (WrPost B b bs (textT (.mk 1 n 3 ks)) w) := by
  have hT : textT (.mk 1 n 3 ks) = ((bQ ++ n) ++ bColon) ++ wKey := by simp [textT, wordB]
  rw [hT]
  rw [hT] at hz
  simp only [ByteArray.size_append] at hz
  have HC := Lib.hid hC
  obtain ⟨⟨g0, g1, g2, g3⟩, gL, gB⟩ := hC w (Below.refl _ _)
  obtain ⟨l0, l1, l2, l3, l4, l5⟩ := gL
  have H1 := Lib.hid (writeString_any B b bs bQ w hb (by omega) gB)
  have H2 : Hid (∀ w2, Lib.BuilderAt 110 5 B b (.pointer (some ⟨b, 0, none⟩)) (bs ++ Lib.strCells bQ) w2 → Below B w w2 → Calls Tryz.prog 95 #[.pointer (some ⟨b, 0, none⟩), .string n] w2 (fun e w' => e = .returned (.tuple #[.int .i64 (n).size, .nilIface]) ∧ (Lib.BuilderAt 110 5 B b (.pointer (some ⟨b, 0, none⟩)) ((bs ++ Lib.strCells bQ) ++ Lib.strCells n) w' ∧ Below B w2 w'))) :=
    fun w2 hA hB => writeString_any B b _ n w2 (Or.inr hA) (by simp only [List.length_append, Lib.strCells_length]; omega) (HC.out w2 hB).2.2
  have H3 : Hid (∀ w2, Lib.BuilderAt 110 5 B b (.pointer (some ⟨b, 0, none⟩)) ((bs ++ Lib.strCells bQ) ++ Lib.strCells n) w2 → Below B w w2 → Calls Tryz.prog 95 #[.pointer (some ⟨b, 0, none⟩), .string bColon] w2 (fun e w' => e = .returned (.tuple #[.int .i64 (bColon).size, .nilIface]) ∧ (Lib.BuilderAt 110 5 B b (.pointer (some ⟨b, 0, none⟩)) (((bs ++ Lib.strCells bQ) ++ Lib.strCells n) ++ Lib.strCells bColon) w' ∧ Below B w2 w'))) :=
    fun w2 hA hB => writeString_any B b _ bColon w2 (Or.inr hA) (by simp only [List.length_append, Lib.strCells_length]; omega) (HC.out w2 hB).2.2
  have H4 : Hid (∀ w2, Lib.BuilderAt 110 5 B b (.pointer (some ⟨b, 0, none⟩)) (((bs ++ Lib.strCells bQ) ++ Lib.strCells n) ++ Lib.strCells bColon) w2 → Below B w w2 → Calls Tryz.prog 95 #[.pointer (some ⟨b, 0, none⟩), .string wKey] w2 (fun e w' => e = .returned (.tuple #[.int .i64 (wKey).size, .nilIface]) ∧ (Lib.BuilderAt 110 5 B b (.pointer (some ⟨b, 0, none⟩)) ((((bs ++ Lib.strCells bQ) ++ Lib.strCells n) ++ Lib.strCells bColon) ++ Lib.strCells wKey) w' ∧ Below B w2 w'))) :=
    fun w2 hA hB => writeString_any B b _ wKey w2 (Or.inr hA) (by simp only [List.length_append, Lib.strCells_length]; omega) (HC.out w2 hB).2.2
  have tok1 : True := trivial
  have tok2 : True := trivial
  have tok3 : True := trivial
  have tok4 : True := trivial
  clear hC hb hz hT gB
  go_enter Tryz.func185, Tryz.ntmps185
  go_wp2_with (first
    | (go_at_call 95; have _t := tok1; refine (H1.out).mono ?_; rintro e w1 ⟨he, hA, hB⟩; subst he; have HA1 := Lib.hid hA; have HB1 := Lib.hid hB; clear hA hB tok1; obtain ⟨⟨_, _, _, _⟩, hLL, _⟩ := HC.out _ HB1.out; obtain ⟨_, _, _, _, _, _⟩ := hLL)
    | (go_at_call 95; have _t := tok2; refine (H2.out _ HA1.out HB1.out).mono ?_; rintro e w2 ⟨he, hA, hB⟩; subst he; have HA2 := Lib.hid hA; have HB2 := Lib.hid (HB1.out.trans hB); clear hA hB tok2; obtain ⟨⟨_, _, _, _⟩, hLL, _⟩ := HC.out _ HB2.out; obtain ⟨_, _, _, _, _, _⟩ := hLL)
    | (go_at_call 95; have _t := tok3; refine (H3.out _ HA2.out HB2.out).mono ?_; rintro e w3 ⟨he, hA, hB⟩; subst he; have HA3 := Lib.hid hA; have HB3 := Lib.hid (HB2.out.trans hB); clear hA hB tok3; obtain ⟨⟨_, _, _, _⟩, hLL, _⟩ := HC.out _ HB3.out; obtain ⟨_, _, _, _, _, _⟩ := hLL)
    | (go_at_call 95; have _t := tok4; refine (H4.out _ HA3.out HB3.out).mono ?_; rintro e w4 ⟨he, hA, hB⟩; subst he; have HA4 := Lib.hid hA; have HB4 := Lib.hid (HB3.out.trans hB); clear hA hB tok4; obtain ⟨⟨_, _, _, _⟩, hLL, _⟩ := HC.out _ HB4.out; obtain ⟨_, _, _, _, _, _⟩ := hLL))
  go_end0
  refine ⟨rfl, ?_, HB4.out⟩
  have := HA4.out
  simp only [strCells_app, ← List.append_assoc]; exact this

set_option maxHeartbeats 1600000 in
set_option maxRecDepth 100000 in
theorem wr_var4 (B b tb tq : Nat) (n : ByteArray) (ks : List Tm) (xl : Value) (bs : List Value) (w : World) (hC : WrHeld B tb tq 1 n 4 xl w) (hb : Lib.IsBuilder 110 5 B b bs w) (hz : bs.length + (textT (.mk 1 n 4 ks)).size ≤ 140737488355328) :
    Calls Tryz.prog 185 #[.pointer (some ⟨b, 0, none⟩), .pointer (some ⟨tb, tq, none⟩)] w (WrPost B b bs (textT (.mk 1 n 4 ks)) w) := by
  have hT : textT (.mk 1 n 4 ks) = ((bQ ++ n) ++ bColon) ++ wData := by simp [textT, wordB]
  rw [hT]
  rw [hT] at hz
  simp only [ByteArray.size_append] at hz
  have HC := Lib.hid hC
  obtain ⟨⟨g0, g1, g2, g3⟩, gL, gB⟩ := hC w (Below.refl _ _)
  obtain ⟨l0, l1, l2, l3, l4, l5⟩ := gL
  have H1 := Lib.hid (writeString_any B b bs bQ w hb (by omega) gB)
  have H2 : Hid (∀ w2, Lib.BuilderAt 110 5 B b (.pointer (some ⟨b, 0, none⟩)) (bs ++ Lib.strCells bQ) w2 → Below B w w2 → Calls Tryz.prog 95 #[.pointer (some ⟨b, 0, none⟩), .string n] w2 (fun e w' => e = .returned (.tuple #[.int .i64 (n).size, .nilIface]) ∧ (Lib.BuilderAt 110 5 B b (.pointer (some ⟨b, 0, none⟩)) ((bs ++ Lib.strCells bQ) ++ Lib.strCells n) w' ∧ Below B w2 w'))) :=
    fun w2 hA hB => writeString_any B b _ n w2 (Or.inr hA) (by simp only [List.length_append, Lib.strCells_length]; omega) (HC.out w2 hB).2.2
  have H3 : Hid (∀ w2, Lib.BuilderAt 110 5 B b (.pointer (some ⟨b, 0, none⟩)) ((bs ++ Lib.strCells bQ) ++ Lib.strCells n) w2 → Below B w w2 → Calls Tryz.prog 95 #[.pointer (some ⟨b, 0, none⟩), .string bColon] w2 (fun e w' => e = .returned (.tuple #[.int .i64 (bColon).size, .nilIface]) ∧ (Lib.BuilderAt 110 5 B b (.pointer (some ⟨b, 0, none⟩)) (((bs ++ Lib.strCells bQ) ++ Lib.strCells n) ++ Lib.strCells bColon) w' ∧ Below B w2 w'))) :=
    fun w2 hA hB => writeString_any B b _ bColon w2 (Or.inr hA) (by simp only [List.length_append, Lib.strCells_length]; omega) (HC.out w2 hB).2.2
  have H4 : Hid (∀ w2, Lib.BuilderAt 110 5 B b (.pointer (some ⟨b, 0, none⟩)) (((bs ++ Lib.strCells bQ) ++ Lib.strCells n) ++ Lib.strCells bColon) w2 → Below B w w2 → Calls Tryz.prog 95 #[.pointer (some ⟨b, 0, none⟩), .string wData] w2 (fun e w' => e = .returned (.tuple #[.int .i64 (wData).size, .nilIface]) ∧ (Lib.BuilderAt 110 5 B b (.pointer (some ⟨b, 0, none⟩)) ((((bs ++ Lib.strCells bQ) ++ Lib.strCells n) ++ Lib.strCells bColon) ++ Lib.strCells wData) w' ∧ Below B w2 w'))) :=
    fun w2 hA hB => writeString_any B b _ wData w2 (Or.inr hA) (by simp only [List.length_append, Lib.strCells_length]; omega) (HC.out w2 hB).2.2
  have tok1 : True := trivial
  have tok2 : True := trivial
  have tok3 : True := trivial
  have tok4 : True := trivial
  clear hC hb hz hT gB
  go_enter Tryz.func185, Tryz.ntmps185
  go_wp2_with (first
    | (go_at_call 95; have _t := tok1; refine (H1.out).mono ?_; rintro e w1 ⟨he, hA, hB⟩; subst he; have HA1 := Lib.hid hA; have HB1 := Lib.hid hB; clear hA hB tok1; obtain ⟨⟨_, _, _, _⟩, hLL, _⟩ := HC.out _ HB1.out; obtain ⟨_, _, _, _, _, _⟩ := hLL)
    | (go_at_call 95; have _t := tok2; refine (H2.out _ HA1.out HB1.out).mono ?_; rintro e w2 ⟨he, hA, hB⟩; subst he; have HA2 := Lib.hid hA; have HB2 := Lib.hid (HB1.out.trans hB); clear hA hB tok2; obtain ⟨⟨_, _, _, _⟩, hLL, _⟩ := HC.out _ HB2.out; obtain ⟨_, _, _, _, _, _⟩ := hLL)
    | (go_at_call 95; have _t := tok3; refine (H3.out _ HA2.out HB2.out).mono ?_; rintro e w3 ⟨he, hA, hB⟩; subst he; have HA3 := Lib.hid hA; have HB3 := Lib.hid (HB2.out.trans hB); clear hA hB tok3; obtain ⟨⟨_, _, _, _⟩, hLL, _⟩ := HC.out _ HB3.out; obtain ⟨_, _, _, _, _, _⟩ := hLL)
    | (go_at_call 95; have _t := tok4; refine (H4.out _ HA3.out HB3.out).mono ?_; rintro e w4 ⟨he, hA, hB⟩; subst he; have HA4 := Lib.hid hA; have HB4 := Lib.hid (HB3.out.trans hB); clear hA hB tok4; obtain ⟨⟨_, _, _, _⟩, hLL, _⟩ := HC.out _ HB4.out; obtain ⟨_, _, _, _, _, _⟩ := hLL))
  go_end0
  refine ⟨rfl, ?_, HB4.out⟩
  have := HA4.out
  simp only [strCells_app, ← List.append_assoc]; exact this

set_option maxHeartbeats 1600000 in
set_option maxRecDepth 100000 in
theorem wr_var5 (B b tb tq : Nat) (n : ByteArray) (ks : List Tm) (xl : Value) (bs : List Value) (w : World) (hC : WrHeld B tb tq 1 n 5 xl w) (hb : Lib.IsBuilder 110 5 B b bs w) (hz : bs.length + (textT (.mk 1 n 5 ks)).size ≤ 140737488355328) :
    Calls Tryz.prog 185 #[.pointer (some ⟨b, 0, none⟩), .pointer (some ⟨tb, tq, none⟩)] w (WrPost B b bs (textT (.mk 1 n 5 ks)) w) := by
  have hT : textT (.mk 1 n 5 ks) = ((bQ ++ n) ++ bColon) ++ wTag := by simp [textT, wordB]
  rw [hT]
  rw [hT] at hz
  simp only [ByteArray.size_append] at hz
  have HC := Lib.hid hC
  obtain ⟨⟨g0, g1, g2, g3⟩, gL, gB⟩ := hC w (Below.refl _ _)
  obtain ⟨l0, l1, l2, l3, l4, l5⟩ := gL
  have H1 := Lib.hid (writeString_any B b bs bQ w hb (by omega) gB)
  have H2 : Hid (∀ w2, Lib.BuilderAt 110 5 B b (.pointer (some ⟨b, 0, none⟩)) (bs ++ Lib.strCells bQ) w2 → Below B w w2 → Calls Tryz.prog 95 #[.pointer (some ⟨b, 0, none⟩), .string n] w2 (fun e w' => e = .returned (.tuple #[.int .i64 (n).size, .nilIface]) ∧ (Lib.BuilderAt 110 5 B b (.pointer (some ⟨b, 0, none⟩)) ((bs ++ Lib.strCells bQ) ++ Lib.strCells n) w' ∧ Below B w2 w'))) :=
    fun w2 hA hB => writeString_any B b _ n w2 (Or.inr hA) (by simp only [List.length_append, Lib.strCells_length]; omega) (HC.out w2 hB).2.2
  have H3 : Hid (∀ w2, Lib.BuilderAt 110 5 B b (.pointer (some ⟨b, 0, none⟩)) ((bs ++ Lib.strCells bQ) ++ Lib.strCells n) w2 → Below B w w2 → Calls Tryz.prog 95 #[.pointer (some ⟨b, 0, none⟩), .string bColon] w2 (fun e w' => e = .returned (.tuple #[.int .i64 (bColon).size, .nilIface]) ∧ (Lib.BuilderAt 110 5 B b (.pointer (some ⟨b, 0, none⟩)) (((bs ++ Lib.strCells bQ) ++ Lib.strCells n) ++ Lib.strCells bColon) w' ∧ Below B w2 w'))) :=
    fun w2 hA hB => writeString_any B b _ bColon w2 (Or.inr hA) (by simp only [List.length_append, Lib.strCells_length]; omega) (HC.out w2 hB).2.2
  have H4 : Hid (∀ w2, Lib.BuilderAt 110 5 B b (.pointer (some ⟨b, 0, none⟩)) (((bs ++ Lib.strCells bQ) ++ Lib.strCells n) ++ Lib.strCells bColon) w2 → Below B w w2 → Calls Tryz.prog 95 #[.pointer (some ⟨b, 0, none⟩), .string wTag] w2 (fun e w' => e = .returned (.tuple #[.int .i64 (wTag).size, .nilIface]) ∧ (Lib.BuilderAt 110 5 B b (.pointer (some ⟨b, 0, none⟩)) ((((bs ++ Lib.strCells bQ) ++ Lib.strCells n) ++ Lib.strCells bColon) ++ Lib.strCells wTag) w' ∧ Below B w2 w'))) :=
    fun w2 hA hB => writeString_any B b _ wTag w2 (Or.inr hA) (by simp only [List.length_append, Lib.strCells_length]; omega) (HC.out w2 hB).2.2
  have tok1 : True := trivial
  have tok2 : True := trivial
  have tok3 : True := trivial
  have tok4 : True := trivial
  clear hC hb hz hT gB
  go_enter Tryz.func185, Tryz.ntmps185
  go_wp2_with (first
    | (go_at_call 95; have _t := tok1; refine (H1.out).mono ?_; rintro e w1 ⟨he, hA, hB⟩; subst he; have HA1 := Lib.hid hA; have HB1 := Lib.hid hB; clear hA hB tok1; obtain ⟨⟨_, _, _, _⟩, hLL, _⟩ := HC.out _ HB1.out; obtain ⟨_, _, _, _, _, _⟩ := hLL)
    | (go_at_call 95; have _t := tok2; refine (H2.out _ HA1.out HB1.out).mono ?_; rintro e w2 ⟨he, hA, hB⟩; subst he; have HA2 := Lib.hid hA; have HB2 := Lib.hid (HB1.out.trans hB); clear hA hB tok2; obtain ⟨⟨_, _, _, _⟩, hLL, _⟩ := HC.out _ HB2.out; obtain ⟨_, _, _, _, _, _⟩ := hLL)
    | (go_at_call 95; have _t := tok3; refine (H3.out _ HA2.out HB2.out).mono ?_; rintro e w3 ⟨he, hA, hB⟩; subst he; have HA3 := Lib.hid hA; have HB3 := Lib.hid (HB2.out.trans hB); clear hA hB tok3; obtain ⟨⟨_, _, _, _⟩, hLL, _⟩ := HC.out _ HB3.out; obtain ⟨_, _, _, _, _, _⟩ := hLL)
    | (go_at_call 95; have _t := tok4; refine (H4.out _ HA3.out HB3.out).mono ?_; rintro e w4 ⟨he, hA, hB⟩; subst he; have HA4 := Lib.hid hA; have HB4 := Lib.hid (HB3.out.trans hB); clear hA hB tok4; obtain ⟨⟨_, _, _, _⟩, hLL, _⟩ := HC.out _ HB4.out; obtain ⟨_, _, _, _, _, _⟩ := hLL))
  go_end0
  refine ⟨rfl, ?_, HB4.out⟩
  have := HA4.out
  simp only [strCells_app, ← List.append_assoc]; exact this

set_option maxHeartbeats 1600000 in
set_option maxRecDepth 100000 in
theorem wr_atom0 (B b tb tq : Nat) (n : ByteArray) (ks : List Tm) (xl : Value) (bs : List Value) (w : World) (hC : WrHeld B tb tq 2 n 0 xl w) (hb : Lib.IsBuilder 110 5 B b bs w) (hz : bs.length + (textT (.mk 2 n 0 ks)).size ≤ 140737488355328) :
    Calls Tryz.prog 185 #[.pointer (some ⟨b, 0, none⟩), .pointer (some ⟨tb, tq, none⟩)] w (WrPost B b bs (textT (.mk 2 n 0 ks)) w) := by
  have hT : textT (.mk 2 n 0 ks) = (n ++ bColon) ++ wAny := by simp [textT, wordB]
  rw [hT]
  rw [hT] at hz
  simp only [ByteArray.size_append] at hz
  have HC := Lib.hid hC
  obtain ⟨⟨g0, g1, g2, g3⟩, gL, gB⟩ := hC w (Below.refl _ _)
  obtain ⟨l0, l1, l2, l3, l4, l5⟩ := gL
  have H1 := Lib.hid (writeString_any B b bs n w hb (by omega) gB)
  have H2 : Hid (∀ w2, Lib.BuilderAt 110 5 B b (.pointer (some ⟨b, 0, none⟩)) (bs ++ Lib.strCells n) w2 → Below B w w2 → Calls Tryz.prog 95 #[.pointer (some ⟨b, 0, none⟩), .string bColon] w2 (fun e w' => e = .returned (.tuple #[.int .i64 (bColon).size, .nilIface]) ∧ (Lib.BuilderAt 110 5 B b (.pointer (some ⟨b, 0, none⟩)) ((bs ++ Lib.strCells n) ++ Lib.strCells bColon) w' ∧ Below B w2 w'))) :=
    fun w2 hA hB => writeString_any B b _ bColon w2 (Or.inr hA) (by simp only [List.length_append, Lib.strCells_length]; omega) (HC.out w2 hB).2.2
  have H3 : Hid (∀ w2, Lib.BuilderAt 110 5 B b (.pointer (some ⟨b, 0, none⟩)) ((bs ++ Lib.strCells n) ++ Lib.strCells bColon) w2 → Below B w w2 → Calls Tryz.prog 95 #[.pointer (some ⟨b, 0, none⟩), .string wAny] w2 (fun e w' => e = .returned (.tuple #[.int .i64 (wAny).size, .nilIface]) ∧ (Lib.BuilderAt 110 5 B b (.pointer (some ⟨b, 0, none⟩)) (((bs ++ Lib.strCells n) ++ Lib.strCells bColon) ++ Lib.strCells wAny) w' ∧ Below B w2 w'))) :=
    fun w2 hA hB => writeString_any B b _ wAny w2 (Or.inr hA) (by simp only [List.length_append, Lib.strCells_length]; omega) (HC.out w2 hB).2.2
  have tok1 : True := trivial
  have tok2 : True := trivial
  have tok3 : True := trivial
  clear hC hb hz hT gB
  go_enter Tryz.func185, Tryz.ntmps185
  go_wp2_with (first
    | (go_at_call 95; have _t := tok1; refine (H1.out).mono ?_; rintro e w1 ⟨he, hA, hB⟩; subst he; have HA1 := Lib.hid hA; have HB1 := Lib.hid hB; clear hA hB tok1; obtain ⟨⟨_, _, _, _⟩, hLL, _⟩ := HC.out _ HB1.out; obtain ⟨_, _, _, _, _, _⟩ := hLL)
    | (go_at_call 95; have _t := tok2; refine (H2.out _ HA1.out HB1.out).mono ?_; rintro e w2 ⟨he, hA, hB⟩; subst he; have HA2 := Lib.hid hA; have HB2 := Lib.hid (HB1.out.trans hB); clear hA hB tok2; obtain ⟨⟨_, _, _, _⟩, hLL, _⟩ := HC.out _ HB2.out; obtain ⟨_, _, _, _, _, _⟩ := hLL)
    | (go_at_call 95; have _t := tok3; refine (H3.out _ HA2.out HB2.out).mono ?_; rintro e w3 ⟨he, hA, hB⟩; subst he; have HA3 := Lib.hid hA; have HB3 := Lib.hid (HB2.out.trans hB); clear hA hB tok3; obtain ⟨⟨_, _, _, _⟩, hLL, _⟩ := HC.out _ HB3.out; obtain ⟨_, _, _, _, _, _⟩ := hLL))
  go_end0
  refine ⟨rfl, ?_, HB3.out⟩
  have := HA3.out
  simp only [strCells_app, ← List.append_assoc]; exact this

set_option maxHeartbeats 1600000 in
set_option maxRecDepth 100000 in
theorem wr_atom1 (B b tb tq : Nat) (n : ByteArray) (ks : List Tm) (xl : Value) (bs : List Value) (w : World) (hC : WrHeld B tb tq 2 n 1 xl w) (hb : Lib.IsBuilder 110 5 B b bs w) (hz : bs.length + (textT (.mk 2 n 1 ks)).size ≤ 140737488355328) :
    Calls Tryz.prog 185 #[.pointer (some ⟨b, 0, none⟩), .pointer (some ⟨tb, tq, none⟩)] w (WrPost B b bs (textT (.mk 2 n 1 ks)) w) := by
  have hT : textT (.mk 2 n 1 ks) = (n ++ bColon) ++ wAgent := by simp [textT, wordB]
  rw [hT]
  rw [hT] at hz
  simp only [ByteArray.size_append] at hz
  have HC := Lib.hid hC
  obtain ⟨⟨g0, g1, g2, g3⟩, gL, gB⟩ := hC w (Below.refl _ _)
  obtain ⟨l0, l1, l2, l3, l4, l5⟩ := gL
  have H1 := Lib.hid (writeString_any B b bs n w hb (by omega) gB)
  have H2 : Hid (∀ w2, Lib.BuilderAt 110 5 B b (.pointer (some ⟨b, 0, none⟩)) (bs ++ Lib.strCells n) w2 → Below B w w2 → Calls Tryz.prog 95 #[.pointer (some ⟨b, 0, none⟩), .string bColon] w2 (fun e w' => e = .returned (.tuple #[.int .i64 (bColon).size, .nilIface]) ∧ (Lib.BuilderAt 110 5 B b (.pointer (some ⟨b, 0, none⟩)) ((bs ++ Lib.strCells n) ++ Lib.strCells bColon) w' ∧ Below B w2 w'))) :=
    fun w2 hA hB => writeString_any B b _ bColon w2 (Or.inr hA) (by simp only [List.length_append, Lib.strCells_length]; omega) (HC.out w2 hB).2.2
  have H3 : Hid (∀ w2, Lib.BuilderAt 110 5 B b (.pointer (some ⟨b, 0, none⟩)) ((bs ++ Lib.strCells n) ++ Lib.strCells bColon) w2 → Below B w w2 → Calls Tryz.prog 95 #[.pointer (some ⟨b, 0, none⟩), .string wAgent] w2 (fun e w' => e = .returned (.tuple #[.int .i64 (wAgent).size, .nilIface]) ∧ (Lib.BuilderAt 110 5 B b (.pointer (some ⟨b, 0, none⟩)) (((bs ++ Lib.strCells n) ++ Lib.strCells bColon) ++ Lib.strCells wAgent) w' ∧ Below B w2 w'))) :=
    fun w2 hA hB => writeString_any B b _ wAgent w2 (Or.inr hA) (by simp only [List.length_append, Lib.strCells_length]; omega) (HC.out w2 hB).2.2
  have tok1 : True := trivial
  have tok2 : True := trivial
  have tok3 : True := trivial
  clear hC hb hz hT gB
  go_enter Tryz.func185, Tryz.ntmps185
  go_wp2_with (first
    | (go_at_call 95; have _t := tok1; refine (H1.out).mono ?_; rintro e w1 ⟨he, hA, hB⟩; subst he; have HA1 := Lib.hid hA; have HB1 := Lib.hid hB; clear hA hB tok1; obtain ⟨⟨_, _, _, _⟩, hLL, _⟩ := HC.out _ HB1.out; obtain ⟨_, _, _, _, _, _⟩ := hLL)
    | (go_at_call 95; have _t := tok2; refine (H2.out _ HA1.out HB1.out).mono ?_; rintro e w2 ⟨he, hA, hB⟩; subst he; have HA2 := Lib.hid hA; have HB2 := Lib.hid (HB1.out.trans hB); clear hA hB tok2; obtain ⟨⟨_, _, _, _⟩, hLL, _⟩ := HC.out _ HB2.out; obtain ⟨_, _, _, _, _, _⟩ := hLL)
    | (go_at_call 95; have _t := tok3; refine (H3.out _ HA2.out HB2.out).mono ?_; rintro e w3 ⟨he, hA, hB⟩; subst he; have HA3 := Lib.hid hA; have HB3 := Lib.hid (HB2.out.trans hB); clear hA hB tok3; obtain ⟨⟨_, _, _, _⟩, hLL, _⟩ := HC.out _ HB3.out; obtain ⟨_, _, _, _, _, _⟩ := hLL))
  go_end0
  refine ⟨rfl, ?_, HB3.out⟩
  have := HA3.out
  simp only [strCells_app, ← List.append_assoc]; exact this

set_option maxHeartbeats 1600000 in
set_option maxRecDepth 100000 in
theorem wr_atom2 (B b tb tq : Nat) (n : ByteArray) (ks : List Tm) (xl : Value) (bs : List Value) (w : World) (hC : WrHeld B tb tq 2 n 2 xl w) (hb : Lib.IsBuilder 110 5 B b bs w) (hz : bs.length + (textT (.mk 2 n 2 ks)).size ≤ 140737488355328) :
    Calls Tryz.prog 185 #[.pointer (some ⟨b, 0, none⟩), .pointer (some ⟨tb, tq, none⟩)] w (WrPost B b bs (textT (.mk 2 n 2 ks)) w) := by
  have hT : textT (.mk 2 n 2 ks) = (n ++ bColon) ++ wNonce := by simp [textT, wordB]
  rw [hT]
  rw [hT] at hz
  simp only [ByteArray.size_append] at hz
  have HC := Lib.hid hC
  obtain ⟨⟨g0, g1, g2, g3⟩, gL, gB⟩ := hC w (Below.refl _ _)
  obtain ⟨l0, l1, l2, l3, l4, l5⟩ := gL
  have H1 := Lib.hid (writeString_any B b bs n w hb (by omega) gB)
  have H2 : Hid (∀ w2, Lib.BuilderAt 110 5 B b (.pointer (some ⟨b, 0, none⟩)) (bs ++ Lib.strCells n) w2 → Below B w w2 → Calls Tryz.prog 95 #[.pointer (some ⟨b, 0, none⟩), .string bColon] w2 (fun e w' => e = .returned (.tuple #[.int .i64 (bColon).size, .nilIface]) ∧ (Lib.BuilderAt 110 5 B b (.pointer (some ⟨b, 0, none⟩)) ((bs ++ Lib.strCells n) ++ Lib.strCells bColon) w' ∧ Below B w2 w'))) :=
    fun w2 hA hB => writeString_any B b _ bColon w2 (Or.inr hA) (by simp only [List.length_append, Lib.strCells_length]; omega) (HC.out w2 hB).2.2
  have H3 : Hid (∀ w2, Lib.BuilderAt 110 5 B b (.pointer (some ⟨b, 0, none⟩)) ((bs ++ Lib.strCells n) ++ Lib.strCells bColon) w2 → Below B w w2 → Calls Tryz.prog 95 #[.pointer (some ⟨b, 0, none⟩), .string wNonce] w2 (fun e w' => e = .returned (.tuple #[.int .i64 (wNonce).size, .nilIface]) ∧ (Lib.BuilderAt 110 5 B b (.pointer (some ⟨b, 0, none⟩)) (((bs ++ Lib.strCells n) ++ Lib.strCells bColon) ++ Lib.strCells wNonce) w' ∧ Below B w2 w'))) :=
    fun w2 hA hB => writeString_any B b _ wNonce w2 (Or.inr hA) (by simp only [List.length_append, Lib.strCells_length]; omega) (HC.out w2 hB).2.2
  have tok1 : True := trivial
  have tok2 : True := trivial
  have tok3 : True := trivial
  clear hC hb hz hT gB
  go_enter Tryz.func185, Tryz.ntmps185
  go_wp2_with (first
    | (go_at_call 95; have _t := tok1; refine (H1.out).mono ?_; rintro e w1 ⟨he, hA, hB⟩; subst he; have HA1 := Lib.hid hA; have HB1 := Lib.hid hB; clear hA hB tok1; obtain ⟨⟨_, _, _, _⟩, hLL, _⟩ := HC.out _ HB1.out; obtain ⟨_, _, _, _, _, _⟩ := hLL)
    | (go_at_call 95; have _t := tok2; refine (H2.out _ HA1.out HB1.out).mono ?_; rintro e w2 ⟨he, hA, hB⟩; subst he; have HA2 := Lib.hid hA; have HB2 := Lib.hid (HB1.out.trans hB); clear hA hB tok2; obtain ⟨⟨_, _, _, _⟩, hLL, _⟩ := HC.out _ HB2.out; obtain ⟨_, _, _, _, _, _⟩ := hLL)
    | (go_at_call 95; have _t := tok3; refine (H3.out _ HA2.out HB2.out).mono ?_; rintro e w3 ⟨he, hA, hB⟩; subst he; have HA3 := Lib.hid hA; have HB3 := Lib.hid (HB2.out.trans hB); clear hA hB tok3; obtain ⟨⟨_, _, _, _⟩, hLL, _⟩ := HC.out _ HB3.out; obtain ⟨_, _, _, _, _, _⟩ := hLL))
  go_end0
  refine ⟨rfl, ?_, HB3.out⟩
  have := HA3.out
  simp only [strCells_app, ← List.append_assoc]; exact this

set_option maxHeartbeats 1600000 in
set_option maxRecDepth 100000 in
theorem wr_atom3 (B b tb tq : Nat) (n : ByteArray) (ks : List Tm) (xl : Value) (bs : List Value) (w : World) (hC : WrHeld B tb tq 2 n 3 xl w) (hb : Lib.IsBuilder 110 5 B b bs w) (hz : bs.length + (textT (.mk 2 n 3 ks)).size ≤ 140737488355328) :
    Calls Tryz.prog 185 #[.pointer (some ⟨b, 0, none⟩), .pointer (some ⟨tb, tq, none⟩)] w (WrPost B b bs (textT (.mk 2 n 3 ks)) w) := by
  have hT : textT (.mk 2 n 3 ks) = (n ++ bColon) ++ wKey := by simp [textT, wordB]
  rw [hT]
  rw [hT] at hz
  simp only [ByteArray.size_append] at hz
  have HC := Lib.hid hC
  obtain ⟨⟨g0, g1, g2, g3⟩, gL, gB⟩ := hC w (Below.refl _ _)
  obtain ⟨l0, l1, l2, l3, l4, l5⟩ := gL
  have H1 := Lib.hid (writeString_any B b bs n w hb (by omega) gB)
  have H2 : Hid (∀ w2, Lib.BuilderAt 110 5 B b (.pointer (some ⟨b, 0, none⟩)) (bs ++ Lib.strCells n) w2 → Below B w w2 → Calls Tryz.prog 95 #[.pointer (some ⟨b, 0, none⟩), .string bColon] w2 (fun e w' => e = .returned (.tuple #[.int .i64 (bColon).size, .nilIface]) ∧ (Lib.BuilderAt 110 5 B b (.pointer (some ⟨b, 0, none⟩)) ((bs ++ Lib.strCells n) ++ Lib.strCells bColon) w' ∧ Below B w2 w'))) :=
    fun w2 hA hB => writeString_any B b _ bColon w2 (Or.inr hA) (by simp only [List.length_append, Lib.strCells_length]; omega) (HC.out w2 hB).2.2
  have H3 : Hid (∀ w2, Lib.BuilderAt 110 5 B b (.pointer (some ⟨b, 0, none⟩)) ((bs ++ Lib.strCells n) ++ Lib.strCells bColon) w2 → Below B w w2 → Calls Tryz.prog 95 #[.pointer (some ⟨b, 0, none⟩), .string wKey] w2 (fun e w' => e = .returned (.tuple #[.int .i64 (wKey).size, .nilIface]) ∧ (Lib.BuilderAt 110 5 B b (.pointer (some ⟨b, 0, none⟩)) (((bs ++ Lib.strCells n) ++ Lib.strCells bColon) ++ Lib.strCells wKey) w' ∧ Below B w2 w'))) :=
    fun w2 hA hB => writeString_any B b _ wKey w2 (Or.inr hA) (by simp only [List.length_append, Lib.strCells_length]; omega) (HC.out w2 hB).2.2
  have tok1 : True := trivial
  have tok2 : True := trivial
  have tok3 : True := trivial
  clear hC hb hz hT gB
  go_enter Tryz.func185, Tryz.ntmps185
  go_wp2_with (first
    | (go_at_call 95; have _t := tok1; refine (H1.out).mono ?_; rintro e w1 ⟨he, hA, hB⟩; subst he; have HA1 := Lib.hid hA; have HB1 := Lib.hid hB; clear hA hB tok1; obtain ⟨⟨_, _, _, _⟩, hLL, _⟩ := HC.out _ HB1.out; obtain ⟨_, _, _, _, _, _⟩ := hLL)
    | (go_at_call 95; have _t := tok2; refine (H2.out _ HA1.out HB1.out).mono ?_; rintro e w2 ⟨he, hA, hB⟩; subst he; have HA2 := Lib.hid hA; have HB2 := Lib.hid (HB1.out.trans hB); clear hA hB tok2; obtain ⟨⟨_, _, _, _⟩, hLL, _⟩ := HC.out _ HB2.out; obtain ⟨_, _, _, _, _, _⟩ := hLL)
    | (go_at_call 95; have _t := tok3; refine (H3.out _ HA2.out HB2.out).mono ?_; rintro e w3 ⟨he, hA, hB⟩; subst he; have HA3 := Lib.hid hA; have HB3 := Lib.hid (HB2.out.trans hB); clear hA hB tok3; obtain ⟨⟨_, _, _, _⟩, hLL, _⟩ := HC.out _ HB3.out; obtain ⟨_, _, _, _, _, _⟩ := hLL))
  go_end0
  refine ⟨rfl, ?_, HB3.out⟩
  have := HA3.out
  simp only [strCells_app, ← List.append_assoc]; exact this

set_option maxHeartbeats 1600000 in
set_option maxRecDepth 100000 in
theorem wr_atom4 (B b tb tq : Nat) (n : ByteArray) (ks : List Tm) (xl : Value) (bs : List Value) (w : World) (hC : WrHeld B tb tq 2 n 4 xl w) (hb : Lib.IsBuilder 110 5 B b bs w) (hz : bs.length + (textT (.mk 2 n 4 ks)).size ≤ 140737488355328) :
    Calls Tryz.prog 185 #[.pointer (some ⟨b, 0, none⟩), .pointer (some ⟨tb, tq, none⟩)] w (WrPost B b bs (textT (.mk 2 n 4 ks)) w) := by
  have hT : textT (.mk 2 n 4 ks) = (n ++ bColon) ++ wData := by simp [textT, wordB]
  rw [hT]
  rw [hT] at hz
  simp only [ByteArray.size_append] at hz
  have HC := Lib.hid hC
  obtain ⟨⟨g0, g1, g2, g3⟩, gL, gB⟩ := hC w (Below.refl _ _)
  obtain ⟨l0, l1, l2, l3, l4, l5⟩ := gL
  have H1 := Lib.hid (writeString_any B b bs n w hb (by omega) gB)
  have H2 : Hid (∀ w2, Lib.BuilderAt 110 5 B b (.pointer (some ⟨b, 0, none⟩)) (bs ++ Lib.strCells n) w2 → Below B w w2 → Calls Tryz.prog 95 #[.pointer (some ⟨b, 0, none⟩), .string bColon] w2 (fun e w' => e = .returned (.tuple #[.int .i64 (bColon).size, .nilIface]) ∧ (Lib.BuilderAt 110 5 B b (.pointer (some ⟨b, 0, none⟩)) ((bs ++ Lib.strCells n) ++ Lib.strCells bColon) w' ∧ Below B w2 w'))) :=
    fun w2 hA hB => writeString_any B b _ bColon w2 (Or.inr hA) (by simp only [List.length_append, Lib.strCells_length]; omega) (HC.out w2 hB).2.2
  have H3 : Hid (∀ w2, Lib.BuilderAt 110 5 B b (.pointer (some ⟨b, 0, none⟩)) ((bs ++ Lib.strCells n) ++ Lib.strCells bColon) w2 → Below B w w2 → Calls Tryz.prog 95 #[.pointer (some ⟨b, 0, none⟩), .string wData] w2 (fun e w' => e = .returned (.tuple #[.int .i64 (wData).size, .nilIface]) ∧ (Lib.BuilderAt 110 5 B b (.pointer (some ⟨b, 0, none⟩)) (((bs ++ Lib.strCells n) ++ Lib.strCells bColon) ++ Lib.strCells wData) w' ∧ Below B w2 w'))) :=
    fun w2 hA hB => writeString_any B b _ wData w2 (Or.inr hA) (by simp only [List.length_append, Lib.strCells_length]; omega) (HC.out w2 hB).2.2
  have tok1 : True := trivial
  have tok2 : True := trivial
  have tok3 : True := trivial
  clear hC hb hz hT gB
  go_enter Tryz.func185, Tryz.ntmps185
  go_wp2_with (first
    | (go_at_call 95; have _t := tok1; refine (H1.out).mono ?_; rintro e w1 ⟨he, hA, hB⟩; subst he; have HA1 := Lib.hid hA; have HB1 := Lib.hid hB; clear hA hB tok1; obtain ⟨⟨_, _, _, _⟩, hLL, _⟩ := HC.out _ HB1.out; obtain ⟨_, _, _, _, _, _⟩ := hLL)
    | (go_at_call 95; have _t := tok2; refine (H2.out _ HA1.out HB1.out).mono ?_; rintro e w2 ⟨he, hA, hB⟩; subst he; have HA2 := Lib.hid hA; have HB2 := Lib.hid (HB1.out.trans hB); clear hA hB tok2; obtain ⟨⟨_, _, _, _⟩, hLL, _⟩ := HC.out _ HB2.out; obtain ⟨_, _, _, _, _, _⟩ := hLL)
    | (go_at_call 95; have _t := tok3; refine (H3.out _ HA2.out HB2.out).mono ?_; rintro e w3 ⟨he, hA, hB⟩; subst he; have HA3 := Lib.hid hA; have HB3 := Lib.hid (HB2.out.trans hB); clear hA hB tok3; obtain ⟨⟨_, _, _, _⟩, hLL, _⟩ := HC.out _ HB3.out; obtain ⟨_, _, _, _, _, _⟩ := hLL))
  go_end0
  refine ⟨rfl, ?_, HB3.out⟩
  have := HA3.out
  simp only [strCells_app, ← List.append_assoc]; exact this

set_option maxHeartbeats 1600000 in
set_option maxRecDepth 100000 in
theorem wr_atom5 (B b tb tq : Nat) (n : ByteArray) (ks : List Tm) (xl : Value) (bs : List Value) (w : World) (hC : WrHeld B tb tq 2 n 5 xl w) (hb : Lib.IsBuilder 110 5 B b bs w) (hz : bs.length + (textT (.mk 2 n 5 ks)).size ≤ 140737488355328) :
    Calls Tryz.prog 185 #[.pointer (some ⟨b, 0, none⟩), .pointer (some ⟨tb, tq, none⟩)] w (WrPost B b bs (textT (.mk 2 n 5 ks)) w) := by
  have hT : textT (.mk 2 n 5 ks) = (n ++ bColon) ++ wTag := by simp [textT, wordB]
  rw [hT]
  rw [hT] at hz
  simp only [ByteArray.size_append] at hz
  have HC := Lib.hid hC
  obtain ⟨⟨g0, g1, g2, g3⟩, gL, gB⟩ := hC w (Below.refl _ _)
  obtain ⟨l0, l1, l2, l3, l4, l5⟩ := gL
  have H1 := Lib.hid (writeString_any B b bs n w hb (by omega) gB)
  have H2 : Hid (∀ w2, Lib.BuilderAt 110 5 B b (.pointer (some ⟨b, 0, none⟩)) (bs ++ Lib.strCells n) w2 → Below B w w2 → Calls Tryz.prog 95 #[.pointer (some ⟨b, 0, none⟩), .string bColon] w2 (fun e w' => e = .returned (.tuple #[.int .i64 (bColon).size, .nilIface]) ∧ (Lib.BuilderAt 110 5 B b (.pointer (some ⟨b, 0, none⟩)) ((bs ++ Lib.strCells n) ++ Lib.strCells bColon) w' ∧ Below B w2 w'))) :=
    fun w2 hA hB => writeString_any B b _ bColon w2 (Or.inr hA) (by simp only [List.length_append, Lib.strCells_length]; omega) (HC.out w2 hB).2.2
  have H3 : Hid (∀ w2, Lib.BuilderAt 110 5 B b (.pointer (some ⟨b, 0, none⟩)) ((bs ++ Lib.strCells n) ++ Lib.strCells bColon) w2 → Below B w w2 → Calls Tryz.prog 95 #[.pointer (some ⟨b, 0, none⟩), .string wTag] w2 (fun e w' => e = .returned (.tuple #[.int .i64 (wTag).size, .nilIface]) ∧ (Lib.BuilderAt 110 5 B b (.pointer (some ⟨b, 0, none⟩)) (((bs ++ Lib.strCells n) ++ Lib.strCells bColon) ++ Lib.strCells wTag) w' ∧ Below B w2 w'))) :=
    fun w2 hA hB => writeString_any B b _ wTag w2 (Or.inr hA) (by simp only [List.length_append, Lib.strCells_length]; omega) (HC.out w2 hB).2.2
  have tok1 : True := trivial
  have tok2 : True := trivial
  have tok3 : True := trivial
  clear hC hb hz hT gB
  go_enter Tryz.func185, Tryz.ntmps185
  go_wp2_with (first
    | (go_at_call 95; have _t := tok1; refine (H1.out).mono ?_; rintro e w1 ⟨he, hA, hB⟩; subst he; have HA1 := Lib.hid hA; have HB1 := Lib.hid hB; clear hA hB tok1; obtain ⟨⟨_, _, _, _⟩, hLL, _⟩ := HC.out _ HB1.out; obtain ⟨_, _, _, _, _, _⟩ := hLL)
    | (go_at_call 95; have _t := tok2; refine (H2.out _ HA1.out HB1.out).mono ?_; rintro e w2 ⟨he, hA, hB⟩; subst he; have HA2 := Lib.hid hA; have HB2 := Lib.hid (HB1.out.trans hB); clear hA hB tok2; obtain ⟨⟨_, _, _, _⟩, hLL, _⟩ := HC.out _ HB2.out; obtain ⟨_, _, _, _, _, _⟩ := hLL)
    | (go_at_call 95; have _t := tok3; refine (H3.out _ HA2.out HB2.out).mono ?_; rintro e w3 ⟨he, hA, hB⟩; subst he; have HA3 := Lib.hid hA; have HB3 := Lib.hid (HB2.out.trans hB); clear hA hB tok3; obtain ⟨⟨_, _, _, _⟩, hLL, _⟩ := HC.out _ HB3.out; obtain ⟨_, _, _, _, _, _⟩ := hLL))
  go_end0
  refine ⟨rfl, ?_, HB3.out⟩
  have := HA3.out
  simp only [strCells_app, ← List.append_assoc]; exact this

theorem textT_app (n : ByteArray) (s : Int) (ks : List Tm) : textT (.mk 3 n s ks) = n ++ (textL bOpen false ks ++ bClose) := by
  simp only [textT]
  rw [if_neg (by omega), if_neg (by omega), textL_app, ByteArray.append_assoc]

set_option maxHeartbeats 1600000 in
set_option maxRecDepth 100000 in
theorem wr_app (B b m tb tq : Nat) (ih : WriteOk B b m) (hg : 0 < B) (n : ByteArray) (s : Int) (ks : List Tm) (xa : Option Addr) (cap : Nat) (bs : List Value) (w : World) (hm : sizes ks ≤ m) (hM : m ≤ 1073741824) (hok : okL ks) (hcap : ks.length ≤ cap) (hR : RowIn (fun x => x < B) w ks xa)
    (hC : WrHeld B tb tq 3 n s (.slice xa ks.length cap) w) (hb : Lib.IsBuilder 110 5 B b bs w) (hz : bs.length + (textT (.mk 3 n s ks)).size ≤ 140737488355328) :
    Calls Tryz.prog 185 #[.pointer (some ⟨b, 0, none⟩), .pointer (some ⟨tb, tq, none⟩)] w (WrPost B b bs (textT (.mk 3 n s ks)) w) := by
  have hT := textT_app n s ks
  rw [hT]
  rw [hT, ByteArray.size_append] at hz
  have HC := Lib.hid hC
  obtain ⟨⟨g0, g1, g2, g3⟩, gL, gB⟩ := hC w (Below.refl _ _)
  have H1 := Lib.hid (writeString_any B b bs n w hb (by omega) gB)
  have H2 : Hid (∀ w2, Lib.BuilderAt 110 5 B b (.pointer (some ⟨b, 0, none⟩)) (bs ++ Lib.strCells n) w2 → Below B w w2 → Calls Tryz.prog 213 #[.pointer (some ⟨b, 0, none⟩), .slice xa ks.length cap] w2 (WrPost B b (bs ++ Lib.strCells n) (textL bOpen false ks ++ bClose) w2)) :=
    fun w2 hA hB => writeKids_any B b m ih hg ks xa cap _ w2 hm hM hok (by rw [List.length_append, Lib.strCells_length]; omega) hcap (RowIn_carry' (fun b hb => hB.block b hb) hR) (HC.out w2 hB).2.1 (Or.inr hA) (HC.out w2 hB).2.2
  clear hC hb hz hT gB gL ih hR hok
  go_enter Tryz.func185, Tryz.ntmps185
  go_wp2_with (first
    | (go_at_call 95; refine (H1.out).mono ?_; rintro e w1 ⟨he, hA, hB⟩; subst he; have HA1 := Lib.hid hA; have HB1 := Lib.hid hB; clear hA hB; obtain ⟨⟨_, _, _, _⟩, _, _⟩ := HC.out _ HB1.out)
    | (go_at_call 213; refine (H2.out _ HA1.out HB1.out).mono ?_; rintro e w2 ⟨he, hA, hB⟩; subst he; have HA2 := Lib.hid hA; have HB2 := Lib.hid (HB1.out.trans hB); clear hA hB))
  go_end0
  refine ⟨rfl, ?_, HB2.out⟩
  have := HA2.out
  rw [strCells_app, ← List.append_assoc]; exact this

theorem write_any (B b : Nat) (hg : 0 < B) (m : Nat) : m ≤ 1073741824 → WriteOk B b m := by
  induction m with
  | zero => intro _ t tb tq bs w h; have := size_pos t; omega
  | succ m ih =>
    intro hM t tb tq bs w hm hok hz hLi hLd hb hBw
    obtain ⟨k, n, s, ks⟩ := t
    have hsk : size (.mk k n s ks) = 1 + sizes ks := rfl
    rw [hsk] at hm
    obtain ⟨hbb, c0, c1, c2, c3, g0, g1, g2, g3, hI⟩ := hLi
    simp only [IsIn] at hI
    obtain ⟨rfl, rfl, rfl, _, _, _, hkl, xa, cap, rfl, hcap, hR⟩ := hI
    obtain ⟨hk, hs, hokl⟩ := hok
    have hC : WrHeld B tb tq k n s (.slice xa ks.length cap) w := fun W hB => by
      have hc : ∀ i, W.cell? ⟨tb, i, none⟩ = w.cell? ⟨tb, i, none⟩ := fun i => World.cell?_of_block (w := w) (a := ⟨tb, i, none⟩) (hB.block tb hbb)
      exact ⟨⟨by rw [hc]; exact g0, by rw [hc]; exact g1, by rw [hc]; exact g2, by rw [hc]; exact g3⟩, Laid_belowB hLd hg hB, Nat.le_trans hBw hB.size⟩
    have hc : s = 0 ∨ s = 1 ∨ s = 2 ∨ s = 3 ∨ s = 4 ∨ s = 5 := by omega
    rcases hk with rfl | rfl | rfl
    · rcases hc with rfl | rfl | rfl | rfl | rfl | rfl
      · exact wr_var0 B b tb tq n ks _ bs w hC hb hz
      · exact wr_var1 B b tb tq n ks _ bs w hC hb hz
      · exact wr_var2 B b tb tq n ks _ bs w hC hb hz
      · exact wr_var3 B b tb tq n ks _ bs w hC hb hz
      · exact wr_var4 B b tb tq n ks _ bs w hC hb hz
      · exact wr_var5 B b tb tq n ks _ bs w hC hb hz
    · rcases hc with rfl | rfl | rfl | rfl | rfl | rfl
      · exact wr_atom0 B b tb tq n ks _ bs w hC hb hz
      · exact wr_atom1 B b tb tq n ks _ bs w hC hb hz
      · exact wr_atom2 B b tb tq n ks _ bs w hC hb hz
      · exact wr_atom3 B b tb tq n ks _ bs w hC hb hz
      · exact wr_atom4 B b tb tq n ks _ bs w hC hb hz
      · exact wr_atom5 B b tb tq n ks _ bs w hC hb hz
    · exact wr_app B b m tb tq (ih (by omega)) hg n s ks xa cap bs w (by omega) (by omega) hokl hcap hR hC hb hz
end Go.Proofs.YtkfbbkkfagglhaaGreatDoor
