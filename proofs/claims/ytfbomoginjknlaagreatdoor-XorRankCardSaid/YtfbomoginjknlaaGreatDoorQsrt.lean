/-
  slices.Sort AT NUMBERS OF ONE'S OWN: its laying, as the shelf's command prints it (the numbers are marks), and its contract.
-/
import Derived.Shelf.Sort.Plain
import Derived.Shelf.Slices.In.SortNone
import Derived.Test.YtfbomoginjknlaaGreatDoorQone
namespace Go.Proofs
open Go.Shelf
def Tryz.lays189_ren : Go.Shelf.Ren := ⟨fun | 189 => 81 | 125 => 99 | 257 => 98 | 128 => 113 | 129 => 114 | 294 => 104 | 295 => 105 | 296 => 106 | 297 => 107 | 298 => 108 | 299 => 109 | 216 => 110 | 300 => 111 | 301 => 112 | 328 => 129 | 329 => 130 | 330 => 131 | 331 => 132 | 332 => 133 | 215 => 134 | 343 => 141 | n => n, fun | 28 => 37 | 3 => 3 | 46 => 117 | 0 => 0 | 51 => 133 | 53 => 101 | 4 => 4 | 183 => 126 | 182 => 125 | 131 => 105 | 5 => 5 | 9 => 9 | 218 => 143 | 222 => 147 | 228 => 152 | 229 => 153 | n => n, fun | n => n⟩
theorem Tryz.lays189 : Go.Proofs.Lays.n189 Tryz.prog Tryz.lays189_ren := {
  mixed := by kernel_rfl
  f125 := Tryz.func99.trans (congrArg some (by kernel_rfl))
  f128 := Tryz.func113.trans (congrArg some (by kernel_rfl))
  f129 := Tryz.func114.trans (congrArg some (by kernel_rfl))
  f189 := Tryz.func81.trans (congrArg some (by kernel_rfl))
  f215 := Tryz.func134.trans (congrArg some (by kernel_rfl))
  f216 := Tryz.func110.trans (congrArg some (by kernel_rfl))
  f257 := Tryz.func98.trans (congrArg some (by kernel_rfl))
  f294 := Tryz.func104.trans (congrArg some (by kernel_rfl))
  f295 := Tryz.func105.trans (congrArg some (by kernel_rfl))
  f296 := Tryz.func106.trans (congrArg some (by kernel_rfl))
  f297 := Tryz.func107.trans (congrArg some (by kernel_rfl))
  f298 := Tryz.func108.trans (congrArg some (by kernel_rfl))
  f299 := Tryz.func109.trans (congrArg some (by kernel_rfl))
  f300 := Tryz.func111.trans (congrArg some (by kernel_rfl))
  f301 := Tryz.func112.trans (congrArg some (by kernel_rfl))
  f328 := Tryz.func129.trans (congrArg some (by kernel_rfl))
  f329 := Tryz.func130.trans (congrArg some (by kernel_rfl))
  f330 := Tryz.func131.trans (congrArg some (by kernel_rfl))
  f331 := Tryz.func132.trans (congrArg some (by kernel_rfl))
  f332 := Tryz.func133.trans (congrArg some (by kernel_rfl))
  f343 := Tryz.func141.trans (congrArg some (by kernel_rfl))
  t0 := Tryz.underlying0
  a0 := Tryz.isAgg0
  z0 := Tryz.sizeOf0
  v0 := Tryz.zeroValue0
  t3 := Tryz.underlying3
  a3 := Tryz.isAgg3
  z3 := Tryz.sizeOf3
  v3 := Tryz.zeroValue3
  t4 := Tryz.underlying4
  a4 := Tryz.isAgg4
  z4 := Tryz.sizeOf4
  v4 := Tryz.zeroValue4
  t5 := Tryz.underlying5
  a5 := Tryz.isAgg5
  z5 := Tryz.sizeOf5
  v5 := Tryz.zeroValue5
  t9 := Tryz.underlying9
  a9 := Tryz.isAgg9
  z9 := Tryz.sizeOf9
  v9 := Tryz.zeroValue9
  t28 := Tryz.underlying37
  a28 := Tryz.isAgg37
  z28 := Tryz.sizeOf37
  v28 := Tryz.zeroValue37
  t46 := Tryz.underlying117
  a46 := Tryz.isAgg117
  z46 := Tryz.sizeOf117
  v46 := Tryz.zeroValue117
  t51 := Tryz.underlying133
  a51 := Tryz.isAgg133
  z51 := Tryz.sizeOf133
  v51 := Tryz.zeroValue133
  t53 := Tryz.underlying101
  a53 := Tryz.isAgg101
  z53 := Tryz.sizeOf101
  v53 := Tryz.zeroValue101
  t131 := Tryz.underlying105
  a131 := Tryz.isAgg105
  z131 := Tryz.sizeOf105
  v131 := Tryz.zeroValue105
  t182 := Tryz.underlying125
  a182 := Tryz.isAgg125
  z182 := Tryz.sizeOf125
  v182 := Tryz.zeroValue125
  t183 := Tryz.underlying126
  a183 := Tryz.isAgg126
  z183 := Tryz.sizeOf126
  v183 := Tryz.zeroValue126
  t218 := Tryz.underlying143
  a218 := Tryz.isAgg143
  z218 := Tryz.sizeOf143
  v218 := Tryz.zeroValue143
  t222 := Tryz.underlying147
  a222 := Tryz.isAgg147
  z222 := Tryz.sizeOf147
  v222 := Tryz.zeroValue147
  t228 := Tryz.underlying152
  a228 := Tryz.isAgg152
  z228 := Tryz.sizeOf152
  v228 := Tryz.zeroValue152
  t229 := Tryz.underlying153
  a229 := Tryz.isAgg153
  z229 := Tryz.sizeOf153
  v229 := Tryz.zeroValue153 }
end Go.Proofs
namespace Go.Proofs.YtfbomoginjknlaaGreatDoor
open Go.RowKit Go.Lib Go.Sort

theorem putRow_int (w : World) (g : Nat) (d : Array Int) : putRow (Value.int .i64) w g 0 d = putRow id w g 0 (d.map (Value.int .i64)) := by
  unfold putRow
  congr 1
  funext c
  unfold putCells
  apply Array.ext_getElem?
  intro k
  simp only [Array.getElem?_mapIdx, Array.size_map]
  cases c[k]? with
  | none => rfl
  | some y =>
    simp only [Option.map_some, Option.some.injEq]
    by_cases h : 0 ≤ k ∧ k < 0 + d.size
    · rw [if_pos h, if_pos h]
      have h1 : k - 0 < d.size := by omega
      rw [getElem!_pos d (k - 0) h1, getElem!_pos (d.map (Value.int .i64)) (k - 0) (by simpa using h1)]
      simp
    · rw [if_neg h, if_neg h]
theorem sorti_any {H : Nat} {c : List Int} {v : Value} {w : World} (hO : OwnI H w c v) (hH : H ≤ w.heap.size) (hl : c.length < 1073741824) :
    Calls Tryz.prog 81 #[v] w fun e w' => e = .returned (.tuple #[]) ∧ OwnI H w' (c.mergeSort fun x y => decide (x ≤ y)) v ∧ Below H w w' ∧ w.heap.size ≤ w'.heap.size := by
  rcases hO.2 with ⟨rfl, e⟩ | ⟨g, cap, _, rfl, hg, _, hcap, _⟩
  · have hn : c = [] := List.length_eq_zero_iff.1 e
    subst hn
    refine (Any.slices_Sort_int_none Tryz.lays189 none 0 w).mono fun e w' h => ?_
    obtain ⟨rfl, rfl⟩ := h
    exact ⟨rfl, by simpa using OwnI_nil H w', Below.refl _ _, Nat.le_refl _⟩
  · have hgl := hO.lt g rfl
    have hH2 : Holds (Value.int .i64) w g 0 c.toArray := by
      intro j hj
      have hj' : j < c.length := by simpa using hj
      refine ⟨?_, hO.frozenAt _⟩
      rw [Nat.zero_add, hO.cellAt j (by omega)]
      rw [getElem!_pos c.toArray j hj]
      simp [zints, hj']
    refine (Any.slices_Sort_int Tryz.lays189 g 0 cap c w hH2 hgl.2 (by omega)).mono fun e w' h => ?_
    obtain ⟨rfl, q, os, rfl⟩ := h
    rw [putRow_int]
    have hk := putRow_below (w := w) (q := q) hgl.1 ((c.mergeSort fun x y => decide (x ≤ y)).toArray.map (Value.int .i64)) os hH
    refine ⟨rfl, ?_, hk, hk.size⟩
    have hy : (zints (c.mergeSort fun x y => decide (x ≤ y))).length = c.length * 1 := by rw [zints_length, List.length_mergeSort]
    have := own_putRow (q := q) (os := os) hO hy
    unfold OwnI
    rw [List.length_mergeSort]
    have e : ((c.mergeSort fun x y => decide (x ≤ y)).toArray.map (Value.int .i64)) = (zints (c.mergeSort fun x y => decide (x ≤ y))).toArray := by
      unfold zints
      rw [List.map_toArray]
    rw [e]
    exact this
end Go.Proofs.YtfbomoginjknlaaGreatDoor

/-
  THE WALK OF THE REFERENCE'S flip.
-/
namespace Go.Proofs.YtfbomoginjknlaaGreatDoor
open Go.RowKit Go.Lib

theorem OwnI_one (H : Nat) (w : World) (i : Int) (hH : H ≤ w.heap.size) : OwnI H (w.alloc (.cells #[.int .i64 i] 3)) [i] (.slice (some ⟨w.heap.size, 0, none⟩) 1 1) :=
  ⟨rfl, .inr ⟨w.heap.size, 1, #[.int .i64 i], rfl, hH, heap_alloc_new w _, Nat.le_refl _, by simp [maxLen], rfl, rfl⟩⟩
/-- What flip gives back: some numbers, in new memory. -/
def FlipPost (l : List Int) (w : World) (e : Ending) (w' : World) : Prop :=
  ∃ m v, e = .returned v ∧ m.length ≤ l.length + 1 ∧ (∀ x ∈ m, -9223372036854775808 ≤ x ∧ x ≤ 9223372036854775807) ∧ OwnI w.heap.size w' m v ∧ Ext w w'
theorem rng_snoc {m : List Int} {x : Int} (h : ∀ y ∈ m, -9223372036854775808 ≤ y ∧ y ≤ 9223372036854775807) (hx : -9223372036854775808 ≤ x ∧ x ≤ 9223372036854775807) : ∀ y ∈ m ++ [x], -9223372036854775808 ≤ y ∧ y ≤ 9223372036854775807 := fun y hy => by
  rcases List.mem_append.1 hy with hy | hy
  · exact h y hy
  · rw [List.mem_singleton.1 hy]; exact hx
set_option maxHeartbeats 3200000 in
set_option maxRecDepth 100000 in
theorem flip_any (l : List Int) (n : Int) (v : Value) (w : World) (hV : IntsV w v l) (hn : -9223372036854775808 ≤ n ∧ n ≤ 9223372036854775807) (hl : l.length ≤ 1073741822) :
    Calls Tryz.prog 83 #[v, .int .i64 n] w (FlipPost l w) := by
  obtain ⟨xa, cap, rfl, _, hrg, hcs⟩ := hV
  have HRG := Lib.hid hrg
  have HCS := Lib.hid hcs
  have HN := Lib.hid hn
  clear hrg hcs hn
  go_enter Tryz.func83, Tryz.ntmps83
  go_wp2_with fail
  go_loopw [5, 6, 7] (fun v5 d i wr => ∃ (j : Nat) (m : List Int) (b : Bool), j ≤ l.length ∧ i = .int .i64 j ∧ d = .bool b ∧ m.length ≤ j + b.toNat ∧ Hid (∀ x ∈ m, -9223372036854775808 ≤ x ∧ x ≤ 9223372036854775807) ∧ OwnI w.heap.size wr m v5 ∧ Ext w wr) (fun _ _ i _ => l.length - (intOf i).toNat)
  case atStart => exact ⟨0, [], false, Nat.zero_le _, rfl, rfl, Nat.zero_le _, fun x hx => absurd hx (by simp), OwnI_nil _ _, Ext.refl _⟩
  case round =>
    obtain ⟨j, m, b, hj, rfl, rfl, hm, HR, hO, hX⟩ := hrel
    obtain ⟨xr, cr, rfl⟩ := OwnI_form hO
    have HWS : Hid (w.heap.size ≤ wr.heap.size) := Lib.hid hX.size
    have hb1 := Bool.toNat_le b
    have HML : Hid (m.length ≤ 1073741823) := (by omega : m.length ≤ 1073741823)
    have HX := Lib.hid hX
    have HO := Lib.hid hO
    have HM := Lib.hid hm
    clear hO hm hb1
    by_cases hlt : j < l.length
    rotate_left
    · have hjl : j = l.length := by omega
      have HJ := Lib.hid hjl
      clear hX hjl
      cases b
      · go_wp2_with (at_builtin; refine wpList_append_int rfl _ _ rfl HO.out HWS.out (Nat.le_succ_of_le HML.out) rfl rfl rfl ?_; intro v9 w9 hO9 hB9 hs9; have HO9 := Lib.hid hO9; have HB9 : Hid (Ext w w9) := Lib.hid (Below.trans HX.out hB9); clear hO9 hB9 hs9)
        go_ret
        exact ⟨m ++ [n], _, rfl, by have := HM.out; simp at this; simp; omega, rng_snoc HR.out HN.out, HO9.out, HB9.out⟩
      · go_wp2_with fail
        go_ret
        exact ⟨m, _, rfl, by have := HM.out; simp at this; omega, HR.out, HO.out, HX.out⟩
    obtain ⟨kb, ko, rfl, hc⟩ := HCS.out (by omega)
    have HCL : Hid (∀ W, Ext w W → W.cell? ⟨kb, ko + j, none⟩ = some (.int .i64 l[j])) := fun W x => keep_below x _ _ (hc j hlt)
    have hx := HRG.out l[j] (List.getElem_mem hlt)
    have hy := HCL.out _ hX
    generalize l[j] = x at hx hy HCL
    have HXR := Lib.hid hx
    have i1 : (0 : Int) ≤ (j : Int) := by omega
    have i2 : (j : Int) < (l.length : Int) := by omega
    clear hX hc hx
    cases b
    rotate_left
    · go_wp2_with (at_builtin; refine wpList_append_int rfl _ _ rfl HO.out HWS.out (Nat.le_succ_of_le HML.out) rfl rfl rfl ?_; intro v9 w9 hO9 hB9 hs9; have HO9 := Lib.hid hO9; have HB9 : Hid (Ext w w9) := Lib.hid (Below.trans HX.out hB9); clear hO9 hB9 hs9)
      go_roundw
      case rel => exact ⟨j + 1, m ++ [x], true, by omega, by go_num, rfl, by have := HM.out; simp at this; simp; omega, rng_snoc HR.out HXR.out, HO9.out, HB9.out⟩
      case measure => simp [intOf]; omega
    by_cases hge : n ≤ x
    rotate_left
    · have q0 : decide (n ≤ x) = false := decide_eq_false hge
      clear hge
      go_wp2_with (at_builtin; refine wpList_append_int rfl _ _ rfl HO.out HWS.out (Nat.le_succ_of_le HML.out) rfl rfl rfl ?_; intro v9 w9 hO9 hB9 hs9; have HO9 := Lib.hid hO9; have HB9 : Hid (Ext w w9) := Lib.hid (Below.trans HX.out hB9); clear hO9 hB9 hs9)
      go_roundw
      case rel => exact ⟨j + 1, m ++ [x], false, by omega, by go_num, rfl, by have := HM.out; simp at this; simp; omega, rng_snoc HR.out HXR.out, HO9.out, HB9.out⟩
      case measure => simp [intOf]; omega
    have q0 : decide (n ≤ x) = true := decide_eq_true hge
    clear hge
    by_cases heq : x = n
    · have q1 : (x == n) = true := beq_iff_eq.2 heq
      clear heq
      go_wp2_with fail
      go_roundw
      case rel => exact ⟨j + 1, m, true, by omega, by go_num, rfl, by have := HM.out; simp at this; simp; omega, HR.out, HO.out, HX.out⟩
      case measure => simp [intOf]; omega
    · have q1 : (x == n) = false := beq_eq_false_iff_ne.2 heq
      have tok1 : True := trivial
      clear heq
      go_wp2_with (first
        | (at_builtin; have _t := tok1; refine wpList_append_int rfl _ _ rfl HO.out HWS.out (Nat.le_succ_of_le HML.out) rfl rfl rfl ?_; intro v9 w9 hO9 hB9 hs9; have HO9 := Lib.hid hO9; have HB9 : Hid (Ext w w9) := Lib.hid (Below.trans HX.out hB9); have hy9 := HCL.out _ HB9.out; clear hO9 hB9 hs9 tok1)
        | (at_builtin; refine wpList_append_int rfl _ _ rfl HO9.out HB9.out.size (by have := HML.out; simp; omega) rfl rfl rfl ?_; intro v8 w8 hO8 hB8 hs8; have HO8 := Lib.hid hO8; have HB8 : Hid (Ext w w8) := Lib.hid (Below.trans HB9.out hB8); clear hO8 hB8 hs8))
      go_roundw
      case rel => exact ⟨j + 1, m ++ [n] ++ [x], true, by omega, by go_num, rfl, by have := HM.out; simp at this; simp; omega, rng_snoc (rng_snoc HR.out HN.out) HXR.out, HO8.out, HB8.out⟩
      case measure => simp [intOf]; omega
end Go.Proofs.YtfbomoginjknlaaGreatDoor
