import Derived.Shelf.Spec.SlicesGrow
import Derived.Test.YtbcpnepjojppaaaGreatDoorLawTheoryKeyxPcopy
import Derived.Test.YtbcpnepjojppaaaGreatDoorLawTheoryKeyxPos
import Derived.Test.YtbcpnepjojppaaaGreatDoorLawTheoryKeyxPuniq
namespace Go.Proofs
open Go.Shelf
def Tryz.growPowers_ren : Go.Shelf.Ren := ⟨fun | 4 => 207 | n => n, fun | 0 => 0 | 3 => 3 | 4 => 4 | 9 => 9 | 20 => 20 | 22 => 109 | 25 => 145 | n => n, fun | n => n⟩
theorem Tryz.growPowers : Go.Proofs.Lays8.n4 Tryz.prog Tryz.growPowers_ren := {
  mixed := by kernel_rfl
  f4 := ⟨Tryz.f207.name, by decide, Tryz.func207.trans (congrArg some (by kernel_rfl))⟩
  t0 := Tryz.underlying0
  a0 := Tryz.isAgg0
  z0 := Tryz.sizeOf0
  v0 := Tryz.zeroValue0
  t3 := Tryz.underlying3
  a3 := Tryz.isAgg3
  z3 := Tryz.sizeOf3
  v3 := Tryz.zeroValue3
  t4 := Tryz.underlying4
  a4 := Tryz.isAgg4
  z4 := Tryz.sizeOf4
  v4 := Tryz.zeroValue4
  t9 := Tryz.underlying9
  a9 := Tryz.isAgg9
  z9 := Tryz.sizeOf9
  v9 := Tryz.zeroValue9
  t20 := Tryz.underlying20
  a20 := Tryz.isAgg20
  z20 := Tryz.sizeOf20
  v20 := Tryz.zeroValue20
  t22 := Tryz.underlying109
  a22 := Tryz.isAgg109
  z22 := Tryz.sizeOf109
  v22 := Tryz.zeroValue109 }
end Go.Proofs
namespace Go.Proofs.YtbcpnepjojppaaaGreatDoor
open Go.RowKit Go.Lib
def EmptyRow (w : World) (e : Ending) (w' : World) : Prop := ∃ v, e = .returned v ∧ w'.ownsRow w.heap.size 145 5 v 0 [] ∧ Below w.heap.size w w'
theorem grow_powers (n : Nat) (w : World) (hn : n ≤ 1073741824) :
    Calls Tryz.prog 207 #[.slice none 0 0, .int .i64 n] w (EmptyRow w) := by
  by_cases h0 : n = 0
  · subst h0
    exact (Any8.slices_Grow_room Tryz.growPowers none 0 0 0 w (Nat.le_refl _) (by omega) (by omega) (by omega)).mono fun e w' h => ⟨_, h.1, by rw [h.2]; exact World.ownsRow_nil _ _ _ _, by rw [h.2]; exact Below.refl _ _⟩
  · obtain ⟨i0, hi0, hz0, hz1, hz2⟩ := info_parts infoPw
    refine (Any8.slices_Grow_grow Tryz.growPowers i0 _ hi0 hz0 (by omega) none 0 0 n [] w (Nat.le_refl _) (by omega) (by rw [hz2]; omega) (by omega) (by simp) (fun _ => rfl) (fun a h => by cases h)).mono fun e w' h => ?_
    obtain ⟨rfl, rfl⟩ := h
    have hge := grownCap_ge w (0 + n) 0 145
    refine ⟨_, rfl, World.ownsRow_made w.drew _ _ (Nat.le_refl _) (grownCap_le_maxLen w (0 + n) 0 145 (by unfold maxLen; omega)) ?_, (Below.refl _ _).drew.alloc (Nat.le_refl _) _⟩
    simp only [Array.size_append, List.size_toArray, List.length_nil, size_zeroCells]
    show 0 + (0 + n - 0) * 5 + (grownCap w (0 + n) 0 145 - (0 + n)) * 5 = grownCap w (0 + n) 0 145 * 5
    omega
theorem run_append_zero {P : Program} (w : World) (t ty e : TypeId) (i : TypeInfo) (ht : P.underlying t = some (.slice e)) (hi : P.info? e = some i) (base : Option Addr) (n cap : Nat) (xa : Option Addr) (c : Nat) (h : n ≤ cap) :
    (Builtin.append_ #[t, t] ty #[.slice base n cap, .slice xa 0 c]).run P w = .ok (.slice base n cap) w := by
  cases xa <;> cases base <;> simp [Builtin.append_, run_underlying ht, sizeOf, typeInfo, hi, Builtin.lenOf, Builtin.firstCells, loadCells, loadCellsFrom, storeCells, h]
theorem wpList_append_zero {P : Program} {w : World} {ops : Array Oper} {rest : List Oper} {o : Oper} {a : Act} {Q : Exit → Act → World → Prop} (hgd : o.guard = none) (s x : Operand) (t : TypeId)
    (ho : o.op = .call { callee := .builtin .append, args := #[s, x], argTypes := #[t, t] }) (e : TypeId) (i : TypeInfo) (ht : P.underlying t = some (.slice e)) (hi : P.info? e = some i)
    (base : Option Addr) (n cap : Nat) (hs : a.eval s = .slice base n cap) (xa : Option Addr) (c : Nat) (hx : a.eval x = .slice xa 0 c) (hle : n ≤ cap)
    (h : wpList P ops Q rest (a.put o.dst (.slice base n cap)) w) : wpList P ops Q (o :: rest) a w := by
  refine wpList_plain hgd fun K hK => ?_
  have hr := run_append_zero (P := P) w t o.type e i ht hi base n cap xa c hle
  unfold Oper.wp execOp
  simp only [ho, resolve, invoke, builtin, Sem.run_bind, Sem.run_pure, Result.andThen_ok, List.map_toArray, List.map_cons, List.map_nil, hs, hx, hr]
  exact hK _ _ h
theorem PRow_cells {w : World} : ∀ {ps : List Pw} {b o : Nat}, PRow w ps (some ⟨b, o, none⟩) → ∃ ds, KP (fun q => q < w.heap.size) w ps ds ∧ (∀ j u, ds[j]? = some u → w.cell? ⟨b, o + j, none⟩ = some u) ∧ ∀ u ∈ ds, u.oneCell' = true
  | [], b, o, _ => ⟨[], rfl, fun j u h => by simp at h, fun u h => by simp at h⟩
  | p :: ps, b, o, h => by
    have hp := fun k hk => PRow_get h k hk
    obtain ⟨⟨c0, c1, c2, c3, g0, g1, g2, g3, hI⟩, g4, hn⟩ := hp 0 (by simp)
    obtain ⟨ds, h1, h2, h3⟩ := PRow_cells (w := w) (ps := ps) (b := b) (o := o + 5) (Or.inr ⟨b, o + 5, rfl, fun k hk => by
      have := hp (k + 1) (by simpa using hk)
      rw [show o + (k + 1) * 5 = o + 5 + k * 5 by omega] at this
      exact this⟩)
    simp only [List.getElem_cons_zero, Nat.zero_mul, Nat.add_zero] at g0 g1 g2 g3 g4 hI hn
    obtain ⟨k, n, s, xa, l, c, rfl, rfl, rfl, rfl⟩ := Is_form hI
    refine ⟨_ :: _ :: _ :: _ :: _ :: ds, ⟨_, _, _, _, ds, rfl, Is_IsIn _ _ _ _ _ hI, hn, h1⟩, fun j u hj => ?_, fun u hu => ?_⟩
    · match j, hj with
      | 0, hj => simp at hj; subst hj; exact g0
      | 1, hj => simp at hj; subst hj; exact g1
      | 2, hj => simp at hj; subst hj; exact g2
      | 3, hj => simp at hj; subst hj; exact g3
      | 4, hj => simp at hj; subst hj; exact g4
      | j + 5, hj =>
        have := h2 j u (by simpa using hj)
        rw [show o + (j + 5) = o + 5 + j by omega]; exact this
    · simp only [List.mem_cons] at hu
      rcases hu with rfl | rfl | rfl | rfl | rfl | hu
      · rfl
      · rfl
      · rfl
      · rfl
      · rfl
      · exact h3 u hu
theorem OwnP_join {H base : Nat} {wr w8 : World} {acc qs : List Pw} {v v1 : Value} {cs ds : List Value} (hown0 : wr.ownsRow H 145 5 v acc.length cs) (hK : KP (fun b => b < base) wr acc cs) (hbH : base ≤ H) (hHw : H ≤ wr.heap.size) (hD : KP (fun b => b < base) wr qs ds)
    (hown : w8.ownsRow H 145 5 v1 (acc.length + qs.length) (cs ++ ds)) (hg : wr.grownBy w8 v.ownBlock) : OwnP H (fun b => b < base) w8 (acc ++ qs) v1 ∧ Below H wr w8 := by
  have hk : ∀ b, b < base → w8.heap[b]? = wr.heap[b]? := fun b hb => hg.block b (by omega) (fun e => by have := (hown0.lt b e.symm).1; omega)
  exact ⟨⟨_, by rw [List.length_append]; exact hown, KP_app (KP_carry hk (fun _ h => h) hK) (KP_carry hk (fun _ h => h) hD)⟩, (Below.refl _ _).grown hg hHw (fun q hq => (hown0.lt q hq).1)⟩
theorem flatP_take {ls : List (List Pw)} {j : Nat} (h : j < ls.length) : (ls.take (j + 1)).flatten = (ls.take j).flatten ++ ls[j] := by
  rw [List.take_succ_eq_append_getElem h, List.flatten_append]; simp
theorem flatP_le (ls : List (List Pw)) (j : Nat) : ((ls.take j).flatten).length ≤ ls.flatten.length := by
  have h : ls.flatten = (ls.take j).flatten ++ (ls.drop j).flatten := by rw [← List.flatten_append, List.take_append_drop]
  rw [h, List.length_append]; omega
def CatPost (w : World) (ps : List Pw) (e : Ending) (w' : World) : Prop := ∃ v, e = .returned v ∧ OwnP w.heap.size (fun b => b < w.heap.size) w' ps v ∧ Below w.heap.size w w'
theorem src_cells {w : World} {ps : List Pw} {b o : Nat} (h : PRow w ps (some ⟨b, o, none⟩)) : ∃ ds, (∀ W, Ext w W → KP (fun q => q < w.heap.size) W ps ds ∧ (∀ j u, ds[j]? = some u → W.cell? ((⟨b, o, none⟩ : Addr).add j) = some u)) ∧ ds.length = ps.length * 5 ∧ ∀ u ∈ ds, u.oneCell' = true := by
  obtain ⟨ds, h1, h2, h3⟩ := PRow_cells h
  refine ⟨ds, fun W y => ⟨KP_carry (fun b hb => y.block b hb) (fun _ h => h) h1, fun j u hj => ?_⟩, KP_len h1, h3⟩
  rw [add_plain]
  exact keep_below y _ _ (h2 j u hj)
end Go.Proofs.YtbcpnepjojppaaaGreatDoor
namespace Go.Proofs.YtbcpnepjojppaaaGreatDoor
open Go.RowKit Go.Lib
set_option maxHeartbeats 6400000 in
set_option maxRecDepth 100000 in
theorem concat_any (ls : List (List Pw)) (xs : Option Addr) (cs0 : Nat) (w : World) (hn : ls.length ≤ 1048576) (hT : ls.flatten.length ≤ 1073741823) (hR : PsRow w ls xs) :
    Calls Tryz.prog 186 #[.slice xs ls.length cs0] w (CatPost w ls.flatten) := by
  have HR := Lib.hid hR
  have HT : Hid (∀ j, ((ls.take j).flatten).length ≤ 1073741823) := fun j => Nat.le_trans (flatP_le ls j) hT
  have HTT := Lib.hid hT
  have HTK := Lib.hid (fun j (h : j < ls.length) => flatP_take h)
  obtain ⟨i0, hi0, hz0, hz1, hz2⟩ := info_parts infoPw
  have HI0 := Lib.hid (And.intro hi0 (And.intro hz0 (And.intro hz1 hz2)))
  clear hi0 hz0 hz1 hz2 hR hT
  go_enter Tryz.func186, Tryz.ntmps186
  go_wp2_with fail
  go_loopw [3, 11] (fun s i wr => ∃ j : Nat, j ≤ ls.length ∧ i = .int .i64 j ∧ s = .int .i64 (((ls.take j).flatten).length : Nat) ∧ Ext w wr) (fun _ i _ => ls.length - (intOf i).toNat)
  case atStart => exact ⟨0, Nat.zero_le _, rfl, by simp, Ext.refl _⟩
  case round =>
    obtain ⟨j, hj, rfl, rfl, hE⟩ := hrel
    by_cases hlt : j < ls.length
    · obtain ⟨b, o, rfl⟩ := PsRow_at HR.out (by omega)
      obtain ⟨ya, c, g0, _, _⟩ := PsRow_get HR.out j hlt
      have g1 := keep_below hE _ _ g0
      have hl1 := HT.out (j + 1)
      have HL := Lib.hid (congrArg List.length (HTK.out j hlt))
      have hl2 := HL.out
      rw [List.length_append] at hl2
      have i1 : (0 : Int) ≤ (j : Int) := by omega
      have i2 : (j : Int) < (ls.length : Int) := by omega
      have HEr := Lib.hid hE
      obtain ⟨A, hA⟩ : ∃ A, ((ls.take j).flatten).length = A := ⟨_, rfl⟩
      obtain ⟨B, hB⟩ : ∃ B, (ls[j]).length = B := ⟨_, rfl⟩
      have HN : Hid (((ls.take (j + 1)).flatten).length = A + B) := by show _ = _; omega
      have hAB : A + B ≤ 1073741823 := by omega
      rw [hA]
      rw [hB] at g1
      clear hE g0 hl1 hl2 hA hB
      go_wp2_with fail
      go_roundw
      case rel => exact ⟨j + 1, by omega, by go_num, by rw [HN.out]; go_num, HEr.out⟩
      case measure => simp [intOf]; omega
    obtain rfl : j = ls.length := by omega
    rw [List.take_length]
    have HG := Lib.hid (grow_powers ls.flatten.length wr (Nat.le_succ_of_le HTT.out))
    have HEr := Lib.hid hE
    obtain ⟨A, hA⟩ : ∃ A, ls.flatten.length = A := ⟨_, rfl⟩
    rw [hA] at HG ⊢
    clear hE hA
    go_wp2_with (go_at_call 207; refine (HG.out).mono ?_; rintro e w5 ⟨v5, he, hO, hB5⟩; subst he; have HO5 := Lib.hid (own_base hO HEr.out.size); have HB5 := Lib.hid (Ext.trans HEr.out hB5); clear hO hB5)
    go_loopw [6, 27] (fun v i wr => ∃ j : Nat, j ≤ ls.length ∧ i = .int .i64 j ∧ OwnP w.heap.size (fun b => b < w.heap.size) wr ((ls.take j).flatten) v ∧ Ext w wr) (fun _ i _ => ls.length - (intOf i).toNat)
    case atStart => exact ⟨0, Nat.zero_le _, rfl, ⟨[], by simpa using HO5.out, rfl⟩, HB5.out⟩
    case round =>
      obtain ⟨j, hj, rfl, hO, hE2⟩ := hrel
      have HE2 := Lib.hid hE2
      have hsz := hE2.size
      by_cases hlt : j < ls.length
      rotate_left
      · obtain rfl : j = ls.length := by omega
        rw [List.take_length] at hO
        have HF := Lib.hid (show CatPost w ls.flatten (.returned _) _ from ⟨_, rfl, hO, hE2⟩)
        clear hO hE2
        go_wp2_with fail
        go_ret
        exact HF.out
      obtain ⟨b, o, rfl⟩ := PsRow_at HR.out (by omega)
      obtain ⟨ya, c, g0, hc0, hRj⟩ := PsRow_get HR.out j hlt
      have g1 := keep_below hE2 _ _ g0
      have hl1 := HT.out (j + 1)
      have HL := Lib.hid (HTK.out j hlt)
      have hl2 := congrArg List.length HL.out
      rw [List.length_append] at hl2
      obtain ⟨xl, lcap, rfl⟩ := OwnP_form hO
      have HOr := Lib.hid hO
      obtain ⟨cs, hown, hK⟩ := hO
      have hcp : ((ls.take j).flatten).length ≤ lcap := (OwnP_row HOr.out).2
      have HO := Lib.hid hown
      have HK := Lib.hid hK
      have i1 : (0 : Int) ≤ (j : Int) := by omega
      have i2 : (j : Int) < (ls.length : Int) := by omega
      by_cases h0 : (ls[j]).length = 0
      · have hn0 : ls[j] = [] := List.length_eq_zero_iff.1 h0
        have HN : Hid ((ls.take (j + 1)).flatten = (ls.take j).flatten) := by show _ = _; rw [HL.out, hn0, List.append_nil]
        rw [h0] at g1
        clear hown hK hE2 g0 hl1 hl2 hRj hc0 h0 hn0
        obtain ⟨A, hA⟩ : ∃ A, ((ls.take j).flatten).length = A := ⟨_, rfl⟩
        rw [hA] at HOr hcp ⊢
        clear hA HO HK
        go_wp2_with (at_builtin; refine wpList_append_zero rfl _ _ 109 rfl 145 i0 Tryz.underlying109 HI0.out.1 xl A lcap rfl ya c rfl hcp ?_)
        go_roundw
        case rel => exact ⟨j + 1, by omega, by go_num, by rw [HN.out]; exact HOr.out, HE2.out⟩
        case measure => simp [intOf]; omega
      · obtain ⟨b2, o2, rfl⟩ := PRow_at hRj (by omega)
        obtain ⟨ds, hd1, hd2, hd3⟩ := src_cells hRj
        have HD := Lib.hid (hd1 wr hE2)
        have HDL := Lib.hid hd2
        have HD1 := Lib.hid hd3
        obtain ⟨m, hm⟩ : ∃ m, (ls[j]).length = m := ⟨_, rfl⟩
        have HM := Lib.hid hm
        obtain ⟨A, hA⟩ : ∃ A, ((ls.take j).flatten).length = A := ⟨_, rfl⟩
        have HA := Lib.hid hA
        have hAm : A + m ≤ 1073741823 := by omega
        rw [hm] at g1 HDL
        rw [hA] at HO ⊢
        clear hown hK hE2 g0 hl1 hl2 hRj hc0 h0 hd1 hd2 hd3 hm hA hcp
        go_wp2_with (at_builtin; go_loud (refine wpList_append_own_at _ rfl _ _ _ rfl w.heap.size 145 i0 _ 5 64 Tryz.underlying109 HI0.out.1 HI0.out.2.1 HI0.out.2.2.1 HI0.out.2.2.2 rfl (by omega) (.slice xl A lcap) A cs rfl HO.out ⟨b2, o2, none⟩ m c ds rfl HDL.out HD.out.2 HD1.out (by unfold maxLen; omega) (by omega) hsz ?_; intro v1 w1 hown1 hgrow _ _; have HP := Lib.hid (OwnP_join (acc := (ls.take j).flatten) (qs := ls[j]) (by rw [HA.out]; exact HO.out) HK.out (Nat.le_refl _) hsz HD.out.1 (by rw [HA.out, HM.out]; exact hown1) hgrow); clear hown1 hgrow))
        go_roundw
        case rel => exact ⟨j + 1, by omega, by go_num, by rw [HL.out]; exact HP.out.1, Below.trans HE2.out HP.out.2⟩
        case measure => simp [intOf]; omega
end Go.Proofs.YtbcpnepjojppaaaGreatDoor
namespace Go.Proofs.YtbcpnepjojppaaaGreatDoor
open Go.RowKit Go.Lib
end Go.Proofs.YtbcpnepjojppaaaGreatDoor
