/-
  slices.Grow and slices.Concat AT ROWS OF POWERS: the parts end to end, in a block of the call's own.
-/
import Derived.Shelf.Spec.SlicesGrow
import Derived.Test.YtcieadjjcpmieaaGreatPvan
import Derived.Test.YtcieadjjcpmieaaGreatPos
import Derived.Test.YtcieadjjcpmieaaGreatPcopy
import Derived.Test.YtcieadjjcpmieaaGreatPuniq
namespace Go.Proofs
open Go.Shelf
def Tryz.growPowers_ren : Go.Shelf.Ren := ⟨fun | 4 => 91 | n => n, fun | 0 => 0 | 3 => 3 | 4 => 4 | 9 => 9 | 20 => 20 | 22 => 27 | 25 => 77 | n => n, fun | n => n⟩
theorem Tryz.growPowers : Go.Proofs.Lays8.n4 Tryz.prog Tryz.growPowers_ren := {
  mixed := by kernel_rfl
  f4 := ⟨Tryz.f91.name, by decide, Tryz.func91.trans (congrArg some (by kernel_rfl))⟩
  t0 := Tryz.underlying0
  a0 := Tryz.isAgg0
  z0 := Tryz.sizeOf0
  v0 := Tryz.zeroValue0
  t3 := Tryz.underlying3
  a3 := Tryz.isAgg3
  z3 := Tryz.sizeOf3
  v3 := Tryz.zeroValue3
  t4 := Tryz.underlying4
  a4 := Tryz.isAgg4
  z4 := Tryz.sizeOf4
  v4 := Tryz.zeroValue4
  t9 := Tryz.underlying9
  a9 := Tryz.isAgg9
  z9 := Tryz.sizeOf9
  v9 := Tryz.zeroValue9
  t20 := Tryz.underlying20
  a20 := Tryz.isAgg20
  z20 := Tryz.sizeOf20
  v20 := Tryz.zeroValue20
  t22 := Tryz.underlying27
  a22 := Tryz.isAgg27
  z22 := Tryz.sizeOf27
  v22 := Tryz.zeroValue27 }
end Go.Proofs
namespace Go.Proofs.YtcieadjjcpmieaaGreat
open Go.RowKit Go.Lib

/-- A row that holds nothing yet. -/
def EmptyRow (w : World) (e : Ending) (w' : World) : Prop := ∃ v, e = .returned v ∧ w'.ownsRow w.heap.size 77 5 v 0 [] ∧ Below w.heap.size w w'
theorem grow_powers (n : Nat) (w : World) (hn : n ≤ 1073741824) :
    Calls Tryz.prog 91 #[.slice none 0 0, .int .i64 n] w (EmptyRow w) := by
  by_cases h0 : n = 0
  · subst h0
    exact (Any8.slices_Grow_room Tryz.growPowers none 0 0 0 w (Nat.le_refl _) (by omega) (by omega) (by omega)).mono fun e w' h => ⟨_, h.1, by rw [h.2]; exact World.ownsRow_nil _ _ _ _, by rw [h.2]; exact Below.refl _ _⟩
  · obtain ⟨i0, hi0, hz0, hz1, hz2⟩ := info_parts infoPw
    refine (Any8.slices_Grow_grow Tryz.growPowers i0 _ hi0 hz0 (by omega) none 0 0 n [] w (Nat.le_refl _) (by omega) (by rw [hz2]; omega) (by omega) (by simp) (fun _ => rfl) (fun a h => by cases h)).mono fun e w' h => ?_
    obtain ⟨rfl, rfl⟩ := h
    have hge := grownCap_ge w (0 + n) 0 77
    refine ⟨_, rfl, World.ownsRow_made w.drew _ _ (Nat.le_refl _) (grownCap_le_maxLen w (0 + n) 0 77 (by unfold maxLen; omega)) ?_, (Below.refl _ _).drew.alloc (Nat.le_refl _) _⟩
    simp only [Array.size_append, List.size_toArray, List.length_nil, size_zeroCells]
    show 0 + (0 + n - 0) * 5 + (grownCap w (0 + n) 0 77 - (0 + n)) * 5 = grownCap w (0 + n) 0 77 * 5
    omega
theorem run_append_zero {P : Program} (w : World) (t ty e : TypeId) (i : TypeInfo) (ht : P.underlying t = some (.slice e)) (hi : P.info? e = some i) (base : Option Addr) (n cap : Nat) (xa : Option Addr) (c : Nat) (h : n ≤ cap) :
    (Builtin.append_ #[t, t] ty #[.slice base n cap, .slice xa 0 c]).run P w = .ok (.slice base n cap) w := by
  cases xa <;> cases base <;> simp [Builtin.append_, run_underlying ht, sizeOf, typeInfo, hi, Builtin.lenOf, Builtin.firstCells, loadCells, loadCellsFrom, storeCells, h]
theorem wpList_append_zero {P : Program} {w : World} {ops : Array Oper} {rest : List Oper} {o : Oper} {a : Act} {Q : Exit → Act → World → Prop} (hgd : o.guard = none) (s x : Operand) (t : TypeId)
    (ho : o.op = .call { callee := .builtin .append, args := #[s, x], argTypes := #[t, t] }) (e : TypeId) (i : TypeInfo) (ht : P.underlying t = some (.slice e)) (hi : P.info? e = some i)
    (base : Option Addr) (n cap : Nat) (hs : a.eval s = .slice base n cap) (xa : Option Addr) (c : Nat) (hx : a.eval x = .slice xa 0 c) (hle : n ≤ cap)
    (h : wpList P ops Q rest (a.put o.dst (.slice base n cap)) w) : wpList P ops Q (o :: rest) a w := by
  refine wpList_plain hgd fun K hK => ?_
  have hr := run_append_zero (P := P) w t o.type e i ht hi base n cap xa c hle
  unfold Oper.wp execOp
  simp only [ho, resolve, invoke, builtin, Sem.run_bind, Sem.run_pure, Result.andThen_ok, List.map_toArray, List.map_cons, List.map_nil, hs, hx, hr]
  exact hK _ _ h

/-- The cells of a row of powers that lies anywhere. -/
theorem PRow_cells {w : World} : ∀ {ps : List Pw} {b o : Nat}, PRow w ps (some ⟨b, o, none⟩) → ∃ ds, KP (fun q => q < w.heap.size) w ps ds ∧ (∀ j u, ds[j]? = some u → w.cell? ⟨b, o + j, none⟩ = some u) ∧ ∀ u ∈ ds, u.oneCell' = true
  | [], b, o, _ => ⟨[], rfl, fun j u h => by simp at h, fun u h => by simp at h⟩
  | p :: ps, b, o, h => by
    have hp := fun k hk => PRow_get h k hk
    obtain ⟨⟨c0, c1, c2, c3, g0, g1, g2, g3, hI⟩, g4, hn⟩ := hp 0 (by simp)
    obtain ⟨ds, h1, h2, h3⟩ := PRow_cells (w := w) (ps := ps) (b := b) (o := o + 5) (Or.inr ⟨b, o + 5, rfl, fun k hk => by
      have := hp (k + 1) (by simpa using hk)
      rw [show o + (k + 1) * 5 = o + 5 + k * 5 by omega] at this
      exact this⟩)
    simp only [List.getElem_cons_zero, Nat.zero_mul, Nat.add_zero] at g0 g1 g2 g3 g4 hI hn
    obtain ⟨k, n, s, xa, l, c, rfl, rfl, rfl, rfl⟩ := Is_form hI
    refine ⟨_ :: _ :: _ :: _ :: _ :: ds, ⟨_, _, _, _, ds, rfl, Is_IsIn _ _ _ _ _ hI, hn, h1⟩, fun j u hj => ?_, fun u hu => ?_⟩
    · match j, hj with
      | 0, hj => simp at hj; subst hj; exact g0
      | 1, hj => simp at hj; subst hj; exact g1
      | 2, hj => simp at hj; subst hj; exact g2
      | 3, hj => simp at hj; subst hj; exact g3
      | 4, hj => simp at hj; subst hj; exact g4
      | j + 5, hj =>
        have := h2 j u (by simpa using hj)
        rw [show o + (j + 5) = o + 5 + j by omega]; exact this
    · simp only [List.mem_cons] at hu
      rcases hu with rfl | rfl | rfl | rfl | rfl | hu
      · rfl
      · rfl
      · rfl
      · rfl
      · rfl
      · exact h3 u hu
/-- A row joined with another one. -/
theorem OwnP_join {H base : Nat} {wr w8 : World} {acc qs : List Pw} {v v1 : Value} {cs ds : List Value} (hown0 : wr.ownsRow H 77 5 v acc.length cs) (hK : KP (fun b => b < base) wr acc cs) (hbH : base ≤ H) (hHw : H ≤ wr.heap.size) (hD : KP (fun b => b < base) wr qs ds)
    (hown : w8.ownsRow H 77 5 v1 (acc.length + qs.length) (cs ++ ds)) (hg : wr.grownBy w8 v.ownBlock) : OwnP H (fun b => b < base) w8 (acc ++ qs) v1 ∧ Below H wr w8 := by
  have hk : ∀ b, b < base → w8.heap[b]? = wr.heap[b]? := fun b hb => hg.block b (by omega) (fun e => by have := (hown0.lt b e.symm).1; omega)
  exact ⟨⟨_, by rw [List.length_append]; exact hown, KP_app (KP_carry hk (fun _ h => h) hK) (KP_carry hk (fun _ h => h) hD)⟩, (Below.refl _ _).grown hg hHw (fun q hq => (hown0.lt q hq).1)⟩
theorem flatP_take {ls : List (List Pw)} {j : Nat} (h : j < ls.length) : (ls.take (j + 1)).flatten = (ls.take j).flatten ++ ls[j] := by
  rw [List.take_succ_eq_append_getElem h, List.flatten_append]; simp
theorem flatP_le (ls : List (List Pw)) (j : Nat) : ((ls.take j).flatten).length ≤ ls.flatten.length := by
  have h : ls.flatten = (ls.take j).flatten ++ (ls.drop j).flatten := by rw [← List.flatten_append, List.take_append_drop]
  rw [h, List.length_append]; omega
/-- What Concat gives back. -/
def CatPost (w : World) (ps : List Pw) (e : Ending) (w' : World) : Prop := ∃ v, e = .returned v ∧ OwnP w.heap.size (fun b => b < w.heap.size) w' ps v ∧ Below w.heap.size w w'
/-- A source of an append: its cells. -/
theorem src_cells {w : World} {ps : List Pw} {b o : Nat} (h : PRow w ps (some ⟨b, o, none⟩)) : ∃ ds, (∀ W, Ext w W → KP (fun q => q < w.heap.size) W ps ds ∧ (∀ j u, ds[j]? = some u → W.cell? ((⟨b, o, none⟩ : Addr).add j) = some u)) ∧ ds.length = ps.length * 5 ∧ ∀ u ∈ ds, u.oneCell' = true := by
  obtain ⟨ds, h1, h2, h3⟩ := PRow_cells h
  refine ⟨ds, fun W y => ⟨KP_carry (fun b hb => y.block b hb) (fun _ h => h) h1, fun j u hj => ?_⟩, KP_len h1, h3⟩
  rw [add_plain]
  exact keep_below y _ _ (h2 j u hj)
end Go.Proofs.YtcieadjjcpmieaaGreat

/-
  THE WALK OF slices.Concat AT ROWS OF POWERS.
-/
namespace Go.Proofs.YtcieadjjcpmieaaGreat
open Go.RowKit Go.Lib

set_option maxHeartbeats 6400000 in
set_option maxRecDepth 100000 in
theorem concat_any (ls : List (List Pw)) (xs : Option Addr) (cs0 : Nat) (w : World) (hn : ls.length ≤ 1048576) (hT : ls.flatten.length ≤ 1073741823) (hR : PsRow w ls xs) :
    Calls Tryz.prog 56 #[.slice xs ls.length cs0] w (CatPost w ls.flatten) := by
  have HR := Lib.hid hR
  have HT : Hid (∀ j, ((ls.take j).flatten).length ≤ 1073741823) := fun j => Nat.le_trans (flatP_le ls j) hT
  have HTT := Lib.hid hT
  have HTK := Lib.hid (fun j (h : j < ls.length) => flatP_take h)
  obtain ⟨i0, hi0, hz0, hz1, hz2⟩ := info_parts infoPw
  have HI0 := Lib.hid (And.intro hi0 (And.intro hz0 (And.intro hz1 hz2)))
  clear hi0 hz0 hz1 hz2 hR hT
  go_enter Tryz.func56, Tryz.ntmps56
  go_wp2_with fail
  go_loopw [3, 11] (fun s i wr => ∃ j : Nat, j ≤ ls.length ∧ i = .int .i64 j ∧ s = .int .i64 (((ls.take j).flatten).length : Nat) ∧ Ext w wr) (fun _ i _ => ls.length - (intOf i).toNat)
  case atStart => exact ⟨0, Nat.zero_le _, rfl, by simp, Ext.refl _⟩
  case round =>
    obtain ⟨j, hj, rfl, rfl, hE⟩ := hrel
    by_cases hlt : j < ls.length
    · obtain ⟨b, o, rfl⟩ := PsRow_at HR.out (by omega)
      obtain ⟨ya, c, g0, _, _⟩ := PsRow_get HR.out j hlt
      have g1 := keep_below hE _ _ g0
      have hl1 := HT.out (j + 1)
      have HL := Lib.hid (congrArg List.length (HTK.out j hlt))
      have hl2 := HL.out
      rw [List.length_append] at hl2
      have i1 : (0 : Int) ≤ (j : Int) := by omega
      have i2 : (j : Int) < (ls.length : Int) := by omega
      have HEr := Lib.hid hE
      obtain ⟨A, hA⟩ : ∃ A, ((ls.take j).flatten).length = A := ⟨_, rfl⟩
      obtain ⟨B, hB⟩ : ∃ B, (ls[j]).length = B := ⟨_, rfl⟩
      have HN : Hid (((ls.take (j + 1)).flatten).length = A + B) := by show _ = _; omega
      have hAB : A + B ≤ 1073741823 := by omega
      rw [hA]
      rw [hB] at g1
      clear hE g0 hl1 hl2 hA hB
      go_wp2_with fail
      go_roundw
      case rel => exact ⟨j + 1, by omega, by go_num, by rw [HN.out]; go_num, HEr.out⟩
      case measure => simp [intOf]; omega
    obtain rfl : j = ls.length := by omega
    rw [List.take_length]
    have HG := Lib.hid (grow_powers ls.flatten.length wr (Nat.le_succ_of_le HTT.out))
    have HEr := Lib.hid hE
    obtain ⟨A, hA⟩ : ∃ A, ls.flatten.length = A := ⟨_, rfl⟩
    rw [hA] at HG ⊢
    clear hE hA
    go_wp2_with (go_at_call 91; refine (HG.out).mono ?_; rintro e w5 ⟨v5, he, hO, hB5⟩; subst he; have HO5 := Lib.hid (own_base hO HEr.out.size); have HB5 := Lib.hid (Ext.trans HEr.out hB5); clear hO hB5)
    go_loopw [6, 27] (fun v i wr => ∃ j : Nat, j ≤ ls.length ∧ i = .int .i64 j ∧ OwnP w.heap.size (fun b => b < w.heap.size) wr ((ls.take j).flatten) v ∧ Ext w wr) (fun _ i _ => ls.length - (intOf i).toNat)
    case atStart => exact ⟨0, Nat.zero_le _, rfl, ⟨[], by simpa using HO5.out, rfl⟩, HB5.out⟩
    case round =>
      obtain ⟨j, hj, rfl, hO, hE2⟩ := hrel
      have HE2 := Lib.hid hE2
      have hsz := hE2.size
      by_cases hlt : j < ls.length
      rotate_left
      · obtain rfl : j = ls.length := by omega
        rw [List.take_length] at hO
        have HF := Lib.hid (show CatPost w ls.flatten (.returned _) _ from ⟨_, rfl, hO, hE2⟩)
        clear hO hE2
        go_wp2_with fail
        go_ret
        exact HF.out
      obtain ⟨b, o, rfl⟩ := PsRow_at HR.out (by omega)
      obtain ⟨ya, c, g0, hc0, hRj⟩ := PsRow_get HR.out j hlt
      have g1 := keep_below hE2 _ _ g0
      have hl1 := HT.out (j + 1)
      have HL := Lib.hid (HTK.out j hlt)
      have hl2 := congrArg List.length HL.out
      rw [List.length_append] at hl2
      obtain ⟨xl, lcap, rfl⟩ := OwnP_form hO
      have HOr := Lib.hid hO
      obtain ⟨cs, hown, hK⟩ := hO
      have hcp : ((ls.take j).flatten).length ≤ lcap := (OwnP_row HOr.out).2
      have HO := Lib.hid hown
      have HK := Lib.hid hK
      have i1 : (0 : Int) ≤ (j : Int) := by omega
      have i2 : (j : Int) < (ls.length : Int) := by omega
      by_cases h0 : (ls[j]).length = 0
      · have hn0 : ls[j] = [] := List.length_eq_zero_iff.1 h0
        have HN : Hid ((ls.take (j + 1)).flatten = (ls.take j).flatten) := by show _ = _; rw [HL.out, hn0, List.append_nil]
        rw [h0] at g1
        clear hown hK hE2 g0 hl1 hl2 hRj hc0 h0 hn0
        obtain ⟨A, hA⟩ : ∃ A, ((ls.take j).flatten).length = A := ⟨_, rfl⟩
        rw [hA] at HOr hcp ⊢
        clear hA HO HK
        go_wp2_with (at_builtin; refine wpList_append_zero rfl _ _ 27 rfl 77 i0 Tryz.underlying27 HI0.out.1 xl A lcap rfl ya c rfl hcp ?_)
        go_roundw
        case rel => exact ⟨j + 1, by omega, by go_num, by rw [HN.out]; exact HOr.out, HE2.out⟩
        case measure => simp [intOf]; omega
      · obtain ⟨b2, o2, rfl⟩ := PRow_at hRj (by omega)
        obtain ⟨ds, hd1, hd2, hd3⟩ := src_cells hRj
        have HD := Lib.hid (hd1 wr hE2)
        have HDL := Lib.hid hd2
        have HD1 := Lib.hid hd3
        obtain ⟨m, hm⟩ : ∃ m, (ls[j]).length = m := ⟨_, rfl⟩
        have HM := Lib.hid hm
        obtain ⟨A, hA⟩ : ∃ A, ((ls.take j).flatten).length = A := ⟨_, rfl⟩
        have HA := Lib.hid hA
        have hAm : A + m ≤ 1073741823 := by omega
        rw [hm] at g1 HDL
        rw [hA] at HO ⊢
        clear hown hK hE2 g0 hl1 hl2 hRj hc0 h0 hd1 hd2 hd3 hm hA hcp
        go_wp2_with (at_builtin; go_loud (refine wpList_append_own_at _ rfl _ _ _ rfl w.heap.size 77 i0 _ 5 64 Tryz.underlying27 HI0.out.1 HI0.out.2.1 HI0.out.2.2.1 HI0.out.2.2.2 rfl (by omega) (.slice xl A lcap) A cs rfl HO.out ⟨b2, o2, none⟩ m c ds rfl HDL.out HD.out.2 HD1.out (by unfold maxLen; omega) (by omega) hsz ?_; intro v1 w1 hown1 hgrow _ _; have HP := Lib.hid (OwnP_join (acc := (ls.take j).flatten) (qs := ls[j]) (by rw [HA.out]; exact HO.out) HK.out (Nat.le_refl _) hsz HD.out.1 (by rw [HA.out, HM.out]; exact hown1) hgrow); clear hown1 hgrow))
        go_roundw
        case rel => exact ⟨j + 1, by omega, by go_num, by rw [HL.out]; exact HP.out.1, Below.trans HE2.out HP.out.2⟩
        case measure => simp [intOf]; omega
end Go.Proofs.YtcieadjjcpmieaaGreat

/-
  THE WALK OF exponent.columnsOf: all factors of generators and a product, ascending, each once.
-/
namespace Go.Proofs.YtcieadjjcpmieaaGreat
open Go.RowKit Go.Lib

def SoPost (H : Nat) (S : Nat → Prop) (w : World) (v : Value) (ps : List Pw) (e : Ending) (w' : World) : Prop :=
  e = .returned (.tuple #[]) ∧ ∃ ps', OwnP H S w' ps' v ∧ ps'.Perm ps ∧ AscW ps' ∧ Below H w w' ∧ w.heap.size ≤ w'.heap.size
theorem sortP_any {H : Nat} {S : Nat → Prop} {ps : List Pw} {v : Value} {w : World} (hown : OwnP H S w ps v) (hS : ∀ b, S b → b < H) (hHw : H ≤ w.heap.size) (hsz : SzP 1073741824 ps) (hlt : ps.length < 1073741824) :
    Calls Tryz.prog 83 #[v, .func (.func 73) #[] #[]] w (SoPost H S w v ps) := by
  by_cases h0 : ps.length = 0
  · have hn : ps = [] := List.length_eq_zero_iff.1 h0
    subst hn
    obtain ⟨xa, cap, rfl⟩ := OwnP_form hown
    refine (AnyF.slices_SortFunc_none Tryz.sortPowers xa cap (.func (.func 73) #[] #[]) w).mono fun e w' h => ?_
    obtain ⟨rfl, rfl⟩ := h
    exact ⟨rfl, [], hown, List.Perm.refl _, List.Pairwise.nil, Below.refl _ _, Nat.le_refl _⟩
  · obtain ⟨cs, ho, hK⟩ := id hown
    rcases id ho.2 with ⟨rfl, e⟩ | ⟨g, cap, _, rfl, hg, _, hcap, _⟩
    · exact absurd e h0
    · have hgl := (ho.lt g rfl).2
      refine (sort_powers ho hK (fun b hb => ⟨by have := hS b hb; omega, by have := hS b hb; omega⟩) hHw (by omega) hsz hlt).mono fun e w' h => ?_
      obtain ⟨rfl, ps', vs', h1, h2, h3, h4, h5, h6, _⟩ := h
      exact ⟨rfl, ps', ⟨vs', by rw [h3.length_eq]; exact h1, h2⟩, h3, h4, h5, h6⟩
def CoPost (H : Nat) (S : Nat → Prop) (w : World) (ps : List Pw) (e : Ending) (w' : World) : Prop :=
  ∃ xa cap, e = .returned (.slice xa (uniqP ps).length cap) ∧ OwnP H S w' (uniqP ps) (.slice xa (uniqP ps).length cap) ∧ Below H w w' ∧ w.heap.size ≤ w'.heap.size
set_option maxHeartbeats 1600000 in
set_option maxRecDepth 100000 in
theorem compact_zero (xa : Option Addr) (cap : Nat) (w : World) :
    Calls Tryz.prog 116 #[.slice xa 0 cap, .func (.func 117) #[] #[]] w fun e w' => e = .returned (.slice xa 0 cap) ∧ w' = w := by
  go_enter Tryz.func116, Tryz.ntmps116
  go_wp2_with fail
  go_ret
  exact ⟨rfl, rfl⟩
theorem compP_any {H : Nat} {S : Nat → Prop} {ps : List Pw} {v : Value} {w : World} (hown : OwnP H S w ps v) (hS : ∀ b, S b → b < H) (hHw : H ≤ w.heap.size) (hsz : SzP 1073741824 ps) (hlt : ps.length < 1073741824) :
    Calls Tryz.prog 116 #[v, .func (.func 117) #[] #[]] w (CoPost H S w ps) := by
  by_cases h0 : ps.length = 0
  · have hn : ps = [] := List.length_eq_zero_iff.1 h0
    subst hn
    obtain ⟨xa, cap, rfl⟩ := OwnP_form hown
    refine (compact_zero xa cap w).mono fun e w' h => ?_
    obtain ⟨rfl, rfl⟩ := h
    have e : uniqP [] = [] := by rw [uniqP]
    refine ⟨xa, cap, by rw [e]; rfl, by rw [e]; exact hown, Below.refl _ _, Nat.le_refl _⟩
  · obtain ⟨cs, ho, hK⟩ := id hown
    rcases id ho.2 with ⟨rfl, e⟩ | ⟨g, cap, _, rfl, hg, _, hcap, _⟩
    · exact absurd e h0
    · refine (compact_any ho hK hS hHw (by omega) hsz hlt).mono fun e w' h => ?_
      exact ⟨_, _, h.1, h.2.1, h.2.2.1, h.2.2.2⟩
/-- What columnsOf gives back for a list of powers. -/
def ColsPost (w : World) (ps : List Pw) (e : Ending) (w' : World) : Prop :=
  ∃ cs xa cap, e = .returned (.slice xa cs.length cap) ∧ cs.length ≤ cap ∧ PRow w' cs xa ∧ AscP cs ∧ (∀ t, (∃ p ∈ cs, p.1 = t) ↔ ∃ p ∈ ps, p.1 = t) ∧ SzP 1073741824 cs ∧ cs.length ≤ ps.length ∧ Below w.heap.size w w'
theorem uniqP_len : ∀ (n : Nat) (l : List Pw), l.length ≤ n → (uniqP l).length ≤ l.length
  | _, [], _ => by rw [uniqP]; exact Nat.le_refl _
  | _, [p], _ => by rw [uniqP]; exact Nat.le_refl _
  | 0, p :: q :: l, h => by simp at h
  | n + 1, p :: q :: l, h => by
    rw [uniqP]
    split
    · have := uniqP_len n (p :: l) (by simp at h ⊢; omega)
      simp at this ⊢; omega
    · have := uniqP_len n (q :: l) (by simp at h ⊢; omega)
      simp at this ⊢; omega
theorem cols_end {w w6 w7 w8 : World} {H : Nat} {S : Nat → Prop} {ps ps' : List Pw} {e : Ending} (hH : H = w.heap.size) (hp : ps'.Perm ps) (ha : AscW ps') (hz : SzP 1073741824 ps) (hB6 : Below H w w6) (hB7 : Below H w6 w7) (h : CoPost H S w7 ps' e w8) : ColsPost w ps e w8 := by
  subst hH
  obtain ⟨xa, cap, he, hO, hB8, _⟩ := h
  obtain ⟨r1, r2⟩ := OwnP_row hO
  obtain ⟨m1, m2⟩ := uniqP_mem _ ps' (Nat.le_refl _)
  refine ⟨uniqP ps', xa, cap, he, r2, r1, uniqP_asc _ ps' (Nat.le_refl _) ha, fun t => ?_, fun p hp' => hz p (hp.mem_iff.1 (m2 p hp')), ?_, (hB6.trans hB7).trans hB8⟩
  · rw [m1 t]
    exact ⟨fun ⟨p, h1, h2⟩ => ⟨p, hp.mem_iff.1 h1, h2⟩, fun ⟨p, h1, h2⟩ => ⟨p, hp.mem_iff.2 h1, h2⟩⟩
  · rw [← hp.length_eq]; exact uniqP_len _ ps' (Nat.le_refl _)
set_option maxHeartbeats 6400000 in
set_option maxRecDepth 100000 in
theorem columns_any (ls : List (List Pw)) (m : List Pw) (xs xm : Option Addr) (cs0 cm : Nat) (w : World) (hn : ls.length ≤ 1048576) (hT : (ls.flatten ++ m).length ≤ 1073741823) (hsz : SzP 1073741824 (ls.flatten ++ m)) (hR : PsRow w ls xs) (hM : PRow w m xm) :
    Calls Tryz.prog 94 #[.slice xs ls.length cs0, .slice xm m.length cm] w (ColsPost w (ls.flatten ++ m)) := by
  have hTl := hT
  rw [List.length_append] at hTl
  have HC := Lib.hid (concat_any ls xs cs0 w hn (by omega) hR)
  have HMR := Lib.hid hM
  have HSZ := Lib.hid hsz
  have HT := Lib.hid hT
  have HTL := Lib.hid hTl
  obtain ⟨i0, hi0, hz0, hz1, hz2⟩ := info_parts infoPw
  have HI0 := Lib.hid (And.intro hi0 (And.intro hz0 (And.intro hz1 hz2)))
  obtain ⟨H, hH⟩ : ∃ H, w.heap.size = H := ⟨_, rfl⟩
  have HH := Lib.hid hH
  have HEND : Hid (∀ (w6 : World) v, OwnP H (fun b => b < H) w6 (ls.flatten ++ m) v → Below H w w6 → ∀ e7 w7, SoPost H (fun b => b < H) w6 v (ls.flatten ++ m) e7 w7 → e7 = .returned (.tuple #[]) ∧ ∃ ps', OwnP H (fun b => b < H) w7 ps' v ∧ ps'.length = (ls.flatten ++ m).length ∧ SzP 1073741824 ps' ∧ H ≤ w7.heap.size ∧ ∀ e w8, CoPost H (fun b => b < H) w7 ps' e w8 → ColsPost w (ls.flatten ++ m) e w8) := by
    show ∀ _, _
    intro w6 v h6 hB6 e7 w7 h7
    obtain ⟨he, ps', h1, h2, h3, h4, h5⟩ := h7
    exact ⟨he, ps', h1, h2.length_eq, fun p hp => hsz p (h2.mem_iff.1 hp), by rw [← hH]; exact Nat.le_trans hB6.size h5, fun e w8 h => cols_end hH.symm h2 h3 hsz hB6 h4 h⟩
  clear hn hT hsz hR hM hTl hi0 hz0 hz1 hz2 hH
  by_cases h0 : m.length = 0
  · have hm0 : m = [] := List.length_eq_zero_iff.1 h0
    subst hm0
    have he : ls.flatten ++ [] = ls.flatten := List.append_nil _
    rw [he] at HSZ HT HEND ⊢
    clear he h0
    go_enter Tryz.func94, Tryz.ntmps94
    go_wp2_with (first
      | (go_at_call 56; refine (HC.out).mono ?_; rintro e w5 ⟨v5, he, hO, hB5⟩; subst he; obtain ⟨xl, lcap, hv⟩ := OwnP_form hO; subst hv; have hlc := (OwnP_row hO).2; have HO5 := Lib.hid (show OwnP H (fun b => b < H) w5 ls.flatten _ by rw [← HH.out]; exact hO); have HB5 := Lib.hid (show Below H w w5 by rw [← HH.out]; exact hB5); clear hO hB5; obtain ⟨A, hA⟩ : ∃ A, ls.flatten.length = A := ⟨_, rfl⟩; have HA := Lib.hid hA; rw [hA] at HO5 hlc ⊢; clear hA)
      | (at_builtin; refine wpList_append_zero rfl _ _ 27 rfl 77 i0 Tryz.underlying27 HI0.out.1 xl A lcap rfl xm cm rfl hlc ?_; have HSO := Lib.hid (sortP_any HO5.out (fun _ h => h) (by rw [← HH.out]; exact HB5.out.size) HSZ.out (Nat.lt_of_le_of_lt HT.out (by omega))))
      | (go_at_call 83; refine (HSO.out).mono ?_; rintro e w7 h7; obtain ⟨he, ps', hO7, hl7, hz7, hs7, hend⟩ := HEND.out _ _ HO5.out HB5.out _ _ h7; subst he; have HEN := Lib.hid hend; have HCO := Lib.hid (compP_any hO7 (fun _ h => h) hs7 hz7 (by rw [hl7]; exact Nat.lt_of_le_of_lt HT.out (by omega))); clear h7 hO7 hl7 hz7 hs7 hend)
      | (go_at_call 116; refine (HCO.out).mono ?_; rintro e w8 h8; have hf := HEN.out _ _ h8; obtain ⟨xa8, cap8, he8, _⟩ := h8; subst he8; have HF := Lib.hid hf; clear hf))
    go_ret
    exact HF.out
  · obtain ⟨b2, o2, rfl⟩ := PRow_at HMR.out (by omega)
    obtain ⟨ds, hd1, hd2, hd3⟩ := src_cells HMR.out
    have HD := Lib.hid hd1
    have HDL := Lib.hid hd2
    have HD1 := Lib.hid hd3
    obtain ⟨n, hm⟩ : ∃ n, m.length = n := ⟨_, rfl⟩
    have HM := Lib.hid hm
    obtain ⟨A, hA⟩ : ∃ A, ls.flatten.length = A := ⟨_, rfl⟩
    have HA := Lib.hid hA
    have hAm : A + n ≤ 1073741823 := by have := HTL.out; omega
    rw [hm] at HDL ⊢
    clear hd1 hd2 hd3 hm hA h0
    go_enter Tryz.func94, Tryz.ntmps94
    go_wp2_with (first
      | (go_at_call 56; refine (HC.out).mono ?_; rintro e w5 ⟨v5, he, hO, hB5⟩; subst he; obtain ⟨xl, lcap, hv⟩ := OwnP_form hO; subst hv; have hS5 := hB5.size; have HE5 := Lib.hid (show Ext w w5 from hB5); have HB5 := Lib.hid (show Below H w w5 by rw [← HH.out]; exact hB5); obtain ⟨cs5, ho5, hk5⟩ := hO; rw [HA.out] at ho5 ⊢; have HO5 := Lib.hid ho5; have HK5 := Lib.hid hk5; clear hB5 ho5 hk5)
      | (at_builtin; refine wpList_append_own_at _ rfl _ _ _ rfl w.heap.size 77 i0 _ 5 64 Tryz.underlying27 HI0.out.1 HI0.out.2.1 HI0.out.2.2.1 HI0.out.2.2.2 rfl (by omega) (.slice xl A lcap) A cs5 rfl HO5.out ⟨b2, o2, none⟩ n cm ds rfl HDL.out (HD.out _ HE5.out).2 HD1.out (by unfold maxLen; omega) (by omega) hS5 ?_; intro v1 w6 hown1 hgrow _ _; have hp := OwnP_join (acc := ls.flatten) (qs := m) (by rw [HA.out]; exact HO5.out) HK5.out (Nat.le_refl _) hS5 (HD.out _ HE5.out).1 (by rw [HA.out, HM.out]; exact hown1) hgrow; rw [HH.out] at hp; have HP := Lib.hid (And.intro hp.1 (HB5.out.trans hp.2)); have HSO := Lib.hid (sortP_any HP.out.1 (fun _ h => h) (by rw [← HH.out]; exact HP.out.2.size) HSZ.out (Nat.lt_of_le_of_lt HT.out (by omega))); clear hown1 hgrow hp)
      | (go_at_call 83; refine (HSO.out).mono ?_; rintro e w7 h7; obtain ⟨he, ps', hO7, hl7, hz7, hs7, hend⟩ := HEND.out _ _ HP.out.1 HP.out.2 _ _ h7; subst he; have HEN := Lib.hid hend; have HCO := Lib.hid (compP_any hO7 (fun _ h => h) hs7 hz7 (by rw [hl7]; exact Nat.lt_of_le_of_lt HT.out (by omega))); clear h7 hO7 hl7 hz7 hs7 hend)
      | (go_at_call 116; refine (HCO.out).mono ?_; rintro e w8 h8; have hf := HEN.out _ _ h8; obtain ⟨xa8, cap8, he8, _⟩ := h8; subst he8; have HF := Lib.hid hf; clear hf))
    go_ret
    exact HF.out
end Go.Proofs.YtcieadjjcpmieaaGreat
