import Derived.ChangeSlices
import Derived.Deep.LoopGhost
import Derived.LoopIn
import Derived.LoopNIn
import Derived.OwnWalkIn
import Derived.RangeFuncBound
import Derived.RangeFuncBox
import Derived.RangeFuncCalls
import Derived.RangeFuncLeaves
import Derived.RangeFuncNested
import Derived.Shelf.Abstract
import Derived.SizedLaws
import Derived.TacticsInMore
import Derived.Test.YtbcpnepjojppaaaGreatDoorLawTheoryKeyxYkeyW
namespace Go.Proofs.YtbcpnepjojppaaaGreatDoor
open Go.RowKit
end Go.Proofs.YtbcpnepjojppaaaGreatDoor
namespace Go.Proofs.YtbcpnepjojppaaaGreatDoor
open Go.RowKit
theorem app_grow {w w1 : World} {n m c : Nat} (h : ((w.alloc (.cells #[.int .i64 0, .string ⟨#[]⟩, .int .i64 0, .slice none 0 0] 24)).alloc (.cells #[] 24)).grownBy w1 (Value.slice (some ⟨w.heap.size + 1, n, none⟩) m c).ownBlock) :
    Below w.heap.size w w1 ∧ w1.cell? ⟨w.heap.size, 0, none⟩ = some (.int .i64 0) ∧ w1.cell? ⟨w.heap.size, 1, none⟩ = some (.string ⟨#[]⟩) ∧ w1.cell? ⟨w.heap.size, 2, none⟩ = some (.int .i64 0) ∧ w1.cell? ⟨w.heap.size, 3, none⟩ = some (.slice none 0 0) ∧
    w1.frozen? ⟨w.heap.size, 0, none⟩ = false ∧ w1.frozen? ⟨w.heap.size, 1, none⟩ = false ∧ w1.frozen? ⟨w.heap.size, 2, none⟩ = false ∧ w1.frozen? ⟨w.heap.size, 3, none⟩ = false := by
  have hB : Below w.heap.size w w1 := (((Below.refl w.heap.size w).alloc (Nat.le_refl _) _).alloc (by simp) _).grown h (by simp; omega) (fun k hk => by simp only [Value.ownBlock, Option.some.injEq] at hk; omega)
  obtain ⟨h0, h1, h2, h3⟩ := box_cells w (.int .i64 0) (.string ⟨#[]⟩) (.int .i64 0) (.slice none 0 0) 24
  have hf : ∀ i, w1.frozen? ⟨w.heap.size, i, none⟩ = false := fun i => by
    rw [h.frozen_far _ (by simp; omega) (by simp [Value.ownBlock])]
    refine (Below.frozen (p := ⟨w.heap.size, i, none⟩) ((Below.refl _ (w.alloc (.cells #[.int .i64 0, .string ⟨#[]⟩, .int .i64 0, .slice none 0 0] 24))).alloc (Nat.le_refl _) _) (by simp)).trans ?_
    unfold World.frozen?; rw [heap_alloc_new]; simp
  refine ⟨hB, ?_, ?_, ?_, ?_, hf 0, hf 1, hf 2, hf 3⟩ <;> (rw [h.cell_far _ (by simp; omega) (by simp [Value.ownBlock])]; exact keep_alloc _ _ _ _ (by assumption))
end Go.Proofs.YtbcpnepjojppaaaGreatDoor
namespace Go.Proofs.YtbcpnepjojppaaaGreatDoor
open Go.RowKit
section
variable {S : Nat → Prop} {w w' : World} {ts : List Tm} {v : Value}
end
end Go.Proofs.YtbcpnepjojppaaaGreatDoor
namespace Go.Proofs.YtbcpnepjojppaaaGreatDoor
open Go.RowKit
end Go.Proofs.YtbcpnepjojppaaaGreatDoor
namespace Go.Proofs.YtbcpnepjojppaaaGreatDoor
open Go.RowKit
end Go.Proofs.YtbcpnepjojppaaaGreatDoor
namespace Go.Proofs.YtbcpnepjojppaaaGreatDoor
open Go.RowKit
end Go.Proofs.YtbcpnepjojppaaaGreatDoor
namespace Go.Proofs.YtbcpnepjojppaaaGreatDoor
open Go.RowKit
end Go.Proofs.YtbcpnepjojppaaaGreatDoor
namespace Go.Proofs.YtbcpnepjojppaaaGreatDoor
open Go.RowKit
end Go.Proofs.YtbcpnepjojppaaaGreatDoor
namespace Go.Proofs.YtbcpnepjojppaaaGreatDoor
open Go.ChangeShapes Go.WideShapes Go.ChangeAt Go.RowKit Go.Deep
section
variable {H : Type} {enc : TypeId × Value → H} {W : World} {base : Nat} {sp : Nat → Bool} {held : Bool}
set_option maxRecDepth 100000 in
theorem open_terms {v : Value} {d : DataW H} {ps : List MemPlace} {r : Reach} {b0 : Nat} (hv : Value.okWide Tryz.prog W r b0 22 v) (h : DataW.Trod enc Tryz.prog W base sp held 22 v d ps) :
    ∃ (ls : List Tm) (xa : Option Addr) (cap : Nat), v = .slice xa ls.length cap ∧ ls.length ≤ cap ∧ ls.length ≤ maxLen ∧ Row W ls xa := by
  obtain ⟨a0, l0, c0, rfl⟩ := okWide_slice Tryz.underlying22 hv
  obtain ⟨fuel, hf⟩ := h
  have hcs : (Value.slice a0 l0 c0).cells.toList = [.slice a0 l0 c0] := rfl
  rw [hcs] at hf
  rcases DataW.trod_slice Tryz.underlying22 hf with ⟨e3, _⟩ | ⟨a, len, cap, elems, rest, m, hn, e3, _, hb, hlc, hcm, hel, hat, _⟩
  · simp only [List.cons.injEq, and_true, Value.slice.injEq] at e3
    obtain ⟨rfl, rfl, rfl⟩ := e3
    exact ⟨[], none, 0, rfl, Nat.le_refl _, Nat.zero_le _, by simp [Row]⟩
  · simp only [List.cons.injEq, and_true, Value.slice.injEq] at e3
    obtain ⟨rfl, rfl, rfl⟩ := e3
    rw [cellsTerm] at hat
    have hone : ∀ i, i < l0 → ∃ t : Tm, ∃ c0 c1 c2 c3, W.cells? base (a.add (i * 4)) 4 = some [c0, c1, c2, c3] ∧ Is W t c0 c1 c2 c3 := fun i hi => by
      have hi' : i < elems.length := by omega
      have := hat i hi
      rw [List.getElem?_eq_getElem hi'] at this
      obtain ⟨cs', hcs, htr⟩ := Option.bind_eq_some_iff.1 this
      obtain ⟨t, d0, d1, d2, d3, rfl, hI⟩ := open_term_upto m m cs' _ (Nat.le_refl _) htr
      exact ⟨t, d0, d1, d2, d3, hcs, hI⟩
    obtain ⟨f, hf'⟩ := choose_lt hone
    obtain ⟨ab, ao, spot⟩ := a
    have hll : ((List.range l0).map f).length = l0 := by simp
    refine ⟨(List.range l0).map f, some ⟨ab, ao, spot⟩, c0, by rw [hll], by rw [hll]; exact hlc, by rw [hll]; omega, ?_⟩
    by_cases h0 : l0 = 0
    · subst h0; simp [Row]
    · have hspot : spot = none := by
        obtain ⟨d0, d1, d2, d3, hcs, _⟩ := hf' 0 (by omega)
        obtain ⟨_, _, hc⟩ := World.cells?_some hcs
        have := hc 0 (by omega)
        simpa [Addr.add] using World.cell?_spot this
      subst hspot
      have := Row_of_family (w := W) f ab l0 ao 0 (fun i hi => by
        obtain ⟨d0, d1, d2, d3, hcs, hI⟩ := hf' i hi
        obtain ⟨_, _, hc⟩ := World.cells?_some hcs
        have g0 := hc 0 (by omega)
        have g1 := hc 1 (by omega)
        have g2 := hc 2 (by omega)
        have g3 := hc 3 (by omega)
        simp only [Addr.add_lit, List.getElem?_cons_zero, List.getElem?_cons_succ, Nat.add_zero] at g0 g1 g2 g3
        rw [Nat.zero_add]
        exact ⟨d0, d1, d2, d3, g0, g1, g2, g3, hI⟩)
      simpa using this
end
end Go.Proofs.YtbcpnepjojppaaaGreatDoor
namespace Go.Proofs.YtbcpnepjojppaaaGreatDoor
open Go.ChangeShapes Go.WideShapes Go.ChangeAt Go.RowKit Go.Deep
section
variable {H : Type} {enc : TypeId × Value → H} {W : World} {base : Nat} {sp : Nat → Bool} {held : Bool}
end
end Go.Proofs.YtbcpnepjojppaaaGreatDoor
namespace Go.Proofs.YtbcpnepjojppaaaGreatDoor
open Go.RowKit Go.Lib
theorem put4_in {S : Nat → Prop} {w : World} {t : Tm} {c0 c1 c2 c3 d0 d1 d2 d3 : Value} {g : Nat} (hg : ¬ S g) (h : IsIn S w t c0 c1 c2 c3) : IsIn S (put4 w g 0 d0 d1 d2 d3) t c0 c1 c2 c3 :=
  IsIn_carry (fun q hq => put4_other _ _ _ _ _ _ _ _ (fun (e : q = g) => hg (by rw [← e]; exact hq))) (fun _ h => h) _ _ _ _ _ h
end Go.Proofs.YtbcpnepjojppaaaGreatDoor
namespace Go.Proofs.YtbcpnepjojppaaaGreatDoor
open Go.RowKit
mutual
def wide : Tm → Bool
  | .mk _ _ _ ks => decide (8 < ks.length) || wideL ks
def wideL : List Tm → Bool
  | [] => false
  | t :: ts => wide t || wideL ts
end
end Go.Proofs.YtbcpnepjojppaaaGreatDoor
namespace Go.Proofs.YtbcpnepjojppaaaGreatDoor
open Go.RowKit
end Go.Proofs.YtbcpnepjojppaaaGreatDoor
namespace Go.Proofs.YtbcpnepjojppaaaGreatDoor
open Go.RowKit
end Go.Proofs.YtbcpnepjojppaaaGreatDoor
namespace Go.Proofs.YtbcpnepjojppaaaGreatDoor
open Go.RowKit
end Go.Proofs.YtbcpnepjojppaaaGreatDoor
namespace Go.Proofs.YtbcpnepjojppaaaGreatDoor
open Go.RowKit
end Go.Proofs.YtbcpnepjojppaaaGreatDoor
namespace Go.Proofs.YtbcpnepjojppaaaGreatDoor
open Go.RowKit
end Go.Proofs.YtbcpnepjojppaaaGreatDoor
namespace Go.Proofs.YtbcpnepjojppaaaGreatDoor
open Go.RowKit
end Go.Proofs.YtbcpnepjojppaaaGreatDoor
namespace Go.Proofs.YtbcpnepjojppaaaGreatDoor
open Go.RowKit Go.Lib
def tupL : List Tm → Tm
  | [] => zilT
  | [t] => t
  | t :: u :: ts => .mk 3 yPair 0 [t, tupL (u :: ts)]
def tupP (l : List Tm) : Tm × Int := if l = [] then (zilT, 8) else if yvalidE (tupL l) = 0 then (tupL l, 0) else (zilT, yvalidE (tupL l))
theorem tupL_drop (l : List Tm) (i : Nat) (h : i + 1 < l.length) : tupL (l.drop i) = .mk 3 yPair 0 [l[i], tupL (l.drop (i + 1))] := by
  rw [List.drop_eq_getElem_cons (show i < l.length by omega), List.drop_eq_getElem_cons h]
  rfl
theorem tupL_size : ∀ (l : List Tm), size (tupL l) ≤ sizes l + l.length + 1
  | [] => by decide
  | [t] => by simp only [tupL, sizes, List.length_cons, List.length_nil]; omega
  | t :: u :: ts => by
    have := tupL_size (u :: ts)
    simp only [tupL, size, sizes, List.length_cons] at this ⊢
    omega
theorem tupL_last (l : List Tm) (h : 0 < l.length) : tupL (l.drop (l.length - 1)) = l[l.length - 1] := by
  rw [List.drop_eq_getElem_cons (show l.length - 1 < l.length by omega), List.drop_eq_nil_of_le (by omega)]
  rfl
def AppInS (S : Nat → Prop) (w : World) (n : ByteArray) (ks : List Tm) (l : Nat) (e : Ending) (w' : World) : Prop := (∃ xa cap, e = .returned (.agg #[.int .i64 3, .string n, .int .i64 0, .slice xa l cap]) ∧ IsIn (fun b => S b ∧ b < w'.heap.size) w' (.mk 3 n 0 ks) (.int .i64 3) (.string n) (.int .i64 0) (.slice xa l cap)) ∧ Ext w w'
theorem app_endS {S : Nat → Prop} {w w1 : World} {n : ByteArray} {ks : List Tm} {gg cap' : Nat} {cs : List Value} (hS : ∀ b, w.heap.size ≤ b → S b) (hn : n.size ≤ maxLen) (hB : Below w.heap.size w w1) (hg : w.heap.size < gg)
    (hown : w1.ownsRow w.heap.size 24 4 (.slice (some ⟨gg, 0, none⟩) (0 + ks.length) cap') (0 + ks.length) ([] ++ cs)) (hK : KC (fun b => S b ∧ b < w.heap.size) w ks cs) :
    AppInS S w n ks ks.length (.returned (.agg #[.int .i64 3, .string n, .int .i64 0, .slice (some ⟨gg, 0, none⟩) ks.length cap'])) ((((w1.setCell ⟨w.heap.size, 0, none⟩ (.int .i64 3)).setCell ⟨w.heap.size, 1, none⟩ (.string n)).setCell ⟨w.heap.size, 2, none⟩ (.int .i64 0)).setCell ⟨w.heap.size, 3, none⟩ (.slice (some ⟨gg, 0, none⟩) ks.length cap')) := by
  have hB4 := (((hB.setCell (p := ⟨w.heap.size, 0, none⟩) (Nat.le_refl _) (.int .i64 3)).setCell (p := ⟨w.heap.size, 1, none⟩) (Nat.le_refl _) (.string n)).setCell (p := ⟨w.heap.size, 2, none⟩) (Nat.le_refl _) (.int .i64 0)).setCell (p := ⟨w.heap.size, 3, none⟩) (Nat.le_refl _) (.slice (some ⟨gg, 0, none⟩) ks.length cap')
  refine ⟨⟨_, _, rfl, ?_⟩, hB4⟩
  rw [Nat.zero_add, List.nil_append] at hown
  have ho := own_heap (w' := (((w1.setCell ⟨w.heap.size, 0, none⟩ (.int .i64 3)).setCell ⟨w.heap.size, 1, none⟩ (.string n)).setCell ⟨w.heap.size, 2, none⟩ (.int .i64 0)).setCell ⟨w.heap.size, 3, none⟩ (.slice (some ⟨gg, 0, none⟩) ks.length cap')) hown (fun q hq => by
    simp only [Value.ownBlock, Option.some.injEq] at hq; subst hq
    rw [Below.heap_setCell _ _ _ _ (by simp only; omega), Below.heap_setCell _ _ _ _ (by simp only; omega), Below.heap_setCell _ _ _ _ (by simp only; omega), Below.heap_setCell _ _ _ _ (by simp only; omega)])
  refine IsIn_lt _ _ _ _ _ (IsIn_app (S' := S) hn ho (KC_carry (fun b hb => hB4.block b hb.2) (fun _ h => h) ks cs hK) (fun _ h => h.1) (fun q hq => ?_))
  simp only [Value.ownBlock, Option.some.injEq] at hq
  exact hS _ (by omega)
set_option maxHeartbeats 1600000 in
set_option maxRecDepth 100000 in
theorem app_inS (S : Nat → Prop) (n : ByteArray) (ks : List Tm) (cs : List Value) (kb ko cap : Nat) (w : World) (hS : ∀ b, w.heap.size ≤ b → S b) (hn : n.size ≤ maxLen) (hl : ks.length ≤ 1073741824) (h0 : 0 < ks.length) (hK : KC (fun b => S b ∧ b < w.heap.size) w ks cs) (hc : ∀ j u, cs[j]? = some u → w.cell? ((⟨kb, ko, none⟩ : Addr).add j) = some u) :
    Calls Tryz.prog 31 #[.string n, .slice (some ⟨kb, ko, none⟩) ks.length cap] w (AppInS S w n ks ks.length) := by
  obtain ⟨hcl, hone⟩ := KC_one ks cs hK
  have HC : Hid (∀ j u, cs[j]? = some u → ((w.alloc (.cells #[.int .i64 0, .string ⟨#[]⟩, .int .i64 0, .slice none 0 0] 24)).alloc (.cells #[] 24)).cell? ((⟨kb, ko, none⟩ : Addr).add j) = some u) := fun j u hu => keep_alloc _ _ _ _ (keep_alloc w _ _ _ (hc j u hu))
  have HP := Lib.hid hcl
  have HN := Lib.hid hone
  obtain ⟨i0, hi0, hz0, hz1, hz2⟩ := info_parts info24
  have HI0 := Lib.hid (And.intro hi0 (And.intro hz0 (And.intro hz1 hz2)))
  have HO : Hid (((w.alloc (.cells #[.int .i64 0, .string ⟨#[]⟩, .int .i64 0, .slice none 0 0] 24)).alloc (.cells #[] 24)).ownsRow w.heap.size 24 4 (.slice (some ⟨w.heap.size + 1, 0, none⟩) 0 0) 0 []) := by
    show World.ownsRow _ _ _ _ _ _ _
    have := World.ownsRow_made (e := 24) (size := 4) (base := w.heap.size) (w.alloc (.cells #[.int .i64 0, .string ⟨#[]⟩, .int .i64 0, .slice none 0 0] 24)) #[] 0 (by simp) (by simp [maxLen]) (by simp)
    simpa using this
  have HKC := Lib.hid hK
  have HSS := Lib.hid hS
  clear hK hc hcl hone hi0 hz0 hz1 hz2 hS
  go_enter Tryz.func31, Tryz.ntmps31
  go_wp2_with (at_builtin; (refine wpList_append_lies _ rfl _ _ _ rfl w.heap.size 24 i0 _ 4 56 Tryz.underlying22 HI0.out.1 HI0.out.2.1 HI0.out.2.2.1 HI0.out.2.2.2 rfl (by omega) (.slice (some ⟨w.heap.size + 1, 0, none⟩) 0 0) 0 [] rfl HO.out ⟨kb, ko, none⟩ ks.length cap cs rfl HP.out HC.out HN.out h0 (by unfold maxLen; omega) (by omega) (by simp; omega) (w.heap.size + 2) (by simp) ?_); intro gg cap' w1 hown1 hgrow hat hlt; have n1 : w.heap.size < gg := (by rcases hat with e | e; (simp only [Value.ownBlock, Option.some.injEq] at e; omega); omega); have hB1 := Lib.hid (app_grow hgrow); have y0 := hB1.out.2.1; have y1 := hB1.out.2.2.1; have y2 := hB1.out.2.2.2.1; have y3 := hB1.out.2.2.2.2.1; have z0 := hB1.out.2.2.2.2.2.1; have z1 := hB1.out.2.2.2.2.2.2.1; have z2 := hB1.out.2.2.2.2.2.2.2.1; have z3 := hB1.out.2.2.2.2.2.2.2.2; have HO1 := Lib.hid hown1; clear hown1 hgrow hat)
  exact bodyPost_ret (v := .agg #[.int .i64 3, .string n, .int .i64 0, .slice (some ⟨gg, 0, none⟩) ks.length cap']) (by simp [results, Tryz.results31, go_sem, y0, y1, y2, y3]) rfl (app_endS HSS.out hn hB1.out.1 n1 HO1.out HKC.out)
theorem IsIn_upS {S : Nat → Prop} {w W : World} {t : Tm} {c0 c1 c2 c3 : Value} (h : IsIn (fun b => S b ∧ b < w.heap.size) w t c0 c1 c2 c3) (x : Ext w W) : IsIn (fun b => S b ∧ b < W.heap.size) W t c0 c1 c2 c3 :=
  IsIn_carry (fun b hb => x.block b hb.2) (fun _ hb => ⟨hb.1, Nat.lt_of_lt_of_le hb.2 x.size⟩) t _ _ _ _ h
theorem pair_inS (S : Nat → Prop) (n : ByteArray) (t x : Tm) (c0 c1 c2 c3 d0 d1 d2 d3 : Value) (V W : World) (kb : Nat) (T : TypeId) (hn : n.size ≤ maxLen) (hk : V.heap.size = kb) (hS : ∀ b, V.heap.size ≤ b → S b) (hI : IsIn (fun b => S b ∧ b < V.heap.size) V t c0 c1 c2 c3) (hJ : IsIn (fun b => S b ∧ b < V.heap.size) V x d0 d1 d2 d3) (hW : Ext (V.alloc (.cells #[c0, c1, c2, c3, d0, d1, d2, d3] T)) W) :
    Calls Tryz.prog 31 #[.string n, .slice (some ⟨kb, 0, none⟩) 2 2] W (AppInS S W n [t, x] 2) := by
  have c := cells_new_at V #[c0, c1, c2, c3, d0, d1, d2, d3] T kb hk
  have hx : Ext V W := Ext.trans ((Ext.refl V).alloc _) hW
  refine app_inS S n [t, x] [c0, c1, c2, c3, d0, d1, d2, d3] kb 0 2 _ (fun b hb => hS b (Nat.le_trans hx.size hb)) hn (by simp) (by simp) ⟨c0, c1, c2, c3, _, rfl, IsIn_upS hI hx, d0, d1, d2, d3, [], rfl, IsIn_upS hJ hx, rfl⟩ (fun j u hu => ?_)
  rw [add_plain, Nat.zero_add]
  exact keep_below hW _ _ (c j u (by simpa using hu))
def TB (H : Nat) (w wr : World) (u : Tm) : Prop := ∃ (k : Int) (n : ByteArray) (s : Int) (xa : Option Addr) (l c : Nat), wr.heap[H]? = some (.cells #[.int .i64 k, .string n, .int .i64 s, .slice xa l c] 24 (0, 0)) ∧ IsIn (fun b => (b ≠ H ∧ b + 1 ≠ H) ∧ b < wr.heap.size) wr u (.int .i64 k) (.string n) (.int .i64 s) (.slice xa l c) ∧ Ext w wr
theorem TB_put {H : Nat} {w wr W : World} {u u' : Tm} {n : ByteArray} {xa : Option Addr} {l c : Nat} (h : TB H w wr u) (hH : w.heap.size ≤ H ∧ H < wr.heap.size) (x : Ext wr W) (hI : IsIn (fun b => (b ≠ H ∧ b + 1 ≠ H) ∧ b < W.heap.size) W u' (.int .i64 3) (.string n) (.int .i64 0) (.slice xa l c)) : TB H w (put4 W H 0 (.int .i64 3) (.string n) (.int .i64 0) (.slice xa l c)) u' := by
  obtain ⟨_, _, _, _, _, _, hb, _, hE⟩ := h
  refine ⟨_, _, _, _, _, _, put4_box ((x.block _ hH.2).trans hb), ?_, put4_below (Ext.trans hE x) hH.1⟩
  refine IsIn_carry (fun b hb => put4_other _ _ _ _ _ _ _ _ hb.1.1) (fun b hb => ?_) _ _ _ _ _ hI
  rw [put4_size]
  exact hb
theorem tupP_nil : tupP [] = (zilT, 8) := by unfold tupP; rw [if_pos rfl]
set_option maxHeartbeats 3200000 in
set_option maxRecDepth 100000 in
theorem rTuple_nil (xa : Option Addr) (cap : Nat) (w : World) :
    Calls Tryz.prog 48 #[.slice xa 0 cap] w (TrPost w (tupP [])) := by
  have HF : Hid (∀ W, Ext w W → TrPost w (tupP []) (.returned (.tuple #[.agg #[.int .i64 0, .string ⟨#[]⟩, .int .i64 0, .slice none 0 0], .int .i64 8])) W) := by
    show ∀ W, _
    intro W x
    rw [tupP_nil]
    exact ⟨_, _, _, _, _, _, rfl, zilT_is _, x⟩
  go_enter Tryz.func48, Tryz.ntmps48
  go_wp2_with fail
  exact bodyPost_ret (v := .tuple #[.agg #[.int .i64 0, .string ⟨#[]⟩, .int .i64 0, .slice none 0 0], .int .i64 8]) (by simp [results, Tryz.results48, go_sem]) rfl (HF.out _ (by first | exact (Ext.refl w).alloc _ | exact put4_below ((Ext.refl w).alloc _) (Nat.le_refl _)))
set_option maxHeartbeats 3200000 in
set_option maxRecDepth 100000 in
theorem rTuple_some (l : List Tm) (m : Nat) (kb ko cap : Nat) (w : World) (hm : l.length = m + 1) (hl : m + 1 ≤ 1048576) (hM : sizes l ≤ 1048576) (hR : Row w l (some ⟨kb, ko, none⟩)) :
    Calls Tryz.prog 48 #[.slice (some ⟨kb, ko, none⟩) (m + 1) cap] w (TrPost w (tupP l)) := by
  obtain ⟨x0, x1, x2, x3, p0, p1, p2, p3, hIL⟩ := Row_get hR m (by omega)
  obtain ⟨k, n, s, ya, yl, yc, rfl, rfl, rfl, rfl⟩ := Is_form hIL
  have hTB : TB (w.heap.size + 1) w ((w.alloc (.cells #[.int .i64 0, .string ⟨#[]⟩, .int .i64 0, .slice none 0 0] 24)).alloc (.cells #[.int .i64 k, .string n, .int .i64 s, .slice ya yl yc] 24)) (tupL (l.drop m)) := by
    obtain ⟨hb0, hb1, hBw, hZ⟩ := boxes2 w (.int .i64 0) (.string ⟨#[]⟩) (.int .i64 0) (.slice none 0 0) (.int .i64 k) (.string n) (.int .i64 s) (.slice ya yl yc) 24
    rw [show m = l.length - 1 by omega, tupL_last l (by omega)]
    refine ⟨_, _, _, _, _, _, hb1, IsIn_carry (fun b hb => hBw.block b hb) (fun b hb => ⟨by omega, Nat.lt_of_lt_of_le hb hBw.size⟩) _ _ _ _ _ (Is_IsIn _ _ _ _ _ (by simpa [hm] using hIL)), hBw⟩
  have HTB := Lib.hid hTB
  have HR := Lib.hid hR
  have HM := Lib.hid hM
  have HL := Lib.hid hm
  have q0 := keep_alloc w (.cells #[.int .i64 0, .string ⟨#[]⟩, .int .i64 0, .slice none 0 0] 24) _ _ p0
  have q1 := keep_alloc w (.cells #[.int .i64 0, .string ⟨#[]⟩, .int .i64 0, .slice none 0 0] 24) _ _ p1
  have q2 := keep_alloc w (.cells #[.int .i64 0, .string ⟨#[]⟩, .int .i64 0, .slice none 0 0] 24) _ _ p2
  have q3 := keep_alloc w (.cells #[.int .i64 0, .string ⟨#[]⟩, .int .i64 0, .slice none 0 0] 24) _ _ p3
  clear hTB hR hM hm hIL p0 p1 p2 p3
  go_enter Tryz.func48, Tryz.ntmps48
  go_wp2_with fail
  go_loopw [5] (fun i wr => ∃ (j : Nat) (z : Int), j ≤ m ∧ z = (j : Int) - 1 ∧ i = .int .i64 z ∧ Hid (TB (w.heap.size + 1) w wr (tupL (l.drop j))) ∧ Hid (wr.heap[w.heap.size]? = some (.cells #[.int .i64 0, .string ⟨#[]⟩, .int .i64 0, .slice none 0 0] 24 (0, 0)))) (fun i _ => (intOf i + 1).toNat)
  case atStart =>
    refine ⟨m, (m : Int) + 1 - 2, Nat.le_refl _, by omega, rfl, HTB, Lib.hid (boxes2 w (.int .i64 0) (.string ⟨#[]⟩) (.int .i64 0) (.slice none 0 0) (.int .i64 k) (.string n) (.int .i64 s) (.slice ya yl yc) 24).1⟩
  case round =>
    obtain ⟨j, z, hj, hz, rfl, HB, HZ⟩ := hrel
    cases j with
    | zero =>
      have hz1 : z = -1 := by omega
      subst hz1
      clear hz hj
      rw [List.drop_zero] at HB
      obtain ⟨k2, n2, s2, xa2, l2, c2, hbx, hIo, hE⟩ := HB.out
      obtain ⟨⟨e0, e1, e2, e3⟩, _⟩ := box_facts hbx
      obtain ⟨⟨z0, z1, z2, z3⟩, v0, v1, v2, v3⟩ := box_facts HZ.out
      have hsz : size (tupL l) ≤ 1073741824 := by have := tupL_size l; have := HM.out; have := HL.out; omega
      have HV := Lib.hid (yrValid_any (tupL l) _ _ _ _ wr hsz (IsIn_Is _ _ _ _ _ hIo))
      have HIo := Lib.hid (IsIn_Is _ _ _ _ _ hIo)
      have HE := Lib.hid hE
      have hP : tupP l = if yvalidE (tupL l) = 0 then (tupL l, 0) else (zilT, yvalidE (tupL l)) := by
        unfold tupP
        rw [if_neg (fun h => by have := HL.out; rw [h] at this; simp at this)]
      have hlz := (Array.getElem?_eq_some_iff.1 HZ.out).1
      have HLZ := Lib.hid hlz
      have HBX := Lib.hid hbx
      have HLB := Lib.hid (Array.getElem?_eq_some_iff.1 hbx).1
      by_cases hv : yvalidE (tupL l) = 0
      · obtain ⟨hg, hs4⟩ := yvalid_gd hv
        rw [if_pos hv] at hP
        have HP := Lib.hid hP
        have HN := Lib.hid hg.1
        rw [hv] at HV
        clear hP hv hg hs4 hsz hbx hIo hE hlz
        go_wp2_with (go_at_call 15; refine (HV.out).mono ?_; rintro e w3 ⟨he, hX⟩; subst he; have HX3 := Lib.hid hX; clear e0 e1 e2 e3 z0 z1 z2 z3 v0 v1 v2 v3; obtain ⟨⟨e0, e1, e2, e3⟩, _⟩ := box_facts ((hX.block _ HLB.out).trans HBX.out); obtain ⟨⟨z0, z1, z2, z3⟩, v0, v1, v2, v3⟩ := box_facts ((hX.block _ HLZ.out).trans HZ.out); clear hX)
        exact bodyPost_ret (v := .tuple #[.agg #[.int .i64 k2, .string n2, .int .i64 s2, .slice xa2 l2 c2], .int .i64 0]) (by simp [results, Tryz.results48, go_sem, z0, z1, z2, z3]) rfl (TrFin HP.out ((HX3.out.block _ HLZ.out).trans HZ.out) (Nat.le_refl _) (Ext.trans HE.out HX3.out) HN.out (Is_below HIo.out HX3.out))
      · rw [if_neg hv] at hP
        have HP := Lib.hid hP
        generalize yvalidE (tupL l) = x at HV HP hv
        have q1 : (x != 0) = true := by rw [bne_iff_ne]; exact hv
        clear hP hv hsz hbx hIo hE hlz
        go_wp2_with (go_at_call 15; refine (HV.out).mono ?_; rintro e w3 ⟨he, hX⟩; subst he; have HX3 := Lib.hid hX; clear z0 z1 z2 z3 v0 v1 v2 v3; obtain ⟨⟨z0, z1, z2, z3⟩, v0, v1, v2, v3⟩ := box_facts ((hX.block _ HLZ.out).trans HZ.out); clear hX)
        exact bodyPost_ret (v := .tuple #[.agg #[.int .i64 0, .string ⟨#[]⟩, .int .i64 0, .slice none 0 0], .int .i64 x]) (by simp [results, Tryz.results48, go_sem, z0, z1, z2, z3]) rfl (TrErr HP.out (Nat.le_refl _) (Ext.trans HE.out HX3.out))
    | succ q =>
      have hz1 : z = (q : Int) := by omega
      subst hz1
      clear hz
      obtain ⟨y0, y1, y2, y3, g0, g1, g2, g3, hIq⟩ := Row_get HR.out q (by have := HL.out; omega)
      obtain ⟨k1, n1, s1, xa1, l1, c1, rfl, rfl, rfl, rfl⟩ := Is_form hIq
      obtain ⟨k2, n2, s2, xa2, l2, c2, hbx, hIo, hE⟩ := HB.out
      have hsz := hE.size
      have hHlt : w.heap.size + 1 < wr.heap.size := by
        obtain ⟨h, _⟩ := Array.getElem?_eq_some_iff.1 hbx
        exact h
      have G0 := keep_below hE _ _ g0
      have G1 := keep_below hE _ _ g1
      have G2 := keep_below hE _ _ g2
      have G3 := keep_below hE _ _ g3
      obtain ⟨⟨e0, e1, e2, e3⟩, f0, f1, f2, f3⟩ := box_facts hbx
      have HIq := Lib.hid (IsIn_carry (S' := fun b => (b ≠ w.heap.size + 1 ∧ b + 1 ≠ w.heap.size + 1) ∧ b < wr.heap.size) (fun b hb => hE.block b hb) (fun b hb => ⟨by omega, Nat.lt_of_lt_of_le hb hE.size⟩) _ _ _ _ _ (Is_IsIn _ _ _ _ _ hIq))
      have HIo := Lib.hid hIo
      have HBX := Lib.hid hbx
      have HE := Lib.hid hE
      have HDr := Lib.hid (tupL_drop l q (by have := HL.out; omega))
      have HLT := Lib.hid hHlt
      obtain ⟨tq, htq⟩ : ∃ t, l[q]'(by have := HL.out; omega) = t := ⟨_, rfl⟩
      rw [htq] at HIq HDr
      clear g0 g1 g2 g3 hIq hIo hbx hE hsz hHlt htq
      go_wp2_with fail
      go_region_with (go_at_call 31; go_loud (refine (pair_inS (fun b => b ≠ w.heap.size + 1 ∧ b + 1 ≠ w.heap.size + 1) ⟨#[112, 97, 105, 114]⟩ tq (tupL (l.drop (q + 1))) _ _ _ _ _ _ _ _ wr _ wr.heap.size 24 (by decide) rfl (fun b hb => by have := HLT.out; omega) HIq.out HIo.out (Ext.refl _).drew).mono ?_; rintro e w3 ⟨⟨xa3, c3, he, hJ⟩, hB⟩; subst he; have hx : Ext wr w3 := Ext.trans ((Ext.refl wr).alloc _) (Ext.trans (Ext.refl _).drew hB); have HX3 := Lib.hid hx; have HJ := Lib.hid hJ; clear e0 e1 e2 e3 f0 f1 f2 f3; obtain ⟨⟨e0, e1, e2, e3⟩, f0, f1, f2, f3⟩ := box_facts ((hx.block _ HLT.out).trans HBX.out); clear hx hJ hB))
      all_goals
        go_wp2_with fail
        refine ⟨?_, ?measure⟩
        (repeat apply Exists.intro)
        refine ⟨?rel, rfl⟩
        case rel =>
          refine ⟨q, (q : Int) - 1, by omega, rfl, by first | rfl | go_num, ?_, ?_⟩
          · show TB _ _ (put4 w3 (w.heap.size + 1) 0 (.int .i64 3) (.string ⟨#[112, 97, 105, 114]⟩) (.int .i64 0) (.slice xa3 2 c3)) _
            rw [HDr.out]
            exact TB_put HB.out ⟨by omega, HLT.out⟩ HX3.out HJ.out
          · show (put4 w3 (w.heap.size + 1) 0 (.int .i64 3) (.string ⟨#[112, 97, 105, 114]⟩) (.int .i64 0) (.slice xa3 2 c3)).heap[w.heap.size]? = _
            rw [put4_other _ _ _ _ _ _ _ _ (by omega), HX3.out.block _ (by have := HLT.out; omega)]
            exact HZ.out
        case measure => simp [intOf]; try omega
theorem rTuple_any (l : List Tm) (xa : Option Addr) (cap : Nat) (w : World) (hl : l.length ≤ 1048576) (hM : sizes l ≤ 1048576) (hR : Row w l xa) :
    Calls Tryz.prog 48 #[.slice xa l.length cap] w (TrPost w (tupP l)) := by
  cases h : l with
  | nil => exact rTuple_nil xa cap w
  | cons t ts =>
    obtain ⟨kb, ko, rfl⟩ := Row_at hR (by rw [h]; simp)
    exact rTuple_some (t :: ts) ts.length kb ko cap w rfl (by rw [h] at hl; simpa using hl) (by rw [← h]; exact hM) (by rw [← h]; exact hR)
end Go.Proofs.YtbcpnepjojppaaaGreatDoor
namespace Go.Proofs.YtbcpnepjojppaaaGreatDoor
open Go.RowKit Go.Lib Go.Shelf
attribute [local go_sem] Oper.semAt_some
def down (len r : Nat) : List Nat := (List.range r).map fun i => len - 1 - i
theorem down_succ (len r : Nat) : down len (r + 1) = down len r ++ [len - 1 - r] := by simp [down, List.range_succ]
theorem down_length (len r : Nat) : (down len r).length = r := by simp [down]
structure TC where
  k : Int
  n : ByteArray
  s : Int
  a : Option Addr
  l : Nat
  c : Nat
def Kp2 (b Bs : Nat) (A B : World) : Prop := B.heap[b]? = A.heap[b]? ∧ B.heap[Bs]? = A.heap[Bs]?
theorem Kp2.refl {b Bs : Nat} (A : World) : Kp2 b Bs A A := ⟨rfl, rfl⟩
theorem Kp2.trans {b Bs : Nat} {A B C : World} (h : Kp2 b Bs A B) (k : Kp2 b Bs B C) : Kp2 b Bs A C := ⟨k.1.trans h.1, k.2.trans h.2⟩
theorem Kp2.put {b Bs : Nat} {w : World} (h1 : b < w.heap.size) (h2 : Bs < w.heap.size) (W : World) (l : Nat) (o o' : Obj) (hl : w.heap.size ≤ l) (_ : W.heap[l]? = some o) (_ : o.isCells = false) (_ : o.isWalk = false) : Kp2 b Bs W (W.putObj l o') :=
  ⟨World.putObj_heap_other (by omega), World.putObj_heap_other (by omega)⟩
theorem Kp2.of {b Bs : Nat} {A B : World} (h1 : b < A.heap.size) (h2 : Bs < A.heap.size) (h : Below A.heap.size A B) : Kp2 b Bs A B := ⟨h.block _ h1, h.block _ h2⟩
theorem cell_same {A B : World} {b o : Nat} (h : B.heap[b]? = A.heap[b]?) : B.cell? ⟨b, o, none⟩ = A.cell? ⟨b, o, none⟩ := by
  unfold World.cell?
  rw [h]
set_option maxRecDepth 100000 in
set_option maxHeartbeats 2000000 in
theorem backward1_in (F : Fence) (n : Nat) (hf : F.fn 133) (hro : F.round = none) (hn : 1 ≤ n) (l Bs b off len cap : Nat) (cs : Nat → TC) (hlen : len ≤ 1048576) (J Jx : List Nat → World → Prop)
    (hY : ∀ pre (x : Nat) W, J pre W → pre.length < len → YieldAt F (n - 1) Tryz.prog l #[.int .i64 (x : Int), .agg #[.int .i64 (cs x).k, .string (cs x).n, .int .i64 (cs x).s, .slice (cs x).a (cs x).l (cs x).c]] W fun e W' =>
      (e = .returned (.bool true) ∧ J (pre ++ [x]) W' ∧ Kp2 b Bs W W') ∨ (e = .returned (.bool false) ∧ Jx (pre ++ [x]) W'))
    (W : World) (hBs : W.cell? ⟨Bs, 0, none⟩ = some (.slice (some ⟨b, off, none⟩) len cap)) (hc : ∀ j, j < len → W.cell? ⟨b, off + j * 4, none⟩ = some (.int .i64 (cs j).k) ∧ W.cell? ⟨b, off + j * 4 + 1, none⟩ = some (.string (cs j).n) ∧ W.cell? ⟨b, off + j * 4 + 2, none⟩ = some (.int .i64 (cs j).s) ∧ W.cell? ⟨b, off + j * 4 + 3, none⟩ = some (.slice (cs j).a (cs j).l (cs j).c)) (h0 : J [] W) :
    CallsIn F n Tryz.prog 133 #[.func (.yield l) #[] #[], .pointer (some ⟨Bs, 0, none⟩)] W fun e W' => (∃ v, e = .returned v) ∧
      ((∃ ys, ys = down len len ∧ J ys W') ∨ (∃ pre, (∃ k, k ≤ len ∧ pre = down len k) ∧ Jx pre W')) := by
  refine callsIn_of_wp Tryz.func133 rfl hf ?_ hro
  simp only [Tryz.ntmps133, List.size_toArray, List.length_cons, List.length_nil, Nat.reduceAdd, Nat.reduceSub, Array.replicate_succ, Array.replicate_zero, List.push_toArray, List.append_toArray, List.nil_append, List.cons_append]
  gi_wp2
  gi_loopw [3] (fun i wr => ∃ (r : Nat) (z : Int), r ≤ len ∧ z = (len : Int) - 1 - r ∧ i = .int .i64 z ∧ J (down len r) wr ∧ Kp2 b Bs W wr)
    (fun i _ => (intOf i + 1).toNat)
  case atStart => exact ⟨0, (len : Int) - 1, Nat.zero_le _, by omega, rfl, h0, Kp2.refl _⟩
  case round =>
    obtain ⟨r, z, hr, hz, rfl, hJs, hnx⟩ := hrel
    have hbs := (cell_same hnx.2).trans hBs
    by_cases hlt : r < len
    · obtain ⟨q, hq⟩ : ∃ q, len = q + r + 1 := ⟨len - r - 1, by omega⟩
      have hz2 : z = (q : Int) := by omega
      subst hz2
      have hq1 : len - 1 - r = q := by omega
      have hqlt : q < len := by omega
      obtain ⟨fn, tmps, assign, body, hy, hR⟩ := hY _ q wr hJs (by rw [down_length]; exact hlt)
      obtain ⟨g0, g1, g2, g3⟩ := hc q hqlt
      have G0 := (cell_same hnx.1).trans g0
      have G1 := (cell_same hnx.1).trans g1
      have G2 := (cell_same hnx.1).trans g2
      have G3 := (cell_same hnx.1).trans g3
      have HQ := Lib.hid (And.intro hq (And.intro hq1 hqlt))
      clear g0 g1 g2 g3 hq hq1 hz
      gi_wp2
      refine hR.mono ?_
      rintro e W3 (⟨rfl, hJ3, hk3⟩ | ⟨rfl, hJx3⟩)
      · gi_wp2
        refine ⟨⟨r + 1, (q : Int) - 1, by omega, by have := HQ.out.1; omega, rfl, by rw [down_succ, HQ.out.2.1]; exact hJ3, hnx.trans hk3⟩, ?_⟩
        simp [intOf]; try omega
      · gi_wp2
        refine bodyPost_ret (results_none rfl _ _ _) rfl ?_
        exact ⟨⟨_, rfl⟩, .inr ⟨_, ⟨r + 1, by omega, by rw [down_succ, HQ.out.2.1]⟩, hJx3⟩⟩
    · have hz2 : z = -1 := by omega
      subst hz2
      obtain rfl : r = len := by omega
      gi_wp2
      go_end0
      exact ⟨⟨_, rfl⟩, .inl ⟨_, rfl, hJs⟩⟩
set_option maxHeartbeats 1000000 in
theorem backward_in (F : Fence) (n : Nat) (hf : F.fn 102) (hro : F.round = none) (a : Option Addr) (len cap : Nat) (w : World) :
    CallsIn F n Tryz.prog 102 #[.slice a len cap] w fun e w' => e = .returned (.func (.func 133) #[] #[.pointer (some ⟨w.heap.size, 0, none⟩)]) ∧ w' = w.alloc (.cells #[.slice a len cap] 22) := by
  refine callsIn_of_wp Tryz.func102 rfl hf ?_ hro
  simp only [Tryz.ntmps102, List.size_toArray, List.length_cons, List.length_nil, Nat.reduceAdd, Nat.reduceSub, Array.replicate_succ, Array.replicate_zero, List.push_toArray, List.append_toArray, List.nil_append, List.cons_append]
  gi_wp2
  go_ret
  exact ⟨rfl, rfl⟩
theorem backward_stops (F : Fence) (n : Nat) (hf : F.fn 133) (hro : F.round = none) (hn : 1 ≤ n) (Bs b off len cap : Nat) (cs : Nat → TC) (hlen : len ≤ 1048576) (w : World) (hb : b < w.heap.size) (hB : Bs < w.heap.size)
    (hBs : w.cell? ⟨Bs, 0, none⟩ = some (.slice (some ⟨b, off, none⟩) len cap)) (hc : ∀ j, j < len → w.cell? ⟨b, off + j * 4, none⟩ = some (.int .i64 (cs j).k) ∧ w.cell? ⟨b, off + j * 4 + 1, none⟩ = some (.string (cs j).n) ∧ w.cell? ⟨b, off + j * 4 + 2, none⟩ = some (.int .i64 (cs j).s) ∧ w.cell? ⟨b, off + j * 4 + 3, none⟩ = some (.slice (cs j).a (cs j).l (cs j).c)) :
    SeqStopsK F n Tryz.prog 133 #[.pointer (some ⟨Bs, 0, none⟩)] (fun x : Nat => #[Value.int .i64 (x : Int), .agg #[.int .i64 (cs x).k, .string (cs x).n, .int .i64 (cs x).s, .slice (cs x).a (cs x).l (cs x).c]]) (Kp2 b Bs) (fun ys => ys = down len len) (fun pre => ∃ k, k ≤ len ∧ pre = down len k) len w := fun l J Jx W hW _ _ hY h0 => by
  have k1 : W.heap[b]? = w.heap[b]? := hW.block _ hb
  have k2 : W.heap[Bs]? = w.heap[Bs]? := hW.block _ hB
  refine (backward1_in F n hf hro hn l Bs b off len cap cs hlen J Jx hY W ((cell_same k2).trans hBs) (fun j hj => ?_) h0).mono ?_
  · obtain ⟨g0, g1, g2, g3⟩ := hc j hj
    exact ⟨(cell_same k1).trans g0, (cell_same k1).trans g1, (cell_same k1).trans g2, (cell_same k1).trans g3⟩
  · rintro e W' ⟨he, ⟨ys, rfl, hj⟩ | ⟨pre, hk, hj⟩⟩
    · exact ⟨he, .inl ⟨_, rfl, hj⟩⟩
    · exact ⟨he, .inr ⟨_, hk, hj⟩⟩
theorem IsIn_turn {S : Nat → Prop} {W W' : World} {row : Option Nat} (hg : W.grownBy W' row) (hr : ∀ r, row = some r → ∃ o : Obj, W.heap[r]? = some o ∧ o.isCells = false) (t : Tm) : ∀ c0 c1 c2 c3, IsIn S W t c0 c1 c2 c3 → IsIn S W' t c0 c1 c2 c3 := by
  refine Tm.rec (motive_1 := fun t => ∀ c0 c1 c2 c3, IsIn S W t c0 c1 c2 c3 → IsIn S W' t c0 c1 c2 c3) (motive_2 := fun ts => ∀ xa, RowIn S W ts xa → RowIn S W' ts xa) ?_ ?_ ?_ t
  · intro k n s ks ih c0 c1 c2 c3 h
    simp only [IsIn] at h ⊢
    obtain ⟨h1, h2, h3, h4, h5, h6, h7, xa, cap, h8, h9, h10⟩ := h
    exact ⟨h1, h2, h3, h4, h5, h6, h7, xa, cap, h8, h9, ih _ h10⟩
  · intro xa _
    simp [RowIn]
  · intro t ts iht ihts xa h
    simp only [RowIn] at h ⊢
    obtain ⟨b, o, rfl, hS, ⟨c0, c1, c2, c3, g0, g1, g2, g3, hI⟩, hR⟩ := h
    exact ⟨b, o, rfl, hS, ⟨c0, c1, c2, c3, cell_kept g0 hg hr, cell_kept g1 hg hr, cell_kept g2 hg hr, cell_kept g3 hg hr, iht _ _ _ _ hI⟩, ihts _ hR⟩
end Go.Proofs.YtbcpnepjojppaaaGreatDoor
namespace Go.Proofs.YtbcpnepjojppaaaGreatDoor
open Go.RowKit Go.Lib Go.Shelf
attribute [local go_sem] Oper.semAt_some
def tmAt (l : List Tm) (x : Nat) : Tm := l.getD x zilT
def foldP (l : List Tm) (base : Tm) (pre : List Nat) : Tm := pre.foldl (fun acc x => .mk 3 yPair 0 [tmAt l x, acc]) base
theorem foldP_snoc (l : List Tm) (base : Tm) (pre : List Nat) (x : Nat) : foldP l base (pre ++ [x]) = .mk 3 yPair 0 [tmAt l x, foldP l base pre] := by simp [foldP]
theorem foldP_down (l : List Tm) (m : Nat) (hm : l.length = m + 1) : ∀ r, r ≤ m → foldP l (tupL (l.drop m)) (down m r) = tupL (l.drop (m - r))
  | 0, _ => by simp [foldP, down]
  | r + 1, h => by
    rw [down_succ, foldP_snoc, foldP_down l m hm r (by omega), tupL_drop l (m - (r + 1)) (by omega)]
    have : tmAt l (m - 1 - r) = l[m - (r + 1)] := by
      unfold tmAt
      rw [List.getD_eq_getElem?_getD, List.getElem?_eq_getElem (show m - 1 - r < l.length by omega)]
      simp [show m - 1 - r = m - (r + 1) by omega]
    rw [this]
    exact congrArg (fun z => Tm.mk 3 yPair 0 [l[m - (r + 1)]'(by omega), tupL (l.drop z)]) (show m - r = m - (r + 1) + 1 by omega)
theorem TB_turn {H : Nat} {w W W' : World} {u : Tm} {row : Option Nat} (h : TB H w W u) (hw : ∀ r, row = some r → w.heap.size ≤ r ∧ ∃ o : Obj, W.heap[r]? = some o ∧ o.isCells = false) (hg : W.grownBy W' row) : TB H w W' u := by
  obtain ⟨k, n, s, xa, l, c, hb, hI, hE⟩ := h
  have hlt := (Array.getElem?_eq_some_iff.1 hb).1
  refine ⟨k, n, s, xa, l, c, (hg.block _ hlt (fun e => ?_)).trans hb, ?_, Below.grown hE hg hE.size (fun r e => (hw r e).1)⟩
  · obtain ⟨_, o, ho, hc⟩ := hw _ e.symm
    rw [hb] at ho; cases ho; cases hc
  · exact IsIn_carry (fun _ _ => rfl) (fun b hb => ⟨hb.1, Nat.lt_of_lt_of_le hb.2 hg.size⟩) _ _ _ _ _ (IsIn_turn hg (fun r e => (hw r e).2) _ _ _ _ _ hI)
theorem TB_pair {H : Nat} {w W W' : World} {u t : Tm} {T : TypeId} {k2 : Int} {n2 : ByteArray} {s2 : Int} {xa2 : Option Addr} {l2 c2 : Nat} {d0 d1 d2 d3 : Value} (hH : w.heap.size ≤ H) (hb : W.heap[H]? = some (.cells #[.int .i64 k2, .string n2, .int .i64 s2, .slice xa2 l2 c2] T (0, 0))) (hT : T = 24) (hI : IsIn (fun b => (b ≠ H ∧ b + 1 ≠ H) ∧ b < W.heap.size) W u (.int .i64 k2) (.string n2) (.int .i64 s2) (.slice xa2 l2 c2)) (hE : Ext w W)
    (hJ : IsIn (fun b => (b ≠ H ∧ b + 1 ≠ H) ∧ b < W.heap.size) W t d0 d1 d2 d3) (x : Ext (W.alloc (.cells #[d0, d1, d2, d3, .int .i64 k2, .string n2, .int .i64 s2, .slice xa2 l2 c2] T)) W') :
    TB H w (put4 W' H 0 (.int .i64 3) (.string yPair) (.int .i64 0) (.slice (some ⟨W.heap.size, 0, none⟩) 2 2)) (.mk 3 yPair 0 [t, u]) := by
  subst hT
  have hlt := (Array.getElem?_eq_some_iff.1 hb).1
  have hx : Ext W W' := Ext.trans ((Ext.refl W).alloc _) x
  have c := cells_new_at W #[d0, d1, d2, d3, .int .i64 k2, .string n2, .int .i64 s2, .slice xa2 l2 c2] 24 W.heap.size rfl
  have hR : RowIn (fun b => (b ≠ H ∧ b + 1 ≠ H) ∧ b < W'.heap.size) W' [t, u] (some ⟨W.heap.size, 0, none⟩) := by
    have hS : (W.heap.size ≠ H ∧ W.heap.size + 1 ≠ H) ∧ W.heap.size < W'.heap.size := ⟨by omega, by have := x.size; rw [World.size_alloc] at this; omega⟩
    simp only [RowIn]
    exact ⟨_, _, rfl, hS, ⟨d0, d1, d2, d3, keep_below x _ _ (c 0 _ rfl), keep_below x _ _ (c 1 _ rfl), keep_below x _ _ (c 2 _ rfl), keep_below x _ _ (c 3 _ rfl), IsIn_upS hJ hx⟩, _, _, rfl, hS, ⟨_, _, _, _, keep_below x _ _ (c 4 _ rfl), keep_below x _ _ (c 5 _ rfl), keep_below x _ _ (c 6 _ rfl), keep_below x _ _ (c 7 _ rfl), IsIn_upS hI hx⟩, trivial⟩
  exact TB_put (u := u) ⟨_, _, _, _, _, _, hb, hI, hE⟩ ⟨hH, hlt⟩ hx (IsIn_appE (l := [t, u]) (by decide) (by simp) (by simp) hR)
theorem tup_cells (l : List Tm) (kb ko : Nat) (w : World) (hR : Row w l (some ⟨kb, ko, none⟩)) : ∃ cs : Nat → TC, ∀ x, IsIn (fun b => b < w.heap.size) w (tmAt l x) (.int .i64 (cs x).k) (.string (cs x).n) (.int .i64 (cs x).s) (.slice (cs x).a (cs x).l (cs x).c) ∧ (x < l.length → w.cell? ⟨kb, ko + x * 4, none⟩ = some (.int .i64 (cs x).k) ∧ w.cell? ⟨kb, ko + x * 4 + 1, none⟩ = some (.string (cs x).n) ∧ w.cell? ⟨kb, ko + x * 4 + 2, none⟩ = some (.int .i64 (cs x).s) ∧ w.cell? ⟨kb, ko + x * 4 + 3, none⟩ = some (.slice (cs x).a (cs x).l (cs x).c)) := by
  have h : ∀ x, ∃ c : TC, IsIn (fun b => b < w.heap.size) w (tmAt l x) (.int .i64 c.k) (.string c.n) (.int .i64 c.s) (.slice c.a c.l c.c) ∧ (x < l.length → w.cell? ⟨kb, ko + x * 4, none⟩ = some (.int .i64 c.k) ∧ w.cell? ⟨kb, ko + x * 4 + 1, none⟩ = some (.string c.n) ∧ w.cell? ⟨kb, ko + x * 4 + 2, none⟩ = some (.int .i64 c.s) ∧ w.cell? ⟨kb, ko + x * 4 + 3, none⟩ = some (.slice c.a c.l c.c)) := by
    intro x
    unfold tmAt
    rw [List.getD_eq_getElem?_getD]
    by_cases hx : x < l.length
    · rw [List.getElem?_eq_getElem hx]
      obtain ⟨x0, x1, x2, x3, p0, p1, p2, p3, hI⟩ := Row_get hR x hx
      obtain ⟨k, n, s, a, ll, c, rfl, rfl, rfl, rfl⟩ := Is_form hI
      exact ⟨⟨k, n, s, a, ll, c⟩, Is_IsIn _ _ _ _ _ hI, fun _ => ⟨p0, p1, p2, p3⟩⟩
    · rw [List.getElem?_eq_none (by omega)]
      exact ⟨⟨0, ⟨#[]⟩, 0, none, 0, 0⟩, zilT_in _ w, fun h => absurd h hx⟩
  exact Classical.axiomOfChoice h
theorem cell_in {w : World} {b o : Nat} {v : Value} (h : w.cell? ⟨b, o, none⟩ = some v) : b < w.heap.size := by
  rcases Nat.lt_or_ge b w.heap.size with h' | h'
  · exact h'
  · unfold World.cell? at h
    rw [Array.getElem?_eq_none (by simpa using h')] at h
    simp at h
theorem TB_ext {H : Nat} {w W W' : World} {u : Tm} (h : TB H w W u) (x : Ext W W') : TB H w W' u := by
  obtain ⟨k, n, s, xa, l, c, hb, hI, hE⟩ := h
  exact ⟨k, n, s, xa, l, c, (x.block _ (Array.getElem?_eq_some_iff.1 hb).1).trans hb, IsIn_upS hI x, Ext.trans hE x⟩
theorem box_lt {W : World} {b : Nat} {o : Obj} (h : W.heap[b]? = some o) : b < W.heap.size := (Array.getElem?_eq_some_iff.1 h).1
theorem put4_others {B H : Nat} {W W' : World} {c0 c1 c2 c3 : Value} {k2 s2 n2 a2 : Value} {T : TypeId} (hb : W.heap[H]? = some (.cells #[k2, n2, s2, a2] T (0, 0))) (x : Ext W W') : KeepsFrom B W (put4 W' H 0 c0 c1 c2 c3) :=
  ⟨by rw [put4_size]; exact x.size, fun k o _ hk ho => by
    rw [put4_other _ _ _ _ _ _ _ _ (fun e => by subst e; rw [hb] at hk; cases hk; cases ho), x.block _ (box_lt hk)]
    exact hk⟩
theorem put4_kp {b Bs H : Nat} {W W' : World} {c0 c1 c2 c3 : Value} (h1 : b < W.heap.size) (h2 : Bs < W.heap.size) (n1 : b ≠ H) (n2 : Bs ≠ H) (x : Ext W W') : Kp2 b Bs W (put4 W' H 0 c0 c1 c2 c3) :=
  ⟨by rw [put4_other _ _ _ _ _ _ _ _ n1, x.block _ h1], by rw [put4_other _ _ _ _ _ _ _ _ n2, x.block _ h2]⟩
set_option maxRecDepth 100000 in
set_option maxHeartbeats 3200000 in
theorem tuple_some (l : List Tm) (m : Nat) (kb ko cap : Nat) (w : World) (hm : l.length = m + 1) (hl : m + 1 ≤ 1048576) (hcap : m + 1 ≤ cap) (hR : Row w l (some ⟨kb, ko, none⟩)) :
    CallsIn Fence.wide 4 Tryz.prog 76 #[.slice (some ⟨kb, ko, none⟩) (m + 1) cap] w fun e w' => ∃ k n s xa ll c, e = .returned (.agg #[.int .i64 k, .string n, .int .i64 s, .slice xa ll c]) ∧ Is w' (tupL l) (.int .i64 k) (.string n) (.int .i64 s) (.slice xa ll c) ∧ Ext w w' := by
  obtain ⟨cs, hcs⟩ := tup_cells l kb ko w hR
  have hbk : kb < w.heap.size := by
    obtain ⟨_, hg⟩ := hcs 0
    exact cell_in (hg (by omega)).1
  obtain ⟨p0, p1, p2, p3⟩ := (hcs m).2 (by omega)
  have q0 := keep_alloc w (.cells #[.int .i64 0, .string ⟨#[]⟩, .int .i64 0, .slice none 0 0] 24) _ _ p0
  have q1 := keep_alloc w (.cells #[.int .i64 0, .string ⟨#[]⟩, .int .i64 0, .slice none 0 0] 24) _ _ p1
  have q2 := keep_alloc w (.cells #[.int .i64 0, .string ⟨#[]⟩, .int .i64 0, .slice none 0 0] 24) _ _ p2
  have q3 := keep_alloc w (.cells #[.int .i64 0, .string ⟨#[]⟩, .int .i64 0, .slice none 0 0] 24) _ _ p3
  have HCS := Lib.hid hcs
  have HM := Lib.hid hm
  clear hcs hm p0 p1 p2 p3
  refine callsIn_of_wp_marks Tryz.func76 rfl trivial ?_ rfl
  simp only [Tryz.ntmps76, List.size_toArray, List.length_cons, List.length_nil, Nat.reduceAdd, Nat.reduceSub, Array.replicate_succ, Array.replicate_zero, List.push_toArray, List.append_toArray, List.nil_append, List.cons_append]
  gi_wp2_with (refine ⟨trivial, ?_⟩; gi_at_call 102; refine (backward_in Fence.wide 3 trivial rfl _ _ _ _).mono ?_; rintro e w' ⟨rfl, rfl⟩)
  obtain ⟨W0, hW0⟩ : ∃ W0, ((w.alloc (.cells #[.int .i64 0, .string ⟨#[]⟩, .int .i64 0, .slice none 0 0] 24)).alloc (.cells #[.int .i64 (cs m).k, .string (cs m).n, .int .i64 (cs m).s, .slice (cs m).a (cs m).l (cs m).c] 24)).alloc (.cells #[.slice (some ⟨kb, ko, none⟩) m cap] 22) = W0 := ⟨_, rfl⟩
  have hF : W0.heap[w.heap.size]? = some (.cells #[.int .i64 0, .string ⟨#[]⟩, .int .i64 0, .slice none 0 0] 24 (0, 0)) ∧ TB (w.heap.size + 1) w W0 (tupL (l.drop m)) ∧ W0.cell? ⟨w.heap.size + 1 + 1, 0, none⟩ = some (.slice (some ⟨kb, ko, none⟩) m cap) ∧ W0.heap.size = w.heap.size + 3 ∧ Ext w W0 := by
    obtain ⟨hb0, hb1, hBw, hZ⟩ := boxes2 w (.int .i64 0) (.string ⟨#[]⟩) (.int .i64 0) (.slice none 0 0) (.int .i64 (cs m).k) (.string (cs m).n) (.int .i64 (cs m).s) (.slice (cs m).a (cs m).l (cs m).c) 24
    have hx : Ext ((w.alloc (.cells #[.int .i64 0, .string ⟨#[]⟩, .int .i64 0, .slice none 0 0] 24)).alloc (.cells #[.int .i64 (cs m).k, .string (cs m).n, .int .i64 (cs m).s, .slice (cs m).a (cs m).l (cs m).c] 24)) W0 := by rw [← hW0]; exact (Ext.refl _).alloc _
    have hs2 : ((w.alloc (.cells #[.int .i64 0, .string ⟨#[]⟩, .int .i64 0, .slice none 0 0] 24)).alloc (.cells #[.int .i64 (cs m).k, .string (cs m).n, .int .i64 (cs m).s, .slice (cs m).a (cs m).l (cs m).c] 24)).heap.size = w.heap.size + 1 + 1 := by simp
    have htm : tmAt l m = tupL (l.drop m) := by
      have hm := HM.out
      rw [show m = l.length - 1 by omega, tupL_last l (by omega)]
      unfold tmAt
      rw [List.getD_eq_getElem?_getD, List.getElem?_eq_getElem (show l.length - 1 < l.length by omega)]; rfl
    refine ⟨(hx.block _ (by omega)).trans hb0, TB_ext ⟨_, _, _, _, _, _, hb1, IsIn_carry (fun b hb => hBw.block b hb) (fun b hb => ⟨by omega, Nat.lt_of_lt_of_le hb hBw.size⟩) _ _ _ _ _ ?_, hBw⟩ hx, ?_, ?_, Ext.trans hBw hx⟩
    · rw [← htm]; exact (HCS.out m).1
    · rw [← hW0]; exact cells_new_at _ _ _ _ hs2 0 _ rfl
    · rw [← hW0, World.size_alloc, hs2]
  rw [hW0]
  obtain ⟨hz0, hTB0, hbs, hsz, hE0⟩ := hF
  clear hW0 q0 q1 q2 q3
  refine wpIn_rangeFunc_ownH rfl (by omega) (gf := 133) (lb := #[.pointer (some ⟨w.heap.size + 1 + 1, 0, none⟩)]) rfl trivial (enters_of Tryz.func133 (by kernel_rfl) rfl)
    (backward_stops Fence.wide 3 trivial rfl (by omega) (w.heap.size + 1 + 1) kb ko m cap cs (by omega) W0 (by omega) (by omega) hbs (fun j hj => by
      obtain ⟨g0, g1, g2, g3⟩ := (HCS.out j).2 (by have := HM.out; omega)
      exact ⟨keep_below hE0 _ _ g0, keep_below hE0 _ _ g1, keep_below hE0 _ _ g2, keep_below hE0 _ _ g3⟩)) Kp2.trans (Kp2.put (by omega) (by omega)) (Below.refl _ _) (fun _ => rfl)
    (fun pre W => TB (w.heap.size + 1) w W (foldP l (tupL (l.drop m)) pre) ∧ W.heap[w.heap.size]? = some (.cells #[.int .i64 0, .string ⟨#[]⟩, .int .i64 0, .slice none 0 0] 24 (0, 0)) ∧ W0.heap.size ≤ W.heap.size)
    (fun _ _ _ => False)
    (fun s A B row hs hg hr => ⟨TB_turn hs.1 (fun r e => ⟨by have := (hr r e).1; omega, (hr r e).2⟩) hg, (hg.block _ (box_lt hs.2.1) (fun e => by obtain ⟨_, o, ho, hc⟩ := hr _ e.symm; rw [hs.2.1] at ho; cases ho; cases hc)).trans hs.2.1, Nat.le_trans hs.2.2 hg.size⟩)
    (fun _ _ _ _ _ hs _ _ => hs)
    ⟨hTB0, hz0, Nat.le_refl _⟩
    (fun x a' W => ∃ Bx, W0.heap.size ≤ Bx ∧ W.heap[Bx]? = some (.cells #[.int .i64 (cs x).k, .string (cs x).n, .int .i64 (cs x).s, .slice (cs x).a (cs x).l (cs x).c] 24 (0, 0)) ∧ a' = { tmps := #[.slice (some ⟨kb, ko, none⟩) (m + 1) cap, undef, .pointer (some ⟨w.heap.size, 0, none⟩), .int .i64 m, .pointer (some ⟨w.heap.size + 1, 0, none⟩), undef, .pointer (some ⟨Bx, 0, none⟩), .slice (some ⟨kb, ko, none⟩) (m + 1) cap, .int .i64 ((m : Int) + 1), .int .i64 m, .slice (some ⟨kb, ko, none⟩) (m + 1) cap, .int .i64 m, .pointer (some ⟨kb, ko + m * 4, none⟩), .agg #[.int .i64 (cs m).k, .string (cs m).n, .int .i64 (cs m).s, .slice (cs m).a (cs m).l (cs m).c], .slice (some ⟨kb, ko, none⟩) (m + 1) cap, .int .i64 m, .slice (some ⟨kb, ko, none⟩) m cap, .func (.func 133) #[] #[.pointer (some ⟨w.heap.size + 1 + 1, 0, none⟩)], .int .i64 x, .agg #[.int .i64 (cs x).k, .string (cs x).n, .int .i64 (cs x).s, .slice (cs x).a (cs x).l (cs x).c], undef, undef, undef, undef, undef], defers := [] })
    (fun x a' _ X Y row hs hg hr => by obtain ⟨Bx, h1, h2, h3⟩ := hs; exact ⟨Bx, h1, (hg.block _ (box_lt h2) (fun e => by obtain ⟨_, o, ho, hc⟩ := hr _ e.symm; rw [h2] at ho; cases ho; cases hc)).trans h2, h3⟩)
    ?assign ?body ?done ?stop
  case assign =>
    rintro lo pre x W K ⟨hTB, hZ, hW⟩ hK
    have hx := (Ext.refl W).alloc (.cells #[.int .i64 (cs x).k, .string (cs x).n, .int .i64 (cs x).s, .slice (cs x).a (cs x).l (cs x).c] 24)
    gi_wp2
    exact hK _ _ ((KeepsOthers.alloc _ _).from _) (Kp2.of (by omega) (by omega) hx) ⟨TB_ext hTB hx, (hx.block _ (box_lt hZ)).trans hZ, Nat.le_trans hW hx.size⟩ ⟨W.heap.size, hW, heap_alloc_new _ _, rfl⟩
  case body =>
    rintro lo pre x a' W hlo ⟨r, hr⟩ ⟨hTB, hZ, hW⟩ ⟨Bx, hBx, hX, rfl⟩ hlt
    obtain ⟨k2, n2, s2, xa2, l2, c2, hbx, hIo, hE⟩ := hTB
    obtain ⟨⟨e0, e1, e2, e3⟩, _⟩ := box_facts hbx
    obtain ⟨⟨y0, y1, y2, y3⟩, _⟩ := box_facts hX
    have HBX := Lib.hid hbx
    have HTX := Lib.hid (IsIn_carry (S' := fun b => (b ≠ w.heap.size + 1 ∧ b + 1 ≠ w.heap.size + 1) ∧ b < W.heap.size) (fun b hb => hE.block b hb) (fun b hb => ⟨by omega, Nat.lt_of_lt_of_le hb hE.size⟩) _ _ _ _ _ (HCS.out x).1)
    have HIo := Lib.hid hIo
    have HE := Lib.hid hE
    have HZ := Lib.hid hZ
    clear hbx hX hIo hE hZ hr
    gi_wp2_with (refine ⟨trivial, ?_⟩; gi_at_call 65; refine (CallsIn.inRound lo (callsIn_wide.2 (yapplication_any _ _ _ _ _))).mono ?_; rintro e w3 ⟨rfl, hB⟩; have HB := Lib.hid hB; obtain ⟨⟨e0', e1', e2', e3'⟩, f0, f1, f2, f3⟩ := box_facts ((hB.block _ (by have := box_lt HBX.out; simp; omega)).trans ((((Ext.refl W).alloc _).block _ (box_lt HBX.out)).trans HBX.out)); clear hB)
    have hx : Ext W w3 := Ext.trans ((Ext.refl W).alloc _) HB.out
    have hb1 := box_lt HBX.out
    show KeepsFrom _ W (put4 w3 (w.heap.size + 1) 0 (.int .i64 3) (.string yPair) (.int .i64 0) (.slice (some ⟨W.heap.size, 0, none⟩) 2 2)) ∧ Kp2 _ _ W (put4 w3 (w.heap.size + 1) 0 (.int .i64 3) (.string yPair) (.int .i64 0) (.slice (some ⟨W.heap.size, 0, none⟩) 2 2)) ∧ TB _ _ (put4 w3 (w.heap.size + 1) 0 (.int .i64 3) (.string yPair) (.int .i64 0) (.slice (some ⟨W.heap.size, 0, none⟩) 2 2)) _ ∧ (put4 w3 (w.heap.size + 1) 0 (.int .i64 3) (.string yPair) (.int .i64 0) (.slice (some ⟨W.heap.size, 0, none⟩) 2 2)).heap[w.heap.size]? = _ ∧ W0.heap.size ≤ (put4 w3 (w.heap.size + 1) 0 (.int .i64 3) (.string yPair) (.int .i64 0) (.slice (some ⟨W.heap.size, 0, none⟩) 2 2)).heap.size
    refine ⟨put4_others HBX.out hx, put4_kp (by omega) (by omega) (by omega) (by omega) hx, ?_, ?_, ?_⟩
    · rw [foldP_snoc]
      exact TB_pair (by omega) HBX.out rfl HIo.out HE.out HTX.out HB.out
    · rw [put4_other _ _ _ _ _ _ _ _ (by omega), hx.block _ (box_lt HZ.out)]
      exact HZ.out
    · rw [put4_size]
      exact Nat.le_trans hW hx.size
  case done =>
    rintro D ys W hD rfl ⟨hTB, hZ, hW⟩ hK
    rw [foldP_down l m HM.out m (Nat.le_refl _), Nat.sub_self, List.drop_zero] at hTB
    obtain ⟨k2, n2, s2, xa2, l2, c2, hbx, hIo, hE⟩ := hTB
    obtain ⟨⟨e0, e1, e2, e3⟩, _⟩ := box_facts hbx
    obtain ⟨⟨z0, z1, z2, z3⟩, v0, v1, v2, v3⟩ := box_facts hZ
    gi_wp2
    have hK' : (put4 W w.heap.size 0 (.int .i64 k2) (.string n2) (.int .i64 s2) (.slice xa2 l2 c2)).heap[D]? = some (.deferred (some [])) := by
      rw [put4_other _ _ _ _ _ _ _ _ (by omega)]; exact hK
    have hI' := put4_in (d0 := .int .i64 k2) (d1 := .string n2) (d2 := .int .i64 s2) (d3 := .slice xa2 l2 c2) (g := w.heap.size) (fun h => by have := h.1.2; omega) hIo
    have hg := grownBy_putObj' (put4 W w.heap.size 0 (.int .i64 k2) (.string n2) (.int .i64 s2) (.slice xa2 l2 c2)) D (.deferred none)
    have hbV := (World.putObj_heap_other (w := put4 W w.heap.size 0 (.int .i64 k2) (.string n2) (.int .i64 s2) (.slice xa2 l2 c2)) (o := .deferred none) (show w.heap.size ≠ D by omega)).trans (put4_box hZ)
    obtain ⟨⟨m0, m1, m2, m3⟩, _⟩ := box_facts hbV
    have hIV := IsIn_Is _ _ _ _ _ (IsIn_turn hg (fun r e => by cases e; exact ⟨_, hK', rfl⟩) _ _ _ _ _ hI')
    have hEV : Ext w _ := Below.grown (put4_below (g := w.heap.size) (o := 0) (c0 := .int .i64 k2) (c1 := .string n2) (c2 := .int .i64 s2) (c3 := .slice xa2 l2 c2) hE (Nat.le_refl _)) hg (by rw [put4_size]; exact hE.size) (fun r e => by cases e; omega)
    refine ⟨by simp, .inl ⟨_, _, rfl, run_takeDeferred hK', ?_⟩⟩
    change LeavesInM _ _ _ _ _ _ _ _ ((put4 W w.heap.size 0 (.int .i64 k2) (.string n2) (.int .i64 s2) (.slice xa2 l2 c2)).putObj D (.deferred none))
    exact ⟨.agg #[.int .i64 k2, .string n2, .int .i64 s2, .slice xa2 l2 c2], by simp [results, Tryz.results76, go_sem, m0, m1, m2, m3], _, _, _, _, _, _, rfl, hIV, hEV⟩
  case stop =>
    rintro D c pre W _ _ h _
    exact h.elim
end Go.Proofs.YtbcpnepjojppaaaGreatDoor
namespace Go.Proofs.YtbcpnepjojppaaaGreatDoor
open Go.RowKit Go.Lib
theorem lies_box {W : World} {t : Tm} {b : Nat} {c0 c1 c2 c3 : Value} {T : TypeId} (h : W.heap[b]? = some (.cells #[c0, c1, c2, c3] T (0, 0))) (hI : Is W t c0 c1 c2 c3) : Lies W t b 0 :=
  ⟨c0, c1, c2, c3, (box_facts h).1.1, (box_facts h).1.2.1, (box_facts h).1.2.2.1, (box_facts h).1.2.2.2, hI⟩
theorem tuple_any (l : List Tm) (kb ko cap : Nat) (w : World) (h0 : 0 < l.length) (hl : l.length ≤ 1048576) (hcap : l.length ≤ cap) (hR : Row w l (some ⟨kb, ko, none⟩)) :
    Calls Tryz.prog 76 #[.slice (some ⟨kb, ko, none⟩) l.length cap] w fun e w' => ∃ k n s xa ll c, e = .returned (.agg #[.int .i64 k, .string n, .int .i64 s, .slice xa ll c]) ∧ Is w' (tupL l) (.int .i64 k) (.string n) (.int .i64 s) (.slice xa ll c) ∧ Ext w w' := by
  obtain ⟨m, hm⟩ : ∃ m, l.length = m + 1 := ⟨l.length - 1, by omega⟩
  rw [hm]
  exact (callsIn_wide (n := 4)).1 (tuple_some l m kb ko cap w hm (by omega) (by omega) hR)
set_option maxHeartbeats 3200000 in
set_option maxRecDepth 100000 in
theorem yTuple_any (l : List Tm) (xa : Option Addr) (cap : Nat) (w : World) (hl : l.length ≤ 200) (hM : sizes l ≤ 1048576) (hcap : l.length ≤ cap) (hR : Row w l xa) (hT : TabY w) :
    Calls Tryz.prog 47 #[.slice xa l.length cap] w (TrPost w (tupP l)) := by
  by_cases h0 : l.length = 0
  · obtain rfl := List.length_eq_zero_iff.1 h0
    have HF : Hid (∀ W, Ext w W → TrPost w (tupP []) (.returned (.tuple #[.agg #[.int .i64 0, .string ⟨#[]⟩, .int .i64 0, .slice none 0 0], .int .i64 8])) W) := by
      show ∀ W, _
      intro W x
      rw [tupP_nil]
      exact ⟨_, _, _, _, _, _, rfl, zilT_is _, x⟩
    show Calls Tryz.prog 47 #[.slice xa 0 cap] w (TrPost w (tupP []))
    clear hl hM hcap hR hT h0
    go_enter Tryz.func47, Tryz.ntmps47
    go_wp2_with fail
    exact bodyPost_ret (v := .tuple #[.agg #[.int .i64 0, .string ⟨#[]⟩, .int .i64 0, .slice none 0 0], .int .i64 8]) (by simp [results, Tryz.results47, go_sem]) rfl (HF.out _ (by first | exact (Ext.refl w).alloc _ | exact put4_below ((Ext.refl w).alloc _) (Nat.le_refl _)))
  obtain ⟨kb, ko, rfl⟩ := Row_at hR (by omega)
  have hP : tupP l = if yvalidE (tupL l) = 0 then (tupL l, 0) else (zilT, yvalidE (tupL l)) := by
    unfold tupP
    rw [if_neg (fun h => h0 (by rw [h]; rfl))]
  have HZ : Hid (∀ W, Ext (w.alloc (.cells #[.int .i64 0, .string ⟨#[]⟩, .int .i64 0, .slice none 0 0] 24)) W → W.heap[w.heap.size]? = some (.cells #[.int .i64 0, .string ⟨#[]⟩, .int .i64 0, .slice none 0 0] 24 (0, 0))) := fun W x => (x.block _ (by simp)).trans (heap_alloc_new _ _)
  have hX0 : Ext w (w.alloc (.cells #[.int .i64 0, .string ⟨#[]⟩, .int .i64 0, .slice none 0 0] 24)) := (Ext.refl w).alloc _
  have HX0 := Lib.hid hX0
  have HT := Lib.hid (fun W (x : Ext w W) => hT.ext x)
  have HTU := Lib.hid (tuple_any l kb ko cap _ (by omega) (by omega) hcap (Row_below hR hX0))
  have hsz : size (tupL l) ≤ 1073741824 := by have := tupL_size l; omega
  have HVV := Lib.hid (fun (W : World) (k : Int) (n : ByteArray) (s : Int) (ya : Option Addr) (yl yc : Nat) (x : Ext w W) (h : Is W (tupL l) (.int .i64 k) (.string n) (.int .i64 s) (.slice ya yl yc)) => yValid_any (tupL l) (.int .i64 k) (.string n) (.int .i64 s) (.slice ya yl yc) W hsz h (hT.ext x))
  have HCP := Lib.hid (fun (W : World) (b : Nat) (h : Lies W (tupL l) b 0) => ycopy_any (tupL l) b 0 W hsz h)
  obtain ⟨q1, q2⟩ : ((l.length : Int) == 0) = false ∧ decide ((200 : Int) < l.length) = false := ⟨by rw [beq_eq_false_iff_ne]; omega, decide_eq_false (by omega)⟩
  by_cases hv : yvalidE (tupL l) = 0
  · obtain ⟨hg, hs4⟩ := yvalid_gd hv
    rw [if_pos hv] at hP
    have HP := Lib.hid hP
    have HN := Lib.hid hg.1
    rw [hv] at HVV
    clear hP hv hg hs4 hsz hT hR hM hX0
    go_enter Tryz.func47, Tryz.ntmps47
    go_wp2_with (first
      | (go_at_call 76; refine (HTU.out).mono ?_; rintro e w3 ⟨k, n, s, ya, yl, yc, he, hI, hX⟩; subst he; have HX3 := Lib.hid hX; have HI3 := Lib.hid hI; clear hX hI)
      | (go_at_call 14; refine (HVV.out _ _ _ _ _ _ _ ((HX0.out.trans HX3.out).trans ((Ext.refl w3).alloc _)) (Is_below HI3.out ((Ext.refl w3).alloc _))).mono ?_; rintro e w4 ⟨he, hX⟩; subst he; have HX4 := Lib.hid hX; clear hX)
      | (go_at_call 73; refine (HCP.out _ _ (lies_box (b := w3.heap.size) ((HX4.out.block _ (by simp)).trans (heap_alloc_new _ _)) (Is_below HI3.out (((Ext.refl w3).alloc _).trans HX4.out)))).mono ?_; rintro e w5 ⟨d0, d1, d2, d3, he, hI5, hX5⟩; subst he; obtain ⟨rk, rn, rs, rx, rl, rc, e0, e1, e2, e3⟩ := IsIn_form hI5; subst e0 e1 e2 e3; have HI5 := Lib.hid (IsIn_Is _ _ _ _ _ hI5); have hx5 := ((HX3.out.trans ((Ext.refl w3).alloc (.cells #[.int .i64 k, .string n, .int .i64 s, .slice ya yl yc] 24))).trans HX4.out).trans hX5; have HX5 := Lib.hid hx5; obtain ⟨⟨m0, m1, m2, m3⟩, v0, v1, v2, v3⟩ := box_facts (HZ.out _ hx5); clear hI5 hX5 hx5))
    exact bodyPost_ret (v := .tuple #[.agg #[.int .i64 rk, .string rn, .int .i64 rs, .slice rx rl rc], .int .i64 0]) (by simp [results, Tryz.results47, go_sem, m0, m1, m2, m3]) rfl (TrFin HP.out (HZ.out _ HX5.out) (Nat.le_refl _) (HX0.out.trans HX5.out) HN.out HI5.out)
  rw [if_neg hv] at hP
  have HP := Lib.hid hP
  generalize yvalidE (tupL l) = x at HVV HP hv
  have q3 : (x != 0) = true := by rw [bne_iff_ne]; exact hv
  clear hP hv hsz hT hR hM hX0
  go_enter Tryz.func47, Tryz.ntmps47
  go_wp2_with (first
    | (go_at_call 76; refine (HTU.out).mono ?_; rintro e w3 ⟨k, n, s, ya, yl, yc, he, hI, hX⟩; subst he; have HX3 := Lib.hid hX; have HI3 := Lib.hid hI; clear hX hI)
    | (go_at_call 14; refine (HVV.out _ _ _ _ _ _ _ ((HX0.out.trans HX3.out).trans ((Ext.refl w3).alloc _)) (Is_below HI3.out ((Ext.refl w3).alloc _))).mono ?_; rintro e w4 ⟨he, hX⟩; subst he; have hx5 := (HX3.out.trans ((Ext.refl w3).alloc (.cells #[.int .i64 k, .string n, .int .i64 s, .slice ya yl yc] 24))).trans hX; have HX5 := Lib.hid hx5; obtain ⟨⟨m0, m1, m2, m3⟩, v0, v1, v2, v3⟩ := box_facts (HZ.out _ hx5); clear hX hx5))
  exact bodyPost_ret (v := .tuple #[.agg #[.int .i64 0, .string ⟨#[]⟩, .int .i64 0, .slice none 0 0], .int .i64 x]) (by simp [results, Tryz.results47, go_sem, m0, m1, m2, m3]) rfl (TrErr HP.out (Nat.le_refl _) (HX0.out.trans HX5.out))
end Go.Proofs.YtbcpnepjojppaaaGreatDoor
namespace Go.Proofs.YtbcpnepjojppaaaGreatDoor
open Go.RowKit Go.Lib
theorem untT_tup : ∀ (l : List Tm) (h : l ≠ []), isApp (l.getLast h) yPair = false → untT (tupL l) = l
  | [], h, _ => absurd rfl h
  | [t], _, hl => by
    show untT t = [t]
    exact untT_one fun c => by
      have hl' : isApp t yPair = false := hl
      rw [hl'] at c
      exact Bool.noConfusion c.1
  | t :: u :: ts, _, hl => by
    have ih := untT_tup (u :: ts) (by simp) (by rw [List.getLast_cons (by simp)] at hl; exact hl)
    have h := (untT_pair (t := .mk 3 yPair 0 [t, tupL (u :: ts)]) ⟨by rfl, rfl⟩).1
    show untT (.mk 3 yPair 0 [t, tupL (u :: ts)]) = _
    rw [h]
    show t :: untT (tupL (u :: ts)) = _
    rw [ih]
theorem tupP_size (l : List Tm) : size (tupP l).1 ≤ sizes l + l.length + 1 := by
  unfold tupP
  split
  · have : size zilT = 1 := rfl
    show size zilT ≤ _
    omega
  · split
    · exact tupL_size l
    · have : size zilT = 1 := rfl
      show size zilT ≤ _
      omega
theorem tupP_zero {l : List Tm} (h : (tupP l).2 = 0) : l ≠ [] ∧ (tupP l).1 = tupL l := by
  unfold tupP at h ⊢
  split at h
  · exact absurd h (by decide)
  · rename_i hne
    split at h
    · rename_i hv
      rw [if_neg hne, if_pos hv]
      exact ⟨hne, rfl⟩
    · rename_i hv
      exact absurd h hv
set_option maxHeartbeats 3200000 in
set_option maxRecDepth 100000 in
theorem lawTup_no (HA : Hid AwakeY) (l : List Tm) (xa : Option Addr) (cap : Nat) (w : World) (hT : TabY w) (hl : l.length ≤ maxLen) (hR : Row w l xa) (h1 : few l 20 200 = false) :
    Calls Tryz.prog 11 #[.slice xa l.length cap] w fun e w' => e = .returned (.bool true) ∧ Below w.heap.size w w' := by
  have HT := Lib.hid (fun W (x : Ext w W) => hT.ext x)
  have HF : Hid (∀ W, Ext w W → Calls Tryz.prog 46 #[.slice xa l.length cap, .int .i64 20, .int .i64 200] W fun e w' => e = .returned (.bool false) ∧ Below W.heap.size W w') := by
    show ∀ W, _
    intro W x
    have := few_any l xa cap 20 200 W hl (by decide) (by decide) (Row_below hR x)
    rw [h1] at this
    exact this
  have tok1 : True := trivial
  clear hT hl hR h1
  go_enter Tryz.func11, Tryz.ntmps11
  go_wp2_with (first
    | (go_at_call 12; have _t := tok1; refine (HA.out _ (HT.out _ (Ext.refl _))).mono ?_; rintro e w1 ⟨he, hB⟩; subst he; have HX1 := Lib.hid hB; clear hB tok1)
    | (go_at_call 46; refine (HF.out _ HX1.out).mono ?_; rintro e w2 ⟨he, hB⟩; subst he; have HX2 := Lib.hid (Ext.trans HX1.out hB); clear hB)
    | (go_at_call 12; refine (HA.out _ (HT.out _ HX2.out)).mono ?_; rintro e w3 ⟨he, hB⟩; subst he; have HX3 := Lib.hid (Ext.trans HX2.out hB); clear hB))
  go_ret
  exact ⟨rfl, HX3.out⟩
structure TupH (w : World) (l : List Tm) (A : Tm) (E : Int) (xa : Option Addr) (cap : Nat) : Prop where
  few : ∀ W, Ext w W → Calls Tryz.prog 46 #[.slice xa l.length cap, .int .i64 20, .int .i64 200] W fun e w' => e = .returned (.bool true) ∧ Ext W w'
  code : ∀ W, Ext w W → Calls Tryz.prog 47 #[.slice xa l.length cap] W (TrPost W (A, E))
  ref : ∀ W, Ext w W → Calls Tryz.prog 48 #[.slice xa l.length cap] W (TrPost W (A, E))
  same : ∀ W x0 x1 x2 x3 y0 y1 y2 y3, Is W A x0 x1 x2 x3 → Is W A y0 y1 y2 y3 → Calls Tryz.prog 22 #[.agg #[x0, x1, x2, x3], .agg #[y0, y1, y2, y3]] W fun e w' => e = .returned (.bool true) ∧ Ext W w'
theorem tupH_any (l : List Tm) (xa : Option Addr) (cap : Nat) (w : World) (hT : TabY w) (hl : l.length ≤ maxLen) (hcap : l.length ≤ cap) (hR : Row w l xa) (h1 : few l 20 200 = true) (hs : sizes l ≤ 200 ∧ l.length ≤ 20) : TupH w l (tupP l).1 (tupP l).2 xa cap := by
  have hz := tupP_size l
  refine ⟨fun W x => ?_, fun W x => yTuple_any l xa cap W (by omega) (by omega) hcap (Row_below hR x) (hT.ext x), fun W x => rTuple_any l xa cap W (by omega) (by omega) (Row_below hR x), fun W x0 x1 x2 x3 y0 y1 y2 y3 h h' => ?_⟩
  · have := few_any l xa cap 20 200 W hl (by decide) (by decide) (Row_below hR x)
    rw [h1] at this
    exact this
  · have := same_any (tupP l).1 (tupP l).1 x0 x1 x2 x3 y0 y1 y2 y3 W (by omega) (by omega) h h'
    rw [show (cmpT (tupP l).1 (tupP l).1 == 0) = true from by rw [cmpT_self]; rfl] at this
    exact this
set_option maxHeartbeats 3200000 in
set_option maxRecDepth 100000 in
theorem lawTup_err (HA : Hid AwakeY) (l : List Tm) (A : Tm) (E : Int) (xa : Option Addr) (cap : Nat) (w : World) (hT : TabY w) (H : Hid (TupH w l A E xa cap)) (hE : E ≠ 0) :
    Calls Tryz.prog 11 #[.slice xa l.length cap] w fun e w' => e = .returned (.bool true) ∧ Below w.heap.size w w' := by
  have HT := Lib.hid (fun W (x : Ext w W) => hT.ext x)
  have q1 : (E != 0) = true := by rw [bne_iff_ne]; exact hE
  have q2 : (E == E) = true := by simp
  have q3 : (E != E) = false := by simp
  have tok1 : True := trivial
  clear hT hE
  go_enter Tryz.func11, Tryz.ntmps11
  go_wp2_with (first
    | (go_at_call 12; refine (HA.out _ (HT.out _ (Ext.refl _))).mono ?_; rintro e w1 ⟨he, hB⟩; subst he; have HX1 := Lib.hid hB; clear hB)
    | (go_at_call 46; refine (H.out.few _ HX1.out).mono ?_; rintro e w2 ⟨he, hB⟩; subst he; have HX2 := Lib.hid (Ext.trans HX1.out hB); clear hB)
    | (go_at_call 47; refine (H.out.code _ HX2.out).mono ?_; rintro e w3 ⟨k3, n3, s3, x3, l3, d3, he, hI3, hB⟩; subst he; have HX3 := Lib.hid (Ext.trans HX2.out hB); have HI3 := Lib.hid hI3; clear hB hI3)
    | (go_at_call 48; refine (H.out.ref _ (Ext.alloc HX3.out _)).mono ?_; rintro e w4 ⟨k4, n4, s4, x4, l4, d4, he, hI4, hB⟩; subst he; have HX4 := Lib.hid (Ext.trans (Ext.alloc HX3.out _) hB); have hx5 : Ext (w3.alloc (.cells #[.int .i64 k3, .string n3, .int .i64 s3, .slice x3 l3 d3] 24)) (w4.alloc (.cells #[.int .i64 k4, .string n4, .int .i64 s4, .slice x4 l4 d4] 24)) := hB.alloc _; obtain ⟨⟨a0, a1, a2, a3⟩, _⟩ := box_facts ((hx5.block _ (by simp)).trans (heap_alloc_new _ _)); obtain ⟨⟨e0, e1, e2, e3⟩, _⟩ := box_facts (heap_alloc_new w4 (.cells #[.int .i64 k4, .string n4, .int .i64 s4, .slice x4 l4 d4] 24)); have HI := Lib.hid (And.intro (Is_below HI3.out (((Ext.refl w3).alloc _).trans hx5)) (Is_below hI4 ((Ext.refl w4).alloc (.cells #[.int .i64 k4, .string n4, .int .i64 s4, .slice x4 l4 d4] 24)))); have HX5 := Lib.hid (Ext.alloc HX4.out (.cells #[.int .i64 k4, .string n4, .int .i64 s4, .slice x4 l4 d4] 24)); have HBX := Lib.hid (fun W (x : Ext (w4.alloc (.cells #[.int .i64 k4, .string n4, .int .i64 s4, .slice x4 l4 d4] 24)) W) => And.intro (box_facts ((x.block _ (Nat.lt_of_lt_of_le (by simp) hx5.size)).trans ((hx5.block _ (by simp)).trans (heap_alloc_new _ _)))).1 (box_facts ((x.block _ (by simp)).trans (heap_alloc_new w4 _))).1); clear hB hI4 hx5)
    | (go_at_call 22; have _t := tok1; refine (H.out.same _ _ _ _ _ _ _ _ _ HI.out.1 HI.out.2).mono ?_; rintro e w6 ⟨he, hB⟩; subst he; have HX6 := Lib.hid hB; clear a0 a1 a2 a3 e0 e1 e2 e3; obtain ⟨⟨a0, a1, a2, a3⟩, e0, e1, e2, e3⟩ := HBX.out _ hB; clear hB tok1)
    | (go_at_call 22; refine (H.out.same _ _ _ _ _ _ _ _ _ (Is_below HI.out.1 HX6.out) (Is_below HI.out.2 HX6.out)).mono ?_; rintro e w7 ⟨he, hB⟩; subst he; have HX7 := Lib.hid (Ext.trans (Ext.trans HX5.out HX6.out) hB); clear hB))
  go_ret
  exact ⟨rfl, HX7.out⟩
set_option maxHeartbeats 3200000 in
set_option maxRecDepth 100000 in
theorem lawTup_pair (HA : Hid AwakeY) (l : List Tm) (m : Nat) (A : Tm) (kb ko cap : Nat) (w : World) (hm : l.length = m + 1) (hm2 : m ≤ 20) (hT : TabY w) (hR : Row w l (some ⟨kb, ko, none⟩)) (H : Hid (TupH w l A 0 (some ⟨kb, ko, none⟩) cap)) (hp : isApp (l[m]'(by omega)) yPair = true) :
    Calls Tryz.prog 11 #[.slice (some ⟨kb, ko, none⟩) (m + 1) cap] w fun e w' => e = .returned (.bool true) ∧ Below w.heap.size w w' := by
  have HT := Lib.hid (fun W (x : Ext w W) => hT.ext x)
  obtain ⟨x0, x1, x2, x3, p0, p1, p2, p3, hIL⟩ := Row_get hR m (by omega)
  obtain ⟨k, n, s, ya, yl, yc, rfl, rfl, rfl, rfl⟩ := Is_form hIL
  have HRW := Lib.hid (fun W (x : Ext w W) => And.intro (keep_below x _ _ p0) (And.intro (keep_below x _ _ p1) (And.intro (keep_below x _ _ p2) (keep_below x _ _ p3))))
  have HIS : Hid (∀ W, Ext w W → Calls Tryz.prog 29 #[.agg #[.int .i64 k, .string n, .int .i64 s, .slice ya yl yc], .string ⟨#[112, 97, 105, 114]⟩] W fun e w' => e = .returned (.bool true) ∧ Ext W w') := by
    show ∀ W, _
    intro W x
    have h := ris_any l[m] ⟨#[112, 97, 105, 114]⟩ _ _ _ _ W (Is_below hIL x)
    rw [show isApp l[m] ⟨#[112, 97, 105, 114]⟩ = true from hp] at h
    exact h
  have HF : Hid (∀ W, Ext w W → Calls Tryz.prog 46 #[.slice (some ⟨kb, ko, none⟩) (m + 1) cap, .int .i64 20, .int .i64 200] W fun e w' => e = .returned (.bool true) ∧ Ext W w') := fun W x => by rw [← hm]; exact H.out.few W x
  have HC : Hid (∀ W, Ext w W → Calls Tryz.prog 47 #[.slice (some ⟨kb, ko, none⟩) (m + 1) cap] W (TrPost W (A, 0))) := fun W x => by rw [← hm]; exact H.out.code W x
  have HRF : Hid (∀ W, Ext w W → Calls Tryz.prog 48 #[.slice (some ⟨kb, ko, none⟩) (m + 1) cap] W (TrPost W (A, 0))) := fun W x => by rw [← hm]; exact H.out.ref W x
  have tok1 : True := trivial
  clear hT hR hm p0 p1 p2 p3 hIL hp
  go_enter Tryz.func11, Tryz.ntmps11
  go_wp2_with (first
    | (go_at_call 12; refine (HA.out _ (HT.out _ (Ext.refl _))).mono ?_; rintro e w1 ⟨he, hB⟩; subst he; have HX1 := Lib.hid hB; clear hB)
    | (go_at_call 46; refine (HF.out _ HX1.out).mono ?_; rintro e w2 ⟨he, hB⟩; subst he; have HX2 := Lib.hid (Ext.trans HX1.out hB); clear hB)
    | (go_at_call 47; refine (HC.out _ HX2.out).mono ?_; rintro e w3 ⟨k3, n3, s3, x3, l3, d3, he, hI3, hB⟩; subst he; have HX3 := Lib.hid (Ext.trans HX2.out hB); have HI3 := Lib.hid hI3; clear hB hI3)
    | (go_at_call 48; refine (HRF.out _ (Ext.alloc HX3.out _)).mono ?_; rintro e w4 ⟨k4, n4, s4, x4, l4, d4, he, hI4, hB⟩; subst he; have HX4 := Lib.hid (Ext.trans (Ext.alloc HX3.out _) hB); have hx5 : Ext (w3.alloc (.cells #[.int .i64 k3, .string n3, .int .i64 s3, .slice x3 l3 d3] 24)) (w4.alloc (.cells #[.int .i64 k4, .string n4, .int .i64 s4, .slice x4 l4 d4] 24)) := hB.alloc _; obtain ⟨⟨a0, a1, a2, a3⟩, _⟩ := box_facts ((hx5.block _ (by simp)).trans (heap_alloc_new _ _)); obtain ⟨⟨e0, e1, e2, e3⟩, _⟩ := box_facts (heap_alloc_new w4 (.cells #[.int .i64 k4, .string n4, .int .i64 s4, .slice x4 l4 d4] 24)); have HI := Lib.hid (And.intro (Is_below HI3.out (((Ext.refl w3).alloc _).trans hx5)) (Is_below hI4 ((Ext.refl w4).alloc (.cells #[.int .i64 k4, .string n4, .int .i64 s4, .slice x4 l4 d4] 24)))); have HX5 := Lib.hid (Ext.alloc HX4.out (.cells #[.int .i64 k4, .string n4, .int .i64 s4, .slice x4 l4 d4] 24)); have HBX := Lib.hid (fun W (x : Ext (w4.alloc (.cells #[.int .i64 k4, .string n4, .int .i64 s4, .slice x4 l4 d4] 24)) W) => And.intro (box_facts ((x.block _ (Nat.lt_of_lt_of_le (by simp) hx5.size)).trans ((hx5.block _ (by simp)).trans (heap_alloc_new _ _)))).1 (box_facts ((x.block _ (by simp)).trans (heap_alloc_new w4 _))).1); clear hB hI4 hx5)
    | (go_at_call 22; have _t := tok1; refine (H.out.same _ _ _ _ _ _ _ _ _ HI.out.1 HI.out.2).mono ?_; rintro e w6 ⟨he, hB⟩; subst he; have HX6 := Lib.hid hB; clear a0 a1 a2 a3 e0 e1 e2 e3; obtain ⟨⟨a0, a1, a2, a3⟩, e0, e1, e2, e3⟩ := HBX.out _ hB; obtain ⟨r0, r1, r2, r3⟩ := HRW.out _ (Ext.trans HX5.out hB); clear hB tok1)
    | (go_at_call 29; refine (HIS.out _ (Ext.trans HX5.out HX6.out)).mono ?_; rintro e w7 ⟨he, hB⟩; subst he; have HX7 := Lib.hid (Ext.trans HX6.out hB); clear a0 a1 a2 a3 e0 e1 e2 e3; obtain ⟨⟨a0, a1, a2, a3⟩, e0, e1, e2, e3⟩ := HBX.out _ HX7.out; clear hB)
    | (go_at_call 22; refine (H.out.same _ _ _ _ _ _ _ _ _ (Is_below HI.out.1 HX7.out) (Is_below HI.out.2 HX7.out)).mono ?_; rintro e w8 ⟨he, hB⟩; subst he; have HX8 := Lib.hid (Ext.trans (Ext.trans HX5.out HX7.out) hB); clear hB))
  go_ret
  exact ⟨rfl, HX8.out⟩
set_option maxHeartbeats 3200000 in
set_option maxRecDepth 100000 in
theorem lawTup_ok (HA : Hid AwakeY) (l : List Tm) (m : Nat) (A : Tm) (kb ko cap : Nat) (w : World) (hm : l.length = m + 1) (hm2 : m ≤ 20) (hT : TabY w) (hR : Row w l (some ⟨kb, ko, none⟩)) (H : Hid (TupH w l A 0 (some ⟨kb, ko, none⟩) cap)) (hp : isApp (l[m]'(by omega)) yPair = false) (hA : untT A = l) (hz : size A ≤ 1048576 ∧ sizes l ≤ 200) :
    Calls Tryz.prog 11 #[.slice (some ⟨kb, ko, none⟩) (m + 1) cap] w fun e w' => e = .returned (.bool true) ∧ Below w.heap.size w w' := by
  have HT := Lib.hid (fun W (x : Ext w W) => hT.ext x)
  obtain ⟨x0, x1, x2, x3, p0, p1, p2, p3, hIL⟩ := Row_get hR m (by omega)
  obtain ⟨k, n, s, ya, yl, yc, rfl, rfl, rfl, rfl⟩ := Is_form hIL
  have HRW := Lib.hid (fun W (x : Ext w W) => And.intro (keep_below x _ _ p0) (And.intro (keep_below x _ _ p1) (And.intro (keep_below x _ _ p2) (keep_below x _ _ p3))))
  have HIS : Hid (∀ W, Ext w W → Calls Tryz.prog 29 #[.agg #[.int .i64 k, .string n, .int .i64 s, .slice ya yl yc], .string ⟨#[112, 97, 105, 114]⟩] W fun e w' => e = .returned (.bool false) ∧ Ext W w') := by
    show ∀ W, _
    intro W x
    have h := ris_any l[m] ⟨#[112, 97, 105, 114]⟩ _ _ _ _ W (Is_below hIL x)
    rw [show isApp l[m] ⟨#[112, 97, 105, 114]⟩ = false from hp] at h
    exact h
  have HU : Hid (∀ W c0 c1 c2 c3, Is W A c0 c1 c2 c3 → Calls Tryz.prog 44 #[.agg #[c0, c1, c2, c3]] W (TsPost W l)) := by
    show ∀ W c0 c1 c2 c3, _
    intro W c0 c1 c2 c3 h
    have := yUntuple_any A c0 c1 c2 c3 W hz.1 h
    rw [hA] at this
    exact this
  have HLS : Hid (∀ W x1 d1, Row W l x1 → Ext w W → Calls Tryz.prog 43 #[.slice x1 (m + 1) d1, .slice (some ⟨kb, ko, none⟩) (m + 1) cap] W fun e w' => e = .returned (.bool true) ∧ Below W.heap.size W w') := by
    show ∀ W x1 d1, _
    intro W x1 d1 r1 x
    have h := lists_any l l x1 (some ⟨kb, ko, none⟩) d1 cap W (by unfold maxLen; omega) (by unfold maxLen; omega) (by omega) (by omega) r1 (Row_below hR x)
    rw [show listsEq l l = true from listsEq_selfY _, hm] at h
    exact h
  unfold TsPost at HU
  rw [hm] at HU
  have HF : Hid (∀ W, Ext w W → Calls Tryz.prog 46 #[.slice (some ⟨kb, ko, none⟩) (m + 1) cap, .int .i64 20, .int .i64 200] W fun e w' => e = .returned (.bool true) ∧ Ext W w') := fun W x => by rw [← hm]; exact H.out.few W x
  have HC : Hid (∀ W, Ext w W → Calls Tryz.prog 47 #[.slice (some ⟨kb, ko, none⟩) (m + 1) cap] W (TrPost W (A, 0))) := fun W x => by rw [← hm]; exact H.out.code W x
  have HRF : Hid (∀ W, Ext w W → Calls Tryz.prog 48 #[.slice (some ⟨kb, ko, none⟩) (m + 1) cap] W (TrPost W (A, 0))) := fun W x => by rw [← hm]; exact H.out.ref W x
  have tok1 : True := trivial
  clear hT hR hm p0 p1 p2 p3 hIL hp hA hz
  go_enter Tryz.func11, Tryz.ntmps11
  go_wp2_with (first
    | (go_at_call 12; refine (HA.out _ (HT.out _ (Ext.refl _))).mono ?_; rintro e w1 ⟨he, hB⟩; subst he; have HX1 := Lib.hid hB; clear hB)
    | (go_at_call 46; refine (HF.out _ HX1.out).mono ?_; rintro e w2 ⟨he, hB⟩; subst he; have HX2 := Lib.hid (Ext.trans HX1.out hB); clear hB)
    | (go_at_call 47; refine (HC.out _ HX2.out).mono ?_; rintro e w3 ⟨k3, n3, s3, x3, l3, d3, he, hI3, hB⟩; subst he; have HX3 := Lib.hid (Ext.trans HX2.out hB); have HI3 := Lib.hid hI3; clear hB hI3)
    | (go_at_call 48; refine (HRF.out _ (Ext.alloc HX3.out _)).mono ?_; rintro e w4 ⟨k4, n4, s4, x4, l4, d4, he, hI4, hB⟩; subst he; have HX4 := Lib.hid (Ext.trans (Ext.alloc HX3.out _) hB); have hx5 : Ext (w3.alloc (.cells #[.int .i64 k3, .string n3, .int .i64 s3, .slice x3 l3 d3] 24)) (w4.alloc (.cells #[.int .i64 k4, .string n4, .int .i64 s4, .slice x4 l4 d4] 24)) := hB.alloc _; obtain ⟨⟨a0, a1, a2, a3⟩, _⟩ := box_facts ((hx5.block _ (by simp)).trans (heap_alloc_new _ _)); obtain ⟨⟨e0, e1, e2, e3⟩, _⟩ := box_facts (heap_alloc_new w4 (.cells #[.int .i64 k4, .string n4, .int .i64 s4, .slice x4 l4 d4] 24)); have HI := Lib.hid (And.intro (Is_below HI3.out (((Ext.refl w3).alloc _).trans hx5)) (Is_below hI4 ((Ext.refl w4).alloc (.cells #[.int .i64 k4, .string n4, .int .i64 s4, .slice x4 l4 d4] 24)))); have HX5 := Lib.hid (Ext.alloc HX4.out (.cells #[.int .i64 k4, .string n4, .int .i64 s4, .slice x4 l4 d4] 24)); have HBX := Lib.hid (fun W (x : Ext (w4.alloc (.cells #[.int .i64 k4, .string n4, .int .i64 s4, .slice x4 l4 d4] 24)) W) => And.intro (box_facts ((x.block _ (Nat.lt_of_lt_of_le (by simp) hx5.size)).trans ((hx5.block _ (by simp)).trans (heap_alloc_new _ _)))).1 (box_facts ((x.block _ (by simp)).trans (heap_alloc_new w4 _))).1); clear hB hI4 hx5)
    | (go_at_call 22; have _t := tok1; refine (H.out.same _ _ _ _ _ _ _ _ _ HI.out.1 HI.out.2).mono ?_; rintro e w6 ⟨he, hB⟩; subst he; have HX6 := Lib.hid hB; clear a0 a1 a2 a3 e0 e1 e2 e3; obtain ⟨⟨a0, a1, a2, a3⟩, e0, e1, e2, e3⟩ := HBX.out _ hB; obtain ⟨r0, r1, r2, r3⟩ := HRW.out _ (Ext.trans HX5.out hB); clear hB tok1)
    | (go_at_call 29; refine (HIS.out _ (Ext.trans HX5.out HX6.out)).mono ?_; rintro e w7 ⟨he, hB⟩; subst he; have HX7 := Lib.hid (Ext.trans HX6.out hB); clear a0 a1 a2 a3 e0 e1 e2 e3; obtain ⟨⟨a0, a1, a2, a3⟩, e0, e1, e2, e3⟩ := HBX.out _ HX7.out; clear hB)
    | (go_at_call 44; refine (HU.out _ _ _ _ _ (Is_below HI.out.1 HX7.out)).mono ?_; rintro e w8 ⟨x8, d8, he, _, hR8, hB⟩; subst he; have HX8 := Lib.hid (Ext.trans (Ext.trans HX5.out HX7.out) hB); have HR8 := Lib.hid hR8; clear hB hR8)
    | (go_at_call 43; refine (HLS.out _ _ _ HR8.out HX8.out).mono ?_; rintro e w9 ⟨he, hB⟩; subst he; have HX9 := Lib.hid (Ext.trans HX8.out hB); clear hB))
  go_ret
  exact ⟨rfl, HX9.out⟩
theorem lawTup_any (HA : Hid AwakeY) (l : List Tm) (xa : Option Addr) (cap : Nat) (w : World) (hT : TabY w) (hcap : l.length ≤ cap) (hl : l.length ≤ maxLen) (hR : Row w l xa) :
    Calls Tryz.prog 11 #[.slice xa l.length cap] w fun e w' => e = .returned (.bool true) ∧ Below w.heap.size w w' := by
  cases h1 : few l 20 200
  · exact lawTup_no HA l xa cap w hT hl hR h1
  have hs : sizes l ≤ 200 ∧ l.length ≤ 20 := by
    have h1' := h1
    unfold few at h1'
    split at h1'
    · cases h1'
    · have := fewL_sizes l 200 (by omega) h1'
      omega
  have hH := tupH_any l xa cap w hT hl hcap hR h1 hs
  have hz := tupP_size l
  by_cases hE : (tupP l).2 = 0
  rotate_left
  · exact lawTup_err HA l (tupP l).1 (tupP l).2 xa cap w hT (Lib.hid hH) hE
  obtain ⟨hne, hA⟩ := tupP_zero hE
  rw [hE] at hH
  have hpos : 0 < l.length := List.length_pos_iff.2 hne
  obtain ⟨m, hm⟩ : ∃ m, l.length = m + 1 := ⟨l.length - 1, by omega⟩
  obtain ⟨kb, ko, rfl⟩ := Row_at hR hpos
  rw [hm]
  cases hp : isApp (l[m]'(by omega)) yPair
  · refine lawTup_ok HA l m (tupP l).1 kb ko cap w hm (by omega) hT hR (Lib.hid hH) hp ?_ ⟨by omega, hs.1⟩
    rw [hA]
    refine untT_tup l hne ?_
    rw [List.getLast_eq_getElem]
    simpa [hm] using hp
  · exact lawTup_pair HA l m (tupP l).1 kb ko cap w hm (by omega) hT hR (Lib.hid hH) hp
end Go.Proofs.YtbcpnepjojppaaaGreatDoor
