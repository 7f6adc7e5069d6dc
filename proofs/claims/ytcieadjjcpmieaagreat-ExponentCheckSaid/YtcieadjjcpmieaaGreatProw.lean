/-
  THE WALK OF exponent's rowOf.
-/
import Derived.Test.YtcieadjjcpmieaaGreatPfind
import Derived.Test.YtcieadjjcpmieaaGreatPvan
import Derived.Test.YtcieadjjcpmieaaGreatIntz
namespace Go.Proofs.YtcieadjjcpmieaaGreat
open Go.RowKit

theorem IRow_made {w1 : World} {h m : Nat} {xs : List Value} (hown : w1.ownsRow h 3 1 (.slice (some ⟨h, 0, none⟩) m m) m xs) (hxs : xs = List.replicate m (.int .i64 0)) : IRow w1 h (List.replicate m 0) :=
  ⟨(hown.lt h rfl).2, fun p => hown.frozenAt p, fun k hk => by
    have hk' : k < m := by simpa using hk
    have hl := hown.1
    rw [hown.cellAt k (by omega), hxs, List.getElem?_replicate, if_pos hk', List.getElem_replicate]⟩
/-- The row of a product when j columns have been gone through. -/
def rowJ (cols ps : List Pw) (m j : Nat) : List Int := (cols.take j).map (fun p => powF ps p.1) ++ List.replicate (m - j) 0
theorem rowJ_len {cols ps : List Pw} {m j : Nat} (h : j ≤ cols.length) (hm : cols.length ≤ m) : (rowJ cols ps m j).length = m := by unfold rowJ; simp; omega
theorem rowJ_next {cols ps : List Pw} {m j : Nat} (h : j < cols.length) (hm : cols.length ≤ m) : (rowJ cols ps m j).set j (powF ps cols[j].1) = rowJ cols ps m (j + 1) := by
  unfold rowJ
  have e : m - j = (m - (j + 1)) + 1 := by omega
  have hl : ((cols.take j).map (fun p => powF ps p.1)).length = j := by simp; omega
  rw [List.set_append_right _ _ (by omega), hl, Nat.sub_self, e, List.replicate_succ, List.set_cons_zero, List.take_succ_eq_append_getElem h, List.map_append, List.map_cons, List.map_nil, List.append_assoc]
  rfl
/-- What rowOf gives. -/
def RowPost (cols ps : List Pw) (m : Nat) (w : World) (e : Ending) (w' : World) : Prop :=
  ∃ g, e = .returned (.slice (some ⟨g, 0, none⟩) m m) ∧ w.heap.size ≤ g ∧ IRow w' g (rowJ cols ps m cols.length) ∧ Below w.heap.size w w'

set_option maxHeartbeats 6400000 in
set_option maxRecDepth 100000 in
theorem rowOf_any (cols ps : List Pw) (xc xa : Option Addr) (cc cap eb co : Nat) (w : World) (hcl : cols.length + co ≤ 1048576) (hcap : ps.length ≤ cap) (hlen : ps.length ≤ 1073741824) (hsz : SzP 1073741824 ps) (hsc : SzP 1073741824 cols) (hs : AscP ps) (hR : PRow w ps xa) (hC : PRow w cols xc) (he : w.cell? ⟨eb, 0, none⟩ = some (.slice xc cols.length cc)) :
    Calls Tryz.prog 118 #[.pointer (some ⟨eb, 0, none⟩), .slice xa ps.length cap, .int .i64 co] w (RowPost cols ps (cols.length + co) w) := by
  have HPO := Lib.hid (fun (x : Tm) c0 c1 c2 c3 W (y : Ext w W) (hx : size x ≤ 1073741824) (hI : Is W x c0 c1 c2 c3) => powerOf_any ps x c0 c1 c2 c3 xa cap W hcap hlen hsz hx hs (PRow_below (w' := W) hR y) hI)
  have HCP := Lib.hid (fun W (y : Ext w W) => PRow_below (w' := W) hC y)
  have HE := Lib.hid (fun W (y : Ext w W) => keep_below y _ _ he)
  have HSC := Lib.hid hsc
  obtain ⟨m, hm⟩ : ∃ m, cols.length + co = m := ⟨_, rfl⟩
  have hsum : (cols.length : Int) + (co : Int) = (m : Int) := by omega
  have HME : Hid (cols.length ≤ m) := by show _ ≤ _; omega
  have hcm : cols.length ≤ m := HME.out
  rw [hm] at hcl ⊢
  obtain ⟨i0, hi0, hz0, hz1, hz2⟩ := info_parts info3
  have HI0 := Lib.hid (And.intro hi0 (And.intro hz0 (And.intro hz1 hz2)))
  clear hi0 hz0 hz1 hz2 hcap hlen hsz hsc hs hR hC hm
  go_enter Tryz.func118, Tryz.ntmps118
  go_wp2_with (at_make; refine make_full_at _ w.heap.size rfl rfl _ _ _ rfl 3 i0 _ 1 Tryz.underlying49 HI0.out.1 HI0.out.2.1 HI0.out.2.2.1 m rfl rfl (by rw [HI0.out.2.2.2]; omega) (by unfold maxLen; omega) ?_; intro w2 hown1 hgrow; have HO := Lib.hid (And.intro hown1 hgrow); have he2 := HE.out w2 ((Below.refl w.heap.size w).grown hgrow (Nat.le_refl _) (fun q hq => by simp at hq)); clear hown1 hgrow he)
  have HX2 : Hid (Ext w w2) := (Below.refl w.heap.size w).grown HO.out.2 (Nat.le_refl _) (fun q hq => by simp at hq)
  have HR2 := Lib.hid (IRow_made HO.out.1 (by rw [Nat.mul_one]; exact toList_madeCells_one _ _))
  obtain ⟨g, hg⟩ : ∃ g, w.heap.size = g := ⟨_, rfl⟩
  have HG := Lib.hid hg
  rw [hg] at HR2 ⊢
  clear HO hg he2
  go_loopw [22] (fun i wr => ∃ j : Nat, j ≤ cols.length ∧ i = .int .i64 j ∧ Ext w wr ∧ IRow wr g (rowJ cols ps m j)) (fun i _ => cols.length - (intOf i).toNat)
  case atStart => exact ⟨0, Nat.zero_le _, rfl, HX2.out, by simpa [rowJ] using HR2.out⟩
  case round =>
    obtain ⟨j, hj, rfl, hE, hI⟩ := hrel
    have HEr := Lib.hid hE
    have HI := Lib.hid hI
    by_cases hlt : j < cols.length
    rotate_left
    · obtain rfl : j = cols.length := by omega
      have HF : Hid (RowPost cols ps m w (.returned (.slice (some ⟨g, 0, none⟩) m m)) wr) := ⟨g, rfl, Nat.le_of_eq HG.out, hI, hE⟩
      clear hE hI
      go_wp2_with fail
      go_ret
      exact HF.out
    have e0 := HE.out wr hE
    obtain ⟨b, o, rfl⟩ := PRow_at (HCP.out _ (Ext.refl _)) (by omega)
    obtain ⟨⟨c0, c1, c2, c3, g0, g1, g2, g3, hIs⟩, _, _⟩ := PRow_get (HCP.out wr hE) j hlt
    obtain ⟨k, n, s, ya, yl, yc, rfl, rfl, rfl, rfl⟩ := Is_form hIs
    have HCA := Lib.hid (HPO.out cols[j].1 _ _ _ _ wr hE (HSC.out _ (List.getElem_mem hlt)) hIs)
    have hjl : j < (rowJ cols ps m j).length := by rw [rowJ_len (by omega) HME.out]; omega
    have HNX : Hid (∀ W, Ext wr W → (W.cell? ⟨g, j, none⟩ = some (.int .i64 (rowJ cols ps m j)[j]) ∧ W.frozen? ⟨g, j, none⟩ = false) ∧ Ext w (W.setCell ⟨g, j, none⟩ (.int .i64 (powF ps cols[j].1))) ∧ IRow (W.setCell ⟨g, j, none⟩ (.int .i64 (powF ps cols[j].1))) g (rowJ cols ps m (j + 1))) := fun W x => by
      have hI2 := HI.out.ext x
      refine ⟨⟨hI2.2.2 j hjl, hI2.2.1 j⟩, (HEr.out.trans x).setCell (Nat.le_of_eq HG.out) _, ?_⟩
      rw [← rowJ_next hlt HME.out]
      exact hI2.set hjl
    generalize powF ps cols[j].1 = F at HCA HNX
    have i1 : (0 : Int) ≤ (j : Int) := by omega
    have i2 : (j : Int) < (cols.length : Int) := by omega
    have i3 : (j : Int) < (m : Int) := by omega
    clear hE hI hIs
    obtain ⟨w1, hw1⟩ : ∃ v : World, v = wr := ⟨_, rfl⟩
    subst hw1
    generalize (rowJ cols ps m j)[j] = z at HNX
    go_wp2_with (go_at_call 107; refine (HCA.out).mono ?_; rintro e w5 ⟨he, hx⟩; subst he; obtain ⟨z1, z2⟩ := (HNX.out w5 hx).1; have HN5 := Lib.hid (HNX.out w5 hx).2; clear hx)
    go_roundw
    case rel => exact ⟨j + 1, by omega, by go_num, HN5.out.1, HN5.out.2⟩
    case measure => simp [intOf]; omega
end Go.Proofs.YtcieadjjcpmieaaGreat

/-
  slices.Clone at a row of numbers: the copy is the call's own.
-/
namespace Go.Proofs.YtcieadjjcpmieaaGreat
open Go.RowKit

def CloneOPost (w : World) (p : List Int) (e : Ending) (w' : World) : Prop := ∃ v, e = .returned v ∧ w'.ownsRow w.heap.size 3 1 v p.length (zints p) ∧ Below w.heap.size w w'

set_option maxHeartbeats 1600000 in
set_option maxRecDepth 100000 in
theorem cloneO_any (v : Value) (p : List Int) (w : World) (h : IntsC w v p) (hp : p.length ≤ 1099511627776) :
    Calls Tryz.prog 34 #[v] w (CloneOPost w p) := by
  have heq := fun (w : World) (a : Option Addr) (l c : Nat) => Lib.run_eql_slice_nil (P := Tryz.prog) w 49 3 a l c 0 0 Tryz.underlying49
  obtain ⟨xa, cap, rfl, hlc, hcm, hrg, hc⟩ := h
  clear hrg
  cases xa with
  | none =>
    have hp0 : p = [] := by
      rcases Nat.eq_zero_or_pos p.length with h | h
      · exact List.length_eq_zero_iff.1 h
      · obtain ⟨b, o, e, _⟩ := hc h; cases e
    subst hp0
    go_enter Tryz.func34, Tryz.ntmps34
    go_wp2_with fail
    go_ret
    exact ⟨_, rfl, World.ownsRow_nil _ _ _ _, Below.refl _ _⟩
  | some a =>
    obtain ⟨i0, hi0, hz0, hz1, hz2⟩ := info_parts info3
    have HI0 := Lib.hid (And.intro hi0 (And.intro hz0 (And.intro hz1 hz2)))
    have HO : Hid ((w.alloc (.cells #[] 3)).ownsRow w.heap.size 3 1 (.slice (some ⟨w.heap.size, 0, none⟩) 0 0) 0 []) := World.ownsRow_made w #[] 0 (Nat.le_refl _) (by simp [maxLen]) rfl
    clear hi0 hz0 hz1 hz2
    have hcell : ∀ j u, (zints p)[j]? = some u → (w.alloc (.cells #[] 3)).cell? (a.add j) = some u := fun j u hu => by
      have hj : j < p.length := by
        rcases Nat.lt_or_ge j p.length with h | h
        · exact h
        · rw [List.getElem?_eq_none (by simp [zints]; exact h)] at hu; cases hu
      obtain ⟨b, o, e, hcc⟩ := hc (by omega)
      simp only [Option.some.injEq] at e
      subst e
      have hq := hcc j hj
      simp [zints, hj] at hu
      subst hu
      rw [add_plain]
      exact keep_alloc w _ _ _ hq
    have HC := Lib.hid hcell
    have HP : Hid ((zints p).length = p.length * 1) := zints_length p
    clear hc hcell
    go_enter Tryz.func34, Tryz.ntmps34
    go_wp2_with (at_builtin; refine wpList_append_own_at _ rfl _ _ _ rfl w.heap.size 3 i0 _ 1 8 Tryz.underlying49 HI0.out.1 HI0.out.2.1 HI0.out.2.2.1 HI0.out.2.2.2 rfl (by omega) (.slice (some ⟨w.heap.size, 0, none⟩) 0 0) 0 [] rfl HO.out a p.length cap (zints p) rfl HP.out HC.out (zints_one p) (by unfold maxLen; omega) (by omega) (by simp) ?_; intro v1 w1 hown1 hgrow _ hat)
    simp only [Nat.zero_add, List.nil_append] at hown1
    go_ret
    refine ⟨v1, rfl, hown1, ((Below.refl _ _).alloc (Nat.le_refl _) _).grown hgrow (by simp) (fun k hk => ?_)⟩
    simp only [Value.ownBlock, Option.some.injEq] at hk
    omega
end Go.Proofs.YtcieadjjcpmieaaGreat
