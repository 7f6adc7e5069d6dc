import Derived.BigQuiet
import Derived.Test.YtbcpnepjojppaaaGreatDoorLawTheoryKeyxNodes
import Derived.Test.YtbcpnepjojppaaaGreatDoorLawTheoryKeyxYtab
namespace Go.Proofs.YtbcpnepjojppaaaGreatDoor
open Go.RowKit
def atT : Tm → List Int → Option Tm
  | t, [] => some t
  | t, i :: p => if h : 0 ≤ i ∧ i < (t.kids.length : Int) then atT (t.kids[i.toNat]'(by omega)) p else none
theorem atT_drop {t : Tm} {p : List Int} {j : Nat} (h : j < p.length) : atT t (p.drop j) = if h' : 0 ≤ p[j] ∧ p[j] < (t.kids.length : Int) then atT (t.kids[p[j].toNat]'(by omega)) (p.drop (j + 1)) else none := by
  rw [List.drop_eq_getElem_cons h]; rfl
theorem atT_in {t : Tm} {p : List Int} {j y : Nat} (h : j < p.length) (hy : y < t.kids.length) (e : p[j] = (y : Int)) : atT t (p.drop j) = atT t.kids[y] (p.drop (j + 1)) := by
  rw [atT_drop h, dif_pos (by rw [e]; omega)]
  have : p[j].toNat = y := by rw [e]; omega
  simp only [this]
theorem atT_out {t : Tm} {p : List Int} {j : Nat} (h : j < p.length) (e : p[j] < 0 ∨ (t.kids.length : Int) ≤ p[j]) : atT t (p.drop j) = none := by
  rw [atT_drop h, dif_neg (by omega)]
theorem kids_mem_size {t : Tm} {j : Nat} (h : j < t.kids.length) : size t.kids[j] ≤ size t := by
  obtain ⟨k, n, s, ks⟩ := t
  have := size_le_sizes (List.getElem_mem (l := ks) (n := j) h)
  simp only [Tm.kids, size]; omega
theorem atT_size : ∀ (p : List Int) (t u : Tm), atT t p = some u → size u ≤ size t
  | [], t, u, h => by simp only [atT, Option.some.injEq] at h; subst h; exact Nat.le_refl _
  | i :: p, t, u, h => by
    simp only [atT] at h
    split at h
    · rename_i hh
      have := atT_size p _ u h
      have := kids_mem_size (t := t) (j := i.toNat) (by omega)
      omega
    · cases h
def IntsV (w : World) (v : Value) (l : List Int) : Prop :=
  ∃ xa cap, v = .slice xa l.length cap ∧ l.length ≤ maxLen ∧ (∀ x ∈ l, -9223372036854775808 ≤ x ∧ x ≤ 9223372036854775807) ∧ (0 < l.length → ∃ b o, xa = some ⟨b, o, none⟩ ∧ ∀ i (h : i < l.length), w.cell? ⟨b, o + i, none⟩ = some (.int .i64 l[i]))
theorem IntsV_below {w w' : World} {v : Value} {l : List Int} (h : IntsV w v l) (hb : Below w.heap.size w w') : IntsV w' v l := by
  obtain ⟨xa, cap, e, h1, h2, hc⟩ := h
  refine ⟨xa, cap, e, h1, h2, fun h => ?_⟩
  obtain ⟨b, o, e, hc⟩ := hc h
  exact ⟨b, o, e, fun i hi => keep_below hb _ _ (hc i hi)⟩
def FindPost (w : World) (r : Option Tm) (e : Ending) (w' : World) : Prop :=
  w = w' ∧ match r with
    | none => e = .returned (.pointer none)
    | some u => ∃ b o, e = .returned (.pointer (some ⟨b, o, none⟩)) ∧ Lies w u b o
set_option maxHeartbeats 1600000 in
set_option maxRecDepth 100000 in
theorem find_any (t : Tm) (p : List Int) (b o : Nat) (v : Value) (w : World) (hL : Lies w t b o) (hp : IntsV w v p) :
    Calls Tryz.prog 124 #[.pointer (some ⟨b, o, none⟩), v] w (FindPost w (atT t p)) := by
  obtain ⟨xa, cap, rfl, hpl, hrg, hc⟩ := hp
  unfold maxLen at hpl
  have HC := Lib.hid hc
  have HG := Lib.hid hrg
  have HL := Lib.hid hL
  clear hc hL hrg
  go_enter Tryz.func124, Tryz.ntmps124
  go_wp2_with fail
  go_loop [0, 9] (fun t0 i => ∃ (j : Nat) (u : Tm) (b' o' : Nat), j ≤ p.length ∧ i = .int .i64 j ∧ t0 = .pointer (some ⟨b', o', none⟩) ∧ Hid (Lies w u b' o') ∧ Hid (atT t p = atT u (p.drop j))) (fun _ i => p.length - (intOf i).toNat)
  case atStart => exact ⟨0, t, b, o, Nat.zero_le _, rfl, rfl, HL, rfl⟩
  case round =>
    obtain ⟨j, u, b', o', hj, rfl, rfl, HU, HA⟩ := hrel
    by_cases hlt : j < p.length
    rotate_left
    · have hd : p.drop j = [] := List.drop_eq_nil_of_le (by omega)
      have HF : Hid (FindPost w (atT t p) (.returned (.pointer (some ⟨b', o', none⟩))) w) := by
        show FindPost _ _ _ _
        rw [HA.out, hd]; exact ⟨rfl, b', o', rfl, HU.out⟩
      clear hd
      go_wp2_with fail
      go_ret
      exact HF.out
    obtain ⟨pb, po, hxa, hpc⟩ := HC.out (by omega)
    subst hxa
    have hx := hpc j hlt
    have hxr := HG.out _ (List.getElem_mem hlt)
    obtain ⟨x, hxe⟩ : ∃ x, p[j] = x := ⟨_, rfl⟩
    rw [hxe] at hx hxr
    have HE := Lib.hid hxe
    clear hxe
    obtain ⟨k, n, s, ks⟩ := u
    obtain ⟨_, _, _, _, _, _, hkl, ka, kcap, g3, hkc, hR⟩ := Lies_mk HU.out
    unfold maxLen at hkl
    have HR := Lib.hid hR
    have i1 : (0 : Int) ≤ (j : Int) := by omega
    have i2 : (j : Int) < (p.length : Int) := by omega
    clear hpc hR
    by_cases hlo : x < 0
    · have HF : Hid (FindPost w (atT t p) (.returned (.pointer none)) w) := by
        show FindPost _ _ _ _
        rw [HA.out, atT_out hlt (by rw [HE.out]; exact Or.inl hlo)]; exact ⟨rfl, rfl⟩
      go_wp2_with fail
      go_ret
      exact HF.out
    by_cases hhi : (ks.length : Int) ≤ x
    · have HF : Hid (FindPost w (atT t p) (.returned (.pointer none)) w) := by
        show FindPost _ _ _ _
        rw [HA.out, atT_out hlt (by rw [HE.out]; exact Or.inr hhi)]; exact ⟨rfl, rfl⟩
      go_wp2_with fail
      go_ret
      exact HF.out
    have hlo' : 0 ≤ x := by omega
    have hhi' : x < (ks.length : Int) := by omega
    obtain ⟨y, rfl⟩ := Int.eq_ofNat_of_zero_le hlo'
    have hy : y < ks.length := by omega
    obtain ⟨kb, ko, rfl⟩ := Row_at HR.out (by omega)
    have HK := Lib.hid (Row_get HR.out y hy)
    have HA2 : Hid (atT t p = atT ks[y] (p.drop (j + 1))) := by
      show _ = _
      rw [HA.out]; exact atT_in (t := .mk k n s ks) hlt hy HE.out
    clear HE HA
    go_wp2_with fail
    go_round
    case rel => exact ⟨j + 1, ks[y], kb, ko + y * 4, by omega, by go_num, rfl, HK, HA2⟩
    case measure => simp [intOf]; omega
def AtPost (w : World) (r : Option Tm) (e : Ending) (w' : World) : Prop :=
  Below w.heap.size w w' ∧ match r with
    | none => e = .returned (.tuple #[.agg #[.int .i64 0, .string ⟨#[]⟩, .int .i64 0, .slice none 0 0], .int .i64 7])
    | some u => ∃ c0 c1 c2 c3, e = .returned (.tuple #[.agg #[c0, c1, c2, c3], .int .i64 0]) ∧ IsIn (fun b => w.heap.size ≤ b ∧ b < w'.heap.size) w' u c0 c1 c2 c3
theorem at_boxes {w W : World} {c0 c1 c2 c3 : Value} (h : Ext ((w.alloc (.cells #[c0, c1, c2, c3] 24)).alloc (.cells #[.int .i64 0, .string ⟨#[]⟩, .int .i64 0, .slice none 0 0] 24)) W) :
    W.heap[w.heap.size + 1]? = some (.cells #[.int .i64 0, .string ⟨#[]⟩, .int .i64 0, .slice none 0 0] 24 (0, 0)) := by
  rw [h.block _ (by simp)]
  have := heap_alloc_new (w.alloc (.cells #[c0, c1, c2, c3] 24)) (.cells #[.int .i64 0, .string ⟨#[]⟩, .int .i64 0, .slice none 0 0] 24)
  rw [World.size_alloc] at this; exact this
theorem put4_below {w w' : World} {B g o : Nat} {c0 c1 c2 c3 : Value} (h : Below B w w') (hg : B ≤ g) : Below B w (put4 w' g o c0 c1 c2 c3) := by
  unfold put4
  exact (((h.setCell (p := ⟨g, o, none⟩) hg c0).setCell (p := ⟨g, o + 1, none⟩) hg c1).setCell (p := ⟨g, o + 2, none⟩) hg c2).setCell (p := ⟨g, o + 3, none⟩) hg c3
set_option maxHeartbeats 1600000 in
set_option maxRecDepth 100000 in
theorem At_any (t : Tm) (p : List Int) (c0 c1 c2 c3 v : Value) (w : World) (hM : size t ≤ 1073741824) (hI : Is w t c0 c1 c2 c3) (hp : IntsV w v p) :
    Calls Tryz.prog 95 #[.agg #[c0, c1, c2, c3], v] w (AtPost w (atT t p)) := by
  have hp' := hp
  obtain ⟨xa, cap, hv, _⟩ := hp'
  subst hv
  have hX : Ext w ((w.alloc (.cells #[c0, c1, c2, c3] 24)).alloc (.cells #[.int .i64 0, .string ⟨#[]⟩, .int .i64 0, .slice none 0 0] 24)) := ((Ext.refl w).alloc _).alloc _
  have hL0 : Lies ((w.alloc (.cells #[c0, c1, c2, c3] 24)).alloc (.cells #[.int .i64 0, .string ⟨#[]⟩, .int .i64 0, .slice none 0 0] 24)) t w.heap.size 0 := Lies_carry (keep_alloc _ _) (Lies_box hI 24)
  have HF := Lib.hid (find_any t p _ _ _ _ hL0 (IntsV_below hp hX))
  have HX := Lib.hid hX
  have HS := Lib.hid (fun u => atT_size p t u)
  cases hr : atT t p with
  | none =>
    rw [hr] at HF
    clear hp hI hL0 hX hr HS
    go_enter Tryz.func95, Tryz.ntmps95
    go_wp2_with (go_at_call 124; refine (HF.out).mono ?_; rintro e w' ⟨rfl, he⟩; subst he)
    refine bodyPost_ret (v := .tuple #[.agg #[.int .i64 0, .string ⟨#[]⟩, .int .i64 0, .slice none 0 0], .int .i64 7]) (by simp [results, Tryz.results95, go_sem]) rfl ?_
    exact ⟨HX.out, rfl⟩
  | some u =>
    rw [hr] at HF
    have hus := HS.out u hr
    clear hp hI hL0 hr HS
    go_enter Tryz.func95, Tryz.ntmps95
    go_wp2_with (first
      | (go_at_call 124; refine (HF.out).mono ?_; rintro e w' ⟨rfl, b', o', he, hU⟩; subst he; have HU := Lib.hid hU; clear hU)
      | (go_at_call 125; refine (copyOf_any _ u b' o' _ (Nat.le_refl _) (by omega) HU.out).mono ?_; rintro e w3 ⟨d0, d1, d2, d3, he, hJ, hB⟩; subst he; obtain ⟨k', n', s', x', l', c', e0, e1, e2, e3⟩ := IsIn_form hJ; subst e0 e1 e2 e3; have HJ := Lib.hid hJ; have HB := Lib.hid hB; obtain ⟨⟨y0, y1, y2, y3⟩, z0, z1, z2, z3⟩ := box_facts (at_boxes hB); clear hJ hB))
    refine bodyPost_ret (v := .tuple #[.agg #[.int .i64 k', .string n', .int .i64 s', .slice x' l' c'], .int .i64 0]) (by simp [results, Tryz.results95, go_sem, y0, y1, y2, y3]) rfl ?_
    have hB3 : Below w.heap.size w w3 := Ext.trans (a := w) HX.out HB.out
    exact ⟨put4_below (g := w.heap.size + 1) (o := 0) hB3 (by omega), _, _, _, _, rfl,
      IsIn_carry (w' := put4 w3 (w.heap.size + 1) 0 (.int .i64 k') (.string n') (.int .i64 s') (.slice x' l' c')) (fun b hb => put4_other _ _ _ _ _ _ _ _ (by have := hb.1; simp at this; omega)) (fun b hb => by
        have h1 := hb.1
        have h2 := hb.2
        have h3 := put4_size w3 (w.heap.size + 1) 0 (.int .i64 k') (.string n') (.int .i64 s') (.slice x' l' c')
        simp only [World.size_alloc] at h1
        exact ⟨by omega, by show b < (put4 w3 (w.heap.size + 1) 0 (.int .i64 k') (.string n') (.int .i64 s') (.slice x' l' c')).heap.size; omega⟩) _ _ _ _ _ HJ.out⟩
end Go.Proofs.YtbcpnepjojppaaaGreatDoor
namespace Go.Proofs.YtbcpnepjojppaaaGreatDoor
open Go.RowKit
theorem put4_box {w : World} {b : Nat} {f0 f1 f2 f3 y0 y1 y2 y3 : Value} {T : TypeId} (h : w.heap[b]? = some (.cells #[f0, f1, f2, f3] T (0, 0))) : (put4 w b 0 y0 y1 y2 y3).heap[b]? = some (.cells #[y0, y1, y2, y3] T (0, 0)) := by
  simp [put4, World.setCell, Array.getElem?_modify, h]
theorem below_drewN {B : Nat} {a w : World} (h : Below B a w) (n : Nat) : Below B a (w.drewN n) := ⟨h.os, h.tape, h.output, h.size, h.block⟩
def RatR (w : World) (t : Tm) (p : List Int) (j : Nat) (wr : World) : Prop :=
  ∃ u f0 f1 f2 f3, Is w u f0 f1 f2 f3 ∧ atT t p = atT u (p.drop j) ∧ wr.heap[w.heap.size]? = some (.cells #[f0, f1, f2, f3] 24 (0, 0)) ∧ wr.heap[w.heap.size + 1]? = some (.cells #[.int .i64 0, .string ⟨#[]⟩, .int .i64 0, .slice none 0 0] 24 (0, 0)) ∧ Below w.heap.size w wr
theorem RatR.next {w wr wd : World} {t v : Tm} {p : List Int} {j : Nat} {f0 f1 f2 f3 d0 d1 d2 d3 : Value} (hI : Is w v d0 d1 d2 d3) (ha : atT t p = atT v (p.drop (j + 1))) (h0 : wr.heap[w.heap.size]? = some (.cells #[f0, f1, f2, f3] 24 (0, 0)))
    (h1 : wr.heap[w.heap.size + 1]? = some (.cells #[.int .i64 0, .string ⟨#[]⟩, .int .i64 0, .slice none 0 0] 24 (0, 0))) (hB : Below w.heap.size w wr) (hd : wd.heap = wr.heap) (hBd : Below w.heap.size wr wd) : RatR w t p (j + 1) (put4 wd w.heap.size 0 d0 d1 d2 d3) :=
  ⟨v, d0, d1, d2, d3, hI, ha, put4_box (by rw [hd]; exact h0), by rw [put4_other _ _ _ _ _ _ _ _ (by omega), hd]; exact h1, put4_below (hB.trans hBd) (Nat.le_refl _)⟩
end Go.Proofs.YtbcpnepjojppaaaGreatDoor
