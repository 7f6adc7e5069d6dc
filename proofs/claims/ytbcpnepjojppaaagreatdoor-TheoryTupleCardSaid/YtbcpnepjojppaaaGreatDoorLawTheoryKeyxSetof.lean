import Derived.IntWalk
import Derived.Lib.SliceRun
import Derived.Shelf.SlGeneric
import Derived.Shelf.SlLaysF0
import Derived.Shelf.SlSortCmp.WholeK
import Derived.Test.YtbcpnepjojppaaaGreatDoorProg
import Derived.Test.YtbcpnepjojppaaaGreatDoorLawTheoryKeyxNodes
import Derived.Test.YtbcpnepjojppaaaGreatDoorLawTheoryKeyxPure
namespace Go.Proofs
open Go.Shelf
end Go.Proofs
namespace Go.Proofs
open Go.Shelf
end Go.Proofs
namespace Go.Proofs.YtbcpnepjojppaaaGreatDoor
open Go.RowKit Go.Shelf Go.Lib Go.Sort
structure NA (base : Nat) (w : World) where
  t : Tm
  b : Nat
  o : Nat
  lies : LiesIn (fun b => b < base) w t b o
  sz : size t ≤ 4611686018427387904
theorem own_putRow {w : World} {base : Nat} {e : TypeId} {g n k cap q : Nat} {zs ys : List Value} {os : Array Obj} (h : w.ownsRow base e k (.slice (some ⟨g, 0, none⟩) n cap) n zs) (hy : ys.length = n * k) :
    (Sort.grow (putRow id (Sort.ahead w q) g 0 ys.toArray) os).ownsRow base e k (.slice (some ⟨g, 0, none⟩) n cap) n ys := by
  rcases h.2 with ⟨e0, _⟩ | ⟨g', cap', cur, e0, hb, hg, hn, hm, hs, ht⟩
  · cases e0
  · injection e0 with e1 _ e3
    injection e1 with e1
    injection e1 with e1
    subst e1; subst e3
    have hg1 : (putRow id (Sort.ahead w q) g 0 ys.toArray).heap[g]? = some (.cells (putCells id 0 ys.toArray cur) e (0, 0)) := by
      simp [putRow, mapBlock, Sort.ahead, Array.getElem?_modify, hg, onCells]
    have hlt : g < (putRow id (Sort.ahead w q) g 0 ys.toArray).heap.size := by
      rcases Nat.lt_or_ge g (putRow id (Sort.ahead w q) g 0 ys.toArray).heap.size with h | h
      · exact h
      · rw [Array.getElem?_eq_none h] at hg1; cases hg1
    refine ⟨hy, .inr ⟨g, cap, putCells id 0 ys.toArray cur, rfl, hb, ?_, hn, hm, by simpa [putCells] using hs, ?_⟩⟩
    · rw [← hg1]; simp only [Sort.grow]; rw [Array.getElem?_append_left hlt]
    · have hcs : n * k ≤ cur.size := by rw [hs]; exact Nat.mul_le_mul_right k hn
      apply List.ext_getElem?
      intro j
      rw [List.getElem?_take, Array.getElem?_toList]
      by_cases hj : j < n * k
      · have hjc : j < cur.size := by omega
        simp only [if_pos hj, putCells, Array.getElem?_mapIdx, Array.getElem?_eq_getElem hjc, Option.map_some]
        rw [if_pos (by simp; omega), List.getElem?_eq_getElem (by omega)]
        simp [getElem!_pos, show j < ys.length by omega]
      · rw [if_neg hj, List.getElem?_eq_none (by omega)]
theorem putRow_below {w : World} {g q : Nat} {base : Nat} (hb : base ≤ g) (ys : Array Value) (os : Array Obj) (hbw : base ≤ w.heap.size) : Go.RowKit.Below base w (Sort.grow (putRow id (Sort.ahead w q) g 0 ys) os) := by
  have hsz : (putRow id (Sort.ahead w q) g 0 ys).heap.size = w.heap.size := by simp [putRow, mapBlock, Sort.ahead]
  refine ⟨rfl, rfl, rfl, ?_, fun b hlt => ?_⟩
  · simp only [Sort.grow, Array.size_append, hsz]; omega
  · simp only [Sort.grow]
    rw [Array.getElem?_append_left (by rw [hsz]; omega)]
    simp only [putRow, mapBlock, Sort.ahead, Array.getElem?_modify]
    rw [if_neg (by omega)]
end Go.Proofs.YtbcpnepjojppaaaGreatDoor
namespace Go.Proofs.YtbcpnepjojppaaaGreatDoor
open Go.RowKit Go.Lib
section
variable {base : Nat} {w : World}
def cptN (p : NA base w) : List (NA base w) → List (NA base w)
  | [] => []
  | x :: xs => if cmpT x.t p.t = 0 then cptN x xs else x :: cptN x xs
def compN : List (NA base w) → List (NA base w)
  | [] => []
  | x :: xs => x :: cptN x xs
structure CH (L : List (NA base w)) (k : Nat) : Prop where
  lt : k < L.length
  eq : ∀ h : k < L.length, compN L = L.take (k + 1) ++ cptN L[k] (L.drop (k + 1))
theorem CH.step {L : List (NA base w)} {k : Nat} (h : CH L k) (hk : k + 1 < L.length) (hne : ¬ cmpT L[k + 1].t (L[k]'h.lt).t = 0) : CH L (k + 1) := ⟨hk, fun _ => by
  have := h.eq h.lt
  rw [List.drop_eq_getElem_cons hk, cptN, if_neg hne] at this
  rw [this, List.take_succ_eq_append_getElem hk, List.append_assoc]; rfl⟩
theorem CH.done {L : List (NA base w)} {k : Nat} (h : CH L k) (hk : L.length = k + 1) : compN L = L := by
  have := h.eq h.lt
  rw [List.drop_of_length_le (by omega), cptN, List.take_of_length_le (by omega), List.append_nil] at this
  exact this
structure CI (L cur : List (NA base w)) (p kk : Nat) : Prop where
  len : cur.length = L.length
  lt : kk ≤ p
  plt : p < L.length
  high : ∀ i, p ≤ i → cur[i]? = L[i]?
  eq : ∀ h : p < L.length, compN L = cur.take kk ++ cptN L[p] (L.drop (p + 1))
theorem CI.skip {L cur : List (NA base w)} {p kk : Nat} (h : CI L cur p kk) (hp : p + 1 < L.length) (he : cmpT L[p + 1].t (L[p]'h.plt).t = 0) : CI L cur (p + 1) kk := ⟨h.len, Nat.le_succ_of_le h.lt, hp, fun i hi => h.high i (by omega), fun _ => by
  have := h.eq h.plt
  rw [List.drop_eq_getElem_cons hp, cptN, if_pos he] at this
  exact this⟩
theorem CI.done {L cur : List (NA base w)} {p kk : Nat} (h : CI L cur p kk) (hp : L.length = p + 1) : compN L = cur.take kk ∧ kk ≤ p := by
  have := h.eq h.plt
  rw [List.drop_of_length_le (by omega), cptN, List.append_nil] at this
  exact ⟨this, h.lt⟩
end
end Go.Proofs.YtbcpnepjojppaaaGreatDoor
namespace Go.Proofs.YtbcpnepjojppaaaGreatDoor
open Go.RowKit Go.Lib
section
variable {base : Nat} {w : World}
end
end Go.Proofs.YtbcpnepjojppaaaGreatDoor
namespace Go.Proofs.YtbcpnepjojppaaaGreatDoor
open Go.RowKit Go.Lib
theorem RowIn_Row {S : Nat → Prop} {w : World} : ∀ (ts : List Tm) (xa : Option Addr), RowIn S w ts xa → Row w ts xa
  | [], _, _ => by simp [Row]
  | t :: ts, xa, h => by
    simp only [RowIn] at h; simp only [Row]
    obtain ⟨b, o, e, _, ⟨c0, c1, c2, c3, g0, g1, g2, g3, hI⟩, hR⟩ := h
    exact ⟨b, o, e, ⟨c0, c1, c2, c3, g0, g1, g2, g3, IsIn_Is _ _ _ _ _ hI⟩, RowIn_Row ts _ hR⟩
section
variable {base : Nat} {w : World}
structure SR (H n : Nat) (us : List Tm) (j : Nat) (w1 wr : World) : Prop where
  below : Below H w1 wr
  row : ∃ cs zs, wr.ownsRow H 24 4 (.slice (some ⟨H, 0, none⟩) n n) n (cs ++ zs) ∧ cs.length = j * 4 ∧ KC (fun b => H < b ∧ b < wr.heap.size) wr (us.take j) cs
theorem SR.cells {H n j : Nat} {us : List Tm} {w1 wr w3 : World} (h : SR H n us j w1 wr) (hj : j < n) (hB : Below wr.heap.size wr w3) :
    (∃ z0 z1 z2 z3, w3.cell? ⟨H, j * 4, none⟩ = some z0 ∧ w3.cell? ⟨H, j * 4 + 1, none⟩ = some z1 ∧ w3.cell? ⟨H, j * 4 + 2, none⟩ = some z2 ∧ w3.cell? ⟨H, j * 4 + 3, none⟩ = some z3) ∧ ∀ i, w3.frozen? ⟨H, i, none⟩ = false := by
  obtain ⟨cs, zs, ho, hc, _⟩ := h.row
  have ho3 := own_heap (w' := w3) ho (fun q hq => hB.block q (ho.lt q hq).2)
  have hl := ho3.1
  have hz : ∀ i, i < 4 → ∃ z, w3.cell? ⟨H, j * 4 + i, none⟩ = some z := fun i hi => by
    rw [ho3.cellAt _ (by omega)]
    exact ⟨_, List.getElem?_eq_getElem (by omega)⟩
  obtain ⟨z0, h0⟩ := hz 0 (by omega)
  obtain ⟨z1, h1⟩ := hz 1 (by omega)
  obtain ⟨z2, h2⟩ := hz 2 (by omega)
  obtain ⟨z3, h3⟩ := hz 3 (by omega)
  exact ⟨⟨z0, z1, z2, z3, h0, h1, h2, h3⟩, fun i => ho3.frozenAt i⟩
theorem SR.next {H n j : Nat} {us : List Tm} {w1 wr w3 : World} {m : Nat} (h : SR H n us j w1 wr) (hn : us.length = n) (hj : j < us.length) {c0 c1 c2 c3 : Value} (hm : H < m)
    (hI : IsIn (fun b => m ≤ b ∧ b < w3.heap.size) w3 us[j] c0 c1 c2 c3) (hB : Below wr.heap.size wr w3) : SR H n us (j + 1) w1 (put4 w3 H (j * 4) c0 c1 c2 c3) := by
  obtain ⟨cs, zs, ho, hc, hK⟩ := h.row
  have hlt := ho.lt H rfl
  have ho3 := own_heap (w' := w3) ho (fun q hq => hB.block q (ho.lt q hq).2)
  have hs := hB.size
  have hp : ∀ q, q ≠ H → (put4 w3 H (j * 4) c0 c1 c2 c3).heap[q]? = w3.heap[q]? := fun q hq => put4_other _ _ _ _ _ _ _ _ hq
  have hb3 : Below H w1 w3 := h.below.trans (hB.mono (by omega))
  refine ⟨?_, cs ++ [c0, c1, c2, c3], zs.drop 4, ?_, ?_, ?_⟩
  · unfold put4
    exact (((hb3.setCell (Nat.le_refl _) _).setCell (Nat.le_refl _) _).setCell (Nat.le_refl _) _).setCell (Nat.le_refl _) _
  · have h1 := ((((((ho3.stored (j * 4) c0).1).stored (j * 4 + 1) c1).1).stored (j * 4 + 2) c2).1.stored (j * 4 + 3) c3).1
    obtain ⟨z0, z1, z2, z3, r, rfl⟩ : ∃ z0 z1 z2 z3 r, zs = z0 :: z1 :: z2 :: z3 :: r := by
      have hl := ho3.1
      rw [List.length_append] at hl
      exact four_of zs (by omega)
    have e : ((((cs ++ z0 :: z1 :: z2 :: z3 :: r).set (j * 4) c0).set (j * 4 + 1) c1).set (j * 4 + 2) c2).set (j * 4 + 3) c3 = (cs ++ [c0, c1, c2, c3]) ++ List.drop 4 (z0 :: z1 :: z2 :: z3 :: r) := by
      rw [← hc]
      simp only [List.set_append_right _ _ (Nat.le_refl _), List.set_append_right _ _ (Nat.le_add_right _ _), Nat.sub_self, Nat.add_sub_cancel_left, List.set_cons_zero, List.set_cons_succ, List.drop_succ_cons, List.drop_zero, List.append_assoc, List.cons_append, List.nil_append]
    rw [e] at h1
    exact h1
  · simp only [List.length_append, hc, List.length_cons, List.length_nil]; omega
  · rw [List.take_succ_eq_append_getElem hj]
    have hsz : (put4 w3 H (j * 4) c0 c1 c2 c3).heap.size = w3.heap.size := put4_size _ _ _ _ _ _ _
    refine KC_snoc (IsIn_carry (fun b hb => hp b (by omega)) (fun b hb => ⟨by omega, by rw [hsz]; exact hb.2⟩) _ _ _ _ _ hI) _ _ (KC_carry (fun b hb => (hp b (by omega)).trans (hB.block b hb.2)) (fun b hb => ⟨hb.1, by rw [hsz]; omega⟩) _ _ hK)
theorem SR.done {H n : Nat} {us : List Tm} {w1 wr : World} (h : SR H n us n w1 wr) (hn : us.length = n) : Row wr us (some ⟨H, 0, none⟩) := by
  obtain ⟨cs, zs, ho, hc, hK⟩ := h.row
  have e : us.take n = us := by rw [← hn]; exact List.take_length
  rw [e] at hK
  have hR : RowIn (fun _ => True) wr us (some ⟨H, 0, none⟩) := RowIn_of_KC (g := H) trivial us cs 0 (KC_carry (fun _ _ => rfl) (fun _ _ => trivial) us cs hK) fun i u hu => by
    have hi : i < cs.length := by
      rcases Nat.lt_or_ge i cs.length with h | h
      · exact h
      · rw [List.getElem?_eq_none h] at hu; cases hu
    rw [Nat.zero_add, ho.cellAt i (by omega), List.getElem?_append_left hi]; exact hu
  exact RowIn_Row us _ hR
end
end Go.Proofs.YtbcpnepjojppaaaGreatDoor
namespace Go.Proofs.YtbcpnepjojppaaaGreatDoor
open Go.RowKit Go.Lib
def SubRel (w : World) (l : List Tm) (al : Value) (wr : World) : Prop :=
  ∃ vs, wr.ownsRow w.heap.size 189 2 al (sizes l) vs ∧ NL w.heap.size wr (subL l) vs ∧ Below w.heap.size w wr
theorem SubRel.next {w wr w3 : World} {ls : List Tm} {j : Nat} (hj : j < ls.length) {vs us : List Value} {l2 : Value} (hN : NL w.heap.size wr (subL (ls.take j)) vs) (hB : Below w.heap.size w wr)
    (h : w3.ownsRow w.heap.size 189 2 l2 (sizes (ls.take j) + size ls[j]) (vs ++ us)) (hN2 : NL w.heap.size w3 (subT ls[j]) us) (hB2 : Below w.heap.size wr w3) : SubRel w (ls.take (j + 1)) l2 w3 := by
  refine ⟨vs ++ us, ?_, ?_, hB.trans hB2⟩
  · have := sizes_take ls j hj; rw [this]; exact h
  · rw [subL_take ls j hj]; exact NL_append _ _ _ _ (NL_carry (fun b hb => hB2.block b hb) _ _ hN) hN2
end Go.Proofs.YtbcpnepjojppaaaGreatDoor
namespace Go.Proofs.YtbcpnepjojppaaaGreatDoor
open Go.RowKit
theorem OwnT_push {H base n g cap lcap : Nat} {w w' : World} {os : List Tm} {xl : Option Addr} {cs : List Value} {t : Tm} {c0 c1 c2 c3 : Value} {o : Obj} (hown0 : w.ownsRow H 24 4 (.slice xl n lcap) n cs) (hK : KC (fun b => b < base) w os cs) (hn : n = os.length) (hI : IsIn (fun b => b < base) w t c0 c1 c2 c3)
    (hb : base ≤ H) (hHw : H ≤ w.heap.size) (hown : w'.ownsRow H 24 4 (.slice (some ⟨g, 0, none⟩) (n + 1) cap) (n + 1) (cs ++ [c0, c1, c2, c3])) (hg : (w.alloc o).grownBy w' (Value.slice xl n lcap).ownBlock) :
    OwnT H (fun b => b < base) w' (os ++ [t]) (.slice (some ⟨g, 0, none⟩) (n + 1) cap) ∧ Below H w w' := by
  subst hn
  have hB : Below H w w' := ((Below.refl H w).alloc hHw _).grown hg (by rw [World.size_alloc]; omega) (fun q hq => (hown0.lt q hq).1)
  have hBl : Below base w w' := hB.mono hb
  refine ⟨⟨cs ++ [c0, c1, c2, c3], by simpa using hown, ?_⟩, hB⟩
  exact KC_append _ _ _ _ (KC_carry (fun b hb' => hBl.block b hb') (fun _ h => h) _ _ hK) (KC_one_term (IsIn_carry (fun b hb' => hBl.block b hb') (fun _ h => h) _ _ _ _ _ hI))
end Go.Proofs.YtbcpnepjojppaaaGreatDoor
namespace Go.Proofs.YtbcpnepjojppaaaGreatDoor
open Go.RowKit
end Go.Proofs.YtbcpnepjojppaaaGreatDoor
namespace Go.Proofs.YtbcpnepjojppaaaGreatDoor
open Go.RowKit
end Go.Proofs.YtbcpnepjojppaaaGreatDoor
