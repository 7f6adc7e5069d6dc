/-
  TERMS WITH THEIR SIZE: the walks of (sized).compare and of the two closures.
-/
import Derived.Test.YtkfbbkkfagglhaaGreatDoorBval
import Derived.Test.YtkfbbkkfagglhaaGreatDoorCn
import Derived.Test.YtkfbbkkfagglhaaGreatDoorSortB
import Derived.Deep.RegionHeld3
import Derived.Deep.LoopGhost
import Derived.Laws.Shifts
import Derived.BigQuiet
import Derived.Test.YtkfbbkkfagglhaaGreatDoorElems
import Derived.Test.YtkfbbkkfagglhaaGreatDoorSep
import Derived.Shelf.SlGeneric
import Derived.Shelf.SlLaysF0
import Derived.Shelf.SlSortCmp.WholeK
import Derived.Test.YtkfbbkkfagglhaaGreatDoorProg
import Derived.Test.YtkfbbkkfagglhaaGreatDoorSort
namespace Go.Proofs.YtkfbbkkfagglhaaGreatDoor
open Go.RowKit

theorem box2_facts {w : World} {g : Nat} {v0 v1 : Value} {T : TypeId} {fr : Nat × Nat} (h : w.heap[g]? = some (.cells #[v0, v1] T fr)) : w.cell? ⟨g, 0, none⟩ = some v0 ∧ w.cell? ⟨g, 1, none⟩ = some v1 := by
  constructor <;> (unfold World.cell?; rw [h]; rfl)
set_option maxHeartbeats 1600000 in
set_option maxRecDepth 100000 in
theorem sized_gr (t u : Tm) (b o b' o' : Nat) (w : World) (ht : size t ≤ 1073741824) (hu : size u ≤ 1073741824) (hL : Lies w t b o) (hL' : Lies w u b' o') :
    Calls Tryz.prog 102 #[.agg #[.pointer (some ⟨b, o, none⟩), .int .i64 (size t)], .agg #[.pointer (some ⟨b', o', none⟩), .int .i64 (size u)]] w fun e w' => e = .returned (.int .i64 (cmpT t u)) ∧ Gr w w' := by
  obtain ⟨x0, x1, x2, x3, p0, p1, p2, p3, hI⟩ := hL
  obtain ⟨z0, z1, z2, z3, q0, q1, q2, q3, hJ⟩ := hL'
  obtain ⟨k1, n1, s1, ya1, yl1, yc1, rfl, rfl, rfl, rfl⟩ := Is_form hI
  obtain ⟨k2, n2, s2, ya2, yl2, yc2, rfl, rfl, rfl, rfl⟩ := Is_form hJ
  have hG : Gr w ((w.alloc (.cells #[.pointer (some ⟨b, o, none⟩), .int .i64 (size t)] 124)).alloc (.cells #[.pointer (some ⟨b', o', none⟩), .int .i64 (size u)] 124)) := ((Gr.refl w).alloc _).alloc _
  have hE := hG.below
  have hb2 := heap_alloc_new (w.alloc (.cells #[.pointer (some ⟨b, o, none⟩), .int .i64 (size t)] 124)) (.cells #[.pointer (some ⟨b', o', none⟩), .int .i64 (size u)] 124)
  have hb1 := (Below.heap_alloc (w.alloc (.cells #[.pointer (some ⟨b, o, none⟩), .int .i64 (size t)] 124)) (.cells #[.pointer (some ⟨b', o', none⟩), .int .i64 (size u)] 124) w.heap.size (by simp)).trans (heap_alloc_new w (.cells #[.pointer (some ⟨b, o, none⟩), .int .i64 (size t)] 124))
  rw [World.size_alloc] at hb2
  have HCr : Hid (∀ W, Gr ((w.alloc (.cells #[.pointer (some ⟨b, o, none⟩), .int .i64 (size t)] 124)).alloc (.cells #[.pointer (some ⟨b', o', none⟩), .int .i64 (size u)] 124)) W → (W.cell? ⟨b, o, none⟩ = some (.int .i64 k1) ∧ W.cell? ⟨b, o + 1, none⟩ = some (.string n1) ∧ W.cell? ⟨b, o + 2, none⟩ = some (.int .i64 s1) ∧ W.cell? ⟨b, o + 3, none⟩ = some (.slice ya1 yl1 yc1)) ∧ (W.cell? ⟨b', o', none⟩ = some (.int .i64 k2) ∧ W.cell? ⟨b', o' + 1, none⟩ = some (.string n2) ∧ W.cell? ⟨b', o' + 2, none⟩ = some (.int .i64 s2) ∧ W.cell? ⟨b', o' + 3, none⟩ = some (.slice ya2 yl2 yc2)) ∧ (W.cell? ⟨w.heap.size, 0, none⟩ = some (.pointer (some ⟨b, o, none⟩)) ∧ W.cell? ⟨w.heap.size, 1, none⟩ = some (.int .i64 (size t))) ∧ (W.cell? ⟨w.heap.size + 1, 0, none⟩ = some (.pointer (some ⟨b', o', none⟩)) ∧ W.cell? ⟨w.heap.size + 1, 1, none⟩ = some (.int .i64 (size u)))) := by
    show ∀ _, _
    intro W hg
    have h := hg.below
    have h0 : Below w.heap.size w W := Ext.trans hE h
    have hs : ((w.alloc (.cells #[.pointer (some ⟨b, o, none⟩), .int .i64 (size t)] 124)).alloc (.cells #[.pointer (some ⟨b', o', none⟩), .int .i64 (size u)] 124)).heap.size = w.heap.size + 1 + 1 := by simp
    exact ⟨⟨keep_below h0 _ _ p0, keep_below h0 _ _ p1, keep_below h0 _ _ p2, keep_below h0 _ _ p3⟩, ⟨keep_below h0 _ _ q0, keep_below h0 _ _ q1, keep_below h0 _ _ q2, keep_below h0 _ _ q3⟩, box2_facts ((h.block _ (by omega)).trans hb1), box2_facts ((h.block _ (by omega)).trans hb2)⟩
  have HC := Lib.hid (fun W (h : Gr w W) => Compare_gr t u _ _ _ _ _ _ _ _ W (by omega) (by omega) (Is_below (w' := W) hI h.below) (Is_below (w' := W) hJ h.below))
  have HE := Lib.hid hG
  by_cases hc : size t = size u
  · have q : ((size t : Int) != (size u : Int)) = false := by simp [hc]
    have hF0 : Gr ((w.alloc (.cells #[.pointer (some ⟨b, o, none⟩), .int .i64 (size t)] 124)).alloc (.cells #[.pointer (some ⟨b', o', none⟩), .int .i64 (size u)] 124)) ((w.alloc (.cells #[.pointer (some ⟨b, o, none⟩), .int .i64 (size t)] 124)).alloc (.cells #[.pointer (some ⟨b', o', none⟩), .int .i64 (size u)] 124)).drew := (Gr.refl _).drew
    generalize cmpT t u = c at HC ⊢
    clear hc hI hJ p0 p1 p2 p3 q0 q1 q2 q3 hE hG hb1 hb2 ht hu
    go_enter Tryz.func102, Tryz.ntmps102
    go_wp2_with fail
    go_region_held3 (fun W => (W.cell? ⟨b, o, none⟩ = some (.int .i64 k1) ∧ W.cell? ⟨b, o + 1, none⟩ = some (.string n1) ∧ W.cell? ⟨b, o + 2, none⟩ = some (.int .i64 s1) ∧ W.cell? ⟨b, o + 3, none⟩ = some (.slice ya1 yl1 yc1)) ∧ (W.cell? ⟨b', o', none⟩ = some (.int .i64 k2) ∧ W.cell? ⟨b', o' + 1, none⟩ = some (.string n2) ∧ W.cell? ⟨b', o' + 2, none⟩ = some (.int .i64 s2) ∧ W.cell? ⟨b', o' + 3, none⟩ = some (.slice ya2 yl2 yc2)) ∧ (W.cell? ⟨w.heap.size, 0, none⟩ = some (.pointer (some ⟨b, o, none⟩)) ∧ W.cell? ⟨w.heap.size, 1, none⟩ = some (.int .i64 (size t))) ∧ (W.cell? ⟨w.heap.size + 1, 0, none⟩ = some (.pointer (some ⟨b', o', none⟩)) ∧ W.cell? ⟨w.heap.size + 1, 1, none⟩ = some (.int .i64 (size u))))
      (first | exact HCr.out _ (by assumption) | go_keep)
      (first
        | (go_at_call 83; refine (HC.out _ (Gr.trans HE.out hF0)).mono ?_; rintro e w4 ⟨he, hB⟩; subst he; have hF1 : Gr ((w.alloc (.cells #[.pointer (some ⟨b, o, none⟩), .int .i64 (size t)] 124)).alloc (.cells #[.pointer (some ⟨b', o', none⟩), .int .i64 (size u)] 124)) w4 := Gr.trans hF0 hB; clear hB))
    all_goals (try go_wp2_with fail)
    all_goals go_ret
    exact ⟨rfl, Gr.trans HE.out hF1⟩
  · have q : ((size t : Int) != (size u : Int)) = true := by rw [bne_iff_ne]; omega
    have HX : Hid (cmpT t u = num (size t : Int) (size u : Int)) := cmpT_sizes t u hc
    clear hc hI hJ p0 p1 p2 p3 q0 q1 q2 q3 hE hG hb1 hb2 ht hu
    go_enter Tryz.func102, Tryz.ntmps102
    go_wp2_with (go_at_call 147; refine (Compare_int_any _ _ _).mono ?_; rintro e w3 ⟨rfl, rfl⟩)
    go_ret
    exact ⟨by rw [HX.out]; rfl, HE.out⟩

theorem sized_any (t u : Tm) (b o b' o' : Nat) (w : World) (ht : size t ≤ 1073741824) (hu : size u ≤ 1073741824) (hL : Lies w t b o) (hL' : Lies w u b' o') :
    Calls Tryz.prog 102 #[.agg #[.pointer (some ⟨b, o, none⟩), .int .i64 (size t)], .agg #[.pointer (some ⟨b', o', none⟩), .int .i64 (size u)]] w fun e w' => e = .returned (.int .i64 (cmpT t u)) ∧ Below w.heap.size w w' :=
  (sized_gr t u b o b' o' w ht hu hL hL').mono fun _ _ h => ⟨h.1, h.2.below⟩

theorem markcl_any (t u : Tm) (b o b' o' : Nat) (i : Int) (f : Bool) (w : World) (ht : size t ≤ 1073741824) (hu : size u ≤ 1073741824) (hL : Lies w t b o) (hL' : Lies w u b' o') :
    Calls Tryz.prog 146 #[.agg #[.pointer (some ⟨b, o, none⟩), .int .i64 (size t), .int .i64 i, .bool f], .agg #[.pointer (some ⟨b', o', none⟩), .int .i64 (size u)]] w fun e w' => e = .returned (.int .i64 (cmpT t u)) ∧ Below w.heap.size w w' := by
  have HC := Lib.hid (fun W (h : Ext w W) => sized_any t u b o b' o' W ht hu (Lies_below hL h) (Lies_below hL' h))
  clear hL hL' ht hu
  have HE : Hid (Ext w ((w.alloc (.cells #[.pointer (some ⟨b, o, none⟩), .int .i64 (size t), .int .i64 i, .bool f] 126)).alloc (.cells #[.pointer (some ⟨b', o', none⟩), .int .i64 (size u)] 124))) := ((Below.refl w.heap.size w).alloc (Nat.le_refl _) _).alloc (by simp) _
  go_enter Tryz.func146, Tryz.ntmps146
  go_wp2_with (go_at_call 102; refine (HC.out _ HE.out).mono ?_; rintro e w3 ⟨he, hB⟩; subst he; have HB : Hid (Ext w w3) := Lib.hid (Ext.trans HE.out hB); clear hB)
  go_ret
  exact ⟨rfl, HB.out⟩
theorem varcl_any (t u : Tm) (b o b' o' : Nat) (i j : Int) (f g : Bool) (w : World) (ht : size t ≤ 1073741824) (hu : size u ≤ 1073741824) (hL : Lies w t b o) (hL' : Lies w u b' o') :
    Calls Tryz.prog 144 #[.agg #[.pointer (some ⟨b, o, none⟩), .int .i64 (size t), .int .i64 i, .bool f], .agg #[.pointer (some ⟨b', o', none⟩), .int .i64 (size u), .int .i64 j, .bool g]] w fun e w' => e = .returned (.int .i64 (cmpT t u)) ∧ Below w.heap.size w w' := by
  have HC := Lib.hid (fun W (h : Ext w W) => sized_any t u b o b' o' W ht hu (Lies_below hL h) (Lies_below hL' h))
  clear hL hL' ht hu
  have HE : Hid (Ext w ((w.alloc (.cells #[.pointer (some ⟨b, o, none⟩), .int .i64 (size t), .int .i64 i, .bool f] 126)).alloc (.cells #[.pointer (some ⟨b', o', none⟩), .int .i64 (size u), .int .i64 j, .bool g] 126))) := ((Below.refl w.heap.size w).alloc (Nat.le_refl _) _).alloc (by simp) _
  go_enter Tryz.func144, Tryz.ntmps144
  go_wp2_with (go_at_call 102; refine (HC.out _ HE.out).mono ?_; rintro e w3 ⟨he, hB⟩; subst he; have HB : Hid (Ext w w3) := Lib.hid (Ext.trans HE.out hB); clear hB)
  go_ret
  exact ⟨rfl, HB.out⟩
theorem varcl_gr (t u : Tm) (b o b' o' : Nat) (i j : Int) (f g : Bool) (w : World) (ht : size t ≤ 1073741824) (hu : size u ≤ 1073741824) (hL : Lies w t b o) (hL' : Lies w u b' o') :
    Calls Tryz.prog 144 #[.agg #[.pointer (some ⟨b, o, none⟩), .int .i64 (size t), .int .i64 i, .bool f], .agg #[.pointer (some ⟨b', o', none⟩), .int .i64 (size u), .int .i64 j, .bool g]] w fun e w' => e = .returned (.int .i64 (cmpT t u)) ∧ Gr w w' := by
  have HC := Lib.hid (fun W (h : Gr w W) => sized_gr t u b o b' o' W ht hu (Lies_below hL h.below) (Lies_below hL' h.below))
  clear hL hL' ht hu
  have HE : Hid (Gr w ((w.alloc (.cells #[.pointer (some ⟨b, o, none⟩), .int .i64 (size t), .int .i64 i, .bool f] 126)).alloc (.cells #[.pointer (some ⟨b', o', none⟩), .int .i64 (size u), .int .i64 j, .bool g] 126))) := ((Gr.refl w).alloc _).alloc _
  go_enter Tryz.func144, Tryz.ntmps144
  go_wp2_with (go_at_call 102; refine (HC.out _ HE.out).mono ?_; rintro e w3 ⟨he, hB⟩; subst he; have HB : Hid (Gr w w3) := Lib.hid (Gr.trans HE.out hB); clear hB)
  go_ret
  exact ⟨rfl, HB.out⟩
end Go.Proofs.YtkfbbkkfagglhaaGreatDoor

/-
  THE WALK OF slices.BinarySearchFunc at terms with their size.
-/
namespace Go.Proofs.YtkfbbkkfagglhaaGreatDoor
open Go.RowKit

/-- An element of the list that is searched: the term, where it lies, the binding's number, the mark. -/
structure Sv where
  t : Tm
  b : Nat
  o : Nat
  i : Nat
  f : Bool
def SvGet (w : World) (v : Sv) (g k : Nat) : Prop := w.cell? ⟨g, k * 4, none⟩ = some (.pointer (some ⟨v.b, v.o, none⟩)) ∧ w.cell? ⟨g, k * 4 + 1, none⟩ = some (.int .i64 (size v.t)) ∧ w.cell? ⟨g, k * 4 + 2, none⟩ = some (.int .i64 v.i) ∧ w.cell? ⟨g, k * 4 + 3, none⟩ = some (.bool v.f) ∧ Lies w v.t v.b v.o
def SvRow (w : World) (vs : List Sv) (xa : Option Addr) : Prop := vs = [] ∨ ∃ g, xa = some ⟨g, 0, none⟩ ∧ ∀ k (h : k < vs.length), SvGet w vs[k] g k
theorem SvGet_ext {w w' : World} {v : Sv} {g k : Nat} (h : SvGet w v g k) (x : Ext w w') : SvGet w' v g k :=
  ⟨keep_below x _ _ h.1, keep_below x _ _ h.2.1, keep_below x _ _ h.2.2.1, keep_below x _ _ h.2.2.2.1, Lies_below h.2.2.2.2 x⟩
theorem SvRow_at {w : World} {vs : List Sv} {xa : Option Addr} (h : SvRow w vs xa) (k : Nat) (hk : k < vs.length) : ∃ g, xa = some ⟨g, 0, none⟩ ∧ SvGet w vs[k] g k := by
  rcases h with rfl | ⟨g, rfl, h⟩
  · simp at hk
  · exact ⟨g, rfl, h k hk⟩
/-- The terms are in order; equal ones may stand behind each other. -/
def SortedV (vs : List Sv) : Prop := ∀ i j (hi : i < vs.length) (hj : j < vs.length), i < j → cmpT vs[i].t vs[j].t ≤ 0
theorem cmpT_le_lt {a b c : Tm} (h1 : cmpT a b ≤ 0) (h2 : cmpT b c < 0) : cmpT a c < 0 := by
  by_cases e : cmpT a b = 0
  · rw [cmpT_zero _ _ e]; exact h2
  · exact cmpT_trans (by omega) h2
theorem cmpT_ge_le {a b c : Tm} (h1 : cmpT a b ≤ 0) (h2 : ¬ cmpT a c < 0) : 0 ≤ cmpT b c := by
  by_cases h : cmpT b c < 0
  · exact absurd (cmpT_le_lt h1 h) h2
  · omega
def SrV (vs : List Sv) (x : Tm) (lo hi : Nat) : Prop := lo ≤ hi ∧ hi ≤ vs.length ∧ (∀ t (h : t < vs.length), t < lo → cmpT vs[t].t x < 0) ∧ (∀ t (h : t < vs.length), hi ≤ t → 0 ≤ cmpT vs[t].t x)
theorem SrV_up {vs : List Sv} {x : Tm} {lo hi m : Nat} (hs : SortedV vs) (h : SrV vs x lo hi) (hm : m < hi) (hc : cmpT (vs[m]'(by have := h.2.1; omega)).t x < 0) : SrV vs x (m + 1) hi := by
  refine ⟨by omega, h.2.1, fun t ht htm => ?_, h.2.2.2⟩
  by_cases e : t = m
  · subst e; exact hc
  · exact cmpT_le_lt (hs t m ht (by have := h.2.1; omega) (by omega)) hc
theorem SrV_down {vs : List Sv} {x : Tm} {lo hi m : Nat} (hs : SortedV vs) (h : SrV vs x lo hi) (hl : lo ≤ m) (hm : m < hi) (hc : ¬ cmpT (vs[m]'(by have := h.2.1; omega)).t x < 0) : SrV vs x lo m := by
  refine ⟨hl, by have := h.2.1; omega, h.2.2.1, fun t ht htm => ?_⟩
  by_cases e : t = m
  · subst e; omega
  · exact cmpT_ge_le (hs m t (by have := h.2.1; omega) ht (by omega)) hc
/-- The first element with that term, if there is one. -/
def FindV (vs : List Sv) (x : Tm) (e : Ending) : Prop :=
  ∃ (i : Nat) (f : Bool), e = .returned (.tuple #[.int .i64 i, .bool f]) ∧ ((f = true ∧ ∃ h : i < vs.length, cmpT vs[i].t x = 0 ∧ ∀ j (hj : j < i), cmpT (vs[j]'(by omega)).t x < 0) ∨ (f = false ∧ ∀ v ∈ vs, ¬ cmpT v.t x = 0))
theorem SrV_end {vs : List Sv} {x : Tm} {lo : Nat} (hs : SortedV vs) (h : SrV vs x lo lo) : (∀ hl : lo < vs.length, ¬ cmpT vs[lo].t x = 0 → ∀ v ∈ vs, ¬ cmpT v.t x = 0) ∧ (vs.length ≤ lo → ∀ v ∈ vs, ¬ cmpT v.t x = 0) := by
  refine ⟨fun hl hne v hv => ?_, fun hl v hv => ?_⟩
  · obtain ⟨t, ht, rfl⟩ := List.getElem_of_mem hv
    by_cases h1 : t < lo
    · have := h.2.2.1 t ht h1; omega
    · by_cases e : t = lo
      · subst e; exact hne
      · intro h0
        have h2 := hs lo t hl ht (by omega)
        have e1 := cmpT_zero _ _ h0
        rw [e1] at h2
        have := h.2.2.2 lo hl (Nat.le_refl _)
        omega
  · obtain ⟨t, ht, rfl⟩ := List.getElem_of_mem hv
    have := h.2.2.1 t ht (by omega)
    omega
set_option maxHeartbeats 6400000 in
set_option maxRecDepth 100000 in
theorem svsearch_any (vs : List Sv) (x : Tm) (xb xo : Nat) (xa : Option Addr) (cap : Nat) (w : World) (hcap : vs.length ≤ cap) (hlen : vs.length ≤ 1073741824) (hsz : ∀ v ∈ vs, size v.t ≤ 1073741824) (hsx : size x ≤ 1073741824) (hs : SortedV vs) (hR : SvRow w vs xa) (hX : Lies w x xb xo) :
    Calls Tryz.prog 145 #[.slice xa vs.length cap, .agg #[.pointer (some ⟨xb, xo, none⟩), .int .i64 (size x)], .func (.func 146) #[] #[]] w fun e w' => FindV vs x e ∧ Below w.heap.size w w' := by
  obtain ⟨sx, hsxe⟩ : ∃ s : Int, (size x : Int) = s := ⟨_, rfl⟩
  have HSXE := Lib.hid hsxe
  have HR := Lib.hid hR
  have HIX := Lib.hid hX
  have HSZ := Lib.hid hsz
  have HSX := Lib.hid hsx
  have HS := Lib.hid hs
  have hbx := heap_alloc_new w (.cells #[.pointer (some ⟨xb, xo, none⟩), .int .i64 sx] 124)
  have HBX : Hid (∀ W, Ext (w.alloc (.cells #[.pointer (some ⟨xb, xo, none⟩), .int .i64 sx] 124)) W → W.heap[w.heap.size]? = some (.cells #[.pointer (some ⟨xb, xo, none⟩), .int .i64 sx] 124 (0, 0))) := fun W h => (h.block _ (by simp)).trans hbx
  have HE0 : Hid (Ext w (w.alloc (.cells #[.pointer (some ⟨xb, xo, none⟩), .int .i64 sx] 124))) := (Ext.refl w).alloc _
  have HCAP := Lib.hid hcap
  rw [hsxe]
  clear hR hX hsz hsx hs hbx hcap hsxe
  go_enter Tryz.func145, Tryz.ntmps145
  go_wp2_with fail
  have hEr := Ext.refl (w.alloc (.cells #[.pointer (some ⟨xb, xo, none⟩), .int .i64 sx] 124))
  generalize (w.alloc (.cells #[.pointer (some ⟨xb, xo, none⟩), .int .i64 sx] 124)) = w0 at HBX HE0 hEr ⊢
  go_loopg [9, 10] vs.length (fun g s9 s10 wr => ∃ lo hi : Nat, s9 = .int .i64 lo ∧ s10 = .int .i64 hi ∧ hi - lo ≤ g ∧ SrV vs x lo hi ∧ Ext w0 wr)
  case atStart => exact ⟨0, vs.length, rfl, rfl, by omega, ⟨Nat.zero_le _, Nat.le_refl _, fun t _ h => absurd h (Nat.not_lt_zero _), fun t h1 h2 => by omega⟩, hEr⟩
  case round =>
    obtain ⟨lo, hi, rfl, rfl, hg, hsr, hE⟩ := hrel
    have hlh := hsr.1
    have hin := hsr.2.1
    have HSR := Lib.hid hsr
    clear hsr
    by_cases hlt : lo < hi
    · obtain ⟨m, hm⟩ : ∃ m, m = (lo + hi) / 2 := ⟨_, rfl⟩
      have hm1 : lo ≤ m := by omega
      have hm2 : m < hi := by omega
      have HE1 : Hid (((lo : Int) + (hi : Int)) / 2 = (m : Int)) := by show _ = _; omega
      clear hm
      have i1 : (0 : Int) ≤ (m : Int) := by omega
      have i2 : (m : Int) < (vs.length : Int) := by omega
      have hmb : m < vs.length := by omega
      obtain ⟨g, rfl, hrow⟩ := SvRow_at HR.out m hmb
      obtain ⟨g0, g1, g2, g3, hL⟩ := SvGet_ext hrow (Ext.trans HE0.out hE)
      have hszm := HSZ.out vs[m] (List.getElem_mem hmb)
      have HCM := Lib.hid (fun W (h : Ext wr W) => markcl_any vs[m].t x vs[m].b vs[m].o xb xo (vs[m].i : Int) vs[m].f W hszm HSX.out (Lies_below hL h) (Lies_below HIX.out (Ext.trans (Ext.trans HE0.out hE) h)))
      obtain ⟨c, hc⟩ : ∃ c, cmpT vs[m].t x = c := ⟨_, rfl⟩
      rw [hc] at HCM
      have HCE := Lib.hid hc
      rw [HSXE.out] at HCM
      obtain ⟨y0, y1⟩ := box2_facts (HBX.out _ hE)
      generalize (size vs[m].t : Int) = sv at g1 HCM
      generalize vs[m].b = vb at g0 HCM
      generalize vs[m].o = vo at g0 HCM
      generalize (vs[m].i : Int) = vi at g2 HCM
      generalize vs[m].f = vf at g3 HCM
      have HCr : Hid (∀ W, Ext wr W → (W.cell? ⟨g, m * 4, none⟩ = some (.pointer (some ⟨vb, vo, none⟩)) ∧ W.cell? ⟨g, m * 4 + 1, none⟩ = some (.int .i64 sv) ∧ W.cell? ⟨g, m * 4 + 2, none⟩ = some (.int .i64 vi) ∧ W.cell? ⟨g, m * 4 + 3, none⟩ = some (.bool vf)) ∧ (W.cell? ⟨w.heap.size, 0, none⟩ = some (.pointer (some ⟨xb, xo, none⟩)) ∧ W.cell? ⟨w.heap.size, 1, none⟩ = some (.int .i64 sx))) := fun W h => ⟨⟨keep_below h _ _ g0, keep_below h _ _ g1, keep_below h _ _ g2, keep_below h _ _ g3⟩, keep_below h _ _ y0, keep_below h _ _ y1⟩
      have hF0 : Ext wr wr.drew := (Ext.refl wr).drew
      have HE := Lib.hid hE
      clear hL hszm hc hE hrow
      by_cases hneg : c < 0
      · have q4 : decide (c < 0) = true := decide_eq_true hneg
        have HUP := Lib.hid (SrV_up HS.out HSR.out hm2 (by rw [HCE.out]; exact hneg))
        clear hneg
        go_wp2_with fail
        rw [HE1.out]
        go_region_held3 (fun W => (W.cell? ⟨g, m * 4, none⟩ = some (.pointer (some ⟨vb, vo, none⟩)) ∧ W.cell? ⟨g, m * 4 + 1, none⟩ = some (.int .i64 sv) ∧ W.cell? ⟨g, m * 4 + 2, none⟩ = some (.int .i64 vi) ∧ W.cell? ⟨g, m * 4 + 3, none⟩ = some (.bool vf)) ∧ (W.cell? ⟨w.heap.size, 0, none⟩ = some (.pointer (some ⟨xb, xo, none⟩)) ∧ W.cell? ⟨w.heap.size, 1, none⟩ = some (.int .i64 sx)))
          (first | exact HCr.out _ (by assumption) | go_keep)
          (first | (go_at_call 146; refine (HCM.out _ hF0).mono ?_; rintro e w4 ⟨he, hB⟩; subst he; have hF1 : Ext wr w4 := hF0.trans hB; clear hB))
        go_wp2_with fail
        go_roundg (hi - (m + 1))
        case measure => omega
        case rel => exact ⟨m + 1, hi, by go_num, rfl, Nat.le_refl _, HUP.out, Ext.trans HE.out hF1⟩
      · have q4 : decide (c < 0) = false := decide_eq_false hneg
        have HDN := Lib.hid (SrV_down HS.out HSR.out hm1 hm2 (by rw [HCE.out]; exact hneg))
        clear hneg
        go_wp2_with fail
        rw [HE1.out]
        go_region_held3 (fun W => (W.cell? ⟨g, m * 4, none⟩ = some (.pointer (some ⟨vb, vo, none⟩)) ∧ W.cell? ⟨g, m * 4 + 1, none⟩ = some (.int .i64 sv) ∧ W.cell? ⟨g, m * 4 + 2, none⟩ = some (.int .i64 vi) ∧ W.cell? ⟨g, m * 4 + 3, none⟩ = some (.bool vf)) ∧ (W.cell? ⟨w.heap.size, 0, none⟩ = some (.pointer (some ⟨xb, xo, none⟩)) ∧ W.cell? ⟨w.heap.size, 1, none⟩ = some (.int .i64 sx)))
          (first | exact HCr.out _ (by assumption) | go_keep)
          (first | (go_at_call 146; refine (HCM.out _ hF0).mono ?_; rintro e w4 ⟨he, hB⟩; subst he; have hF1 : Ext wr w4 := hF0.trans hB; clear hB))
        go_wp2_with fail
        go_roundg (m - lo)
        case measure => omega
        case rel => exact ⟨lo, m, rfl, rfl, Nat.le_refl _, HDN.out, Ext.trans HE.out hF1⟩
    · obtain rfl : hi = lo := by omega
      have HEND := Lib.hid (SrV_end HS.out HSR.out)
      by_cases hmb0 : hi < vs.length
      rotate_left
      · have q3 : decide ((hi : Int) < (vs.length : Int)) = false := decide_eq_false (by omega)
        have HF : Hid (FindV vs x (.returned (.tuple #[.int .i64 (hi : Int), .bool false]))) := ⟨hi, false, rfl, Or.inr ⟨rfl, HEND.out.2 (by omega)⟩⟩
        have HE := Lib.hid hE
        clear hE
        go_wp2_with fail
        go_quiet (fail)
        go_wp2_with fail
        go_ret2
        exact ⟨HF.out, Ext.trans (Ext.trans HE0.out HE.out) (below_drewN (Below.refl _ _) _)⟩
      have q3 : decide ((hi : Int) < (vs.length : Int)) = true := decide_eq_true (by omega)
      have i1 : (0 : Int) ≤ (hi : Int) := by omega
      have i2 : (hi : Int) < (vs.length : Int) := by omega
      have hmb : hi < vs.length := by omega
      obtain ⟨g, rfl, hrow⟩ := SvRow_at HR.out hi hmb
      obtain ⟨g0, g1, g2, g3, hL⟩ := SvGet_ext hrow (Ext.trans HE0.out hE)
      have hszm := HSZ.out vs[hi] (List.getElem_mem hmb)
      have HCM := Lib.hid (fun W (h : Ext wr W) => markcl_any vs[hi].t x vs[hi].b vs[hi].o xb xo (vs[hi].i : Int) vs[hi].f W hszm HSX.out (Lies_below hL h) (Lies_below HIX.out (Ext.trans (Ext.trans HE0.out hE) h)))
      obtain ⟨c, hc⟩ : ∃ c, cmpT vs[hi].t x = c := ⟨_, rfl⟩
      rw [hc] at HCM
      have HCE := Lib.hid hc
      rw [HSXE.out] at HCM
      obtain ⟨y0, y1⟩ := box2_facts (HBX.out _ hE)
      generalize (size vs[hi].t : Int) = sv at g1 HCM
      generalize vs[hi].b = vb at g0 HCM
      generalize vs[hi].o = vo at g0 HCM
      generalize (vs[hi].i : Int) = vi at g2 HCM
      generalize vs[hi].f = vf at g3 HCM
      have HCr : Hid (∀ W, Ext wr W → (W.cell? ⟨g, hi * 4, none⟩ = some (.pointer (some ⟨vb, vo, none⟩)) ∧ W.cell? ⟨g, hi * 4 + 1, none⟩ = some (.int .i64 sv) ∧ W.cell? ⟨g, hi * 4 + 2, none⟩ = some (.int .i64 vi) ∧ W.cell? ⟨g, hi * 4 + 3, none⟩ = some (.bool vf)) ∧ (W.cell? ⟨w.heap.size, 0, none⟩ = some (.pointer (some ⟨xb, xo, none⟩)) ∧ W.cell? ⟨w.heap.size, 1, none⟩ = some (.int .i64 sx))) := fun W h => ⟨⟨keep_below h _ _ g0, keep_below h _ _ g1, keep_below h _ _ g2, keep_below h _ _ g3⟩, keep_below h _ _ y0, keep_below h _ _ y1⟩
      have hF0 : Ext wr wr.drew := (Ext.refl wr).drew
      have HE := Lib.hid hE
      clear hL hszm hc hE hrow
      by_cases hz : c = 0
      · have q4 : decide (c = 0) = true := decide_eq_true hz
        have q5 : (c == 0) = true := by simp [hz]
        have HF : Hid (FindV vs x (.returned (.tuple #[.int .i64 (hi : Int), .bool true]))) := ⟨hi, true, rfl, Or.inl ⟨rfl, hmb, by rw [HCE.out]; exact hz, fun j hj => HSR.out.2.2.1 j (by omega) hj⟩⟩
        clear hz
        go_wp2_with fail
        go_region_held3 (fun W => (W.cell? ⟨g, hi * 4, none⟩ = some (.pointer (some ⟨vb, vo, none⟩)) ∧ W.cell? ⟨g, hi * 4 + 1, none⟩ = some (.int .i64 sv) ∧ W.cell? ⟨g, hi * 4 + 2, none⟩ = some (.int .i64 vi) ∧ W.cell? ⟨g, hi * 4 + 3, none⟩ = some (.bool vf)) ∧ (W.cell? ⟨w.heap.size, 0, none⟩ = some (.pointer (some ⟨xb, xo, none⟩)) ∧ W.cell? ⟨w.heap.size, 1, none⟩ = some (.int .i64 sx)))
          (first | exact HCr.out _ (by assumption) | go_keep)
          (first | (go_at_call 146; refine (HCM.out _ hF0).mono ?_; rintro e w4 ⟨he, hB⟩; subst he; have hF1 : Ext wr w4 := hF0.trans hB; clear hB))
        all_goals (try go_wp2_with fail)
        all_goals go_ret2
        all_goals exact ⟨HF.out, Ext.trans (Ext.trans HE0.out HE.out) hF1⟩
      · have q4 : decide (c = 0) = false := decide_eq_false hz
        have q5 : (c == 0) = false := by simp [hz]
        have HF : Hid (FindV vs x (.returned (.tuple #[.int .i64 (hi : Int), .bool false]))) := ⟨hi, false, rfl, Or.inr ⟨rfl, HEND.out.1 hmb (by rw [HCE.out]; exact hz)⟩⟩
        clear hz
        go_wp2_with fail
        go_region_held3 (fun W => (W.cell? ⟨g, hi * 4, none⟩ = some (.pointer (some ⟨vb, vo, none⟩)) ∧ W.cell? ⟨g, hi * 4 + 1, none⟩ = some (.int .i64 sv) ∧ W.cell? ⟨g, hi * 4 + 2, none⟩ = some (.int .i64 vi) ∧ W.cell? ⟨g, hi * 4 + 3, none⟩ = some (.bool vf)) ∧ (W.cell? ⟨w.heap.size, 0, none⟩ = some (.pointer (some ⟨xb, xo, none⟩)) ∧ W.cell? ⟨w.heap.size, 1, none⟩ = some (.int .i64 sx)))
          (first | exact HCr.out _ (by assumption) | go_keep)
          (first | (go_at_call 146; refine (HCM.out _ hF0).mono ?_; rintro e w4 ⟨he, hB⟩; subst he; have hF1 : Ext wr w4 := hF0.trans hB; clear hB))
        all_goals (try go_wp2_with fail)
        all_goals go_ret2
        all_goals exact ⟨HF.out, Ext.trans (Ext.trans HE0.out HE.out) hF1⟩
end Go.Proofs.YtkfbbkkfagglhaaGreatDoor

/-
  THE MARKS OF terms: the first element with a term is marked.
-/
namespace Go.Proofs.YtkfbbkkfagglhaaGreatDoor
open Go.RowKit

/-- The first element with that term is marked. -/
def mark1 : List Sv → Tm → List Sv
  | [], _ => []
  | v :: vs, x => if cmpT v.t x = 0 then { v with f := true } :: vs else v :: mark1 vs x
theorem mark1_miss : ∀ (vs : List Sv) (x : Tm), (∀ v ∈ vs, ¬ cmpT v.t x = 0) → mark1 vs x = vs
  | [], _, _ => rfl
  | v :: vs, x, h => by
    rw [mark1, if_neg (h v (List.mem_cons_self ..)), mark1_miss vs x (fun u hu => h u (List.mem_cons_of_mem _ hu))]
theorem mark1_hit : ∀ (vs : List Sv) (x : Tm) (i : Nat) (h : i < vs.length), cmpT vs[i].t x = 0 → (∀ j (hj : j < i), cmpT (vs[j]'(by omega)).t x < 0) → mark1 vs x = vs.set i { vs[i] with f := true }
  | v :: vs, x, 0, _, h0, _ => by
    simp only [List.getElem_cons_zero] at h0 ⊢
    rw [mark1, if_pos h0, List.set_cons_zero]
  | v :: vs, x, i + 1, h, h0, hb => by
    have hv := hb 0 (by omega)
    simp only [List.getElem_cons_zero] at hv
    simp only [List.getElem_cons_succ] at h0 ⊢
    rw [mark1, if_neg (by omega), List.set_cons_succ, mark1_hit vs x i (by simpa using h) h0 (fun j hj => by have := hb (j + 1) (by omega); simpa using this)]
/-- Elements that differ in their marks alone. -/
def Alike (vs us : List Sv) : Prop := us.length = vs.length ∧ ∀ k (h : k < vs.length) (h' : k < us.length), us[k].t = vs[k].t ∧ us[k].b = vs[k].b ∧ us[k].o = vs[k].o ∧ us[k].i = vs[k].i
theorem Alike.refl (vs : List Sv) : Alike vs vs := ⟨rfl, fun _ _ _ => ⟨rfl, rfl, rfl, rfl⟩⟩
theorem Alike.trans {vs us ws : List Sv} (h : Alike vs us) (k : Alike us ws) : Alike vs ws :=
  ⟨k.1.trans h.1, fun i hi hi' => by
    have hu : i < us.length := by rw [h.1]; exact hi
    obtain ⟨a1, a2, a3, a4⟩ := h.2 i hi hu
    obtain ⟨b1, b2, b3, b4⟩ := k.2 i hu hi'
    exact ⟨b1.trans a1, b2.trans a2, b3.trans a3, b4.trans a4⟩⟩
theorem mark1_alike : ∀ (vs : List Sv) (x : Tm), Alike vs (mark1 vs x)
  | [], _ => Alike.refl _
  | v :: vs, x => by
    rw [mark1]
    split
    · refine ⟨rfl, fun k h h' => ?_⟩
      cases k <;> exact ⟨rfl, rfl, rfl, rfl⟩
    · obtain ⟨i1, i2⟩ := mark1_alike vs x
      refine ⟨by simp [i1], fun k h h' => ?_⟩
      cases k with
      | zero => exact ⟨rfl, rfl, rfl, rfl⟩
      | succ k => exact i2 k (by simpa using h) (by simpa using h')
/-- The terms whose elements are marked, in the order of the walk. -/
def markP (vs : List Sv) (l : List Tm) : List Sv := l.foldl mark1 vs
theorem markP_app (vs : List Sv) (l m : List Tm) : markP vs (l ++ m) = markP (markP vs l) m := List.foldl_append ..
theorem markP_alike (vs : List Sv) : ∀ l : List Tm, Alike vs (markP vs l) := by
  intro l
  induction l generalizing vs with
  | nil => exact Alike.refl _
  | cons x l ih => exact (mark1_alike vs x).trans (ih (mark1 vs x))
mutual
def postT : Tm → List Tm
  | .mk k n s ks => postL ks ++ [.mk k n s ks]
def postL : List Tm → List Tm
  | [] => []
  | t :: ts => postT t ++ postL ts
end
theorem postL_take (ks : List Tm) (j : Nat) (h : j < ks.length) : postL (ks.take (j + 1)) = postL (ks.take j) ++ postT ks[j] := by
  induction ks generalizing j with
  | nil => simp at h
  | cons t ts ih =>
    cases j with
    | zero => simp [postL]
    | succ j =>
      simp only [List.take_succ_cons, postL, List.getElem_cons_succ]
      rw [ih j (by simpa using h), List.append_assoc]
theorem SortedV_alike {vs us : List Sv} (h : Alike vs us) (hs : SortedV vs) : SortedV us := fun i j hi hj hij => by
  have hi' : i < vs.length := by rw [← h.1]; exact hi
  have hj' : j < vs.length := by rw [← h.1]; exact hj
  rw [(h.2 i hi' hi).1, (h.2 j hj' hj).1]
  exact hs i j hi' hj' hij
end Go.Proofs.YtkfbbkkfagglhaaGreatDoor

/-
  THE WALK OF subst.mark.
-/
namespace Go.Proofs.YtkfbbkkfagglhaaGreatDoor
open Go.RowKit

/-- The list lies in block g, its terms in older blocks. -/
def SvIn (base : Nat) (w : World) (vs : List Sv) (g : Nat) : Prop := (∀ p, w.frozen? ⟨g, p, none⟩ = false) ∧ ∀ k (h : k < vs.length), w.cell? ⟨g, k * 4, none⟩ = some (.pointer (some ⟨vs[k].b, vs[k].o, none⟩)) ∧ w.cell? ⟨g, k * 4 + 1, none⟩ = some (.int .i64 (size vs[k].t)) ∧ w.cell? ⟨g, k * 4 + 2, none⟩ = some (.int .i64 vs[k].i) ∧ w.cell? ⟨g, k * 4 + 3, none⟩ = some (.bool vs[k].f) ∧ LiesIn (fun q => q < base) w vs[k].t vs[k].b vs[k].o
theorem LiesIn_lies {S : Nat → Prop} {w : World} {t : Tm} {b o : Nat} (h : LiesIn S w t b o) : Lies w t b o := by
  obtain ⟨_, c0, c1, c2, c3, g0, g1, g2, g3, hI⟩ := h
  exact ⟨c0, c1, c2, c3, g0, g1, g2, g3, IsIn_Is _ _ _ _ _ hI⟩
theorem SvIn_row {base : Nat} {w : World} {vs : List Sv} {g : Nat} (h : SvIn base w vs g) : SvRow w vs (some ⟨g, 0, none⟩) :=
  Or.inr ⟨g, rfl, fun k hk => by obtain ⟨a, b, c, d, e⟩ := h.2 k hk; exact ⟨a, b, c, d, LiesIn_lies e⟩⟩
theorem SvIn_ext {base : Nat} {w w' : World} {vs : List Sv} {g : Nat} (h : SvIn base w vs g) (x : Ext w w') (hb : base ≤ w.heap.size) (hg : g < w.heap.size) : SvIn base w' vs g := ⟨fun p => (Below.frozen (p := ⟨g, p, none⟩) x hg).trans (h.1 p), fun k hk => by
  obtain ⟨a, b, c, d, e⟩ := h.2 k hk
  exact ⟨keep_below x _ _ a, keep_below x _ _ b, keep_below x _ _ c, keep_below x _ _ d, LiesIn_carry (fun q hq => x.block q (Nat.lt_of_lt_of_le hq hb)) (fun _ h => h) e⟩⟩
theorem SvIn_set {base : Nat} {w : World} {vs : List Sv} {g i : Nat} (h : SvIn base w vs g) (hi : i < vs.length) (hg : base ≤ g) (hw : base ≤ w.heap.size) : SvIn base (w.setCell ⟨g, i * 4 + 3, none⟩ (.bool true)) (vs.set i { vs[i] with f := true }) g := ⟨fun p => by rw [World.frozen?_setCell]; exact h.1 p, fun k hk => by
  have hk' : k < vs.length := by simpa using hk
  obtain ⟨a, b, c, d, e⟩ := h.2 k hk'
  have hne : ∀ p, p ≠ i * 4 + 3 → ∀ v, w.cell? ⟨g, p, none⟩ = some v → (w.setCell ⟨g, i * 4 + 3, none⟩ (.bool true)).cell? ⟨g, p, none⟩ = some v := fun p hp v hv => by
    rw [setOther (fun e => hp (by simp only [Addr.mk.injEq] at e; omega))]; exact hv
  have hT : ∀ {t : Tm} {b o : Nat}, LiesIn (fun q => q < base) w t b o → LiesIn (fun q => q < base) (w.setCell ⟨g, i * 4 + 3, none⟩ (.bool true)) t b o := fun h =>
    LiesIn_carry (fun q hq => ((But.refl g w).setCell (i * 4 + 3) (.bool true)).block q (Nat.lt_of_lt_of_le hq hw) (by have : q < base := hq; simp only [ne_eq, Option.some.injEq]; omega)) (fun _ h => h) h
  by_cases hki : k = i
  · subst hki
    rw [List.getElem_set_self]
    exact ⟨hne _ (by omega) _ a, hne _ (by omega) _ b, hne _ (by omega) _ c, setSame d, hT e⟩
  · rw [List.getElem_set_ne (Ne.symm hki)]
    exact ⟨hne _ (by omega) _ a, hne _ (by omega) _ b, hne _ (by omega) _ c, hne _ (by omega) _ d, hT e⟩⟩
set_option maxHeartbeats 3200000 in
set_option maxRecDepth 100000 in
theorem mark_any (m : Nat) : ∀ (t : Tm) (b o : Nat) (vs : List Sv) (n g cap base : Nat) (w : World), size t ≤ m → m ≤ 1073741824 → vs.length = n → n ≤ cap → n ≤ 1073741824 → base ≤ g → g < w.heap.size → (∀ v ∈ vs, size v.t ≤ 1073741824) → SortedV vs → SvIn base w vs g → LiesIn (fun q => q < base) w t b o →
    Calls Tryz.prog 101 #[.slice (some ⟨g, 0, none⟩) n cap, .pointer (some ⟨b, o, none⟩)] w fun e w' => e = .returned (.int .i64 (size t)) ∧ But g w w' ∧ SvIn base w' (markP vs (postT t)) g := by
  induction m with
  | zero => intro t b o vs n g cap base w h; have := size_pos t; omega
  | succ m ih =>
    intro t b o vs n g cap base w hm hM hn hcap hln hbg hgw hsz hs hR hL
    have HL0 := Lib.hid hL
    have HX : Hid (size t ≤ 1073741824) := (by omega : size t ≤ 1073741824)
    obtain ⟨hb, c0, c1, c2, c3, p0, p1, p2, p3, hI⟩ := hL
    obtain ⟨k, nm, s, ks⟩ := t
    simp only [IsIn] at hI
    obtain ⟨rfl, rfl, rfl, _, _, _, hkl, ya, kcap, rfl, hkc, hKR⟩ := hI
    have hsk : size (.mk k nm s ks) = 1 + sizes ks := rfl
    rw [hsk] at hm
    have HPT : Hid (postT (.mk k nm s ks) = postL ks ++ [.mk k nm s ks]) := by show _ = _; rw [postT]
    have HKR := Lib.hid hKR
    have HSZ := Lib.hid hsz
    have HS := Lib.hid hs
    have HN := Lib.hid hn
    have hb' : b < base := hb
    have hlsz := length_le_sizes ks
    have hal := fun l => markP_alike vs l
    have HAL := Lib.hid hal
    have HSK := Lib.hid hsk
    have HSZ2 : Hid (∀ l, ∀ v ∈ markP vs l, size v.t ≤ 1073741824) := by
      show ∀ _, _
      intro l v hv
      obtain ⟨i, hi, rfl⟩ := List.getElem_of_mem hv
      have hi' : i < vs.length := by rw [← (markP_alike vs l).1]; exact hi
      rw [((markP_alike vs l).2 i hi' hi).1]
      exact hsz _ (List.getElem_mem hi')
    have HIH := Lib.hid (fun (j : Nat) (hj : j < ks.length) kb ko W (hx : But g w W) (hv : SvIn base W (markP vs (postL (ks.take j))) g) (hl : LiesIn (fun q => q < base) W ks[j] kb ko) => ih ks[j] kb ko (markP vs (postL (ks.take j))) n g cap base W (by have h1 := sizes_take ks j hj; have h2 := sizes_take_le ks (j + 1); omega) (by omega) ((hal _).1.trans hn) hcap hln hbg (Nat.lt_of_lt_of_le hgw hx.size) (HSZ2.out _) (SortedV_alike (hal _) hs) hv hl)
    have HBL : Hid (∀ W, But g w W → ∀ q, q < base → W.heap[q]? = w.heap[q]?) := fun W x q hq => x.block q (by omega) (by simp only [ne_eq, Option.some.injEq]; omega)
    have HP3 : Hid (∀ W, But g w W → W.cell? ⟨b, o + 3, none⟩ = some (.slice ya ks.length kcap)) := fun W x => by rw [World.cell?_of_block (w := w) (a := ⟨b, o + 3, none⟩) (x.block b (by omega) (by simp only [ne_eq, Option.some.injEq]; omega))]; exact p3
    have HR0 := Lib.hid hR
    have N1 : sizes ks ≤ 1073741823 := by omega
    clear ih hKR hsz hs hR hal hn p0 p1 p2
    go_enter Tryz.func101, Tryz.ntmps101
    go_wp2_with fail
    go_loopw [5, 14] (fun z i wr => ∃ j : Nat, j ≤ ks.length ∧ i = .int .i64 j ∧ z = .int .i64 ((1 + sizes (ks.take j) : Nat) : Int) ∧ But g w wr ∧ SvIn base wr (markP vs (postL (ks.take j))) g) (fun _ i _ => ks.length - (intOf i).toNat)
    case atStart => exact ⟨0, Nat.zero_le _, rfl, rfl, But.refl _ _, HR0.out⟩
    case round =>
      obtain ⟨j, hj, rfl, rfl, hB, hV⟩ := hrel
      have q3 := HP3.out _ hB
      have HB := Lib.hid hB
      have HV := Lib.hid hV
      by_cases hlt : j < ks.length
      · obtain ⟨kb, ko, rfl⟩ := RowIn_at HKR.out (by omega)
        have hl := LiesIn_carry (HBL.out _ hB) (fun _ h => h) (RowIn_get HKR.out j hlt)
        have HC := Lib.hid (HIH.out j hlt _ _ _ hB hV hl)
        have hst := sizes_take ks j hlt
        have hsl := sizes_take_le ks (j + 1)
        have HPT2 : Hid (postL (ks.take (j + 1)) = postL (ks.take j) ++ postT ks[j]) := postL_take ks j hlt
        have N2 : sizes (ks.take j) + size ks[j] ≤ 1073741823 := by omega
        have HST : Hid (sizes (ks.take (j + 1)) = sizes (ks.take j) + size ks[j]) := hst
        clear hB hV hl hst hsl
        go_wp2_with (go_at_call 101; refine (HC.out).mono ?_; rintro e w4 ⟨he, hB4, hV4⟩; subst he; have HB4 := Lib.hid (HB.out.trans hB4); have HV4 := Lib.hid hV4; clear hB4 hV4)
        go_roundw
        case rel => exact ⟨j + 1, by omega, by go_num, by rw [HST.out]; go_num, HB4.out, by rw [HPT2.out, markP_app]; exact HV4.out⟩
        case measure => simp [intOf]; omega
      · have hjl : j = ks.length := by omega
        rw [hjl, List.take_length] at hV ⊢
        have hSS : SortedV (markP vs (postL ks)) := SortedV_alike (HAL.out _) HS.out
        have hws := hB.size
        have hlx := LiesIn_lies (LiesIn_carry (HBL.out _ hB) (fun _ h => h) HL0.out)
        have hC := svsearch_any (markP vs (postL ks)) (.mk k nm s ks) b o (some ⟨g, 0, none⟩) cap wr (by rw [(HAL.out _).1, HN.out]; exact hcap) (by rw [(HAL.out _).1, HN.out]; exact hln) (HSZ2.out _) HX.out hSS (SvIn_row hV) hlx
        rw [(HAL.out _).1, HN.out] at hC
        have HMP : Hid (markP vs (postT (.mk k nm s ks)) = mark1 (markP vs (postL ks)) (.mk k nm s ks)) := by show _ = _; rw [HPT.out, markP_app]; rfl
        have HVL : Hid ((markP vs (postL ks)).length = n) := (HAL.out _).1.trans HN.out
        have hV2 := hV
        rw [HSK.out] at hC
        obtain ⟨us, hus0⟩ : ∃ us, markP vs (postT (.mk k nm s ks)) = us := ⟨_, rfl⟩
        have HQ := Lib.hid hus0
        rw [hus0] at HMP
        clear hus0
        generalize markP vs (postL ks) = v2 at HMP HVL hC hV2
        clear hSS hlx hV hB HV HIH
        by_cases hex : ∃ v ∈ v2, cmpT v.t (.mk k nm s ks) = 0
        · have HC : Hid (Calls Tryz.prog 145 #[.slice (some ⟨g, 0, none⟩) n cap, .agg #[.pointer (some ⟨b, o, none⟩), .int .i64 ((1 + sizes ks : Nat) : Int)], .func (.func 146) #[] #[]] wr fun e w' => ∃ (i : Nat) (h : i < v2.length), e = .returned (.tuple #[.int .i64 i, .bool true]) ∧ us = v2.set i { v2[i] with f := true } ∧ Below wr.heap.size wr w') := hC.mono fun e w' ⟨⟨i, f, he, hf⟩, hB⟩ => by
            rcases hf with ⟨rfl, h, h0, hb⟩ | ⟨rfl, hno⟩
            · exact ⟨i, h, he, by rw [HMP.out]; exact mark1_hit v2 _ i h h0 hb, hB⟩
            · obtain ⟨v, hv, h0⟩ := hex; exact absurd h0 (hno v hv)
          have HV2 := Lib.hid hV2
          clear hC hex hV2
          go_wp2_with (go_at_call 145; refine (HC.out).mono ?_; rintro e w4 ⟨i, hi, he, hus, hB4⟩; subst he; have HUS := Lib.hid hus; have HB4 := Lib.hid hB4; have hV4 := SvIn_ext HV2.out hB4 (by omega) (by omega); have HV4 := Lib.hid hV4; have i1 : (0 : Int) ≤ (i : Int) := (by omega); have i2 : (i : Int) < (n : Int) := (by have := HVL.out; omega); obtain ⟨_, _, _, q4, _⟩ := hV4.2 i hi; have qf := hV4.1 (i * 4 + 3); clear hus hB4 hV4)
          go_ret
          refine ⟨by rw [HSK.out]; rfl, ((HB.out.trans (But.ofBelow HB4.out)).setCell _ _), ?_⟩
          rw [HQ.out, HUS.out]
          exact SvIn_set HV4.out hi hbg (by have := HB4.out.size; omega)
        · have HC : Hid (Calls Tryz.prog 145 #[.slice (some ⟨g, 0, none⟩) n cap, .agg #[.pointer (some ⟨b, o, none⟩), .int .i64 ((1 + sizes ks : Nat) : Int)], .func (.func 146) #[] #[]] wr fun e w' => ∃ (i : Nat), e = .returned (.tuple #[.int .i64 i, .bool false]) ∧ us = v2 ∧ Below wr.heap.size wr w') := hC.mono fun e w' ⟨⟨i, f, he, hf⟩, hB⟩ => by
            rcases hf with ⟨rfl, h, h0, hb⟩ | ⟨rfl, hno⟩
            · exact absurd ⟨v2[i], List.getElem_mem h, h0⟩ hex
            · exact ⟨i, he, by rw [HMP.out]; exact mark1_miss v2 _ hno, hB⟩
          have HV2 := Lib.hid hV2
          clear hC hex hV2
          go_wp2_with (go_at_call 145; refine (HC.out).mono ?_; rintro e w4 ⟨i, he, hus, hB4⟩; subst he; have HUS := Lib.hid hus; have HB4 := Lib.hid hB4; clear hus hB4)
          go_ret
          refine ⟨by rw [HSK.out]; rfl, HB.out.trans (But.ofBelow HB4.out), ?_⟩
          rw [HQ.out, HUS.out]
          exact SvIn_ext HV2.out HB4.out (by omega) (by omega)
end Go.Proofs.YtkfbbkkfagglhaaGreatDoor

/-
  THE LAYING OF slices.SortFunc AT []sought, as the shelf's command prints it. Its numbers are marks.
-/
namespace Go.Proofs
open Go.Shelf
def Tryz.sortSought_ren : Go.Shelf.Ren := ⟨fun | 6 => 143 | 15 => 138 | 14 => 186 | 28 => 182 | 29 => 183 | 20 => 214 | 21 => 215 | 22 => 216 | 23 => 217 | 24 => 218 | 25 => 219 | 26 => 220 | 27 => 221 | 46 => 233 | 47 => 209 | 48 => 210 | 49 => 234 | 50 => 235 | 57 => 258 | n => n, fun | 22 => 119 | 24 => 126 | 25 => 170 | 3 => 3 | 39 => 154 | 0 => 0 | 53 => 209 | 55 => 211 | 4 => 4 | 46 => 203 | 45 => 202 | 50 => 93 | 5 => 5 | 9 => 9 | 66 => 238 | 70 => 224 | 76 => 258 | 77 => 259 | n => n, fun | n => n⟩
theorem Tryz.sortSought : Go.Proofs.SlLaysF0.n6 Tryz.prog Tryz.sortSought_ren := {
  mixed := by kernel_rfl
  f6 := ⟨Tryz.f143.name, by decide, Tryz.func143.trans (congrArg some (by kernel_rfl))⟩
  f14 := ⟨Tryz.f186.name, by decide, Tryz.func186.trans (congrArg some (by kernel_rfl))⟩
  f15 := Tryz.func138.trans (congrArg some (by kernel_rfl))
  f20 := ⟨Tryz.f214.name, by decide, Tryz.func214.trans (congrArg some (by kernel_rfl))⟩
  f21 := ⟨Tryz.f215.name, by decide, Tryz.func215.trans (congrArg some (by kernel_rfl))⟩
  f22 := ⟨Tryz.f216.name, by decide, Tryz.func216.trans (congrArg some (by kernel_rfl))⟩
  f23 := ⟨Tryz.f217.name, by decide, Tryz.func217.trans (congrArg some (by kernel_rfl))⟩
  f24 := ⟨Tryz.f218.name, by decide, Tryz.func218.trans (congrArg some (by kernel_rfl))⟩
  f25 := ⟨Tryz.f219.name, by decide, Tryz.func219.trans (congrArg some (by kernel_rfl))⟩
  f26 := ⟨Tryz.f220.name, by decide, Tryz.func220.trans (congrArg some (by kernel_rfl))⟩
  f27 := ⟨Tryz.f221.name, by decide, Tryz.func221.trans (congrArg some (by kernel_rfl))⟩
  f28 := Tryz.func182.trans (congrArg some (by kernel_rfl))
  f29 := Tryz.func183.trans (congrArg some (by kernel_rfl))
  f46 := ⟨Tryz.f233.name, by decide, Tryz.func233.trans (congrArg some (by kernel_rfl))⟩
  f47 := Tryz.func209.trans (congrArg some (by kernel_rfl))
  f48 := Tryz.func210.trans (congrArg some (by kernel_rfl))
  f49 := ⟨Tryz.f234.name, by decide, Tryz.func234.trans (congrArg some (by kernel_rfl))⟩
  f50 := ⟨Tryz.f235.name, by decide, Tryz.func235.trans (congrArg some (by kernel_rfl))⟩
  f57 := ⟨Tryz.f258.name, by decide, Tryz.func258.trans (congrArg some (by kernel_rfl))⟩
  t0 := Tryz.underlying0
  a0 := Tryz.isAgg0
  z0 := Tryz.sizeOf0
  v0 := Tryz.zeroValue0
  t3 := Tryz.underlying3
  a3 := Tryz.isAgg3
  z3 := Tryz.sizeOf3
  v3 := Tryz.zeroValue3
  t4 := Tryz.underlying4
  a4 := Tryz.isAgg4
  z4 := Tryz.sizeOf4
  v4 := Tryz.zeroValue4
  t5 := Tryz.underlying5
  a5 := Tryz.isAgg5
  z5 := Tryz.sizeOf5
  v5 := Tryz.zeroValue5
  t9 := Tryz.underlying9
  a9 := Tryz.isAgg9
  z9 := Tryz.sizeOf9
  v9 := Tryz.zeroValue9
  t22 := Tryz.underlying119
  a22 := Tryz.isAgg119
  z22 := Tryz.sizeOf119
  v22 := Tryz.zeroValue119
  t25 := Tryz.underlying170
  a25 := Tryz.isAgg170
  z25 := Tryz.sizeOf170
  v25 := Tryz.zeroValue170
  t39 := Tryz.underlying154
  a39 := Tryz.isAgg154
  z39 := Tryz.sizeOf154
  v39 := Tryz.zeroValue154
  t45 := Tryz.underlying202
  a45 := Tryz.isAgg202
  z45 := Tryz.sizeOf202
  v45 := Tryz.zeroValue202
  t46 := Tryz.underlying203
  a46 := Tryz.isAgg203
  z46 := Tryz.sizeOf203
  v46 := Tryz.zeroValue203
  t50 := Tryz.underlying93
  a50 := Tryz.isAgg93
  z50 := Tryz.sizeOf93
  v50 := Tryz.zeroValue93
  t53 := Tryz.underlying209
  a53 := Tryz.isAgg209
  z53 := Tryz.sizeOf209
  v53 := Tryz.zeroValue209
  t55 := Tryz.underlying211
  a55 := Tryz.isAgg211
  z55 := Tryz.sizeOf211
  v55 := Tryz.zeroValue211
  t66 := Tryz.underlying238
  a66 := Tryz.isAgg238
  z66 := Tryz.sizeOf238
  v66 := Tryz.zeroValue238
  t70 := Tryz.underlying224
  a70 := Tryz.isAgg224
  z70 := Tryz.sizeOf224
  v70 := Tryz.zeroValue224
  t76 := Tryz.underlying258
  a76 := Tryz.isAgg258
  z76 := Tryz.sizeOf258
  v76 := Tryz.zeroValue258
  t77 := Tryz.underlying259
  a77 := Tryz.isAgg259
  z77 := Tryz.sizeOf259
  v77 := Tryz.zeroValue259 }
end Go.Proofs

/-
  slices.SortFunc AT A ROW OF TERMS WITH THEIR SIZE, by its contract of the shelf.
-/
namespace Go.Proofs.YtkfbbkkfagglhaaGreatDoor
open Go.RowKit Go.Shelf Go.Lib Go.Sort

/-- An element, and that its term lies in old blocks. -/
structure SA (base : Nat) (w : World) where
  v : Sv
  lies : LiesIn (fun b => b < base) w v.t v.b v.o
  sz : size v.t ≤ 1073741824
def encV (v : Sv) : List Value := [.pointer (some ⟨v.b, v.o, none⟩), .int .i64 (size v.t), .int .i64 v.i, .bool v.f]
def encS {base : Nat} {w : World} (x : SA base w) : List Value := encV x.v
theorem encS_len {base : Nat} {w : World} (x : SA base w) : (encS x).length = 4 := rfl
theorem SA_of {base : Nat} {w : World} : ∀ ss : List Sv, (∀ v ∈ ss, LiesIn (fun b => b < base) w v.t v.b v.o ∧ size v.t ≤ 1073741824) → ∃ l : List (SA base w), l.map SA.v = ss
  | [], _ => ⟨[], rfl⟩
  | v :: ss, h => by
    obtain ⟨l, e⟩ := SA_of ss (fun u hu => h u (List.mem_cons_of_mem _ hu))
    have hv := h v (List.mem_cons_self ..)
    exact ⟨⟨v, hv.1, hv.2⟩ :: l, by simp [e]⟩
theorem SA_flat {base : Nat} {w : World} (l : List (SA base w)) : l.flatMap encS = (l.map SA.v).flatMap encV := by
  induction l with
  | nil => rfl
  | cons x l ih => simp only [List.flatMap_cons, List.map_cons, ih]; rfl

def SortVPost (base : Nat) (w : World) (g n cap : Nat) (ss : List Sv) (e : Ending) (w' : World) : Prop :=
  e = .returned (.tuple #[]) ∧ ∃ ss', w'.ownsRow base 126 4 (.slice (some ⟨g, 0, none⟩) n cap) n (ss'.flatMap encV) ∧ ss'.Perm ss ∧ SortedV ss' ∧ (∀ v ∈ ss', LiesIn (fun b => b < base) w' v.t v.b v.o) ∧ Go.RowKit.Below base w w'

set_option maxHeartbeats 1600000 in
set_option maxRecDepth 100000 in
theorem sort_sought {base g n cap : Nat} {ss : List Sv} {w : World} (hown : w.ownsRow base 126 4 (.slice (some ⟨g, 0, none⟩) n cap) n (ss.flatMap encV)) (hN : ∀ v ∈ ss, LiesIn (fun b => b < base) w v.t v.b v.o ∧ size v.t ≤ 1073741824) (hbw : base ≤ w.heap.size) (hn : 0 < n) (hlt : n < 4611686018427387904) :
    Calls Tryz.prog 143 #[.slice (some ⟨g, 0, none⟩) n cap, .func (.func 144) #[] #[]] w (SortVPost base w g n cap ss) := by
  obtain ⟨l, e1⟩ := SA_of ss hN
  have e2 : ss.flatMap encV = l.flatMap encS := by rw [SA_flat, e1]
  have hvl : (ss.flatMap encV).length = l.length * 4 := by rw [e2, flatG_len encS 4 encS_len]
  have hnl : n = l.length := by have := hown.1; omega
  have hg := hown.lt g rfl
  obtain ⟨x0, hx0⟩ : ∃ x0, l[0]? = some x0 := ⟨_, List.getElem?_eq_getElem (by omega)⟩
  haveI : Inhabited (SA base w) := ⟨x0⟩
  have eg : ∀ args w, (callFunc 144 args).run Tryz.prog w = .ok (.enter 144 args) w := enters_of Tryz.func144 (by kernel_rfl) rfl
  have hO : SWO (ltOf fun x y : SA base w => cmpT x.v.t y.v.t) := by
    refine ⟨fun x => ?_, fun x y z a b => ?_, fun x y z a b => ?_⟩
    · simp [ltOf, cmpT_self]
    · simp only [ltOf, decide_eq_true_eq] at a b ⊢; exact cmpT_trans a b
    · simp only [ltOf, decide_eq_false_iff_not] at a b ⊢; exact cmpT_ntrans a b
  have hcmp : CmpLays Tryz.prog 144 #[] (encS (base := base) (w := w)) 4 (fun x y => cmpT x.v.t y.v.t) g 0 l.toArray.size w := by
    intro m os dk _ x y
    have hk := putRow_below (w := w) (q := m) hg.1 (flatK encS 4 dk) os hbw
    have hx := LiesIn_lies (LiesIn_carry (fun b hb => hk.block b hb) (fun _ h => h) x.lies)
    have hy := LiesIn_lies (LiesIn_carry (fun b hb => hk.block b hb) (fun _ h => h) y.lies)
    exact (varcl_gr x.v.t y.v.t x.v.b x.v.o y.v.b y.v.o x.v.i y.v.i x.v.f y.v.f _ x.sz y.sz hx hy).mono fun e w' h => ⟨h.1, h.2.grow⟩
  have hH : HoldsK encS 4 w g 0 l.toArray := by
    intro j hj
    refine ⟨?_, hown.frozenAt _⟩
    simp only [size_flatK, List.size_toArray] at hj
    rw [Nat.zero_add, hown.cellAt j (by omega), e2, flatG encS 4 encS_len (by omega) l j hj, get_flatK encS 4 l.toArray j (by simpa using hj)]
    simp
  have hcon := AnyQ.slices_SortFunc Tryz.sortSought 4 Tryz.isAgg126 Tryz.sizeOf126 encS encS_len (fun x v hv => by simp [encS, encV] at hv; rcases hv with rfl | rfl | rfl | rfl <;> rfl) (fun x y => cmpT x.v.t y.v.t) hO 144 #[] g 0 cap l.toArray w eg hcmp hH hg.2 (by simp; omega)
  rw [List.size_toArray, ← hnl] at hcon
  refine hcon.mono ?_
  rintro e w' ⟨rfl, d', m, os, hp, hs, rfl⟩
  obtain ⟨hp1, _, hp3⟩ := hp
  simp only [List.size_toArray] at hp1
  have hperm : d'.toList.Perm l := by
    have ea : d'.extract 0 n = d' := by rw [hnl, ← hp1]; simp
    have eb : l.toArray.extract 0 n = l.toArray := by rw [hnl]; simp
    rw [ea, eb] at hp3
    simpa using hp3
  have hk := putRow_below (w := w) (q := m) hg.1 (flatK encS 4 d') os hbw
  refine ⟨rfl, d'.toList.map SA.v, ?_, ?_, ?_, ?_, hk⟩
  · have hy : (d'.toList.flatMap encS).length = n * 4 := by rw [flatG_len encS 4 encS_len]; simp [hp1, hnl]
    have := own_putRow (q := m) (os := os) hown hy
    rw [← SA_flat]
    rw [← flatG_list encS 4 encS_len (by omega) d'] at this ⊢
    rw [Array.toArray_toList] at this
    exact this
  · rw [← e1]; exact hperm.map _
  · intro i j hi hj hij
    rw [List.length_map] at hi hj
    have := hs i j (Nat.zero_le _) hij (by simpa [hp1, hnl] using hj)
    simp only [ltOf, decide_eq_false_iff_not] at this
    simp only [Array.length_toList] at hi hj
    rw [getElem!_pos d' i hi, getElem!_pos d' j hj] at this
    rw [List.getElem_map, List.getElem_map, cmpT_anti]
    simp only [Array.getElem_toList]
    omega
  · intro v hv
    obtain ⟨x, _, rfl⟩ := List.mem_map.1 hv
    exact LiesIn_carry (fun b hb => hk.block b hb) (fun _ h => h) x.lies
end Go.Proofs.YtkfbbkkfagglhaaGreatDoor
