/-
  THE WALK OF the laws' awake.
-/
import Derived.Test.YtcieadjjcpmieaaGreatSetof
import Derived.Test.YtcieadjjcpmieaaGreatExt
import Derived.Test.YtcieadjjcpmieaaGreatEndb
import Derived.Test.YtcieadjjcpmieaaGreatPos
import Derived.Test.YtcieadjjcpmieaaGreatMem
namespace Go.Proofs.YtcieadjjcpmieaaGreat
open Go.RowKit Go.Lib

def nPair : ByteArray := ⟨#[112, 97, 105, 114]⟩
def nA : ByteArray := ⟨#[97]⟩
def nB : ByteArray := ⟨#[98]⟩
def nX : ByteArray := ⟨#[120]⟩
def nF : ByteArray := ⟨#[102]⟩
def tPair : Tm := .mk 3 nPair 0 [.mk 1 nX 0 [], .mk 2 nA 2 []]
def tA : Tm := .mk 2 nA 0 []
def tB : Tm := .mk 2 nB 0 []
def tFaa : Tm := .mk 3 nF 0 [tA, tA]
def tF : Tm := .mk 3 nF 0 []

theorem parse1 : parseP ⟨#[112, 97, 105, 114, 40, 63, 120, 44, 32, 97, 58, 110, 111, 110, 99, 101, 41]⟩ = (tPair, 0) := by kernel_rfl
theorem parse2 : (parseP ⟨#[97]⟩).2 = 2 := by kernel_rfl
theorem parse3 : parseP ⟨#[102, 40, 41]⟩ = (tF, 0) := by kernel_rfl

theorem app_two (n : ByteArray) (t u : Tm) (kb : Nat) (W : World) (hn : n.size ≤ maxLen) (hR : Row W [t, u] (some ⟨kb, 0, none⟩)) :
    Calls Tryz.prog 37 #[.string n, .slice (some ⟨kb, 0, none⟩) 2 2] W (AppPost W n [t, u]) :=
  app_any n [t, u] kb 0 2 W hn (by simp) (by simp) hR

theorem sorted_same : ∀ (us vs : List Tm), us.Pairwise (fun a b => cmpT a b < 0) → vs.Pairwise (fun a b => cmpT a b < 0) → (∀ t, t ∈ us ↔ t ∈ vs) → us = vs
  | [], [], _, _, _ => rfl
  | [], v :: vs, _, _, h => by have := (h v).2 (List.mem_cons_self ..); simp at this
  | u :: us, [], _, _, h => by have := (h u).1 (List.mem_cons_self ..); simp at this
  | u :: us, v :: vs, h1, h2, h => by
    obtain ⟨a1, a2⟩ := List.pairwise_cons.1 h1
    obtain ⟨b1, b2⟩ := List.pairwise_cons.1 h2
    have e : u = v := by
      have m1 := (h u).1 (List.mem_cons_self ..)
      have m2 := (h v).2 (List.mem_cons_self ..)
      rw [List.mem_cons] at m1 m2
      rcases m1 with m1 | m1
      · exact m1
      · rcases m2 with m2 | m2
        · exact m2.symm
        · have q1 := a1 v m2
          have q2 := b1 u m1
          rw [cmpT_anti u v] at q2
          omega
    subst e
    congr 1
    refine sorted_same us vs a2 b2 fun t => ?_
    have ht := h t
    rw [List.mem_cons, List.mem_cons] at ht
    constructor
    · intro m
      rcases ht.1 (Or.inr m) with m' | m'
      · subst m'; have := a1 t m; rw [cmpT_self] at this; omega
      · exact m'
    · intro m
      rcases ht.2 (Or.inr m) with m' | m'
      · subst m'; have := b1 t m; rw [cmpT_self] at this; omega
      · exact m'
theorem cAB : cmpT tA tB = -1 := by kernel_rfl
def tPaa : Tm := .mk 3 nPair 0 [tA, tA]
theorem cBP : cmpT tB tPaa = -1 := by kernel_rfl
theorem cAF : cmpT tA tFaa = -1 := by kernel_rfl
theorem set_faa {us : List Tm} (h : IsSet us (subL [tFaa])) : us = [tA, tFaa] := by
  have e : subL [tFaa] = [tFaa, tA, tA] := by simp [subL, subT, tFaa, tA]
  rw [e] at h
  refine sorted_same us [tA, tFaa] h.1 ?_ fun t => ?_
  · simp only [List.pairwise_cons, List.mem_singleton, forall_eq, cAF]; simp
  · rw [h.2 t]; simp only [List.mem_cons, List.not_mem_nil, or_false]; constructor
    · rintro (h | h | h); exact Or.inr h; exact Or.inl h; exact Or.inl h
    · rintro (h | h); exact Or.inr (Or.inl h); exact Or.inl h
theorem lEq : listsEq [tA, tFaa] [tA, tFaa] = true := by
  simp only [listsEq, cmpL, cmpT_self, orr]; simp
theorem szP : ((size tPair : Nat) : Int) = 3 := by simp [tPair, size, sizes]
theorem dpP : ((depth tPair : Nat) : Int) = 2 := by simp [tPair, depth, depths]
/-- What stands ahead of the sixth statement. -/
def AW (w : World) (t1 t2 t3 t4 t5 t7 t8 t9 : Value) (wc : World) : Prop :=
  ∃ p1 p3 p4 p5 p8, t1 = .pointer (some ⟨p1, 0, none⟩) ∧ t2 = .int .i64 0 ∧ t3 = .pointer (some ⟨p3, 0, none⟩) ∧ t4 = .pointer (some ⟨p4, 0, none⟩) ∧ t5 = .pointer (some ⟨p5, 0, none⟩) ∧ t7 = .int .i64 2 ∧ t8 = .pointer (some ⟨p8, 0, none⟩) ∧ t9 = .int .i64 0 ∧
    Lies wc tPair p1 0 ∧ Lies wc tA p3 0 ∧ Lies wc tB p4 0 ∧ Lies wc tFaa p5 0 ∧ Lies wc tF p8 0 ∧ Below w.heap.size w wc

theorem IntRow_ext {w w' : World} {v : Value} {l : List Nat} (h : IntRow w v l) (k : Ext w w') : IntRow w' v l := by
  obtain ⟨xa, cap, e, h2⟩ := h
  refine ⟨xa, cap, e, fun hl => ?_⟩
  obtain ⟨b, o, e2, h3⟩ := h2 hl
  exact ⟨b, o, e2, fun i hi => keep_below k _ _ (h3 i hi)⟩
theorem IntRow_new (w : World) : IntRow (w.alloc (.cells #[.int .i64 1] 3)) (.slice (some ⟨w.heap.size, 0, none⟩) 1 1) [1] := by
  refine ⟨some ⟨w.heap.size, 0, none⟩, 1, rfl, fun _ => ⟨w.heap.size, 0, rfl, fun i hi => ?_⟩⟩
  have : i = 0 := by simpa using hi
  subst this
  unfold World.cell?; rw [heap_alloc_new]; rfl
theorem pos_facts {w w6 : World} {v : Value} {vs : List Value} {F : Nat → Prop} (ho : w6.ownsRow w.heap.size 49 1 v (posT [] tPair).length vs) (hpl : PL F w6 (posT [] tPair) vs) :
    ∃ (g cap : Nat) (v0 v2 : Value) (a0 a2 : Option Addr) (b2 b0 : Nat), v = .slice (some ⟨g, 0, none⟩) 3 cap ∧ w6.cell? ⟨g, 0, none⟩ = some v0 ∧ w6.cell? ⟨g, 2, none⟩ = some v2 ∧ v0 = .slice a0 0 b0 ∧ v2 = .slice a2 1 b2 ∧ IntRow w6 v2 [1] := by
  have e : posT [] tPair = [[], [0], [1]] := by simp [posT, posL, tPair]
  rw [e] at ho hpl
  obtain ⟨v0, r, rfl, h0, hpl⟩ := hpl
  obtain ⟨v1, r, rfl, h1, hpl⟩ := hpl
  obtain ⟨v2, r, rfl, h2, hpl⟩ := hpl
  obtain ⟨g, cap, rfl⟩ := own_form_pos ho (by simp)
  obtain ⟨a0, b0, f0⟩ := own_form h0.1
  obtain ⟨a2, b2, f2⟩ := own_form h2.1
  refine ⟨g, cap, v0, v2, a0, a2, b2, b0, rfl, ?_, ?_, f0, f2, IntRow_of_own h2.1⟩
  · rw [ho.cellAt 0 (by simp)]; rfl
  · rw [ho.cellAt 2 (by simp)]; rfl

end Go.Proofs.YtcieadjjcpmieaaGreat
