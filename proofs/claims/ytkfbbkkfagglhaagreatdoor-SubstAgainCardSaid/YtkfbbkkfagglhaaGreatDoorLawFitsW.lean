/-
  THE WALKS OF the law SubstFits, the chapter's examples by hypothesis.
-/
import Derived.Test.YtkfbbkkfagglhaaGreatDoorBnd
import Derived.Test.YtkfbbkkfagglhaaGreatDoorRef
import Derived.Deep.RegionHeld3
import Derived.Test.YtkfbbkkfagglhaaGreatDoorFewb
import Derived.Test.YtkfbbkkfagglhaaGreatDoorBval
import Derived.Test.YtkfbbkkfagglhaaGreatDoorRput
namespace Go.Proofs.YtkfbbkkfagglhaaGreatDoor
open Go.RowKit

/-- What every law of layer 2 asks first. -/
def Awake2Ok : Prop := ∀ w : World, Laid w → Calls Tryz.prog 12 #[] w fun e w' => e = .returned (.bool true) ∧ Below w.heap.size w w'

theorem two_terms {t u : Tm} {n : Int} (hn : 0 ≤ n) (h : few [t, u] 2 n = true) : ((size t + size u : Nat) : Int) ≤ n := by
  simp only [few] at h
  rw [if_neg (by simp)] at h
  have := fewL_sizes [t, u] n hn h
  simp only [sizes] at this; omega

theorem boxes_two {w W : World} {a0 a1 a2 a3 b0 b1 b2 b3 : Value} {T : TypeId} (h : Ext ((w.alloc (.cells #[a0, a1, a2, a3] T)).alloc (.cells #[b0, b1, b2, b3] T)) W) :
    W.cell? ⟨w.heap.size, 0, none⟩ = some a0 ∧ W.cell? ⟨w.heap.size, 1, none⟩ = some a1 ∧ W.cell? ⟨w.heap.size, 2, none⟩ = some a2 ∧ W.cell? ⟨w.heap.size, 3, none⟩ = some a3 ∧ W.cell? ⟨w.heap.size + 1, 0, none⟩ = some b0 ∧ W.cell? ⟨w.heap.size + 1, 1, none⟩ = some b1 ∧ W.cell? ⟨w.heap.size + 1, 2, none⟩ = some b2 ∧ W.cell? ⟨w.heap.size + 1, 3, none⟩ = some b3 := by
  obtain ⟨h0, h1, _, hs⟩ := boxes2 w a0 a1 a2 a3 b0 b1 b2 b3 T
  obtain ⟨⟨x0, x1, x2, x3⟩, _⟩ := box_facts ((h.block w.heap.size (by omega)).trans h0)
  obtain ⟨⟨y0, y1, y2, y3⟩, _⟩ := box_facts ((h.block (w.heap.size + 1) (by omega)).trans h1)
  exact ⟨x0, x1, x2, x3, y0, y1, y2, y3⟩

end Go.Proofs.YtkfbbkkfagglhaaGreatDoor

/-
  THE WALKS OF the laws SubstValid and SubstCompose, the chapter's examples by hypothesis.
-/
namespace Go.Proofs.YtkfbbkkfagglhaaGreatDoor
open Go.RowKit

theorem mem_flatB {bs : List Bd} {b : Bd} (h : b ∈ bs) : b.1 ∈ flatB bs ∧ b.2 ∈ flatB bs := by
  induction bs with
  | nil => simp at h
  | cons c bs ih =>
    rcases List.mem_cons.1 h with rfl | h
    · simp [flatB]
    · obtain ⟨h1, h2⟩ := ih h
      simp [flatB, h1, h2]
/-- What a short list of bindings is. -/
theorem few_binds {bs : List Bd} {n most : Nat} (h : few (flatB bs) (2 * (n : Int)) most = true) : bs.length ≤ n ∧ ∀ b ∈ bs, size b.1 ≤ most ∧ size b.2 ≤ most := by
  simp only [few, flatB_length] at h
  by_cases h0 : (2 * (n : Int)) < ((2 * bs.length : Nat) : Int)
  · rw [if_pos h0] at h; simp at h
  · rw [if_neg h0] at h
    have hs := fewL_sizes _ (most : Int) (by omega) h
    refine ⟨by omega, fun b hb => ?_⟩
    obtain ⟨m1, m2⟩ := mem_flatB hb
    have h1 := size_le_sizes m1
    have h2 := size_le_sizes m2
    omega

/-- What both compositions answer. -/
theorem scompose_all (ss ts : List Bd) (xs xt : Option Addr) (cs ct N : Nat) (w : World) (hcs : ss.length ≤ cs) (hl : ss.length ≤ 200) (hsz : SzB 1073741824 ss) (hrow : Row w (flatB ss) xs) (hct : ts.length ≤ ct) (hlt : ts.length ≤ 200) (htz : SzB 1073741824 ts) (hrowt : Row w (flatB ts) xt) (hN : ∀ b ∈ ts, size b.2 ≤ N) (h1 : 1 ≤ N) (hsn : ∀ b ∈ ss, size b.2 * N ≤ 1073741824) :
    Calls Tryz.prog 50 #[.slice xs ss.length cs, .slice xt ts.length ct] w (RcPost w (comP ss ts)) := by
  by_cases hv1 : validB ss = 0
  rotate_left
  · have he : comP ss ts = ([], validB ss) := by unfold comP; rw [if_neg hv1]
    refine (scompose_bad1 ss ts xs xt cs ct w hcs (by unfold maxLen; omega) hsz hrow hv1).mono ?_
    rintro e w' ⟨rfl, hB⟩
    exact RcPost_err he hB
  by_cases hv2 : validB ts = 0
  rotate_left
  · have he : comP ss ts = ([], validB ts) := by unfold comP; rw [if_pos hv1, if_neg hv2]
    refine (scompose_bad2 ss ts xs xt cs ct w hcs (by unfold maxLen; omega) hsz hrow hct (by unfold maxLen; omega) htz hrowt hv1 hv2).mono ?_
    rintro e w' ⟨rfl, hB⟩
    exact RcPost_err he hB
  have hS : RbOk ss xs cs w := ⟨hrow, hcs, by omega, hsz, (validB_ok hv1).2.2⟩
  have hT : RbOk ts xt ct w := ⟨hrowt, hct, by omega, htz, (validB_ok hv2).2.2⟩
  by_cases hf : (folP ts ss).2 = 0
  rotate_left
  · have he : comP ss ts = ([], (folP ts ss).2) := by unfold comP; rw [if_pos hv1, if_pos hv2, if_neg hf]
    refine (scompose_bad3 ss ts xs xt cs ct N w hS hT hv1 hv2 hN h1 hsn [] (folP ts ss).2 (by rw [folS_nil, if_neg hf]) hf).mono ?_
    rintro e w' ⟨rfl, hB⟩
    exact RcPost_err he hB
  have he : comP ss ts = if 200 < (comR ss ts).length then ([], 3) else (comR ss ts, 0) := by unfold comP; rw [if_pos hv1, if_pos hv2, if_pos hf]
  refine (scompose_good ss ts xs xt cs ct N w hS hT hv1 hv2 hN h1 hsn hf).mono ?_
  rintro e w' ⟨hB, h⟩
  by_cases h200 : 200 < (comR ss ts).length
  · rw [if_pos h200] at h he
    subst h
    exact RcPost_err he hB
  · rw [if_neg h200] at h he
    obtain ⟨kv, rfl, hK⟩ := h
    obtain ⟨xa, cap, rfl, r1, _, r2⟩ := BdsAt_row hK
    rw [he]
    exact ⟨xa, cap, rfl, r1, r2, hB⟩
/-- What is composed is small: few, and small terms. -/
theorem comP_small {ss ts : List Bd} {N : Nat} (hsz : SzB 1073741824 ss) (htz : SzB 1073741824 ts) (hN : ∀ b ∈ ts, size b.2 ≤ N) (h1 : 1 ≤ N) (hsn : ∀ b ∈ ss, size b.2 * N ≤ 1073741824) : (comP ss ts).1.length ≤ 200 ∧ SzB 1073741824 (comP ss ts).1 := by
  unfold comP
  have hnil : ((([] : List Bd).length ≤ 200) ∧ SzB 1073741824 []) := ⟨by simp, fun b hb => by simp at hb⟩
  by_cases hv1 : validB ss = 0
  rotate_left
  · rw [if_neg hv1]; exact hnil
  rw [if_pos hv1]
  by_cases hv2 : validB ts = 0
  rotate_left
  · rw [if_neg hv2]; exact hnil
  rw [if_pos hv2]
  by_cases hf : (folP ts ss).2 = 0
  rotate_left
  · rw [if_neg hf]; exact hnil
  rw [if_pos hf]
  by_cases h200 : 200 < (comR ss ts).length
  · rw [if_pos h200]; exact hnil
  rw [if_neg h200]
  refine ⟨by show (comR ss ts).length ≤ 200; omega, ?_⟩
  obtain ⟨_, _, s3⟩ := validB_ok hv1
  obtain ⟨_, t2, t3⟩ := validB_ok hv2
  obtain ⟨_, c2, _⟩ := comR_facts (SortedB_pair s3) (SortedB_pair t3) (fun b hb => bindE_ne (t2 b hb))
  intro b hb
  rcases List.mem_append.1 (c2.mem_iff.1 hb) with h | h
  · obtain ⟨c, hc, rfl⟩ := List.mem_map.1 (List.mem_filter.1 h).1
    exact ⟨(hsz c hc).1, applyP_size hN h1 (hsn c hc) ((folP_ok ts ss hf).2 c hc)⟩
  · exact htz b (List.mem_filter.1 h).1

end Go.Proofs.YtkfbbkkfagglhaaGreatDoor
