/-
  BINDINGS: in memory, their error; the walks of subst.sortFits, same, bindingError.
-/
import Derived.Test.YtfbomoginjknlaaDoorLawSizesW
import Derived.Test.YtfbomoginjknlaaDoorNodes
import Derived.Test.YtfbomoginjknlaaDoorRef
namespace Go.Proofs.YtfbomoginjknlaaDoor
open Go.RowKit

abbrev Bd := Tm × Tm
/-- The terms of a list of bindings, as they lie one behind the other. -/
def flatB : List Bd → List Tm
  | [] => []
  | b :: bs => b.1 :: b.2 :: flatB bs
theorem flatB_length : ∀ bs : List Bd, (flatB bs).length = 2 * bs.length
  | [] => rfl
  | b :: bs => by simp only [flatB, List.length_cons, flatB_length bs]; omega
theorem flatB_even : ∀ (bs : List Bd) (i : Nat) (h : i < bs.length), (flatB bs)[2 * i]? = some bs[i].1 ∧ (flatB bs)[2 * i + 1]? = some bs[i].2
  | b :: bs, 0, _ => ⟨rfl, rfl⟩
  | b :: bs, i + 1, h => by
    have := flatB_even bs i (by simpa using h)
    simp only [List.getElem_cons_succ]
    exact this
/-- A binding in a list. -/
theorem bds_get {w : World} {bs : List Bd} {b o : Nat} (h : Row w (flatB bs) (some ⟨b, o, none⟩)) (i : Nat) (hi : i < bs.length) : Lies w bs[i].1 b (o + i * 8) ∧ Lies w bs[i].2 b (o + i * 8 + 4) := by
  have hl := flatB_length bs
  obtain ⟨e1, e2⟩ := flatB_even bs i hi
  have h1 := Row_get h (2 * i) (by omega)
  have h2 := Row_get h (2 * i + 1) (by omega)
  rw [List.getElem?_eq_getElem (by omega), Option.some.injEq] at e1 e2
  rw [e1] at h1
  rw [e2] at h2
  exact ⟨by rw [show i * 8 = 2 * i * 4 by omega]; exact h1, by rw [show o + i * 8 + 4 = o + (2 * i + 1) * 4 by omega]; exact h2⟩

theorem box8_facts {w : World} {b : Nat} {c0 c1 c2 c3 c4 c5 c6 c7 : Value} {T : TypeId} (h : w.heap[b]? = some (.cells #[c0, c1, c2, c3, c4, c5, c6, c7] T (0, 0))) :
    (w.cell? ⟨b, 0, none⟩ = some c0 ∧ w.cell? ⟨b, 1, none⟩ = some c1 ∧ w.cell? ⟨b, 2, none⟩ = some c2 ∧ w.cell? ⟨b, 3, none⟩ = some c3) ∧ w.cell? ⟨b, 4, none⟩ = some c4 ∧ w.cell? ⟨b, 5, none⟩ = some c5 ∧ w.cell? ⟨b, 6, none⟩ = some c6 ∧ w.cell? ⟨b, 7, none⟩ = some c7 := by
  refine ⟨⟨?_, ?_, ?_, ?_⟩, ?_, ?_, ?_, ?_⟩ <;> (unfold World.cell?; rw [h]; rfl)

theorem boxes2 (w : World) (a0 a1 a2 a3 b0 b1 b2 b3 : Value) (T : TypeId) : ((w.alloc (.cells #[a0, a1, a2, a3] T)).alloc (.cells #[b0, b1, b2, b3] T)).heap[w.heap.size]? = some (.cells #[a0, a1, a2, a3] T (0, 0)) ∧ ((w.alloc (.cells #[a0, a1, a2, a3] T)).alloc (.cells #[b0, b1, b2, b3] T)).heap[w.heap.size + 1]? = some (.cells #[b0, b1, b2, b3] T (0, 0)) ∧ Below w.heap.size w ((w.alloc (.cells #[a0, a1, a2, a3] T)).alloc (.cells #[b0, b1, b2, b3] T)) ∧ w.heap.size + 2 = ((w.alloc (.cells #[a0, a1, a2, a3] T)).alloc (.cells #[b0, b1, b2, b3] T)).heap.size := by
  refine ⟨?_, ?_, ((Below.refl _ _).alloc (Nat.le_refl _) _).alloc (by simp) _, by simp only [World.size_alloc]⟩
  · rw [Below.heap_alloc _ _ _ (by simp)]; exact heap_alloc_new w _
  · have := heap_alloc_new (w.alloc (.cells #[a0, a1, a2, a3] T)) (.cells #[b0, b1, b2, b3] T)
    rw [World.size_alloc] at this; exact this

/-- The error of a binding alone. -/
def bindE (v t : Tm) : Int :=
  if validE v = 0 then (if ¬ v.kind = 1 ∨ cmpT v t = 0 then 1 else if validE t = 0 then (if v.sort = 0 ∨ v.sort = t.sort then 0 else 10) else validE t) else validE v

end Go.Proofs.YtfbomoginjknlaaDoor

/-
  THE WALKS OF the reference's leaf, Fits, binding (layer 2), and of subst.Fits (by gen_bndr.py).
-/
namespace Go.Proofs.YtfbomoginjknlaaDoor
open Go.RowKit

def fitsB (v t : Tm) : Bool := decide (validE v = 0) && decide (v.kind = 1) && decide (validE t = 0) && (decide (v.sort = 0) || decide (v.sort = t.sort))
theorem validE_node {t : Tm} (h : validE t = 0) : nodeE t = 0 := by
  have h1 : nodesE t = 0 := by
    unfold validE at h
    by_cases h0 : nodesE t = 0
    · exact h0
    · rw [if_neg h0] at h; exact absurd h h0
  obtain ⟨k, n, s, ks⟩ := t
  rw [nodesE] at h1
  by_cases h0 : nodeE (.mk k n s ks) = 0
  · exact h0
  · rw [if_neg h0] at h1; exact absurd h1 h0
theorem valid_leaf {t : Tm} (h : validE t = 0) (h0 : ¬ t.sort = 0) : t.kind = 1 ∨ t.kind = 2 := by
  have hn := validE_node h
  obtain ⟨k, n, s, ks⟩ := t
  simp only [Tm.sort, Tm.kind] at h0 ⊢
  rw [nodeE] at hn
  by_cases a1 : ¬ (k = 1 ∨ k = 2) ∧ ¬ k = 3
  · rw [if_pos a1] at hn; omega
  rw [if_neg a1] at hn
  by_cases a2 : s < 0 ∨ 5 < s
  · rw [if_pos a2] at hn; omega
  rw [if_neg a2] at hn
  by_cases a3 : (k = 1 ∨ k = 2) ∧ 0 < ks.length
  · rw [if_pos a3] at hn; omega
  rw [if_neg a3] at hn
  by_cases a4 : ¬ (k = 1 ∨ k = 2) ∧ ¬ s = 0
  · rw [if_pos a4] at hn; omega
  · omega

end Go.Proofs.YtfbomoginjknlaaDoor

/-
  THE REFERENCE's Few at bindings, walked: lists of whatever length the form bears.
-/
namespace Go.Proofs.YtfbomoginjknlaaDoor
open Go.RowKit

theorem flatB_take : ∀ (bs : List Bd) (j : Nat) (h : j < bs.length), flatB (bs.take (j + 1)) = flatB (bs.take j) ++ [bs[j].1, bs[j].2]
  | b :: bs, 0, _ => by simp [flatB]
  | b :: bs, j + 1, h => by
    have := flatB_take bs j (by simpa using h)
    simp only [List.take_succ_cons, flatB, List.getElem_cons_succ, List.cons_append, this]
theorem OwnT_push2 {H base n g cap lcap : Nat} {w v w' : World} {os : List Tm} {xl : Option Addr} {cs : List Value} {t u : Tm} {c0 c1 c2 c3 d0 d1 d2 d3 : Value} (hown0 : w.ownsRow H 24 4 (.slice xl n lcap) n cs) (hK : KC (fun b => b < base) w os cs) (hn : n = os.length) (hI : IsIn (fun b => b < base) w t c0 c1 c2 c3) (hJ : IsIn (fun b => b < base) w u d0 d1 d2 d3)
    (hb : base ≤ H) (hv : Below H w v) (hHv : H ≤ v.heap.size) (hown : w'.ownsRow H 24 4 (.slice (some ⟨g, 0, none⟩) (n + 2) cap) (n + 2) (cs ++ [c0, c1, c2, c3, d0, d1, d2, d3])) (hg : v.grownBy w' (Value.slice xl n lcap).ownBlock) :
    OwnT H (fun b => b < base) w' (os ++ [t, u]) (.slice (some ⟨g, 0, none⟩) (n + 2) cap) ∧ Below H w w' := by
  subst hn
  have hB : Below H w w' := hv.grown hg hHv (fun q hq => (hown0.lt q hq).1)
  have hBl : Below base w w' := hB.mono hb
  refine ⟨⟨cs ++ [c0, c1, c2, c3, d0, d1, d2, d3], by simpa using hown, ?_⟩, hB⟩
  exact KC_append _ _ _ _ (KC_carry (fun b hb' => hBl.block b hb') (fun _ h => h) _ _ hK) ⟨_, _, _, _, _, rfl, IsIn_carry (fun b hb' => hBl.block b hb') (fun _ h => h) _ _ _ _ _ hI, KC_one_term (IsIn_carry (fun b hb' => hBl.block b hb') (fun _ h => h) _ _ _ _ _ hJ)⟩
/-- A row of the call's own, as a row. -/
theorem OwnT_row {H : Nat} {S : Nat → Prop} {w : World} {ts : List Tm} {xa : Option Addr} {cap : Nat} (h : OwnT H S w ts (.slice xa ts.length cap)) : Row w ts xa := by
  obtain ⟨cs, ho, hK⟩ := h
  have h := IsIn_Is _ _ _ _ _ (IsIn_app (S' := fun _ => True) (nm := ⟨#[]⟩) (Nat.zero_le _) ho hK (fun _ _ => trivial) (fun _ _ => trivial))
  simp only [Is] at h
  obtain ⟨_, _, _, _, _, _, _, xa', cap', e, _, hR⟩ := h
  simp only [Value.slice.injEq] at e
  rw [e.1]; exact hR

end Go.Proofs.YtfbomoginjknlaaDoor
