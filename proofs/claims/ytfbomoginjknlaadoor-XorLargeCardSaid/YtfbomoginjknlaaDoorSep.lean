/-
  A TERM IN MEMORY OF ITS OWN, EACH ROW OF KIDS IN A BLOCK OF ITS OWN: what a store at one of its places makes of it.
-/
import Derived.Test.YtfbomoginjknlaaDoorFind
import Derived.Test.YtfbomoginjknlaaDoorNodes
import Derived.Test.YtfbomoginjknlaaDoorOpen
import Derived.ChangeSlices
import Derived.Test.YtfbomoginjknlaaDoorBnd
import Derived.SizedLaws
namespace Go.Proofs.YtfbomoginjknlaaDoor
open Go.RowKit

/-- A block of terms that may be written. -/
def Sound (w : World) (b : Nat) : Prop := ∃ cs, w.heap[b]? = some (.cells cs 24 (0, 0))
theorem Sound.free {w : World} {b : Nat} (h : Sound w b) (q : Nat) : w.frozen? ⟨b, q, none⟩ = false := by
  obtain ⟨cs, h⟩ := h
  unfold World.frozen?
  rw [h]
  simp

mutual
/-- Four values that are a term's cells; each row of kids below lies in a block of its own from lo to hi. -/
def SepT (w : World) : Tm → Nat → Nat → Value → Value → Value → Value → Prop
  | .mk k n s ks, lo, hi, c0, c1, c2, c3 => c0 = .int .i64 k ∧ c1 = .string n ∧ c2 = .int .i64 s ∧ (-9223372036854775808 ≤ k ∧ k ≤ 9223372036854775807) ∧ (-9223372036854775808 ≤ s ∧ s ≤ 9223372036854775807) ∧ n.size ≤ maxLen ∧ ks.length ≤ maxLen ∧
      ∃ xa cap, c3 = .slice xa ks.length cap ∧ ks.length ≤ cap ∧ (ks.length = 0 ∨ ∃ kb, xa = some ⟨kb, 0, none⟩ ∧ lo ≤ kb ∧ kb < hi ∧ Sound w kb ∧ SepL w ks kb 0 (kb + 1) hi)
def SepL (w : World) : List Tm → Nat → Nat → Nat → Nat → Prop
  | [], _, _, _, _ => True
  | t :: ts, b, o, lo, hi => ∃ m, lo ≤ m ∧ m ≤ hi ∧ (∃ c0 c1 c2 c3, w.cell? ⟨b, o, none⟩ = some c0 ∧ w.cell? ⟨b, o + 1, none⟩ = some c1 ∧ w.cell? ⟨b, o + 2, none⟩ = some c2 ∧ w.cell? ⟨b, o + 3, none⟩ = some c3 ∧ SepT w t lo m c0 c1 c2 c3) ∧ SepL w ts b (o + 4) m hi
end

/-- It reads as the term, in another world that keeps its blocks. -/
theorem SepT_IsIn {S : Nat → Prop} {w w' : World} (t : Tm) : ∀ lo hi c0 c1 c2 c3, (∀ x, lo ≤ x → x < hi → w'.heap[x]? = w.heap[x]?) → (∀ x, lo ≤ x → x < hi → S x) → SepT w t lo hi c0 c1 c2 c3 → IsIn S w' t c0 c1 c2 c3 := by
  refine Tm.rec (motive_1 := fun t => ∀ lo hi c0 c1 c2 c3, (∀ x, lo ≤ x → x < hi → w'.heap[x]? = w.heap[x]?) → (∀ x, lo ≤ x → x < hi → S x) → SepT w t lo hi c0 c1 c2 c3 → IsIn S w' t c0 c1 c2 c3)
    (motive_2 := fun ts => ∀ b o lo hi, (∀ x, lo ≤ x → x < hi → w'.heap[x]? = w.heap[x]?) → (∀ x, lo ≤ x → x < hi → S x) → S b → (∀ q c, o ≤ q → w.cell? ⟨b, q, none⟩ = some c → w'.cell? ⟨b, q, none⟩ = some c) → SepL w ts b o lo hi → RowIn S w' ts (some ⟨b, o, none⟩)) ?_ ?_ ?_ t
  · intro k n s ks ih lo hi c0 c1 c2 c3 hh hS h
    simp only [SepT] at h
    simp only [IsIn]
    obtain ⟨h1, h2, h3, h4, h5, h6, h7, xa, cap, h8, h9, h10⟩ := h
    refine ⟨h1, h2, h3, h4, h5, h6, h7, xa, cap, h8, h9, ?_⟩
    rcases h10 with h0 | ⟨kb, rfl, hl, hb, _, hr⟩
    · have : ks = [] := List.length_eq_zero_iff.1 h0
      subst this; simp [RowIn]
    · exact ih kb 0 (kb + 1) hi (fun x hx hx2 => hh x (by omega) hx2) (fun x hx hx2 => hS x (by omega) hx2) (hS kb hl hb) (fun q c _ hc => by
        have := hh kb hl hb
        unfold World.cell? at hc ⊢
        simp only at hc ⊢
        rw [this]; exact hc) hr
  · intro b o lo hi _ _ _ _ _; simp [RowIn]
  · intro t ts h1 h2 b o lo hi hh hS hb hc h
    simp only [SepL] at h
    simp only [RowIn]
    obtain ⟨m, hm1, hm2, ⟨c0, c1, c2, c3, g0, g1, g2, g3, hI⟩, hR⟩ := h
    exact ⟨b, o, rfl, hb, ⟨c0, c1, c2, c3, hc _ _ (Nat.le_refl _) g0, hc _ _ (by omega) g1, hc _ _ (by omega) g2, hc _ _ (by omega) g3, h1 lo m c0 c1 c2 c3 (fun x hx hx2 => hh x hx (by omega)) (fun x hx hx2 => hS x hx (by omega)) hI⟩,
      h2 b (o + 4) m hi (fun x hx hx2 => hh x (by omega) hx2) (fun x hx hx2 => hS x (by omega) hx2) hb (fun q c hq hq2 => hc q c (by omega) hq2) hR⟩
theorem SepL_RowIn {S : Nat → Prop} {w w' : World} : ∀ (ts : List Tm) (b o lo hi : Nat), (∀ x, lo ≤ x → x < hi → w'.heap[x]? = w.heap[x]?) → (∀ x, lo ≤ x → x < hi → S x) → S b → (∀ q c, o ≤ q → w.cell? ⟨b, q, none⟩ = some c → w'.cell? ⟨b, q, none⟩ = some c) → SepL w ts b o lo hi → RowIn S w' ts (some ⟨b, o, none⟩)
  | [], b, o, lo, hi, _, _, _, _, _ => by simp [RowIn]
  | t :: ts, b, o, lo, hi, hh, hS, hb, hc, h => by
    simp only [SepL] at h
    simp only [RowIn]
    obtain ⟨m, hm1, hm2, ⟨c0, c1, c2, c3, g0, g1, g2, g3, hI⟩, hR⟩ := h
    exact ⟨b, o, rfl, hb, ⟨c0, c1, c2, c3, hc _ _ (Nat.le_refl _) g0, hc _ _ (by omega) g1, hc _ _ (by omega) g2, hc _ _ (by omega) g3, SepT_IsIn t lo m c0 c1 c2 c3 (fun x hx hx2 => hh x hx (by omega)) (fun x hx hx2 => hS x hx (by omega)) hI⟩,
      SepL_RowIn ts b (o + 4) m hi (fun x hx hx2 => hh x (by omega) hx2) (fun x hx hx2 => hS x (by omega) hx2) hb (fun q c hq hq2 => hc q c (by omega) hq2) hR⟩
theorem SepT_carry {w w' : World} (t : Tm) : ∀ lo hi c0 c1 c2 c3, (∀ x, lo ≤ x → x < hi → w'.heap[x]? = w.heap[x]?) → SepT w t lo hi c0 c1 c2 c3 → SepT w' t lo hi c0 c1 c2 c3 := by
  refine Tm.rec (motive_1 := fun t => ∀ lo hi c0 c1 c2 c3, (∀ x, lo ≤ x → x < hi → w'.heap[x]? = w.heap[x]?) → SepT w t lo hi c0 c1 c2 c3 → SepT w' t lo hi c0 c1 c2 c3)
    (motive_2 := fun ts => ∀ b o lo hi, (∀ x, lo ≤ x → x < hi → w'.heap[x]? = w.heap[x]?) → w'.heap[b]? = w.heap[b]? → SepL w ts b o lo hi → SepL w' ts b o lo hi) ?_ ?_ ?_ t
  · intro k n s ks ih lo hi c0 c1 c2 c3 hh h
    simp only [SepT] at h ⊢
    obtain ⟨h1, h2, h3, h4, h5, h6, h7, xa, cap, h8, h9, h10⟩ := h
    refine ⟨h1, h2, h3, h4, h5, h6, h7, xa, cap, h8, h9, ?_⟩
    rcases h10 with h0 | ⟨kb, rfl, hl, hb, ⟨cs, hs⟩, hr⟩
    · exact Or.inl h0
    · exact Or.inr ⟨kb, rfl, hl, hb, ⟨cs, by rw [hh kb hl hb]; exact hs⟩, ih kb 0 (kb + 1) hi (fun x hx hx2 => hh x (by omega) hx2) (hh kb hl hb) hr⟩
  · intro b o lo hi _ _ _; simp [SepL]
  · intro t ts h1 h2 b o lo hi hh hb h
    simp only [SepL] at h ⊢
    obtain ⟨m, hm1, hm2, ⟨c0, c1, c2, c3, g0, g1, g2, g3, hI⟩, hR⟩ := h
    have hc : ∀ q c, w.cell? ⟨b, q, none⟩ = some c → w'.cell? ⟨b, q, none⟩ = some c := fun q c h => by
      unfold World.cell? at h ⊢
      simp only at h ⊢
      rw [hb]; exact h
    exact ⟨m, hm1, hm2, ⟨c0, c1, c2, c3, hc _ _ g0, hc _ _ g1, hc _ _ g2, hc _ _ g3, h1 lo m c0 c1 c2 c3 (fun x hx hx2 => hh x hx (by omega)) hI⟩, h2 b (o + 4) m hi (fun x hx hx2 => hh x (by omega) hx2) hb hR⟩

theorem SepL_hi {w : World} {hi hi' : Nat} (hh : hi ≤ hi') : ∀ (ts : List Tm) (b o lo : Nat), SepL w ts b o lo hi → SepL w ts b o lo hi'
  | [], _, _, _, _ => by simp [SepL]
  | t :: ts, b, o, lo, h => by
    simp only [SepL] at h ⊢
    obtain ⟨m, hm1, hm2, hc, hR⟩ := h
    exact ⟨m, hm1, by omega, hc, SepL_hi hh ts b (o + 4) m hR⟩
theorem SepT_wider {w : World} (t : Tm) {lo lo' hi hi' : Nat} {c0 c1 c2 c3 : Value} (hl : lo' ≤ lo) (hh : hi ≤ hi') (h : SepT w t lo hi c0 c1 c2 c3) : SepT w t lo' hi' c0 c1 c2 c3 := by
  obtain ⟨k, n, s, ks⟩ := t
  simp only [SepT] at h ⊢
  obtain ⟨h1, h2, h3, h4, h5, h6, h7, xa, cap, h8, h9, h10⟩ := h
  refine ⟨h1, h2, h3, h4, h5, h6, h7, xa, cap, h8, h9, ?_⟩
  rcases h10 with h0 | ⟨kb, e, a1, a2, hs, hr⟩
  · exact Or.inl h0
  · exact Or.inr ⟨kb, e, by omega, by omega, hs, SepL_hi hh _ _ _ _ hr⟩

/-- One kid of a row is replaced; the others stand. -/
theorem SepL_set {S : Nat → Prop} {w : World} : ∀ (ts : List Tm) (b o lo hi y : Nat), SepL w ts b o lo hi → ∀ hy : y < ts.length, ∃ ly uy c0 c1 c2 c3, lo ≤ ly ∧ ly ≤ uy ∧ uy ≤ hi ∧ w.cell? ⟨b, o + y * 4, none⟩ = some c0 ∧ w.cell? ⟨b, o + y * 4 + 1, none⟩ = some c1 ∧ w.cell? ⟨b, o + y * 4 + 2, none⟩ = some c2 ∧ w.cell? ⟨b, o + y * 4 + 3, none⟩ = some c3 ∧
    SepT w ts[y] ly uy c0 c1 c2 c3 ∧ ∀ (w' : World) (a : Tm) (e0 e1 e2 e3 : Value), (∀ x, lo ≤ x → x < hi → ¬ (ly ≤ x ∧ x < uy) → w'.heap[x]? = w.heap[x]?) → (∀ q c, o ≤ q → (q < o + y * 4 ∨ o + y * 4 + 4 ≤ q) → w.cell? ⟨b, q, none⟩ = some c → w'.cell? ⟨b, q, none⟩ = some c) →
      w'.cell? ⟨b, o + y * 4, none⟩ = some e0 → w'.cell? ⟨b, o + y * 4 + 1, none⟩ = some e1 → w'.cell? ⟨b, o + y * 4 + 2, none⟩ = some e2 → w'.cell? ⟨b, o + y * 4 + 3, none⟩ = some e3 → IsIn S w' a e0 e1 e2 e3 → (∀ x, lo ≤ x → x < hi → S x) → S b → RowIn S w' (ts.set y a) (some ⟨b, o, none⟩)
  | t :: ts, b, o, lo, hi, 0, h, _ => by
    simp only [SepL] at h
    obtain ⟨m, hm1, hm2, ⟨c0, c1, c2, c3, g0, g1, g2, g3, hI⟩, hR⟩ := h
    refine ⟨lo, m, c0, c1, c2, c3, Nat.le_refl _, hm1, hm2, by simpa using g0, by simpa using g1, by simpa using g2, by simpa using g3, hI, fun w' a e0 e1 e2 e3 hh hc q0 q1 q2 q3 hA hS hb => ?_⟩
    simp only [List.set_cons_zero, RowIn]
    simp only [Nat.zero_mul, Nat.add_zero] at q0 q1 q2 q3 hc
    exact ⟨b, o, rfl, hb, ⟨e0, e1, e2, e3, q0, q1, q2, q3, hA⟩, SepL_RowIn ts b (o + 4) m hi (fun x hx hx2 => hh x (by omega) hx2 (by omega)) (fun x hx hx2 => hS x (by omega) hx2) hb (fun q c hq hq2 => hc q c (by omega) (Or.inr (by omega)) hq2) hR⟩
  | t :: ts, b, o, lo, hi, y + 1, h, hy => by
    simp only [SepL] at h
    obtain ⟨m, hm1, hm2, ⟨c0, c1, c2, c3, g0, g1, g2, g3, hI⟩, hR⟩ := h
    obtain ⟨ly, uy, d0, d1, d2, d3, h1, h2, h3, r0, r1, r2, r3, hT, hF⟩ := SepL_set (S := S) ts b (o + 4) m hi y hR (by simpa using hy)
    have e : o + (y + 1) * 4 = o + 4 + y * 4 := by omega
    rw [e]
    refine ⟨ly, uy, d0, d1, d2, d3, by omega, h2, h3, r0, r1, r2, r3, by simpa using hT, fun w' a e0 e1 e2 e3 hh hc q0 q1 q2 q3 hA hS hb => ?_⟩
    simp only [List.set_cons_succ, RowIn]
    exact ⟨b, o, rfl, hb, ⟨c0, c1, c2, c3, hc _ _ (Nat.le_refl _) (Or.inl (by omega)) g0, hc _ _ (by omega) (Or.inl (by omega)) g1, hc _ _ (by omega) (Or.inl (by omega)) g2, hc _ _ (by omega) (Or.inl (by omega)) g3,
        SepT_IsIn t lo m c0 c1 c2 c3 (fun x hx hx2 => hh x hx (by omega) (by omega)) (fun x hx hx2 => hS x hx (by omega)) hI⟩,
      hF w' a e0 e1 e2 e3 (fun x hx hx2 => hh x (by omega) hx2) (fun q c hq => hc q c (by omega)) q0 q1 q2 q3 hA (fun x hx hx2 => hS x (by omega) hx2) hb⟩

/-- The way from a node to the one at a position. -/
def Way (w : World) : Tm → Nat → Nat → List Int → Nat → Nat → Prop
  | _, b, o, [], b', o' => b' = b ∧ o' = o
  | t, b, o, i :: p, b', o' => ∃ (h : 0 ≤ i ∧ i < (t.kids.length : Int)) (kb ko cap : Nat), w.cell? ⟨b, o + 3, none⟩ = some (.slice (some ⟨kb, ko, none⟩) t.kids.length cap) ∧ Way w (t.kids[i.toNat]'(by omega)) kb (ko + i.toNat * 4) p b' o'

/-- The term with another at a position. -/
def repT : Tm → List Int → Tm → Option Tm
  | _, [], u => some u
  | t, i :: p, u => if h : 0 ≤ i ∧ i < (t.kids.length : Int) then (repT (t.kids[i.toNat]'(by omega)) p u).map fun x => .mk t.kind t.name t.sort (t.kids.set i.toNat x) else none

theorem setOther {w : World} {a b : Addr} {v : Value} (h : a ≠ b) : (w.setCell a v).cell? b = w.cell? b := by
  apply World.cell?_setCell_other; exact h
theorem setSame {w : World} {a : Addr} {v u : Value} (h : w.cell? a = some u) : (w.setCell a v).cell? a = some v := by
  apply World.cell?_setCell_same; exact h
theorem put4_far {w : World} {b o q : Nat} {d0 d1 d2 d3 : Value} {b' : Nat} (h : b' ≠ b ∨ q < o ∨ o + 4 ≤ q) : (put4 w b o d0 d1 d2 d3).cell? ⟨b', q, none⟩ = w.cell? ⟨b', q, none⟩ := by
  unfold put4
  have hne : ∀ k, k < 4 → (⟨b, o + k, none⟩ : Addr) ≠ ⟨b', q, none⟩ := fun k hk e => by
    simp only [Addr.mk.injEq, and_true] at e
    omega
  have h0 := hne 0 (by omega)
  simp only [Nat.add_zero] at h0
  rw [setOther (hne 3 (by omega)), setOther (hne 2 (by omega)), setOther (hne 1 (by omega)), setOther h0]
theorem put4_at {w : World} {b o : Nat} {d0 d1 d2 d3 z0 z1 z2 z3 : Value} (g0 : w.cell? ⟨b, o, none⟩ = some z0) (g1 : w.cell? ⟨b, o + 1, none⟩ = some z1) (g2 : w.cell? ⟨b, o + 2, none⟩ = some z2) (g3 : w.cell? ⟨b, o + 3, none⟩ = some z3) :
    (put4 w b o d0 d1 d2 d3).cell? ⟨b, o, none⟩ = some d0 ∧ (put4 w b o d0 d1 d2 d3).cell? ⟨b, o + 1, none⟩ = some d1 ∧ (put4 w b o d0 d1 d2 d3).cell? ⟨b, o + 2, none⟩ = some d2 ∧ (put4 w b o d0 d1 d2 d3).cell? ⟨b, o + 3, none⟩ = some d3 := by
  have hne : ∀ j k, j ≠ k → (⟨b, o + j, none⟩ : Addr) ≠ ⟨b, o + k, none⟩ := fun j k hjk e => by
    simp only [Addr.mk.injEq, and_true, true_and] at e
    omega
  have h01 := hne 0 1 (by omega)
  have h02 := hne 0 2 (by omega)
  have h03 := hne 0 3 (by omega)
  have h12 := hne 1 2 (by omega)
  have h13 := hne 1 3 (by omega)
  have h23 := hne 2 3 (by omega)
  simp only [Nat.add_zero] at h01 h02 h03
  unfold put4
  refine ⟨?_, ?_, ?_, ?_⟩
  · rw [setOther h03.symm, setOther h02.symm, setOther h01.symm, setSame g0]
  · rw [setOther h13.symm, setOther h12.symm, setSame (by rw [setOther h01]; exact g1)]
  · rw [setOther h23.symm, setSame (by rw [setOther h12, setOther h02]; exact g2)]
  · rw [setSame (by rw [setOther h23, setOther h13, setOther h03]; exact g3)]

/-- A STORE AT A PLACE OF THE TERM. -/
theorem sep_store {S S2 : Nat → Prop} {w : World} {u : Tm} {d0 d1 d2 d3 : Value} (hU : IsIn S w u d0 d1 d2 d3) (hSS : ∀ x, S x → S2 x) : ∀ (p : List Int) (t : Tm) (b o lo hi b' o' : Nat) (c0 c1 c2 c3 : Value), w.cell? ⟨b, o, none⟩ = some c0 → w.cell? ⟨b, o + 1, none⟩ = some c1 → w.cell? ⟨b, o + 2, none⟩ = some c2 → w.cell? ⟨b, o + 3, none⟩ = some c3 →
    SepT w t lo hi c0 c1 c2 c3 → ¬ (lo ≤ b ∧ b < hi) → Way w t b o p b' o' → (∀ x, S x → ¬ (lo ≤ x ∧ x < hi) ∧ x ≠ b) → (∀ x, lo ≤ x → x < hi → S2 x) →
    ∃ a e0 e1 e2 e3, repT t p u = some a ∧ (put4 w b' o' d0 d1 d2 d3).cell? ⟨b, o, none⟩ = some e0 ∧ (put4 w b' o' d0 d1 d2 d3).cell? ⟨b, o + 1, none⟩ = some e1 ∧ (put4 w b' o' d0 d1 d2 d3).cell? ⟨b, o + 2, none⟩ = some e2 ∧ (put4 w b' o' d0 d1 d2 d3).cell? ⟨b, o + 3, none⟩ = some e3 ∧
      IsIn S2 (put4 w b' o' d0 d1 d2 d3) a e0 e1 e2 e3 ∧ (b' = b ∧ o' = o ∨ lo ≤ b' ∧ b' < hi)
  | [], t, b, o, lo, hi, b', o', c0, c1, c2, c3, g0, g1, g2, g3, hT, hb, hw, hS, hS2 => by
    obtain ⟨rfl, rfl⟩ := hw
    obtain ⟨q0, q1, q2, q3⟩ := put4_at (d0 := d0) (d1 := d1) (d2 := d2) (d3 := d3) g0 g1 g2 g3
    exact ⟨u, d0, d1, d2, d3, rfl, q0, q1, q2, q3, IsIn_carry (fun x hx => put4_other _ _ _ _ _ _ _ _ (hS x hx).2) hSS _ _ _ _ _ hU, Or.inl ⟨rfl, rfl⟩⟩
  | i :: p, .mk k n s ks, b, o, lo, hi, b', o', c0, c1, c2, c3, g0, g1, g2, g3, hT, hb, hw, hS, hS2 => by
    obtain ⟨hi2, kb, ko, cap, hc3, hw⟩ := hw
    simp only [Tm.kids] at hi2 hc3 hw
    simp only [SepT] at hT
    obtain ⟨rfl, rfl, rfl, h4, h5, h6, h7, xa, cap', rfl, h9, h10⟩ := hT
    rw [g3] at hc3
    simp only [Option.some.injEq, Value.slice.injEq] at hc3
    obtain ⟨rfl, _, rfl⟩ := hc3
    rcases h10 with h0 | ⟨kb', he, hl, hbb, _, hr⟩
    · omega
    simp only [Option.some.injEq, Addr.mk.injEq, and_true] at he
    obtain ⟨rfl, rfl⟩ := he
    have hy : i.toNat < ks.length := by omega
    obtain ⟨ly, uy, f0, f1, f2, f3, j1, j2, j3, r0, r1, r2, r3, hK, hF⟩ := SepL_set (S := S2) ks kb 0 (kb + 1) hi i.toNat hr hy
    obtain ⟨a, e0, e1, e2, e3, hrep, s0, s1, s2, s3, hA, hplace⟩ := sep_store hU hSS p ks[i.toNat] kb (0 + i.toNat * 4) ly uy b' o' f0 f1 f2 f3 r0 r1 r2 r3 hK (by omega) hw
      (fun x hx => by
        obtain ⟨z1, z2⟩ := hS x hx
        constructor
        · omega
        · intro e; subst e; exact z1 ⟨hl, hbb⟩) (fun x hx hx2 => hS2 x (by omega) (by omega))
    have hbn : b ≠ b' := by
      intro e; subst e
      rcases hplace with ⟨e, _⟩ | h
      · subst e; exact hb ⟨hl, hbb⟩
      · exact hb (by omega)
    have hRow := hF (put4 w b' o' d0 d1 d2 d3) a e0 e1 e2 e3 (fun x hx hx2 hn => put4_other _ _ _ _ _ _ _ _ (by
        rcases hplace with ⟨e, _⟩ | h
        · omega
        · intro e; subst e; exact hn h))
      (fun q c _ hq hc => by
        rw [put4_far]
        · exact hc
        · rcases hplace with ⟨e, e2⟩ | h
          · right; omega
          · left; omega) s0 s1 s2 s3 hA (fun x hx hx2 => hS2 x (by omega) hx2) (hS2 kb hl hbb)
    refine ⟨.mk k n s (ks.set i.toNat a), .int .i64 k, .string n, .int .i64 s, .slice (some ⟨kb, 0, none⟩) ks.length cap', ?_, ?_, ?_, ?_, ?_, ?_, Or.inr ?_⟩
    · simp only [repT]
      rw [dif_pos (show 0 ≤ i ∧ i < ((Tm.mk k n s ks).kids.length : Int) from hi2)]
      simp only [Tm.kids, Tm.kind, Tm.name, Tm.sort, hrep, Option.map_some]
    · rw [put4_far (Or.inl hbn)]; exact g0
    · rw [put4_far (Or.inl hbn)]; exact g1
    · rw [put4_far (Or.inl hbn)]; exact g2
    · rw [put4_far (Or.inl hbn)]; exact g3
    · simp only [IsIn]
      exact ⟨trivial, trivial, trivial, h4, h5, h6, by rw [List.length_set]; exact h7, _, cap', by rw [List.length_set], by rw [List.length_set]; exact h9, hRow⟩
    · rcases hplace with ⟨e, _⟩ | h
      · subst e; exact ⟨hl, hbb⟩
      · omega

/-- A kid of a row, where it lies. -/
theorem SepL_get {w : World} : ∀ (ts : List Tm) (b o lo hi y : Nat), SepL w ts b o lo hi → ∀ hy : y < ts.length, ∃ ly uy c0 c1 c2 c3, w.cell? ⟨b, o + y * 4, none⟩ = some c0 ∧ w.cell? ⟨b, o + y * 4 + 1, none⟩ = some c1 ∧ w.cell? ⟨b, o + y * 4 + 2, none⟩ = some c2 ∧ w.cell? ⟨b, o + y * 4 + 3, none⟩ = some c3 ∧ SepT w ts[y] ly uy c0 c1 c2 c3
  | ts, b, o, lo, hi, y, h, hy => by
    obtain ⟨ly, uy, c0, c1, c2, c3, _, _, _, r0, r1, r2, r3, hT, _⟩ := SepL_set (S := fun _ => True) ts b o lo hi y h hy
    exact ⟨ly, uy, c0, c1, c2, c3, r0, r1, r2, r3, hT⟩
/-- The place that a way leads to may be written. -/
theorem way_sound {w : World} : ∀ (p : List Int) (t : Tm) (b o lo hi b' o' : Nat) (c0 c1 c2 c3 : Value), w.cell? ⟨b, o + 3, none⟩ = some c3 → SepT w t lo hi c0 c1 c2 c3 → Sound w b → Way w t b o p b' o' → Sound w b'
  | [], t, b, o, lo, hi, b', o', c0, c1, c2, c3, _, _, hs, hw => by obtain ⟨rfl, _⟩ := hw; exact hs
  | i :: p, .mk k n s ks, b, o, lo, hi, b', o', c0, c1, c2, c3, g3, hT, hs, hw => by
    obtain ⟨hi2, kb, ko, cap, hc3, hw⟩ := hw
    simp only [Tm.kids] at hi2 hc3 hw
    simp only [SepT] at hT
    obtain ⟨rfl, rfl, rfl, h4, h5, h6, h7, xa, cap', rfl, h9, h10⟩ := hT
    rw [g3] at hc3
    simp only [Option.some.injEq, Value.slice.injEq] at hc3
    obtain ⟨rfl, _, rfl⟩ := hc3
    rcases h10 with h0 | ⟨kb', he, hl, hbb, hs', hr⟩
    · omega
    simp only [Option.some.injEq, Addr.mk.injEq, and_true] at he
    obtain ⟨rfl, rfl⟩ := he
    have hy : i.toNat < ks.length := by omega
    obtain ⟨ly, uy, f0, f1, f2, f3, r0, r1, r2, r3, hK⟩ := SepL_get ks kb 0 (kb + 1) hi i.toNat hr hy
    exact way_sound p ks[i.toNat] kb (0 + i.toNat * 4) ly uy b' o' f0 f1 f2 f3 r3 hK hs' hw
theorem Way_carry {w w' : World} (hc : ∀ a v, w.cell? a = some v → w'.cell? a = some v) : ∀ (p : List Int) (t : Tm) (b o b' o' : Nat), Way w t b o p b' o' → Way w' t b o p b' o'
  | [], _, _, _, _, _, h => h
  | _ :: p, _, _, _, _, _, ⟨h, kb, ko, cap, h3, hw⟩ => ⟨h, kb, ko, cap, hc _ _ h3, Way_carry hc p _ _ _ _ _ hw⟩
theorem rep_none : ∀ (p : List Int) (t u : Tm), atT t p = none → repT t p u = none
  | [], t, u, h => by simp [atT] at h
  | i :: p, t, u, h => by
    simp only [atT] at h
    simp only [repT]
    split at h
    · rename_i hh
      rw [dif_pos hh, rep_none p _ u h]; rfl
    · rename_i hh
      rw [dif_neg hh]

end Go.Proofs.YtfbomoginjknlaaDoor

/-
  THE WALK OF term.find, SAID WITH THE WAY THAT IT TOOK.
-/
namespace Go.Proofs.YtfbomoginjknlaaDoor
open Go.RowKit

def FindWay (w : World) (t : Tm) (b o : Nat) (p : List Int) (r : Option Tm) (e : Ending) (w' : World) : Prop :=
  w = w' ∧ match r with
    | none => e = .returned (.pointer none)
    | some u => ∃ b' o', e = .returned (.pointer (some ⟨b', o', none⟩)) ∧ Lies w u b' o' ∧ Way w t b o p b' o'

set_option maxHeartbeats 1600000 in
set_option maxRecDepth 100000 in
theorem find_way (t : Tm) (p : List Int) (b o : Nat) (v : Value) (w : World) (hL : Lies w t b o) (hp : IntsV w v p) :
    Calls Tryd.prog 74 #[.pointer (some ⟨b, o, none⟩), v] w (FindWay w t b o p (atT t p)) := by
  obtain ⟨xa, cap, rfl, hpl, hrg, hc⟩ := hp
  unfold maxLen at hpl
  have HC := Lib.hid hc
  have HG := Lib.hid hrg
  have HL := Lib.hid hL
  clear hc hL hrg
  go_enter Tryd.func74, Tryd.ntmps74
  go_wp2_with fail
  go_loop [0, 9] (fun t0 i => ∃ (j : Nat) (u : Tm) (b' o' : Nat), j ≤ p.length ∧ i = .int .i64 j ∧ t0 = .pointer (some ⟨b', o', none⟩) ∧ Hid (Lies w u b' o') ∧ Hid (atT t p = atT u (p.drop j) ∧ ∀ b2 o2, Way w u b' o' (p.drop j) b2 o2 → Way w t b o p b2 o2)) (fun _ i => p.length - (intOf i).toNat)
  case atStart => exact ⟨0, t, b, o, Nat.zero_le _, rfl, rfl, HL, ⟨rfl, fun _ _ h => h⟩⟩
  case round =>
    obtain ⟨j, u, b', o', hj, rfl, rfl, HU, HA⟩ := hrel
    by_cases hlt : j < p.length
    rotate_left
    · have hd : p.drop j = [] := List.drop_eq_nil_of_le (by omega)
      have HF : Hid (FindWay w t b o p (atT t p) (.returned (.pointer (some ⟨b', o', none⟩))) w) := by
        show FindWay _ _ _ _ _ _ _ _
        rw [HA.out.1, hd]; exact ⟨rfl, b', o', rfl, HU.out, HA.out.2 b' o' (by rw [hd]; exact ⟨rfl, rfl⟩)⟩
      clear hd
      go_wp2_with fail
      go_ret
      exact HF.out
    obtain ⟨pb, po, hxa, hpc⟩ := HC.out (by omega)
    subst hxa
    have hx := hpc j hlt
    have hxr := HG.out _ (List.getElem_mem hlt)
    obtain ⟨x, hxe⟩ : ∃ x, p[j] = x := ⟨_, rfl⟩
    rw [hxe] at hx hxr
    have HE := Lib.hid hxe
    clear hxe
    obtain ⟨k, n, s, ks⟩ := u
    obtain ⟨_, _, _, _, _, _, hkl, ka, kcap, g3, hkc, hR⟩ := Lies_mk HU.out
    unfold maxLen at hkl
    have HR := Lib.hid hR
    have i1 : (0 : Int) ≤ (j : Int) := by omega
    have i2 : (j : Int) < (p.length : Int) := by omega
    clear hpc hR
    by_cases hlo : x < 0
    · have HF : Hid (FindWay w t b o p (atT t p) (.returned (.pointer none)) w) := by
        show FindWay _ _ _ _ _ _ _ _
        rw [HA.out.1, atT_out hlt (by rw [HE.out]; exact Or.inl hlo)]; exact ⟨rfl, rfl⟩
      go_wp2_with fail
      go_ret
      exact HF.out
    by_cases hhi : (ks.length : Int) ≤ x
    · have HF : Hid (FindWay w t b o p (atT t p) (.returned (.pointer none)) w) := by
        show FindWay _ _ _ _ _ _ _ _
        rw [HA.out.1, atT_out hlt (by rw [HE.out]; exact Or.inr hhi)]; exact ⟨rfl, rfl⟩
      go_wp2_with fail
      go_ret
      exact HF.out
    have hlo' : 0 ≤ x := by omega
    have hhi' : x < (ks.length : Int) := by omega
    obtain ⟨y, rfl⟩ := Int.eq_ofNat_of_zero_le hlo'
    have hy : y < ks.length := by omega
    obtain ⟨kb, ko, rfl⟩ := Row_at HR.out (by omega)
    have HK := Lib.hid (Row_get HR.out y hy)
    have HA2 : Hid (atT t p = atT ks[y] (p.drop (j + 1)) ∧ ∀ b2 o2, Way w ks[y] kb (ko + y * 4) (p.drop (j + 1)) b2 o2 → Way w t b o p b2 o2) := by
      refine ⟨?_, fun b2 o2 h => HA.out.2 b2 o2 ?_⟩
      · rw [HA.out.1]; exact atT_in (t := .mk k n s ks) hlt hy HE.out
      · rw [List.drop_eq_getElem_cons hlt, HE.out]
        refine ⟨⟨by omega, by simp only [Tm.kids]; omega⟩, kb, ko, kcap, g3, ?_⟩
        simp only [Tm.kids, Int.toNat_natCast]
        exact h
    clear HE HA
    go_wp2_with fail
    go_round
    case rel => exact ⟨j + 1, ks[y], kb, ko + y * 4, by omega, by go_num, rfl, HK, HA2⟩
    case measure => simp [intOf]; omega

end Go.Proofs.YtfbomoginjknlaaDoor

/-
  THE WALK OF the reference's Replace.
-/
namespace Go.Proofs.YtfbomoginjknlaaDoor
open Go.RowKit

/-- A slice of numbers that came in. -/
def IntsC (w : World) (v : Value) (l : List Int) : Prop :=
  ∃ xa cap, v = .slice xa l.length cap ∧ l.length ≤ cap ∧ cap ≤ maxLen ∧ (∀ x ∈ l, -9223372036854775808 ≤ x ∧ x ≤ 9223372036854775807) ∧ (0 < l.length → ∃ b o, xa = some ⟨b, o, none⟩ ∧ ∀ i (h : i < l.length), w.cell? ⟨b, o + i, none⟩ = some (.int .i64 l[i]))
theorem IntsC_V {w : World} {v : Value} {l : List Int} (h : IntsC w v l) : IntsV w v l := by
  obtain ⟨xa, cap, e, h1, h2, h3, h4⟩ := h
  exact ⟨xa, cap, e, by omega, h3, h4⟩
theorem IntsC_below {w w' : World} {v : Value} {l : List Int} (h : IntsC w v l) (hb : Below w.heap.size w w') : IntsC w' v l := by
  obtain ⟨xa, cap, e, h1, h2, h3, hc⟩ := h
  refine ⟨xa, cap, e, h1, h2, h3, fun h => ?_⟩
  obtain ⟨b, o, e, hc⟩ := hc h
  exact ⟨b, o, e, fun i hi => keep_below hb _ _ (hc i hi)⟩
theorem IntsC_cons {w : World} {v : Value} {i : Int} {p : List Int} (h : IntsC w v (i :: p)) : ∃ b o cap, v = .slice (some ⟨b, o, none⟩) (p.length + 1) cap ∧ p.length + 1 ≤ cap ∧ cap ≤ maxLen ∧ (-9223372036854775808 ≤ i ∧ i ≤ 9223372036854775807) ∧ w.cell? ⟨b, o, none⟩ = some (.int .i64 i) ∧ IntsC w (.slice (if cap = 1 then some ⟨b, o, none⟩ else some ⟨b, o + 1, none⟩) p.length (cap - 1)) p := by
  obtain ⟨xa, cap, rfl, h1, h2, h3, hc⟩ := h
  obtain ⟨b, o, rfl, hcc⟩ := hc (by simp)
  simp only [List.length_cons] at h1
  refine ⟨b, o, cap, rfl, h1, h2, h3 i (List.mem_cons_self ..), hcc 0 (by simp), _, cap - 1, rfl, by omega, by omega, fun x hx => h3 x (List.mem_cons_of_mem _ hx), fun hp => ⟨b, o + 1, by rw [if_neg (by omega)], fun j hj => ?_⟩⟩
  have := hcc (j + 1) (by simpa using hj)
  rw [show o + 1 + j = o + (j + 1) by omega]
  simpa using this

theorem RowIn_of_get {S : Nat → Prop} {w : World} : ∀ (l : List Tm) (b o : Nat), S b → (∀ j (h : j < l.length), ∃ c0 c1 c2 c3, w.cell? ⟨b, o + j * 4, none⟩ = some c0 ∧ w.cell? ⟨b, o + j * 4 + 1, none⟩ = some c1 ∧ w.cell? ⟨b, o + j * 4 + 2, none⟩ = some c2 ∧ w.cell? ⟨b, o + j * 4 + 3, none⟩ = some c3 ∧ IsIn S w l[j] c0 c1 c2 c3) → RowIn S w l (some ⟨b, o, none⟩)
  | [], _, _, _, _ => by simp [RowIn]
  | t :: ts, b, o, hb, h => by
    simp only [RowIn]
    obtain ⟨c0, c1, c2, c3, g0, g1, g2, g3, hI⟩ := h 0 (by simp)
    refine ⟨b, o, rfl, hb, ⟨c0, c1, c2, c3, by simpa using g0, by simpa using g1, by simpa using g2, by simpa using g3, hI⟩, RowIn_of_get ts b (o + 4) hb fun j hj => ?_⟩
    obtain ⟨d0, d1, d2, d3, q0, q1, q2, q3, hJ⟩ := h (j + 1) (by simpa using hj)
    rw [show o + (j + 1) * 4 = o + 4 + j * 4 by omega] at q0 q1 q2 q3
    exact ⟨d0, d1, d2, d3, q0, q1, q2, q3, by simpa using hJ⟩

/-- One element of a row of the call's own is written. -/
theorem row_put {S S1 S2 : Nat → Prop} {w : World} {H g cap n y : Nat} {T : TypeId} {ks : List Tm} {cs : List Value} {a : Tm} {d0 d1 d2 d3 : Value} (ho : w.ownsRow H T 4 (.slice (some ⟨g, 0, none⟩) n cap) n cs) (hK : KC S w ks cs) (hy : y < ks.length)
    (hA : IsIn S1 w a d0 d1 d2 d3) (hS : ∀ b, S b → b ≠ g ∧ S2 b) (hS1 : ∀ b, S1 b → b ≠ g ∧ S2 b) (hg : S2 g) : RowIn S2 (put4 w g (y * 4) d0 d1 d2 d3) (ks.set y a) (some ⟨g, 0, none⟩) := by
  have hc : ∀ j u, cs[j]? = some u → w.cell? ⟨g, j, none⟩ = some u := fun j u hu => by
    have := ho.cells (g := g) rfl j u hu
    rw [add_plain, Nat.zero_add] at this; exact this
  obtain ⟨z0, z1, z2, z3, m0, m1, m2, m3, _⟩ := KC_get hK y hy
  obtain ⟨q0, q1, q2, q3⟩ := put4_at (d0 := d0) (d1 := d1) (d2 := d2) (d3 := d3) (hc _ _ m0) (hc _ _ m1) (hc _ _ m2) (hc _ _ m3)
  refine RowIn_of_get _ g 0 hg fun j hj => ?_
  rw [List.length_set] at hj
  rw [Nat.zero_add]
  by_cases e : j = y
  · subst e
    refine ⟨d0, d1, d2, d3, q0, q1, q2, q3, ?_⟩
    rw [List.getElem_set_self]
    exact IsIn_carry (fun b hb => put4_other _ _ _ _ _ _ _ _ (hS1 b hb).1) (fun b hb => (hS1 b hb).2) _ _ _ _ _ hA
  · obtain ⟨c0, c1, c2, c3, g0, g1, g2, g3, hI⟩ := KC_get hK j hj
    refine ⟨c0, c1, c2, c3, ?_, ?_, ?_, ?_, ?_⟩
    · rw [put4_far (by omega)]; exact hc _ _ g0
    · rw [put4_far (by omega)]; exact hc _ _ g1
    · rw [put4_far (by omega)]; exact hc _ _ g2
    · rw [put4_far (by omega)]; exact hc _ _ g3
    · rw [List.getElem_set_ne (by omega)]
      exact IsIn_carry (fun b hb => put4_other _ _ _ _ _ _ _ _ (hS b hb).1) (fun b hb => (hS b hb).2) _ _ _ _ _ hI

def RrepPost (base : Nat) (w : World) (r : Option Tm) (e : Ending) (w' : World) : Prop :=
  Below w.heap.size w w' ∧ match r with
    | none => e = .returned (.tuple #[.agg #[.int .i64 0, .string ⟨#[]⟩, .int .i64 0, .slice none 0 0], .int .i64 7])
    | some a => ∃ c0 c1 c2 c3, e = .returned (.tuple #[.agg #[c0, c1, c2, c3], .int .i64 0]) ∧ IsIn (fun b => b < base ∨ w.heap.size ≤ b ∧ b < w'.heap.size) w' a c0 c1 c2 c3

theorem rep_box {w W : World} {o1 o2 : Obj} (h : Ext (((w.alloc o1).alloc o2).alloc (.cells #[.int .i64 0, .string ⟨#[]⟩, .int .i64 0, .slice none 0 0] 24)) W) :
    W.heap[w.heap.size + 1 + 1]? = some (.cells #[.int .i64 0, .string ⟨#[]⟩, .int .i64 0, .slice none 0 0] 24 (0, 0)) := by
  rw [h.block _ (by simp)]
  have := heap_alloc_new ((w.alloc o1).alloc o2) (.cells #[.int .i64 0, .string ⟨#[]⟩, .int .i64 0, .slice none 0 0] 24)
  rw [World.size_alloc, World.size_alloc] at this; exact this
theorem rep_boxes {w W : World} {a0 a1 a2 a3 b0 b1 b2 b3 : Value} {T : TypeId} {o3 : Obj} (h : Ext (((w.alloc (.cells #[a0, a1, a2, a3] T)).alloc (.cells #[b0, b1, b2, b3] T)).alloc o3) W) :
    (W.cell? ⟨w.heap.size, 0, none⟩ = some a0 ∧ W.cell? ⟨w.heap.size, 1, none⟩ = some a1 ∧ W.cell? ⟨w.heap.size, 2, none⟩ = some a2 ∧ W.cell? ⟨w.heap.size, 3, none⟩ = some a3) ∧
    (W.cell? ⟨w.heap.size + 1, 0, none⟩ = some b0 ∧ W.cell? ⟨w.heap.size + 1, 1, none⟩ = some b1 ∧ W.cell? ⟨w.heap.size + 1, 2, none⟩ = some b2 ∧ W.cell? ⟨w.heap.size + 1, 3, none⟩ = some b3) := by
  have k1 : W.heap[w.heap.size]? = some (.cells #[a0, a1, a2, a3] T (0, 0)) := by
    rw [h.block _ (by simp; omega), Below.heap_alloc _ _ _ (by simp; omega), Below.heap_alloc _ _ _ (by simp)]; exact heap_alloc_new w _
  have k2 : W.heap[w.heap.size + 1]? = some (.cells #[b0, b1, b2, b3] T (0, 0)) := by
    rw [h.block _ (by simp), Below.heap_alloc _ _ _ (by simp)]
    have := heap_alloc_new (w.alloc (.cells #[a0, a1, a2, a3] T)) (.cells #[b0, b1, b2, b3] T)
    rw [World.size_alloc] at this; exact this
  exact ⟨(box_facts k1).1, (box_facts k2).1⟩

end Go.Proofs.YtfbomoginjknlaaDoor

/-
  SLICES OF TERMS AND OF NUMBERS THAT CAME IN, AND STRINGS, OPENED.
-/
namespace Go.Proofs.YtfbomoginjknlaaDoor
open Go.ChangeShapes Go.WideShapes Go.ChangeAt Go.RowKit Go.Deep

section
variable {H : Type} {enc : TypeId × Value → H} {W : World} {base : Nat} {sp : Nat → Bool} {held : Bool}

theorem spot_none {W : World} {base n : Nat} {a : Addr} {cs : List Value} (h : W.cells? base a n = some cs) (hn : 0 < n) : a.spot = none := by
  obtain ⟨hl, _, hc⟩ := World.cells?_some h
  have h0 := hc 0 hn
  have hx : cs[0]? = some cs[0] := List.getElem?_eq_getElem (by omega)
  rw [hx] at h0
  exact World.cell?_spot (by simpa [Addr.add] using h0)

set_option maxRecDepth 100000 in
/-- A SLICE OF TERMS THAT CAME IN. -/
theorem open_terms {v : Value} {d : DataW H} {ps : List MemPlace} {r : Reach} {b0 : Nat} (hv : Value.okWide Tryd.prog W r b0 22 v) (h : DataW.Trod enc Tryd.prog W base sp held 22 v d ps) :
    ∃ (ls : List Tm) (xa : Option Addr) (cap : Nat), v = .slice xa ls.length cap ∧ ls.length ≤ cap ∧ ls.length ≤ maxLen ∧ Row W ls xa := by
  obtain ⟨a0, l0, c0, rfl⟩ := okWide_slice Tryd.underlying22 hv
  obtain ⟨fuel, hf⟩ := h
  have hcs : (Value.slice a0 l0 c0).cells.toList = [.slice a0 l0 c0] := rfl
  rw [hcs] at hf
  rcases DataW.trod_slice Tryd.underlying22 hf with ⟨e3, _⟩ | ⟨a, len, cap, elems, rest, m, hn, e3, _, hb, hlc, hcm, hel, hat, _⟩
  · simp only [List.cons.injEq, and_true, Value.slice.injEq] at e3
    obtain ⟨rfl, rfl, rfl⟩ := e3
    exact ⟨[], none, 0, rfl, Nat.le_refl _, Nat.zero_le _, by simp [Row]⟩
  · simp only [List.cons.injEq, and_true, Value.slice.injEq] at e3
    obtain ⟨rfl, rfl, rfl⟩ := e3
    rw [cellsTerm] at hat
    have hone : ∀ i, i < l0 → ∃ t : Tm, ∃ c0 c1 c2 c3, W.cells? base (a.add (i * 4)) 4 = some [c0, c1, c2, c3] ∧ Is W t c0 c1 c2 c3 := fun i hi => by
      have hi' : i < elems.length := by omega
      have := hat i hi
      rw [List.getElem?_eq_getElem hi'] at this
      obtain ⟨cs', hcs, htr⟩ := Option.bind_eq_some_iff.1 this
      obtain ⟨t, d0, d1, d2, d3, rfl, hI⟩ := open_term_upto m m cs' _ (Nat.le_refl _) htr
      exact ⟨t, d0, d1, d2, d3, hcs, hI⟩
    obtain ⟨f, hf'⟩ := choose_lt hone
    obtain ⟨ab, ao, spot⟩ := a
    have hll : ((List.range l0).map f).length = l0 := by simp
    refine ⟨(List.range l0).map f, some ⟨ab, ao, spot⟩, c0, by rw [hll], by rw [hll]; exact hlc, by rw [hll]; omega, ?_⟩
    by_cases h0 : l0 = 0
    · subst h0; simp [Row]
    · have hspot : spot = none := by
        obtain ⟨d0, d1, d2, d3, hcs, _⟩ := hf' 0 (by omega)
        obtain ⟨_, _, hc⟩ := World.cells?_some hcs
        have := hc 0 (by omega)
        simpa [Addr.add] using World.cell?_spot this
      subst hspot
      have := Row_of_family (w := W) f ab l0 ao 0 (fun i hi => by
        obtain ⟨d0, d1, d2, d3, hcs, hI⟩ := hf' i hi
        obtain ⟨_, _, hc⟩ := World.cells?_some hcs
        have g0 := hc 0 (by omega)
        have g1 := hc 1 (by omega)
        have g2 := hc 2 (by omega)
        have g3 := hc 3 (by omega)
        simp only [Addr.add_lit, List.getElem?_cons_zero, List.getElem?_cons_succ, Nat.add_zero] at g0 g1 g2 g3
        rw [Nat.zero_add]
        exact ⟨d0, d1, d2, d3, g0, g1, g2, g3, hI⟩)
      simpa using this

set_option maxRecDepth 100000 in
/-- A SLICE OF NUMBERS THAT CAME IN. -/
theorem open_ints_any {v : Value} {d : DataW H} {ps : List MemPlace} {r : Reach} {b0 : Nat} (hv : Value.okWide Tryd.prog W r b0 45 v) (h : DataW.Trod enc Tryd.prog W base sp held 45 v d ps) : ∃ l : List Int, IntsC W v l := by
  obtain ⟨a0, l0, c0, rfl⟩ := okWide_slice Tryd.underlying45 hv
  obtain ⟨fuel, hf⟩ := h
  have hcs : (Value.slice a0 l0 c0).cells.toList = [.slice a0 l0 c0] := rfl
  rw [hcs] at hf
  rcases open_ints Tryd.underlying45 Tryd.underlying3 cellsInt hf with ⟨e3, _⟩ | ⟨a, len, cap, zs, e3, _, hlc, hcm, hzl, _, hcell, hwf⟩
  · simp only [List.cons.injEq, and_true, Value.slice.injEq] at e3
    obtain ⟨rfl, rfl, rfl⟩ := e3
    exact ⟨[], none, 0, rfl, Nat.le_refl _, Nat.zero_le _, by simp, by simp⟩
  · simp only [List.cons.injEq, and_true, Value.slice.injEq] at e3
    obtain ⟨rfl, rfl, rfl⟩ := e3
    have hlz : l0 ≤ zs.length := by rw [hzl]; split <;> omega
    have hll : (zs.take l0).length = l0 := by rw [List.length_take]; omega
    refine ⟨zs.take l0, some a, c0, by rw [hll], by rw [hll]; exact hlc, hcm, fun x hx => bounds_i64 (hwf x (List.mem_of_mem_take hx)), fun hp => ?_⟩
    rw [hll] at hp
    obtain ⟨ab, ao, spot⟩ := a
    have h0 := hcell 0 (by omega)
    have hspot : spot = none := by simpa [Addr.add] using World.cell?_spot h0
    subst hspot
    refine ⟨ab, ao, rfl, fun i hi => ?_⟩
    rw [hll] at hi
    have := hcell i (by omega)
    rw [Addr.add_lit] at this
    rw [this, List.getElem_take]
    simp [List.getD_eq_getElem?_getD, List.getElem?_eq_getElem (show i < zs.length by omega)]

set_option maxRecDepth 100000 in
/-- A STRING THAT CAME IN. -/
theorem open_text {v : Value} {d : DataW H} {ps : List MemPlace} {r : Reach} {b0 : Nat} (hv : Value.okWide Tryd.prog W r b0 9 v) (h : DataW.Trod enc Tryd.prog W base sp held 9 v d ps) : ∃ s : ByteArray, v = .string s ∧ s.size ≤ maxLen := by
  obtain ⟨s0, rfl⟩ := okWide_string Tryd.underlying9 hv
  obtain ⟨fuel, hf⟩ := h
  have hcs : (Value.string s0).cells.toList = [.string s0] := rfl
  rw [hcs] at hf
  obtain ⟨s, e1, _, w1⟩ := DataW.trod_string Tryd.underlying9 hf
  simp only [List.cons.injEq, and_true, Value.string.injEq] at e1
  subst e1
  exact ⟨s0, rfl, w1⟩
end

end Go.Proofs.YtfbomoginjknlaaDoor

/-
  SLICES OF BINDINGS THAT CAME IN, OPENED.
-/
namespace Go.Proofs.YtfbomoginjknlaaDoor
open Go.ChangeShapes Go.WideShapes Go.ChangeAt Go.RowKit Go.Deep

theorem Row_of_familyB {w : World} (f : Nat → Bd) (b : Nat) : ∀ (n o k : Nat), (∀ i, i < n → Lies w (f (k + i)).1 b (o + i * 8) ∧ Lies w (f (k + i)).2 b (o + i * 8 + 4)) → Row w (flatB ((List.range n).map fun i => f (k + i))) (some ⟨b, o, none⟩)
  | 0, o, k, _ => by simp [flatB, Row]
  | n + 1, o, k, h => by
    rw [List.range_succ_eq_map, List.map_cons, List.map_map, flatB]
    have h0 := h 0 (by omega)
    simp only [Nat.add_zero, Nat.zero_mul] at h0 ⊢
    refine Row_cons_mk h0.1 (Row_cons_mk h0.2 ?_)
    have h2 := Row_of_familyB f b n (o + 8) (k + 1) (fun i hi => by
      have := h (i + 1) (by omega)
      rw [show o + 8 + i * 8 = o + (i + 1) * 8 by omega, show k + 1 + i = k + (i + 1) by omega]; exact this)
    have e : (fun i => f (k + 1 + i)) = ((fun i => f (k + i)) ∘ Nat.succ) := by
      funext i; simp only [Function.comp]; rw [show k + 1 + i = k + (i + 1) by omega]
    rw [e] at h2; exact h2

section
variable {H : Type} {enc : TypeId × Value → H} {W : World} {base : Nat} {sp : Nat → Bool} {held : Bool}

end
end Go.Proofs.YtfbomoginjknlaaDoor
