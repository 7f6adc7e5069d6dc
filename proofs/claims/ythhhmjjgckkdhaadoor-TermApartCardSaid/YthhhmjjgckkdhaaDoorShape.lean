/-
  THE SHAPE OF A TERM IN MEMORY OF ITS OWN: rows of kids, each in a block of its own, whatever the other fields hold; what the reference's Spoil asks.
-/
import Derived.Test.YthhhmjjgckkdhaaDoorSep
namespace Go.Proofs.YthhhmjjgckkdhaaDoor
open Go.RowKit

mutual
/-- A value that is the row of a term's kids, the rows below lying in blocks from lo to hi. -/
def ShT (w : World) : Tm → Nat → Nat → Value → Prop
  | .mk _ _ _ ks, lo, hi, c3 => ks.length ≤ maxLen ∧ ∃ xa cap, c3 = .slice xa ks.length cap ∧ ks.length ≤ cap ∧ (ks.length = 0 ∨ ∃ kb, xa = some ⟨kb, 0, none⟩ ∧ lo ≤ kb ∧ kb < hi ∧ Sound w kb ∧ ShL w ks kb 0 (kb + 1) hi)
def ShL (w : World) : List Tm → Nat → Nat → Nat → Nat → Prop
  | [], _, _, _, _ => True
  | t :: ts, b, o, lo, hi => ∃ m, lo ≤ m ∧ m ≤ hi ∧ (∃ (c0 : Int) (c1 : ByteArray) (c2 : Int) (c3 : Value), w.cell? ⟨b, o, none⟩ = some (.int .i64 c0) ∧ w.cell? ⟨b, o + 1, none⟩ = some (.string c1) ∧ w.cell? ⟨b, o + 2, none⟩ = some (.int .i64 c2) ∧ w.cell? ⟨b, o + 3, none⟩ = some c3 ∧ ShT w t lo m c3) ∧ ShL w ts b (o + 4) m hi
end

theorem SepT_head {w : World} {t : Tm} {lo hi : Nat} {c0 c1 c2 c3 : Value} (h : SepT w t lo hi c0 c1 c2 c3) : ∃ (k : Int) (n : ByteArray) (s : Int), c0 = .int .i64 k ∧ c1 = .string n ∧ c2 = .int .i64 s := by
  obtain ⟨k, n, s, ks⟩ := t
  simp only [SepT] at h
  obtain ⟨rfl, rfl, rfl, _⟩ := h
  exact ⟨_, _, _, rfl, rfl, rfl⟩
theorem SepT_ShT {w : World} (t : Tm) : ∀ lo hi c0 c1 c2 c3, SepT w t lo hi c0 c1 c2 c3 → ShT w t lo hi c3 := by
  refine Tm.rec (motive_1 := fun t => ∀ lo hi c0 c1 c2 c3, SepT w t lo hi c0 c1 c2 c3 → ShT w t lo hi c3) (motive_2 := fun ts => ∀ b o lo hi, SepL w ts b o lo hi → ShL w ts b o lo hi) ?_ ?_ ?_ t
  · intro k n s ks ih lo hi c0 c1 c2 c3 h
    simp only [SepT] at h
    simp only [ShT]
    obtain ⟨_, _, _, _, _, _, h7, xa, cap, h8, h9, h10⟩ := h
    refine ⟨h7, xa, cap, h8, h9, ?_⟩
    rcases h10 with h0 | ⟨kb, e, hl, hb, hs, hr⟩
    · exact Or.inl h0
    · exact Or.inr ⟨kb, e, hl, hb, hs, ih _ _ _ _ hr⟩
  · intro b o lo hi _; simp [ShL]
  · intro t ts h1 h2 b o lo hi h
    simp only [SepL] at h
    simp only [ShL]
    obtain ⟨m, hm1, hm2, ⟨c0, c1, c2, c3, g0, g1, g2, g3, hI⟩, hR⟩ := h
    have hh := h1 _ _ _ _ _ _ hI
    obtain ⟨k, n, s, rfl, rfl, rfl⟩ := SepT_head hI
    exact ⟨m, hm1, hm2, ⟨k, n, s, c3, g0, g1, g2, g3, hh⟩, h2 _ _ _ _ hR⟩
theorem ShT_carry {w w' : World} (t : Tm) : ∀ lo hi c3, (∀ x, lo ≤ x → x < hi → w'.heap[x]? = w.heap[x]?) → ShT w t lo hi c3 → ShT w' t lo hi c3 := by
  refine Tm.rec (motive_1 := fun t => ∀ lo hi c3, (∀ x, lo ≤ x → x < hi → w'.heap[x]? = w.heap[x]?) → ShT w t lo hi c3 → ShT w' t lo hi c3)
    (motive_2 := fun ts => ∀ b o lo hi, (∀ x, lo ≤ x → x < hi → w'.heap[x]? = w.heap[x]?) → (∀ q c, o ≤ q → w.cell? ⟨b, q, none⟩ = some c → w'.cell? ⟨b, q, none⟩ = some c) → ShL w ts b o lo hi → ShL w' ts b o lo hi) ?_ ?_ ?_ t
  · intro k n s ks ih lo hi c3 hh h
    simp only [ShT] at h ⊢
    obtain ⟨h7, xa, cap, h8, h9, h10⟩ := h
    refine ⟨h7, xa, cap, h8, h9, ?_⟩
    rcases h10 with h0 | ⟨kb, rfl, hl, hb, ⟨cs, hs⟩, hr⟩
    · exact Or.inl h0
    · have hk := hh kb hl hb
      refine Or.inr ⟨kb, rfl, hl, hb, ⟨cs, by rw [hk]; exact hs⟩, ih kb 0 (kb + 1) hi (fun x hx hx2 => hh x (by omega) hx2) (fun q c _ hc => ?_) hr⟩
      unfold World.cell? at hc ⊢
      simp only at hc ⊢
      rw [hk]; exact hc
  · intro b o lo hi _ _ _; simp [ShL]
  · intro t ts h1 h2 b o lo hi hh hc h
    simp only [ShL] at h ⊢
    obtain ⟨m, hm1, hm2, ⟨c0, c1, c2, c3, g0, g1, g2, g3, hI⟩, hR⟩ := h
    exact ⟨m, hm1, hm2, ⟨c0, c1, c2, c3, hc _ _ (Nat.le_refl _) g0, hc _ _ (by omega) g1, hc _ _ (by omega) g2, hc _ _ (by omega) g3, h1 lo m c3 (fun x hx hx2 => hh x hx (by omega)) hI⟩,
      h2 b (o + 4) m hi (fun x hx hx2 => hh x (by omega) hx2) (fun q c hq hq2 => hc q c (by omega) hq2) hR⟩
theorem ShL_carry {w w' : World} : ∀ (ts : List Tm) (b o lo hi : Nat), (∀ x, lo ≤ x → x < hi → w'.heap[x]? = w.heap[x]?) → (∀ q c, o ≤ q → w.cell? ⟨b, q, none⟩ = some c → w'.cell? ⟨b, q, none⟩ = some c) → ShL w ts b o lo hi → ShL w' ts b o lo hi
  | [], b, o, lo, hi, _, _, _ => by simp [ShL]
  | t :: ts, b, o, lo, hi, hh, hc, h => by
    simp only [ShL] at h ⊢
    obtain ⟨m, hm1, hm2, ⟨c0, c1, c2, c3, g0, g1, g2, g3, hI⟩, hR⟩ := h
    exact ⟨m, hm1, hm2, ⟨c0, c1, c2, c3, hc _ _ (Nat.le_refl _) g0, hc _ _ (by omega) g1, hc _ _ (by omega) g2, hc _ _ (by omega) g3, ShT_carry t lo m c3 (fun x hx hx2 => hh x hx (by omega)) hI⟩,
      ShL_carry ts b (o + 4) m hi (fun x hx hx2 => hh x (by omega) hx2) (fun q c hq hq2 => hc q c (by omega) hq2) hR⟩
theorem ShL_hi {w : World} {hi hi' : Nat} (hh : hi ≤ hi') : ∀ (ts : List Tm) (b o lo : Nat), ShL w ts b o lo hi → ShL w ts b o lo hi'
  | [], _, _, _, _ => by simp [ShL]
  | t :: ts, b, o, lo, h => by
    simp only [ShL] at h ⊢
    obtain ⟨m, hm1, hm2, hc, hR⟩ := h
    exact ⟨m, hm1, by omega, hc, ShL_hi hh ts b (o + 4) m hR⟩
theorem ShT_wider {w : World} (t : Tm) {lo lo' hi hi' : Nat} {c3 : Value} (hl : lo' ≤ lo) (hh : hi ≤ hi') (h : ShT w t lo hi c3) : ShT w t lo' hi' c3 := by
  obtain ⟨k, n, s, ks⟩ := t
  simp only [ShT] at h ⊢
  obtain ⟨h7, xa, cap, h8, h9, h10⟩ := h
  refine ⟨h7, xa, cap, h8, h9, ?_⟩
  rcases h10 with h0 | ⟨kb, e, a1, a2, hs, hr⟩
  · exact Or.inl h0
  · exact Or.inr ⟨kb, e, by omega, by omega, hs, ShL_hi hh _ _ _ _ hr⟩

theorem Sound_set {w : World} {b : Nat} (h : Sound w b) (a : Addr) (v : Value) : Sound (w.setCell a v) b := by
  obtain ⟨cs, h⟩ := h
  by_cases e : a.block = b
  · subst e
    by_cases hsp : a.spot.isSome = true
    · exact ⟨cs, by simp [World.setCell, Array.getElem?_modify, h, hsp]⟩
    · exact ⟨cs.setIfInBounds a.off v, by simp [World.setCell, Array.getElem?_modify, h, hsp]⟩
  · exact ⟨cs, by rw [Below.heap_setCell _ _ _ _ (fun e2 => e e2.symm)]; exact h⟩
theorem Sound_put4 {w : World} {b : Nat} (h : Sound w b) (g o : Nat) (d0 d1 d2 d3 : Value) : Sound (put4 w g o d0 d1 d2 d3) b := by
  unfold put4
  exact Sound_set (Sound_set (Sound_set (Sound_set h _ _) _ _) _ _) _ _

theorem ShL_set {w : World} : ∀ (ts : List Tm) (b o lo hi y : Nat), ShL w ts b o lo hi → ∀ hy : y < ts.length, ∃ ly uy, ∃ (c0 : Int) (c1 : ByteArray) (c2 : Int) (c3 : Value), lo ≤ ly ∧ ly ≤ uy ∧ uy ≤ hi ∧ w.cell? ⟨b, o + y * 4, none⟩ = some (.int .i64 c0) ∧ w.cell? ⟨b, o + y * 4 + 1, none⟩ = some (.string c1) ∧ w.cell? ⟨b, o + y * 4 + 2, none⟩ = some (.int .i64 c2) ∧ w.cell? ⟨b, o + y * 4 + 3, none⟩ = some c3 ∧
    ShT w ts[y] ly uy c3 ∧ ∀ (w' : World) (a : Tm) (e0 : Int) (e1 : ByteArray) (e2 : Int) (e3 : Value), (∀ x, lo ≤ x → x < hi → ¬ (ly ≤ x ∧ x < uy) → w'.heap[x]? = w.heap[x]?) → (∀ q c, o ≤ q → (q < o + y * 4 ∨ o + y * 4 + 4 ≤ q) → w.cell? ⟨b, q, none⟩ = some c → w'.cell? ⟨b, q, none⟩ = some c) →
      w'.cell? ⟨b, o + y * 4, none⟩ = some (.int .i64 e0) → w'.cell? ⟨b, o + y * 4 + 1, none⟩ = some (.string e1) → w'.cell? ⟨b, o + y * 4 + 2, none⟩ = some (.int .i64 e2) → w'.cell? ⟨b, o + y * 4 + 3, none⟩ = some e3 → ShT w' a ly uy e3 → ShL w' (ts.set y a) b o lo hi
  | t :: ts, b, o, lo, hi, 0, h, _ => by
    simp only [ShL] at h
    obtain ⟨m, hm1, hm2, ⟨c0, c1, c2, c3, g0, g1, g2, g3, hI⟩, hR⟩ := h
    refine ⟨lo, m, c0, c1, c2, c3, Nat.le_refl _, hm1, hm2, by simpa using g0, by simpa using g1, by simpa using g2, by simpa using g3, hI, fun w' a e0 e1 e2 e3 hh hc q0 q1 q2 q3 hA => ?_⟩
    simp only [List.set_cons_zero, ShL]
    simp only [Nat.zero_mul, Nat.add_zero] at q0 q1 q2 q3 hc
    exact ⟨m, hm1, hm2, ⟨e0, e1, e2, e3, q0, q1, q2, q3, hA⟩, ShL_carry ts b (o + 4) m hi (fun x hx hx2 => hh x (by omega) hx2 (by omega)) (fun q c hq hq2 => hc q c (by omega) (Or.inr (by omega)) hq2) hR⟩
  | t :: ts, b, o, lo, hi, y + 1, h, hy => by
    simp only [ShL] at h
    obtain ⟨m, hm1, hm2, ⟨c0, c1, c2, c3, g0, g1, g2, g3, hI⟩, hR⟩ := h
    obtain ⟨ly, uy, d0, d1, d2, d3, h1, h2, h3, r0, r1, r2, r3, hT, hF⟩ := ShL_set ts b (o + 4) m hi y hR (by simpa using hy)
    have e : o + (y + 1) * 4 = o + 4 + y * 4 := by omega
    rw [e]
    refine ⟨ly, uy, d0, d1, d2, d3, by omega, h2, h3, r0, r1, r2, r3, by simpa using hT, fun w' a e0 e1 e2 e3 hh hc q0 q1 q2 q3 hA => ?_⟩
    simp only [List.set_cons_succ, ShL]
    exact ⟨m, hm1, hm2, ⟨c0, c1, c2, c3, hc _ _ (Nat.le_refl _) (Or.inl (by omega)) g0, hc _ _ (by omega) (Or.inl (by omega)) g1, hc _ _ (by omega) (Or.inl (by omega)) g2, hc _ _ (by omega) (Or.inl (by omega)) g3,
        ShT_carry t lo m c3 (fun x hx hx2 => hh x hx (by omega) (by omega)) hI⟩,
      hF w' a e0 e1 e2 e3 (fun x hx hx2 => hh x (by omega) hx2) (fun q c hq => hc q c (by omega)) q0 q1 q2 q3 hA⟩

/-- A STORE OF A TERM WITHOUT KIDS AT A PLACE OF THE TERM. -/
theorem sh_store {w : World} {u : Tm} {d0 : Int} {d1 : ByteArray} {d2 : Int} {d3 : Value} (hU : ∀ W l h, ShT W u l h d3) : ∀ (p : List Int) (t : Tm) (b o lo hi b' o' : Nat) (c0 : Int) (c1 : ByteArray) (c2 : Int) (c3 : Value), w.cell? ⟨b, o, none⟩ = some (.int .i64 c0) → w.cell? ⟨b, o + 1, none⟩ = some (.string c1) → w.cell? ⟨b, o + 2, none⟩ = some (.int .i64 c2) → w.cell? ⟨b, o + 3, none⟩ = some c3 →
    ShT w t lo hi c3 → ¬ (lo ≤ b ∧ b < hi) → Way w t b o p b' o' →
    ∃ (a : Tm) (e0 : Int) (e1 : ByteArray) (e2 : Int) (e3 : Value), repT t p u = some a ∧ (put4 w b' o' (.int .i64 d0) (.string d1) (.int .i64 d2) d3).cell? ⟨b, o, none⟩ = some (.int .i64 e0) ∧ (put4 w b' o' (.int .i64 d0) (.string d1) (.int .i64 d2) d3).cell? ⟨b, o + 1, none⟩ = some (.string e1) ∧ (put4 w b' o' (.int .i64 d0) (.string d1) (.int .i64 d2) d3).cell? ⟨b, o + 2, none⟩ = some (.int .i64 e2) ∧ (put4 w b' o' (.int .i64 d0) (.string d1) (.int .i64 d2) d3).cell? ⟨b, o + 3, none⟩ = some e3 ∧
      ShT (put4 w b' o' (.int .i64 d0) (.string d1) (.int .i64 d2) d3) a lo hi e3 ∧ (b' = b ∧ o' = o ∨ lo ≤ b' ∧ b' < hi)
  | [], t, b, o, lo, hi, b', o', c0, c1, c2, c3, g0, g1, g2, g3, hT, hb, hw => by
    obtain ⟨rfl, rfl⟩ := hw
    obtain ⟨q0, q1, q2, q3⟩ := put4_at (d0 := .int .i64 d0) (d1 := .string d1) (d2 := .int .i64 d2) (d3 := d3) g0 g1 g2 g3
    exact ⟨u, d0, d1, d2, d3, rfl, q0, q1, q2, q3, hU _ _ _, Or.inl ⟨rfl, rfl⟩⟩
  | i :: p, .mk k n s ks, b, o, lo, hi, b', o', c0, c1, c2, c3, g0, g1, g2, g3, hT, hb, hw => by
    obtain ⟨hi2, kb, ko, cap, hc3, hw⟩ := hw
    simp only [Tm.kids] at hi2 hc3 hw
    simp only [ShT] at hT
    obtain ⟨h7, xa, cap', rfl, h9, h10⟩ := hT
    rw [g3] at hc3
    simp only [Option.some.injEq, Value.slice.injEq] at hc3
    obtain ⟨rfl, _, rfl⟩ := hc3
    rcases h10 with h0 | ⟨kb', he, hl, hbb, hsd, hr⟩
    · omega
    simp only [Option.some.injEq, Addr.mk.injEq, and_true] at he
    obtain ⟨rfl, rfl⟩ := he
    have hy : i.toNat < ks.length := by omega
    obtain ⟨ly, uy, f0, f1, f2, f3, j1, j2, j3, r0, r1, r2, r3, hK, hF⟩ := ShL_set ks kb 0 (kb + 1) hi i.toNat hr hy
    obtain ⟨a, e0, e1, e2, e3, hrep, s0, s1, s2, s3, hA, hplace⟩ := sh_store hU p ks[i.toNat] kb (0 + i.toNat * 4) ly uy b' o' f0 f1 f2 f3 r0 r1 r2 r3 hK (by omega) hw
    have hbn : b ≠ b' := by
      intro e; subst e
      rcases hplace with ⟨e, _⟩ | h
      · subst e; exact hb ⟨hl, hbb⟩
      · exact hb (by omega)
    have hRow := hF (put4 w b' o' (.int .i64 d0) (.string d1) (.int .i64 d2) d3) a e0 e1 e2 e3 (fun x hx hx2 hn => put4_other _ _ _ _ _ _ _ _ (by
        rcases hplace with ⟨e, _⟩ | h
        · omega
        · intro e; subst e; exact hn h))
      (fun q c _ hq hc => by
        rw [put4_far]
        · exact hc
        · rcases hplace with ⟨e, e2⟩ | h
          · right; omega
          · left; omega) s0 s1 s2 s3 hA
    refine ⟨.mk k n s (ks.set i.toNat a), c0, c1, c2, .slice (some ⟨kb, 0, none⟩) ks.length cap', ?_, ?_, ?_, ?_, ?_, ?_, Or.inr ?_⟩
    · simp only [repT]
      rw [dif_pos (show 0 ≤ i ∧ i < ((Tm.mk k n s ks).kids.length : Int) from hi2)]
      simp only [Tm.kids, Tm.kind, Tm.name, Tm.sort, hrep, Option.map_some]
    · rw [put4_far (Or.inl hbn)]; exact g0
    · rw [put4_far (Or.inl hbn)]; exact g1
    · rw [put4_far (Or.inl hbn)]; exact g2
    · rw [put4_far (Or.inl hbn)]; exact g3
    · simp only [ShT]
      exact ⟨by rw [List.length_set]; exact h7, _, cap', by rw [List.length_set], by rw [List.length_set]; exact h9, Or.inr ⟨kb, rfl, hl, hbb, Sound_put4 hsd _ _ _ _ _ _, hRow⟩⟩
    · rcases hplace with ⟨e, _⟩ | h
      · subst e; exact ⟨hl, hbb⟩
      · omega

theorem repT_mk' {k s : Int} {n : ByteArray} {ks : List Tm} {i : Int} {p : List Int} {u a : Tm} (h : repT (.mk k n s ks) (i :: p) u = some a) : ∃ (y : Nat) (hy : y < ks.length) (x : Tm), i = (y : Int) ∧ repT ks[y] p u = some x ∧ a = .mk k n s (ks.set y x) := by
  simp only [repT] at h
  split at h
  · rename_i hh
    rw [Option.map_eq_some_iff] at h
    obtain ⟨x, hx, rfl⟩ := h
    have hh' : 0 ≤ i ∧ i < (ks.length : Int) := hh
    refine ⟨i.toNat, by omega, x, by omega, hx, rfl⟩
  · cases h
theorem set_size' : ∀ (ks : List Tm) (y : Nat) (x : Tm) (h : y < ks.length), sizes (ks.set y x) + size ks[y] = sizes ks + size x
  | k :: ks, 0, x, _ => by simp only [List.set_cons_zero, sizes, List.getElem_cons_zero]; omega
  | k :: ks, y + 1, x, h => by
    have := set_size' ks y x (by simpa using h)
    simp only [List.set_cons_succ, sizes, List.getElem_cons_succ]; omega
theorem rep_size' : ∀ (p : List Int) (t u a : Tm), repT t p u = some a → size a ≤ size t + size u
  | [], t, u, a, h => by simp only [repT, Option.some.injEq] at h; subst h; omega
  | i :: p, .mk k n s ks, u, a, h => by
    obtain ⟨y, hy, x, rfl, hx, rfl⟩ := repT_mk' h
    have h1 := rep_size' p _ u x hx
    have h2 := set_size' ks y x hy
    simp only [size]; omega
theorem rep_some' : ∀ (p : List Int) (t u x : Tm), atT t p = some x → ∃ a, repT t p u = some a
  | [], t, u, x, _ => ⟨u, rfl⟩
  | i :: p, t, u, x, h => by
    simp only [atT] at h
    split at h
    · rename_i hh
      obtain ⟨a, ha⟩ := rep_some' p _ u x h
      simp only [repT]
      rw [dif_pos hh, ha]
      exact ⟨_, rfl⟩
    · cases h

end Go.Proofs.YthhhmjjgckkdhaaDoor
