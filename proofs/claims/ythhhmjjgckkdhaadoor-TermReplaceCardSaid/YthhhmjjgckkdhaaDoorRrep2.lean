/-
  THE LAST STEP OF the reference's Replace, plain.
-/
import Derived.Test.YthhhmjjgckkdhaaDoorRrep
namespace Go.Proofs.YthhhmjjgckkdhaaDoor
open Go.RowKit

/-- The cells of a row that lies, where its rows below may lie. -/
theorem KC_of_RowIn {S : Nat → Prop} {w : World} : ∀ (ts : List Tm) (b o : Nat), RowIn S w ts (some ⟨b, o, none⟩) → ∃ cs, KC S w ts cs ∧ ∀ j u, cs[j]? = some u → w.cell? ((⟨b, o, none⟩ : Addr).add j) = some u
  | [], b, o, _ => ⟨[], rfl, fun j u hu => by simp at hu⟩
  | t :: ts, b, o, h => by
    simp only [RowIn] at h
    obtain ⟨b', o', e, _, ⟨c0, c1, c2, c3, g0, g1, g2, g3, hI⟩, h2⟩ := h
    simp only [Option.some.injEq, Addr.mk.injEq, and_true] at e
    obtain ⟨rfl, rfl⟩ := e
    obtain ⟨r, hK, hr⟩ := KC_of_RowIn ts b (o + 4) h2
    refine ⟨c0 :: c1 :: c2 :: c3 :: r, ⟨c0, c1, c2, c3, r, rfl, hI, hK⟩, fun j u hu => ?_⟩
    match j, hu with
    | 0, hu => simp only [List.getElem?_cons_zero, Option.some.injEq] at hu; subst hu; exact g0
    | 1, hu => simp only [List.getElem?_cons_succ, List.getElem?_cons_zero, Option.some.injEq] at hu; subst hu; exact g1
    | 2, hu => simp only [List.getElem?_cons_succ, List.getElem?_cons_zero, Option.some.injEq] at hu; subst hu; exact g2
    | 3, hu => simp only [List.getElem?_cons_succ, List.getElem?_cons_zero, Option.some.injEq] at hu; subst hu; exact g3
    | j + 4, hu =>
      simp only [List.getElem?_cons_succ] at hu
      have := hr j u hu
      have e : (⟨b, o, none⟩ : Addr).add (j + 4) = (⟨b, o + 4, none⟩ : Addr).add j := by rw [add_plain, add_plain, show o + (j + 4) = o + 4 + j by omega]
      rw [e]; exact this

/-- A box that holds a term. -/
def BoxIn (S : Nat → Prop) (w : World) (a : Tm) (B : Nat) : Prop :=
  ∃ c0 c1 c2 c3, w.cell? ⟨B, 0, none⟩ = some c0 ∧ w.cell? ⟨B, 1, none⟩ = some c1 ∧ w.cell? ⟨B, 2, none⟩ = some c2 ∧ w.cell? ⟨B, 3, none⟩ = some c3 ∧ IsIn S w a c0 c1 c2 c3
theorem boxin_new {base lo m : Nat} {w7 : World} {a : Tm} {e0 e1 e2 e3 : Value} (hJ : IsIn (fun b => b < base ∨ m ≤ b ∧ b < w7.heap.size) w7 a e0 e1 e2 e3) (hb : base ≤ w7.heap.size) (hm : lo ≤ m) :
    BoxIn (fun b => b < base ∨ lo ≤ b ∧ b < (w7.alloc (.cells #[e0, e1, e2, e3] 24)).heap.size) (w7.alloc (.cells #[e0, e1, e2, e3] 24)) a w7.heap.size := by
  obtain ⟨h0, h1, h2, h3⟩ := box_cells w7 e0 e1 e2 e3 24
  refine ⟨e0, e1, e2, e3, h0, h1, h2, h3, IsIn_carry (fun b hb' => Below.heap_alloc _ _ _ (by omega)) (fun b hb' => ?_) _ _ _ _ _ hJ⟩
  simp only [World.size_alloc]; omega
theorem boxin_put {base lo m B : Nat} {w7 : World} {a : Tm} {e0 e1 e2 e3 z0 z1 z2 z3 : Value} {T : TypeId} (hz : w7.heap[B]? = some (.cells #[z0, z1, z2, z3] T (0, 0))) (hJ : IsIn (fun b => b < base ∨ m ≤ b ∧ b < w7.heap.size) w7 a e0 e1 e2 e3) (hb : base ≤ B) (hm : B < m) (hl : lo ≤ B) :
    BoxIn (fun b => b < base ∨ lo ≤ b ∧ b < (put4 w7 B 0 e0 e1 e2 e3).heap.size) (put4 w7 B 0 e0 e1 e2 e3) a B := by
  obtain ⟨⟨h0, h1, h2, h3⟩, _⟩ := box_facts (put4_box (y0 := e0) (y1 := e1) (y2 := e2) (y3 := e3) hz)
  refine ⟨e0, e1, e2, e3, h0, h1, h2, h3, IsIn_carry (fun b hb' => put4_other _ _ _ _ _ _ _ _ (by omega)) (fun b hb' => ?_) _ _ _ _ _ hJ⟩
  have := put4_size w7 B 0 e0 e1 e2 e3
  omega

/-- The four cells of an element of a row of the call's own. -/
theorem own_four {w : World} {H g cap n y : Nat} {T : TypeId} {cs : List Value} (ho : w.ownsRow H T 4 (.slice (some ⟨g, 0, none⟩) n cap) n cs) (hy : y < n) :
    (∃ z0 z1 z2 z3, w.cell? ⟨g, y * 4, none⟩ = some z0 ∧ w.cell? ⟨g, y * 4 + 1, none⟩ = some z1 ∧ w.cell? ⟨g, y * 4 + 2, none⟩ = some z2 ∧ w.cell? ⟨g, y * 4 + 3, none⟩ = some z3) ∧ ∀ i, w.frozen? ⟨g, i, none⟩ = false := by
  have hl := ho.1
  have hz : ∀ i, i < 4 → ∃ z, w.cell? ⟨g, y * 4 + i, none⟩ = some z := fun i hi => by
    rw [ho.cellAt _ (by omega)]
    exact ⟨_, List.getElem?_eq_getElem (by omega)⟩
  obtain ⟨z0, h0⟩ := hz 0 (by omega)
  obtain ⟨z1, h1⟩ := hz 1 (by omega)
  obtain ⟨z2, h2⟩ := hz 2 (by omega)
  obtain ⟨z3, h3⟩ := hz 3 (by omega)
  exact ⟨⟨z0, z1, z2, z3, h0, h1, h2, h3⟩, fun i => ho.frozenAt i⟩

/-- Behind the copy of a row: the box ahead of it stands. -/
theorem box_grow {w w1 : World} {c0 c1 c2 c3 : Value} {n m c : Nat} {T : TypeId} (h : ((w.alloc (.cells #[c0, c1, c2, c3] T)).alloc (.cells #[] T)).grownBy w1 (Value.slice (some ⟨w.heap.size + 1, n, none⟩) m c).ownBlock) :
    Ext w w1 ∧ w1.heap[w.heap.size]? = some (.cells #[c0, c1, c2, c3] T (0, 0)) := by
  have hB : Below w.heap.size w w1 := (((Below.refl w.heap.size w).alloc (Nat.le_refl _) _).alloc (by simp) _).grown h (by simp; omega) (fun k hk => by simp only [Value.ownBlock, Option.some.injEq] at hk; omega)
  refine ⟨hB, ?_⟩
  rw [h.block _ (by simp; omega) (by simp [Value.ownBlock]), Below.heap_alloc _ _ _ (by simp)]
  exact heap_alloc_new w _

/-- What stands ahead of the last store: the copy of the row, the box of the result, the other term. -/
structure RepMid (base : Nat) (w : World) (k s : Int) (n : ByteArray) (ks : List Tm) (a : Tm) (y pb po B O gg cap' : Nat) (e0 e1 e2 e3 : Value) (wd : World) : Prop where
  below : Below w.heap.size w wd
  box : wd.heap[O]? = some (.cells #[.int .i64 k, .string n, .int .i64 s, .slice (some ⟨gg, 0, none⟩) ks.length cap'] 24 (0, 0))
  row : ∃ cs, wd.ownsRow (w.heap.size + 3) 24 4 (.slice (some ⟨gg, 0, none⟩) ks.length cap') ks.length cs ∧ KC (fun b => b < base) wd ks cs
  arg : wd.cell? ⟨B, 0, none⟩ = some e0 ∧ wd.cell? ⟨B, 1, none⟩ = some e1 ∧ wd.cell? ⟨B, 2, none⟩ = some e2 ∧ wd.cell? ⟨B, 3, none⟩ = some e3
  isin : IsIn (fun b => b ≠ gg ∧ (b < base ∨ w.heap.size + 3 ≤ b ∧ b < wd.heap.size)) wd a e0 e1 e2 e3
  pos : wd.cell? ⟨pb, po, none⟩ = some (.int .i64 (y : Int))
  res : wd.heap[w.heap.size + 1 + 1]? = some (.cells #[.int .i64 0, .string ⟨#[]⟩, .int .i64 0, .slice none 0 0] 24 (0, 0))
  out : O ≠ gg

theorem RepMid.drew {base : Nat} {w wd : World} {k s : Int} {n : ByteArray} {ks : List Tm} {a : Tm} {y pb po B O gg cap' : Nat} {e0 e1 e2 e3 : Value} (h : RepMid base w k s n ks a y pb po B O gg cap' e0 e1 e2 e3 wd) :
    RepMid base w k s n ks a y pb po B O gg cap' e0 e1 e2 e3 wd.drew := by
  obtain ⟨cs, ho, hK⟩ := h.row
  have hd : ∀ b : Nat, wd.drew.heap[b]? = wd.heap[b]? := fun _ => rfl
  exact ⟨h.below.drew, h.box, ⟨cs, own_heap ho (fun _ _ => rfl), KC_carry (w' := wd.drew) (fun b _ => hd b) (fun _ h => h) _ _ hK⟩, h.arg, IsIn_carry (w' := wd.drew) (fun b _ => hd b) (fun _ h => h) _ _ _ _ _ h.isin, h.pos, h.res, h.out⟩

theorem rep_mid {base : Nat} {w wc w9 : World} {k s : Int} {n : ByteArray} {ks : List Tm} {a : Tm} {y pb po B gg cap' kb ko kcap : Nat} {e0 e1 e2 e3 : Value} {cs : List Value} (hbw : base ≤ w.heap.size) (hB : Below w.heap.size w wc) (hs : w.heap.size + 3 ≤ wc.heap.size) (hgg : wc.heap.size < gg)
    (hown : w9.ownsRow (w.heap.size + 3) 24 4 (.slice (some ⟨gg, 0, none⟩) (0 + ks.length) cap') (0 + ks.length) ([] ++ cs)) (hK : KC (fun b => b < base) wc ks cs)
    (hE : Ext wc w9) (hbox : w9.heap[wc.heap.size]? = some (.cells #[.int .i64 k, .string n, .int .i64 s, .slice (some ⟨kb, ko, none⟩) ks.length kcap] 24 (0, 0)))
    (hg : wc.cell? ⟨B, 0, none⟩ = some e0 ∧ wc.cell? ⟨B, 1, none⟩ = some e1 ∧ wc.cell? ⟨B, 2, none⟩ = some e2 ∧ wc.cell? ⟨B, 3, none⟩ = some e3) (hA : IsIn (fun b => b < base ∨ w.heap.size + 3 ≤ b ∧ b < wc.heap.size) wc a e0 e1 e2 e3)
    (hp : wc.cell? ⟨pb, po, none⟩ = some (.int .i64 (y : Int))) (hr : wc.heap[w.heap.size + 1 + 1]? = some (.cells #[.int .i64 0, .string ⟨#[]⟩, .int .i64 0, .slice none 0 0] 24 (0, 0))) :
    RepMid base w k s n ks a y pb po B wc.heap.size gg cap' e0 e1 e2 e3 (w9.setCell ⟨wc.heap.size, 3, none⟩ (.slice (some ⟨gg, 0, none⟩) ks.length cap')) := by
  rw [Nat.zero_add, List.nil_append] at hown
  have hW : Ext wc (w9.setCell ⟨wc.heap.size, 3, none⟩ (.slice (some ⟨gg, 0, none⟩) ks.length cap')) := Below.setCell hE (p := ⟨wc.heap.size, 3, none⟩) (Nat.le_refl _) _
  have hsz := hE.size
  refine ⟨Ext.trans (a := w) hB hW, ?_, ⟨cs, own_heap hown (fun q hq => ?_), KC_carry (fun b (hb : b < base) => hW.block b (by omega)) (fun _ h => h) _ _ hK⟩, ⟨keep_below hW _ _ hg.1, keep_below hW _ _ hg.2.1, keep_below hW _ _ hg.2.2.1, keep_below hW _ _ hg.2.2.2⟩,
    IsIn_carry (fun b hb => hW.block b (by omega)) (fun b hb => ⟨by omega, ?_⟩) _ _ _ _ _ hA, keep_below hW _ _ hp, by rw [hW.block _ (by omega)]; exact hr, by omega⟩
  · simp [World.setCell, Array.getElem?_modify, hbox]
  · simp only [Value.ownBlock, Option.some.injEq] at hq
    subst hq
    exact Below.heap_setCell _ _ _ _ (by simp only; omega)
  · rcases hb with h | h
    · exact Or.inl h
    · refine Or.inr ⟨h.1, ?_⟩
      have : (w9.setCell ⟨wc.heap.size, 3, none⟩ (.slice (some ⟨gg, 0, none⟩) ks.length cap')).heap.size = w9.heap.size := by simp [World.setCell]
      omega

theorem rep_done {base : Nat} {w wd : World} {k s : Int} {n : ByteArray} {ks : List Tm} {a : Tm} {y pb po B O gg cap' : Nat} {e0 e1 e2 e3 : Value} (hbw : base ≤ w.heap.size) (hk : -9223372036854775808 ≤ k ∧ k ≤ 9223372036854775807) (hs : -9223372036854775808 ≤ s ∧ s ≤ 9223372036854775807) (hn : n.size ≤ maxLen) (hl : ks.length ≤ maxLen) (hy : y < ks.length)
    (h : RepMid base w k s n ks a y pb po B O gg cap' e0 e1 e2 e3 wd) :
    RrepPost base w (some (.mk k n s (ks.set y a))) (.returned (.tuple #[.agg #[.int .i64 k, .string n, .int .i64 s, .slice (some ⟨gg, 0, none⟩) ks.length cap'], .int .i64 0])) (put4 (put4 wd gg (y * 4) e0 e1 e2 e3) (w.heap.size + 1 + 1) 0 (.int .i64 k) (.string n) (.int .i64 s) (.slice (some ⟨gg, 0, none⟩) ks.length cap')) := by
  obtain ⟨cs, ho, hK⟩ := h.row
  have hgl := ho.lt gg rfl
  have hcap : ks.length ≤ cap' := by
    rcases ho.2 with ⟨e, _⟩ | ⟨g', c, cur, e, _, _, h1, _⟩
    · cases e
    · simp only [Value.slice.injEq] at e; omega
  have hR := row_put (S2 := fun b => b < base ∨ w.heap.size + 3 ≤ b ∧ b < wd.heap.size) (d0 := e0) (d1 := e1) (d2 := e2) (d3 := e3) ho hK hy h.isin (fun b (hb : b < base) => ⟨by omega, Or.inl hb⟩) (fun b hb => hb) (Or.inr ⟨hgl.1, hgl.2⟩)
  have hI : IsIn (fun b => b < base ∨ w.heap.size + 3 ≤ b ∧ b < wd.heap.size) (put4 wd gg (y * 4) e0 e1 e2 e3) (.mk k n s (ks.set y a)) (.int .i64 k) (.string n) (.int .i64 s) (.slice (some ⟨gg, 0, none⟩) ks.length cap') := by
    simp only [IsIn]
    exact ⟨trivial, trivial, trivial, hk, hs, hn, by rw [List.length_set]; exact hl, _, cap', by rw [List.length_set], by rw [List.length_set]; exact hcap, hR⟩
  have h1 := put4_size wd gg (y * 4) e0 e1 e2 e3
  have h2 := put4_size (put4 wd gg (y * 4) e0 e1 e2 e3) (w.heap.size + 1 + 1) 0 (.int .i64 k) (.string n) (.int .i64 s) (.slice (some ⟨gg, 0, none⟩) ks.length cap')
  refine ⟨put4_below (put4_below h.below (by omega)) (by omega), _, _, _, _, rfl, IsIn_carry (fun b hb => put4_other _ _ _ _ _ _ _ _ (by omega)) (fun b hb => ?_) _ _ _ _ _ hI⟩
  show b < base ∨ w.heap.size ≤ b ∧ b < (put4 (put4 wd gg (y * 4) e0 e1 e2 e3) (w.heap.size + 1 + 1) 0 (.int .i64 k) (.string n) (.int .i64 s) (.slice (some ⟨gg, 0, none⟩) ks.length cap')).heap.size
  rw [h2, h1]
  omega

end Go.Proofs.YthhhmjjgckkdhaaDoor
