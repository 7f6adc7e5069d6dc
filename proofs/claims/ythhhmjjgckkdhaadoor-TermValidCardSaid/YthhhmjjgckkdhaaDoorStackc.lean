/-
  WHAT THE PARSER's STEPS DO TO ITS STACK: an application is opened, an application is closed.
-/
import Derived.Test.YthhhmjjgckkdhaaDoorStackb
namespace Go.Proofs.YthhhmjjgckkdhaaDoor
open Go.RowKit

theorem Stk_ov {w : World} {base pb : Nat} {ov : Value} {F : Nat → Prop} : ∀ {l : List Fr}, Stk w base pb ov F l → ∀ f ∈ l, ∀ g, f.kv.ownBlock = some g → ov.ownBlock ≠ some g ∧ g ≠ pb ∧ ¬ F g
  | [], _, f, hf, _, _ => by simp at hf
  | a :: r, h, f, hf, g, hg => by
    simp only [List.mem_cons] at hf
    rcases hf with rfl | hf
    · obtain ⟨a, b, c, _⟩ := h.2.2.1 g hg; exact ⟨c, b, a⟩
    · exact Stk_ov h.2.2.2 f hf g hg

/-- The world behind an opening. -/
def pushW (wB : World) (pb g n cap : Nat) (c0 c1 c2 c3 : Value) : World := (put4 wB g (n * 4) c0 c1 c2 c3).setCell ⟨pb, 1, none⟩ (.slice (some ⟨g, 0, none⟩) (n + 1) cap)
theorem pushW_other (wB : World) (pb g n cap : Nat) (c0 c1 c2 c3 : Value) (k : Nat) (h1 : k ≠ g) (h2 : k ≠ pb) : (pushW wB pb g n cap c0 c1 c2 c3).heap[k]? = wB.heap[k]? := by
  unfold pushW
  rw [Below.heap_setCell _ _ _ _ h2, put4_other _ _ _ _ _ _ _ _ h1]
theorem pushW_size (wB : World) (pb g n cap : Nat) (c0 c1 c2 c3 : Value) : (pushW wB pb g n cap c0 c1 c2 c3).heap.size = wB.heap.size := by
  unfold pushW; simp [World.setCell, put4_size]

section
variable {w wB : World} {base pb : Nat} {rest : ByteArray} {ov : Value} {nodes : Int} {large whole : Bool} {r0 r1 r2 r3 : Value} {f : Fr} {r : List Fr} {F : Nat → Prop}

set_option maxHeartbeats 2000000 in
theorem ST.push (h : ST w base pb rest ov nodes large whole r0 r1 r2 r3 r F) {nm : ByteArray} (hn : nm.size ≤ maxLen) {zs : List Value} (hz : zs.length = 4) {g cap : Nat}
    (hown : wB.ownsRow base 24 4 (.slice (some ⟨g, 0, none⟩) (r.length + 1) cap) (r.length + 1) (flat r ++ zs)) (hg : w.grownBy wB ov.ownBlock) (hat : ov.ownBlock = some g ∨ w.heap.size ≤ g) :
    ST (pushW wB pb g r.length cap (.int .i64 3) (.string nm) (.int .i64 0) (.slice none 0 0)) base pb rest (.slice (some ⟨g, 0, none⟩) (r.length + 1) cap) nodes large whole r0 r1 r2 r3 (⟨nm, [], .slice none 0 0⟩ :: r) F ∧
    Keeps F w (pushW wB pb g r.length cap (.int .i64 3) (.string nm) (.int .i64 0) (.slice none 0 0)) ∧
    (∀ b, b < w.heap.size → ov.ownBlock ≠ some b → b ≠ pb → (pushW wB pb g r.length cap (.int .i64 3) (.string nm) (.int .i64 0) (.slice none 0 0)).heap[b]? = w.heap[b]?) := by
  have hgpb : g ≠ pb := by
    rcases hat with e | e
    · intro e2; exact h.ovp (by rw [e, e2])
    · have := h.ps.lt; omega
  have hblk : ∀ b, b < w.heap.size → ov.ownBlock ≠ some b → b ≠ pb → (pushW wB pb g r.length cap (.int .i64 3) (.string nm) (.int .i64 0) (.slice none 0 0)).heap[b]? = w.heap[b]? := by
    intro b hb h1 h2
    have hbg : b ≠ g := by
      rcases hat with e | e
      · intro e2; exact h1 (by rw [e, e2])
      · omega
    rw [pushW_other _ _ _ _ _ _ _ _ _ _ hbg h2]
    exact hg.block b hb (fun e => h1 e.symm)
  have hFb : ∀ b, F b → (pushW wB pb g r.length cap (.int .i64 3) (.string nm) (.int .i64 0) (.slice none 0 0)).heap[b]? = w.heap[b]? := fun b hb => hblk b (h.fF b hb).1 (h.fF b hb).2.2 (h.fF b hb).2.1
  have hsz : w.heap.size ≤ (pushW wB pb g r.length cap (.int .i64 3) (.string nm) (.int .i64 0) (.slice none 0 0)).heap.size := by rw [pushW_size]; exact hg.size
  have hgF : ∀ b, F b → g ≠ b := fun b hb => by
    rcases hat with e | e
    · intro e2; exact (h.fF b hb).2.2 (by rw [e, e2])
    · have := (h.fF b hb).1; omega
  have hgk : ∀ f ∈ r, ∀ q, f.kv.ownBlock = some q → g ≠ q := fun f hf q hq => by
    rcases hat with e | e
    · intro e2; exact (Stk_ov h.stk f hf q hq).1 (by rw [e, e2])
    · have := (Stk_kv_lt h.stk f hf q hq).2; omega
  refine ⟨⟨?_, h.pbase, ?_, ?_, fun b hb => ⟨Nat.lt_of_lt_of_le (h.fF b hb).1 hsz, (h.fF b hb).2.1, ?_⟩, ?_⟩, ⟨hg.os, hg.tape, hg.output, hsz, hFb⟩, hblk⟩
  · have hp : PS (put4 wB g (r.length * 4) (.int .i64 3) (.string nm) (.int .i64 0) (.slice none 0 0)) pb rest ov nodes large whole r0 r1 r2 r3 :=
      h.ps.kept (by rw [put4_other _ _ _ _ _ _ _ _ (fun e => hgpb e.symm)]; exact hg.block pb h.ps.lt (fun e => h.ovp e.symm))
    exact hp.open_ _
  · have h1 := put4_owns (c0 := .int .i64 3) (c1 := .string nm) (c2 := .int .i64 0) (c3 := .slice none 0 0) hown (flat_length r) hz
    exact ownsRow_of_heap h1 (fun q hq => Below.heap_setCell _ _ _ _ (by simp only [Value.ownBlock, Option.some.injEq] at hq; subst hq; exact hgpb))
  · simp only [Value.ownBlock, ne_eq, Option.some.injEq]; exact hgpb
  · simp only [Value.ownBlock, ne_eq, Option.some.injEq]; exact hgF b hb
  · refine ⟨hn, ⟨[], World.ownsRow_nil _ _ _ _, rfl⟩, fun q hq => by simp [Value.ownBlock] at hq, ?_⟩
    refine Stk_carry hFb (fun f' hf' q hq => ?_) h.stk
    have hl := (Stk_kv_lt h.stk f' hf' q hq).2
    have ho := Stk_ov h.stk f' hf' q hq
    exact ⟨hblk q hl ho.1 ho.2.1, by simp only [Value.ownBlock, ne_eq, Option.some.injEq]; exact hgk f' hf' q hq⟩

/-- The world behind a closing. -/
def popW (w : World) (pb tb og n ocap : Nat) (c0 c1 c2 c3 : Value) : World := (put4 w tb 0 c0 c1 c2 c3).setCell ⟨pb, 1, none⟩ (.slice (some ⟨og, 0, none⟩) n ocap)
theorem popW_other (w : World) (pb tb og n ocap : Nat) (c0 c1 c2 c3 : Value) (k : Nat) (h1 : k ≠ tb) (h2 : k ≠ pb) : (popW w pb tb og n ocap c0 c1 c2 c3).heap[k]? = w.heap[k]? := by
  unfold popW
  rw [Below.heap_setCell _ _ _ _ h2, put4_other _ _ _ _ _ _ _ _ h1]
theorem popW_size (w : World) (pb tb og n ocap : Nat) (c0 c1 c2 c3 : Value) : (popW w pb tb og n ocap c0 c1 c2 c3).heap.size = w.heap.size := by
  unfold popW; simp [World.setCell, put4_size]
theorem popW_box {w : World} {pb tb og n ocap : Nat} {c0 c1 c2 c3 d0 d1 d2 d3 : Value} (h : w.heap[tb]? = some (.cells #[d0, d1, d2, d3] 24 (0, 0))) (hne : tb ≠ pb) :
    (popW w pb tb og n ocap c0 c1 c2 c3).heap[tb]? = some (.cells #[c0, c1, c2, c3] 24 (0, 0)) := by
  unfold popW
  rw [Below.heap_setCell _ _ _ _ hne]
  exact set4 h

set_option maxHeartbeats 2000000 in
theorem ST.pop (h : ST w base pb rest ov nodes large whole r0 r1 r2 r3 (f :: r) F) {tb og ocap : Nat} (ha : Apart pb ov (f :: r) F tb) (hov : ov = .slice (some ⟨og, 0, none⟩) (r.length + 1) ocap) :
    ST (popW w pb tb og r.length ocap (.int .i64 3) (.string f.nm) (.int .i64 0) f.kv) base pb rest (.slice (some ⟨og, 0, none⟩) r.length ocap) nodes large whole r0 r1 r2 r3 r (fun b => F b ∨ f.kv.ownBlock = some b) ∧
    Keeps F w (popW w pb tb og r.length ocap (.int .i64 3) (.string f.nm) (.int .i64 0) f.kv) ∧
    IsIn (Fb base (fun b => F b ∨ f.kv.ownBlock = some b)) (popW w pb tb og r.length ocap (.int .i64 3) (.string f.nm) (.int .i64 0) f.kv) (.mk 3 f.nm 0 f.ks) (.int .i64 3) (.string f.nm) (.int .i64 0) f.kv ∧
    Apart pb (.slice (some ⟨og, 0, none⟩) r.length ocap) r (fun b => F b ∨ f.kv.ownBlock = some b) tb := by
  have hovb : ov.ownBlock = some og := by rw [hov]; rfl
  obtain ⟨t1, t2, t3, t4⟩ := ha
  obtain ⟨hnm, ⟨cs, ho, hK⟩, hd, hr⟩ := h.stk
  have hblk : ∀ b, b ≠ tb → b ≠ pb → (popW w pb tb og r.length ocap (.int .i64 3) (.string f.nm) (.int .i64 0) f.kv).heap[b]? = w.heap[b]? := fun b h1 h2 => popW_other _ _ _ _ _ _ _ _ _ _ _ h1 h2
  have hFb : ∀ b, F b → (popW w pb tb og r.length ocap (.int .i64 3) (.string f.nm) (.int .i64 0) f.kv).heap[b]? = w.heap[b]? := fun b hb => hblk b (fun e => t4 (e ▸ hb)) (h.fF b hb).2.1
  have hkb : ∀ f' ∈ f :: r, ∀ q, f'.kv.ownBlock = some q → (popW w pb tb og r.length ocap (.int .i64 3) (.string f.nm) (.int .i64 0) f.kv).heap[q]? = w.heap[q]? := fun f' hf' q hq =>
    hblk q (fun e => t3 f' hf' (by rw [hq, e])) (Stk_ov h.stk f' hf' q hq).2.1
  have hsz : (popW w pb tb og r.length ocap (.int .i64 3) (.string f.nm) (.int .i64 0) f.kv).heap.size = w.heap.size := popW_size _ _ _ _ _ _ _ _ _ _
  have hlast : ∀ f' ∈ r, ∀ q, f'.kv.ownBlock = some q → ¬ (F q ∨ f.kv.ownBlock = some q) := fun f' hf' q hq => by
    rintro (e | e)
    · exact (Stk_ov hr f' hf' q hq).2.2 e
    · exact (hd q e).2.2.2 f' hf' hq
  have howb : ∀ q, ov.ownBlock = some q → (popW w pb tb og r.length ocap (.int .i64 3) (.string f.nm) (.int .i64 0) f.kv).heap[q]? = w.heap[q]? := fun q hq => hblk q (fun e => t2 (by rw [hq, e])) (fun e => h.ovp (by rw [hq, e]))
  refine ⟨⟨?_, h.pbase, ?_, ?_, fun b hb => ?_, ?_⟩, ⟨rfl, rfl, rfl, by rw [hsz]; exact Nat.le_refl _, hFb⟩, ?_, t1, ?_, fun f' hf' => t3 f' (List.mem_cons_of_mem _ hf'), ?_⟩
  · have hp : PS (put4 w tb 0 (.int .i64 3) (.string f.nm) (.int .i64 0) f.kv) pb rest ov nodes large whole r0 r1 r2 r3 := h.ps.kept (put4_other _ _ _ _ _ _ _ _ (fun e => t1 e.symm))
    exact hp.open_ _
  · have h1 := ownsRow_of_heap h.own howb
    rw [hov] at h1
    refine ⟨flat_length r, ?_⟩
    rcases h1.2 with ⟨e, _⟩ | ⟨g, cap, cur, e, hb, hh, hn, hc, hcs, htk⟩
    · simp at e
    · simp only [Value.slice.injEq, Option.some.injEq, Addr.mk.injEq, and_true] at e
      obtain ⟨e1, _, e3⟩ := e
      subst e1
      subst e3
      refine Or.inr ⟨og, ocap, cur, rfl, hb, hh, by simp at hn; omega, hc, hcs, ?_⟩
      have e4 : (cur.toList.take ((f :: r).length * 4)).take (r.length * 4) = (flat (f :: r)).take (r.length * 4) := by rw [htk]
      rw [List.take_take] at e4
      have e5 : min (r.length * 4) ((f :: r).length * 4) = r.length * 4 := by simp only [List.length_cons]; omega
      rw [e5] at e4
      rw [e4]
      simp only [flat]
      rw [List.take_append_of_le_length (by rw [flat_length]; omega), ← flat_length r, List.take_length]
  · simp only [Value.ownBlock, ne_eq, Option.some.injEq]; intro e; exact h.ovp (by rw [hovb, e])
  · rw [hsz]
    rcases hb with e | e
    · exact ⟨(h.fF b e).1, (h.fF b e).2.1, by have := (h.fF b e).2.2; rw [hovb] at this; simpa [Value.ownBlock] using this⟩
    · have h1 := (Stk_kv_lt h.stk f (List.mem_cons_self ..) b e).2
      have h2 := hd b e
      exact ⟨h1, h2.2.1, by have := h2.2.2.1; rw [hovb] at this; simpa [Value.ownBlock] using this⟩
  · refine Stk_more (fun b hb => Or.inl hb) hlast ?_
    refine Stk_carry hFb (fun f' hf' q hq => ⟨hkb f' (List.mem_cons_of_mem _ hf') q hq, ?_⟩) hr
    have := (Stk_ov hr f' hf' q hq).1
    rw [hovb] at this; simpa [Value.ownBlock] using this
  · exact IsIn_app hnm (ownsRow_of_heap ho (hkb f (List.mem_cons_self ..))) (KC_carry (fun b hb => hFb b hb.1) (fun _ h => h) _ _ hK) (fun b hb => ⟨Or.inl hb.1, hb.2⟩) (fun g hg => ⟨Or.inr hg, (ho.lt g hg).1⟩)
  · have := t2; rw [hovb] at this; simpa [Value.ownBlock] using this
  · rintro (e | e)
    · exact t4 e
    · exact t3 f (List.mem_cons_self ..) e

end
end Go.Proofs.YthhhmjjgckkdhaaDoor
