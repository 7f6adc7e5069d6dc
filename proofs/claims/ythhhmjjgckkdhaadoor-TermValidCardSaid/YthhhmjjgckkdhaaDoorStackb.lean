/-
  WHAT THE PARSER's STEPS DO TO ITS STACK.
-/
import Derived.Test.YthhhmjjgckkdhaaDoorStack
import Derived.Test.YthhhmjjgckkdhaaDoorNodeb
namespace Go.Proofs.YthhhmjjgckkdhaaDoor
open Go.RowKit

theorem ownsRow_of_heap {w w' : World} {base : Nat} {T : TypeId} {k : Nat} {v : Value} {n : Nat} {xs : List Value} (h : w.ownsRow base T k v n xs) (hk : ∀ g, v.ownBlock = some g → w'.heap[g]? = w.heap[g]?) : w'.ownsRow base T k v n xs := by
  refine ⟨h.1, ?_⟩
  rcases h.2 with hn | ⟨g, cap, cur, e, hb, hh, rest⟩
  · exact Or.inl hn
  · exact Or.inr ⟨g, cap, cur, e, hb, by rw [hk g (by rw [e]; rfl)]; exact hh, rest⟩

/-- Four stores into a row, one element. -/
def put4 (w : World) (g o : Nat) (c0 c1 c2 c3 : Value) : World := (((w.setCell ⟨g, o, none⟩ c0).setCell ⟨g, o + 1, none⟩ c1).setCell ⟨g, o + 2, none⟩ c2).setCell ⟨g, o + 3, none⟩ c3
theorem put4_other (w : World) (g o k : Nat) (c0 c1 c2 c3 : Value) (hk : k ≠ g) : (put4 w g o c0 c1 c2 c3).heap[k]? = w.heap[k]? := by
  unfold put4
  rw [Below.heap_setCell _ _ _ _ hk, Below.heap_setCell _ _ _ _ hk, Below.heap_setCell _ _ _ _ hk, Below.heap_setCell _ _ _ _ hk]
theorem put4_size (w : World) (g o : Nat) (c0 c1 c2 c3 : Value) : (put4 w g o c0 c1 c2 c3).heap.size = w.heap.size := by simp [put4, World.setCell]
theorem put4_owns {w : World} {base : Nat} {T : TypeId} {g n cap : Nat} {cs zs : List Value} {c0 c1 c2 c3 : Value} (h : w.ownsRow base T 4 (.slice (some ⟨g, 0, none⟩) (n + 1) cap) (n + 1) (cs ++ zs)) (hc : cs.length = n * 4) (hz : zs.length = 4) :
    (put4 w g (n * 4) c0 c1 c2 c3).ownsRow base T 4 (.slice (some ⟨g, 0, none⟩) (n + 1) cap) (n + 1) (cs ++ [c0, c1, c2, c3]) := by
  match zs, hz with
  | [z0, z1, z2, z3], _ =>
    have h1 := ((((((h.stored (n * 4) c0).1).stored (n * 4 + 1) c1).1).stored (n * 4 + 2) c2).1.stored (n * 4 + 3) c3).1
    have e : ((((cs ++ [z0, z1, z2, z3]).set (n * 4) c0).set (n * 4 + 1) c1).set (n * 4 + 2) c2).set (n * 4 + 3) c3 = cs ++ [c0, c1, c2, c3] := by
      rw [← hc]
      simp
    rw [e] at h1
    exact h1

/-- The world behind a kid's append. -/
def kidW (wB : World) (g og n l cap : Nat) (c0 c1 c2 c3 : Value) : World := (put4 wB g (n * 4) c0 c1 c2 c3).setCell ⟨og, l * 4 + 3, none⟩ (.slice (some ⟨g, 0, none⟩) (n + 1) cap)
theorem kidW_other (wB : World) (g og n l cap : Nat) (c0 c1 c2 c3 : Value) (k : Nat) (h1 : k ≠ g) (h2 : k ≠ og) : (kidW wB g og n l cap c0 c1 c2 c3).heap[k]? = wB.heap[k]? := by
  unfold kidW
  rw [Below.heap_setCell _ _ _ _ h2, put4_other _ _ _ _ _ _ _ _ h1]
theorem kidW_size (wB : World) (g og n l cap : Nat) (c0 c1 c2 c3 : Value) : (kidW wB g og n l cap c0 c1 c2 c3).heap.size = wB.heap.size := by
  unfold kidW; simp [World.setCell, put4_size]

section
variable {w wB : World} {base pb : Nat} {rest : ByteArray} {ov : Value} {nodes : Int} {large whole : Bool} {r0 r1 r2 r3 : Value} {f : Fr} {r : List Fr} {F : Nat → Prop}

set_option maxHeartbeats 2000000 in
/-- A kid is appended to the innermost application. -/
theorem ST.kid (h : ST w base pb rest ov nodes large whole r0 r1 r2 r3 (f :: r) F) {t : Tm} {c0 c1 c2 c3 : Value} (hI : IsIn (Fb base F) w t c0 c1 c2 c3) {cs zs : List Value} (ho : w.ownsRow base 24 4 f.kv f.ks.length cs) (hK : KC (Fb base F) w f.ks cs) (hz : zs.length = 4) {og ocap g cap : Nat}
    (hov : ov = .slice (some ⟨og, 0, none⟩) (r.length + 1) ocap) (hown : wB.ownsRow base 24 4 (.slice (some ⟨g, 0, none⟩) (f.ks.length + 1) cap) (f.ks.length + 1) (cs ++ zs))
    (hg : w.grownBy wB f.kv.ownBlock) (hat : f.kv.ownBlock = some g ∨ w.heap.size ≤ g) :
    ST (kidW wB g og f.ks.length r.length cap c0 c1 c2 c3) base pb rest ov nodes large whole r0 r1 r2 r3 (⟨f.nm, f.ks ++ [t], .slice (some ⟨g, 0, none⟩) (f.ks.length + 1) cap⟩ :: r) F ∧
    Keeps F w (kidW wB g og f.ks.length r.length cap c0 c1 c2 c3) ∧
    (∀ b, b < w.heap.size → ov.ownBlock ≠ some b → f.kv.ownBlock ≠ some b → (kidW wB g og f.ks.length r.length cap c0 c1 c2 c3).heap[b]? = w.heap[b]?) := by
  have hovb : ov.ownBlock = some og := by rw [hov]; rfl
  obtain ⟨hnm, _, hd, hr⟩ := h.stk
  have hogl := (h.own.lt og hovb).2
  have hgog : g ≠ og := by
    rcases hat with e | e
    · intro e2; exact (hd g e).2.2.1 (by rw [hovb, e2])
    · omega
  have hblk : ∀ b, b < w.heap.size → ov.ownBlock ≠ some b → f.kv.ownBlock ≠ some b → (kidW wB g og f.ks.length r.length cap c0 c1 c2 c3).heap[b]? = w.heap[b]? := by
    intro b hb h1 h2
    have hbg : b ≠ g := by
      rcases hat with e | e
      · intro e2; exact h2 (by rw [e, e2])
      · omega
    have hbo : b ≠ og := fun e => h1 (by rw [hovb, e])
    rw [kidW_other _ _ _ _ _ _ _ _ _ _ _ hbg hbo]
    exact hg.block b hb (fun e => h2 e.symm)
  have hFne : ∀ b, F b → f.kv.ownBlock ≠ some b := fun b hb e => (hd b e).1 hb
  have hFb : ∀ b, F b → (kidW wB g og f.ks.length r.length cap c0 c1 c2 c3).heap[b]? = w.heap[b]? := fun b hb => hblk b (h.fF b hb).1 (h.fF b hb).2.2 (hFne b hb)
  have hsz : w.heap.size ≤ (kidW wB g og f.ks.length r.length cap c0 c1 c2 c3).heap.size := by
    rw [kidW_size]; exact hg.size
  have hcl : cs.length = f.ks.length * 4 := ho.1
  refine ⟨⟨?_, h.pbase, ?_, h.ovp, fun b hb => ⟨Nat.lt_of_lt_of_le (h.fF b hb).1 hsz, (h.fF b hb).2⟩, ?_⟩, ⟨hg.os, hg.tape, hg.output, hsz, hFb⟩, hblk⟩
  · exact h.ps.kept (hblk pb h.ps.lt h.ovp (fun e => (hd pb e).2.1 rfl))
  · have h1 : wB.ownsRow base 24 4 ov (r.length + 1) (flat (f :: r)) := h.own.kept hg (Or.inr (fun e => by rw [hovb] at e; exact (hd og e.symm).2.2.1 hovb))
    have h2 : (put4 wB g (f.ks.length * 4) c0 c1 c2 c3).ownsRow base 24 4 ov (r.length + 1) (flat (f :: r)) := ownsRow_of_heap h1 (fun q hq => put4_other _ _ _ _ _ _ _ _ (by rw [hovb] at hq; simp only [Option.some.injEq] at hq; omega))
    rw [hov] at h2
    have h3 := (h2.stored (r.length * 4 + 3) (.slice (some ⟨g, 0, none⟩) (f.ks.length + 1) cap)).1
    have e : (flat (f :: r)).set (r.length * 4 + 3) (.slice (some ⟨g, 0, none⟩) (f.ks.length + 1) cap) = flat (⟨f.nm, f.ks ++ [t], .slice (some ⟨g, 0, none⟩) (f.ks.length + 1) cap⟩ :: r) := by
      simp only [flat, Fr.cells]
      rw [List.set_append_right _ _ (by rw [flat_length]; omega), flat_length]
      have : r.length * 4 + 3 - r.length * 4 = 3 := by omega
      rw [this]; rfl
    rw [e, ← hov] at h3
    exact h3
  · refine ⟨hnm, ⟨cs ++ [c0, c1, c2, c3], ?_, KC_snoc (IsIn_carry (fun b hb => hFb b hb.1) (fun _ h => h) t _ _ _ _ hI) _ _ (KC_carry (fun b hb => hFb b hb.1) (fun _ h => h) _ _ hK)⟩, ?_, ?_⟩
    · have h1 := put4_owns (c0 := c0) (c1 := c1) (c2 := c2) (c3 := c3) hown hcl hz
      have e : (f.ks ++ [t]).length = f.ks.length + 1 := by simp
      simp only [e]
      exact ownsRow_of_heap h1 (fun q hq => Below.heap_setCell _ _ _ _ (by simp only [Value.ownBlock, Option.some.injEq] at hq; subst hq; exact hgog))
    · intro q hq
      simp only [Value.ownBlock, Option.some.injEq] at hq
      subst hq
      rcases hat with e | e
      · obtain ⟨a, b, c, d⟩ := hd g e
        exact ⟨a, b, c, d⟩
      · refine ⟨fun hF => ?_, ?_, ?_, fun f' hf' e' => ?_⟩
        · have := (h.fF g hF).1; omega
        · have := h.ps.lt; omega
        · rw [hovb]; simp only [ne_eq, Option.some.injEq]; exact fun e2 => hgog e2.symm
        · have := (Stk_kv_lt hr f' hf' g e').2; omega
    · refine Stk_carry hFb (fun f' hf' q hq => ?_) hr
      have hl := (Stk_kv_lt hr f' hf' q hq).2
      have hno : ov.ownBlock ≠ some q := by
        have : ∀ {l : List Fr}, Stk w base pb ov F l → ∀ f ∈ l, ∀ g, f.kv.ownBlock = some g → ov.ownBlock ≠ some g := by
          intro l hl
          induction l with
          | nil => intro f hf; simp at hf
          | cons a l ih =>
            intro f hf g hg
            simp only [List.mem_cons] at hf
            rcases hf with rfl | hf
            · exact (hl.2.2.1 g hg).2.2.1
            · exact ih hl.2.2.2 f hf g hg
        exact this hr f' hf' q hq
      exact ⟨hblk q hl hno (fun e => (hd q e).2.2.2 f' hf' hq), hno⟩

end
end Go.Proofs.YthhhmjjgckkdhaaDoor
