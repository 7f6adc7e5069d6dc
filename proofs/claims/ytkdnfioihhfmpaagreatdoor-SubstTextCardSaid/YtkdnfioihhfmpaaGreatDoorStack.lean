/-
  THE PARSER's STACK IN MEMORY: finished terms that nothing touches any more, open applications whose rows are the call's own.
-/
import Derived.Test.YtkdnfioihhfmpaaGreatDoorTake
import Derived.Deep.AppendLies
import Derived.Test.YtkdnfioihhfmpaaGreatDoorNode
namespace Go.Proofs.YtkdnfioihhfmpaaGreatDoor
open Go.RowKit

mutual
/-- As 'Is', every row in a block of S. -/
def IsIn (S : Nat → Prop) (w : World) : Tm → Value → Value → Value → Value → Prop
  | .mk k n s ks, c0, c1, c2, c3 => c0 = .int .i64 k ∧ c1 = .string n ∧ c2 = .int .i64 s ∧ (-9223372036854775808 ≤ k ∧ k ≤ 9223372036854775807) ∧ (-9223372036854775808 ≤ s ∧ s ≤ 9223372036854775807) ∧ n.size ≤ maxLen ∧ ks.length ≤ maxLen ∧
      ∃ xa cap, c3 = .slice xa ks.length cap ∧ ks.length ≤ cap ∧ RowIn S w ks xa
def RowIn (S : Nat → Prop) (w : World) : List Tm → Option Addr → Prop
  | [], _ => True
  | t :: ts, xa => ∃ b o, xa = some ⟨b, o, none⟩ ∧ S b ∧ (∃ c0 c1 c2 c3, w.cell? ⟨b, o, none⟩ = some c0 ∧ w.cell? ⟨b, o + 1, none⟩ = some c1 ∧ w.cell? ⟨b, o + 2, none⟩ = some c2 ∧ w.cell? ⟨b, o + 3, none⟩ = some c3 ∧ IsIn S w t c0 c1 c2 c3) ∧ RowIn S w ts (some ⟨b, o + 4, none⟩)
end

theorem IsIn_carry {S S' : Nat → Prop} {w w' : World} (hc : ∀ b, S b → w'.heap[b]? = w.heap[b]?) (hS : ∀ b, S b → S' b) (t : Tm) : ∀ c0 c1 c2 c3, IsIn S w t c0 c1 c2 c3 → IsIn S' w' t c0 c1 c2 c3 := by
  refine Tm.rec (motive_1 := fun t => ∀ c0 c1 c2 c3, IsIn S w t c0 c1 c2 c3 → IsIn S' w' t c0 c1 c2 c3) (motive_2 := fun ts => ∀ xa, RowIn S w ts xa → RowIn S' w' ts xa) ?_ ?_ ?_ t
  · intro k n s ks ih c0 c1 c2 c3 h
    simp only [IsIn] at h ⊢
    obtain ⟨h1, h2, h3, h4, h5, h6, h7, xa, cap, h8, h9, h10⟩ := h
    exact ⟨h1, h2, h3, h4, h5, h6, h7, xa, cap, h8, h9, ih _ h10⟩
  · intro xa _; simp [RowIn]
  · intro t ts h1 h2 xa h
    simp only [RowIn] at h ⊢
    obtain ⟨b, o, e, hs, ⟨c0, c1, c2, c3, g0, g1, g2, g3, hI⟩, hR⟩ := h
    have hk : ∀ i v, w.cell? ⟨b, i, none⟩ = some v → w'.cell? ⟨b, i, none⟩ = some v := fun i v hv => by rw [World.cell?_of_block (w := w) (a := ⟨b, i, none⟩) (hc b hs)]; exact hv
    exact ⟨b, o, e, hS b hs, ⟨c0, c1, c2, c3, hk _ _ g0, hk _ _ g1, hk _ _ g2, hk _ _ g3, h1 _ _ _ _ hI⟩, h2 _ hR⟩

theorem IsIn_Is {S : Nat → Prop} {w : World} (t : Tm) : ∀ c0 c1 c2 c3, IsIn S w t c0 c1 c2 c3 → Is w t c0 c1 c2 c3 := by
  refine Tm.rec (motive_1 := fun t => ∀ c0 c1 c2 c3, IsIn S w t c0 c1 c2 c3 → Is w t c0 c1 c2 c3) (motive_2 := fun ts => ∀ xa, RowIn S w ts xa → Row w ts xa) ?_ ?_ ?_ t
  · intro k n s ks ih c0 c1 c2 c3 h
    simp only [IsIn] at h; simp only [Is]
    obtain ⟨h1, h2, h3, h4, h5, h6, h7, xa, cap, h8, h9, h10⟩ := h
    exact ⟨h1, h2, h3, h4, h5, h6, h7, xa, cap, h8, h9, ih _ h10⟩
  · intro xa _; simp [Row]
  · intro t ts h1 h2 xa h
    simp only [RowIn] at h; simp only [Row]
    obtain ⟨b, o, e, _, ⟨c0, c1, c2, c3, g0, g1, g2, g3, hI⟩, hR⟩ := h
    exact ⟨b, o, e, ⟨c0, c1, c2, c3, g0, g1, g2, g3, h1 _ _ _ _ hI⟩, h2 _ hR⟩

/-- The cells of finished terms, one behind the other. -/
def KC (S : Nat → Prop) (w : World) : List Tm → List Value → Prop
  | [], cs => cs = []
  | t :: ts, cs => ∃ c0 c1 c2 c3 r, cs = c0 :: c1 :: c2 :: c3 :: r ∧ IsIn S w t c0 c1 c2 c3 ∧ KC S w ts r

theorem KC_carry {S S' : Nat → Prop} {w w' : World} (hc : ∀ b, S b → w'.heap[b]? = w.heap[b]?) (hS : ∀ b, S b → S' b) : ∀ (ts : List Tm) (cs : List Value), KC S w ts cs → KC S' w' ts cs
  | [], cs, h => h
  | t :: ts, cs, h => by
    obtain ⟨c0, c1, c2, c3, r, e, hI, hr⟩ := h
    exact ⟨c0, c1, c2, c3, r, e, IsIn_carry hc hS t _ _ _ _ hI, KC_carry hc hS ts r hr⟩
theorem KC_snoc {S : Nat → Prop} {w : World} {t : Tm} {c0 c1 c2 c3 : Value} (hI : IsIn S w t c0 c1 c2 c3) : ∀ (ts : List Tm) (cs : List Value), KC S w ts cs → KC S w (ts ++ [t]) (cs ++ [c0, c1, c2, c3])
  | [], cs, h => by subst h; exact ⟨c0, c1, c2, c3, [], rfl, hI, rfl⟩
  | u :: ts, cs, h => by
    obtain ⟨d0, d1, d2, d3, r, rfl, hJ, hr⟩ := h
    exact ⟨d0, d1, d2, d3, r ++ [c0, c1, c2, c3], rfl, hJ, KC_snoc hI ts r hr⟩
theorem RowIn_of_KC {S : Nat → Prop} {w : World} {g : Nat} (hg : S g) : ∀ (ts : List Tm) (cs : List Value) (o : Nat), KC S w ts cs → (∀ j u, cs[j]? = some u → w.cell? ⟨g, o + j, none⟩ = some u) → RowIn S w ts (some ⟨g, o, none⟩)
  | [], _, _, _, _ => by simp [RowIn]
  | t :: ts, cs, o, h, hc => by
    obtain ⟨c0, c1, c2, c3, r, rfl, hI, hr⟩ := h
    simp only [RowIn]
    refine ⟨g, o, rfl, hg, ⟨c0, c1, c2, c3, hc 0 _ rfl, hc 1 _ rfl, hc 2 _ rfl, hc 3 _ rfl, hI⟩, RowIn_of_KC hg ts r (o + 4) hr fun j u hu => ?_⟩
    have := hc (j + 4) u (by simpa using hu)
    rw [show o + 4 + j = o + (j + 4) by omega]; exact this

/-- An application whose row is the call's own, as a finished term. -/
theorem IsIn_app {S S' : Nat → Prop} {w : World} {base : Nat} {T : TypeId} {nm : ByteArray} {ks : List Tm} {kv : Value} {cs : List Value} (hn : nm.size ≤ maxLen) (hown : w.ownsRow base T 4 kv ks.length cs) (hK : KC S w ks cs)
    (hS : ∀ b, S b → S' b) (hg : ∀ g, kv.ownBlock = some g → S' g) : IsIn S' w (.mk 3 nm 0 ks) (.int .i64 3) (.string nm) (.int .i64 0) kv := by
  have hK' := KC_carry (w' := w) (fun _ _ => rfl) hS ks cs hK
  simp only [IsIn]
  refine ⟨trivial, trivial, trivial, by omega, by omega, hn, ?_, ?_⟩
  · rcases hown.2 with ⟨_, h0⟩ | ⟨g, cap, cur, _, _, _, h1, h2, _⟩
    · rw [h0]; exact Nat.zero_le _
    · omega
  · have hown' := hown
    rcases hown.2 with ⟨rfl, h0⟩ | ⟨g, cap, cur, rfl, _, _, h1, h2, _⟩
    · refine ⟨none, 0, by rw [h0], by omega, ?_⟩
      have : ks = [] := List.length_eq_zero_iff.1 h0
      rw [this]; simp [RowIn]
    · refine ⟨some ⟨g, 0, none⟩, cap, rfl, h1, RowIn_of_KC (hg g rfl) ks cs 0 hK' fun j u hu => ?_⟩
      have hj : j < cs.length := by
        rcases Nat.lt_or_ge j cs.length with h | h
        · exact h
        · rw [List.getElem?_eq_none h] at hu; cases hu
      rw [Nat.zero_add, hown'.cellAt j (by rw [← hown'.1]; exact hj)]; exact hu

/-- An open application: its name, the kids that it has, and the value that holds them. -/
structure Fr where
  nm : ByteArray
  ks : List Tm
  kv : Value
def Fr.cells (f : Fr) : List Value := [.int .i64 3, .string f.nm, .int .i64 0, f.kv]
/-- The cells of a stack, the innermost application first in the list and last in memory. -/
def flat : List Fr → List Value
  | [] => []
  | f :: r => flat r ++ f.cells
theorem flat_length : ∀ l : List Fr, (flat l).length = l.length * 4
  | [] => rfl
  | f :: r => by simp only [flat, List.length_append, flat_length r, Fr.cells, List.length_cons, List.length_nil]; omega

/-- The finished blocks of the call's own. -/
def Fb (base : Nat) (F : Nat → Prop) : Nat → Prop := fun b => F b ∧ base ≤ b

def Stk (w : World) (base pb : Nat) (ov : Value) (F : Nat → Prop) : List Fr → Prop
  | [] => True
  | f :: r => f.nm.size ≤ maxLen ∧ (∃ cs, w.ownsRow base 41 4 f.kv f.ks.length cs ∧ KC (Fb base F) w f.ks cs) ∧ (∀ g, f.kv.ownBlock = some g → ¬ F g ∧ g ≠ pb ∧ ov.ownBlock ≠ some g ∧ ∀ f' ∈ r, f'.kv.ownBlock ≠ some g) ∧ Stk w base pb ov F r

/-- The blocks of F are as they were. -/
structure Keeps (F : Nat → Prop) (w w' : World) : Prop where
  os : w'.os = w.os
  tape : w'.tape = w.tape
  output : w'.output = w.output
  size : w.heap.size ≤ w'.heap.size
  block : ∀ b, F b → w'.heap[b]? = w.heap[b]?
theorem Keeps.refl (F : Nat → Prop) (w : World) : Keeps F w w := ⟨rfl, rfl, rfl, Nat.le_refl _, fun _ _ => rfl⟩
theorem Keeps.trans {F : Nat → Prop} {a b c : World} (h : Keeps F a b) (k : Keeps F b c) : Keeps F a c :=
  ⟨k.os.trans h.os, k.tape.trans h.tape, k.output.trans h.output, Nat.le_trans h.size k.size, fun i hi => (k.block i hi).trans (h.block i hi)⟩
theorem Keeps.mono {F G : Nat → Prop} {a b : World} (h : Keeps F a b) (hG : ∀ i, G i → F i) : Keeps G a b := ⟨h.os, h.tape, h.output, h.size, fun i hi => h.block i (hG i hi)⟩
theorem Keeps.ofBut {F : Nat → Prop} {pb : Nat} {w w' : World} (h : But pb w w') (hF : ∀ b, F b → b < w.heap.size ∧ b ≠ pb) : Keeps F w w' :=
  ⟨h.os, h.tape, h.output, h.size, fun b hb => h.block b (hF b hb).1 (by intro e; simp only [Option.some.injEq] at e; exact (hF b hb).2 e)⟩

/-- The whole state. -/
structure ST (w : World) (base pb : Nat) (rest : ByteArray) (ov : Value) (nodes : Int) (large whole : Bool) (r0 r1 r2 r3 : Value) (fr : List Fr) (F : Nat → Prop) : Prop where
  ps : PS w pb rest ov nodes large whole r0 r1 r2 r3
  pbase : base ≤ pb
  own : w.ownsRow base 41 4 ov fr.length (flat fr)
  ovp : ov.ownBlock ≠ some pb
  fF : ∀ b, F b → b < w.heap.size ∧ b ≠ pb ∧ ov.ownBlock ≠ some b
  stk : Stk w base pb ov F fr

/-- A block that the state leaves alone though it is not finished. -/
def Apart (pb : Nat) (ov : Value) (fr : List Fr) (F : Nat → Prop) (tb : Nat) : Prop := tb ≠ pb ∧ ov.ownBlock ≠ some tb ∧ (∀ f ∈ fr, f.kv.ownBlock ≠ some tb) ∧ ¬ F tb

theorem Stk_kv_lt {w : World} {base pb : Nat} {ov : Value} {F : Nat → Prop} : ∀ {l : List Fr}, Stk w base pb ov F l → ∀ f ∈ l, ∀ g, f.kv.ownBlock = some g → base ≤ g ∧ g < w.heap.size
  | [], _, f, hf, _, _ => by simp at hf
  | a :: r, h, f, hf, g, hg => by
    obtain ⟨_, ⟨cs, ho, _⟩, _, hr⟩ := h
    simp only [List.mem_cons] at hf
    rcases hf with rfl | hf
    · exact ho.lt g hg
    · exact Stk_kv_lt hr f hf g hg

/-- A stack in a world in which nothing of it has turned, beside another value of the row. -/
theorem Stk_carry {w w' : World} {base pb : Nat} {ov ov' : Value} {F : Nat → Prop} (hF : ∀ b, F b → w'.heap[b]? = w.heap[b]?) : ∀ {l : List Fr} (_ : ∀ f ∈ l, ∀ g, f.kv.ownBlock = some g → w'.heap[g]? = w.heap[g]? ∧ ov'.ownBlock ≠ some g),
    Stk w base pb ov F l → Stk w' base pb ov' F l
  | [], _, _ => by simp [Stk]
  | f :: r, hl, h => by
    obtain ⟨h1, ⟨cs, ho, hK⟩, h3, h4⟩ := h
    refine ⟨h1, ⟨cs, ⟨ho.1, ?_⟩, KC_carry (fun b hb => hF b hb.1) (fun _ h => h) _ _ hK⟩, fun g hg => ?_, Stk_carry hF (fun f' hf' => hl f' (List.mem_cons_of_mem _ hf')) h4⟩
    · rcases ho.2 with hn | ⟨g, cap, cur, e, hb, hh, rest⟩
      · exact Or.inl hn
      · refine Or.inr ⟨g, cap, cur, e, hb, ?_, rest⟩
        rw [(hl f (List.mem_cons_self ..) g (by rw [e]; rfl)).1]; exact hh
    · obtain ⟨a, b, _, d⟩ := h3 g hg
      exact ⟨a, b, (hl f (List.mem_cons_self ..) g hg).2, d⟩

/-- A stack whose finished blocks have become more. -/
theorem Stk_more {w : World} {base pb : Nat} {ov : Value} {F F' : Nat → Prop} (hF : ∀ b, F b → F' b) : ∀ {l : List Fr} (_ : ∀ f ∈ l, ∀ g, f.kv.ownBlock = some g → ¬ F' g), Stk w base pb ov F l → Stk w base pb ov F' l
  | [], _, _ => by simp [Stk]
  | f :: r, hl, h => by
    obtain ⟨h1, ⟨cs, ho, hK⟩, h3, h4⟩ := h
    refine ⟨h1, ⟨cs, ho, KC_carry (fun _ _ => rfl) (fun b hb => ⟨hF b hb.1, hb.2⟩) _ _ hK⟩, fun g hg => ?_, Stk_more hF (fun f' hf' => hl f' (List.mem_cons_of_mem _ hf')) h4⟩
    obtain ⟨_, b, c, d⟩ := h3 g hg
    exact ⟨hl f (List.mem_cons_self ..) g hg, b, c, d⟩

end Go.Proofs.YtkdnfioihhfmpaaGreatDoor

/-
  WHAT THE PARSER's STEPS DO TO ITS STACK.
-/
namespace Go.Proofs.YtkdnfioihhfmpaaGreatDoor
open Go.RowKit

theorem ownsRow_of_heap {w w' : World} {base : Nat} {T : TypeId} {k : Nat} {v : Value} {n : Nat} {xs : List Value} (h : w.ownsRow base T k v n xs) (hk : ∀ g, v.ownBlock = some g → w'.heap[g]? = w.heap[g]?) : w'.ownsRow base T k v n xs := by
  refine ⟨h.1, ?_⟩
  rcases h.2 with hn | ⟨g, cap, cur, e, hb, hh, rest⟩
  · exact Or.inl hn
  · exact Or.inr ⟨g, cap, cur, e, hb, by rw [hk g (by rw [e]; rfl)]; exact hh, rest⟩

/-- Four stores into a row, one element. -/
def put4 (w : World) (g o : Nat) (c0 c1 c2 c3 : Value) : World := (((w.setCell ⟨g, o, none⟩ c0).setCell ⟨g, o + 1, none⟩ c1).setCell ⟨g, o + 2, none⟩ c2).setCell ⟨g, o + 3, none⟩ c3
theorem put4_other (w : World) (g o k : Nat) (c0 c1 c2 c3 : Value) (hk : k ≠ g) : (put4 w g o c0 c1 c2 c3).heap[k]? = w.heap[k]? := by
  unfold put4
  rw [Below.heap_setCell _ _ _ _ hk, Below.heap_setCell _ _ _ _ hk, Below.heap_setCell _ _ _ _ hk, Below.heap_setCell _ _ _ _ hk]
theorem put4_size (w : World) (g o : Nat) (c0 c1 c2 c3 : Value) : (put4 w g o c0 c1 c2 c3).heap.size = w.heap.size := by simp [put4, World.setCell]
theorem put4_owns {w : World} {base : Nat} {T : TypeId} {g n cap : Nat} {cs zs : List Value} {c0 c1 c2 c3 : Value} (h : w.ownsRow base T 4 (.slice (some ⟨g, 0, none⟩) (n + 1) cap) (n + 1) (cs ++ zs)) (hc : cs.length = n * 4) (hz : zs.length = 4) :
    (put4 w g (n * 4) c0 c1 c2 c3).ownsRow base T 4 (.slice (some ⟨g, 0, none⟩) (n + 1) cap) (n + 1) (cs ++ [c0, c1, c2, c3]) := by
  match zs, hz with
  | [z0, z1, z2, z3], _ =>
    have h1 := ((((((h.stored (n * 4) c0).1).stored (n * 4 + 1) c1).1).stored (n * 4 + 2) c2).1.stored (n * 4 + 3) c3).1
    have e : ((((cs ++ [z0, z1, z2, z3]).set (n * 4) c0).set (n * 4 + 1) c1).set (n * 4 + 2) c2).set (n * 4 + 3) c3 = cs ++ [c0, c1, c2, c3] := by
      rw [← hc]
      simp
    rw [e] at h1
    exact h1

/-- The world behind a kid's append. -/
def kidW (wB : World) (g og n l cap : Nat) (c0 c1 c2 c3 : Value) : World := (put4 wB g (n * 4) c0 c1 c2 c3).setCell ⟨og, l * 4 + 3, none⟩ (.slice (some ⟨g, 0, none⟩) (n + 1) cap)
theorem kidW_other (wB : World) (g og n l cap : Nat) (c0 c1 c2 c3 : Value) (k : Nat) (h1 : k ≠ g) (h2 : k ≠ og) : (kidW wB g og n l cap c0 c1 c2 c3).heap[k]? = wB.heap[k]? := by
  unfold kidW
  rw [Below.heap_setCell _ _ _ _ h2, put4_other _ _ _ _ _ _ _ _ h1]
theorem kidW_size (wB : World) (g og n l cap : Nat) (c0 c1 c2 c3 : Value) : (kidW wB g og n l cap c0 c1 c2 c3).heap.size = wB.heap.size := by
  unfold kidW; simp [World.setCell, put4_size]

section
variable {w wB : World} {base pb : Nat} {rest : ByteArray} {ov : Value} {nodes : Int} {large whole : Bool} {r0 r1 r2 r3 : Value} {f : Fr} {r : List Fr} {F : Nat → Prop}

set_option maxHeartbeats 2000000 in
/-- A kid is appended to the innermost application. -/
theorem ST.kid (h : ST w base pb rest ov nodes large whole r0 r1 r2 r3 (f :: r) F) {t : Tm} {c0 c1 c2 c3 : Value} (hI : IsIn (Fb base F) w t c0 c1 c2 c3) {cs zs : List Value} (ho : w.ownsRow base 41 4 f.kv f.ks.length cs) (hK : KC (Fb base F) w f.ks cs) (hz : zs.length = 4) {og ocap g cap : Nat}
    (hov : ov = .slice (some ⟨og, 0, none⟩) (r.length + 1) ocap) (hown : wB.ownsRow base 41 4 (.slice (some ⟨g, 0, none⟩) (f.ks.length + 1) cap) (f.ks.length + 1) (cs ++ zs))
    (hg : w.grownBy wB f.kv.ownBlock) (hat : f.kv.ownBlock = some g ∨ w.heap.size ≤ g) :
    ST (kidW wB g og f.ks.length r.length cap c0 c1 c2 c3) base pb rest ov nodes large whole r0 r1 r2 r3 (⟨f.nm, f.ks ++ [t], .slice (some ⟨g, 0, none⟩) (f.ks.length + 1) cap⟩ :: r) F ∧
    Keeps F w (kidW wB g og f.ks.length r.length cap c0 c1 c2 c3) ∧
    (∀ b, b < w.heap.size → ov.ownBlock ≠ some b → f.kv.ownBlock ≠ some b → (kidW wB g og f.ks.length r.length cap c0 c1 c2 c3).heap[b]? = w.heap[b]?) := by
  have hovb : ov.ownBlock = some og := by rw [hov]; rfl
  obtain ⟨hnm, _, hd, hr⟩ := h.stk
  have hogl := (h.own.lt og hovb).2
  have hgog : g ≠ og := by
    rcases hat with e | e
    · intro e2; exact (hd g e).2.2.1 (by rw [hovb, e2])
    · omega
  have hblk : ∀ b, b < w.heap.size → ov.ownBlock ≠ some b → f.kv.ownBlock ≠ some b → (kidW wB g og f.ks.length r.length cap c0 c1 c2 c3).heap[b]? = w.heap[b]? := by
    intro b hb h1 h2
    have hbg : b ≠ g := by
      rcases hat with e | e
      · intro e2; exact h2 (by rw [e, e2])
      · omega
    have hbo : b ≠ og := fun e => h1 (by rw [hovb, e])
    rw [kidW_other _ _ _ _ _ _ _ _ _ _ _ hbg hbo]
    exact hg.block b hb (fun e => h2 e.symm)
  have hFne : ∀ b, F b → f.kv.ownBlock ≠ some b := fun b hb e => (hd b e).1 hb
  have hFb : ∀ b, F b → (kidW wB g og f.ks.length r.length cap c0 c1 c2 c3).heap[b]? = w.heap[b]? := fun b hb => hblk b (h.fF b hb).1 (h.fF b hb).2.2 (hFne b hb)
  have hsz : w.heap.size ≤ (kidW wB g og f.ks.length r.length cap c0 c1 c2 c3).heap.size := by
    rw [kidW_size]; exact hg.size
  have hcl : cs.length = f.ks.length * 4 := ho.1
  refine ⟨⟨?_, h.pbase, ?_, h.ovp, fun b hb => ⟨Nat.lt_of_lt_of_le (h.fF b hb).1 hsz, (h.fF b hb).2⟩, ?_⟩, ⟨hg.os, hg.tape, hg.output, hsz, hFb⟩, hblk⟩
  · exact h.ps.kept (hblk pb h.ps.lt h.ovp (fun e => (hd pb e).2.1 rfl))
  · have h1 : wB.ownsRow base 41 4 ov (r.length + 1) (flat (f :: r)) := h.own.kept hg (Or.inr (fun e => by rw [hovb] at e; exact (hd og e.symm).2.2.1 hovb))
    have h2 : (put4 wB g (f.ks.length * 4) c0 c1 c2 c3).ownsRow base 41 4 ov (r.length + 1) (flat (f :: r)) := ownsRow_of_heap h1 (fun q hq => put4_other _ _ _ _ _ _ _ _ (by rw [hovb] at hq; simp only [Option.some.injEq] at hq; omega))
    rw [hov] at h2
    have h3 := (h2.stored (r.length * 4 + 3) (.slice (some ⟨g, 0, none⟩) (f.ks.length + 1) cap)).1
    have e : (flat (f :: r)).set (r.length * 4 + 3) (.slice (some ⟨g, 0, none⟩) (f.ks.length + 1) cap) = flat (⟨f.nm, f.ks ++ [t], .slice (some ⟨g, 0, none⟩) (f.ks.length + 1) cap⟩ :: r) := by
      simp only [flat, Fr.cells]
      rw [List.set_append_right _ _ (by rw [flat_length]; omega), flat_length]
      have : r.length * 4 + 3 - r.length * 4 = 3 := by omega
      rw [this]; rfl
    rw [e, ← hov] at h3
    exact h3
  · refine ⟨hnm, ⟨cs ++ [c0, c1, c2, c3], ?_, KC_snoc (IsIn_carry (fun b hb => hFb b hb.1) (fun _ h => h) t _ _ _ _ hI) _ _ (KC_carry (fun b hb => hFb b hb.1) (fun _ h => h) _ _ hK)⟩, ?_, ?_⟩
    · have h1 := put4_owns (c0 := c0) (c1 := c1) (c2 := c2) (c3 := c3) hown hcl hz
      have e : (f.ks ++ [t]).length = f.ks.length + 1 := by simp
      simp only [e]
      exact ownsRow_of_heap h1 (fun q hq => Below.heap_setCell _ _ _ _ (by simp only [Value.ownBlock, Option.some.injEq] at hq; subst hq; exact hgog))
    · intro q hq
      simp only [Value.ownBlock, Option.some.injEq] at hq
      subst hq
      rcases hat with e | e
      · obtain ⟨a, b, c, d⟩ := hd g e
        exact ⟨a, b, c, d⟩
      · refine ⟨fun hF => ?_, ?_, ?_, fun f' hf' e' => ?_⟩
        · have := (h.fF g hF).1; omega
        · have := h.ps.lt; omega
        · rw [hovb]; simp only [ne_eq, Option.some.injEq]; exact fun e2 => hgog e2.symm
        · have := (Stk_kv_lt hr f' hf' g e').2; omega
    · refine Stk_carry hFb (fun f' hf' q hq => ?_) hr
      have hl := (Stk_kv_lt hr f' hf' q hq).2
      have hno : ov.ownBlock ≠ some q := by
        have : ∀ {l : List Fr}, Stk w base pb ov F l → ∀ f ∈ l, ∀ g, f.kv.ownBlock = some g → ov.ownBlock ≠ some g := by
          intro l hl
          induction l with
          | nil => intro f hf; simp at hf
          | cons a l ih =>
            intro f hf g hg
            simp only [List.mem_cons] at hf
            rcases hf with rfl | hf
            · exact (hl.2.2.1 g hg).2.2.1
            · exact ih hl.2.2.2 f hf g hg
        exact this hr f' hf' q hq
      exact ⟨hblk q hl hno (fun e => (hd q e).2.2.2 f' hf' hq), hno⟩

end
end Go.Proofs.YtkdnfioihhfmpaaGreatDoor

/-
  WHAT THE PARSER's STEPS DO TO ITS STACK: an application is opened, an application is closed.
-/
namespace Go.Proofs.YtkdnfioihhfmpaaGreatDoor
open Go.RowKit

theorem Stk_ov {w : World} {base pb : Nat} {ov : Value} {F : Nat → Prop} : ∀ {l : List Fr}, Stk w base pb ov F l → ∀ f ∈ l, ∀ g, f.kv.ownBlock = some g → ov.ownBlock ≠ some g ∧ g ≠ pb ∧ ¬ F g
  | [], _, f, hf, _, _ => by simp at hf
  | a :: r, h, f, hf, g, hg => by
    simp only [List.mem_cons] at hf
    rcases hf with rfl | hf
    · obtain ⟨a, b, c, _⟩ := h.2.2.1 g hg; exact ⟨c, b, a⟩
    · exact Stk_ov h.2.2.2 f hf g hg

/-- The world behind an opening. -/
def pushW (wB : World) (pb g n cap : Nat) (c0 c1 c2 c3 : Value) : World := (put4 wB g (n * 4) c0 c1 c2 c3).setCell ⟨pb, 1, none⟩ (.slice (some ⟨g, 0, none⟩) (n + 1) cap)
theorem pushW_other (wB : World) (pb g n cap : Nat) (c0 c1 c2 c3 : Value) (k : Nat) (h1 : k ≠ g) (h2 : k ≠ pb) : (pushW wB pb g n cap c0 c1 c2 c3).heap[k]? = wB.heap[k]? := by
  unfold pushW
  rw [Below.heap_setCell _ _ _ _ h2, put4_other _ _ _ _ _ _ _ _ h1]
theorem pushW_size (wB : World) (pb g n cap : Nat) (c0 c1 c2 c3 : Value) : (pushW wB pb g n cap c0 c1 c2 c3).heap.size = wB.heap.size := by
  unfold pushW; simp [World.setCell, put4_size]

section
variable {w wB : World} {base pb : Nat} {rest : ByteArray} {ov : Value} {nodes : Int} {large whole : Bool} {r0 r1 r2 r3 : Value} {f : Fr} {r : List Fr} {F : Nat → Prop}

set_option maxHeartbeats 2000000 in
theorem ST.push (h : ST w base pb rest ov nodes large whole r0 r1 r2 r3 r F) {nm : ByteArray} (hn : nm.size ≤ maxLen) {zs : List Value} (hz : zs.length = 4) {g cap : Nat}
    (hown : wB.ownsRow base 41 4 (.slice (some ⟨g, 0, none⟩) (r.length + 1) cap) (r.length + 1) (flat r ++ zs)) (hg : w.grownBy wB ov.ownBlock) (hat : ov.ownBlock = some g ∨ w.heap.size ≤ g) :
    ST (pushW wB pb g r.length cap (.int .i64 3) (.string nm) (.int .i64 0) (.slice none 0 0)) base pb rest (.slice (some ⟨g, 0, none⟩) (r.length + 1) cap) nodes large whole r0 r1 r2 r3 (⟨nm, [], .slice none 0 0⟩ :: r) F ∧
    Keeps F w (pushW wB pb g r.length cap (.int .i64 3) (.string nm) (.int .i64 0) (.slice none 0 0)) ∧
    (∀ b, b < w.heap.size → ov.ownBlock ≠ some b → b ≠ pb → (pushW wB pb g r.length cap (.int .i64 3) (.string nm) (.int .i64 0) (.slice none 0 0)).heap[b]? = w.heap[b]?) := by
  have hgpb : g ≠ pb := by
    rcases hat with e | e
    · intro e2; exact h.ovp (by rw [e, e2])
    · have := h.ps.lt; omega
  have hblk : ∀ b, b < w.heap.size → ov.ownBlock ≠ some b → b ≠ pb → (pushW wB pb g r.length cap (.int .i64 3) (.string nm) (.int .i64 0) (.slice none 0 0)).heap[b]? = w.heap[b]? := by
    intro b hb h1 h2
    have hbg : b ≠ g := by
      rcases hat with e | e
      · intro e2; exact h1 (by rw [e, e2])
      · omega
    rw [pushW_other _ _ _ _ _ _ _ _ _ _ hbg h2]
    exact hg.block b hb (fun e => h1 e.symm)
  have hFb : ∀ b, F b → (pushW wB pb g r.length cap (.int .i64 3) (.string nm) (.int .i64 0) (.slice none 0 0)).heap[b]? = w.heap[b]? := fun b hb => hblk b (h.fF b hb).1 (h.fF b hb).2.2 (h.fF b hb).2.1
  have hsz : w.heap.size ≤ (pushW wB pb g r.length cap (.int .i64 3) (.string nm) (.int .i64 0) (.slice none 0 0)).heap.size := by rw [pushW_size]; exact hg.size
  have hgF : ∀ b, F b → g ≠ b := fun b hb => by
    rcases hat with e | e
    · intro e2; exact (h.fF b hb).2.2 (by rw [e, e2])
    · have := (h.fF b hb).1; omega
  have hgk : ∀ f ∈ r, ∀ q, f.kv.ownBlock = some q → g ≠ q := fun f hf q hq => by
    rcases hat with e | e
    · intro e2; exact (Stk_ov h.stk f hf q hq).1 (by rw [e, e2])
    · have := (Stk_kv_lt h.stk f hf q hq).2; omega
  refine ⟨⟨?_, h.pbase, ?_, ?_, fun b hb => ⟨Nat.lt_of_lt_of_le (h.fF b hb).1 hsz, (h.fF b hb).2.1, ?_⟩, ?_⟩, ⟨hg.os, hg.tape, hg.output, hsz, hFb⟩, hblk⟩
  · have hp : PS (put4 wB g (r.length * 4) (.int .i64 3) (.string nm) (.int .i64 0) (.slice none 0 0)) pb rest ov nodes large whole r0 r1 r2 r3 :=
      h.ps.kept (by rw [put4_other _ _ _ _ _ _ _ _ (fun e => hgpb e.symm)]; exact hg.block pb h.ps.lt (fun e => h.ovp e.symm))
    exact hp.open_ _
  · have h1 := put4_owns (c0 := .int .i64 3) (c1 := .string nm) (c2 := .int .i64 0) (c3 := .slice none 0 0) hown (flat_length r) hz
    exact ownsRow_of_heap h1 (fun q hq => Below.heap_setCell _ _ _ _ (by simp only [Value.ownBlock, Option.some.injEq] at hq; subst hq; exact hgpb))
  · simp only [Value.ownBlock, ne_eq, Option.some.injEq]; exact hgpb
  · simp only [Value.ownBlock, ne_eq, Option.some.injEq]; exact hgF b hb
  · refine ⟨hn, ⟨[], World.ownsRow_nil _ _ _ _, rfl⟩, fun q hq => by simp [Value.ownBlock] at hq, ?_⟩
    refine Stk_carry hFb (fun f' hf' q hq => ?_) h.stk
    have hl := (Stk_kv_lt h.stk f' hf' q hq).2
    have ho := Stk_ov h.stk f' hf' q hq
    exact ⟨hblk q hl ho.1 ho.2.1, by simp only [Value.ownBlock, ne_eq, Option.some.injEq]; exact hgk f' hf' q hq⟩

/-- The world behind a closing. -/
def popW (w : World) (pb tb og n ocap : Nat) (c0 c1 c2 c3 : Value) : World := (put4 w tb 0 c0 c1 c2 c3).setCell ⟨pb, 1, none⟩ (.slice (some ⟨og, 0, none⟩) n ocap)
theorem popW_other (w : World) (pb tb og n ocap : Nat) (c0 c1 c2 c3 : Value) (k : Nat) (h1 : k ≠ tb) (h2 : k ≠ pb) : (popW w pb tb og n ocap c0 c1 c2 c3).heap[k]? = w.heap[k]? := by
  unfold popW
  rw [Below.heap_setCell _ _ _ _ h2, put4_other _ _ _ _ _ _ _ _ h1]
theorem popW_size (w : World) (pb tb og n ocap : Nat) (c0 c1 c2 c3 : Value) : (popW w pb tb og n ocap c0 c1 c2 c3).heap.size = w.heap.size := by
  unfold popW; simp [World.setCell, put4_size]
theorem popW_box {w : World} {pb tb og n ocap : Nat} {c0 c1 c2 c3 d0 d1 d2 d3 : Value} (h : w.heap[tb]? = some (.cells #[d0, d1, d2, d3] 41 (0, 0))) (hne : tb ≠ pb) :
    (popW w pb tb og n ocap c0 c1 c2 c3).heap[tb]? = some (.cells #[c0, c1, c2, c3] 41 (0, 0)) := by
  unfold popW
  rw [Below.heap_setCell _ _ _ _ hne]
  exact set4 h

set_option maxHeartbeats 2000000 in
theorem ST.pop (h : ST w base pb rest ov nodes large whole r0 r1 r2 r3 (f :: r) F) {tb og ocap : Nat} (ha : Apart pb ov (f :: r) F tb) (hov : ov = .slice (some ⟨og, 0, none⟩) (r.length + 1) ocap) :
    ST (popW w pb tb og r.length ocap (.int .i64 3) (.string f.nm) (.int .i64 0) f.kv) base pb rest (.slice (some ⟨og, 0, none⟩) r.length ocap) nodes large whole r0 r1 r2 r3 r (fun b => F b ∨ f.kv.ownBlock = some b) ∧
    Keeps F w (popW w pb tb og r.length ocap (.int .i64 3) (.string f.nm) (.int .i64 0) f.kv) ∧
    IsIn (Fb base (fun b => F b ∨ f.kv.ownBlock = some b)) (popW w pb tb og r.length ocap (.int .i64 3) (.string f.nm) (.int .i64 0) f.kv) (.mk 3 f.nm 0 f.ks) (.int .i64 3) (.string f.nm) (.int .i64 0) f.kv ∧
    Apart pb (.slice (some ⟨og, 0, none⟩) r.length ocap) r (fun b => F b ∨ f.kv.ownBlock = some b) tb := by
  have hovb : ov.ownBlock = some og := by rw [hov]; rfl
  obtain ⟨t1, t2, t3, t4⟩ := ha
  obtain ⟨hnm, ⟨cs, ho, hK⟩, hd, hr⟩ := h.stk
  have hblk : ∀ b, b ≠ tb → b ≠ pb → (popW w pb tb og r.length ocap (.int .i64 3) (.string f.nm) (.int .i64 0) f.kv).heap[b]? = w.heap[b]? := fun b h1 h2 => popW_other _ _ _ _ _ _ _ _ _ _ _ h1 h2
  have hFb : ∀ b, F b → (popW w pb tb og r.length ocap (.int .i64 3) (.string f.nm) (.int .i64 0) f.kv).heap[b]? = w.heap[b]? := fun b hb => hblk b (fun e => t4 (e ▸ hb)) (h.fF b hb).2.1
  have hkb : ∀ f' ∈ f :: r, ∀ q, f'.kv.ownBlock = some q → (popW w pb tb og r.length ocap (.int .i64 3) (.string f.nm) (.int .i64 0) f.kv).heap[q]? = w.heap[q]? := fun f' hf' q hq =>
    hblk q (fun e => t3 f' hf' (by rw [hq, e])) (Stk_ov h.stk f' hf' q hq).2.1
  have hsz : (popW w pb tb og r.length ocap (.int .i64 3) (.string f.nm) (.int .i64 0) f.kv).heap.size = w.heap.size := popW_size _ _ _ _ _ _ _ _ _ _
  have hlast : ∀ f' ∈ r, ∀ q, f'.kv.ownBlock = some q → ¬ (F q ∨ f.kv.ownBlock = some q) := fun f' hf' q hq => by
    rintro (e | e)
    · exact (Stk_ov hr f' hf' q hq).2.2 e
    · exact (hd q e).2.2.2 f' hf' hq
  have howb : ∀ q, ov.ownBlock = some q → (popW w pb tb og r.length ocap (.int .i64 3) (.string f.nm) (.int .i64 0) f.kv).heap[q]? = w.heap[q]? := fun q hq => hblk q (fun e => t2 (by rw [hq, e])) (fun e => h.ovp (by rw [hq, e]))
  refine ⟨⟨?_, h.pbase, ?_, ?_, fun b hb => ?_, ?_⟩, ⟨rfl, rfl, rfl, by rw [hsz]; exact Nat.le_refl _, hFb⟩, ?_, t1, ?_, fun f' hf' => t3 f' (List.mem_cons_of_mem _ hf'), ?_⟩
  · have hp : PS (put4 w tb 0 (.int .i64 3) (.string f.nm) (.int .i64 0) f.kv) pb rest ov nodes large whole r0 r1 r2 r3 := h.ps.kept (put4_other _ _ _ _ _ _ _ _ (fun e => t1 e.symm))
    exact hp.open_ _
  · have h1 := ownsRow_of_heap h.own howb
    rw [hov] at h1
    refine ⟨flat_length r, ?_⟩
    rcases h1.2 with ⟨e, _⟩ | ⟨g, cap, cur, e, hb, hh, hn, hc, hcs, htk⟩
    · simp at e
    · simp only [Value.slice.injEq, Option.some.injEq, Addr.mk.injEq, and_true] at e
      obtain ⟨e1, _, e3⟩ := e
      subst e1
      subst e3
      refine Or.inr ⟨og, ocap, cur, rfl, hb, hh, by simp at hn; omega, hc, hcs, ?_⟩
      have e4 : (cur.toList.take ((f :: r).length * 4)).take (r.length * 4) = (flat (f :: r)).take (r.length * 4) := by rw [htk]
      rw [List.take_take] at e4
      have e5 : min (r.length * 4) ((f :: r).length * 4) = r.length * 4 := by simp only [List.length_cons]; omega
      rw [e5] at e4
      rw [e4]
      simp only [flat]
      rw [List.take_append_of_le_length (by rw [flat_length]; omega), ← flat_length r, List.take_length]
  · simp only [Value.ownBlock, ne_eq, Option.some.injEq]; intro e; exact h.ovp (by rw [hovb, e])
  · rw [hsz]
    rcases hb with e | e
    · exact ⟨(h.fF b e).1, (h.fF b e).2.1, by have := (h.fF b e).2.2; rw [hovb] at this; simpa [Value.ownBlock] using this⟩
    · have h1 := (Stk_kv_lt h.stk f (List.mem_cons_self ..) b e).2
      have h2 := hd b e
      exact ⟨h1, h2.2.1, by have := h2.2.2.1; rw [hovb] at this; simpa [Value.ownBlock] using this⟩
  · refine Stk_more (fun b hb => Or.inl hb) hlast ?_
    refine Stk_carry hFb (fun f' hf' q hq => ⟨hkb f' (List.mem_cons_of_mem _ hf') q hq, ?_⟩) hr
    have := (Stk_ov hr f' hf' q hq).1
    rw [hovb] at this; simpa [Value.ownBlock] using this
  · exact IsIn_app hnm (ownsRow_of_heap ho (hkb f (List.mem_cons_self ..))) (KC_carry (fun b hb => hFb b hb.1) (fun _ h => h) _ _ hK) (fun b hb => ⟨Or.inl hb.1, hb.2⟩) (fun g hg => ⟨Or.inr hg, (ho.lt g hg).1⟩)
  · have := t2; rw [hovb] at this; simpa [Value.ownBlock] using this
  · rintro (e | e)
    · exact t4 e
    · exact t3 f (List.mem_cons_self ..) e

end
end Go.Proofs.YtkdnfioihhfmpaaGreatDoor
