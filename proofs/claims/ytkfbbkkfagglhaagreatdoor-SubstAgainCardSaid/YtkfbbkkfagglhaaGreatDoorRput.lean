/-
  THE REFERENCE's Get and Put (layer 2), walked.
-/
import Derived.Test.YtkfbbkkfagglhaaGreatDoorRepl
import Derived.Test.YtkfbbkkfagglhaaGreatDoorRef
import Derived.Test.YtkfbbkkfagglhaaGreatDoorElems
import Derived.Deep.RegionHeldLaw
import Derived.Test.YtkfbbkkfagglhaaGreatDoorSapply
import Derived.Test.YtkfbbkkfagglhaaGreatDoorFewb
import Derived.Test.YtkfbbkkfagglhaaGreatDoorSortB
import Derived.BigQuiet
namespace Go.Proofs.YtkfbbkkfagglhaaGreatDoor
open Go.RowKit

/-- What a variable stands for; itself if it is not bound. -/
def getR (bs : List Bd) (x : Tm) : Tm := (getB bs x).getD x
mutual
/-- The reference's Put: a variable is replaced whatever kids it has. -/
def putT (bs : List Bd) : Tm → Tm
  | .mk k n s ks => if k = 1 then getR bs (.mk k n s ks) else .mk k n s (putL bs ks)
def putL (bs : List Bd) : List Tm → List Tm
  | [] => []
  | t :: ts => putT bs t :: putL bs ts
end
theorem putL_length (bs : List Bd) : ∀ ks, (putL bs ks).length = ks.length
  | [] => rfl
  | t :: ts => by rw [putL, List.length_cons, List.length_cons, putL_length bs ts]
theorem putL_take (bs : List Bd) : ∀ (ks : List Tm) (j : Nat) (h : j < ks.length), putL bs (ks.take (j + 1)) = putL bs (ks.take j) ++ [putT bs ks[j]]
  | t :: ts, 0, _ => by simp [putL]
  | t :: ts, j + 1, h => by
    have := putL_take bs ts j (by simpa using h)
    simp only [List.take_succ_cons, putL, List.getElem_cons_succ, List.cons_append, this]
/-- On a valid term it is what the substitution makes. -/
theorem putT_apT (bs : List Bd) (t : Tm) : nodesE t = 0 → putT bs t = apT bs t := by
  refine Tm.rec (motive_1 := fun t => nodesE t = 0 → putT bs t = apT bs t) (motive_2 := fun ts => nodesL ts = 0 → putL bs ts = apL bs ts) ?_ ?_ ?_ t
  · intro k n s ks ih h
    obtain ⟨h1, h2⟩ := nodesE_parts h
    rw [putT, apT, ih h2]
    by_cases hk : k = 1
    · subst hk
      rw [if_pos rfl, if_pos rfl]
      have := nodeE_var h1
      subst this
      unfold getR
      cases getB bs (.mk 1 n s []) with
      | none => rfl
      | some u => rfl
    · rw [if_neg hk, if_neg hk]
  · intro _; rfl
  · intro t ts h1 h2 h
    rw [nodesL] at h
    by_cases h0 : nodesE t = 0
    · rw [if_pos h0] at h
      rw [putL, apL, h1 h0, h2 h]
    · rw [if_neg h0] at h; exact absurd h h0
/-- With no bindings nothing changes. -/
theorem putT_nil (t : Tm) : putT [] t = t := by
  refine Tm.rec (motive_1 := fun t => putT [] t = t) (motive_2 := fun ts => putL [] ts = ts) ?_ ?_ ?_ t
  · intro k n s ks ih
    rw [putT, ih]
    by_cases hk : k = 1
    · rw [if_pos hk]; rfl
    · rw [if_neg hk]
  · rfl
  · intro t ts h1 h2; rw [putL, h1, h2]

theorem getB_drop_hit {bs : List Bd} {x : Tm} {j : Nat} (h : j < bs.length) (hc : cmpT bs[j].1 x = 0) : getB (bs.drop j) x = some bs[j].2 := by
  rw [List.drop_eq_getElem_cons h, getB, if_pos hc]
theorem getB_drop_miss {bs : List Bd} {x : Tm} {j : Nat} (h : j < bs.length) (hc : ¬ cmpT bs[j].1 x = 0) : getB (bs.drop j) x = getB (bs.drop (j + 1)) x := by
  rw [List.drop_eq_getElem_cons h, getB, if_neg hc]

/-- A term that is given back, or made: it lies in the old memory, or in the call's own. -/
def PutPost (base : Nat) (w : World) (t : Tm) (e : Ending) (w' : World) : Prop :=
  ∃ c0 c1 c2 c3, e = .returned (.agg #[c0, c1, c2, c3]) ∧ IsIn (fun b => b < base ∨ (w.heap.size ≤ b ∧ b < w'.heap.size)) w' t c0 c1 c2 c3 ∧ Below w.heap.size w w'

end Go.Proofs.YtkfbbkkfagglhaaGreatDoor

/-
  THE REFERENCE's Put (layer 2), walked.
-/
namespace Go.Proofs.YtkfbbkkfagglhaaGreatDoor
open Go.RowKit

/-- Kids that are gathered: a row of the call's own; what they hold lies in the old memory, or in the call's own elsewhere. -/
def KidsIn (base H : Nat) (wr : World) (acc : List Tm) (kv : Value) : Prop :=
  ∃ F : Nat → Prop, OwnT H F wr acc kv ∧ ∀ b, F b → (b < base ∨ H ≤ b ∧ b < wr.heap.size) ∧ kv.ownBlock ≠ some b
theorem KidsIn_nil (base H : Nat) (w : World) : KidsIn base H w [] (.slice none 0 0) := ⟨fun _ => False, OwnT_nil _ _ _, fun _ h => h.elim⟩
theorem KidsIn_keep {base H : Nat} {w w' : World} {acc : List Tm} {kv : Value} (h : KidsIn base H w acc kv) (hs : w.heap.size ≤ w'.heap.size) (hk : ∀ b, (b < base ∨ H ≤ b) → b < w.heap.size → w'.heap[b]? = w.heap[b]?) (hb : base ≤ w.heap.size) : KidsIn base H w' acc kv := by
  obtain ⟨F, hO, hF⟩ := h
  refine ⟨F, OwnT_carry hO (fun b hb' => ?_) (fun g hg => hk g (Or.inr (OwnT_lt hO g hg).1) (OwnT_lt hO g hg).2), fun b hb' => ⟨?_, (hF b hb').2⟩⟩
  · rcases (hF b hb').1 with h | ⟨h1, h2⟩
    · exact hk b (Or.inl h) (by omega)
    · exact hk b (Or.inr h1) h2
  · rcases (hF b hb').1 with h | ⟨h1, h2⟩
    · exact Or.inl h
    · exact Or.inr ⟨h1, by omega⟩
theorem KidsIn_form {base H : Nat} {w : World} {acc : List Tm} {kv : Value} (h : KidsIn base H w acc kv) : ∃ xa cap, kv = .slice xa acc.length cap := by
  obtain ⟨F, hO, _⟩ := h; exact OwnT_form hO
/-- One more kid. -/
theorem KidsIn_push {base H n g lcap cap : Nat} {wr w6 w8 : World} {acc : List Tm} {xl : Option Addr} {cs : List Value} {F : Nat → Prop} {x : Tm} {c0 c1 c2 c3 : Value} {o : Obj} (hn : n = acc.length)
    (ho : wr.ownsRow H 36 4 (.slice xl n lcap) n cs) (hK : KC F wr acc cs) (hF : ∀ b, F b → (b < base ∨ H ≤ b ∧ b < wr.heap.size) ∧ (Value.slice xl n lcap).ownBlock ≠ some b) (hbH : base ≤ H) (hH : H ≤ wr.heap.size)
    (hB : Below wr.heap.size wr w6) (hI : IsIn (fun b => b < base ∨ (wr.heap.size ≤ b ∧ b < w6.heap.size)) w6 x c0 c1 c2 c3) (hown : w8.ownsRow H 36 4 (.slice (some ⟨g, 0, none⟩) (n + 1) cap) (n + 1) (cs ++ [c0, c1, c2, c3])) (hg : (w6.alloc o).grownBy w8 (Value.slice xl n lcap).ownBlock)
    (hat : (Value.slice xl n lcap).ownBlock = some g ∨ g = w6.heap.size + 1) :
    KidsIn base H w8 (acc ++ [x]) (.slice (some ⟨g, 0, none⟩) (n + 1) cap) ∧ (∀ b, b < H → w8.heap[b]? = w6.heap[b]?) ∧ w6.heap.size ≤ w8.heap.size ∧ Below H w6 w8 := by
  subst hn
  have hsz := hB.size
  have hgs := hg.size
  rw [World.size_alloc] at hgs
  have hlt := fun q hq => ho.lt q hq
  have hk : ∀ b, b < w6.heap.size → (Value.slice xl acc.length lcap).ownBlock ≠ some b → w8.heap[b]? = w6.heap[b]? := fun b hb hne => by
    rw [hg.block b (by rw [World.size_alloc]; omega) (fun e => hne e.symm), Below.heap_alloc _ _ _ hb]
  have hnew : ∀ b, b < w6.heap.size → (Value.slice xl acc.length lcap).ownBlock ≠ some b → (Value.slice (some ⟨g, 0, none⟩) (acc.length + 1) cap).ownBlock ≠ some b := fun b h1 h2 e => by
    have e2 : g = b := by simpa [Value.ownBlock] using e
    rcases hat with h | h
    · exact h2 (by rw [h, e2])
    · omega
  have hFl : ∀ b, F b → b < wr.heap.size := fun b hb => by rcases (hF b hb).1 with h | h <;> omega
  refine ⟨⟨fun b => F b ∨ (wr.heap.size ≤ b ∧ b < w6.heap.size) ∨ (b < base), ⟨cs ++ [c0, c1, c2, c3], by simpa using hown, ?_⟩, ?_⟩, fun b hb => hk b (by omega) (fun e => by have := hlt b e; omega), by omega, ((Below.refl H w6).alloc (by omega) _).grown hg (by rw [World.size_alloc]; omega) (fun q hq => (hlt q hq).1)⟩
  · refine KC_append _ _ _ _ (KC_carry (fun b hb => ?_) (fun b hb => Or.inl hb) _ _ hK) (KC_one_term (IsIn_carry (fun b hb => ?_) (fun b hb => ?_) _ _ _ _ _ hI))
    · rw [hk b (by have := hFl b hb; omega) (hF b hb).2]; exact hB.block b (hFl b hb)
    · exact hk b (by rcases hb with h | h <;> omega) (fun e => by have := hlt b e; rcases hb with h | h <;> omega)
    · rcases hb with h | h
      · exact Or.inr (Or.inr h)
      · exact Or.inr (Or.inl h)
  · rintro b (hb | hb | hb)
    · refine ⟨?_, hnew b (by have := hFl b hb; omega) (hF b hb).2⟩
      rcases (hF b hb).1 with h | h
      · exact Or.inl h
      · exact Or.inr ⟨h.1, by omega⟩
    · exact ⟨Or.inr ⟨by omega, by omega⟩, hnew b hb.2 (fun e => by have := (hlt b e).2; omega)⟩
    · exact ⟨Or.inl hb, hnew b (by omega) (fun e => by have := (hlt b e).1; omega)⟩
/-- A node over kids that were gathered. -/
theorem KidsIn_node {base H : Nat} {w : World} {acc : List Tm} {k s : Int} {n : ByteArray} {kv : Value} (h : KidsIn base H w acc kv) (hk : -9223372036854775808 ≤ k ∧ k ≤ 9223372036854775807) (hs : -9223372036854775808 ≤ s ∧ s ≤ 9223372036854775807) (hn : n.size ≤ maxLen) : IsIn (fun b => b < base ∨ H ≤ b ∧ b < w.heap.size) w (.mk k n s acc) (.int .i64 k) (.string n) (.int .i64 s) kv := by
  obtain ⟨F, ⟨cs, ho, hK⟩, hF⟩ := h
  have h := IsIn_app (S' := fun b => b < base ∨ H ≤ b ∧ b < w.heap.size) (nm := n) hn ho hK (fun b hb => (hF b hb).1) (fun g hg => Or.inr (ho.lt g hg))
  simp only [IsIn] at h ⊢
  obtain ⟨_, _, _, _, _, h5, h6, h7⟩ := h
  exact ⟨trivial, trivial, trivial, hk, hs, h5, h6, h7⟩

structure PutR (base : Nat) (w : World) (k s : Int) (n : ByteArray) (kids : Value) (acc : List Tm) (kv : Value) (wr : World) : Prop where
  arg : wr.heap[w.heap.size]? = some (.cells #[.int .i64 k, .string n, .int .i64 s, kids] 36 (0, 0))
  res : wr.heap[w.heap.size + 1]? = some (.cells #[.int .i64 0, .string ⟨#[]⟩, .int .i64 0, .slice none 0 0] 36 (0, 0))
  out : wr.heap[w.heap.size + 2]? = some (.cells #[.int .i64 k, .string n, .int .i64 s, kv] 36 (0, 0))
  acc : KidsIn base (w.heap.size + 3) wr acc kv
  below : Below w.heap.size w wr
  size : w.heap.size + 3 ≤ wr.heap.size
theorem PutR.store {base : Nat} {w w8 : World} {k s : Int} {n : ByteArray} {kids kv kv' : Value} {acc : List Tm} (hb : base ≤ w.heap.size)
    (h0 : w8.heap[w.heap.size]? = some (.cells #[.int .i64 k, .string n, .int .i64 s, kids] 36 (0, 0)))
    (h1 : w8.heap[w.heap.size + 1]? = some (.cells #[.int .i64 0, .string ⟨#[]⟩, .int .i64 0, .slice none 0 0] 36 (0, 0)))
    (h2 : w8.heap[w.heap.size + 2]? = some (.cells #[.int .i64 k, .string n, .int .i64 s, kv] 36 (0, 0)))
    (hK : KidsIn base (w.heap.size + 3) w8 acc kv') (hB : Below w.heap.size w w8) (hz : w.heap.size + 3 ≤ w8.heap.size) :
    PutR base w k s n kids acc kv' (w8.setCell ⟨w.heap.size + 2, 3, none⟩ kv') := by
  refine ⟨?_, ?_, ?_, KidsIn_keep hK (by simp [World.setCell]) (fun b hb' _ => Below.heap_setCell _ _ _ _ (by show b ≠ w.heap.size + 2; rcases hb' with h | h <;> omega)) (by omega), hB.setCell (by show w.heap.size ≤ w.heap.size + 2; omega) _, by simpa [World.setCell] using hz⟩
  · rw [Below.heap_setCell _ _ _ _ (by show w.heap.size ≠ w.heap.size + 2; omega)]; exact h0
  · rw [Below.heap_setCell _ _ _ _ (by show w.heap.size + 1 ≠ w.heap.size + 2; omega)]; exact h1
  · simp [World.setCell, Array.getElem?_modify, h2]
theorem boxes3 (w : World) (a0 a1 a2 a3 b0 b1 b2 b3 c0 c1 c2 c3 : Value) (T : TypeId) : (((w.alloc (.cells #[a0, a1, a2, a3] T)).alloc (.cells #[b0, b1, b2, b3] T)).alloc (.cells #[c0, c1, c2, c3] T)).heap[w.heap.size]? = some (.cells #[a0, a1, a2, a3] T (0, 0)) ∧ (((w.alloc (.cells #[a0, a1, a2, a3] T)).alloc (.cells #[b0, b1, b2, b3] T)).alloc (.cells #[c0, c1, c2, c3] T)).heap[w.heap.size + 1]? = some (.cells #[b0, b1, b2, b3] T (0, 0)) ∧ (((w.alloc (.cells #[a0, a1, a2, a3] T)).alloc (.cells #[b0, b1, b2, b3] T)).alloc (.cells #[c0, c1, c2, c3] T)).heap[w.heap.size + 2]? = some (.cells #[c0, c1, c2, c3] T (0, 0)) ∧ Below w.heap.size w (((w.alloc (.cells #[a0, a1, a2, a3] T)).alloc (.cells #[b0, b1, b2, b3] T)).alloc (.cells #[c0, c1, c2, c3] T)) ∧ w.heap.size + 3 = (((w.alloc (.cells #[a0, a1, a2, a3] T)).alloc (.cells #[b0, b1, b2, b3] T)).alloc (.cells #[c0, c1, c2, c3] T)).heap.size := by
  obtain ⟨h0, h1, hB, hz⟩ := boxes2 w a0 a1 a2 a3 b0 b1 b2 b3 T
  refine ⟨?_, ?_, ?_, hB.alloc (by omega) _, by rw [World.size_alloc]; omega⟩
  · rw [Below.heap_alloc _ _ _ (by omega)]; exact h0
  · rw [Below.heap_alloc _ _ _ (by omega)]; exact h1
  · have := heap_alloc_new ((w.alloc (.cells #[a0, a1, a2, a3] T)).alloc (.cells #[b0, b1, b2, b3] T)) (.cells #[c0, c1, c2, c3] T)
    rw [← hz] at this; exact this

end Go.Proofs.YtkfbbkkfagglhaaGreatDoor

/-
  THE REFERENCE's Apply (layer 2), walked.
-/
namespace Go.Proofs.YtkfbbkkfagglhaaGreatDoor
open Go.RowKit

/-- A term and an error, given back. -/
def RaPost (w : World) (r : Tm × Int) (e : Ending) (w' : World) : Prop :=
  ∃ c0 c1 c2 c3, e = .returned (.tuple #[.agg #[c0, c1, c2, c3], .int .i64 r.2]) ∧ Is w' r.1 c0 c1 c2 c3 ∧ Below w.heap.size w w'
/-- The same, and it lies in the old memory, or in the call's own. -/
def RaPostB (base : Nat) (w : World) (r : Tm × Int) (e : Ending) (w' : World) : Prop :=
  ∃ c0 c1 c2 c3, e = .returned (.tuple #[.agg #[c0, c1, c2, c3], .int .i64 r.2]) ∧ IsIn (fun b => b < base ∨ (w.heap.size ≤ b ∧ b < w'.heap.size)) w' r.1 c0 c1 c2 c3 ∧ Below w.heap.size w w'
theorem RaPost_zero {base : Nat} {w W : World} {R : Tm × Int} {x : Int} (h : R = (zeroT, x)) (hB : Below w.heap.size w W) : RaPostB base w R (.returned (.tuple #[.agg #[.int .i64 0, .string ⟨#[]⟩, .int .i64 0, .slice none 0 0], .int .i64 x])) W := by
  rw [h]; exact ⟨_, _, _, _, rfl, zero_IsIn _ _, hB⟩

end Go.Proofs.YtkfbbkkfagglhaaGreatDoor

/-
  THE REFERENCE's Bind and bound (layer 2), walked (by gen_rbind.py).
-/
namespace Go.Proofs.YtkfbbkkfagglhaaGreatDoor
open Go.RowKit

/-- Bindings gathered in a row of the call's own; what they hold is old. -/
def OwnBd (H base : Nat) (w : World) (bs : List Bd) (v : Value) : Prop := ∃ cs, w.ownsRow H 53 8 v bs.length cs ∧ KC (fun b => b < base) w (flatB bs) cs
theorem OwnBd_nil (H base : Nat) (w : World) : OwnBd H base w [] (.slice none 0 0) := ⟨[], World.ownsRow_nil w H _ 8, rfl⟩
theorem OwnBd_form {H base : Nat} {w : World} {bs : List Bd} {v : Value} (h : OwnBd H base w bs v) : ∃ xa cap, v = .slice xa bs.length cap := by
  obtain ⟨cs, ho, _⟩ := h; exact own_form ho
theorem OwnBd_ext {H base : Nat} {w w' : World} {bs : List Bd} {v : Value} (h : OwnBd H base w bs v) (hb : base ≤ w.heap.size) (hE : Ext w w') : OwnBd H base w' bs v := by
  obtain ⟨cs, ho, hK⟩ := h
  exact ⟨cs, own_heap ho (fun q hq => hE.block q (ho.lt q hq).2), KC_carry (fun b (hb' : b < base) => hE.block b (by omega)) (fun _ h => h) _ _ hK⟩
theorem OwnBd_push {H base n g cap lcap : Nat} {w v w' : World} {os : List Bd} {xl : Option Addr} {cs : List Value} {t u : Tm} {c0 c1 c2 c3 d0 d1 d2 d3 : Value} (hown0 : w.ownsRow H 53 8 (.slice xl n lcap) n cs) (hK : KC (fun b => b < base) w (flatB os) cs) (hn : n = os.length) (hI : IsIn (fun b => b < base) w t c0 c1 c2 c3) (hJ : IsIn (fun b => b < base) w u d0 d1 d2 d3)
    (hb : base ≤ H) (hv : Below H w v) (hHv : H ≤ v.heap.size) (hown : w'.ownsRow H 53 8 (.slice (some ⟨g, 0, none⟩) (n + 1) cap) (n + 1) (cs ++ [c0, c1, c2, c3, d0, d1, d2, d3])) (hg : v.grownBy w' (Value.slice xl n lcap).ownBlock) :
    OwnBd H base w' (os ++ [(t, u)]) (.slice (some ⟨g, 0, none⟩) (n + 1) cap) ∧ Below H w w' := by
  subst hn
  have hB : Below H w w' := hv.grown hg hHv (fun q hq => (hown0.lt q hq).1)
  have hBl : Below base w w' := hB.mono hb
  refine ⟨⟨cs ++ [c0, c1, c2, c3, d0, d1, d2, d3], by simpa using hown, ?_⟩, hB⟩
  rw [flatB_snoc]
  exact KC_append _ _ _ _ (KC_carry (fun b hb' => hBl.block b hb') (fun _ h => h) _ _ hK) ⟨_, _, _, _, _, rfl, IsIn_carry (fun b hb' => hBl.block b hb') (fun _ h => h) _ _ _ _ _ hI, KC_one_term (IsIn_carry (fun b hb' => hBl.block b hb') (fun _ h => h) _ _ _ _ _ hJ)⟩
/-- A row of bindings from its cells. -/
theorem Row_cells {w : World} {S : Nat → Prop} (b : Nat) : ∀ (ts : List Tm) (o : Nat) (cs : List Value), KC S w ts cs → (∀ j u, cs[j]? = some u → w.cell? ⟨b, o + j, none⟩ = some u) → Row w ts (some ⟨b, o, none⟩)
  | [], o, cs, _, _ => by simp [Row]
  | t :: ts, o, cs, h, hc => by
    obtain ⟨c0, c1, c2, c3, r, rfl, hI, hr⟩ := h
    refine Row_cons_mk ⟨c0, c1, c2, c3, hc 0 _ rfl, hc 1 _ rfl, hc 2 _ rfl, hc 3 _ rfl, IsIn_Is _ _ _ _ _ hI⟩ (Row_cells b ts (o + 4) r hr (fun j u hu => ?_))
    have := hc (j + 4) u (by simpa using hu)
    rw [show o + 4 + j = o + (j + 4) by omega]; exact this
theorem OwnBd_row {H base : Nat} {w : World} {bs : List Bd} {xa : Option Addr} {cap : Nat} (h : OwnBd H base w bs (.slice xa bs.length cap)) : Row w (flatB bs) xa ∧ bs.length ≤ cap := by
  obtain ⟨cs, ho, hK⟩ := h
  rcases ho.2 with ⟨e, h0⟩ | ⟨g, cap', cur, e, _, _, h1, h2, _⟩
  · have : bs = [] := List.length_eq_zero_iff.1 h0
    subst this
    exact ⟨by simp [flatB, Row], Nat.zero_le _⟩
  · simp only [Value.slice.injEq] at e
    obtain ⟨rfl, _, rfl⟩ := e
    refine ⟨Row_cells g _ 0 cs hK (fun j u hu => ?_), h1⟩
    have := ho.cells (g := g) rfl j u hu
    rw [add_plain] at this; exact this
/-- A list of bindings that is given back. -/
def BindPost (w : World) (bs : List Bd) (e : Ending) (w' : World) : Prop :=
  ∃ xa cap, e = .returned (.slice xa bs.length cap) ∧ bs.length ≤ cap ∧ Row w' (flatB bs) xa ∧ Below w.heap.size w w'

/-- What is still to come. -/
def tailO (d : Bool) (r : List Bd) (b : Bd) : List Bd := match d with
  | true => r
  | false => insO r b
/-- At the head of Bind's loop. -/
structure BdR (w : World) (bs : List Bd) (v t : Tm) (a0 a1 a2 a3 b0 b1 b2 b3 : Value) (j : Nat) (d : Bool) (l : Value) (acc : List Bd) (wr : World) : Prop where
  vbox : wr.heap[w.heap.size]? = some (.cells #[a0, a1, a2, a3] 36 (0, 0))
  tbox : wr.heap[w.heap.size + 1]? = some (.cells #[b0, b1, b2, b3] 36 (0, 0))
  own : OwnBd (w.heap.size + 2) w.heap.size wr acc l
  below : Below w.heap.size w wr
  size : w.heap.size + 2 ≤ wr.heap.size
  eq : acc ++ tailO d (bs.drop j) (v, t) = insO bs (v, t)
theorem BdR.ext {w wr W : World} {bs : List Bd} {v t : Tm} {a0 a1 a2 a3 b0 b1 b2 b3 : Value} {j : Nat} {d : Bool} {l : Value} {acc : List Bd} (h : BdR w bs v t a0 a1 a2 a3 b0 b1 b2 b3 j d l acc wr) (hE : Ext wr W) : BdR w bs v t a0 a1 a2 a3 b0 b1 b2 b3 j d l acc W := by
  have hz := h.size
  have hz2 := hE.size
  exact ⟨(hE.block _ (by omega)).trans h.vbox, (hE.block _ (by omega)).trans h.tbox, OwnBd_ext h.own (by omega) hE, h.below.trans (hE.mono (by omega)), by omega, h.eq⟩
/-- One binding appended; 'vw' is the world that the append comes in. -/
theorem BdR.push {w wr vw w8 : World} {bs : List Bd} {v t x y : Tm} {a0 a1 a2 a3 b0 b1 b2 b3 c0 c1 c2 c3 d0 d1 d2 d3 : Value} {j j' n lcap g cap : Nat} {d d' : Bool} {xl : Option Addr} {acc : List Bd} {cs : List Value} (h : BdR w bs v t a0 a1 a2 a3 b0 b1 b2 b3 j d (.slice xl n lcap) acc wr) (hn : n = acc.length)
    (hown : wr.ownsRow (w.heap.size + 2) 53 8 (.slice xl n lcap) n cs) (hK : KC (fun b => b < w.heap.size) wr (flatB acc) cs) (hI : Is w x c0 c1 c2 c3) (hJ : Is w y d0 d1 d2 d3) (hv : Below (w.heap.size + 2) wr vw) (hvs : w.heap.size + 2 ≤ vw.heap.size)
    (ho : w8.ownsRow (w.heap.size + 2) 53 8 (.slice (some ⟨g, 0, none⟩) (n + 1) cap) (n + 1) (cs ++ [c0, c1, c2, c3, d0, d1, d2, d3])) (hg : vw.grownBy w8 (Value.slice xl n lcap).ownBlock)
    (he : (acc ++ [(x, y)]) ++ tailO d' (bs.drop j') (v, t) = insO bs (v, t)) : BdR w bs v t a0 a1 a2 a3 b0 b1 b2 b3 j' d' (.slice (some ⟨g, 0, none⟩) (n + 1) cap) (acc ++ [(x, y)]) w8 := by
  have hz := h.size
  have r := OwnBd_push hown hK hn (IsIn_carry (fun b hb => h.below.block b hb) (fun _ h => h) _ _ _ _ _ (Is_IsIn _ _ _ _ _ hI)) (IsIn_carry (fun b hb => h.below.block b hb) (fun _ h => h) _ _ _ _ _ (Is_IsIn _ _ _ _ _ hJ)) (by omega) hv hvs ho hg
  exact ⟨(r.2.block _ (by omega)).trans h.vbox, (r.2.block _ (by omega)).trans h.tbox, r.1, h.below.trans (r.2.mono (by omega)), by have := r.2.size; have := hg.size; omega, he⟩
theorem insO_step {bs : List Bd} {b : Bd} {j : Nat} {acc : List Bd} (h : j < bs.length) (hc : ¬ cmpT b.1 bs[j].1 < 0) (he : acc ++ insO (bs.drop j) b = insO bs b) : (acc ++ [bs[j]]) ++ insO (bs.drop (j + 1)) b = insO bs b := by
  rw [← he, List.drop_eq_getElem_cons h, insO, if_neg hc, List.append_assoc]; rfl
theorem insO_hit {bs : List Bd} {b : Bd} {j : Nat} {acc : List Bd} (h : j < bs.length) (hc : cmpT b.1 bs[j].1 < 0) (he : acc ++ insO (bs.drop j) b = insO bs b) : (acc ++ [b]) ++ bs.drop j = insO bs b := by
  rw [← he, List.drop_eq_getElem_cons h, insO, if_pos hc, List.append_assoc]; rfl
theorem ins_copy {bs us : List Bd} {j : Nat} {acc : List Bd} (h : j < bs.length) (he : acc ++ bs.drop j = us) : (acc ++ [bs[j]]) ++ bs.drop (j + 1) = us := by
  rw [← he, List.drop_eq_getElem_cons h, List.append_assoc]; rfl


end Go.Proofs.YtkfbbkkfagglhaaGreatDoor

/-
  THE REFERENCE's Compose (layer 2), walked.
-/
namespace Go.Proofs.YtkfbbkkfagglhaaGreatDoor
open Go.RowKit

/-- What the definition composes: the list, and the error. -/
def comP (ss ts : List Bd) : List Bd × Int :=
  if validB ss = 0 then (if validB ts = 0 then (if (folP ts ss).2 = 0 then (if 200 < (comR ss ts).length then ([], 3) else (comR ss ts, 0)) else ([], (folP ts ss).2)) else ([], validB ts)) else ([], validB ss)
theorem folP_err (ts : List Bd) : ∀ (ss : List Bd) (j : Nat) (h : j < ss.length), (∀ (i : Nat) (hi : i < j), (applyP ts (ss[i]'(by omega)).2).2 = 0) → ¬ (applyP ts ss[j].2).2 = 0 → (folP ts ss).2 = (applyP ts ss[j].2).2
  | b :: bs, 0, _, _, he => by
    simp only [List.getElem_cons_zero] at he ⊢
    rw [folP, if_neg he]
  | b :: bs, j + 1, h, hok, he => by
    have h0 := hok 0 (by omega)
    simp only [List.getElem_cons_zero] at h0
    simp only [List.getElem_cons_succ] at he ⊢
    have hl : j < bs.length := by simpa using h
    have ih := folP_err ts bs j hl (fun i hi => by have := hok (i + 1) (by omega); simpa using this) he
    rw [folP, if_pos h0, if_neg (by rw [ih]; exact he), ih]
theorem folP_fine (ts : List Bd) : ∀ ss : List Bd, (∀ b ∈ ss, (applyP ts b.2).2 = 0) → (folP ts ss).2 = 0
  | [], _ => rfl
  | b :: bs, h => by
    have ih := folP_fine ts bs (fun c hc => h c (List.mem_cons_of_mem _ hc))
    rw [folP, if_pos (h b (List.mem_cons_self ..)), if_pos ih]
    by_cases e : cmpT b.1 (applyP ts b.2).1 = 0
    · rw [if_pos e]
    · rw [if_neg e]
theorem insB_len (s : List Bd) (b : Bd) : (insB s b).length ≤ s.length + 1 := by
  unfold insB
  by_cases h : cmpT b.1 b.2 = 0
  · rw [if_pos h]; omega
  · rw [if_neg h, insO_length]; omega
theorem insB_sz {M : Nat} {s : List Bd} {b : Bd} (h : SzB M s) (hb : size b.1 ≤ M ∧ size b.2 ≤ M) : SzB M (insB s b) := by
  unfold insB
  by_cases h0 : cmpT b.1 b.2 = 0
  · rw [if_pos h0]; exact h
  · rw [if_neg h0]
    intro c hc
    rcases List.mem_cons.1 ((insO_perm s b).mem_iff.1 hc) with rfl | hc
    · exact hb
    · exact h c hc
theorem insL_snoc (s l : List Bd) (b : Bd) : insL s (l ++ [b]) = insB (insL s l) b := by unfold insL; rw [List.foldl_append]; rfl
theorem apB_take (ts ss : List Bd) (j : Nat) (h : j < ss.length) : apB ts (ss.take (j + 1)) = apB ts (ss.take j) ++ [(ss[j].1, (applyP ts ss[j].2).1)] := by
  unfold apB
  rw [List.take_succ_eq_append_getElem h, List.map_append]; rfl
theorem restB_take_skip (ss ts : List Bd) (j : Nat) (h : j < ts.length) (hb : bndB ss ts[j].1 = true) : restB ss (ts.take (j + 1)) = restB ss (ts.take j) := by
  unfold restB
  rw [List.take_succ_eq_append_getElem h, List.filter_append, List.filter_cons, if_neg (by rw [hb]; decide)]; simp
theorem restB_take_keep (ss ts : List Bd) (j : Nat) (h : j < ts.length) (hb : bndB ss ts[j].1 = false) : restB ss (ts.take (j + 1)) = restB ss (ts.take j) ++ [ts[j]] := by
  unfold restB
  rw [List.take_succ_eq_append_getElem h, List.filter_append, List.filter_cons, if_pos (by rw [hb]; rfl)]; simp
/-- A list of bindings and an error, given back. -/
def RcPost (w : World) (r : List Bd × Int) (e : Ending) (w' : World) : Prop :=
  ∃ xa cap, e = .returned (.tuple #[.slice xa r.1.length cap, .int .i64 r.2]) ∧ r.1.length ≤ cap ∧ Row w' (flatB r.1) xa ∧ Below w.heap.size w w'
theorem RcPost_err {w W : World} {r : List Bd × Int} {x : Int} (h : r = ([], x)) (hB : Below w.heap.size w W) : RcPost w r (.returned (.tuple #[.slice none 0 0, .int .i64 x])) W := by
  rw [h]; exact ⟨none, 0, rfl, Nat.le_refl _, by simp [flatB, Row], hB⟩
/-- What lies in the slot of what is composed. -/
def OutB (w wr : World) (acc : List Bd) (n : Nat) (v : Value) : Prop :=
  ∃ xa cap, v = .slice xa acc.length cap ∧ acc.length ≤ cap ∧ acc.length ≤ n ∧ SzB 1073741824 acc ∧ Row wr (flatB acc) xa ∧ Below w.heap.size w wr
theorem BindPost.out {w wr w' : World} {acc : List Bd} {b : Bd} {n : Nat} {e : Ending} (hz : SzB 1073741824 acc) (hn : acc.length ≤ n) (hb : size b.1 ≤ 1073741824 ∧ size b.2 ≤ 1073741824) (hB : Below w.heap.size w wr) (h : BindPost wr (insB acc b) e w') : ∃ xa cap, e = .returned (.slice xa (insB acc b).length cap) ∧ OutB w w' (insB acc b) (n + 1) (.slice xa (insB acc b).length cap) ∧ Ext wr w' := by
  obtain ⟨xa, cap, he, h1, h2, h3⟩ := h
  exact ⟨xa, cap, he, ⟨xa, cap, rfl, h1, by have := insB_len acc b; omega, insB_sz hz hb, h2, hB.trans (h3.mono hB.size)⟩, h3⟩

end Go.Proofs.YtkfbbkkfagglhaaGreatDoor
