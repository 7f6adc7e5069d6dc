/-
  THE PARSER's RECORD IN MEMORY; THE WALK OF take.
-/
import Derived.Test.YtfbomoginjknlaaDoorName
import Derived.Test.YtfbomoginjknlaaDoorMem
import Derived.Deep.RegionHeld3
import Derived.StillTactics
import Derived.Laws.Rows
import Derived.Deep.AppendLies
namespace Go.Proofs.YtfbomoginjknlaaDoor
open Go.RowKit

section
variable {w w' : World} {pb : Nat} {rest : ByteArray} {ov : Value} {nodes : Int} {large whole : Bool} {r0 r1 r2 r3 : Value}

end

/-- w' is w but for block b and new blocks. -/
def But (b : Nat) (w w' : World) : Prop := w.grownBy w' (some b)
theorem But.refl (b : Nat) (w : World) : But b w w := ⟨rfl, rfl, rfl, Nat.le_refl _, fun _ _ _ => rfl⟩
theorem But.trans {b : Nat} {w w' w'' : World} (h : But b w w') (k : But b w' w'') : But b w w'' :=
  ⟨k.os.trans h.os, k.tape.trans h.tape, k.output.trans h.output, Nat.le_trans h.size k.size, fun i hi hne => (k.block i (Nat.lt_of_lt_of_le hi h.size) hne).trans (h.block i hi hne)⟩
theorem But.below {b : Nat} {w w' w'' : World} (h : But b w w') (k : Below w'.heap.size w' w'') : But b w w'' :=
  ⟨k.os.trans h.os, k.tape.trans h.tape, k.output.trans h.output, Nat.le_trans h.size k.size, fun i hi hne => (k.block i (Nat.lt_of_lt_of_le hi h.size)).trans (h.block i hi hne)⟩
theorem But.setCell {b : Nat} {w w' : World} (h : But b w w') (i : Nat) (v : Value) : But b w (w'.setCell ⟨b, i, none⟩ v) :=
  ⟨h.os, h.tape, h.output, by have := h.size; simpa [World.setCell] using this, fun k hk hne => by
    rw [Below.heap_setCell _ _ _ _ (by intro e; exact hne (by rw [e]))]; exact h.block k hk hne⟩
theorem But.drew {b : Nat} {w w' : World} (h : But b w w') : But b w w'.drew := ⟨h.os, h.tape, h.output, h.size, h.block⟩
theorem But.alloc {b : Nat} {w w' : World} (h : But b w w') (o : Obj) : But b w (w'.alloc o) := h.below ((Below.refl _ _).alloc (Nat.le_refl _) _)
theorem But.ofBelow {b : Nat} {w w' : World} (k : Below w.heap.size w w') : But b w w' := (But.refl b w).below k
theorem But.toBelow {b B : Nat} {w w' : World} (h : But b w w') (hB : B ≤ b) (hB2 : B ≤ w.heap.size) : Below B w w' :=
  ⟨h.os, h.tape, h.output, h.size, fun k hk => h.block k (by omega) (by intro e; simp only [Option.some.injEq] at e; omega)⟩

/-- What take gives: whether the word stands there, and what remains. -/
def takeB (s p : ByteArray) : ByteArray := if preB s p then s.extract p.size s.size else s

end Go.Proofs.YtfbomoginjknlaaDoor

/-
  THE WALKS OF sort, variableSort, node.
-/
namespace Go.Proofs.YtfbomoginjknlaaDoor
open Go.RowKit

def wAny : ByteArray := ⟨#[97, 110, 121]⟩
def wAgent : ByteArray := ⟨#[97, 103, 101, 110, 116]⟩
def wNonce : ByteArray := ⟨#[110, 111, 110, 99, 101]⟩
def wKey : ByteArray := ⟨#[107, 101, 121]⟩
def wData : ByteArray := ⟨#[100, 97, 116, 97]⟩
def wTag : ByteArray := ⟨#[116, 97, 103]⟩

def sortW : List ByteArray := [wAny, wAgent, wNonce, wKey, wData, wTag]
/-- The first word of a list that stands there, its number, and what remains. -/
def sortP (rest : ByteArray) : Int → List ByteArray → Int × Bool × ByteArray
  | _, [] => (0, false, rest)
  | i, p :: ps => if preB rest p then (i, true, takeB rest p) else sortP rest (i + 1) ps

end Go.Proofs.YtfbomoginjknlaaDoor

/-
  THE WALKS OF variableSort, node.
-/
namespace Go.Proofs.YtfbomoginjknlaaDoor
open Go.RowKit

def bQ : ByteArray := ⟨#[63]⟩
def bColon : ByteArray := ⟨#[58]⟩
def bOpen : ByteArray := ⟨#[40]⟩
def bClose : ByteArray := ⟨#[41]⟩
def bComma : ByteArray := ⟨#[44, 32]⟩

def vsortP (rest : ByteArray) : Int × Bool × ByteArray :=
  if preB rest bColon then ((sortP (takeB rest bColon) 0 sortW).1, (sortP (takeB rest bColon) 0 sortW).2.1 && ((sortP (takeB rest bColon) 0 sortW).1 != 0), (sortP (takeB rest bColon) 0 sortW).2.2) else (0, true, rest)

/-- A node's beginning: its kind, name, sort, whether it is one, and what remains. -/
def nodeName (rest : ByteArray) : ByteArray := (takeB rest bQ).extract 0 (nameLen (takeB rest bQ).data.toList)
def nodeRest (rest : ByteArray) : ByteArray := (takeB rest bQ).extract (nodeName rest).size (takeB rest bQ).size
def nodeP (rest : ByteArray) : Int × ByteArray × Int × Bool × ByteArray :=
  if isNameB (nodeName rest).data.toList = false then (0, ByteArray.empty, 0, false, takeB rest bQ)
  else if preB rest bQ then (1, nodeName rest, (vsortP (nodeRest rest)).1, (vsortP (nodeRest rest)).2.1, (vsortP (nodeRest rest)).2.2)
  else if preB (nodeRest rest) bOpen then (3, nodeName rest, 0, true, takeB (nodeRest rest) bOpen)
  else if preB (nodeRest rest) bColon = false then (0, ByteArray.empty, 0, false, nodeRest rest)
  else (2, nodeName rest, (sortP (takeB (nodeRest rest) bColon) 0 sortW).1, (sortP (takeB (nodeRest rest) bColon) 0 sortW).2.1, (sortP (takeB (nodeRest rest) bColon) 0 sortW).2.2)

theorem takeB_size (s p : ByteArray) : (takeB s p).size ≤ s.size := by
  unfold takeB; split
  · simp only [ByteArray.size_extract]; omega
  · omega

/-- The result's cell of a function that gives a term, behind calls that leave it alone. -/
theorem res_kept {pb : Nat} {w w' : World} (hb : But pb (w.alloc (.cells #[.int .i64 0, .string ByteArray.empty, .int .i64 0, .slice none 0 0] 24)) w') (hlt : pb < w.heap.size) :
    w'.heap[w.heap.size]? = some (.cells #[.int .i64 0, .string ByteArray.empty, .int .i64 0, .slice none 0 0] 24 (0, 0)) := by
  rw [hb.block w.heap.size (by simp) (by simp; omega), heap_alloc_new]
theorem cells_of_block4 {w : World} {b : Nat} {c0 c1 c2 c3 : Value} {T : TypeId} (h : w.heap[b]? = some (.cells #[c0, c1, c2, c3] T (0, 0))) :
    w.cell? ⟨b, 0, none⟩ = some c0 ∧ w.cell? ⟨b, 1, none⟩ = some c1 ∧ w.cell? ⟨b, 2, none⟩ = some c2 ∧ w.cell? ⟨b, 3, none⟩ = some c3 ∧ ∀ i, w.frozen? ⟨b, i, none⟩ = false := by
  refine ⟨?_, ?_, ?_, ?_, fun i => ?_⟩ <;> (first | (unfold World.cell?; rw [h]; rfl) | (unfold World.frozen?; rw [h]; simp))

/-- Four stores into a block of four. -/
theorem set4 {w : World} {b : Nat} {T : TypeId} {a0 a1 a2 a3 v0 v1 v2 v3 : Value} (h : w.heap[b]? = some (.cells #[a0, a1, a2, a3] T (0, 0))) :
    ((((w.setCell ⟨b, 0, none⟩ v0).setCell ⟨b, 1, none⟩ v1).setCell ⟨b, 2, none⟩ v2).setCell ⟨b, 3, none⟩ v3).heap[b]? = some (.cells #[v0, v1, v2, v3] T (0, 0)) := by
  simp [World.setCell, Array.getElem?_modify, h]
theorem set4_other (w : World) (b k : Nat) (v0 v1 v2 v3 : Value) (hk : k ≠ b) :
    ((((w.setCell ⟨b, 0, none⟩ v0).setCell ⟨b, 1, none⟩ v1).setCell ⟨b, 2, none⟩ v2).setCell ⟨b, 3, none⟩ v3).heap[k]? = w.heap[k]? := by
  rw [Below.heap_setCell _ _ _ _ hk, Below.heap_setCell _ _ _ _ hk, Below.heap_setCell _ _ _ _ hk, Below.heap_setCell _ _ _ _ hk]
theorem But.fresh {b r : Nat} {w w' w'' : World} (h : But b w w') (hr : w.heap.size ≤ r) (ho : w''.os = w'.os) (ht : w''.tape = w'.tape) (hu : w''.output = w'.output) (hs : w'.heap.size ≤ w''.heap.size) (hk : ∀ k, k ≠ r → w''.heap[k]? = w'.heap[k]?) : But b w w'' :=
  ⟨ho.trans h.os, ht.trans h.tape, hu.trans h.output, Nat.le_trans h.size hs, fun k hk1 hne => (hk k (by omega)).trans (h.block k hk1 hne)⟩
theorem But.set4 {b r : Nat} {w w' : World} (h : But b w w') (hr : w.heap.size ≤ r) (v0 v1 v2 v3 : Value) : But b w ((((w'.setCell ⟨r, 0, none⟩ v0).setCell ⟨r, 1, none⟩ v1).setCell ⟨r, 2, none⟩ v2).setCell ⟨r, 3, none⟩ v3) :=
  h.fresh hr rfl rfl rfl (by simp [World.setCell]) (fun k hk => set4_other _ _ _ _ _ _ _ hk)

end Go.Proofs.YtfbomoginjknlaaDoor

/-
  THE PARSER's STACK IN MEMORY: finished terms that nothing touches any more, open applications whose rows are the call's own.
-/
namespace Go.Proofs.YtfbomoginjknlaaDoor
open Go.RowKit

mutual
/-- As 'Is', every row in a block of S. -/
def IsIn (S : Nat → Prop) (w : World) : Tm → Value → Value → Value → Value → Prop
  | .mk k n s ks, c0, c1, c2, c3 => c0 = .int .i64 k ∧ c1 = .string n ∧ c2 = .int .i64 s ∧ (-9223372036854775808 ≤ k ∧ k ≤ 9223372036854775807) ∧ (-9223372036854775808 ≤ s ∧ s ≤ 9223372036854775807) ∧ n.size ≤ maxLen ∧ ks.length ≤ maxLen ∧
      ∃ xa cap, c3 = .slice xa ks.length cap ∧ ks.length ≤ cap ∧ RowIn S w ks xa
def RowIn (S : Nat → Prop) (w : World) : List Tm → Option Addr → Prop
  | [], _ => True
  | t :: ts, xa => ∃ b o, xa = some ⟨b, o, none⟩ ∧ S b ∧ (∃ c0 c1 c2 c3, w.cell? ⟨b, o, none⟩ = some c0 ∧ w.cell? ⟨b, o + 1, none⟩ = some c1 ∧ w.cell? ⟨b, o + 2, none⟩ = some c2 ∧ w.cell? ⟨b, o + 3, none⟩ = some c3 ∧ IsIn S w t c0 c1 c2 c3) ∧ RowIn S w ts (some ⟨b, o + 4, none⟩)
end

theorem IsIn_carry {S S' : Nat → Prop} {w w' : World} (hc : ∀ b, S b → w'.heap[b]? = w.heap[b]?) (hS : ∀ b, S b → S' b) (t : Tm) : ∀ c0 c1 c2 c3, IsIn S w t c0 c1 c2 c3 → IsIn S' w' t c0 c1 c2 c3 := by
  refine Tm.rec (motive_1 := fun t => ∀ c0 c1 c2 c3, IsIn S w t c0 c1 c2 c3 → IsIn S' w' t c0 c1 c2 c3) (motive_2 := fun ts => ∀ xa, RowIn S w ts xa → RowIn S' w' ts xa) ?_ ?_ ?_ t
  · intro k n s ks ih c0 c1 c2 c3 h
    simp only [IsIn] at h ⊢
    obtain ⟨h1, h2, h3, h4, h5, h6, h7, xa, cap, h8, h9, h10⟩ := h
    exact ⟨h1, h2, h3, h4, h5, h6, h7, xa, cap, h8, h9, ih _ h10⟩
  · intro xa _; simp [RowIn]
  · intro t ts h1 h2 xa h
    simp only [RowIn] at h ⊢
    obtain ⟨b, o, e, hs, ⟨c0, c1, c2, c3, g0, g1, g2, g3, hI⟩, hR⟩ := h
    have hk : ∀ i v, w.cell? ⟨b, i, none⟩ = some v → w'.cell? ⟨b, i, none⟩ = some v := fun i v hv => by rw [World.cell?_of_block (w := w) (a := ⟨b, i, none⟩) (hc b hs)]; exact hv
    exact ⟨b, o, e, hS b hs, ⟨c0, c1, c2, c3, hk _ _ g0, hk _ _ g1, hk _ _ g2, hk _ _ g3, h1 _ _ _ _ hI⟩, h2 _ hR⟩

theorem IsIn_Is {S : Nat → Prop} {w : World} (t : Tm) : ∀ c0 c1 c2 c3, IsIn S w t c0 c1 c2 c3 → Is w t c0 c1 c2 c3 := by
  refine Tm.rec (motive_1 := fun t => ∀ c0 c1 c2 c3, IsIn S w t c0 c1 c2 c3 → Is w t c0 c1 c2 c3) (motive_2 := fun ts => ∀ xa, RowIn S w ts xa → Row w ts xa) ?_ ?_ ?_ t
  · intro k n s ks ih c0 c1 c2 c3 h
    simp only [IsIn] at h; simp only [Is]
    obtain ⟨h1, h2, h3, h4, h5, h6, h7, xa, cap, h8, h9, h10⟩ := h
    exact ⟨h1, h2, h3, h4, h5, h6, h7, xa, cap, h8, h9, ih _ h10⟩
  · intro xa _; simp [Row]
  · intro t ts h1 h2 xa h
    simp only [RowIn] at h; simp only [Row]
    obtain ⟨b, o, e, _, ⟨c0, c1, c2, c3, g0, g1, g2, g3, hI⟩, hR⟩ := h
    exact ⟨b, o, e, ⟨c0, c1, c2, c3, g0, g1, g2, g3, h1 _ _ _ _ hI⟩, h2 _ hR⟩

/-- The cells of finished terms, one behind the other. -/
def KC (S : Nat → Prop) (w : World) : List Tm → List Value → Prop
  | [], cs => cs = []
  | t :: ts, cs => ∃ c0 c1 c2 c3 r, cs = c0 :: c1 :: c2 :: c3 :: r ∧ IsIn S w t c0 c1 c2 c3 ∧ KC S w ts r

theorem KC_carry {S S' : Nat → Prop} {w w' : World} (hc : ∀ b, S b → w'.heap[b]? = w.heap[b]?) (hS : ∀ b, S b → S' b) : ∀ (ts : List Tm) (cs : List Value), KC S w ts cs → KC S' w' ts cs
  | [], cs, h => h
  | t :: ts, cs, h => by
    obtain ⟨c0, c1, c2, c3, r, e, hI, hr⟩ := h
    exact ⟨c0, c1, c2, c3, r, e, IsIn_carry hc hS t _ _ _ _ hI, KC_carry hc hS ts r hr⟩
theorem KC_snoc {S : Nat → Prop} {w : World} {t : Tm} {c0 c1 c2 c3 : Value} (hI : IsIn S w t c0 c1 c2 c3) : ∀ (ts : List Tm) (cs : List Value), KC S w ts cs → KC S w (ts ++ [t]) (cs ++ [c0, c1, c2, c3])
  | [], cs, h => by subst h; exact ⟨c0, c1, c2, c3, [], rfl, hI, rfl⟩
  | u :: ts, cs, h => by
    obtain ⟨d0, d1, d2, d3, r, rfl, hJ, hr⟩ := h
    exact ⟨d0, d1, d2, d3, r ++ [c0, c1, c2, c3], rfl, hJ, KC_snoc hI ts r hr⟩
theorem RowIn_of_KC {S : Nat → Prop} {w : World} {g : Nat} (hg : S g) : ∀ (ts : List Tm) (cs : List Value) (o : Nat), KC S w ts cs → (∀ j u, cs[j]? = some u → w.cell? ⟨g, o + j, none⟩ = some u) → RowIn S w ts (some ⟨g, o, none⟩)
  | [], _, _, _, _ => by simp [RowIn]
  | t :: ts, cs, o, h, hc => by
    obtain ⟨c0, c1, c2, c3, r, rfl, hI, hr⟩ := h
    simp only [RowIn]
    refine ⟨g, o, rfl, hg, ⟨c0, c1, c2, c3, hc 0 _ rfl, hc 1 _ rfl, hc 2 _ rfl, hc 3 _ rfl, hI⟩, RowIn_of_KC hg ts r (o + 4) hr fun j u hu => ?_⟩
    have := hc (j + 4) u (by simpa using hu)
    rw [show o + 4 + j = o + (j + 4) by omega]; exact this

/-- An application whose row is the call's own, as a finished term. -/
theorem IsIn_app {S S' : Nat → Prop} {w : World} {base : Nat} {T : TypeId} {nm : ByteArray} {ks : List Tm} {kv : Value} {cs : List Value} (hn : nm.size ≤ maxLen) (hown : w.ownsRow base T 4 kv ks.length cs) (hK : KC S w ks cs)
    (hS : ∀ b, S b → S' b) (hg : ∀ g, kv.ownBlock = some g → S' g) : IsIn S' w (.mk 3 nm 0 ks) (.int .i64 3) (.string nm) (.int .i64 0) kv := by
  have hK' := KC_carry (w' := w) (fun _ _ => rfl) hS ks cs hK
  simp only [IsIn]
  refine ⟨trivial, trivial, trivial, by omega, by omega, hn, ?_, ?_⟩
  · rcases hown.2 with ⟨_, h0⟩ | ⟨g, cap, cur, _, _, _, h1, h2, _⟩
    · rw [h0]; exact Nat.zero_le _
    · omega
  · have hown' := hown
    rcases hown.2 with ⟨rfl, h0⟩ | ⟨g, cap, cur, rfl, _, _, h1, h2, _⟩
    · refine ⟨none, 0, by rw [h0], by omega, ?_⟩
      have : ks = [] := List.length_eq_zero_iff.1 h0
      rw [this]; simp [RowIn]
    · refine ⟨some ⟨g, 0, none⟩, cap, rfl, h1, RowIn_of_KC (hg g rfl) ks cs 0 hK' fun j u hu => ?_⟩
      have hj : j < cs.length := by
        rcases Nat.lt_or_ge j cs.length with h | h
        · exact h
        · rw [List.getElem?_eq_none h] at hu; cases hu
      rw [Nat.zero_add, hown'.cellAt j (by rw [← hown'.1]; exact hj)]; exact hu

/-- An open application: its name, the kids that it has, and the value that holds them. -/
structure Fr where
  nm : ByteArray
  ks : List Tm
  kv : Value
def Fr.cells (f : Fr) : List Value := [.int .i64 3, .string f.nm, .int .i64 0, f.kv]
/-- The cells of a stack, the innermost application first in the list and last in memory. -/
def flat : List Fr → List Value
  | [] => []
  | f :: r => flat r ++ f.cells
theorem flat_length : ∀ l : List Fr, (flat l).length = l.length * 4
  | [] => rfl
  | f :: r => by simp only [flat, List.length_append, flat_length r, Fr.cells, List.length_cons, List.length_nil]; omega

/-- The finished blocks of the call's own. -/
def Fb (base : Nat) (F : Nat → Prop) : Nat → Prop := fun b => F b ∧ base ≤ b

def Stk (w : World) (base pb : Nat) (ov : Value) (F : Nat → Prop) : List Fr → Prop
  | [] => True
  | f :: r => f.nm.size ≤ maxLen ∧ (∃ cs, w.ownsRow base 24 4 f.kv f.ks.length cs ∧ KC (Fb base F) w f.ks cs) ∧ (∀ g, f.kv.ownBlock = some g → ¬ F g ∧ g ≠ pb ∧ ov.ownBlock ≠ some g ∧ ∀ f' ∈ r, f'.kv.ownBlock ≠ some g) ∧ Stk w base pb ov F r

/-- The blocks of F are as they were. -/
structure Keeps (F : Nat → Prop) (w w' : World) : Prop where
  os : w'.os = w.os
  tape : w'.tape = w.tape
  output : w'.output = w.output
  size : w.heap.size ≤ w'.heap.size
  block : ∀ b, F b → w'.heap[b]? = w.heap[b]?
theorem Keeps.refl (F : Nat → Prop) (w : World) : Keeps F w w := ⟨rfl, rfl, rfl, Nat.le_refl _, fun _ _ => rfl⟩
theorem Keeps.trans {F : Nat → Prop} {a b c : World} (h : Keeps F a b) (k : Keeps F b c) : Keeps F a c :=
  ⟨k.os.trans h.os, k.tape.trans h.tape, k.output.trans h.output, Nat.le_trans h.size k.size, fun i hi => (k.block i hi).trans (h.block i hi)⟩
theorem Keeps.mono {F G : Nat → Prop} {a b : World} (h : Keeps F a b) (hG : ∀ i, G i → F i) : Keeps G a b := ⟨h.os, h.tape, h.output, h.size, fun i hi => h.block i (hG i hi)⟩
theorem Keeps.ofBut {F : Nat → Prop} {pb : Nat} {w w' : World} (h : But pb w w') (hF : ∀ b, F b → b < w.heap.size ∧ b ≠ pb) : Keeps F w w' :=
  ⟨h.os, h.tape, h.output, h.size, fun b hb => h.block b (hF b hb).1 (by intro e; simp only [Option.some.injEq] at e; exact (hF b hb).2 e)⟩

/-- A block that the state leaves alone though it is not finished. -/
def Apart (pb : Nat) (ov : Value) (fr : List Fr) (F : Nat → Prop) (tb : Nat) : Prop := tb ≠ pb ∧ ov.ownBlock ≠ some tb ∧ (∀ f ∈ fr, f.kv.ownBlock ≠ some tb) ∧ ¬ F tb

theorem Stk_kv_lt {w : World} {base pb : Nat} {ov : Value} {F : Nat → Prop} : ∀ {l : List Fr}, Stk w base pb ov F l → ∀ f ∈ l, ∀ g, f.kv.ownBlock = some g → base ≤ g ∧ g < w.heap.size
  | [], _, f, hf, _, _ => by simp at hf
  | a :: r, h, f, hf, g, hg => by
    obtain ⟨_, ⟨cs, ho, _⟩, _, hr⟩ := h
    simp only [List.mem_cons] at hf
    rcases hf with rfl | hf
    · exact ho.lt g hg
    · exact Stk_kv_lt hr f hf g hg

/-- A stack in a world in which nothing of it has turned, beside another value of the row. -/
theorem Stk_carry {w w' : World} {base pb : Nat} {ov ov' : Value} {F : Nat → Prop} (hF : ∀ b, F b → w'.heap[b]? = w.heap[b]?) : ∀ {l : List Fr} (_ : ∀ f ∈ l, ∀ g, f.kv.ownBlock = some g → w'.heap[g]? = w.heap[g]? ∧ ov'.ownBlock ≠ some g),
    Stk w base pb ov F l → Stk w' base pb ov' F l
  | [], _, _ => by simp [Stk]
  | f :: r, hl, h => by
    obtain ⟨h1, ⟨cs, ho, hK⟩, h3, h4⟩ := h
    refine ⟨h1, ⟨cs, ⟨ho.1, ?_⟩, KC_carry (fun b hb => hF b hb.1) (fun _ h => h) _ _ hK⟩, fun g hg => ?_, Stk_carry hF (fun f' hf' => hl f' (List.mem_cons_of_mem _ hf')) h4⟩
    · rcases ho.2 with hn | ⟨g, cap, cur, e, hb, hh, rest⟩
      · exact Or.inl hn
      · refine Or.inr ⟨g, cap, cur, e, hb, ?_, rest⟩
        rw [(hl f (List.mem_cons_self ..) g (by rw [e]; rfl)).1]; exact hh
    · obtain ⟨a, b, _, d⟩ := h3 g hg
      exact ⟨a, b, (hl f (List.mem_cons_self ..) g hg).2, d⟩

/-- A stack whose finished blocks have become more. -/
theorem Stk_more {w : World} {base pb : Nat} {ov : Value} {F F' : Nat → Prop} (hF : ∀ b, F b → F' b) : ∀ {l : List Fr} (_ : ∀ f ∈ l, ∀ g, f.kv.ownBlock = some g → ¬ F' g), Stk w base pb ov F l → Stk w base pb ov F' l
  | [], _, _ => by simp [Stk]
  | f :: r, hl, h => by
    obtain ⟨h1, ⟨cs, ho, hK⟩, h3, h4⟩ := h
    refine ⟨h1, ⟨cs, ho, KC_carry (fun _ _ => rfl) (fun b hb => ⟨hF b hb.1, hb.2⟩) _ _ hK⟩, fun g hg => ?_, Stk_more hF (fun f' hf' => hl f' (List.mem_cons_of_mem _ hf')) h4⟩
    obtain ⟨_, b, c, d⟩ := h3 g hg
    exact ⟨hl f (List.mem_cons_self ..) g hg, b, c, d⟩

end Go.Proofs.YtfbomoginjknlaaDoor

/-
  WHAT THE PARSER's STEPS DO TO ITS STACK.
-/
namespace Go.Proofs.YtfbomoginjknlaaDoor
open Go.RowKit

theorem ownsRow_of_heap {w w' : World} {base : Nat} {T : TypeId} {k : Nat} {v : Value} {n : Nat} {xs : List Value} (h : w.ownsRow base T k v n xs) (hk : ∀ g, v.ownBlock = some g → w'.heap[g]? = w.heap[g]?) : w'.ownsRow base T k v n xs := by
  refine ⟨h.1, ?_⟩
  rcases h.2 with hn | ⟨g, cap, cur, e, hb, hh, rest⟩
  · exact Or.inl hn
  · exact Or.inr ⟨g, cap, cur, e, hb, by rw [hk g (by rw [e]; rfl)]; exact hh, rest⟩

/-- Four stores into a row, one element. -/
def put4 (w : World) (g o : Nat) (c0 c1 c2 c3 : Value) : World := (((w.setCell ⟨g, o, none⟩ c0).setCell ⟨g, o + 1, none⟩ c1).setCell ⟨g, o + 2, none⟩ c2).setCell ⟨g, o + 3, none⟩ c3
theorem put4_other (w : World) (g o k : Nat) (c0 c1 c2 c3 : Value) (hk : k ≠ g) : (put4 w g o c0 c1 c2 c3).heap[k]? = w.heap[k]? := by
  unfold put4
  rw [Below.heap_setCell _ _ _ _ hk, Below.heap_setCell _ _ _ _ hk, Below.heap_setCell _ _ _ _ hk, Below.heap_setCell _ _ _ _ hk]
theorem put4_size (w : World) (g o : Nat) (c0 c1 c2 c3 : Value) : (put4 w g o c0 c1 c2 c3).heap.size = w.heap.size := by simp [put4, World.setCell]
theorem put4_owns {w : World} {base : Nat} {T : TypeId} {g n cap : Nat} {cs zs : List Value} {c0 c1 c2 c3 : Value} (h : w.ownsRow base T 4 (.slice (some ⟨g, 0, none⟩) (n + 1) cap) (n + 1) (cs ++ zs)) (hc : cs.length = n * 4) (hz : zs.length = 4) :
    (put4 w g (n * 4) c0 c1 c2 c3).ownsRow base T 4 (.slice (some ⟨g, 0, none⟩) (n + 1) cap) (n + 1) (cs ++ [c0, c1, c2, c3]) := by
  match zs, hz with
  | [z0, z1, z2, z3], _ =>
    have h1 := ((((((h.stored (n * 4) c0).1).stored (n * 4 + 1) c1).1).stored (n * 4 + 2) c2).1.stored (n * 4 + 3) c3).1
    have e : ((((cs ++ [z0, z1, z2, z3]).set (n * 4) c0).set (n * 4 + 1) c1).set (n * 4 + 2) c2).set (n * 4 + 3) c3 = cs ++ [c0, c1, c2, c3] := by
      rw [← hc]
      simp
    rw [e] at h1
    exact h1

/-- The world behind a kid's append. -/
def kidW (wB : World) (g og n l cap : Nat) (c0 c1 c2 c3 : Value) : World := (put4 wB g (n * 4) c0 c1 c2 c3).setCell ⟨og, l * 4 + 3, none⟩ (.slice (some ⟨g, 0, none⟩) (n + 1) cap)
theorem kidW_other (wB : World) (g og n l cap : Nat) (c0 c1 c2 c3 : Value) (k : Nat) (h1 : k ≠ g) (h2 : k ≠ og) : (kidW wB g og n l cap c0 c1 c2 c3).heap[k]? = wB.heap[k]? := by
  unfold kidW
  rw [Below.heap_setCell _ _ _ _ h2, put4_other _ _ _ _ _ _ _ _ h1]
theorem kidW_size (wB : World) (g og n l cap : Nat) (c0 c1 c2 c3 : Value) : (kidW wB g og n l cap c0 c1 c2 c3).heap.size = wB.heap.size := by
  unfold kidW; simp [World.setCell, put4_size]

section
variable {w wB : World} {base pb : Nat} {rest : ByteArray} {ov : Value} {nodes : Int} {large whole : Bool} {r0 r1 r2 r3 : Value} {f : Fr} {r : List Fr} {F : Nat → Prop}

end
end Go.Proofs.YtfbomoginjknlaaDoor

/-
  WHAT THE PARSER's STEPS DO TO ITS STACK: an application is opened, an application is closed.
-/
namespace Go.Proofs.YtfbomoginjknlaaDoor
open Go.RowKit

theorem Stk_ov {w : World} {base pb : Nat} {ov : Value} {F : Nat → Prop} : ∀ {l : List Fr}, Stk w base pb ov F l → ∀ f ∈ l, ∀ g, f.kv.ownBlock = some g → ov.ownBlock ≠ some g ∧ g ≠ pb ∧ ¬ F g
  | [], _, f, hf, _, _ => by simp at hf
  | a :: r, h, f, hf, g, hg => by
    simp only [List.mem_cons] at hf
    rcases hf with rfl | hf
    · obtain ⟨a, b, c, _⟩ := h.2.2.1 g hg; exact ⟨c, b, a⟩
    · exact Stk_ov h.2.2.2 f hf g hg

/-- The world behind an opening. -/
def pushW (wB : World) (pb g n cap : Nat) (c0 c1 c2 c3 : Value) : World := (put4 wB g (n * 4) c0 c1 c2 c3).setCell ⟨pb, 1, none⟩ (.slice (some ⟨g, 0, none⟩) (n + 1) cap)
theorem pushW_other (wB : World) (pb g n cap : Nat) (c0 c1 c2 c3 : Value) (k : Nat) (h1 : k ≠ g) (h2 : k ≠ pb) : (pushW wB pb g n cap c0 c1 c2 c3).heap[k]? = wB.heap[k]? := by
  unfold pushW
  rw [Below.heap_setCell _ _ _ _ h2, put4_other _ _ _ _ _ _ _ _ h1]
theorem pushW_size (wB : World) (pb g n cap : Nat) (c0 c1 c2 c3 : Value) : (pushW wB pb g n cap c0 c1 c2 c3).heap.size = wB.heap.size := by
  unfold pushW; simp [World.setCell, put4_size]

section
variable {w wB : World} {base pb : Nat} {rest : ByteArray} {ov : Value} {nodes : Int} {large whole : Bool} {r0 r1 r2 r3 : Value} {f : Fr} {r : List Fr} {F : Nat → Prop}

/-- The world behind a closing. -/
def popW (w : World) (pb tb og n ocap : Nat) (c0 c1 c2 c3 : Value) : World := (put4 w tb 0 c0 c1 c2 c3).setCell ⟨pb, 1, none⟩ (.slice (some ⟨og, 0, none⟩) n ocap)
theorem popW_other (w : World) (pb tb og n ocap : Nat) (c0 c1 c2 c3 : Value) (k : Nat) (h1 : k ≠ tb) (h2 : k ≠ pb) : (popW w pb tb og n ocap c0 c1 c2 c3).heap[k]? = w.heap[k]? := by
  unfold popW
  rw [Below.heap_setCell _ _ _ _ h2, put4_other _ _ _ _ _ _ _ _ h1]
theorem popW_size (w : World) (pb tb og n ocap : Nat) (c0 c1 c2 c3 : Value) : (popW w pb tb og n ocap c0 c1 c2 c3).heap.size = w.heap.size := by
  unfold popW; simp [World.setCell, put4_size]
theorem popW_box {w : World} {pb tb og n ocap : Nat} {c0 c1 c2 c3 d0 d1 d2 d3 : Value} (h : w.heap[tb]? = some (.cells #[d0, d1, d2, d3] 24 (0, 0))) (hne : tb ≠ pb) :
    (popW w pb tb og n ocap c0 c1 c2 c3).heap[tb]? = some (.cells #[c0, c1, c2, c3] 24 (0, 0)) := by
  unfold popW
  rw [Below.heap_setCell _ _ _ _ hne]
  exact set4 h

end
end Go.Proofs.YtfbomoginjknlaaDoor
