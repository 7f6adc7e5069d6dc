/-
  POSITIONS: the plain function; what lies in memory while they are listed.
-/
import Derived.Test.YtfbomoginjknlaaDoorInts
import Derived.Test.YtfbomoginjknlaaDoorEndb
import Derived.Test.YtfbomoginjknlaaDoorMem
namespace Go.Proofs.YtfbomoginjknlaaDoor
open Go.RowKit

mutual
def posT (path : List Nat) : Tm → List (List Nat)
  | .mk _ _ _ ks => path :: posL path 0 ks
def posL (path : List Nat) (i : Nat) : List Tm → List (List Nat)
  | [] => []
  | t :: ts => posT (path ++ [i]) t ++ posL path (i + 1) ts
end

theorem posT_length : ∀ t : Tm, ∀ path, (posT path t).length = size t := by
  intro t
  refine Tm.rec (motive_1 := fun t => ∀ path, (posT path t).length = size t) (motive_2 := fun ts => ∀ path i, (posL path i ts).length = sizes ts) ?_ ?_ ?_ t
  · intro k n s ks ih path; simp only [posT, size, List.length_cons, ih]; omega
  · intro path i; simp [posL, sizes]
  · intro t ts h1 h2 path i; simp only [posL, sizes, List.length_append, h1, h2]
theorem posL_append (path : List Nat) : ∀ (l m : List Tm) (i : Nat), posL path i (l ++ m) = posL path i l ++ posL path (i + l.length) m
  | [], m, i => by simp [posL]
  | a :: l, m, i => by
    simp only [List.cons_append, posL, posL_append path l m (i + 1), List.append_assoc, List.length_cons]
    rw [show i + 1 + l.length = i + (l.length + 1) by omega]
theorem posL_take (path : List Nat) (l : List Tm) (j : Nat) (h : j < l.length) : posL path 0 (l.take (j + 1)) = posL path 0 (l.take j) ++ posT (path ++ [j]) l[j] := by
  rw [List.take_succ_eq_append_getElem h, posL_append]
  have : (l.take j).length = j := by simp; omega
  rw [this]; simp [posL]

/-- A finished position, in its own row. -/
def PV (S : Nat → Prop) (w : World) (p : List Nat) (v : Value) : Prop := w.ownsRow 0 3 1 v p.length (ints p) ∧ ∀ g, v.ownBlock = some g → S g
def PL (S : Nat → Prop) (w : World) : List (List Nat) → List Value → Prop
  | [], vs => vs = []
  | p :: ps, vs => ∃ v r, vs = v :: r ∧ PV S w p v ∧ PL S w ps r
theorem PV_carry {S S' : Nat → Prop} {w w' : World} (hc : ∀ b, S b → w'.heap[b]? = w.heap[b]?) (hS : ∀ b, S b → S' b) {p : List Nat} {v : Value} (h : PV S w p v) : PV S' w' p v :=
  ⟨own_heap h.1 (fun g hg => hc g (h.2 g hg)), fun g hg => hS g (h.2 g hg)⟩
theorem PL_carry {S S' : Nat → Prop} {w w' : World} (hc : ∀ b, S b → w'.heap[b]? = w.heap[b]?) (hS : ∀ b, S b → S' b) : ∀ (ps : List (List Nat)) (vs : List Value), PL S w ps vs → PL S' w' ps vs
  | [], vs, h => h
  | p :: ps, vs, h => by
    obtain ⟨v, r, e, hv, hr⟩ := h
    exact ⟨v, r, e, PV_carry hc hS hv, PL_carry hc hS ps r hr⟩
theorem PL_snoc {S : Nat → Prop} {w : World} {p : List Nat} {v : Value} (hv : PV S w p v) : ∀ (ps : List (List Nat)) (vs : List Value), PL S w ps vs → PL S w (ps ++ [p]) (vs ++ [v])
  | [], vs, h => by subst h; exact ⟨v, [], rfl, hv, rfl⟩
  | q :: ps, vs, h => by
    obtain ⟨u, r, rfl, hu, hr⟩ := h
    exact ⟨u, r ++ [v], rfl, hu, PL_snoc hv ps r hr⟩
theorem PL_length {S : Nat → Prop} {w : World} : ∀ (ps : List (List Nat)) (vs : List Value), PL S w ps vs → vs.length = ps.length
  | [], vs, h => by subst h; rfl
  | p :: ps, vs, h => by
    obtain ⟨v, r, rfl, _, hr⟩ := h
    simp [PL_length ps r hr]

structure PosPre (G F : Nat → Prop) (w : World) (base : Nat) (at_ : Value) (path : List Nat) (l : Value) (ps : List (List Nat)) (vs : List Value) : Prop where
  gG : ∀ b, G b → b < w.heap.size ∧ at_.ownBlock ≠ some b ∧ l.ownBlock ≠ some b
  gF : ∀ b, F b → G b
  gB : ∀ b, b < base → G b
  gl : base ≤ w.heap.size
  own : w.ownsRow base 3 1 at_ path.length (ints path)
  row : w.ownsRow base 45 1 l ps.length vs
  pl : PL F w ps vs
  ne : ∀ g, at_.ownBlock = some g → l.ownBlock ≠ some g
  atn : at_ = .slice none 0 0 ∨ 0 < path.length

def PosPost (G F : Nat → Prop) (w : World) (base : Nat) (at_ : Value) (path : List Nat) (l : Value) (ps : List (List Nat)) (t : Tm) (e : Ending) (w' : World) : Prop :=
  ∃ l' vs' F', e = .returned l' ∧ PosPre (fun b => G b ∨ F' b) F' w' base at_ path l' (ps ++ posT path t) vs' ∧ (∀ b, F b → F' b) ∧ (∀ b, F' b → F b ∨ w.heap.size ≤ b) ∧
    (∀ g, l'.ownBlock = some g → l.ownBlock = some g ∨ w.heap.size ≤ g) ∧ Keeps G w w'

/-- The node's own position is listed. -/
theorem PosPre.root {G F : Nat → Prop} {w wc w1 : World} {base : Nat} {at_ : Value} {path : List Nat} {l : Value} {ps : List (List Nat)} {vs : List Value} (h : PosPre G F w base at_ path l ps vs) {v : Value} {o : Obj} {gl lcap : Nat}
    (hv : wc.ownsRow w.heap.size 3 1 v path.length (ints path)) (hB : Below w.heap.size w wc)
    (hown : w1.ownsRow base 45 1 (.slice (some ⟨gl, 0, none⟩) (ps.length + 1) lcap) (ps.length + 1) (vs ++ [v])) (hg : (wc.alloc o).grownBy w1 l.ownBlock) (hat : l.ownBlock = some gl ∨ gl = wc.heap.size + 1) :
    PosPre (fun b => G b ∨ (F b ∨ v.ownBlock = some b)) (fun b => F b ∨ v.ownBlock = some b) w1 base at_ path (.slice (some ⟨gl, 0, none⟩) (ps.length + 1) lcap) (ps ++ [path]) (vs ++ [v]) ∧ Keeps G w w1 ∧ (∀ b, v.ownBlock = some b → w.heap.size ≤ b) := by
  have hs1 : w.heap.size ≤ wc.heap.size := hB.size
  have hs2 : wc.heap.size + 1 ≤ w1.heap.size := by have := hg.size; rwa [World.size_alloc] at this
  have hvl : ∀ b, v.ownBlock = some b → w.heap.size ≤ b ∧ b < wc.heap.size := fun b hb => hv.lt b hb
  have hll : ∀ b, l.ownBlock = some b → base ≤ b ∧ b < w.heap.size := fun b hb => h.row.lt b hb
  have hal : ∀ b, at_.ownBlock = some b → base ≤ b ∧ b < w.heap.size := fun b hb => h.own.lt b hb
  have hk : ∀ b, b < wc.heap.size → l.ownBlock ≠ some b → w1.heap[b]? = wc.heap[b]? := fun b hb hne => by
    rw [hg.block b (by rw [World.size_alloc]; omega) (fun e => hne e.symm)]
    exact Below.heap_alloc _ _ _ hb
  have hkw : ∀ b, b < w.heap.size → l.ownBlock ≠ some b → w1.heap[b]? = w.heap[b]? := fun b hb hne => (hk b (by omega) hne).trans (hB.block b hb)
  have hGk : ∀ b, G b → w1.heap[b]? = w.heap[b]? := fun b hb => hkw b (h.gG b hb).1 (h.gG b hb).2.2
  have hvk : ∀ b, v.ownBlock = some b → w1.heap[b]? = wc.heap[b]? := fun b hb => hk b (hvl b hb).2 (fun e => by have := (hll b e).2; have := (hvl b hb).1; omega)
  refine ⟨⟨?_, ?_, ?_, by have := h.gl; omega, own_heap h.own (fun g hg' => hkw g (hal g hg').2 (h.ne g hg')), by simpa using hown, ?_, ?_, h.atn⟩, ⟨hg.os.trans hB.os, hg.tape.trans hB.tape, hg.output.trans hB.output, by omega, hGk⟩, fun b hb => (hvl b hb).1⟩
  · intro b hb
    have hl' : ∀ b, (l.ownBlock ≠ some b) → b < wc.heap.size → (Value.slice (some ⟨gl, 0, none⟩) (ps.length + 1) lcap).ownBlock ≠ some b := fun b h1 h2 e => by
      simp only [Value.ownBlock, Option.some.injEq] at e
      subst e
      rcases hat with e | e
      · exact h1 e
      · omega
    have hvcase : v.ownBlock = some b → b < w1.heap.size ∧ at_.ownBlock ≠ some b ∧ (Value.slice (some ⟨gl, 0, none⟩) (ps.length + 1) lcap).ownBlock ≠ some b := fun e => by
      have h1 := hvl b e
      exact ⟨by omega, fun e2 => by have := (hal b e2).2; omega, hl' b (fun e2 => by have := (hll b e2).2; omega) h1.2⟩
    have hGcase : G b → b < w1.heap.size ∧ at_.ownBlock ≠ some b ∧ (Value.slice (some ⟨gl, 0, none⟩) (ps.length + 1) lcap).ownBlock ≠ some b := fun e => by
      have h1 := h.gG b e
      exact ⟨by omega, h1.2.1, hl' b h1.2.2 (by omega)⟩
    rcases hb with e | e | e
    · exact hGcase e
    · exact hGcase (h.gF b e)
    · exact hvcase e
  · intro b hb; exact Or.inr hb
  · intro b hb; exact Or.inl (h.gB b hb)
  · exact PL_snoc ⟨own_base (own_heap hv hvk) (Nat.zero_le _), fun g hg' => Or.inr hg'⟩ _ _ (PL_carry (fun b hb => hGk b (h.gF b hb)) (fun b hb => Or.inl hb) _ _ h.pl)
  · intro g hg' e
    simp only [Value.ownBlock, Option.some.injEq] at e
    subst e
    rcases hat with e | e
    · exact h.ne _ hg' e
    · have := (hal _ hg').2; omega

/-- A kid's place: append found room. -/
theorem PosPre.room {G F : Nat → Prop} {w w1 : World} {base : Nat} {path : List Nat} {l : Value} {ps : List (List Nat)} {vs : List Value} {g n cap i : Nat} {o : Obj} (h : PosPre G F w base (.slice (some ⟨g, 0, none⟩) n cap) path l ps vs) (hn : n = path.length)
    (hown : w1.ownsRow base 3 1 (.slice (some ⟨g, 0, none⟩) (n + 1) cap) (n + 1) (ints path ++ [.int .i64 (i : Int)])) (hg : (w.alloc o).drew.grownBy w1 (some g)) :
    PosPre G F w1 base (.slice (some ⟨g, 0, none⟩) (n + 1) cap) (path ++ [i]) l ps vs ∧ Keeps G w w1 ∧ w.heap.size ≤ w1.heap.size := by
  subst hn
  have hs : w.heap.size + 1 ≤ w1.heap.size := by have := hg.size; have h2 : (w.alloc o).drew.heap.size = w.heap.size + 1 := World.size_alloc ..; omega
  have hk : ∀ b, b < w.heap.size → b ≠ g → w1.heap[b]? = w.heap[b]? := fun b hb hne => by
    have h2 : (w.alloc o).drew.heap.size = w.heap.size + 1 := World.size_alloc ..
    rw [hg.block b (by omega) (by intro e; simp only [Option.some.injEq] at e; exact hne e)]
    exact Below.heap_alloc w o b hb
  have hGk : ∀ b, G b → w1.heap[b]? = w.heap[b]? := fun b hb => hk b (h.gG b hb).1 (fun e => (h.gG b hb).2.1 (by rw [e]; rfl))
  refine ⟨⟨fun b hb => ⟨by have := (h.gG b hb).1; omega, (h.gG b hb).2.1, (h.gG b hb).2.2⟩, h.gF, h.gB, by have := h.gl; omega, ?_, own_heap h.row (fun q hq => hk q (h.row.lt q hq).2 (fun e => h.ne g rfl (by rw [hq, e]))), PL_carry (fun b hb => hGk b (h.gF b hb)) (fun _ h => h) _ _ h.pl, h.ne, Or.inr (by simp)⟩,
    ⟨hg.os, hg.tape, hg.output, by omega, hGk⟩, by omega⟩
  rw [ints_snoc, List.length_append]; exact hown

/-- A kid's place: a new row was made. -/
theorem PosPre.fresh {G F : Nat → Prop} {w w1 : World} {base : Nat} {at_ at' : Value} {path : List Nat} {l : Value} {ps : List (List Nat)} {vs : List Value} {i : Nat} {o : Obj} (h : PosPre G F w base at_ path l ps vs)
    (hown : w1.ownsRow (w.heap.size + 1) 3 1 at' (path.length + 1) (ints path ++ [.int .i64 (i : Int)])) (hg : (w.alloc o).drew.grownBy w1 none) :
    PosPre (fun b => G b ∨ at_.ownBlock = some b) F w1 base at' (path ++ [i]) l ps vs ∧ Keeps (fun b => G b ∨ at_.ownBlock = some b) w w1 ∧ w.heap.size ≤ w1.heap.size := by
  have hs : w.heap.size + 1 ≤ w1.heap.size := by have := hg.size; have h2 : (w.alloc o).drew.heap.size = w.heap.size + 1 := World.size_alloc ..; omega
  have hk : ∀ b, b < w.heap.size → w1.heap[b]? = w.heap[b]? := fun b hb => by
    have h2 : (w.alloc o).drew.heap.size = w.heap.size + 1 := World.size_alloc ..
    rw [hg.block b (by omega) (by simp)]
    exact Below.heap_alloc w o b hb
  have hal : ∀ b, at_.ownBlock = some b → base ≤ b ∧ b < w.heap.size := fun b hb => h.own.lt b hb
  have ha' : ∀ b, at'.ownBlock = some b → w.heap.size < b := fun b hb => by have := (hown.lt b hb).1; omega
  refine ⟨⟨fun b hb => ?_, fun b hb => Or.inl (h.gF b hb), fun b hb => Or.inl (h.gB b hb), by have := h.gl; omega, ?_, own_heap h.row (fun q hq => hk q (h.row.lt q hq).2), PL_carry (fun b hb => hk b (h.gG b (h.gF b hb)).1) (fun _ h => h) _ _ h.pl, ?_, Or.inr (by simp)⟩,
    ⟨hg.os, hg.tape, hg.output, by omega, fun b hb => ?_⟩, by omega⟩
  · rcases hb with e | e
    · have h1 := h.gG b e
      exact ⟨by omega, fun e2 => by have := ha' b e2; omega, h1.2.2⟩
    · have h1 := hal b e
      exact ⟨by omega, fun e2 => by have := ha' b e2; omega, h.ne b e⟩
  · rw [ints_snoc, List.length_append]; exact own_base hown (by have := h.gl; omega)
  · intro q hq e
    have := ha' q hq; have := (h.row.lt q e).2; omega
  · rcases hb with e | e
    · exact hk b (h.gG b e).1
    · exact hk b (hal b e).2

/-- Behind a kid, whose place stood in the same row. -/
theorem PosPost.room {G F : Nat → Prop} {w w1 w2 : World} {base : Nat} {path : List Nat} {l : Value} {ps : List (List Nat)} {vs : List Value} {t : Tm} {g n cap i : Nat} {e : Ending} (h : PosPre G F w base (.slice (some ⟨g, 0, none⟩) n cap) path l ps vs) (hn : n = path.length) (hK : Keeps G w w1) (hs : w.heap.size ≤ w1.heap.size)
    (hp : PosPost G F w1 base (.slice (some ⟨g, 0, none⟩) (n + 1) cap) (path ++ [i]) l ps t e w2) :
    ∃ l' vs' F', e = .returned l' ∧ PosPre (fun b => G b ∨ F' b) F' w2 base (.slice (some ⟨g, 0, none⟩) n cap) path l' (ps ++ posT (path ++ [i]) t) vs' ∧ (∀ b, F b → F' b) ∧ (∀ b, F' b → F b ∨ w.heap.size ≤ b) ∧
      (∀ g, l'.ownBlock = some g → l.ownBlock = some g ∨ w.heap.size ≤ g) ∧ Keeps G w w2 := by
  subst hn
  obtain ⟨l', vs', F', he, h1, h2, h3, h4, h5⟩ := hp
  have hown := h1.own
  rw [ints_snoc, List.length_append] at hown
  refine ⟨l', vs', F', he, ⟨h1.gG, h1.gF, h1.gB, h1.gl, own_shorter hown (ints_length path), h1.row, h1.pl, h1.ne, h.atn⟩, h2, fun b hb => (h3 b hb).imp id (fun e => by omega), fun q hq => (h4 q hq).imp id (fun e => by omega), hK.trans h5⟩

/-- Behind a kid, whose place stood in a new row. -/
theorem PosPost.fresh {G F : Nat → Prop} {w w1 w2 : World} {base : Nat} {at_ at' : Value} {path : List Nat} {l : Value} {ps : List (List Nat)} {vs : List Value} {t : Tm} {i : Nat} {e : Ending} (h : PosPre G F w base at_ path l ps vs) (hK : Keeps (fun b => G b ∨ at_.ownBlock = some b) w w1) (hs : w.heap.size ≤ w1.heap.size)
    (hp : PosPost (fun b => G b ∨ at_.ownBlock = some b) F w1 base at' (path ++ [i]) l ps t e w2) :
    ∃ l' vs' F', e = .returned l' ∧ PosPre (fun b => G b ∨ F' b) F' w2 base at_ path l' (ps ++ posT (path ++ [i]) t) vs' ∧ (∀ b, F b → F' b) ∧ (∀ b, F' b → F b ∨ w.heap.size ≤ b) ∧
      (∀ g, l'.ownBlock = some g → l.ownBlock = some g ∨ w.heap.size ≤ g) ∧ Keeps G w w2 := by
  obtain ⟨l', vs', F', he, h1, h2, h3, h4, h5⟩ := hp
  have hal : ∀ b, at_.ownBlock = some b → base ≤ b ∧ b < w.heap.size := fun b hb => h.own.lt b hb
  have hKK := hK.trans h5
  refine ⟨l', vs', F', he, ⟨fun b hb => ?_, fun b hb => Or.inr hb, fun b hb => Or.inl (h.gB b hb), h1.gl, own_heap h.own (fun q hq => hKK.block q (Or.inr hq)), h1.row, h1.pl, ?_, h.atn⟩, h2, fun b hb => (h3 b hb).imp id (fun e => by omega), fun q hq => (h4 q hq).imp id (fun e => by omega), hKK.mono (fun b hb => Or.inl hb)⟩
  · rcases hb with e | e
    · exact ⟨(h1.gG b (Or.inl (Or.inl e))).1, (h.gG b e).2.1, (h1.gG b (Or.inl (Or.inl e))).2.2⟩
    · refine ⟨(h1.gG b (Or.inr e)).1, fun e2 => ?_, (h1.gG b (Or.inr e)).2.2⟩
      rcases h3 b e with e3 | e3
      · exact (h.gG b (h.gF b e3)).2.1 e2
      · have := (hal b e2).2; omega
  · intro q hq e
    exact (h1.gG q (Or.inl (Or.inr hq))).2.2 e

end Go.Proofs.YtfbomoginjknlaaDoor

/-
  THE WALK OF positions.
-/
namespace Go.Proofs.YtfbomoginjknlaaDoor
open Go.RowKit

/-- A term that lies at an address, all of it in blocks of S. -/
def LiesIn (S : Nat → Prop) (w : World) (t : Tm) (b o : Nat) : Prop :=
  S b ∧ ∃ c0 c1 c2 c3, w.cell? ⟨b, o, none⟩ = some c0 ∧ w.cell? ⟨b, o + 1, none⟩ = some c1 ∧ w.cell? ⟨b, o + 2, none⟩ = some c2 ∧ w.cell? ⟨b, o + 3, none⟩ = some c3 ∧ IsIn S w t c0 c1 c2 c3
theorem LiesIn_carry {S S' : Nat → Prop} {w w' : World} (hc : ∀ b, S b → w'.heap[b]? = w.heap[b]?) (hS : ∀ b, S b → S' b) {t : Tm} {b o : Nat} (h : LiesIn S w t b o) : LiesIn S' w' t b o := by
  obtain ⟨hb, c0, c1, c2, c3, g0, g1, g2, g3, hI⟩ := h
  have hk : ∀ i v, w.cell? ⟨b, i, none⟩ = some v → w'.cell? ⟨b, i, none⟩ = some v := fun i v hv => by rw [World.cell?_of_block (w := w) (a := ⟨b, i, none⟩) (hc b hb)]; exact hv
  exact ⟨hS b hb, c0, c1, c2, c3, hk _ _ g0, hk _ _ g1, hk _ _ g2, hk _ _ g3, IsIn_carry hc hS t _ _ _ _ hI⟩
theorem RowIn_get {S : Nat → Prop} {w : World} : ∀ {ts : List Tm} {b o : Nat} (_ : RowIn S w ts (some ⟨b, o, none⟩)) (i : Nat) (hi : i < ts.length), LiesIn S w ts[i] b (o + i * 4)
  | t :: ts, b, o, h, i, hi => by
    simp only [RowIn] at h
    obtain ⟨b', o', e, hs, h1, h2⟩ := h
    simp only [Option.some.injEq, Addr.mk.injEq, and_true] at e
    obtain ⟨rfl, rfl⟩ := e
    cases i with
    | zero => simpa [LiesIn] using And.intro hs h1
    | succ i =>
      have := RowIn_get h2 i (by simpa using hi)
      have e : o + (i + 1) * 4 = o + 4 + i * 4 := by omega
      rw [e]; simpa using this
theorem RowIn_at {S : Nat → Prop} {w : World} {ts : List Tm} {xa : Option Addr} (h : RowIn S w ts xa) (hne : 0 < ts.length) : ∃ b o, xa = some ⟨b, o, none⟩ := by
  cases ts with
  | nil => simp at hne
  | cons t ts => simp only [RowIn] at h; obtain ⟨b, o, e, _⟩ := h; exact ⟨b, o, e⟩
/-- What lies in a world lies in its blocks. -/
theorem Is_IsIn {w : World} (t : Tm) : ∀ c0 c1 c2 c3, Is w t c0 c1 c2 c3 → IsIn (fun b => b < w.heap.size) w t c0 c1 c2 c3 := by
  refine Tm.rec (motive_1 := fun t => ∀ c0 c1 c2 c3, Is w t c0 c1 c2 c3 → IsIn (fun b => b < w.heap.size) w t c0 c1 c2 c3) (motive_2 := fun ts => ∀ xa, Row w ts xa → RowIn (fun b => b < w.heap.size) w ts xa) ?_ ?_ ?_ t
  · intro k n s ks ih c0 c1 c2 c3 h
    simp only [Is] at h; simp only [IsIn]
    obtain ⟨h1, h2, h3, h4, h5, h6, h7, xa, cap, h8, h9, h10⟩ := h
    exact ⟨h1, h2, h3, h4, h5, h6, h7, xa, cap, h8, h9, ih _ h10⟩
  · intro xa _; simp [RowIn]
  · intro t ts h1 h2 xa h
    simp only [Row] at h; simp only [RowIn]
    obtain ⟨b, o, e, ⟨c0, c1, c2, c3, g0, g1, g2, g3, hI⟩, hR⟩ := h
    exact ⟨b, o, e, World.block_lt_of_cell? w _ g0, ⟨c0, c1, c2, c3, g0, g1, g2, g3, h1 _ _ _ _ hI⟩, h2 _ hR⟩

theorem posL_len (path : List Nat) : ∀ (l : List Tm) (i : Nat), (posL path i l).length = sizes l
  | [], i => by simp [posL, sizes]
  | t :: ts, i => by simp only [posL, sizes, List.length_append, posT_length, posL_len path ts (i + 1)]

def PosRel (G F : Nat → Prop) (w : World) (base : Nat) (at_ : Value) (path : List Nat) (l : Value) (ps : List (List Nat)) (ks : List Tm) (j : Nat) (l' : Value) (wr : World) : Prop :=
  ∃ vs' F', PosPre (fun b => G b ∨ F' b) F' wr base at_ path l' (ps ++ (path :: posL path 0 (ks.take j))) vs' ∧ (∀ b, F b → F' b) ∧ (∀ b, F' b → F b ∨ w.heap.size ≤ b) ∧
    (∀ g, l'.ownBlock = some g → l.ownBlock = some g ∨ w.heap.size ≤ g) ∧ Keeps G w wr

theorem PosPre.less {G G' F : Nat → Prop} {w : World} {base : Nat} {at_ : Value} {path : List Nat} {l : Value} {ps : List (List Nat)} {vs : List Value} (h : PosPre G F w base at_ path l ps vs) (h1 : ∀ b, G' b → G b) (h2 : ∀ b, F b → G' b) (h3 : ∀ b, b < base → G' b) : PosPre G' F w base at_ path l ps vs :=
  ⟨fun b hb => h.gG b (h1 b hb), h2, h3, h.gl, h.own, h.row, h.pl, h.ne, h.atn⟩
theorem pos_next {G F F1 F2 : Nat → Prop} {w wr w3 : World} {base : Nat} {at_ : Value} {path : List Nat} {l lv l2 : Value} {ps : List (List Nat)} {vs2 : List Value} {ks : List Tm} {j : Nat} (hj : j < ks.length)
    (hF : ∀ b, F b → F1 b) (hFn : ∀ b, F1 b → F b ∨ w.heap.size ≤ b) (hl : ∀ g, lv.ownBlock = some g → l.ownBlock = some g ∨ w.heap.size ≤ g) (hK : Keeps G w wr) (hB : ∀ b, b < base → G b)
    (q1 : PosPre (fun b => (G b ∨ F1 b) ∨ F2 b) F2 w3 base at_ path l2 ((ps ++ (path :: posL path 0 (ks.take j))) ++ posT (path ++ [j]) ks[j]) vs2) (q2 : ∀ b, F1 b → F2 b) (q3 : ∀ b, F2 b → F1 b ∨ wr.heap.size ≤ b)
    (q4 : ∀ g, l2.ownBlock = some g → lv.ownBlock = some g ∨ wr.heap.size ≤ g) (q5 : Keeps (fun b => G b ∨ F1 b) wr w3) : PosRel G F w base at_ path l ps ks (j + 1) l2 w3 := by
  have hs := hK.size
  refine ⟨vs2, F2, ?_, fun b hb => q2 b (hF b hb), fun b hb => ?_, fun g hg => ?_, hK.trans (q5.mono (fun b hb => Or.inl hb))⟩
  · have e : ps ++ (path :: posL path 0 (ks.take (j + 1))) = (ps ++ (path :: posL path 0 (ks.take j))) ++ posT (path ++ [j]) ks[j] := by rw [posL_take path ks j hj]; simp
    rw [e]
    exact q1.less (fun b hb => hb.imp Or.inl id) (fun b hb => Or.inr hb) (fun b hb => Or.inl (hB b hb))
  · rcases q3 b hb with e | e
    · exact hFn b e
    · exact Or.inr (by omega)
  · rcases q4 g hg with e | e
    · exact hl g e
    · exact Or.inr (by omega)

theorem pos_start {G F : Nat → Prop} {w w1 : World} {base : Nat} {at_ : Value} {path : List Nat} {l : Value} {ps : List (List Nat)} {vs1 : List Value} {ks : List Tm} {v : Value} {gl n c : Nat}
    (h : PosPre (fun b => G b ∨ (F b ∨ v.ownBlock = some b)) (fun b => F b ∨ v.ownBlock = some b) w1 base at_ path (.slice (some ⟨gl, 0, none⟩) n c) (ps ++ [path]) vs1 ∧ Keeps G w w1 ∧ (∀ b, v.ownBlock = some b → w.heap.size ≤ b) ∧ (l.ownBlock = some gl ∨ w.heap.size ≤ gl)) :
    PosRel G F w base at_ path l ps ks 0 (.slice (some ⟨gl, 0, none⟩) n c) w1 := by
  refine ⟨vs1, _, ?_, fun b hb => Or.inl hb, fun b hb => hb.imp id (h.2.2.1 b), fun q hq => ?_, h.2.1⟩
  · simpa [posL] using h.1
  · simp only [Value.ownBlock, Option.some.injEq] at hq; subst hq; exact h.2.2.2

theorem own_full {w : World} {base : Nat} {T : TypeId} {n cap : Nat} {ao : Option Addr} {xs : List Value} (h : w.ownsRow base T 1 (.slice ao n cap) n xs) : (ao = none → n = 0 ∧ cap = 0) ∧ (∀ b, ao = some b → ∀ j u, xs[j]? = some u → w.cell? (b.add j) = some u) := by
  refine ⟨fun e => ?_, fun b e j u hu => ?_⟩
  · subst e
    rcases h.2 with ⟨e, h0⟩ | ⟨g, c, cur, e, _⟩
    · simp only [Value.slice.injEq] at e; exact ⟨h0, e.2.2⟩
    · simp at e
  · subst e
    rcases h.2 with ⟨e, _⟩ | ⟨g, c, cur, e, _⟩
    · simp at e
    · simp only [Value.slice.injEq, Option.some.injEq] at e
      obtain ⟨rfl, _, rfl⟩ := e
      exact h.cells rfl j u hu

end Go.Proofs.YtfbomoginjknlaaDoor

/-
  THE WALK OF Positions; slices.Equal at []int.
-/
namespace Go.Proofs.YtfbomoginjknlaaDoor
open Go.RowKit

def PositionsPost (w : World) (t : Tm) (e : Ending) (w' : World) : Prop :=
  ∃ v vs F, e = .returned v ∧ w'.ownsRow w.heap.size 45 1 v (posT [] t).length vs ∧ PL F w' (posT [] t) vs ∧ Below w.heap.size w w'

/-- A row of numbers, wherever it lies. -/
def IntRow (w : World) (v : Value) (l : List Nat) : Prop := ∃ xa cap, v = .slice xa l.length cap ∧ (0 < l.length → ∃ b o, xa = some ⟨b, o, none⟩ ∧ ∀ i (h : i < l.length), w.cell? ⟨b, o + i, none⟩ = some (.int .i64 (l[i] : Int)))
theorem IntRow_of_own {w : World} {base : Nat} {v : Value} {l : List Nat} (h : w.ownsRow base 3 1 v l.length (ints l)) : IntRow w v l := by
  rcases h.2 with ⟨rfl, h0⟩ | ⟨g, cap, cur, rfl, _⟩
  · exact ⟨none, 0, by rw [h0], fun h => by omega⟩
  · refine ⟨some ⟨g, 0, none⟩, cap, rfl, fun _ => ⟨g, 0, rfl, fun i hi => ?_⟩⟩
    rw [Nat.zero_add, h.cellAt i (by simpa using hi)]
    simp [ints, hi]
theorem IntRow_below {w w' : World} {v : Value} {l : List Nat} (h : IntRow w v l) (hb : Below w.heap.size w w') : IntRow w' v l := by
  obtain ⟨xa, cap, e, hc⟩ := h
  refine ⟨xa, cap, e, fun h => ?_⟩
  obtain ⟨b, o, e, hc⟩ := hc h
  exact ⟨b, o, e, fun i hi => keep_below hb _ _ (hc i hi)⟩

def eqFrom (x y : List Nat) : Bool := x == y
theorem eq_drop (x y : List Nat) (j : Nat) (h : j < x.length) (h2 : j < y.length) : (x.drop j == y.drop j) = ((x[j] == y[j]) && (x.drop (j + 1) == y.drop (j + 1))) := by
  rw [List.drop_eq_getElem_cons h, List.drop_eq_getElem_cons h2]; rfl

set_option maxHeartbeats 1600000 in
set_option maxRecDepth 100000 in
theorem equal_any (x y : List Nat) (v u : Value) (w : World) (hx : IntRow w v x) (hy : IntRow w u y) (hlx : x.length ≤ 1099511627776) (hly : y.length ≤ 1099511627776) :
    Calls Tryd.prog 23 #[v, u] w fun e w' => e = .returned (.bool (x == y)) ∧ Below w.heap.size w w' := by
  obtain ⟨xa, xc, rfl, hxc⟩ := hx
  obtain ⟨ya, yc, rfl, hyc⟩ := hy
  by_cases hlen : x.length = y.length
  rotate_left
  · have HF : Hid ((x == y) = false) := by show _ = _; rw [beq_eq_false_iff_ne]; intro e; exact hlen (by rw [e])
    have hb : ((x.length : Int) != (y.length : Int)) = true := by simp; omega
    clear hlen hxc hyc
    go_enter Tryd.func23, Tryd.ntmps23
    go_wp2_with fail
    go_ret
    exact ⟨by rw [HF.out]; rfl, Below.refl _ _⟩
  have HL : Hid (x.length = y.length) := hlen
  have hb : ((x.length : Int) != (y.length : Int)) = false := by simp; omega
  have HXC := Lib.hid hxc
  have HYC := Lib.hid hyc
  clear hlen hxc hyc
  go_enter Tryd.func23, Tryd.ntmps23
  go_wp2_with fail
  go_loopw [13] (fun i wr => ∃ j : Nat, j ≤ x.length ∧ i = .int .i64 j ∧ Hid ((x == y) = (x.drop j == y.drop j)) ∧ Below w.heap.size w wr) (fun i _ => x.length - (intOf i).toNat)
  case atStart => exact ⟨0, Nat.zero_le _, rfl, rfl, Below.refl _ _⟩
  case round =>
    obtain ⟨j, hj, rfl, HD, hBr⟩ := hrel
    by_cases hlt : j < x.length
    · have hlt' : j < y.length := by have := HL.out; omega
      obtain ⟨b1, o1, rfl, hc1⟩ := HXC.out (by omega)
      obtain ⟨b2, o2, rfl, hc2⟩ := HYC.out (by omega)
      have p1 := keep_below hBr _ _ (hc1 j hlt)
      have p2 := keep_below hBr _ _ (hc2 j hlt')
      have hd := eq_drop x y j hlt hlt'
      generalize x[j] = a at p1 hd
      generalize y[j] = c at p2 hd
      have i1 : (0 : Int) ≤ (j : Int) := by omega
      have i2 : (j : Int) < (x.length : Int) := by omega
      have i3 : (j : Int) < (y.length : Int) := by omega
      clear hc1 hc2
      by_cases hac : a = c
      · have hbb : ((a : Int) != (c : Int)) = false := by simp [hac]
        have HD2 : Hid ((x == y) = (x.drop (j + 1) == y.drop (j + 1))) := by show _ = _; rw [HD.out, hd, hac]; simp
        clear hd hac
        go_wp2_with fail
        go_region_held3 (fun W => W.cell? ⟨b1, o1 + j, none⟩ = some (.int .i64 (a : Int)) ∧ W.cell? ⟨b2, o2 + j, none⟩ = some (.int .i64 (c : Int))) (first | go_keep) (first | fail)
        go_wp2_with fail
        go_roundw
        case rel => exact ⟨j + 1, by omega, by go_num, HD2, hBr.drew⟩
        case measure => simp [intOf]; omega
      · have hbb : ((a : Int) != (c : Int)) = true := by simp; omega
        have HD2 : Hid ((x == y) = false) := by show _ = _; rw [HD.out, hd]; simp [hac]
        clear hd hac
        go_wp2_with fail
        go_region_held3 (fun W => W.cell? ⟨b1, o1 + j, none⟩ = some (.int .i64 (a : Int)) ∧ W.cell? ⟨b2, o2 + j, none⟩ = some (.int .i64 (c : Int))) (first | go_keep) (first | fail)
        go_wp2_with fail
        go_ret
        exact ⟨by rw [HD2.out]; rfl, hBr.drew⟩
    · have hj1 : x.drop j = [] := List.drop_eq_nil_of_le (by omega)
      have hj2 : y.drop j = [] := List.drop_eq_nil_of_le (by have := HL.out; omega)
      have HD2 : Hid ((x == y) = true) := by show _ = _; rw [HD.out, hj1, hj2]; rfl
      clear hj1 hj2
      go_wp2_with fail
      go_ret
      exact ⟨by rw [HD2.out]; rfl, hBr⟩

end Go.Proofs.YtfbomoginjknlaaDoor
