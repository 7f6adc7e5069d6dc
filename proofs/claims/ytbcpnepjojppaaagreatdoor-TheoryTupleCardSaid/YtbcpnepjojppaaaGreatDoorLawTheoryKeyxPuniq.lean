import Derived.ChangeSlices
import Derived.IntWalk
import Derived.Lib.SliceRun
import Derived.SizedLaws
import Derived.StillTailTactics
import Derived.Test.YtbcpnepjojppaaaGreatDoorLawTheoryKeyxFind
import Derived.Test.YtbcpnepjojppaaaGreatDoorLawTheoryKeyxNodes
import Derived.Test.YtbcpnepjojppaaaGreatDoorLawTheoryKeyxPcopy
import Derived.Test.YtbcpnepjojppaaaGreatDoorLawTheoryKeyxPgath
import Derived.Test.YtbcpnepjojppaaaGreatDoorLawTheoryKeyxPsort
import Derived.Test.YtbcpnepjojppaaaGreatDoorLawTheoryKeyxPterm
import Derived.Test.YtbcpnepjojppaaaGreatDoorLawTheoryKeyxRef
import Derived.Test.YtbcpnepjojppaaaGreatDoorLawTheoryKeyxRound
import Derived.Test.YtbcpnepjojppaaaGreatDoorLawTheoryKeyxSetof
import Derived.Test.YtbcpnepjojppaaaGreatDoorLawTheoryKeyxYtab
namespace Go.Proofs.YtbcpnepjojppaaaGreatDoor
open Go.RowKit
def IRow (w : World) (g : Nat) (l : List Int) : Prop :=
  g < w.heap.size ∧ (∀ p, w.frozen? ⟨g, p, none⟩ = false) ∧ ∀ k (hk : k < l.length), w.cell? ⟨g, k, none⟩ = some (.int .i64 l[k])
theorem IRow.carry {w w' : World} {g : Nat} {l : List Int} (h : IRow w g l) (hs : w.heap.size ≤ w'.heap.size) (hb : w'.heap[g]? = w.heap[g]?) : IRow w' g l :=
  ⟨Nat.lt_of_lt_of_le h.1 hs, fun p => by
    have := h.2.1 p
    unfold World.frozen? at this ⊢
    rw [hb]; exact this, fun k hk => by rw [World.cell?_of_block (w := w) (a := ⟨g, k, none⟩) hb]; exact h.2.2 k hk⟩
theorem IRow.ext {w w' : World} {g : Nat} {l : List Int} (h : IRow w g l) (x : Ext w w') : IRow w' g l := h.carry x.size (x.block g h.1)
theorem IRow.but {w w' : World} {g h : Nat} {l : List Int} (r : IRow w g l) (x : But h w w') (hne : g ≠ h) : IRow w' g l := r.carry x.size (x.block g r.1 (by simp only [ne_eq, Option.some.injEq]; omega))
theorem IRow.set {w : World} {g j : Nat} {l : List Int} {x : Int} (h : IRow w g l) (_hj : j < l.length) : IRow (w.setCell ⟨g, j, none⟩ (.int .i64 x)) g (l.set j x) :=
  ⟨by rw [World.size_setCell]; exact h.1, fun p => by rw [World.frozen?_setCell]; exact h.2.1 p, fun k hk => by
    have hk' : k < l.length := by simpa using hk
    rw [List.getElem_set]
    by_cases e : j = k
    · subst e; rw [if_pos rfl]; exact setSameE (h.2.2 _ hk')
    · rw [if_neg e, setOtherE (fun h => by simp only [Addr.mk.injEq] at h; omega)]; exact h.2.2 k hk'⟩
def subOk1 (n f r : Int) : Bool := (decide (r = 0) || decide ((n.natAbs : Int) ≤ (2199023255552 : Int).tdiv r.natAbs)) && (decide (-1099511627776 ≤ f - n * r) && decide (f - n * r ≤ 1099511627776))
def subOk (n : Int) : List Int → List Int → Bool
  | f :: fs, r :: rs => subOk1 n f r && subOk n fs rs
  | _, _ => true
def minR (n : Int) : List Int → List Int → List Int
  | f :: fs, r :: rs => (f - n * r) :: minR n fs rs
  | fs, _ => fs
def InB (l : List Int) : Prop := ∀ x ∈ l, -1099511627776 ≤ x ∧ x ≤ 1099511627776
end Go.Proofs.YtbcpnepjojppaaaGreatDoor
namespace Go.Proofs.YtbcpnepjojppaaaGreatDoor
open Go.RowKit
structure MA where
  eb : Nat
  rb : Nat
  ib : Nat
  ci : Nat
  cr : Nat
  k : Nat
  l : Nat
  xr : Option Addr
  rs : Nat → Nat
  cs : Nat → Nat
  pb : Nat
  cp : Nat
  n : Nat
structure Mat (A : MA) (w : World) (M : Nat → List Int) (P : Nat → Bool) : Prop where
  rows : w.cell? ⟨A.eb, 1, none⟩ = some (.slice A.xr A.k A.cr)
  piv : w.cell? ⟨A.eb, 2, none⟩ = some (.slice (some ⟨A.ib, 0, none⟩) A.k A.ci)
  some_ : 0 < A.k → A.xr = some ⟨A.rb, 0, none⟩
  row : ∀ i, i < A.k → w.cell? ⟨A.rb, i, none⟩ = some (.slice (some ⟨A.rs i, 0, none⟩) A.l (A.cs i))
  num : ∀ i, i < A.k → IRow w (A.rs i) (M i)
  wid : ∀ i, i < A.k → (M i).length = A.l
  flag : ∀ i, i < A.k → w.cell? ⟨A.ib, i, none⟩ = some (.bool (P i))
  inb : ∀ i, i < A.k → InB (M i)
theorem Mat.ext {A : MA} {w w' : World} {M : Nat → List Int} {P : Nat → Bool} (h : Mat A w M P) (x : Ext w w') : Mat A w' M P :=
  ⟨keep_below x _ _ h.rows, keep_below x _ _ h.piv, h.some_, fun i hi => keep_below x _ _ (h.row i hi), fun i hi => (h.num i hi).ext x, h.wid, fun i hi => keep_below x _ _ (h.flag i hi), h.inb⟩
def gM (M : Nat → List Int) (i c : Nat) : Int := (M i).getD c 0
theorem Mat.at_ {A : MA} {w : World} {M : Nat → List Int} {P : Nat → Bool} (h : Mat A w M P) {i c : Nat} (hi : i < A.k) (hc : c < A.l) :
    w.cell? ⟨A.rs i, c, none⟩ = some (.int .i64 (gM M i c)) ∧ -1099511627776 ≤ gM M i c ∧ gM M i c ≤ 1099511627776 := by
  have hl : c < (M i).length := by rw [h.wid i hi]; exact hc
  have e : gM M i c = (M i)[c] := by unfold gM; rw [List.getD_eq_getElem?_getD, List.getElem?_eq_getElem hl]; rfl
  rw [e]
  exact ⟨(h.num i hi).2.2 c hl, h.inb i hi _ (List.getElem_mem hl)⟩
def isOpen (M : Nat → List Int) (P : Nat → Bool) (c i : Nat) : Bool := !(P i) && !(decide (gM M i c = 0))
def leastN (M : Nat → List Int) (P : Nat → Bool) (c : Nat) : Nat → Int
  | 0 => -1
  | i + 1 => if isOpen M P c i = true then (if leastN M P c i = -1 then (i : Int) else if (gM M i c).natAbs < (gM M (leastN M P c i).toNat c).natAbs then (i : Int) else leastN M P c i) else leastN M P c i
end Go.Proofs.YtbcpnepjojppaaaGreatDoor
namespace Go.Proofs.YtbcpnepjojppaaaGreatDoor
open Go.RowKit
def opn (M : Nat → List Int) (P : Nat → Bool) (c b i : Nat) : Bool := !(decide (i = b)) && isOpen M P c i
def quoM (M : Nat → List Int) (c b i : Nat) : Int := (gM M i c).tdiv (gM M b c)
def rndM (M : Nat → List Int) (P : Nat → Bool) (c b j : Nat) : Nat → List Int := fun i => if (decide (i < j) && opn M P c b i) = true then minR (quoM M c b i) (M i) (M b) else M i
def rndOk (M : Nat → List Int) (P : Nat → Bool) (c b : Nat) : Nat → Bool
  | 0 => true
  | j + 1 => rndOk M P c b j && (!(opn M P c b j) || subOk (quoM M c b j) (M j) (M b))
def alN (M : Nat → List Int) (P : Nat → Bool) (c b : Nat) : Nat → Bool
  | 0 => true
  | j + 1 => alN M P c b j && !(opn M P c b j)
inductive PivR (P : Nat → Bool) (c k : Nat) : (Nat → List Int) → Option ((Nat → List Int) × Int) → Prop
  | none_ {M} : leastN M P c k = -1 → PivR P c k M (some (M, -1))
  | alone {M} {b : Nat} : leastN M P c k = (b : Int) → alN M P c b k = true → PivR P c k M (some (M, (b : Int)))
  | bad {M} {b : Nat} : leastN M P c k = (b : Int) → alN M P c b k = false → rndOk M P c b k = false → PivR P c k M none
  | step {M r} {b : Nat} : leastN M P c k = (b : Int) → alN M P c b k = false → rndOk M P c b k = true → PivR P c k (rndM M P c b k) r → PivR P c k M r
end Go.Proofs.YtbcpnepjojppaaaGreatDoor
namespace Go.Proofs.YtbcpnepjojppaaaGreatDoor
open Go.RowKit
structure MOk (A : MA) : Prop where
  inj : ∀ i j, i < A.k → j < A.k → A.rs i = A.rs j → i = j
  eb : ∀ i, i < A.k → A.rs i ≠ A.eb
  rb : ∀ i, i < A.k → A.rs i ≠ A.rb
  ib : ∀ i, i < A.k → A.rs i ≠ A.ib
  pb : ∀ i, i < A.k → A.rs i ≠ A.pb
  ie : A.ib ≠ A.eb
  ir : A.ib ≠ A.rb
  ip : A.ib ≠ A.pb
  pe : A.pb ≠ A.eb
  pr : A.pb ≠ A.rb
structure Kp (S : Nat → Prop) (w w' : World) : Prop where
  os : w'.os = w.os
  tape : w'.tape = w.tape
  output : w'.output = w.output
  size : w.heap.size ≤ w'.heap.size
  block : ∀ b, b < w.heap.size → ¬ S b → w'.heap[b]? = w.heap[b]?
theorem Kp.refl (S : Nat → Prop) (w : World) : Kp S w w := ⟨rfl, rfl, rfl, Nat.le_refl _, fun _ _ _ => rfl⟩
theorem Kp.trans {S : Nat → Prop} {w w' w'' : World} (h : Kp S w w') (k : Kp S w' w'') : Kp S w w'' :=
  ⟨k.os.trans h.os, k.tape.trans h.tape, k.output.trans h.output, Nat.le_trans h.size k.size, fun b hb hn => (k.block b (Nat.lt_of_lt_of_le hb h.size) hn).trans (h.block b hb hn)⟩
theorem Kp.ofBut {S : Nat → Prop} {g : Nat} {w w' : World} (h : But g w w') (hg : S g) : Kp S w w' :=
  ⟨h.os, h.tape, h.output, h.size, fun b hb hn => h.block b hb (by intro e; simp only [Option.some.injEq] at e; exact hn (by rw [e]; exact hg))⟩
theorem Kp.cell {S : Nat → Prop} {w w' : World} (h : Kp S w w') {g p : Nat} {v : Value} (hc : w.cell? ⟨g, p, none⟩ = some v) (hn : ¬ S g) : w'.cell? ⟨g, p, none⟩ = some v := by
  by_cases hg : g < w.heap.size
  · rw [World.cell?_of_block (w := w) (a := ⟨g, p, none⟩) (h.block g hg hn)]; exact hc
  · exfalso
    have hb : w.heap[g]? = none := Array.getElem?_eq_none (by omega)
    unfold World.cell? at hc
    simp [hb] at hc
def upd {α : Type} (f : Nat → α) (i : Nat) (v : α) : Nat → α := fun x => if x = i then v else f x
theorem Mat.upd {A : MA} {w w' : World} {M : Nat → List Int} {P : Nat → Bool} {i : Nat} {fs : List Int} (hA : MOk A) (h : Mat A w M P) (hi : i < A.k) (hB : But (A.rs i) w w') (hI : IRow w' (A.rs i) fs) (hl : fs.length = A.l) (hb : InB fs) : Mat A w' (upd M i fs) P := by
  have hK : Kp (fun b => b = A.rs i) w w' := Kp.ofBut hB rfl
  refine ⟨hK.cell h.rows (fun e => hA.eb i hi e.symm), hK.cell h.piv (fun e => hA.eb i hi e.symm), h.some_, fun j hj => hK.cell (h.row j hj) (fun e => hA.rb i hi e.symm), fun j hj => ?_, fun j hj => ?_, fun j hj => hK.cell (h.flag j hj) (fun e => hA.ib i hi e.symm), fun j hj => ?_⟩
  · unfold Go.Proofs.YtbcpnepjojppaaaGreatDoor.upd
    by_cases e : j = i
    · rw [if_pos e, e]; exact hI
    · rw [if_neg e]; exact (h.num j hj).but hB (fun e2 => e (hA.inj j i hj hi e2))
  · unfold Go.Proofs.YtbcpnepjojppaaaGreatDoor.upd
    by_cases e : j = i
    · rw [if_pos e]; exact hl
    · rw [if_neg e]; exact h.wid j hj
  · unfold Go.Proofs.YtbcpnepjojppaaaGreatDoor.upd
    by_cases e : j = i
    · rw [if_pos e]; exact hb
    · rw [if_neg e]; exact h.inb j hj
def pvV (A : MA) : Option Nat → Value
  | none => .slice none 0 0
  | some b => .slice (some ⟨A.rs b, 0, none⟩) A.l (A.cs b)
structure Piv (A : MA) (w : World) (Q : Nat → Option Nat) : Prop where
  at_ : w.cell? ⟨A.eb, 3, none⟩ = some (.slice (some ⟨A.pb, 0, none⟩) A.n A.cp)
  col : ∀ i, i < A.n → w.cell? ⟨A.pb, i, none⟩ = some (pvV A (Q i))
  fz : ∀ p, w.frozen? ⟨A.pb, p, none⟩ = false
  fi : ∀ p, w.frozen? ⟨A.ib, p, none⟩ = false
  pl : A.pb < w.heap.size
  il : A.ib < w.heap.size
end Go.Proofs.YtbcpnepjojppaaaGreatDoor
namespace Go.Proofs.YtbcpnepjojppaaaGreatDoor
open Go.RowKit
inductive ColR (k n : Nat) : Nat → (Nat → List Int) → (Nat → Bool) → (Nat → Option Nat) → Option ((Nat → List Int) × (Nat → Bool) × (Nat → Option Nat)) → Prop
  | done {M P Q} : ColR k n n M P Q (some (M, P, Q))
  | bad {c M P Q} : c < n → PivR P c k M none → ColR k n c M P Q none
  | skip {c M M' P Q r} : c < n → PivR P c k M (some (M', -1)) → ColR k n (c + 1) M' P Q r → ColR k n c M P Q r
  | pick {c M M' P Q r} {b : Nat} : c < n → PivR P c k M (some (M', (b : Int))) → ColR k n (c + 1) M' (fun x => decide (x = b) || P x) (upd Q c (some b)) r → ColR k n c M P Q r
end Go.Proofs.YtbcpnepjojppaaaGreatDoor
namespace Go.Proofs.YtbcpnepjojppaaaGreatDoor
open Go.RowKit
end Go.Proofs.YtbcpnepjojppaaaGreatDoor
namespace Go.Proofs.YtbcpnepjojppaaaGreatDoor
open Go.RowKit
end Go.Proofs.YtbcpnepjojppaaaGreatDoor
namespace Go.Proofs.YtbcpnepjojppaaaGreatDoor
open Go.RowKit
theorem boxes2 (w : World) (a0 a1 a2 a3 b0 b1 b2 b3 : Value) (T : TypeId) : ((w.alloc (.cells #[a0, a1, a2, a3] T)).alloc (.cells #[b0, b1, b2, b3] T)).heap[w.heap.size]? = some (.cells #[a0, a1, a2, a3] T (0, 0)) ∧ ((w.alloc (.cells #[a0, a1, a2, a3] T)).alloc (.cells #[b0, b1, b2, b3] T)).heap[w.heap.size + 1]? = some (.cells #[b0, b1, b2, b3] T (0, 0)) ∧ Below w.heap.size w ((w.alloc (.cells #[a0, a1, a2, a3] T)).alloc (.cells #[b0, b1, b2, b3] T)) ∧ w.heap.size + 2 = ((w.alloc (.cells #[a0, a1, a2, a3] T)).alloc (.cells #[b0, b1, b2, b3] T)).heap.size := by
  refine ⟨?_, ?_, ((Below.refl _ _).alloc (Nat.le_refl _) _).alloc (by simp) _, by simp only [World.size_alloc]⟩
  · rw [Below.heap_alloc _ _ _ (by simp)]; exact heap_alloc_new w _
  · have := heap_alloc_new (w.alloc (.cells #[a0, a1, a2, a3] T)) (.cells #[b0, b1, b2, b3] T)
    rw [World.size_alloc] at this; exact this
end Go.Proofs.YtbcpnepjojppaaaGreatDoor
namespace Go.Proofs.YtbcpnepjojppaaaGreatDoor
open Go.RowKit
end Go.Proofs.YtbcpnepjojppaaaGreatDoor
namespace Go.Proofs.YtbcpnepjojppaaaGreatDoor
open Go.RowKit
end Go.Proofs.YtbcpnepjojppaaaGreatDoor
namespace Go.Proofs.YtbcpnepjojppaaaGreatDoor
open Go.RowKit
theorem setOther {w : World} {a b : Addr} {v : Value} (h : a ≠ b) : (w.setCell a v).cell? b = w.cell? b := by
  apply World.cell?_setCell_other; exact h
theorem setSame {w : World} {a : Addr} {v u : Value} (h : w.cell? a = some u) : (w.setCell a v).cell? a = some v := by
  apply World.cell?_setCell_same; exact h
theorem put4_far {w : World} {b o q : Nat} {d0 d1 d2 d3 : Value} {b' : Nat} (h : b' ≠ b ∨ q < o ∨ o + 4 ≤ q) : (put4 w b o d0 d1 d2 d3).cell? ⟨b', q, none⟩ = w.cell? ⟨b', q, none⟩ := by
  unfold put4
  have hne : ∀ k, k < 4 → (⟨b, o + k, none⟩ : Addr) ≠ ⟨b', q, none⟩ := fun k hk e => by
    simp only [Addr.mk.injEq, and_true] at e
    omega
  have h0 := hne 0 (by omega)
  simp only [Nat.add_zero] at h0
  rw [setOther (hne 3 (by omega)), setOther (hne 2 (by omega)), setOther (hne 1 (by omega)), setOther h0]
theorem put4_at {w : World} {b o : Nat} {d0 d1 d2 d3 z0 z1 z2 z3 : Value} (g0 : w.cell? ⟨b, o, none⟩ = some z0) (g1 : w.cell? ⟨b, o + 1, none⟩ = some z1) (g2 : w.cell? ⟨b, o + 2, none⟩ = some z2) (g3 : w.cell? ⟨b, o + 3, none⟩ = some z3) :
    (put4 w b o d0 d1 d2 d3).cell? ⟨b, o, none⟩ = some d0 ∧ (put4 w b o d0 d1 d2 d3).cell? ⟨b, o + 1, none⟩ = some d1 ∧ (put4 w b o d0 d1 d2 d3).cell? ⟨b, o + 2, none⟩ = some d2 ∧ (put4 w b o d0 d1 d2 d3).cell? ⟨b, o + 3, none⟩ = some d3 := by
  have hne : ∀ j k, j ≠ k → (⟨b, o + j, none⟩ : Addr) ≠ ⟨b, o + k, none⟩ := fun j k hjk e => by
    simp only [Addr.mk.injEq, and_true, true_and] at e
    omega
  have h01 := hne 0 1 (by omega)
  have h02 := hne 0 2 (by omega)
  have h03 := hne 0 3 (by omega)
  have h12 := hne 1 2 (by omega)
  have h13 := hne 1 3 (by omega)
  have h23 := hne 2 3 (by omega)
  simp only [Nat.add_zero] at h01 h02 h03
  unfold put4
  refine ⟨?_, ?_, ?_, ?_⟩
  · rw [setOther h03.symm, setOther h02.symm, setOther h01.symm, setSame g0]
  · rw [setOther h13.symm, setOther h12.symm, setSame (by rw [setOther h01]; exact g1)]
  · rw [setOther h23.symm, setSame (by rw [setOther h12, setOther h02]; exact g2)]
  · rw [setSame (by rw [setOther h23, setOther h13, setOther h03]; exact g3)]
end Go.Proofs.YtbcpnepjojppaaaGreatDoor
namespace Go.Proofs.YtbcpnepjojppaaaGreatDoor
open Go.RowKit
end Go.Proofs.YtbcpnepjojppaaaGreatDoor
namespace Go.Proofs.YtbcpnepjojppaaaGreatDoor
open Go.RowKit
end Go.Proofs.YtbcpnepjojppaaaGreatDoor
namespace Go.Proofs.YtbcpnepjojppaaaGreatDoor
open Go.ChangeShapes Go.WideShapes Go.ChangeAt Go.RowKit Go.Deep
section
variable {H : Type} {enc : TypeId × Value → H} {W : World} {base : Nat} {sp : Nat → Bool} {held : Bool}
end
end Go.Proofs.YtbcpnepjojppaaaGreatDoor
namespace Go.Proofs.YtbcpnepjojppaaaGreatDoor
open Go.ChangeShapes Go.WideShapes Go.ChangeAt Go.RowKit Go.Deep
section
variable {H : Type} {enc : TypeId × Value → H} {W : World} {base : Nat} {sp : Nat → Bool} {held : Bool}
end
end Go.Proofs.YtbcpnepjojppaaaGreatDoor
namespace Go.Proofs.YtbcpnepjojppaaaGreatDoor
open Go.RowKit
def PsRow (w : World) (ls : List (List Pw)) (xa : Option Addr) : Prop := ls = [] ∨ ∃ b o, xa = some ⟨b, o, none⟩ ∧ ∀ k (h : k < ls.length), ∃ ya c, w.cell? ⟨b, o + k, none⟩ = some (.slice ya ls[k].length c) ∧ ls[k].length ≤ c ∧ PRow w ls[k] ya
theorem PsRow_at {w : World} {ls : List (List Pw)} {xa : Option Addr} (h : PsRow w ls xa) (hne : 0 < ls.length) : ∃ b o, xa = some ⟨b, o, none⟩ := by
  rcases h with rfl | ⟨b, o, e, _⟩
  · simp at hne
  · exact ⟨b, o, e⟩
theorem PsRow_get {w : World} {ls : List (List Pw)} {b o : Nat} (h : PsRow w ls (some ⟨b, o, none⟩)) (k : Nat) (hk : k < ls.length) : ∃ ya c, w.cell? ⟨b, o + k, none⟩ = some (.slice ya ls[k].length c) ∧ ls[k].length ≤ c ∧ PRow w ls[k] ya := by
  rcases h with rfl | ⟨b', o', e, h⟩
  · simp at hk
  · simp only [Option.some.injEq, Addr.mk.injEq, and_true] at e
    obtain ⟨rfl, rfl⟩ := e
    exact h k hk
end Go.Proofs.YtbcpnepjojppaaaGreatDoor
namespace Go.Proofs.YtbcpnepjojppaaaGreatDoor
open Go.RowKit
end Go.Proofs.YtbcpnepjojppaaaGreatDoor
namespace Go.Proofs.YtbcpnepjojppaaaGreatDoor
open Go.RowKit
end Go.Proofs.YtbcpnepjojppaaaGreatDoor
namespace Go.Proofs.YtbcpnepjojppaaaGreatDoor
open Go.RowKit
end Go.Proofs.YtbcpnepjojppaaaGreatDoor
namespace Go.Proofs.YtbcpnepjojppaaaGreatDoor
open Go.RowKit
end Go.Proofs.YtbcpnepjojppaaaGreatDoor
namespace Go.Proofs.YtbcpnepjojppaaaGreatDoor
open Go.RowKit
end Go.Proofs.YtbcpnepjojppaaaGreatDoor
namespace Go.Proofs.YtbcpnepjojppaaaGreatDoor
open Go.RowKit Go.Lib
section
variable {S : Nat → Prop} {w : World}
def cptQ (p : PA S w) : List (PA S w) → List (PA S w)
  | [] => []
  | x :: xs => if cmpT x.p.1 p.p.1 = 0 then cptQ x xs else x :: cptQ x xs
def compQ : List (PA S w) → List (PA S w)
  | [] => []
  | x :: xs => x :: cptQ x xs
structure CHQ (L : List (PA S w)) (k : Nat) : Prop where
  lt : k < L.length
  eq : ∀ h : k < L.length, compQ L = L.take (k + 1) ++ cptQ L[k] (L.drop (k + 1))
theorem CHQ.step {L : List (PA S w)} {k : Nat} (h : CHQ L k) (hk : k + 1 < L.length) (hne : ¬ cmpT L[k + 1].p.1 (L[k]'h.lt).p.1 = 0) : CHQ L (k + 1) := ⟨hk, fun _ => by
  have := h.eq h.lt
  rw [List.drop_eq_getElem_cons hk, cptQ, if_neg hne] at this
  rw [this, List.take_succ_eq_append_getElem hk, List.append_assoc]; rfl⟩
theorem CHQ.done {L : List (PA S w)} {k : Nat} (h : CHQ L k) (hk : L.length = k + 1) : compQ L = L := by
  have := h.eq h.lt
  rw [List.drop_of_length_le (by omega), cptQ, List.take_of_length_le (by omega), List.append_nil] at this
  exact this
structure CIQ (L cur : List (PA S w)) (p kk : Nat) : Prop where
  len : cur.length = L.length
  lt : kk ≤ p
  plt : p < L.length
  high : ∀ i, p ≤ i → cur[i]? = L[i]?
  eq : ∀ h : p < L.length, compQ L = cur.take kk ++ cptQ L[p] (L.drop (p + 1))
theorem CIQ.skip {L cur : List (PA S w)} {p kk : Nat} (h : CIQ L cur p kk) (hp : p + 1 < L.length) (he : cmpT L[p + 1].p.1 (L[p]'h.plt).p.1 = 0) : CIQ L cur (p + 1) kk := ⟨h.len, Nat.le_succ_of_le h.lt, hp, fun i hi => h.high i (by omega), fun _ => by
  have := h.eq h.plt
  rw [List.drop_eq_getElem_cons hp, cptQ, if_pos he] at this
  exact this⟩
theorem CIQ.done {L cur : List (PA S w)} {p kk : Nat} (h : CIQ L cur p kk) (hp : L.length = p + 1) : compQ L = cur.take kk ∧ kk ≤ p := by
  have := h.eq h.plt
  rw [List.drop_of_length_le (by omega), cptQ, List.append_nil] at this
  exact ⟨this, h.lt⟩
def FiveAt (W : World) (g o : Nat) (x : PA S w) : Prop := (W.cell? ⟨g, o, none⟩ = some (.int .i64 x.k) ∧ W.cell? ⟨g, o + 1, none⟩ = some (.string x.n) ∧ W.cell? ⟨g, o + 2, none⟩ = some (.int .i64 x.s) ∧ W.cell? ⟨g, o + 3, none⟩ = some (.slice x.xa x.l x.c)) ∧ W.cell? ⟨g, o + 4, none⟩ = some (.int .i64 x.p.2)
theorem FiveAt.ext {W V : World} {g o : Nat} {x : PA S w} (h : FiveAt W g o x) (y : Ext W V) : FiveAt V g o x :=
  ⟨⟨keep_below y _ _ h.1.1, keep_below y _ _ h.1.2.1, keep_below y _ _ h.1.2.2.1, keep_below y _ _ h.1.2.2.2⟩, keep_below y _ _ h.2⟩
end
end Go.Proofs.YtbcpnepjojppaaaGreatDoor
namespace Go.Proofs.YtbcpnepjojppaaaGreatDoor
open Go.RowKit Go.Lib
section
variable {S : Nat → Prop} {w : World}
end
end Go.Proofs.YtbcpnepjojppaaaGreatDoor
