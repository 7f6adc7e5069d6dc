import Derived.Deep.AppendLies
import Derived.Deep.DeepCutAuto
import Derived.Deep.LoopGhost
import Derived.Deep.RegionHeld3
import Derived.Deep.RegionLaw
import Derived.Deep.RegionLawGrows
import Derived.Laws.Rows
import Derived.Lib.LazyBuf
import Derived.StillTactics
import Derived.Test.YtbcpnepjojppaaaGreatDoorLawTheoryKeyxMem
import Derived.Test.YtbcpnepjojppaaaGreatDoorLawTheoryKeyxName
namespace Go.Proofs.YtbcpnepjojppaaaGreatDoor
open Go.RowKit
section
variable {w w' : World} {pb : Nat} {rest : ByteArray} {ov : Value} {nodes : Int} {large whole : Bool} {r0 r1 r2 r3 : Value}
end
def But (b : Nat) (w w' : World) : Prop := w.grownBy w' (some b)
theorem But.refl (b : Nat) (w : World) : But b w w := ⟨rfl, rfl, rfl, Nat.le_refl _, fun _ _ _ => rfl⟩
theorem But.trans {b : Nat} {w w' w'' : World} (h : But b w w') (k : But b w' w'') : But b w w'' :=
  ⟨k.os.trans h.os, k.tape.trans h.tape, k.output.trans h.output, Nat.le_trans h.size k.size, fun i hi hne => (k.block i (Nat.lt_of_lt_of_le hi h.size) hne).trans (h.block i hi hne)⟩
theorem But.below {b : Nat} {w w' w'' : World} (h : But b w w') (k : Below w'.heap.size w' w'') : But b w w'' :=
  ⟨k.os.trans h.os, k.tape.trans h.tape, k.output.trans h.output, Nat.le_trans h.size k.size, fun i hi hne => (k.block i (Nat.lt_of_lt_of_le hi h.size)).trans (h.block i hi hne)⟩
theorem But.setCell {b : Nat} {w w' : World} (h : But b w w') (i : Nat) (v : Value) : But b w (w'.setCell ⟨b, i, none⟩ v) :=
  ⟨h.os, h.tape, h.output, by have := h.size; simpa [World.setCell] using this, fun k hk hne => by
    rw [Below.heap_setCell _ _ _ _ (by intro e; exact hne (by rw [e]))]; exact h.block k hk hne⟩
theorem But.drew {b : Nat} {w w' : World} (h : But b w w') : But b w w'.drew := ⟨h.os, h.tape, h.output, h.size, h.block⟩
theorem But.alloc {b : Nat} {w w' : World} (h : But b w w') (o : Obj) : But b w (w'.alloc o) := h.below ((Below.refl _ _).alloc (Nat.le_refl _) _)
def takeB (s p : ByteArray) : ByteArray := if preB s p then s.extract p.size s.size else s
end Go.Proofs.YtbcpnepjojppaaaGreatDoor
namespace Go.Proofs.YtbcpnepjojppaaaGreatDoor
open Go.RowKit
def wAny : ByteArray := ⟨#[97, 110, 121]⟩
def wAgent : ByteArray := ⟨#[97, 103, 101, 110, 116]⟩
def wNonce : ByteArray := ⟨#[110, 111, 110, 99, 101]⟩
def wKey : ByteArray := ⟨#[107, 101, 121]⟩
def wData : ByteArray := ⟨#[100, 97, 116, 97]⟩
def wTag : ByteArray := ⟨#[116, 97, 103]⟩
end Go.Proofs.YtbcpnepjojppaaaGreatDoor
namespace Go.Proofs.YtbcpnepjojppaaaGreatDoor
open Go.RowKit
def bQ : ByteArray := ⟨#[63]⟩
def bColon : ByteArray := ⟨#[58]⟩
def bOpen : ByteArray := ⟨#[40]⟩
def bClose : ByteArray := ⟨#[41]⟩
def bComma : ByteArray := ⟨#[44, 32]⟩
def nodeName (rest : ByteArray) : ByteArray := (takeB rest bQ).extract 0 (nameLen (takeB rest bQ).data.toList)
def nodeRest (rest : ByteArray) : ByteArray := (takeB rest bQ).extract (nodeName rest).size (takeB rest bQ).size
theorem takeB_size (s p : ByteArray) : (takeB s p).size ≤ s.size := by
  unfold takeB; split
  · simp only [ByteArray.size_extract]; omega
  · omega
end Go.Proofs.YtbcpnepjojppaaaGreatDoor
namespace Go.Proofs.YtbcpnepjojppaaaGreatDoor
open Go.RowKit
mutual
/-- As 'Is', every row in a block of S. -/
def IsIn (S : Nat → Prop) (w : World) : Tm → Value → Value → Value → Value → Prop
  | .mk k n s ks, c0, c1, c2, c3 => c0 = .int .i64 k ∧ c1 = .string n ∧ c2 = .int .i64 s ∧ (-9223372036854775808 ≤ k ∧ k ≤ 9223372036854775807) ∧ (-9223372036854775808 ≤ s ∧ s ≤ 9223372036854775807) ∧ n.size ≤ maxLen ∧ ks.length ≤ maxLen ∧
      ∃ xa cap, c3 = .slice xa ks.length cap ∧ ks.length ≤ cap ∧ RowIn S w ks xa
def RowIn (S : Nat → Prop) (w : World) : List Tm → Option Addr → Prop
  | [], _ => True
  | t :: ts, xa => ∃ b o, xa = some ⟨b, o, none⟩ ∧ S b ∧ (∃ c0 c1 c2 c3, w.cell? ⟨b, o, none⟩ = some c0 ∧ w.cell? ⟨b, o + 1, none⟩ = some c1 ∧ w.cell? ⟨b, o + 2, none⟩ = some c2 ∧ w.cell? ⟨b, o + 3, none⟩ = some c3 ∧ IsIn S w t c0 c1 c2 c3) ∧ RowIn S w ts (some ⟨b, o + 4, none⟩)
end
theorem IsIn_carry {S S' : Nat → Prop} {w w' : World} (hc : ∀ b, S b → w'.heap[b]? = w.heap[b]?) (hS : ∀ b, S b → S' b) (t : Tm) : ∀ c0 c1 c2 c3, IsIn S w t c0 c1 c2 c3 → IsIn S' w' t c0 c1 c2 c3 := by
  refine Tm.rec (motive_1 := fun t => ∀ c0 c1 c2 c3, IsIn S w t c0 c1 c2 c3 → IsIn S' w' t c0 c1 c2 c3) (motive_2 := fun ts => ∀ xa, RowIn S w ts xa → RowIn S' w' ts xa) ?_ ?_ ?_ t
  · intro k n s ks ih c0 c1 c2 c3 h
    simp only [IsIn] at h ⊢
    obtain ⟨h1, h2, h3, h4, h5, h6, h7, xa, cap, h8, h9, h10⟩ := h
    exact ⟨h1, h2, h3, h4, h5, h6, h7, xa, cap, h8, h9, ih _ h10⟩
  · intro xa _; simp [RowIn]
  · intro t ts h1 h2 xa h
    simp only [RowIn] at h ⊢
    obtain ⟨b, o, e, hs, ⟨c0, c1, c2, c3, g0, g1, g2, g3, hI⟩, hR⟩ := h
    have hk : ∀ i v, w.cell? ⟨b, i, none⟩ = some v → w'.cell? ⟨b, i, none⟩ = some v := fun i v hv => by rw [World.cell?_of_block (w := w) (a := ⟨b, i, none⟩) (hc b hs)]; exact hv
    exact ⟨b, o, e, hS b hs, ⟨c0, c1, c2, c3, hk _ _ g0, hk _ _ g1, hk _ _ g2, hk _ _ g3, h1 _ _ _ _ hI⟩, h2 _ hR⟩
theorem IsIn_Is {S : Nat → Prop} {w : World} (t : Tm) : ∀ c0 c1 c2 c3, IsIn S w t c0 c1 c2 c3 → Is w t c0 c1 c2 c3 := by
  refine Tm.rec (motive_1 := fun t => ∀ c0 c1 c2 c3, IsIn S w t c0 c1 c2 c3 → Is w t c0 c1 c2 c3) (motive_2 := fun ts => ∀ xa, RowIn S w ts xa → Row w ts xa) ?_ ?_ ?_ t
  · intro k n s ks ih c0 c1 c2 c3 h
    simp only [IsIn] at h; simp only [Is]
    obtain ⟨h1, h2, h3, h4, h5, h6, h7, xa, cap, h8, h9, h10⟩ := h
    exact ⟨h1, h2, h3, h4, h5, h6, h7, xa, cap, h8, h9, ih _ h10⟩
  · intro xa _; simp [Row]
  · intro t ts h1 h2 xa h
    simp only [RowIn] at h; simp only [Row]
    obtain ⟨b, o, e, _, ⟨c0, c1, c2, c3, g0, g1, g2, g3, hI⟩, hR⟩ := h
    exact ⟨b, o, e, ⟨c0, c1, c2, c3, g0, g1, g2, g3, h1 _ _ _ _ hI⟩, h2 _ hR⟩
def KC (S : Nat → Prop) (w : World) : List Tm → List Value → Prop
  | [], cs => cs = []
  | t :: ts, cs => ∃ c0 c1 c2 c3 r, cs = c0 :: c1 :: c2 :: c3 :: r ∧ IsIn S w t c0 c1 c2 c3 ∧ KC S w ts r
theorem KC_carry {S S' : Nat → Prop} {w w' : World} (hc : ∀ b, S b → w'.heap[b]? = w.heap[b]?) (hS : ∀ b, S b → S' b) : ∀ (ts : List Tm) (cs : List Value), KC S w ts cs → KC S' w' ts cs
  | [], cs, h => h
  | t :: ts, cs, h => by
    obtain ⟨c0, c1, c2, c3, r, e, hI, hr⟩ := h
    exact ⟨c0, c1, c2, c3, r, e, IsIn_carry hc hS t _ _ _ _ hI, KC_carry hc hS ts r hr⟩
theorem KC_snoc {S : Nat → Prop} {w : World} {t : Tm} {c0 c1 c2 c3 : Value} (hI : IsIn S w t c0 c1 c2 c3) : ∀ (ts : List Tm) (cs : List Value), KC S w ts cs → KC S w (ts ++ [t]) (cs ++ [c0, c1, c2, c3])
  | [], cs, h => by subst h; exact ⟨c0, c1, c2, c3, [], rfl, hI, rfl⟩
  | u :: ts, cs, h => by
    obtain ⟨d0, d1, d2, d3, r, rfl, hJ, hr⟩ := h
    exact ⟨d0, d1, d2, d3, r ++ [c0, c1, c2, c3], rfl, hJ, KC_snoc hI ts r hr⟩
theorem RowIn_of_KC {S : Nat → Prop} {w : World} {g : Nat} (hg : S g) : ∀ (ts : List Tm) (cs : List Value) (o : Nat), KC S w ts cs → (∀ j u, cs[j]? = some u → w.cell? ⟨g, o + j, none⟩ = some u) → RowIn S w ts (some ⟨g, o, none⟩)
  | [], _, _, _, _ => by simp [RowIn]
  | t :: ts, cs, o, h, hc => by
    obtain ⟨c0, c1, c2, c3, r, rfl, hI, hr⟩ := h
    simp only [RowIn]
    refine ⟨g, o, rfl, hg, ⟨c0, c1, c2, c3, hc 0 _ rfl, hc 1 _ rfl, hc 2 _ rfl, hc 3 _ rfl, hI⟩, RowIn_of_KC hg ts r (o + 4) hr fun j u hu => ?_⟩
    have := hc (j + 4) u (by simpa using hu)
    rw [show o + 4 + j = o + (j + 4) by omega]; exact this
theorem IsIn_app {S S' : Nat → Prop} {w : World} {base : Nat} {T : TypeId} {nm : ByteArray} {ks : List Tm} {kv : Value} {cs : List Value} (hn : nm.size ≤ maxLen) (hown : w.ownsRow base T 4 kv ks.length cs) (hK : KC S w ks cs)
    (hS : ∀ b, S b → S' b) (hg : ∀ g, kv.ownBlock = some g → S' g) : IsIn S' w (.mk 3 nm 0 ks) (.int .i64 3) (.string nm) (.int .i64 0) kv := by
  have hK' := KC_carry (w' := w) (fun _ _ => rfl) hS ks cs hK
  simp only [IsIn]
  refine ⟨trivial, trivial, trivial, by omega, by omega, hn, ?_, ?_⟩
  · rcases hown.2 with ⟨_, h0⟩ | ⟨g, cap, cur, _, _, _, h1, h2, _⟩
    · rw [h0]; exact Nat.zero_le _
    · omega
  · have hown' := hown
    rcases hown.2 with ⟨rfl, h0⟩ | ⟨g, cap, cur, rfl, _, _, h1, h2, _⟩
    · refine ⟨none, 0, by rw [h0], by omega, ?_⟩
      have : ks = [] := List.length_eq_zero_iff.1 h0
      rw [this]; simp [RowIn]
    · refine ⟨some ⟨g, 0, none⟩, cap, rfl, h1, RowIn_of_KC (hg g rfl) ks cs 0 hK' fun j u hu => ?_⟩
      have hj : j < cs.length := by
        rcases Nat.lt_or_ge j cs.length with h | h
        · exact h
        · rw [List.getElem?_eq_none h] at hu; cases hu
      rw [Nat.zero_add, hown'.cellAt j (by rw [← hown'.1]; exact hj)]; exact hu
structure Fr where
  nm : ByteArray
  ks : List Tm
  kv : Value
def Fr.cells (f : Fr) : List Value := [.int .i64 3, .string f.nm, .int .i64 0, f.kv]
structure Keeps (F : Nat → Prop) (w w' : World) : Prop where
  os : w'.os = w.os
  tape : w'.tape = w.tape
  output : w'.output = w.output
  size : w.heap.size ≤ w'.heap.size
  block : ∀ b, F b → w'.heap[b]? = w.heap[b]?
theorem Keeps.refl (F : Nat → Prop) (w : World) : Keeps F w w := ⟨rfl, rfl, rfl, Nat.le_refl _, fun _ _ => rfl⟩
theorem Keeps.trans {F : Nat → Prop} {a b c : World} (h : Keeps F a b) (k : Keeps F b c) : Keeps F a c :=
  ⟨k.os.trans h.os, k.tape.trans h.tape, k.output.trans h.output, Nat.le_trans h.size k.size, fun i hi => (k.block i hi).trans (h.block i hi)⟩
theorem Keeps.mono {F G : Nat → Prop} {a b : World} (h : Keeps F a b) (hG : ∀ i, G i → F i) : Keeps G a b := ⟨h.os, h.tape, h.output, h.size, fun i hi => h.block i (hG i hi)⟩
theorem Keeps.ofBut {F : Nat → Prop} {pb : Nat} {w w' : World} (h : But pb w w') (hF : ∀ b, F b → b < w.heap.size ∧ b ≠ pb) : Keeps F w w' :=
  ⟨h.os, h.tape, h.output, h.size, fun b hb => h.block b (hF b hb).1 (by intro e; simp only [Option.some.injEq] at e; exact (hF b hb).2 e)⟩
end Go.Proofs.YtbcpnepjojppaaaGreatDoor
namespace Go.Proofs.YtbcpnepjojppaaaGreatDoor
open Go.RowKit
def put4 (w : World) (g o : Nat) (c0 c1 c2 c3 : Value) : World := (((w.setCell ⟨g, o, none⟩ c0).setCell ⟨g, o + 1, none⟩ c1).setCell ⟨g, o + 2, none⟩ c2).setCell ⟨g, o + 3, none⟩ c3
theorem put4_other (w : World) (g o k : Nat) (c0 c1 c2 c3 : Value) (hk : k ≠ g) : (put4 w g o c0 c1 c2 c3).heap[k]? = w.heap[k]? := by
  unfold put4
  rw [Below.heap_setCell _ _ _ _ hk, Below.heap_setCell _ _ _ _ hk, Below.heap_setCell _ _ _ _ hk, Below.heap_setCell _ _ _ _ hk]
theorem put4_size (w : World) (g o : Nat) (c0 c1 c2 c3 : Value) : (put4 w g o c0 c1 c2 c3).heap.size = w.heap.size := by simp [put4, World.setCell]
section
variable {w wB : World} {base pb : Nat} {rest : ByteArray} {ov : Value} {nodes : Int} {large whole : Bool} {r0 r1 r2 r3 : Value} {f : Fr} {r : List Fr} {F : Nat → Prop}
end
end Go.Proofs.YtbcpnepjojppaaaGreatDoor
namespace Go.Proofs.YtbcpnepjojppaaaGreatDoor
open Go.RowKit
section
variable {w wB : World} {base pb : Nat} {rest : ByteArray} {ov : Value} {nodes : Int} {large whole : Bool} {r0 r1 r2 r3 : Value} {f : Fr} {r : List Fr} {F : Nat → Prop}
end
end Go.Proofs.YtbcpnepjojppaaaGreatDoor
namespace Go.Proofs.YtbcpnepjojppaaaGreatDoor
open Go.RowKit
theorem own_heap {w w' : World} {base : Nat} {T : TypeId} {k : Nat} {v : Value} {n : Nat} {xs : List Value} (h : w.ownsRow base T k v n xs) (hk : ∀ g, v.ownBlock = some g → w'.heap[g]? = w.heap[g]?) : w'.ownsRow base T k v n xs := by
  refine ⟨h.1, ?_⟩
  rcases h.2 with hn | ⟨g, cap, cur, e, hb, hh, rest⟩
  · exact Or.inl hn
  · exact Or.inr ⟨g, cap, cur, e, hb, by rw [hk g (by rw [e]; rfl)]; exact hh, rest⟩
theorem own_shorter {w : World} {base : Nat} {T : TypeId} {k g n m cap : Nat} {xs ys : List Value} (h : w.ownsRow base T k (.slice (some ⟨g, 0, none⟩) (n + m) cap) (n + m) (xs ++ ys)) (hx : xs.length = n * k) : w.ownsRow base T k (.slice (some ⟨g, 0, none⟩) n cap) n xs := by
  refine ⟨hx, Or.inr ?_⟩
  rcases h.2 with ⟨e, _⟩ | ⟨g', cap', cur, e, hb, hh, hn, hc, hs, ht⟩
  · simp at e
  · simp only [Value.slice.injEq, Option.some.injEq, Addr.mk.injEq, and_true, true_and] at e
    obtain ⟨rfl, rfl⟩ := e
    refine ⟨g, cap, cur, rfl, hb, hh, by omega, hc, hs, ?_⟩
    have h1 : (cur.toList.take ((n + m) * k)).take (n * k) = (xs ++ ys).take (n * k) := by rw [ht]
    rw [List.take_take] at h1
    have h2 : min (n * k) ((n + m) * k) = n * k := by rw [Nat.add_mul]; omega
    rw [h2] at h1
    rw [h1, ← hx, List.take_left']
    rfl
theorem own_base {w : World} {base base' : Nat} {T : TypeId} {k : Nat} {v : Value} {n : Nat} {xs : List Value} (h : w.ownsRow base T k v n xs) (hb : base' ≤ base) : w.ownsRow base' T k v n xs := by
  refine ⟨h.1, h.2.imp id ?_⟩
  rintro ⟨g, cap, cur, e, h1, r⟩
  exact ⟨g, cap, cur, e, Nat.le_trans hb h1, r⟩
def ints (p : List Nat) : List Value := p.map fun (i : Nat) => Value.int .i64 (i : Int)
theorem ints_length (p : List Nat) : (ints p).length = p.length * 1 := by simp [ints]
theorem ints_snoc (p : List Nat) (i : Nat) : ints (p ++ [i]) = ints p ++ [.int .i64 (i : Int)] := by simp [ints]
end Go.Proofs.YtbcpnepjojppaaaGreatDoor
namespace Go.Proofs.YtbcpnepjojppaaaGreatDoor
open Go.RowKit
theorem own_form {w : World} {base : Nat} {T : TypeId} {k : Nat} {v : Value} {n : Nat} {xs : List Value} (h : w.ownsRow base T k v n xs) : ∃ xa cap, v = .slice xa n cap := by
  rcases h.2 with ⟨rfl, h0⟩ | ⟨g, cap, cur, rfl, _⟩
  · exact ⟨none, 0, by rw [h0]⟩
  · exact ⟨some ⟨g, 0, none⟩, cap, rfl⟩
theorem info24 : (Tryz.prog.info? 24).map (fun i => (i.zero, i.size, i.bytes)) = some (some (.agg #[.int .i64 0, .string ⟨#[]⟩, .int .i64 0, .slice none 0 0]), 4, 56) := by kernel_rfl
end Go.Proofs.YtbcpnepjojppaaaGreatDoor
namespace Go.Proofs.YtbcpnepjojppaaaGreatDoor
open Go.RowKit
end Go.Proofs.YtbcpnepjojppaaaGreatDoor
namespace Go.Proofs.YtbcpnepjojppaaaGreatDoor
open Go.RowKit
end Go.Proofs.YtbcpnepjojppaaaGreatDoor
namespace Go.Proofs.YtbcpnepjojppaaaGreatDoor
open Go.RowKit
def zeroT : Tm := .mk 0 ByteArray.empty 0 []
end Go.Proofs.YtbcpnepjojppaaaGreatDoor
namespace Go.Proofs.YtbcpnepjojppaaaGreatDoor
open Go.RowKit
def ParseInP (r : Tm × Int) (w : World) (e : Ending) (w' : World) : Prop :=
  ∃ c0 c1 c2 c3, e = .returned (.tuple #[.agg #[c0, c1, c2, c3], .int .i64 r.2]) ∧ IsIn (fun b => w.heap.size ≤ b) w' r.1 c0 c1 c2 c3 ∧ Below w.heap.size w w'
theorem zero_In (S : Nat → Prop) (w : World) : IsIn S w zeroT (.int .i64 0) (.string ByteArray.empty) (.int .i64 0) (.slice none 0 0) := by
  simp only [zeroT, IsIn]
  exact ⟨trivial, trivial, trivial, by omega, by omega, Nat.zero_le _, by simp, none, 0, rfl, by simp, by simp [RowIn]⟩
end Go.Proofs.YtbcpnepjojppaaaGreatDoor
namespace Go.Proofs.YtbcpnepjojppaaaGreatDoor
open Go.RowKit
mutual
def posT (path : List Nat) : Tm → List (List Nat)
  | .mk _ _ _ ks => path :: posL path 0 ks
def posL (path : List Nat) (i : Nat) : List Tm → List (List Nat)
  | [] => []
  | t :: ts => posT (path ++ [i]) t ++ posL path (i + 1) ts
end
def PV (S : Nat → Prop) (w : World) (p : List Nat) (v : Value) : Prop := w.ownsRow 0 3 1 v p.length (ints p) ∧ ∀ g, v.ownBlock = some g → S g
def PL (S : Nat → Prop) (w : World) : List (List Nat) → List Value → Prop
  | [], vs => vs = []
  | p :: ps, vs => ∃ v r, vs = v :: r ∧ PV S w p v ∧ PL S w ps r
theorem PV_carry {S S' : Nat → Prop} {w w' : World} (hc : ∀ b, S b → w'.heap[b]? = w.heap[b]?) (hS : ∀ b, S b → S' b) {p : List Nat} {v : Value} (h : PV S w p v) : PV S' w' p v :=
  ⟨own_heap h.1 (fun g hg => hc g (h.2 g hg)), fun g hg => hS g (h.2 g hg)⟩
theorem PL_carry {S S' : Nat → Prop} {w w' : World} (hc : ∀ b, S b → w'.heap[b]? = w.heap[b]?) (hS : ∀ b, S b → S' b) : ∀ (ps : List (List Nat)) (vs : List Value), PL S w ps vs → PL S' w' ps vs
  | [], vs, h => h
  | p :: ps, vs, h => by
    obtain ⟨v, r, e, hv, hr⟩ := h
    exact ⟨v, r, e, PV_carry hc hS hv, PL_carry hc hS ps r hr⟩
structure PosPre (G F : Nat → Prop) (w : World) (base : Nat) (at_ : Value) (path : List Nat) (l : Value) (ps : List (List Nat)) (vs : List Value) : Prop where
  gG : ∀ b, G b → b < w.heap.size ∧ at_.ownBlock ≠ some b ∧ l.ownBlock ≠ some b
  gF : ∀ b, F b → G b
  gB : ∀ b, b < base → G b
  gl : base ≤ w.heap.size
  own : w.ownsRow base 3 1 at_ path.length (ints path)
  row : w.ownsRow base 36 1 l ps.length vs
  pl : PL F w ps vs
  ne : ∀ g, at_.ownBlock = some g → l.ownBlock ≠ some g
  atn : at_ = .slice none 0 0 ∨ 0 < path.length
def PosPost (G F : Nat → Prop) (w : World) (base : Nat) (at_ : Value) (path : List Nat) (l : Value) (ps : List (List Nat)) (t : Tm) (e : Ending) (w' : World) : Prop :=
  ∃ l' vs' F', e = .returned l' ∧ PosPre (fun b => G b ∨ F' b) F' w' base at_ path l' (ps ++ posT path t) vs' ∧ (∀ b, F b → F' b) ∧ (∀ b, F' b → F b ∨ w.heap.size ≤ b) ∧
    (∀ g, l'.ownBlock = some g → l.ownBlock = some g ∨ w.heap.size ≤ g) ∧ Keeps G w w'
theorem PosPre.room {G F : Nat → Prop} {w w1 : World} {base : Nat} {path : List Nat} {l : Value} {ps : List (List Nat)} {vs : List Value} {g n cap i : Nat} {o : Obj} (h : PosPre G F w base (.slice (some ⟨g, 0, none⟩) n cap) path l ps vs) (hn : n = path.length)
    (hown : w1.ownsRow base 3 1 (.slice (some ⟨g, 0, none⟩) (n + 1) cap) (n + 1) (ints path ++ [.int .i64 (i : Int)])) (hg : (w.alloc o).drew.grownBy w1 (some g)) :
    PosPre G F w1 base (.slice (some ⟨g, 0, none⟩) (n + 1) cap) (path ++ [i]) l ps vs ∧ Keeps G w w1 ∧ w.heap.size ≤ w1.heap.size := by
  subst hn
  have hs : w.heap.size + 1 ≤ w1.heap.size := by have := hg.size; have h2 : (w.alloc o).drew.heap.size = w.heap.size + 1 := World.size_alloc ..; omega
  have hk : ∀ b, b < w.heap.size → b ≠ g → w1.heap[b]? = w.heap[b]? := fun b hb hne => by
    have h2 : (w.alloc o).drew.heap.size = w.heap.size + 1 := World.size_alloc ..
    rw [hg.block b (by omega) (by intro e; simp only [Option.some.injEq] at e; exact hne e)]
    exact Below.heap_alloc w o b hb
  have hGk : ∀ b, G b → w1.heap[b]? = w.heap[b]? := fun b hb => hk b (h.gG b hb).1 (fun e => (h.gG b hb).2.1 (by rw [e]; rfl))
  refine ⟨⟨fun b hb => ⟨by have := (h.gG b hb).1; omega, (h.gG b hb).2.1, (h.gG b hb).2.2⟩, h.gF, h.gB, by have := h.gl; omega, ?_, own_heap h.row (fun q hq => hk q (h.row.lt q hq).2 (fun e => h.ne g rfl (by rw [hq, e]))), PL_carry (fun b hb => hGk b (h.gF b hb)) (fun _ h => h) _ _ h.pl, h.ne, Or.inr (by simp)⟩,
    ⟨hg.os, hg.tape, hg.output, by omega, hGk⟩, by omega⟩
  rw [ints_snoc, List.length_append]; exact hown
theorem PosPost.room {G F : Nat → Prop} {w w1 w2 : World} {base : Nat} {path : List Nat} {l : Value} {ps : List (List Nat)} {vs : List Value} {t : Tm} {g n cap i : Nat} {e : Ending} (h : PosPre G F w base (.slice (some ⟨g, 0, none⟩) n cap) path l ps vs) (hn : n = path.length) (hK : Keeps G w w1) (hs : w.heap.size ≤ w1.heap.size)
    (hp : PosPost G F w1 base (.slice (some ⟨g, 0, none⟩) (n + 1) cap) (path ++ [i]) l ps t e w2) :
    ∃ l' vs' F', e = .returned l' ∧ PosPre (fun b => G b ∨ F' b) F' w2 base (.slice (some ⟨g, 0, none⟩) n cap) path l' (ps ++ posT (path ++ [i]) t) vs' ∧ (∀ b, F b → F' b) ∧ (∀ b, F' b → F b ∨ w.heap.size ≤ b) ∧
      (∀ g, l'.ownBlock = some g → l.ownBlock = some g ∨ w.heap.size ≤ g) ∧ Keeps G w w2 := by
  subst hn
  obtain ⟨l', vs', F', he, h1, h2, h3, h4, h5⟩ := hp
  have hown := h1.own
  rw [ints_snoc, List.length_append] at hown
  refine ⟨l', vs', F', he, ⟨h1.gG, h1.gF, h1.gB, h1.gl, own_shorter hown (ints_length path), h1.row, h1.pl, h1.ne, h.atn⟩, h2, fun b hb => (h3 b hb).imp id (fun e => by omega), fun q hq => (h4 q hq).imp id (fun e => by omega), hK.trans h5⟩
end Go.Proofs.YtbcpnepjojppaaaGreatDoor
namespace Go.Proofs.YtbcpnepjojppaaaGreatDoor
open Go.RowKit
def LiesIn (S : Nat → Prop) (w : World) (t : Tm) (b o : Nat) : Prop :=
  S b ∧ ∃ c0 c1 c2 c3, w.cell? ⟨b, o, none⟩ = some c0 ∧ w.cell? ⟨b, o + 1, none⟩ = some c1 ∧ w.cell? ⟨b, o + 2, none⟩ = some c2 ∧ w.cell? ⟨b, o + 3, none⟩ = some c3 ∧ IsIn S w t c0 c1 c2 c3
theorem LiesIn_carry {S S' : Nat → Prop} {w w' : World} (hc : ∀ b, S b → w'.heap[b]? = w.heap[b]?) (hS : ∀ b, S b → S' b) {t : Tm} {b o : Nat} (h : LiesIn S w t b o) : LiesIn S' w' t b o := by
  obtain ⟨hb, c0, c1, c2, c3, g0, g1, g2, g3, hI⟩ := h
  have hk : ∀ i v, w.cell? ⟨b, i, none⟩ = some v → w'.cell? ⟨b, i, none⟩ = some v := fun i v hv => by rw [World.cell?_of_block (w := w) (a := ⟨b, i, none⟩) (hc b hb)]; exact hv
  exact ⟨hS b hb, c0, c1, c2, c3, hk _ _ g0, hk _ _ g1, hk _ _ g2, hk _ _ g3, IsIn_carry hc hS t _ _ _ _ hI⟩
theorem RowIn_get {S : Nat → Prop} {w : World} : ∀ {ts : List Tm} {b o : Nat} (_ : RowIn S w ts (some ⟨b, o, none⟩)) (i : Nat) (hi : i < ts.length), LiesIn S w ts[i] b (o + i * 4)
  | t :: ts, b, o, h, i, hi => by
    simp only [RowIn] at h
    obtain ⟨b', o', e, hs, h1, h2⟩ := h
    simp only [Option.some.injEq, Addr.mk.injEq, and_true] at e
    obtain ⟨rfl, rfl⟩ := e
    cases i with
    | zero => simpa [LiesIn] using And.intro hs h1
    | succ i =>
      have := RowIn_get h2 i (by simpa using hi)
      have e : o + (i + 1) * 4 = o + 4 + i * 4 := by omega
      rw [e]; simpa using this
theorem RowIn_at {S : Nat → Prop} {w : World} {ts : List Tm} {xa : Option Addr} (h : RowIn S w ts xa) (hne : 0 < ts.length) : ∃ b o, xa = some ⟨b, o, none⟩ := by
  cases ts with
  | nil => simp at hne
  | cons t ts => simp only [RowIn] at h; obtain ⟨b, o, e, _⟩ := h; exact ⟨b, o, e⟩
theorem Is_IsIn {w : World} (t : Tm) : ∀ c0 c1 c2 c3, Is w t c0 c1 c2 c3 → IsIn (fun b => b < w.heap.size) w t c0 c1 c2 c3 := by
  refine Tm.rec (motive_1 := fun t => ∀ c0 c1 c2 c3, Is w t c0 c1 c2 c3 → IsIn (fun b => b < w.heap.size) w t c0 c1 c2 c3) (motive_2 := fun ts => ∀ xa, Row w ts xa → RowIn (fun b => b < w.heap.size) w ts xa) ?_ ?_ ?_ t
  · intro k n s ks ih c0 c1 c2 c3 h
    simp only [Is] at h; simp only [IsIn]
    obtain ⟨h1, h2, h3, h4, h5, h6, h7, xa, cap, h8, h9, h10⟩ := h
    exact ⟨h1, h2, h3, h4, h5, h6, h7, xa, cap, h8, h9, ih _ h10⟩
  · intro xa _; simp [RowIn]
  · intro t ts h1 h2 xa h
    simp only [Row] at h; simp only [RowIn]
    obtain ⟨b, o, e, ⟨c0, c1, c2, c3, g0, g1, g2, g3, hI⟩, hR⟩ := h
    exact ⟨b, o, e, World.block_lt_of_cell? w _ g0, ⟨c0, c1, c2, c3, g0, g1, g2, g3, h1 _ _ _ _ hI⟩, h2 _ hR⟩
end Go.Proofs.YtbcpnepjojppaaaGreatDoor
namespace Go.Proofs.YtbcpnepjojppaaaGreatDoor
open Go.RowKit
end Go.Proofs.YtbcpnepjojppaaaGreatDoor
