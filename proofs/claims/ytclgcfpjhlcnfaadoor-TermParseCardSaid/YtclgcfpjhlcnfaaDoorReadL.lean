/-
  THE WALK OF the reference's read at an application (by gen_readl.py).
-/
import Derived.Test.YtclgcfpjhlcnfaaDoorReadN
import Derived.Test.YtclgcfpjhlcnfaaDoorElems
import Derived.Deep.LoopGhost
namespace Go.Proofs.YtclgcfpjhlcnfaaDoor
open Go.RowKit

theorem IsIn_lt {S : Nat → Prop} {w : World} (t : Tm) : ∀ c0 c1 c2 c3, IsIn S w t c0 c1 c2 c3 → IsIn (fun b => S b ∧ b < w.heap.size) w t c0 c1 c2 c3 := by
  refine Tm.rec (motive_1 := fun t => ∀ c0 c1 c2 c3, IsIn S w t c0 c1 c2 c3 → IsIn (fun b => S b ∧ b < w.heap.size) w t c0 c1 c2 c3) (motive_2 := fun ts => ∀ xa, RowIn S w ts xa → RowIn (fun b => S b ∧ b < w.heap.size) w ts xa) ?_ ?_ ?_ t
  · intro k n s ks ih c0 c1 c2 c3 h
    simp only [IsIn] at h ⊢
    obtain ⟨h1, h2, h3, h4, h5, h6, h7, xa, cap, h8, h9, h10⟩ := h
    exact ⟨h1, h2, h3, h4, h5, h6, h7, xa, cap, h8, h9, ih _ h10⟩
  · intro xa _; simp [RowIn]
  · intro t ts h1 h2 xa h
    simp only [RowIn] at h ⊢
    obtain ⟨b, o, e, hs, ⟨c0, c1, c2, c3, g0, g1, g2, g3, hI⟩, hR⟩ := h
    exact ⟨b, o, e, ⟨hs, World.block_lt_of_cell? w _ g0⟩, ⟨c0, c1, c2, c3, g0, g1, g2, g3, h1 _ _ _ _ hI⟩, h2 _ hR⟩

/-- What holds of the kids that are read: a row of the call's own, what it holds lies elsewhere. -/
def KidsAt (H : Nat) (wr : World) (acc : List Tm) (kv : Value) : Prop :=
  ∃ F : Nat → Prop, OwnT H F wr acc kv ∧ ∀ b, F b → H ≤ b ∧ b < wr.heap.size ∧ kv.ownBlock ≠ some b
theorem KidsAt_nil (H : Nat) (w : World) : KidsAt H w [] (.slice none 0 0) := ⟨fun _ => False, OwnT_nil _ _ _, fun _ h => h.elim⟩
theorem KidsAt_keep {H : Nat} {w w' : World} {acc : List Tm} {kv : Value} (h : KidsAt H w acc kv) (hs : w.heap.size ≤ w'.heap.size) (hk : ∀ b, H ≤ b → b < w.heap.size → w'.heap[b]? = w.heap[b]?) : KidsAt H w' acc kv := by
  obtain ⟨F, hO, hF⟩ := h
  refine ⟨F, OwnT_carry hO (fun b hb => hk b (hF b hb).1 (hF b hb).2.1) (fun g hg => hk g (OwnT_lt hO g hg).1 (OwnT_lt hO g hg).2), fun b hb => ⟨(hF b hb).1, Nat.lt_of_lt_of_le (hF b hb).2.1 hs, (hF b hb).2.2⟩⟩
theorem KidsAt_form {H : Nat} {w : World} {acc : List Tm} {kv : Value} (h : KidsAt H w acc kv) : ∃ xa cap, kv = .slice xa acc.length cap := by
  obtain ⟨F, hO, _⟩ := h; exact OwnT_form hO
theorem KidsAt_app {H : Nat} {w : World} {acc : List Tm} {kv : Value} {nm : ByteArray} (h : KidsAt H w acc kv) (hn : nm.size ≤ maxLen) : IsIn (fun b => H ≤ b ∧ b < w.heap.size) w (.mk 3 nm 0 acc) (.int .i64 3) (.string nm) (.int .i64 0) kv := by
  obtain ⟨F, ⟨cs, ho, hK⟩, hF⟩ := h
  exact IsIn_app hn ho hK (fun b hb => ⟨(hF b hb).1, (hF b hb).2.1⟩) (fun g hg => ho.lt g hg)
/-- One more kid. -/
theorem KidsAt_push {H n g lcap cap : Nat} {wr w6 w8 : World} {acc : List Tm} {xl : Option Addr} {cs : List Value} {F : Nat → Prop} {x : Tm} {c0 c1 c2 c3 : Value} {o : Obj} (hn : n = acc.length)
    (ho : wr.ownsRow H 25 4 (.slice xl n lcap) n cs) (hK : KC F wr acc cs) (hF : ∀ b, F b → H ≤ b ∧ b < wr.heap.size ∧ (Value.slice xl n lcap).ownBlock ≠ some b) (hH : H ≤ wr.heap.size)
    (hB : Below wr.heap.size wr w6) (hI : IsIn (fun b => wr.heap.size ≤ b ∧ b < w6.heap.size) w6 x c0 c1 c2 c3) (hown : w8.ownsRow H 25 4 (.slice (some ⟨g, 0, none⟩) (n + 1) cap) (n + 1) (cs ++ [c0, c1, c2, c3])) (hg : (w6.alloc o).grownBy w8 (Value.slice xl n lcap).ownBlock) (hnew : ∀ b, b < w6.heap.size → (Value.slice xl n lcap).ownBlock ≠ some b → g ≠ b) :
    KidsAt H w8 (acc ++ [x]) (.slice (some ⟨g, 0, none⟩) (n + 1) cap) := by
  subst hn
  have hsz := hB.size
  have hgs := hg.size
  rw [World.size_alloc] at hgs
  have hk : ∀ b, b < w6.heap.size → (Value.slice xl acc.length lcap).ownBlock ≠ some b → w8.heap[b]? = w6.heap[b]? := fun b hb hne => by
    rw [hg.block b (by rw [World.size_alloc]; omega) (fun e => hne e.symm), Below.heap_alloc _ _ _ hb]
  have hlt := fun q hq => ho.lt q hq
  refine ⟨fun b => F b ∨ (wr.heap.size ≤ b ∧ b < w6.heap.size), ⟨cs ++ [c0, c1, c2, c3], by simpa using hown, ?_⟩, ?_⟩
  · refine KC_append _ _ _ _ (KC_carry (fun b hb => ?_) (fun b hb => Or.inl hb) _ _ hK) (KC_one_term (IsIn_carry (fun b hb => ?_) (fun b hb => Or.inr hb) _ _ _ _ _ hI))
    · rw [hk b (by have := (hF b hb).2.1; omega) (hF b hb).2.2]; exact hB.block b (hF b hb).2.1
    · exact hk b hb.2 (fun e => by have := (hlt b e).2; omega)
  · have hne : ∀ b, b < w6.heap.size → (Value.slice xl acc.length lcap).ownBlock ≠ some b → (Value.slice (some ⟨g, 0, none⟩) (acc.length + 1) cap).ownBlock ≠ some b := fun b h1 h2 e => hnew b h1 h2 (by simpa [Value.ownBlock] using e)
    rintro b (hb | hb)
    · exact ⟨(hF b hb).1, by have := (hF b hb).2.1; omega, hne b (by have := (hF b hb).2.1; omega) (hF b hb).2.2⟩
    · exact ⟨by omega, by omega, hne b hb.2 (fun e => by have := (hlt b e).2; omega)⟩

theorem Rd_push {w wr w6 w8 : World} {n g lcap cap : Nat} {acc : List Tm} {xl : Option Addr} {cs : List Value} {F : Nat → Prop} {x : Tm} {c0 c1 c2 c3 : Value} {o : Obj} (hn : n = acc.length)
    (ho : wr.ownsRow (w.heap.size + 2) 25 4 (.slice xl n lcap) n cs) (hK : KC F wr acc cs) (hF : ∀ b, F b → w.heap.size + 2 ≤ b ∧ b < wr.heap.size ∧ (Value.slice xl n lcap).ownBlock ≠ some b) (hH : w.heap.size + 2 ≤ wr.heap.size)
    (hB : Below wr.heap.size wr w6) (hI : IsIn (fun b => wr.heap.size ≤ b ∧ b < w6.heap.size) w6 x c0 c1 c2 c3) (hown : w8.ownsRow (w.heap.size + 2) 25 4 (.slice (some ⟨g, 0, none⟩) (n + 1) cap) (n + 1) (cs ++ [c0, c1, c2, c3])) (hg : (w6.alloc o).grownBy w8 (Value.slice xl n lcap).ownBlock)
    (hat : (Value.slice xl n lcap).ownBlock = some g ∨ g = w6.heap.size + 1) (hBw : Below w.heap.size w w6) :
    KidsAt (w.heap.size + 2) w8 (acc ++ [x]) (.slice (some ⟨g, 0, none⟩) (n + 1) cap) ∧ w8.heap[w.heap.size]? = w6.heap[w.heap.size]? ∧ w8.heap[w.heap.size + 1]? = w6.heap[w.heap.size + 1]? ∧ Below w.heap.size w w8 ∧ w.heap.size + 2 ≤ w8.heap.size := by
  have hsz := hB.size
  have hgs := hg.size
  rw [World.size_alloc] at hgs
  have hlt := fun q hq => (ho.lt q hq).1
  have hk : ∀ b, b < w.heap.size + 2 → w8.heap[b]? = w6.heap[b]? := fun b hb => by
    rw [hg.block b (by rw [World.size_alloc]; omega) (fun e => by have := hlt b e.symm; omega), Below.heap_alloc _ _ _ (by omega)]
  refine ⟨KidsAt_push hn ho hK hF hH hB hI hown hg (fun b h1 h2 e => ?_), hk _ (by omega), hk _ (by omega), ?_, by omega⟩
  · rcases hat with h | h
    · exact h2 (by rw [h, e])
    · omega
  · exact (hBw.alloc (by omega) _).grown hg (by rw [World.size_alloc]; omega) (fun q hq => by have := hlt q hq; omega)
def RdR (w : World) (d : Nat) (nm : ByteArray) (tgt : Option (List Tm × ByteArray)) (N : Nat) (k : Nat) (v0 : Value) (wr : World) : Prop :=
  ∃ (sc : ByteArray) (acc : List Tm) (kv : Value), v0 = .string sc ∧ sc.size < k ∧ acc.length + sc.size ≤ N ∧
    wr.heap[w.heap.size]? = some (.cells #[.int .i64 0, .string ⟨#[]⟩, .int .i64 0, .slice none 0 0] 25 (0, 0)) ∧ wr.heap[w.heap.size + 1]? = some (.cells #[.int .i64 3, .string nm, .int .i64 0, kv] 25 (0, 0)) ∧
    KidsAt (w.heap.size + 2) wr acc kv ∧ Below w.heap.size w wr ∧ w.heap.size + 2 ≤ wr.heap.size ∧
    tgt = (kidsR (readR d) k acc.isEmpty sc).map (fun p : List Tm × ByteArray => (acc ++ p.1, p.2))

theorem RdR_next {w w8 : World} {d N m n g cap : Nat} {nm r : ByteArray} {tgt : Option (List Tm × ByteArray)} {acc : List Tm} {kv0 : Value} (hKA : KidsAt (w.heap.size + 2) w8 acc (.slice (some ⟨g, 0, none⟩) n cap)) (hb0 : w8.heap[w.heap.size]? = some (.cells #[.int .i64 0, .string ⟨#[]⟩, .int .i64 0, .slice none 0 0] 25 (0, 0))) (hb1 : w8.heap[w.heap.size + 1]? = some (.cells #[.int .i64 3, .string nm, .int .i64 0, kv0] 25 (0, 0)))
    (hB : Below w.heap.size w w8) (hZ : w.heap.size + 2 ≤ w8.heap.size) (h1 : r.size < m) (h2 : acc.length + r.size ≤ N) (ht : tgt = (kidsR (readR d) m acc.isEmpty r).map (fun p : List Tm × ByteArray => (acc ++ p.1, p.2))) :
    RdR w d nm tgt N m (.string r) (w8.setCell ⟨w.heap.size + 1, 3, none⟩ (.slice (some ⟨g, 0, none⟩) n cap)) := by
  refine ⟨r, acc, _, rfl, h1, h2, ?_, ?_, KidsAt_keep hKA (by simp [World.setCell]) (fun b hb _ => Below.heap_setCell _ _ _ _ (by show b ≠ w.heap.size + 1; omega)), hB.setCell (Nat.le_succ _) _, by simpa [World.setCell] using hZ, ht⟩
  · rw [Below.heap_setCell _ _ _ _ (by show w.heap.size ≠ w.heap.size + 1; omega)]; exact hb0
  · simp [World.setCell, Array.getElem?_modify, hb1]
/- The target at the ways of a round. -/
theorem kids_empty (d m : Nat) (first : Bool) {s : ByteArray} (h : s.size = 0) : kidsR (readR d) (m + 1) first s = none := by
  have h1 : preB s bClose = false := by
    cases hh : preB s bClose with
    | false => rfl
    | true => have := (takeB_eq hh).2; have hb : bClose.size = 1 := rfl; omega
  have h2 : preB s bComma = false := by
    cases hh : preB s bComma with
    | false => rfl
    | true => have := (takeB_eq hh).2; have hb : bComma.size = 2 := rfl; omega
  cases first with
  | false => rw [kidsR, if_neg (by rw [h1]; simp), if_pos ⟨rfl, h2⟩]
  | true =>
    rw [kidsR_first _ _ _ h1]
    cases hr : readR d s with
    | none => rfl
    | some p => obtain ⟨x, r⟩ := p; have := readR_size d s x r hr; omega
theorem kids_close (d m : Nat) (first : Bool) {s : ByteArray} (h : preB s bClose = true) : kidsR (readR d) (m + 1) first s = some ([], takeB s bClose) := by rw [kidsR, if_pos h]
theorem kids_wrong (d m : Nat) {s : ByteArray} (h1 : preB s bClose = false) (h2 : preB s bComma = false) : kidsR (readR d) (m + 1) false s = none := by rw [kidsR, if_neg (by rw [h1]; simp), if_pos ⟨rfl, h2⟩]
theorem kids_step {d m : Nat} {acc : List Tm} {x : Tm} {r : ByteArray} {tgt : Option (List Tm × ByteArray)} (h : tgt = (match kidsR (readR d) m false r with
      | none => none
      | some (ks, r') => some (x :: ks, r')).map (fun p : List Tm × ByteArray => (acc ++ p.1, p.2))) : tgt = (kidsR (readR d) m (acc ++ [x]).isEmpty r).map (fun p : List Tm × ByteArray => (acc ++ [x] ++ p.1, p.2)) := by
  have e : (acc ++ [x]).isEmpty = false := by simp
  rw [h, e]
  cases kidsR (readR d) m false r with
  | none => rfl
  | some p => obtain ⟨ks, r'⟩ := p; simp
theorem pre_two {s : ByteArray} : preB s bComma = true ↔ 2 ≤ s.size ∧ ((s.extract 0 2).toList == [44, 32]) = true := by
  have e : bComma.toList = [44, 32] := by rw [Lib.toList_data]; rfl
  simp only [preB, Bool.and_eq_true, decide_eq_true_eq, e]
  rfl

set_option maxHeartbeats 6400000 in
set_option maxRecDepth 100000 in
theorem read_app (s nm R : ByteArray) (d : Nat) (dp : Int) (hdp : dp - 1 = (d : Int)) (hd1 : 1 ≤ dp) (hd2 : dp ≤ 1000000) (w : World) (hs : s.size ≤ 1048576) (h0 : 0 < s.size) (hc : ¬ s[0] = 63) (hnm : nameAny s = nm) (hR : s.extract nm.size s.size = R) (hno : isNameB nm.data.toList = true) (hr : 0 < R.size) (hr2 : R[0] = 40)
    (IH : ∀ (s : ByteArray) (w : World), s.size ≤ 1048576 → Calls Tryd.prog 46 #[.string s, .int .i64 d] w (ReadPost w (readR d s))) :
    Calls Tryd.prog 46 #[.string s, .int .i64 dp] w (ReadPost w ((kidsR (readR d) (s.size + 1) true (R.extract 1 R.size)).map fun p => (.mk 3 nm 0 p.1, p.2))) := by
  have d0 : (dp == 0) = false := by rw [beq_eq_false_iff_ne]; omega
  have e0 : (0 : Int) < (s.size : Int) := by omega
  have e1 : ((s[0].toNat : Int) == 63) = false := by
    rw [beq_eq_false_iff_ne]
    intro h
    exact hc (UInt8.toNat_inj.1 (by rw [show (63 : UInt8).toNat = 63 from rfl]; omega))
  have hsp : s.size ≤ maxLen := by unfold maxLen; omega
  clear hc
  have HN := Lib.hid (fun W => rname_any s W hsp)
  have hle := nameAny_le s
  rw [hnm] at hle HN
  have hnmx : nm.size ≤ maxLen := Nat.le_trans hle hsp
  have HI := Lib.hid (fun W => rIsName_any nm W hnmx)
  rw [hno] at HI
  have hRs : R.size ≤ s.size := by rw [← hR, ByteArray.size_extract]; omega
  have HNS := Lib.hid hnmx
  have s0 : (nm.size : Int) ≤ (s.size : Int) := by omega
  have r0 : ((R.size : Int) == 0) = false := by rw [beq_eq_false_iff_ne]; omega
  have r1 : ((R[0].toNat : Int) != 40) = false := by rw [hr2]; rfl
  have r2 : (0 : Int) < (R.size : Int) := by omega
  have r3 : (1 : Int) ≤ (R.size : Int) := by omega
  have hS1 : (R.extract 1 R.size).size < s.size + 1 ∧ (R.extract 1 R.size).size ≤ s.size := by rw [ByteArray.size_extract]; omega
  have HIH := Lib.hid IH
  have HD := Lib.hid hdp
  generalize hS : R.extract 1 R.size = S1 at hS1 ⊢
  obtain ⟨tgt, htgt⟩ : ∃ tgt, kidsR (readR d) (s.size + 1) true S1 = tgt := ⟨_, rfl⟩
  have HTG : Hid (tgt = (kidsR (readR d) (s.size + 1) (([] : List Tm).isEmpty) S1).map (fun p : List Tm × ByteArray => (([] : List Tm) ++ p.1, p.2))) := by
    show _ = _
    rw [← htgt]
    simp only [List.isEmpty_nil, List.nil_append]
    cases kidsR (readR d) (s.size + 1) true S1 <;> rfl
  rw [htgt]
  have HNONE : Hid (tgt = none → ∀ W, Below w.heap.size w W → ∀ a b c y l k x, ReadPost w (tgt.map fun p => (Tm.mk 3 nm 0 p.1, p.2)) (.returned (.tuple #[.agg #[.int .i64 a, .string b, .int .i64 c, .slice y l k], .string x, .bool false])) W) := fun ht W h a b c y l k x => by
    rw [ht]; exact ⟨h, a, b, c, y, l, k, x, rfl⟩
  have HSOME : Hid (∀ acc r, tgt = some (acc, r) → ∀ W kv, Below w.heap.size w W → IsIn (fun b => w.heap.size ≤ b) W (.mk 3 nm 0 acc) (.int .i64 3) (.string nm) (.int .i64 0) kv → ReadPost w (tgt.map fun p => (Tm.mk 3 nm 0 p.1, p.2)) (.returned (.tuple #[.agg #[.int .i64 3, .string nm, .int .i64 0, kv], .string r, .bool true])) W) := fun acc r ht W kv h hI => by
    rw [ht]; exact ⟨h, _, _, _, _, rfl, hI⟩
  obtain ⟨i0, hi0, hz0, hz1, hz2⟩ := info_parts info24
  have HI0 := Lib.hid (And.intro hi0 (And.intro hz0 (And.intro hz1 hz2)))
  have HS1 := Lib.hid hS1
  clear hno hle hnmx hRs hsp hnm hr2 hi0 hz0 hz1 hz2 htgt IH hS1 hdp
  go_enter Tryd.func46, Tryd.ntmps46
  go_wp2_with (first
    | (go_at_call 83; refine (HN.out _).mono ?_; rintro e w3 ⟨he, hw⟩; subst he; subst hw)
    | (go_at_call 84; refine (HI.out _).mono ?_; rintro e w4 ⟨he, hw⟩; subst he; subst hw; obtain ⟨hb0, hb1, hB, hZ⟩ := two_boxes w (.int .i64 0) (.string ⟨#[]⟩) (.int .i64 0) (.slice none 0 0) (.int .i64 2) (.string nm) (.int .i64 0) (.slice none 0 0) 25; generalize ((w.alloc (.cells #[.int .i64 0, .string ⟨#[]⟩, .int .i64 0, .slice none 0 0] 25)).alloc (.cells #[.int .i64 2, .string nm, .int .i64 0, .slice none 0 0] 25)) = wq at hb0 hb1 hB hZ ⊢; obtain ⟨⟨m0, m1, m2, m3⟩, n0, n1, n2, n3⟩ := box_facts hb0; obtain ⟨⟨y0, y1, y2, y3⟩, z0, z1, z2, z3⟩ := box_facts hb1; have HB := Lib.hid hB; have HZ := Lib.hid hZ; have HB0 := Lib.hid hb0; have HB1 := Lib.hid hb1; clear hb0 hb1 hB hZ))
  have hstart : RdR w d nm tgt s.size (s.size + 1) (.string S1) (wq.setCell ⟨w.heap.size + 1, 0, none⟩ (.int .i64 3)) := by
    refine ⟨S1, [], .slice none 0 0, rfl, HS1.out.1, by simpa using HS1.out.2, ?_, ?_, KidsAt_nil _ _, HB.out.setCell (Nat.le_succ _) _, by have := HZ.out; simp [World.setCell]; omega, HTG.out⟩
    · rw [Below.heap_setCell _ _ _ _ (by show w.heap.size ≠ w.heap.size + 1; omega)]; exact HB0.out
    · simp [World.setCell, Array.getElem?_modify, HB1.out]
  have HST := Lib.hid hstart
  clear hstart m0 m1 m2 m3 n0 n1 n2 n3 y0 y1 y2 y3 z0 z1 z2 z3
  go_loopg [0] (s.size + 1) (fun k v0 wr => RdR w d nm tgt s.size k v0 wr)
  case atStart => exact HST.out
  case round =>
    obtain ⟨sc, acc, kv, rfl, hk, hN, hb0, hb1, hKA, hB, hZ2, htg⟩ := hrel
    obtain ⟨m, rfl⟩ : ∃ m, gk = m + 1 := ⟨gk - 1, by omega⟩
    obtain ⟨xl, lcap, hkv⟩ := KidsAt_form hKA
    obtain ⟨n, hn⟩ : ∃ n, n = acc.length := ⟨_, rfl⟩
    rw [← hn] at hkv hN
    subst hkv
    have HNL := Lib.hid hn
    clear hn
    obtain ⟨⟨m0, m1, m2, m3⟩, n0, n1, n2, n3⟩ := box_facts hb0
    obtain ⟨⟨y0, y1, y2, y3⟩, z0, z1, z2, z3⟩ := box_facts hb1
    have HKA := Lib.hid hKA
    have HB1 := Lib.hid hb1
    have HB0 := Lib.hid hb0
    have HB := Lib.hid hB
    have HZ2 := Lib.hid hZ2
    have HTT := Lib.hid htg
    clear hKA hb0 hb1 hB hZ2 htg
    by_cases hsc : sc.size = 0
    · have HT : Hid (tgt = none) := by show _ = _; rw [HTT.out, kids_empty d m _ hsc]; rfl
      have f0 : (sc.size : Int) ≤ 0 := by omega
      have f1 : ((sc.size : Int) == 0) = true := by rw [hsc]; rfl
      clear hsc
      go_wp2_with fail
      exact bodyPost_ret (v := .tuple #[.agg #[.int .i64 3, .string nm, .int .i64 0, .slice xl n lcap], .string sc, .bool false]) (by simp [results, Tryd.results46, go_sem, m0, m1, m2, m3]) rfl (HNONE.out HT.out _ (put4_below (g := w.heap.size) (o := 0) HB.out (Nat.le_refl _)) _ _ _ _ _ _ _)
    have f0 : (0 : Int) < (sc.size : Int) := by omega
    have f1 : ((sc.size : Int) == 0) = false := by rw [beq_eq_false_iff_ne]; omega
    have f2 : (1 : Int) ≤ (sc.size : Int) := by omega
    by_cases hcl : preB sc bClose = true
    · have ht : tgt = some (acc, sc.extract 1 sc.size) := by
        rw [HTT.out, kids_close d m _ hcl]
        have : takeB sc bClose = sc.extract 1 sc.size := by unfold takeB; rw [hcl]; rfl
        rw [this]; simp
      have HSM := Lib.hid (HSOME.out acc _ ht)
      have HCAR : Hid (∀ W : World, (∀ b, w.heap.size + 2 ≤ b → W.heap[b]? = wr.heap[b]?) → IsIn (fun b => w.heap.size ≤ b) W (.mk 3 nm 0 acc) (.int .i64 3) (.string nm) (.int .i64 0) (.slice xl n lcap)) := fun W h => IsIn_carry (fun b hb => h b hb.1) (fun b hb => by have := hb.1; omega) _ _ _ _ _ (KidsAt_app HKA.out HNS.out)
      obtain ⟨hp0, hp1⟩ := (pre_one (s := sc) (p := bClose) rfl).1 hcl
      have f3 : ((sc[0].toNat : Int) != 41) = false := by rw [hp1]; rfl
      clear hcl ht hp1
      go_wp2_with fail
      go_region
      go_wp2_with fail
      refine bodyPost_ret (v := .tuple #[.agg #[.int .i64 3, .string nm, .int .i64 0, .slice xl n lcap], .string (sc.extract 1 sc.size), .bool true]) (by simp [results, Tryd.results46, go_sem, m0, m1, m2, m3]) rfl (HSM.out _ _ (put4_below (w' := wr.drew) (g := w.heap.size) (o := 0) HB.out.drew (Nat.le_refl _)) ?_)
      exact HCAR.out _ (fun b hb => put4_other wr w.heap.size 0 b _ _ _ _ (by omega))
    have hcl' : preB sc bClose = false := by simpa using hcl
    have f3 : ((sc[0]'(by omega)).toNat : Int) ≠ 41 := by
      intro h
      exact hcl ((pre_one (s := sc) (p := bClose) rfl).2 ⟨by omega, UInt8.toNat_inj.1 (by rw [show (41 : UInt8).toNat = 41 from rfl]; omega)⟩)
    have f4 : (((sc[0]'(by omega)).toNat : Int) != 41) = true := by rw [bne_iff_ne]; exact f3
    have HCL := Lib.hid hcl'
    clear hcl hcl' f3
    have hpos : 0 < sc.size := by omega
    have HNN := Lib.hid hN
    have HKK := Lib.hid hk
    by_cases hac : acc = []
    · have HT1 : Hid (tgt = (match readR d sc with
        | none => none
        | some (x, r) => match kidsR (readR d) m false r with
          | none => none
          | some (ks, r') => some (x :: ks, r')).map (fun p : List Tm × ByteArray => (acc ++ p.1, p.2))) := by
        show _ = _
        have he : acc.isEmpty = true := by rw [hac]; rfl
        rw [HTT.out, he, kidsR_first _ _ _ HCL.out]
        rfl
      have hn0 : (n : Int) ≤ 0 := by have := HNL.out; rw [hac] at this; simp at this; omega
      clear hac
      have hnb : n + 1 ≤ 1048576 := by have := HNN.out; omega
      obtain ⟨X, hX⟩ : ∃ X, readR d sc = X := ⟨_, rfl⟩
      have HXS := Lib.hid (fun t r (h : X = some (t, r)) => readR_size d sc t r (hX.trans h))
      have HCALL := Lib.hid (fun W => HIH.out sc W (by omega))
      rw [hX] at HCALL HT1
      have HEQ := Lib.hid HD.out
      have hdp := HEQ.out
      clear hX
      cases X with
      | none =>
        have HT : Hid (tgt = none) := HT1.out
        go_upto_region 19 with (first
          | (go_at_call 46; refine (HCALL.out _).mono ?_; rintro e w5 ⟨hB5, qa, qb, qc, qd, ql, qk, qx, he⟩; subst he; have HE6 : Hid (Below wr.heap.size wr (w5.alloc (.cells #[.int .i64 qa, .string qb, .int .i64 qc, .slice qd ql qk] 25))) := Lib.hid (hB5.alloc hB5.size _); clear hB5))
        generalize (w5.alloc (.cells #[.int .i64 qa, .string qb, .int .i64 qc, .slice qd ql qk] 25)) = w6 at HE6 ⊢
        have hb0 := (HE6.out.block w.heap.size (by have := HZ2.out; omega)).trans HB0.out
        have hb1 := (HE6.out.block (w.heap.size + 1) (by have := HZ2.out; omega)).trans HB1.out
        have HBx := Lib.hid (HB.out.trans (HE6.out.mono (by have := HZ2.out; omega)))
        clear m0 m1 m2 m3 n0 n1 n2 n3 y0 y1 y2 y3 z0 z1 z2 z3
        obtain ⟨⟨m0, m1, m2, m3⟩, n0, n1, n2, n3⟩ := box_facts hb0
        obtain ⟨⟨y0, y1, y2, y3⟩, z0, z1, z2, z3⟩ := box_facts hb1
        clear hb0 hb1
        go_wp2_with fail
        exact bodyPost_ret (v := .tuple #[.agg #[.int .i64 3, .string nm, .int .i64 0, .slice xl n lcap], .string sc, .bool false]) (by simp [results, Tryd.results46, go_sem, m0, m1, m2, m3]) rfl (HNONE.out HT.out _ (put4_below (g := w.heap.size) (o := 0) HBx.out (Nat.le_refl _)) _ _ _ _ _ _ _)
      | some p =>
        obtain ⟨x, r⟩ := p
        have hxs := HXS.out x r rfl
        have HT2 := Lib.hid (kids_step HT1.out)
        go_upto_region 19 with (first
          | (go_at_call 46; refine (HCALL.out _).mono ?_; rintro e w5 ⟨hB5, c0, c1, c2, c3, he, hI⟩; subst he; obtain ⟨xk, xn, xs, xr, xn2, xc, e0', e1', e2', e3'⟩ := IsIn_form hI; subst e0'; subst e1'; subst e2'; subst e3'; have HE6 : Hid (Below wr.heap.size wr (w5.alloc (.cells #[.int .i64 xk, .string xn, .int .i64 xs, .slice xr xn2 xc] 25))) := Lib.hid (hB5.alloc hB5.size _); have HIX : Hid (IsIn (fun b => wr.heap.size ≤ b ∧ b < (w5.alloc (.cells #[.int .i64 xk, .string xn, .int .i64 xs, .slice xr xn2 xc] 25)).heap.size) (w5.alloc (.cells #[.int .i64 xk, .string xn, .int .i64 xs, .slice xr xn2 xc] 25)) x (.int .i64 xk) (.string xn) (.int .i64 xs) (.slice xr xn2 xc)) := Lib.hid (IsIn_carry (fun b hb => Below.heap_alloc _ _ _ hb.2) (fun b hb => ⟨hb.1, by rw [World.size_alloc]; have := hb.2; omega⟩) _ _ _ _ _ (IsIn_lt _ _ _ _ _ hI)); have hx0 := heap_alloc_new w5 (.cells #[.int .i64 xk, .string xn, .int .i64 xs, .slice xr xn2 xc] 25); have HX5 : Hid (w5.heap.size < (w5.alloc (.cells #[.int .i64 xk, .string xn, .int .i64 xs, .slice xr xn2 xc] 25)).heap.size) := Lib.hid (by rw [World.size_alloc]; omega); clear hB5 hI))
        generalize (w5.alloc (.cells #[.int .i64 xk, .string xn, .int .i64 xs, .slice xr xn2 xc] 25)) = w6 at HE6 HIX hx0 HX5 ⊢
        have hb0 := (HE6.out.block w.heap.size (by have := HZ2.out; omega)).trans HB0.out
        have hb1 := (HE6.out.block (w.heap.size + 1) (by have := HZ2.out; omega)).trans HB1.out
        have HBx := Lib.hid (HB.out.trans (HE6.out.mono (by have := HZ2.out; omega)))
        clear m0 m1 m2 m3 n0 n1 n2 n3 y0 y1 y2 y3 z0 z1 z2 z3
        obtain ⟨⟨y0, y1, y2, y3⟩, z0, z1, z2, z3⟩ := box_facts hb1
        obtain ⟨⟨x0, x1, x2, x3⟩, _⟩ := box_facts hx0
        obtain ⟨F, ⟨cs, hown, hKC⟩, hF⟩ := HKA.out
        rw [← HNL.out] at hown
        have HOW := Lib.hid hown
        have HKC := Lib.hid hKC
        have HFF := Lib.hid hF
        have hw6 : w.heap.size + 2 ≤ w6.heap.size := by have := HZ2.out; have := HE6.out.size; omega
        have HO6 := Lib.hid (own_heap hown (fun q hq => HE6.out.block q (hown.lt q hq).2))
        have HBB := Lib.hid (And.intro hb0 hb1)
        clear hb0 hb1 hx0 hown hKC hF
        go_wp2_with (at_builtin; refine wpList_append_lies _ rfl _ _ _ rfl (w.heap.size + 2) 25 i0 _ 4 56 Tryd.underlying23 HI0.out.1 HI0.out.2.1 HI0.out.2.2.1 HI0.out.2.2.2 rfl (by omega) (.slice xl n lcap) n cs rfl (HO6.out.alloc _) ⟨w6.heap.size, 0, none⟩ 1 1 [.int .i64 xk, .string xn, .int .i64 xs, .slice xr xn2 xc] rfl rfl (World.news_of_block (cs := #[.int .i64 xk, .string xn, .int .i64 xs, .slice xr xn2 xc]) (t := 25) (fr := (0, 0)) (heap_alloc_new w6 _)) (by simp [Value.oneCell']) (by omega) (by unfold maxLen; omega) (by omega) (by simp; omega) (w6.heap.size + 1) (by simp) ?_; intro g cap2 w8 hown4 hgrow4 hat4 hlt4; have HP := Lib.hid (Rd_push HNL.out HOW.out HKC.out HFF.out HZ2.out HE6.out HIX.out hown4 hgrow4 hat4 HBx.out); clear hown4 hgrow4 hat4 hlt4 y0 y1 y2 y3 z0 z1 z2 z3 x0 x1 x2 x3; have hb1 := HP.out.2.2.1.trans HBB.out.2; obtain ⟨⟨y0, y1, y2, y3⟩, z0, z1, z2, z3⟩ := box_facts hb1; clear hb1)
        go_roundg m
        case measure => omega
        case rel => exact RdR_next HP.out.1 (HP.out.2.1.trans HBB.out.1) (HP.out.2.2.1.trans HBB.out.2) HP.out.2.2.2.1 HP.out.2.2.2.2 (by have := HKK.out; omega) (by rw [List.length_append, ← HNL.out]; have := HNN.out; simp; omega) HT2.out
    have hn1 : (0 : Int) < (n : Int) := by
      have := HNL.out
      have : 0 < acc.length := List.length_pos_iff.2 hac
      omega
    have he : acc.isEmpty = false := by simpa using hac
    have HE0 := Lib.hid he
    clear hac he
    by_cases hcm : preB sc bComma = true
    rotate_left
    · have hcm' : preB sc bComma = false := by simpa using hcm
      have HT : Hid (tgt = none) := by
        show _ = _
        rw [HTT.out, HE0.out, kids_wrong d m HCL.out hcm']; rfl
      by_cases h2 : sc.size < 2
      · have f5 : (sc.size : Int) < 2 := by omega
        clear hcm hcm' h2
        go_wp2_with fail
        exact bodyPost_ret (v := .tuple #[.agg #[.int .i64 3, .string nm, .int .i64 0, .slice xl n lcap], .string sc, .bool false]) (by simp [results, Tryd.results46, go_sem, m0, m1, m2, m3]) rfl (HNONE.out HT.out _ (put4_below (g := w.heap.size) (o := 0) HB.out (Nat.le_refl _)) _ _ _ _ _ _ _)
      · have f5 : ¬ (sc.size : Int) < 2 := by omega
        have f6 : (2 : Int) ≤ (sc.size : Int) := by omega
        have q : ((sc.extract 0 2).toList == [44, 32]) = false := by
          cases hq : ((sc.extract 0 2).toList == [44, 32]) with
          | true => exact absurd (pre_two.2 ⟨by omega, hq⟩) hcm
          | false => rfl
        clear hcm hcm' h2
        go_wp2_with fail
        exact bodyPost_ret (v := .tuple #[.agg #[.int .i64 3, .string nm, .int .i64 0, .slice xl n lcap], .string sc, .bool false]) (by simp [results, Tryd.results46, go_sem, m0, m1, m2, m3]) rfl (HNONE.out HT.out _ (put4_below (g := w.heap.size) (o := 0) HB.out (Nat.le_refl _)) _ _ _ _ _ _ _)
    obtain ⟨h2, hq⟩ := pre_two.1 hcm
    have f5 : ¬ (sc.size : Int) < 2 := by omega
    have f6 : (2 : Int) ≤ (sc.size : Int) := by omega
    have q := hq
    obtain ⟨S2, hS2⟩ : ∃ S2, sc.extract 2 sc.size = S2 := ⟨_, rfl⟩
    have hS2s : S2.size + 2 = sc.size := by rw [← hS2, ByteArray.size_extract]; omega
    have hT2 : takeB sc bComma = S2 := by unfold takeB; rw [hcm, ← hS2]; rfl
    have HT1 : Hid (tgt = (match readR d S2 with
      | none => none
      | some (x, r) => match kidsR (readR d) m false r with
        | none => none
        | some (ks, r') => some (x :: ks, r')).map (fun p : List Tm × ByteArray => (acc ++ p.1, p.2))) := by
      show _ = _
      rw [HTT.out, HE0.out, kidsR_succ _ _ _ HCL.out hcm, hT2]
      rfl
    clear hcm h2 hq hT2
    have hnb : n + 1 ≤ 1048576 := by have := HNN.out; omega
    obtain ⟨X, hX⟩ : ∃ X, readR d S2 = X := ⟨_, rfl⟩
    have HXS := Lib.hid (fun t r (h : X = some (t, r)) => readR_size d S2 t r (hX.trans h))
    have HCALL := Lib.hid (fun W => HIH.out S2 W (by omega))
    rw [hX] at HCALL HT1
    have HEQ := Lib.hid HD.out
    have hdp := HEQ.out
    clear hX
    cases X with
    | none =>
      have HT : Hid (tgt = none) := HT1.out
      go_upto_region 19 with (first
        | (go_at_call 46; refine (HCALL.out _).mono ?_; rintro e w5 ⟨hB5, qa, qb, qc, qd, ql, qk, qx, he⟩; subst he; have HE6 : Hid (Below wr.heap.size wr (w5.alloc (.cells #[.int .i64 qa, .string qb, .int .i64 qc, .slice qd ql qk] 25))) := Lib.hid (hB5.alloc hB5.size _); clear hB5))
      generalize (w5.alloc (.cells #[.int .i64 qa, .string qb, .int .i64 qc, .slice qd ql qk] 25)) = w6 at HE6 ⊢
      have hb0 := (HE6.out.block w.heap.size (by have := HZ2.out; omega)).trans HB0.out
      have hb1 := (HE6.out.block (w.heap.size + 1) (by have := HZ2.out; omega)).trans HB1.out
      have HBx := Lib.hid (HB.out.trans (HE6.out.mono (by have := HZ2.out; omega)))
      clear m0 m1 m2 m3 n0 n1 n2 n3 y0 y1 y2 y3 z0 z1 z2 z3
      obtain ⟨⟨m0, m1, m2, m3⟩, n0, n1, n2, n3⟩ := box_facts hb0
      obtain ⟨⟨y0, y1, y2, y3⟩, z0, z1, z2, z3⟩ := box_facts hb1
      clear hb0 hb1
      go_wp2_with fail
      exact bodyPost_ret (v := .tuple #[.agg #[.int .i64 3, .string nm, .int .i64 0, .slice xl n lcap], .string S2, .bool false]) (by simp [results, Tryd.results46, go_sem, m0, m1, m2, m3]) rfl (HNONE.out HT.out _ (put4_below (g := w.heap.size) (o := 0) HBx.out (Nat.le_refl _)) _ _ _ _ _ _ _)
    | some p =>
      obtain ⟨x, r⟩ := p
      have hxs := HXS.out x r rfl
      have HT2 := Lib.hid (kids_step HT1.out)
      go_upto_region 19 with (first
        | (go_at_call 46; refine (HCALL.out _).mono ?_; rintro e w5 ⟨hB5, c0, c1, c2, c3, he, hI⟩; subst he; obtain ⟨xk, xn, xs, xr, xn2, xc, e0', e1', e2', e3'⟩ := IsIn_form hI; subst e0'; subst e1'; subst e2'; subst e3'; have HE6 : Hid (Below wr.heap.size wr (w5.alloc (.cells #[.int .i64 xk, .string xn, .int .i64 xs, .slice xr xn2 xc] 25))) := Lib.hid (hB5.alloc hB5.size _); have HIX : Hid (IsIn (fun b => wr.heap.size ≤ b ∧ b < (w5.alloc (.cells #[.int .i64 xk, .string xn, .int .i64 xs, .slice xr xn2 xc] 25)).heap.size) (w5.alloc (.cells #[.int .i64 xk, .string xn, .int .i64 xs, .slice xr xn2 xc] 25)) x (.int .i64 xk) (.string xn) (.int .i64 xs) (.slice xr xn2 xc)) := Lib.hid (IsIn_carry (fun b hb => Below.heap_alloc _ _ _ hb.2) (fun b hb => ⟨hb.1, by rw [World.size_alloc]; have := hb.2; omega⟩) _ _ _ _ _ (IsIn_lt _ _ _ _ _ hI)); have hx0 := heap_alloc_new w5 (.cells #[.int .i64 xk, .string xn, .int .i64 xs, .slice xr xn2 xc] 25); have HX5 : Hid (w5.heap.size < (w5.alloc (.cells #[.int .i64 xk, .string xn, .int .i64 xs, .slice xr xn2 xc] 25)).heap.size) := Lib.hid (by rw [World.size_alloc]; omega); clear hB5 hI))
      generalize (w5.alloc (.cells #[.int .i64 xk, .string xn, .int .i64 xs, .slice xr xn2 xc] 25)) = w6 at HE6 HIX hx0 HX5 ⊢
      have hb0 := (HE6.out.block w.heap.size (by have := HZ2.out; omega)).trans HB0.out
      have hb1 := (HE6.out.block (w.heap.size + 1) (by have := HZ2.out; omega)).trans HB1.out
      have HBx := Lib.hid (HB.out.trans (HE6.out.mono (by have := HZ2.out; omega)))
      clear m0 m1 m2 m3 n0 n1 n2 n3 y0 y1 y2 y3 z0 z1 z2 z3
      obtain ⟨⟨y0, y1, y2, y3⟩, z0, z1, z2, z3⟩ := box_facts hb1
      obtain ⟨⟨x0, x1, x2, x3⟩, _⟩ := box_facts hx0
      obtain ⟨F, ⟨cs, hown, hKC⟩, hF⟩ := HKA.out
      rw [← HNL.out] at hown
      have HOW := Lib.hid hown
      have HKC := Lib.hid hKC
      have HFF := Lib.hid hF
      have hw6 : w.heap.size + 2 ≤ w6.heap.size := by have := HZ2.out; have := HE6.out.size; omega
      have HO6 := Lib.hid (own_heap hown (fun q hq => HE6.out.block q (hown.lt q hq).2))
      have HBB := Lib.hid (And.intro hb0 hb1)
      clear hb0 hb1 hx0 hown hKC hF
      go_wp2_with (at_builtin; refine wpList_append_lies _ rfl _ _ _ rfl (w.heap.size + 2) 25 i0 _ 4 56 Tryd.underlying23 HI0.out.1 HI0.out.2.1 HI0.out.2.2.1 HI0.out.2.2.2 rfl (by omega) (.slice xl n lcap) n cs rfl (HO6.out.alloc _) ⟨w6.heap.size, 0, none⟩ 1 1 [.int .i64 xk, .string xn, .int .i64 xs, .slice xr xn2 xc] rfl rfl (World.news_of_block (cs := #[.int .i64 xk, .string xn, .int .i64 xs, .slice xr xn2 xc]) (t := 25) (fr := (0, 0)) (heap_alloc_new w6 _)) (by simp [Value.oneCell']) (by omega) (by unfold maxLen; omega) (by omega) (by simp; omega) (w6.heap.size + 1) (by simp) ?_; intro g cap2 w8 hown4 hgrow4 hat4 hlt4; have HP := Lib.hid (Rd_push HNL.out HOW.out HKC.out HFF.out HZ2.out HE6.out HIX.out hown4 hgrow4 hat4 HBx.out); clear hown4 hgrow4 hat4 hlt4 y0 y1 y2 y3 z0 z1 z2 z3 x0 x1 x2 x3; have hb1 := HP.out.2.2.1.trans HBB.out.2; obtain ⟨⟨y0, y1, y2, y3⟩, z0, z1, z2, z3⟩ := box_facts hb1; clear hb1)
      go_roundg m
      case measure => omega
      case rel => exact RdR_next HP.out.1 (HP.out.2.1.trans HBB.out.1) (HP.out.2.2.1.trans HBB.out.2) HP.out.2.2.2.1 HP.out.2.2.2.2 (by have := HKK.out; omega) (by rw [List.length_append, ← HNL.out]; have := HNN.out; simp; omega) HT2.out

end Go.Proofs.YtclgcfpjhlcnfaaDoor
