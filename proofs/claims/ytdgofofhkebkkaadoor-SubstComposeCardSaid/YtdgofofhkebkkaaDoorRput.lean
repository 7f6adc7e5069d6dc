/-
  THE REFERENCE's Get and Put (layer 2), walked.
-/
import Derived.Test.YtdgofofhkebkkaaDoorRepl
import Derived.Test.YtdgofofhkebkkaaDoorRefb
import Derived.Test.YtdgofofhkebkkaaDoorElems
import Derived.Deep.RegionHeldLaw
import Derived.Test.YtdgofofhkebkkaaDoorSapply
namespace Go.Proofs.YtdgofofhkebkkaaDoor
open Go.RowKit

/-- What a variable stands for; itself if it is not bound. -/
def getR (bs : List Bd) (x : Tm) : Tm := (getB bs x).getD x
mutual
/-- The reference's Put: a variable is replaced whatever kids it has. -/
def putT (bs : List Bd) : Tm → Tm
  | .mk k n s ks => if k = 1 then getR bs (.mk k n s ks) else .mk k n s (putL bs ks)
def putL (bs : List Bd) : List Tm → List Tm
  | [] => []
  | t :: ts => putT bs t :: putL bs ts
end
theorem putL_length (bs : List Bd) : ∀ ks, (putL bs ks).length = ks.length
  | [] => rfl
  | t :: ts => by rw [putL, List.length_cons, List.length_cons, putL_length bs ts]
theorem putL_take (bs : List Bd) : ∀ (ks : List Tm) (j : Nat) (h : j < ks.length), putL bs (ks.take (j + 1)) = putL bs (ks.take j) ++ [putT bs ks[j]]
  | t :: ts, 0, _ => by simp [putL]
  | t :: ts, j + 1, h => by
    have := putL_take bs ts j (by simpa using h)
    simp only [List.take_succ_cons, putL, List.getElem_cons_succ, List.cons_append, this]
/-- On a valid term it is what the substitution makes. -/
theorem putT_apT (bs : List Bd) (t : Tm) : nodesE t = 0 → putT bs t = apT bs t := by
  refine Tm.rec (motive_1 := fun t => nodesE t = 0 → putT bs t = apT bs t) (motive_2 := fun ts => nodesL ts = 0 → putL bs ts = apL bs ts) ?_ ?_ ?_ t
  · intro k n s ks ih h
    obtain ⟨h1, h2⟩ := nodesE_parts h
    rw [putT, apT, ih h2]
    by_cases hk : k = 1
    · subst hk
      rw [if_pos rfl, if_pos rfl]
      have := nodeE_var h1
      subst this
      unfold getR
      cases getB bs (.mk 1 n s []) with
      | none => rfl
      | some u => rfl
    · rw [if_neg hk, if_neg hk]
  · intro _; rfl
  · intro t ts h1 h2 h
    rw [nodesL] at h
    by_cases h0 : nodesE t = 0
    · rw [if_pos h0] at h
      rw [putL, apL, h1 h0, h2 h]
    · rw [if_neg h0] at h; exact absurd h h0
/-- With no bindings nothing changes. -/
theorem putT_nil (t : Tm) : putT [] t = t := by
  refine Tm.rec (motive_1 := fun t => putT [] t = t) (motive_2 := fun ts => putL [] ts = ts) ?_ ?_ ?_ t
  · intro k n s ks ih
    rw [putT, ih]
    by_cases hk : k = 1
    · rw [if_pos hk]; rfl
    · rw [if_neg hk]
  · rfl
  · intro t ts h1 h2; rw [putL, h1, h2]

theorem getB_drop_hit {bs : List Bd} {x : Tm} {j : Nat} (h : j < bs.length) (hc : cmpT bs[j].1 x = 0) : getB (bs.drop j) x = some bs[j].2 := by
  rw [List.drop_eq_getElem_cons h, getB, if_pos hc]
theorem getB_drop_miss {bs : List Bd} {x : Tm} {j : Nat} (h : j < bs.length) (hc : ¬ cmpT bs[j].1 x = 0) : getB (bs.drop j) x = getB (bs.drop (j + 1)) x := by
  rw [List.drop_eq_getElem_cons h, getB, if_neg hc]

/-- A term that is given back, or made: it lies in the old memory, or in the call's own. -/
def PutPost (base : Nat) (w : World) (t : Tm) (e : Ending) (w' : World) : Prop :=
  ∃ c0 c1 c2 c3, e = .returned (.agg #[c0, c1, c2, c3]) ∧ IsIn (fun b => b < base ∨ (w.heap.size ≤ b ∧ b < w'.heap.size)) w' t c0 c1 c2 c3 ∧ Below w.heap.size w w'

set_option maxHeartbeats 3200000 in
set_option maxRecDepth 100000 in
theorem rget_any (bs : List Bd) (xa : Option Addr) (cap : Nat) (x : Tm) (c0 c1 c2 c3 : Value) (w0 w : World) (hE0 : Ext w0 w) (hcap : bs.length ≤ cap) (hlen : bs.length ≤ maxLen) (hsz : SzB 1073741824 bs) (hR : Row w0 (flatB bs) xa) (hx : size x ≤ 1073741824) (hI : Is w0 x c0 c1 c2 c3) :
    Calls Tryd.prog 94 #[.slice xa bs.length cap, .agg #[c0, c1, c2, c3]] w (PutPost w0.heap.size w (getR bs x)) := by
  obtain ⟨k, n, s, xk, l, kc, rfl, rfl, rfl, rfl⟩ := Is_form hI
  obtain ⟨hb0, hb1, hBw, hZ⟩ := boxes2 w (.int .i64 k) (.string n) (.int .i64 s) (.slice xk l kc) (.int .i64 0) (.string ⟨#[]⟩) (.int .i64 0) (.slice none 0 0) 25
  unfold maxLen at hlen
  have HE0 := Lib.hid hE0
  have HR := Lib.hid hR
  have HI := Lib.hid hI
  have HSZ := Lib.hid hsz
  have HXZ := Lib.hid hx
  have HCC := Lib.hid hcap
  have HBw := Lib.hid hBw
  have HX : Hid (∀ W, Ext ((w.alloc (.cells #[.int .i64 k, .string n, .int .i64 s, .slice xk l kc] 25)).alloc (.cells #[.int .i64 0, .string ⟨#[]⟩, .int .i64 0, .slice none 0 0] 25)) W → W.heap[w.heap.size]? = some (.cells #[.int .i64 k, .string n, .int .i64 s, .slice xk l kc] 25 (0, 0)) ∧ W.heap[w.heap.size + 1]? = some (.cells #[.int .i64 0, .string ⟨#[]⟩, .int .i64 0, .slice none 0 0] 25 (0, 0)) ∧ w.heap.size + 2 ≤ W.heap.size) := fun W h => ⟨(h.block _ (by simp; omega)).trans hb0, (h.block _ (by simp)).trans hb1, by have := h.size; omega⟩
  have HDONE : Hid (∀ (u : Tm) (W : World) (d0 d1 d2 d3 : Value), getR bs x = u → Is w0 u d0 d1 d2 d3 → Ext w W → PutPost w0.heap.size w (getR bs x) (.returned (.agg #[d0, d1, d2, d3])) (put4 W (w.heap.size + 1) 0 d0 d1 d2 d3)) := fun u W d0 d1 d2 d3 e h hX => by
    rw [e]
    exact ⟨_, _, _, _, rfl, IsIn_carry (fun _ hb => put4_other _ _ _ _ _ _ _ _ (by have := hE0.size; omega)) (fun _ hb => Or.inl hb) _ _ _ _ _ (IsIn_carry (fun b hb => (Ext.trans hE0 hX).block b hb) (fun b hb => hb) _ _ _ _ _ (Is_IsIn u _ _ _ _ h)), put4_below (w' := W) hX (by omega)⟩
  clear hb0 hb1 hBw hZ hE0 hR hI hsz hx hcap
  go_enter Tryd.func94, Tryd.ntmps94
  go_wp2_with fail
  generalize hgen : ((w.alloc (.cells #[.int .i64 k, .string n, .int .i64 s, .slice xk l kc] 25)).alloc (.cells #[.int .i64 0, .string ⟨#[]⟩, .int .i64 0, .slice none 0 0] 25)) = wb at HBw HX ⊢
  clear hgen
  go_loopw [5] (fun i wr => ∃ j : Nat, j ≤ bs.length ∧ i = .int .i64 j ∧ Hid (getB bs x = getB (bs.drop j) x) ∧ Ext wb wr) (fun i _ => bs.length - (intOf i).toNat)
  case atStart => exact ⟨0, Nat.zero_le _, rfl, Lib.hid rfl, Ext.refl wb⟩
  case round =>
    obtain ⟨j, hj, rfl, HG, hE⟩ := hrel
    have HE := Lib.hid hE
    obtain ⟨hc0, hc1, hws⟩ := HX.out _ hE
    obtain ⟨⟨x0, x1, x2, x3⟩, _⟩ := box_facts hc0
    by_cases hlt : j < bs.length
    rotate_left
    · have hjl : j = bs.length := by omega
      have HU : Hid (getR bs x = x) := by
        show _ = _
        unfold getR
        rw [HG.out, hjl, List.drop_length]; rfl
      obtain ⟨⟨m0, m1, m2, m3⟩, z0, z1, z2, z3⟩ := box_facts hc1
      clear hE hc0 hc1 hjl
      go_wp2_with fail
      exact bodyPost_ret (v := .agg #[.int .i64 k, .string n, .int .i64 s, .slice xk l kc]) (by simp [results, Tryd.results94, go_sem, m0, m1, m2, m3]) rfl (HDONE.out x _ _ _ _ _ HU.out HI.out (Ext.trans HBw.out HE.out))
    obtain ⟨b, o, rfl⟩ := Row_at HR.out (by rw [flatB_length]; omega)
    obtain ⟨⟨v0, v1, v2, v3, g0, g1, g2, g3, hI1⟩, t0, t1, t2, t3, g4, g5, g6, g7, hI2⟩ := bds_get HR.out j hlt
    obtain ⟨k1, n1, s1, ya1, yl1, yc1, rfl, rfl, rfl, rfl⟩ := Is_form hI1
    obtain ⟨k2, n2, s2, ya2, yl2, yc2, rfl, rfl, rfl, rfl⟩ := Is_form hI2
    rw [Nat.add_assoc] at g5 g6 g7
    have hE2 : Ext w0 wr := Ext.trans HE0.out (Ext.trans HBw.out hE)
    have hz1 := HSZ.out bs[j] (List.getElem_mem hlt)
    have hC1 := fun W (y : Ext wr W) => same_any bs[j].1 x _ _ _ _ _ _ _ _ W (by omega) (by have := HXZ.out; omega) (Is_below (w' := W) hI1 (Ext.trans hE2 y)) (Is_below (w' := W) HI.out (Ext.trans hE2 y))
    have HC1 := Lib.hid hC1
    have HI2 := Lib.hid hI2
    have HCr : Hid (∀ W, Ext wr W → (W.cell? ⟨b, o + j * 8, none⟩ = some (.int .i64 k1) ∧ W.cell? ⟨b, o + j * 8 + 1, none⟩ = some (.string n1) ∧ W.cell? ⟨b, o + j * 8 + 2, none⟩ = some (.int .i64 s1) ∧ W.cell? ⟨b, o + j * 8 + 3, none⟩ = some (.slice ya1 yl1 yc1)) ∧ (W.cell? ⟨w.heap.size, 0, none⟩ = some (.int .i64 k) ∧ W.cell? ⟨w.heap.size, 1, none⟩ = some (.string n) ∧ W.cell? ⟨w.heap.size, 2, none⟩ = some (.int .i64 s) ∧ W.cell? ⟨w.heap.size, 3, none⟩ = some (.slice xk l kc))) := fun W h => ⟨⟨keep_below (Ext.trans hE2 h) _ _ g0, keep_below (Ext.trans hE2 h) _ _ g1, keep_below (Ext.trans hE2 h) _ _ g2, keep_below (Ext.trans hE2 h) _ _ g3⟩, ⟨keep_below h _ _ x0, keep_below h _ _ x1, keep_below h _ _ x2, keep_below h _ _ x3⟩⟩
    have HCs : Hid (∀ W, Ext wr W → W.cell? ⟨b, o + j * 8 + 4, none⟩ = some (.int .i64 k2) ∧ W.cell? ⟨b, o + j * 8 + 5, none⟩ = some (.string n2) ∧ W.cell? ⟨b, o + j * 8 + 6, none⟩ = some (.int .i64 s2) ∧ W.cell? ⟨b, o + j * 8 + 7, none⟩ = some (.slice ya2 yl2 yc2)) := fun W h => ⟨keep_below (Ext.trans hE2 h) _ _ g4, keep_below (Ext.trans hE2 h) _ _ g5, keep_below (Ext.trans hE2 h) _ _ g6, keep_below (Ext.trans hE2 h) _ _ g7⟩
    clear g0 g1 g2 g3 g4 g5 g6 g7
    obtain ⟨⟨g0, g1, g2, g3⟩, _⟩ := HCr.out wr (Ext.refl wr)
    have i1 : (0 : Int) ≤ (j : Int) := by omega
    have i2 : (j : Int) < (bs.length : Int) := by omega
    have hF0 : Ext wr wr.drew := (Ext.refl wr).drew
    have HHIT : Hid (cmpT bs[j].1 x = 0 → getR bs x = bs[j].2) := fun h => by unfold getR; rw [HG.out, getB_drop_hit hlt h]; rfl
    have HMISS : Hid (¬ cmpT bs[j].1 x = 0 → getB bs x = getB (bs.drop (j + 1)) x) := fun h => by rw [HG.out, getB_drop_miss hlt h]
    obtain ⟨cb, hcb⟩ : ∃ cb, (cmpT bs[j].1 x == 0) = cb := ⟨_, rfl⟩
    rw [hcb] at HC1
    have HCB := Lib.hid hcb
    have hbs : b < w0.heap.size := World.block_lt_of_cell? w0 _ (bds_get HR.out j hlt).1.choose_spec.choose_spec.choose_spec.choose_spec.1
    have nb : ¬ b = w.heap.size + 1 := by have := HE0.out.size; omega
    clear hE hE2 hI1 hI2 hz1 hC1 hcb hc0 hc1
    go_wp2_with fail
    go_region_held3 (fun W => (W.cell? ⟨b, o + j * 8, none⟩ = some (.int .i64 k1) ∧ W.cell? ⟨b, o + j * 8 + 1, none⟩ = some (.string n1) ∧ W.cell? ⟨b, o + j * 8 + 2, none⟩ = some (.int .i64 s1) ∧ W.cell? ⟨b, o + j * 8 + 3, none⟩ = some (.slice ya1 yl1 yc1)) ∧ (W.cell? ⟨w.heap.size, 0, none⟩ = some (.int .i64 k) ∧ W.cell? ⟨w.heap.size, 1, none⟩ = some (.string n) ∧ W.cell? ⟨w.heap.size, 2, none⟩ = some (.int .i64 s) ∧ W.cell? ⟨w.heap.size, 3, none⟩ = some (.slice xk l kc)))
      (first | exact HCr.out _ (by assumption) | go_keep)
      (first
        | (go_at_call 13; refine (HC1.out _ hF0).mono ?_; rintro e w4 ⟨he, hB⟩; subst he; have hF1 : Ext wr w4 := hF0.trans hB; clear hB))
    have HF1 := Lib.hid hF1
    clear g0 g1 g2 g3 x0 x1 x2 x3
    cases cb with
    | true =>
      have HU := Lib.hid (HHIT.out (by simpa using HCB.out))
      obtain ⟨g4, g5, g6, g7⟩ := HCs.out _ HF1.out
      obtain ⟨_, hc1, _⟩ := HX.out _ (Ext.trans HE.out HF1.out)
      obtain ⟨⟨m0, m1, m2, m3⟩, z0, z1, z2, z3⟩ := box_facts hc1
      clear hF0 hF1 hc1
      go_wp2_with fail
      exact bodyPost_ret (v := .agg #[.int .i64 k2, .string n2, .int .i64 s2, .slice ya2 yl2 yc2]) (by simp [results, Tryd.results94, go_sem, m0, m1, m2, m3]) rfl (HDONE.out _ _ _ _ _ _ HU.out HI2.out (Ext.trans HBw.out (Ext.trans HE.out HF1.out)))
    | false =>
      have HU := Lib.hid (HMISS.out (by simpa using HCB.out))
      clear hF0 hF1
      go_wp2_with fail
      go_roundw
      case rel => exact ⟨j + 1, by omega, by go_num, HU, Ext.trans HE.out HF1.out⟩
      case measure => simp [intOf]; omega
end Go.Proofs.YtdgofofhkebkkaaDoor

/-
  THE REFERENCE's Put (layer 2), walked.
-/
namespace Go.Proofs.YtdgofofhkebkkaaDoor
open Go.RowKit

/-- Kids that are gathered: a row of the call's own; what they hold lies in the old memory, or in the call's own elsewhere. -/
def KidsIn (base H : Nat) (wr : World) (acc : List Tm) (kv : Value) : Prop :=
  ∃ F : Nat → Prop, OwnT H F wr acc kv ∧ ∀ b, F b → (b < base ∨ H ≤ b ∧ b < wr.heap.size) ∧ kv.ownBlock ≠ some b
theorem KidsIn_nil (base H : Nat) (w : World) : KidsIn base H w [] (.slice none 0 0) := ⟨fun _ => False, OwnT_nil _ _ _, fun _ h => h.elim⟩
theorem KidsIn_keep {base H : Nat} {w w' : World} {acc : List Tm} {kv : Value} (h : KidsIn base H w acc kv) (hs : w.heap.size ≤ w'.heap.size) (hk : ∀ b, (b < base ∨ H ≤ b) → b < w.heap.size → w'.heap[b]? = w.heap[b]?) (hb : base ≤ w.heap.size) : KidsIn base H w' acc kv := by
  obtain ⟨F, hO, hF⟩ := h
  refine ⟨F, OwnT_carry hO (fun b hb' => ?_) (fun g hg => hk g (Or.inr (OwnT_lt hO g hg).1) (OwnT_lt hO g hg).2), fun b hb' => ⟨?_, (hF b hb').2⟩⟩
  · rcases (hF b hb').1 with h | ⟨h1, h2⟩
    · exact hk b (Or.inl h) (by omega)
    · exact hk b (Or.inr h1) h2
  · rcases (hF b hb').1 with h | ⟨h1, h2⟩
    · exact Or.inl h
    · exact Or.inr ⟨h1, by omega⟩
theorem KidsIn_form {base H : Nat} {w : World} {acc : List Tm} {kv : Value} (h : KidsIn base H w acc kv) : ∃ xa cap, kv = .slice xa acc.length cap := by
  obtain ⟨F, hO, _⟩ := h; exact OwnT_form hO
/-- One more kid. -/
theorem KidsIn_push {base H n g lcap cap : Nat} {wr w6 w8 : World} {acc : List Tm} {xl : Option Addr} {cs : List Value} {F : Nat → Prop} {x : Tm} {c0 c1 c2 c3 : Value} {o : Obj} (hn : n = acc.length)
    (ho : wr.ownsRow H 25 4 (.slice xl n lcap) n cs) (hK : KC F wr acc cs) (hF : ∀ b, F b → (b < base ∨ H ≤ b ∧ b < wr.heap.size) ∧ (Value.slice xl n lcap).ownBlock ≠ some b) (hbH : base ≤ H) (hH : H ≤ wr.heap.size)
    (hB : Below wr.heap.size wr w6) (hI : IsIn (fun b => b < base ∨ (wr.heap.size ≤ b ∧ b < w6.heap.size)) w6 x c0 c1 c2 c3) (hown : w8.ownsRow H 25 4 (.slice (some ⟨g, 0, none⟩) (n + 1) cap) (n + 1) (cs ++ [c0, c1, c2, c3])) (hg : (w6.alloc o).grownBy w8 (Value.slice xl n lcap).ownBlock)
    (hat : (Value.slice xl n lcap).ownBlock = some g ∨ g = w6.heap.size + 1) :
    KidsIn base H w8 (acc ++ [x]) (.slice (some ⟨g, 0, none⟩) (n + 1) cap) ∧ (∀ b, b < H → w8.heap[b]? = w6.heap[b]?) ∧ w6.heap.size ≤ w8.heap.size ∧ Below H w6 w8 := by
  subst hn
  have hsz := hB.size
  have hgs := hg.size
  rw [World.size_alloc] at hgs
  have hlt := fun q hq => ho.lt q hq
  have hk : ∀ b, b < w6.heap.size → (Value.slice xl acc.length lcap).ownBlock ≠ some b → w8.heap[b]? = w6.heap[b]? := fun b hb hne => by
    rw [hg.block b (by rw [World.size_alloc]; omega) (fun e => hne e.symm), Below.heap_alloc _ _ _ hb]
  have hnew : ∀ b, b < w6.heap.size → (Value.slice xl acc.length lcap).ownBlock ≠ some b → (Value.slice (some ⟨g, 0, none⟩) (acc.length + 1) cap).ownBlock ≠ some b := fun b h1 h2 e => by
    have e2 : g = b := by simpa [Value.ownBlock] using e
    rcases hat with h | h
    · exact h2 (by rw [h, e2])
    · omega
  have hFl : ∀ b, F b → b < wr.heap.size := fun b hb => by rcases (hF b hb).1 with h | h <;> omega
  refine ⟨⟨fun b => F b ∨ (wr.heap.size ≤ b ∧ b < w6.heap.size) ∨ (b < base), ⟨cs ++ [c0, c1, c2, c3], by simpa using hown, ?_⟩, ?_⟩, fun b hb => hk b (by omega) (fun e => by have := hlt b e; omega), by omega, ((Below.refl H w6).alloc (by omega) _).grown hg (by rw [World.size_alloc]; omega) (fun q hq => (hlt q hq).1)⟩
  · refine KC_append _ _ _ _ (KC_carry (fun b hb => ?_) (fun b hb => Or.inl hb) _ _ hK) (KC_one_term (IsIn_carry (fun b hb => ?_) (fun b hb => ?_) _ _ _ _ _ hI))
    · rw [hk b (by have := hFl b hb; omega) (hF b hb).2]; exact hB.block b (hFl b hb)
    · exact hk b (by rcases hb with h | h <;> omega) (fun e => by have := hlt b e; rcases hb with h | h <;> omega)
    · rcases hb with h | h
      · exact Or.inr (Or.inr h)
      · exact Or.inr (Or.inl h)
  · rintro b (hb | hb | hb)
    · refine ⟨?_, hnew b (by have := hFl b hb; omega) (hF b hb).2⟩
      rcases (hF b hb).1 with h | h
      · exact Or.inl h
      · exact Or.inr ⟨h.1, by omega⟩
    · exact ⟨Or.inr ⟨by omega, by omega⟩, hnew b hb.2 (fun e => by have := (hlt b e).2; omega)⟩
    · exact ⟨Or.inl hb, hnew b (by omega) (fun e => by have := (hlt b e).1; omega)⟩
/-- A node over kids that were gathered. -/
theorem KidsIn_node {base H : Nat} {w : World} {acc : List Tm} {k s : Int} {n : ByteArray} {kv : Value} (h : KidsIn base H w acc kv) (hk : -9223372036854775808 ≤ k ∧ k ≤ 9223372036854775807) (hs : -9223372036854775808 ≤ s ∧ s ≤ 9223372036854775807) (hn : n.size ≤ maxLen) : IsIn (fun b => b < base ∨ H ≤ b ∧ b < w.heap.size) w (.mk k n s acc) (.int .i64 k) (.string n) (.int .i64 s) kv := by
  obtain ⟨F, ⟨cs, ho, hK⟩, hF⟩ := h
  have h := IsIn_app (S' := fun b => b < base ∨ H ≤ b ∧ b < w.heap.size) (nm := n) hn ho hK (fun b hb => (hF b hb).1) (fun g hg => Or.inr (ho.lt g hg))
  simp only [IsIn] at h ⊢
  obtain ⟨_, _, _, _, _, h5, h6, h7⟩ := h
  exact ⟨trivial, trivial, trivial, hk, hs, h5, h6, h7⟩

structure PutR (base : Nat) (w : World) (k s : Int) (n : ByteArray) (kids : Value) (acc : List Tm) (kv : Value) (wr : World) : Prop where
  arg : wr.heap[w.heap.size]? = some (.cells #[.int .i64 k, .string n, .int .i64 s, kids] 25 (0, 0))
  res : wr.heap[w.heap.size + 1]? = some (.cells #[.int .i64 0, .string ⟨#[]⟩, .int .i64 0, .slice none 0 0] 25 (0, 0))
  out : wr.heap[w.heap.size + 2]? = some (.cells #[.int .i64 k, .string n, .int .i64 s, kv] 25 (0, 0))
  acc : KidsIn base (w.heap.size + 3) wr acc kv
  below : Below w.heap.size w wr
  size : w.heap.size + 3 ≤ wr.heap.size
theorem PutR.store {base : Nat} {w w8 : World} {k s : Int} {n : ByteArray} {kids kv kv' : Value} {acc : List Tm} (hb : base ≤ w.heap.size)
    (h0 : w8.heap[w.heap.size]? = some (.cells #[.int .i64 k, .string n, .int .i64 s, kids] 25 (0, 0)))
    (h1 : w8.heap[w.heap.size + 1]? = some (.cells #[.int .i64 0, .string ⟨#[]⟩, .int .i64 0, .slice none 0 0] 25 (0, 0)))
    (h2 : w8.heap[w.heap.size + 2]? = some (.cells #[.int .i64 k, .string n, .int .i64 s, kv] 25 (0, 0)))
    (hK : KidsIn base (w.heap.size + 3) w8 acc kv') (hB : Below w.heap.size w w8) (hz : w.heap.size + 3 ≤ w8.heap.size) :
    PutR base w k s n kids acc kv' (w8.setCell ⟨w.heap.size + 2, 3, none⟩ kv') := by
  refine ⟨?_, ?_, ?_, KidsIn_keep hK (by simp [World.setCell]) (fun b hb' _ => Below.heap_setCell _ _ _ _ (by show b ≠ w.heap.size + 2; rcases hb' with h | h <;> omega)) (by omega), hB.setCell (by show w.heap.size ≤ w.heap.size + 2; omega) _, by simpa [World.setCell] using hz⟩
  · rw [Below.heap_setCell _ _ _ _ (by show w.heap.size ≠ w.heap.size + 2; omega)]; exact h0
  · rw [Below.heap_setCell _ _ _ _ (by show w.heap.size + 1 ≠ w.heap.size + 2; omega)]; exact h1
  · simp [World.setCell, Array.getElem?_modify, h2]
theorem boxes3 (w : World) (a0 a1 a2 a3 b0 b1 b2 b3 c0 c1 c2 c3 : Value) (T : TypeId) : (((w.alloc (.cells #[a0, a1, a2, a3] T)).alloc (.cells #[b0, b1, b2, b3] T)).alloc (.cells #[c0, c1, c2, c3] T)).heap[w.heap.size]? = some (.cells #[a0, a1, a2, a3] T (0, 0)) ∧ (((w.alloc (.cells #[a0, a1, a2, a3] T)).alloc (.cells #[b0, b1, b2, b3] T)).alloc (.cells #[c0, c1, c2, c3] T)).heap[w.heap.size + 1]? = some (.cells #[b0, b1, b2, b3] T (0, 0)) ∧ (((w.alloc (.cells #[a0, a1, a2, a3] T)).alloc (.cells #[b0, b1, b2, b3] T)).alloc (.cells #[c0, c1, c2, c3] T)).heap[w.heap.size + 2]? = some (.cells #[c0, c1, c2, c3] T (0, 0)) ∧ Below w.heap.size w (((w.alloc (.cells #[a0, a1, a2, a3] T)).alloc (.cells #[b0, b1, b2, b3] T)).alloc (.cells #[c0, c1, c2, c3] T)) ∧ w.heap.size + 3 = (((w.alloc (.cells #[a0, a1, a2, a3] T)).alloc (.cells #[b0, b1, b2, b3] T)).alloc (.cells #[c0, c1, c2, c3] T)).heap.size := by
  obtain ⟨h0, h1, hB, hz⟩ := boxes2 w a0 a1 a2 a3 b0 b1 b2 b3 T
  refine ⟨?_, ?_, ?_, hB.alloc (by omega) _, by rw [World.size_alloc]; omega⟩
  · rw [Below.heap_alloc _ _ _ (by omega)]; exact h0
  · rw [Below.heap_alloc _ _ _ (by omega)]; exact h1
  · have := heap_alloc_new ((w.alloc (.cells #[a0, a1, a2, a3] T)).alloc (.cells #[b0, b1, b2, b3] T)) (.cells #[c0, c1, c2, c3] T)
    rw [← hz] at this; exact this

set_option maxHeartbeats 3200000 in
set_option maxRecDepth 100000 in
theorem rput_node (bs : List Bd) (xs : Option Addr) (cap : Nat) (k s : Int) (n : ByteArray) (ks : List Tm) (xk : Option Addr) (kc : Nat) (w0 w : World) (hk1 : ¬ k = 1) (hE0 : Ext w0 w) (hkl : ks.length ≤ 1073741824) (hI : Is w0 (.mk k n s ks) (.int .i64 k) (.string n) (.int .i64 s) (.slice xk ks.length kc))
    (ih : ∀ (j : Nat) (h : j < ks.length) (c0 c1 c2 c3 : Value) (w : World), Ext w0 w → Is w0 ks[j] c0 c1 c2 c3 → Calls Tryd.prog 59 #[.slice xs bs.length cap, .agg #[c0, c1, c2, c3]] w (PutPost w0.heap.size w (putT bs ks[j]))) :
    Calls Tryd.prog 59 #[.slice xs bs.length cap, .agg #[.int .i64 k, .string n, .int .i64 s, .slice xk ks.length kc]] w (PutPost w0.heap.size w (.mk k n s (putL bs ks))) := by
  have q1 : (k == 1) = false := by simp [hk1]
  simp only [Is] at hI
  obtain ⟨_, _, _, hk, hs, hn, hl, xa', cap', e3, hcap, hR⟩ := hI
  simp only [Value.slice.injEq, true_and] at e3
  obtain ⟨e3, e4⟩ := e3
  subst e3 e4
  have HR := Lib.hid hR
  have HE0 := Lib.hid hE0
  have HIH := Lib.hid ih
  have HN := Lib.hid (And.intro hk (And.intro hs hn))
  obtain ⟨i0, hi0, hz0, hz1, hz2⟩ := info_parts info24
  have HI0 := Lib.hid (And.intro hi0 (And.intro hz0 (And.intro hz1 hz2)))
  clear hk1 hR hE0 ih hk hs hn hi0 hz0 hz1 hz2
  obtain ⟨hb0, hb1, hb2, hBw, hZ⟩ := boxes3 w (.int .i64 k) (.string n) (.int .i64 s) (.slice xk ks.length kc) (.int .i64 0) (.string ⟨#[]⟩) (.int .i64 0) (.slice none 0 0) (.int .i64 k) (.string n) (.int .i64 s) (.slice none 0 0) 25
  have HST : Hid (PutR w0.heap.size w k s n (.slice xk ks.length kc) (putL bs (ks.take 0)) (.slice none 0 0) (((w.alloc (.cells #[.int .i64 k, .string n, .int .i64 s, .slice xk ks.length kc] 25)).alloc (.cells #[.int .i64 0, .string ⟨#[]⟩, .int .i64 0, .slice none 0 0] 25)).alloc (.cells #[.int .i64 k, .string n, .int .i64 s, .slice none 0 0] 25))) := ⟨hb0, hb1, hb2, KidsIn_nil _ _ _, hBw, by omega⟩
  have hbase := HE0.out.size
  clear hb0 hb1 hb2 hBw hZ
  go_enter Tryd.func59, Tryd.ntmps59
  go_wp2_with fail
  go_loopw [6] (fun i wr => ∃ (j : Nat) (kv : Value), j ≤ ks.length ∧ i = .int .i64 j ∧ PutR w0.heap.size w k s n (.slice xk ks.length kc) (putL bs (ks.take j)) kv wr) (fun i _ => ks.length - (intOf i).toNat)
  case atStart => exact ⟨0, _, Nat.zero_le _, rfl, HST.out⟩
  case round =>
    obtain ⟨j, kv, hj, rfl, hP⟩ := hrel
    have hll : (putL bs (ks.take j)).length = j := by rw [putL_length, List.length_take]; omega
    obtain ⟨xl, lcap, hkv⟩ := KidsIn_form hP.acc
    rw [hll] at hkv
    subst hkv
    have HP := Lib.hid hP
    have HLL := Lib.hid hll
    obtain ⟨⟨x0, x1, x2, x3⟩, _⟩ := box_facts hP.arg
    obtain ⟨⟨y0, y1, y2, y3⟩, y4, y5, y6, y7⟩ := box_facts hP.res
    obtain ⟨⟨z0, z1, z2, z3⟩, z4, z5, z6, z7⟩ := box_facts hP.out
    clear hP hll
    by_cases hlt : j < ks.length
    rotate_left
    · have hjl : j = ks.length := by omega
      have HF : Hid (PutPost w0.heap.size w (.mk k n s (putL bs ks)) (.returned (.agg #[.int .i64 k, .string n, .int .i64 s, .slice xl j lcap])) (put4 wr (w.heap.size + 1) 0 (.int .i64 k) (.string n) (.int .i64 s) (.slice xl j lcap))) := by
        show PutPost _ _ _ _ _
        have h := KidsIn_node HP.out.acc HN.out.1 HN.out.2.1 HN.out.2.2
        rw [hjl, List.take_length] at h
        rw [hjl]
        exact ⟨_, _, _, _, rfl, IsIn_carry (fun b hb => put4_other _ _ _ _ _ _ _ _ (by rcases hb with h | h <;> omega)) (fun b hb => by rw [put4_size]; rcases hb with h | h <;> omega) _ _ _ _ _ h, put4_below HP.out.below (by omega)⟩
      clear hjl
      go_wp2_with fail
      exact bodyPost_ret (v := .agg #[.int .i64 k, .string n, .int .i64 s, .slice xl j lcap]) (by simp [results, Tryd.results59, go_sem, y0, y1, y2, y3]) rfl HF.out
    obtain ⟨b, o, rfl⟩ := Row_at HR.out (by omega)
    obtain ⟨v0, v1, v2, v3, g0, g1, g2, g3, hIk⟩ := Row_get HR.out j hlt
    obtain ⟨k1, n1, s1, ya1, yl1, yc1, rfl, rfl, rfl, rfl⟩ := Is_form hIk
    have hbs : b < w0.heap.size := World.block_lt_of_cell? w0 _ g0
    have HIk := Lib.hid hIk
    have HCK : Hid (∀ W : World, (∀ q, q < w.heap.size + 3 → W.heap[q]? = wr.heap[q]?) → (W.cell? ⟨w.heap.size + 2, 3, none⟩ = some (.slice xl j lcap) ∧ W.cell? ⟨w.heap.size, 3, none⟩ = some (.slice (some ⟨b, o, none⟩) ks.length kc)) ∧ W.cell? ⟨b, o + j * 4, none⟩ = some (.int .i64 k1) ∧ W.cell? ⟨b, o + j * 4 + 1, none⟩ = some (.string n1) ∧ W.cell? ⟨b, o + j * 4 + 2, none⟩ = some (.int .i64 s1) ∧ W.cell? ⟨b, o + j * 4 + 3, none⟩ = some (.slice ya1 yl1 yc1)) := fun W h => by
      have c := fun (q i : Nat) (hq : q < w.heap.size + 3) => (show W.cell? ⟨q, i, none⟩ = wr.cell? ⟨q, i, none⟩ by unfold World.cell?; simp only; rw [h q hq])
      have hk := fun i v (hv : w0.cell? ⟨b, i, none⟩ = some v) => (c b i (by omega)).trans (keep_below (Ext.trans HE0.out HP.out.below) _ _ hv)
      exact ⟨⟨(c _ _ (by omega)).trans z3, (c _ _ (by omega)).trans x3⟩, hk _ _ g0, hk _ _ g1, hk _ _ g2, hk _ _ g3⟩
    have hws := HP.out.size
    have HCx : Hid (∀ W, Ext wr W → (W.cell? ⟨w.heap.size + 2, 3, none⟩ = some (.slice xl j lcap) ∧ W.cell? ⟨w.heap.size, 3, none⟩ = some (.slice (some ⟨b, o, none⟩) ks.length kc)) ∧ W.cell? ⟨b, o + j * 4, none⟩ = some (.int .i64 k1) ∧ W.cell? ⟨b, o + j * 4 + 1, none⟩ = some (.string n1) ∧ W.cell? ⟨b, o + j * 4 + 2, none⟩ = some (.int .i64 s1) ∧ W.cell? ⟨b, o + j * 4 + 3, none⟩ = some (.slice ya1 yl1 yc1)) := fun W h => HCK.out W (fun q hq => h.block q (by omega))
    have i1 : (0 : Int) ≤ (j : Int) := by omega
    have i2 : (j : Int) < (ks.length : Int) := by omega
    obtain ⟨F, ⟨cs, hown, hK⟩, hF⟩ := HP.out.acc
    rw [HLL.out] at hown
    have HO := Lib.hid (fun W (x : Ext wr W) => own_heap hown (fun q hq => x.block q (hown.lt q hq).2))
    have HPU : Hid (∀ w6, Ext wr w6 → ∀ c0 c1 c2 c3, IsIn (fun b => b < w0.heap.size ∨ (wr.heap.size ≤ b ∧ b < w6.heap.size)) w6 (putT bs ks[j]) c0 c1 c2 c3 → ∀ g cap w8 ob, w8.ownsRow (w.heap.size + 3) 25 4 (.slice (some ⟨g, 0, none⟩) (j + 1) cap) (j + 1) (cs ++ [c0, c1, c2, c3]) → (w6.alloc ob).grownBy w8 (Value.slice xl j lcap).ownBlock → ((Value.slice xl j lcap).ownBlock = some g ∨ g = w6.heap.size + 1) →
        PutR w0.heap.size w k s n (.slice (some ⟨b, o, none⟩) ks.length kc) (putL bs (ks.take (j + 1))) (.slice (some ⟨g, 0, none⟩) (j + 1) cap) (w8.setCell ⟨w.heap.size + 2, 3, none⟩ (.slice (some ⟨g, 0, none⟩) (j + 1) cap)) ∧ (∀ q, q < w.heap.size + 3 → w8.heap[q]? = wr.heap[q]?) ∧ w8.frozen? ⟨w.heap.size + 2, 3, none⟩ = false) := by
      show ∀ _, _
      intro w6 hE6 c0 c1 c2 c3 hI g cap w8 ob hown8 hgrow hat
      have r := KidsIn_push HLL.out.symm hown hK hF (by omega) hws hE6 hI hown8 hgrow hat
      have h6 := hE6.size
      have hq : ∀ q, q < w.heap.size + 3 → w8.heap[q]? = wr.heap[q]? := fun q hq => (r.2.1 q hq).trans (hE6.block q (by omega))
      have e0 := (hq (w.heap.size) (by omega)).trans HP.out.arg
      have e1 := (hq (w.heap.size + 1) (by omega)).trans HP.out.res
      have e2 := (hq (w.heap.size + 2) (by omega)).trans HP.out.out
      refine ⟨PutR.store hbase e0 e1 e2 ?_ ((HP.out.below.trans (hE6.mono (by omega))).trans (r.2.2.2.mono (by omega))) (by have := r.2.2.1; omega), hq, (box_facts e2).2.2.2.2⟩
      rw [putL_take bs ks j hlt]
      exact r.1
    have hF0 : Ext wr wr.drew := (Ext.refl wr).drew
    have HE0r := Lib.hid (Ext.trans HE0.out HP.out.below)
    obtain ⟨⟨z3, x3⟩, g0, g1, g2, g3⟩ := HCx.out wr (Ext.refl wr)
    clear hown hK hF hIk x0 x1 x2 y0 y1 y2 y3 y4 y5 y6 y7 z0 z1 z2 z4 z5 z6 z7
    go_wp2_with fail
    go_region_law
      (first
        | (go_simp; refine (HIH.out j hlt _ _ _ _ _ (Ext.trans HE0r.out hF0) HIk.out).mono ?_; rintro e w6 ⟨c0, c1, c2, c3, he, hI6, hB6⟩; subst he; obtain ⟨k6, n6, s6, xa6, l6, cap6, e0, e1, e2, e3⟩ := IsIn_form hI6; subst e0 e1 e2 e3; have hF6 : Ext wr w6 := hF0.trans hB6; have HI6 := Lib.hid hI6; have HO6 := Lib.hid (HO.out _ hF6); have hw6 : w.heap.size + 3 ≤ w6.heap.size := Nat.le_trans hws hF6.size; have z6 := (HCx.out w6 hF6).1.1; have z7 : (w6.alloc (.cells #[.int .i64 k6, .string n6, .int .i64 s6, .slice xa6 l6 cap6] 25)).cell? ⟨w.heap.size + 1 + 1, 3, none⟩ = some (.slice xl j lcap) := keep_alloc w6 _ _ _ z6; clear hI6 hB6; dsimp only)
        | (refine step_append_lies _ (by rfl) _ _ _ (by rfl) (w.heap.size + 3) 25 i0 _ 4 56 Tryd.underlying23 HI0.out.1 HI0.out.2.1 HI0.out.2.2.1 HI0.out.2.2.2 rfl (by omega) (.slice xl j lcap) j cs (by rfl) (HO6.out.alloc _) ⟨w6.heap.size, 0, none⟩ 1 1 [.int .i64 k6, .string n6, .int .i64 s6, .slice xa6 l6 cap6] (by rfl) (by rfl) (World.news_of_block (cs := #[.int .i64 k6, .string n6, .int .i64 s6, .slice xa6 l6 cap6]) (t := 25) (fr := (0, 0)) (heap_alloc_new w6 _)) (by simp [Value.oneCell']) (by omega) (by unfold maxLen; omega) (by omega) (by simp; omega) (w6.heap.size + 1) (by simp) ?_; intro gg cap8 w8 hown8 hgrow hat hltt; have hpu := HPU.out w6 hF6 _ _ _ _ HI6.out _ _ _ _ hown8 hgrow hat; have q8 := (HCK.out w8 hpu.2.1).1.1; have f8 := hpu.2.2; have HP8 := Lib.hid hpu.1; clear hown8 hgrow hat hltt hpu))
    all_goals (go_wp2_with fail)
    all_goals (go_roundw)
    all_goals (first | exact ⟨j + 1, _, by omega, by go_num, HP8.out⟩ | (simp [intOf]; omega))

set_option maxHeartbeats 3200000 in
set_option maxRecDepth 100000 in
theorem rput_var (bs : List Bd) (xs : Option Addr) (cap : Nat) (s : Int) (n : ByteArray) (ks : List Tm) (xk : Option Addr) (kc l : Nat) (w0 w : World) (hE0 : Ext w0 w) (hcap : bs.length ≤ cap) (hlen : bs.length ≤ maxLen) (hsz : SzB 1073741824 bs) (hR : Row w0 (flatB bs) xs) (hx : size (.mk 1 n s ks) ≤ 1073741824) (hI : Is w0 (.mk 1 n s ks) (.int .i64 1) (.string n) (.int .i64 s) (.slice xk l kc)) :
    Calls Tryd.prog 59 #[.slice xs bs.length cap, .agg #[.int .i64 1, .string n, .int .i64 s, .slice xk l kc]] w (PutPost w0.heap.size w (getR bs (.mk 1 n s ks))) := by
  obtain ⟨hb0, hb1, hBw, hZ⟩ := boxes2 w (.int .i64 1) (.string n) (.int .i64 s) (.slice xk l kc) (.int .i64 0) (.string ⟨#[]⟩) (.int .i64 0) (.slice none 0 0) 25
  have HG := Lib.hid (rget_any bs xs cap (.mk 1 n s ks) _ _ _ _ w0 _ (Ext.trans hE0 hBw) hcap hlen hsz hR hx hI)
  have hbase := hE0.size
  have HX := Lib.hid (And.intro hb1 (And.intro hBw hZ))
  obtain ⟨⟨x0, x1, x2, x3⟩, _⟩ := box_facts hb0
  clear hb0 hb1 hBw hZ hE0 hcap hlen hsz hR hx hI
  generalize getR bs (.mk 1 n s ks) = u at HG ⊢
  go_enter Tryd.func59, Tryd.ntmps59
  go_wp2_with (go_at_call 94; refine (HG.out).mono ?_; rintro e w3 ⟨c0, c1, c2, c3, he, hI, hB⟩; subst he; obtain ⟨k6, n6, s6, xa6, l6, cap6, e0, e1, e2, e3⟩ := IsIn_form hI; subst e0 e1 e2 e3; have HI := Lib.hid hI; have HB := Lib.hid hB; have hx1 := (hB.block (w.heap.size + 1) (by have := HX.out.2.2; omega)).trans HX.out.1; obtain ⟨⟨y0, y1, y2, y3⟩, y4, y5, y6, y7⟩ := box_facts hx1; clear hI hB hx1)
  have HF : Hid (PutPost w0.heap.size w u (.returned (.agg #[.int .i64 k6, .string n6, .int .i64 s6, .slice xa6 l6 cap6])) (put4 w3 (w.heap.size + 1) 0 (.int .i64 k6) (.string n6) (.int .i64 s6) (.slice xa6 l6 cap6))) := by
    show PutPost _ _ _ _ _
    have hz := HX.out.2.2
    refine ⟨_, _, _, _, rfl, IsIn_carry (fun b hb => put4_other _ _ _ _ _ _ _ _ (by rcases hb with h | h <;> omega)) (fun b hb => by rw [put4_size]; rcases hb with h | h <;> omega) _ _ _ _ _ HI.out, put4_below (w' := w3) (HX.out.2.1.trans (HB.out.mono (by omega))) (by omega)⟩
  exact bodyPost_ret (v := .agg #[.int .i64 k6, .string n6, .int .i64 s6, .slice xa6 l6 cap6]) (by simp [results, Tryd.results59, go_sem, y0, y1, y2, y3]) rfl HF.out

theorem rput_any (bs : List Bd) (xs : Option Addr) (cap : Nat) (w0 : World) (hcap : bs.length ≤ cap) (hlen : bs.length ≤ maxLen) (hsz : SzB 1073741824 bs) (hR : Row w0 (flatB bs) xs) (m : Nat) : ∀ (t : Tm) (c0 c1 c2 c3 : Value) (w : World), size t ≤ m → m ≤ 1073741824 → Ext w0 w → Is w0 t c0 c1 c2 c3 →
    Calls Tryd.prog 59 #[.slice xs bs.length cap, .agg #[c0, c1, c2, c3]] w (PutPost w0.heap.size w (putT bs t)) := by
  induction m with
  | zero => intro t _ _ _ _ _ h; have := size_pos t; omega
  | succ m ih =>
    intro t c0 c1 c2 c3 w hm hM hE hI
    obtain ⟨k, n, s, ks⟩ := t
    have hI2 := hI
    simp only [Is] at hI2
    obtain ⟨rfl, rfl, rfl, _, _, _, _, xk, kc, rfl, _, _⟩ := hI2
    rw [putT]
    by_cases hk : k = 1
    · subst hk
      rw [if_pos rfl]
      exact rput_var bs xs cap s n ks xk kc ks.length w0 w hE hcap hlen hsz hR (by omega) hI
    · rw [if_neg hk]
      have hs : size (.mk k n s ks) = 1 + sizes ks := rfl
      have hl := length_le_sizes ks
      refine rput_node bs xs cap k s n ks xk kc w0 w hk hE (by omega) hI (fun j hj d0 d1 d2 d3 w' hE' hI' => ih ks[j] d0 d1 d2 d3 w' ?_ (by omega) hE' hI')
      have := size_le_sizes (List.getElem_mem hj)
      omega
end Go.Proofs.YtdgofofhkebkkaaDoor

/-
  THE REFERENCE's Apply (layer 2), walked.
-/
namespace Go.Proofs.YtdgofofhkebkkaaDoor
open Go.RowKit

/-- A term and an error, given back. -/
def RaPost (w : World) (r : Tm × Int) (e : Ending) (w' : World) : Prop :=
  ∃ c0 c1 c2 c3, e = .returned (.tuple #[.agg #[c0, c1, c2, c3], .int .i64 r.2]) ∧ Is w' r.1 c0 c1 c2 c3 ∧ Below w.heap.size w w'
theorem RaPost_zero {w W : World} {R : Tm × Int} {x : Int} (h : R = (zeroT, x)) (hB : Below w.heap.size w W) : RaPost w R (.returned (.tuple #[.agg #[.int .i64 0, .string ⟨#[]⟩, .int .i64 0, .slice none 0 0], .int .i64 x])) W := by
  rw [h]; exact ⟨_, _, _, _, rfl, IsIn_Is _ _ _ _ _ (zero_IsIn (fun _ => True) _), hB⟩

set_option maxHeartbeats 6400000 in
set_option maxRecDepth 100000 in
theorem rapply_any (bs : List Bd) (xs : Option Addr) (cs N : Nat) (t : Tm) (c0 c1 c2 c3 : Value) (w : World) (hcap : bs.length ≤ cs) (hlen : bs.length ≤ 1073741824) (hsb : SzB 1073741824 bs) (hrow : Row w (flatB bs) xs) (hN : ∀ b ∈ bs, size b.2 ≤ N) (h1 : 1 ≤ N) (hsz : size t * N ≤ 1073741824) (hI : Is w t c0 c1 c2 c3) :
    Calls Tryd.prog 28 #[.slice xs bs.length cs, .agg #[c0, c1, c2, c3]] w (RaPost w (applyV bs t)) := by
  have hst : size t ≤ 1073741824 := Nat.le_trans (Nat.le_mul_of_pos_right _ h1) hsz
  have hsu := Nat.le_trans (apT_size bs N hN h1 t) hsz
  obtain ⟨k, n, s, xa, l, cap, rfl, rfl, rfl, rfl⟩ := Is_form hI
  obtain ⟨hb0, hb1, hBw, hZ⟩ := boxes2 w (.int .i64 k) (.string n) (.int .i64 s) (.slice xa l cap) (.int .i64 0) (.string ⟨#[]⟩) (.int .i64 0) (.slice none 0 0) 25
  have HV := Lib.hid (fun W (x : Ext w W) => rbvalid_any bs xs cs W hcap (by unfold maxLen; omega) hsb (Row_below (w' := W) hrow x))
  have HVt := Lib.hid (fun W (x : Ext w W) => rValid_any t _ _ _ _ W hst (Is_below (w' := W) hI x))
  have HVu := Lib.hid (fun W a b c d (x : Is W (apT bs t) a b c d) => rValid_any (apT bs t) a b c d W hsu x)
  have HRP := Lib.hid (fun (hv : nodesE t = 0) W (x : Ext w W) => (by have h := rput_any bs xs cs w hcap (by unfold maxLen; omega) hsb hrow (size t) t _ _ _ _ W (Nat.le_refl _) hst x hI; rw [putT_apT bs t hv] at h; exact h : Calls Tryd.prog 59 #[.slice xs bs.length cs, .agg #[.int .i64 k, .string n, .int .i64 s, .slice xa l cap]] W (PutPost w.heap.size W (apT bs t))))
  have HP : Hid (applyV bs t = if validB bs = 0 then (if validE t = 0 then (if validE (apT bs t) = 0 then (apT bs t, 0) else (zeroT, validE (apT bs t))) else (zeroT, validE t)) else (zeroT, validB bs)) := rfl
  have HVN : Hid (validE t = 0 → nodesE t = 0) := validE_nodes
  have HBw := Lib.hid hBw
  have HX : Hid (∀ W, Ext ((w.alloc (.cells #[.int .i64 k, .string n, .int .i64 s, .slice xa l cap] 25)).alloc (.cells #[.int .i64 0, .string ⟨#[]⟩, .int .i64 0, .slice none 0 0] 25)) W → W.heap[w.heap.size]? = some (.cells #[.int .i64 k, .string n, .int .i64 s, .slice xa l cap] 25 (0, 0)) ∧ W.heap[w.heap.size + 1]? = some (.cells #[.int .i64 0, .string ⟨#[]⟩, .int .i64 0, .slice none 0 0] 25 (0, 0)) ∧ w.heap.size + 2 ≤ W.heap.size) := fun W h => ⟨(h.block _ (by simp; omega)).trans hb0, (h.block _ (by simp)).trans hb1, by have := h.size; omega⟩
  have HXB : Hid (∀ W, Ext ((w.alloc (.cells #[.int .i64 k, .string n, .int .i64 s, .slice xa l cap] 25)).alloc (.cells #[.int .i64 0, .string ⟨#[]⟩, .int .i64 0, .slice none 0 0] 25)) W → Below w.heap.size w W) := fun W h => Ext.trans hBw h
  generalize applyV bs t = R at HP ⊢
  generalize validE t = ev at HVt HP HVN
  generalize validB bs = eb at HV HP
  clear hI hb0 hb1 hBw hZ hst hsu hsz hN h1 hrow hsb hcap hlen
  by_cases hb : eb = 0
  rotate_left
  · have HR : Hid (R = (zeroT, eb)) := by show _ = _; rw [HP.out, if_neg hb]
    have q1 : (eb != 0) = true := by rw [bne_iff_ne]; exact hb
    clear hb
    go_enter Tryd.func28, Tryd.ntmps28
    go_wp2_with (go_at_call 18; refine (HV.out _ HBw.out).mono ?_; rintro e w3 ⟨he, hB⟩; subst he; have HB3 := Lib.hid hB; obtain ⟨_, hc, _⟩ := HX.out _ hB; obtain ⟨⟨m0, m1, m2, m3⟩, z0, z1, z2, z3⟩ := box_facts hc; clear hB hc)
    exact bodyPost_ret (v := .tuple #[.agg #[.int .i64 0, .string ⟨#[]⟩, .int .i64 0, .slice none 0 0], .int .i64 eb]) (by simp [results, Tryd.results28, go_sem, m0, m1, m2, m3]) rfl (RaPost_zero HR.out (put4_below (g := w.heap.size + 1) (o := 0) (HXB.out _ HB3.out) (by omega)))
  have HP2 : Hid (R = if ev = 0 then (if validE (apT bs t) = 0 then (apT bs t, 0) else (zeroT, validE (apT bs t))) else (zeroT, ev)) := by show _ = _; rw [HP.out, if_pos hb]
  subst hb
  have q0 : ((0 : Int) != 0) = false := rfl
  clear HP
  by_cases he : ev = 0
  rotate_left
  · have HR : Hid (R = (zeroT, ev)) := by show _ = _; rw [HP2.out, if_neg he]
    have q1 : (ev != 0) = true := by rw [bne_iff_ne]; exact he
    clear he
    go_enter Tryd.func28, Tryd.ntmps28
    go_wp2_with (first
      | (go_at_call 18; refine (HV.out _ HBw.out).mono ?_; rintro e w3 ⟨he, hB⟩; subst he; have HB3 := Lib.hid hB; obtain ⟨hc0, _, _⟩ := HX.out _ hB; obtain ⟨⟨y0, y1, y2, y3⟩, _⟩ := box_facts hc0; clear hB hc0)
      | (go_at_call 47; refine (HVt.out _ (HXB.out _ HB3.out)).mono ?_; rintro e w4 ⟨he, hB⟩; subst he; have HB4 := Lib.hid (Ext.trans HB3.out hB); obtain ⟨_, hc, _⟩ := HX.out _ HB4.out; obtain ⟨⟨m0, m1, m2, m3⟩, z0, z1, z2, z3⟩ := box_facts hc; clear hB hc))
    exact bodyPost_ret (v := .tuple #[.agg #[.int .i64 0, .string ⟨#[]⟩, .int .i64 0, .slice none 0 0], .int .i64 ev]) (by simp [results, Tryd.results28, go_sem, m0, m1, m2, m3]) rfl (RaPost_zero HR.out (put4_below (g := w.heap.size + 1) (o := 0) (HXB.out _ HB4.out) (by omega)))
  have HRQ := Lib.hid (HRP.out (HVN.out he))
  have hR2 : R = if validE (apT bs t) = 0 then (apT bs t, 0) else (zeroT, validE (apT bs t)) := by rw [HP2.out, if_pos he]
  subst he
  generalize apT bs t = u at HVu HRQ hR2
  obtain ⟨eu, heu⟩ : ∃ eu, validE u = eu := ⟨_, rfl⟩
  rw [heu] at HVu hR2
  have HR2 := Lib.hid hR2
  have tok1 : True := trivial
  clear heu hR2 HRP HVN HP2
  go_enter Tryd.func28, Tryd.ntmps28
  go_upto_region 8 with (first
    | (go_at_call 18; refine (HV.out _ HBw.out).mono ?_; rintro e w3 ⟨he, hB⟩; subst he; have HB3 := Lib.hid hB; obtain ⟨hc0, _, _⟩ := HX.out _ hB; obtain ⟨⟨y0, y1, y2, y3⟩, _⟩ := box_facts hc0; clear hB hc0)
    | (go_at_call 47; have _t := tok1; refine (HVt.out _ (HXB.out _ HB3.out)).mono ?_; rintro e w4 ⟨he, hB⟩; subst he; have HB4 := Lib.hid (Ext.trans HB3.out hB); clear y0 y1 y2 y3; obtain ⟨hc0, _, _⟩ := HX.out _ HB4.out; obtain ⟨⟨y0, y1, y2, y3⟩, _⟩ := box_facts hc0; clear hB hc0; clear tok1)
    | (go_at_call 59; refine (HRQ.out _ (HXB.out _ HB4.out)).mono ?_; rintro e w5 ⟨c0, c1, c2, c3, he, hI5, hB5⟩; subst he; obtain ⟨k', n', s', x', l', c', e0, e1, e2, e3⟩ := IsIn_form hI5; subst e0 e1 e2 e3; have HI5 := Lib.hid hI5; have HB5 := Lib.hid (Ext.trans HB4.out hB5); clear hI5 hB5))
  have hI6 : Is (w5.alloc (.cells #[.int .i64 k', .string n', .int .i64 s', .slice x' l' c'] 25)) u (.int .i64 k') (.string n') (.int .i64 s') (.slice x' l' c') := Is_alloc (IsIn_Is _ _ _ _ _ HI5.out) _
  have hI60 : IsIn (fun b => b < w.heap.size ∨ w.heap.size + 2 ≤ b) (w5.alloc (.cells #[.int .i64 k', .string n', .int .i64 s', .slice x' l' c'] 25)) u (.int .i64 k') (.string n') (.int .i64 s') (.slice x' l' c') := by
    have h4 := (HX.out _ HB4.out).2.2
    have h5 := (HX.out _ HB5.out).2.2
    exact IsIn_carry (fun b hb => Below.heap_alloc _ _ _ (by rcases hb with h | h <;> omega)) (fun b hb => by rcases hb with h | h <;> omega) _ _ _ _ _ HI5.out
  have hE6 : Ext ((w.alloc (.cells #[.int .i64 k, .string n, .int .i64 s, .slice xa l cap] 25)).alloc (.cells #[.int .i64 0, .string ⟨#[]⟩, .int .i64 0, .slice none 0 0] 25)) (w5.alloc (.cells #[.int .i64 k', .string n', .int .i64 s', .slice x' l' c'] 25)) := Ext.alloc HB5.out _
  have hx6 := heap_alloc_new w5 (.cells #[.int .i64 k', .string n', .int .i64 s', .slice x' l' c'] 25)
  have hs6 : (w5.alloc (.cells #[.int .i64 k', .string n', .int .i64 s', .slice x' l' c'] 25)).heap.size = w5.heap.size + 1 := World.size_alloc _ _
  have hn1 : w.heap.size + 2 ≤ w5.heap.size := (HX.out _ HB5.out).2.2
  clear y0 y1 y2 y3
  generalize (w5.alloc (.cells #[.int .i64 k', .string n', .int .i64 s', .slice x' l' c'] 25)) = w6 at hI6 hI60 hE6 hx6 hs6 ⊢
  obtain ⟨⟨y0, y1, y2, y3⟩, _⟩ := box_facts hx6
  have HB6 := Lib.hid (And.intro hI6 (And.intro hI60 (And.intro hE6 (And.intro hx6 hs6))))
  clear hI6 hI60 hE6 hx6 hs6
  by_cases hz : eu = 0
  · have HR : Hid (R = (u, 0)) := by show _ = _; rw [HR2.out, if_pos hz]
    have q2 : (eu != 0) = false := by simp [hz]
    clear hz
    go_wp2_with (go_at_call 47; refine (HVu.out _ _ _ _ _ HB6.out.1).mono ?_; rintro e w7 ⟨he, hB⟩; subst he; have HB7 := Lib.hid hB; have hx7 := (hB.block w5.heap.size (by have := HB6.out.2.2.2.2; omega)).trans HB6.out.2.2.2.1; obtain ⟨_, hc, _⟩ := HX.out _ (Ext.trans HB6.out.2.2.1 hB); clear hB y0 y1 y2 y3; obtain ⟨⟨m0, m1, m2, m3⟩, z0, z1, z2, z3⟩ := box_facts hc; obtain ⟨⟨y0, y1, y2, y3⟩, _⟩ := box_facts hx7; clear hc hx7)
    have HF : Hid (RaPost w R (.returned (.tuple #[.agg #[.int .i64 k', .string n', .int .i64 s', .slice x' l' c'], .int .i64 0])) (put4 w7 (w.heap.size + 1) 0 (.int .i64 k') (.string n') (.int .i64 s') (.slice x' l' c'))) := by
      show RaPost _ _ _ _
      rw [HR.out]
      have h7 := IsIn_lt _ _ _ _ _ HB6.out.2.1
      refine ⟨_, _, _, _, rfl, IsIn_Is (S := fun _ => True) _ _ _ _ _ (IsIn_carry (fun b hb => ?_) (fun _ _ => trivial) _ _ _ _ _ h7), put4_below (w' := w7) (HXB.out _ (Ext.trans HB6.out.2.2.1 HB7.out)) (by omega)⟩
      rw [put4_other _ _ _ _ _ _ _ _ (by rcases hb.1 with h | h <;> omega)]
      exact HB7.out.block b hb.2
    exact bodyPost_ret (v := .tuple #[.agg #[.int .i64 k', .string n', .int .i64 s', .slice x' l' c'], .int .i64 0]) (by simp [results, Tryd.results28, go_sem, m0, m1, m2, m3]) rfl HF.out
  · have HR : Hid (R = (zeroT, eu)) := by show _ = _; rw [HR2.out, if_neg hz]
    have q2 : (eu != 0) = true := by rw [bne_iff_ne]; exact hz
    clear hz
    go_wp2_with (go_at_call 47; refine (HVu.out _ _ _ _ _ HB6.out.1).mono ?_; rintro e w7 ⟨he, hB⟩; subst he; have HB7 := Lib.hid hB; obtain ⟨_, hc, _⟩ := HX.out _ (Ext.trans HB6.out.2.2.1 hB); clear hB y0 y1 y2 y3; obtain ⟨⟨m0, m1, m2, m3⟩, z0, z1, z2, z3⟩ := box_facts hc; clear hc)
    exact bodyPost_ret (v := .tuple #[.agg #[.int .i64 0, .string ⟨#[]⟩, .int .i64 0, .slice none 0 0], .int .i64 eu]) (by simp [results, Tryd.results28, go_sem, m0, m1, m2, m3]) rfl (RaPost_zero HR.out (put4_below (g := w.heap.size + 1) (o := 0) (HXB.out _ (Ext.trans HB6.out.2.2.1 HB7.out)) (by omega)))
end Go.Proofs.YtdgofofhkebkkaaDoor
