/-
  THE REFERENCE's Get and Put (layer 2), walked.
-/
import Derived.Test.YtkdnfioihhfmpaaDoorRepl
import Derived.Test.YtkdnfioihhfmpaaDoorRefb
import Derived.Test.YtkdnfioihhfmpaaDoorElems
import Derived.Deep.RegionHeldLaw
import Derived.Test.YtkdnfioihhfmpaaDoorSapply
import Derived.Test.YtkdnfioihhfmpaaDoorFewb
import Derived.Test.YtkdnfioihhfmpaaDoorScompose
import Derived.BigQuiet
namespace Go.Proofs.YtkdnfioihhfmpaaDoor
open Go.RowKit

/-- What a variable stands for; itself if it is not bound. -/
def getR (bs : List Bd) (x : Tm) : Tm := (getB bs x).getD x
mutual
/-- The reference's Put: a variable is replaced whatever kids it has. -/
def putT (bs : List Bd) : Tm → Tm
  | .mk k n s ks => if k = 1 then getR bs (.mk k n s ks) else .mk k n s (putL bs ks)
def putL (bs : List Bd) : List Tm → List Tm
  | [] => []
  | t :: ts => putT bs t :: putL bs ts
end
theorem putL_length (bs : List Bd) : ∀ ks, (putL bs ks).length = ks.length
  | [] => rfl
  | t :: ts => by rw [putL, List.length_cons, List.length_cons, putL_length bs ts]
theorem putL_take (bs : List Bd) : ∀ (ks : List Tm) (j : Nat) (h : j < ks.length), putL bs (ks.take (j + 1)) = putL bs (ks.take j) ++ [putT bs ks[j]]
  | t :: ts, 0, _ => by simp [putL]
  | t :: ts, j + 1, h => by
    have := putL_take bs ts j (by simpa using h)
    simp only [List.take_succ_cons, putL, List.getElem_cons_succ, List.cons_append, this]
/-- On a valid term it is what the substitution makes. -/
theorem putT_apT (bs : List Bd) (t : Tm) : nodesE t = 0 → putT bs t = apT bs t := by
  refine Tm.rec (motive_1 := fun t => nodesE t = 0 → putT bs t = apT bs t) (motive_2 := fun ts => nodesL ts = 0 → putL bs ts = apL bs ts) ?_ ?_ ?_ t
  · intro k n s ks ih h
    obtain ⟨h1, h2⟩ := nodesE_parts h
    rw [putT, apT, ih h2]
    by_cases hk : k = 1
    · subst hk
      rw [if_pos rfl, if_pos rfl]
      have := nodeE_var h1
      subst this
      unfold getR
      cases getB bs (.mk 1 n s []) with
      | none => rfl
      | some u => rfl
    · rw [if_neg hk, if_neg hk]
  · intro _; rfl
  · intro t ts h1 h2 h
    rw [nodesL] at h
    by_cases h0 : nodesE t = 0
    · rw [if_pos h0] at h
      rw [putL, apL, h1 h0, h2 h]
    · rw [if_neg h0] at h; exact absurd h h0
/-- With no bindings nothing changes. -/
theorem putT_nil (t : Tm) : putT [] t = t := by
  refine Tm.rec (motive_1 := fun t => putT [] t = t) (motive_2 := fun ts => putL [] ts = ts) ?_ ?_ ?_ t
  · intro k n s ks ih
    rw [putT, ih]
    by_cases hk : k = 1
    · rw [if_pos hk]; rfl
    · rw [if_neg hk]
  · rfl
  · intro t ts h1 h2; rw [putL, h1, h2]

theorem getB_drop_hit {bs : List Bd} {x : Tm} {j : Nat} (h : j < bs.length) (hc : cmpT bs[j].1 x = 0) : getB (bs.drop j) x = some bs[j].2 := by
  rw [List.drop_eq_getElem_cons h, getB, if_pos hc]
theorem getB_drop_miss {bs : List Bd} {x : Tm} {j : Nat} (h : j < bs.length) (hc : ¬ cmpT bs[j].1 x = 0) : getB (bs.drop j) x = getB (bs.drop (j + 1)) x := by
  rw [List.drop_eq_getElem_cons h, getB, if_neg hc]

/-- A term that is given back, or made: it lies in the old memory, or in the call's own. -/
def PutPost (base : Nat) (w : World) (t : Tm) (e : Ending) (w' : World) : Prop :=
  ∃ c0 c1 c2 c3, e = .returned (.agg #[c0, c1, c2, c3]) ∧ IsIn (fun b => b < base ∨ (w.heap.size ≤ b ∧ b < w'.heap.size)) w' t c0 c1 c2 c3 ∧ Below w.heap.size w w'

set_option maxHeartbeats 3200000 in
set_option maxRecDepth 100000 in
theorem rget_any (bs : List Bd) (xa : Option Addr) (cap : Nat) (x : Tm) (c0 c1 c2 c3 : Value) (w0 w : World) (hE0 : Ext w0 w) (hcap : bs.length ≤ cap) (hlen : bs.length ≤ maxLen) (hsz : SzB 1073741824 bs) (hR : Row w0 (flatB bs) xa) (hx : size x ≤ 1073741824) (hI : Is w0 x c0 c1 c2 c3) :
    Calls Tryd.prog 94 #[.slice xa bs.length cap, .agg #[c0, c1, c2, c3]] w (PutPost w0.heap.size w (getR bs x)) := by
  obtain ⟨k, n, s, xk, l, kc, rfl, rfl, rfl, rfl⟩ := Is_form hI
  obtain ⟨hb0, hb1, hBw, hZ⟩ := boxes2 w (.int .i64 k) (.string n) (.int .i64 s) (.slice xk l kc) (.int .i64 0) (.string ⟨#[]⟩) (.int .i64 0) (.slice none 0 0) 25
  unfold maxLen at hlen
  have HE0 := Lib.hid hE0
  have HR := Lib.hid hR
  have HI := Lib.hid hI
  have HSZ := Lib.hid hsz
  have HXZ := Lib.hid hx
  have HCC := Lib.hid hcap
  have HBw := Lib.hid hBw
  have HX : Hid (∀ W, Ext ((w.alloc (.cells #[.int .i64 k, .string n, .int .i64 s, .slice xk l kc] 25)).alloc (.cells #[.int .i64 0, .string ⟨#[]⟩, .int .i64 0, .slice none 0 0] 25)) W → W.heap[w.heap.size]? = some (.cells #[.int .i64 k, .string n, .int .i64 s, .slice xk l kc] 25 (0, 0)) ∧ W.heap[w.heap.size + 1]? = some (.cells #[.int .i64 0, .string ⟨#[]⟩, .int .i64 0, .slice none 0 0] 25 (0, 0)) ∧ w.heap.size + 2 ≤ W.heap.size) := fun W h => ⟨(h.block _ (by simp; omega)).trans hb0, (h.block _ (by simp)).trans hb1, by have := h.size; omega⟩
  have HDONE : Hid (∀ (u : Tm) (W : World) (d0 d1 d2 d3 : Value), getR bs x = u → Is w0 u d0 d1 d2 d3 → Ext w W → PutPost w0.heap.size w (getR bs x) (.returned (.agg #[d0, d1, d2, d3])) (put4 W (w.heap.size + 1) 0 d0 d1 d2 d3)) := fun u W d0 d1 d2 d3 e h hX => by
    rw [e]
    exact ⟨_, _, _, _, rfl, IsIn_carry (fun _ hb => put4_other _ _ _ _ _ _ _ _ (by have := hE0.size; omega)) (fun _ hb => Or.inl hb) _ _ _ _ _ (IsIn_carry (fun b hb => (Ext.trans hE0 hX).block b hb) (fun b hb => hb) _ _ _ _ _ (Is_IsIn u _ _ _ _ h)), put4_below (w' := W) hX (by omega)⟩
  clear hb0 hb1 hBw hZ hE0 hR hI hsz hx hcap
  go_enter Tryd.func94, Tryd.ntmps94
  go_wp2_with fail
  generalize hgen : ((w.alloc (.cells #[.int .i64 k, .string n, .int .i64 s, .slice xk l kc] 25)).alloc (.cells #[.int .i64 0, .string ⟨#[]⟩, .int .i64 0, .slice none 0 0] 25)) = wb at HBw HX ⊢
  clear hgen
  go_loopw [5] (fun i wr => ∃ j : Nat, j ≤ bs.length ∧ i = .int .i64 j ∧ Hid (getB bs x = getB (bs.drop j) x) ∧ Ext wb wr) (fun i _ => bs.length - (intOf i).toNat)
  case atStart => exact ⟨0, Nat.zero_le _, rfl, Lib.hid rfl, Ext.refl wb⟩
  case round =>
    obtain ⟨j, hj, rfl, HG, hE⟩ := hrel
    have HE := Lib.hid hE
    obtain ⟨hc0, hc1, hws⟩ := HX.out _ hE
    obtain ⟨⟨x0, x1, x2, x3⟩, _⟩ := box_facts hc0
    by_cases hlt : j < bs.length
    rotate_left
    · have hjl : j = bs.length := by omega
      have HU : Hid (getR bs x = x) := by
        show _ = _
        unfold getR
        rw [HG.out, hjl, List.drop_length]; rfl
      obtain ⟨⟨m0, m1, m2, m3⟩, z0, z1, z2, z3⟩ := box_facts hc1
      clear hE hc0 hc1 hjl
      go_wp2_with fail
      exact bodyPost_ret (v := .agg #[.int .i64 k, .string n, .int .i64 s, .slice xk l kc]) (by simp [results, Tryd.results94, go_sem, m0, m1, m2, m3]) rfl (HDONE.out x _ _ _ _ _ HU.out HI.out (Ext.trans HBw.out HE.out))
    obtain ⟨b, o, rfl⟩ := Row_at HR.out (by rw [flatB_length]; omega)
    obtain ⟨⟨v0, v1, v2, v3, g0, g1, g2, g3, hI1⟩, t0, t1, t2, t3, g4, g5, g6, g7, hI2⟩ := bds_get HR.out j hlt
    obtain ⟨k1, n1, s1, ya1, yl1, yc1, rfl, rfl, rfl, rfl⟩ := Is_form hI1
    obtain ⟨k2, n2, s2, ya2, yl2, yc2, rfl, rfl, rfl, rfl⟩ := Is_form hI2
    rw [Nat.add_assoc] at g5 g6 g7
    have hE2 : Ext w0 wr := Ext.trans HE0.out (Ext.trans HBw.out hE)
    have hz1 := HSZ.out bs[j] (List.getElem_mem hlt)
    have hC1 := fun W (y : Ext wr W) => same_any bs[j].1 x _ _ _ _ _ _ _ _ W (by omega) (by have := HXZ.out; omega) (Is_below (w' := W) hI1 (Ext.trans hE2 y)) (Is_below (w' := W) HI.out (Ext.trans hE2 y))
    have HC1 := Lib.hid hC1
    have HI2 := Lib.hid hI2
    have HCr : Hid (∀ W, Ext wr W → (W.cell? ⟨b, o + j * 8, none⟩ = some (.int .i64 k1) ∧ W.cell? ⟨b, o + j * 8 + 1, none⟩ = some (.string n1) ∧ W.cell? ⟨b, o + j * 8 + 2, none⟩ = some (.int .i64 s1) ∧ W.cell? ⟨b, o + j * 8 + 3, none⟩ = some (.slice ya1 yl1 yc1)) ∧ (W.cell? ⟨w.heap.size, 0, none⟩ = some (.int .i64 k) ∧ W.cell? ⟨w.heap.size, 1, none⟩ = some (.string n) ∧ W.cell? ⟨w.heap.size, 2, none⟩ = some (.int .i64 s) ∧ W.cell? ⟨w.heap.size, 3, none⟩ = some (.slice xk l kc))) := fun W h => ⟨⟨keep_below (Ext.trans hE2 h) _ _ g0, keep_below (Ext.trans hE2 h) _ _ g1, keep_below (Ext.trans hE2 h) _ _ g2, keep_below (Ext.trans hE2 h) _ _ g3⟩, ⟨keep_below h _ _ x0, keep_below h _ _ x1, keep_below h _ _ x2, keep_below h _ _ x3⟩⟩
    have HCs : Hid (∀ W, Ext wr W → W.cell? ⟨b, o + j * 8 + 4, none⟩ = some (.int .i64 k2) ∧ W.cell? ⟨b, o + j * 8 + 5, none⟩ = some (.string n2) ∧ W.cell? ⟨b, o + j * 8 + 6, none⟩ = some (.int .i64 s2) ∧ W.cell? ⟨b, o + j * 8 + 7, none⟩ = some (.slice ya2 yl2 yc2)) := fun W h => ⟨keep_below (Ext.trans hE2 h) _ _ g4, keep_below (Ext.trans hE2 h) _ _ g5, keep_below (Ext.trans hE2 h) _ _ g6, keep_below (Ext.trans hE2 h) _ _ g7⟩
    clear g0 g1 g2 g3 g4 g5 g6 g7
    obtain ⟨⟨g0, g1, g2, g3⟩, _⟩ := HCr.out wr (Ext.refl wr)
    have i1 : (0 : Int) ≤ (j : Int) := by omega
    have i2 : (j : Int) < (bs.length : Int) := by omega
    have hF0 : Ext wr wr.drew := (Ext.refl wr).drew
    have HHIT : Hid (cmpT bs[j].1 x = 0 → getR bs x = bs[j].2) := fun h => by unfold getR; rw [HG.out, getB_drop_hit hlt h]; rfl
    have HMISS : Hid (¬ cmpT bs[j].1 x = 0 → getB bs x = getB (bs.drop (j + 1)) x) := fun h => by rw [HG.out, getB_drop_miss hlt h]
    obtain ⟨cb, hcb⟩ : ∃ cb, (cmpT bs[j].1 x == 0) = cb := ⟨_, rfl⟩
    rw [hcb] at HC1
    have HCB := Lib.hid hcb
    have hbs : b < w0.heap.size := World.block_lt_of_cell? w0 _ (bds_get HR.out j hlt).1.choose_spec.choose_spec.choose_spec.choose_spec.1
    have nb : ¬ b = w.heap.size + 1 := by have := HE0.out.size; omega
    clear hE hE2 hI1 hI2 hz1 hC1 hcb hc0 hc1
    go_wp2_with fail
    go_region_held3 (fun W => (W.cell? ⟨b, o + j * 8, none⟩ = some (.int .i64 k1) ∧ W.cell? ⟨b, o + j * 8 + 1, none⟩ = some (.string n1) ∧ W.cell? ⟨b, o + j * 8 + 2, none⟩ = some (.int .i64 s1) ∧ W.cell? ⟨b, o + j * 8 + 3, none⟩ = some (.slice ya1 yl1 yc1)) ∧ (W.cell? ⟨w.heap.size, 0, none⟩ = some (.int .i64 k) ∧ W.cell? ⟨w.heap.size, 1, none⟩ = some (.string n) ∧ W.cell? ⟨w.heap.size, 2, none⟩ = some (.int .i64 s) ∧ W.cell? ⟨w.heap.size, 3, none⟩ = some (.slice xk l kc)))
      (first | exact HCr.out _ (by assumption) | go_keep)
      (first
        | (go_at_call 13; refine (HC1.out _ hF0).mono ?_; rintro e w4 ⟨he, hB⟩; subst he; have hF1 : Ext wr w4 := hF0.trans hB; clear hB))
    have HF1 := Lib.hid hF1
    clear g0 g1 g2 g3 x0 x1 x2 x3
    cases cb with
    | true =>
      have HU := Lib.hid (HHIT.out (by simpa using HCB.out))
      obtain ⟨g4, g5, g6, g7⟩ := HCs.out _ HF1.out
      obtain ⟨_, hc1, _⟩ := HX.out _ (Ext.trans HE.out HF1.out)
      obtain ⟨⟨m0, m1, m2, m3⟩, z0, z1, z2, z3⟩ := box_facts hc1
      clear hF0 hF1 hc1
      go_wp2_with fail
      exact bodyPost_ret (v := .agg #[.int .i64 k2, .string n2, .int .i64 s2, .slice ya2 yl2 yc2]) (by simp [results, Tryd.results94, go_sem, m0, m1, m2, m3]) rfl (HDONE.out _ _ _ _ _ _ HU.out HI2.out (Ext.trans HBw.out (Ext.trans HE.out HF1.out)))
    | false =>
      have HU := Lib.hid (HMISS.out (by simpa using HCB.out))
      clear hF0 hF1
      go_wp2_with fail
      go_roundw
      case rel => exact ⟨j + 1, by omega, by go_num, HU, Ext.trans HE.out HF1.out⟩
      case measure => simp [intOf]; omega
end Go.Proofs.YtkdnfioihhfmpaaDoor

/-
  THE REFERENCE's Put (layer 2), walked.
-/
namespace Go.Proofs.YtkdnfioihhfmpaaDoor
open Go.RowKit

/-- Kids that are gathered: a row of the call's own; what they hold lies in the old memory, or in the call's own elsewhere. -/
def KidsIn (base H : Nat) (wr : World) (acc : List Tm) (kv : Value) : Prop :=
  ∃ F : Nat → Prop, OwnT H F wr acc kv ∧ ∀ b, F b → (b < base ∨ H ≤ b ∧ b < wr.heap.size) ∧ kv.ownBlock ≠ some b
theorem KidsIn_nil (base H : Nat) (w : World) : KidsIn base H w [] (.slice none 0 0) := ⟨fun _ => False, OwnT_nil _ _ _, fun _ h => h.elim⟩
theorem KidsIn_keep {base H : Nat} {w w' : World} {acc : List Tm} {kv : Value} (h : KidsIn base H w acc kv) (hs : w.heap.size ≤ w'.heap.size) (hk : ∀ b, (b < base ∨ H ≤ b) → b < w.heap.size → w'.heap[b]? = w.heap[b]?) (hb : base ≤ w.heap.size) : KidsIn base H w' acc kv := by
  obtain ⟨F, hO, hF⟩ := h
  refine ⟨F, OwnT_carry hO (fun b hb' => ?_) (fun g hg => hk g (Or.inr (OwnT_lt hO g hg).1) (OwnT_lt hO g hg).2), fun b hb' => ⟨?_, (hF b hb').2⟩⟩
  · rcases (hF b hb').1 with h | ⟨h1, h2⟩
    · exact hk b (Or.inl h) (by omega)
    · exact hk b (Or.inr h1) h2
  · rcases (hF b hb').1 with h | ⟨h1, h2⟩
    · exact Or.inl h
    · exact Or.inr ⟨h1, by omega⟩
theorem KidsIn_form {base H : Nat} {w : World} {acc : List Tm} {kv : Value} (h : KidsIn base H w acc kv) : ∃ xa cap, kv = .slice xa acc.length cap := by
  obtain ⟨F, hO, _⟩ := h; exact OwnT_form hO
/-- One more kid. -/
theorem KidsIn_push {base H n g lcap cap : Nat} {wr w6 w8 : World} {acc : List Tm} {xl : Option Addr} {cs : List Value} {F : Nat → Prop} {x : Tm} {c0 c1 c2 c3 : Value} {o : Obj} (hn : n = acc.length)
    (ho : wr.ownsRow H 25 4 (.slice xl n lcap) n cs) (hK : KC F wr acc cs) (hF : ∀ b, F b → (b < base ∨ H ≤ b ∧ b < wr.heap.size) ∧ (Value.slice xl n lcap).ownBlock ≠ some b) (hbH : base ≤ H) (hH : H ≤ wr.heap.size)
    (hB : Below wr.heap.size wr w6) (hI : IsIn (fun b => b < base ∨ (wr.heap.size ≤ b ∧ b < w6.heap.size)) w6 x c0 c1 c2 c3) (hown : w8.ownsRow H 25 4 (.slice (some ⟨g, 0, none⟩) (n + 1) cap) (n + 1) (cs ++ [c0, c1, c2, c3])) (hg : (w6.alloc o).grownBy w8 (Value.slice xl n lcap).ownBlock)
    (hat : (Value.slice xl n lcap).ownBlock = some g ∨ g = w6.heap.size + 1) :
    KidsIn base H w8 (acc ++ [x]) (.slice (some ⟨g, 0, none⟩) (n + 1) cap) ∧ (∀ b, b < H → w8.heap[b]? = w6.heap[b]?) ∧ w6.heap.size ≤ w8.heap.size ∧ Below H w6 w8 := by
  subst hn
  have hsz := hB.size
  have hgs := hg.size
  rw [World.size_alloc] at hgs
  have hlt := fun q hq => ho.lt q hq
  have hk : ∀ b, b < w6.heap.size → (Value.slice xl acc.length lcap).ownBlock ≠ some b → w8.heap[b]? = w6.heap[b]? := fun b hb hne => by
    rw [hg.block b (by rw [World.size_alloc]; omega) (fun e => hne e.symm), Below.heap_alloc _ _ _ hb]
  have hnew : ∀ b, b < w6.heap.size → (Value.slice xl acc.length lcap).ownBlock ≠ some b → (Value.slice (some ⟨g, 0, none⟩) (acc.length + 1) cap).ownBlock ≠ some b := fun b h1 h2 e => by
    have e2 : g = b := by simpa [Value.ownBlock] using e
    rcases hat with h | h
    · exact h2 (by rw [h, e2])
    · omega
  have hFl : ∀ b, F b → b < wr.heap.size := fun b hb => by rcases (hF b hb).1 with h | h <;> omega
  refine ⟨⟨fun b => F b ∨ (wr.heap.size ≤ b ∧ b < w6.heap.size) ∨ (b < base), ⟨cs ++ [c0, c1, c2, c3], by simpa using hown, ?_⟩, ?_⟩, fun b hb => hk b (by omega) (fun e => by have := hlt b e; omega), by omega, ((Below.refl H w6).alloc (by omega) _).grown hg (by rw [World.size_alloc]; omega) (fun q hq => (hlt q hq).1)⟩
  · refine KC_append _ _ _ _ (KC_carry (fun b hb => ?_) (fun b hb => Or.inl hb) _ _ hK) (KC_one_term (IsIn_carry (fun b hb => ?_) (fun b hb => ?_) _ _ _ _ _ hI))
    · rw [hk b (by have := hFl b hb; omega) (hF b hb).2]; exact hB.block b (hFl b hb)
    · exact hk b (by rcases hb with h | h <;> omega) (fun e => by have := hlt b e; rcases hb with h | h <;> omega)
    · rcases hb with h | h
      · exact Or.inr (Or.inr h)
      · exact Or.inr (Or.inl h)
  · rintro b (hb | hb | hb)
    · refine ⟨?_, hnew b (by have := hFl b hb; omega) (hF b hb).2⟩
      rcases (hF b hb).1 with h | h
      · exact Or.inl h
      · exact Or.inr ⟨h.1, by omega⟩
    · exact ⟨Or.inr ⟨by omega, by omega⟩, hnew b hb.2 (fun e => by have := (hlt b e).2; omega)⟩
    · exact ⟨Or.inl hb, hnew b (by omega) (fun e => by have := (hlt b e).1; omega)⟩
/-- A node over kids that were gathered. -/
theorem KidsIn_node {base H : Nat} {w : World} {acc : List Tm} {k s : Int} {n : ByteArray} {kv : Value} (h : KidsIn base H w acc kv) (hk : -9223372036854775808 ≤ k ∧ k ≤ 9223372036854775807) (hs : -9223372036854775808 ≤ s ∧ s ≤ 9223372036854775807) (hn : n.size ≤ maxLen) : IsIn (fun b => b < base ∨ H ≤ b ∧ b < w.heap.size) w (.mk k n s acc) (.int .i64 k) (.string n) (.int .i64 s) kv := by
  obtain ⟨F, ⟨cs, ho, hK⟩, hF⟩ := h
  have h := IsIn_app (S' := fun b => b < base ∨ H ≤ b ∧ b < w.heap.size) (nm := n) hn ho hK (fun b hb => (hF b hb).1) (fun g hg => Or.inr (ho.lt g hg))
  simp only [IsIn] at h ⊢
  obtain ⟨_, _, _, _, _, h5, h6, h7⟩ := h
  exact ⟨trivial, trivial, trivial, hk, hs, h5, h6, h7⟩

structure PutR (base : Nat) (w : World) (k s : Int) (n : ByteArray) (kids : Value) (acc : List Tm) (kv : Value) (wr : World) : Prop where
  arg : wr.heap[w.heap.size]? = some (.cells #[.int .i64 k, .string n, .int .i64 s, kids] 25 (0, 0))
  res : wr.heap[w.heap.size + 1]? = some (.cells #[.int .i64 0, .string ⟨#[]⟩, .int .i64 0, .slice none 0 0] 25 (0, 0))
  out : wr.heap[w.heap.size + 2]? = some (.cells #[.int .i64 k, .string n, .int .i64 s, kv] 25 (0, 0))
  acc : KidsIn base (w.heap.size + 3) wr acc kv
  below : Below w.heap.size w wr
  size : w.heap.size + 3 ≤ wr.heap.size
theorem PutR.store {base : Nat} {w w8 : World} {k s : Int} {n : ByteArray} {kids kv kv' : Value} {acc : List Tm} (hb : base ≤ w.heap.size)
    (h0 : w8.heap[w.heap.size]? = some (.cells #[.int .i64 k, .string n, .int .i64 s, kids] 25 (0, 0)))
    (h1 : w8.heap[w.heap.size + 1]? = some (.cells #[.int .i64 0, .string ⟨#[]⟩, .int .i64 0, .slice none 0 0] 25 (0, 0)))
    (h2 : w8.heap[w.heap.size + 2]? = some (.cells #[.int .i64 k, .string n, .int .i64 s, kv] 25 (0, 0)))
    (hK : KidsIn base (w.heap.size + 3) w8 acc kv') (hB : Below w.heap.size w w8) (hz : w.heap.size + 3 ≤ w8.heap.size) :
    PutR base w k s n kids acc kv' (w8.setCell ⟨w.heap.size + 2, 3, none⟩ kv') := by
  refine ⟨?_, ?_, ?_, KidsIn_keep hK (by simp [World.setCell]) (fun b hb' _ => Below.heap_setCell _ _ _ _ (by show b ≠ w.heap.size + 2; rcases hb' with h | h <;> omega)) (by omega), hB.setCell (by show w.heap.size ≤ w.heap.size + 2; omega) _, by simpa [World.setCell] using hz⟩
  · rw [Below.heap_setCell _ _ _ _ (by show w.heap.size ≠ w.heap.size + 2; omega)]; exact h0
  · rw [Below.heap_setCell _ _ _ _ (by show w.heap.size + 1 ≠ w.heap.size + 2; omega)]; exact h1
  · simp [World.setCell, Array.getElem?_modify, h2]
theorem boxes3 (w : World) (a0 a1 a2 a3 b0 b1 b2 b3 c0 c1 c2 c3 : Value) (T : TypeId) : (((w.alloc (.cells #[a0, a1, a2, a3] T)).alloc (.cells #[b0, b1, b2, b3] T)).alloc (.cells #[c0, c1, c2, c3] T)).heap[w.heap.size]? = some (.cells #[a0, a1, a2, a3] T (0, 0)) ∧ (((w.alloc (.cells #[a0, a1, a2, a3] T)).alloc (.cells #[b0, b1, b2, b3] T)).alloc (.cells #[c0, c1, c2, c3] T)).heap[w.heap.size + 1]? = some (.cells #[b0, b1, b2, b3] T (0, 0)) ∧ (((w.alloc (.cells #[a0, a1, a2, a3] T)).alloc (.cells #[b0, b1, b2, b3] T)).alloc (.cells #[c0, c1, c2, c3] T)).heap[w.heap.size + 2]? = some (.cells #[c0, c1, c2, c3] T (0, 0)) ∧ Below w.heap.size w (((w.alloc (.cells #[a0, a1, a2, a3] T)).alloc (.cells #[b0, b1, b2, b3] T)).alloc (.cells #[c0, c1, c2, c3] T)) ∧ w.heap.size + 3 = (((w.alloc (.cells #[a0, a1, a2, a3] T)).alloc (.cells #[b0, b1, b2, b3] T)).alloc (.cells #[c0, c1, c2, c3] T)).heap.size := by
  obtain ⟨h0, h1, hB, hz⟩ := boxes2 w a0 a1 a2 a3 b0 b1 b2 b3 T
  refine ⟨?_, ?_, ?_, hB.alloc (by omega) _, by rw [World.size_alloc]; omega⟩
  · rw [Below.heap_alloc _ _ _ (by omega)]; exact h0
  · rw [Below.heap_alloc _ _ _ (by omega)]; exact h1
  · have := heap_alloc_new ((w.alloc (.cells #[a0, a1, a2, a3] T)).alloc (.cells #[b0, b1, b2, b3] T)) (.cells #[c0, c1, c2, c3] T)
    rw [← hz] at this; exact this

set_option maxHeartbeats 3200000 in
set_option maxRecDepth 100000 in
theorem rput_node (bs : List Bd) (xs : Option Addr) (cap : Nat) (k s : Int) (n : ByteArray) (ks : List Tm) (xk : Option Addr) (kc : Nat) (w0 w : World) (hk1 : ¬ k = 1) (hE0 : Ext w0 w) (hkl : ks.length ≤ 1073741824) (hI : Is w0 (.mk k n s ks) (.int .i64 k) (.string n) (.int .i64 s) (.slice xk ks.length kc))
    (ih : ∀ (j : Nat) (h : j < ks.length) (c0 c1 c2 c3 : Value) (w : World), Ext w0 w → Is w0 ks[j] c0 c1 c2 c3 → Calls Tryd.prog 59 #[.slice xs bs.length cap, .agg #[c0, c1, c2, c3]] w (PutPost w0.heap.size w (putT bs ks[j]))) :
    Calls Tryd.prog 59 #[.slice xs bs.length cap, .agg #[.int .i64 k, .string n, .int .i64 s, .slice xk ks.length kc]] w (PutPost w0.heap.size w (.mk k n s (putL bs ks))) := by
  have q1 : (k == 1) = false := by simp [hk1]
  simp only [Is] at hI
  obtain ⟨_, _, _, hk, hs, hn, hl, xa', cap', e3, hcap, hR⟩ := hI
  simp only [Value.slice.injEq, true_and] at e3
  obtain ⟨e3, e4⟩ := e3
  subst e3 e4
  have HR := Lib.hid hR
  have HE0 := Lib.hid hE0
  have HIH := Lib.hid ih
  have HN := Lib.hid (And.intro hk (And.intro hs hn))
  obtain ⟨i0, hi0, hz0, hz1, hz2⟩ := info_parts info24
  have HI0 := Lib.hid (And.intro hi0 (And.intro hz0 (And.intro hz1 hz2)))
  clear hk1 hR hE0 ih hk hs hn hi0 hz0 hz1 hz2
  obtain ⟨hb0, hb1, hb2, hBw, hZ⟩ := boxes3 w (.int .i64 k) (.string n) (.int .i64 s) (.slice xk ks.length kc) (.int .i64 0) (.string ⟨#[]⟩) (.int .i64 0) (.slice none 0 0) (.int .i64 k) (.string n) (.int .i64 s) (.slice none 0 0) 25
  have HST : Hid (PutR w0.heap.size w k s n (.slice xk ks.length kc) (putL bs (ks.take 0)) (.slice none 0 0) (((w.alloc (.cells #[.int .i64 k, .string n, .int .i64 s, .slice xk ks.length kc] 25)).alloc (.cells #[.int .i64 0, .string ⟨#[]⟩, .int .i64 0, .slice none 0 0] 25)).alloc (.cells #[.int .i64 k, .string n, .int .i64 s, .slice none 0 0] 25))) := ⟨hb0, hb1, hb2, KidsIn_nil _ _ _, hBw, by omega⟩
  have hbase := HE0.out.size
  clear hb0 hb1 hb2 hBw hZ
  go_enter Tryd.func59, Tryd.ntmps59
  go_wp2_with fail
  go_loopw [6] (fun i wr => ∃ (j : Nat) (kv : Value), j ≤ ks.length ∧ i = .int .i64 j ∧ PutR w0.heap.size w k s n (.slice xk ks.length kc) (putL bs (ks.take j)) kv wr) (fun i _ => ks.length - (intOf i).toNat)
  case atStart => exact ⟨0, _, Nat.zero_le _, rfl, HST.out⟩
  case round =>
    obtain ⟨j, kv, hj, rfl, hP⟩ := hrel
    have hll : (putL bs (ks.take j)).length = j := by rw [putL_length, List.length_take]; omega
    obtain ⟨xl, lcap, hkv⟩ := KidsIn_form hP.acc
    rw [hll] at hkv
    subst hkv
    have HP := Lib.hid hP
    have HLL := Lib.hid hll
    obtain ⟨⟨x0, x1, x2, x3⟩, _⟩ := box_facts hP.arg
    obtain ⟨⟨y0, y1, y2, y3⟩, y4, y5, y6, y7⟩ := box_facts hP.res
    obtain ⟨⟨z0, z1, z2, z3⟩, z4, z5, z6, z7⟩ := box_facts hP.out
    clear hP hll
    by_cases hlt : j < ks.length
    rotate_left
    · have hjl : j = ks.length := by omega
      have HF : Hid (PutPost w0.heap.size w (.mk k n s (putL bs ks)) (.returned (.agg #[.int .i64 k, .string n, .int .i64 s, .slice xl j lcap])) (put4 wr (w.heap.size + 1) 0 (.int .i64 k) (.string n) (.int .i64 s) (.slice xl j lcap))) := by
        show PutPost _ _ _ _ _
        have h := KidsIn_node HP.out.acc HN.out.1 HN.out.2.1 HN.out.2.2
        rw [hjl, List.take_length] at h
        rw [hjl]
        exact ⟨_, _, _, _, rfl, IsIn_carry (fun b hb => put4_other _ _ _ _ _ _ _ _ (by rcases hb with h | h <;> omega)) (fun b hb => by rw [put4_size]; rcases hb with h | h <;> omega) _ _ _ _ _ h, put4_below HP.out.below (by omega)⟩
      clear hjl
      go_wp2_with fail
      exact bodyPost_ret (v := .agg #[.int .i64 k, .string n, .int .i64 s, .slice xl j lcap]) (by simp [results, Tryd.results59, go_sem, y0, y1, y2, y3]) rfl HF.out
    obtain ⟨b, o, rfl⟩ := Row_at HR.out (by omega)
    obtain ⟨v0, v1, v2, v3, g0, g1, g2, g3, hIk⟩ := Row_get HR.out j hlt
    obtain ⟨k1, n1, s1, ya1, yl1, yc1, rfl, rfl, rfl, rfl⟩ := Is_form hIk
    have hbs : b < w0.heap.size := World.block_lt_of_cell? w0 _ g0
    have HIk := Lib.hid hIk
    have HCK : Hid (∀ W : World, (∀ q, q < w.heap.size + 3 → W.heap[q]? = wr.heap[q]?) → (W.cell? ⟨w.heap.size + 2, 3, none⟩ = some (.slice xl j lcap) ∧ W.cell? ⟨w.heap.size, 3, none⟩ = some (.slice (some ⟨b, o, none⟩) ks.length kc)) ∧ W.cell? ⟨b, o + j * 4, none⟩ = some (.int .i64 k1) ∧ W.cell? ⟨b, o + j * 4 + 1, none⟩ = some (.string n1) ∧ W.cell? ⟨b, o + j * 4 + 2, none⟩ = some (.int .i64 s1) ∧ W.cell? ⟨b, o + j * 4 + 3, none⟩ = some (.slice ya1 yl1 yc1)) := fun W h => by
      have c := fun (q i : Nat) (hq : q < w.heap.size + 3) => (show W.cell? ⟨q, i, none⟩ = wr.cell? ⟨q, i, none⟩ by unfold World.cell?; simp only; rw [h q hq])
      have hk := fun i v (hv : w0.cell? ⟨b, i, none⟩ = some v) => (c b i (by omega)).trans (keep_below (Ext.trans HE0.out HP.out.below) _ _ hv)
      exact ⟨⟨(c _ _ (by omega)).trans z3, (c _ _ (by omega)).trans x3⟩, hk _ _ g0, hk _ _ g1, hk _ _ g2, hk _ _ g3⟩
    have hws := HP.out.size
    have HCx : Hid (∀ W, Ext wr W → (W.cell? ⟨w.heap.size + 2, 3, none⟩ = some (.slice xl j lcap) ∧ W.cell? ⟨w.heap.size, 3, none⟩ = some (.slice (some ⟨b, o, none⟩) ks.length kc)) ∧ W.cell? ⟨b, o + j * 4, none⟩ = some (.int .i64 k1) ∧ W.cell? ⟨b, o + j * 4 + 1, none⟩ = some (.string n1) ∧ W.cell? ⟨b, o + j * 4 + 2, none⟩ = some (.int .i64 s1) ∧ W.cell? ⟨b, o + j * 4 + 3, none⟩ = some (.slice ya1 yl1 yc1)) := fun W h => HCK.out W (fun q hq => h.block q (by omega))
    have i1 : (0 : Int) ≤ (j : Int) := by omega
    have i2 : (j : Int) < (ks.length : Int) := by omega
    obtain ⟨F, ⟨cs, hown, hK⟩, hF⟩ := HP.out.acc
    rw [HLL.out] at hown
    have HO := Lib.hid (fun W (x : Ext wr W) => own_heap hown (fun q hq => x.block q (hown.lt q hq).2))
    have HPU : Hid (∀ w6, Ext wr w6 → ∀ c0 c1 c2 c3, IsIn (fun b => b < w0.heap.size ∨ (wr.heap.size ≤ b ∧ b < w6.heap.size)) w6 (putT bs ks[j]) c0 c1 c2 c3 → ∀ g cap w8 ob, w8.ownsRow (w.heap.size + 3) 25 4 (.slice (some ⟨g, 0, none⟩) (j + 1) cap) (j + 1) (cs ++ [c0, c1, c2, c3]) → (w6.alloc ob).grownBy w8 (Value.slice xl j lcap).ownBlock → ((Value.slice xl j lcap).ownBlock = some g ∨ g = w6.heap.size + 1) →
        PutR w0.heap.size w k s n (.slice (some ⟨b, o, none⟩) ks.length kc) (putL bs (ks.take (j + 1))) (.slice (some ⟨g, 0, none⟩) (j + 1) cap) (w8.setCell ⟨w.heap.size + 2, 3, none⟩ (.slice (some ⟨g, 0, none⟩) (j + 1) cap)) ∧ (∀ q, q < w.heap.size + 3 → w8.heap[q]? = wr.heap[q]?) ∧ w8.frozen? ⟨w.heap.size + 2, 3, none⟩ = false) := by
      show ∀ _, _
      intro w6 hE6 c0 c1 c2 c3 hI g cap w8 ob hown8 hgrow hat
      have r := KidsIn_push HLL.out.symm hown hK hF (by omega) hws hE6 hI hown8 hgrow hat
      have h6 := hE6.size
      have hq : ∀ q, q < w.heap.size + 3 → w8.heap[q]? = wr.heap[q]? := fun q hq => (r.2.1 q hq).trans (hE6.block q (by omega))
      have e0 := (hq (w.heap.size) (by omega)).trans HP.out.arg
      have e1 := (hq (w.heap.size + 1) (by omega)).trans HP.out.res
      have e2 := (hq (w.heap.size + 2) (by omega)).trans HP.out.out
      refine ⟨PutR.store hbase e0 e1 e2 ?_ ((HP.out.below.trans (hE6.mono (by omega))).trans (r.2.2.2.mono (by omega))) (by have := r.2.2.1; omega), hq, (box_facts e2).2.2.2.2⟩
      rw [putL_take bs ks j hlt]
      exact r.1
    have hF0 : Ext wr wr.drew := (Ext.refl wr).drew
    have HE0r := Lib.hid (Ext.trans HE0.out HP.out.below)
    obtain ⟨⟨z3, x3⟩, g0, g1, g2, g3⟩ := HCx.out wr (Ext.refl wr)
    clear hown hK hF hIk x0 x1 x2 y0 y1 y2 y3 y4 y5 y6 y7 z0 z1 z2 z4 z5 z6 z7
    go_wp2_with fail
    go_region_law
      (first
        | (go_simp; refine (HIH.out j hlt _ _ _ _ _ (Ext.trans HE0r.out hF0) HIk.out).mono ?_; rintro e w6 ⟨c0, c1, c2, c3, he, hI6, hB6⟩; subst he; obtain ⟨k6, n6, s6, xa6, l6, cap6, e0, e1, e2, e3⟩ := IsIn_form hI6; subst e0 e1 e2 e3; have hF6 : Ext wr w6 := hF0.trans hB6; have HI6 := Lib.hid hI6; have HO6 := Lib.hid (HO.out _ hF6); have hw6 : w.heap.size + 3 ≤ w6.heap.size := Nat.le_trans hws hF6.size; have z6 := (HCx.out w6 hF6).1.1; have z7 : (w6.alloc (.cells #[.int .i64 k6, .string n6, .int .i64 s6, .slice xa6 l6 cap6] 25)).cell? ⟨w.heap.size + 1 + 1, 3, none⟩ = some (.slice xl j lcap) := keep_alloc w6 _ _ _ z6; clear hI6 hB6; dsimp only)
        | (refine step_append_lies _ (by rfl) _ _ _ (by rfl) (w.heap.size + 3) 25 i0 _ 4 56 Tryd.underlying23 HI0.out.1 HI0.out.2.1 HI0.out.2.2.1 HI0.out.2.2.2 rfl (by omega) (.slice xl j lcap) j cs (by rfl) (HO6.out.alloc _) ⟨w6.heap.size, 0, none⟩ 1 1 [.int .i64 k6, .string n6, .int .i64 s6, .slice xa6 l6 cap6] (by rfl) (by rfl) (World.news_of_block (cs := #[.int .i64 k6, .string n6, .int .i64 s6, .slice xa6 l6 cap6]) (t := 25) (fr := (0, 0)) (heap_alloc_new w6 _)) (by simp [Value.oneCell']) (by omega) (by unfold maxLen; omega) (by omega) (by simp; omega) (w6.heap.size + 1) (by simp) ?_; intro gg cap8 w8 hown8 hgrow hat hltt; have hpu := HPU.out w6 hF6 _ _ _ _ HI6.out _ _ _ _ hown8 hgrow hat; have q8 := (HCK.out w8 hpu.2.1).1.1; have f8 := hpu.2.2; have HP8 := Lib.hid hpu.1; clear hown8 hgrow hat hltt hpu))
    all_goals (go_wp2_with fail)
    all_goals (go_roundw)
    all_goals (first | exact ⟨j + 1, _, by omega, by go_num, HP8.out⟩ | (simp [intOf]; omega))

set_option maxHeartbeats 3200000 in
set_option maxRecDepth 100000 in
theorem rput_var (bs : List Bd) (xs : Option Addr) (cap : Nat) (s : Int) (n : ByteArray) (ks : List Tm) (xk : Option Addr) (kc l : Nat) (w0 w : World) (hE0 : Ext w0 w) (hcap : bs.length ≤ cap) (hlen : bs.length ≤ maxLen) (hsz : SzB 1073741824 bs) (hR : Row w0 (flatB bs) xs) (hx : size (.mk 1 n s ks) ≤ 1073741824) (hI : Is w0 (.mk 1 n s ks) (.int .i64 1) (.string n) (.int .i64 s) (.slice xk l kc)) :
    Calls Tryd.prog 59 #[.slice xs bs.length cap, .agg #[.int .i64 1, .string n, .int .i64 s, .slice xk l kc]] w (PutPost w0.heap.size w (getR bs (.mk 1 n s ks))) := by
  obtain ⟨hb0, hb1, hBw, hZ⟩ := boxes2 w (.int .i64 1) (.string n) (.int .i64 s) (.slice xk l kc) (.int .i64 0) (.string ⟨#[]⟩) (.int .i64 0) (.slice none 0 0) 25
  have HG := Lib.hid (rget_any bs xs cap (.mk 1 n s ks) _ _ _ _ w0 _ (Ext.trans hE0 hBw) hcap hlen hsz hR hx hI)
  have hbase := hE0.size
  have HX := Lib.hid (And.intro hb1 (And.intro hBw hZ))
  obtain ⟨⟨x0, x1, x2, x3⟩, _⟩ := box_facts hb0
  clear hb0 hb1 hBw hZ hE0 hcap hlen hsz hR hx hI
  generalize getR bs (.mk 1 n s ks) = u at HG ⊢
  go_enter Tryd.func59, Tryd.ntmps59
  go_wp2_with (go_at_call 94; refine (HG.out).mono ?_; rintro e w3 ⟨c0, c1, c2, c3, he, hI, hB⟩; subst he; obtain ⟨k6, n6, s6, xa6, l6, cap6, e0, e1, e2, e3⟩ := IsIn_form hI; subst e0 e1 e2 e3; have HI := Lib.hid hI; have HB := Lib.hid hB; have hx1 := (hB.block (w.heap.size + 1) (by have := HX.out.2.2; omega)).trans HX.out.1; obtain ⟨⟨y0, y1, y2, y3⟩, y4, y5, y6, y7⟩ := box_facts hx1; clear hI hB hx1)
  have HF : Hid (PutPost w0.heap.size w u (.returned (.agg #[.int .i64 k6, .string n6, .int .i64 s6, .slice xa6 l6 cap6])) (put4 w3 (w.heap.size + 1) 0 (.int .i64 k6) (.string n6) (.int .i64 s6) (.slice xa6 l6 cap6))) := by
    show PutPost _ _ _ _ _
    have hz := HX.out.2.2
    refine ⟨_, _, _, _, rfl, IsIn_carry (fun b hb => put4_other _ _ _ _ _ _ _ _ (by rcases hb with h | h <;> omega)) (fun b hb => by rw [put4_size]; rcases hb with h | h <;> omega) _ _ _ _ _ HI.out, put4_below (w' := w3) (HX.out.2.1.trans (HB.out.mono (by omega))) (by omega)⟩
  exact bodyPost_ret (v := .agg #[.int .i64 k6, .string n6, .int .i64 s6, .slice xa6 l6 cap6]) (by simp [results, Tryd.results59, go_sem, y0, y1, y2, y3]) rfl HF.out

theorem rput_any (bs : List Bd) (xs : Option Addr) (cap : Nat) (w0 : World) (hcap : bs.length ≤ cap) (hlen : bs.length ≤ maxLen) (hsz : SzB 1073741824 bs) (hR : Row w0 (flatB bs) xs) (m : Nat) : ∀ (t : Tm) (c0 c1 c2 c3 : Value) (w : World), size t ≤ m → m ≤ 1073741824 → Ext w0 w → Is w0 t c0 c1 c2 c3 →
    Calls Tryd.prog 59 #[.slice xs bs.length cap, .agg #[c0, c1, c2, c3]] w (PutPost w0.heap.size w (putT bs t)) := by
  induction m with
  | zero => intro t _ _ _ _ _ h; have := size_pos t; omega
  | succ m ih =>
    intro t c0 c1 c2 c3 w hm hM hE hI
    obtain ⟨k, n, s, ks⟩ := t
    have hI2 := hI
    simp only [Is] at hI2
    obtain ⟨rfl, rfl, rfl, _, _, _, _, xk, kc, rfl, _, _⟩ := hI2
    rw [putT]
    by_cases hk : k = 1
    · subst hk
      rw [if_pos rfl]
      exact rput_var bs xs cap s n ks xk kc ks.length w0 w hE hcap hlen hsz hR (by omega) hI
    · rw [if_neg hk]
      have hs : size (.mk k n s ks) = 1 + sizes ks := rfl
      have hl := length_le_sizes ks
      refine rput_node bs xs cap k s n ks xk kc w0 w hk hE (by omega) hI (fun j hj d0 d1 d2 d3 w' hE' hI' => ih ks[j] d0 d1 d2 d3 w' ?_ (by omega) hE' hI')
      have := size_le_sizes (List.getElem_mem hj)
      omega
end Go.Proofs.YtkdnfioihhfmpaaDoor

/-
  THE REFERENCE's Apply (layer 2), walked.
-/
namespace Go.Proofs.YtkdnfioihhfmpaaDoor
open Go.RowKit

/-- A term and an error, given back. -/
def RaPost (w : World) (r : Tm × Int) (e : Ending) (w' : World) : Prop :=
  ∃ c0 c1 c2 c3, e = .returned (.tuple #[.agg #[c0, c1, c2, c3], .int .i64 r.2]) ∧ Is w' r.1 c0 c1 c2 c3 ∧ Below w.heap.size w w'
/-- The same, and it lies in the old memory, or in the call's own. -/
def RaPostB (base : Nat) (w : World) (r : Tm × Int) (e : Ending) (w' : World) : Prop :=
  ∃ c0 c1 c2 c3, e = .returned (.tuple #[.agg #[c0, c1, c2, c3], .int .i64 r.2]) ∧ IsIn (fun b => b < base ∨ (w.heap.size ≤ b ∧ b < w'.heap.size)) w' r.1 c0 c1 c2 c3 ∧ Below w.heap.size w w'
theorem RaPost_zero {base : Nat} {w W : World} {R : Tm × Int} {x : Int} (h : R = (zeroT, x)) (hB : Below w.heap.size w W) : RaPostB base w R (.returned (.tuple #[.agg #[.int .i64 0, .string ⟨#[]⟩, .int .i64 0, .slice none 0 0], .int .i64 x])) W := by
  rw [h]; exact ⟨_, _, _, _, rfl, zero_IsIn _ _, hB⟩

set_option maxHeartbeats 6400000 in
set_option maxRecDepth 100000 in
theorem rapply_at (bs : List Bd) (xs : Option Addr) (cs N : Nat) (t : Tm) (c0 c1 c2 c3 : Value) (w0 w : World) (hE0 : Ext w0 w) (hcap : bs.length ≤ cs) (hlen : bs.length ≤ 1073741824) (hsb : SzB 1073741824 bs) (hrow : Row w0 (flatB bs) xs) (hN : ∀ b ∈ bs, size b.2 ≤ N) (h1 : 1 ≤ N) (hsz : size t * N ≤ 1073741824) (hI : Is w0 t c0 c1 c2 c3) :
    Calls Tryd.prog 28 #[.slice xs bs.length cs, .agg #[c0, c1, c2, c3]] w (RaPostB w0.heap.size w (applyV bs t)) := by
  have hst : size t ≤ 1073741824 := Nat.le_trans (Nat.le_mul_of_pos_right _ h1) hsz
  have hsu := Nat.le_trans (apT_size bs N hN h1 t) hsz
  obtain ⟨k, n, s, xa, l, cap, rfl, rfl, rfl, rfl⟩ := Is_form hI
  obtain ⟨hb0, hb1, hBw, hZ⟩ := boxes2 w (.int .i64 k) (.string n) (.int .i64 s) (.slice xa l cap) (.int .i64 0) (.string ⟨#[]⟩) (.int .i64 0) (.slice none 0 0) 25
  have HV := Lib.hid (fun W (x : Ext w W) => rbvalid_any bs xs cs W hcap (by unfold maxLen; omega) hsb (Row_below (w' := W) hrow (Ext.trans hE0 x)))
  have HVt := Lib.hid (fun W (x : Ext w W) => rValid_any t _ _ _ _ W hst (Is_below (w' := W) hI (Ext.trans hE0 x)))
  have HVu := Lib.hid (fun W a b c d (x : Is W (apT bs t) a b c d) => rValid_any (apT bs t) a b c d W hsu x)
  have HRP := Lib.hid (fun (hv : nodesE t = 0) W (x : Ext w W) => (by have h := rput_any bs xs cs w0 hcap (by unfold maxLen; omega) hsb hrow (size t) t _ _ _ _ W (Nat.le_refl _) hst (Ext.trans hE0 x) hI; rw [putT_apT bs t hv] at h; exact h : Calls Tryd.prog 59 #[.slice xs bs.length cs, .agg #[.int .i64 k, .string n, .int .i64 s, .slice xa l cap]] W (PutPost w0.heap.size W (apT bs t))))
  have HP : Hid (applyV bs t = if validB bs = 0 then (if validE t = 0 then (if validE (apT bs t) = 0 then (apT bs t, 0) else (zeroT, validE (apT bs t))) else (zeroT, validE t)) else (zeroT, validB bs)) := rfl
  have HVN : Hid (validE t = 0 → nodesE t = 0) := validE_nodes
  have HBw := Lib.hid hBw
  have HX : Hid (∀ W, Ext ((w.alloc (.cells #[.int .i64 k, .string n, .int .i64 s, .slice xa l cap] 25)).alloc (.cells #[.int .i64 0, .string ⟨#[]⟩, .int .i64 0, .slice none 0 0] 25)) W → W.heap[w.heap.size]? = some (.cells #[.int .i64 k, .string n, .int .i64 s, .slice xa l cap] 25 (0, 0)) ∧ W.heap[w.heap.size + 1]? = some (.cells #[.int .i64 0, .string ⟨#[]⟩, .int .i64 0, .slice none 0 0] 25 (0, 0)) ∧ w.heap.size + 2 ≤ W.heap.size) := fun W h => ⟨(h.block _ (by simp; omega)).trans hb0, (h.block _ (by simp)).trans hb1, by have := h.size; omega⟩
  have HXB : Hid (∀ W, Ext ((w.alloc (.cells #[.int .i64 k, .string n, .int .i64 s, .slice xa l cap] 25)).alloc (.cells #[.int .i64 0, .string ⟨#[]⟩, .int .i64 0, .slice none 0 0] 25)) W → Below w.heap.size w W) := fun W h => Ext.trans hBw h
  generalize applyV bs t = R at HP ⊢
  generalize validE t = ev at HVt HP HVN
  generalize validB bs = eb at HV HP
  have hbase := hE0.size
  clear hI hb0 hb1 hBw hZ hst hsu hsz hN h1 hrow hsb hcap hlen hE0
  by_cases hb : eb = 0
  rotate_left
  · have HR : Hid (R = (zeroT, eb)) := by show _ = _; rw [HP.out, if_neg hb]
    have q1 : (eb != 0) = true := by rw [bne_iff_ne]; exact hb
    clear hb
    go_enter Tryd.func28, Tryd.ntmps28
    go_wp2_with (go_at_call 18; refine (HV.out _ HBw.out).mono ?_; rintro e w3 ⟨he, hB⟩; subst he; have HB3 := Lib.hid hB; obtain ⟨_, hc, _⟩ := HX.out _ hB; obtain ⟨⟨m0, m1, m2, m3⟩, z0, z1, z2, z3⟩ := box_facts hc; clear hB hc)
    exact bodyPost_ret (v := .tuple #[.agg #[.int .i64 0, .string ⟨#[]⟩, .int .i64 0, .slice none 0 0], .int .i64 eb]) (by simp [results, Tryd.results28, go_sem, m0, m1, m2, m3]) rfl (RaPost_zero HR.out (put4_below (g := w.heap.size + 1) (o := 0) (HXB.out _ HB3.out) (by omega)))
  have HP2 : Hid (R = if ev = 0 then (if validE (apT bs t) = 0 then (apT bs t, 0) else (zeroT, validE (apT bs t))) else (zeroT, ev)) := by show _ = _; rw [HP.out, if_pos hb]
  subst hb
  have q0 : ((0 : Int) != 0) = false := rfl
  clear HP
  by_cases he : ev = 0
  rotate_left
  · have HR : Hid (R = (zeroT, ev)) := by show _ = _; rw [HP2.out, if_neg he]
    have q1 : (ev != 0) = true := by rw [bne_iff_ne]; exact he
    clear he
    go_enter Tryd.func28, Tryd.ntmps28
    go_wp2_with (first
      | (go_at_call 18; refine (HV.out _ HBw.out).mono ?_; rintro e w3 ⟨he, hB⟩; subst he; have HB3 := Lib.hid hB; obtain ⟨hc0, _, _⟩ := HX.out _ hB; obtain ⟨⟨y0, y1, y2, y3⟩, _⟩ := box_facts hc0; clear hB hc0)
      | (go_at_call 47; refine (HVt.out _ (HXB.out _ HB3.out)).mono ?_; rintro e w4 ⟨he, hB⟩; subst he; have HB4 := Lib.hid (Ext.trans HB3.out hB); obtain ⟨_, hc, _⟩ := HX.out _ HB4.out; obtain ⟨⟨m0, m1, m2, m3⟩, z0, z1, z2, z3⟩ := box_facts hc; clear hB hc))
    exact bodyPost_ret (v := .tuple #[.agg #[.int .i64 0, .string ⟨#[]⟩, .int .i64 0, .slice none 0 0], .int .i64 ev]) (by simp [results, Tryd.results28, go_sem, m0, m1, m2, m3]) rfl (RaPost_zero HR.out (put4_below (g := w.heap.size + 1) (o := 0) (HXB.out _ HB4.out) (by omega)))
  have HRQ := Lib.hid (HRP.out (HVN.out he))
  have hR2 : R = if validE (apT bs t) = 0 then (apT bs t, 0) else (zeroT, validE (apT bs t)) := by rw [HP2.out, if_pos he]
  subst he
  generalize apT bs t = u at HVu HRQ hR2
  obtain ⟨eu, heu⟩ : ∃ eu, validE u = eu := ⟨_, rfl⟩
  rw [heu] at HVu hR2
  have HR2 := Lib.hid hR2
  have tok1 : True := trivial
  clear heu hR2 HRP HVN HP2
  go_enter Tryd.func28, Tryd.ntmps28
  go_upto_region 8 with (first
    | (go_at_call 18; refine (HV.out _ HBw.out).mono ?_; rintro e w3 ⟨he, hB⟩; subst he; have HB3 := Lib.hid hB; obtain ⟨hc0, _, _⟩ := HX.out _ hB; obtain ⟨⟨y0, y1, y2, y3⟩, _⟩ := box_facts hc0; clear hB hc0)
    | (go_at_call 47; have _t := tok1; refine (HVt.out _ (HXB.out _ HB3.out)).mono ?_; rintro e w4 ⟨he, hB⟩; subst he; have HB4 := Lib.hid (Ext.trans HB3.out hB); clear y0 y1 y2 y3; obtain ⟨hc0, _, _⟩ := HX.out _ HB4.out; obtain ⟨⟨y0, y1, y2, y3⟩, _⟩ := box_facts hc0; clear hB hc0; clear tok1)
    | (go_at_call 59; refine (HRQ.out _ (HXB.out _ HB4.out)).mono ?_; rintro e w5 ⟨c0, c1, c2, c3, he, hI5, hB5⟩; subst he; obtain ⟨k', n', s', x', l', c', e0, e1, e2, e3⟩ := IsIn_form hI5; subst e0 e1 e2 e3; have HI5 := Lib.hid hI5; have HB5 := Lib.hid (Ext.trans HB4.out hB5); clear hI5 hB5))
  have hI6 : Is (w5.alloc (.cells #[.int .i64 k', .string n', .int .i64 s', .slice x' l' c'] 25)) u (.int .i64 k') (.string n') (.int .i64 s') (.slice x' l' c') := Is_alloc (IsIn_Is _ _ _ _ _ HI5.out) _
  have hI60 : IsIn (fun b => b < w0.heap.size ∨ w.heap.size + 2 ≤ b) (w5.alloc (.cells #[.int .i64 k', .string n', .int .i64 s', .slice x' l' c'] 25)) u (.int .i64 k') (.string n') (.int .i64 s') (.slice x' l' c') := by
    have h4 := (HX.out _ HB4.out).2.2
    have h5 := (HX.out _ HB5.out).2.2
    exact IsIn_carry (fun b hb => Below.heap_alloc _ _ _ (by rcases hb with h | h <;> omega)) (fun b hb => by rcases hb with h | h <;> omega) _ _ _ _ _ HI5.out
  have hE6 : Ext ((w.alloc (.cells #[.int .i64 k, .string n, .int .i64 s, .slice xa l cap] 25)).alloc (.cells #[.int .i64 0, .string ⟨#[]⟩, .int .i64 0, .slice none 0 0] 25)) (w5.alloc (.cells #[.int .i64 k', .string n', .int .i64 s', .slice x' l' c'] 25)) := Ext.alloc HB5.out _
  have hx6 := heap_alloc_new w5 (.cells #[.int .i64 k', .string n', .int .i64 s', .slice x' l' c'] 25)
  have hs6 : (w5.alloc (.cells #[.int .i64 k', .string n', .int .i64 s', .slice x' l' c'] 25)).heap.size = w5.heap.size + 1 := World.size_alloc _ _
  have hn1 : w.heap.size + 2 ≤ w5.heap.size := (HX.out _ HB5.out).2.2
  clear y0 y1 y2 y3
  generalize (w5.alloc (.cells #[.int .i64 k', .string n', .int .i64 s', .slice x' l' c'] 25)) = w6 at hI6 hI60 hE6 hx6 hs6 ⊢
  obtain ⟨⟨y0, y1, y2, y3⟩, _⟩ := box_facts hx6
  have HB6 := Lib.hid (And.intro hI6 (And.intro hI60 (And.intro hE6 (And.intro hx6 hs6))))
  clear hI6 hI60 hE6 hx6 hs6
  by_cases hz : eu = 0
  · have HR : Hid (R = (u, 0)) := by show _ = _; rw [HR2.out, if_pos hz]
    have q2 : (eu != 0) = false := by simp [hz]
    clear hz
    go_wp2_with (go_at_call 47; refine (HVu.out _ _ _ _ _ HB6.out.1).mono ?_; rintro e w7 ⟨he, hB⟩; subst he; have HB7 := Lib.hid hB; have hx7 := (hB.block w5.heap.size (by have := HB6.out.2.2.2.2; omega)).trans HB6.out.2.2.2.1; obtain ⟨_, hc, _⟩ := HX.out _ (Ext.trans HB6.out.2.2.1 hB); clear hB y0 y1 y2 y3; obtain ⟨⟨m0, m1, m2, m3⟩, z0, z1, z2, z3⟩ := box_facts hc; obtain ⟨⟨y0, y1, y2, y3⟩, _⟩ := box_facts hx7; clear hc hx7)
    have HF : Hid (RaPostB w0.heap.size w R (.returned (.tuple #[.agg #[.int .i64 k', .string n', .int .i64 s', .slice x' l' c'], .int .i64 0])) (put4 w7 (w.heap.size + 1) 0 (.int .i64 k') (.string n') (.int .i64 s') (.slice x' l' c'))) := by
      show RaPostB _ _ _ _ _
      rw [HR.out]
      have h7 := IsIn_lt _ _ _ _ _ HB6.out.2.1
      refine ⟨_, _, _, _, rfl, IsIn_carry (fun b hb => ?_) (fun b hb => ?_) _ _ _ _ _ h7, put4_below (w' := w7) (HXB.out _ (Ext.trans HB6.out.2.2.1 HB7.out)) (by omega)⟩
      · rw [put4_other _ _ _ _ _ _ _ _ (by rcases hb.1 with h | h <;> omega)]
        exact HB7.out.block b hb.2
      · rw [put4_size]
        have := HB7.out.size
        rcases hb.1 with h | h <;> omega
    exact bodyPost_ret (v := .tuple #[.agg #[.int .i64 k', .string n', .int .i64 s', .slice x' l' c'], .int .i64 0]) (by simp [results, Tryd.results28, go_sem, m0, m1, m2, m3]) rfl HF.out
  · have HR : Hid (R = (zeroT, eu)) := by show _ = _; rw [HR2.out, if_neg hz]
    have q2 : (eu != 0) = true := by rw [bne_iff_ne]; exact hz
    clear hz
    go_wp2_with (go_at_call 47; refine (HVu.out _ _ _ _ _ HB6.out.1).mono ?_; rintro e w7 ⟨he, hB⟩; subst he; have HB7 := Lib.hid hB; obtain ⟨_, hc, _⟩ := HX.out _ (Ext.trans HB6.out.2.2.1 hB); clear hB y0 y1 y2 y3; obtain ⟨⟨m0, m1, m2, m3⟩, z0, z1, z2, z3⟩ := box_facts hc; clear hc)
    exact bodyPost_ret (v := .tuple #[.agg #[.int .i64 0, .string ⟨#[]⟩, .int .i64 0, .slice none 0 0], .int .i64 eu]) (by simp [results, Tryd.results28, go_sem, m0, m1, m2, m3]) rfl (RaPost_zero HR.out (put4_below (g := w.heap.size + 1) (o := 0) (HXB.out _ (Ext.trans HB6.out.2.2.1 HB7.out)) (by omega)))
theorem rapply_any (bs : List Bd) (xs : Option Addr) (cs N : Nat) (t : Tm) (c0 c1 c2 c3 : Value) (w : World) (hcap : bs.length ≤ cs) (hlen : bs.length ≤ 1073741824) (hsb : SzB 1073741824 bs) (hrow : Row w (flatB bs) xs) (hN : ∀ b ∈ bs, size b.2 ≤ N) (h1 : 1 ≤ N) (hsz : size t * N ≤ 1073741824) (hI : Is w t c0 c1 c2 c3) :
    Calls Tryd.prog 28 #[.slice xs bs.length cs, .agg #[c0, c1, c2, c3]] w (RaPost w (applyV bs t)) :=
  (rapply_at bs xs cs N t c0 c1 c2 c3 w w (Ext.refl w) hcap hlen hsb hrow hN h1 hsz hI).mono fun _ _ ⟨_, _, _, _, he, hI, hB⟩ => ⟨_, _, _, _, he, IsIn_Is _ _ _ _ _ hI, hB⟩
end Go.Proofs.YtkdnfioihhfmpaaDoor

/-
  THE REFERENCE's Bind and bound (layer 2), walked (by gen_rbind.py).
-/
namespace Go.Proofs.YtkdnfioihhfmpaaDoor
open Go.RowKit

/-- Bindings gathered in a row of the call's own; what they hold is old. -/
def OwnBd (H base : Nat) (w : World) (bs : List Bd) (v : Value) : Prop := ∃ cs, w.ownsRow H 77 8 v bs.length cs ∧ KC (fun b => b < base) w (flatB bs) cs
theorem OwnBd_nil (H base : Nat) (w : World) : OwnBd H base w [] (.slice none 0 0) := ⟨[], World.ownsRow_nil w H _ 8, rfl⟩
theorem OwnBd_form {H base : Nat} {w : World} {bs : List Bd} {v : Value} (h : OwnBd H base w bs v) : ∃ xa cap, v = .slice xa bs.length cap := by
  obtain ⟨cs, ho, _⟩ := h; exact own_form ho
theorem OwnBd_ext {H base : Nat} {w w' : World} {bs : List Bd} {v : Value} (h : OwnBd H base w bs v) (hb : base ≤ w.heap.size) (hE : Ext w w') : OwnBd H base w' bs v := by
  obtain ⟨cs, ho, hK⟩ := h
  exact ⟨cs, own_heap ho (fun q hq => hE.block q (ho.lt q hq).2), KC_carry (fun b (hb' : b < base) => hE.block b (by omega)) (fun _ h => h) _ _ hK⟩
theorem OwnBd_push {H base n g cap lcap : Nat} {w v w' : World} {os : List Bd} {xl : Option Addr} {cs : List Value} {t u : Tm} {c0 c1 c2 c3 d0 d1 d2 d3 : Value} (hown0 : w.ownsRow H 77 8 (.slice xl n lcap) n cs) (hK : KC (fun b => b < base) w (flatB os) cs) (hn : n = os.length) (hI : IsIn (fun b => b < base) w t c0 c1 c2 c3) (hJ : IsIn (fun b => b < base) w u d0 d1 d2 d3)
    (hb : base ≤ H) (hv : Below H w v) (hHv : H ≤ v.heap.size) (hown : w'.ownsRow H 77 8 (.slice (some ⟨g, 0, none⟩) (n + 1) cap) (n + 1) (cs ++ [c0, c1, c2, c3, d0, d1, d2, d3])) (hg : v.grownBy w' (Value.slice xl n lcap).ownBlock) :
    OwnBd H base w' (os ++ [(t, u)]) (.slice (some ⟨g, 0, none⟩) (n + 1) cap) ∧ Below H w w' := by
  subst hn
  have hB : Below H w w' := hv.grown hg hHv (fun q hq => (hown0.lt q hq).1)
  have hBl : Below base w w' := hB.mono hb
  refine ⟨⟨cs ++ [c0, c1, c2, c3, d0, d1, d2, d3], by simpa using hown, ?_⟩, hB⟩
  rw [flatB_snoc]
  exact KC_append _ _ _ _ (KC_carry (fun b hb' => hBl.block b hb') (fun _ h => h) _ _ hK) ⟨_, _, _, _, _, rfl, IsIn_carry (fun b hb' => hBl.block b hb') (fun _ h => h) _ _ _ _ _ hI, KC_one_term (IsIn_carry (fun b hb' => hBl.block b hb') (fun _ h => h) _ _ _ _ _ hJ)⟩
/-- A row of bindings from its cells. -/
theorem Row_cells {w : World} {S : Nat → Prop} (b : Nat) : ∀ (ts : List Tm) (o : Nat) (cs : List Value), KC S w ts cs → (∀ j u, cs[j]? = some u → w.cell? ⟨b, o + j, none⟩ = some u) → Row w ts (some ⟨b, o, none⟩)
  | [], o, cs, _, _ => by simp [Row]
  | t :: ts, o, cs, h, hc => by
    obtain ⟨c0, c1, c2, c3, r, rfl, hI, hr⟩ := h
    refine Row_cons_mk ⟨c0, c1, c2, c3, hc 0 _ rfl, hc 1 _ rfl, hc 2 _ rfl, hc 3 _ rfl, IsIn_Is _ _ _ _ _ hI⟩ (Row_cells b ts (o + 4) r hr (fun j u hu => ?_))
    have := hc (j + 4) u (by simpa using hu)
    rw [show o + 4 + j = o + (j + 4) by omega]; exact this
theorem OwnBd_row {H base : Nat} {w : World} {bs : List Bd} {xa : Option Addr} {cap : Nat} (h : OwnBd H base w bs (.slice xa bs.length cap)) : Row w (flatB bs) xa ∧ bs.length ≤ cap := by
  obtain ⟨cs, ho, hK⟩ := h
  rcases ho.2 with ⟨e, h0⟩ | ⟨g, cap', cur, e, _, _, h1, h2, _⟩
  · have : bs = [] := List.length_eq_zero_iff.1 h0
    subst this
    exact ⟨by simp [flatB, Row], Nat.zero_le _⟩
  · simp only [Value.slice.injEq] at e
    obtain ⟨rfl, _, rfl⟩ := e
    refine ⟨Row_cells g _ 0 cs hK (fun j u hu => ?_), h1⟩
    have := ho.cells (g := g) rfl j u hu
    rw [add_plain] at this; exact this
/-- A list of bindings that is given back. -/
def BindPost (w : World) (bs : List Bd) (e : Ending) (w' : World) : Prop :=
  ∃ xa cap, e = .returned (.slice xa bs.length cap) ∧ bs.length ≤ cap ∧ Row w' (flatB bs) xa ∧ Below w.heap.size w w'

set_option maxHeartbeats 3200000 in
set_option maxRecDepth 100000 in
theorem bound_any (bs : List Bd) (xa : Option Addr) (cap : Nat) (x : Tm) (c0 c1 c2 c3 : Value) (w : World) (hcap : bs.length ≤ cap) (hlen : bs.length ≤ maxLen) (hsz : SzB 1073741824 bs) (hR : Row w (flatB bs) xa) (hx : size x ≤ 1073741824) (hI : Is w x c0 c1 c2 c3) :
    Calls Tryd.prog 67 #[.slice xa bs.length cap, .agg #[c0, c1, c2, c3]] w fun e w' => e = .returned (.bool (bndB bs x)) ∧ Below w.heap.size w w' := by
  obtain ⟨k, n, s, xk, l, kc, rfl, rfl, rfl, rfl⟩ := Is_form hI
  unfold maxLen at hlen
  have HR := Lib.hid hR
  have HI := Lib.hid hI
  have HSZ := Lib.hid hsz
  have HXZ := Lib.hid hx
  have HCC := Lib.hid hcap
  have hb0 := heap_alloc_new w (.cells #[.int .i64 k, .string n, .int .i64 s, .slice xk l kc] 25)
  have HX : Hid (∀ W, Ext (w.alloc (.cells #[.int .i64 k, .string n, .int .i64 s, .slice xk l kc] 25)) W → W.heap[w.heap.size]? = some (.cells #[.int .i64 k, .string n, .int .i64 s, .slice xk l kc] 25 (0, 0))) := fun W h => (h.block _ (by simp)).trans hb0
  have HBw := Lib.hid ((Ext.refl w).alloc (.cells #[.int .i64 k, .string n, .int .i64 s, .slice xk l kc] 25))
  clear hb0 hR hI hsz hx hcap
  go_enter Tryd.func67, Tryd.ntmps67
  go_wp2_with fail
  generalize hgen : (w.alloc (.cells #[.int .i64 k, .string n, .int .i64 s, .slice xk l kc] 25)) = wb at HBw HX ⊢
  clear hgen
  go_loopw [5] (fun i wr => ∃ j : Nat, j ≤ bs.length ∧ i = .int .i64 j ∧ Hid (bndB bs x = bndB (bs.drop j) x) ∧ Ext wb wr) (fun i _ => bs.length - (intOf i).toNat)
  case atStart => exact ⟨0, Nat.zero_le _, rfl, Lib.hid rfl, Ext.refl wb⟩
  case round =>
    obtain ⟨j, hj, rfl, HG, hE⟩ := hrel
    have HE := Lib.hid hE
    obtain ⟨⟨x0, x1, x2, x3⟩, _⟩ := box_facts (HX.out _ hE)
    by_cases hlt : j < bs.length
    rotate_left
    · have HU : Hid (bndB bs x = false) := by
        show _ = _
        rw [HG.out, List.drop_eq_nil_of_le (by omega)]; rfl
      clear hE
      go_wp2_with fail
      go_ret
      exact ⟨by rw [HU.out]; rfl, Ext.trans HBw.out HE.out⟩
    have hd : bs.drop j = bs[j] :: bs.drop (j + 1) := List.drop_eq_getElem_cons hlt
    obtain ⟨b, o, rfl⟩ := Row_at HR.out (by rw [flatB_length]; omega)
    have hE2 : Ext w wr := Ext.trans HBw.out hE
    obtain ⟨⟨v0, v1, v2, v3, g0, g1, g2, g3, hI1⟩, _⟩ := bds_get (Row_below HR.out hE2) j hlt
    obtain ⟨k1, n1, s1, ya1, yl1, yc1, rfl, rfl, rfl, rfl⟩ := Is_form hI1
    have hz1 := HSZ.out bs[j] (List.getElem_mem hlt)
    have HC1 := Lib.hid (fun W (y : Ext wr W) => same_any bs[j].1 x _ _ _ _ _ _ _ _ W (by omega) (by have := HXZ.out; omega) (Is_below (w' := W) hI1 y) (Is_below (w' := W) HI.out (Ext.trans hE2 y)))
    have HCr : Hid (∀ W, Ext wr W → (W.cell? ⟨b, o + j * 8, none⟩ = some (.int .i64 k1) ∧ W.cell? ⟨b, o + j * 8 + 1, none⟩ = some (.string n1) ∧ W.cell? ⟨b, o + j * 8 + 2, none⟩ = some (.int .i64 s1) ∧ W.cell? ⟨b, o + j * 8 + 3, none⟩ = some (.slice ya1 yl1 yc1)) ∧ (W.cell? ⟨w.heap.size, 0, none⟩ = some (.int .i64 k) ∧ W.cell? ⟨w.heap.size, 1, none⟩ = some (.string n) ∧ W.cell? ⟨w.heap.size, 2, none⟩ = some (.int .i64 s) ∧ W.cell? ⟨w.heap.size, 3, none⟩ = some (.slice xk l kc))) := fun W h => ⟨⟨keep_below h _ _ g0, keep_below h _ _ g1, keep_below h _ _ g2, keep_below h _ _ g3⟩, ⟨keep_below h _ _ x0, keep_below h _ _ x1, keep_below h _ _ x2, keep_below h _ _ x3⟩⟩
    have i1 : (0 : Int) ≤ (j : Int) := by omega
    have i2 : (j : Int) < (bs.length : Int) := by omega
    have hF0 : Ext wr wr.drew := (Ext.refl wr).drew
    obtain ⟨cb, hcb⟩ : ∃ cb, (cmpT bs[j].1 x == 0) = cb := ⟨_, rfl⟩
    rw [hcb] at HC1
    have hst : bndB (bs.drop j) x = (cb || bndB (bs.drop (j + 1)) x) := by rw [hd, ← hcb]; rfl
    have HST := Lib.hid (HG.out.trans hst)
    clear hE hE2 hI1 hz1 hcb hd hst
    go_wp2_with fail
    go_region_held3 (fun W => (W.cell? ⟨b, o + j * 8, none⟩ = some (.int .i64 k1) ∧ W.cell? ⟨b, o + j * 8 + 1, none⟩ = some (.string n1) ∧ W.cell? ⟨b, o + j * 8 + 2, none⟩ = some (.int .i64 s1) ∧ W.cell? ⟨b, o + j * 8 + 3, none⟩ = some (.slice ya1 yl1 yc1)) ∧ (W.cell? ⟨w.heap.size, 0, none⟩ = some (.int .i64 k) ∧ W.cell? ⟨w.heap.size, 1, none⟩ = some (.string n) ∧ W.cell? ⟨w.heap.size, 2, none⟩ = some (.int .i64 s) ∧ W.cell? ⟨w.heap.size, 3, none⟩ = some (.slice xk l kc)))
      (first | exact HCr.out _ (by assumption) | go_keep)
      (first
        | (go_at_call 13; refine (HC1.out _ hF0).mono ?_; rintro e w4 ⟨he, hB⟩; subst he; have hF1 : Ext wr w4 := hF0.trans hB; clear hB))
    have HF1 := Lib.hid hF1
    clear hF0 hF1 g0 g1 g2 g3 x0 x1 x2 x3
    cases cb with
    | true =>
      go_wp2_with fail
      go_ret
      exact ⟨by rw [HST.out]; rfl, Ext.trans HBw.out (Ext.trans HE.out HF1.out)⟩
    | false =>
      go_wp2_with fail
      go_roundw
      case rel => exact ⟨j + 1, by omega, by go_num, Lib.hid (by rw [HST.out]; rfl), Ext.trans HE.out HF1.out⟩
      case measure => simp [intOf]; omega

/-- What is still to come. -/
def tailO (d : Bool) (r : List Bd) (b : Bd) : List Bd := match d with
  | true => r
  | false => insO r b
/-- At the head of Bind's loop. -/
structure BdR (w : World) (bs : List Bd) (v t : Tm) (a0 a1 a2 a3 b0 b1 b2 b3 : Value) (j : Nat) (d : Bool) (l : Value) (acc : List Bd) (wr : World) : Prop where
  vbox : wr.heap[w.heap.size]? = some (.cells #[a0, a1, a2, a3] 25 (0, 0))
  tbox : wr.heap[w.heap.size + 1]? = some (.cells #[b0, b1, b2, b3] 25 (0, 0))
  own : OwnBd (w.heap.size + 2) w.heap.size wr acc l
  below : Below w.heap.size w wr
  size : w.heap.size + 2 ≤ wr.heap.size
  eq : acc ++ tailO d (bs.drop j) (v, t) = insO bs (v, t)
theorem BdR.ext {w wr W : World} {bs : List Bd} {v t : Tm} {a0 a1 a2 a3 b0 b1 b2 b3 : Value} {j : Nat} {d : Bool} {l : Value} {acc : List Bd} (h : BdR w bs v t a0 a1 a2 a3 b0 b1 b2 b3 j d l acc wr) (hE : Ext wr W) : BdR w bs v t a0 a1 a2 a3 b0 b1 b2 b3 j d l acc W := by
  have hz := h.size
  have hz2 := hE.size
  exact ⟨(hE.block _ (by omega)).trans h.vbox, (hE.block _ (by omega)).trans h.tbox, OwnBd_ext h.own (by omega) hE, h.below.trans (hE.mono (by omega)), by omega, h.eq⟩
/-- One binding appended; 'vw' is the world that the append comes in. -/
theorem BdR.push {w wr vw w8 : World} {bs : List Bd} {v t x y : Tm} {a0 a1 a2 a3 b0 b1 b2 b3 c0 c1 c2 c3 d0 d1 d2 d3 : Value} {j j' n lcap g cap : Nat} {d d' : Bool} {xl : Option Addr} {acc : List Bd} {cs : List Value} (h : BdR w bs v t a0 a1 a2 a3 b0 b1 b2 b3 j d (.slice xl n lcap) acc wr) (hn : n = acc.length)
    (hown : wr.ownsRow (w.heap.size + 2) 77 8 (.slice xl n lcap) n cs) (hK : KC (fun b => b < w.heap.size) wr (flatB acc) cs) (hI : Is w x c0 c1 c2 c3) (hJ : Is w y d0 d1 d2 d3) (hv : Below (w.heap.size + 2) wr vw) (hvs : w.heap.size + 2 ≤ vw.heap.size)
    (ho : w8.ownsRow (w.heap.size + 2) 77 8 (.slice (some ⟨g, 0, none⟩) (n + 1) cap) (n + 1) (cs ++ [c0, c1, c2, c3, d0, d1, d2, d3])) (hg : vw.grownBy w8 (Value.slice xl n lcap).ownBlock)
    (he : (acc ++ [(x, y)]) ++ tailO d' (bs.drop j') (v, t) = insO bs (v, t)) : BdR w bs v t a0 a1 a2 a3 b0 b1 b2 b3 j' d' (.slice (some ⟨g, 0, none⟩) (n + 1) cap) (acc ++ [(x, y)]) w8 := by
  have hz := h.size
  have r := OwnBd_push hown hK hn (IsIn_carry (fun b hb => h.below.block b hb) (fun _ h => h) _ _ _ _ _ (Is_IsIn _ _ _ _ _ hI)) (IsIn_carry (fun b hb => h.below.block b hb) (fun _ h => h) _ _ _ _ _ (Is_IsIn _ _ _ _ _ hJ)) (by omega) hv hvs ho hg
  exact ⟨(r.2.block _ (by omega)).trans h.vbox, (r.2.block _ (by omega)).trans h.tbox, r.1, h.below.trans (r.2.mono (by omega)), by have := r.2.size; have := hg.size; omega, he⟩
theorem insO_step {bs : List Bd} {b : Bd} {j : Nat} {acc : List Bd} (h : j < bs.length) (hc : ¬ cmpT b.1 bs[j].1 < 0) (he : acc ++ insO (bs.drop j) b = insO bs b) : (acc ++ [bs[j]]) ++ insO (bs.drop (j + 1)) b = insO bs b := by
  rw [← he, List.drop_eq_getElem_cons h, insO, if_neg hc, List.append_assoc]; rfl
theorem insO_hit {bs : List Bd} {b : Bd} {j : Nat} {acc : List Bd} (h : j < bs.length) (hc : cmpT b.1 bs[j].1 < 0) (he : acc ++ insO (bs.drop j) b = insO bs b) : (acc ++ [b]) ++ bs.drop j = insO bs b := by
  rw [← he, List.drop_eq_getElem_cons h, insO, if_pos hc, List.append_assoc]; rfl
theorem ins_copy {bs us : List Bd} {j : Nat} {acc : List Bd} (h : j < bs.length) (he : acc ++ bs.drop j = us) : (acc ++ [bs[j]]) ++ bs.drop (j + 1) = us := by
  rw [← he, List.drop_eq_getElem_cons h, List.append_assoc]; rfl


set_option maxHeartbeats 6400000 in
set_option maxRecDepth 100000 in
theorem rbind_any (bs : List Bd) (xa : Option Addr) (cap : Nat) (v t : Tm) (c0 c1 c2 c3 d0 d1 d2 d3 : Value) (w : World) (hcap : bs.length ≤ cap) (hlen : bs.length ≤ 1048576) (hsz : SzB 1073741824 bs) (hR : Row w (flatB bs) xa) (hv : size v ≤ 1073741824) (ht : size t ≤ 1073741824) (hI : Is w v c0 c1 c2 c3) (hJ : Is w t d0 d1 d2 d3) :
    Calls Tryd.prog 66 #[.slice xa bs.length cap, .agg #[c0, c1, c2, c3], .agg #[d0, d1, d2, d3]] w (BindPost w (insB bs (v, t))) := by
  obtain ⟨k, n, s, xk, l, kc, rfl, rfl, rfl, rfl⟩ := Is_form hI
  obtain ⟨k2, n2, s2, xk2, l2, kc2, rfl, rfl, rfl, rfl⟩ := Is_form hJ
  obtain ⟨hb0, hb1, hBw, hZ⟩ := boxes2 w (.int .i64 k) (.string n) (.int .i64 s) (.slice xk l kc) (.int .i64 k2) (.string n2) (.int .i64 s2) (.slice xk2 l2 kc2) 25
  have HS := Lib.hid (fun W (y : Ext w W) => same_any v t _ _ _ _ _ _ _ _ W (by omega) (by omega) (Is_below (w' := W) hI y) (Is_below (w' := W) hJ y))
  have HR := Lib.hid hR
  have HIv := Lib.hid hI
  have HIt := Lib.hid hJ
  have HSZ := Lib.hid hsz
  have HVZ := Lib.hid hv
  have HCAP := Lib.hid hcap
  have HDEF : Hid (insB bs (v, t) = if cmpT v t = 0 then bs else insO bs (v, t)) := rfl
  obtain ⟨i0, hi0, hz0, hz1, hz2⟩ := info_parts infoBd
  have HI0 := Lib.hid (And.intro hi0 (And.intro hz0 (And.intro hz1 hz2)))
  have HST : Hid (∀ W, Ext ((w.alloc (.cells #[.int .i64 k, .string n, .int .i64 s, .slice xk l kc] 25)).alloc (.cells #[.int .i64 k2, .string n2, .int .i64 s2, .slice xk2 l2 kc2] 25)) W → BdR w bs v t (.int .i64 k) (.string n) (.int .i64 s) (.slice xk l kc) (.int .i64 k2) (.string n2) (.int .i64 s2) (.slice xk2 l2 kc2) 0 false (.slice none 0 0) [] W) := fun W h => ⟨(h.block _ (by omega)).trans hb0, (h.block _ (by omega)).trans hb1, OwnBd_nil _ _ _, Ext.trans hBw h, by have := h.size; omega, rfl⟩
  have HBw := Lib.hid hBw
  obtain ⟨⟨x0, x1, x2, x3⟩, _⟩ := box_facts hb0
  obtain ⟨⟨y0, y1, y2, y3⟩, _⟩ := box_facts hb1
  obtain ⟨cb, hcb⟩ : ∃ cb, (cmpT v t == 0) = cb := ⟨_, rfl⟩
  rw [hcb] at HS
  have HCB := Lib.hid hcb
  clear hb0 hb1 hBw hZ hi0 hz0 hz1 hz2 hR hI hJ hsz hv ht hcap hcb
  go_enter Tryd.func66, Tryd.ntmps66
  cases cb with
  | true =>
    have HE : Hid (insB bs (v, t) = bs) := by show _ = _; rw [HDEF.out, if_pos (by simpa using HCB.out)]
    go_wp2_with (go_at_call 13; refine (HS.out _ HBw.out).mono ?_; rintro e w3 ⟨he, hB⟩; subst he; have HB3 := Lib.hid (Ext.trans HBw.out hB); clear hB)
    go_ret
    exact ⟨xa, cap, by rw [HE.out]; rfl, by rw [HE.out]; exact HCAP.out, by rw [HE.out]; exact Row_below HR.out HB3.out, HB3.out⟩
  | false =>
    have HE : Hid (insB bs (v, t) = insO bs (v, t)) := by show _ = _; rw [HDEF.out, if_neg (by simpa using HCB.out)]
    go_wp2_with (go_at_call 13; refine (HS.out _ HBw.out).mono ?_; rintro e w3 ⟨he, hB⟩; subst he; have HB3 := Lib.hid (HST.out _ hB); clear hB x0 x1 x2 x3 y0 y1 y2 y3)
    go_loopw [7, 8, 9] (fun lv d i wr => ∃ (j : Nat) (dd : Bool) (acc : List Bd), j ≤ bs.length ∧ (acc.length ≤ j + 1 ∧ (dd = false → acc.length ≤ j)) ∧ d = .bool dd ∧ i = .int .i64 j ∧ BdR w bs v t (.int .i64 k) (.string n) (.int .i64 s) (.slice xk l kc) (.int .i64 k2) (.string n2) (.int .i64 s2) (.slice xk2 l2 kc2) j dd lv acc wr) (fun _ _ i _ => bs.length - (intOf i).toNat)
    case atStart => exact ⟨0, false, [], Nat.zero_le _, ⟨Nat.zero_le _, fun _ => Nat.zero_le _⟩, rfl, rfl, HB3.out⟩
    case round =>
      obtain ⟨j, dd, acc, hj, ⟨haj, hajf⟩, rfl, rfl, hB⟩ := hrel
      obtain ⟨xl, lcap, rfl⟩ := OwnBd_form hB.own
      obtain ⟨⟨x0, x1, x2, x3⟩, _⟩ := box_facts hB.vbox
      obtain ⟨⟨y0, y1, y2, y3⟩, _⟩ := box_facts hB.tbox
      obtain ⟨cs, hown, hK⟩ := hB.own
      have HB := Lib.hid hB
      have HOW := Lib.hid (And.intro hown hK)
      have HO := Lib.hid hown
      have rfl' : acc.length = acc.length := rfl
      by_cases hlt : j < bs.length
      rotate_left
      · have hjl : j = bs.length := by omega
        cases dd with
        | true =>
          have HEQ : Hid (acc = insB bs (v, t)) := by
            show _ = _
            have h := hB.eq
            rw [hjl, List.drop_length] at h
            rw [HE.out, ← h]; simp [tailO]
          have HROW := Lib.hid (OwnBd_row hB.own)
          have HBL := Lib.hid hB.below
          clear hB hown hK hjl
          go_wp2_with fail
          go_ret
          exact ⟨xl, lcap, by rw [← HEQ.out]; rfl, by rw [← HEQ.out]; exact HROW.out.2, by rw [← HEQ.out]; exact HROW.out.1, HBL.out⟩
        | false =>
          have HEQ : Hid ((acc ++ [(v, t)]) ++ tailO true (bs.drop bs.length) (v, t) = insO bs (v, t)) := by
            show _ = _
            have h := hB.eq
            rw [hjl, List.drop_length] at h
            rw [← h, List.drop_length]; simp [insO, tailO]
          have hws := hB.size
          clear hB hown hK hjl
          go_wp2_with (at_builtin; refine wpList_append_lies _ rfl _ _ _ rfl (w.heap.size + 2) 77 i0 _ 8 112 Tryd.underlying33 HI0.out.1 HI0.out.2.1 HI0.out.2.2.1 HI0.out.2.2.2 rfl (by omega) (.slice xl acc.length lcap) acc.length cs rfl (HO.out.alloc _) ⟨wr.heap.size, 0, none⟩ 1 1 [.int .i64 k, .string n, .int .i64 s, .slice xk l kc, .int .i64 k2, .string n2, .int .i64 s2, .slice xk2 l2 kc2] rfl rfl (World.news_of_block (cs := #[.int .i64 k, .string n, .int .i64 s, .slice xk l kc, .int .i64 k2, .string n2, .int .i64 s2, .slice xk2 l2 kc2]) (t := 77) (fr := (0, 0)) (heap_alloc_new wr _)) (by simp [Value.oneCell']) (by omega) (by unfold maxLen; omega) (by omega) (by simp; omega) (wr.heap.size + 1) (by simp) ?_; intro gg cap2 w8 hown8 hgrow8 hat8 hlt8; have HP8 := Lib.hid (HB.out.push rfl' HOW.out.1 HOW.out.2 HIv.out HIt.out (((Below.refl (w.heap.size + 2) wr).alloc HB.out.size _)) (by rw [World.size_alloc]; have := HB.out.size; omega) hown8 hgrow8 HEQ.out); clear hown8 hgrow8 hat8 hlt8)
          go_ret
          have HROW := HP8.out.eq
          rw [List.drop_length] at HROW
          have e9 : acc ++ [(v, t)] = insB bs (v, t) := by rw [HE.out, ← HROW]; simp [tailO]
          obtain ⟨r1, r2⟩ := OwnBd_row (bs := acc ++ [(v, t)]) (cap := cap2) (xa := some ⟨gg, 0, none⟩) (by have := HP8.out.own; simpa using this)
          refine ⟨some ⟨gg, 0, none⟩, cap2, by rw [← e9]; simp, by rw [← e9]; exact r2, by rw [← e9]; exact r1, HP8.out.below⟩
      have HRB := Lib.hid (Is_below HIv.out hB.below)
      obtain ⟨b, o, rfl⟩ := Row_at HR.out (by rw [flatB_length]; omega)
      obtain ⟨⟨v0, v1, v2, v3, g0, g1, g2, g3, hIa⟩, u0, u1, u2, u3, g4, g5, g6, g7, hIb⟩ := bds_get HR.out j hlt
      obtain ⟨k3, n3, s3, xk3, l3, kc3, rfl, rfl, rfl, rfl⟩ := Is_form hIa
      obtain ⟨k4, n4, s4, xk4, l4, kc4, rfl, rfl, rfl, rfl⟩ := Is_form hIb
      rw [Nat.add_assoc] at g5 g6 g7
      have HCr : Hid (∀ W, Ext w W → (W.cell? ⟨b, o + j * 8, none⟩ = some (.int .i64 k3) ∧ W.cell? ⟨b, o + j * 8 + 1, none⟩ = some (.string n3) ∧ W.cell? ⟨b, o + j * 8 + 2, none⟩ = some (.int .i64 s3) ∧ W.cell? ⟨b, o + j * 8 + 3, none⟩ = some (.slice xk3 l3 kc3)) ∧ W.cell? ⟨b, o + j * 8 + 4, none⟩ = some (.int .i64 k4) ∧ W.cell? ⟨b, o + j * 8 + 5, none⟩ = some (.string n4) ∧ W.cell? ⟨b, o + j * 8 + 6, none⟩ = some (.int .i64 s4) ∧ W.cell? ⟨b, o + j * 8 + 7, none⟩ = some (.slice xk4 l4 kc4)) := fun W x => ⟨⟨keep_below x _ _ g0, keep_below x _ _ g1, keep_below x _ _ g2, keep_below x _ _ g3⟩, keep_below x _ _ g4, keep_below x _ _ g5, keep_below x _ _ g6, keep_below x _ _ g7⟩
      have HIa := Lib.hid hIa
      have HIb := Lib.hid hIb
      have i1 : (0 : Int) ≤ (j : Int) := by omega
      have i2 : (j : Int) < (bs.length : Int) := by omega
      have hz1 := HSZ.out bs[j] (List.getElem_mem hlt)
      cases dd with
      | true =>
        have HEQ : Hid ((acc ++ [bs[j]]) ++ tailO true (bs.drop (j + 1)) (v, t) = insO bs (v, t)) := ins_copy hlt hB.eq
        clear hB hown hK hIa hIb g0 g1 g2 g3 g4 g5 g6 g7 HOW HO x0 x1 x2 x3 y0 y1 y2 y3 hz1 HRB
        go_wp2_with fail
        go_quiet (fail)
        have HB4 := Lib.hid (HB.out.ext (below_drewN (Below.refl _ _) nq))
        generalize wr.drewN nq = w4 at HB4 ⊢
        obtain ⟨cs, hown, hK⟩ := HB4.out.own
        have HOW := Lib.hid (And.intro hown hK)
        have HO := Lib.hid hown
        have hws := HB4.out.size
        clear hown hK HB
        obtain ⟨⟨g0, g1, g2, g3⟩, g4, g5, g6, g7⟩ := HCr.out _ HB4.out.below
        go_wp2_with (at_builtin; refine wpList_append_lies _ rfl _ _ _ rfl (w.heap.size + 2) 77 i0 _ 8 112 Tryd.underlying33 HI0.out.1 HI0.out.2.1 HI0.out.2.2.1 HI0.out.2.2.2 rfl (by omega) (.slice xl acc.length lcap) acc.length cs rfl (HO.out.alloc _) ⟨w4.heap.size, 0, none⟩ 1 1 [.int .i64 k3, .string n3, .int .i64 s3, .slice xk3 l3 kc3, .int .i64 k4, .string n4, .int .i64 s4, .slice xk4 l4 kc4] rfl rfl (World.news_of_block (cs := #[.int .i64 k3, .string n3, .int .i64 s3, .slice xk3 l3 kc3, .int .i64 k4, .string n4, .int .i64 s4, .slice xk4 l4 kc4]) (t := 77) (fr := (0, 0)) (heap_alloc_new w4 _)) (by simp [Value.oneCell']) (by omega) (by unfold maxLen; omega) (by omega) (by simp; omega) (w4.heap.size + 1) (by simp) ?_; intro gg cap2 w8 hown8 hgrow8 hat8 hlt8; have HP8 := Lib.hid (HB4.out.push (rfl) HOW.out.1 HOW.out.2 HIa.out HIb.out (((Below.refl (w.heap.size + 2) w4).alloc HB4.out.size _)) (by rw [World.size_alloc]; have := HB4.out.size; omega) hown8 hgrow8 HEQ.out); clear hown8 hgrow8 hat8 hlt8)
        go_roundw
        case rel => exact ⟨j + 1, true, acc ++ [bs[j]], by omega, ⟨by simp; omega, fun h => absurd h (by decide)⟩, rfl, by go_num, by simpa using HP8.out⟩
        case measure => simp [intOf]; omega
      | false =>
        have haj2 := hajf rfl
        clear hajf
        have hC := fun W (y : Ext wr W) => rcompare_any (size v) v bs[j].1 _ _ _ _ _ _ _ _ W (Nat.le_refl _) (by have := HVZ.out; omega) (by omega) (Is_below (w' := W) HIv.out (hB.below.trans (y.mono hB.below.size))) (Is_below (w' := W) hIa (hB.below.trans (y.mono hB.below.size)))
        have HC := Lib.hid hC
        have heq := hB.eq
        have HEQs := Lib.hid (fun (h : ¬ cmpT v bs[j].1 < 0) => (show (acc ++ [bs[j]]) ++ tailO false (bs.drop (j + 1)) (v, t) = insO bs (v, t) from insO_step hlt h heq))
        have HEQh := Lib.hid (fun (h : cmpT v bs[j].1 < 0) => (show (acc ++ [(v, t)]) ++ tailO true (bs.drop j) (v, t) = insO bs (v, t) from insO_hit hlt h heq))
        have HEQc := Lib.hid (fun (h : (acc ++ [(v, t)]) ++ tailO true (bs.drop j) (v, t) = insO bs (v, t)) => (show ((acc ++ [(v, t)]) ++ [bs[j]]) ++ tailO true (bs.drop (j + 1)) (v, t) = insO bs (v, t) from ins_copy hlt h))
        obtain ⟨⟨g0, g1, g2, g3⟩, _⟩ := HCr.out wr hB.below
        have HCx : Hid (∀ W, Ext wr W → (W.cell? ⟨w.heap.size, 0, none⟩ = some (.int .i64 k) ∧ W.cell? ⟨w.heap.size, 1, none⟩ = some (.string n) ∧ W.cell? ⟨w.heap.size, 2, none⟩ = some (.int .i64 s) ∧ W.cell? ⟨w.heap.size, 3, none⟩ = some (.slice xk l kc)) ∧ W.cell? ⟨b, o + j * 8, none⟩ = some (.int .i64 k3) ∧ W.cell? ⟨b, o + j * 8 + 1, none⟩ = some (.string n3) ∧ W.cell? ⟨b, o + j * 8 + 2, none⟩ = some (.int .i64 s3) ∧ W.cell? ⟨b, o + j * 8 + 3, none⟩ = some (.slice xk3 l3 kc3)) := fun W y => ⟨⟨keep_below y _ _ x0, keep_below y _ _ x1, keep_below y _ _ x2, keep_below y _ _ x3⟩, (HCr.out W (HB.out.below.trans (y.mono HB.out.below.size))).1⟩
        generalize cmpT v bs[j].1 = c at HC HEQs HEQh
        have hF0 : Ext wr wr.drew := (Ext.refl wr).drew
        clear hB hown hK hIa hIb HOW HO y0 y1 y2 y3 hz1 HRB hC heq g4 g5 g6 g7
        go_wp2_with fail
        go_region_held3 (fun W => (W.cell? ⟨w.heap.size, 0, none⟩ = some (.int .i64 k) ∧ W.cell? ⟨w.heap.size, 1, none⟩ = some (.string n) ∧ W.cell? ⟨w.heap.size, 2, none⟩ = some (.int .i64 s) ∧ W.cell? ⟨w.heap.size, 3, none⟩ = some (.slice xk l kc)) ∧ W.cell? ⟨b, o + j * 8, none⟩ = some (.int .i64 k3) ∧ W.cell? ⟨b, o + j * 8 + 1, none⟩ = some (.string n3) ∧ W.cell? ⟨b, o + j * 8 + 2, none⟩ = some (.int .i64 s3) ∧ W.cell? ⟨b, o + j * 8 + 3, none⟩ = some (.slice xk3 l3 kc3))
          (first | exact HCx.out _ (by assumption) | go_keep)
          (first
            | (go_at_call 48; refine (HC.out _ hF0).mono ?_; rintro e w4 ⟨he, hB⟩; subst he; have hF1 : Ext wr w4 := hF0.trans hB; clear hB))
        have HB4 := Lib.hid (HB.out.ext hF1)
        clear hF0 hF1 g0 g1 g2 g3 x0 x1 x2 x3 HB
        obtain ⟨⟨x0, x1, x2, x3⟩, _⟩ := box_facts HB4.out.vbox
        obtain ⟨⟨y0, y1, y2, y3⟩, _⟩ := box_facts HB4.out.tbox
        obtain ⟨cs, hown, hK⟩ := HB4.out.own
        have HOW := Lib.hid (And.intro hown hK)
        have HO := Lib.hid hown
        have hws := HB4.out.size
        clear hown hK
        by_cases hc : c < 0
        · have HEQ := Lib.hid (HEQh.out (by omega))
          have HEQ2 := Lib.hid (HEQc.out HEQ.out)
          have q4 : decide (c < 0) = true := decide_eq_true hc
          rw [q4]
          have tok1 : True := trivial
          clear hc
          go_wp2_with (first | (have _t := tok1; ((at_builtin; refine wpList_append_lies _ rfl _ _ _ rfl (w.heap.size + 2) 77 i0 _ 8 112 Tryd.underlying33 HI0.out.1 HI0.out.2.1 HI0.out.2.2.1 HI0.out.2.2.2 rfl (by omega) (.slice xl acc.length lcap) acc.length cs rfl (HO.out.alloc _) ⟨w4.heap.size, 0, none⟩ 1 1 [.int .i64 k, .string n, .int .i64 s, .slice xk l kc, .int .i64 k2, .string n2, .int .i64 s2, .slice xk2 l2 kc2] rfl rfl (World.news_of_block (cs := #[.int .i64 k, .string n, .int .i64 s, .slice xk l kc, .int .i64 k2, .string n2, .int .i64 s2, .slice xk2 l2 kc2]) (t := 77) (fr := (0, 0)) (heap_alloc_new w4 _)) (by simp [Value.oneCell']) (by omega) (by unfold maxLen; omega) (by omega) (by simp; omega) (w4.heap.size + 1) (by simp) ?_; intro gg cap2 w8 hown8 hgrow8 hat8 hlt8; have HP8 := Lib.hid (HB4.out.push (rfl) HOW.out.1 HOW.out.2 HIv.out HIt.out (((Below.refl (w.heap.size + 2) w4).alloc HB4.out.size _)) (by rw [World.size_alloc]; have := HB4.out.size; omega) hown8 hgrow8 HEQ.out); clear hown8 hgrow8 hat8 hlt8); clear tok1 x0 x1 x2 x3 y0 y1 y2 y3; obtain ⟨⟨g0, g1, g2, g3⟩, g4, g5, g6, g7⟩ := HCr.out _ HP8.out.below; obtain ⟨cs2, hown2, hK2⟩ := HP8.out.own; simp only [List.length_append, List.length_cons, List.length_nil, Nat.zero_add] at hown2; have HO2 := Lib.hid hown2; have hws8 := HP8.out.size; have HOW2 := Lib.hid (And.intro hown2 hK2); clear hown2 hK2)) | (at_builtin; refine wpList_append_lies _ rfl _ _ _ rfl (w.heap.size + 2) 77 i0 _ 8 112 Tryd.underlying33 HI0.out.1 HI0.out.2.1 HI0.out.2.2.1 HI0.out.2.2.2 rfl (by omega) (.slice (some ⟨gg, 0, none⟩) (acc.length + 1) cap2) (acc.length + 1) cs2 rfl (HO2.out.alloc _) ⟨w8.heap.size, 0, none⟩ 1 1 [.int .i64 k3, .string n3, .int .i64 s3, .slice xk3 l3 kc3, .int .i64 k4, .string n4, .int .i64 s4, .slice xk4 l4 kc4] rfl rfl (World.news_of_block (cs := #[.int .i64 k3, .string n3, .int .i64 s3, .slice xk3 l3 kc3, .int .i64 k4, .string n4, .int .i64 s4, .slice xk4 l4 kc4]) (t := 77) (fr := (0, 0)) (heap_alloc_new w8 _)) (by simp [Value.oneCell']) (by omega) (by unfold maxLen; omega) (by omega) (by simp; omega) (w8.heap.size + 1) (by simp) ?_; intro gg3 cap3 w9 hown9 hgrow9 hat9 hlt9; have HP9 := Lib.hid (HP8.out.push (by simp) HOW2.out.1 HOW2.out.2 HIa.out HIb.out (((Below.refl (w.heap.size + 2) w8).alloc HP8.out.size _)) (by rw [World.size_alloc]; have := HP8.out.size; omega) hown9 hgrow9 HEQ2.out); clear hown9 hgrow9 hat9 hlt9))
          go_roundw
          case rel => exact ⟨j + 1, true, (acc ++ [(v, t)]) ++ [bs[j]], by omega, ⟨by simp; omega, fun h => absurd h (by decide)⟩, rfl, by go_num, by simpa using HP9.out⟩
          case measure => simp [intOf]; omega
        · have HEQ := Lib.hid (HEQs.out (by omega))
          have q4 : decide (c < 0) = false := decide_eq_false hc
          rw [q4]
          clear hc x0 x1 x2 x3 y0 y1 y2 y3
          obtain ⟨⟨g0, g1, g2, g3⟩, g4, g5, g6, g7⟩ := HCr.out _ HB4.out.below
          go_wp2_with (at_builtin; refine wpList_append_lies _ rfl _ _ _ rfl (w.heap.size + 2) 77 i0 _ 8 112 Tryd.underlying33 HI0.out.1 HI0.out.2.1 HI0.out.2.2.1 HI0.out.2.2.2 rfl (by omega) (.slice xl acc.length lcap) acc.length cs rfl (HO.out.alloc _) ⟨w4.heap.size, 0, none⟩ 1 1 [.int .i64 k3, .string n3, .int .i64 s3, .slice xk3 l3 kc3, .int .i64 k4, .string n4, .int .i64 s4, .slice xk4 l4 kc4] rfl rfl (World.news_of_block (cs := #[.int .i64 k3, .string n3, .int .i64 s3, .slice xk3 l3 kc3, .int .i64 k4, .string n4, .int .i64 s4, .slice xk4 l4 kc4]) (t := 77) (fr := (0, 0)) (heap_alloc_new w4 _)) (by simp [Value.oneCell']) (by omega) (by unfold maxLen; omega) (by omega) (by simp; omega) (w4.heap.size + 1) (by simp) ?_; intro gg cap2 w8 hown8 hgrow8 hat8 hlt8; have HP8 := Lib.hid (HB4.out.push (rfl) HOW.out.1 HOW.out.2 HIa.out HIb.out (((Below.refl (w.heap.size + 2) w4).alloc HB4.out.size _)) (by rw [World.size_alloc]; have := HB4.out.size; omega) hown8 hgrow8 HEQ.out); clear hown8 hgrow8 hat8 hlt8)
          go_roundw
          case rel => exact ⟨j + 1, false, acc ++ [bs[j]], by omega, ⟨by simp; omega, fun _ => (by simp; omega)⟩, rfl, by go_num, by simpa using HP8.out⟩
          case measure => simp [intOf]; omega
end Go.Proofs.YtkdnfioihhfmpaaDoor

/-
  THE REFERENCE's Compose (layer 2), walked.
-/
namespace Go.Proofs.YtkdnfioihhfmpaaDoor
open Go.RowKit

/-- What the definition composes: the list, and the error. -/
def comP (ss ts : List Bd) : List Bd × Int :=
  if validB ss = 0 then (if validB ts = 0 then (if (folP ts ss).2 = 0 then (if 200 < (comR ss ts).length then ([], 3) else (comR ss ts, 0)) else ([], (folP ts ss).2)) else ([], validB ts)) else ([], validB ss)
theorem folP_err (ts : List Bd) : ∀ (ss : List Bd) (j : Nat) (h : j < ss.length), (∀ (i : Nat) (hi : i < j), (applyP ts (ss[i]'(by omega)).2).2 = 0) → ¬ (applyP ts ss[j].2).2 = 0 → (folP ts ss).2 = (applyP ts ss[j].2).2
  | b :: bs, 0, _, _, he => by
    simp only [List.getElem_cons_zero] at he ⊢
    rw [folP, if_neg he]
  | b :: bs, j + 1, h, hok, he => by
    have h0 := hok 0 (by omega)
    simp only [List.getElem_cons_zero] at h0
    simp only [List.getElem_cons_succ] at he ⊢
    have hl : j < bs.length := by simpa using h
    have ih := folP_err ts bs j hl (fun i hi => by have := hok (i + 1) (by omega); simpa using this) he
    rw [folP, if_pos h0, if_neg (by rw [ih]; exact he), ih]
theorem folP_fine (ts : List Bd) : ∀ ss : List Bd, (∀ b ∈ ss, (applyP ts b.2).2 = 0) → (folP ts ss).2 = 0
  | [], _ => rfl
  | b :: bs, h => by
    have ih := folP_fine ts bs (fun c hc => h c (List.mem_cons_of_mem _ hc))
    rw [folP, if_pos (h b (List.mem_cons_self ..)), if_pos ih]
    by_cases e : cmpT b.1 (applyP ts b.2).1 = 0
    · rw [if_pos e]
    · rw [if_neg e]
theorem insB_len (s : List Bd) (b : Bd) : (insB s b).length ≤ s.length + 1 := by
  unfold insB
  by_cases h : cmpT b.1 b.2 = 0
  · rw [if_pos h]; omega
  · rw [if_neg h, insO_length]; omega
theorem insB_sz {M : Nat} {s : List Bd} {b : Bd} (h : SzB M s) (hb : size b.1 ≤ M ∧ size b.2 ≤ M) : SzB M (insB s b) := by
  unfold insB
  by_cases h0 : cmpT b.1 b.2 = 0
  · rw [if_pos h0]; exact h
  · rw [if_neg h0]
    intro c hc
    rcases List.mem_cons.1 ((insO_perm s b).mem_iff.1 hc) with rfl | hc
    · exact hb
    · exact h c hc
theorem insL_snoc (s l : List Bd) (b : Bd) : insL s (l ++ [b]) = insB (insL s l) b := by unfold insL; rw [List.foldl_append]; rfl
theorem apB_take (ts ss : List Bd) (j : Nat) (h : j < ss.length) : apB ts (ss.take (j + 1)) = apB ts (ss.take j) ++ [(ss[j].1, (applyP ts ss[j].2).1)] := by
  unfold apB
  rw [List.take_succ_eq_append_getElem h, List.map_append]; rfl
theorem restB_take_skip (ss ts : List Bd) (j : Nat) (h : j < ts.length) (hb : bndB ss ts[j].1 = true) : restB ss (ts.take (j + 1)) = restB ss (ts.take j) := by
  unfold restB
  rw [List.take_succ_eq_append_getElem h, List.filter_append, List.filter_cons, if_neg (by rw [hb]; decide)]; simp
theorem restB_take_keep (ss ts : List Bd) (j : Nat) (h : j < ts.length) (hb : bndB ss ts[j].1 = false) : restB ss (ts.take (j + 1)) = restB ss (ts.take j) ++ [ts[j]] := by
  unfold restB
  rw [List.take_succ_eq_append_getElem h, List.filter_append, List.filter_cons, if_pos (by rw [hb]; rfl)]; simp
/-- A list of bindings and an error, given back. -/
def RcPost (w : World) (r : List Bd × Int) (e : Ending) (w' : World) : Prop :=
  ∃ xa cap, e = .returned (.tuple #[.slice xa r.1.length cap, .int .i64 r.2]) ∧ r.1.length ≤ cap ∧ Row w' (flatB r.1) xa ∧ Below w.heap.size w w'
theorem RcPost_err {w W : World} {r : List Bd × Int} {x : Int} (h : r = ([], x)) (hB : Below w.heap.size w W) : RcPost w r (.returned (.tuple #[.slice none 0 0, .int .i64 x])) W := by
  rw [h]; exact ⟨none, 0, rfl, Nat.le_refl _, by simp [flatB, Row], hB⟩
/-- What lies in the slot of what is composed. -/
def OutB (w wr : World) (acc : List Bd) (n : Nat) (v : Value) : Prop :=
  ∃ xa cap, v = .slice xa acc.length cap ∧ acc.length ≤ cap ∧ acc.length ≤ n ∧ SzB 1073741824 acc ∧ Row wr (flatB acc) xa ∧ Below w.heap.size w wr
theorem BindPost.out {w wr w' : World} {acc : List Bd} {b : Bd} {n : Nat} {e : Ending} (hz : SzB 1073741824 acc) (hn : acc.length ≤ n) (hb : size b.1 ≤ 1073741824 ∧ size b.2 ≤ 1073741824) (hB : Below w.heap.size w wr) (h : BindPost wr (insB acc b) e w') : ∃ xa cap, e = .returned (.slice xa (insB acc b).length cap) ∧ OutB w w' (insB acc b) (n + 1) (.slice xa (insB acc b).length cap) ∧ Ext wr w' := by
  obtain ⟨xa, cap, he, h1, h2, h3⟩ := h
  exact ⟨xa, cap, he, ⟨xa, cap, rfl, h1, by have := insB_len acc b; omega, insB_sz hz hb, h2, hB.trans (h3.mono hB.size)⟩, h3⟩

set_option maxHeartbeats 3200000 in
set_option maxRecDepth 100000 in
theorem rcompose_bad1 (ss ts : List Bd) (xs xt : Option Addr) (cs ct : Nat) (w : World) (hcs : ss.length ≤ cs) (hl : ss.length ≤ maxLen) (hsz : SzB 1073741824 ss) (hrow : Row w (flatB ss) xs) (hv : ¬ validB ss = 0) :
    Calls Tryd.prog 30 #[.slice xs ss.length cs, .slice xt ts.length ct] w (RcPost w (comP ss ts)) := by
  have HV1 := Lib.hid (rbvalid_any ss xs cs w hcs hl hsz hrow)
  have HE : Hid (comP ss ts = ([], validB ss)) := by show _ = _; unfold comP; rw [if_neg hv]
  generalize validB ss = E at hv HV1 HE
  have q1 : (E != 0) = true := by rw [bne_iff_ne]; exact hv
  clear hcs hl hsz hrow hv
  go_enter Tryd.func30, Tryd.ntmps30
  go_wp2_with (go_at_call 18; refine (HV1.out).mono ?_; rintro e w1 ⟨he, hB⟩; subst he; have HB1 := Lib.hid hB; clear hB)
  exact bodyPost_ret (v := .tuple #[.slice none 0 0, .int .i64 E]) (by simp [results, Tryd.results30, go_sem]) rfl (RcPost_err HE.out HB1.out)
set_option maxHeartbeats 3200000 in
set_option maxRecDepth 100000 in
theorem rcompose_bad2 (ss ts : List Bd) (xs xt : Option Addr) (cs ct : Nat) (w : World) (hcs : ss.length ≤ cs) (hl : ss.length ≤ maxLen) (hsz : SzB 1073741824 ss) (hrow : Row w (flatB ss) xs) (hct : ts.length ≤ ct) (hlt : ts.length ≤ maxLen) (htz : SzB 1073741824 ts) (hrowt : Row w (flatB ts) xt) (hv1 : validB ss = 0) (hv : ¬ validB ts = 0) :
    Calls Tryd.prog 30 #[.slice xs ss.length cs, .slice xt ts.length ct] w (RcPost w (comP ss ts)) := by
  have HV1 := Lib.hid (rbvalid_any ss xs cs w hcs hl hsz hrow)
  have HV2 := Lib.hid (fun W (x : Ext w W) => rbvalid_any ts xt ct W hct hlt htz (Row_below (w' := W) hrowt x))
  have HE : Hid (comP ss ts = ([], validB ts)) := by show _ = _; unfold comP; rw [if_pos hv1, if_neg hv]
  rw [hv1] at HV1
  generalize validB ts = E at hv HV2 HE
  have q0 : ((0 : Int) != 0) = false := rfl
  have q1 : (E != 0) = true := by rw [bne_iff_ne]; exact hv
  have tok1 : True := trivial
  clear hcs hl hsz hrow hct hlt htz hrowt hv1 hv
  go_enter Tryd.func30, Tryd.ntmps30
  go_wp2_with (first
    | (go_at_call 18; have _t := tok1; refine (HV1.out).mono ?_; rintro e w1 ⟨he, hB⟩; subst he; have HB1 := Lib.hid hB; clear hB tok1)
    | (go_at_call 18; refine (HV2.out _ HB1.out).mono ?_; rintro e w2 ⟨he, hB⟩; subst he; have HB2 := Lib.hid (Ext.trans HB1.out hB); clear hB))
  exact bodyPost_ret (v := .tuple #[.slice none 0 0, .int .i64 E]) (by simp [results, Tryd.results30, go_sem]) rfl (RcPost_err HE.out HB2.out)

set_option maxHeartbeats 6400000 in
set_option maxRecDepth 100000 in
theorem rcompose_good (ss ts : List Bd) (xs xt : Option Addr) (cs ct N : Nat) (w : World) (hcs : ss.length ≤ cs) (hl : ss.length ≤ 200) (hsz : SzB 1073741824 ss) (hrow : Row w (flatB ss) xs) (hct : ts.length ≤ ct) (hlt : ts.length ≤ 200) (htz : SzB 1073741824 ts) (hrowt : Row w (flatB ts) xt) (hv1 : validB ss = 0) (hv2 : validB ts = 0) (hN : ∀ b ∈ ts, size b.2 ≤ N) (h1 : 1 ≤ N) (hsn : ∀ b ∈ ss, size b.2 * N ≤ 1073741824) :
    Calls Tryd.prog 30 #[.slice xs ss.length cs, .slice xt ts.length ct] w (RcPost w (comP ss ts)) := by
  have HV1 := Lib.hid (rbvalid_any ss xs cs w hcs (by unfold maxLen; omega) hsz hrow)
  have HV2 := Lib.hid (fun W (x : Ext w W) => rbvalid_any ts xt ct W hct (by unfold maxLen; omega) htz (Row_below (w' := W) hrowt x))
  rw [hv1] at HV1
  rw [hv2] at HV2
  have HAP := Lib.hid (fun (b : Bd) (hb : b ∈ ss) (c0 c1 c2 c3 : Value) W (x : Ext w W) (hI : Is W b.2 c0 c1 c2 c3) => rapply_any ts xt ct N b.2 c0 c1 c2 c3 W hct (by omega) htz (Row_below (w' := W) hrowt x) hN h1 (hsn b hb) hI)
  have HAZ := Lib.hid (fun (b : Bd) (hb : b ∈ ss) => applyP_size (ts := ts) (t := b.2) hN h1 (hsn b hb))
  have HAV : Hid (∀ t, applyV ts t = applyP ts t) := fun t => by unfold applyV; rw [if_pos hv2]
  have HBD := Lib.hid (fun (x : Tm) (c0 c1 c2 c3 : Value) W (hE : Ext w W) (hx : size x ≤ 1073741824) (hI : Is W x c0 c1 c2 c3) => bound_any ss xs cs x c0 c1 c2 c3 W hcs (by unfold maxLen; omega) hsz (Row_below (w' := W) hrow hE) hx hI)
  have HCP : Hid (comP ss ts = if (folP ts ss).2 = 0 then (if 200 < (comR ss ts).length then ([], 3) else (comR ss ts, 0)) else ([], (folP ts ss).2)) := by show _ = _; unfold comP; rw [if_pos hv1, if_pos hv2]
  have HRS := Lib.hid hrow
  have HRT := Lib.hid hrowt
  have HZS := Lib.hid hsz
  have HZT := Lib.hid htz
  have q0 : ((0 : Int) != 0) = false := rfl
  have tok1 : True := trivial
  clear hcs hsz hrow hct htz hrowt hv1 hv2 hN h1 hsn
  generalize comP ss ts = R at HCP ⊢
  go_enter Tryd.func30, Tryd.ntmps30
  go_wp2_with (first
    | (go_at_call 18; have _t := tok1; refine (HV1.out).mono ?_; rintro e w1 ⟨he, hB⟩; subst he; have HB1 := Lib.hid hB; clear hB tok1)
    | (go_at_call 18; refine (HV2.out _ HB1.out).mono ?_; rintro e w2 ⟨he, hB⟩; subst he; have HB2 := Lib.hid (Ext.trans HB1.out hB); clear hB))
  go_loopw [8, 9] (fun lv i wr => ∃ (j : Nat), j ≤ ss.length ∧ i = .int .i64 j ∧ OutB w wr (insL [] (apB ts (ss.take j))) j lv ∧ Hid (∀ (a : Nat) (ha : a < j) (hb : a < ss.length), (applyP ts ss[a].2).2 = 0)) (fun _ i _ => ss.length - (intOf i).toNat)
  case atStart => exact ⟨0, Nat.zero_le _, rfl, ⟨none, 0, rfl, Nat.le_refl _, Nat.le_refl _, fun b hb => by simp [insL, apB] at hb, by simp [insL, apB, flatB, Row], HB2.out⟩, fun a ha => absurd ha (by omega)⟩
  case round =>
    obtain ⟨j, hj, rfl, hO, HOK⟩ := hrel
    obtain ⟨xo, co, rfl, hoc, hon, hoz, hor, hB⟩ := hO
    by_cases hlt1 : j < ss.length
    rotate_left
    · -- all of s is done
      have hjl : j = ss.length := by omega
      rw [hjl, List.take_length] at hoc hon hoz hor ⊢
      have HFO : Hid ((folP ts ss).2 = 0) := folP_fine ts ss (fun b hb => by
        obtain ⟨a, ha, rfl⟩ := List.getElem_of_mem hb
        exact HOK.out a (by omega) ha)
      have hO2 : OutB w wr (insL (insL [] (apB ts ss)) (restB ss (ts.take 0))) (ss.length + 0) (.slice xo (insL [] (apB ts ss)).length co) := ⟨xo, co, rfl, hoc, by simpa [restB, insL] using hon, hoz, hor, hB⟩
      have HO2 := Lib.hid hO2
      clear hO2 hoc hon hoz hor hB hjl HOK
      go_wp2_with fail
      go_loopw [8, 12] (fun lv i wr2 => ∃ (j : Nat), j ≤ ts.length ∧ i = .int .i64 j ∧ OutB w wr2 (insL (insL [] (apB ts ss)) (restB ss (ts.take j))) (ss.length + j) lv) (fun _ i _ => ts.length - (intOf i).toNat)
      case atStart => exact ⟨0, Nat.zero_le _, rfl, HO2.out⟩
      case round =>
        obtain ⟨j2, hj2, rfl, hO⟩ := hrel
        obtain ⟨xo2, co2, rfl, hoc, hon, hoz, hor, hB⟩ := hO
        by_cases hlt2 : j2 < ts.length
        rotate_left
        · have hjl : j2 = ts.length := by omega
          rw [hjl, List.take_length] at hoc hon hoz hor ⊢
          have hcr : insL (insL [] (apB ts ss)) (restB ss ts) = comR ss ts := rfl
          rw [hcr] at hoc hon hoz hor ⊢
          have HQ : Hid (R = if 200 < (comR ss ts).length then ([], 3) else (comR ss ts, 0)) := by show _ = _; rw [HCP.out, if_pos HFO.out]
          have HOV := Lib.hid (And.intro hoc (And.intro hor hB))
          generalize comR ss ts = cc at HOV HQ hoc hon hoz hor ⊢
          clear hoc hon hoz hor hB hjl hcr
          by_cases h200 : 200 < cc.length
          · have HQ2 : Hid (R = ([], 3)) := by show _ = _; rw [HQ.out, if_pos h200]
            have q2 : (200 : Int) < (cc.length : Int) := by omega
            clear h200
            go_wp2_with fail
            exact bodyPost_ret (v := .tuple #[.slice none 0 0, .int .i64 3]) (by simp [results, Tryd.results30, go_sem]) rfl (RcPost_err HQ2.out HOV.out.2.2)
          · have HQ2 : Hid (R = (cc, 0)) := by show _ = _; rw [HQ.out, if_neg h200]
            have q2 : (cc.length : Int) ≤ 200 := by omega
            clear h200
            go_wp2_with fail
            refine bodyPost_ret (v := .tuple #[.slice xo2 cc.length co2, .int .i64 0]) (by simp [results, Tryd.results30, go_sem]) rfl ?_
            rw [HQ2.out]
            exact ⟨xo2, co2, rfl, HOV.out.1, HOV.out.2.1, HOV.out.2.2⟩
        obtain ⟨b, o, rfl⟩ := Row_at HRT.out (by rw [flatB_length]; omega)
        obtain ⟨⟨v0, v1, v2, v3, g0, g1, g2, g3, hI1⟩, t0, t1, t2, t3, g4, g5, g6, g7, hI2⟩ := bds_get (Row_below HRT.out hB) j2 hlt2
        obtain ⟨k1, n1, s1, ya1, yl1, yc1, rfl, rfl, rfl, rfl⟩ := Is_form hI1
        obtain ⟨k2, n2, s2, ya2, yl2, yc2, rfl, rfl, rfl, rfl⟩ := Is_form hI2
        rw [Nat.add_assoc] at g5 g6 g7
        have hz1 := HZT.out ts[j2] (List.getElem_mem hlt2)
        have HCB := Lib.hid (HBD.out ts[j2].1 _ _ _ _ wr hB hz1.1 hI1)
        have HSK := Lib.hid (restB_take_skip ss ts j2 hlt2)
        have HKP := Lib.hid (restB_take_keep ss ts j2 hlt2)
        have HOUT : Hid (OutB w wr (insL (insL [] (apB ts ss)) (restB ss (ts.take j2))) (ss.length + j2) (.slice xo2 (insL (insL [] (apB ts ss)) (restB ss (ts.take j2))).length co2)) := ⟨xo2, co2, rfl, hoc, hon, hoz, hor, hB⟩
        have HB := Lib.hid hB
        have HCr : Hid (∀ W, Ext wr W → (W.cell? ⟨b, o + j2 * 8, none⟩ = some (.int .i64 k1) ∧ W.cell? ⟨b, o + j2 * 8 + 1, none⟩ = some (.string n1) ∧ W.cell? ⟨b, o + j2 * 8 + 2, none⟩ = some (.int .i64 s1) ∧ W.cell? ⟨b, o + j2 * 8 + 3, none⟩ = some (.slice ya1 yl1 yc1)) ∧ (W.cell? ⟨b, o + j2 * 8 + 4, none⟩ = some (.int .i64 k2) ∧ W.cell? ⟨b, o + j2 * 8 + 5, none⟩ = some (.string n2) ∧ W.cell? ⟨b, o + j2 * 8 + 6, none⟩ = some (.int .i64 s2) ∧ W.cell? ⟨b, o + j2 * 8 + 7, none⟩ = some (.slice ya2 yl2 yc2))) := fun W h => ⟨⟨keep_below h _ _ g0, keep_below h _ _ g1, keep_below h _ _ g2, keep_below h _ _ g3⟩, ⟨keep_below h _ _ g4, keep_below h _ _ g5, keep_below h _ _ g6, keep_below h _ _ g7⟩⟩
        have HBN := Lib.hid (fun W (x : Ext wr W) => rbind_any (insL (insL [] (apB ts ss)) (restB ss (ts.take j2))) xo2 co2 ts[j2].1 ts[j2].2 _ _ _ _ _ _ _ _ W hoc (by omega) hoz (Row_below (w' := W) hor x) hz1.1 hz1.2 (Is_below (w' := W) hI1 x) (Is_below (w' := W) hI2 x))
        have HBO := Lib.hid (fun W e W' (x : Ext wr W) (h : BindPost W (insB (insL (insL [] (apB ts ss)) (restB ss (ts.take j2))) (ts[j2].1, ts[j2].2)) e W') => BindPost.out (n := ss.length + j2) hoz hon hz1 (Ext.trans hB x) h)
        have i1 : (0 : Int) ≤ (j2 : Int) := by omega
        have i2 : (j2 : Int) < (ts.length : Int) := by omega
        generalize bndB ss ts[j2].1 = bb at HCB HSK HKP
        obtain ⟨acc, hacc⟩ : ∃ acc, insL (insL [] (apB ts ss)) (restB ss (ts.take j2)) = acc := ⟨_, rfl⟩
        rw [hacc] at HOUT HBN HBO ⊢
        have HACC := Lib.hid hacc
        clear hoc hon hoz hor hB hI1 hI2 hz1 hacc
        cases bb with
        | true =>
          go_wp2_with (go_at_call 67; refine (HCB.out).mono ?_; rintro e w4 ⟨he, hB4⟩; subst he; have HB4 := Lib.hid hB4; clear hB4)
          go_roundw
          case rel =>
            refine ⟨j2 + 1, by omega, by go_num, ?_⟩
            rw [HSK.out (by first | trivial | rfl), HACC.out]
            obtain ⟨x9, c9, e9, r1, r2, r3, r4, r5⟩ := HOUT.out
            exact ⟨x9, c9, e9, r1, by omega, r3, Row_below r4 HB4.out, Ext.trans r5 HB4.out⟩
          case measure => simp [intOf]; omega
        | false =>
          go_upto_region 19 with (go_at_call 67; refine (HCB.out).mono ?_; rintro e w4 ⟨he, hB4⟩; subst he; have HB4 := Lib.hid hB4; clear hB4)
          have hF0 : Ext wr w4.drew := (Ext.trans (Ext.refl wr) HB4.out).drew
          clear g0 g1 g2 g3 g4 g5 g6 g7
          obtain ⟨⟨g0, g1, g2, g3⟩, g4, g5, g6, g7⟩ := HCr.out w4 HB4.out
          go_region_held3 (fun W => (W.cell? ⟨b, o + j2 * 8, none⟩ = some (.int .i64 k1) ∧ W.cell? ⟨b, o + j2 * 8 + 1, none⟩ = some (.string n1) ∧ W.cell? ⟨b, o + j2 * 8 + 2, none⟩ = some (.int .i64 s1) ∧ W.cell? ⟨b, o + j2 * 8 + 3, none⟩ = some (.slice ya1 yl1 yc1)) ∧ (W.cell? ⟨b, o + j2 * 8 + 4, none⟩ = some (.int .i64 k2) ∧ W.cell? ⟨b, o + j2 * 8 + 5, none⟩ = some (.string n2) ∧ W.cell? ⟨b, o + j2 * 8 + 6, none⟩ = some (.int .i64 s2) ∧ W.cell? ⟨b, o + j2 * 8 + 7, none⟩ = some (.slice ya2 yl2 yc2)))
            (first | exact HCr.out _ (by assumption) | go_keep)
            (first
              | (go_at_call 66; refine (HBN.out _ hF0).mono ?_; rintro e w6 hp; obtain ⟨xa6, cap6, he, hO6, hE6⟩ := HBO.out _ _ _ hF0 hp; subst he; have HO6 := Lib.hid hO6; have hF1 : Ext wr w6 := hF0.trans hE6; clear hp hO6 hE6))
          all_goals (go_wp2_with fail)
          all_goals (go_roundw)
          case rel =>
            refine ⟨j2 + 1, by omega, by go_num, ?_⟩
            rw [HKP.out (by first | trivial | rfl), insL_snoc, HACC.out]
            exact HO6.out
          case measure => simp [intOf]; omega
    obtain ⟨b, o, rfl⟩ := Row_at HRS.out (by rw [flatB_length]; omega)
    obtain ⟨⟨v0, v1, v2, v3, g0, g1, g2, g3, hI1⟩, t0, t1, t2, t3, g4, g5, g6, g7, hI2⟩ := bds_get (Row_below HRS.out hB) j hlt1
    obtain ⟨k1, n1, s1, ya1, yl1, yc1, rfl, rfl, rfl, rfl⟩ := Is_form hI1
    obtain ⟨k2, n2, s2, ya2, yl2, yc2, rfl, rfl, rfl, rfl⟩ := Is_form hI2
    rw [Nat.add_assoc] at g5 g6 g7
    have hz1 := HZS.out ss[j] (List.getElem_mem hlt1)
    have hC := HAP.out ss[j] (List.getElem_mem hlt1) _ _ _ _ wr hB hI2
    have hCz := HAZ.out ss[j] (List.getElem_mem hlt1)
    rw [HAV.out] at hC
    have htk := apB_take ts ss j hlt1
    have HERR := Lib.hid (fun (h : ¬ (applyP ts ss[j].2).2 = 0) => folP_err ts ss j hlt1 (fun i hi => HOK.out i hi (by omega)) h)
    have HOK2 : Hid ((applyP ts ss[j].2).2 = 0 → ∀ (a : Nat) (ha : a < j + 1) (hb : a < ss.length), (applyP ts ss[a].2).2 = 0) := fun h a ha hb => by
      by_cases e : a = j
      · subst e; exact h
      · exact HOK.out a (by omega) hb
    generalize applyP ts ss[j].2 = r at hC hCz htk HERR HOK2
    obtain ⟨u, x⟩ := r
    have HC := Lib.hid hC
    have HTK := Lib.hid htk
    have HCZ := Lib.hid hCz
    have HOV := Lib.hid (And.intro hoc (And.intro hon (And.intro hoz (And.intro hor hB))))
    have i1 : (0 : Int) ≤ (j : Int) := by omega
    have i2 : (j : Int) < (ss.length : Int) := by omega
    have HZ1 := Lib.hid hz1
    have HIV := Lib.hid hI1
    have HCr : Hid (∀ W, Ext wr W → W.cell? ⟨b, o + j * 8, none⟩ = some (.int .i64 k1) ∧ W.cell? ⟨b, o + j * 8 + 1, none⟩ = some (.string n1) ∧ W.cell? ⟨b, o + j * 8 + 2, none⟩ = some (.int .i64 s1) ∧ W.cell? ⟨b, o + j * 8 + 3, none⟩ = some (.slice ya1 yl1 yc1)) := fun W h => ⟨keep_below h _ _ g0, keep_below h _ _ g1, keep_below h _ _ g2, keep_below h _ _ g3⟩
    clear hC hCz htk hoc hon hoz hor hB hz1 hI1 hI2 g0 g1 g2 g3
    by_cases hx : x = 0
    rotate_left
    · have HQ : Hid (R = ([], x)) := by
        show _ = _
        have := HERR.out hx
        rw [HCP.out, if_neg (by rw [this]; exact hx), this]
      have q3 : (x != 0) = true := by rw [bne_iff_ne]; exact hx
      clear hx
      go_wp2_with (go_at_call 28; refine (HC.out).mono ?_; rintro e w4 ⟨c0, c1, c2, c3, he, hI4, hB4⟩; subst he; obtain ⟨k6, n6, s6, xa6, l6, cap6, e0, e1, e2, e3⟩ := Is_form hI4; subst e0 e1 e2 e3; have HB4 := Lib.hid hB4; clear hI4 hB4)
      exact bodyPost_ret (v := .tuple #[.slice none 0 0, .int .i64 x]) (by simp [results, Tryd.results30, go_sem]) rfl (RcPost_err HQ.out (Ext.alloc (a := w) (Ext.trans (a := w) HOV.out.2.2.2.2 HB4.out) _))
    have HOK3 := Lib.hid (HOK2.out hx)
    have HUZ := Lib.hid (HCZ.out hx)
    subst hx
    go_upto_region 14 with (go_at_call 28; refine (HC.out).mono ?_; rintro e w4 ⟨c0, c1, c2, c3, he, hI4, hB4⟩; subst he; obtain ⟨k6, n6, s6, xa6, l6, cap6, e0, e1, e2, e3⟩ := Is_form hI4; subst e0 e1 e2 e3; have HI4 := Lib.hid hI4; have HB4 := Lib.hid hB4; clear hI4 hB4)
    have hx5 := heap_alloc_new w4 (.cells #[.int .i64 k6, .string n6, .int .i64 s6, .slice xa6 l6 cap6] 25)
    have hI5 : Is (w4.alloc (.cells #[.int .i64 k6, .string n6, .int .i64 s6, .slice xa6 l6 cap6] 25)) u (.int .i64 k6) (.string n6) (.int .i64 s6) (.slice xa6 l6 cap6) := Is_alloc HI4.out _
    have hE5 : Ext wr (w4.alloc (.cells #[.int .i64 k6, .string n6, .int .i64 s6, .slice xa6 l6 cap6] 25)) := Ext.alloc HB4.out _
    have hs5 : w4.heap.size < (w4.alloc (.cells #[.int .i64 k6, .string n6, .int .i64 s6, .slice xa6 l6 cap6] 25)).heap.size := by rw [World.size_alloc]; omega
    generalize (w4.alloc (.cells #[.int .i64 k6, .string n6, .int .i64 s6, .slice xa6 l6 cap6] 25)) = w5 at hx5 hI5 hE5 hs5 ⊢
    generalize w4.heap.size = gb at hx5 hs5 ⊢
    obtain ⟨acc, hacc⟩ : ∃ acc, insL [] (apB ts (ss.take j)) = acc := ⟨_, rfl⟩
    rw [hacc] at HOV ⊢
    have HACC := Lib.hid hacc
    have HCs : Hid (∀ W, Ext w5 W → (W.cell? ⟨b, o + j * 8, none⟩ = some (.int .i64 k1) ∧ W.cell? ⟨b, o + j * 8 + 1, none⟩ = some (.string n1) ∧ W.cell? ⟨b, o + j * 8 + 2, none⟩ = some (.int .i64 s1) ∧ W.cell? ⟨b, o + j * 8 + 3, none⟩ = some (.slice ya1 yl1 yc1)) ∧ (W.cell? ⟨gb, 0, none⟩ = some (.int .i64 k6) ∧ W.cell? ⟨gb, 1, none⟩ = some (.string n6) ∧ W.cell? ⟨gb, 2, none⟩ = some (.int .i64 s6) ∧ W.cell? ⟨gb, 3, none⟩ = some (.slice xa6 l6 cap6))) := fun W h => ⟨HCr.out W (Ext.trans hE5 h), (box_facts ((h.block gb (by omega)).trans hx5)).1⟩
    have HBN := Lib.hid (fun W (x : Ext w5 W) => rbind_any acc xo co ss[j].1 u _ _ _ _ _ _ _ _ W HOV.out.1 (by have := HOV.out.2.1; omega) HOV.out.2.2.1 (Row_below (w' := W) HOV.out.2.2.2.1 (Ext.trans hE5 x)) HZ1.out.1 HUZ.out (Is_below (w' := W) HIV.out (Ext.trans hE5 x)) (Is_below (w' := W) hI5 x))
    have HBO := Lib.hid (fun W e W' (x : Ext w5 W) (h : BindPost W (insB acc (ss[j].1, u)) e W') => BindPost.out (b := (ss[j].1, u)) (n := j) HOV.out.2.2.1 HOV.out.2.1 ⟨HZ1.out.1, HUZ.out⟩ (Ext.trans HOV.out.2.2.2.2 (Ext.trans hE5 x)) h)
    have hF0 : Ext w5 w5.drew := (Ext.refl w5).drew
    obtain ⟨⟨g0, g1, g2, g3⟩, m0, m1, m2, m3⟩ := HCs.out w5 (Ext.refl w5)
    clear hx5 hI5 hE5 hs5 hacc
    go_region_held3 (fun W => (W.cell? ⟨b, o + j * 8, none⟩ = some (.int .i64 k1) ∧ W.cell? ⟨b, o + j * 8 + 1, none⟩ = some (.string n1) ∧ W.cell? ⟨b, o + j * 8 + 2, none⟩ = some (.int .i64 s1) ∧ W.cell? ⟨b, o + j * 8 + 3, none⟩ = some (.slice ya1 yl1 yc1)) ∧ (W.cell? ⟨gb, 0, none⟩ = some (.int .i64 k6) ∧ W.cell? ⟨gb, 1, none⟩ = some (.string n6) ∧ W.cell? ⟨gb, 2, none⟩ = some (.int .i64 s6) ∧ W.cell? ⟨gb, 3, none⟩ = some (.slice xa6 l6 cap6)))
      (first | exact HCs.out _ (by assumption) | go_keep)
      (first
        | (go_at_call 66; refine (HBN.out _ hF0).mono ?_; rintro e w6 hp; obtain ⟨xa9, cap9, he, hO6, hE6⟩ := HBO.out _ _ _ hF0 hp; subst he; have HO6 := Lib.hid hO6; have hF1 : Ext w5 w6 := hF0.trans hE6; clear hp hO6 hE6))
    all_goals (go_wp2_with fail)
    all_goals (go_roundw)
    case rel =>
      refine ⟨j + 1, by omega, by go_num, ?_, HOK3⟩
      rw [HTK.out, insL_snoc, HACC.out]
      exact HO6.out
    case measure => simp [intOf]; omega
end Go.Proofs.YtkdnfioihhfmpaaDoor
