import Derived.Test.YtbcpnepjojppaaaGreatDoorLawTheoryKeyxPof
namespace Go.Proofs.YtbcpnepjojppaaaGreatDoor
open Go.RowKit
def KdIn (base H : Nat) (wr : World) (acc : List Tm) (kv : Value) : Prop :=
  ∃ F : Nat → Prop, OwnT H F wr acc kv ∧ ∀ b, F b → (b < base ∨ H ≤ b ∧ b < wr.heap.size) ∧ kv.ownBlock ≠ some b
theorem KdIn_nil (base H : Nat) (w : World) : KdIn base H w [] (.slice none 0 0) := ⟨fun _ => False, OwnT_nil _ _ _, fun _ h => h.elim⟩
theorem KdIn_keep {base H : Nat} {w w' : World} {acc : List Tm} {kv : Value} (h : KdIn base H w acc kv) (hs : w.heap.size ≤ w'.heap.size) (hk : ∀ b, (b < base ∨ H ≤ b) → b < w.heap.size → w'.heap[b]? = w.heap[b]?) (hb : base ≤ w.heap.size) : KdIn base H w' acc kv := by
  obtain ⟨F, hO, hF⟩ := h
  refine ⟨F, OwnT_carry hO (fun b hb' => ?_) (fun g hg => hk g (Or.inr (OwnT_lt hO g hg).1) (OwnT_lt hO g hg).2), fun b hb' => ⟨?_, (hF b hb').2⟩⟩
  · rcases (hF b hb').1 with h | ⟨h1, h2⟩
    · exact hk b (Or.inl h) (by omega)
    · exact hk b (Or.inr h1) h2
  · rcases (hF b hb').1 with h | ⟨h1, h2⟩
    · exact Or.inl h
    · exact Or.inr ⟨h1, by omega⟩
theorem KdIn_form {base H : Nat} {w : World} {acc : List Tm} {kv : Value} (h : KdIn base H w acc kv) : ∃ xa cap, kv = .slice xa acc.length cap := by
  obtain ⟨F, hO, _⟩ := h; exact OwnT_form hO
theorem KdIn_push {base H n g lcap cap : Nat} {wr w6 w8 : World} {acc : List Tm} {xl : Option Addr} {cs : List Value} {F : Nat → Prop} {x : Tm} {c0 c1 c2 c3 : Value} {o : Obj} (hn : n = acc.length)
    (ho : wr.ownsRow H 24 4 (.slice xl n lcap) n cs) (hK : KC F wr acc cs) (hF : ∀ b, F b → (b < base ∨ H ≤ b ∧ b < wr.heap.size) ∧ (Value.slice xl n lcap).ownBlock ≠ some b) (hbH : base ≤ H) (hH : H ≤ wr.heap.size)
    (hB : Below wr.heap.size wr w6) (hI : IsIn (fun b => b < base ∨ (wr.heap.size ≤ b ∧ b < w6.heap.size)) w6 x c0 c1 c2 c3) (hown : w8.ownsRow H 24 4 (.slice (some ⟨g, 0, none⟩) (n + 1) cap) (n + 1) (cs ++ [c0, c1, c2, c3])) (hg : (w6.alloc o).grownBy w8 (Value.slice xl n lcap).ownBlock)
    (hat : (Value.slice xl n lcap).ownBlock = some g ∨ g = w6.heap.size + 1) :
    KdIn base H w8 (acc ++ [x]) (.slice (some ⟨g, 0, none⟩) (n + 1) cap) ∧ (∀ b, b < H → w8.heap[b]? = w6.heap[b]?) ∧ w6.heap.size ≤ w8.heap.size ∧ Below H w6 w8 := by
  subst hn
  have hsz := hB.size
  have hgs := hg.size
  rw [World.size_alloc] at hgs
  have hlt := fun q hq => ho.lt q hq
  have hk : ∀ b, b < w6.heap.size → (Value.slice xl acc.length lcap).ownBlock ≠ some b → w8.heap[b]? = w6.heap[b]? := fun b hb hne => by
    rw [hg.block b (by rw [World.size_alloc]; omega) (fun e => hne e.symm), Below.heap_alloc _ _ _ hb]
  have hnew : ∀ b, b < w6.heap.size → (Value.slice xl acc.length lcap).ownBlock ≠ some b → (Value.slice (some ⟨g, 0, none⟩) (acc.length + 1) cap).ownBlock ≠ some b := fun b h1 h2 e => by
    have e2 : g = b := by simpa [Value.ownBlock] using e
    rcases hat with h | h
    · exact h2 (by rw [h, e2])
    · omega
  have hFl : ∀ b, F b → b < wr.heap.size := fun b hb => by rcases (hF b hb).1 with h | h <;> omega
  refine ⟨⟨fun b => F b ∨ (wr.heap.size ≤ b ∧ b < w6.heap.size) ∨ (b < base), ⟨cs ++ [c0, c1, c2, c3], by simpa using hown, ?_⟩, ?_⟩, fun b hb => hk b (by omega) (fun e => by have := hlt b e; omega), by omega, ((Below.refl H w6).alloc (by omega) _).grown hg (by rw [World.size_alloc]; omega) (fun q hq => (hlt q hq).1)⟩
  · refine KC_append _ _ _ _ (KC_carry (fun b hb => ?_) (fun b hb => Or.inl hb) _ _ hK) (KC_one_term (IsIn_carry (fun b hb => ?_) (fun b hb => ?_) _ _ _ _ _ hI))
    · rw [hk b (by have := hFl b hb; omega) (hF b hb).2]; exact hB.block b (hFl b hb)
    · exact hk b (by rcases hb with h | h <;> omega) (fun e => by have := hlt b e; rcases hb with h | h <;> omega)
    · rcases hb with h | h
      · exact Or.inr (Or.inr h)
      · exact Or.inr (Or.inl h)
  · rintro b (hb | hb | hb)
    · refine ⟨?_, hnew b (by have := hFl b hb; omega) (hF b hb).2⟩
      rcases (hF b hb).1 with h | h
      · exact Or.inl h
      · exact Or.inr ⟨h.1, by omega⟩
    · exact ⟨Or.inr ⟨by omega, by omega⟩, hnew b hb.2 (fun e => by have := (hlt b e).2; omega)⟩
    · exact ⟨Or.inl hb, hnew b (by omega) (fun e => by have := (hlt b e).1; omega)⟩
theorem KdIn_node {base H : Nat} {w : World} {acc : List Tm} {k s : Int} {n : ByteArray} {kv : Value} (h : KdIn base H w acc kv) (hk : -9223372036854775808 ≤ k ∧ k ≤ 9223372036854775807) (hs : -9223372036854775808 ≤ s ∧ s ≤ 9223372036854775807) (hn : n.size ≤ maxLen) : IsIn (fun b => b < base ∨ H ≤ b ∧ b < w.heap.size) w (.mk k n s acc) (.int .i64 k) (.string n) (.int .i64 s) kv := by
  obtain ⟨F, ⟨cs, ho, hK⟩, hF⟩ := h
  have h := IsIn_app (S' := fun b => b < base ∨ H ≤ b ∧ b < w.heap.size) (nm := n) hn ho hK (fun b hb => (hF b hb).1) (fun g hg => Or.inr (ho.lt g hg))
  simp only [IsIn] at h ⊢
  obtain ⟨_, _, _, _, _, h5, h6, h7⟩ := h
  exact ⟨trivial, trivial, trivial, hk, hs, h5, h6, h7⟩
theorem KdIn_row {base H : Nat} {w : World} {acc : List Tm} {xa : Option Addr} {cap : Nat} (h : KdIn base H w acc (.slice xa acc.length cap)) : Row w acc xa ∧ acc.length ≤ cap := by
  have h := IsIn_Is _ _ _ _ _ (KdIn_node (k := 3) (s := 0) (n := ⟨#[]⟩) h (by omega) (by omega) (Nat.zero_le _))
  simp only [Is] at h
  obtain ⟨_, _, _, _, _, _, _, xa', cap', e, hc, hR⟩ := h
  simp only [Value.slice.injEq] at e
  obtain ⟨rfl, _, rfl⟩ := e
  exact ⟨hR, hc⟩
theorem KdIn_rowIn {H : Nat} {w : World} {acc : List Tm} {xa : Option Addr} {cap : Nat} (h : KdIn 0 H w acc (.slice xa acc.length cap)) : RowIn (fun b => H ≤ b ∧ b < w.heap.size) w acc xa ∧ acc.length ≤ cap := by
  have h := KdIn_node (k := 3) (s := 0) (n := ⟨#[]⟩) h (by omega) (by omega) (Nat.zero_le _)
  simp only [IsIn] at h
  obtain ⟨_, _, _, _, _, _, _, xa', cap', e, hc, hR⟩ := h
  simp only [Value.slice.injEq] at e
  obtain ⟨rfl, _, rfl⟩ := e
  have e : (fun b => b < 0 ∨ H ≤ b ∧ b < w.heap.size) = fun b => H ≤ b ∧ b < w.heap.size := by funext b; simp
  rw [e] at hR
  exact ⟨hR, hc⟩
def tInv (t : Tm) : Tm := .mk 3 ⟨#[105, 110, 118]⟩ 0 [t]
def posO (ps : List Pw) : List Tm := ps.flatMap fun p => List.replicate p.2.toNat p.1
def negO (ps : List Pw) : List Tm := ps.flatMap fun p => List.replicate (-p.2).toNat (tInv p.1)
def prodT : List Tm → Tm
  | [] => .mk 3 ⟨#[111, 110, 101]⟩ 0 []
  | [t] => t
  | t :: u :: l => .mk 3 ⟨#[109, 117, 108]⟩ 0 (t :: u :: l)
theorem posO_take (ps : List Pw) (j : Nat) (h : j < ps.length) : posO (ps.take (j + 1)) = posO (ps.take j) ++ List.replicate ps[j].2.toNat ps[j].1 := by
  unfold posO
  rw [List.take_succ_eq_append_getElem h, List.flatMap_append, List.flatMap_cons, List.flatMap_nil, List.append_nil]
theorem negO_take (ps : List Pw) (j : Nat) (h : j < ps.length) : negO (ps.take (j + 1)) = negO (ps.take j) ++ List.replicate (-ps[j].2).toNat (tInv ps[j].1) := by
  unfold negO
  rw [List.take_succ_eq_append_getElem h, List.flatMap_append, List.flatMap_cons, List.flatMap_nil, List.append_nil]
theorem ops_len : ∀ ps : List Pw, (posO ps).length + (negO ps).length = absS ps
  | [] => rfl
  | p :: ps => by
    have ih := ops_len ps
    have e1 : posO (p :: ps) = List.replicate p.2.toNat p.1 ++ posO ps := rfl
    have e2 : negO (p :: ps) = List.replicate (-p.2).toNat (tInv p.1) ++ negO ps := rfl
    rw [e1, e2, absS, List.length_append, List.length_append, List.length_replicate, List.length_replicate]
    omega
theorem absS_take_le : ∀ (ps : List Pw) (i : Nat), absS (ps.take i) ≤ absS ps
  | [], i => by simp
  | p :: ps, 0 => by simp [absS]
  | p :: ps, i + 1 => by have := absS_take_le ps i; simp only [List.take_succ_cons, absS]; omega
theorem pos_len8 {ps : List Pw} (h : absS ps ≤ 8) (j : Nat) : (posO (ps.take j)).length ≤ 8 := by
  have h1 := ops_len (ps.take j)
  have h2 := absS_take_le ps j
  omega
theorem neg_take_len : ∀ (ps : List Pw) (i : Nat), (negO (ps.take i)).length ≤ (negO ps).length
  | [], i => by simp
  | p :: ps, 0 => by simp [negO]
  | p :: ps, i + 1 => by
    have ih := neg_take_len ps i
    have e2 : ∀ l : List Pw, negO (p :: l) = List.replicate (-p.2).toNat (tInv p.1) ++ negO l := fun _ => rfl
    rw [List.take_succ_cons, e2, e2, List.length_append, List.length_append]; omega
theorem neg_len8 {ps : List Pw} (h : absS ps ≤ 8) (j : Nat) : (posO ps ++ negO (ps.take j)).length ≤ 8 := by
  have h1 := ops_len ps
  have h2 := neg_take_len ps j
  rw [List.length_append]; omega
theorem abs_mem {ps : List Pw} {p : Pw} (h : p ∈ ps) : p.2.natAbs ≤ absS ps := by
  induction ps with
  | nil => simp at h
  | cons x xs ih =>
    rw [absS]
    rcases List.mem_cons.1 h with rfl | h
    · omega
    · have := ih h; omega
theorem infoTmE : (Tryz.prog.info? 24).map (fun i => (i.zero, i.size, i.bytes)) = some (some (.agg #[.int .i64 0, .string ⟨#[]⟩, .int .i64 0, .slice none 0 0]), 4, 56) := by kernel_rfl
set_option maxHeartbeats 800000 in
theorem application_any (n : ByteArray) (xa : Option Addr) (l c : Nat) (w : World) :
    Calls Tryz.prog 185 #[.string n, .slice xa l c] w fun e w' => e = .returned (.agg #[.int .i64 3, .string n, .int .i64 0, .slice xa l c]) ∧ Below w.heap.size w w' := by
  have HB := Lib.hid ((Below.refl w.heap.size w).alloc (Nat.le_refl _) (.cells #[.int .i64 3, .string n, .int .i64 0, .slice xa l c] 24))
  have hx := box_facts (heap_alloc_new w (.cells #[.int .i64 3, .string n, .int .i64 0, .slice xa l c] 24))
  obtain ⟨⟨m0, m1, m2, m3⟩, _⟩ := hx
  go_enter Tryz.func185, Tryz.ntmps185
  go_wp2_with fail
  exact bodyPost_ret (v := .agg #[.int .i64 3, .string n, .int .i64 0, .slice xa l c]) (by simp [results, Tryz.results185, go_sem, m0, m1, m2, m3]) rfl ⟨rfl, HB.out⟩
theorem inv_made {wr w5 w7 : World} {T : Tm} {k6 s6 : Int} {n6 : ByteArray} {xa6 : Option Addr} {l6 cap6 : Nat} (hI : IsIn (fun b => wr.heap.size ≤ b ∧ b < w5.heap.size) w5 T (.int .i64 k6) (.string n6) (.int .i64 s6) (.slice xa6 l6 cap6)) (hB5 : Ext wr w5) (hB7 : Below (w5.alloc (.cells #[.int .i64 k6, .string n6, .int .i64 s6, .slice xa6 l6 cap6] 24)).heap.size (w5.alloc (.cells #[.int .i64 k6, .string n6, .int .i64 s6, .slice xa6 l6 cap6] 24)) w7) :
    Ext wr w7 ∧ IsIn (fun b => wr.heap.size ≤ b ∧ b < w7.heap.size) w7 (tInv T) (.int .i64 3) (.string ⟨#[105, 110, 118]⟩) (.int .i64 0) (.slice (some ⟨w5.heap.size, 0, none⟩) 1 1) := by
  have hx := heap_alloc_new w5 (.cells #[.int .i64 k6, .string n6, .int .i64 s6, .slice xa6 l6 cap6] 24)
  have h7 : ∀ b, b < w5.heap.size → w7.heap[b]? = w5.heap[b]? := fun b hb => (hB7.block b (by rw [World.size_alloc]; omega)).trans (Below.heap_alloc _ _ _ hb)
  have hq : w7.heap[w5.heap.size]? = some (.cells #[.int .i64 k6, .string n6, .int .i64 s6, .slice xa6 l6 cap6] 24 (0, 0)) := (hB7.block _ (by rw [World.size_alloc]; omega)).trans hx
  have hs := hB7.size
  rw [World.size_alloc] at hs
  have h5 := hB5.size
  obtain ⟨⟨y0, y1, y2, y3⟩, _⟩ := box_facts hq
  refine ⟨Ext.trans (Ext.alloc hB5 _) hB7, ?_⟩
  simp only [tInv, IsIn, RowIn, List.length_cons, List.length_nil]
  exact ⟨trivial, trivial, trivial, by omega, by omega, by decide, by decide, _, _, rfl, Nat.le_refl _, w5.heap.size, 0, rfl, ⟨by omega, by omega⟩, ⟨_, _, _, _, y0, y1, y2, y3, IsIn_carry (fun b hb => h7 b hb.2) (fun b hb => ⟨hb.1, by have := hb.2; omega⟩) _ _ _ _ _ hI⟩, trivial⟩
set_option maxHeartbeats 12800000 in
set_option maxRecDepth 100000 in
theorem operands_any (ps : List Pw) (xa : Option Addr) (cap : Nat) (w : World) (hlen : ps.length ≤ 1048576) (hsz0 : SzP 1073741824 ps) (ha8 : absS ps ≤ 8) (hR : PRow w ps xa) :
    Calls Tryz.prog 150 #[.slice xa ps.length cap] w fun e w' => ∃ ya c, e = .returned (.slice ya (posO ps ++ negO ps).length c) ∧ (posO ps ++ negO ps).length ≤ c ∧ RowIn (fun b => w.heap.size ≤ b ∧ b < w'.heap.size) w' (posO ps ++ negO ps) ya ∧ Below w.heap.size w w' := by
  have HR := Lib.hid hR
  have HSZ := Lib.hid hsz0
  have HAB8 := Lib.hid ha8
  have HABS : Hid (∀ p ∈ ps, p.2.natAbs ≤ 8) := fun p hp => Nat.le_trans (abs_mem hp) ha8
  clear hR hsz0 ha8
  go_enter Tryz.func150, Tryz.ntmps150
  go_wp2_with fail
  go_loopw [3, 10] (fun kv i wr => ∃ j : Nat, j ≤ ps.length ∧ i = .int .i64 j ∧ KdIn 0 w.heap.size wr (posO (ps.take j)) kv ∧ Below w.heap.size w wr) (fun _ i _ => ps.length - (intOf i).toNat)
  case atStart => exact ⟨0, Nat.zero_le _, rfl, KdIn_nil _ _ _, Below.refl _ _⟩
  case round =>
    obtain ⟨j, hj, rfl, hK, hB⟩ := hrel
    have HB := Lib.hid hB
    by_cases hlt : j < ps.length
    rotate_left
    · obtain rfl : j = ps.length := by omega
      obtain ⟨xe, ce, rfl⟩ := KdIn_form hK
      have HK1 : Hid (KdIn 0 w.heap.size wr (posO ps ++ negO (ps.take 0)) (.slice xe (posO (ps.take ps.length)).length ce)) := by
        show KdIn _ _ _ _ _
        rw [List.take_length] at hK ⊢
        simpa [negO] using hK
      have HB0 := HB
      clear hK hB
      obtain ⟨w0, hw0⟩ : ∃ v : World, v = wr := ⟨_, rfl⟩
      subst hw0
      go_wp2_with fail
      go_loopw [3, 27] (fun kv i wr => ∃ j : Nat, j ≤ ps.length ∧ i = .int .i64 j ∧ KdIn 0 w.heap.size wr (posO ps ++ negO (ps.take j)) kv ∧ Below w.heap.size w wr) (fun _ i _ => ps.length - (intOf i).toNat)
      case atStart => exact ⟨0, Nat.zero_le _, rfl, HK1.out, HB0.out⟩
      case round =>
        obtain ⟨j, hj, rfl, hK, hB⟩ := hrel
        have HB := Lib.hid hB
        by_cases hlt : j < ps.length
        rotate_left
        · have hjl : j = ps.length := by omega
          rw [hjl, List.take_length] at hK
          have HK1 := Lib.hid hK
          obtain ⟨xe, ce, rfl⟩ := KdIn_form hK
          have HRO := Lib.hid (KdIn_rowIn HK1.out)
          clear hK hB
          go_wp2_with fail
          go_ret
          exact ⟨xe, ce, rfl, HRO.out.2, HRO.out.1, HB.out⟩
        obtain ⟨b, o, rfl⟩ := PRow_at HR.out (by omega)
        obtain ⟨hLj, hNj, hNo⟩ := PRow_get (PRow_below HR.out hB) j hlt
        have hsz := HSZ.out ps[j] (List.getElem_mem hlt)
        have hab := HABS.out ps[j] (List.getElem_mem hlt)
        have HTK : Hid (posO ps ++ negO (ps.take (j + 1)) = (posO ps ++ negO (ps.take j)) ++ List.replicate (-ps[j].2).toNat (tInv ps[j].1)) := by
          show _ = _
          rw [negO_take ps j hlt, List.append_assoc]
        have hlen : (posO ps ++ negO (ps.take (j + 1))).length ≤ 8 := neg_len8 HAB8.out (j + 1)
        rw [HTK.out, List.length_append, List.length_replicate] at hlen
        obtain ⟨N, hN⟩ : ∃ N, ps[j].2 = N := ⟨_, rfl⟩
        obtain ⟨T, hT⟩ : ∃ T, ps[j].1 = T := ⟨_, rfl⟩
        rw [hN] at hNj hNo hab HTK hlen
        rw [hT] at hLj hsz HTK
        obtain ⟨c0, c1, c2, c3, g0, g1, g2, g3, hI⟩ := hLj
        have hIw : Is w T c0 c1 c2 c3 := by
          obtain ⟨hL0, _⟩ := PRow_get HR.out j hlt
          rw [hT] at hL0
          obtain ⟨d0, d1, d2, d3, e0, e1, e2, e3, hI0⟩ := hL0
          have := keep_below (show Below w.heap.size w wr from hB) _ _ e0
          rw [g0, Option.some.injEq] at this
          have h1 := keep_below (show Below w.heap.size w wr from hB) _ _ e1
          rw [g1, Option.some.injEq] at h1
          have h2 := keep_below (show Below w.heap.size w wr from hB) _ _ e2
          rw [g2, Option.some.injEq] at h2
          have h3 := keep_below (show Below w.heap.size w wr from hB) _ _ e3
          rw [g3, Option.some.injEq] at h3
          rw [this, h1, h2, h3]; exact hI0
        obtain ⟨k, n, s, ya, yl, yc, rfl, rfl, rfl, rfl⟩ := Is_form hI
        have HIW := Lib.hid hIw
        generalize posO ps ++ negO (ps.take j) = acc0 at hK HTK hlen ⊢
        obtain ⟨xk, ck, rfl⟩ := KdIn_form hK
        have hbx := heap_alloc_new wr (.cells #[.int .i64 k, .string n, .int .i64 s, .slice ya yl yc, .int .i64 N] 145)
        have hK1 : KdIn 0 w.heap.size (wr.alloc (.cells #[.int .i64 k, .string n, .int .i64 s, .slice ya yl yc, .int .i64 N] 145)) acc0 (.slice xk acc0.length ck) := KdIn_keep hK (by rw [World.size_alloc]; omega) (fun b _ hb => Below.heap_alloc _ _ _ hb) (Nat.zero_le _)
        have hown0 : (Value.slice xk acc0.length ck).ownBlock ≠ some wr.heap.size := fun e => by
          obtain ⟨F, hO, _⟩ := hK
          have := (OwnT_lt hO _ e).2
          omega
        have hB1 : Below w.heap.size w (wr.alloc (.cells #[.int .i64 k, .string n, .int .i64 s, .slice ya yl yc, .int .i64 N] 145)) := hB.alloc hB.size _
        have hqs : wr.heap.size < (wr.alloc (.cells #[.int .i64 k, .string n, .int .i64 s, .slice ya yl yc, .int .i64 N] 145)).heap.size := by rw [World.size_alloc]; omega
        have HST := Lib.hid (And.intro hbx (And.intro hK1 (And.intro hown0 (And.intro hB1 hqs))))
        have i1 : (0 : Int) ≤ (j : Int) := by omega
        have i2 : (j : Int) < (ps.length : Int) := by omega
        have hw : IntKind.i64.wrap (-N) = -N := IntWalk.i64_in _ (by omega)
        obtain ⟨⟨⟨⟨x0, x1, x2, x3⟩, x4⟩, _⟩⟩ : SumAt (wr.alloc (.cells #[.int .i64 k, .string n, .int .i64 s, .slice ya yl yc, .int .i64 N] 145)) wr.heap.size k n s ya yl yc N ∧ True := ⟨SumAt.new wr k n s ya yl yc N, trivial⟩
        clear hK hB hI hIw hbx hK1 hown0 hB1 hqs hN hT
        go_wp2_with fail
        obtain ⟨q, hq⟩ : ∃ q, wr.heap.size = q := ⟨_, rfl⟩
        rw [hq] at HST ⊢
        clear hq g0 g1 g2 g3 hNj x0 x1 x2 x3 x4
        generalize wr.alloc (.cells #[.int .i64 k, .string n, .int .i64 s, .slice ya yl yc, .int .i64 N] 145) = wn at HST ⊢
        obtain ⟨w1, hw1⟩ : ∃ v : World, v = wr := ⟨_, rfl⟩
        subst hw1
        go_loopw [3, 34] (fun kv i wr => ∃ (j2 : Nat), j2 ≤ (-N).toNat ∧ i = .int .i64 j2 ∧ KdIn 0 w.heap.size wr (acc0 ++ List.replicate j2 (tInv T)) kv ∧ wr.heap[q]? = some (.cells #[.int .i64 k, .string n, .int .i64 s, .slice ya yl yc, .int .i64 N] 145 (0, 0)) ∧ kv.ownBlock ≠ some q ∧ q < wr.heap.size ∧ Below w.heap.size w wr) (fun _ i _ => (-N).toNat - (intOf i).toNat)
        case atStart => exact ⟨0, Nat.zero_le _, rfl, by simpa using HST.out.2.1, HST.out.1, HST.out.2.2.1, HST.out.2.2.2.2, HST.out.2.2.2.1⟩
        case round =>
          obtain ⟨j2, hj2, rfl, hK, hbx, hown0, hqs, hB⟩ := hrel
          have HB2 := Lib.hid hB
          obtain ⟨xl, lcap, rfl⟩ := KdIn_form hK
          by_cases hl2 : j2 < (-N).toNat
          rotate_left
          · have hjl : j2 = (-N).toNat := by omega
            have hc : ¬ (j2 : Int) < (-N) := by omega
            have HK2 : Hid (KdIn 0 w.heap.size wr (posO ps ++ negO (ps.take (j + 1))) (.slice xl (acc0 ++ List.replicate j2 (tInv T)).length lcap)) := by
              show KdIn _ _ _ _ _
              rw [hjl] at hK ⊢
              rw [HTK.out]; exact hK
            clear hK hbx hown0 hqs hB hjl
            go_wp2_with fail
            go_roundw
            case rel => exact ⟨j + 1, by omega, by go_num, HK2.out, HB2.out⟩
            case measure => simp [intOf]; omega
          have hc : (j2 : Int) < (-N) := by omega
          have HRP : Hid ((acc0 ++ List.replicate j2 (tInv T)) ++ [tInv T] = acc0 ++ List.replicate (j2 + 1) (tInv T)) := by show _ = _; rw [List.append_assoc, List.replicate_succ']
          have hal : (acc0 ++ List.replicate j2 (tInv T)).length + 1 ≤ 1048576 := by rw [List.length_append, List.length_replicate]; omega
          generalize acc0 ++ List.replicate j2 (tInv T) = acc at hK HRP hal hown0 ⊢
          obtain ⟨F, ⟨cs, ho, hKC⟩, hF⟩ := id hK
          have HKI := Lib.hid hK
          obtain ⟨na, hna⟩ : ∃ na, na = acc.length := ⟨_, rfl⟩
          rw [← hna] at ho hF hal hown0 ⊢
          have HNA := Lib.hid hna
          have hcl : cs.length = na * 4 := ho.1
          have hcells : (wr.cell? ⟨q, 0, none⟩ = some (.int .i64 k) ∧ wr.cell? ⟨q, 1, none⟩ = some (.string n) ∧ wr.cell? ⟨q, 2, none⟩ = some (.int .i64 s) ∧ wr.cell? ⟨q, 3, none⟩ = some (.slice ya yl yc)) := by
            refine ⟨?_, ?_, ?_, ?_⟩ <;> (unfold World.cell?; rw [hbx]; rfl)
          have HCP := Lib.hid (ecopy_any T q 0 wr hsz ⟨_, _, _, _, hcells.1, hcells.2.1, hcells.2.2.1, hcells.2.2.2, Is_below HIW.out hB⟩)
          have HOX := Lib.hid (fun W (x : Ext wr W) => own_heap ho (fun g hg => x.block g (ho.lt g hg).2))
          have HBX := Lib.hid hbx
          have HQS := Lib.hid hqs
          have HOW := Lib.hid hown0
          obtain ⟨i0, hi0, hz0, hz1, hz2⟩ := info_parts infoTmE
          have HI0 := Lib.hid (And.intro hi0 (And.intro hz0 (And.intro hz1 hz2)))
          have HPU : Hid (∀ w6 c0 c1 c2 c3, Ext wr w6 → IsIn (fun b => wr.heap.size ≤ b ∧ b < w6.heap.size) w6 (tInv T) c0 c1 c2 c3 → ∀ g cap w8 ob, w8.ownsRow w.heap.size 24 4 (.slice (some ⟨g, 0, none⟩) (na + 1) cap) (na + 1) (cs ++ [c0, c1, c2, c3]) → (w6.alloc ob).grownBy w8 (Value.slice xl na lcap).ownBlock → ((Value.slice xl na lcap).ownBlock = some g ∨ g = w6.heap.size + 1) →
              KdIn 0 w.heap.size w8 (acc0 ++ List.replicate (j2 + 1) (tInv T)) (.slice (some ⟨g, 0, none⟩) (na + 1) cap) ∧ w8.heap[q]? = some (.cells #[.int .i64 k, .string n, .int .i64 s, .slice ya yl yc, .int .i64 N] 145 (0, 0)) ∧ (Value.slice (some ⟨g, 0, none⟩) (na + 1) cap).ownBlock ≠ some q ∧ q < w8.heap.size ∧ Below w.heap.size w w8) := by
            show ∀ _, _
            intro w6 c0 c1 c2 c3 hE6 hI6 g cap w8 ob h8 hg hat
            have r := KdIn_push HNA.out ho hKC hF (Nat.zero_le _) HB2.out.size hE6 (IsIn_carry (fun b hb => rfl) (fun b hb => Or.inr hb) _ _ _ _ _ hI6) h8 hg hat
            have hq6 : q < w6.heap.size := Nat.lt_of_lt_of_le HQS.out hE6.size
            refine ⟨by rw [← HRP.out]; exact r.1, ?_, ?_, Nat.lt_of_lt_of_le hq6 r.2.2.1, HB2.out.trans ((hE6.mono HB2.out.size).trans r.2.2.2)⟩
            · rw [hg.block q (by rw [World.size_alloc]; omega) (fun e => HOW.out e.symm), Below.heap_alloc _ _ _ hq6, hE6.block q HQS.out]; exact HBX.out
            · intro e
              have e2 : g = q := by simpa [Value.ownBlock] using e
              rcases hat with h | h
              · exact HOW.out (by rw [h, e2])
              · omega
          have hws := HB2.out.size
          have hqe : ¬ q = wr.heap.size := by omega
          clear hK hbx hown0 hqs hB ho hKC hF hna hcells hi0 hz0 hz1 hz2
          go_wp2_with (first
            | (go_at_call 183; refine (HCP.out).mono ?_; rintro e w5 ⟨c0, c1, c2, c3, he, hI5, hB5⟩; subst he; obtain ⟨k6, n6, s6, xa6, l6, cap6, e0, e1, e2, e3⟩ := IsIn_form hI5; subst e0 e1 e2 e3; have HI5 := Lib.hid hI5; have HB5 : Hid (Ext wr w5) := Lib.hid hB5; have HAP := Lib.hid (application_any ⟨#[105, 110, 118]⟩ (some ⟨w5.heap.size, 0, none⟩) 1 1 (w5.alloc (.cells #[.int .i64 k6, .string n6, .int .i64 s6, .slice xa6 l6 cap6] 24))); clear hI5 hB5)
            | (go_at_call 185; refine (HAP.out).mono ?_; rintro e w7 ⟨he, hB7⟩; subst he; have hX := inv_made HI5.out HB5.out hB7; have HP5 := Lib.hid (HPU.out w7 _ _ _ _ hX.1 hX.2); have HO5 := Lib.hid (HOX.out _ hX.1); have hw5 : w.heap.size ≤ w7.heap.size := Nat.le_trans hws hX.1.size; clear hX hB7)
            | (at_builtin; refine wpList_append_lies _ rfl _ _ _ rfl w.heap.size 24 i0 _ 4 56 Tryz.underlying22 HI0.out.1 HI0.out.2.1 HI0.out.2.2.1 HI0.out.2.2.2 rfl (by omega) (.slice xl na lcap) na cs rfl (HO5.out.alloc _) ⟨w7.heap.size, 0, none⟩ 1 1 [.int .i64 3, .string ⟨#[105, 110, 118]⟩, .int .i64 0, .slice (some ⟨w5.heap.size, 0, none⟩) 1 1] rfl rfl (World.news_of_block (cs := #[.int .i64 3, .string ⟨#[105, 110, 118]⟩, .int .i64 0, .slice (some ⟨w5.heap.size, 0, none⟩) 1 1]) (t := 24) (fr := (0, 0)) (heap_alloc_new w7 _)) (by simp [Value.oneCell']) (by omega) (by unfold maxLen; omega) (by omega) (by simp; omega) (w7.heap.size + 1) (by simp) ?_; intro gg cap8 w8 hown8 hgrow hat hltt; have HNX := Lib.hid (HP5.out _ _ _ _ hown8 hgrow hat); clear hown8 hgrow hat hltt))
          go_roundw
          case rel => exact ⟨j2 + 1, by omega, by go_num, HNX.out.1, HNX.out.2.1, HNX.out.2.2.1, HNX.out.2.2.2.1, HNX.out.2.2.2.2⟩
          case measure => simp [intOf]; omega
    obtain ⟨b, o, rfl⟩ := PRow_at HR.out (by omega)
    obtain ⟨hLj, hNj, hNo⟩ := PRow_get (PRow_below HR.out hB) j hlt
    have hsz := HSZ.out ps[j] (List.getElem_mem hlt)
    have hab := HABS.out ps[j] (List.getElem_mem hlt)
    have HTK : Hid (posO (ps.take (j + 1)) = (posO (ps.take j)) ++ List.replicate ps[j].2.toNat ps[j].1) := by
      show _ = _
      rw [posO_take ps j hlt]
    have hlen : (posO (ps.take (j + 1))).length ≤ 8 := pos_len8 HAB8.out (j + 1)
    rw [HTK.out, List.length_append, List.length_replicate] at hlen
    obtain ⟨N, hN⟩ : ∃ N, ps[j].2 = N := ⟨_, rfl⟩
    obtain ⟨T, hT⟩ : ∃ T, ps[j].1 = T := ⟨_, rfl⟩
    rw [hN] at hNj hNo hab HTK hlen
    rw [hT] at hLj hsz HTK
    obtain ⟨c0, c1, c2, c3, g0, g1, g2, g3, hI⟩ := hLj
    have hIw : Is w T c0 c1 c2 c3 := by
      obtain ⟨hL0, _⟩ := PRow_get HR.out j hlt
      rw [hT] at hL0
      obtain ⟨d0, d1, d2, d3, e0, e1, e2, e3, hI0⟩ := hL0
      have := keep_below (show Below w.heap.size w wr from hB) _ _ e0
      rw [g0, Option.some.injEq] at this
      have h1 := keep_below (show Below w.heap.size w wr from hB) _ _ e1
      rw [g1, Option.some.injEq] at h1
      have h2 := keep_below (show Below w.heap.size w wr from hB) _ _ e2
      rw [g2, Option.some.injEq] at h2
      have h3 := keep_below (show Below w.heap.size w wr from hB) _ _ e3
      rw [g3, Option.some.injEq] at h3
      rw [this, h1, h2, h3]; exact hI0
    obtain ⟨k, n, s, ya, yl, yc, rfl, rfl, rfl, rfl⟩ := Is_form hI
    have HIW := Lib.hid hIw
    generalize posO (ps.take j) = acc0 at hK HTK hlen ⊢
    obtain ⟨xk, ck, rfl⟩ := KdIn_form hK
    have hbx := heap_alloc_new wr (.cells #[.int .i64 k, .string n, .int .i64 s, .slice ya yl yc, .int .i64 N] 145)
    have hK1 : KdIn 0 w.heap.size (wr.alloc (.cells #[.int .i64 k, .string n, .int .i64 s, .slice ya yl yc, .int .i64 N] 145)) acc0 (.slice xk acc0.length ck) := KdIn_keep hK (by rw [World.size_alloc]; omega) (fun b _ hb => Below.heap_alloc _ _ _ hb) (Nat.zero_le _)
    have hown0 : (Value.slice xk acc0.length ck).ownBlock ≠ some wr.heap.size := fun e => by
      obtain ⟨F, hO, _⟩ := hK
      have := (OwnT_lt hO _ e).2
      omega
    have hB1 : Below w.heap.size w (wr.alloc (.cells #[.int .i64 k, .string n, .int .i64 s, .slice ya yl yc, .int .i64 N] 145)) := hB.alloc hB.size _
    have hqs : wr.heap.size < (wr.alloc (.cells #[.int .i64 k, .string n, .int .i64 s, .slice ya yl yc, .int .i64 N] 145)).heap.size := by rw [World.size_alloc]; omega
    have HST := Lib.hid (And.intro hbx (And.intro hK1 (And.intro hown0 (And.intro hB1 hqs))))
    have i1 : (0 : Int) ≤ (j : Int) := by omega
    have i2 : (j : Int) < (ps.length : Int) := by omega

    obtain ⟨⟨⟨⟨x0, x1, x2, x3⟩, x4⟩, _⟩⟩ : SumAt (wr.alloc (.cells #[.int .i64 k, .string n, .int .i64 s, .slice ya yl yc, .int .i64 N] 145)) wr.heap.size k n s ya yl yc N ∧ True := ⟨SumAt.new wr k n s ya yl yc N, trivial⟩
    clear hK hB hI hIw hbx hK1 hown0 hB1 hqs hN hT
    go_wp2_with fail
    obtain ⟨q, hq⟩ : ∃ q, wr.heap.size = q := ⟨_, rfl⟩
    rw [hq] at HST ⊢
    clear hq g0 g1 g2 g3 hNj x0 x1 x2 x3 x4
    generalize wr.alloc (.cells #[.int .i64 k, .string n, .int .i64 s, .slice ya yl yc, .int .i64 N] 145) = wn at HST ⊢
    obtain ⟨w1, hw1⟩ : ∃ v : World, v = wr := ⟨_, rfl⟩
    subst hw1
    go_loopw [3, 16] (fun kv i wr => ∃ (j2 : Nat), j2 ≤ N.toNat ∧ i = .int .i64 j2 ∧ KdIn 0 w.heap.size wr (acc0 ++ List.replicate j2 (T)) kv ∧ wr.heap[q]? = some (.cells #[.int .i64 k, .string n, .int .i64 s, .slice ya yl yc, .int .i64 N] 145 (0, 0)) ∧ kv.ownBlock ≠ some q ∧ q < wr.heap.size ∧ Below w.heap.size w wr) (fun _ i _ => N.toNat - (intOf i).toNat)
    case atStart => exact ⟨0, Nat.zero_le _, rfl, by simpa using HST.out.2.1, HST.out.1, HST.out.2.2.1, HST.out.2.2.2.2, HST.out.2.2.2.1⟩
    case round =>
      obtain ⟨j2, hj2, rfl, hK, hbx, hown0, hqs, hB⟩ := hrel
      have HB2 := Lib.hid hB
      obtain ⟨xl, lcap, rfl⟩ := KdIn_form hK
      by_cases hl2 : j2 < N.toNat
      rotate_left
      · have hjl : j2 = N.toNat := by omega
        have hc : ¬ (j2 : Int) < N := by omega
        have HK2 : Hid (KdIn 0 w.heap.size wr (posO (ps.take (j + 1))) (.slice xl (acc0 ++ List.replicate j2 (T)).length lcap)) := by
          show KdIn _ _ _ _ _
          rw [hjl] at hK ⊢
          rw [HTK.out]; exact hK
        clear hK hbx hown0 hqs hB hjl
        go_wp2_with fail
        go_roundw
        case rel => exact ⟨j + 1, by omega, by go_num, HK2.out, HB2.out⟩
        case measure => simp [intOf]; omega
      have hc : (j2 : Int) < N := by omega
      have HRP : Hid ((acc0 ++ List.replicate j2 (T)) ++ [T] = acc0 ++ List.replicate (j2 + 1) (T)) := by show _ = _; rw [List.append_assoc, List.replicate_succ']
      have hal : (acc0 ++ List.replicate j2 (T)).length + 1 ≤ 1048576 := by rw [List.length_append, List.length_replicate]; omega
      generalize acc0 ++ List.replicate j2 (T) = acc at hK HRP hal hown0 ⊢
      obtain ⟨F, ⟨cs, ho, hKC⟩, hF⟩ := id hK
      have HKI := Lib.hid hK
      obtain ⟨na, hna⟩ : ∃ na, na = acc.length := ⟨_, rfl⟩
      rw [← hna] at ho hF hal hown0 ⊢
      have HNA := Lib.hid hna
      have hcl : cs.length = na * 4 := ho.1
      have hcells : (wr.cell? ⟨q, 0, none⟩ = some (.int .i64 k) ∧ wr.cell? ⟨q, 1, none⟩ = some (.string n) ∧ wr.cell? ⟨q, 2, none⟩ = some (.int .i64 s) ∧ wr.cell? ⟨q, 3, none⟩ = some (.slice ya yl yc)) := by
        refine ⟨?_, ?_, ?_, ?_⟩ <;> (unfold World.cell?; rw [hbx]; rfl)
      have HCP := Lib.hid (ecopy_any T q 0 wr hsz ⟨_, _, _, _, hcells.1, hcells.2.1, hcells.2.2.1, hcells.2.2.2, Is_below HIW.out hB⟩)
      have HOX := Lib.hid (fun W (x : Ext wr W) => own_heap ho (fun g hg => x.block g (ho.lt g hg).2))
      have HBX := Lib.hid hbx
      have HQS := Lib.hid hqs
      have HOW := Lib.hid hown0
      obtain ⟨i0, hi0, hz0, hz1, hz2⟩ := info_parts infoTmE
      have HI0 := Lib.hid (And.intro hi0 (And.intro hz0 (And.intro hz1 hz2)))
      have HPU : Hid (∀ w6 c0 c1 c2 c3, Ext wr w6 → IsIn (fun b => wr.heap.size ≤ b ∧ b < w6.heap.size) w6 (T) c0 c1 c2 c3 → ∀ g cap w8 ob, w8.ownsRow w.heap.size 24 4 (.slice (some ⟨g, 0, none⟩) (na + 1) cap) (na + 1) (cs ++ [c0, c1, c2, c3]) → (w6.alloc ob).grownBy w8 (Value.slice xl na lcap).ownBlock → ((Value.slice xl na lcap).ownBlock = some g ∨ g = w6.heap.size + 1) →
          KdIn 0 w.heap.size w8 (acc0 ++ List.replicate (j2 + 1) (T)) (.slice (some ⟨g, 0, none⟩) (na + 1) cap) ∧ w8.heap[q]? = some (.cells #[.int .i64 k, .string n, .int .i64 s, .slice ya yl yc, .int .i64 N] 145 (0, 0)) ∧ (Value.slice (some ⟨g, 0, none⟩) (na + 1) cap).ownBlock ≠ some q ∧ q < w8.heap.size ∧ Below w.heap.size w w8) := by
        show ∀ _, _
        intro w6 c0 c1 c2 c3 hE6 hI6 g cap w8 ob h8 hg hat
        have r := KdIn_push HNA.out ho hKC hF (Nat.zero_le _) HB2.out.size hE6 (IsIn_carry (fun b hb => rfl) (fun b hb => Or.inr hb) _ _ _ _ _ hI6) h8 hg hat
        have hq6 : q < w6.heap.size := Nat.lt_of_lt_of_le HQS.out hE6.size
        refine ⟨by rw [← HRP.out]; exact r.1, ?_, ?_, Nat.lt_of_lt_of_le hq6 r.2.2.1, HB2.out.trans ((hE6.mono HB2.out.size).trans r.2.2.2)⟩
        · rw [hg.block q (by rw [World.size_alloc]; omega) (fun e => HOW.out e.symm), Below.heap_alloc _ _ _ hq6, hE6.block q HQS.out]; exact HBX.out
        · intro e
          have e2 : g = q := by simpa [Value.ownBlock] using e
          rcases hat with h | h
          · exact HOW.out (by rw [h, e2])
          · omega
      have hws := HB2.out.size
      have hqe : ¬ q = wr.heap.size := by omega
      clear hK hbx hown0 hqs hB ho hKC hF hna hcells hi0 hz0 hz1 hz2
      go_wp2_with (first
        | (go_at_call 183; refine (HCP.out).mono ?_; rintro e w5 ⟨c0, c1, c2, c3, he, hI5, hB5⟩; subst he; obtain ⟨k6, n6, s6, xa6, l6, cap6, e0, e1, e2, e3⟩ := IsIn_form hI5; subst e0 e1 e2 e3; have HP5 := Lib.hid (HPU.out w5 _ _ _ _ hB5 hI5); have HO5 := Lib.hid (HOX.out _ hB5); have hw5 : w.heap.size ≤ w5.heap.size := Nat.le_trans hws hB5.size; clear hI5 hB5)
        | (at_builtin; refine wpList_append_lies _ rfl _ _ _ rfl w.heap.size 24 i0 _ 4 56 Tryz.underlying22 HI0.out.1 HI0.out.2.1 HI0.out.2.2.1 HI0.out.2.2.2 rfl (by omega) (.slice xl na lcap) na cs rfl (HO5.out.alloc _) ⟨w5.heap.size, 0, none⟩ 1 1 [.int .i64 k6, .string n6, .int .i64 s6, .slice xa6 l6 cap6] rfl rfl (World.news_of_block (cs := #[.int .i64 k6, .string n6, .int .i64 s6, .slice xa6 l6 cap6]) (t := 24) (fr := (0, 0)) (heap_alloc_new w5 _)) (by simp [Value.oneCell']) (by omega) (by unfold maxLen; omega) (by omega) (by simp; omega) (w5.heap.size + 1) (by simp) ?_; intro gg cap8 w8 hown8 hgrow hat hltt; have HNX := Lib.hid (HP5.out _ _ _ _ hown8 hgrow hat); clear hown8 hgrow hat hltt))
      go_roundw
      case rel => exact ⟨j2 + 1, by omega, by go_num, HNX.out.1, HNX.out.2.1, HNX.out.2.2.1, HNX.out.2.2.2.1, HNX.out.2.2.2.2⟩
      case measure => simp [intOf]; omega
end Go.Proofs.YtbcpnepjojppaaaGreatDoor
