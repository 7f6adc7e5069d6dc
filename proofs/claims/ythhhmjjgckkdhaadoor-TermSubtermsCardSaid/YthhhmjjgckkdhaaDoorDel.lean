/-
  slices.IndexFunc AND slices.DeleteFunc AT NODES, at the closure that asks a kind; term.ofKind.
-/
import Derived.Test.YthhhmjjgckkdhaaDoorComp
import Derived.Test.YthhhmjjgckkdhaaDoorExt
import Derived.Test.YthhhmjjgckkdhaaDoorAddset
import Derived.Test.YthhhmjjgckkdhaaDoorRat
import Derived.Test.YthhhmjjgckkdhaaDoorSep
import Derived.BigQuiet
import Derived.Test.YthhhmjjgckkdhaaDoorSetof
import Derived.Shelf.SlSortCmp.NoneTotal
namespace Go.Proofs.YthhhmjjgckkdhaaDoor
open Go.RowKit Go.Lib

section
variable {base : Nat} {w : World}
/-- The nodes of a kind. -/
def kN (k : Int) (L : List (NA base w)) : List (NA base w) := L.filter fun x => x.t.kind == k
theorem kN_map (k : Int) (L : List (NA base w)) : (kN k L).map NA.t = ofK k (L.map NA.t) := by
  rw [kN, ofK, List.filter_map]; rfl
theorem kN_take (k : Int) (L : List (NA base w)) (j : Nat) (h : j < L.length) : kN k (L.take (j + 1)) = kN k (L.take j) ++ if L[j].t.kind == k then [L[j]] else [] := by
  rw [List.take_succ_eq_append_getElem h, kN, kN, List.filter_append]
  congr 1
  simp only [List.filter_cons, List.filter_nil]
theorem kN_len (k : Int) (L : List (NA base w)) : (kN k L).length ≤ L.length := List.length_filter_le _ _

/-- The second loop: the first i places are laid, j is the next one. -/
structure DI (k : Int) (L cur : List (NA base w)) (i j : Nat) : Prop where
  len : cur.length = L.length
  lt : i < j
  le : j ≤ L.length
  high : ∀ q, j ≤ q → cur[q]? = L[q]?
  eq : cur.take i = kN k (L.take j)
theorem DI.start {k : Int} {L : List (NA base w)} {i : Nat} (hi : i < L.length) (he : kN k (L.take i) = L.take i) (hne : ¬ L[i].t.kind = k) : DI k L L i (i + 1) :=
  ⟨rfl, Nat.lt_succ_self _, hi, fun _ _ => rfl, by rw [kN_take k L i hi, he]; simp [hne]⟩
theorem DI.skip {k : Int} {L cur : List (NA base w)} {i j : Nat} (h : DI k L cur i j) (hj : j < L.length) (hne : ¬ L[j].t.kind = k) : DI k L cur i (j + 1) :=
  ⟨h.len, by have := h.lt; omega, hj, fun q hq => h.high q (by omega), by rw [kN_take k L j hj, h.eq]; simp [hne]⟩
theorem DI.keep {k : Int} {L cur : List (NA base w)} {i j : Nat} (h : DI k L cur i j) (hj : j < L.length) (he : L[j].t.kind = k) : DI k L (cur.set i L[j]) (i + 1) (j + 1) := by
  have hl := h.lt
  have hc := h.len
  refine ⟨by rw [List.length_set]; exact h.len, by omega, hj, fun q hq => ?_, ?_⟩
  · rw [List.getElem?_set_ne (by omega)]; exact h.high q (by omega)
  · rw [kN_take k L j hj, List.take_succ_eq_append_getElem (by rw [List.length_set]; omega), List.getElem_set_self, List.take_set_of_le (Nat.le_refl _), h.eq]; simp [he]
theorem DI.done {k : Int} {L cur : List (NA base w)} {i j : Nat} (h : DI k L cur i j) (hj : j = L.length) : kN k L = cur.take i ∧ i < L.length := by
  have := h.eq
  have hl := h.lt
  subst hj
  rw [List.take_length] at this
  exact ⟨this.symm, hl⟩
theorem DI.node {g n cap : Nat} {k : Int} {L cur : List (NA base w)} {i j : Nat} {wr : World} (hI : DI k L cur i j) (h : wr.ownsRow base 97 2 (.slice (some ⟨g, 0, none⟩) n cap) n (cur.flatMap encN)) (hj : j < L.length) :
    wr.cell? ⟨g, j * 2, none⟩ = some (.pointer (some ⟨L[j].b, L[j].o, none⟩)) ∧ wr.cell? ⟨g, j * 2 + 1, none⟩ = some (.int .i64 (size L[j].t)) := by
  have hc : j < cur.length := by rw [hI.len]; exact hj
  have e : cur[j] = L[j] := by
    have := hI.high j (Nat.le_refl _)
    rw [List.getElem?_eq_getElem hc, List.getElem?_eq_getElem hj] at this
    exact Option.some.inj this
  have := (node_cells h j hc).1
  rw [e] at this; exact this

end

set_option maxHeartbeats 1600000 in
set_option maxRecDepth 100000 in
theorem kindOther_any (t : Tm) (b o B : Nat) (k z : Int) (w : World) (hL : Lies w t b o) (hB : w.cell? ⟨B, 0, none⟩ = some (.int .i64 k)) :
    Calls Tryd.prog 87 #[.agg #[.pointer (some ⟨b, o, none⟩), .int .i64 z], .pointer (some ⟨B, 0, none⟩)] w fun e w' => e = .returned (.bool (!decide (t.kind = k))) ∧ Below w.heap.size w w' := by
  obtain ⟨kk, n, s, ks⟩ := t
  obtain ⟨g0, _⟩ := Lies_mk hL
  have hX : Below w.heap.size w (w.alloc (.cells #[.pointer (some ⟨b, o, none⟩), .int .i64 z] 97)) := (Below.refl _ _).alloc (Nat.le_refl _) _
  have q0 := keep_below hX _ _ g0
  have q1 := keep_below hX _ _ hB
  have HX := Lib.hid hX
  clear hX hL
  go_enter Tryd.func87, Tryd.ntmps87
  go_wp2_with fail
  go_quiet (fail)
  go_wp2_with fail
  go_ret
  exact ⟨by by_cases h : kk = k <;> simp [Tm.kind, h], below_drewN HX.out _⟩

/-- The first node of another kind. -/
def fN (k : Int) {base : Nat} {w : World} (L : List (NA base w)) : Nat := L.findIdx fun x => !(x.t.kind == k)
theorem fN_le (k : Int) {base : Nat} {w : World} (L : List (NA base w)) : fN k L ≤ L.length := List.findIdx_le_length
theorem fN_hit {k : Int} {base : Nat} {w : World} {L : List (NA base w)} (h : fN k L < L.length) : ¬ L[fN k L].t.kind = k := by
  have h2 : (!(L[fN k L].t.kind == k)) = true := List.findIdx_getElem (p := fun x : NA base w => !(x.t.kind == k)) (xs := L) (w := h)
  simpa using h2
theorem fN_miss {k : Int} {base : Nat} {w : World} {L : List (NA base w)} {j : Nat} (h : j < fN k L) (hj : j < L.length) : L[j].t.kind = k := by
  have := List.not_of_lt_findIdx (p := fun x : NA base w => !(x.t.kind == k)) (xs := L) h
  simpa using this
theorem fN_take (k : Int) {base : Nat} {w : World} (L : List (NA base w)) : kN k (L.take (fN k L)) = L.take (fN k L) := by
  rw [kN, List.filter_eq_self]
  intro x hx
  obtain ⟨j, hj, rfl⟩ := List.mem_iff_getElem.1 hx
  rw [List.length_take] at hj
  rw [List.getElem_take]
  have := fN_miss (k := k) (L := L) (j := j) (by omega) (by omega)
  simp [this]

def IndexPost (k : Int) {base : Nat} {w : World} (L : List (NA base w)) (w0 : World) (e : Ending) (w' : World) : Prop :=
  Below w0.heap.size w0 w' ∧ e = .returned (.int .i64 (if fN k L < L.length then (fN k L : Int) else -1))

set_option maxHeartbeats 3200000 in
set_option maxRecDepth 100000 in
theorem index_nodes {base : Nat} {w : World} {g cap B : Nat} {k : Int} (L : List (NA base w)) (w0 : World) (hown : w0.ownsRow base 97 2 (.slice (some ⟨g, 0, none⟩) L.length cap) L.length (L.flatMap encN)) (hB0 : Below base w w0) (hbw : base ≤ w0.heap.size) (hK : w0.cell? ⟨B, 0, none⟩ = some (.int .i64 k)) (hlt : L.length ≤ 1152921504606846976) :
    Calls Tryd.prog 100 #[.slice (some ⟨g, 0, none⟩) L.length cap, .func (.func 87) #[] #[.pointer (some ⟨B, 0, none⟩)]] w0 (IndexPost k L w0) := by
  have HO := Lib.hid hown
  have HB0 := Lib.hid hB0
  have HK := Lib.hid hK
  have hfl := fN_le k L
  clear hown hB0 hK
  go_enter Tryd.func100, Tryd.ntmps100
  go_wp2_with fail
  go_loopw [8] (fun i wr => ∃ j : Nat, j ≤ fN k L ∧ i = .int .i64 j ∧ Below w0.heap.size w0 wr) (fun i _ => L.length - (intOf i).toNat)
  case atStart => exact ⟨0, Nat.zero_le _, rfl, Below.refl _ _⟩
  case round =>
    obtain ⟨j, hj, rfl, hB⟩ := hrel
    have HB := Lib.hid hB
    by_cases hlt2 : j < L.length
    rotate_left
    · have HF : Hid (IndexPost k L w0 (.returned (.int .i64 (-1))) wr) := by
        show IndexPost _ _ _ _ _
        exact ⟨hB, by rw [if_neg (by omega)]⟩
      clear hB
      go_wp2_with fail
      go_ret
      exact HF.out
    have hOr := own_heap (w' := wr) HO.out (fun q hq => hB.block q (HO.out.lt q hq).2)
    obtain ⟨⟨x0, x1⟩, _⟩ := node_cells hOr j hlt2
    have HCL := Lib.hid (kindOther_any L[j].t L[j].b L[j].o B k (size L[j].t) wr (L[j].liesAt (HB0.out.trans (hB.mono hbw))) (keep_below hB _ _ HK.out))
    have hm : j < fN k L → L[j].t.kind = k := fun h => fN_miss h hlt2
    have hh : ∀ h : fN k L = j, ¬ L[j].t.kind = k := fun h => by
      have := fN_hit (k := k) (L := L) (by omega)
      simp only [h] at this; exact this
    generalize L[j] = x at x0 x1 HCL hm hh
    have i1 : (0 : Int) ≤ (j : Int) := by omega
    have i2 : (j : Int) < (L.length : Int) := by omega
    clear hOr hB
    by_cases hk : x.t.kind = k
    · have hd : (!decide (x.t.kind = k)) = false := by simp [hk]
      rw [hd] at HCL
      have hjf : j < fN k L := by
        rcases Nat.lt_or_ge j (fN k L) with h | h
        · exact h
        · exact absurd hk (hh (by omega))
      clear hm hh
      go_wp2_with (go_at_call 87; refine (HCL.out).mono ?_; rintro e w3 ⟨he3, hB3⟩; subst he3; have HB3 := Lib.hid hB3; clear hB3)
      go_roundw
      case rel => exact ⟨j + 1, by omega, by go_num, HB.out.trans (HB3.out.mono HB.out.size)⟩
      case measure => simp [intOf]; omega
    · have hd : (!decide (x.t.kind = k)) = true := by simp [hk]
      rw [hd] at HCL
      have hjf : fN k L = j := by
        rcases Nat.lt_or_ge j (fN k L) with h | h
        · exact absurd (hm h) hk
        · omega
      clear hm hh
      go_wp2_with (go_at_call 87; refine (HCL.out).mono ?_; rintro e w3 ⟨he3, hB3⟩; subst he3; have HB3 := Lib.hid hB3; clear hB3)
      go_ret
      exact ⟨HB.out.trans (HB3.out.mono HB.out.size), by rw [hjf, if_pos hlt2]; rfl⟩

def DelPost (g cap : Nat) (k : Int) {base : Nat} {w : World} (L : List (NA base w)) (w0 : World) (e : Ending) (w' : World) : Prop :=
  e = .returned (.slice (some ⟨g, 0, none⟩) (kN k L).length cap) ∧ w'.ownsRow base 97 2 (.slice (some ⟨g, 0, none⟩) (kN k L).length cap) (kN k L).length ((kN k L).flatMap encN) ∧ Below base w0 w'

theorem del_end {base : Nat} {w : World} {g cap i j : Nat} {k : Int} {L cur : List (NA base w)} {w0 wr : World} (hI : DI k L cur i j) (h : wr.ownsRow base 97 2 (.slice (some ⟨g, 0, none⟩) L.length cap) L.length (cur.flatMap encN)) (hB : Below base w0 wr) (hj : j = L.length) :
    DelPost g cap k L w0 (.returned (.slice (some ⟨g, 0, none⟩) i cap)) (wr.setCells g (i * 2) (zeroN (L.length - i))) := by
  obtain ⟨e, hkp⟩ := hI.done hj
  have hlen : (kN k L).length = i := by rw [e, List.length_take, hI.len]; omega
  obtain ⟨ys, h1, h2, h3⟩ := own_setCells (zeroN (L.length - i)) (i * 2) _ _ h
  rw [flat_take, ← e] at h2
  have hn : L.length = i + (L.length - i) := by omega
  have hy : ys = (kN k L).flatMap encN ++ ys.drop (i * 2) := by rw [← h2, List.take_append_drop]
  rw [hy] at h1
  unfold DelPost
  rw [hlen]
  refine ⟨rfl, ?_, hB.trans h3⟩
  refine own_shorter (m := L.length - i) (ys := ys.drop (i * 2)) ?_ (by rw [flat_len encN encN_len, hlen])
  rw [← hn]; exact h1

set_option maxHeartbeats 3200000 in
set_option maxRecDepth 100000 in
theorem delete_nodes {base : Nat} {w : World} {g cap B : Nat} {k : Int} (L : List (NA base w)) (w0 : World) (hown : w0.ownsRow base 97 2 (.slice (some ⟨g, 0, none⟩) L.length cap) L.length (L.flatMap encN)) (hB0 : Below base w w0) (hbw : base ≤ w0.heap.size) (hK : w0.cell? ⟨B, 0, none⟩ = some (.int .i64 k)) (hBg : B ≠ g) (hlt : L.length ≤ 1152921504606846976) :
    Calls Tryd.prog 86 #[.slice (some ⟨g, 0, none⟩) L.length cap, .func (.func 87) #[] #[.pointer (some ⟨B, 0, none⟩)]] w0 (DelPost g cap k L w0) := by
  have HIDX := Lib.hid (index_nodes L w0 hown hB0 hbw hK hlt)
  have HO := Lib.hid hown
  have HB0 := Lib.hid hB0
  have HK := Lib.hid hK
  have hcap : L.length ≤ cap := own_cap hown
  have hg := hown.lt g rfl
  clear hown hB0 hK
  by_cases hf : fN k L < L.length
  rotate_left
  · have HP : Hid (∀ W, Below w0.heap.size w0 W → DelPost g cap k L w0 (.returned (.slice (some ⟨g, 0, none⟩) L.length cap)) W) := by
      intro W hW
      have e : kN k L = L := by
        have := fN_take k L
        have hle := fN_le k L
        rw [List.take_of_length_le (by omega)] at this; exact this
      unfold DelPost
      rw [e]
      exact ⟨rfl, own_heap HO.out (fun q hq => hW.block q (HO.out.lt q hq).2), hW.mono hbw⟩
    unfold IndexPost at HIDX
    rw [if_neg hf] at HIDX
    go_enter Tryd.func86, Tryd.ntmps86
    go_wp2_with (go_at_call 100; refine (HIDX.out).mono ?_; rintro e w1 ⟨hB1, he⟩; subst he; have HB1 := Lib.hid hB1; clear hB1)
    go_ret
    exact HP.out _ HB1.out
  unfold IndexPost at HIDX
  rw [if_pos hf] at HIDX
  have HFT := Lib.hid (DI.start (k := k) hf (fN_take k L) (fN_hit hf))
  generalize fN k L = f at hf HIDX HFT
  go_enter Tryd.func86, Tryd.ntmps86
  go_wp2_with (go_at_call 100; refine (HIDX.out).mono ?_; rintro e w1 ⟨hB1, he⟩; subst he; have HB1 := Lib.hid hB1; clear hB1)
  have hf1 : ((f : Int) == -1) = false := by simp
  rw [hf1]
  go_loopw [5, 6] (fun s5 s6 wr => ∃ (i j : Nat) (cur : List (NA base w)), s5 = .int .i64 (i : Int) ∧ s6 = .int .i64 (j : Int) ∧ DI k L cur i j ∧ wr.ownsRow base 97 2 (.slice (some ⟨g, 0, none⟩) L.length cap) L.length (cur.flatMap encN) ∧ Below base w0 wr ∧ wr.cell? ⟨B, 0, none⟩ = some (.int .i64 k)) (fun _ s6 _ => L.length - (intOf s6).toNat)
  case atStart => exact ⟨f, f + 1, L, rfl, by go_num, HFT.out, own_heap HO.out (fun q hq => HB1.out.block q (HO.out.lt q hq).2), HB1.out.mono hbw, keep_below HB1.out _ _ HK.out⟩
  case round =>
    obtain ⟨i, j, cur, rfl, rfl, hI, hO2, hB3, hKc⟩ := hrel
    have hcl := hI.len
    have hij := hI.lt
    have hjl := hI.le
    have HX := Lib.hid (And.intro hI (And.intro hO2 (And.intro hB3 hKc)))
    have hg2 := hO2.lt g rfl
    have hbr : base ≤ wr.heap.size := Nat.le_trans hbw hB3.size
    by_cases hlt2 : j < L.length
    rotate_left
    · have HE2 := Lib.hid (del_end hI hO2 hB3 (by omega))
      have hclr := clear_nodes hO2 (kk := i) (by omega)
      have m2 : ¬ (j : Int) < (L.length : Int) := by omega
      have m7 : (i : Int) ≤ (L.length : Int) := by omega
      have m8 : (0 : Int) ≤ (i : Int) := by omega
      have m9 : (i : Int) ≤ (cap : Int) := by omega
      have m10 : (L.length : Int) ≤ (cap : Int) := by omega
      clear hI hO2 hB3 hKc HX
      go_wp2_with fail
      go_ret
      exact HE2.out
    obtain ⟨x0, x1⟩ := hI.node hO2 hlt2
    generalize hx : L[j] = x at x0 x1
    have HEX := Lib.hid hx
    have HCL := Lib.hid (kindOther_any x.t x.b x.o B k (size x.t) (wr.alloc (.cells #[.pointer (some ⟨x.b, x.o, none⟩), .int .i64 (size x.t)] 97)) (x.liesAt ((HB0.out.trans hB3).alloc hbr _)) (keep_alloc _ _ _ _ hKc))
    have i1 : (0 : Int) ≤ (j : Int) := by omega
    have i2 : (j : Int) < (L.length : Int) := by omega
    have i3 : (0 : Int) ≤ (i : Int) := by omega
    have i4 : (i : Int) < (L.length : Int) := by omega
    have HBW : Hid (∀ W, Ext (wr.alloc (.cells #[.pointer (some ⟨x.b, x.o, none⟩), .int .i64 (size x.t)] 97)) W → W.cell? ⟨wr.heap.size, 0, none⟩ = some (.pointer (some ⟨x.b, x.o, none⟩)) ∧ W.cell? ⟨wr.heap.size, 1, none⟩ = some (.int .i64 (size x.t)) ∧ Ext wr W) := fun W h => by
      have hb : W.heap[wr.heap.size]? = some (.cells #[.pointer (some ⟨x.b, x.o, none⟩), .int .i64 (size x.t)] 97 (0, 0)) := by
        rw [h.block _ (by simp)]; exact heap_alloc_new wr _
      refine ⟨?_, ?_, Ext.trans (a := wr) ((Ext.refl wr).alloc _) h⟩ <;> (unfold World.cell?; rw [hb]; rfl)
    clear hx hI hO2 hB3 hKc
    by_cases hk : x.t.kind = k
    · have hd : (!decide (x.t.kind = k)) = false := by simp [hk]
      rw [hd] at HCL
      go_wp2_with (go_at_call 87; refine (HCL.out).mono ?_; rintro e w3 ⟨he3, hB3⟩; subst he3; obtain ⟨b0, b1, hE3⟩ := HBW.out _ hB3; have HE3 := Lib.hid hE3; have HO4 := Lib.hid (own_heap (w' := w3) HX.out.2.1 (fun r hr => hE3.block r (HX.out.2.1.lt r hr).2)); obtain ⟨⟨c0, c1⟩, c2, c3⟩ := node_cells HO4.out i (by omega); generalize cur[i].b = d1 at c0; generalize cur[i].o = d2 at c0; generalize (size cur[i].t : Int) = d3 at c1; clear hB3 hE3)
      go_roundw
      case rel =>
        refine ⟨i + 1, j + 1, cur.set i x, by go_num, by go_num, ?_, own_node HO4.out (by omega) x, (HX.out.2.2.1.trans (HE3.out.mono hbr)).trans (node_below hg2.1 _ _ _), ?_⟩
        · have := HX.out.1.keep hlt2 (by rw [HEX.out]; exact hk); rw [HEX.out] at this; exact this
        · rw [setOther (by simp), setOther (by simp)]; exact keep_below HE3.out _ _ HX.out.2.2.2
      case measure => simp [intOf]; omega
    · have hd : (!decide (x.t.kind = k)) = true := by simp [hk]
      rw [hd] at HCL
      go_wp2_with (go_at_call 87; refine (HCL.out).mono ?_; rintro e w3 ⟨he3, hB3⟩; subst he3; obtain ⟨b0, b1, hE3⟩ := HBW.out _ hB3; have HE3 := Lib.hid hE3; clear hB3 hE3)
      go_roundw
      case rel => exact ⟨i, j + 1, cur, rfl, by go_num, HX.out.1.skip hlt2 (by rw [HEX.out]; exact hk), own_heap HX.out.2.1 (fun r hr => HE3.out.block r (HX.out.2.1.lt r hr).2), HX.out.2.2.1.trans (HE3.out.mono hbr), keep_below HE3.out _ _ HX.out.2.2.2⟩
      case measure => simp [intOf]; omega

set_option maxHeartbeats 1600000 in
set_option maxRecDepth 100000 in
/-- term.ofKind. -/
theorem ofKind_any {base : Nat} {w : World} {g cap : Nat} (k : Int) (L : List (NA base w)) (w0 : World) (hown : w0.ownsRow base 97 2 (.slice (some ⟨g, 0, none⟩) L.length cap) L.length (L.flatMap encN)) (hB0 : Below base w w0) (hbw : base ≤ w0.heap.size) (hlt : L.length ≤ 1152921504606846976) :
    Calls Tryd.prog 62 #[.int .i64 k, .slice (some ⟨g, 0, none⟩) L.length cap] w0 (DelPost g cap k L w0) := by
  have hg := hown.lt g rfl
  have HX : Hid (Below base w0 (w0.alloc (.cells #[.int .i64 k] 3))) := Lib.hid ((Below.refl _ _).alloc hbw _)
  have HD := Lib.hid (delete_nodes (B := w0.heap.size) (k := k) L (w0.alloc (.cells #[.int .i64 k] 3)) (own_heap hown (fun q hq => Below.heap_alloc _ _ _ (hown.lt q hq).2)) (hB0.trans HX.out) (by simp; omega) (by unfold World.cell?; rw [heap_alloc_new]; rfl) (by omega) hlt)
  clear hown hB0
  go_enter Tryd.func62, Tryd.ntmps62
  go_wp2_with (go_at_call 86; refine (HD.out).mono ?_; rintro e w1 ⟨he, h1, h2⟩; subst he; have H1 := Lib.hid (And.intro h1 h2); clear h1 h2)
  go_ret
  exact ⟨rfl, H1.out.1, HX.out.trans H1.out.2⟩

end Go.Proofs.YthhhmjjgckkdhaaDoor

/-
  term.setOf AT NO NODE; term.Vars, term.Atoms; term.Subterms of whatever list.
-/
namespace Go.Proofs.YthhhmjjgckkdhaaDoor
open Go.RowKit Go.Lib

theorem sort_none (p : Option Addr) (cap : Nat) (w : World) :
    Calls Tryd.prog 81 #[.slice p 0 cap, .func (.func 82) #[] #[]] w fun e w' => e = .returned (.tuple #[]) ∧ w' = w :=
  AnyF.slices_SortFunc_none Tryd.sortNodes p cap _ w
theorem compact_none (p : Option Addr) (cap : Nat) (w : World) :
    Calls Tryd.prog 83 #[.slice p 0 cap, .func (.func 84) #[] #[]] w fun e w' => e = .returned (.slice p 0 cap) ∧ w' = w := by
  go_enter Tryd.func83, Tryd.ntmps83
  go_wp2_with fail
  go_ret
  exact ⟨rfl, rfl⟩

/-- A slice that holds the set of these terms. -/
def SetV (base : Nat) (ts : List Tm) (w0 : World) (e : Ending) (w' : World) : Prop :=
  ∃ us xa cap, e = .returned (.slice xa us.length cap) ∧ IsSet us ts ∧ us.length ≤ ts.length ∧ Row w' us xa ∧ Below base w0 w'
theorem SetV_of {base : Nat} {ts : List Tm} {w0 : World} {e : Ending} {w' : World} (h : SetPost base ts w0 e w') : SetV base ts w0 e w' := by
  obtain ⟨us, H, he, h1, h2, h3, h4⟩ := h
  exact ⟨us, _, _, he, h1, h2, h3, h4⟩
theorem IsSet_nil : IsSet [] [] := ⟨List.Pairwise.nil, fun _ => Iff.rfl⟩

set_option maxHeartbeats 3200000 in
set_option maxRecDepth 100000 in
theorem setOf_none (p : Option Addr) (cap : Nat) (w0 : World) : Calls Tryd.prog 60 #[.slice p 0 cap] w0 (SetV w0.heap.size [] w0) := by
  obtain ⟨i0, hi0, hz0, hz1, hz2⟩ := info_parts info24
  have HI0 := Lib.hid (And.intro hi0 (And.intro hz0 (And.intro hz1 hz2)))
  clear hi0 hz0 hz1 hz2
  go_enter Tryd.func60, Tryd.ntmps60
  go_wp2_with (first
    | (go_at_call 81; refine (sort_none _ _ _).mono ?_; rintro e wa ⟨he, hw⟩; subst he hw)
    | (go_at_call 83; refine (compact_none _ _ _).mono ?_; rintro e wb ⟨he, hw⟩; subst he hw)
    | (at_make; refine make_full_at _ wb.heap.size rfl rfl _ _ _ rfl 24 i0 _ 4 Tryd.underlying22 HI0.out.1 HI0.out.2.1 HI0.out.2.2.1 0 rfl rfl (by rw [HI0.out.2.2.2]; omega) (by unfold maxLen; omega) ?_; intro wc hown1 hgrow; have hBC : Below wb.heap.size wb wc := ((Below.refl _ _).grown hgrow (Nat.le_refl _) (fun q hq => by simp at hq)); have HBC := Lib.hid hBC; clear hown1 hgrow hBC))
  go_loopw [15] (fun i wr => i = .int .i64 0 ∧ Below wb.heap.size wb wr) (fun _ _ => 0)
  case atStart => exact ⟨rfl, HBC.out⟩
  case round =>
    obtain ⟨rfl, hB⟩ := hrel
    have HB := Lib.hid hB
    clear hB
    go_wp2_with fail
    go_ret
    exact ⟨[], _, _, rfl, IsSet_nil, Nat.le_refl _, by simp [Row], HB.out⟩

theorem setOf_all {base g n cap : Nat} {ts : List Tm} {vs : List Value} {w0 : World} (hown : w0.ownsRow base 97 2 (.slice (some ⟨g, 0, none⟩) n cap) n vs) (hN : NL base w0 ts vs) (hbw : base ≤ w0.heap.size) (hsz : ∀ t ∈ ts, size t ≤ 1073741824) (hlt : n ≤ 1073741824) :
    Calls Tryd.prog 60 #[.slice (some ⟨g, 0, none⟩) n cap] w0 (SetV base ts w0) := by
  rcases Nat.eq_zero_or_pos n with h | h
  · subst h
    have h1 := hown.1
    have h2 := NL_length ts vs hN
    have : ts = [] := List.length_eq_zero_iff.1 (by omega)
    subst this
    exact (setOf_none _ _ _).mono fun e w' ⟨us, xa, c, a1, a2, a3, a4, a5⟩ => ⟨us, xa, c, a1, a2, a3, a4, a5.mono hbw⟩
  · exact (setOf_any hown hN hbw h hsz hlt).mono fun e w' h => SetV_of h

/-- term.Vars, term.Atoms: the nodes, those of a kind, their set. -/
structure VR (w : World) (t : Tm) (l2 : Value) (us : List Value) (w3 : World) : Prop where
  own : w3.ownsRow (w.heap.size + 1) 97 2 l2 (size t) us
  nl : NL (w.heap.size + 1) w3 (subT t) us
  below : Below (w.heap.size + 1) w w3

theorem vars_nodes (t : Tm) (c0 c1 c2 c3 : Value) (w : World) (hI : Is w t c0 c1 c2 c3) (hs : size t ≤ 1073741824) :
    Calls Tryd.prog 59 #[.pointer (some ⟨w.heap.size, 0, none⟩), .slice none 0 0] (w.alloc (.cells #[c0, c1, c2, c3] 24)) fun e w3 => ∃ g cap, ∃ L : List (NA (w.heap.size + 1) w3), e = .returned (.slice (some ⟨g, 0, none⟩) L.length cap) ∧ L.map NA.t = subT t ∧
      w3.ownsRow (w.heap.size + 1) 97 2 (.slice (some ⟨g, 0, none⟩) L.length cap) L.length (L.flatMap encN) ∧ Below w.heap.size w w3 ∧ w.heap.size + 1 ≤ w3.heap.size := by
  obtain ⟨h0, h1, h2, h3⟩ := box_cells w c0 c1 c2 c3 24
  have hL : LiesIn (fun b => b < w.heap.size + 1) (w.alloc (.cells #[c0, c1, c2, c3] 24)) t w.heap.size 0 := by
    have hI2 := Is_IsIn _ _ _ _ _ (Is_alloc hI (.cells #[c0, c1, c2, c3] 24))
    rw [World.size_alloc] at hI2
    exact ⟨by omega, c0, c1, c2, c3, h0, h1, h2, h3, hI2⟩
  refine (nodes_any _ t w.heap.size 0 0 (.slice none 0 0) [] (w.heap.size + 1) _ (Nat.le_refl _) hs (World.ownsRow_nil _ _ _ _) (by simp) hL (by omega)).mono ?_
  rintro e w3 ⟨l2, us, he, ho, hn, hB⟩
  rw [Nat.zero_add, List.nil_append] at ho
  obtain ⟨g, cap, hl⟩ := own_form_pos ho (size_pos t)
  subst hl
  obtain ⟨L, e1, e2⟩ := NL_NA (subT t) us hn (fun u hu => by have := subT_size t u hu; omega)
  have hlen : L.length = size t := by rw [← subT_len, ← e1, List.length_map]
  rw [e2, ← hlen] at ho
  have hs3 := hB.size
  simp only [World.size_alloc] at hs3
  exact ⟨g, cap, L, by rw [hlen]; exact he, e1, ho, below_box hB, hs3⟩

set_option maxHeartbeats 1600000 in
set_option maxRecDepth 100000 in
theorem Vars_any (t : Tm) (c0 c1 c2 c3 : Value) (w : World) (hI : Is w t c0 c1 c2 c3) (hs : size t ≤ 1073741824) :
    Calls Tryd.prog 30 #[.agg #[c0, c1, c2, c3]] w (SetV w.heap.size (ofK 1 (subT t)) w) := by
  have HN := Lib.hid (vars_nodes t c0 c1 c2 c3 w hI hs)
  clear hI
  go_enter Tryd.func30, Tryd.ntmps30
  go_wp2_with (first
    | (go_at_call 59; refine (HN.out).mono ?_; rintro e w3 ⟨g, cap, L, he, hm, ho, hB, hs3⟩; subst he; have hll : L.length ≤ 1073741824 := (by have := congrArg List.length hm; rw [List.length_map, subT_len] at this; omega); have HK := Lib.hid (ofKind_any 1 L w3 ho (Below.refl _ _) hs3 (by omega)); have HM := Lib.hid hm; have HB := Lib.hid hB; clear hm ho hB)
    | (go_at_call 62; refine (HK.out).mono ?_; rintro e w4 ⟨he, ho4, hB4⟩; subst he; have hkl := kN_len 1 L; have HS := Lib.hid (setOf_all ho4 (NL_carry (fun b hb => hB4.block b hb) _ _ (NA_NL (kN 1 L))) (by have := hB4.size; omega) (fun u hu => by rw [kN_map, HM.out] at hu; have := subT_size t u (List.mem_filter.1 hu).1; omega) (by omega)); have HB4 := Lib.hid hB4; clear ho4 hB4)
    | (go_at_call 60; refine (HS.out).mono ?_; rintro e w5 ⟨us, xa, c, he, a1, a2, a3, a4⟩; subst he; have HF := Lib.hid (And.intro a1 (And.intro a2 (And.intro a3 a4))); clear a1 a2 a3 a4))
  go_ret
  have hF := HF.out
  rw [kN_map, HM.out] at hF
  exact ⟨us, xa, c, rfl, hF.1, hF.2.1, hF.2.2.1, HB.out.trans ((HB4.out.trans hF.2.2.2).mono (by omega))⟩

set_option maxHeartbeats 1600000 in
set_option maxRecDepth 100000 in
theorem Atoms_any (t : Tm) (c0 c1 c2 c3 : Value) (w : World) (hI : Is w t c0 c1 c2 c3) (hs : size t ≤ 1073741824) :
    Calls Tryd.prog 32 #[.agg #[c0, c1, c2, c3]] w (SetV w.heap.size (ofK 2 (subT t)) w) := by
  have HN := Lib.hid (vars_nodes t c0 c1 c2 c3 w hI hs)
  clear hI
  go_enter Tryd.func32, Tryd.ntmps32
  go_wp2_with (first
    | (go_at_call 59; refine (HN.out).mono ?_; rintro e w3 ⟨g, cap, L, he, hm, ho, hB, hs3⟩; subst he; have hll : L.length ≤ 1073741824 := (by have := congrArg List.length hm; rw [List.length_map, subT_len] at this; omega); have HK := Lib.hid (ofKind_any 2 L w3 ho (Below.refl _ _) hs3 (by omega)); have HM := Lib.hid hm; have HB := Lib.hid hB; clear hm ho hB)
    | (go_at_call 62; refine (HK.out).mono ?_; rintro e w4 ⟨he, ho4, hB4⟩; subst he; have hkl := kN_len 2 L; have HS := Lib.hid (setOf_all ho4 (NL_carry (fun b hb => hB4.block b hb) _ _ (NA_NL (kN 2 L))) (by have := hB4.size; omega) (fun u hu => by rw [kN_map, HM.out] at hu; have := subT_size t u (List.mem_filter.1 hu).1; omega) (by omega)); have HB4 := Lib.hid hB4; clear ho4 hB4)
    | (go_at_call 60; refine (HS.out).mono ?_; rintro e w5 ⟨us, xa, c, he, a1, a2, a3, a4⟩; subst he; have HF := Lib.hid (And.intro a1 (And.intro a2 (And.intro a3 a4))); clear a1 a2 a3 a4))
  go_ret
  have hF := HF.out
  rw [kN_map, HM.out] at hF
  exact ⟨us, xa, c, rfl, hF.1, hF.2.1, hF.2.2.1, HB.out.trans ((HB4.out.trans hF.2.2.2).mono (by omega))⟩

set_option maxHeartbeats 1600000 in
set_option maxRecDepth 100000 in
theorem Subterms_none (xa : Option Addr) (cap : Nat) (w : World) :
    Calls Tryd.prog 28 #[.slice xa 0 cap] w (SetV w.heap.size [] w) := by
  go_enter Tryd.func28, Tryd.ntmps28
  go_wp2_with fail
  go_loopw [3, 7] (fun al i wr => al = .slice none 0 0 ∧ i = .int .i64 0 ∧ wr = w) (fun _ _ _ => 0)
  case atStart => exact ⟨rfl, rfl, rfl⟩
  case round =>
    obtain ⟨rfl, rfl, rfl⟩ := hrel
    go_wp2_with (go_at_call 60; refine (setOf_none _ _ _).mono ?_; rintro e w5 ⟨us, xa, c, he, a1, a2, a3, a4⟩; subst he; have HF := Lib.hid (And.intro a1 (And.intro a2 (And.intro a3 a4))); clear a1 a2 a3 a4)
    go_ret
    exact ⟨us, xa, c, rfl, HF.out⟩

theorem Subterms_all (ls : List Tm) (xa : Option Addr) (cap : Nat) (w : World) (hR : Row w ls xa) (hs : sizes ls ≤ 1073741824) :
    Calls Tryd.prog 28 #[.slice xa ls.length cap] w (SetV w.heap.size (subL ls) w) := by
  cases ls with
  | nil => exact Subterms_none xa cap w
  | cons t ts =>
    obtain ⟨kb, ko, rfl⟩ := Row_at hR (by simp)
    exact (Subterms_any (t :: ts) kb ko cap w hR (by simp) hs).mono fun e w' h => SetV_of h

end Go.Proofs.YthhhmjjgckkdhaaDoor
