/-
  THE WALK OF term.nodes: the subterms of a term, as a row of nodes that the call owns.
-/
import Derived.Test.YtkfbbkkfagglhaaGreatDoorPos
import Derived.Test.YtkfbbkkfagglhaaGreatDoorCn
namespace Go.Proofs.YtkfbbkkfagglhaaGreatDoor
open Go.RowKit

mutual
/-- The subterms in preorder. -/
def subT : Tm → List Tm
  | .mk k n s ks => .mk k n s ks :: subL ks
def subL : List Tm → List Tm
  | [] => []
  | t :: ts => subT t ++ subL ts
end
theorem subL_append : ∀ (l m : List Tm), subL (l ++ m) = subL l ++ subL m
  | [], m => by simp [subL]
  | t :: l, m => by simp only [List.cons_append, subL, subL_append l m, List.append_assoc]
theorem subL_take (l : List Tm) (j : Nat) (h : j < l.length) : subL (l.take (j + 1)) = subL (l.take j) ++ subT l[j] := by
  rw [List.take_succ_eq_append_getElem h, subL_append]; simp [subL]

/-- A row of nodes: a term that lies, and its size. -/
def NL (base : Nat) (w : World) : List Tm → List Value → Prop
  | [], vs => vs = []
  | t :: ts, vs => ∃ b o r, vs = .pointer (some ⟨b, o, none⟩) :: .int .i64 (size t) :: r ∧ LiesIn (fun b => b < base) w t b o ∧ NL base w ts r
theorem NL_carry {base : Nat} {w w' : World} (h : ∀ b, b < base → w'.heap[b]? = w.heap[b]?) : ∀ (ts : List Tm) (vs : List Value), NL base w ts vs → NL base w' ts vs
  | [], vs, hn => hn
  | t :: ts, vs, hn => by
    obtain ⟨b, o, r, e, hL, hr⟩ := hn
    exact ⟨b, o, r, e, LiesIn_carry h (fun _ hb => hb) hL, NL_carry h ts r hr⟩
theorem NL_append {base : Nat} {w : World} : ∀ (ts us : List Tm) (vs xs : List Value), NL base w ts vs → NL base w us xs → NL base w (ts ++ us) (vs ++ xs)
  | [], us, vs, xs, h1, h2 => by subst h1; exact h2
  | t :: ts, us, vs, xs, h1, h2 => by
    obtain ⟨b, o, r, rfl, hL, hr⟩ := h1
    exact ⟨b, o, r ++ xs, rfl, hL, NL_append ts us r xs hr h2⟩
theorem NL_length {base : Nat} {w : World} : ∀ (ts : List Tm) (vs : List Value), NL base w ts vs → vs.length = ts.length * 2
  | [], vs, h => by subst h; rfl
  | t :: ts, vs, h => by
    obtain ⟨b, o, r, rfl, _, hr⟩ := h
    simp only [List.length_cons, NL_length ts r hr]; omega

theorem info97 : (Tryz.prog.info? 230).map (fun i => (i.zero, i.size, i.bytes)) = some (some (.agg #[.pointer none, .int .i64 0]), 2, 16) := by kernel_rfl

def NodesPost (base : Nat) (w : World) (n : Nat) (vs : List Value) (t : Tm) (e : Ending) (w' : World) : Prop :=
  ∃ l' us, e = .returned l' ∧ w'.ownsRow base 230 2 l' (n + size t) (vs ++ us) ∧ NL base w' (subT t) us ∧ Below base w w'

/-- What holds at the head of the loop. -/
def NodesRel (base : Nat) (w : World) (n b o : Nat) (vs : List Value) (l : List Tm) (lv : Value) (wr : World) : Prop :=
  ∃ us, wr.ownsRow base 230 2 lv (n + 1 + sizes l) (vs ++ (.pointer (some ⟨b, o, none⟩) :: .int .i64 0 :: us)) ∧ NL base wr (subL l) us ∧ Below base w wr

theorem nodes_start {base n b o cap gl : Nat} {w w1 : World} {vs : List Value} (h : w1.ownsRow base 230 2 (.slice (some ⟨gl, 0, none⟩) (n + 1) cap) (n + 1) (vs ++ [.pointer (some ⟨b, o, none⟩), .int .i64 0])) (hB : Below base w w1) :
    NodesRel base w n b o vs [] (.slice (some ⟨gl, 0, none⟩) (n + 1) cap) w1 := ⟨[], by simpa [sizes] using h, rfl, hB⟩
theorem nodes_next {base n b o : Nat} {w wr w3 : World} {vs us us2 : List Value} {ks : List Tm} {j : Nat} (hj : j < ks.length) {l2 : Value} (hN : NL base wr (subL (ks.take j)) us) (hB : Below base w wr)
    (h : w3.ownsRow base 230 2 l2 (n + 1 + sizes (ks.take j) + size ks[j]) ((vs ++ (.pointer (some ⟨b, o, none⟩) :: .int .i64 0 :: us)) ++ us2)) (hN2 : NL base w3 (subT ks[j]) us2) (hB2 : Below base wr w3) :
    NodesRel base w n b o vs (ks.take (j + 1)) l2 w3 := by
  refine ⟨us ++ us2, ?_, ?_, hB.trans hB2⟩
  · have e1 : n + 1 + sizes (ks.take (j + 1)) = n + 1 + sizes (ks.take j) + size ks[j] := by have := sizes_take ks j hj; omega
    have e2 : vs ++ (.pointer (some ⟨b, o, none⟩) :: .int .i64 0 :: (us ++ us2)) = (vs ++ (.pointer (some ⟨b, o, none⟩) :: .int .i64 0 :: us)) ++ us2 := by simp
    rw [e1, e2]; exact h
  · rw [subL_take ks j hj]
    exact NL_append _ _ _ _ (NL_carry (fun b hb => hB2.block b hb) _ _ hN) hN2
theorem nodes_end {base n b o g cap : Nat} {w wr : World} {vs us : List Value} {k s : Int} {nm : ByteArray} {ks : List Tm} (hv : vs.length = n * 2) (hL : LiesIn (fun b => b < base) w (.mk k nm s ks) b o)
    (h : wr.ownsRow base 230 2 (.slice (some ⟨g, 0, none⟩) (n + 1 + sizes ks) cap) (n + 1 + sizes ks) (vs ++ (.pointer (some ⟨b, o, none⟩) :: .int .i64 0 :: us))) (hN : NL base wr (subL ks) us) (hB : Below base w wr) :
    NodesPost base w n vs (.mk k nm s ks) (.returned (.slice (some ⟨g, 0, none⟩) (n + 1 + sizes ks) cap)) (wr.setCell ⟨g, n * 2 + 1, none⟩ (.int .i64 (1 + sizes ks : Nat))) := by
  have hg : base ≤ g := (h.lt g rfl).1
  have hB2 : Below base wr (wr.setCell ⟨g, n * 2 + 1, none⟩ (.int .i64 (1 + sizes ks : Nat))) := (Below.refl _ _).setCell hg _
  refine ⟨_, .pointer (some ⟨b, o, none⟩) :: .int .i64 (1 + sizes ks : Nat) :: us, rfl, ?_, ?_, hB.trans hB2⟩
  · have h1 := (h.stored (n * 2 + 1) (.int .i64 (1 + sizes ks : Nat))).1
    have e : (vs ++ (.pointer (some ⟨b, o, none⟩) :: .int .i64 0 :: us)).set (n * 2 + 1) (.int .i64 (1 + sizes ks : Nat)) = vs ++ (.pointer (some ⟨b, o, none⟩) :: .int .i64 (1 + sizes ks : Nat) :: us) := by
      rw [← hv]; simp
    rw [e] at h1
    have e2 : n + size (.mk k nm s ks) = n + 1 + sizes ks := by simp only [size]; omega
    rw [e2]; exact h1
  · simp only [subT]
    refine ⟨b, o, us, by simp only [size], LiesIn_carry (fun b hb => (hB.trans hB2).block b hb) (fun _ h => h) hL, NL_carry (fun b hb => hB2.block b hb) _ _ hN⟩
theorem nodes_cells {base n b o g cap m : Nat} {wr : World} {vs us : List Value} (hv : vs.length = n * 2) (hm : n + 1 ≤ m)
    (h : wr.ownsRow base 230 2 (.slice (some ⟨g, 0, none⟩) m cap) m (vs ++ (.pointer (some ⟨b, o, none⟩) :: .int .i64 0 :: us))) : wr.cell? ⟨g, n * 2 + 1, none⟩ = some (.int .i64 0) ∧ wr.frozen? ⟨g, n * 2 + 1, none⟩ = false := by
  refine ⟨?_, h.frozenAt _⟩
  rw [h.cellAt _ (by omega), List.getElem?_append_right (by omega), hv, Nat.add_sub_cancel_left]; rfl

set_option maxHeartbeats 3200000 in
set_option maxRecDepth 100000 in
theorem nodes_any (m : Nat) : ∀ (t : Tm) (b o n : Nat) (l : Value) (vs : List Value) (base : Nat) (w : World), size t ≤ m → m ≤ 1073741824 →
    w.ownsRow base 230 2 l n vs → base ≤ w.heap.size → LiesIn (fun b => b < base) w t b o → n + size t ≤ 1073741824 →
    Calls Tryz.prog 165 #[.pointer (some ⟨b, o, none⟩), l] w (NodesPost base w n vs t) := by
  induction m with
  | zero => intro t b o n l vs base w h; have := size_pos t; omega
  | succ m ih =>
    intro t b o n l vs base w hm hM hown hbw hL hnt
    obtain ⟨k, nm, s, ks⟩ := t
    have hsk : size (.mk k nm s ks) = 1 + sizes ks := rfl
    rw [hsk] at hm hnt
    have HL := Lib.hid hL
    obtain ⟨hbb, c0, c1, c2, c3, g0, g1, g2, g3, hI⟩ := hL
    simp only [IsIn] at hI
    obtain ⟨rfl, rfl, rfl, _, _, _, hkl, xa, cap, rfl, hcap, hR⟩ := hI
    have hkl2 := length_le_sizes ks
    obtain ⟨xl, lcap, hlv⟩ := own_form hown
    subst hlv
    obtain ⟨i0, hi0, hz0, hz1, hz2⟩ := info_parts info97
    have HI0 := Lib.hid (And.intro hi0 (And.intro hz0 (And.intro hz1 hz2)))
    have HO := Lib.hid hown
    have hvl := hown.1
    have HR := Lib.hid hR
    clear g0 g1 g2 hi0 hz0 hz1 hz2 hR hown
    go_enter Tryz.func165, Tryz.ntmps165
    go_wp2_with (at_builtin; refine wpList_append_lies _ rfl _ _ _ rfl base 230 i0 _ 2 16 Tryz.underlying190 HI0.out.1 HI0.out.2.1 HI0.out.2.2.1 HI0.out.2.2.2 rfl (by omega) (.slice xl n lcap) n vs rfl (HO.out.alloc _) ⟨w.heap.size, 0, none⟩ 1 1 [.pointer (some ⟨b, o, none⟩), .int .i64 0] rfl rfl (World.news_of_block (cs := #[.pointer (some ⟨b, o, none⟩), .int .i64 0]) (t := 230) (fr := (0, 0)) (heap_alloc_new w _)) (by simp [Value.oneCell']) (by omega) (by unfold maxLen; omega) (by omega) (by simp; omega) (w.heap.size + 1) (by simp) ?_; intro gl lcap' w1 hown1 hgrow hat hlt; have hB1 : Below base w w1 := (((Below.refl base w).alloc hbw _).grown hgrow (by simp; omega) (fun q hq => (HO.out.lt q hq).1)); have HS := Lib.hid (nodes_start hown1 hB1); have g3' : w1.cell? ⟨b, o + 3, none⟩ = some (.slice xa ks.length cap) := (hB1.cell hbb).trans g3; clear hown1 hgrow hat hB1)
    go_loopw [1, 19] (fun lv i wr => ∃ j : Nat, j ≤ ks.length ∧ i = .int .i64 j ∧ NodesRel base w n b o vs (ks.take j) lv wr) (fun _ i _ => ks.length - (intOf i).toNat)
    case atStart => exact ⟨0, Nat.zero_le _, rfl, HS.out⟩
    case round =>
      obtain ⟨j, hj, rfl, us, hp, hN, hB⟩ := hrel
      have hgr : wr.cell? ⟨b, o + 3, none⟩ = some (.slice xa ks.length cap) := (hB.cell hbb).trans g3
      clear g3'
      obtain ⟨xl2, lcap2, hlv⟩ := own_form hp
      subst hlv
      by_cases hlt : j < ks.length
      rotate_left
      · have hjl : ks.take j = ks := by rw [List.take_of_length_le]; omega
        rw [hjl] at hp hN
        obtain ⟨g, cap2, e⟩ := own_form_pos hp (by omega)
        simp only [Value.slice.injEq, true_and] at e
        obtain ⟨rfl, rfl⟩ := e
        obtain ⟨y, z⟩ := nodes_cells hvl (by omega) hp
        have HE := Lib.hid (nodes_end hvl HL.out hp hN hB)
        have hsub : (n : Int) + 1 + (sizes ks : Int) - (n : Int) = ((1 + sizes ks : Nat) : Int) := by omega
        have HS2 := Lib.hid hsub
        rw [hjl]
        clear hjl hp hN hB hsub
        go_wp2_with fail
        go_ret
        rw [HS2.out]
        exact HE.out
      obtain ⟨kb, ko, rfl⟩ := RowIn_at HR.out (by omega)
      have HK0 := Lib.hid (RowIn_get HR.out j hlt)
      have hsz := sizes_take ks j hlt
      have hle := sizes_take_le ks (j + 1)
      have HB := Lib.hid hB
      have HIH := Lib.hid (ih ks[j] kb (ko + j * 4) _ _ _ base wr (by omega) (by omega) hp (Nat.le_trans hbw hB.size) (LiesIn_carry (fun b hb => hB.block b hb) (fun _ h => h) HK0.out) (by omega))
      have HX := Lib.hid hN
      clear ih hp hN hB
      go_wp2_with (go_at_call 165; refine (HIH.out).mono ?_; rintro e w3 ⟨l2, us2, he, q1, q2, q3⟩; subst he; have HN3 := Lib.hid (nodes_next hlt HX.out HB.out q1 q2 q3); clear q1 q2 q3)
      go_roundw
      case rel => exact ⟨j + 1, by omega, by go_num, HN3.out⟩
      case measure => simp [intOf]; omega

end Go.Proofs.YtkfbbkkfagglhaaGreatDoor
