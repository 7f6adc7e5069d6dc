/-
  WHAT slices.CompactFunc COMPUTES AT NODES, and the laws that its walk wants.
-/
import Derived.Test.YtkfbbkkfagglhaaGreatDoorSort
import Derived.Lib.SliceRun
import Derived.IntWalk
namespace Go.Proofs.YtkfbbkkfagglhaaGreatDoor
open Go.RowKit Go.Lib

section
variable {base : Nat} {w : World}
/-- Consecutive equals but once, p being the one ahead. -/
def cptN (p : NA base w) : List (NA base w) → List (NA base w)
  | [] => []
  | x :: xs => if cmpT x.t p.t = 0 then cptN x xs else x :: cptN x xs
def compN : List (NA base w) → List (NA base w)
  | [] => []
  | x :: xs => x :: cptN x xs

/-- The first loop: no equals so far. -/
structure CH (L : List (NA base w)) (k : Nat) : Prop where
  lt : k < L.length
  eq : ∀ h : k < L.length, compN L = L.take (k + 1) ++ cptN L[k] (L.drop (k + 1))
theorem CH.start {L : List (NA base w)} (h : 0 < L.length) : CH L 0 := ⟨h, fun _ => by
  cases L with
  | nil => simp at h
  | cons x xs => simp [compN]⟩
theorem CH.step {L : List (NA base w)} {k : Nat} (h : CH L k) (hk : k + 1 < L.length) (hne : ¬ cmpT L[k + 1].t (L[k]'h.lt).t = 0) : CH L (k + 1) := ⟨hk, fun _ => by
  have := h.eq h.lt
  rw [List.drop_eq_getElem_cons hk, cptN, if_neg hne] at this
  rw [this, List.take_succ_eq_append_getElem hk, List.append_assoc]; rfl⟩
theorem CH.done {L : List (NA base w)} {k : Nat} (h : CH L k) (hk : L.length = k + 1) : compN L = L := by
  have := h.eq h.lt
  rw [List.drop_of_length_le (by omega), cptN, List.take_of_length_le (by omega), List.append_nil] at this
  exact this

/-- The second loop: kk places are laid, the place ahead is p. -/
structure CI (L cur : List (NA base w)) (p kk : Nat) : Prop where
  len : cur.length = L.length
  lt : kk ≤ p
  plt : p < L.length
  high : ∀ i, p ≤ i → cur[i]? = L[i]?
  eq : ∀ h : p < L.length, compN L = cur.take kk ++ cptN L[p] (L.drop (p + 1))
theorem CI.start {L : List (NA base w)} {k : Nat} (h : CH L k) (hk : k + 1 < L.length) (he : cmpT L[k + 1].t (L[k]'h.lt).t = 0) : CI L L (k + 1) (k + 1) := ⟨rfl, Nat.le_refl _, hk, fun _ _ => rfl, fun _ => by
  have := h.eq h.lt
  rw [List.drop_eq_getElem_cons hk, cptN, if_pos he] at this
  exact this⟩
theorem CI.skip {L cur : List (NA base w)} {p kk : Nat} (h : CI L cur p kk) (hp : p + 1 < L.length) (he : cmpT L[p + 1].t (L[p]'h.plt).t = 0) : CI L cur (p + 1) kk := ⟨h.len, Nat.le_succ_of_le h.lt, hp, fun i hi => h.high i (by omega), fun _ => by
  have := h.eq h.plt
  rw [List.drop_eq_getElem_cons hp, cptN, if_pos he] at this
  exact this⟩
theorem CI.keep {L cur : List (NA base w)} {p kk : Nat} (h : CI L cur p kk) (hp : p + 1 < L.length) (he : ¬ cmpT L[p + 1].t (L[p]'h.plt).t = 0) : CI L (cur.set kk L[p + 1]) (p + 1) (kk + 1) := by
  have hl := h.lt
  have hc := h.len
  refine ⟨by rw [List.length_set]; exact h.len, by omega, hp, fun i hi => ?_, fun _ => ?_⟩
  · rw [List.getElem?_set_ne (by omega)]; exact h.high i (by omega)
  · have := h.eq h.plt
    rw [List.drop_eq_getElem_cons hp, cptN, if_neg he] at this
    rw [this, List.take_succ_eq_append_getElem (by rw [List.length_set]; omega), List.getElem_set_self, List.take_set_of_le (Nat.le_refl _), List.append_assoc]; rfl
theorem CI.done {L cur : List (NA base w)} {p kk : Nat} (h : CI L cur p kk) (hp : L.length = p + 1) : compN L = cur.take kk ∧ kk ≤ p := by
  have := h.eq h.plt
  rw [List.drop_of_length_le (by omega), cptN, List.append_nil] at this
  exact ⟨this, h.lt⟩
end

/-- 'clear(s)' at elements of whatever many cells. -/
theorem run_clear_row {P : Program} (w : World) (t e ty : TypeId) (z : Value) (zs : List Value) (ht : P.underlying t = some (.slice e)) (hv : ∀ w, (zeroValue e).run P w = .ok z w) (b o n c : Nat) (hn : 0 < n) (hz : (Builtin.zeroCells z.cells n).toList = zs)
    (hc : ∀ j, j < zs.length → (w.cell? ⟨b, o + j, none⟩).isSome = true) (hf : ∀ j, j < zs.length → w.frozen? ⟨b, o + j, none⟩ = false) (h1 : ∀ v ∈ zs, v.oneCell' = true) :
    (Builtin.clear_ #[t] ty #[.slice (some ⟨b, o, none⟩) n c]).run P w = .ok (.tuple #[]) (w.setCells b o zs) := by
  have hst := run_storeCells_cells (P := P) b o zs 0 w (by simpa using hc) (by simpa using hf) h1
  simp only [Nat.add_zero] at hst
  obtain ⟨m, rfl⟩ : ∃ m, n = m + 1 := ⟨n - 1, by omega⟩
  simp [Builtin.clear_, run_underlying ht, hv, hz, hst]

theorem own_setCells {base : Nat} {T : TypeId} {k g n cap : Nat} : ∀ (zs : List Value) (o : Nat) (xs : List Value) (w : World), w.ownsRow base T k (.slice (some ⟨g, 0, none⟩) n cap) n xs →
    ∃ ys, (w.setCells g o zs).ownsRow base T k (.slice (some ⟨g, 0, none⟩) n cap) n ys ∧ ys.take o = xs.take o ∧ Below base w (w.setCells g o zs)
  | [], o, xs, w, h => ⟨xs, h, rfl, Below.refl _ _⟩
  | z :: zs, o, xs, w, h => by
    have h1 := (h.stored o z).1
    obtain ⟨ys, h2, h3, h4⟩ := own_setCells zs (o + 1) _ _ h1
    refine ⟨ys, h2, ?_, ((Below.refl _ _).setCell (h.lt g rfl).1 z).trans h4⟩
    have := congrArg (List.take o) h3
    rw [List.take_take, List.take_take, Nat.min_eq_left (by omega)] at this
    rw [this, List.take_set_of_le (Nat.le_refl _)]

end Go.Proofs.YtkfbbkkfagglhaaGreatDoor

/-
  THE WALK OF slices.CompactFunc AT NODES.
-/
namespace Go.Proofs.YtkfbbkkfagglhaaGreatDoor
open Go.RowKit Go.Lib

section
variable {base : Nat} {w : World}
def CompactPost (g cap : Nat) (L : List (NA base w)) (w0 : World) (e : Ending) (w' : World) : Prop :=
  e = .returned (.slice (some ⟨g, 0, none⟩) (compN L).length cap) ∧ w'.ownsRow base 230 2 (.slice (some ⟨g, 0, none⟩) (compN L).length cap) (compN L).length ((compN L).flatMap encN) ∧ Below base w0 w'

theorem encN_len (x : NA base w) : (encN x).length = 2 := rfl
/-- The two cells of a node of the row. -/
theorem node_cells {g n cap : Nat} {L : List (NA base w)} {wr : World} (h : wr.ownsRow base 230 2 (.slice (some ⟨g, 0, none⟩) n cap) n (L.flatMap encN)) (j : Nat) (hj : j < L.length) :
    (wr.cell? ⟨g, j * 2, none⟩ = some (.pointer (some ⟨L[j].b, L[j].o, none⟩)) ∧ wr.cell? ⟨g, j * 2 + 1, none⟩ = some (.int .i64 (size L[j].t))) ∧ wr.frozen? ⟨g, j * 2, none⟩ = false ∧ wr.frozen? ⟨g, j * 2 + 1, none⟩ = false := by
  have hl := h.1
  rw [flat_len encN encN_len] at hl
  haveI : Inhabited (NA base w) := ⟨L[j]⟩
  have e : L[j]! = L[j] := getElem!_pos L j hj
  refine ⟨⟨?_, ?_⟩, h.frozenAt _, h.frozenAt _⟩
  · rw [h.cellAt _ (by omega), flat2 encN encN_len L (j * 2) (by omega), show j * 2 / 2 = j by omega, show j * 2 % 2 = 0 by omega, e]; rfl
  · rw [h.cellAt _ (by omega), flat2 encN encN_len L (j * 2 + 1) (by omega), show (j * 2 + 1) / 2 = j by omega, show (j * 2 + 1) % 2 = 1 by omega, e]; rfl
theorem NA.liesAt (x : NA base w) {wr : World} (h : Below base w wr) : Lies wr x.t x.b x.o := by
  obtain ⟨_, c0, c1, c2, c3, q0, q1, q2, q3, hI⟩ := LiesIn_carry (fun b hb => h.block b hb) (fun _ h => h) x.lies
  exact ⟨c0, c1, c2, c3, q0, q1, q2, q3, IsIn_Is _ _ _ _ _ hI⟩

theorem node_high {g n cap : Nat} {L cur : List (NA base w)} {p kk : Nat} {wr : World} (hI : CI L cur p kk) (h : wr.ownsRow base 230 2 (.slice (some ⟨g, 0, none⟩) n cap) n (cur.flatMap encN)) (i : Nat) (hp : p ≤ i) (hi : i < L.length) :
    wr.cell? ⟨g, i * 2, none⟩ = some (.pointer (some ⟨L[i].b, L[i].o, none⟩)) ∧ wr.cell? ⟨g, i * 2 + 1, none⟩ = some (.int .i64 (size L[i].t)) := by
  have hc : i < cur.length := by rw [hI.len]; exact hi
  have e : cur[i] = L[i] := by
    have := hI.high i hp
    rw [List.getElem?_eq_getElem hc, List.getElem?_eq_getElem hi] at this
    exact Option.some.inj this
  have := (node_cells h i hc).1
  rw [e] at this; exact this
theorem own_cap {wr : World} {g n cap : Nat} {T : TypeId} {k : Nat} {xs : List Value} (h : wr.ownsRow base T k (.slice (some ⟨g, 0, none⟩) n cap) n xs) : n ≤ cap := by
  rcases h.2 with ⟨e, _⟩ | ⟨g', c, cur, e, _, _, h1, _⟩
  · cases e
  · simp only [Value.slice.injEq] at e; omega

theorem own_node {g n cap : Nat} {cur : List (NA base w)} {wr : World} {kk : Nat} (h : wr.ownsRow base 230 2 (.slice (some ⟨g, 0, none⟩) n cap) n (cur.flatMap encN)) (hk : kk < cur.length) (u : NA base w) :
    ((wr.setCell ⟨g, kk * 2, none⟩ (.pointer (some ⟨u.b, u.o, none⟩))).setCell ⟨g, kk * 2 + 1, none⟩ (.int .i64 (size u.t))).ownsRow base 230 2 (.slice (some ⟨g, 0, none⟩) n cap) n ((cur.set kk u).flatMap encN) := by
  have h1 := ((h.stored (kk * 2) (.pointer (some ⟨u.b, u.o, none⟩))).1.stored (kk * 2 + 1) (.int .i64 (size u.t))).1
  have e : ∀ (l : List (NA base w)) (i : Nat), i < l.length → ((l.flatMap encN).set (i * 2) (.pointer (some ⟨u.b, u.o, none⟩))).set (i * 2 + 1) (.int .i64 (size u.t)) = (l.set i u).flatMap encN := by
    intro l
    induction l with
    | nil => intro i h; simp at h
    | cons x l ih =>
      intro i h
      cases i with
      | zero => simp [encN]
      | succ i =>
        have := ih i (by simpa using h)
        simp only [List.flatMap_cons, List.set_cons_succ, ← this]
        simp only [encN, List.cons_append, List.nil_append, show (i + 1) * 2 = i * 2 + 1 + 1 by omega, List.set_cons_succ]
  rw [e cur kk hk] at h1
  exact h1
theorem node_below {g kk : Nat} (hg : base ≤ g) (wr : World) (u v : Value) : Below base wr ((wr.setCell ⟨g, kk * 2, none⟩ u).setCell ⟨g, kk * 2 + 1, none⟩ v) := ((Below.refl _ _).setCell hg u).setCell hg v

theorem flat_take : ∀ (l : List (NA base w)) (i : Nat), (l.flatMap encN).take (i * 2) = (l.take i).flatMap encN
  | [], i => by simp
  | x :: l, 0 => by simp
  | x :: l, i + 1 => by
    have := flat_take l i
    simp only [List.flatMap_cons, List.take_succ_cons, ← this]
    simp only [encN, List.cons_append, List.nil_append, show (i + 1) * 2 = i * 2 + 1 + 1 by omega, List.take_succ_cons]
def zeroN (n : Nat) : List Value := (Builtin.zeroCells (Value.agg #[.pointer none, .int .i64 0]).cells n).toList
theorem zeroN_length (n : Nat) : (zeroN n).length = n * 2 := by simp [zeroN, Builtin.zeroCells, Value.cells]
theorem zeroN_one (n : Nat) : ∀ v ∈ zeroN n, v.oneCell' = true := by
  intro v hv
  simp only [zeroN, Builtin.zeroCells, Value.cells, Array.toList_map, List.mem_map] at hv
  obtain ⟨i, _, rfl⟩ := hv
  have : i % 2 = 0 ∨ i % 2 = 1 := by omega
  rcases this with h | h <;> (simp only [List.size_toArray, List.length_cons, List.length_nil]; rw [h]; rfl)
theorem clear_nodes {g n cap kk : Nat} {xs : List Value} {wr : World} (h : wr.ownsRow base 230 2 (.slice (some ⟨g, 0, none⟩) n cap) n xs) (hk : kk < n) (ty : TypeId) :
    (Builtin.clear_ #[190] ty #[.slice (some ⟨g, kk * 2, none⟩) (n - kk) (cap - kk)]).run Tryz.prog wr = .ok (.tuple #[]) (wr.setCells g (kk * 2) (zeroN (n - kk))) := by
  have hl := h.1
  refine run_clear_row wr 190 230 ty (.agg #[.pointer none, .int .i64 0]) _ Tryz.underlying190 Tryz.zeroValue230 g (kk * 2) (n - kk) (cap - kk) (by omega) rfl (fun j hj => ?_) (fun j hj => h.frozenAt _) (zeroN_one _)
  rw [zeroN_length] at hj
  rw [h.cellAt _ (by omega), List.getElem?_eq_getElem (by omega)]; rfl
theorem compact_end {g cap kk p : Nat} {L cur : List (NA base w)} {w0 wr : World} (hI : CI L cur p kk) (h : wr.ownsRow base 230 2 (.slice (some ⟨g, 0, none⟩) L.length cap) L.length (cur.flatMap encN)) (hB : Below base w0 wr) (hp : L.length = p + 1) :
    CompactPost g cap L w0 (.returned (.slice (some ⟨g, 0, none⟩) kk cap)) (wr.setCells g (kk * 2) (zeroN (L.length - kk))) := by
  obtain ⟨e, hkp⟩ := hI.done hp
  have hlen : (compN L).length = kk := by rw [e, List.length_take, hI.len]; omega
  obtain ⟨ys, h1, h2, h3⟩ := own_setCells (zeroN (L.length - kk)) (kk * 2) _ _ h
  rw [flat_take, ← e] at h2
  have hn : L.length = kk + (L.length - kk) := by omega
  have hy : ys = (compN L).flatMap encN ++ ys.drop (kk * 2) := by rw [← h2, List.take_append_drop]
  rw [hy] at h1
  unfold CompactPost
  rw [hlen]
  refine ⟨rfl, ?_, hB.trans h3⟩
  refine own_shorter (m := L.length - kk) (ys := ys.drop (kk * 2)) ?_ (by rw [flat_len encN encN_len, hlen])
  rw [← hn]; exact h1

set_option maxHeartbeats 3200000 in
set_option maxRecDepth 100000 in
theorem compact_nodes {g cap : Nat} (L : List (NA base w)) (w0 : World) (hown : w0.ownsRow base 230 2 (.slice (some ⟨g, 0, none⟩) L.length cap) L.length (L.flatMap encN)) (hB0 : Below base w w0) (hbw : base ≤ w0.heap.size) (hlt : L.length ≤ 1152921504606846976) (hpos : 0 < L.length) :
    Calls Tryz.prog 203 #[.slice (some ⟨g, 0, none⟩) L.length cap, .func (.func 204) #[] #[]] w0 (CompactPost g cap L w0) := by
  by_cases h2 : L.length < 2
  · have HP : Hid (CompactPost g cap L w0 (.returned (.slice (some ⟨g, 0, none⟩) L.length cap)) w0) := by
      have e : compN L = L := (CH.start hpos).done (by omega)
      show CompactPost _ _ _ _ _ _
      unfold CompactPost
      rw [e]
      exact ⟨rfl, hown, Below.refl _ _⟩
    clear hown
    go_enter Tryz.func203, Tryz.ntmps203
    go_wp2_with fail
    go_ret
    exact HP.out
  have hcap : L.length ≤ cap := own_cap hown
  have HO := Lib.hid hown
  have HB0 := Lib.hid hB0
  have HS := Lib.hid (CH.start hpos)
  clear hown hB0
  go_enter Tryz.func203, Tryz.ntmps203
  go_wp2_with fail
  go_loopw [5] (fun s5 wr => ∃ k : Nat, s5 = .int .i64 ((k + 1 : Nat) : Int) ∧ CH L k ∧ wr.ownsRow base 230 2 (.slice (some ⟨g, 0, none⟩) L.length cap) L.length (L.flatMap encN) ∧ Below base w0 wr) (fun s5 _ => L.length - (intOf s5).toNat)
  case atStart => exact ⟨0, rfl, HS.out, HO.out, Below.refl _ _⟩
  case round =>
    obtain ⟨k, rfl, hC, hO, hB⟩ := hrel
    have hkl := hC.lt
    by_cases hlast : k + 1 < L.length
    rotate_left
    · have HP : Hid (CompactPost g cap L w0 (.returned (.slice (some ⟨g, 0, none⟩) L.length cap)) wr) := by
        have e : compN L = L := hC.done (by omega)
        show CompactPost _ _ _ _ _ _
        unfold CompactPost
        rw [e]
        exact ⟨rfl, hO, hB⟩
      clear hC hO
      go_wp2_with fail
      go_ret
      exact HP.out
    have HX := Lib.hid (And.intro hC (And.intro hO hB))
    obtain ⟨⟨x0, x1⟩, _⟩ := node_cells hO (k + 1) hlast
    obtain ⟨⟨y0, y1⟩, _⟩ := node_cells hO k hkl
    have hblt : base ≤ wr.heap.size := Nat.le_trans hbw hB.size
    have hBr := HB0.out.trans hB
    have HCL := Lib.hid (nodesEq_any L[k + 1].t L[k].t L[k + 1].b L[k + 1].o L[k].b L[k].o wr.drew L[k + 1].sz (L[k + 1].liesAt hBr.drew) (L[k].liesAt hBr.drew))
    clear hC hO hB hBr
    generalize hx : L[k + 1] = x at x0 x1 HCL
    generalize hy : L[k] = y at y0 y1 HCL
    have HE := Lib.hid (And.intro hx hy)
    have hw1 : IntKind.i64.wrap ((k : Int) + 1 - 1) = (k : Int) := by rw [Int.add_sub_cancel]; exact IntWalk.i64_in _ (by omega)
    have hw2 : IntKind.i64.wrap (k : Int) = (k : Int) := IntWalk.i64_in _ (by omega)
    have i1 : (0 : Int) ≤ (k : Int) + 1 := by omega
    have i2 : (k : Int) + 1 < (L.length : Int) := by omega
    have i3 : (0 : Int) ≤ (k : Int) := by omega
    have i4 : (k : Int) < (L.length : Int) := by omega
    have i5 : ((k : Int) + 1).toNat = k + 1 := by omega
    clear hx hy
    by_cases he : cmpT x.t y.t = 0
    · have hd : decide (cmpT x.t y.t = 0) = true := by simp [he]
      have HDE := Lib.hid he
      rw [hd] at HCL
      clear he hd
      go_wp2_with fail
      go_region_held3 (fun W => (W.cell? ⟨g, (k + 1) * 2, none⟩ = some (.pointer (some ⟨x.b, x.o, none⟩)) ∧ W.cell? ⟨g, (k + 1) * 2 + 1, none⟩ = some (.int .i64 (size x.t))) ∧ W.cell? ⟨g, k * 2, none⟩ = some (.pointer (some ⟨y.b, y.o, none⟩)) ∧ W.cell? ⟨g, k * 2 + 1, none⟩ = some (.int .i64 (size y.t)))
        (first | go_keep | exact ⟨⟨by assumption, by assumption⟩, by assumption, by assumption⟩)
        (first | (go_at_call 204; refine (HCL.out).mono ?_; rintro e w3 ⟨he3, hG⟩; subst he3; have hG2 : Gr wr w3 := ((Gr.refl wr).drew).trans hG; have hB2 := hG2.below; have p0 := keep_below hB2 _ _ x0; have p1 := keep_below hB2 _ _ x1; have p2 := keep_below hB2 _ _ y0; have p3 := keep_below hB2 _ _ y1; clear hG))
      clear x0 x1 y0 y1 p0 p1 p2 p3 hG2
      have j1 : (k : Int) + 1 ≤ (L.length : Int) := by omega
      have j2 : (L.length : Int) ≤ (cap : Int) := by omega
      have HY := Lib.hid hB2
      clear hB2
      go_wp2_with fail
      go_loopw [5, 7] (fun s5 s7 wr' => ∃ (kk q : Nat) (cur : List (NA base w)), s5 = .int .i64 (kk : Int) ∧ s7 = .int .i64 ((q + 1 : Nat) : Int) ∧ CI L cur (k + 1 + q) kk ∧ wr'.ownsRow base 230 2 (.slice (some ⟨g, 0, none⟩) L.length cap) L.length (cur.flatMap encN) ∧ Below base w0 wr') (fun _ s7 _ => L.length - (intOf s7).toNat)
      case atStart =>
        refine ⟨k + 1, 0, L, by go_num, rfl, CI.start HX.out.1 hlast (by rw [HE.out.1, HE.out.2]; exact HDE.out), ?_, HX.out.2.2.trans (HY.out.mono hblt)⟩
        exact own_heap HX.out.2.1 (fun q hq => HY.out.block q (HX.out.2.1.lt q hq).2)
      case round =>
        obtain ⟨kk, q, cur, rfl, rfl, hI, hO2, hB3⟩ := hrel
        have hcl := hI.len
        have hkp := hI.lt
        have hpl := hI.plt
        have HX2 := Lib.hid (And.intro hI (And.intro hO2 hB3))
        have hg := hO2.lt g rfl
        by_cases hlt2 : k + 1 + q + 1 < L.length
        · have n1 := node_high hI hO2 (k + 1 + q + 1) (by omega) hlt2
          have n2 := node_high hI hO2 (k + 1 + q) (Nat.le_refl _) hpl
          rw [show (k + 1 + q + 1) * 2 = (k + 1) * 2 + (q + 1) * 2 by omega] at n1
          rw [show (k + 1 + q) * 2 = (k + 1) * 2 + q * 2 by omega] at n2
          obtain ⟨a0, a1⟩ := n1
          obtain ⟨b0, b1⟩ := n2
          have hBr := HB0.out.trans hB3
          have HCM := Lib.hid (nodesEq_any L[k + 1 + q + 1].t L[k + 1 + q].t L[k + 1 + q + 1].b L[k + 1 + q + 1].o L[k + 1 + q].b L[k + 1 + q].o wr.drew L[k + 1 + q + 1].sz (L[k + 1 + q + 1].liesAt hBr.drew) (L[k + 1 + q].liesAt hBr.drew))
          generalize hu : L[k + 1 + q + 1] = u at a0 a1 HCM
          generalize hv : L[k + 1 + q] = v at b0 b1 HCM
          have HUV := Lib.hid (And.intro hu hv)
          have hw3 : IntKind.i64.wrap ((q : Int) + 1 - 1) = (q : Int) := by rw [Int.add_sub_cancel]; exact IntWalk.i64_in _ (by omega)
          have hw4 : IntKind.i64.wrap (q : Int) = (q : Int) := IntWalk.i64_in _ (by omega)
          have m1 : (0 : Int) ≤ (q : Int) + 1 := by omega
          have m2 : (q : Int) + 1 < ((L.length - (k + 1) : Nat) : Int) := by omega
          have m3 : (0 : Int) ≤ (q : Int) := by omega
          have m4 : (q : Int) < ((L.length - (k + 1) : Nat) : Int) := by omega
          have m5 : ((q : Int) + 1).toNat = q + 1 := by omega
          have m6 : (0 : Int) ≤ (kk : Int) := by omega
          have m7 : (kk : Int) < (L.length : Int) := by omega
          clear hu hv hI hO2 hB3 hBr
          by_cases huv : cmpT u.t v.t = 0
          · have hd : decide (cmpT u.t v.t = 0) = true := by simp [huv]
            have HDE2 := Lib.hid huv
            rw [hd] at HCM
            clear huv hd
            go_wp2_with fail
            go_region_held3 (fun W => (W.cell? ⟨g, (k + 1) * 2 + (q + 1) * 2, none⟩ = some (.pointer (some ⟨u.b, u.o, none⟩)) ∧ W.cell? ⟨g, (k + 1) * 2 + (q + 1) * 2 + 1, none⟩ = some (.int .i64 (size u.t))) ∧ W.cell? ⟨g, (k + 1) * 2 + q * 2, none⟩ = some (.pointer (some ⟨v.b, v.o, none⟩)) ∧ W.cell? ⟨g, (k + 1) * 2 + q * 2 + 1, none⟩ = some (.int .i64 (size v.t)))
              (first | go_keep | exact ⟨⟨by assumption, by assumption⟩, by assumption, by assumption⟩)
              (first | (go_at_call 204; refine (HCM.out).mono ?_; rintro e w4 ⟨he4, hG⟩; subst he4; have hG2 : Gr wr w4 := ((Gr.refl wr).drew).trans hG; have hB4 := hG2.below; have p0 := keep_below hB4 _ _ a0; have p1 := keep_below hB4 _ _ a1; have p2 := keep_below hB4 _ _ b0; have p3 := keep_below hB4 _ _ b1; clear hG hG2))
            have HB4 := Lib.hid hB4
            clear a0 a1 b0 b1 p0 p1 p2 p3 hB4
            go_wp2_with fail
            go_roundw
            case rel => exact ⟨kk, q + 1, cur, rfl, by go_num, HX2.out.1.skip hlt2 (by rw [HUV.out.1, HUV.out.2]; exact HDE2.out), own_heap HX2.out.2.1 (fun r hr => HB4.out.block r (HX2.out.2.1.lt r hr).2), HX2.out.2.2.trans (HB4.out.mono (by omega))⟩
            case measure => simp [intOf]; omega
          · have hd : decide (cmpT u.t v.t = 0) = false := by simp [huv]
            have HDE2 := Lib.hid huv
            rw [hd] at HCM
            clear huv hd
            go_wp2_with fail
            go_region_held3 (fun W => (W.cell? ⟨g, (k + 1) * 2 + (q + 1) * 2, none⟩ = some (.pointer (some ⟨u.b, u.o, none⟩)) ∧ W.cell? ⟨g, (k + 1) * 2 + (q + 1) * 2 + 1, none⟩ = some (.int .i64 (size u.t))) ∧ W.cell? ⟨g, (k + 1) * 2 + q * 2, none⟩ = some (.pointer (some ⟨v.b, v.o, none⟩)) ∧ W.cell? ⟨g, (k + 1) * 2 + q * 2 + 1, none⟩ = some (.int .i64 (size v.t)))
              (first | go_keep | exact ⟨⟨by assumption, by assumption⟩, by assumption, by assumption⟩)
              (first | (go_at_call 204; refine (HCM.out).mono ?_; rintro e w4 ⟨he4, hG⟩; subst he4; have hG2 : Gr wr w4 := ((Gr.refl wr).drew).trans hG; have hB4 := hG2.below; have p0 := keep_below hB4 _ _ a0; have p1 := keep_below hB4 _ _ a1; have p2 := keep_below hB4 _ _ b0; have p3 := keep_below hB4 _ _ b1; clear hG hG2))
            have HB4 := Lib.hid hB4
            have HO4 := Lib.hid (own_heap (w' := w4) HX2.out.2.1 (fun r hr => HB4.out.block r (HX2.out.2.1.lt r hr).2))
            obtain ⟨⟨c0, c1⟩, c2, c3⟩ := node_cells HO4.out kk (by omega)
            generalize cur[kk].b = d1 at c0
            generalize cur[kk].o = d2 at c0
            generalize (size cur[kk].t : Int) = d3 at c1
            clear a0 a1 b0 b1 p2 p3 hB4
            go_wp2_with fail
            go_roundw
            case rel => exact ⟨kk + 1, q + 1, cur.set kk u, by go_num, by go_num, by have := HX2.out.1.keep hlt2 (by rw [HUV.out.1, HUV.out.2]; exact HDE2.out); rw [HUV.out.1] at this; exact this, own_node HO4.out (by omega) u, (HX2.out.2.2.trans (HB4.out.mono (by omega))).trans (node_below hg.1 _ _ _)⟩
            case measure => simp [intOf]; omega
        · have HE2 := Lib.hid (compact_end hI hO2 hB3 (by omega))
          have hclr := clear_nodes hO2 (kk := kk) (by omega)
          have m2 : ¬ (q : Int) + 1 < ((L.length - (k + 1) : Nat) : Int) := by omega
          have m7 : (kk : Int) ≤ (L.length : Int) := by omega
          have m8 : (0 : Int) ≤ (kk : Int) := by omega
          have m9 : (kk : Int) ≤ (cap : Int) := by omega
          clear hI hO2 hB3 HX2
          go_wp2_with fail
          go_ret
          exact HE2.out
    · have hd : decide (cmpT x.t y.t = 0) = false := by simp [he]
      have HDE := Lib.hid he
      rw [hd] at HCL
      clear he hd
      go_wp2_with fail
      go_region_held3 (fun W => (W.cell? ⟨g, (k + 1) * 2, none⟩ = some (.pointer (some ⟨x.b, x.o, none⟩)) ∧ W.cell? ⟨g, (k + 1) * 2 + 1, none⟩ = some (.int .i64 (size x.t))) ∧ W.cell? ⟨g, k * 2, none⟩ = some (.pointer (some ⟨y.b, y.o, none⟩)) ∧ W.cell? ⟨g, k * 2 + 1, none⟩ = some (.int .i64 (size y.t)))
        (first | go_keep | exact ⟨⟨by assumption, by assumption⟩, by assumption, by assumption⟩)
        (first | (go_at_call 204; refine (HCL.out).mono ?_; rintro e w3 ⟨he3, hG⟩; subst he3; have hG2 : Gr wr w3 := ((Gr.refl wr).drew).trans hG; have hB2 := hG2.below; have p0 := keep_below hB2 _ _ x0; have p1 := keep_below hB2 _ _ x1; have p2 := keep_below hB2 _ _ y0; have p3 := keep_below hB2 _ _ y1; clear hG))
      have HY := Lib.hid hB2
      clear x0 x1 y0 y1 p0 p1 p2 p3 hG2 hB2
      go_wp2_with fail
      go_roundw
      case rel => exact ⟨k + 1, by go_num, HX.out.1.step hlast (by rw [HE.out.1, HE.out.2]; exact HDE.out), own_heap HX.out.2.1 (fun r hr => HY.out.block r (HX.out.2.1.lt r hr).2), HX.out.2.2.trans (HY.out.mono hblt)⟩
      case measure => simp [intOf]; omega

end
end Go.Proofs.YtkfbbkkfagglhaaGreatDoor
