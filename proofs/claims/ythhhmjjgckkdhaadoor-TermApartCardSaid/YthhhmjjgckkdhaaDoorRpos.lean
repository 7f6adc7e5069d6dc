/-
  THE WALK OF the reference's Positions.
-/
import Derived.Test.YthhhmjjgckkdhaaDoorPos
import Derived.Test.YthhhmjjgckkdhaaDoorElems
import Derived.Test.YthhhmjjgckkdhaaDoorNodes
namespace Go.Proofs.YthhhmjjgckkdhaaDoor
open Go.RowKit

theorem posT_map (t : Tm) : ∀ path, posT path t = (posT [] t).map (path ++ ·) := by
  refine Tm.rec (motive_1 := fun t => ∀ path, posT path t = (posT [] t).map (path ++ ·)) (motive_2 := fun ts => ∀ path i, posL path i ts = (posL [] i ts).map (path ++ ·)) ?_ ?_ ?_ t
  · intro k n s ks ih path
    simp only [posT, List.map_cons, List.append_nil]
    rw [ih path 0]
  · intro path i; simp [posL]
  · intro t ts h1 h2 path i
    simp only [posL, List.map_append]
    rw [h1 (path ++ [i]), h1 ([] ++ [i]), h2 path (i + 1), List.map_map]
    congr 1
    apply List.map_congr_left
    intro p _
    simp
theorem posT_one (t : Tm) (j : Nat) : posT [j] t = (posT [] t).map (j :: ·) := by
  rw [posT_map]; rfl

theorem posT_bound (t : Tm) : ∀ path, ∀ p ∈ posT path t, p.length ≤ path.length + size t := by
  refine Tm.rec (motive_1 := fun t => ∀ path, ∀ p ∈ posT path t, p.length ≤ path.length + size t) (motive_2 := fun ts => ∀ path i, ∀ p ∈ posL path i ts, p.length ≤ path.length + 1 + sizes ts) ?_ ?_ ?_ t
  · intro k n s ks ih path p hp
    simp only [posT, List.mem_cons] at hp
    simp only [size]
    rcases hp with rfl | hp
    · omega
    · have := ih path 0 p hp; omega
  · intro path i p hp; simp [posL] at hp
  · intro t ts h1 h2 path i p hp
    simp only [posL, List.mem_append] at hp
    simp only [sizes]
    rcases hp with hp | hp
    · have := h1 (path ++ [i]) p hp; rw [List.length_append, List.length_singleton] at this; omega
    · have := h2 path (i + 1) p hp; omega

/-- A finished position in a row of its own, not nil. -/
def PW (S : Nat → Prop) (w : World) (p : List Nat) (v : Value) : Prop := ∃ g cap, v = .slice (some ⟨g, 0, none⟩) p.length cap ∧ S g ∧ w.ownsRow 0 3 1 v p.length (ints p)
def PWL (S : Nat → Prop) (w : World) : List (List Nat) → List Value → Prop
  | [], vs => vs = []
  | p :: ps, vs => ∃ v r, vs = v :: r ∧ PW S w p v ∧ PWL S w ps r
theorem PW_carry {S S' : Nat → Prop} {w w' : World} (hc : ∀ b, S b → w'.heap[b]? = w.heap[b]?) (hS : ∀ b, S b → S' b) {p : List Nat} {v : Value} (h : PW S w p v) : PW S' w' p v := by
  obtain ⟨g, cap, rfl, hg, ho⟩ := h
  exact ⟨g, cap, rfl, hS g hg, own_heap ho (fun q hq => by simp only [Value.ownBlock, Option.some.injEq] at hq; subst hq; exact hc _ hg)⟩
theorem PWL_carry {S S' : Nat → Prop} {w w' : World} (hc : ∀ b, S b → w'.heap[b]? = w.heap[b]?) (hS : ∀ b, S b → S' b) : ∀ (ps : List (List Nat)) (vs : List Value), PWL S w ps vs → PWL S' w' ps vs
  | [], vs, h => h
  | p :: ps, vs, h => by
    obtain ⟨v, r, e, hv, hr⟩ := h
    exact ⟨v, r, e, PW_carry hc hS hv, PWL_carry hc hS ps r hr⟩
theorem PWL_snoc {S : Nat → Prop} {w : World} {p : List Nat} {v : Value} (hv : PW S w p v) : ∀ (ps : List (List Nat)) (vs : List Value), PWL S w ps vs → PWL S w (ps ++ [p]) (vs ++ [v])
  | [], vs, h => by subst h; exact ⟨v, [], rfl, hv, rfl⟩
  | q :: ps, vs, h => by
    obtain ⟨u, r, rfl, hu, hr⟩ := h
    exact ⟨u, r ++ [v], rfl, hu, PWL_snoc hv ps r hr⟩
theorem PWL_get {S : Nat → Prop} {w : World} : ∀ {ps : List (List Nat)} {vs : List Value} (_ : PWL S w ps vs) (j : Nat) (hj : j < ps.length), ∃ v, vs[j]? = some v ∧ PW S w ps[j] v
  | p :: ps, vs, h, j, hj => by
    obtain ⟨v, r, rfl, hv, hr⟩ := h
    cases j with
    | zero => exact ⟨v, rfl, hv⟩
    | succ j =>
      obtain ⟨u, h1, h2⟩ := PWL_get hr j (by simpa using hj)
      exact ⟨u, by simpa using h1, by simpa using h2⟩

/-- A list of positions that the call owns: the row, and the rows of the elements. -/
structure RP (H : Nat) (w : World) (n : Nat) (ps : List (List Nat)) (out : Value) (vs : List Value) (F : Nat → Prop) : Prop where
  len : n = ps.length
  own : w.ownsRow H 46 1 out n vs
  pl : PWL F w ps vs
  fF : ∀ b, F b → H ≤ b ∧ b < w.heap.size ∧ out.ownBlock ≠ some b

theorem RP.ext {H n : Nat} {w w' : World} {ps : List (List Nat)} {out : Value} {vs : List Value} {F : Nat → Prop} (h : RP H w n ps out vs F) (hB : Below w.heap.size w w') : RP H w' n ps out vs F :=
  ⟨h.len, own_heap h.own (fun g hg => hB.block g (h.own.lt g hg).2), PWL_carry (fun b hb => hB.block b (h.fF b hb).2.1) (fun _ hb => hb) _ _ h.pl, fun b hb => ⟨(h.fF b hb).1, Nat.lt_of_lt_of_le (h.fF b hb).2.1 hB.size, (h.fF b hb).2.2⟩⟩
theorem RP.push {H n g cap q vc : Nat} {C w' : World} {ps : List (List Nat)} {out : Value} {vs : List Value} {F : Nat → Prop} {p : List Nat} (h : RP H C n ps out vs F) (hv : C.ownsRow 0 3 1 (.slice (some ⟨q, 0, none⟩) p.length vc) p.length (ints p))
    (hq : H ≤ q ∧ q < C.heap.size ∧ out.ownBlock ≠ some q) (hown : w'.ownsRow H 46 1 (.slice (some ⟨g, 0, none⟩) (n + 1) cap) (n + 1) (vs ++ [.slice (some ⟨q, 0, none⟩) p.length vc])) (hg : C.grownBy w' out.ownBlock) (hat : out.ownBlock = some g ∨ g = C.heap.size) :
    RP H w' (n + 1) (ps ++ [p]) (.slice (some ⟨g, 0, none⟩) (n + 1) cap) (vs ++ [.slice (some ⟨q, 0, none⟩) p.length vc]) (fun b => F b ∨ b = q) := by
  have hk : ∀ b, b < C.heap.size → out.ownBlock ≠ some b → w'.heap[b]? = C.heap[b]? := fun b h1 h2 => hg.block b h1 (fun e => h2 e.symm)
  refine ⟨by rw [List.length_append, h.len]; rfl, hown, ?_, ?_⟩
  · refine PWL_snoc ⟨q, vc, rfl, Or.inr rfl, own_heap hv (fun r hr => ?_)⟩ _ _ (PWL_carry (fun b hb => hk b (h.fF b hb).2.1 (h.fF b hb).2.2) (fun b hb => Or.inl hb) _ _ h.pl)
    simp only [Value.ownBlock, Option.some.injEq] at hr
    subst hr
    exact hk _ hq.2.1 hq.2.2
  · intro b hb
    have hne : ∀ b, b < C.heap.size → out.ownBlock ≠ some b → (Value.slice (some ⟨g, 0, none⟩) (n + 1) cap).ownBlock ≠ some b := fun b h1 h2 e => by
      simp only [Value.ownBlock, Option.some.injEq] at e
      subst e
      rcases hat with e | e
      · exact h2 e
      · omega
    rcases hb with hb | rfl
    · have := h.fF b hb
      exact ⟨this.1, Nat.lt_of_lt_of_le this.2.1 hg.size, hne b this.2.1 this.2.2⟩
    · exact ⟨hq.1, Nat.lt_of_lt_of_le hq.2.1 hg.size, hne _ hq.2.1 hq.2.2⟩

/-- A call that returns the positions of a term. -/
def RposPost (w : World) (t : Tm) (e : Ending) (w' : World) : Prop := ∃ v vs F, e = .returned v ∧ RP w.heap.size w' (size t) (posT [] t) v vs F ∧ Below w.heap.size w w'

/-- At the head of the outer loop. -/
def OutR (w B : World) (ps : List (List Nat)) (n : Nat) (v : Value) (wr : World) : Prop := (∃ vs F, RP (w.heap.size + 1) wr n ps v vs F) ∧ Below (w.heap.size + 1) B wr
/-- At the head of the inner loop: W2 is the world in which it began, g0 the row's block then. -/
def InnR (H : Nat) (W2 : World) (g0 : Nat) (ps : List (List Nat)) (n : Nat) (v : Value) (wr : World) : Prop := (∃ vs F, RP H wr n ps v vs F) ∧ But g0 W2 wr ∧ ∀ g, v.ownBlock = some g → g = g0 ∨ W2.heap.size ≤ g

theorem InnR.step {H g0 n gv cap3 q1 vc g4 cap4 j : Nat} {W2 wr w3 w4 : World} {ps : List (List Nat)} {vs : List Value} {F : Nat → Prop} {p : List Nat} {o : Obj} (hP : RP H wr n ps (.slice (some ⟨gv, 0, none⟩) n cap3) vs F) (hb : But g0 W2 wr) (ho : ∀ g, (Value.slice (some ⟨gv, 0, none⟩) n cap3).ownBlock = some g → g = g0 ∨ W2.heap.size ≤ g)
    (hB3 : Below wr.heap.size wr w3) (hv : w3.ownsRow wr.heap.size 3 1 (.slice (some ⟨q1, 0, none⟩) (1 + p.length) vc) (1 + p.length) ([.int .i64 (j : Int)] ++ ints p))
    (hown : w4.ownsRow H 46 1 (.slice (some ⟨g4, 0, none⟩) (n + 1) cap4) (n + 1) (vs ++ [.slice (some ⟨q1, 0, none⟩) (1 + p.length) vc])) (hg : (w3.alloc o).grownBy w4 (some gv)) (hat : (Value.slice (some ⟨gv, 0, none⟩) n cap3).ownBlock = some g4 ∨ g4 = w3.heap.size + 1) :
    InnR H W2 g0 (ps ++ [j :: p]) (n + 1) (.slice (some ⟨g4, 0, none⟩) (n + 1) cap4) w4 := by
  have hl : (j :: p).length = 1 + p.length := by simp only [List.length_cons]; omega
  have hBC : Below wr.heap.size wr (w3.alloc o) := hB3.alloc hB3.size _
  have hgv := hP.own.lt gv rfl
  have hq := hv.lt q1 rfl
  have hs := hB3.size
  have hs2 := hb.size
  have hs4 := hg.size
  rw [World.size_alloc] at hs4
  refine ⟨⟨_, _, RP.push (p := j :: p) (hP.ext hBC) (q := q1) (vc := vc) ?_ ⟨?_, by rw [World.size_alloc]; omega, ?_⟩ (by rw [hl]; exact hown) hg (by rw [World.size_alloc]; exact hat)⟩, ?_, ?_⟩
  · rw [hl]; exact own_base (hv.alloc _) (Nat.zero_le _)
  · omega
  · simp only [Value.ownBlock, ne_eq, Option.some.injEq]; omega
  · refine ⟨hg.os.trans (hBC.os.trans hb.os), hg.tape.trans (hBC.tape.trans hb.tape), hg.output.trans (hBC.output.trans hb.output), by omega, fun k hk hne => ?_⟩
    have hne2 : some k ≠ some gv := by
      intro e
      simp only [Option.some.injEq] at e
      subst e
      rcases ho k rfl with h | h
      · exact hne (by rw [h])
      · omega
    exact (hg.block k (by rw [World.size_alloc]; omega) hne2).trans ((hBC.block k (by omega)).trans (hb.block k hk hne))
  · intro g hg'
    simp only [Value.ownBlock, Option.some.injEq] at hg'
    subst hg'
    rcases hat with e | e
    · exact ho _ e
    · right; omega

theorem one_owned (w : World) (x : Value) (T : TypeId) : (w.alloc (.cells #[x] T)).ownsRow w.heap.size T 1 (.slice (some ⟨w.heap.size, 0, none⟩) 1 1) 1 [x] :=
  ⟨rfl, Or.inr ⟨w.heap.size, 1, #[x], rfl, Nat.le_refl _, heap_alloc_new w _, Nat.le_refl _, by simp [maxLen], rfl, rfl⟩⟩

theorem made_outer (w : World) (c : Obj) : RP (w.heap.size + 1) (((w.alloc c).alloc (.cells #[] 3)).alloc (.cells #[.slice (some ⟨w.heap.size + 1, 0, none⟩) 0 0] 46)) 1 [[]] (.slice (some ⟨w.heap.size + 1 + 1, 0, none⟩) 1 1) [.slice (some ⟨w.heap.size + 1, 0, none⟩) 0 0] (fun b => b = w.heap.size + 1) := by
  have e1 := heap_alloc_new (w.alloc c) (.cells #[] 3)
  rw [World.size_alloc] at e1
  have e2 := heap_alloc_new ((w.alloc c).alloc (.cells #[] 3)) (.cells #[.slice (some ⟨w.heap.size + 1, 0, none⟩) 0 0] 46)
  rw [World.size_alloc, World.size_alloc] at e2
  have e3 := Below.heap_alloc ((w.alloc c).alloc (.cells #[] 3)) (.cells #[.slice (some ⟨w.heap.size + 1, 0, none⟩) 0 0] 46) (w.heap.size + 1) (by simp)
  refine ⟨rfl, ⟨rfl, Or.inr ⟨w.heap.size + 1 + 1, 1, #[.slice (some ⟨w.heap.size + 1, 0, none⟩) 0 0], rfl, by omega, e2, Nat.le_refl _, by simp [maxLen], rfl, rfl⟩⟩, ?_, ?_⟩
  · exact ⟨_, [], rfl, ⟨w.heap.size + 1, 0, rfl, rfl, ⟨rfl, Or.inr ⟨w.heap.size + 1, 0, #[], rfl, Nat.zero_le _, by rw [e3]; exact e1, Nat.le_refl _, by simp [maxLen], rfl, rfl⟩⟩⟩, rfl⟩
  · intro b hb
    subst hb
    refine ⟨Nat.le_refl _, by simp, ?_⟩
    simp only [Value.ownBlock, ne_eq, Option.some.injEq]; omega

set_option maxHeartbeats 3200000 in
set_option maxRecDepth 100000 in
theorem rpositions_any (m : Nat) : ∀ (t : Tm) (c0 c1 c2 c3 : Value) (w : World), size t ≤ m → m ≤ 1073741823 → Is w t c0 c1 c2 c3 →
    Calls Tryd.prog 35 #[.agg #[c0, c1, c2, c3]] w (RposPost w t) := by
  induction m with
  | zero => intro t c0 c1 c2 c3 w h; have := size_pos t; omega
  | succ m ih =>
    intro t c0 c1 c2 c3 w hm hM hI
    obtain ⟨k, nm, s, ks⟩ := t
    simp only [Is] at hI
    obtain ⟨rfl, rfl, rfl, _, _, _, hkl, xa, cap, rfl, hcap, hR⟩ := hI
    have hkl2 := length_le_sizes ks
    have hsk : size (.mk k nm s ks) = 1 + sizes ks := rfl
    rw [hsk] at hm
    have HR := Lib.hid hR
    have HW : Hid (OutR w (w.alloc (.cells #[.int .i64 k, .string nm, .int .i64 s, .slice xa ks.length cap] 24)) [[]] 1 (.slice (some ⟨w.heap.size + 1 + 1, 0, none⟩) 1 1) (((w.alloc (.cells #[.int .i64 k, .string nm, .int .i64 s, .slice xa ks.length cap] 24)).alloc (.cells #[] 3)).alloc (.cells #[.slice (some ⟨w.heap.size + 1, 0, none⟩) 0 0] 46))) :=
      ⟨⟨_, _, made_outer w _⟩, ((Below.refl _ _).alloc (by simp) _).alloc (by simp) _⟩
    obtain ⟨i0, hi0, hz0, hz1, hz2⟩ := info_parts info3
    obtain ⟨j0, hj0, hy0, hy1, hy2⟩ := info_parts info46
    have HI0 := Lib.hid (And.intro hi0 (And.intro hz0 (And.intro hz1 hz2)))
    have HJ0 := Lib.hid (And.intro hj0 (And.intro hy0 (And.intro hy1 hy2)))
    clear hR hi0 hz0 hz1 hz2 hj0 hy0 hy1 hy2 hsk
    go_enter Tryd.func35, Tryd.ntmps35
    go_wp2_with fail
    go_loopw [3, 4] (fun v i wr => ∃ j n : Nat, j ≤ ks.length ∧ i = .int .i64 j ∧ OutR w (w.alloc (.cells #[.int .i64 k, .string nm, .int .i64 s, .slice xa ks.length cap] 24)) ([] :: posL [] 0 (ks.take j)) n v wr) (fun _ i _ => ks.length - (intOf i).toNat)
    case atStart => exact ⟨0, 1, Nat.zero_le _, rfl, HW.out⟩
    case round =>
      obtain ⟨j, n, hj, rfl, ⟨vs, F, hP⟩, hB⟩ := hrel
      obtain ⟨_, _, _, g3⟩ := box_kept hB
      have HB := Lib.hid hB
      have HP := Lib.hid hP
      have hnl := hP.len
      rw [List.length_cons, posL_len] at hnl
      obtain ⟨xl, lcap, hv⟩ := own_form hP.own
      have hvg : ∃ g0, xl = some ⟨g0, 0, none⟩ := by
        obtain ⟨g0, c0, e⟩ := own_form_pos hP.own (by omega)
        rw [hv] at e; simp only [Value.slice.injEq] at e; exact ⟨g0, e.1⟩
      obtain ⟨g0, rfl⟩ := hvg
      subst hv
      have hg0 := hP.own.lt g0 rfl
      by_cases hlt : j < ks.length
      rotate_left
      · have hjl : ks.take j = ks := by rw [List.take_of_length_le]; omega
        have HF : Hid (RposPost w (.mk k nm s ks) (.returned (.slice (some ⟨g0, 0, none⟩) n lcap)) wr) := by
          show RposPost _ _ _ _
          rw [hjl] at hP hnl
          refine ⟨_, vs, F, rfl, ⟨rfl |>.trans ?_, own_base (by rw [show size (.mk k nm s ks) = n by simp only [size]; omega]; exact hP.own) (Nat.le_succ _), hP.pl, fun b hb => ⟨by have := (hP.fF b hb).1; omega, (hP.fF b hb).2⟩⟩, below_box HB.out⟩
          rw [posT_length]
        clear hjl hB hP hnl hg0
        go_wp2_with fail
        go_ret
        exact HF.out
      have hsz := sizes_take ks j hlt
      have hle := sizes_take_le ks (j + 1)
      obtain ⟨kb, ko, rfl⟩ := Row_at HR.out (by omega)
      obtain ⟨x0, x1, x2, x3, k0, k1, k2, k3, hKI⟩ := Row_get (Row_below HR.out (below_box hB)) j hlt
      have HIH := Lib.hid (ih ks[j] x0 x1 x2 x3 wr (by omega) (by omega) hKI)
      have hsp := size_pos ks[j]
      have N1 : n + size ks[j] ≤ 1073741823 := by omega
      have HNL := Lib.hid hnl
      have HSZ := Lib.hid hsz
      clear hB hP hsz hle hKI ih hnl
      go_wp2_with (go_at_call 35; refine (HIH.out).mono ?_; rintro e w2 ⟨v2, vs2, F2, he, hP2, hB2⟩; subst he; obtain ⟨g2, cap2, hv2⟩ := own_form_pos hP2.own hsp; subst hv2; have HP2 := Lib.hid hP2; have HB2 := Lib.hid hB2; clear hP2 hB2)
      have N4 : ks.length ≤ 1073741823 := by omega
      obtain ⟨wo, hwo⟩ : ∃ wo : World, wo = wr := ⟨_, rfl⟩
      subst hwo
      have hS2 := HB2.out.size
      have hg2 := HP2.out.own.lt g2 rfl
      clear k0 k1 k2 k3 g3 hkl2 hm hM
      go_loopw [3, 6] (fun v kk wx => ∃ q n2 : Nat, q ≤ size ks[j] ∧ kk = .int .i64 q ∧ InnR (w.heap.size + 1) w2 g0 (([] :: posL [] 0 (ks.take j)) ++ ((posT [] ks[j]).take q).map (j :: ·)) n2 v wx) (fun _ kk _ => size ks[j] - (intOf kk).toNat)
      case atStart =>
        refine ⟨0, n, Nat.zero_le _, rfl, ⟨vs, F, ?_⟩, But.refl _ _, fun g hg => Or.inl ?_⟩
        · simp only [List.take_zero, List.map_nil, List.append_nil]; exact HP.out.ext HB2.out
        · simp only [Value.ownBlock, Option.some.injEq] at hg; exact hg.symm
      case round =>
        obtain ⟨q, n2, hq, rfl, ⟨vs3, F3, hP3⟩, hbut, hob⟩ := hrel
        have HBu := Lib.hid hbut
        have HOb := Lib.hid hob
        have hn2 := hP3.len
        have hpl := posT_length ks[j] []
        rw [List.length_append, List.length_cons, posL_len, List.length_map, List.length_take, hpl, Nat.min_eq_left hq] at hn2
        have HNN : Hid (n2 = n + q) := by show _ = _; have := HNL.out; omega
        obtain ⟨gv, cap3, hv⟩ := own_form_pos hP3.own (by omega)
        subst hv
        have HP3 := Lib.hid hP3
        have HPL := Lib.hid hpl
        have hS3 := hbut.size
        have hN2 : n2 ≤ 1073741823 := by have := HNL.out; omega
        have hN3 : 1 ≤ n2 := by omega
        clear hbut hob hn2 hP3 hpl
        by_cases hql : q < size ks[j]
        rotate_left
        · go_wp2_with fail
          go_roundw
          case rel =>
            refine ⟨j + 1, n2, by omega, by go_num, ⟨vs3, F3, ?_⟩, ?_⟩
            · have h3 := HP3.out
              rw [List.take_of_length_le (l := posT [] ks[j]) (by rw [HPL.out]; omega)] at h3
              rw [posL_take [] ks j hlt, List.nil_append, posT_one]
              exact h3
            · exact (HB.out.trans (HB2.out.mono (by have := HB.out.size; simpa using this))).trans (But.toBelow HBu.out (by omega) (by have := HB.out.size; simp at this; omega))
          case measure => simp [intOf]; omega
        obtain ⟨pv, hpv, pb, pcap, hpe, hpF, hpo⟩ := PWL_get HP2.out.pl q (by rw [HPL.out]; exact hql)
        have hpn := posT_bound ks[j] [] _ (List.getElem_mem (l := posT [] ks[j]) (n := q) (by rw [HPL.out]; exact hql))
        obtain ⟨p, hpp⟩ : ∃ p, (posT [] ks[j])[q]'(by rw [HPL.out]; exact hql) = p := ⟨_, rfl⟩
        rw [hpp] at hpe hpo hpn
        subst hpe
        have hpf := HP2.out.fF pb hpF
        have hcq : wr.cell? ⟨g2, q, none⟩ = some (.slice (some ⟨pb, 0, none⟩) p.length pcap) := by
          have h1 := HP2.out.own.cellAt q (by omega)
          rw [hpv] at h1
          rw [World.cell?_of_block (w := w2) (a := ⟨g2, q, none⟩) (HBu.out.block g2 hg2.2 (by simp; omega))]; exact h1
        have hpo3 : wr.ownsRow 0 3 1 (.slice (some ⟨pb, 0, none⟩) p.length pcap) p.length (ints p) := own_heap hpo (fun r hr => by
          simp only [Value.ownBlock, Option.some.injEq] at hr; subst hr
          exact HBu.out.block pb hpf.2.1 (by simp; omega))
        have HPO := Lib.hid hpo3
        have HPP := Lib.hid hpp
        have i1 : (0 : Int) ≤ (q : Int) := by omega
        have i2 : (q : Int) < (size ks[j] : Int) := by omega
        simp only [List.length_nil, Nat.zero_add] at hpn
        have hg2r : g2 < wr.heap.size := by omega
        have tok1 : True := trivial
        have tok2 : True := trivial
        clear hpv hpo hpo3 hpp
        go_wp2_with (first
          | (at_builtin; have _t := tok1; refine wpList_append_own_at _ rfl _ _ _ rfl wr.heap.size 3 i0 _ 1 8 Tryd.underlying46 HI0.out.1 HI0.out.2.1 HI0.out.2.2.1 HI0.out.2.2.2 rfl (by omega) (.slice (some ⟨wr.heap.size, 0, none⟩) 1 1) 1 [.int .i64 (j : Int)] rfl (one_owned wr _ 3) ⟨pb, 0, none⟩ p.length pcap (ints p) rfl (by simp [ints]) (fun r u hu => keep_alloc _ _ _ _ (HPO.out.cells rfl r u hu)) (by simp [ints, Value.oneCell']) (by unfold maxLen; omega) (by omega) (by simp) ?_; intro v1 w3 hown3 hgrow3 _ hat3; obtain ⟨q1, vc, hv1⟩ := own_form_pos hown3 (by omega); subst hv1; have HO3 := Lib.hid hown3; have HB3 : Hid (Below wr.heap.size wr w3) := ((Below.refl _ _).alloc (Nat.le_refl _) _).grown hgrow3 (by simp) (fun r hr => by simp only [Value.ownBlock, Option.some.injEq] at hr; omega); clear hown3 hgrow3 hat3 tok1)
          | (at_builtin; have _t := tok2; refine wpList_append_lies _ rfl _ _ _ rfl (w.heap.size + 1) 46 j0 _ 1 24 Tryd.underlying43 HJ0.out.1 HJ0.out.2.1 HJ0.out.2.2.1 HJ0.out.2.2.2 rfl (by omega) (.slice (some ⟨gv, 0, none⟩) n2 cap3) n2 vs3 rfl ((HP3.out.ext (HB3.out.alloc HB3.out.size _)).own) ⟨w3.heap.size, 0, none⟩ 1 1 [.slice (some ⟨q1, 0, none⟩) (1 + p.length) vc] rfl rfl (cell_one_new w3 _ _) (by simp [Value.oneCell']) (by omega) (by unfold maxLen; omega) (by omega) (by have := (HP3.out.own.lt gv rfl); have := HB3.out.size; simp; omega) (w3.heap.size + 1) (by simp) ?_; intro g4 cap4 w4 hown4 hgrow4 hat4 hlt4; have HN := Lib.hid (InnR.step HP3.out HBu.out HOb.out HB3.out HO3.out hown4 hgrow4 hat4); clear hown4 hgrow4 hat4 hlt4 tok2))
        go_roundw
        case rel =>
          refine ⟨q + 1, n2 + 1, by omega, by go_num, ?_⟩
          have h1 := HN.out
          rw [List.append_assoc] at h1
          have e : ((posT [] ks[j]).take q).map (j :: ·) ++ [j :: p] = ((posT [] ks[j]).take (q + 1)).map (j :: ·) := by
            rw [List.take_succ_eq_append_getElem (by rw [HPL.out]; exact hql), List.map_append, HPP.out]; rfl
          rw [e] at h1
          exact h1
        case measure => simp [intOf]; omega

end Go.Proofs.YthhhmjjgckkdhaaDoor
