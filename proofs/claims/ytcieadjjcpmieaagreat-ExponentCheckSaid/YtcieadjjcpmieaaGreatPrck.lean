/-
  THE REFERENCE'S factors, and lists of products that are put together.
-/
import Derived.Test.YtcieadjjcpmieaaGreatPchk
import Derived.Test.YtcieadjjcpmieaaGreatPinv
namespace Go.Proofs.YtcieadjjcpmieaaGreat
open Go.RowKit

theorem setG_snoc : ∀ (ts o : List Tm) (t : Tm), setG o (ts ++ [t]) = addR t (setG o ts) false
  | [], o, t => by rw [List.nil_append, setG, setG, setG]
  | x :: ts, o, t => by rw [List.cons_append, setG, setG_snoc ts, setG]
set_option maxHeartbeats 3200000 in
set_option maxRecDepth 100000 in
theorem rfac_any (ls : List (List Pw)) (xs : Option Addr) (cs0 : Nat) (w : World) (hlen : ls.flatten.length ≤ 1048576) (hn : ls.length ≤ 1048576) (hsz : ∀ t ∈ termsP ls.flatten, size t ≤ 1073741824) (hR : PsRow w ls xs) :
    Calls Tryz.prog 68 #[.slice xs ls.length cs0] w (TermsPost w.heap.size w (setT (termsP ls.flatten))) := by
  have HR := Lib.hid hR
  have HSZ : Hid (∀ j k, ∀ t ∈ goneP ls j k, t ∈ termsP ls.flatten) := by
    show ∀ _, _
    intro j k t ht
    obtain ⟨p, hp, rfl⟩ := List.mem_map.1 ht
    refine List.mem_map.2 ⟨p, ?_, rfl⟩
    rcases List.mem_append.1 hp with hp | hp
    · obtain ⟨l, hl, hp⟩ := List.mem_flatten.1 hp
      exact List.mem_flatten.2 ⟨l, List.mem_of_mem_take hl, hp⟩
    · have hp2 := List.mem_of_mem_take hp
      rw [List.getD_eq_getElem?_getD] at hp2
      by_cases h : j < ls.length
      · rw [List.getElem?_eq_getElem h] at hp2
        exact List.mem_flatten.2 ⟨_, List.getElem_mem h, hp2⟩
      · rw [List.getElem?_eq_none (by omega)] at hp2; simp at hp2
  have HS2 : Hid (∀ j k, ∀ t ∈ setG [] (goneP ls j k), size t ≤ 1073741824) := fun j k t ht => hsz t (HSZ.out j k t ((setG_mem _ _).1 ht))
  have HSL : Hid (∀ j (h : j < ls.length) k (h2 : k < ls[j].length), size (ls[j][k]).1 ≤ 1073741824) := fun j h k h2 => hsz _ (List.mem_map.2 ⟨_, List.mem_flatten.2 ⟨_, List.getElem_mem h, List.getElem_mem h2⟩, rfl⟩)
  have HLE : Hid (∀ j k, j < ls.length → k ≤ (ls.getD j []).length → (setG [] (goneP ls j k)).length ≤ 1048576) := by
    show ∀ _, _
    intro j k hj hk
    have h1 := setG_len (goneP ls j k) []
    have e : ls.getD j [] = ls[j] := by rw [List.getD_eq_getElem?_getD, List.getElem?_eq_getElem hj]; rfl
    rw [e] at hk
    have h2 := goneP_len hj hk
    simp only [List.length_nil] at h1
    omega
  clear hsz hR
  go_enter Tryz.func68, Tryz.ntmps68
  go_wp2_with fail
  go_loopw [3, 4] (fun l i wr => ∃ j : Nat, j ≤ ls.length ∧ i = .int .i64 j ∧ Elems (fun b => b < w.heap.size) wr (setG [] (goneP ls j 0)) l ∧ Below w.heap.size w wr) (fun _ i _ => ls.length - (intOf i).toNat)
  case atStart => exact ⟨0, Nat.zero_le _, rfl, by rw [goneP_zero]; exact Elems_nil _ _, Below.refl _ _⟩
  case round =>
    obtain ⟨j, hj, rfl, hO, hB⟩ := hrel
    by_cases hlt : j < ls.length
    rotate_left
    · obtain rfl : j = ls.length := by omega
      have eg : goneP ls ls.length 0 = termsP ls.flatten := by rw [goneP_zero, List.take_length]
      rw [eg] at hO
      have HF : Hid (TermsPost w.heap.size w (setT (termsP ls.flatten)) (.returned u3) wr) := ⟨u3, rfl, hO, hB⟩
      clear eg hO hB
      go_wp2_with fail
      go_ret
      exact HF.out
    obtain ⟨b, o, rfl⟩ := PsRow_at HR.out (by omega)
    obtain ⟨ya, c, g0, hc0, hRj⟩ := PsRow_get HR.out j hlt
    have eD : ls.getD j [] = ls[j] := by rw [List.getD_eq_getElem?_getD, List.getElem?_eq_getElem hlt]; rfl
    have HGN := Lib.hid (goneP_next hlt)
    have HGS := Lib.hid (fun k (hk : k < ls[j].length) => goneP_step hlt hk)
    have HG0 : Hid (∀ W, Ext w W → W.cell? ⟨b, o + j, none⟩ = some (.slice ya ls[j].length c)) := fun W y => keep_below y _ _ g0
    have HRj := Lib.hid (fun W (y : Ext w W) => PRow_below (w' := W) hRj y)
    have HLJ := Lib.hid (fun k (hk : k ≤ ls[j].length) => HLE.out j k hlt (by rw [eD]; exact hk))
    have HSJ : Hid (∀ p ∈ ls[j], size p.1 ≤ 1073741824) := fun p hp => by
      obtain ⟨k, hk, rfl⟩ := List.getElem_of_mem hp
      exact HSL.out j hlt k hk
    have hlj : ls[j].length ≤ ls.flatten.length := by
      have h := goneP_len (ls := ls) hlt (Nat.le_refl ls[j].length)
      unfold goneP at h
      rw [termsP_len, List.length_append, eD, List.take_length] at h
      omega
    obtain ⟨qs, hqs⟩ : ∃ qs, ls[j] = qs := ⟨_, rfl⟩
    rw [hqs] at HGN HGS HLJ HG0 HRj hc0 hlj HSJ
    clear hqs g0 hRj eD
    have i1 : (0 : Int) ≤ (j : Int) := by omega
    have i2 : (j : Int) < (ls.length : Int) := by omega
    have HO0 := Lib.hid hO
    have HB0 := Lib.hid hB
    obtain ⟨w1, hw1⟩ : ∃ v : World, v = wr := ⟨_, rfl⟩
    subst hw1
    clear hO hB
    go_wp2_with fail
    go_loopw [3, 5] (fun l i wr => ∃ k : Nat, k ≤ qs.length ∧ i = .int .i64 k ∧ Elems (fun b => b < w.heap.size) wr (setG [] (goneP ls j k)) l ∧ Below w.heap.size w wr) (fun _ i _ => qs.length - (intOf i).toNat)
    case atStart => exact ⟨0, Nat.zero_le _, rfl, HO0.out, HB0.out⟩
    case round =>
      obtain ⟨k, hk, rfl, hO, hB⟩ := hrel
      have e0 := HG0.out wr hB
      by_cases hkt : k < qs.length
      rotate_left
      · obtain rfl : k = qs.length := by omega
        rw [HGN.out] at hO
        have HO := Lib.hid hO
        have HB := Lib.hid hB
        clear hO hB
        go_wp2_with fail
        go_roundw
        case rel => exact ⟨j + 1, by omega, by go_num, HO.out, HB.out⟩
        case measure => simp [intOf]; omega
      obtain ⟨b2, o2, rfl⟩ := PRow_at (HRj.out w (Ext.refl _)) (by omega)
      obtain ⟨⟨c0, c1, c2, c3, f0, f1, f2, f3, hIw⟩, _, _⟩ := PRow_get (HRj.out w (Ext.refl _)) k hkt
      obtain ⟨kk, nm, s, za, zl, zc, rfl, rfl, rfl, rfl⟩ := Is_form hIw
      have hIB : IsIn (fun b => b < w.heap.size) wr qs[k].1 (.int .i64 kk) (.string nm) (.int .i64 s) (.slice za zl zc) := IsIn_carry (fun b hb => hB.block b hb) (fun _ h => h) _ _ _ _ _ (Is_IsIn _ _ _ _ _ hIw)
      replace f0 := keep_below hB _ _ f0
      replace f1 := keep_below hB _ _ f1
      replace f2 := keep_below hB _ _ f2
      replace f3 := keep_below hB _ _ f3
      have HST : Hid (setG [] (goneP ls j (k + 1)) = addR qs[k].1 (setG [] (goneP ls j k)) false) := by show _ = _; rw [HGS.out k hkt, setG_snoc]
      have HA := Lib.hid (add_any qs[k].1 (setG [] (goneP ls j k)) _ _ _ _ u3 w.heap.size wr (HLJ.out k hk) (HSJ.out _ (List.getElem_mem hkt)) (HS2.out j k) hB.size hIB hO)
      unfold TermsPost at HA
      rw [← HST.out] at HA
      have HB := Lib.hid hB
      have k1 : (0 : Int) ≤ (k : Int) := by omega
      have k2 : (k : Int) < (qs.length : Int) := by omega
      clear hIw hIB hO hB HST
      go_wp2_with (go_at_call 105; refine (HA.out).mono ?_; rintro e w3 ⟨v3, he, hE3, hB3⟩; subst he; have HE3 := Lib.hid hE3; have HB3 := Lib.hid (HB.out.trans (hB3.mono HB.out.size)); clear hE3 hB3)
      go_roundw
      case rel => exact ⟨k + 1, by omega, by go_num, HE3.out, HB3.out⟩
      case measure => simp [intOf]; omega

/-- A row of slices of the call's own, each a list of powers that lay there before. -/
def OwnPs (w0 : World) (H : Nat) (w : World) (ls : List (List Pw)) (v : Value) : Prop := ∃ ys : List Value, w.ownsRow H 27 1 v ls.length ys ∧ ∀ k (h : k < ls.length), ∃ ya c, ys[k]? = some (.slice ya ls[k].length c) ∧ ls[k].length ≤ c ∧ PRow w0 ls[k] ya
theorem OwnPs_row {w0 w : World} {H : Nat} {ls : List (List Pw)} {xa : Option Addr} {n cap : Nat} (h : OwnPs w0 H w ls (.slice xa n cap)) (_hw : w0.heap.size ≤ H) (y : Ext w0 w) : PsRow w ls xa ∧ n = ls.length ∧ n ≤ cap := by
  obtain ⟨ys, ho, hy⟩ := h
  rcases id ho.2 with ⟨e, e0⟩ | ⟨g, cap', _, e, _, _, hcap, _⟩
  · simp only [Value.slice.injEq] at e
    exact ⟨Or.inl (List.length_eq_zero_iff.1 e0), by omega, by omega⟩
  · simp only [Value.slice.injEq] at e
    obtain ⟨rfl, rfl, rfl⟩ := e
    refine ⟨Or.inr ⟨g, 0, rfl, fun k hk => ?_⟩, rfl, hcap⟩
    obtain ⟨ya, c, e1, e2, e3⟩ := hy k hk
    have hc := ho.cells rfl k _ e1
    rw [Addr.add_lit, Nat.zero_add] at hc
    rw [Nat.zero_add]
    exact ⟨ya, c, hc, e2, PRow_below e3 y⟩
/-- The cells of a row of slices. -/
theorem ps_cells {w : World} {ls : List (List Pw)} {b o : Nat} (h : PsRow w ls (some ⟨b, o, none⟩)) : ∃ ys : List Value, ys.length = ls.length ∧ (∀ j u, ys[j]? = some u → w.cell? ⟨b, o + j, none⟩ = some u ∧ u.oneCell' = true) ∧ ∀ k (h : k < ls.length), ∃ ya c, ys[k]? = some (.slice ya ls[k].length c) ∧ ls[k].length ≤ c ∧ PRow w ls[k] ya := by
  have hone : ∀ k, k < ls.length → ∃ v : Value, w.cell? ⟨b, o + k, none⟩ = some v ∧ v.oneCell' = true ∧ ∃ ya c, v = .slice ya (ls.getD k []).length c ∧ (ls.getD k []).length ≤ c ∧ PRow w (ls.getD k []) ya := fun k hk => by
    obtain ⟨ya, c, e1, e2, e3⟩ := PsRow_get h k hk
    have e : ls.getD k [] = ls[k] := by rw [List.getD_eq_getElem?_getD, List.getElem?_eq_getElem hk]; rfl
    rw [e]
    exact ⟨_, e1, rfl, ya, c, rfl, e2, e3⟩
  haveI : Inhabited Value := ⟨.slice none 0 0⟩
  obtain ⟨f, hf⟩ := Go.Deep.choose_lt hone
  have hfl : ((List.range ls.length).map f).length = ls.length := by simp
  refine ⟨(List.range ls.length).map f, hfl, fun j u hj => ?_, fun k hk => ?_⟩
  · have hjl : j < ls.length := by rw [← hfl]; exact (List.getElem?_eq_some_iff.1 hj).1
    have e : ((List.range ls.length).map f)[j]? = some (f j) := by simp [hjl]
    rw [e, Option.some.injEq] at hj
    subst hj
    exact ⟨(hf j hjl).1, (hf j hjl).2.1⟩
  · obtain ⟨ya, c, e1, e2, e3⟩ := (hf k hk).2.2
    have e : ls.getD k [] = ls[k] := by rw [List.getD_eq_getElem?_getD, List.getElem?_eq_getElem hk]; rfl
    rw [e] at e1 e2 e3
    exact ⟨ya, c, by simp [hk, e1], e2, e3⟩
theorem wpList_copy_ps {W w0 : World} {ops : Array Oper} {rest : List Oper} {o : Oper} {a : Act} {Q : Exit → Act → World → Prop} (hgd : o.guard = none) (s x : Operand)
    (ho : o.op = .call { callee := .builtin .append, args := #[s, x], argTypes := #[36, 36] }) {ls : List (List Pw)} {xa : Option Addr} {ca : Nat} (hR : PsRow w0 ls xa) (hE : Ext w0 W) (hlen : ls.length ≤ 1048577)
    (hs : a.eval s = .slice (some ⟨W.heap.size, 0, none⟩) 0 0) (hx : a.eval x = .slice xa ls.length ca)
    (h : ∀ v w8, OwnPs w0 W.heap.size w8 ls v → Ext W w8 → wpList Tryz.prog ops Q rest (a.put o.dst v) w8) :
    wpList Tryz.prog ops Q (o :: rest) a (W.alloc (.cells #[] 27)) := by
  obtain ⟨i0, hi0, hz0, hz1, hz2⟩ := info_parts infoPs
  have hown : (W.alloc (.cells #[] 27)).ownsRow W.heap.size 27 1 (.slice (some ⟨W.heap.size, 0, none⟩) 0 0) 0 [] := World.ownsRow_made W #[] 0 (Nat.le_refl _) (by simp [maxLen]) rfl
  by_cases h0 : ls.length = 0
  · have hn : ls = [] := List.length_eq_zero_iff.1 h0
    subst hn
    exact wpList_append_zero hgd s x _ ho 27 i0 Tryz.underlying36 hi0 _ 0 0 hs xa ca hx (Nat.le_refl _) (h _ _ ⟨[], hown, fun k hk => by simp at hk⟩ ((Ext.refl W).alloc _))
  · obtain ⟨b2, o2, rfl⟩ := PsRow_at hR (by omega)
    obtain ⟨ys, hy1, hy2, hy3⟩ := ps_cells hR
    refine wpList_append_own_at _ hgd s x _ ho W.heap.size 27 i0 _ 1 24 Tryz.underlying36 hi0 hz0 hz1 hz2 rfl (by omega) (.slice (some ⟨W.heap.size, 0, none⟩) 0 0) 0 [] hs hown ⟨b2, o2, none⟩ ls.length ca ys hx (by rw [hy1, Nat.mul_one]) (fun j u hj => ?_) (fun u hu => ?_) (by unfold maxLen; omega) (by omega) (by rw [World.size_alloc]; omega) ?_
    · rw [add_plain]
      exact keep_below (hE.alloc _) _ _ (hy2 j u hj).1
    · obtain ⟨j, hj, rfl⟩ := List.getElem_of_mem hu
      exact (hy2 j _ (List.getElem?_eq_getElem hj)).2
    · intro v1 w1 hown1 hgrow _ _
      have hx1 : Ext W w1 := ((Ext.refl W).alloc (.cells #[] 27)).grown hgrow (by rw [World.size_alloc]; omega) (fun q hq => (hown.lt q hq).1)
      refine h v1 w1 ⟨ys, ?_, hy3⟩ hx1
      rw [List.nil_append, Nat.zero_add] at hown1
      exact hown1
theorem OwnPs_push {w0 wr w6 w8 : World} {H n g cap lcap : Nat} {ls : List (List Pw)} {xl : Option Addr} {ys : List Value} {m : List Pw} {xm : Option Addr} {cm : Nat} {ob : Obj} (hn : n = ls.length) (hown0 : wr.ownsRow H 27 1 (.slice xl n lcap) n ys) (hy : ∀ k (h : k < ls.length), ∃ ya c, ys[k]? = some (.slice ya ls[k].length c) ∧ ls[k].length ≤ c ∧ PRow w0 ls[k] ya) (hHw : H ≤ wr.heap.size) (hB : Ext wr w6) (hm : PRow w0 m xm) (hmc : m.length ≤ cm)
    (hown : w8.ownsRow H 27 1 (.slice (some ⟨g, 0, none⟩) (n + 1) cap) (n + 1) (ys ++ [.slice xm m.length cm])) (hg : (w6.alloc ob).grownBy w8 (Value.slice xl n lcap).ownBlock) :
    OwnPs w0 H w8 (ls ++ [m]) (.slice (some ⟨g, 0, none⟩) (n + 1) cap) ∧ Below H wr w8 := by
  subst hn
  have hyl : ys.length = ls.length := by have := hown0.1; omega
  refine ⟨⟨_, by rw [List.length_append]; exact hown, fun k hk => ?_⟩, ((hB.mono hHw).alloc (Nat.le_trans hHw hB.size) _).grown hg (by rw [World.size_alloc]; have := hB.size; omega) (fun q hq => (hown0.lt q hq).1)⟩
  rw [List.length_append, List.length_singleton] at hk
  by_cases hlt : k < ls.length
  · obtain ⟨ya, c, e1, e2, e3⟩ := hy k hlt
    rw [List.getElem_append_left hlt]
    exact ⟨ya, c, by rw [List.getElem?_append_left (by omega)]; exact e1, e2, e3⟩
  · obtain rfl : k = ls.length := by omega
    rw [List.getElem_append_right (Nat.le_refl _)]
    refine ⟨xm, cm, by rw [List.getElem?_append_right (by omega), hyl]; simp, by simpa using hmc, by simpa using hm⟩
end Go.Proofs.YtcieadjjcpmieaaGreat

/-
  THE WALK OF the reference's Check.
-/
namespace Go.Proofs.YtcieadjjcpmieaaGreat
open Go.RowKit

theorem powF_pwr : ∀ {l : List Pw} (_ : NormP l) (t : Tm), powF l t = pwr l t
  | [], _, t => rfl
  | p :: ps, h, t => by
    obtain ⟨p1, p2⟩ := List.pairwise_cons.1 h.1
    have ih := powF_pwr (l := ps) ⟨p2, fun q hq => h.2 q (List.mem_cons_of_mem _ hq)⟩ t
    rw [powF, pwr]
    by_cases hc : cmpT p.1 t = 0
    · rw [if_pos hc, if_pos hc, pwr_none (fun q hq e => ?_), Int.add_zero]
      have h1 := p1 q hq
      rw [e, cmpT_zero _ _ hc, cmpT_self] at h1
      omega
    · rw [if_neg hc, if_neg hc, ih]; omega
theorem allC_next {ls : List (List Pw)} {cs : List Int} {j : Nat} (h : j < ls.length) (h2 : j < cs.length) (hn : NormP ls[j]) (t : Tm) : pwr (allC (ls.take (j + 1)) (cs.take (j + 1))) t = pwr (allC (ls.take j) (cs.take j)) t + cs[j] * powF ls[j] t := by
  rw [allC_take ls cs j h h2, pwr_app, pwr_map, powF_pwr hn]
theorem allC_mem : ∀ {ls : List (List Pw)} {cs : List Int} {p : Pw}, p ∈ allC ls cs → ∃ l ∈ ls, ∃ q ∈ l, p.1 = q.1
  | [], cs, p, h => by simp [allC] at h
  | l :: ls, [], p, h => by simp [allC] at h
  | l :: ls, c :: cs, p, h => by
    rw [allC] at h
    rcases List.mem_append.1 h with h | h
    · obtain ⟨q, hq, rfl⟩ := List.mem_map.1 h
      exact ⟨l, List.mem_cons_self .., q, hq, rfl⟩
    · obtain ⟨l', hl, q, hq, e⟩ := allC_mem h
      exact ⟨l', List.mem_cons_of_mem _ hl, q, hq, e⟩
/-- What holds at all factors holds at all terms. -/
theorem chk_all {ls : List (List Pw)} {m : List Pw} {cs : List Int} (h : ∀ t ∈ setT (termsP (ls ++ [m]).flatten), pwr (allC ls cs) t = pwr m t) (t : Tm) : pwr (allC ls cs) t = pwr m t := by
  by_cases ht : t ∈ setT (termsP (ls ++ [m]).flatten)
  · exact h t ht
  · rw [setT_mem] at ht
    have hin : ∀ l, l ∈ ls ++ [m] → ∀ q ∈ l, ¬ q.1 = t := fun l hl q hq e => ht (List.mem_map.2 ⟨q, List.mem_flatten.2 ⟨l, hl, hq⟩, e⟩)
    rw [pwr_none (fun p hp e => ?_), pwr_none (fun p hp => hin m (by simp) p hp)]
    obtain ⟨l, hl, q, hq, e2⟩ := allC_mem hp
    exact hin l (List.mem_append_left _ hl) q hq (by rw [← e2]; exact e)
theorem allC_bound {ls : List (List Pw)} {cs : List Int} (hcp : ∀ l ∈ ls, Cp 128 6 l) (h8 : ls.length ≤ 8) (hn : ∀ c ∈ cs, c.natAbs ≤ 35184372088832) (i : Nat) (t : Tm) : (pwr (allC (ls.take i) (cs.take i)) t).natAbs ≤ 48 * (35184372088832 * 128) := by
  obtain ⟨o1, o2⟩ := allC_ok (ls := ls.take i) (cs := cs.take i) (fun l hl => hcp l (List.mem_of_mem_take hl)) (fun c hc => hn c (List.mem_of_mem_take hc))
  have h1 := absS_leB (fun p hp => (o2 p hp).1)
  have h2 := pwr_abs (allC (ls.take i) (cs.take i)) t
  rw [List.length_take] at o1
  exact Nat.le_trans h2 (Nat.le_trans h1 (Nat.mul_le_mul_right _ (by omega)))
theorem pow_small {K n : Nat} {l : List Pw} (h : Cp K n l) (t : Tm) : (powF l t).natAbs ≤ K := by
  rw [powF_pwr h.1]; exact pwr_le h.1 h.2.2.1 t
set_option maxHeartbeats 12800000 in
set_option maxRecDepth 100000 in
theorem rchk_any (ls : List (List Pw)) (m : List Pw) (cs : List Int) (xa xm xc : Option Addr) (ca cm cc : Nat) (w : World) (hcp : ∀ l ∈ ls, Cp 128 6 l) (h8 : ls.length ≤ 8) (hm : Cp 1000 200 m) (hR : PsRow w ls xa) (hRm : PRow w m xm) (hmc : m.length ≤ cm) (hC : IntR w cs xc) :
    Calls Tryz.prog 30 #[.slice xa ls.length ca, .slice xm m.length cm, .slice xc cs.length cc] w fun e w' => SaysB (ChkP ls m cs) e ∧ Below w.heap.size w w' := by
  have hcl := hC.1
  unfold maxLen at hcl
  have q1 : (ls.length : Int) ≤ 200 := by omega
  have HVM := Lib.hid (rpowE_any m xm cm w (by have := hm.2.1; unfold maxLen; omega) (hm.sz _ (by omega)) hRm)
  rw [hm.ok (by decide) (by decide)] at HVM
  have q3 : ((0 : Int) != 0) = false := rfl
  by_cases hne : cs.length = ls.length
  rotate_left
  · have H : Hid (false = true ↔ ChkP ls m cs) := ⟨fun h => (by cases h), fun h => absurd h.1 hne⟩
    have q2 : ((cs.length : Int) != (ls.length : Int)) = true := by rw [bne_iff_ne]; omega
    clear hne hR hRm hC hcp hm
    go_enter Tryz.func30, Tryz.ntmps30
    go_wp2_with (go_at_call 53; refine (HVM.out).mono ?_; rintro e w2 ⟨he, hB⟩; subst he; have HX2 := Lib.hid (show Ext w w2 from hB); clear hB)
    go_ret
    exact ⟨saysB rfl H.out, HX2.out⟩
  have HR := Lib.hid hR
  have HRM := Lib.hid (fun W (y : Ext w W) => PRow_below (w' := W) hRm y)
  have HMC := Lib.hid hmc
  have HC := Lib.hid hC
  have HCP := Lib.hid hcp
  have HM := Lib.hid hm
  have HNE := Lib.hid hne
  have H8 := Lib.hid h8
  have HVL := Lib.hid (fun (j : Nat) (h : j < ls.length) ya (c : Nat) W (hr : PRow W ls[j] ya) => by
    have hc := hcp _ (List.getElem_mem h)
    have h1 := rpowE_any ls[j] ya c W (by have := hc.2.1; unfold maxLen; omega) (hc.sz _ (by omega)) hr
    rw [hc.ok (by decide) (by decide)] at h1
    exact h1)
  have HBD : Hid (∀ c ∈ cs, ¬ c.natAbs ≤ 35184372088832 → (false = true ↔ ChkP ls m cs)) := fun c hc h => ⟨fun x => (by cases x), fun x => absurd (x.2.1 c hc) h⟩
  have HBT : Hid (∀ t, ¬ pwr (allC ls cs) t = pwr m t → (false = true ↔ ChkP ls m cs)) := fun t h => ⟨fun x => (by cases x), fun x => absurd (x.2.2 t) h⟩
  have HOKK : Hid ((∀ c ∈ cs, c.natAbs ≤ 35184372088832) → (∀ t ∈ setT (termsP (ls ++ [m]).flatten), pwr (allC ls cs) t = pwr m t) → ChkP ls m cs) := fun h1 h2 => ⟨hne, h1, chk_all h2⟩
  have HFL : Hid ((ls ++ [m]).flatten.length ≤ 1048576 ∧ ∀ t ∈ termsP (ls ++ [m]).flatten, size t ≤ 1073741824) := by
    have hfl : ∀ l : List (List Pw), (∀ x ∈ l, x.length ≤ 200) → l.flatten.length ≤ l.length * 200 := fun l => by
      induction l with
      | nil => intro _; simp
      | cons a l ih => intro h; have h1 := h a (List.mem_cons_self ..); have h2 := ih (fun x hx => h x (List.mem_cons_of_mem _ hx)); rw [List.flatten_cons, List.length_append, List.length_cons]; omega
    have hall : ∀ x ∈ ls ++ [m], Cp 1000 200 x := fun x hx => by
      rcases List.mem_append.1 hx with hx | hx
      · exact (hcp x hx).mono (by decide) (by decide)
      · simp only [List.mem_singleton] at hx; rw [hx]; exact hm
    refine ⟨Nat.le_trans (hfl _ fun x hx => (hall x hx).2.1) (by rw [List.length_append, List.length_singleton]; omega), fun t ht => ?_⟩
    obtain ⟨p, hp, rfl⟩ := List.mem_map.1 ht
    obtain ⟨l, hl, hp⟩ := List.mem_flatten.1 hp
    exact (hall l hl).sz _ (by omega) p hp
  obtain ⟨i0, hi0, hz0, hz1, hz2⟩ := info_parts infoPs
  have HI0 := Lib.hid (And.intro hi0 (And.intro hz0 (And.intro hz1 hz2)))
  have q2 : ((ls.length : Int) != (ls.length : Int)) = false := by simp
  rw [hne]
  clear hne hR hRm hC hcp hm hmc hi0 hz0 hz1 hz2
  go_enter Tryz.func30, Tryz.ntmps30
  go_wp2_with (go_at_call 53; refine (HVM.out).mono ?_; rintro e w2 ⟨he, hB⟩; subst he; have HX2 := Lib.hid (show Ext w w2 from hB); clear hB)
  go_loopw [7] (fun i wr => ∃ j : Nat, j ≤ ls.length ∧ i = .int .i64 j ∧ Hid (∀ c ∈ cs.take j, c.natAbs ≤ 35184372088832) ∧ Ext w wr) (fun i _ => ls.length - (intOf i).toNat)
  case atStart => exact ⟨0, Nat.zero_le _, rfl, fun c hc => by simp at hc, HX2.out⟩
  case round =>
    obtain ⟨j, hj, rfl, HN, hE⟩ := hrel
    have HE := Lib.hid hE
    by_cases hlt : j < ls.length
    · have hltc : j < cs.length := by rw [HNE.out]; exact hlt
      obtain ⟨b, o, rfl⟩ := PsRow_at HR.out (by omega)
      obtain ⟨ya, c, g0, hc0, hRj⟩ := PsRow_get HR.out j hlt
      obtain ⟨bc, oc, rfl, gc⟩ := HC.out.2.2 j hltc
      have hci := HC.out.2.1 _ (List.getElem_mem hltc)
      have HBJ := Lib.hid (HBD.out _ (List.getElem_mem hltc))
      have HNJ : Hid (cs[j].natAbs ≤ 35184372088832 → ∀ c ∈ cs.take (j + 1), c.natAbs ≤ 35184372088832) := by
        show _ → _
        intro h c hc
        rw [List.take_succ_eq_append_getElem hltc] at hc
        rcases List.mem_append.1 hc with hc | hc
        · exact HN.out c hc
        · simp only [List.mem_cons, List.not_mem_nil, or_false] at hc
          rw [hc]; exact h
      have HV := Lib.hid (HVL.out j hlt ya c wr (PRow_below (w' := wr) hRj hE))
      have e0 := keep_below hE _ _ g0
      have ec := keep_below hE _ _ gc
      have HEC : Hid (∀ W, Ext wr W → W.cell? ⟨bc, oc + j, none⟩ = some (.int .i64 cs[j])) := fun W y => keep_below y _ _ ec
      obtain ⟨K, hK⟩ : ∃ K, ls[j].length = K := ⟨_, rfl⟩
      obtain ⟨C, hCC⟩ : ∃ C, cs[j] = C := ⟨_, rfl⟩
      rw [hK] at HV e0
      rw [hCC] at HBJ HNJ ec hci HEC
      have i1 : (0 : Int) ≤ (j : Int) := by omega
      have i2 : (j : Int) < (ls.length : Int) := by omega
      unfold i64ok at hci
      clear hE g0 gc hRj hK hCC hc0
      by_cases hlo : C < -35184372088832
      · have H := Lib.hid (HBJ.out (by omega))
        have q4 : decide (C < -35184372088832) = true := decide_eq_true hlo
        clear hlo
        go_wp2_with (go_at_call 53; refine (HV.out).mono ?_; rintro e w3 ⟨he, hB⟩; subst he; have HX3 := Lib.hid (Ext.trans HE.out hB); have ec3 := HEC.out _ hB; clear hB)
        go_ret
        exact ⟨saysB rfl H.out, HX3.out⟩
      have q4 : decide (C < -35184372088832) = false := decide_eq_false hlo
      by_cases hhi : 35184372088832 < C
      · have H := Lib.hid (HBJ.out (by omega))
        have q5 : decide (35184372088832 < C) = true := decide_eq_true hhi
        clear hlo hhi
        go_wp2_with (go_at_call 53; refine (HV.out).mono ?_; rintro e w3 ⟨he, hB⟩; subst he; have HX3 := Lib.hid (Ext.trans HE.out hB); have ec3 := HEC.out _ hB; clear hB)
        go_ret
        exact ⟨saysB rfl H.out, HX3.out⟩
      have q5 : decide (35184372088832 < C) = false := decide_eq_false hhi
      have HNX := Lib.hid (HNJ.out (by omega))
      clear hlo hhi
      go_wp2_with (go_at_call 53; refine (HV.out).mono ?_; rintro e w3 ⟨he, hB⟩; subst he; have HX3 := Lib.hid (Ext.trans HE.out hB); have ec3 := HEC.out _ hB; clear hB)
      go_roundw
      case rel => exact ⟨j + 1, by omega, by go_num, HNX.out, HX3.out⟩
      case measure => simp [intOf]; omega
    have hnear : ∀ c ∈ cs, c.natAbs ≤ 35184372088832 := by
      have h := HN.out
      rw [List.take_of_length_le (by rw [HNE.out]; omega)] at h
      exact h
    have HNR := Lib.hid hnear
    have HOK2 := Lib.hid (HOKK.out hnear)
    have HBN := Lib.hid (allC_bound HCP.out H8.out hnear)
    have HSF : Hid (∀ t ∈ setT (termsP (ls ++ [m]).flatten), size t ≤ 1073741824) := fun t ht => HFL.out.2 t ((setT_mem _ t).1 ht)
    obtain ⟨fs, hfs⟩ : ∃ fs, setT (termsP (ls ++ [m]).flatten) = fs := ⟨_, rfl⟩
    rw [hfs] at HOK2 HSF
    have HOK3 : Hid ((∀ t ∈ fs, pwr (allC ls cs) t = pwr m t) → ChkP ls m cs) := HOK2.out
    have HFS := Lib.hid hfs
    clear hfs
    obtain ⟨w1, hw1⟩ : ∃ v : World, v = wr := ⟨_, rfl⟩
    subst hw1
    have HWZ := Lib.hid hE.size
    clear hE hnear HBD HN
    go_wp2_with (first
      | (at_builtin; refine wpList_copy_ps rfl _ _ rfl HR.out HE.out (by omega) rfl rfl ?_; intro v8 w8 hO hx; obtain ⟨ys, hown, hy⟩ := hO; obtain ⟨xl, lcap, hv8⟩ := own_form hown; subst hv8; have HX8 := Lib.hid (Ext.trans HE.out hx); have HY8 := Lib.hid hx; have HO8 := Lib.hid hown; have HYS := Lib.hid hy; have HZ8 := Lib.hid (show w1.heap.size ≤ w8.heap.size from hx.size); clear hx hown hy)
      | (at_builtin; refine wpList_append_lies _ rfl _ _ _ rfl w1.heap.size 27 i0 _ 1 24 Tryz.underlying36 HI0.out.1 HI0.out.2.1 HI0.out.2.2.1 HI0.out.2.2.2 rfl (by omega) (.slice xl ls.length lcap) ls.length ys rfl (HO8.out.alloc _) ⟨w8.heap.size, 0, none⟩ 1 1 [.slice xm m.length cm] rfl rfl (cell_one_new w8 (.slice xm m.length cm) 27) (by simp [Value.oneCell']) (by omega) (by unfold maxLen; omega) (by omega) (by rw [World.size_alloc]; have := HZ8.out; omega) (w8.heap.size + 1) (by simp) ?_; intro g cap w9 hown9 hgrow9 hat9 hlt9; obtain ⟨hp9, hb9⟩ := OwnPs_push (w0 := w) rfl HO8.out HYS.out HZ8.out (Ext.refl w8) (HRM.out w (Ext.refl w)) HMC.out hown9 hgrow9; have HX9 : Hid (Ext w w9) := Lib.hid (Below.trans HX8.out (hb9.mono (Nat.le_trans HWZ.out (Nat.le_refl _)))); have hrow := OwnPs_row hp9 HWZ.out HX9.out; have HFA := Lib.hid (rfac_any (ls ++ [m]) _ cap w9 HFL.out.1 (by rw [List.length_append, List.length_singleton]; omega) HFL.out.2 hrow.1); rw [← hrow.2.1, HFS.out] at HFA; unfold TermsPost at HFA; clear hown9 hgrow9 hat9 hlt9 hp9 hb9 hrow)
      | (go_at_call 68; refine (HFA.out).mono ?_; rintro e w10 ⟨v10, he, hel, hB⟩; subst he; obtain ⟨xf, cf, hv10, _, hfl, hrf⟩ := Elems_row hel; subst hv10; have HX10 := Lib.hid (Ext.trans HX9.out hB); have HRF := Lib.hid hrf; have HFLEN := Lib.hid hfl; clear hel hB hfl hrf))
    have HROW := Lib.hid (fun W (y : Ext w10 W) => Row_below (w' := W) HRF.out y)
    have hfb := HFLEN.out
    unfold maxLen at hfb
    clear HRF HOK2
    go_loopw [9] (fun i wr => ∃ k : Nat, k ≤ fs.length ∧ i = .int .i64 k ∧ Hid (∀ t ∈ fs.take k, pwr (allC ls cs) t = pwr m t) ∧ Ext w10 wr) (fun i _ => fs.length - (intOf i).toNat)
    case atStart => exact ⟨0, Nat.zero_le _, rfl, fun t ht => by simp at ht, Ext.refl _⟩
    case round =>
      obtain ⟨k, hk, rfl, HT, hE⟩ := hrel
      have HEk := Lib.hid hE
      have HEw := Lib.hid (Ext.trans HX10.out hE)
      by_cases hkt : k < fs.length
      rotate_left
      · have H : Hid (ChkP ls m cs) := by
          show ChkP _ _ _
          have h := HT.out
          rw [List.take_of_length_le (by omega)] at h
          exact HOK3.out h
        clear hE
        go_wp2_with fail
        go_ret
        exact ⟨saysB (R := true) rfl ⟨fun _ => H.out, fun _ => rfl⟩, HEw.out⟩
      obtain ⟨fb, fo, rfl⟩ := Row_at (HROW.out _ (Ext.refl _)) (by omega)
      obtain ⟨t0, t1, t2, t3, f0, f1, f2, f3, hIt⟩ := Row_get (HROW.out _ (Ext.refl _)) k hkt
      obtain ⟨tk, tn, ts, tx, tl, tc, rfl, rfl, rfl, rfl⟩ := Is_form hIt
      have hst := HSF.out _ (List.getElem_mem hkt)
      have HFR : Hid (∀ W, Ext w10 W → (W.cell? ⟨fb, fo + k * 4, none⟩ = some (.int .i64 tk) ∧ W.cell? ⟨fb, fo + k * 4 + 1, none⟩ = some (.string tn) ∧ W.cell? ⟨fb, fo + k * 4 + 2, none⟩ = some (.int .i64 ts) ∧ W.cell? ⟨fb, fo + k * 4 + 3, none⟩ = some (.slice tx tl tc)) ∧ Is W fs[k] (.int .i64 tk) (.string tn) (.int .i64 ts) (.slice tx tl tc)) := fun W y => ⟨⟨keep_below y _ _ f0, keep_below y _ _ f1, keep_below y _ _ f2, keep_below y _ _ f3⟩, Is_below (w' := W) hIt y⟩
      have HTN : Hid (pwr (allC ls cs) fs[k] = pwr m fs[k] → ∀ t ∈ fs.take (k + 1), pwr (allC ls cs) t = pwr m t) := by
        show _ → _
        intro h t ht
        rw [List.take_succ_eq_append_getElem hkt] at ht
        rcases List.mem_append.1 ht with ht | ht
        · exact HT.out t ht
        · simp only [List.mem_cons, List.not_mem_nil, or_false] at ht
          rw [ht]; exact h
      generalize fs[k] = t at hst HFR HTN
      have i1 : (0 : Int) ≤ (k : Int) := by omega
      have i2 : (k : Int) < (fs.length : Int) := by omega
      obtain ⟨w12, hw12⟩ : ∃ v : World, v = wr := ⟨_, rfl⟩
      subst hw12
      clear hE f0 f1 f2 f3 hIt
      go_wp2_with fail
      go_loopw [10, 11] (fun sv iv wr => ∃ i : Nat, i ≤ ls.length ∧ iv = .int .i64 i ∧ sv = .int .i64 (pwr (allC (ls.take i) (cs.take i)) t) ∧ Ext w12 wr) (fun _ i _ => ls.length - (intOf i).toNat)
      case atStart => exact ⟨0, Nat.zero_le _, rfl, by rw [List.take_zero, List.take_zero]; rfl, Ext.refl _⟩
      case round =>
        obtain ⟨i, hi, rfl, rfl, hE⟩ := hrel
        have HEi := Lib.hid hE
        have HE10 := Lib.hid (Ext.trans HEk.out hE)
        have HEww := Lib.hid (Ext.trans HEw.out hE)
        by_cases hit : i < ls.length
        rotate_left
        · have hil : i = ls.length := by omega
          have e1 : ls.take i = ls := by rw [hil, List.take_length]
          have e2 : cs.take i = cs := by rw [hil, ← HNE.out, List.take_length]
          rw [e1, e2]
          obtain ⟨⟨x0, x1, x2, x3⟩, hIw⟩ := HFR.out wr HE10.out
          have HP := Lib.hid (rPower_any m t _ _ _ _ xm cm wr (by have := HM.out.2.1; unfold maxLen; omega) (HM.out.sz _ (by omega)) hst (HRM.out wr HEww.out) hIw)
          rw [powF_pwr HM.out.1] at HP
          have HBTT := Lib.hid (HBT.out t)
          generalize pwr (allC ls cs) t = A at HTN HBTT ⊢
          generalize pwr m t = B at HTN HBTT HP
          clear hE hIw e1 e2 hil
          by_cases hAB : A = B
          · have HN2 := Lib.hid (HTN.out hAB)
            have q6 : (A != B) = false := by simp [hAB]
            clear hAB
            go_wp2_with (go_at_call 69; refine (HP.out).mono ?_; rintro e w5 ⟨he, hB⟩; subst he; have HX5 := Lib.hid (Ext.trans HE10.out hB); clear hB)
            go_roundw
            case rel => exact ⟨k + 1, by omega, by go_num, HN2.out, HX5.out⟩
            case measure => simp [intOf]; omega
          · have H := Lib.hid (HBTT.out hAB)
            have q6 : (A != B) = true := by simp [hAB]
            clear hAB
            go_wp2_with (go_at_call 69; refine (HP.out).mono ?_; rintro e w5 ⟨he, hB⟩; subst he; have HX5 := Lib.hid (Ext.trans HEww.out hB); clear hB)
            go_ret
            exact ⟨saysB rfl H.out, HX5.out⟩
        have hitc : i < cs.length := by rw [HNE.out]; exact hit
        obtain ⟨b, o, rfl⟩ := PsRow_at HR.out (by omega)
        obtain ⟨ya, c, g0, hc0, hRj⟩ := PsRow_get HR.out i hit
        obtain ⟨bc, oc, rfl, gc⟩ := HC.out.2.2 i hitc
        have hcn := HNR.out _ (List.getElem_mem hitc)
        have hcpj := HCP.out _ (List.getElem_mem hit)
        have hps := pow_small hcpj t
        have HNXT := Lib.hid (allC_next hit hitc hcpj.1 t)
        have hb0 := HBN.out i t
        have hb1 := HBN.out (i + 1) t
        rw [HNXT.out] at hb1
        have HPW := Lib.hid (fun W (y : Ext wr W) => rPower_any ls[i] t _ _ _ _ ya c W (by have := hcpj.2.1; unfold maxLen; omega) (hcpj.sz _ (by omega)) hst (PRow_below (w' := W) hRj (Ext.trans HEww.out y)) (HFR.out W (Ext.trans HE10.out y)).2)
        have g0' := keep_below HEww.out _ _ g0
        have gc' := keep_below HEww.out _ _ gc
        obtain ⟨K, hK⟩ : ∃ K, ls[i].length = K := ⟨_, rfl⟩
        rw [hK] at HPW g0'
        generalize cs[i] = C at gc' hcn HNXT hb1
        generalize powF ls[i] t = P at hps HNXT HPW hb1
        generalize pwr (allC (ls.take i) (cs.take i)) t = A at HNXT hb0 hb1 ⊢
        obtain ⟨M, hM⟩ : ∃ M, C * P = M := ⟨_, rfl⟩
        have hMb : M.natAbs ≤ 35184372088832 * 128 := by rw [← hM]; exact mul_bound hcn hps
        rw [hM] at HNXT hb1
        have hwM : IntKind.i64.wrap (C * P) = M := (IntWalk.i64_in _ (by rw [hM]; omega)).trans hM
        have hwM2 : IntKind.i64.wrap M = M := IntWalk.i64_in _ (by omega)
        have hwA : IntKind.i64.wrap (A + M) = A + M := IntWalk.i64_in _ (by omega)
        have HCr : Hid (∀ W, Ext wr W → (fun W => W.cell? ⟨bc, oc + i, none⟩ = some (.int .i64 C) ∧ W.cell? ⟨b, o + i, none⟩ = some (.slice ya K c) ∧ (W.cell? ⟨fb, fo + k * 4, none⟩ = some (.int .i64 tk) ∧ W.cell? ⟨fb, fo + k * 4 + 1, none⟩ = some (.string tn) ∧ W.cell? ⟨fb, fo + k * 4 + 2, none⟩ = some (.int .i64 ts) ∧ W.cell? ⟨fb, fo + k * 4 + 3, none⟩ = some (.slice tx tl tc))) W) := fun W y => ⟨keep_below y _ _ gc', keep_below y _ _ g0', (HFR.out W (Ext.trans HE10.out y)).1⟩
        obtain ⟨z0, z1, z2, z3, z4, z5⟩ := HCr.out wr (Ext.refl _)
        have hF0 : Ext wr wr.drew := (Ext.refl wr).drew
        have k1 : (0 : Int) ≤ (i : Int) := by omega
        have k2 : (i : Int) < (ls.length : Int) := by omega
        clear hE g0 gc g0' gc' hRj hc0 hcpj hM hK hst
        go_upto_region 16 with fail
        go_region_held3 (fun W => W.cell? ⟨bc, oc + i, none⟩ = some (.int .i64 C) ∧ W.cell? ⟨b, o + i, none⟩ = some (.slice ya K c) ∧ (W.cell? ⟨fb, fo + k * 4, none⟩ = some (.int .i64 tk) ∧ W.cell? ⟨fb, fo + k * 4 + 1, none⟩ = some (.string tn) ∧ W.cell? ⟨fb, fo + k * 4 + 2, none⟩ = some (.int .i64 ts) ∧ W.cell? ⟨fb, fo + k * 4 + 3, none⟩ = some (.slice tx tl tc)))
          (first | exact HCr.out _ (by assumption) | go_keep)
          (first | (go_at_call 69; refine (HPW.out _ hF0).mono ?_; rintro e w6 ⟨he, hB⟩; subst he; have hF1 : Ext wr w6 := hF0.trans hB; clear hB))
        all_goals (try go_wp2_with fail)
        all_goals go_roundw
        case rel => exact ⟨i + 1, by omega, by go_num, by rw [HNXT.out], Ext.trans HEi.out hF1⟩
        case measure => simp [intOf]; omega
end Go.Proofs.YtcieadjjcpmieaaGreat

/-
  THE LAW ExponentCheck's WALK.
-/
namespace Go.Proofs.YtcieadjjcpmieaaGreat
open Go.RowKit

theorem bool_same {R S : Bool} {P : Prop} (h : R = true ↔ P) (k : S = true ↔ P) : (R == S) = true := by
  cases R <;> cases S <;> simp_all
theorem IntR_own {w' : World} {H : Nat} {p : List Int} {v : Value} (h : w'.ownsRow H 3 1 v p.length (zints p)) (hb : ∀ x ∈ p, i64ok x) (hl : p.length ≤ maxLen) : ∃ xc cap, v = .slice xc p.length cap ∧ IntR w' p xc := by
  obtain ⟨xa, cap, rfl⟩ := own_form h
  refine ⟨xa, cap, rfl, hl, hb, fun i hi => ?_⟩
  obtain ⟨g, cap2, e⟩ := own_form_pos h (by omega)
  simp only [Value.slice.injEq, true_and] at e
  obtain ⟨rfl, rfl⟩ := e
  have hc := h.cells rfl i (.int .i64 p[i]) (by simp [zints, hi])
  rw [Addr.add_lit] at hc
  exact ⟨g, 0, rfl, hc⟩
theorem all_cp {L : List (List Int)} {mix rest : List Int} (hL : ∀ q ∈ L, ∀ x ∈ q, -128 ≤ x ∧ x ≤ 127) (hm : ∀ x ∈ mix, -128 ≤ x ∧ x ≤ 127) (hr : ∀ x ∈ rest, -128 ≤ x ∧ x ≤ 127) (j : Nat) : (∀ l ∈ allL L, Cp 128 6 l) ∧ (allL L).length ≤ 8 ∧ Cp 1000 200 (allM L mix rest j) :=
  ⟨fun l hl => by
    obtain ⟨q, hq, rfl⟩ := List.mem_map.1 hl
    exact madeP_cp (hL q (List.mem_of_mem_take hq)), by rw [allL_len]; omega, allM_cp hL hm hr j⟩
theorem rows_range6 {w : World} {L : List (List Int)} {xa : Option Addr} (h : I8Rows w L xa) : ∀ q ∈ L, ∀ x ∈ q, -128 ≤ x ∧ x ≤ 127 := fun q hq => by
  obtain ⟨k, hk, rfl⟩ := List.getElem_of_mem hq
  obtain ⟨_, _, _, _, _, _, _, hr⟩ := h k hk
  exact hr.1
set_option maxHeartbeats 6400000 in
set_option maxRecDepth 100000 in
theorem laK_any (HA0 : Awake6Ok) (L : List (List Int)) (mix rest cs : List Int) (x0 x1 x2 xc : Option Addr) (k0 k1 k2 kc : Nat) (w : World) (hl0 : L.length ≤ maxLen) (hl1 : mix.length ≤ maxLen) (hl2 : rest.length ≤ maxLen) (hR0 : I8Rows w L x0) (hR1 : I8Row w mix x1) (hR2 : I8Row w rest x2) (hC : IntR w cs xc) (hI : IntsC w (.slice xc cs.length kc) cs) :
    Calls Tryz.prog 8 #[.agg #[.slice x0 L.length k0, .slice x1 mix.length k1, .slice x2 rest.length k2], .slice xc cs.length kc] w fun e w' => e = .returned (.bool true) ∧ Below w.heap.size w w' := by
  have HA := Lib.hid HA0
  have hs1 : (w.alloc (.cells #[.slice x0 L.length k0, .slice x1 mix.length k1, .slice x2 rest.length k2] 46)).heap.size = w.heap.size + 1 := World.size_alloc _ _
  have hb1 := heap_alloc_new w (.cells #[.slice x0 L.length k0, .slice x1 mix.length k1, .slice x2 rest.length k2] 46)
  have HX1 : Hid (∀ W, Ext (w.alloc (.cells #[.slice x0 L.length k0, .slice x1 mix.length k1, .slice x2 rest.length k2] 46)) W → (W.cell? ⟨w.heap.size, 0, none⟩ = some (.slice x0 L.length k0) ∧ W.cell? ⟨w.heap.size, 1, none⟩ = some (.slice x1 mix.length k1) ∧ W.cell? ⟨w.heap.size, 2, none⟩ = some (.slice x2 rest.length k2)) ∧ Ext w W) := fun W y => ⟨cells3 ((y.block _ (by rw [hs1]; omega)).trans hb1), Ext.trans ((Ext.refl w).alloc _) y⟩
  clear hs1 hb1
  by_cases h8 : 8 < L.length
  · have q1 : (8 : Int) < (L.length : Int) := by omega
    clear h8 hR0 hR1 hR2 hC hI
    go_enter Tryz.func8, Tryz.ntmps8
    have tok1 : True := trivial
    go_wp2_with (first
      | (go_at_call 10; have _t := tok1; refine (HA.out _).mono ?_; rintro e w1 ⟨he, hB⟩; subst he; have HB1 : Hid (Ext (w.alloc (.cells #[.slice x0 L.length k0, .slice x1 mix.length k1, .slice x2 rest.length k2] 46)) w1) := hB; obtain ⟨⟨a0, a1, a2⟩, _⟩ := HX1.out _ hB; clear hB tok1)
      | (go_at_call 10; refine (HA.out _).mono ?_; rintro e w3 ⟨he, hB⟩; subst he; have HB3 := Lib.hid (Ext.trans HB1.out hB); clear hB))
    go_ret
    exact ⟨rfl, (HX1.out _ HB3.out).2⟩
  have q1 : (L.length : Int) ≤ 8 := by omega
  by_cases h10 : 10 < cs.length
  · have q2 : (10 : Int) < (cs.length : Int) := by omega
    clear h8 h10 hR0 hR1 hR2 hC hI
    go_enter Tryz.func8, Tryz.ntmps8
    have tok1 : True := trivial
    go_wp2_with (first
      | (go_at_call 10; have _t := tok1; refine (HA.out _).mono ?_; rintro e w1 ⟨he, hB⟩; subst he; have HB1 : Hid (Ext (w.alloc (.cells #[.slice x0 L.length k0, .slice x1 mix.length k1, .slice x2 rest.length k2] 46)) w1) := hB; obtain ⟨⟨a0, a1, a2⟩, _⟩ := HX1.out _ hB; clear hB tok1)
      | (go_at_call 10; refine (HA.out _).mono ?_; rintro e w3 ⟨he, hB⟩; subst he; have HB3 := Lib.hid (Ext.trans HB1.out hB); clear hB))
    go_ret
    exact ⟨rfl, (HX1.out _ HB3.out).2⟩
  have q2 : (cs.length : Int) ≤ 10 := by omega
  obtain ⟨o1, o2, o3⟩ := all_cp (rows_range6 hR0) hR1.1 hR2.1 (allL L).length
  have HAL := Lib.hid (fun W (y : Ext w W) => rAll_any L mix rest x0 x1 x2 k0 k1 k2 W hl0 hl1 hl2 (hR0.ext y) (hR1.ext y) (hR2.ext y))
  unfold AllPost at HAL
  generalize allM L mix rest (allL L).length = m at HAL o3
  generalize allL L = ls at HAL o1 o2
  have HCL := Lib.hid (fun W (y : Ext w W) => cloneO_any (.slice xc cs.length kc) cs W (IntsC_below hI y) (by omega))
  have HBC := Lib.hid hC.2.1
  have HLC := Lib.hid hC.1
  have HC1 := Lib.hid (fun xa xm xd ca cm cd W h1 h2 h3 => chk_any ls m cs xa xm xd ca cm cd W o1 o2 o3 h1 h2 h3)
  have HC2 := Lib.hid (fun xa xm ca cm W (y : Ext w W) h1 h2 hc => rchk_any ls m cs xa xm xc ca cm kc W o1 o2 o3 h1 h2 hc (hC.ext y))
  clear h8 h10 hR0 hR1 hR2 hC hI o1 o2 o3
  go_enter Tryz.func8, Tryz.ntmps8
  have tok1 : True := trivial
  go_wp2_with (first
    | (go_at_call 10; have _t := tok1; refine (HA.out _).mono ?_; rintro e w1 ⟨he, hB⟩; subst he; have HB1 : Hid (Ext (w.alloc (.cells #[.slice x0 L.length k0, .slice x1 mix.length k1, .slice x2 rest.length k2] 46)) w1) := hB; obtain ⟨⟨a0, a1, a2⟩, _⟩ := HX1.out _ hB; clear hB tok1)
    | (go_at_call 25; refine (HAL.out _ (HX1.out _ HB1.out).2).mono ?_; rintro e w3 ⟨xl, cl, xm, cm, he, hcl, hrl, hcm, hrm, hB⟩; subst he; have HB3 := Lib.hid (Ext.trans HB1.out hB); have HRL := Lib.hid hrl; have HRM := Lib.hid hrm; have HCLN := Lib.hid hcl; have HCM := Lib.hid hcm; clear hcl hrl hcm hrm hB)
    | (go_at_call 34; refine (HCL.out _ (HX1.out _ HB3.out).2).mono ?_; rintro e w4 ⟨v4, he, ho, hB⟩; subst he; obtain ⟨x4, c4, hv4, hr4⟩ := IntR_own ho HBC.out HLC.out; subst hv4; have HY4 := Lib.hid (show Ext w3 w4 from hB); have HD4 := Lib.hid hr4; clear ho hB hr4)
    | (go_at_call 31; refine (HC1.out _ _ _ _ _ _ _ (PsRow_below HRL.out HY4.out) (PRow_below HRM.out HY4.out) HD4.out).mono ?_; rintro e w5 ⟨⟨R1, he, hr1⟩, hB⟩; subst he; have HY5 : Hid (Ext w3 w5) := Ext.trans HY4.out hB; have HR1 := Lib.hid hr1; clear hr1 hB)
    | (go_at_call 30; refine (HC2.out _ _ _ _ _ (HX1.out _ (Ext.trans HB3.out HY5.out)).2 (PsRow_below HRL.out HY5.out) (PRow_below HRM.out HY5.out) HCM.out).mono ?_; rintro e w6 ⟨⟨R2, he, hr2⟩, hB⟩; subst he; have HY6 : Hid (Ext w3 w6) := Ext.trans HY5.out hB; have qB := bool_same HR1.out hr2; clear hr2 hB))
  go_ret
  exact ⟨by rw [show (Value.bool true) = Value.bool (R1 == R2) by rw [qB]]; rfl, (HX1.out _ (Ext.trans HB3.out HY6.out)).2⟩
end Go.Proofs.YtcieadjjcpmieaaGreat
