/-
  slices.Clone AT TERMS, few, AND WHAT THE LAWS OF layer 8 SHARE.
-/
import Derived.Test.YtfbomoginjknlaaDoorQawk
import Derived.Test.YtfbomoginjknlaaDoorSep
import Derived.Deep.AppendLies
import Derived.Deep.RegionWith
import Derived.Test.YtfbomoginjknlaaDoorQtab
namespace Go.Proofs.YtfbomoginjknlaaDoor
open Go.RowKit Go.Lib

/-- The append's law at an operation whose guard is on. -/
theorem step_append_want {P : Program} {w : World} {ops : Array Oper} {o : Oper} {a : Act} {K : Act → World → Prop} {Q : Exit → Act → World → Prop} {E : Prop} (hw : Region.wanted o (yielded ops a.tmps) = true) (s x : Operand) (t : TypeId)
    (ho : o.op = .call { callee := .builtin .append, args := #[s, x], argTypes := #[t, t] })
    (base : Nat) (e : TypeId) (i : TypeInfo) (z : Value) (size bytes : Nat) (ht : P.underlying t = some (.slice e)) (hi : P.info? e = some i) (hz : i.zero = some z)
    (hsize : i.size = size) (hby : i.bytes = bytes) (hzs : z.cells.size = size) (hsz : 0 < size)
    (v : Value) (n : Nat) (xs : List Value) (hs : a.eval s = v) (hown : w.ownsRow base e size v n xs)
    (ad : Addr) (m c : Nat) (news : List Value) (hx : a.eval x = .slice (some ad) m c) (hl : news.length = m * size) (hnews : ∀ j u, news[j]? = some u → w.cell? (ad.add j) = some u) (h1 : ∀ u ∈ news, u.oneCell' = true)
    (hm : 0 < m) (h63 : n + m ≤ maxLen) (hbytes : (n + m) * bytes ≤ 140737488355328) (hbase : base ≤ w.heap.size) (H : Nat) (hH : w.heap.size = H)
    (h : ∀ g cap w', w'.ownsRow base e size (.slice (some ⟨g, 0, none⟩) (n + m) cap) (n + m) (xs ++ news) → w.grownBy w' v.ownBlock → (v.ownBlock = some g ∨ g = H) → g < w'.heap.size → K (a.put o.dst (.slice (some ⟨g, 0, none⟩) (n + m) cap)) w') :
    if Region.wanted o (yielded ops a.tmps) = true then Oper.wp P o a w K Q else E := by
  rw [if_pos hw]
  exact wp_append_lies w s x t ho base e i z size bytes ht hi hz hsize hby hzs hsz v n xs hs hown ad m c news hx hl hnews h1 hm h63 hbytes hbase H hH h
theorem KC_of_RowInQ {S : Nat → Prop} {w : World} : ∀ (ts : List Tm) (b o : Nat), RowIn S w ts (some ⟨b, o, none⟩) → ∃ cs, KC S w ts cs ∧ ∀ j u, cs[j]? = some u → w.cell? ((⟨b, o, none⟩ : Addr).add j) = some u
  | [], b, o, _ => ⟨[], rfl, fun j u hu => by simp at hu⟩
  | t :: ts, b, o, h => by
    simp only [RowIn] at h
    obtain ⟨b', o', e, _, ⟨c0, c1, c2, c3, g0, g1, g2, g3, hI⟩, h2⟩ := h
    simp only [Option.some.injEq, Addr.mk.injEq, and_true] at e
    obtain ⟨rfl, rfl⟩ := e
    obtain ⟨r, hK, hr⟩ := KC_of_RowInQ ts b (o + 4) h2
    refine ⟨c0 :: c1 :: c2 :: c3 :: r, ⟨c0, c1, c2, c3, r, rfl, hI, hK⟩, fun j u hu => ?_⟩
    match j, hu with
    | 0, hu => simp only [List.getElem?_cons_zero, Option.some.injEq] at hu; subst hu; exact g0
    | 1, hu => simp only [List.getElem?_cons_succ, List.getElem?_cons_zero, Option.some.injEq] at hu; subst hu; exact g1
    | 2, hu => simp only [List.getElem?_cons_succ, List.getElem?_cons_zero, Option.some.injEq] at hu; subst hu; exact g2
    | 3, hu => simp only [List.getElem?_cons_succ, List.getElem?_cons_zero, Option.some.injEq] at hu; subst hu; exact g3
    | j + 4, hu =>
      simp only [List.getElem?_cons_succ] at hu
      have := hr j u hu
      have e : (⟨b, o, none⟩ : Addr).add (j + 4) = (⟨b, o + 4, none⟩ : Addr).add j := by rw [add_plain, add_plain, show o + (j + 4) = o + 4 + j by omega]
      rw [e]; exact this
/-- What Clone gives back: a row of its own of the same terms, whose kids lie below base. -/
def CloneTPost (base : Nat) (w : World) (ts : List Tm) (e : Ending) (w' : World) : Prop := ∃ xa cap, e = .returned (.slice xa ts.length cap) ∧ OwnT w.heap.size (fun q => q < base) w' ts (.slice xa ts.length cap) ∧ Ext w w'
set_option maxHeartbeats 1600000 in
set_option maxRecDepth 100000 in
theorem cloneT_any (base : Nat) (ts : List Tm) (xa : Option Addr) (cap : Nat) (w : World) (hb : ts.length * 56 ≤ 140737488355328) (hbw : base ≤ w.heap.size) (hR : RowIn (fun q => q < base) w ts xa) :
    Calls Tryd.prog 18 #[.slice xa ts.length cap] w (CloneTPost base w ts) := by
  have heq := fun (w : World) (a : Option Addr) (l c : Nat) => Lib.run_eql_slice_nil (P := Tryd.prog) w 22 24 a l c 0 0 Tryd.underlying22
  cases xa with
  | none =>
    have hp0 : ts = [] := by
      rcases Nat.eq_zero_or_pos ts.length with h | h
      · exact List.length_eq_zero_iff.1 h
      · obtain ⟨b, o, e⟩ := RowIn_at hR h; cases e
    subst hp0
    go_enter Tryd.func18, Tryd.ntmps18
    go_wp2_with fail
    go_ret
    exact ⟨none, 0, rfl, OwnT_nil _ _ _, Ext.refl _⟩
  | some a =>
    obtain ⟨i0, hi0, hz0, hz1, hz2⟩ := info_parts info24
    have HI0 := Lib.hid (And.intro hi0 (And.intro hz0 (And.intro hz1 hz2)))
    have HO : Hid ((w.alloc (.cells #[] 24)).ownsRow w.heap.size 24 4 (.slice (some ⟨w.heap.size, 0, none⟩) 0 0) 0 []) := World.ownsRow_made w #[] 0 (Nat.le_refl _) (by simp [maxLen]) rfl
    clear hi0 hz0 hz1 hz2
    have hds : ∃ ds, KC (fun q => q < base) w ts ds ∧ ∀ j u, ds[j]? = some u → w.cell? (a.add j) = some u := by
      rcases Nat.eq_zero_or_pos ts.length with h | h
      · have : ts = [] := List.length_eq_zero_iff.1 h
        subst this
        exact ⟨[], rfl, fun j u h => by simp at h⟩
      · obtain ⟨b, o, e⟩ := RowIn_at hR h
        simp only [Option.some.injEq] at e
        subst e
        exact KC_of_RowInQ ts b o hR
    obtain ⟨ds, hK, hc⟩ := hds
    obtain ⟨hl, h1⟩ := KC_one _ _ hK
    have HC := Lib.hid (fun j u (hu : ds[j]? = some u) => keep_alloc w (.cells #[] 24) _ _ (hc j u hu))
    have HL := Lib.hid hl
    have H1 := Lib.hid h1
    have HK := Lib.hid hK
    have HBW := Lib.hid hbw
    have hml : ts.length ≤ 2513169434917 := by omega
    clear hc hl h1 hK hR
    go_enter Tryd.func18, Tryd.ntmps18
    go_wp2_with (at_builtin; refine wpList_append_own_at _ rfl _ _ _ rfl w.heap.size 24 i0 _ 4 56 Tryd.underlying22 HI0.out.1 HI0.out.2.1 HI0.out.2.2.1 HI0.out.2.2.2 rfl (by omega) (.slice (some ⟨w.heap.size, 0, none⟩) 0 0) 0 [] rfl HO.out a ts.length cap ds rfl HL.out HC.out H1.out (by unfold maxLen; omega) (by omega) (by simp) ?_; intro v1 w1 hown1 hgrow _ hat)
    simp only [Nat.zero_add, List.nil_append] at hown1
    go_ret
    have hB : Below w.heap.size w w1 := ((Below.refl _ _).alloc (Nat.le_refl _) _).grown hgrow (by simp) (fun k hk => by simp only [Value.ownBlock, Option.some.injEq] at hk; omega)
    have hO : OwnT w.heap.size (fun q => q < base) w1 ts v1 := ⟨ds, hown1, KC_carry (fun b (hb : b < base) => hB.block b (Nat.lt_of_lt_of_le hb HBW.out)) (fun _ h => h) _ _ HK.out⟩
    obtain ⟨xq, cq, rfl⟩ := OwnT_form hO
    exact ⟨xq, cq, rfl, hO, hB⟩
set_option maxHeartbeats 1600000 in
set_option maxRecDepth 100000 in
theorem few08_any (ts : List Tm) (xa : Option Addr) (cap : Nat) (w : World) (hl : ts.length ≤ maxLen) (hR : Row w ts xa) :
    Calls Tryd.prog 7 #[.slice xa ts.length cap] w fun e w' => e = .returned (.bool (few ts 20 300)) ∧ Below w.heap.size w w' := by
  have HC := Lib.hid (few_any ts xa cap 20 300 w hl (by omega) (by omega) hR)
  generalize few ts 20 300 = R at HC ⊢
  clear hR
  go_enter Tryd.func7, Tryd.ntmps7
  go_wp2_with (go_at_call 25; refine (HC.out).mono ?_; rintro e w3 ⟨he, hB⟩; subst he; have HB := Lib.hid hB; clear hB)
  go_ret
  exact ⟨rfl, HB.out⟩
theorem few_sizesQ {ls : List Tm} (h : few ls 20 300 = true) : sizes ls ≤ 300 ∧ ls.length ≤ 20 := by
  unfold few at h
  split at h
  · cases h
  · have := fewL_sizes ls 300 (by omega) h
    constructor <;> omega
theorem few_snoc {ts : List Tm} {t : Tm} (h : few (ts ++ [t]) 20 300 = true) : ts.length ≤ 19 ∧ sizes ts + size t ≤ 300 := by
  obtain ⟨h1, h2⟩ := few_sizesQ h
  rw [List.length_append] at h2
  simp only [List.length_cons, List.length_nil] at h2
  have happ : ∀ (l : List Tm) (u : Tm), sizes (l ++ [u]) = sizes l + size u := by
    intro l u
    induction l with
    | nil => simp [sizes]
    | cons x l ih => rw [List.cons_append, sizes, sizes, ih]; omega
  rw [happ] at h1
  omega
end Go.Proofs.YtfbomoginjknlaaDoor
namespace Go.Proofs.YtfbomoginjknlaaDoor
open Go.ChangeShapes Go.WideShapes Go.ChangeAt Go.RowKit Go.Deep
section
variable {H : Type} {enc : TypeId × Value → H} {W : World} {base : Nat} {sp : Nat → Bool} {held : Bool}
set_option maxRecDepth 100000 in
theorem open_termsQ {v : Value} {d : DataW H} {ps : List MemPlace} {r : Reach} {b0 : Nat} (hv : Value.okWide Tryd.prog W r b0 22 v) (h : DataW.Trod enc Tryd.prog W base sp held 22 v d ps) :
    ∃ (ls : List Tm) (xa : Option Addr) (cap : Nat), v = .slice xa ls.length cap ∧ ls.length ≤ cap ∧ ls.length ≤ maxLen ∧ Row W ls xa ∧ (ls = [] ∨ ∃ elems spare, d = .slice elems spare ∧ elems.length = ls.length) := by
  obtain ⟨a0, l0, c0, rfl⟩ := okWide_slice Tryd.underlying22 hv
  obtain ⟨fuel, hf⟩ := h
  have hcs : (Value.slice a0 l0 c0).cells.toList = [.slice a0 l0 c0] := rfl
  rw [hcs] at hf
  rcases DataW.trod_slice Tryd.underlying22 hf with ⟨e3, _⟩ | ⟨a, len, cap, elems, rest, m, hn, e3, hd, hb, hlc, hcm, hel, hat, _⟩
  · simp only [List.cons.injEq, and_true, Value.slice.injEq] at e3
    obtain ⟨rfl, rfl, rfl⟩ := e3
    exact ⟨[], none, 0, rfl, Nat.le_refl _, Nat.zero_le _, by simp [Row], Or.inl rfl⟩
  · simp only [List.cons.injEq, and_true, Value.slice.injEq] at e3
    obtain ⟨rfl, rfl, rfl⟩ := e3
    rw [cellsTerm] at hat
    have hone : ∀ i, i < l0 → ∃ t : Tm, ∃ c0 c1 c2 c3, W.cells? base (a.add (i * 4)) 4 = some [c0, c1, c2, c3] ∧ Is W t c0 c1 c2 c3 := fun i hi => by
      have hi' : i < elems.length := by omega
      have := hat i hi
      rw [List.getElem?_eq_getElem hi'] at this
      obtain ⟨cs', hcs, htr⟩ := Option.bind_eq_some_iff.1 this
      obtain ⟨t, d0, d1, d2, d3, rfl, hI⟩ := open_term_upto m m cs' _ (Nat.le_refl _) htr
      exact ⟨t, d0, d1, d2, d3, hcs, hI⟩
    obtain ⟨f, hf'⟩ := choose_lt hone
    obtain ⟨ab, ao, spot⟩ := a
    have hll : ((List.range l0).map f).length = l0 := by simp
    refine ⟨(List.range l0).map f, some ⟨ab, ao, spot⟩, c0, by rw [hll], by rw [hll]; exact hlc, by rw [hll]; omega, ?_, Or.inr ⟨elems.map (·.1), rest.map (·.1), (Prod.mk.inj hd).1, by rw [hll, List.length_map]; exact hel⟩⟩
    by_cases h0 : l0 = 0
    · subst h0; simp [Row]
    · have hspot : spot = none := by
        obtain ⟨d0, d1, d2, d3, hcs, _⟩ := hf' 0 (by omega)
        obtain ⟨_, _, hc⟩ := World.cells?_some hcs
        have := hc 0 (by omega)
        simpa [Addr.add] using World.cell?_spot this
      subst hspot
      have := Row_of_family (w := W) f ab l0 ao 0 (fun i hi => by
        obtain ⟨d0, d1, d2, d3, hcs, hI⟩ := hf' i hi
        obtain ⟨_, _, hc⟩ := World.cells?_some hcs
        have g0 := hc 0 (by omega)
        have g1 := hc 1 (by omega)
        have g2 := hc 2 (by omega)
        have g3 := hc 3 (by omega)
        simp only [Addr.add_lit, List.getElem?_cons_zero, List.getElem?_cons_succ, Nat.add_zero] at g0 g1 g2 g3
        rw [Nat.zero_add]
        exact ⟨d0, d1, d2, d3, g0, g1, g2, g3, hI⟩)
      simpa using this
end
theorem bytesTermQ : Tryd.prog.bytesOf 24 = 56 := by kernel_rfl
/-- The bulk that the form bears. -/
theorem terms_bytes {H : Type} {ts : List TypeId} {ds : List (DataW H)} (h : (DataW.weightsEach Tryd.prog ts ds).all (· ≤ reachBytes) = true) {j : Nat} {d : DataW H} {ls : List Tm} (ht : ts[j]? = some 22) (hd : ds[j]? = some d) (hb : ls = [] ∨ ∃ elems spare, d = .slice elems spare ∧ elems.length = ls.length) : ls.length * 56 ≤ 140737488351232 := by
  rcases hb with rfl | ⟨elems, spare, rfl, he⟩
  · simp
  · have := sized_slice h ht hd Tryd.underlying22
    rw [bytesTermQ] at this
    have h2 : reachBytes = 140737488351232 := rfl
    have h3 : elems.length * 56 ≤ (elems.length + spare.length) * 56 := Nat.mul_le_mul_right _ (Nat.le_add_right _ _)
    omega
end Go.Proofs.YtfbomoginjknlaaDoor
