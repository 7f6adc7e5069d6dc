/-
  cancelled WHEREVER ITS ROW LIES; THE WALK OF copies.
-/
import Derived.Test.YtakeopjpmfgngaaGreatDoorQcanw
import Derived.Laws.Shifts
namespace Go.Proofs.YtakeopjpmfgngaaGreatDoor
open Go.RowKit

set_option maxHeartbeats 1600000 in
set_option maxRecDepth 100000 in
theorem cancelled_nil (g cap : Nat) (w : World) :
    Calls Tryz.prog 62 #[.slice (some ⟨g, 0, none⟩) 0 cap] w fun e w' => e = .returned (.slice (some ⟨g, 0, none⟩) 0 cap) ∧ w' = w := by
  have HST := Lib.hid (AnyF.slices_SortFunc_none Tryz.sortTerms (some ⟨g, 0, none⟩) cap (.func (.func 84) #[] #[]) w)
  go_enter Tryz.func62, Tryz.ntmps62
  go_wp2_with (go_at_call 87; refine (HST.out).mono ?_; rintro e w9 ⟨he, hw⟩; subst he; subst hw)
  go_loopw [3, 4] (fun kk i wr => kk = .int .i64 0 ∧ i = .int .i64 0 ∧ wr = w9) (fun _ i _ => (intOf i).toNat)
  case atStart => exact ⟨rfl, rfl, rfl⟩
  case round =>
    obtain ⟨rfl, rfl, rfl⟩ := hrel
    go_wp2_with fail
    go_ret
    exact ⟨rfl, rfl⟩
set_option maxHeartbeats 1600000 in
set_option maxRecDepth 100000 in
theorem cancelled_none (w : World) :
    Calls Tryz.prog 62 #[.slice none 0 0] w fun e w' => e = .returned (.slice none 0 0) ∧ w' = w := by
  have HST := Lib.hid (AnyF.slices_SortFunc_none Tryz.sortTerms none 0 (.func (.func 84) #[] #[]) w)
  go_enter Tryz.func62, Tryz.ntmps62
  go_wp2_with (go_at_call 87; refine (HST.out).mono ?_; rintro e w9 ⟨he, hw⟩; subst he; subst hw)
  go_loopw [3, 4] (fun kk i wr => kk = .int .i64 0 ∧ i = .int .i64 0 ∧ wr = w9) (fun _ i _ => (intOf i).toNat)
  case atStart => exact ⟨rfl, rfl, rfl⟩
  case round =>
    obtain ⟨rfl, rfl, rfl⟩ := hrel
    go_wp2_with fail
    go_ret
    exact ⟨rfl, rfl⟩
theorem Row_cellsQ {w : World} {S : Nat → Prop} (b : Nat) : ∀ (ts : List Tm) (o : Nat) (cs : List Value), KC S w ts cs → (∀ j u, cs[j]? = some u → w.cell? ⟨b, o + j, none⟩ = some u) → Row w ts (some ⟨b, o, none⟩)
  | [], o, cs, _, _ => by simp [Row]
  | t :: ts, o, cs, h, hc => by
    obtain ⟨c0, c1, c2, c3, r, rfl, hI, hr⟩ := h
    refine Row_cons_mk ⟨c0, c1, c2, c3, hc 0 _ rfl, hc 1 _ rfl, hc 2 _ rfl, hc 3 _ rfl, IsIn_Is _ _ _ _ _ hI⟩ (Row_cellsQ b ts (o + 4) r hr (fun j u hu => ?_))
    have := hc (j + 4) u (by simpa using hu)
    rw [show o + 4 + j = o + (j + 4) by omega]; exact this
theorem OwnT_rowQ {H : Nat} {S : Nat → Prop} {w : World} {ts : List Tm} {xa : Option Addr} {cap : Nat} (h : OwnT H S w ts (.slice xa ts.length cap)) : Row w ts xa ∧ ts.length ≤ cap := by
  obtain ⟨cs, ho, hK⟩ := h
  rcases ho.2 with ⟨e, h0⟩ | ⟨g, cap', cur, e, _, _, h1, h2, _⟩
  · have : ts = [] := List.length_eq_zero_iff.1 h0
    subst this
    exact ⟨by simp [Row], Nat.zero_le _⟩
  · simp only [Value.slice.injEq] at e
    obtain ⟨rfl, _, rfl⟩ := e
    refine ⟨Row_cellsQ g _ 0 cs hK (fun j u hu => ?_), h1⟩
    have := ho.cells (g := g) rfl j u hu
    rw [add_plain] at this; exact this
/-- What cancelled gives back, wherever it lies. -/
def CaPost (H : Nat) (S : Nat → Prop) (w : World) (ps : List Tm) (e : Ending) (w' : World) : Prop :=
  ∃ (K : List Tm) (xa : Option Addr) (cap : Nat), e = .returned (.slice xa K.length cap) ∧ Row w' K xa ∧ K.length ≤ cap ∧ K.length ≤ ps.length ∧ OddS K ps ∧ Below H w w' ∧ OwnT H S w' K (.slice xa K.length cap)
theorem cancelled_any {H : Nat} {S : Nat → Prop} {ps : List Tm} {v : Value} {w : World} (hown : OwnT H S w ps v) (hS : ∀ b, S b → b < H) (hHw : H ≤ w.heap.size) (hsz : ∀ t ∈ ps, size t ≤ 1073741824) (hlt : ps.length < 1073741824) :
    Calls Tryz.prog 62 #[v] w (CaPost H S w ps) := by
  obtain ⟨cs, ho, hK⟩ := id hown
  have hl := fun q hq => ho.lt q hq
  rcases id ho.2 with ⟨rfl, e⟩ | ⟨g, cap, _, rfl, hg, _, hcap, _⟩
  · have hn : ps = [] := List.length_eq_zero_iff.1 e
    subst hn
    refine (cancelled_none w).mono fun e w' h => ?_
    obtain ⟨rfl, rfl⟩ := h
    exact ⟨[], none, 0, rfl, by simp [Row], Nat.le_refl _, Nat.le_refl _, OddS.nil, Below.refl _ _, hown⟩
  · by_cases h0 : ps.length = 0
    · have hn : ps = [] := List.length_eq_zero_iff.1 h0
      subst hn
      refine (cancelled_nil g cap w).mono fun e w' h => ?_
      obtain ⟨rfl, rfl⟩ := h
      exact ⟨[], _, cap, rfl, by simp [Row], Nat.zero_le _, Nat.le_refl _, OddS.nil, Below.refl _ _, hown⟩
    · have hgl := (hl g rfl).2
      refine (cancelled_pos (n := ps.length) hown rfl (fun b hb => ⟨by have := hS b hb; omega, by have := hS b hb; omega⟩) hHw (by omega) hsz hlt).mono fun e w' h => ?_
      obtain ⟨qs, rfl, h1, h2, h3, h6⟩ := h
      obtain ⟨r1, r2⟩ := OwnT_rowQ h1
      exact ⟨qs, _, cap, rfl, r1, r2, h2, h3, h6, h1⟩
/-- New blocks other than the row's own. -/
def newQ (g : Nat) (w : World) (b : Nat) : Prop := g < b ∧ b < w.heap.size
/-- A made row of copied terms, the first j of which are set. -/
structure QC (w : World) (g : Nat) (us : List Tm) (j : Nat) (wr : World) : Prop where
  below : Below w.heap.size w wr
  own : w.heap.size ≤ g
  row : ∃ cs zs, wr.ownsRow g 26 4 (.slice (some ⟨g, 0, none⟩) us.length us.length) us.length (cs ++ zs) ∧ cs.length = j * 4 ∧ KC (newQ g wr) wr (us.take j) cs
theorem QC.lt {w wr : World} {g j : Nat} {us : List Tm} (h : QC w g us j wr) : g < wr.heap.size := by
  obtain ⟨cs, zs, ho, _⟩ := h.row
  exact (ho.lt g rfl).2
theorem QC.ext {w wr w3 : World} {g j : Nat} {us : List Tm} (h : QC w g us j wr) (hB : Ext wr w3) : QC w g us j w3 := by
  obtain ⟨cs, zs, ho, hc, hK⟩ := h.row
  exact ⟨Ext.trans h.below hB, h.own, cs, zs, own_heap ho (fun q hq => hB.block q (ho.lt q hq).2), hc, KC_carry (fun b hb => hB.block b hb.2) (fun b hb => ⟨hb.1, Nat.lt_of_lt_of_le hb.2 hB.size⟩) _ _ hK⟩
theorem QC.cells {w wr : World} {g j : Nat} {us : List Tm} (h : QC w g us j wr) (hj : j < us.length) :
    (∃ z0 z1 z2 z3, wr.cell? ⟨g, j * 4, none⟩ = some z0 ∧ wr.cell? ⟨g, j * 4 + 1, none⟩ = some z1 ∧ wr.cell? ⟨g, j * 4 + 2, none⟩ = some z2 ∧ wr.cell? ⟨g, j * 4 + 3, none⟩ = some z3) ∧ ∀ i, wr.frozen? ⟨g, i, none⟩ = false := by
  obtain ⟨cs, zs, ho, hc, _⟩ := h.row
  have hl := ho.1
  have hz : ∀ i, i < 4 → ∃ z, wr.cell? ⟨g, j * 4 + i, none⟩ = some z := fun i hi => by
    rw [ho.cellAt _ (by omega)]
    exact ⟨_, List.getElem?_eq_getElem (by omega)⟩
  obtain ⟨z0, h0⟩ := hz 0 (by omega)
  obtain ⟨z1, h1⟩ := hz 1 (by omega)
  obtain ⟨z2, h2⟩ := hz 2 (by omega)
  obtain ⟨z3, h3⟩ := hz 3 (by omega)
  exact ⟨⟨z0, z1, z2, z3, h0, h1, h2, h3⟩, fun i => ho.frozenAt i⟩
theorem QC.next {w wr : World} {g j : Nat} {us : List Tm} (h : QC w g us j wr) (hj : j < us.length) {c0 c1 c2 c3 : Value}
    (hI : IsIn (newQ g wr) wr us[j] c0 c1 c2 c3) : QC w g us (j + 1) (put4 wr g (j * 4) c0 c1 c2 c3) := by
  obtain ⟨cs, zs, ho, hc, hK⟩ := h.row
  have hp : ∀ q, q ≠ g → (put4 wr g (j * 4) c0 c1 c2 c3).heap[q]? = wr.heap[q]? := fun q hq => put4_other _ _ _ _ _ _ _ _ hq
  have hsz : (put4 wr g (j * 4) c0 c1 c2 c3).heap.size = wr.heap.size := put4_size _ _ _ _ _ _ _
  have hS : ∀ b, newQ g wr b → newQ g (put4 wr g (j * 4) c0 c1 c2 c3) b := fun b hb => ⟨hb.1, by rw [hsz]; exact hb.2⟩
  refine ⟨put4_below h.below h.own, h.own, cs ++ [c0, c1, c2, c3], zs.drop 4, stored4 ho hc hj, ?_, ?_⟩
  · simp only [List.length_append, hc, List.length_cons, List.length_nil]; omega
  · rw [List.take_succ_eq_append_getElem hj]
    exact KC_snoc (IsIn_carry (fun b hb => hp b (by have := hb.1; omega)) hS _ _ _ _ _ hI) _ _ (KC_carry (fun b hb => hp b (by have := hb.1; omega)) hS _ _ hK)
theorem QC.done {w wr : World} {g : Nat} {us : List Tm} (h : QC w g us us.length wr) : Row wr us (some ⟨g, 0, none⟩) ∧ RowIn (fun b => w.heap.size ≤ b) wr us (some ⟨g, 0, none⟩) ∧ Below w.heap.size w wr := by
  obtain ⟨cs, zs, ho, hc, hK⟩ := h.row
  have hw := h.own
  rw [List.take_length] at hK
  have hl := ho.1
  rw [List.length_append] at hl
  have hz : zs = [] := List.length_eq_zero_iff.1 (by omega)
  rw [hz, List.append_nil] at ho
  have hK2 : KC (fun b => w.heap.size ≤ b) wr us cs := KC_carry (fun _ _ => rfl) (fun b hb => by have := hb.1; omega) _ _ hK
  refine ⟨(OwnT_rowQ (H := g) (cap := us.length) ⟨cs, ho, hK⟩).1, RowIn_of_KC (S := fun b => w.heap.size ≤ b) hw us cs 0 hK2 (fun j u hu => ?_), h.below⟩
  have := ho.cells (g := g) rfl j u hu
  rw [add_plain] at this; exact this
theorem QC_made {w w0 w1 : World} {g : Nat} {us : List Tm} {xs : List Value} (hown : w1.ownsRow g 26 4 (.slice (some ⟨g, 0, none⟩) us.length us.length) us.length xs) (hw : w.heap.size ≤ g) (hz : g ≤ w0.heap.size) (hB : Below w.heap.size w w0) (hg : w0.grownBy w1 none) : QC w g us 0 w1 :=
  ⟨hB.grown hg (by omega) (fun q hq => by simp at hq), hw, [], xs, hown, by simp, rfl⟩
/-- What gives back a list of terms all of which lie in new memory. -/
def CpPost (w : World) (us : List Tm) (e : Ending) (w' : World) : Prop := ∃ xa c, e = .returned (.slice xa us.length c) ∧ us.length ≤ c ∧ Row w' us xa ∧ RowIn (fun b => w.heap.size ≤ b) w' us xa ∧ Below w.heap.size w w'
/-- What gives back a list of terms in new memory. -/
def TsPost (w : World) (us : List Tm) (e : Ending) (w' : World) : Prop := ∃ xa c, e = .returned (.slice xa us.length c) ∧ us.length ≤ c ∧ Row w' us xa ∧ Below w.heap.size w w'
set_option maxHeartbeats 3200000 in
set_option maxRecDepth 100000 in
theorem copies_any (us : List Tm) (xa : Option Addr) (cap : Nat) (w : World) (hlen : us.length ≤ 1048576) (hsz : ∀ t ∈ us, size t ≤ 1073741824) (hR : Row w us xa) :
    Calls Tryz.prog 37 #[.slice xa us.length cap] w (CpPost w us) := by
  obtain ⟨i0, hi0, hz0, hz1, hz2⟩ := info_parts info24
  have HI0 := Lib.hid (And.intro hi0 (And.intro hz0 (And.intro hz1 hz2)))
  have HR := Lib.hid hR
  have HSZ := Lib.hid hsz
  clear hR hsz hi0 hz0 hz1 hz2
  go_enter Tryz.func37, Tryz.ntmps37
  go_wp2_with (at_make; refine make_full_at _ w.heap.size rfl rfl _ _ _ rfl 26 i0 _ 4 Tryz.underlying22 HI0.out.1 HI0.out.2.1 HI0.out.2.2.1 us.length rfl rfl (by rw [HI0.out.2.2.2]; omega) (by unfold maxLen; omega) ?_; intro w2 hown1 hgrow; have HM := Lib.hid (QC_made hown1 (Nat.le_refl _) (Nat.le_refl _) (Below.refl w.heap.size w) hgrow); clear hown1 hgrow)
  obtain ⟨g, hg⟩ : ∃ g, w.heap.size = g := ⟨_, rfl⟩
  have HGE : Hid (w.heap.size ≤ g) := (by omega : w.heap.size ≤ g)
  rw [hg] at HM ⊢
  clear hg
  go_loopw [10] (fun i wr => ∃ j : Nat, j ≤ us.length ∧ i = .int .i64 j ∧ QC w g us j wr) (fun i _ => us.length - (intOf i).toNat)
  case atStart => exact ⟨0, Nat.zero_le _, rfl, HM.out⟩
  case round =>
    obtain ⟨j, hj, rfl, hA⟩ := hrel
    have HA := Lib.hid hA
    by_cases hlt : j < us.length
    rotate_left
    · have hjl : j = us.length := by omega
      have HD := Lib.hid (QC.done (by rw [hjl] at hA; exact hA))
      clear hA hjl
      go_wp2_with fail
      go_ret
      exact ⟨_, _, rfl, Nat.le_refl _, HD.out.1, HD.out.2.1, HD.out.2.2⟩
    obtain ⟨b, o, rfl⟩ := Row_at HR.out (by omega)
    obtain ⟨c0, c1, c2, c3, x0, x1, x2, x3, hI⟩ := Row_get (Row_below HR.out hA.below) j hlt
    obtain ⟨k, nm, s, ya, yl, yc, rfl, rfl, rfl, rfl⟩ := Is_form hI
    have HC := Lib.hid (At_any us[j] [] _ _ _ _ (.slice none 0 0) wr (HSZ.out _ (List.getElem_mem hlt)) hI ⟨none, 0, rfl, Nat.zero_le _, fun x hx => by simp at hx, fun h => by simp at h⟩)
    have hat : atT us[j] [] = some us[j] := by simp [atT]
    rw [hat] at HC
    unfold AtPost at HC
    have hgl := hA.lt
    have HGL := Lib.hid hgl
    have i1 : (0 : Int) ≤ (j : Int) := by omega
    have i2 : (j : Int) < (us.length : Int) := by omega
    clear hA hI hat hgl
    go_wp2_with (go_at_call 66; refine (HC.out).mono ?_; rintro e w4 ⟨hB4, c0, c1, c2, c3, he, hI4⟩; subst he; obtain ⟨k6, n6, s6, xa6, l6, cap6, e0, e1, e2, e3⟩ := IsIn_form hI4; subst e0 e1 e2 e3; have hA4 := HA.out.ext hB4; have HA4 := Lib.hid hA4; have HI4 := Lib.hid hI4; obtain ⟨⟨z0, z1, z2, z3, y0, y1, y2, y3⟩, hz⟩ := hA4.cells hlt; have f0 := hz (j * 4); have f1 := hz (j * 4 + 1); have f2 := hz (j * 4 + 2); have f3 := hz (j * 4 + 3); clear hz hA4 hI4 hB4)
    go_roundw
    case rel =>
      refine ⟨j + 1, by omega, by go_num, ?_⟩
      exact HA4.out.next hlt (IsIn_carry (fun _ _ => rfl) (fun q hq => ⟨by have := HGL.out; have : wr.heap.size ≤ q := hq.1; omega, hq.2⟩) _ _ _ _ _ HI4.out)
    case measure => simp [intOf]; omega
end Go.Proofs.YtakeopjpmfgngaaGreatDoor
