/-
  A SLICE OF TERMS WHOSE ELEMENTS' OWN ROWS LIE IN KNOWN BLOCKS; a row of terms of the call's own, appended to.
-/
import Derived.Test.YtkfbbkkfagglhaaGreatDoorApp
import Derived.Test.YtkfbbkkfagglhaaGreatDoorExt
import Derived.Test.YtkfbbkkfagglhaaGreatDoorNodes
namespace Go.Proofs.YtkfbbkkfagglhaaGreatDoor
open Go.RowKit

/-- A slice value that reads as these terms; what the terms hold lies in blocks of S. -/
def Elems (S : Nat → Prop) (w : World) (ts : List Tm) (v : Value) : Prop :=
  ∃ xa cap cs, v = .slice xa ts.length cap ∧ ts.length ≤ cap ∧ ts.length ≤ maxLen ∧ KC S w ts cs ∧ (0 < ts.length → ∃ b o, xa = some ⟨b, o, none⟩ ∧ ∀ j u, cs[j]? = some u → w.cell? ⟨b, o + j, none⟩ = some u)

theorem KC_get {S : Nat → Prop} {w : World} : ∀ {ts : List Tm} {cs : List Value} (_ : KC S w ts cs) (j : Nat) (hj : j < ts.length), ∃ c0 c1 c2 c3, cs[j * 4]? = some c0 ∧ cs[j * 4 + 1]? = some c1 ∧ cs[j * 4 + 2]? = some c2 ∧ cs[j * 4 + 3]? = some c3 ∧ IsIn S w ts[j] c0 c1 c2 c3
  | t :: ts, cs, h, j, hj => by
    obtain ⟨c0, c1, c2, c3, r, rfl, hI, hr⟩ := h
    cases j with
    | zero => exact ⟨c0, c1, c2, c3, rfl, rfl, rfl, rfl, hI⟩
    | succ j =>
      obtain ⟨d0, d1, d2, d3, g0, g1, g2, g3, hJ⟩ := KC_get hr j (by simpa using hj)
      refine ⟨d0, d1, d2, d3, ?_, ?_, ?_, ?_, by simpa using hJ⟩
      · rw [show (j + 1) * 4 = j * 4 + 4 by omega]; exact g0
      · rw [show (j + 1) * 4 + 1 = j * 4 + 1 + 4 by omega]; exact g1
      · rw [show (j + 1) * 4 + 2 = j * 4 + 2 + 4 by omega]; exact g2
      · rw [show (j + 1) * 4 + 3 = j * 4 + 3 + 4 by omega]; exact g3
theorem KC_append {S : Nat → Prop} {w : World} : ∀ (ts us : List Tm) (cs ds : List Value), KC S w ts cs → KC S w us ds → KC S w (ts ++ us) (cs ++ ds)
  | [], us, cs, ds, h1, h2 => by subst h1; exact h2
  | t :: ts, us, cs, ds, h1, h2 => by
    obtain ⟨c0, c1, c2, c3, r, rfl, hI, hr⟩ := h1
    exact ⟨c0, c1, c2, c3, r ++ ds, rfl, hI, KC_append ts us r ds hr h2⟩

section
variable {S : Nat → Prop} {w w' : World} {ts : List Tm} {v : Value}

/-- An element, its four cells written out. -/
theorem Elems_get (h : Elems S w ts v) (j : Nat) (hj : j < ts.length) : ∃ b o cap c0 c1 c2 c3, v = .slice (some ⟨b, o, none⟩) ts.length cap ∧ w.cell? ⟨b, o + j * 4, none⟩ = some c0 ∧ w.cell? ⟨b, o + j * 4 + 1, none⟩ = some c1 ∧ w.cell? ⟨b, o + j * 4 + 2, none⟩ = some c2 ∧ w.cell? ⟨b, o + j * 4 + 3, none⟩ = some c3 ∧ IsIn S w ts[j] c0 c1 c2 c3 := by
  obtain ⟨xa, cap, cs, rfl, _, _, hK, hc⟩ := h
  obtain ⟨b, o, rfl, hcc⟩ := hc (by omega)
  clear hc
  obtain ⟨c0, c1, c2, c3, g0, g1, g2, g3, hI⟩ := KC_get hK j hj
  exact ⟨b, o, cap, c0, c1, c2, c3, rfl, hcc _ _ g0, by have := hcc _ _ g1; rw [← Nat.add_assoc] at this; exact this, by have := hcc _ _ g2; rw [← Nat.add_assoc] at this; exact this, by have := hcc _ _ g3; rw [← Nat.add_assoc] at this; exact this, hI⟩
theorem Elems_row (h : Elems S w ts v) : ∃ xa cap, v = .slice xa ts.length cap ∧ ts.length ≤ cap ∧ ts.length ≤ maxLen ∧ Row w ts xa := by
  obtain ⟨xa, cap, cs, rfl, h1, h2, hK, hc⟩ := h
  refine ⟨xa, cap, rfl, h1, h2, ?_⟩
  cases ts with
  | nil => simp [Row]
  | cons t ts =>
    obtain ⟨b, o, rfl, hcc⟩ := hc (by simp)
    have hK' : KC (fun _ => True) w (t :: ts) cs := KC_carry (fun _ _ => rfl) (fun _ _ => trivial) _ _ hK
    have hR : RowIn (fun _ => True) w (t :: ts) (some ⟨b, o, none⟩) := RowIn_of_KC (S := fun _ => True) trivial (t :: ts) cs o hK' hcc
    have : ∀ (us : List Tm) (ya : Option Addr), RowIn (fun _ => True) w us ya → Row w us ya := by
      intro us
      induction us with
      | nil => intro ya _; simp [Row]
      | cons u us ih =>
        intro ya hh
        simp only [RowIn] at hh; simp only [Row]
        obtain ⟨b, o, e, _, ⟨c0, c1, c2, c3, g0, g1, g2, g3, hI⟩, hR⟩ := hh
        exact ⟨b, o, e, ⟨c0, c1, c2, c3, g0, g1, g2, g3, IsIn_Is _ _ _ _ _ hI⟩, ih _ hR⟩
    exact this _ _ hR
theorem Elems_ext (h : Elems S w ts v) (hS : ∀ b, S b → b < w.heap.size) (hB : Below w.heap.size w w') : Elems S w' ts v := by
  obtain ⟨xa, cap, cs, rfl, h1, h2, hK, hc⟩ := h
  refine ⟨xa, cap, cs, rfl, h1, h2, KC_carry (fun b hb => hB.block b (hS b hb)) (fun _ hb => hb) _ _ hK, fun hp => ?_⟩
  obtain ⟨b, o, e, hc⟩ := hc hp
  exact ⟨b, o, e, fun j u hu => keep_below hB _ _ (hc j u hu)⟩
theorem Elems_nil (S : Nat → Prop) (w : World) : Elems S w [] (.slice none 0 0) := ⟨none, 0, [], rfl, Nat.le_refl _, Nat.zero_le _, rfl, fun h => by simp at h⟩

/-- A row of the call's own that holds these terms. -/
def OwnT (H : Nat) (S : Nat → Prop) (w : World) (ts : List Tm) (v : Value) : Prop := ∃ cs, w.ownsRow H 36 4 v ts.length cs ∧ KC S w ts cs

theorem OwnT_elems {H : Nat} (h : OwnT H S w ts v) : Elems S w ts v := by
  obtain ⟨cs, ho, hK⟩ := h
  have ho2 := ho
  rcases ho.2 with ⟨rfl, h0⟩ | ⟨g, cap, cur, rfl, _, _, h1, h2, _⟩
  · have : ts = [] := List.length_eq_zero_iff.1 h0
    subst this; exact Elems_nil S w
  · refine ⟨some ⟨g, 0, none⟩, cap, cs, rfl, h1, by omega, hK, fun _ => ⟨g, 0, rfl, fun j u hu => ?_⟩⟩
    have := ho2.cells (g := g) rfl j u hu
    rw [add_plain] at this; exact this
theorem OwnT_nil (H : Nat) (S : Nat → Prop) (w : World) : OwnT H S w [] (.slice none 0 0) := ⟨[], World.ownsRow_nil w H _ 4, rfl⟩
theorem OwnT_carry {H : Nat} (h : OwnT H S w ts v) (hS : ∀ b, S b → w'.heap[b]? = w.heap[b]?) (hv : ∀ g, v.ownBlock = some g → w'.heap[g]? = w.heap[g]?) : OwnT H S w' ts v := by
  obtain ⟨cs, ho, hK⟩ := h
  exact ⟨cs, own_heap ho hv, KC_carry hS (fun _ hb => hb) _ _ hK⟩
theorem OwnT_ext {H : Nat} (h : OwnT H S w ts v) (hS : ∀ b, S b → b < w.heap.size) (hB : Below w.heap.size w w') : OwnT H S w' ts v := by
  refine OwnT_carry h (fun b hb => hB.block b (hS b hb)) (fun g hg => hB.block g ?_)
  obtain ⟨cs, ho, _⟩ := h
  exact (ho.lt g hg).2
theorem OwnT_form {H : Nat} (h : OwnT H S w ts v) : ∃ xa cap, v = .slice xa ts.length cap := by
  obtain ⟨cs, ho, _⟩ := h; exact own_form ho
theorem OwnT_lt {H : Nat} (h : OwnT H S w ts v) : ∀ g, v.ownBlock = some g → H ≤ g ∧ g < w.heap.size := by
  obtain ⟨cs, ho, _⟩ := h; exact ho.lt
/-- Behind an append: the row holds the new terms too. -/
theorem OwnT_grown {H : Nat} {us : List Tm} {cs ds : List Value} {g cap n : Nat} (hK : KC S w ts cs) (hK2 : KC S w us ds) (hn : n = us.length) (hown : w'.ownsRow H 36 4 (.slice (some ⟨g, 0, none⟩) (ts.length + n) cap) (ts.length + n) (cs ++ ds))
    (hg : w.grownBy w' v.ownBlock) (hS : ∀ b, S b → b < w.heap.size) (hv : ∀ b, S b → v.ownBlock ≠ some b) : OwnT H S w' (ts ++ us) (.slice (some ⟨g, 0, none⟩) (ts.length + n) cap) := by
  subst hn
  refine ⟨cs ++ ds, by rw [List.length_append]; exact hown, KC_carry (fun b hb => hg.block b (hS b hb) (fun e => hv b hb e.symm)) (fun _ hb => hb) _ _ (KC_append _ _ _ _ hK hK2)⟩
theorem KC_one_term {t : Tm} {c0 c1 c2 c3 : Value} (h : IsIn S w t c0 c1 c2 c3) : KC S w [t] [c0, c1, c2, c3] := ⟨c0, c1, c2, c3, [], rfl, h, rfl⟩
end

/-- A new row that holds one term. -/
theorem OwnT_made {S : Nat → Prop} {w : World} {t : Tm} {c0 c1 c2 c3 : Value} (H : Nat) (hH : H ≤ w.heap.size) (hS : ∀ b, S b → b < w.heap.size) (h : IsIn S w t c0 c1 c2 c3) :
    OwnT H S (w.alloc (.cells #[c0, c1, c2, c3] 36)) [t] (.slice (some ⟨w.heap.size, 0, none⟩) 1 1) :=
  ⟨[c0, c1, c2, c3], ⟨rfl, Or.inr ⟨w.heap.size, 1, #[c0, c1, c2, c3], rfl, hH, heap_alloc_new w _, Nat.le_refl _, by simp [maxLen], rfl, rfl⟩⟩,
    KC_carry (fun b hb => Below.heap_alloc w _ b (hS b hb)) (fun _ hb => hb) _ _ (KC_one_term h)⟩

theorem IsIn_below {base : Nat} {w w' : World} {t : Tm} {c0 c1 c2 c3 : Value} (h : IsIn (fun b => b < base) w t c0 c1 c2 c3) (hb : base ≤ w.heap.size) (hB : Below w.heap.size w w') : IsIn (fun b => b < base) w' t c0 c1 c2 c3 :=
  IsIn_carry (fun b (hlt : b < base) => hB.block b (by omega)) (fun _ h => h) _ _ _ _ _ h

end Go.Proofs.YtkfbbkkfagglhaaGreatDoor

/-
  THE WALK OF the reference's All: the subterms in preorder, a row of the call's own.
-/
namespace Go.Proofs.YtkfbbkkfagglhaaGreatDoor
open Go.RowKit

theorem subT_len (t : Tm) : (subT t).length = size t := by
  refine Tm.rec (motive_1 := fun t => (subT t).length = size t) (motive_2 := fun ts => (subL ts).length = sizes ts) ?_ ?_ ?_ t
  · intro k n s ks ih; simp only [subT, size, List.length_cons, ih]; omega
  · rfl
  · intro t ts h1 h2; simp only [subL, sizes, List.length_append, h1, h2]
theorem subL_len : ∀ ts : List Tm, (subL ts).length = sizes ts
  | [] => rfl
  | t :: ts => by simp only [subL, sizes, List.length_append, subT_len, subL_len ts]

/-- A call that returns a slice of terms, and makes only new memory. -/
def TermsPost (base : Nat) (w : World) (ts : List Tm) (e : Ending) (w' : World) : Prop := ∃ v, e = .returned v ∧ Elems (fun b => b < base) w' ts v ∧ Below w.heap.size w w'

def AllRel (base : Nat) (w : World) (B : World) (ts : List Tm) (v : Value) (wr : World) : Prop := OwnT (w.heap.size + 1) (fun b => b < base) wr ts v ∧ Below (w.heap.size + 1) B wr

set_option maxHeartbeats 1600000 in
set_option maxRecDepth 100000 in
theorem rall_any (m : Nat) : ∀ (t : Tm) (c0 c1 c2 c3 : Value) (base : Nat) (w : World), size t ≤ m → m ≤ 1073741824 → base ≤ w.heap.size → IsIn (fun b => b < base) w t c0 c1 c2 c3 →
    Calls Tryz.prog 58 #[.agg #[c0, c1, c2, c3]] w (TermsPost base w (subT t)) := by
  induction m with
  | zero => intro t c0 c1 c2 c3 base w h; have := size_pos t; omega
  | succ m ih =>
    intro t c0 c1 c2 c3 base w hm hM hbw hI
    have HI := Lib.hid hI
    obtain ⟨k, nm, s, ks⟩ := t
    simp only [IsIn] at hI
    obtain ⟨rfl, rfl, rfl, _, _, _, hkl, xa, cap, rfl, hcap, hR⟩ := hI
    have hkl2 := length_le_sizes ks
    have hsk : size (.mk k nm s ks) = 1 + sizes ks := rfl
    rw [hsk] at hm
    have HR := Lib.hid hR
    have HW : Hid (OwnT (w.heap.size + 1) (fun b => b < base) ((w.alloc (.cells #[.int .i64 k, .string nm, .int .i64 s, .slice xa ks.length cap] 36)).alloc (.cells #[.int .i64 k, .string nm, .int .i64 s, .slice xa ks.length cap] 36)) [.mk k nm s ks] (.slice (some ⟨w.heap.size + 1, 0, none⟩) 1 1)) := by
      have h1 := OwnT_made (w := w.alloc (.cells #[.int .i64 k, .string nm, .int .i64 s, .slice xa ks.length cap] 36)) (w.heap.size + 1) (by simp) (fun b hb => by simp; omega) (IsIn_carry (fun b hb => Below.heap_alloc w _ b (by omega)) (fun _ h => h) _ _ _ _ _ HI.out)
      rw [World.size_alloc] at h1
      exact h1
    obtain ⟨i0, hi0, hz0, hz1, hz2⟩ := info_parts info24
    have HI0 := Lib.hid (And.intro hi0 (And.intro hz0 (And.intro hz1 hz2)))
    clear hR hi0 hz0 hz1 hz2 hsk
    go_enter Tryz.func58, Tryz.ntmps58
    go_wp2_with fail
    go_loopw [3, 4] (fun v i wr => ∃ j : Nat, j ≤ ks.length ∧ i = .int .i64 j ∧ AllRel base w (w.alloc (.cells #[.int .i64 k, .string nm, .int .i64 s, .slice xa ks.length cap] 36)) (.mk k nm s ks :: subL (ks.take j)) v wr) (fun _ i _ => ks.length - (intOf i).toNat)
    case atStart => exact ⟨0, Nat.zero_le _, rfl, HW.out, (Below.refl _ _).alloc (by simp) _⟩
    case round =>
      obtain ⟨j, hj, rfl, hO, hB⟩ := hrel
      obtain ⟨_, _, _, g3⟩ := box_kept hB
      have HB := Lib.hid hB
      by_cases hlt : j < ks.length
      rotate_left
      · have hjl : ks.take j = ks := by rw [List.take_of_length_le]; omega
        have HF : Hid (TermsPost base w (subT (.mk k nm s ks)) (.returned u3) wr) := by
          show TermsPost _ _ _ _ _
          rw [hjl] at hO
          exact ⟨u3, rfl, OwnT_elems hO, below_box HB.out⟩
        obtain ⟨xl, lcap, hv⟩ := OwnT_form hO
        subst hv
        clear hjl hO hB
        go_wp2_with fail
        go_ret
        exact HF.out
      have hlen : (.mk k nm s ks :: subL (ks.take j) : List Tm).length = 1 + sizes (ks.take j) := by rw [List.length_cons, subL_len]; omega
      have hsz := sizes_take ks j hlt
      have hle := sizes_take_le ks (j + 1)
      have hO2 : ∃ cs, wr.ownsRow (w.heap.size + 1) 36 4 u3 (1 + sizes (ks.take j)) cs ∧ KC (fun b => b < base) wr (.mk k nm s ks :: subL (ks.take j)) cs := by
        obtain ⟨cs, h1, h2⟩ := hO; rw [hlen] at h1; exact ⟨cs, h1, h2⟩
      obtain ⟨cs, hown, hKC⟩ := hO2
      obtain ⟨xl, lcap, hv⟩ := own_form hown
      subst hv
      have HOW := Lib.hid hown
      have HKC := Lib.hid hKC
      have HLEN := Lib.hid hlen
      have hbr : base ≤ wr.heap.size := by have := (below_box hB).size; omega
      obtain ⟨kb, ko, rfl⟩ := RowIn_at HR.out (by omega)
      obtain ⟨hkb, x0, x1, x2, x3, k0, k1, k2, k3, hKI⟩ := LiesIn_carry (S' := fun b => b < base) (w' := wr) (fun b hb => (below_box hB).block b (by omega)) (fun _ h => h) (RowIn_get HR.out j hlt)
      have HIH := Lib.hid (ih ks[j] x0 x1 x2 x3 base wr (by omega) (by omega) hbr hKI)
      have hsl := subT_len ks[j]
      have hsp := size_pos ks[j]
      have HSL := Lib.hid hsl
      have N1 : 1 + sizes (ks.take j) + size ks[j] ≤ 1073741824 := by omega
      have N2 := Lib.hid hsz
      clear hO hB hlen hsz hle hown hKC hKI ih hsl
      go_wp2_with (first
        | (go_at_call 58; refine (HIH.out).mono ?_; rintro e w2 ⟨v2, he, ⟨ya, ycap, ds, hv2, _, _, hKD, hcd⟩, hB2⟩; subst he hv2; rw [HSL.out] at hcd ⊢; obtain ⟨yb, yo, hya, hcell⟩ := hcd hsp; subst hya; have HD := Lib.hid hKD; have HCD := Lib.hid hcell; have HB2 := Lib.hid hB2; clear hKD hcd hcell hB2)
        | (at_builtin; refine wpList_append_lies _ rfl _ _ _ rfl (w.heap.size + 1) 36 i0 _ 4 56 Tryz.underlying23 HI0.out.1 HI0.out.2.1 HI0.out.2.2.1 HI0.out.2.2.2 rfl (by omega) (.slice xl (1 + sizes (ks.take j)) lcap) (1 + sizes (ks.take j)) cs rfl (own_heap HOW.out (fun q hq => HB2.out.block q (HOW.out.lt q hq).2)) ⟨yb, yo, none⟩ (size ks[j]) ycap ds rfl (by rw [(KC_one _ _ HD.out).1, HSL.out]) (fun q u hu => by rw [add_plain]; exact HCD.out q u hu) (KC_one _ _ HD.out).2 hsp (by unfold maxLen; omega) (by omega) (by have := HB2.out.size; have := HB.out.size; simp at this; omega) w2.heap.size rfl ?_; intro g2 cap3 w3 hown3 hgrow hat hlt3; have HO3 := Lib.hid hown3; have HG3 := Lib.hid hgrow; clear hown3 hgrow hat))
      go_roundw
      case rel =>
        refine ⟨j + 1, by omega, by go_num, ?_, ?_⟩
        · have hO3 := OwnT_grown (S := fun b => b < base) (v := .slice xl (1 + sizes (ks.take j)) lcap) (KC_carry (w' := w2) (fun b (hb : b < base) => HB2.out.block b (by omega)) (fun _ h => h) _ _ HKC.out) HD.out HSL.out.symm (by rw [HLEN.out]; exact HO3.out) HG3.out (fun b (hb : b < base) => by have := HB2.out.size; omega)
            (fun b (hb : b < base) e => by have := (HOW.out.lt b e).1; omega)
          rw [HLEN.out] at hO3
          rw [subL_take ks j hlt]
          exact hO3
        · exact (HB.out.trans (HB2.out.mono (by have := HB.out.size; simpa using this))).grown HG3.out (by have := HB.out.size; have := HB2.out.size; simp at *; omega) (fun q hq => (HOW.out.lt q hq).1)
      case measure => simp [intOf]; omega

end Go.Proofs.YtkfbbkkfagglhaaGreatDoor
