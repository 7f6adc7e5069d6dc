/-
  THE WALK OF the reference's All: the subterms in preorder, a row of the call's own.
-/
import Derived.Test.YthhhmjjgckkdhaaDoorElems
import Derived.Test.YthhhmjjgckkdhaaDoorNodes
namespace Go.Proofs.YthhhmjjgckkdhaaDoor
open Go.RowKit

theorem subT_len (t : Tm) : (subT t).length = size t := by
  refine Tm.rec (motive_1 := fun t => (subT t).length = size t) (motive_2 := fun ts => (subL ts).length = sizes ts) ?_ ?_ ?_ t
  · intro k n s ks ih; simp only [subT, size, List.length_cons, ih]; omega
  · rfl
  · intro t ts h1 h2; simp only [subL, sizes, List.length_append, h1, h2]
theorem subL_len : ∀ ts : List Tm, (subL ts).length = sizes ts
  | [] => rfl
  | t :: ts => by simp only [subL, sizes, List.length_append, subT_len, subL_len ts]

/-- A call that returns a slice of terms, and makes only new memory. -/
def TermsPost (base : Nat) (w : World) (ts : List Tm) (e : Ending) (w' : World) : Prop := ∃ v, e = .returned v ∧ Elems (fun b => b < base) w' ts v ∧ Below w.heap.size w w'

def AllRel (base : Nat) (w : World) (B : World) (ts : List Tm) (v : Value) (wr : World) : Prop := OwnT (w.heap.size + 1) (fun b => b < base) wr ts v ∧ Below (w.heap.size + 1) B wr

set_option maxHeartbeats 1600000 in
set_option maxRecDepth 100000 in
theorem rall_any (m : Nat) : ∀ (t : Tm) (c0 c1 c2 c3 : Value) (base : Nat) (w : World), size t ≤ m → m ≤ 1073741824 → base ≤ w.heap.size → IsIn (fun b => b < base) w t c0 c1 c2 c3 →
    Calls Tryd.prog 36 #[.agg #[c0, c1, c2, c3]] w (TermsPost base w (subT t)) := by
  induction m with
  | zero => intro t c0 c1 c2 c3 base w h; have := size_pos t; omega
  | succ m ih =>
    intro t c0 c1 c2 c3 base w hm hM hbw hI
    have HI := Lib.hid hI
    obtain ⟨k, nm, s, ks⟩ := t
    simp only [IsIn] at hI
    obtain ⟨rfl, rfl, rfl, _, _, _, hkl, xa, cap, rfl, hcap, hR⟩ := hI
    have hkl2 := length_le_sizes ks
    have hsk : size (.mk k nm s ks) = 1 + sizes ks := rfl
    rw [hsk] at hm
    have HR := Lib.hid hR
    have HW : Hid (OwnT (w.heap.size + 1) (fun b => b < base) ((w.alloc (.cells #[.int .i64 k, .string nm, .int .i64 s, .slice xa ks.length cap] 24)).alloc (.cells #[.int .i64 k, .string nm, .int .i64 s, .slice xa ks.length cap] 24)) [.mk k nm s ks] (.slice (some ⟨w.heap.size + 1, 0, none⟩) 1 1)) := by
      have h1 := OwnT_made (w := w.alloc (.cells #[.int .i64 k, .string nm, .int .i64 s, .slice xa ks.length cap] 24)) (w.heap.size + 1) (by simp) (fun b hb => by simp; omega) (IsIn_carry (fun b hb => Below.heap_alloc w _ b (by omega)) (fun _ h => h) _ _ _ _ _ HI.out)
      rw [World.size_alloc] at h1
      exact h1
    obtain ⟨i0, hi0, hz0, hz1, hz2⟩ := info_parts info24
    have HI0 := Lib.hid (And.intro hi0 (And.intro hz0 (And.intro hz1 hz2)))
    clear hR hi0 hz0 hz1 hz2 hsk
    go_enter Tryd.func36, Tryd.ntmps36
    go_wp2_with fail
    go_loopw [3, 4] (fun v i wr => ∃ j : Nat, j ≤ ks.length ∧ i = .int .i64 j ∧ AllRel base w (w.alloc (.cells #[.int .i64 k, .string nm, .int .i64 s, .slice xa ks.length cap] 24)) (.mk k nm s ks :: subL (ks.take j)) v wr) (fun _ i _ => ks.length - (intOf i).toNat)
    case atStart => exact ⟨0, Nat.zero_le _, rfl, HW.out, (Below.refl _ _).alloc (by simp) _⟩
    case round =>
      obtain ⟨j, hj, rfl, hO, hB⟩ := hrel
      obtain ⟨_, _, _, g3⟩ := box_kept hB
      have HB := Lib.hid hB
      by_cases hlt : j < ks.length
      rotate_left
      · have hjl : ks.take j = ks := by rw [List.take_of_length_le]; omega
        have HF : Hid (TermsPost base w (subT (.mk k nm s ks)) (.returned u3) wr) := by
          show TermsPost _ _ _ _ _
          rw [hjl] at hO
          exact ⟨u3, rfl, OwnT_elems hO, below_box HB.out⟩
        obtain ⟨xl, lcap, hv⟩ := OwnT_form hO
        subst hv
        clear hjl hO hB
        go_wp2_with fail
        go_ret
        exact HF.out
      have hlen : (.mk k nm s ks :: subL (ks.take j) : List Tm).length = 1 + sizes (ks.take j) := by rw [List.length_cons, subL_len]; omega
      have hsz := sizes_take ks j hlt
      have hle := sizes_take_le ks (j + 1)
      have hO2 : ∃ cs, wr.ownsRow (w.heap.size + 1) 24 4 u3 (1 + sizes (ks.take j)) cs ∧ KC (fun b => b < base) wr (.mk k nm s ks :: subL (ks.take j)) cs := by
        obtain ⟨cs, h1, h2⟩ := hO; rw [hlen] at h1; exact ⟨cs, h1, h2⟩
      obtain ⟨cs, hown, hKC⟩ := hO2
      obtain ⟨xl, lcap, hv⟩ := own_form hown
      subst hv
      have HOW := Lib.hid hown
      have HKC := Lib.hid hKC
      have HLEN := Lib.hid hlen
      have hbr : base ≤ wr.heap.size := by have := (below_box hB).size; omega
      obtain ⟨kb, ko, rfl⟩ := RowIn_at HR.out (by omega)
      obtain ⟨hkb, x0, x1, x2, x3, k0, k1, k2, k3, hKI⟩ := LiesIn_carry (S' := fun b => b < base) (w' := wr) (fun b hb => (below_box hB).block b (by omega)) (fun _ h => h) (RowIn_get HR.out j hlt)
      have HIH := Lib.hid (ih ks[j] x0 x1 x2 x3 base wr (by omega) (by omega) hbr hKI)
      have hsl := subT_len ks[j]
      have hsp := size_pos ks[j]
      have HSL := Lib.hid hsl
      have N1 : 1 + sizes (ks.take j) + size ks[j] ≤ 1073741824 := by omega
      have N2 := Lib.hid hsz
      clear hO hB hlen hsz hle hown hKC hKI ih hsl
      go_wp2_with (first
        | (go_at_call 36; refine (HIH.out).mono ?_; rintro e w2 ⟨v2, he, ⟨ya, ycap, ds, hv2, _, _, hKD, hcd⟩, hB2⟩; subst he hv2; rw [HSL.out] at hcd ⊢; obtain ⟨yb, yo, hya, hcell⟩ := hcd hsp; subst hya; have HD := Lib.hid hKD; have HCD := Lib.hid hcell; have HB2 := Lib.hid hB2; clear hKD hcd hcell hB2)
        | (at_builtin; refine wpList_append_lies _ rfl _ _ _ rfl (w.heap.size + 1) 24 i0 _ 4 56 Tryd.underlying22 HI0.out.1 HI0.out.2.1 HI0.out.2.2.1 HI0.out.2.2.2 rfl (by omega) (.slice xl (1 + sizes (ks.take j)) lcap) (1 + sizes (ks.take j)) cs rfl (own_heap HOW.out (fun q hq => HB2.out.block q (HOW.out.lt q hq).2)) ⟨yb, yo, none⟩ (size ks[j]) ycap ds rfl (by rw [(KC_one _ _ HD.out).1, HSL.out]) (fun q u hu => by rw [add_plain]; exact HCD.out q u hu) (KC_one _ _ HD.out).2 hsp (by unfold maxLen; omega) (by omega) (by have := HB2.out.size; have := HB.out.size; simp at this; omega) w2.heap.size rfl ?_; intro g2 cap3 w3 hown3 hgrow hat hlt3; have HO3 := Lib.hid hown3; have HG3 := Lib.hid hgrow; clear hown3 hgrow hat))
      go_roundw
      case rel =>
        refine ⟨j + 1, by omega, by go_num, ?_, ?_⟩
        · have hO3 := OwnT_grown (S := fun b => b < base) (v := .slice xl (1 + sizes (ks.take j)) lcap) (KC_carry (w' := w2) (fun b (hb : b < base) => HB2.out.block b (by omega)) (fun _ h => h) _ _ HKC.out) HD.out HSL.out.symm (by rw [HLEN.out]; exact HO3.out) HG3.out (fun b (hb : b < base) => by have := HB2.out.size; omega)
            (fun b (hb : b < base) e => by have := (HOW.out.lt b e).1; omega)
          rw [HLEN.out] at hO3
          rw [subL_take ks j hlt]
          exact hO3
        · exact (HB.out.trans (HB2.out.mono (by have := HB.out.size; simpa using this))).grown HG3.out (by have := HB.out.size; have := HB2.out.size; simp at *; omega) (fun q hq => (HOW.out.lt q hq).1)
      case measure => simp [intOf]; omega

end Go.Proofs.YthhhmjjgckkdhaaDoor
