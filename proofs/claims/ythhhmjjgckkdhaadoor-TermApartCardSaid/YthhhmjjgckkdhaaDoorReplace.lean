/-
  THE WALK OF term.Replace.
-/
import Derived.Test.YthhhmjjgckkdhaaDoorCopyS
import Derived.Test.YthhhmjjgckkdhaaDoorSep
namespace Go.Proofs.YthhhmjjgckkdhaaDoor
open Go.RowKit

def RepPost (w : World) (r : Option Tm) (e : Ending) (w' : World) : Prop :=
  Below w.heap.size w w' ∧ match r with
    | none => e = .returned (.tuple #[.agg #[.int .i64 0, .string ⟨#[]⟩, .int .i64 0, .slice none 0 0], .int .i64 7])
    | some a => ∃ c0 c1 c2 c3, e = .returned (.tuple #[.agg #[c0, c1, c2, c3], .int .i64 0]) ∧ IsIn (fun b => w.heap.size ≤ b ∧ b < w'.heap.size) w' a c0 c1 c2 c3

/-- The node that the second way leads to, behind the copies: it is written, and what the box reads then. -/
theorem replaced {w3 w5 : World} {t u a0 : Tm} {p : List Int} {lo b' o' : Nat} {k s : Int} {n : ByteArray} {xa : Option Addr} {l c : Nat} {d0 d1 d2 d3 : Value} (hlo3 : lo ≤ w3.heap.size)
    (hT : SepT w3 t lo w3.heap.size (.int .i64 k) (.string n) (.int .i64 s) (.slice xa l c)) (hL : Lies (w3.alloc (.cells #[.int .i64 k, .string n, .int .i64 s, .slice xa l c] 24)) a0 b' o')
    (hW : Way (w3.alloc (.cells #[.int .i64 k, .string n, .int .i64 s, .slice xa l c] 24)) t w3.heap.size 0 p b' o')
    (hU : IsIn (fun b => w3.heap.size + 1 ≤ b ∧ b < w5.heap.size) w5 u d0 d1 d2 d3) (hB : Below (w3.heap.size + 1) (w3.alloc (.cells #[.int .i64 k, .string n, .int .i64 s, .slice xa l c] 24)) w5) :
    (∃ z0 z1 z2 z3, w5.cell? ⟨b', o', none⟩ = some z0 ∧ w5.cell? ⟨b', o' + 1, none⟩ = some z1 ∧ w5.cell? ⟨b', o' + 2, none⟩ = some z2 ∧ w5.cell? ⟨b', o' + 3, none⟩ = some z3) ∧ (∀ q, w5.frozen? ⟨b', q, none⟩ = false) ∧ lo ≤ b' ∧
    ∃ a e0 e1 e2 e3, repT t p u = some a ∧ (put4 w5 b' o' d0 d1 d2 d3).cell? ⟨w3.heap.size, 0, none⟩ = some e0 ∧ (put4 w5 b' o' d0 d1 d2 d3).cell? ⟨w3.heap.size, 1, none⟩ = some e1 ∧ (put4 w5 b' o' d0 d1 d2 d3).cell? ⟨w3.heap.size, 2, none⟩ = some e2 ∧ (put4 w5 b' o' d0 d1 d2 d3).cell? ⟨w3.heap.size, 3, none⟩ = some e3 ∧
      IsIn (fun b => lo ≤ b ∧ b < w5.heap.size) (put4 w5 b' o' d0 d1 d2 d3) a e0 e1 e2 e3 := by
  have hE : Below (w3.alloc (.cells #[.int .i64 k, .string n, .int .i64 s, .slice xa l c] 24)).heap.size (w3.alloc (.cells #[.int .i64 k, .string n, .int .i64 s, .slice xa l c] 24)) w5 := by simpa using hB
  obtain ⟨z0, z1, z2, z3, y0, y1, y2, y3, _⟩ := Lies_carry (keep_below hE) hL
  obtain ⟨g0, g1, g2, g3⟩ := box_kept hB
  have hs5 := hB.size
  simp only [World.size_alloc] at hs5
  have hbox : w5.heap[w3.heap.size]? = some (.cells #[.int .i64 k, .string n, .int .i64 s, .slice xa l c] 24 (0, 0)) := by rw [hB.block _ (by omega)]; exact heap_alloc_new w3 _
  have hT5 : SepT w5 t lo w3.heap.size (.int .i64 k) (.string n) (.int .i64 s) (.slice xa l c) := SepT_carry t _ _ _ _ _ _ (fun x _ h2 => by rw [hB.block x (by omega)]; exact Below.heap_alloc w3 _ x h2) hT
  have hW5 := Way_carry (keep_below hE) _ _ _ _ _ _ hW
  have hsnd := way_sound p t w3.heap.size 0 lo w3.heap.size b' o' _ _ _ _ g3 hT5 ⟨_, hbox⟩ hW5
  obtain ⟨a, e0, e1, e2, e3, hr, q0, q1, q2, q3, hA, hpl⟩ := sep_store (S2 := fun b => lo ≤ b ∧ b < w5.heap.size) hU (fun x hx => ⟨by have := hx.1; omega, hx.2⟩) p t w3.heap.size 0 lo w3.heap.size b' o' _ _ _ _ g0 g1 g2 g3 hT5 (by omega) hW5
    (fun x hx => ⟨by have := hx.1; omega, by have := hx.1; omega⟩) (fun x h1 h2 => ⟨h1, by omega⟩)
  refine ⟨⟨z0, z1, z2, z3, y0, y1, y2, y3⟩, fun q => hsnd.free q, ?_, a, e0, e1, e2, e3, hr, q0, q1, q2, q3, hA⟩
  rcases hpl with ⟨h, _⟩ | h
  · omega
  · exact h.1

theorem replaced_box {w w5 : World} {o1 o2 : Obj} (h : Ext (((w.alloc o1).alloc o2).alloc (.cells #[.int .i64 0, .string ⟨#[]⟩, .int .i64 0, .slice none 0 0] 24)) w5) :
    w5.heap[w.heap.size + 1 + 1]? = some (.cells #[.int .i64 0, .string ⟨#[]⟩, .int .i64 0, .slice none 0 0] 24 (0, 0)) := by
  rw [h.block _ (by simp)]
  have := heap_alloc_new ((w.alloc o1).alloc o2) (.cells #[.int .i64 0, .string ⟨#[]⟩, .int .i64 0, .slice none 0 0] 24)
  rw [World.size_alloc, World.size_alloc] at this; exact this

set_option maxHeartbeats 1600000 in
set_option maxRecDepth 100000 in
theorem Replace_any (t u : Tm) (p : List Int) (c0 c1 c2 c3 x0 x1 x2 x3 v : Value) (w : World) (hM : size t ≤ 1073741824) (hM2 : size u ≤ 1073741824) (hI : Is w t c0 c1 c2 c3) (hJ : Is w u x0 x1 x2 x3) (hp : IntsV w v p) :
    Calls Tryd.prog 39 #[.agg #[c0, c1, c2, c3], v, .agg #[x0, x1, x2, x3]] w (RepPost w (repT t p u)) := by
  have hp' := hp
  obtain ⟨xa, cap, hv, _⟩ := hp'
  subst hv
  have hX : Ext w (((w.alloc (.cells #[c0, c1, c2, c3] 24)).alloc (.cells #[x0, x1, x2, x3] 24)).alloc (.cells #[.int .i64 0, .string ⟨#[]⟩, .int .i64 0, .slice none 0 0] 24)) := (((Ext.refl w).alloc _).alloc _).alloc _
  have hL0 : Lies (((w.alloc (.cells #[c0, c1, c2, c3] 24)).alloc (.cells #[x0, x1, x2, x3] 24)).alloc (.cells #[.int .i64 0, .string ⟨#[]⟩, .int .i64 0, .slice none 0 0] 24)) t w.heap.size 0 := Lies_carry (keep_alloc _ _) (Lies_carry (keep_alloc _ _) (Lies_box hI 24))
  have hL1 : Lies (((w.alloc (.cells #[c0, c1, c2, c3] 24)).alloc (.cells #[x0, x1, x2, x3] 24)).alloc (.cells #[.int .i64 0, .string ⟨#[]⟩, .int .i64 0, .slice none 0 0] 24)) u (w.heap.size + 1) 0 := Lies_carry (keep_alloc _ _) (by
    have := Lies_box (Is_alloc hJ (.cells #[c0, c1, c2, c3] 24)) 24
    rw [World.size_alloc] at this; exact this)
  have hIV := IntsV_below hp hX
  have HF := Lib.hid (find_way t p _ _ _ _ hL0 hIV)
  have HX := Lib.hid hX
  cases hr : atT t p with
  | none =>
    rw [hr] at HF
    have hrn := rep_none p t u hr
    clear hp hI hJ hL0 hL1 hX hIV
    go_enter Tryd.func39, Tryd.ntmps39
    go_wp2_with (go_at_call 65; refine (HF.out).mono ?_; rintro e w' ⟨rfl, he⟩; subst he)
    refine bodyPost_ret (v := .tuple #[.agg #[.int .i64 0, .string ⟨#[]⟩, .int .i64 0, .slice none 0 0], .int .i64 7]) (by simp [results, Tryd.results39, go_sem]) rfl ?_
    rw [hrn]
    exact ⟨HX.out, rfl⟩
  | some x =>
    rw [hr] at HF
    have HL0 := Lib.hid hL0
    have HL1 := Lib.hid hL1
    have HIV := Lib.hid hIV
    have HR := Lib.hid hr
    clear hp hI hJ hL0 hL1 hX hIV hr
    have tok1 : True := trivial
    have tok2 : True := trivial
    go_enter Tryd.func39, Tryd.ntmps39
    go_wp2_with (first
      | (go_at_call 65; (first
          | (have _t := tok1; refine (HF.out).mono ?_; rintro e w' ⟨rfl, b1, o1, he, hU, hW⟩; subst he; clear hU hW; clear tok1)
          | (refine (find_way t p w3.heap.size 0 _ _ (Lies_box HTI.out 24) (IntsV_below HIV.out HB3.out)).mono ?_; rw [HR.out]; rintro e w4 ⟨hw4, b', o', he, hU, hW⟩; subst he hw4; have HU := Lib.hid hU; have HW := Lib.hid hW; clear hU hW)))
      | (go_at_call 66; (first
          | (have _t := tok2; refine (copyOf_sep _ t w.heap.size 0 _ (Nat.le_refl _) hM HL0.out).mono ?_; rintro e w3 ⟨d0, d1, d2, d3, he, hT, hB⟩; subst he; obtain ⟨k', n', s', xk, l', c', e0, e1, e2, e3⟩ := SepT_form hT; subst e0 e1 e2 e3; have HT := Lib.hid hT; have HB := Lib.hid hB; have HTI := Lib.hid (IsIn_Is _ _ _ _ _ (SepT_IsIn (S := fun _ => True) t _ _ _ _ _ _ (fun _ _ _ => rfl) (fun _ _ _ => trivial) hT)); have HB3 : Hid (Ext _ (w3.alloc (.cells #[.int .i64 k', .string n', .int .i64 s', .slice xk l' c'] 24))) := Lib.hid (Ext.alloc hB _); clear hT hB tok2)
          | (refine (copyOf_any _ u (w.heap.size + 1) 0 _ (Nat.le_refl _) hM2 (Lies_carry (keep_below HB3.out) HL1.out)).mono ?_; rintro e w5 ⟨f0, f1, f2, f3, he, hJ, hB⟩; subst he; obtain ⟨k2, n2, s2, xk2, l2, c2, e0, e1, e2, e3⟩ := IsIn_form hJ; subst e0 e1 e2 e3; have HB5 := Lib.hid hB; simp only [World.size_alloc] at hJ hB; obtain ⟨⟨z0, z1, z2, z3, y0, y1, y2, y3⟩, hfz, hlo, a, g0, g1, g2, g3, hrep, q0, q1, q2, q3, hA⟩ := replaced (lo := w.heap.size + 3) (by have := HB.out.size; simp at this; omega) (by simpa using HT.out) HU.out HW.out hJ hB; have v0 := hfz o'; have v1 := hfz (o' + 1); have v2 := hfz (o' + 2); have v3 := hfz (o' + 3); have HREP := Lib.hid hrep; have HLO := Lib.hid hlo; obtain ⟨k9, n9, s9, x9, l9, c9, e0, e1, e2, e3⟩ := IsIn_form hA; subst e0 e1 e2 e3; have HA := Lib.hid hA; simp only [put4] at q0 q1 q2 q3; have HBX : Hid (w5.heap[w.heap.size + 1 + 1]? = some (.cells #[.int .i64 0, .string ⟨#[]⟩, .int .i64 0, .slice none 0 0] 24 (0, 0))) := Lib.hid (replaced_box (Ext.trans HB3.out HB5.out)); obtain ⟨⟨m0, m1, m2, m3⟩, mf0, mf1, mf2, mf3⟩ := box_facts (w := w5) (b := w.heap.size + 1 + 1) HBX.out; have nb1 : ¬ b' = w.heap.size + 1 + 1 := (by omega); have nb2 : ¬ w.heap.size + 1 + 1 = b' := (by omega); clear hJ hB hfz hrep hA hlo))))
    refine bodyPost_ret (v := .tuple #[.agg #[.int .i64 k9, .string n9, .int .i64 s9, .slice x9 l9 c9], .int .i64 0]) (by simp [results, Tryd.results39, go_sem, m0, m1, m2, m3]) rfl ?_
    rw [HREP.out]
    have hs5 := (Ext.trans HB3.out HB5.out).size
    have hB5 : Below w.heap.size w w5 := Ext.trans (a := w) HX.out (Ext.trans HB3.out HB5.out)
    have hsz := put4_size (put4 w5 b' o' (.int .i64 k2) (.string n2) (.int .i64 s2) (.slice xk2 l2 c2)) (w.heap.size + 1 + 1) 0 (.int .i64 k9) (.string n9) (.int .i64 s9) (.slice x9 l9 c9)
    have hsz2 := put4_size w5 b' o' (.int .i64 k2) (.string n2) (.int .i64 s2) (.slice xk2 l2 c2)
    have hA := HA.out
    have hlo := HLO.out
    refine ⟨put4_below (w' := put4 w5 b' o' (.int .i64 k2) (.string n2) (.int .i64 s2) (.slice xk2 l2 c2)) (g := w.heap.size + 1 + 1) (o := 0) (put4_below hB5 (by omega)) (by omega), _, _, _, _, rfl, ?_⟩
    refine IsIn_carry (w := put4 w5 b' o' (.int .i64 k2) (.string n2) (.int .i64 s2) (.slice xk2 l2 c2)) (w' := put4 (put4 w5 b' o' (.int .i64 k2) (.string n2) (.int .i64 s2) (.slice xk2 l2 c2)) (w.heap.size + 1 + 1) 0 (.int .i64 k9) (.string n9) (.int .i64 s9) (.slice x9 l9 c9)) (fun b hb => put4_other _ _ _ _ _ _ _ _ (by have := hb.1; omega)) (fun b hb => ⟨by have := hb.1; omega, ?_⟩) _ _ _ _ _ hA
    show b < (put4 (put4 w5 b' o' (.int .i64 k2) (.string n2) (.int .i64 s2) (.slice xk2 l2 c2)) (w.heap.size + 1 + 1) 0 (.int .i64 k9) (.string n9) (.int .i64 s9) (.slice x9 l9 c9)).heap.size
    rw [hsz, hsz2]; exact hb.2

end Go.Proofs.YthhhmjjgckkdhaaDoor
