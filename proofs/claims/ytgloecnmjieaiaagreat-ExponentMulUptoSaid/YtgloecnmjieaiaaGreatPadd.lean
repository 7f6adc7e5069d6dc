/-
  POWERS ADDED to a list in the normal form, pure part; the product of a term on plain data.
-/
import Derived.Test.YtgloecnmjieaiaaGreatPof
namespace Go.Proofs.YtgloecnmjieaiaaGreat
open Go.RowKit

/-- A power added to an ordered list: whether it has been added already is known. -/
def addG (t : Tm) (n : Int) : List Pw → Bool → List Pw
  | [], d => if d = true then [] else [(t, n)]
  | p :: ps, d => if cmpT t p.1 = 0 then (if p.2 + n = 0 then addG t n ps true else (p.1, p.2 + n) :: addG t n ps true)
    else if d = false ∧ cmpT t p.1 < 0 then (t, n) :: (if p.2 = 0 then addG t n ps true else p :: addG t n ps true)
    else if p.2 = 0 then addG t n ps d else p :: addG t n ps d
def addP (l : List Pw) (p : Pw) : List Pw := addG p.1 p.2 l false
theorem addG_true {t : Tm} {n : Int} : ∀ {l : List Pw}, NormP l → (∀ p ∈ l, cmpT t p.1 < 0) → addG t n l true = l
  | [], _, _ => rfl
  | p :: ps, h, ht => by
    have h1 := ht p (List.mem_cons_self ..)
    have h2 := h.2 p (List.mem_cons_self ..)
    rw [addG, if_neg (by omega), if_neg (by simp), if_neg h2, addG_true ⟨(List.pairwise_cons.1 h.1).2, fun q hq => h.2 q (List.mem_cons_of_mem _ hq)⟩ (fun q hq => ht q (List.mem_cons_of_mem _ hq))]
theorem addG_norm {t : Tm} {n : Int} (hn : ¬ n = 0) : ∀ {l : List Pw}, NormP l → NormP (addG t n l false) ∧ (∀ q ∈ addG t n l false, q.1 = t ∨ ∃ p ∈ l, q.1 = p.1) ∧ ∀ u, pwr (addG t n l false) u = pwr l u + (if cmpT t u = 0 then n else 0)
  | [], _ => by
    have e : addG t n [] false = [(t, n)] := by rw [addG, if_neg (by simp)]
    rw [e]
    exact ⟨⟨List.pairwise_singleton _ _, fun p hp => by simp only [List.mem_cons, List.not_mem_nil, or_false] at hp; rw [hp]; exact hn⟩, fun q hq => by simp only [List.mem_cons, List.not_mem_nil, or_false] at hq; rw [hq]; exact Or.inl rfl, fun u => by simp [pwr]⟩
  | p :: ps, h => by
    obtain ⟨p1, p2⟩ := List.pairwise_cons.1 h.1
    have hp0 := h.2 p (List.mem_cons_self ..)
    have hps : NormP ps := ⟨p2, fun q hq => h.2 q (List.mem_cons_of_mem _ hq)⟩
    rw [addG]
    by_cases hc : cmpT t p.1 = 0
    · have e := cmpT_zero _ _ hc
      have et : addG t n ps true = ps := addG_true hps (fun q hq => by rw [e]; exact p1 q hq)
      rw [if_pos hc, et]
      by_cases h0 : p.2 + n = 0
      · rw [if_pos h0]
        refine ⟨hps, fun q hq => Or.inr ⟨q, List.mem_cons_of_mem _ hq, rfl⟩, fun u => ?_⟩
        rw [pwr, e]
        split <;> omega
      · rw [if_neg h0]
        refine ⟨⟨List.pairwise_cons.2 ⟨p1, p2⟩, fun q hq => ?_⟩, fun q hq => ?_, fun u => ?_⟩
        · rcases List.mem_cons.1 hq with rfl | hq
          · exact h0
          · exact hps.2 q hq
        · rcases List.mem_cons.1 hq with rfl | hq
          · exact Or.inl e.symm
          · exact Or.inr ⟨q, List.mem_cons_of_mem _ hq, rfl⟩
        · rw [pwr, pwr, e]
          simp only
          split <;> omega
    · rw [if_neg hc]
      by_cases hl : cmpT t p.1 < 0
      · have et : addG t n ps true = ps := addG_true hps (fun q hq => cmpT_trans hl (p1 q hq))
        rw [if_pos ⟨rfl, hl⟩, if_neg hp0, et]
        refine ⟨⟨List.pairwise_cons.2 ⟨fun q hq => ?_, h.1⟩, fun q hq => ?_⟩, fun q hq => ?_, fun u => ?_⟩
        · rcases List.mem_cons.1 hq with rfl | hq
          · exact hl
          · exact cmpT_trans hl (p1 q hq)
        · rcases List.mem_cons.1 hq with rfl | hq
          · exact hn
          · exact h.2 q hq
        · rcases List.mem_cons.1 hq with rfl | hq
          · exact Or.inl rfl
          · exact Or.inr ⟨q, hq, rfl⟩
        · rw [pwr]
          simp only
          omega
      · obtain ⟨i1, i2, i3⟩ := addG_norm (t := t) hn hps
        rw [if_neg (fun x => hl x.2), if_neg hp0]
        have hgt : cmpT p.1 t < 0 := by have := cmpT_anti t p.1; omega
        refine ⟨⟨List.pairwise_cons.2 ⟨fun q hq => ?_, i1.1⟩, fun q hq => ?_⟩, fun q hq => ?_, fun u => ?_⟩
        · rcases i2 q hq with e | ⟨r, hr, e⟩
          · rw [e]; exact hgt
          · rw [e]; exact p1 r hr
        · rcases List.mem_cons.1 hq with rfl | hq
          · exact hp0
          · exact i1.2 q hq
        · rcases List.mem_cons.1 hq with rfl | hq
          · exact Or.inr ⟨_, List.mem_cons_self .., rfl⟩
          · rcases i2 q hq with e | ⟨r, hr, e⟩
            · exact Or.inl e
            · exact Or.inr ⟨r, List.mem_cons_of_mem _ hr, e⟩
        · rw [pwr, pwr, i3 u]; omega
/-- Powers added one after the other. -/
def addsP (l ps : List Pw) : List Pw := ps.foldl addP l
theorem addsP_app (l ps qs : List Pw) : addsP l (ps ++ qs) = addsP (addsP l ps) qs := List.foldl_append ..
theorem addsP_norm : ∀ (ps : List Pw) {l : List Pw}, NormP l → (∀ p ∈ ps, ¬ p.2 = 0) → NormP (addsP l ps) ∧ (∀ q ∈ addsP l ps, (∃ p ∈ ps, q.1 = p.1) ∨ ∃ p ∈ l, q.1 = p.1) ∧ ∀ u, pwr (addsP l ps) u = pwr l u + pwr ps u
  | [], l, h, _ => ⟨h, fun q hq => Or.inr ⟨q, hq, rfl⟩, fun u => by simp [addsP, pwr]⟩
  | p :: ps, l, h, hz => by
    obtain ⟨a1, a2, a3⟩ := addG_norm (t := p.1) (hz p (List.mem_cons_self ..)) h
    obtain ⟨b1, b2, b3⟩ := addsP_norm ps (l := addP l p) a1 (fun q hq => hz q (List.mem_cons_of_mem _ hq))
    refine ⟨b1, fun q hq => ?_, fun u => ?_⟩
    · rcases b2 q hq with ⟨r, hr, e⟩ | ⟨r, hr, e⟩
      · exact Or.inl ⟨r, List.mem_cons_of_mem _ hr, e⟩
      · rcases a2 r hr with e2 | ⟨x, hx, e2⟩
        · exact Or.inl ⟨p, List.mem_cons_self .., e.trans e2⟩
        · exact Or.inr ⟨x, hx, e.trans e2⟩
    · have := b3 u
      rw [show addsP l (p :: ps) = addsP (addP l p) ps from rfl, this, show pwr (addP l p) u = pwr l u + (if cmpT p.1 u = 0 then p.2 else 0) from a3 u, pwr]
      omega
theorem normP_nil : NormP [] := ⟨List.Pairwise.nil, fun p hp => by simp at hp⟩
/-- The product of a term, and the error. -/
def ofP (t : Tm) : List Pw × Int := if validE t = 0 then (if arityT t = true then (if 200 < (addsP [] (occT t 1)).length then ([], 3) else (addsP [] (occT t 1), 0)) else ([], 6)) else ([], validE t)
theorem gath_adds {ps qs : List Pw} (hz : ∀ p ∈ ps, ¬ p.2 = 0) (h : NormP qs) (he : ∀ t, pwr qs t = pwr ps t) : qs = addsP [] ps := by
  obtain ⟨a, _, b⟩ := addsP_norm ps normP_nil hz
  exact norm_ext h a fun t => by rw [he, b, pwr]; omega
/-- A list of powers and an error. -/
def PePost (w : World) (r : List Pw × Int) (e : Ending) (w' : World) : Prop :=
  ∃ xa c, e = .returned (.tuple #[.slice xa r.1.length c, .int .i64 r.2]) ∧ r.1.length ≤ c ∧ PRow w' r.1 xa ∧ Below w.heap.size w w'
theorem PePost_err {w W : World} {r : List Pw × Int} {x : Int} (h : r = ([], x)) (hB : Below w.heap.size w W) : PePost w r (.returned (.tuple #[.slice none 0 0, .int .i64 x])) W := by
  rw [h]; exact ⟨none, 0, rfl, Nat.le_refl _, Or.inl rfl, hB⟩
theorem pwr_i64 {qs ps : List Pw} (h : NormP qs) (he : ∀ t, pwr qs t = pwr ps t) (ha : absS ps ≤ 4611686018427387904) : ∀ q ∈ qs, i64ok q.2 := fun q hq => by
  have h1 := norm_get h hq
  have h2 := pwr_abs ps q.1
  rw [he] at h1
  unfold i64ok; omega
set_option maxHeartbeats 6400000 in
set_option maxRecDepth 100000 in
theorem Of_any (t : Tm) (c0 c1 c2 c3 : Value) (w : World) (hM : size t ≤ 1048570) (hI : Is w t c0 c1 c2 c3) :
    Calls Tryz.prog 12 #[.agg #[c0, c1, c2, c3]] w (PePost w (ofP t)) := by
  obtain ⟨k, n, s, xa, l, cap, rfl, rfl, rfl, rfl⟩ := Is_form hI
  have hb1 := heap_alloc_new w (.cells #[.int .i64 k, .string n, .int .i64 s, .slice xa l cap] 24)
  have hBw : Below w.heap.size w (w.alloc (.cells #[.int .i64 k, .string n, .int .i64 s, .slice xa l cap] 24)) := (Below.refl _ _).alloc (Nat.le_refl _) _
  have HV := Lib.hid (fun W (x : Ext w W) => tValid_any t _ _ _ _ W (by omega) (Is_below (w' := W) hI x))
  have hLi : LiesIn (fun q => q < w.heap.size + 1) (w.alloc (.cells #[.int .i64 k, .string n, .int .i64 s, .slice xa l cap] 24)) t w.heap.size 0 := by
    obtain ⟨⟨y0, y1, y2, y3⟩, _⟩ := box_facts hb1
    refine ⟨Nat.lt_succ_self _, _, _, _, _, y0, y1, y2, y3, ?_⟩
    exact IsIn_carry (fun b hb => Below.heap_alloc _ _ _ hb) (fun b hb => Nat.lt_succ_of_lt hb) _ _ _ _ _ (Is_IsIn _ _ _ _ _ hI)
  have hZ : (w.alloc (.cells #[.int .i64 k, .string n, .int .i64 s, .slice xa l cap] 24)).heap.size = w.heap.size + 1 := World.size_alloc _ _
  have HOC := Lib.hid (fun W (x : Ext (w.alloc (.cells #[.int .i64 k, .string n, .int .i64 s, .slice xa l cap] 24)) W) => occ_any (w.heap.size + 1) (w.heap.size + 1) (Nat.le_refl _) (size t) t w.heap.size 0 1 [] (.slice none 0 0) W (Nat.le_refl _) (by omega) (by simp only [List.length_nil]; omega) (Or.inl rfl) (by have := x.size; omega) (LiesIn_carry (fun b hb => x.block b (by rw [hZ]; exact hb)) (fun _ h => h) hLi) (OwnP_nil _ _ W))
  have HD : Hid (ofP t = if validE t = 0 then (if arityT t = true then (if 200 < (addsP [] (occT t 1)).length then ([], 3) else (addsP [] (occT t 1), 0)) else ([], 6)) else ([], validE t)) := rfl
  have HB := Lib.hid hBw
  have hbx := box_facts hb1
  have HBX : Hid (∀ W, Ext (w.alloc (.cells #[.int .i64 k, .string n, .int .i64 s, .slice xa l cap] 24)) W → W.cell? ⟨w.heap.size, 0, none⟩ = some (.int .i64 k) ∧ W.cell? ⟨w.heap.size, 1, none⟩ = some (.string n) ∧ W.cell? ⟨w.heap.size, 2, none⟩ = some (.int .i64 s) ∧ W.cell? ⟨w.heap.size, 3, none⟩ = some (.slice xa l cap)) := fun W x => (box_facts ((x.block _ (by rw [hZ]; exact Nat.lt_succ_self _)).trans hb1)).1
  have HON := Lib.hid (occT_one t 1 (Or.inl rfl))
  have HLN := Lib.hid (occT_len t 1)
  have HM := Lib.hid hM
  generalize ofP t = R at HD ⊢
  clear hI hb1 hBw hLi hbx
  have HZ := Lib.hid hZ
  clear hZ
  by_cases hv : validE t = 0
  rotate_left
  · have HE : Hid (R = ([], validE t)) := by show _ = _; rw [HD.out, if_neg hv]
    generalize validE t = E at hv HV HE
    have q1 : (E != 0) = true := by rw [bne_iff_ne]; exact hv
    clear hv
    go_enter Tryz.func12, Tryz.ntmps12
    go_wp2_with (go_at_call 42; refine (HV.out _ HB.out).mono ?_; rintro e w1 ⟨he, hB⟩; subst he; have HB1 := Lib.hid (Ext.trans (a := w) HB.out hB); clear hB)
    exact bodyPost_ret (v := .tuple #[.slice none 0 0, .int .i64 E]) (by simp [results, Tryz.results12, go_sem]) rfl (PePost_err HE.out HB1.out)
  rw [hv] at HV
  have HD2 : Hid (R = if arityT t = true then (if 200 < (addsP [] (occT t 1)).length then ([], 3) else (addsP [] (occT t 1), 0)) else ([], 6)) := by show _ = _; rw [HD.out, if_pos hv]
  have q0 : ((0 : Int) != 0) = false := rfl
  unfold OccPostE at HOC
  clear HD
  cases ha : arityT t with
  | false =>
    have HE : Hid (R = ([], 6)) := by show _ = _; rw [HD2.out, ha]; rfl
    rw [ha] at HOC
    clear ha hv
    go_enter Tryz.func12, Tryz.ntmps12
    go_wp2_with (first
      | (go_at_call 42; refine (HV.out _ HB.out).mono ?_; rintro e w1 ⟨he, hB⟩; subst he; have HX1 : Hid (Ext _ w1) := Lib.hid hB; clear hB)
      | (go_at_call 43; refine (HOC.out _ HX1.out).mono ?_; rintro e w2 ⟨hB, hs, he⟩; simp only [Bool.false_eq_true, if_false] at he; subst he; have HB2 := Lib.hid (show Below w.heap.size w w2 from HB.out.trans ((HX1.out.mono (by rw [HZ.out]; exact Nat.le_succ _)).trans (hB.mono (Nat.le_succ _)))); clear hB hs))
    exact bodyPost_ret (v := .tuple #[.slice none 0 0, .int .i64 6]) (by simp [results, Tryz.results12, go_sem]) rfl (PePost_err HE.out HB2.out)
  | true =>
    rw [ha] at HOC
    have HD3 : Hid (R = if 200 < (addsP [] (occT t 1)).length then ([], 3) else (addsP [] (occT t 1), 0)) := by show _ = _; rw [HD2.out, ha]; rfl
    have HONE : Hid (∀ p ∈ occT t 1, ¬ p.2 = 0) := by show ∀ _, _; intro p hp; rcases (HON.out p hp).1 with e | e <;> rw [e] <;> omega
    have HAB : Hid (absS (occT t 1) ≤ 4611686018427387904) := by show _ ≤ _; rw [abs_ones (fun p hp => (HON.out p hp).1)]; have := HLN.out; have := HM.out; omega
    have HSZ : Hid (SzP 1073741824 (occT t 1)) := fun p hp => by have := (HON.out p hp).2.2.2.1; have := HM.out; omega
    have HLE : Hid ((occT t 1).length < 1073741824) := by show _ < _; have := HLN.out; have := HM.out; omega
    generalize occT t 1 = os at HOC HD3 HONE HAB HSZ HLE
    have HGA : Hid (∀ qs : List Pw, NormP qs → (∀ u, pwr qs u = pwr os u) → qs = addsP [] os ∧ ∀ q ∈ qs, i64ok q.2) := fun qs h1 h2 => ⟨gath_adds HONE.out h1 h2, pwr_i64 h1 h2 HAB.out⟩
    clear ha hv HD2 HON HLN
    go_enter Tryz.func12, Tryz.ntmps12
    go_upto_region 7 with (first
      | (go_at_call 42; refine (HV.out _ HB.out).mono ?_; rintro e w1 ⟨he, hB⟩; subst he; have HX1 : Hid (Ext _ w1) := Lib.hid hB; clear hB)
      | (go_at_call 43; refine (HOC.out _ HX1.out).mono ?_; rintro e w2 ⟨hB, hs, he⟩; simp only [if_true, List.nil_append] at he; obtain ⟨v2, he, hO2⟩ := he; subst he; have HO2 := Lib.hid hO2; have HS2 : Hid (w.heap.size + 1 ≤ w2.heap.size) := (by have h1 := HX1.out.size; have h2 := HZ.out; omega : w.heap.size + 1 ≤ w2.heap.size); have HB2 := Lib.hid (show Below w.heap.size w w2 from HB.out.trans ((HX1.out.mono (by rw [HZ.out]; exact Nat.le_succ _)).trans (hB.mono (Nat.le_succ _)))); clear hB hs hO2))
    have HG := Lib.hid (gathered_any HO2.out (fun b hb => hb) HS2.out HSZ.out HLE.out HAB.out)
    unfold GaPost at HG
    go_upto_region 8 with (go_at_call 44; refine (HG.out).mono ?_; rintro e w3 ⟨qs, xq, cq, he, hr, hc, hle, hnm, hpw, hz, hB, hs⟩; subst he; have HQ := Lib.hid (HGA.out qs hnm hpw); have HR3 := Lib.hid hr; have HZ3 := Lib.hid hz; have HB3 := Lib.hid (HB2.out.trans (hB.mono (Nat.le_succ _))); have HQL : Hid (qs.length < 1073741824) := Lib.hid (Nat.lt_of_le_of_lt hle HLE.out); clear hr hc hle hnm hpw hz hB hs)
    have hqe := HQ.out.1
    have HD4 : Hid (R = if 200 < qs.length then ([], 3) else (qs, 0)) := by show _ = _; rw [HD3.out, ← hqe]
    clear hqe HD3
    by_cases h200 : 200 < qs.length
    · have HE : Hid (R = ([], 3)) := by show _ = _; rw [HD4.out, if_pos h200]
      have q2 : (200 : Int) < (qs.length : Int) := by omega
      clear h200
      go_wp2_with fail
      exact bodyPost_ret (v := .tuple #[.slice none 0 0, .int .i64 3]) (by simp [results, Tryz.results12, go_sem]) rfl (PePost_err HE.out HB3.out)
    · have HE : Hid (R = (qs, 0)) := by show _ = _; rw [HD4.out, if_neg h200]
      have q2 : (qs.length : Int) ≤ 200 := by omega
      have HSC := Lib.hid (scaled_any 1 qs xq cq w3 (by omega) HZ3.out HR3.out)
      rw [scalP_one HQ.out.2] at HSC
      unfold PwPost at HSC
      clear h200
      go_wp2_with (go_at_call 45; refine (HSC.out).mono ?_; rintro e w4 ⟨x4, c4, he, hc, hr, hB⟩; subst he; have HF : Hid (PePost w R (.returned (.tuple #[.slice x4 qs.length c4, .int .i64 0])) w4) := Lib.hid (by rw [HE.out]; exact ⟨x4, c4, rfl, hc, hr, Ext.trans (a := w) HB3.out hB⟩); clear hc hr hB)
      exact bodyPost_ret (v := .tuple #[.slice x4 qs.length c4, .int .i64 0]) (by simp [results, Tryz.results12, go_sem]) rfl HF.out
end Go.Proofs.YtgloecnmjieaiaaGreat
