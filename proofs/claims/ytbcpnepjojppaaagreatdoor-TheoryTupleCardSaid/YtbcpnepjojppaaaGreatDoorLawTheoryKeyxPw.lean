import Derived.BigQuiet
import Derived.Deep.RegionHeld3
import Derived.Test.YtbcpnepjojppaaaGreatDoorLawTheoryKeyxCmp
import Derived.Test.YtbcpnepjojppaaaGreatDoorLawTheoryKeyxNodes
import Derived.Test.YtbcpnepjojppaaaGreatDoorLawTheoryKeyxRef
import Derived.Test.YtbcpnepjojppaaaGreatDoorLawTheoryKeyxRound
namespace Go.Proofs.YtbcpnepjojppaaaGreatDoor
open Go.RowKit
abbrev Pw := Tm × Int
def i64ok (n : Int) : Prop := -9223372036854775808 ≤ n ∧ n ≤ 9223372036854775807
def PRow (w : World) (ps : List Pw) (xa : Option Addr) : Prop := ps = [] ∨ ∃ b o, xa = some ⟨b, o, none⟩ ∧ ∀ k (h : k < ps.length), Lies w ps[k].1 b (o + k * 5) ∧ w.cell? ⟨b, o + k * 5 + 4, none⟩ = some (.int .i64 ps[k].2) ∧ i64ok ps[k].2
theorem PRow_at {w : World} {ps : List Pw} {xa : Option Addr} (h : PRow w ps xa) (hne : 0 < ps.length) : ∃ b o, xa = some ⟨b, o, none⟩ := by
  rcases h with rfl | ⟨b, o, e, _⟩
  · simp at hne
  · exact ⟨b, o, e⟩
theorem PRow_get {w : World} {ps : List Pw} {b o : Nat} (h : PRow w ps (some ⟨b, o, none⟩)) (k : Nat) (hk : k < ps.length) : Lies w ps[k].1 b (o + k * 5) ∧ w.cell? ⟨b, o + k * 5 + 4, none⟩ = some (.int .i64 ps[k].2) ∧ i64ok ps[k].2 := by
  rcases h with rfl | ⟨b', o', e, h⟩
  · simp at hk
  · simp only [Option.some.injEq, Addr.mk.injEq, and_true] at e
    obtain ⟨rfl, rfl⟩ := e
    exact h k hk
theorem PRow_below {w w' : World} {ps : List Pw} {xa : Option Addr} (h : PRow w ps xa) (x : Below w.heap.size w w') : PRow w' ps xa := by
  rcases h with rfl | ⟨b, o, e, h⟩
  · exact Or.inl rfl
  · exact Or.inr ⟨b, o, e, fun k hk => ⟨Lies_below (h k hk).1 x, keep_below x _ _ (h k hk).2.1, (h k hk).2.2⟩⟩
def SzP (n : Nat) (ps : List Pw) : Prop := ∀ p ∈ ps, size p.1 ≤ n
def KP (S : Nat → Prop) (w : World) : List Pw → List Value → Prop
  | [], cs => cs = []
  | p :: ps, cs => ∃ c0 c1 c2 c3 r, cs = c0 :: c1 :: c2 :: c3 :: .int .i64 p.2 :: r ∧ IsIn S w p.1 c0 c1 c2 c3 ∧ i64ok p.2 ∧ KP S w ps r
theorem KP_len {S : Nat → Prop} {w : World} : ∀ {ps : List Pw} {cs : List Value}, KP S w ps cs → cs.length = ps.length * 5
  | [], _, h => by rw [show _ = [] from h]; rfl
  | p :: ps, _, h => by
    obtain ⟨c0, c1, c2, c3, r, rfl, _, _, h2⟩ := h
    have := KP_len h2
    simp only [List.length_cons]; omega
theorem KP_carry {S S' : Nat → Prop} {w w' : World} (hc : ∀ b, S b → w'.heap[b]? = w.heap[b]?) (hS : ∀ b, S b → S' b) : ∀ {ps : List Pw} {cs : List Value}, KP S w ps cs → KP S' w' ps cs
  | [], _, h => h
  | p :: ps, _, h => by
    obtain ⟨c0, c1, c2, c3, r, e, hI, hn, h2⟩ := h
    exact ⟨c0, c1, c2, c3, r, e, IsIn_carry hc hS _ _ _ _ _ hI, hn, KP_carry hc hS h2⟩
theorem KP_app {S : Nat → Prop} {w : World} : ∀ {ps qs : List Pw} {cs ds : List Value}, KP S w ps cs → KP S w qs ds → KP S w (ps ++ qs) (cs ++ ds)
  | [], _, _, _, h, k => by rw [show _ = [] from h]; exact k
  | p :: ps, _, _, _, h, k => by
    obtain ⟨c0, c1, c2, c3, r, rfl, hI, hn, h2⟩ := h
    exact ⟨c0, c1, c2, c3, _, rfl, hI, hn, KP_app h2 k⟩
theorem KP_one {S : Nat → Prop} {w : World} {t : Tm} {n : Int} {c0 c1 c2 c3 : Value} (h : IsIn S w t c0 c1 c2 c3) (hn : i64ok n) : KP S w [(t, n)] [c0, c1, c2, c3, .int .i64 n] := ⟨c0, c1, c2, c3, [], rfl, h, hn, rfl⟩
theorem KP_get {S : Nat → Prop} {w : World} : ∀ {ps : List Pw} {cs : List Value} (_ : KP S w ps cs) (j : Nat) (hj : j < ps.length), ∃ c0 c1 c2 c3, cs[j * 5]? = some c0 ∧ cs[j * 5 + 1]? = some c1 ∧ cs[j * 5 + 2]? = some c2 ∧ cs[j * 5 + 3]? = some c3 ∧ cs[j * 5 + 4]? = some (.int .i64 ps[j].2) ∧ IsIn S w ps[j].1 c0 c1 c2 c3 ∧ i64ok ps[j].2
  | p :: ps, _, h, 0, _ => by
    obtain ⟨c0, c1, c2, c3, r, rfl, hI, hn, _⟩ := h
    exact ⟨c0, c1, c2, c3, rfl, rfl, rfl, rfl, rfl, hI, hn⟩
  | p :: ps, _, h, j + 1, hj => by
    obtain ⟨c0, c1, c2, c3, r, rfl, _, _, h2⟩ := h
    obtain ⟨d0, d1, d2, d3, g0, g1, g2, g3, g4, hI, hn⟩ := KP_get h2 j (by simpa using hj)
    have e : (j + 1) * 5 = j * 5 + 5 := by omega
    refine ⟨d0, d1, d2, d3, ?_, ?_, ?_, ?_, ?_, hI, hn⟩ <;> simp only [e, List.getElem?_cons_succ, List.getElem_cons_succ] <;> assumption
def OwnP (H : Nat) (S : Nat → Prop) (w : World) (ps : List Pw) (v : Value) : Prop := ∃ cs, w.ownsRow H 145 5 v ps.length cs ∧ KP S w ps cs
theorem OwnP_nil (H : Nat) (S : Nat → Prop) (w : World) : OwnP H S w [] (.slice none 0 0) := ⟨[], World.ownsRow_nil w H _ 5, rfl⟩
theorem OwnP_form {H : Nat} {S : Nat → Prop} {w : World} {ps : List Pw} {v : Value} (h : OwnP H S w ps v) : ∃ xa cap, v = .slice xa ps.length cap := by
  obtain ⟨cs, ho, _⟩ := h
  rcases ho.2 with ⟨rfl, e⟩ | ⟨g, cap, _, rfl, _⟩
  · exact ⟨none, 0, by rw [e]⟩
  · exact ⟨_, cap, rfl⟩
theorem OwnP_row {H : Nat} {S : Nat → Prop} {w : World} {ps : List Pw} {xa : Option Addr} {cap : Nat} (h : OwnP H S w ps (.slice xa ps.length cap)) : PRow w ps xa ∧ ps.length ≤ cap := by
  obtain ⟨cs, ho, hK⟩ := h
  have hl := KP_len hK
  rcases id ho.2 with ⟨e, e0⟩ | ⟨g, cap', _, e, _, _, hcap, _⟩
  · simp only [Value.slice.injEq] at e
    have : ps = [] := List.length_eq_zero_iff.1 e0
    subst this; exact ⟨Or.inl rfl, Nat.zero_le _⟩
  · simp only [Value.slice.injEq] at e
    obtain ⟨rfl, _, rfl⟩ := e
    refine ⟨Or.inr ⟨g, 0, rfl, fun k hk => ?_⟩, hcap⟩
    obtain ⟨c0, c1, c2, c3, g0, g1, g2, g3, g4, hI, hn⟩ := KP_get hK k hk
    refine ⟨⟨c0, c1, c2, c3, ?_, ?_, ?_, ?_, IsIn_Is _ _ _ _ _ hI⟩, ?_, hn⟩
    · rw [ho.cellAt _ (by omega), Nat.zero_add]; exact g0
    · rw [ho.cellAt _ (by omega), Nat.zero_add]; exact g1
    · rw [ho.cellAt _ (by omega), Nat.zero_add]; exact g2
    · rw [ho.cellAt _ (by omega), Nat.zero_add]; exact g3
    · rw [ho.cellAt _ (by omega), Nat.zero_add]; exact g4
def nMul : ByteArray := ⟨#[109, 117, 108]⟩
def nInv : ByteArray := ⟨#[105, 110, 118]⟩
def nOne : ByteArray := ⟨#[111, 110, 101]⟩
def expo (t : Tm) : Bool := decide (t.kind = 3) && (t.name.toList == [109, 117, 108] || t.name.toList == [105, 110, 118] || t.name.toList == [111, 110, 101])
def pwE (lim : Int) (p : Pw) : Int := if validE p.1 = 0 then (if expo p.1 = true then 1 else if p.2 = 0 ∨ p.2 < -lim ∨ lim < p.2 then 7 else 0) else validE p.1
def ploop (lim : Int) : Option Tm → List Pw → Int
  | _, [] => 0
  | p, x :: xs => if pwE lim x = 0 then (match p with
      | some q => if 0 ≤ cmpT q x.1 then 5 else ploop lim (some x.1) xs
      | none => ploop lim (some x.1) xs) else pwE lim x
def powE (lim : Int) (ps : List Pw) : Int := if 200 < ps.length then 3 else ploop lim none ps
def prevP (ps : List Pw) : Nat → Option Tm
  | 0 => none
  | i + 1 => (ps[i]?).map (·.1)
theorem prevP_succ {ps : List Pw} {i : Nat} (h : i < ps.length) : prevP ps (i + 1) = some ps[i].1 := by simp [prevP, h]
theorem ploop_cons (lim : Int) (p : Option Tm) (x : Pw) (xs : List Pw) : ploop lim p (x :: xs) = if pwE lim x = 0 then (match p with
      | some q => if 0 ≤ cmpT q x.1 then 5 else ploop lim (some x.1) xs
      | none => ploop lim (some x.1) xs) else pwE lim x := by cases p <;> rfl
theorem ploop_bad {lim : Int} {ps : List Pw} {i : Nat} (h : i < ps.length) (he : ¬ pwE lim ps[i] = 0) : ploop lim (prevP ps i) (ps.drop i) = pwE lim ps[i] := by
  rw [List.drop_eq_getElem_cons h, ploop_cons, if_neg he]
theorem ploop_first {lim : Int} {ps : List Pw} (h : 0 < ps.length) (he : pwE lim ps[0] = 0) : ploop lim (prevP ps 0) (ps.drop 0) = ploop lim (prevP ps 1) (ps.drop 1) := by
  rw [List.drop_eq_getElem_cons h, ploop_cons, if_pos he, prevP_succ h]
  rfl
theorem ploop_next {lim : Int} {ps : List Pw} {j : Nat} (h : j + 1 < ps.length) (he : pwE lim ps[j + 1] = 0) : ploop lim (prevP ps (j + 1)) (ps.drop (j + 1)) = if 0 ≤ cmpT ps[j].1 ps[j + 1].1 then 5 else ploop lim (prevP ps (j + 2)) (ps.drop (j + 2)) := by
  rw [List.drop_eq_getElem_cons h, ploop_cons, if_pos he, prevP_succ (i := j) (by omega), prevP_succ h]
def AscP (ps : List Pw) : Prop := ps.Pairwise (fun a b => cmpT a.1 b.1 < 0)
theorem ploop_ok {lim : Int} : ∀ {ps : List Pw} {p : Option Tm}, ploop lim p ps = 0 → (∀ x ∈ ps, pwE lim x = 0) ∧ AscP ps ∧ ∀ q, p = some q → ∀ x ∈ ps, cmpT q x.1 < 0
  | [], p, _ => ⟨fun b hb => by simp at hb, List.Pairwise.nil, fun q _ b hb => by simp at hb⟩
  | x :: xs, p, h => by
    rw [ploop_cons] at h
    by_cases he : pwE lim x = 0
    rotate_left
    · rw [if_neg he] at h; exact absurd h he
    rw [if_pos he] at h
    have key : ploop lim (some x.1) xs = 0 ∧ ∀ q, p = some q → cmpT q x.1 < 0 := by
      cases p with
      | none => exact ⟨h, fun q hq => by simp at hq⟩
      | some q =>
        simp only at h
        by_cases hc : 0 ≤ cmpT q x.1
        · rw [if_pos hc] at h; omega
        · rw [if_neg hc] at h
          exact ⟨h, fun q' hq => by simp only [Option.some.injEq] at hq; subst hq; omega⟩
    obtain ⟨h1, h2, h3⟩ := ploop_ok key.1
    refine ⟨fun y hy => ?_, List.pairwise_cons.2 ⟨fun y hy => h3 x.1 rfl y hy, h2⟩, fun q hq y hy => ?_⟩
    · rcases List.mem_cons.1 hy with rfl | hy
      · exact he
      · exact h1 y hy
    · have h5 := key.2 q hq
      rcases List.mem_cons.1 hy with rfl | hy
      · exact h5
      · exact cmpT_trans h5 (h3 x.1 rfl y hy)
theorem ploop_mk {lim : Int} : ∀ {ps : List Pw} {p : Option Tm}, (∀ x ∈ ps, pwE lim x = 0) → AscP ps → (∀ q, p = some q → ∀ x ∈ ps, cmpT q x.1 < 0) → ploop lim p ps = 0
  | [], p, _, _, _ => by cases p <;> rfl
  | x :: xs, p, h1, h2, h3 => by
    have ih := ploop_mk (p := some x.1) (fun c hc => h1 c (List.mem_cons_of_mem _ hc)) (List.pairwise_cons.1 h2).2 (fun q hq c hc => by simp only [Option.some.injEq] at hq; subst hq; exact (List.pairwise_cons.1 h2).1 c hc)
    rw [ploop_cons, if_pos (h1 x (List.mem_cons_self ..))]
    cases p with
    | none => exact ih
    | some q =>
      simp only
      have := h3 q rfl x (List.mem_cons_self ..)
      rw [if_neg (by omega)]; exact ih
theorem powE_ok {lim : Int} {ps : List Pw} (h : powE lim ps = 0) : ps.length ≤ 200 ∧ (∀ x ∈ ps, pwE lim x = 0) ∧ AscP ps := by
  unfold powE at h
  by_cases hl : 200 < ps.length
  · rw [if_pos hl] at h; omega
  · rw [if_neg hl] at h
    have := ploop_ok h
    exact ⟨by omega, this.1, this.2.1⟩
theorem powE_mk {lim : Int} {ps : List Pw} (h0 : ps.length ≤ 200) (h1 : ∀ x ∈ ps, pwE lim x = 0) (h2 : AscP ps) : powE lim ps = 0 := by
  unfold powE
  rw [if_neg (by omega)]
  exact ploop_mk h1 h2 (fun q hq => by simp at hq)
theorem pwE_ok {lim : Int} {p : Pw} (h : pwE lim p = 0) : validE p.1 = 0 ∧ expo p.1 = false ∧ ¬ p.2 = 0 ∧ -lim ≤ p.2 ∧ p.2 ≤ lim := by
  unfold pwE at h
  by_cases h0 : validE p.1 = 0
  · rw [if_pos h0] at h
    by_cases h1 : expo p.1 = true
    · rw [if_pos h1] at h; omega
    · rw [if_neg h1] at h
      by_cases h2 : p.2 = 0 ∨ p.2 < -lim ∨ lim < p.2
      · rw [if_pos h2] at h; omega
      · exact ⟨h0, by simpa using h1, by omega, by omega, by omega⟩
  · rw [if_neg h0] at h; exact absurd h h0
theorem pwE_mk {lim : Int} {p : Pw} (h0 : validE p.1 = 0) (h1 : expo p.1 = false) (h2 : ¬ p.2 = 0) (h3 : -lim ≤ p.2) (h4 : p.2 ≤ lim) : pwE lim p = 0 := by
  unfold pwE
  rw [if_pos h0, if_neg (by rw [h1]; simp), if_neg (by omega)]
end Go.Proofs.YtbcpnepjojppaaaGreatDoor
namespace Go.Proofs.YtbcpnepjojppaaaGreatDoor
open Go.RowKit
set_option maxHeartbeats 400000 in
theorem cmp_grE (t u : Tm) (c0 c1 c2 c3 d0 d1 d2 d3 : Value) (w : World) (ht : size t ≤ 4611686018427387904) (hu : size u ≤ 4611686018427387904) (hI : Is w t c0 c1 c2 c3) (hJ : Is w u d0 d1 d2 d3) :
    Calls Tryz.prog 88 #[.agg #[c0, c1, c2, c3], .agg #[d0, d1, d2, d3]] w fun e w' => e = .returned (.int .i64 (cmpT t u)) ∧ Gr w w' := by
  have h1 : Lies ((w.alloc (.cells #[c0, c1, c2, c3] 24)).alloc (.cells #[d0, d1, d2, d3] 24)) t w.heap.size 0 := Lies_carry (keep_alloc _ _) (Lies_box hI 24)
  have h2 : Lies ((w.alloc (.cells #[c0, c1, c2, c3] 24)).alloc (.cells #[d0, d1, d2, d3] 24)) u (w.heap.size + 1) 0 := by have := Lies_box (Is_alloc hJ (.cells #[c0, c1, c2, c3] 24)) 24; simpa using this
  go_enter Tryz.func88, Tryz.ntmps88
  go_wp2_with (go_at_call 114; refine (compare_any _ t u _ _ _ _ _ (Nat.le_refl _) ht hu h1 h2).mono ?_; rintro e w' ⟨rfl, hB⟩)
  go_ret
  exact ⟨rfl, (((Gr.refl w).alloc _).alloc _).trans hB⟩
theorem expo_mk (k : Int) (n : ByteArray) (s : Int) (ks : List Tm) : expo (.mk k n s ks) = (decide (k = 3) && (n.toList == [109, 117, 108] || n.toList == [105, 110, 118] || n.toList == [111, 110, 101])) := rfl
set_option maxHeartbeats 800000 in
set_option maxRecDepth 100000 in
theorem isexp_any (t : Tm) (b o : Nat) (w : World) (hL : Lies w t b o) :
    Calls Tryz.prog 179 #[.pointer (some ⟨b, o, none⟩)] w fun e w' => e = .returned (.bool (expo t)) ∧ w' = w := by
  obtain ⟨k, n, s, ks⟩ := t
  obtain ⟨g0, g1, _⟩ := Lies_mk hL
  clear hL
  obtain ⟨R, hR⟩ : ∃ R, expo (.mk k n s ks) = R := ⟨_, rfl⟩
  rw [hR]
  rw [expo_mk] at hR
  have HR := Lib.hid hR
  clear hR
  by_cases hk : k = 3
  rotate_left
  · have q0 : (k == 3) = false := by simp [hk]
    have H : Hid (R = false) := by show _ = _; rw [← HR.out, decide_eq_false hk]; rfl
    clear hk
    go_enter Tryz.func179, Tryz.ntmps179
    go_wp2_with fail
    go_ret
    exact ⟨by rw [H.out]; rfl, rfl⟩
  have q0 : (k == 3) = true := by simp [hk]
  have HR2 : Hid ((n.toList == [109, 117, 108] || n.toList == [105, 110, 118] || n.toList == [111, 110, 101]) = R) := by show _ = _; rw [← HR.out, decide_eq_true hk]; rfl
  clear hk HR
  cases q1 : (n.toList == [109, 117, 108])
  rotate_left
  · have H : Hid (R = true) := by show _ = _; rw [← HR2.out, q1]; rfl
    go_enter Tryz.func179, Tryz.ntmps179
    go_wp2_with fail
    go_ret
    exact ⟨by rw [H.out]; rfl, rfl⟩
  cases q2 : (n.toList == [105, 110, 118])
  rotate_left
  · have H : Hid (R = true) := by show _ = _; rw [← HR2.out, q1, q2]; rfl
    go_enter Tryz.func179, Tryz.ntmps179
    go_wp2_with fail
    go_ret
    exact ⟨by rw [H.out]; rfl, rfl⟩
  cases q3 : (n.toList == [111, 110, 101])
  · have H : Hid (R = false) := by show _ = _; rw [← HR2.out, q1, q2, q3]; rfl
    go_enter Tryz.func179, Tryz.ntmps179
    go_wp2_with fail
    go_ret
    exact ⟨by rw [H.out]; rfl, rfl⟩
  · have H : Hid (R = true) := by show _ = _; rw [← HR2.out, q1, q2, q3]; rfl
    go_enter Tryz.func179, Tryz.ntmps179
    go_wp2_with fail
    go_ret
    exact ⟨by rw [H.out]; rfl, rfl⟩
set_option maxHeartbeats 800000 in
theorem beyond_any (n lim : Int) (w : World) (h0 : 0 ≤ lim) (h1 : lim ≤ 4611686018427387904) :
    Calls Tryz.prog 206 #[.int .i64 n, .int .i64 lim] w fun e w' => e = .returned (.bool (decide (n < -lim) || decide (lim < n))) ∧ w' = w := by
  have hw : IntKind.i64.wrap (-lim) = -lim := IntWalk.i64_in _ (by omega)
  by_cases ha : n < -lim
  · have q : decide (n < -lim) = true := decide_eq_true ha
    have H : Hid ((decide (n < -lim) || decide (lim < n)) = true) := by show _ = _; rw [q]; rfl
    clear ha
    go_enter Tryz.func206, Tryz.ntmps206
    go_wp2_with fail
    go_ret
    exact ⟨by rw [H.out]; rfl, rfl⟩
  have q : decide (n < -lim) = false := decide_eq_false ha
  by_cases hb : lim < n
  · have q1 : decide (lim < n) = true := decide_eq_true hb
    have H : Hid ((decide (n < -lim) || decide (lim < n)) = true) := by show _ = _; rw [q, q1]; rfl
    clear ha hb
    go_enter Tryz.func206, Tryz.ntmps206
    go_wp2_with fail
    go_ret
    exact ⟨by rw [H.out]; rfl, rfl⟩
  · have q1 : decide (lim < n) = false := decide_eq_false hb
    have H : Hid ((decide (n < -lim) || decide (lim < n)) = false) := by show _ = _; rw [q, q1]; rfl
    clear ha hb
    go_enter Tryz.func206, Tryz.ntmps206
    go_wp2_with fail
    go_ret
    exact ⟨by rw [H.out]; rfl, rfl⟩
set_option maxHeartbeats 800000 in
set_option maxRecDepth 100000 in
theorem cfac_gr (v u : Tm) (k s : Int) (n : ByteArray) (xa : Option Addr) (l c : Nat) (N : Int) (k3 s3 : Int) (n3 : ByteArray) (xa3 : Option Addr) (l3 c3 : Nat) (M : Int) (w : World) (hv : size v ≤ 1073741824) (hu : size u ≤ 1073741824) (hI : Is w v (.int .i64 k) (.string n) (.int .i64 s) (.slice xa l c)) (hJ : Is w u (.int .i64 k3) (.string n3) (.int .i64 s3) (.slice xa3 l3 c3)) :
    Calls Tryz.prog 182 #[.agg #[.int .i64 k, .string n, .int .i64 s, .slice xa l c, .int .i64 N], .agg #[.int .i64 k3, .string n3, .int .i64 s3, .slice xa3 l3 c3, .int .i64 M]] w fun e w' => e = .returned (.int .i64 (cmpT v u)) ∧ Gr w w' := by
  have hG : Gr w ((w.alloc (.cells #[.int .i64 k, .string n, .int .i64 s, .slice xa l c, .int .i64 N] 145)).alloc (.cells #[.int .i64 k3, .string n3, .int .i64 s3, .slice xa3 l3 c3, .int .i64 M] 145)) := ((Gr.refl w).alloc _).alloc _
  have HC := Lib.hid (cmp_grE v u _ _ _ _ _ _ _ _ _ (by omega) (by omega) (Is_below hI hG.below) (Is_below hJ hG.below))
  have HG := Lib.hid hG
  generalize cmpT v u = r at HC ⊢
  clear hG hI hJ hv hu
  go_enter Tryz.func182, Tryz.ntmps182
  go_wp2_with (go_at_call 88; refine (HC.out).mono ?_; rintro e w3 ⟨he, hB⟩; subst he; have HB : Hid (Gr w w3) := Lib.hid (Gr.trans HG.out hB); clear hB)
  go_ret
  exact ⟨rfl, HB.out⟩
theorem cfac_any (v u : Tm) (k s : Int) (n : ByteArray) (xa : Option Addr) (l c : Nat) (N : Int) (k3 s3 : Int) (n3 : ByteArray) (xa3 : Option Addr) (l3 c3 : Nat) (M : Int) (w : World) (hv : size v ≤ 1073741824) (hu : size u ≤ 1073741824) (hI : Is w v (.int .i64 k) (.string n) (.int .i64 s) (.slice xa l c)) (hJ : Is w u (.int .i64 k3) (.string n3) (.int .i64 s3) (.slice xa3 l3 c3)) :
    Calls Tryz.prog 182 #[.agg #[.int .i64 k, .string n, .int .i64 s, .slice xa l c, .int .i64 N], .agg #[.int .i64 k3, .string n3, .int .i64 s3, .slice xa3 l3 c3, .int .i64 M]] w fun e w' => e = .returned (.int .i64 (cmpT v u)) ∧ Below w.heap.size w w' :=
  (cfac_gr v u k s n xa l c N k3 s3 n3 xa3 l3 c3 M w hv hu hI hJ).mono fun _ _ h => ⟨h.1, h.2.below⟩
set_option maxHeartbeats 6400000 in
set_option maxRecDepth 100000 in
theorem powE_any (lim : Int) (hlim : 0 ≤ lim ∧ lim ≤ 4611686018427387904) (ps : List Pw) (xa : Option Addr) (cap : Nat) (w : World) (hlen : ps.length ≤ maxLen) (hsz : SzP 1073741824 ps) (hR : PRow w ps xa) :
    Calls Tryz.prog 184 #[.slice xa ps.length cap, .int .i64 lim] w fun e w' => e = .returned (.int .i64 (powE lim ps)) ∧ Below w.heap.size w w' := by
  unfold maxLen at hlen
  by_cases h200 : 200 < ps.length
  · have H : Hid (powE lim ps = 3) := by show _ = _; unfold powE; rw [if_pos h200]
    have q : (200 : Int) < (ps.length : Int) := by omega
    clear h200 hR hsz
    go_enter Tryz.func184, Tryz.ntmps184
    go_wp2_with fail
    go_ret
    exact ⟨by rw [H.out]; rfl, Below.refl _ _⟩
  have HVV : Hid (powE lim ps = ploop lim (prevP ps 0) (ps.drop 0)) := by show _ = _; unfold powE; rw [if_neg h200]; rfl
  have q : (ps.length : Int) ≤ 200 := by omega
  have HR := Lib.hid hR
  have HSZ := Lib.hid hsz
  have HBYA := Lib.hid (fun n W => beyond_any n lim W hlim.1 hlim.2)
  clear h200 hR hsz hlim
  go_enter Tryz.func184, Tryz.ntmps184
  go_wp2_with fail
  go_loopw [12] (fun i wr => ∃ j : Nat, j ≤ ps.length ∧ i = .int .i64 j ∧ Hid (powE lim ps = ploop lim (prevP ps j) (ps.drop j)) ∧ Ext w wr) (fun i _ => ps.length - (intOf i).toNat)
  case atStart => exact ⟨0, Nat.zero_le _, rfl, HVV, Ext.refl w⟩
  case round =>
    obtain ⟨i, hi, rfl, HVi, hE⟩ := hrel
    have HE := Lib.hid hE
    by_cases hlt : i < ps.length
    rotate_left
    · have H : Hid (powE lim ps = 0) := by
        show _ = _
        rw [HVi.out, List.drop_eq_nil_of_le (by omega), ploop]
      clear hE
      go_wp2_with fail
      go_ret
      exact ⟨by rw [H.out]; rfl, HE.out⟩
    obtain ⟨b, o, rfl⟩ := PRow_at HR.out (by omega)
    obtain ⟨hLi, hNi, hNo⟩ := PRow_get (PRow_below HR.out hE) i hlt
    have hs1 := HSZ.out _ (List.getElem_mem hlt)
    obtain ⟨c0, c1, c2, c3, e0, e1, e2, e3, hI⟩ := id hLi
    obtain ⟨k, n, s, ya, yl, yc, rfl, rfl, rfl, rfl⟩ := Is_form hI
    have HV := Lib.hid (fun W (x : Ext wr W) => tValid_any ps[i].1 _ _ _ _ W hs1 (Is_below (w' := W) hI x))
    have HX := Lib.hid (fun W (x : Ext wr W) => isexp_any ps[i].1 b (o + i * 5) W (Lies_below (w' := W) hLi x))
    have HBY := Lib.hid (HBYA.out ps[i].2)
    have HCx : Hid (∀ W, Ext wr W → (W.cell? ⟨b, o + i * 5, none⟩ = some (.int .i64 k) ∧ W.cell? ⟨b, o + i * 5 + 1, none⟩ = some (.string n) ∧ W.cell? ⟨b, o + i * 5 + 2, none⟩ = some (.int .i64 s) ∧ W.cell? ⟨b, o + i * 5 + 3, none⟩ = some (.slice ya yl yc)) ∧ W.cell? ⟨b, o + i * 5 + 4, none⟩ = some (.int .i64 ps[i].2)) := fun W x => ⟨⟨keep_below x _ _ e0, keep_below x _ _ e1, keep_below x _ _ e2, keep_below x _ _ e3⟩, keep_below x _ _ hNi⟩
    have hdef : pwE lim ps[i] = if validE ps[i].1 = 0 then (if expo ps[i].1 = true then 1 else if ps[i].2 = 0 ∨ ps[i].2 < -lim ∨ lim < ps[i].2 then 7 else 0) else validE ps[i].1 := rfl
    have hbad := ploop_bad (lim := lim) hlt
    have HI := Lib.hid hI
    obtain ⟨N, hN⟩ : ∃ N, ps[i].2 = N := ⟨_, rfl⟩
    obtain ⟨V, hV⟩ : ∃ V, validE ps[i].1 = V := ⟨_, rfl⟩
    obtain ⟨X, hX⟩ : ∃ X, expo ps[i].1 = X := ⟨_, rfl⟩
    rw [hN] at hNi hNo HCx hdef HBY
    rw [hV] at HV hdef
    rw [hX] at HX hdef
    have i1 : (0 : Int) ≤ (i : Int) := by omega
    have i2 : (i : Int) < (ps.length : Int) := by omega
    unfold i64ok at hNo
    clear hE hLi hI hN hV hX
    by_cases hV0 : V = 0
    rotate_left
    · rw [if_neg hV0] at hdef
      have H : Hid (powE lim ps = V) := by show _ = _; rw [HVi.out, hbad (by rw [hdef]; exact hV0), hdef]
      have q2 : (V != 0) = true := by rw [bne_iff_ne]; exact hV0
      clear hdef hbad hV0
      go_wp2_with (go_at_call 52; refine (HV.out _ (Ext.refl wr)).mono ?_; rintro e w3 ⟨he, hB⟩; subst he; have HE3 : Hid (Ext wr w3) := Lib.hid hB; obtain ⟨⟨f0, f1, f2, f3⟩, f4⟩ := HCx.out _ hB; clear hB)
      go_ret
      exact ⟨by rw [H.out]; rfl, Ext.trans HE.out HE3.out⟩
    subst hV0
    rw [if_pos rfl] at hdef
    have q2 : ((0 : Int) != 0) = false := rfl
    cases X with
    | true =>
      rw [if_pos rfl] at hdef
      have H : Hid (powE lim ps = 1) := by show _ = _; rw [HVi.out, hbad (by rw [hdef]; omega), hdef]
      clear hdef hbad
      go_wp2_with (first
         | (go_at_call 52; refine (HV.out _ (Ext.refl wr)).mono ?_; rintro e w3 ⟨he, hB⟩; subst he; have HE3 : Hid (Ext wr w3) := Lib.hid hB; obtain ⟨⟨f0, f1, f2, f3⟩, f4⟩ := HCx.out _ hB; clear hB)
         | (go_at_call 179; refine (HX.out _ HE3.out).mono ?_; rintro e w4 ⟨he, hw⟩; subst he; subst hw; have HE4 := HE3; have g4 := f4)
         | (go_at_call 206; refine (HBY.out _).mono ?_; rintro e w5 ⟨he, hw⟩; subst he; subst hw))
      go_ret
      exact ⟨by rw [H.out]; rfl, Ext.trans HE.out HE4.out⟩
    | false =>
      rw [if_neg (by simp)] at hdef
      by_cases hN0 : N = 0
      · rw [if_pos (Or.inl hN0)] at hdef
        have H : Hid (powE lim ps = 7) := by show _ = _; rw [HVi.out, hbad (by rw [hdef]; omega), hdef]
        have q3 : (N == 0) = true := by simp [hN0]
        clear hdef hbad hN0
        go_wp2_with (first
           | (go_at_call 52; refine (HV.out _ (Ext.refl wr)).mono ?_; rintro e w3 ⟨he, hB⟩; subst he; have HE3 : Hid (Ext wr w3) := Lib.hid hB; obtain ⟨⟨f0, f1, f2, f3⟩, f4⟩ := HCx.out _ hB; clear hB)
           | (go_at_call 179; refine (HX.out _ HE3.out).mono ?_; rintro e w4 ⟨he, hw⟩; subst he; subst hw; have HE4 := HE3; have g4 := f4)
           | (go_at_call 206; refine (HBY.out _).mono ?_; rintro e w5 ⟨he, hw⟩; subst he; subst hw))
        go_ret
        exact ⟨by rw [H.out]; rfl, Ext.trans HE.out HE4.out⟩
      have q3 : (N == 0) = false := by simp [hN0]

      by_cases hby : N < -lim ∨ lim < N
      · rw [if_pos (Or.inr hby)] at hdef
        have H : Hid (powE lim ps = 7) := by show _ = _; rw [HVi.out, hbad (by rw [hdef]; omega), hdef]
        have hq : (decide (N < -lim) || decide (lim < N)) = true := by simpa using hby
        rw [hq] at HBY
        clear hq hby
        clear hdef hbad hN0
        go_wp2_with (first
           | (go_at_call 52; refine (HV.out _ (Ext.refl wr)).mono ?_; rintro e w3 ⟨he, hB⟩; subst he; have HE3 : Hid (Ext wr w3) := Lib.hid hB; obtain ⟨⟨f0, f1, f2, f3⟩, f4⟩ := HCx.out _ hB; clear hB)
           | (go_at_call 179; refine (HX.out _ HE3.out).mono ?_; rintro e w4 ⟨he, hw⟩; subst he; subst hw; have HE4 := HE3; have g4 := f4)
           | (go_at_call 206; refine (HBY.out _).mono ?_; rintro e w5 ⟨he, hw⟩; subst he; subst hw))
        go_ret
        exact ⟨by rw [H.out]; rfl, Ext.trans HE.out HE4.out⟩
      have hq : (decide (N < -lim) || decide (lim < N)) = false := by simp only [Bool.or_eq_false_iff, decide_eq_false_iff_not]; omega
      rw [hq] at HBY
      rw [if_neg (by omega)] at hdef
      clear hbad hN0 hby hq
      cases i with
      | zero =>
        have hval := ploop_first hlt hdef
        have H : Hid (powE lim ps = ploop lim (prevP ps 1) (ps.drop 1)) := HVi.out.trans hval
        have q6 : decide ((0 : Int) < ((0 : Nat) : Int)) = false := rfl
        simp only [Nat.zero_mul, Nat.add_zero] at e0 e1 e2 e3 hNi HCx HX
        clear hval hdef
        go_upto_region 13 with (first
           | (go_at_call 52; refine (HV.out _ (Ext.refl wr)).mono ?_; rintro e w3 ⟨he, hB⟩; subst he; have HE3 : Hid (Ext wr w3) := Lib.hid hB; obtain ⟨⟨f0, f1, f2, f3⟩, f4⟩ := HCx.out _ hB; clear hB)
           | (go_at_call 179; refine (HX.out _ HE3.out).mono ?_; rintro e w4 ⟨he, hw⟩; subst he; subst hw; have HE4 := HE3; have g4 := f4)
           | (go_at_call 206; refine (HBY.out _).mono ?_; rintro e w5 ⟨he, hw⟩; subst he; subst hw))
        go_quiet (fail)
        go_wp2_with fail
        go_roundw
        case rel => exact ⟨1, by omega, by go_num, H, Ext.trans HE.out (Ext.trans HE4.out (below_drewN (Below.refl _ _) _))⟩
        case measure => simp [intOf]; omega
      | succ j =>
        have hval := ploop_next hlt hdef
        obtain ⟨hLj, hNj, hNjo⟩ := PRow_get (PRow_below HR.out HE.out) j (by omega)
        obtain ⟨d0, d1, d2, d3, f0', f1', f2', f3', hJ⟩ := hLj
        obtain ⟨k3, n3, s3, ya3, yl3, yc3, rfl, rfl, rfl, rfl⟩ := Is_form hJ
        have hs0 := HSZ.out ps[j] (List.getElem_mem (by omega))
        obtain ⟨M, hM⟩ : ∃ M, ps[j].2 = M := ⟨_, rfl⟩
        rw [hM] at hNj
        have HCM := Lib.hid (fun W (x : Ext wr W) => cfac_any ps[j].1 ps[j + 1].1 k3 s3 n3 ya3 yl3 yc3 M k s n ya yl yc N W (by omega) (by omega) (Is_below (w' := W) hJ x) (Is_below (w' := W) HI.out x))
        have HCr : Hid (∀ W, Ext wr W → (fun W => ((W.cell? ⟨b, o + j * 5, none⟩ = some (.int .i64 k3) ∧ W.cell? ⟨b, o + j * 5 + 1, none⟩ = some (.string n3) ∧ W.cell? ⟨b, o + j * 5 + 2, none⟩ = some (.int .i64 s3) ∧ W.cell? ⟨b, o + j * 5 + 3, none⟩ = some (.slice ya3 yl3 yc3)) ∧ W.cell? ⟨b, o + j * 5 + 4, none⟩ = some (.int .i64 M)) ∧ (W.cell? ⟨b, o + (j + 1) * 5, none⟩ = some (.int .i64 k) ∧ W.cell? ⟨b, o + (j + 1) * 5 + 1, none⟩ = some (.string n) ∧ W.cell? ⟨b, o + (j + 1) * 5 + 2, none⟩ = some (.int .i64 s) ∧ W.cell? ⟨b, o + (j + 1) * 5 + 3, none⟩ = some (.slice ya yl yc)) ∧ W.cell? ⟨b, o + (j + 1) * 5 + 4, none⟩ = some (.int .i64 N)) W) := fun W x => ⟨⟨⟨keep_below x _ _ f0', keep_below x _ _ f1', keep_below x _ _ f2', keep_below x _ _ f3'⟩, keep_below x _ _ hNj⟩, HCx.out W x⟩
        generalize cmpT ps[j].1 ps[j + 1].1 = c at HCM hval
        have HVAL := Lib.hid hval
        have j1 : (0 : Int) ≤ (j : Int) := by omega
        have j2 : (j : Int) < (ps.length : Int) := by omega
        have j3 : (0 : Int) ≤ (j : Int) + 1 := by omega
        have j4 : (j : Int) + 1 < (ps.length : Int) := by omega
        have q6 : decide ((0 : Int) < ((j + 1 : Nat) : Int)) = true := decide_eq_true (by omega)
        have hw1 : IntKind.i64.wrap (((j + 1 : Nat) : Int) - 1) = (j : Int) := (IntWalk.i64_in _ (by omega)).trans (by omega)
        have hw3 : IntKind.i64.wrap (j : Int) = (j : Int) := IntWalk.i64_in _ (by omega)
        have hw2 : IntKind.i64.wrap ((j : Int) + 1 - 1) = (j : Int) := (IntWalk.i64_in _ (by omega)).trans (by omega)
        clear hJ hs1 hs0 hval hdef f0' f1' f2' f3' hNj hNjo hM
        go_upto_region 13 with (first
           | (go_at_call 52; refine (HV.out _ (Ext.refl wr)).mono ?_; rintro e w3 ⟨he, hB⟩; subst he; have HE3 : Hid (Ext wr w3) := Lib.hid hB; obtain ⟨⟨f0, f1, f2, f3⟩, f4⟩ := HCx.out _ hB; clear hB)
           | (go_at_call 179; refine (HX.out _ HE3.out).mono ?_; rintro e w4 ⟨he, hw⟩; subst he; subst hw; have HE4 := HE3; have g4 := f4)
           | (go_at_call 206; refine (HBY.out _).mono ?_; rintro e w5 ⟨he, hw⟩; subst he; subst hw))
        have hF0 := Ext.drew HE4.out
        clear e0 e1 e2 e3 hNi
        obtain ⟨⟨⟨x0, x1, x2, x3⟩, x4⟩, ⟨y0, y1, y2, y3⟩, y4⟩ := HCr.out _ HE4.out
        by_cases hc : 0 ≤ c
        · have H : Hid (powE lim ps = 5) := by show _ = _; rw [HVi.out, HVAL.out, if_pos hc]
          have q7 : decide (0 ≤ c) = true := decide_eq_true hc
          clear hc
          go_region_held3 (fun W => ((W.cell? ⟨b, o + j * 5, none⟩ = some (.int .i64 k3) ∧ W.cell? ⟨b, o + j * 5 + 1, none⟩ = some (.string n3) ∧ W.cell? ⟨b, o + j * 5 + 2, none⟩ = some (.int .i64 s3) ∧ W.cell? ⟨b, o + j * 5 + 3, none⟩ = some (.slice ya3 yl3 yc3)) ∧ W.cell? ⟨b, o + j * 5 + 4, none⟩ = some (.int .i64 M)) ∧ (W.cell? ⟨b, o + (j + 1) * 5, none⟩ = some (.int .i64 k) ∧ W.cell? ⟨b, o + (j + 1) * 5 + 1, none⟩ = some (.string n) ∧ W.cell? ⟨b, o + (j + 1) * 5 + 2, none⟩ = some (.int .i64 s) ∧ W.cell? ⟨b, o + (j + 1) * 5 + 3, none⟩ = some (.slice ya yl yc)) ∧ W.cell? ⟨b, o + (j + 1) * 5 + 4, none⟩ = some (.int .i64 N))
            (first | exact HCr.out _ (by assumption) | go_keep)
            (first | (go_at_call 182; refine (HCM.out _ hF0).mono ?_; rintro e w6 ⟨he, hB⟩; subst he; have hF1 : Ext wr w6 := hF0.trans hB; clear hB))
          all_goals (try go_wp2_with fail)
          all_goals go_ret
          all_goals exact ⟨by rw [H.out]; rfl, Ext.trans HE.out hF1⟩
        · have H : Hid (powE lim ps = ploop lim (prevP ps (j + 2)) (ps.drop (j + 2))) := by show _ = _; rw [HVi.out, HVAL.out, if_neg hc]
          have q7 : decide (0 ≤ c) = false := decide_eq_false hc
          clear hc
          go_region_held3 (fun W => ((W.cell? ⟨b, o + j * 5, none⟩ = some (.int .i64 k3) ∧ W.cell? ⟨b, o + j * 5 + 1, none⟩ = some (.string n3) ∧ W.cell? ⟨b, o + j * 5 + 2, none⟩ = some (.int .i64 s3) ∧ W.cell? ⟨b, o + j * 5 + 3, none⟩ = some (.slice ya3 yl3 yc3)) ∧ W.cell? ⟨b, o + j * 5 + 4, none⟩ = some (.int .i64 M)) ∧ (W.cell? ⟨b, o + (j + 1) * 5, none⟩ = some (.int .i64 k) ∧ W.cell? ⟨b, o + (j + 1) * 5 + 1, none⟩ = some (.string n) ∧ W.cell? ⟨b, o + (j + 1) * 5 + 2, none⟩ = some (.int .i64 s) ∧ W.cell? ⟨b, o + (j + 1) * 5 + 3, none⟩ = some (.slice ya yl yc)) ∧ W.cell? ⟨b, o + (j + 1) * 5 + 4, none⟩ = some (.int .i64 N))
            (first | exact HCr.out _ (by assumption) | go_keep)
            (first | (go_at_call 182; refine (HCM.out _ hF0).mono ?_; rintro e w6 ⟨he, hB⟩; subst he; have hF1 : Ext wr w6 := hF0.trans hB; clear hB))
          all_goals (try go_wp2_with fail)
          all_goals go_roundw
          case rel => exact ⟨j + 2, by omega, by go_num, H, Ext.trans HE.out hF1⟩
          case measure => simp [intOf]; omega
theorem prodE_any (ps : List Pw) (xa : Option Addr) (cap : Nat) (w : World) (hlen : ps.length ≤ maxLen) (hsz : SzP 1073741824 ps) (hR : PRow w ps xa) :
    Calls Tryz.prog 147 #[.slice xa ps.length cap] w fun e w' => e = .returned (.int .i64 (powE 1000 ps)) ∧ Below w.heap.size w w' := by
  have HC := Lib.hid (powE_any 1000 (by omega) ps xa cap w hlen hsz hR)
  generalize powE 1000 ps = r at HC ⊢
  clear hlen hsz hR
  go_enter Tryz.func147, Tryz.ntmps147
  go_wp2_with (go_at_call 184; refine (HC.out).mono ?_; rintro e w3 ⟨he, hB⟩; subst he; have HB := Lib.hid hB; clear hB)
  go_ret
  exact ⟨rfl, HB.out⟩
end Go.Proofs.YtbcpnepjojppaaaGreatDoor
