/-
  THE WALKS OF Inverse, on both sides.
-/
import Derived.Test.YtcieadjjcpmieaaPof
import Derived.Test.YtcieadjjcpmieaaPos
import Derived.Test.YtcieadjjcpmieaaOpen
import Derived.Test.YtcieadjjcpmieaaSep
import Derived.Test.YtcieadjjcpmieaaPvan
import Derived.Test.YtcieadjjcpmieaaPcat
import Derived.Test.YtcieadjjcpmieaaBnd
import Derived.Test.YtcieadjjcpmieaaSetof
import Derived.Test.YtcieadjjcpmieaaPapp
import Derived.Test.YtcieadjjcpmieaaPsame
namespace Go.Proofs.Ytcieadjjcpmieaa
open Go.RowKit

set_option maxHeartbeats 800000 in
set_option maxRecDepth 100000 in
theorem Inverse_any (ps : List Pw) (xa : Option Addr) (cap : Nat) (w : World) (hlen : ps.length ≤ 1048576) (hsz : SzP 1073741824 ps) (hR : PRow w ps xa) :
    Calls Try.prog 7 #[.slice xa ps.length cap] w (PwPost w (scalP (-1) ps)) := by
  have HS := Lib.hid (scaled_any (-1) ps xa cap w hlen hsz hR)
  clear hsz hR
  obtain ⟨us, hus⟩ : ∃ us, scalP (-1) ps = us := ⟨_, rfl⟩
  rw [hus] at HS ⊢
  clear hus
  go_enter Try.func7, Try.ntmps7
  go_wp2_with (go_at_call 24; refine (HS.out).mono ?_; rintro e w2 ⟨x2, c2, he, h1, h2, h3⟩; subst he; have HF : Hid (PwPost w us (.returned (.slice x2 us.length c2)) w2) := ⟨x2, c2, rfl, h1, h2, h3⟩; clear h1 h2 h3)
  go_ret
  exact HF.out
theorem scalP_take (n : Int) (ps : List Pw) (j : Nat) (h : j < ps.length) : scalP n (ps.take (j + 1)) = scalP n (ps.take j) ++ [(ps[j].1, wrap64 (ps[j].2 * n))] := by
  unfold scalP; rw [List.take_succ_eq_append_getElem h, List.map_append]; rfl
theorem scalP_len (n : Int) (ps : List Pw) : (scalP n ps).length = ps.length := by unfold scalP; simp

end Go.Proofs.Ytcieadjjcpmieaa

/-
  POWERS THAT COME IN.
-/
namespace Go.Proofs.Ytcieadjjcpmieaa
open Go.ChangeShapes Go.WideShapes Go.ChangeAt Go.RowKit Go.Deep

theorem cellsPower : Try.prog.cellsOf 54 = 5 := by kernel_rfl
theorem bytesPower : Try.prog.bytesOf 54 = 64 := by kernel_rfl
section
variable {H : Type} {enc : TypeId × Value → H} {W : World} {base : Nat} {sp : Nat → Bool} {held : Bool}

set_option maxRecDepth 100000 in
theorem open_power_upto (fuel : Nat) (cs : List Value) (x : DataW H × List MemPlace) (h : DataW.trod enc Try.prog W base sp held fuel 54 cs = some x) :
    ∃ (p : Pw) (c0 c1 c2 c3 : Value), cs = [c0, c1, c2, c3, .int .i64 p.2] ∧ Is W p.1 c0 c1 c2 c3 ∧ i64ok p.2 := by
  obtain ⟨xs, n, rfl, rfl, hl, hlen, hfs⟩ := DataW.trod_struct Try.underlying54 h
  rw [cellsPower] at hl
  match cs, hl with
  | [c0, c1, c2, c3, c4], _ =>
    match xs, hlen with
    | [y0, y1], _ =>
      have h0 := hfs 0 _ rfl
      have h1 := hfs 1 _ rfl
      simp [cellsTerm, cellsInt] at h0 h1
      obtain ⟨v, a0, a1, a2, a3, e, hI⟩ := open_term_upto n n _ _ (Nat.le_refl _) h0
      obtain ⟨k, e1, _, w1⟩ := DataW.trod_int Try.underlying3 h1
      simp only [List.cons.injEq, and_true] at e e1
      obtain ⟨rfl, rfl, rfl, rfl⟩ := e
      subst e1
      exact ⟨(v, k), _, _, _, _, rfl, hI, bounds_i64 w1⟩

set_option maxRecDepth 100000 in
/-- A SLICE OF POWERS, told by its cell. -/
theorem open_powers_upto (fuel : Nat) (cs : List Value) (x : DataW H × List MemPlace) (h : DataW.trod enc Try.prog W base sp held fuel 24 cs = some x) :
    ∃ (ps : List Pw) (xa : Option Addr) (cap : Nat), cs = [.slice xa ps.length cap] ∧ ps.length ≤ cap ∧ cap ≤ maxLen ∧ PRow W ps xa ∧ (ps = [] ∨ ∃ elems spare, x.1 = .slice elems spare ∧ elems.length = ps.length) := by
  rcases DataW.trod_slice Try.underlying24 h with ⟨e3, _⟩ | ⟨a, len, cap, elems, rest, m, hn, e3, hd, hb, hlc, hcm, hel, hat, _⟩
  · exact ⟨[], none, 0, e3, Nat.le_refl _, Nat.zero_le _, Or.inl rfl, Or.inl rfl⟩
  · rw [cellsPower] at hat
    have hone : ∀ i, i < len → ∃ p : Pw, ∃ c0 c1 c2 c3, W.cells? base (a.add (i * 5)) 5 = some [c0, c1, c2, c3, .int .i64 p.2] ∧ Is W p.1 c0 c1 c2 c3 ∧ i64ok p.2 := fun i hi => by
      have hi' : i < elems.length := by omega
      have := hat i hi
      rw [List.getElem?_eq_getElem hi'] at this
      obtain ⟨cs', hcs, htr⟩ := Option.bind_eq_some_iff.1 this
      obtain ⟨p, x0, x1, x2, x3, rfl, hI, hn⟩ := open_power_upto m cs' _ htr
      exact ⟨p, x0, x1, x2, x3, hcs, hI, hn⟩
    obtain ⟨f, hf'⟩ := choose_lt hone
    obtain ⟨ab, ao, spot⟩ := a
    have hll : ((List.range len).map f).length = len := by simp
    refine ⟨(List.range len).map f, some ⟨ab, ao, spot⟩, cap, by rw [hll]; exact e3, by rw [hll]; exact hlc, hcm, ?_, Or.inr ⟨elems.map (·.1), rest.map (·.1), by rw [hd], by rw [hll, List.length_map]; exact hel⟩⟩
    by_cases h0 : len = 0
    · subst h0; exact Or.inl rfl
    · have hspot : spot = none := by
        obtain ⟨x0, x1, x2, x3, hcs, _⟩ := hf' 0 (by omega)
        obtain ⟨_, _, hc⟩ := World.cells?_some hcs
        have := hc 0 (by omega)
        simpa [Addr.add] using World.cell?_spot this
      subst hspot
      refine Or.inr ⟨ab, ao, rfl, fun k hk => ?_⟩
      rw [hll] at hk
      obtain ⟨x0, x1, x2, x3, hcs, hI, hn⟩ := hf' k hk
      obtain ⟨_, _, hc⟩ := World.cells?_some hcs
      have g0 := hc 0 (by omega)
      have g1 := hc 1 (by omega)
      have g2 := hc 2 (by omega)
      have g3 := hc 3 (by omega)
      have g4 := hc 4 (by omega)
      simp only [Addr.add_lit, List.getElem?_cons_zero, List.getElem?_cons_succ, Nat.add_zero] at g0 g1 g2 g3 g4
      have e : ((List.range len).map f)[k]'(by rw [hll]; exact hk) = f k := by simp
      rw [e]
      exact ⟨⟨x0, x1, x2, x3, g0, g1, g2, g3, hI⟩, g4, hn⟩
set_option maxRecDepth 100000 in
/-- A SLICE OF POWERS THAT CAME IN. -/
theorem open_powers {v : Value} {d : DataW H} {ps0 : List MemPlace} {r : Reach} {b0 : Nat} (hv : Value.okWide Try.prog W r b0 24 v) (h : DataW.Trod enc Try.prog W base sp held 24 v d ps0) :
    ∃ (ps : List Pw) (xa : Option Addr) (cap : Nat), v = .slice xa ps.length cap ∧ ps.length ≤ cap ∧ cap ≤ maxLen ∧ PRow W ps xa ∧ (ps = [] ∨ ∃ elems spare, d = .slice elems spare ∧ elems.length = ps.length) := by
  obtain ⟨a0, l0, c0, rfl⟩ := okWide_slice Try.underlying24 hv
  obtain ⟨fuel, hf⟩ := h
  have hcs : (Value.slice a0 l0 c0).cells.toList = [.slice a0 l0 c0] := rfl
  rw [hcs] at hf
  obtain ⟨ps, xa, cap, e, h1, h2, h3, h4⟩ := open_powers_upto fuel _ _ hf
  simp only [List.cons.injEq, and_true] at e
  exact ⟨ps, xa, cap, e, h1, h2, h3, h4⟩
end
set_option maxRecDepth 100000 in
/-- The bulk that the form bears. -/
theorem powers_bytes {H : Type} {ts : List TypeId} {ds : List (DataW H)} (h : (DataW.weightsEach Try.prog ts ds).all (· ≤ reachBytes) = true) {j : Nat} {d : DataW H} {ps : List Pw} (ht : ts[j]? = some 24) (hd : ds[j]? = some d) (hb : ps = [] ∨ ∃ elems spare, d = .slice elems spare ∧ elems.length = ps.length) : ps.length * 64 ≤ 140737488355328 := by
  rcases hb with rfl | ⟨elems, spare, rfl, he⟩
  · simp
  · have := sized_slice h ht hd Try.underlying24
    rw [bytesPower] at this
    have h2 := reachBytes_lt
    have h3 : elems.length * 64 ≤ (elems.length + spare.length) * 64 := Nat.mul_le_mul_right _ (Nat.le_add_right _ _)
    omega
end Go.Proofs.Ytcieadjjcpmieaa

/-
  THE WALK OF the reference's Few at lists of powers.
-/
namespace Go.Proofs.Ytcieadjjcpmieaa
open Go.RowKit

def termsP (ps : List Pw) : List Tm := ps.map Prod.fst
def few06 (ls : List (List Pw)) (n most : Int) : Bool := decide ((ls.length : Int) ≤ n) && few (termsP ls.flatten) most most
theorem termsP_len (ps : List Pw) : (termsP ps).length = ps.length := by unfold termsP; simp
/-- The powers that two loops have gone through. -/
def goneP (ls : List (List Pw)) (j k : Nat) : List Tm := termsP ((ls.take j).flatten ++ (ls.getD j []).take k)
theorem goneP_zero (ls : List (List Pw)) (j : Nat) : goneP ls j 0 = termsP (ls.take j).flatten := by unfold goneP; simp
theorem goneP_next {ls : List (List Pw)} {j : Nat} (h : j < ls.length) : goneP ls j ls[j].length = goneP ls (j + 1) 0 := by
  unfold goneP
  rw [flatP_take h, List.getD_eq_getElem?_getD, List.getElem?_eq_getElem h]
  simp
theorem goneP_step {ls : List (List Pw)} {j k : Nat} (h : j < ls.length) (hk : k < ls[j].length) : goneP ls j (k + 1) = goneP ls j k ++ [(ls[j][k]).1] := by
  unfold goneP
  rw [List.getD_eq_getElem?_getD, List.getElem?_eq_getElem h]
  simp only [Option.getD_some]
  unfold termsP
  rw [List.take_succ_eq_append_getElem hk, List.map_append, List.map_append, List.map_append, List.append_assoc]
  rfl
theorem goneP_len {ls : List (List Pw)} {j k : Nat} (h : j < ls.length) (hk : k ≤ ls[j].length) : (goneP ls j k).length ≤ ls.flatten.length := by
  unfold goneP
  rw [termsP_len, List.length_append, List.getD_eq_getElem?_getD, List.getElem?_eq_getElem h]
  simp only [Option.getD_some, List.length_take]
  have := flatP_le ls (j + 1)
  rw [flatP_take h, List.length_append] at this
  omega

end Go.Proofs.Ytcieadjjcpmieaa

/-
  THE WALK OF the law ExponentTerm, the chapter's examples by hypothesis.
-/
namespace Go.Proofs.Ytcieadjjcpmieaa
open Go.RowKit

/-- What every law's first test gives. -/
def Awake6Ok : Prop := ∀ w : World, Calls Try.prog 4 #[] w fun e w' => e = .returned (.bool true) ∧ Below w.heap.size w w'
theorem mem_sizes : ∀ {l : List Tm} {t : Tm}, t ∈ l → size t ≤ sizes l
  | u :: l, t, h => by
    have e : sizes (u :: l) = size u + sizes l := rfl
    rcases List.mem_cons.1 h with rfl | h
    · omega
    · have := mem_sizes h; omega
theorem few_szP {ps : List Pw} {n most : Nat} (h : few (termsP ps) (n : Int) (most : Int) = true) : ps.length ≤ n ∧ SzP most ps := by
  unfold few at h
  by_cases hl : (n : Int) < ((termsP ps).length : Int)
  · rw [if_pos hl] at h; cases h
  · rw [if_neg hl] at h
    rw [termsP_len] at hl
    have := fewL_sizes _ _ (by omega) h
    refine ⟨by omega, fun p hp => ?_⟩
    have h2 := mem_sizes (l := termsP ps) (t := p.1) (List.mem_map.2 ⟨p, hp, rfl⟩)
    omega
theorem termP_size (ps : List Pw) : size (termP ps).1 ≤ 400 := by
  have hz : size (.mk 0 ⟨#[]⟩ 0 [] : Tm) ≤ 400 := by decide
  unfold termP
  split
  · split
    · exact hz
    · split
      · rename_i h
        unfold validE at h
        split at h
        · split at h
          · cases h
          · show size (prodT (posO ps ++ negO ps)) ≤ 400; omega
        · rename_i h2; exact absurd h h2
      · exact hz
  · exact hz
theorem keep_alloc_box {w w' : World} {b : Nat} {o : Obj} (h : w'.heap[b]? = w.heap[b]?) (hb : w.heap[b]? = some o) (x : Obj) : (w'.alloc x).heap[b]? = some o := by
  have h2 := h.trans hb
  rw [Below.heap_alloc _ _ _ (Array.getElem?_eq_some_iff.1 h2).1]; exact h2
theorem few06_one (ps : List Pw) (most : Int) : few06 [ps] 1 most = few (termsP ps) most most := by
  unfold few06; simp
theorem PsRow_one {w : World} {H : Nat} (hH : w.heap.size = H) {l : List Pw} {x : Option Addr} {c : Nat} (hc : l.length ≤ c) (h1 : PRow w l x) (T : TypeId) : PsRow (w.alloc (.cells #[.slice x l.length c] T)) [l] (some ⟨H, 0, none⟩) := by
  have c := cells_new_at w #[.slice x l.length c] T H hH
  refine Or.inr ⟨H, 0, rfl, fun k hk => ?_⟩
  match k, hk with
  | 0, _ => exact ⟨x, _, c 0 _ rfl, hc, PRow_below h1 ((Ext.refl w).alloc _)⟩

end Go.Proofs.Ytcieadjjcpmieaa
