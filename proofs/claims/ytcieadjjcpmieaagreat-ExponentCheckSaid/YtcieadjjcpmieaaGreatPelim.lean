/-
  THE WALK OF exponent's eliminate.
-/
import Derived.Test.YtcieadjjcpmieaaGreatPbox
import Derived.Test.YtcieadjjcpmieaaGreatPcat
import Derived.Test.YtcieadjjcpmieaaGreatProw
import Derived.Test.YtcieadjjcpmieaaGreatPof
namespace Go.Proofs.YtcieadjjcpmieaaGreat
open Go.RowKit

/-- The columns of generators and a product. -/
def IsCols (cs : List Pw) (ls : List (List Pw)) (m : List Pw) : Prop := AscP cs ∧ ∀ t, (∃ p ∈ cs, p.1 = t) ↔ ∃ p ∈ ls.flatten ++ m, p.1 = t
/-- What an elimination gives. -/
structure ElS where
  cs : List Pw
  M : Nat → List Int
  P : Nat → Bool
  Q : Nat → Option Nat
  L : List Int
  f : Int
/-- eliminate on plain data: an error, or an elimination. -/
inductive ElimR (ls : List (List Pw)) (m : List Pw) : Int → Option ElS → Prop
  | many : 12 < ls.length → ElimR ls m 3 none
  | bad : ¬ 12 < ls.length → ¬ prodsE ls m = 0 → ElimR ls m (prodsE ls m) none
  | wide {cs} : ¬ 12 < ls.length → prodsE ls m = 0 → IsCols cs ls m → 12 < cs.length → ElimR ls m 3 none
  | piv {cs} : ¬ 12 < ls.length → prodsE ls m = 0 → IsCols cs ls m → ¬ 12 < cs.length → ColR ls.length cs.length 0 (matF cs (cs.length + ls.length) ls) (fun _ => false) (fun _ => none) none → ElimR ls m 3 none
  | red {cs M P Q} : ¬ 12 < ls.length → prodsE ls m = 0 → IsCols cs ls m → ¬ 12 < cs.length → ColR ls.length cs.length 0 (matF cs (cs.length + ls.length) ls) (fun _ => false) (fun _ => none) (some (M, P, Q)) → redP M Q cs.length 0 (rowJ cs m (cs.length + ls.length) cs.length) = none → ElimR ls m 3 none
  | ok {cs M P Q L f} : ¬ 12 < ls.length → prodsE ls m = 0 → IsCols cs ls m → ¬ 12 < cs.length → ColR ls.length cs.length 0 (matF cs (cs.length + ls.length) ls) (fun _ => false) (fun _ => none) (some (M, P, Q)) → redP M Q cs.length 0 (rowJ cs m (cs.length + ls.length) cs.length) = some (L, f) → ElimR ls m 0 (some ⟨cs, M, P, Q, L, f⟩)
/-- Where an elimination lies. -/
structure ElMem (w : World) (k : Nat) (s : ElS) (A : MA) (lb : Nat) : Prop where
  dim : A.k = k ∧ A.l = s.cs.length + k ∧ A.n = s.cs.length
  mat : Mat A w s.M s.P
  piv : Piv A w s.Q
  inv : PInv k s.cs.length s.M s.P s.Q
  cols : ∃ xc cc, w.cell? ⟨A.eb, 0, none⟩ = some (.slice xc s.cs.length cc) ∧ PRow w s.cs xc
  size : SzP 1073741824 s.cs
  last : w.cell? ⟨A.eb, 4, none⟩ = some (.slice (some ⟨lb, 0, none⟩) A.l A.l) ∧ IRow w lb s.L ∧ s.L.length = A.l ∧ InB s.L
  fail : w.cell? ⟨A.eb, 5, none⟩ = some (.int .i64 s.f)
/-- What eliminate leaves. -/
def ElPost (w : World) (ls : List (List Pw)) (m : List Pw) (e : Ending) (w' : World) : Prop :=
  ∃ x r, ElimR ls m x r ∧ Ext w w' ∧ (r = none → e = .returned (.tuple #[.pointer none, .int .i64 x])) ∧ ∀ s, r = some s → ∃ A lb, e = .returned (.tuple #[.pointer (some ⟨A.eb, 0, none⟩), .int .i64 0]) ∧ ElMem w' ls.length s A lb
theorem Kp.toExt {S : Nat → Prop} {w0 w w' : World} (h : Ext w0 w) (k : Kp S w w') (hS : ∀ b, S b → w0.heap.size ≤ b) : Ext w0 w' :=
  ⟨k.os.trans h.os, k.tape.trans h.tape, k.output.trans h.output, Nat.le_trans h.size k.size, fun b hb => (k.block b (Nat.lt_of_lt_of_le hb h.size) (fun e => by have := hS b e; omega)).trans (h.block b hb)⟩
theorem EBox.new (w : World) (c0 c1 c2 c3 c4 c5 : Value) (T : TypeId) : EBox (w.alloc (.cells #[c0, c1, c2, c3, c4, c5] T)) w.heap.size c0 c1 c2 c3 c4 c5 := by
  have h := heap_alloc_new w (.cells #[c0, c1, c2, c3, c4, c5] T)
  refine ⟨?_, ?_, ?_, ?_, ?_, ?_, fun p => ?_, by rw [World.size_alloc]; omega⟩
  · unfold World.cell?; rw [h]; rfl
  · unfold World.cell?; rw [h]; rfl
  · unfold World.cell?; rw [h]; rfl
  · unfold World.cell?; rw [h]; rfl
  · unfold World.cell?; rw [h]; rfl
  · unfold World.cell?; rw [h]; rfl
  · unfold World.frozen?; rw [h]; simp
/-- What reduce asks of what findPivots leaves, and what comes of it. -/
structure MidS (w0 : World) (ls : List (List Pw)) (m : List Pw) (cs : List Pw) (xc : Option Addr) (cc : Nat) (A : MA) (lb : Nat) (M : Nat → List Int) (P : Nat → Bool) (Q : Nat → Option Nat) (w : World) : Prop where
  dim : A.k = ls.length ∧ A.l = cs.length + ls.length ∧ A.n = cs.length
  ok : MOk A
  mat : Mat A w M P
  piv : Piv A w Q
  a0 : w.cell? ⟨A.eb, 0, none⟩ = some (.slice xc cs.length cc)
  a4 : w.cell? ⟨A.eb, 4, none⟩ = some (.slice (some ⟨lb, 0, none⟩) A.l A.l)
  a5 : w.cell? ⟨A.eb, 5, none⟩ = some (.int .i64 (-1))
  fz : ∀ p, w.frozen? ⟨A.eb, p, none⟩ = false
  last : IRow w lb (rowJ cs m A.l cs.length)
  far : A.eb < lb ∧ A.eb < A.ib ∧ A.eb < A.pb ∧ ∀ i, i < A.k → A.eb < A.rs i
  ne : (∀ i, i < A.k → A.rs i ≠ lb) ∧ lb ≠ A.pb ∧ lb ≠ A.ib ∧ (0 < A.k → A.eb < A.rb ∧ A.rb ≠ lb)
  el : A.eb < w.heap.size
  ext : Ext w0 w
  low : w0.heap.size ≤ A.eb
theorem mid_start {w0 w6 : World} {eb : Nat} {cs m : List Pw} {ls : List (List Pw)} {xc : Option Addr} {cc : Nat} {e : Ending} (h : FillPost w0 eb cs ls m (.slice xc cs.length cc) e w6) (hlow : w0.heap.size ≤ eb) : e = .returned (.tuple #[]) ∧ ∃ A lb, A.eb = eb ∧ MidS w0 ls m cs xc cc A lb (matF cs (cs.length + ls.length) ls) (fun _ => false) (fun _ => none) w6 := by
  obtain ⟨he, A, lb, ⟨rfl, d2, d3, d4⟩, h1, h2, h3, ⟨h4, h5, h6, h7⟩, h8, h9, h10, h11, h12⟩ := h
  exact ⟨he, A, lb, rfl, ⟨⟨d2, d3, d4⟩, h1, h2, h3, h4, h5, h6, h7, h8, h9, h10, h11, h12, hlow⟩⟩
theorem mid_pivs {w0 w w' : World} {cs m : List Pw} {ls : List (List Pw)} {xc : Option Addr} {cc : Nat} {A : MA} {lb : Nat} {M M' : Nat → List Int} {P P' : Nat → Bool} {Q Q' : Nat → Option Nat} (h : MidS w0 ls m cs xc cc A lb M P Q w) (hk : Kp (ownA A) w w') (hc : ColR A.k A.n 0 M P Q (some (M', P', Q'))) (hi : PInv ls.length 0 M P Q) (hm : Mat A w' M' P') (hp : Piv A w' Q') : PInv ls.length cs.length M' P' Q' ∧ MidS w0 ls m cs xc cc A lb M' P' Q' w' := by
  have hne : ¬ ownA A A.eb := by
    rintro (⟨i, hi, e⟩ | e | e)
    · exact h.ok.eb i hi e.symm
    · exact h.ok.ie e.symm
    · exact h.ok.pe e.symm
  have hnl : ¬ ownA A lb := by
    rintro (⟨i, hi, e⟩ | e | e)
    · exact h.ne.1 i hi e.symm
    · exact h.ne.2.2.1 e
    · exact h.ne.2.1 e
  have hinv : PInv ls.length cs.length M' P' Q' := by
    rw [h.dim.1, h.dim.2.2] at hc
    exact ColR_inv hc hi _ _ _ rfl
  refine ⟨hinv, h.dim, h.ok, hm, hp, hk.cell h.a0 hne, hk.cell h.a4 hne, hk.cell h.a5 hne, fun p => frozen_kept (hk.block _ h.el hne) (h.fz p), hk.ext_cell h.last hnl, h.far, h.ne, Nat.lt_of_lt_of_le h.el hk.size, Kp.toExt h.ext hk (fun b hb => ?_), h.low⟩
  have := h.low
  rcases hb with ⟨i, hi, e⟩ | e | e
  · have := h.far.2.2.2 i hi; omega
  · have := h.far.2.1; omega
  · have := h.far.2.2.1; omega
theorem mid_ext {w0 w w' : World} {cs m : List Pw} {ls : List (List Pw)} {xc : Option Addr} {cc : Nat} {A : MA} {lb : Nat} {M : Nat → List Int} {P : Nat → Bool} {Q : Nat → Option Nat} (h : MidS w0 ls m cs xc cc A lb M P Q w) (hk : Kp (ownA A) w w') : Ext w0 w' :=
  Kp.toExt h.ext hk (fun b hb => by
    have := h.low
    rcases hb with ⟨i, hi, e⟩ | e | e
    · have := h.far.2.2.2 i hi; omega
    · have := h.far.2.1; omega
    · have := h.far.2.2.1; omega)
theorem mid_red {w0 w w' : World} {cs m : List Pw} {ls : List (List Pw)} {xc : Option Addr} {cc : Nat} {A : MA} {lb : Nat} {M : Nat → List Int} {P : Nat → Bool} {Q : Nat → Option Nat} {L : List Int} {f : Int} (hi : PInv ls.length cs.length M P Q) (h : MidS w0 ls m cs xc cc A lb M P Q w) (hk : Kp (fun b => b = lb ∨ b = A.eb) w w') (hC : PRow w0 cs xc) (hz : SzP 1073741824 cs)
    (hL : IRow w' lb L) (hl : L.length = A.l) (hb : InB L) (h5 : w'.cell? ⟨A.eb, 5, none⟩ = some (.int .i64 f)) (hco : ∀ p v, p ≠ 5 → w.cell? ⟨A.eb, p, none⟩ = some v → w'.cell? ⟨A.eb, p, none⟩ = some v) : ElMem w' ls.length ⟨cs, M, P, Q, L, f⟩ A lb ∧ Ext w0 w' := by
  have hext : Ext w0 w' := Kp.toExt h.ext hk (fun b hb => by have := h.low; have := h.far.1; rcases hb with e | e <;> omega)
  have hn : ∀ b, b ≠ lb → b ≠ A.eb → ¬ (b = lb ∨ b = A.eb) := fun b h1 h2 => by rintro (e | e); exact h1 e; exact h2 e
  have hnp : ¬ (A.pb = lb ∨ A.pb = A.eb) := hn _ (fun e => h.ne.2.1 e.symm) (h.ok.pe)
  have hni : ¬ (A.ib = lb ∨ A.ib = A.eb) := hn _ (fun e => h.ne.2.2.1 e.symm) (h.ok.ie)
  have hmat : Mat A w' M P := by
    have hm := h.mat
    refine ⟨hco 1 _ (by omega) hm.rows, hco 2 _ (by omega) hm.piv, hm.some_, fun i hi => ?_, fun i hi => hk.ext_cell (hm.num i hi) (hn _ (h.ne.1 i hi) (h.ok.eb i hi)), hm.wid, fun i hi => hk.cell (hm.flag i hi) hni, hm.inb⟩
    have := h.ne.2.2.2 (by omega)
    exact hk.cell (hm.row i hi) (hn _ this.2 (by omega))
  refine ⟨⟨h.dim, hmat, ⟨hco 3 _ (by omega) h.piv.at_, fun i hi => hk.cell (h.piv.col i hi) hnp, fun p => frozen_kept (hk.block _ h.piv.pl hnp) (h.piv.fz p), fun p => frozen_kept (hk.block _ h.piv.il hni) (h.piv.fi p), Nat.lt_of_lt_of_le h.piv.pl hk.size, Nat.lt_of_lt_of_le h.piv.il hk.size⟩, hi, ⟨xc, cc, hco 0 _ (by omega) h.a0, PRow_below hC hext⟩, hz, ⟨hco 4 _ (by omega) h.a4, hL, hl, hb⟩, h5⟩, hext⟩
end Go.Proofs.YtcieadjjcpmieaaGreat

/-
  THE WALK OF exponent's eliminate.
-/
namespace Go.Proofs.YtcieadjjcpmieaaGreat
open Go.RowKit

theorem ColR_one {k n c : Nat} {M : Nat → List Int} {P : Nat → Bool} {Q : Nat → Option Nat} {r r' : Option ((Nat → List Int) × (Nat → Bool) × (Nat → Option Nat))} (h : ColR k n c M P Q r) (h' : ColR k n c M P Q r') : r = r' := by
  induction h with
  | done =>
    cases h' with
    | done => rfl
    | bad h1 _ => omega
    | skip h1 _ _ => omega
    | pick h1 _ _ => omega
  | bad hc hp =>
    cases h' with
    | done => omega
    | bad _ _ => rfl
    | skip _ h2 _ => exact absurd (PivR_one hp h2) (by simp)
    | pick _ h2 _ => exact absurd (PivR_one hp h2) (by simp)
  | skip hc hp _ ih =>
    cases h' with
    | done => omega
    | bad _ h2 => exact absurd (PivR_one hp h2) (by simp)
    | skip _ h2 h3 =>
      have := PivR_one hp h2
      simp only [Option.some.injEq, Prod.mk.injEq, and_true] at this
      subst this; exact ih h3
    | pick _ h2 _ =>
      have := PivR_one hp h2
      simp only [Option.some.injEq, Prod.mk.injEq] at this
      omega
  | pick hc hp _ ih =>
    cases h' with
    | done => omega
    | bad _ h2 => exact absurd (PivR_one hp h2) (by simp)
    | skip _ h2 _ =>
      have := PivR_one hp h2
      simp only [Option.some.injEq, Prod.mk.injEq] at this
      omega
    | pick _ h2 h3 =>
      have := PivR_one hp h2
      simp only [Option.some.injEq, Prod.mk.injEq, Int.ofNat_inj] at this
      obtain ⟨rfl, e⟩ := this
      subst e; exact ih h3
theorem el_err {ls : List (List Pw)} {m : List Pw} {x : Int} {w w' : World} (h : ElimR ls m x none) (hx : Ext w w') : ElPost w ls m (.returned (.tuple #[.pointer none, .int .i64 x])) w' := ⟨x, none, h, hx, fun _ => rfl, fun s e => absurd e (by simp)⟩
theorem flat_len12 {ls : List (List Pw)} : ∀ (_ : ∀ l ∈ ls, l.length ≤ 200), ls.flatten.length ≤ ls.length * 200 := by
  induction ls with
  | nil => intro _; simp
  | cons l ls ih =>
    intro h
    have h1 := h l (List.mem_cons_self ..)
    have h2 := ih (fun x hx => h x (List.mem_cons_of_mem _ hx))
    rw [List.flatten_cons, List.length_append, List.length_cons]; omega
theorem gen_ok {ls : List (List Pw)} (hz : ∀ l ∈ ls, SzP 1073741824 l) (h : ∀ l ∈ ls, powE 1000 l = 0) : GenOk ls := fun l hl => by
  obtain ⟨h1, h2, h3⟩ := powE_ok (h l hl)
  exact ⟨by omega, hz l hl, h3, fun p hp => by have := pwE_ok (h2 p hp); omega⟩
theorem piv_no {w w5 w7 w8 : World} {cs m : List Pw} {ls : List (List Pw)} {xc : Option Addr} {cc : Nat} {A : MA} {lb : Nat} {e : Ending} (h : MidS w5 ls m cs xc cc A lb (matF cs (cs.length + ls.length) ls) (fun _ => false) (fun _ => none) w7) (hx : Ext w w5) (h12 : ¬ 12 < ls.length) (hE : prodsE ls m = 0) (hic : IsCols cs ls m) (hw : ¬ 12 < cs.length)
    (hn : ¬ ∃ M P Q, ColR ls.length cs.length 0 (matF cs (cs.length + ls.length) ls) (fun _ => false) (fun _ => none) (some (M, P, Q))) (h8 : FsPost A 0 (matF cs (cs.length + ls.length) ls) (fun _ => false) (fun _ => none) w7 e w8) :
    e = .returned (.bool false) ∧ ElPost w ls m (.returned (.tuple #[.pointer none, .int .i64 3])) w8 := by
  obtain ⟨r, h1, h2, h3, _⟩ := h8
  rw [h.dim.1, h.dim.2.2] at h1
  rcases r with _ | ⟨M, P, Q⟩
  · exact ⟨h3 rfl, el_err (.piv h12 hE hic hw h1) (Ext.trans hx (mid_ext h h2))⟩
  · exact absurd ⟨M, P, Q, h1⟩ hn
theorem piv_yes {w5 w7 w8 : World} {cs m : List Pw} {ls : List (List Pw)} {xc : Option Addr} {cc : Nat} {A : MA} {lb : Nat} {e : Ending} {M : Nat → List Int} {P : Nat → Bool} {Q : Nat → Option Nat} (h : MidS w5 ls m cs xc cc A lb (matF cs (cs.length + ls.length) ls) (fun _ => false) (fun _ => none) w7)
    (hc : ColR ls.length cs.length 0 (matF cs (cs.length + ls.length) ls) (fun _ => false) (fun _ => none) (some (M, P, Q))) (h8 : FsPost A 0 (matF cs (cs.length + ls.length) ls) (fun _ => false) (fun _ => none) w7 e w8) :
    e = .returned (.bool true) ∧ PInv ls.length cs.length M P Q ∧ MidS w5 ls m cs xc cc A lb M P Q w8 := by
  obtain ⟨r, h1, h2, _, h4⟩ := h8
  have h1' := h1
  rw [h.dim.1, h.dim.2.2] at h1
  have e1 := ColR_one h1 hc
  subst e1
  obtain ⟨he, hm, hp⟩ := h4 M P Q rfl
  exact ⟨he, mid_pivs h h2 h1' ⟨fun j hj => absurd hj (Nat.not_lt_zero _), fun _ _ => rfl⟩ hm hp⟩
theorem red_pre {w5 w8 : World} {cs m : List Pw} {ls : List (List Pw)} {xc : Option Addr} {cc : Nat} {A : MA} {lb : Nat} {M : Nat → List Int} {P : Nat → Bool} {Q : Nat → Option Nat} (h : MidS w5 ls m cs xc cc A lb M P Q w8) (hi : PInv ls.length cs.length M P Q) (hg : GenOk [m]) (hb : cs.length + ls.length ≤ 1048576) :
    Calls Tryz.prog 97 #[.pointer (some ⟨A.eb, 0, none⟩)] w8 (RdPost A lb A.l M Q (rowJ cs m A.l cs.length) w8) :=
  reduce_any A h.ok M P Q (rowJ cs m A.l cs.length) lb A.l w8 (by rw [h.dim.2.1]; exact hb) (by rw [h.dim.2.2, h.dim.2.1]; omega) h.mat h.piv (fun c hc b hq => by
    rw [h.dim.2.2] at hc
    have := hi.1 c hc b hq
    exact ⟨by rw [h.dim.1]; exact this.1, this.2.2⟩) h.a4 h.a5 h.fz h.last (rowJ_len (Nat.le_refl _) (by rw [h.dim.2.1]; omega)) (rowJ_inb (hg m (by simp)).2.2.2) h.ne.1 (by have := h.far.1; omega) h.ne.2.1 h.el
theorem red_no {w w5 w8 w9 : World} {cs m : List Pw} {ls : List (List Pw)} {xc : Option Addr} {cc : Nat} {A : MA} {lb : Nat} {e : Ending} {M : Nat → List Int} {P : Nat → Bool} {Q : Nat → Option Nat} (h : MidS w5 ls m cs xc cc A lb M P Q w8) (hx : Ext w w5) (h12 : ¬ 12 < ls.length) (hE : prodsE ls m = 0) (hic : IsCols cs ls m) (hw : ¬ 12 < cs.length)
    (hc : ColR ls.length cs.length 0 (matF cs (cs.length + ls.length) ls) (fun _ => false) (fun _ => none) (some (M, P, Q))) (hd : redP M Q cs.length 0 (rowJ cs m (cs.length + ls.length) cs.length) = none) (h9 : RdPost A lb A.l M Q (rowJ cs m A.l cs.length) w8 e w9) :
    e = .returned (.bool false) ∧ ElPost w ls m (.returned (.tuple #[.pointer none, .int .i64 3])) w9 := by
  obtain ⟨h1, h2, _⟩ := h9
  refine ⟨h2 (by rw [h.dim.2.2, h.dim.2.1]; exact hd), el_err (.red h12 hE hic hw hc hd) (Ext.trans hx (Kp.toExt h.ext h1 (fun b hb => ?_)))⟩
  have := h.low
  have := h.far.1
  rcases hb with e | e <;> omega
theorem red_yes {w w5 w8 w9 : World} {cs m : List Pw} {ls : List (List Pw)} {xc : Option Addr} {cc : Nat} {A : MA} {lb : Nat} {e : Ending} {M : Nat → List Int} {P : Nat → Bool} {Q : Nat → Option Nat} {L : List Int} {f : Int} (hi : PInv ls.length cs.length M P Q) (h : MidS w5 ls m cs xc cc A lb M P Q w8) (hx : Ext w w5) (h12 : ¬ 12 < ls.length) (hE : prodsE ls m = 0) (hic : IsCols cs ls m) (hw : ¬ 12 < cs.length)
    (hc : ColR ls.length cs.length 0 (matF cs (cs.length + ls.length) ls) (fun _ => false) (fun _ => none) (some (M, P, Q))) (hd : redP M Q cs.length 0 (rowJ cs m (cs.length + ls.length) cs.length) = some (L, f)) (hC : PRow w5 cs xc) (hz : SzP 1073741824 cs) (h9 : RdPost A lb A.l M Q (rowJ cs m A.l cs.length) w8 e w9) :
    e = .returned (.bool true) ∧ ElPost w ls m (.returned (.tuple #[.pointer (some ⟨A.eb, 0, none⟩), .int .i64 0])) w9 := by
  obtain ⟨h1, _, h3⟩ := h9
  obtain ⟨he, g1, g2, g3, g4, g5⟩ := h3 L f (by rw [h.dim.2.2, h.dim.2.1]; exact hd)
  obtain ⟨hm, hx9⟩ := mid_red hi h h1 hC hz g1 g2 g3 g4 g5
  refine ⟨he, 0, some ⟨cs, M, P, Q, L, f⟩, .ok h12 hE hic hw hc hd, Ext.trans hx hx9, fun e => absurd e (by simp), fun s hs => ?_⟩
  simp only [Option.some.injEq] at hs
  subst hs
  exact ⟨A, lb, rfl, hm⟩
set_option maxHeartbeats 12800000 in
set_option maxRecDepth 100000 in
theorem elim_any (ls : List (List Pw)) (m : List Pw) (xs xm : Option Addr) (cs0 cm : Nat) (w : World) (hl : ls.length ≤ 1073741824) (hz : ∀ l ∈ ls, l.length ≤ maxLen ∧ SzP 1073741824 l) (hR : PsRow w ls xs) (hm : m.length ≤ maxLen) (hzm : SzP 1073741824 m) (hRm : PRow w m xm) (hcm : m.length ≤ cm) :
    Calls Tryz.prog 61 #[.slice xs ls.length cs0, .slice xm m.length cm] w (ElPost w ls m) := by
  by_cases h12 : 12 < ls.length
  · have HF : Hid (ElPost w ls m (.returned (.tuple #[.pointer none, .int .i64 3])) w) := el_err (.many h12) (Ext.refl _)
    have q1 : (12 : Int) < (ls.length : Int) := by omega
    clear hR hRm hz hzm
    go_enter Tryz.func61, Tryz.ntmps61
    go_wp2_with fail
    go_ret2
    exact HF.out
  have q1 : ¬ (12 : Int) < (ls.length : Int) := by omega
  have q2 : (ls.length : Int) ≤ (12 : Int) := by omega
  have HPE := Lib.hid (prodsE_any ls m xs xm cs0 cm w hl hz hR hm hzm hRm)
  by_cases hE : prodsE ls m = 0
  rotate_left
  · have HF : Hid (∀ W, Ext w W → ElPost w ls m (.returned (.tuple #[.pointer none, .int .i64 (prodsE ls m)])) W) := fun W y => el_err (.bad h12 hE) y
    obtain ⟨E, hEE⟩ : ∃ E, prodsE ls m = E := ⟨_, rfl⟩
    rw [hEE] at HF HPE hE
    have q3 : (E != 0) = true := by rw [bne_iff_ne]; exact hE
    clear hEE hE hR hRm hz hzm h12
    go_enter Tryz.func61, Tryz.ntmps61
    go_wp2_with (go_at_call 70; refine (HPE.out).mono ?_; rintro e w5 ⟨he, hB⟩; subst he; have HX := Lib.hid (HF.out _ hB); clear hB)
    go_ret2
    exact HX.out
  have hok := prodsE_ok hE
  rw [hE] at HPE
  have hTl : (ls.flatten ++ m).length ≤ 2600 := by
    have h1 := flat_len12 (fun l hl => (powE_ok (hok.1 l hl)).1)
    have h2 := (powE_ok hok.2).1
    rw [List.length_append]; omega
  have HGL := Lib.hid (gen_ok (fun l hl => (hz l hl).2) hok.1)
  have HGM : Hid (GenOk [m]) := gen_ok (fun l hl => by simp only [List.mem_singleton] at hl; subst hl; exact hzm) (fun l hl => by simp only [List.mem_singleton] at hl; subst hl; exact hok.2)
  have hsz : SzP 1073741824 (ls.flatten ++ m) := fun p hp => by
    rcases List.mem_append.1 hp with hp | hp
    · obtain ⟨l, h1, h2⟩ := List.mem_flatten.1 hp
      exact (hz l h1).2 p h2
    · exact hzm p hp
  have HCO := Lib.hid (fun W (y : Ext w W) => columns_any ls m xs xm cs0 cm W (by omega) (by omega) hsz (PsRow_below (w' := W) hR y) (PRow_below (w' := W) hRm y))
  have H12 := Lib.hid h12
  have HE := Lib.hid hE
  have HCM := Lib.hid hcm
  have HR := Lib.hid hR
  have HRM := Lib.hid hRm
  have hl12 : ls.length ≤ 12 := by omega
  clear hR hRm hz hzm hok hTl hsz hE h12 hl hm hcm
  go_enter Tryz.func61, Tryz.ntmps61
  go_upto_region 7 with (first
    | (go_at_call 70; refine (HPE.out).mono ?_; rintro e w4 ⟨he, hB⟩; subst he; have HB4 : Hid (Ext w w4) := hB; have HC4 := Lib.hid (HCO.out _ hB); clear hB)
    | (go_at_call 94; refine (HC4.out).mono ?_; rintro e w5 ⟨cs, xc, cc, he, hcc, hCR, hA, hT, hsc, hcl, hB⟩; subst he; have HB5 := Lib.hid (Ext.trans HB4.out hB); have HCR := Lib.hid hCR; have HIC : Hid (IsCols cs ls m) := ⟨hA, hT⟩; have HSC := Lib.hid hsc; have HCC := Lib.hid hcc; clear hcc hCR hA hT hsc hcl hB))
  have hbx0 := EBox.new w5 (.slice xc cs.length cc) (.slice none 0 0) (.slice none 0 0) (.slice none 0 0) (.slice none 0 0) (.int .i64 0) 91
  have hx6 : Ext w5 (w5.alloc (.cells #[.slice xc cs.length cc, .slice none 0 0, .slice none 0 0, .slice none 0 0, .slice none 0 0, .int .i64 0] 91)) := (Ext.refl w5).alloc _
  generalize w5.alloc (.cells #[.slice xc cs.length cc, .slice none 0 0, .slice none 0 0, .slice none 0 0, .slice none 0 0, .int .i64 0] 91) = w6 at hbx0 hx6 ⊢
  obtain ⟨eb, heb⟩ : ∃ eb, w5.heap.size = eb := ⟨_, rfl⟩
  have HLOW : Hid (w5.heap.size ≤ eb) := Nat.le_of_eq heb
  rw [heb] at hbx0 ⊢
  have a0 := hbx0.a0
  have HX6 := Lib.hid hx6
  have HBX := Lib.hid hbx0
  clear hbx0 hx6 heb
  by_cases hw : 12 < cs.length
  · have HF : Hid (ElPost w ls m (.returned (.tuple #[.pointer none, .int .i64 3])) w6) := el_err (.wide H12.out HE.out HIC.out hw) (Ext.trans HB5.out HX6.out)
    have q5 : (12 : Int) < (cs.length : Int) := by omega
    go_wp2_with fail
    go_ret2
    exact HF.out
  have q5 : ¬ (12 : Int) < (cs.length : Int) := by omega
  have q6 : (cs.length : Int) ≤ (12 : Int) := by omega
  have HW := Lib.hid hw
  have HFI := Lib.hid (fill_any eb cs ls m xc xs xm cc cs0 cm w5 w6 HLOW.out HX6.out (by omega) HGL.out HGM.out HCM.out HSC.out HBX.out (PsRow_below (w' := w5) HR.out HB5.out) (PRow_below (w' := w5) HRM.out HB5.out) HCR.out)
  have hc12 : cs.length ≤ 12 := by omega
  clear hw
  by_cases hr : ∃ M P Q, ColR ls.length cs.length 0 (matF cs (cs.length + ls.length) ls) (fun _ => false) (fun _ => none) (some (M, P, Q))
  rotate_left
  · have HN := Lib.hid hr
    clear hr
    go_wp2_with (first
      | (go_at_call 95; refine (HFI.out).mono ?_; rintro e w7 h7; obtain ⟨he, A, lb, hA, hmid⟩ := mid_start h7 HLOW.out; subst he; subst hA; have HMI := Lib.hid hmid; clear h7 hmid; clear a0; have HFP := Lib.hid (fpivots_any A HMI.out.ok (matF cs (cs.length + ls.length) ls) (fun _ => false) (fun _ => none) xc cc w7 (by rw [HMI.out.dim.1]; omega) (by rw [HMI.out.dim.2.1]; omega) (by rw [HMI.out.dim.2.2, HMI.out.dim.2.1]; omega) (by rw [HMI.out.dim.2.2]; exact HMI.out.a0) HMI.out.mat HMI.out.piv))
      | (go_at_call 96; refine (HFP.out).mono ?_; rintro e w8 h8; obtain ⟨he, h9⟩ := piv_no HMI.out HB5.out H12.out HE.out HIC.out HW.out HN.out h8; subst he; have HF8 := Lib.hid h9; clear h8 h9))
    go_ret2
    exact HF8.out
  obtain ⟨M, P, Q, hr⟩ := hr
  have HCR2 := Lib.hid hr
  clear hr
  cases hd : redP M Q cs.length 0 (rowJ cs m (cs.length + ls.length) cs.length) with
  | none =>
    have HD := Lib.hid hd
    clear hd
    go_wp2_with (first
      | (go_at_call 95; refine (HFI.out).mono ?_; rintro e w7 h7; obtain ⟨he, A, lb, hA, hmid⟩ := mid_start h7 HLOW.out; subst he; subst hA; have HMI := Lib.hid hmid; clear h7 hmid; clear a0; have HFP := Lib.hid (fpivots_any A HMI.out.ok (matF cs (cs.length + ls.length) ls) (fun _ => false) (fun _ => none) xc cc w7 (by rw [HMI.out.dim.1]; omega) (by rw [HMI.out.dim.2.1]; omega) (by rw [HMI.out.dim.2.2, HMI.out.dim.2.1]; omega) (by rw [HMI.out.dim.2.2]; exact HMI.out.a0) HMI.out.mat HMI.out.piv))
      | (go_at_call 96; refine (HFP.out).mono ?_; rintro e w8 h8; obtain ⟨he, hi, h9⟩ := piv_yes HMI.out HCR2.out h8; subst he; have HM8 := Lib.hid h9; have HRD := Lib.hid (red_pre (M := M) (P := P) (Q := Q) h9 hi HGM.out (by omega)); clear h8 h9 hi)
      | (go_at_call 97; refine (HRD.out).mono ?_; rintro e w9 h9; obtain ⟨he, h8⟩ := red_no HM8.out HB5.out H12.out HE.out HIC.out HW.out HCR2.out HD.out h9; subst he; have HF9 := Lib.hid h8; clear h8 h9))
    go_ret2
    exact HF9.out
  | some p =>
    obtain ⟨L, f⟩ := p
    have HD := Lib.hid hd
    clear hd
    go_wp2_with (first
      | (go_at_call 95; refine (HFI.out).mono ?_; rintro e w7 h7; obtain ⟨he, A, lb, hA, hmid⟩ := mid_start h7 HLOW.out; subst he; subst hA; have HMI := Lib.hid hmid; clear h7 hmid; clear a0; have HFP := Lib.hid (fpivots_any A HMI.out.ok (matF cs (cs.length + ls.length) ls) (fun _ => false) (fun _ => none) xc cc w7 (by rw [HMI.out.dim.1]; omega) (by rw [HMI.out.dim.2.1]; omega) (by rw [HMI.out.dim.2.2, HMI.out.dim.2.1]; omega) (by rw [HMI.out.dim.2.2]; exact HMI.out.a0) HMI.out.mat HMI.out.piv))
      | (go_at_call 96; refine (HFP.out).mono ?_; rintro e w8 h8; obtain ⟨he, hi, h9⟩ := piv_yes HMI.out HCR2.out h8; subst he; have HM8 := Lib.hid h9; have HPI := Lib.hid hi; have HRD := Lib.hid (red_pre (M := M) (P := P) (Q := Q) h9 hi HGM.out (by omega)); clear h8 h9 hi)
      | (go_at_call 97; refine (HRD.out).mono ?_; rintro e w9 h9; obtain ⟨he, h8⟩ := red_yes HPI.out HM8.out HB5.out H12.out HE.out HIC.out HW.out HCR2.out HD.out HCR.out HSC.out h9; subst he; have HF9 := Lib.hid h8; clear h8 h9))
    go_ret2
    exact HF9.out
end Go.Proofs.YtcieadjjcpmieaaGreat

/-
  THE WALK OF exponent's Member.
-/
namespace Go.Proofs.YtcieadjjcpmieaaGreat
open Go.RowKit

theorem ElimR_zero {ls : List (List Pw)} {m : List Pw} {x : Int} {r : Option ElS} (h : ElimR ls m x r) : (r = none → ¬ x = 0) ∧ ∀ s, r = some s → x = 0 := by
  cases h with
  | many _ => exact ⟨fun _ => by omega, fun s e => absurd e (by simp)⟩
  | bad _ h => exact ⟨fun _ => h, fun s e => absurd e (by simp)⟩
  | wide _ _ _ _ => exact ⟨fun _ => by omega, fun s e => absurd e (by simp)⟩
  | piv _ _ _ _ _ => exact ⟨fun _ => by omega, fun s e => absurd e (by simp)⟩
  | red _ _ _ _ _ _ => exact ⟨fun _ => by omega, fun s e => absurd e (by simp)⟩
  | ok _ _ _ _ _ _ => exact ⟨fun e => absurd e (by simp), fun _ _ => rfl⟩
theorem ElimR_ok {ls : List (List Pw)} {m : List Pw} {x : Int} {r : Option ElS} (h : ElimR ls m x r) : ∀ s, r = some s → ¬ 12 < ls.length ∧ prodsE ls m = 0 ∧ IsCols s.cs ls m ∧ ¬ 12 < s.cs.length ∧ ColR ls.length s.cs.length 0 (matF s.cs (s.cs.length + ls.length) ls) (fun _ => false) (fun _ => none) (some (s.M, s.P, s.Q)) ∧ redP s.M s.Q s.cs.length 0 (rowJ s.cs m (s.cs.length + ls.length) s.cs.length) = some (s.L, s.f) := by
  cases h with
  | many _ => exact fun s e => absurd e (by simp)
  | bad _ h => exact fun s e => absurd e (by simp)
  | wide _ _ _ _ => exact fun s e => absurd e (by simp)
  | piv _ _ _ _ _ => exact fun s e => absurd e (by simp)
  | red _ _ _ _ _ _ => exact fun s e => absurd e (by simp)
  | ok h1 h2 h3 h4 h5 h6 =>
    intro s e
    simp only [Option.some.injEq] at e
    subst e
    exact ⟨h1, h2, h3, h4, h5, h6⟩
theorem el_form {w w' : World} {ls : List (List Pw)} {m : List Pw} {e : Ending} (h : ElPost w ls m e w') : ∃ p x, e = .returned (.tuple #[.pointer p, .int .i64 x]) ∧ Ext w w' ∧ ((¬ x = 0 ∧ p = none ∧ ElimR ls m x none) ∨ (x = 0 ∧ ∃ s A lb, p = some ⟨A.eb, 0, none⟩ ∧ ElimR ls m 0 (some s) ∧ ElMem w' ls.length s A lb)) := by
  obtain ⟨x, r, h1, h2, h3, h4⟩ := h
  have hz := ElimR_zero h1
  rcases r with _ | s
  · exact ⟨none, x, h3 rfl, h2, Or.inl ⟨hz.1 rfl, rfl, h1⟩⟩
  · obtain ⟨A, lb, he, hm⟩ := h4 s rfl
    have e0 := hz.2 s rfl
    subst e0
    exact ⟨_, 0, he, h2, Or.inr ⟨rfl, s, A, lb, rfl, h1, hm⟩⟩
/-- A row whose first numbers are negated. -/
def negP (q : List Int) (j : Nat) : List Int := (q.take j).map (fun x => -x) ++ q.drop j
theorem negP_len (q : List Int) (j : Nat) : (negP q j).length = q.length := by unfold negP; simp; omega
theorem negP_at {q : List Int} {j : Nat} (h : j < q.length) : (negP q j)[j]? = some q[j] := by
  unfold negP
  have hl : ((q.take j).map (fun x => -x)).length = j := by simp; omega
  rw [List.getElem?_append_right (by omega), hl, Nat.sub_self, List.getElem?_drop]
  simp [h]
theorem negP_next {q : List Int} {j : Nat} (h : j < q.length) : (negP q j).set j (-q[j]) = negP q (j + 1) := by
  unfold negP
  have hl : ((q.take j).map (fun x => -x)).length = j := by simp; omega
  rw [List.set_append_right _ _ (by omega), hl, Nat.sub_self, List.drop_eq_getElem_cons h, List.set_cons_zero, List.take_succ_eq_append_getElem h, List.map_append, List.append_assoc]
  rfl
theorem zints_set (q : List Int) (j : Nat) (x : Int) : (zints q).set j (.int .i64 x) = zints (q.set j x) := by unfold zints; rw [List.map_set]
/-- The coefficients that a reduced row gives. -/
def coefP (s : ElS) : List Int := (s.L.drop s.cs.length).map (fun x => -x)
/-- What Member gives. -/
def MePost (w : World) (ls : List (List Pw)) (m : List Pw) (e : Ending) (w' : World) : Prop :=
  ∃ x r, ElimR ls m x r ∧ Ext w w' ∧ (r = none → e = .returned (.tuple #[.slice none 0 0, .int .i64 x])) ∧ ∀ s, r = some s → (¬ s.f = -1 → e = .returned (.tuple #[.slice none 0 0, .int .i64 4])) ∧ (s.f = -1 → InB (coefP s) ∧ (coefP s).length = ls.length ∧ ∃ v, e = .returned (.tuple #[v, .int .i64 0]) ∧ w'.ownsRow w.heap.size 3 1 v ls.length (zints (coefP s)))
theorem inb_neg {q : List Int} (h : InB q) : InB (q.map fun x => -x) := fun x hx => by
  obtain ⟨y, hy, rfl⟩ := List.mem_map.1 hx
  have := h y hy
  omega
theorem coef_len {w : World} {k : Nat} {s : ElS} {A : MA} {lb : Nat} (h : ElMem w k s A lb) : (s.L.drop s.cs.length).length = k ∧ InB (s.L.drop s.cs.length) := by
  have h1 := h.last.2.2.1
  have h2 := h.dim.2.1
  refine ⟨by rw [List.length_drop]; omega, fun x hx => h.last.2.2.2 x (List.mem_of_mem_drop hx)⟩
theorem last_ints {w W : World} {k : Nat} {s : ElS} {A : MA} {lb : Nat} (h : ElMem w k s A lb) (hk : k ≤ 1048576) (y : Ext w W) (o : Nat) (ho : 0 < k → o = s.cs.length) : IntsC W (.slice (some ⟨lb, o, none⟩) k k) (s.L.drop s.cs.length) := by
  obtain ⟨hl, hb⟩ := coef_len h
  have hI := h.last.2.1.ext y
  have hl2 := h.last.2.2.1
  have hd := h.dim.2.1
  refine ⟨_, _, by rw [hl], by omega, by unfold maxLen; omega, fun x hx => by have := hb x hx; omega, fun h0 => ⟨lb, o, rfl, fun i hi => ?_⟩⟩
  have ho' := ho (by omega)
  subst ho'
  rw [hI.2.2 (s.cs.length + i) (by omega), List.getElem_drop]
set_option maxHeartbeats 12800000 in
set_option maxRecDepth 100000 in
theorem Member_any (ls : List (List Pw)) (m : List Pw) (xs xm : Option Addr) (cs0 cm : Nat) (w : World) (hl : ls.length ≤ 1073741824) (hz : ∀ l ∈ ls, l.length ≤ maxLen ∧ SzP 1073741824 l) (hR : PsRow w ls xs) (hm : m.length ≤ maxLen) (hzm : SzP 1073741824 m) (hRm : PRow w m xm) (hcm : m.length ≤ cm) :
    Calls Tryz.prog 26 #[.slice xs ls.length cs0, .slice xm m.length cm] w (MePost w ls m) := by
  have HEL := Lib.hid (elim_any ls m xs xm cs0 cm w hl hz hR hm hzm hRm hcm)
  clear hl hz hR hm hzm hRm hcm
  go_enter Tryz.func26, Tryz.ntmps26
  go_upto_region 2 with (go_at_call 61; refine (HEL.out).mono ?_; rintro e w5 h5; obtain ⟨p, x, he, hx, hf⟩ := el_form h5; subst he; have HX := Lib.hid hx; have HF := Lib.hid hf; clear h5 hx hf)
  by_cases hx0 : x = 0
  rotate_left
  · have HP : Hid (MePost w ls m (.returned (.tuple #[.slice none 0 0, .int .i64 x])) w5) := by
      rcases HF.out with ⟨_, _, h⟩ | ⟨h, _⟩
      · exact ⟨x, none, h, HX.out, fun _ => rfl, fun s e => absurd e (by simp)⟩
      · exact absurd h hx0
    have q1 : (x != 0) = true := by rw [bne_iff_ne]; exact hx0
    clear hx0
    go_wp2_with fail
    go_ret2
    exact HP.out
  subst hx0
  have hf : ∃ s A lb, p = some ⟨A.eb, 0, none⟩ ∧ ElimR ls m 0 (some s) ∧ ElMem w5 ls.length s A lb := by
    rcases HF.out with ⟨h, _⟩ | ⟨_, h⟩
    · exact absurd rfl h
    · exact h
  obtain ⟨s, A, lb, rfl, hr, hmem⟩ := hf
  have a5 := hmem.fail
  have HMM := Lib.hid hmem
  have HER := Lib.hid hr
  by_cases hff : s.f = -1
  rotate_left
  · have HP : Hid (MePost w ls m (.returned (.tuple #[.slice none 0 0, .int .i64 4])) w5) :=
      ⟨0, some s, HER.out, HX.out, fun e => absurd e (by simp), fun s' e => by simp only [Option.some.injEq] at e; subst e; exact ⟨fun _ => rfl, fun h => absurd h hff⟩⟩
    have q1 : (s.f != -1) = true := by rw [bne_iff_ne]; exact hff
    clear hff hmem hr
    go_wp2_with fail
    go_ret2
    exact HP.out
  rw [hff] at a5
  have HFF := Lib.hid hff
  have hk12 : ls.length ≤ 12 ∧ s.cs.length ≤ 12 := by
    have := ElimR_ok hr s rfl
    exact ⟨by omega, by omega⟩
  obtain ⟨xc, cc, hc0, hcr⟩ := hmem.cols
  have hl4 := hmem.last.1
  obtain ⟨hql, hqb⟩ := coef_len hmem
  obtain ⟨q, hq⟩ : ∃ q, s.L.drop s.cs.length = q := ⟨_, rfl⟩
  have HQ := Lib.hid hq
  rw [hq] at hql hqb
  have HQL := Lib.hid hql
  have HQB := Lib.hid hqb
  have hdl : A.l = s.cs.length + ls.length := hmem.dim.2.1
  have HCL := Lib.hid (fun W (y : Ext w5 W) (o : Nat) (ho : 0 < ls.length → o = s.cs.length) => cloneO_any (.slice (some ⟨lb, o, none⟩) ls.length ls.length) q W (by rw [← hq]; exact last_ints hmem (by omega) y o ho) (by omega))
  obtain ⟨eb, heb⟩ : ∃ eb, A.eb = eb := ⟨_, rfl⟩
  obtain ⟨l, hle⟩ : ∃ l, A.l = l := ⟨_, rfl⟩
  obtain ⟨n, hn⟩ : ∃ n, s.cs.length = n := ⟨_, rfl⟩
  obtain ⟨k, hk⟩ : ∃ k, ls.length = k := ⟨_, rfl⟩
  have HKE := Lib.hid hk
  rw [hle, hn, hk] at hdl
  rw [hn, hk] at hk12 HCL
  rw [hk] at HQL
  rw [heb] at a5 hc0 hl4 ⊢
  rw [hle] at hl4
  rw [hn] at hc0
  rw [hk]
  have HEND : Hid (∀ W v, Ext w5 W → W.ownsRow w5.heap.size 3 1 v k (zints (q.map fun x => -x)) → MePost w ls m (.returned (.tuple #[v, .int .i64 0])) W) := by
    show ∀ _, _
    intro W v y ho
    have e1 : coefP s = q.map (fun x => -x) := by unfold coefP; rw [HQ.out]
    refine ⟨0, some s, HER.out, Ext.trans HX.out y, fun e => absurd e (by simp), fun s' e => ?_⟩
    simp only [Option.some.injEq] at e
    subst e
    refine ⟨fun h => absurd HFF.out h, fun _ => ?_⟩
    rw [e1]
    exact ⟨inb_neg HQB.out, by rw [List.length_map, HQL.out, HKE.out], v, rfl, by rw [HKE.out]; exact own_base ho HX.out.size⟩
  have HCr : Hid (∀ W, Ext w5 W → W.cell? ⟨eb, 4, none⟩ = some (.slice (some ⟨lb, 0, none⟩) l l) ∧ W.cell? ⟨eb, 0, none⟩ = some (.slice xc n cc)) := fun W y => ⟨keep_below y _ _ hl4, keep_below y _ _ hc0⟩
  have j1 : (n : Int) ≤ (l : Int) := by omega
  have j2 : (0 : Int) ≤ (n : Int) := by omega
  have j3 : l - n = k := by omega
  have hF0 : Ext w5 w5.drew := (Ext.refl w5).drew
  obtain ⟨hk12, hn12⟩ := hk12
  clear hmem hr hff hcr hql hqb hq heb hle hn hk
  by_cases h0 : k = 0
  · have hqn : q = [] := List.length_eq_zero_iff.1 (by rw [HQL.out]; exact h0)
    have hln : l = n := by omega
    subst hln
    have HC2 := Lib.hid (fun W (y : Ext w5 W) => HCL.out W y 0 (fun h => by omega))
    rw [h0] at HC2 j3 ⊢
    clear HCL hdl
    go_wp2_with fail
    go_region_held3 (fun W => W.cell? ⟨eb, 4, none⟩ = some (.slice (some ⟨lb, 0, none⟩) l l) ∧ W.cell? ⟨eb, 0, none⟩ = some (.slice xc l cc))
      (first | exact HCr.out _ (by assumption) | go_keep)
      (first | (go_at_call 34; refine (HC2.out _ hF0).mono ?_; rintro e w6 ⟨v6, he, ho6, hB6⟩; subst he; have hF1 : Ext w5 w6 := hF0.trans hB6; clear hB6))
    have HO6 := Lib.hid (show w6.ownsRow w5.heap.size 3 1 _ k (zints q) by rw [← HQL.out]; exact ho6)
    have HF := Lib.hid (HEND.out w6 _ hF1 (by have e : q.map (fun x => -x) = q := (by rw [hqn]; rfl); rw [e]; exact HO6.out))
    obtain ⟨xa6, cap6, hv⟩ := own_form HO6.out
    subst hv
    rw [h0] at HF ⊢
    clear ho6 hF1 hF0 HC2 hl4 hc0 a5 hqn
    go_wp2_with fail
    go_loopw [37] (fun i wr => i = .int .i64 0 ∧ wr = w6) (fun i _ => (intOf i).toNat)
    case atStart => exact ⟨rfl, rfl⟩
    case round =>
      obtain ⟨rfl, rfl⟩ := hrel
      go_wp2_with fail
      go_ret2
      exact HF.out
  · have j4 : ¬ l = n := by omega
    have HC2 := Lib.hid (fun W (y : Ext w5 W) => HCL.out W y n (fun _ => rfl))
    clear HCL hdl
    go_wp2_with fail
    go_region_held3 (fun W => W.cell? ⟨eb, 4, none⟩ = some (.slice (some ⟨lb, 0, none⟩) l l) ∧ W.cell? ⟨eb, 0, none⟩ = some (.slice xc n cc))
      (first | exact HCr.out _ (by assumption) | go_keep)
      (first | (go_at_call 34; refine (HC2.out _ hF0).mono ?_; rintro e w6 ⟨v6, he, ho6, hB6⟩; subst he; have hF1 : Ext w5 w6 := hF0.trans hB6; clear hB6))
    have HO6 := Lib.hid (show w6.ownsRow w5.heap.size 3 1 _ k (zints q) by rw [← HQL.out]; exact ho6)
    obtain ⟨g, cap6, hv⟩ := own_form_pos HO6.out (by omega)
    subst hv
    have HX6 := Lib.hid hF1
    clear ho6 hF1 hF0 HC2 hl4 hc0 a5
    go_wp2_with fail
    go_loopw [37] (fun i wr => ∃ j : Nat, j ≤ k ∧ i = .int .i64 j ∧ wr.ownsRow w5.heap.size 3 1 (.slice (some ⟨g, 0, none⟩) k cap6) k (zints (negP q j)) ∧ Ext w5 wr) (fun i _ => k - (intOf i).toNat)
    case atStart => exact ⟨0, Nat.zero_le _, rfl, by simpa [negP] using HO6.out, HX6.out⟩
    case round =>
      obtain ⟨j, hj, rfl, ho, hE⟩ := hrel
      have HO := Lib.hid ho
      have HEr := Lib.hid hE
      by_cases hlt : j < k
      rotate_left
      · obtain rfl : k = j := by omega
        have HF := Lib.hid (HEND.out wr _ hE (by have e : negP q k = q.map (fun x => -x) := (by unfold negP; rw [← HQL.out, List.take_length, List.drop_length, List.append_nil]); rw [← e]; exact ho))
        clear ho hE
        go_wp2_with fail
        go_ret2
        exact HF.out
      have hjq : j < q.length := by rw [HQL.out]; exact hlt
      have hgl := (ho.lt g rfl).1
      have c0 := ho.cellAt j (by omega)
      have e0 : (zints (negP q j))[j]? = some (.int .i64 q[j]) := by unfold zints; rw [List.getElem?_map, negP_at hjq]; rfl
      rw [e0] at c0
      have c1 := ho.frozenAt j
      have hb := HQB.out q[j] (List.getElem_mem hjq)
      have HNX : Hid ((wr.setCell ⟨g, j, none⟩ (.int .i64 (-q[j]))).ownsRow w5.heap.size 3 1 (.slice (some ⟨g, 0, none⟩) k cap6) k (zints (negP q (j + 1)))) := by
        have := (ho.stored j (.int .i64 (-q[j]))).1
        rw [zints_set, negP_next hjq] at this
        exact this
      have HXX : Hid (Ext w5 (wr.setCell ⟨g, j, none⟩ (.int .i64 (-q[j])))) := Below.setCell hE hgl _
      generalize q[j] = z at c0 hb HNX HXX
      obtain ⟨hb1, hb2⟩ := hb
      have i1 : (0 : Int) ≤ (j : Int) := by omega
      have i2 : (j : Int) < (k : Int) := by omega
      clear ho hE e0 hjq
      go_wp2_with fail
      go_roundw
      case rel => exact ⟨j + 1, by omega, by go_num, HNX.out, HXX.out⟩
      case measure => simp [intOf]; omega
end Go.Proofs.YtcieadjjcpmieaaGreat

/-
  THE EXAMPLES OF CHAPTER 6 on plain data.
-/
namespace Go.Proofs.YtcieadjjcpmieaaGreat
open Go.RowKit

def xA : Tm := .mk 2 ⟨#[97]⟩ 2 []
def xB : Tm := .mk 2 ⟨#[98]⟩ 2 []
def xMul (l : List Tm) : Tm := .mk 3 ⟨#[109, 117, 108]⟩ 0 l
def xInv (t : Tm) : Tm := .mk 3 ⟨#[105, 110, 118]⟩ 0 [t]
def xT : Tm := xMul [xB, xInv (xMul [xA, xB]), xA, xA]
def yT : Tm := xMul [xA, xInv xB, xA]
def zT : Tm := xMul [xA, xA, xInv xB]
def p1 : List Pw := [(xA, 1)]
def p2 : List Pw := [(xA, 2)]
def p2m : List Pw := [(xA, 2), (xB, -1)]
def p21 : List Pw := [(xA, 2), (xB, 1)]
def p03 : List Pw := [(xB, 3)]
def p24 : List Pw := [(xA, 2), (xB, 4)]
def p11 : List Pw := [(xA, 1), (xB, 1)]
def lsX : List (List Pw) := [p21, p03]
theorem ofX : ofP xT = (p1, 0) := by kernel_rfl
theorem ofY : ofP yT = (p2m, 0) := by kernel_rfl
theorem teY : termP p2m = (zT, 0) := by kernel_rfl
theorem crX1 : crefB lsX p2 3 p11 = true := by kernel_rfl
theorem crX2 : crefB lsX p1 2 p1 = true := by kernel_rfl
theorem crX3 : crefB lsX p2 2 p1 = false := by kernel_rfl
theorem colsX {cs : List Pw} {m : List Pw} (hm : ∀ p ∈ m, p.1 = xA ∨ p.1 = xB) (h : IsCols cs lsX m) : ∃ x y, cs = [(xA, x), (xB, y)] := by
  obtain ⟨ha, ht⟩ := h
  have e : cs.map Prod.fst = [xA, xB] := by
    refine asc_one _ _ (List.pairwise_map.2 ha) ?_ (fun t => ?_)
    · exact List.pairwise_cons.2 ⟨fun u hu => by simp only [List.mem_singleton] at hu; subst hu; exact (by decide : (-1 : Int) < 0) |> fun h => (show cmpT xA xB < 0 by rw [show cmpT xA xB = -1 by kernel_rfl]; exact h), List.pairwise_singleton _ _⟩
    · rw [List.mem_map]
      rw [ht t]
      constructor
      · rintro ⟨p, hp, rfl⟩
        rcases List.mem_append.1 hp with hp | hp
        · simp only [lsX, p21, p03, List.flatten_cons, List.flatten_nil, List.append_nil, List.cons_append, List.nil_append, List.mem_cons, List.not_mem_nil, or_false] at hp
          rcases hp with rfl | rfl | rfl <;> simp
        · rcases hm p hp with e | e <;> rw [e] <;> simp
      · intro h
        simp only [List.mem_cons, List.not_mem_nil, or_false] at h
        rcases h with rfl | rfl
        · exact ⟨(xA, 2), by simp [lsX, p21], rfl⟩
        · exact ⟨(xB, 1), by simp [lsX, p21], rfl⟩
  clear ha ht
  rcases cs with _ | ⟨p, _ | ⟨q, _ | ⟨u, l⟩⟩⟩
  · simp at e
  · simp at e
  · simp only [List.map_cons, List.map_nil, List.cons.injEq, and_true] at e
    exact ⟨p.2, q.2, by rw [← e.1, ← e.2]⟩
  · simp at e
def PX2 : Nat → Bool := fun x => decide (x = 1) || (decide (x = 0) || false)
def QX2 : Nat → Option Nat := upd (upd (fun _ => none) 0 (some 0)) 1 (some 1)
theorem colrX (x y : Int) : ColR 2 2 0 (matF [(xA, x), (xB, y)] 4 lsX) (fun _ => false) (fun _ => none) (some (matF [(xA, x), (xB, y)] 4 lsX, PX2, QX2)) := by
  refine ColR.pick (b := 0) (by omega) (PivR.alone ?_ ?_) (ColR.pick (b := 1) (by omega) (PivR.alone ?_ ?_) ColR.done)
  · kernel_rfl
  · kernel_rfl
  · kernel_rfl
  · kernel_rfl
theorem redX1 (x y : Int) : redP (matF [(xA, x), (xB, y)] 4 lsX) QX2 2 0 (rowJ [(xA, x), (xB, y)] p24 4 2) = some ([0, 0, -1, -1], -1) := by kernel_rfl
theorem redX2 (x y : Int) : redP (matF [(xA, x), (xB, y)] 4 lsX) QX2 2 0 (rowJ [(xA, x), (xB, y)] p2 4 2) = some ([0, -1, -1, 0], 1) := by kernel_rfl
theorem redX3 (x y : Int) : redP (matF [(xA, x), (xB, y)] 4 lsX) QX2 2 0 (rowJ [(xA, x), (xB, y)] p1 4 2) = some ([1, 0, 0, 0], 0) := by kernel_rfl
theorem elimX {m : List Pw} {x : Int} {r : Option ElS} {L : List Int} {f : Int} (hm : ∀ p ∈ m, p.1 = xA ∨ p.1 = xB) (hE : prodsE lsX m = 0) (hr : ∀ x y, redP (matF [(xA, x), (xB, y)] 4 lsX) QX2 2 0 (rowJ [(xA, x), (xB, y)] m 4 2) = some (L, f)) (h : ElimR lsX m x r) : x = 0 ∧ ∃ s, r = some s ∧ s.f = f ∧ s.L = L ∧ s.cs.length = 2 := by
  cases h with
  | many h => exact absurd h (by decide)
  | bad _ h => exact absurd hE h
  | wide _ _ h h4 =>
    obtain ⟨x, y, rfl⟩ := colsX hm h
    exact absurd h4 (by simp)
  | piv _ _ h _ h5 =>
    obtain ⟨x, y, rfl⟩ := colsX hm h
    exact absurd (ColR_one (colrX x y) h5) (by simp)
  | red _ _ h _ h5 h6 =>
    obtain ⟨x, y, rfl⟩ := colsX hm h
    have e := ColR_one (colrX x y) h5
    simp only [Option.some.injEq, Prod.mk.injEq] at e
    obtain ⟨rfl, rfl, rfl⟩ := e
    exact absurd ((hr x y).symm.trans h6) (by simp)
  | ok _ _ h _ h5 h6 =>
    obtain ⟨x, y, rfl⟩ := colsX hm h
    have e := ColR_one (colrX x y) h5
    simp only [Option.some.injEq, Prod.mk.injEq] at e
    obtain ⟨rfl, rfl, rfl⟩ := e
    have e2 := (hr x y).symm.trans h6
    simp only [Option.some.injEq, Prod.mk.injEq] at e2
    exact ⟨rfl, _, rfl, e2.2.symm, e2.1.symm, rfl⟩
end Go.Proofs.YtcieadjjcpmieaaGreat
