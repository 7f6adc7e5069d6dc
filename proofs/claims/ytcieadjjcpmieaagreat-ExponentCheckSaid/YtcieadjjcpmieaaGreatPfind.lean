/-
  THE WALK OF exponent's findPivot.
-/
import Derived.Test.YtcieadjjcpmieaaGreatPsub
import Derived.StillTailTactics
namespace Go.Proofs.YtcieadjjcpmieaaGreat
open Go.RowKit

/-- The parts of an elimination lie in blocks of their own. -/
structure MOk (A : MA) : Prop where
  inj : ∀ i j, i < A.k → j < A.k → A.rs i = A.rs j → i = j
  eb : ∀ i, i < A.k → A.rs i ≠ A.eb
  rb : ∀ i, i < A.k → A.rs i ≠ A.rb
  ib : ∀ i, i < A.k → A.rs i ≠ A.ib
  pb : ∀ i, i < A.k → A.rs i ≠ A.pb
  ie : A.ib ≠ A.eb
  ir : A.ib ≠ A.rb
  ip : A.ib ≠ A.pb
  pe : A.pb ≠ A.eb
  pr : A.pb ≠ A.rb
/-- Nothing but what lies in S has changed. -/
structure Kp (S : Nat → Prop) (w w' : World) : Prop where
  os : w'.os = w.os
  tape : w'.tape = w.tape
  output : w'.output = w.output
  size : w.heap.size ≤ w'.heap.size
  block : ∀ b, b < w.heap.size → ¬ S b → w'.heap[b]? = w.heap[b]?
theorem Kp.refl (S : Nat → Prop) (w : World) : Kp S w w := ⟨rfl, rfl, rfl, Nat.le_refl _, fun _ _ _ => rfl⟩
theorem Kp.trans {S : Nat → Prop} {w w' w'' : World} (h : Kp S w w') (k : Kp S w' w'') : Kp S w w'' :=
  ⟨k.os.trans h.os, k.tape.trans h.tape, k.output.trans h.output, Nat.le_trans h.size k.size, fun b hb hn => (k.block b (Nat.lt_of_lt_of_le hb h.size) hn).trans (h.block b hb hn)⟩
theorem Kp.ofBut {S : Nat → Prop} {g : Nat} {w w' : World} (h : But g w w') (hg : S g) : Kp S w w' :=
  ⟨h.os, h.tape, h.output, h.size, fun b hb hn => h.block b hb (by intro e; simp only [Option.some.injEq] at e; exact hn (by rw [e]; exact hg))⟩
theorem Kp.ofExt {S : Nat → Prop} {w w' : World} (h : Ext w w') : Kp S w w' := ⟨h.os, h.tape, h.output, h.size, fun b hb _ => h.block b hb⟩
theorem Kp.cell {S : Nat → Prop} {w w' : World} (h : Kp S w w') {g p : Nat} {v : Value} (hc : w.cell? ⟨g, p, none⟩ = some v) (hn : ¬ S g) : w'.cell? ⟨g, p, none⟩ = some v := by
  by_cases hg : g < w.heap.size
  · rw [World.cell?_of_block (w := w) (a := ⟨g, p, none⟩) (h.block g hg hn)]; exact hc
  · exfalso
    have hb : w.heap[g]? = none := Array.getElem?_eq_none (by omega)
    unfold World.cell? at hc
    simp [hb] at hc
/-- The blocks of the rows. -/
def rowsOf (A : MA) (b : Nat) : Prop := ∃ i, i < A.k ∧ b = A.rs i
def upd {α : Type} (f : Nat → α) (i : Nat) (v : α) : Nat → α := fun x => if x = i then v else f x
theorem rndM_step {M : Nat → List Int} {P : Nat → Bool} {c b j : Nat} (ho : opn M P c b j = true) : rndM M P c b (j + 1) = upd (rndM M P c b j) j (minR (quoM M c b j) (M j) (M b)) := by
  funext i
  unfold rndM upd
  by_cases e : i = j
  · subst e; rw [ho, decide_eq_true (by omega), if_pos rfl]; rfl
  · rw [if_neg e]
    dsimp only
    by_cases h : i < j
    · rw [decide_eq_true h, decide_eq_true (by omega : i < j + 1)]
    · rw [decide_eq_false h, decide_eq_false (by omega : ¬ i < j + 1)]
theorem rndM_skip {M : Nat → List Int} {P : Nat → Bool} {c b j : Nat} (ho : opn M P c b j = false) : rndM M P c b (j + 1) = rndM M P c b j := by
  funext i
  unfold rndM
  by_cases e : i = j
  · subst e; rw [ho, Bool.and_false, Bool.and_false]
  · by_cases h : i < j
    · rw [decide_eq_true h, decide_eq_true (by omega : i < j + 1)]
    · rw [decide_eq_false h, decide_eq_false (by omega : ¬ i < j + 1)]
theorem rndM_now {M : Nat → List Int} {P : Nat → Bool} {c b j : Nat} : rndM M P c b j j = M j := by unfold rndM; rw [decide_eq_false (Nat.lt_irrefl j)]; rfl
/-- One row is another now. -/
theorem Mat.upd {A : MA} {w w' : World} {M : Nat → List Int} {P : Nat → Bool} {i : Nat} {fs : List Int} (hA : MOk A) (h : Mat A w M P) (hi : i < A.k) (hB : But (A.rs i) w w') (hI : IRow w' (A.rs i) fs) (hl : fs.length = A.l) (hb : InB fs) : Mat A w' (upd M i fs) P := by
  have hK : Kp (fun b => b = A.rs i) w w' := Kp.ofBut hB rfl
  refine ⟨hK.cell h.rows (fun e => hA.eb i hi e.symm), hK.cell h.piv (fun e => hA.eb i hi e.symm), h.some_, fun j hj => hK.cell (h.row j hj) (fun e => hA.rb i hi e.symm), fun j hj => ?_, fun j hj => ?_, fun j hj => hK.cell (h.flag j hj) (fun e => hA.ib i hi e.symm), fun j hj => ?_⟩
  · unfold Go.Proofs.YtcieadjjcpmieaaGreat.upd
    by_cases e : j = i
    · rw [if_pos e, e]; exact hI
    · rw [if_neg e]; exact (h.num j hj).but hB (fun e2 => e (hA.inj j i hj hi e2))
  · unfold Go.Proofs.YtcieadjjcpmieaaGreat.upd
    by_cases e : j = i
    · rw [if_pos e]; exact hl
    · rw [if_neg e]; exact h.wid j hj
  · unfold Go.Proofs.YtcieadjjcpmieaaGreat.upd
    by_cases e : j = i
    · rw [if_pos e]; exact hb
    · rw [if_neg e]; exact h.inb j hj
/-- The rows as they lie. -/
def Mw (A : MA) (w : World) : Nat → List Int := fun i => (List.range A.l).map fun c => intOf ((w.cell? ⟨A.rs i, c, none⟩).getD (.int .i64 0))
theorem Mw_eq {A : MA} {w : World} {M : Nat → List Int} {P : Nat → Bool} (h : Mat A w M P) {i : Nat} (hi : i < A.k) : Mw A w i = M i := by
  have hw := h.wid i hi
  refine List.ext_getElem (by simp [Mw, hw]) fun c h1 h2 => ?_
  have := (h.num i hi).2.2 c h2
  simp [Mw, this, intOf]
theorem leastN_congr {M M' : Nat → List Int} {P : Nat → Bool} {c : Nat} : ∀ k, (∀ i, i < k → M i = M' i) → leastN M P c k = leastN M' P c k
  | 0, _ => rfl
  | k + 1, h => by
    have ih := leastN_congr (P := P) (c := c) k (fun i hi => h i (by omega))
    have e1 : gM M k c = gM M' k c := by unfold gM; rw [h k (by omega)]
    have e2 : isOpen M P c k = isOpen M' P c k := by unfold isOpen; rw [e1]
    simp only [leastN]
    rw [e1, e2, ih]
    rcases leastN_cases M' P c k with ⟨h1, _⟩ | ⟨b, hb, h1, _⟩
    · rw [h1]
      simp
    · have e3 : gM M (leastN M' P c k).toNat c = gM M' (leastN M' P c k).toNat c := by
        have : (leastN M' P c k).toNat = b := by omega
        rw [this]; unfold gM; rw [h b (by omega)]
      rw [e3]
theorem alN_congr {M M' : Nat → List Int} {P : Nat → Bool} {c b : Nat} : ∀ k, (∀ i, i < k → M i = M' i) → alN M P c b k = alN M' P c b k
  | 0, _ => rfl
  | k + 1, h => by
    have ih := alN_congr (P := P) (c := c) (b := b) k (fun i hi => h i (by omega))
    have e : opn M P c b k = opn M' P c b k := by unfold opn isOpen gM; rw [h k (by omega)]
    simp only [alN]
    rw [ih, e]
theorem measM_congr {M M' : Nat → List Int} {P : Nat → Bool} {c k : Nat} (h : ∀ i, i < k → M i = M' i) : measM M P c k = measM M' P c k := by
  unfold measM
  rw [leastN_congr k h]
  rcases leastN_cases M' P c k with ⟨h1, _⟩ | ⟨b, hb, h1, _⟩
  · rw [h1]; simp
  · have ht : (leastN M' P c k).toNat = b := by omega
    have e3 : gM M b c = gM M' b c := by unfold gM; rw [h b hb]
    rw [ht, e3, alN_congr k h]
/-- The pivots of the columns. -/
def pvV (A : MA) : Option Nat → Value
  | none => .slice none 0 0
  | some b => .slice (some ⟨A.rs b, 0, none⟩) A.l (A.cs b)
structure Piv (A : MA) (w : World) (Q : Nat → Option Nat) : Prop where
  at_ : w.cell? ⟨A.eb, 3, none⟩ = some (.slice (some ⟨A.pb, 0, none⟩) A.n A.cp)
  col : ∀ i, i < A.n → w.cell? ⟨A.pb, i, none⟩ = some (pvV A (Q i))
  fz : ∀ p, w.frozen? ⟨A.pb, p, none⟩ = false
  fi : ∀ p, w.frozen? ⟨A.ib, p, none⟩ = false
  pl : A.pb < w.heap.size
  il : A.ib < w.heap.size
theorem frozen_kept {w w' : World} {g p : Nat} (h : w'.heap[g]? = w.heap[g]?) (hf : w.frozen? ⟨g, p, none⟩ = false) : w'.frozen? ⟨g, p, none⟩ = false := by
  unfold World.frozen? at hf ⊢
  rw [h]; exact hf
theorem Piv.kept {A : MA} {w w' : World} {Q : Nat → Option Nat} (hA : MOk A) (h : Piv A w Q) (k : Kp (rowsOf A) w w') : Piv A w' Q := by
  have he : ¬ rowsOf A A.eb := fun ⟨i, hi, e⟩ => hA.eb i hi e.symm
  have hp : ¬ rowsOf A A.pb := fun ⟨i, hi, e⟩ => hA.pb i hi e.symm
  have hi : ¬ rowsOf A A.ib := fun ⟨i, hi, e⟩ => hA.ib i hi e.symm
  exact ⟨k.cell h.at_ he, fun i hi => k.cell (h.col i hi) hp, fun p => frozen_kept (k.block _ h.pl hp) (h.fz p), fun p => frozen_kept (k.block _ h.il hi) (h.fi p), Nat.lt_of_lt_of_le h.pl k.size, Nat.lt_of_lt_of_le h.il k.size⟩
/-- The blocks that findPivot may write. -/
def ownA (A : MA) (b : Nat) : Prop := rowsOf A b ∨ b = A.ib ∨ b = A.pb
theorem Kp.more {S T : Nat → Prop} {w w' : World} (h : Kp S w w') (hs : ∀ b, S b → T b) : Kp T w w' := ⟨h.os, h.tape, h.output, h.size, fun b hb hn => h.block b hb (fun e => hn (hs b e))⟩
def FpPost (A : MA) (P : Nat → Bool) (c : Nat) (M0 : Nat → List Int) (Q : Nat → Option Nat) (w : World) (e : Ending) (w' : World) : Prop :=
  ∃ r, PivR P c A.k M0 r ∧ Kp (ownA A) w w' ∧ (r = none → e = .returned (.bool false)) ∧ (∀ M', r = some (M', -1) → e = .returned (.bool true) ∧ Mat A w' M' P ∧ Piv A w' Q) ∧ ∀ M' (b : Nat), r = some (M', (b : Int)) → e = .returned (.bool true) ∧ Mat A w' M' (fun x => decide (x = b) || P x) ∧ Piv A w' (upd Q c (some b))
theorem fp_none {A : MA} {P : Nat → Bool} {c : Nat} {M0 : Nat → List Int} {Q : Nat → Option Nat} {w w' : World} (h : PivR P c A.k M0 none) (hk : Kp (rowsOf A) w w') : FpPost A P c M0 Q w (.returned (.bool false)) w' :=
  ⟨none, h, hk.more fun _ h => Or.inl h, fun _ => rfl, fun _ e => absurd e (by simp), fun _ _ e => absurd e (by simp)⟩
theorem fp_done {A : MA} {P : Nat → Bool} {c : Nat} {M0 M : Nat → List Int} {Q : Nat → Option Nat} {w w' : World} (h : PivR P c A.k M0 (some (M, -1))) (hk : Kp (rowsOf A) w w') (hm : Mat A w' M P) (hq : Piv A w' Q) : FpPost A P c M0 Q w (.returned (.bool true)) w' :=
  ⟨_, h, hk.more fun _ h => Or.inl h, fun e => absurd e (by simp), fun M' e => by
    simp only [Option.some.injEq, Prod.mk.injEq, and_true] at e
    subst e; exact ⟨rfl, hm, hq⟩, fun M' b e => by
    simp only [Option.some.injEq, Prod.mk.injEq] at e
    omega⟩

theorem rndM_alone {M : Nat → List Int} {P : Nat → Bool} {c b k : Nat} (h : alN M P c b k = true) : rndM M P c b k = M := by
  funext i
  unfold rndM
  by_cases hi : i < k
  · rw [(alN_iff M P c b k).1 h i hi, Bool.and_false]; rfl
  · rw [decide_eq_false hi]; rfl
theorem Kp.ext_cell {S : Nat → Prop} {w w' : World} (h : Kp S w w') {g : Nat} {l : List Int} (hI : IRow w g l) (hn : ¬ S g) : IRow w' g l := hI.carry h.size (h.block g hI.1 hn)
theorem fp_alone {A : MA} {P : Nat → Bool} {c : Nat} {M0 M : Nat → List Int} {Q : Nat → Option Nat} {w W : World} {b : Nat} (hA : MOk A) (hk : Kp (rowsOf A) w W) (hm : Mat A W M P) (hq : Piv A W Q) (hb : b < A.k) (hc : c < A.n) (h : PivR P c A.k M0 (some (M, (b : Int)))) :
    FpPost A P c M0 Q w (.returned (.bool true)) ((W.setCell ⟨A.ib, b, none⟩ (.bool true)).setCell ⟨A.pb, c, none⟩ (.slice (some ⟨A.rs b, 0, none⟩) A.l (A.cs b))).drew := by
  obtain ⟨W1, hW1⟩ : ∃ W1, W.setCell ⟨A.ib, b, none⟩ (.bool true) = W1 := ⟨_, rfl⟩
  obtain ⟨W2, hW2⟩ : ∃ W2, W1.setCell ⟨A.pb, c, none⟩ (.slice (some ⟨A.rs b, 0, none⟩) A.l (A.cs b)) = W2 := ⟨_, rfl⟩
  have hB1 : But A.ib W W1 := by rw [← hW1]; exact (But.refl _ _).setCell _ _
  have hB2 : But A.pb W1 W2 := by rw [← hW2]; exact (But.refl _ _).setCell _ _
  rw [hW1, hW2]
  have hK2 : Kp (fun x => x = A.ib ∨ x = A.pb) W W2 := (Kp.ofBut (S := fun x => x = A.ib ∨ x = A.pb) hB1 (Or.inl rfl)).trans (Kp.ofBut hB2 (Or.inr rfl))
  have hK3 : Kp (fun x => x = A.ib ∨ x = A.pb) W W2.drew := hK2.trans (Kp.ofExt (Ext.refl W2).drew)
  have hKp : Kp (fun x => x = A.pb) W1 W2.drew := (Kp.ofBut (S := fun x => x = A.pb) hB2 rfl).trans (Kp.ofExt (Ext.refl W2).drew)
  have hex : Ext W2 W2.drew := (Ext.refl W2).drew
  have hne : ¬ (A.eb = A.ib ∨ A.eb = A.pb) := fun e => e.elim (fun e => hA.ie e.symm) (fun e => hA.pe e.symm)
  have hnr : ¬ (A.rb = A.ib ∨ A.rb = A.pb) := fun e => e.elim (fun e => hA.ir e.symm) (fun e => hA.pr e.symm)
  have hns : ∀ i, i < A.k → ¬ (A.rs i = A.ib ∨ A.rs i = A.pb) := fun i hi e => e.elim (hA.ib i hi) (hA.pb i hi)
  refine ⟨_, h, ((hk.more fun _ h => Or.inl h).trans (hK3.more fun _ h => Or.inr h)), fun e => absurd e (by simp), fun M' e => ?_, fun M' b' e => ?_⟩
  · simp only [Option.some.injEq, Prod.mk.injEq] at e
    omega
  · simp only [Option.some.injEq, Prod.mk.injEq, Int.ofNat_inj] at e
    obtain ⟨rfl, e2⟩ := e
    have e3 : b = b' := by omega
    subst e3
    refine ⟨rfl, ⟨hK3.cell hm.rows hne, hK3.cell hm.piv hne, hm.some_, fun i hi => hK3.cell (hm.row i hi) hnr, fun i hi => hK3.ext_cell (hm.num i hi) (hns i hi), hm.wid, fun i hi => ?_, hm.inb⟩, ⟨hK3.cell hq.at_ hne, fun i hi => ?_, fun p => ?_, fun p => ?_, ?_, ?_⟩⟩
    · refine hKp.cell ?_ (fun e => hA.ip e)
      rw [← hW1]
      by_cases e : i = b
      · subst e; rw [decide_eq_true rfl, Bool.true_or]; exact setSameE (hm.flag i hi)
      · rw [decide_eq_false e, Bool.false_or, setOtherE (fun h => e (by simp only [Addr.mk.injEq] at h; omega))]; exact hm.flag i hi
    · refine keep_below hex _ _ ?_
      have hcol : ∀ i, i < A.n → W1.cell? ⟨A.pb, i, none⟩ = some (pvV A (Q i)) := fun i hi => by
        rw [← hW1, setOtherE (fun h => by simp only [Addr.mk.injEq] at h; exact hA.ip h.1)]; exact hq.col i hi
      rw [← hW2]
      unfold upd
      by_cases e : i = c
      · subst e; rw [if_pos rfl]; exact setSameE (hcol i hi)
      · rw [if_neg e, setOtherE (fun h => e (by simp only [Addr.mk.injEq] at h; omega))]; exact hcol i hi
    · show W2.frozen? _ = false
      rw [← hW2, World.frozen?_setCell, ← hW1, World.frozen?_setCell]; exact hq.fz p
    · show W2.frozen? _ = false
      rw [← hW2, World.frozen?_setCell, ← hW1, World.frozen?_setCell]; exact hq.fi p
    · exact Nat.lt_of_lt_of_le hq.pl hK3.size
    · exact Nat.lt_of_lt_of_le hq.il hK3.size
set_option maxHeartbeats 12800000 in
set_option maxRecDepth 100000 in
theorem fpivot_any (A : MA) (hA : MOk A) (M0 : Nat → List Int) (P : Nat → Bool) (Q : Nat → Option Nat) (c : Nat) (w : World) (hk : A.k ≤ 1048576) (hl : A.l ≤ 1048576) (hc : c < A.l) (hcn : c < A.n) (_hn : A.n ≤ 1048576) (hm : Mat A w M0 P) (hq : Piv A w Q) :
    Calls Tryz.prog 119 #[.pointer (some ⟨A.eb, 0, none⟩), .int .i64 c] w (FpPost A P c M0 Q w) := by
  have HMA := Lib.hid hA
  have HLE := Lib.hid (fun M W (h : Mat A W M P) => least_any A M P c W hk hl hc h)
  have HM0 := Lib.hid hm
  have HQ0 := Lib.hid hq
  obtain ⟨eb, heb⟩ : ∃ eb, A.eb = eb := ⟨_, rfl⟩
  obtain ⟨k, hke⟩ : ∃ k, A.k = k := ⟨_, rfl⟩
  obtain ⟨l, hle⟩ : ∃ l, A.l = l := ⟨_, rfl⟩
  obtain ⟨xr, hxr⟩ : ∃ xr, A.xr = xr := ⟨_, rfl⟩
  obtain ⟨cr, hcr⟩ : ∃ cr, A.cr = cr := ⟨_, rfl⟩
  obtain ⟨ib, hib⟩ : ∃ ib, A.ib = ib := ⟨_, rfl⟩
  obtain ⟨ci, hci⟩ : ∃ ci, A.ci = ci := ⟨_, rfl⟩
  obtain ⟨rb, hrb⟩ : ∃ rb, A.rb = rb := ⟨_, rfl⟩
  have HKE := Lib.hid hke
  have HLL := Lib.hid hle
  have HC : Hid (∀ M W, Mat A W M P → W.cell? ⟨eb, 1, none⟩ = some (.slice xr k cr) ∧ W.cell? ⟨eb, 2, none⟩ = some (.slice (some ⟨ib, 0, none⟩) k ci)) := fun M W h => by
    have h1 := h.rows
    have h2 := h.piv
    rw [heb, hxr, hke, hcr] at h1
    rw [heb, hib, hke, hci] at h2
    exact ⟨h1, h2⟩
  have HS : Hid (0 < k → xr = some ⟨rb, 0, none⟩) := fun h => by
    have := HM0.out.some_ (by rw [hke]; exact h)
    rw [hxr, hrb] at this; exact this
  have HR : Hid (∀ M W, Mat A W M P → ∀ i, i < k → W.cell? ⟨rb, i, none⟩ = some (.slice (some ⟨A.rs i, 0, none⟩) l (A.cs i)) ∧ W.cell? ⟨ib, i, none⟩ = some (.bool (P i)) ∧ W.cell? ⟨A.rs i, c, none⟩ = some (.int .i64 (gM M i c)) ∧ -1099511627776 ≤ gM M i c ∧ gM M i c ≤ 1099511627776) := fun M W h i hi => by
    have hi' : i < A.k := by rw [hke]; exact hi
    have h1 := h.row i hi'
    have h2 := h.flag i hi'
    rw [hrb, hle] at h1
    rw [hib] at h2
    exact ⟨h1, h2, h.at_ hi' hc⟩
  have HHC := Lib.hid hc
  obtain ⟨n, hne⟩ : ∃ n, A.n = n := ⟨_, rfl⟩
  obtain ⟨pb, hpb⟩ : ∃ pb, A.pb = pb := ⟨_, rfl⟩
  obtain ⟨cp, hcp⟩ : ∃ cp, A.cp = cp := ⟨_, rfl⟩
  have HC3 : Hid (∀ W, Piv A W Q → W.cell? ⟨eb, 3, none⟩ = some (.slice (some ⟨pb, 0, none⟩) n cp) ∧ (W.cell? ⟨pb, c, none⟩ = some (pvV A (Q c)) ∧ W.frozen? ⟨pb, c, none⟩ = false) ∧ ∀ p, W.frozen? ⟨ib, p, none⟩ = false) := fun W h => by
    have h1 := h.at_
    have h2 := h.col c hcn
    have h3 := h.fz c
    have h4 := h.fi
    rw [heb, hpb, hne, hcp] at h1
    rw [hpb] at h2 h3
    rw [hib] at h4
    exact ⟨h1, ⟨h2, h3⟩, h4⟩
  have HNE := Lib.hid hne
  have HPB := Lib.hid hpb
  have HIB := Lib.hid hib
  have HCN := Lib.hid hcn
  rw [hne] at hcn _hn
  rw [heb]
  rw [heb, hke] at HLE
  rw [hke] at hk
  rw [hle] at hl hc
  clear hm hq hA heb hke hle hxr hcr hib hci hrb hne hpb hcp
  have c1 : (0 : Int) ≤ (c : Int) := by omega
  have c2 : (c : Int) < (l : Int) := by omega
  go_enter Tryz.func119, Tryz.ntmps119
  go_wp2_with fail
  go_loopw [5] (fun _ wr => ∃ M, Mat A wr M P ∧ Kp (rowsOf A) w wr ∧ ∀ r, PivR P c A.k M r → PivR P c A.k M0 r) (fun _ wr => measM (Mw A wr) P c A.k)
  case atStart => exact ⟨M0, HM0.out, Kp.refl _ _, fun _ h => h⟩
  case round =>
    obtain ⟨M, hM, hK, hP⟩ := hrel
    have HM := Lib.hid hM
    have HK := Lib.hid hK
    have HP := Lib.hid hP
    have HLC := Lib.hid (HLE.out M wr hM)
    have hcs := leastN_cases M P c k
    clear hM hK hP
    rcases hcs with ⟨hL, _⟩ | ⟨b, hb, hL, hob, _⟩
    · rw [hL] at HLC
      have HF : Hid (∀ W, Ext wr W → FpPost A P c M0 Q w (.returned (.bool true)) W) := fun W x => by
        have hk1 := HK.out.trans (Kp.ofExt x)
        exact fp_done (HP.out _ (PivR.none_ (by rw [HKE.out]; exact hL))) hk1 (HM.out.ext x) (HQ0.out.kept HMA.out hk1)
      clear hL
      go_wp2_with (go_at_call 141; refine (HLC.out).mono ?_; rintro e w5 ⟨he, hx⟩; subst he; have HF5 := Lib.hid (HF.out w5 hx); clear hx)
      go_ret
      exact HF5.out
    rw [hL] at HLC
    have HL := Lib.hid hL
    have HOB := Lib.hid hob
    obtain rfl := HS.out (by omega)
    clear hL hob
    have i3 : (0 : Int) ≤ (b : Int) := by omega
    have i4 : (b : Int) < (k : Int) := by omega
    have q5 : ((b : Int) == -1) = false := by simp
    have HK5 : Hid (∀ W, Ext wr W → Kp (rowsOf A) w W) := fun W x => HK.out.trans (Kp.ofExt x)
    have HMS : Hid (∀ W, Mat A W (rndM M P c b k) P → alN M P c b k = false → measM (Mw A W) P c A.k < measM (Mw A wr) P c A.k) := fun W h ha => by
      rw [measM_congr (M' := rndM M P c b k) (fun i hi => Mw_eq h hi), measM_congr (M := Mw A wr) (M' := M) (fun i hi => Mw_eq HM.out hi), HKE.out]
      exact meas_less (fun i hi => HM.out.wid i (by rw [HKE.out]; exact hi)) HHC.out HL.out ha
    obtain ⟨w1, hw1⟩ : ∃ v : World, v = wr := ⟨_, rfl⟩
    subst hw1
    go_wp2_with (go_at_call 141; refine (HLC.out).mono ?_; rintro e w5 ⟨he, hx⟩; subst he; have HX5 := Lib.hid hx; obtain ⟨e1, e2⟩ := HC.out M w5 (HM.out.ext hx); clear hx)
    have HM5 := Lib.hid (HM.out.ext HX5.out)
    have HKX := Lib.hid (HK5.out w5 HX5.out)
    go_loopw [6, 19] (fun al i wr => ∃ j : Nat, j ≤ k ∧ i = .int .i64 j ∧ al = .bool (alN M P c b j) ∧ Mat A wr (rndM M P c b j) P ∧ Kp (rowsOf A) w wr ∧ rndOk M P c b j = true) (fun _ i _ => k - (intOf i).toNat)
    case atStart => exact ⟨0, Nat.zero_le _, rfl, rfl, by rw [rndM_zero]; exact HM5.out, HKX.out, rfl⟩
    case round =>
      obtain ⟨j, hj, rfl, rfl, hM, hK, hok⟩ := hrel
      have HMj := Lib.hid hM
      have HKj := Lib.hid hK
      have HOK := Lib.hid hok
      clear e1 e2 hok hK
      obtain ⟨e1, e2⟩ := HC.out _ wr hM
      by_cases hlt : j < k
      rotate_left
      · obtain rfl : j = k := by omega
        have HW : Hid (∀ r, PivR P c A.k (rndM M P c b j) r → alN M P c b j = false → PivR P c A.k M0 r) := fun r h ha => HP.out _ (by
          rw [HKE.out] at h ⊢
          exact PivR.step HL.out ha HOK.out h)
        cases hal : alN M P c b j with
        | false =>
          have HMS2 := Lib.hid (HMS.out wr HMj.out hal)
          have HW2 := Lib.hid (fun r h => HW.out r h hal)
          clear hal hM
          go_wp2_with fail
          go_roundw
          case rel => exact ⟨_, HMj.out, HKj.out, HW2.out⟩
          case measure => exact HMS2.out
        | true =>
          obtain ⟨f1, ⟨f2, f3⟩, f4⟩ := HC3.out wr (HQ0.out.kept HMA.out HKj.out)
          obtain ⟨s1, s2, s3, s4⟩ := HR.out _ wr HMj.out b hb
          have f5 := f4 b
          have c3 : (c : Int) < (n : Int) := by omega
          have HF : Hid (FpPost A P c M0 Q w (.returned (.bool true)) ((wr.setCell ⟨ib, b, none⟩ (.bool true)).setCell ⟨pb, c, none⟩ (.slice (some ⟨A.rs b, 0, none⟩) l (A.cs b))).drew) := by
            have hm := HMj.out
            rw [rndM_alone hal] at hm
            have := fp_alone (W := wr) HMA.out HKj.out hm (HQ0.out.kept HMA.out HKj.out) (by rw [HKE.out]; exact hb) HCN.out (HP.out _ (by rw [HKE.out]; exact PivR.alone HL.out hal))
            rw [HIB.out, HPB.out, HLL.out] at this
            exact this
          have HAL := Lib.hid hal
          have hne2 : ¬ pb = ib := fun e => HMA.out.ip (by rw [HIB.out, HPB.out, e])
          have hne3 : ¬ ib = pb := fun e => hne2 e.symm
          clear hal hM f4 s3 s4
          generalize A.cs b = cb at s1 HF
          generalize A.rs b = rb2 at s1 HF
          go_upto_region 14 with fail
          go_region
          go_wp2_with fail
          go_ret
          exact HF.out
      obtain ⟨r1, r2, r3, r4⟩ := HR.out _ wr hM j hlt
      obtain ⟨s1, s2, s3, s4⟩ := HR.out _ wr hM b hb
      have eb2 : gM (rndM M P c b j) b c = gM M b c := by unfold gM; rw [rndM_self]
      have ej2 : gM (rndM M P c b j) j c = gM M j c := by unfold gM; rw [rndM_now]
      rw [eb2] at s3 s4
      rw [ej2] at r3 r4
      have i1 : (0 : Int) ≤ (j : Int) := by omega
      have i2 : (j : Int) < (k : Int) := by omega
      have HSK : Hid (opn M P c b j = false → alN M P c b (j + 1) = alN M P c b j ∧ Mat A wr (rndM M P c b (j + 1)) P ∧ rndOk M P c b (j + 1) = true) := fun h => by
        refine ⟨by simp only [alN, h]; simp, by rw [rndM_skip h]; exact HMj.out, by simp only [rndOk, h, HOK.out]; rfl⟩
      clear hM eb2 ej2
      cases ho : opn M P c b j with
      | false =>
        obtain ⟨ha, hm2, hok2⟩ := HSK.out ho
        have HA2 := Lib.hid ha
        have HM2 := Lib.hid hm2
        have HO2 := Lib.hid hok2
        clear ha hm2 hok2 HSK
        by_cases hjb : j = b
        · have q6 : ((j : Int) == (b : Int)) = true := by simp [hjb]
          clear ho hjb
          generalize alN M P c b j = aj at HA2 ⊢
          go_wp2_with fail
          go_roundw
          case rel => exact ⟨j + 1, by omega, by go_num, by rw [HA2.out], HM2.out, HKj.out, HO2.out⟩
          case measure => simp [intOf]; omega
        have q6 : ((j : Int) == (b : Int)) = false := by simp; omega
        cases hp : P j with
        | true =>
          rw [hp] at r2
          clear ho hjb hp
          generalize alN M P c b j = aj at HA2 ⊢
          go_wp2_with fail
          go_roundw
          case rel => exact ⟨j + 1, by omega, by go_num, by rw [HA2.out], HM2.out, HKj.out, HO2.out⟩
          case measure => simp [intOf]; omega
        | false =>
          rw [hp] at r2
          have hx0 : gM M j c = 0 := Classical.byContradiction fun h => by
            have := (opn_iff M P c b j).2 ⟨hjb, hp, h⟩
            rw [ho] at this
            exact absurd this (by simp)
          rw [hx0] at r3
          clear ho hjb hp
          generalize alN M P c b j = aj at HA2 ⊢
          go_wp2_with fail
          go_roundw
          case rel => exact ⟨j + 1, by omega, by go_num, by rw [HA2.out], HM2.out, HKj.out, HO2.out⟩
          case measure => simp [intOf]; omega
      | true =>
        obtain ⟨hjb, hp, hx0⟩ := (opn_iff M P c b j).1 ho
        have hob := ((isOpen_iff M P c b).1 HOB.out).2
        obtain ⟨q, hqe⟩ : ∃ q, quoM M c b j = q := ⟨_, rfl⟩
        have hqb : -1099511627776 ≤ q ∧ q ≤ 1099511627776 := by
          have h1 : q.natAbs ≤ (gM M j c).natAbs := by rw [← hqe]; unfold quoM; rw [Int.natAbs_tdiv]; exact Nat.div_le_self _ _
          omega
        have HSU : Hid (∀ W, Ext wr W → Calls Tryz.prog 120 #[.slice (some ⟨A.rs j, 0, none⟩) l (A.cs j), .slice (some ⟨A.rs b, 0, none⟩) l (A.cs b), .int .i64 q] W (SubPost W (A.rs j) q (M j) (M b))) := fun W x => by
          have hj' : j < A.k := by rw [HKE.out]; exact hlt
          have hb' : b < A.k := by rw [HKE.out]; exact hb
          have h1 := (HMj.out.ext x).num j hj'
          have h2 := (HMj.out.ext x).num b hb'
          rw [rndM_now] at h1
          rw [rndM_self] at h2
          exact subtract_any q (M j) (M b) (A.rs j) (A.rs b) l (A.cs j) (A.cs b) W (by omega) (by rw [HM.out.wid j hj', HLL.out]) (by rw [HM.out.wid b hb', HLL.out]) hl (HM.out.inb j hj') (HM.out.inb b hb') h1 h2 (fun e => hjb (HMA.out.inj b j hb' hj' e).symm)
        have wQ : IntKind.i64.wrap ((gM M j c).tdiv (gM M b c)) = q := (IntWalk.i64_in _ (by rw [show (gM M j c).tdiv (gM M b c) = q from hqe]; omega)).trans hqe
        have HQE := Lib.hid hqe
        have HO := Lib.hid ho
        have HJB := Lib.hid hjb
        have q6 : ((j : Int) == (b : Int)) = false := by simp; omega
        rw [hp] at r2
        obtain ⟨x, hx⟩ : ∃ x, gM M j c = x := ⟨_, rfl⟩
        obtain ⟨y, hy⟩ : ∃ y, gM M b c = y := ⟨_, rfl⟩
        rw [hx] at hx0 wQ r3 r4
        rw [hy] at hob wQ s3 s4
        have q7 : (x == 0) = false := by simp [hx0]
        have q8 : (y == 0) = false := by simp [hob]
        clear HSK ho hqe hjb hx hy
        have HAF : Hid (alN M P c b (j + 1) = false) := by show _ = _; simp only [alN, HO.out]; simp
        have HGO : Hid (∀ W2 W6, Ext wr W2 → But (A.rs j) W2 W6 → subOk q (M j) (M b) = true → IRow W6 (A.rs j) (minR q (M j) (M b)) → Mat A W6 (rndM M P c b (j + 1)) P ∧ Kp (rowsOf A) w W6 ∧ rndOk M P c b (j + 1) = true) := fun W2 W6 x hB hs hI => by
          have hj' : j < A.k := by rw [HKE.out]; exact hlt
          have hb' : b < A.k := by rw [HKE.out]; exact hb
          refine ⟨?_, (HKj.out.trans (Kp.ofExt x)).trans (Kp.ofBut hB ⟨j, hj', rfl⟩), by simp only [rndOk, HOK.out, HQE.out, hs]; simp⟩
          rw [rndM_step HO.out, HQE.out]
          exact Mat.upd HMA.out (HMj.out.ext x) hj' hB hI (by rw [minR_len]; exact HM.out.wid j hj') (minR_in _ _ _ (HM.out.inb j hj') hs)
        have HBF : Hid (∀ W2 W6, Ext wr W2 → But (A.rs j) W2 W6 → subOk q (M j) (M b) = false → FpPost A P c M0 Q w (.returned (.bool false)) W6) := fun W2 W6 x hB hs => by
          have hj' : j < A.k := by rw [HKE.out]; exact hlt
          have h1 : rndOk M P c b k = false := rndOk_bad (j := j) (by simp only [rndOk, HOK.out, HO.out, HQE.out, hs]; rfl) k hlt
          have h2 : alN M P c b k = false := by
            cases e : alN M P c b k with
            | false => rfl
            | true => have := (alN_iff M P c b k).1 e j hlt; rw [HO.out] at this; exact absurd this (by simp)
          exact fp_none (HP.out _ (by rw [HKE.out]; exact PivR.bad HL.out h2 h1)) ((HKj.out.trans (Kp.ofExt x)).trans (Kp.ofBut hB ⟨j, hj', rfl⟩))
        generalize alN M P c b j = aj
        generalize A.rs j = rj at r1 r3 HSU HGO HBF
        generalize A.cs j = cj at r1 HSU
        generalize A.rs b = rb2 at s1 s3 HSU
        generalize A.cs b = cb at s1 HSU
        go_upto_region 10 with fail
        clear r2 s2
        go_still_tail 23, (by kernel_rfl)
        change wpList _ _ _ _ _ wr.drew
        have hd := (Ext.refl wr).drew
        have HSD := Lib.hid (HSU.out _ hd)
        generalize wr.drew = w2 at hd HSD ⊢
        cases hso : subOk q (M j) (M b) with
        | false =>
          go_wp2_with (go_at_call 120; refine (HSD.out).mono ?_; rintro e w6 ⟨he, hb6, hi6⟩; rw [hso] at he; subst he; have HF6 := Lib.hid (HBF.out w2 w6 hd hb6 hso); clear hb6 hi6)
          go_ret
          exact HF6.out
        | true =>
          go_wp2_with (go_at_call 120; refine (HSD.out).mono ?_; rintro e w6 ⟨he, hb6, hi6⟩; have HG6 := Lib.hid (HGO.out w2 w6 hd hb6 hso (hi6 hso)); rw [hso] at he; subst he; clear hb6 hi6)
          go_roundw
          case rel => exact ⟨j + 1, by omega, by go_num, by rw [HAF.out], HG6.out⟩
          case measure => simp [intOf]; omega
end Go.Proofs.YtcieadjjcpmieaaGreat

/-
  THE WALK OF exponent's findPivots.
-/
namespace Go.Proofs.YtcieadjjcpmieaaGreat
open Go.RowKit

/-- The columns from c on. -/
inductive ColR (k n : Nat) : Nat → (Nat → List Int) → (Nat → Bool) → (Nat → Option Nat) → Option ((Nat → List Int) × (Nat → Bool) × (Nat → Option Nat)) → Prop
  | done {M P Q} : ColR k n n M P Q (some (M, P, Q))
  | bad {c M P Q} : c < n → PivR P c k M none → ColR k n c M P Q none
  | skip {c M M' P Q r} : c < n → PivR P c k M (some (M', -1)) → ColR k n (c + 1) M' P Q r → ColR k n c M P Q r
  | pick {c M M' P Q r} {b : Nat} : c < n → PivR P c k M (some (M', (b : Int))) → ColR k n (c + 1) M' (fun x => decide (x = b) || P x) (upd Q c (some b)) r → ColR k n c M P Q r
theorem PivR_num {P : Nat → Bool} {c k : Nat} {M : Nat → List Int} {r : Option ((Nat → List Int) × Int)} (h : PivR P c k M r) : ∀ M' z, r = some (M', z) → z = -1 ∨ ∃ b : Nat, z = (b : Int) ∧ b < k := by
  induction h with
  | none_ _ => intro M' z e; simp only [Option.some.injEq, Prod.mk.injEq] at e; exact Or.inl e.2.symm
  | @alone M b hL _ =>
    intro M' z e
    simp only [Option.some.injEq, Prod.mk.injEq] at e
    refine Or.inr ⟨b, e.2.symm, ?_⟩
    rcases leastN_cases M P c k with ⟨h1, _⟩ | ⟨d, hd, h1, _⟩ <;> omega
  | bad _ _ _ => intro M' z e; exact absurd e (by simp)
  | step _ _ _ _ ih => exact ih
def FsPost (A : MA) (c : Nat) (M0 : Nat → List Int) (P0 : Nat → Bool) (Q0 : Nat → Option Nat) (w : World) (e : Ending) (w' : World) : Prop :=
  ∃ r, ColR A.k A.n c M0 P0 Q0 r ∧ Kp (ownA A) w w' ∧ (r = none → e = .returned (.bool false)) ∧ ∀ M P Q, r = some (M, P, Q) → e = .returned (.bool true) ∧ Mat A w' M P ∧ Piv A w' Q

set_option maxHeartbeats 6400000 in
set_option maxRecDepth 100000 in
theorem fpivots_any (A : MA) (hA : MOk A) (M0 : Nat → List Int) (P0 : Nat → Bool) (Q0 : Nat → Option Nat) (xc : Option Addr) (cc : Nat) (w : World) (hk : A.k ≤ 1048576) (hl : A.l ≤ 1048576) (hnl : A.n ≤ A.l) (hcol : w.cell? ⟨A.eb, 0, none⟩ = some (.slice xc A.n cc)) (hm : Mat A w M0 P0) (hq : Piv A w Q0) :
    Calls Tryz.prog 96 #[.pointer (some ⟨A.eb, 0, none⟩)] w (FsPost A 0 M0 P0 Q0 w) := by
  have hne : ¬ ownA A A.eb := by
    rintro (⟨i, hi, e⟩ | e | e)
    · exact hA.eb i hi e.symm
    · exact hA.ie e.symm
    · exact hA.pe e.symm
  have HFP := Lib.hid (fun M P Q c W (h1 : c < A.n) (h2 : Mat A W M P) (h3 : Piv A W Q) => fpivot_any A hA M P Q c W hk hl (by omega) h1 (by omega) h2 h3)
  have HM0 := Lib.hid hm
  have HQ0 := Lib.hid hq
  obtain ⟨eb, heb⟩ : ∃ eb, A.eb = eb := ⟨_, rfl⟩
  obtain ⟨n, hne2⟩ : ∃ n, A.n = n := ⟨_, rfl⟩
  have HNE := Lib.hid hne2
  have hn : n ≤ 1048576 := by omega
  have HC : Hid (∀ W, Kp (ownA A) w W → W.cell? ⟨eb, 0, none⟩ = some (.slice xc n cc)) := fun W x => by
    have := x.cell hcol hne
    rw [heb, hne2] at this; exact this
  rw [heb, hne2] at HFP
  rw [heb]
  have e0 := HC.out w (Kp.refl _ _)
  clear hm hq hcol hne heb hne2 hA hnl hk hl
  go_enter Tryz.func96, Tryz.ntmps96
  go_wp2_with fail
  clear e0
  go_loopw [9] (fun i wr => ∃ (c : Nat) (M : Nat → List Int) (P : Nat → Bool) (Q : Nat → Option Nat), c ≤ n ∧ i = .int .i64 c ∧ Mat A wr M P ∧ Piv A wr Q ∧ Kp (ownA A) w wr ∧ ∀ r, ColR A.k A.n c M P Q r → ColR A.k A.n 0 M0 P0 Q0 r) (fun i _ => n - (intOf i).toNat)
  case atStart => exact ⟨0, M0, P0, Q0, Nat.zero_le _, rfl, HM0.out, HQ0.out, Kp.refl _ _, fun _ h => h⟩
  case round =>
    obtain ⟨c, M, P, Q, hc, rfl, hM, hQ, hK, hR⟩ := hrel
    have HM := Lib.hid hM
    have HQ := Lib.hid hQ
    have HK := Lib.hid hK
    have HR := Lib.hid hR
    clear hM hQ hK hR
    by_cases hlt : c < n
    rotate_left
    · obtain rfl : c = n := by omega
      have HF : Hid (FsPost A 0 M0 P0 Q0 w (.returned (.bool true)) wr) := by
        refine ⟨some (M, P, Q), HR.out _ (by rw [HNE.out]; exact ColR.done), HK.out, fun e => absurd e (by simp), fun M' P' Q' e => ?_⟩
        simp only [Option.some.injEq, Prod.mk.injEq] at e
        obtain ⟨rfl, rfl, rfl⟩ := e
        exact ⟨rfl, HM.out, HQ.out⟩
      go_wp2_with fail
      go_ret
      exact HF.out
    have HCA := Lib.hid (HFP.out M P Q c wr hlt HM.out HQ.out)
    have i1 : (0 : Int) ≤ (c : Int) := by omega
    have i2 : (c : Int) < (n : Int) := by omega
    obtain ⟨w1, hw1⟩ : ∃ v : World, v = wr := ⟨_, rfl⟩
    subst hw1
    have HCS : Hid (∀ e w5, FpPost A P c M Q w1 e w5 → (e = .returned (.bool false) ∧ FsPost A 0 M0 P0 Q0 w (.returned (.bool false)) w5) ∨ (e = .returned (.bool true) ∧ ∃ M' P' Q', Mat A w5 M' P' ∧ Piv A w5 Q' ∧ Kp (ownA A) w w5 ∧ ∀ r, ColR A.k A.n (c + 1) M' P' Q' r → ColR A.k A.n 0 M0 P0 Q0 r)) := by
      rintro e w5 ⟨r, h1, h2, h3, h4, h5⟩
      have hc' : c < A.n := by rw [HNE.out]; exact hlt
      have hk := HK.out.trans h2
      rcases r with _ | ⟨M', z⟩
      · exact Or.inl ⟨h3 rfl, none, HR.out _ (ColR.bad hc' h1), hk, fun _ => rfl, fun _ _ _ e => absurd e (by simp)⟩
      · rcases PivR_num h1 M' z rfl with rfl | ⟨b, rfl, hb⟩
        · obtain ⟨he, hm, hq⟩ := h4 M' rfl
          exact Or.inr ⟨he, M', P, Q, hm, hq, hk, fun r hr => HR.out _ (ColR.skip hc' h1 hr)⟩
        · obtain ⟨he, hm, hq⟩ := h5 M' b rfl
          exact Or.inr ⟨he, M', _, _, hm, hq, hk, fun r hr => HR.out _ (ColR.pick hc' h1 hr)⟩
    obtain ⟨t, ht⟩ : ∃ t : Ending → World → Prop, FpPost A P c M Q w1 = t := ⟨_, rfl⟩
    rw [ht] at HCA HCS
    clear ht
    have HC2 : Hid (Calls Tryz.prog 119 #[.pointer (some ⟨eb, 0, none⟩), .int .i64 c] w1 fun e w5 => ∃ x : Bool, e = .returned (.bool x) ∧ (x = false → FsPost A 0 M0 P0 Q0 w (.returned (.bool false)) w5) ∧ (x = true → ∃ M' P' Q', Mat A w5 M' P' ∧ Piv A w5 Q' ∧ Kp (ownA A) w w5 ∧ ∀ r, ColR A.k A.n (c + 1) M' P' Q' r → ColR A.k A.n 0 M0 P0 Q0 r)) := HCA.out.mono fun e w5 h => by
      rcases HCS.out e w5 h with ⟨he, h⟩ | ⟨he, h⟩
      · exact ⟨false, he, fun _ => h, fun e => absurd e (by simp)⟩
      · exact ⟨true, he, fun e => absurd e (by simp), fun _ => h⟩
    clear HCA HCS
    go_wp2_with (go_at_call 119; refine (HC2.out).mono ?_; rintro e w5 ⟨x, he, h1, h2⟩; subst he; have HT1 := Lib.hid h1; have HT2 := Lib.hid h2; clear h1 h2)
    · rename_i hx
      have hx' : x = false := by simpa using hx
      go_ret
      exact HT1.out hx'
    · rename_i hx
      have hx' : x = true := by simpa using hx
      obtain ⟨M', P', Q', g1, g2, g3, g4⟩ := HT2.out hx'
      go_roundw
      case rel => exact ⟨c + 1, M', P', Q', by omega, by go_num, g1, g2, g3, g4⟩
      case measure => simp [intOf]; omega
end Go.Proofs.YtcieadjjcpmieaaGreat

/-
  THE WALK OF exponent's reduce.
-/
namespace Go.Proofs.YtcieadjjcpmieaaGreat
open Go.RowKit

/-- A row reduced by the pivots of f columns from c on: the row and the column at which it fails, or -1; nothing where a number becomes too large. -/
def redP (M : Nat → List Int) (Q : Nat → Option Nat) : Nat → Nat → List Int → Option (List Int × Int)
  | 0, _, L => some (L, -1)
  | f + 1, c, L => if L.getD c 0 = 0 then redP M Q f (c + 1) L else
      match Q c with
      | none => some (L, (c : Int))
      | some b => if (L.getD c 0).tmod (gM M b c) = 0 then (if subOk ((L.getD c 0).tdiv (gM M b c)) L (M b) = true then redP M Q f (c + 1) (minR ((L.getD c 0).tdiv (gM M b c)) L (M b)) else none) else some (L, (c : Int))
theorem redP_zero {M : Nat → List Int} {Q : Nat → Option Nat} {f c : Nat} {L : List Int} (h : L.getD c 0 = 0) : redP M Q (f + 1) c L = redP M Q f (c + 1) L := by rw [redP, if_pos h]
theorem redP_none {M : Nat → List Int} {Q : Nat → Option Nat} {f c : Nat} {L : List Int} (h : ¬ L.getD c 0 = 0) (hq : Q c = none) : redP M Q (f + 1) c L = some (L, (c : Int)) := by rw [redP, if_neg h, hq]
theorem redP_rem {M : Nat → List Int} {Q : Nat → Option Nat} {f c b : Nat} {L : List Int} (h : ¬ L.getD c 0 = 0) (hq : Q c = some b) (hr : ¬ (L.getD c 0).tmod (gM M b c) = 0) : redP M Q (f + 1) c L = some (L, (c : Int)) := by rw [redP, if_neg h, hq]; simp only; rw [if_neg hr]
theorem redP_bad {M : Nat → List Int} {Q : Nat → Option Nat} {f c b : Nat} {L : List Int} (h : ¬ L.getD c 0 = 0) (hq : Q c = some b) (hr : (L.getD c 0).tmod (gM M b c) = 0) (hs : subOk ((L.getD c 0).tdiv (gM M b c)) L (M b) = false) : redP M Q (f + 1) c L = none := by rw [redP, if_neg h, hq]; simp only; rw [if_pos hr, hs]; rfl
theorem redP_next {M : Nat → List Int} {Q : Nat → Option Nat} {f c b : Nat} {L : List Int} (h : ¬ L.getD c 0 = 0) (hq : Q c = some b) (hr : (L.getD c 0).tmod (gM M b c) = 0) (hs : subOk ((L.getD c 0).tdiv (gM M b c)) L (M b) = true) : redP M Q (f + 1) c L = redP M Q f (c + 1) (minR ((L.getD c 0).tdiv (gM M b c)) L (M b)) := by rw [redP, if_neg h, hq]; simp only; rw [if_pos hr, hs]; rfl

/-- What reduce gives. -/
def RdPost (A : MA) (lb _cl : Nat) (M : Nat → List Int) (Q : Nat → Option Nat) (L0 : List Int) (w : World) (e : Ending) (w' : World) : Prop :=
  Kp (fun b => b = lb ∨ b = A.eb) w w' ∧ (redP M Q A.n 0 L0 = none → e = .returned (.bool false)) ∧ ∀ L f, redP M Q A.n 0 L0 = some (L, f) → e = .returned (.bool true) ∧ IRow w' lb L ∧ L.length = A.l ∧ InB L ∧ w'.cell? ⟨A.eb, 5, none⟩ = some (.int .i64 f) ∧ ∀ p v, p ≠ 5 → w.cell? ⟨A.eb, p, none⟩ = some v → w'.cell? ⟨A.eb, p, none⟩ = some v

set_option maxHeartbeats 6400000 in
set_option maxRecDepth 100000 in
theorem reduce_any (A : MA) (_hA : MOk A) (M : Nat → List Int) (P : Nat → Bool) (Q : Nat → Option Nat) (L0 : List Int) (lb cl : Nat) (w : World) (hl : A.l ≤ 1048576) (hnl : A.n ≤ A.l) (hm : Mat A w M P) (hq : Piv A w Q) (hQ : ∀ c, c < A.n → ∀ b, Q c = some b → b < A.k ∧ gM M b c ≠ 0)
    (hlast : w.cell? ⟨A.eb, 4, none⟩ = some (.slice (some ⟨lb, 0, none⟩) A.l cl)) (hfail : w.cell? ⟨A.eb, 5, none⟩ = some (.int .i64 (-1))) (hfz : ∀ p, w.frozen? ⟨A.eb, p, none⟩ = false) (hL : IRow w lb L0) (hLl : L0.length = A.l) (hLb : InB L0) (hls : ∀ i, i < A.k → A.rs i ≠ lb) (hle : lb ≠ A.eb) (hlp : lb ≠ A.pb) (hes : A.eb < w.heap.size) :
    Calls Tryz.prog 97 #[.pointer (some ⟨A.eb, 0, none⟩)] w (RdPost A lb cl M Q L0 w) := by
  have HM := Lib.hid hm
  have HQ := Lib.hid hQ
  have HL0 := Lib.hid hL
  have HLL := Lib.hid hLl
  have HLB := Lib.hid hLb
  have HLS := Lib.hid hls
  have HLE := Lib.hid hle
  obtain ⟨eb, heb⟩ : ∃ eb, A.eb = eb := ⟨_, rfl⟩
  obtain ⟨l, hle2⟩ : ∃ l, A.l = l := ⟨_, rfl⟩
  obtain ⟨n, hne⟩ : ∃ n, A.n = n := ⟨_, rfl⟩
  obtain ⟨pb, hpb⟩ : ∃ pb, A.pb = pb := ⟨_, rfl⟩
  obtain ⟨cp, hcp⟩ : ∃ cp, A.cp = cp := ⟨_, rfl⟩
  have HEB := Lib.hid heb
  have HLA := Lib.hid hle2
  have HNE := Lib.hid hne
  have HC : Hid (∀ W, But lb w W → (W.cell? ⟨eb, 3, none⟩ = some (.slice (some ⟨pb, 0, none⟩) n cp) ∧ W.cell? ⟨eb, 4, none⟩ = some (.slice (some ⟨lb, 0, none⟩) l cl)) ∧ (W.cell? ⟨eb, 5, none⟩ = some (.int .i64 (-1)) ∧ W.frozen? ⟨eb, 5, none⟩ = false) ∧ ∀ c, c < n → W.cell? ⟨pb, c, none⟩ = some (pvV A (Q c))) := fun W x => by
    have hK : Kp (fun b => b = lb) w W := Kp.ofBut x rfl
    have h1 := hK.cell hq.at_ (fun e => hle e.symm)
    have h2 := hK.cell hlast (fun e => hle e.symm)
    have h3 := hK.cell hfail (fun e => hle e.symm)
    have h4 := frozen_kept (hK.block _ hes (fun e => hle e.symm)) (hfz 5)
    have h5 := fun c hc => hK.cell (hq.col c hc) (fun e => hlp e.symm)
    rw [heb, hpb, hne, hcp] at h1
    rw [heb, hle2] at h2
    rw [heb] at h3 h4
    rw [hpb, hne] at h5
    exact ⟨⟨h1, h2⟩, ⟨h3, h4⟩, h5⟩
  have hn : n ≤ 1048576 := by omega
  have hnl2 : n ≤ l := by omega
  rw [heb]
  rw [hle2] at hl
  have HEND : Hid (∀ W, But lb w W → ∀ L, IRow W lb L → L.length = l → InB L → redP M Q n 0 L0 = some (L, -1) → RdPost A lb cl M Q L0 w (.returned (.bool true)) W) := fun W x L h1 h2 h3 h4 => by
    have hK : Kp (fun b => b = lb) w W := Kp.ofBut x rfl
    refine ⟨hK.more fun _ h => Or.inl h, fun e => by rw [hne, h4] at e; exact absurd e (by simp), fun L' f e => ?_⟩
    rw [hne, h4] at e
    simp only [Option.some.injEq, Prod.mk.injEq] at e
    obtain ⟨rfl, rfl⟩ := e
    exact ⟨rfl, h1, by rw [hle2]; exact h2, h3, hK.cell hfail (fun e => hle e.symm), fun p v _ hv => hK.cell hv (fun e => hle e.symm)⟩
  have HFAIL : Hid (∀ W, But lb w W → ∀ L (c : Nat), IRow W lb L → L.length = l → InB L → redP M Q n 0 L0 = some (L, (c : Int)) → RdPost A lb cl M Q L0 w (.returned (.bool true)) (W.setCell ⟨eb, 5, none⟩ (.int .i64 c))) := fun W x L c h1 h2 h3 h4 => by
    have hK : Kp (fun b => b = lb) w W := Kp.ofBut x rfl
    have hB : But eb W (W.setCell ⟨eb, 5, none⟩ (.int .i64 c)) := (But.refl _ _).setCell _ _
    refine ⟨(hK.more fun _ h => Or.inl h).trans (Kp.ofBut hB (Or.inr heb.symm)), fun e => by rw [hne, h4] at e; exact absurd e (by simp), fun L' f e => ?_⟩
    rw [hne, h4] at e
    simp only [Option.some.injEq, Prod.mk.injEq] at e
    obtain ⟨rfl, rfl⟩ := e
    refine ⟨rfl, h1.but hB (by rw [← heb]; exact hle), by rw [hle2]; exact h2, h3, by rw [heb]; exact setSameE ((HC.out W x).2.1.1), fun p v hp hv => ?_⟩
    have := hK.cell hv (fun e => hle e.symm)
    rw [heb] at this ⊢
    rw [setOtherE (fun h => hp (by simp only [Addr.mk.injEq] at h; omega))]; exact this
  clear hm hq hQ hlast hfail hfz hL hLl hLb hls hle hlp hes heb hle2 hne hpb hcp _hA hnl
  obtain ⟨⟨e3, e4⟩, _⟩ := HC.out w (But.refl _ _)
  have heq := fun (w : World) (a : Option Addr) (l c : Nat) => Lib.run_eql_slice_nil (P := Tryz.prog) w 49 3 a l c 0 0 Tryz.underlying49
  go_enter Tryz.func97, Tryz.ntmps97
  go_wp2_with fail
  clear e3 e4
  go_loopw [11] (fun i wr => ∃ (c : Nat) (L : List Int), c ≤ n ∧ i = .int .i64 c ∧ But lb w wr ∧ IRow wr lb L ∧ L.length = l ∧ InB L ∧ redP M Q (n - c) c L = redP M Q n 0 L0) (fun i _ => n - (intOf i).toNat)
  case atStart => exact ⟨0, L0, Nat.zero_le _, rfl, But.refl _ _, HL0.out, by rw [← HLA.out]; exact HLL.out, HLB.out, rfl⟩
  case round =>
    obtain ⟨c, L, hc, rfl, hB, hI, hll, hlb, hr⟩ := hrel
    have HB := Lib.hid hB
    have HI := Lib.hid hI
    have HLL2 := Lib.hid hll
    have HLB2 := Lib.hid hlb
    have HR := Lib.hid hr
    by_cases hlt : c < n
    rotate_left
    · obtain rfl : c = n := by omega
      have HF : Hid (RdPost A lb cl M Q L0 w (.returned (.bool true)) wr) := HEND.out wr hB L hI hll hlb (by rw [← hr, Nat.sub_self]; rfl)
      clear hB hI hll hlb hr
      go_wp2_with fail
      go_ret
      exact HF.out
    obtain ⟨⟨e3, e4⟩, ⟨e5, e6⟩, e7⟩ := HC.out wr hB
    have p1 := e7 c hlt
    have hcl : c < L.length := by omega
    have hv := hI.2.2 c hcl
    have hvb := hlb _ (List.getElem_mem hcl)
    have hge : L.getD c 0 = L[c] := by rw [List.getD_eq_getElem?_getD, List.getElem?_eq_getElem hcl]; rfl
    rw [← hge] at hv hvb
    have hnc : n - c = (n - (c + 1)) + 1 := by omega
    have i1 : (0 : Int) ≤ (c : Int) := by omega
    have i2 : (c : Int) < (n : Int) := by omega
    have i3 : (c : Int) < (l : Int) := by omega
    obtain ⟨v, hve⟩ : ∃ v, L.getD c 0 = v := ⟨_, rfl⟩
    rw [hve] at hv hvb
    rw [hnc] at hr
    clear hB hge e7 hnc hcl
    by_cases hv0 : v = 0
    · subst hv0
      have HN : Hid (redP M Q (n - (c + 1)) (c + 1) L = redP M Q n 0 L0) := by show _ = _; rw [← hr, redP_zero hve]
      clear hr hve hI hll hlb
      go_wp2_with fail
      go_roundw
      case rel => exact ⟨c + 1, L, by omega, by go_num, HB.out, HI.out, HLL2.out, HLB2.out, HN.out⟩
      case measure => simp [intOf]; omega
    have hvn : ¬ L.getD c 0 = 0 := by rw [hve]; exact hv0
    have q0 : (v == 0) = false := by simp [hv0]
    cases hqc : Q c with
    | none =>
      have e := redP_none (M := M) (f := n - (c + 1)) hvn hqc
      rw [hr] at e
      have HF := Lib.hid (HFAIL.out wr HB.out L c HI.out HLL2.out HLB2.out e)
      rw [hqc] at p1
      simp only [pvV] at p1
      clear e hr hve hI hll hlb hvn hqc
      go_wp2_with fail
      go_ret
      exact HF.out
    | some b =>
      obtain ⟨hb, hy⟩ := HQ.out c (by rw [HNE.out]; exact hlt) b hqc
      have hat := HM.out.at_ (i := b) (c := c) hb (by rw [HLA.out]; omega)
      obtain ⟨y, hye⟩ : ∃ y, gM M b c = y := ⟨_, rfl⟩
      rw [hye] at hy hat
      obtain ⟨y1, y2, y3⟩ := hat
      have hK : Kp (fun b => b = lb) w wr := Kp.ofBut HB.out rfl
      have hy1 := hK.cell y1 (HLS.out b hb)
      have q1 : (y == 0) = false := by simp [hy]
      rw [hqc] at p1
      simp only [pvV, HLA.out] at p1
      by_cases hrem : v.tmod y = 0
      · have q2 : (v.tmod y != 0) = false := by simp [hrem]
        obtain ⟨q, hqe⟩ : ∃ q, v.tdiv y = q := ⟨_, rfl⟩
        have hqb : -1099511627776 ≤ q ∧ q ≤ 1099511627776 := by
          have h1 : q.natAbs ≤ v.natAbs := by rw [← hqe, Int.natAbs_tdiv]; exact Nat.div_le_self _ _
          omega
        have wQ : IntKind.i64.wrap (v.tdiv y) = q := (IntWalk.i64_in _ (by rw [hqe]; omega)).trans hqe
        have hIb : IRow wr (A.rs b) (M b) := hK.ext_cell (HM.out.num b hb) (HLS.out b hb)
        have HSU : Hid (∀ W, Ext wr W → Calls Tryz.prog 120 #[.slice (some ⟨lb, 0, none⟩) l cl, .slice (some ⟨A.rs b, 0, none⟩) l (A.cs b), .int .i64 q] W (SubPost W lb q L (M b))) := fun W x =>
          subtract_any q L (M b) lb (A.rs b) l cl (A.cs b) W (by omega) HLL2.out (by rw [HM.out.wid b hb, HLA.out]) hl HLB2.out (HM.out.inb b hb) (HI.out.ext x) (hIb.ext x) (HLS.out b hb)
        have HGO : Hid (∀ W2 W6, Ext wr W2 → But lb W2 W6 → subOk q L (M b) = true → IRow W6 lb (minR q L (M b)) → But lb w W6 ∧ IRow W6 lb (minR q L (M b)) ∧ (minR q L (M b)).length = l ∧ InB (minR q L (M b)) ∧ redP M Q (n - (c + 1)) (c + 1) (minR q L (M b)) = redP M Q n 0 L0) := fun W2 W6 x hB2 hs hI2 => by
          have e := redP_next (M := M) (f := n - (c + 1)) hvn hqc (by rw [hve, hye]; exact hrem) (by rw [hve, hye, hqe]; exact hs)
          rw [hve, hye, hqe] at e
          exact ⟨(HB.out.trans (But.ofBelow x)).trans hB2, hI2, by rw [minR_len]; exact HLL2.out, minR_in _ _ _ HLB2.out hs, by rw [← e]; exact hr⟩
        have HBF : Hid (∀ W2 W6, Ext wr W2 → But lb W2 W6 → subOk q L (M b) = false → RdPost A lb cl M Q L0 w (.returned (.bool false)) W6) := fun W2 W6 x hB2 hs => by
          have e := redP_bad (M := M) (f := n - (c + 1)) hvn hqc (by rw [hve, hye]; exact hrem) (by rw [hve, hye, hqe]; exact hs)
          rw [hr] at e
          refine ⟨(Kp.ofBut ((HB.out.trans (But.ofBelow x)).trans hB2) (Or.inl rfl)), fun _ => rfl, fun L f e2 => ?_⟩
          rw [HNE.out, e] at e2
          exact absurd e2 (by simp)
        clear hr hve hI hll hlb hvn hqc hrem hqe y1 hIb hK hye
        generalize A.rs b = rb2 at p1 hy1 HSU
        generalize A.cs b = cb at p1 HSU
        go_upto_region 9 with fail
        go_still_tail 11, (by kernel_rfl)
        change wpList _ _ _ _ _ wr.drew
        have hd := (Ext.refl wr).drew
        have HSD := Lib.hid (HSU.out _ hd)
        generalize wr.drew = w2 at hd HSD ⊢
        cases hso : subOk q L (M b) with
        | false =>
          go_wp2_with (go_at_call 120; refine (HSD.out).mono ?_; rintro e w6 ⟨he, hb6, hi6⟩; rw [hso] at he; subst he; have HF6 := Lib.hid (HBF.out w2 w6 hd hb6 hso); clear hb6 hi6)
          go_ret
          exact HF6.out
        | true =>
          go_wp2_with (go_at_call 120; refine (HSD.out).mono ?_; rintro e w6 ⟨he, hb6, hi6⟩; have HG6 := Lib.hid (HGO.out w2 w6 hd hb6 hso (hi6 hso)); rw [hso] at he; subst he; clear hb6 hi6)
          go_roundw
          case rel => exact ⟨c + 1, _, by omega, by go_num, HG6.out⟩
          case measure => simp [intOf]; omega
      · have q2 : (v.tmod y != 0) = true := by simp [hrem]
        have e := redP_rem (M := M) (f := n - (c + 1)) hvn hqc (by rw [hve, hye]; exact hrem)
        rw [hr] at e
        have HF := Lib.hid (HFAIL.out wr HB.out L c HI.out HLL2.out HLB2.out e)
        clear e hr hve hI hll hlb hvn hqc hrem y1 hK hye
        generalize A.rs b = rb2 at p1 hy1
        generalize A.cs b = cb at p1
        go_wp2_with fail
        go_ret
        exact HF.out
end Go.Proofs.YtcieadjjcpmieaaGreat

/-
  WHAT HOLDS OF THE PIVOTS when all columns have been gone through; that the rounds have one result.
-/
namespace Go.Proofs.YtcieadjjcpmieaaGreat
open Go.RowKit

theorem PivR_keep {P : Nat → Bool} {c k : Nat} {M : Nat → List Int} {r : Option ((Nat → List Int) × Int)} (h : PivR P c k M r) : ∀ M' z, r = some (M', z) → (∀ i, P i = true → M' i = M i) ∧ ∀ b : Nat, z = (b : Int) → b < k ∧ isOpen M' P c b = true := by
  induction h with
  | none_ _ =>
    intro M' z e
    simp only [Option.some.injEq, Prod.mk.injEq] at e
    obtain ⟨rfl, rfl⟩ := e
    exact ⟨fun _ _ => rfl, fun b hb => by omega⟩
  | @alone M b hL _ =>
    intro M' z e
    simp only [Option.some.injEq, Prod.mk.injEq] at e
    obtain ⟨rfl, rfl⟩ := e
    refine ⟨fun _ _ => rfl, fun b' hb => ?_⟩
    have e : b = b' := by omega
    subst e
    rcases leastN_cases M P c k with ⟨h1, _⟩ | ⟨d, hd, h1, h2, _⟩
    · omega
    · have e : d = b := by omega
      subst e; exact ⟨hd, h2⟩
  | bad _ _ _ => intro M' z e; exact absurd e (by simp)
  | @step M r b _ _ _ _ ih =>
    intro M' z e
    obtain ⟨h1, h2⟩ := ih M' z e
    refine ⟨fun i hi => ?_, h2⟩
    rw [h1 i hi]
    refine rndM_other ?_
    unfold opn isOpen
    rw [hi]; simp
def PInv (k c : Nat) (M : Nat → List Int) (P : Nat → Bool) (Q : Nat → Option Nat) : Prop :=
  (∀ j, j < c → ∀ b, Q j = some b → b < k ∧ P b = true ∧ gM M b j ≠ 0) ∧ ∀ j, c ≤ j → Q j = none
theorem ColR_inv {k n c : Nat} {M : Nat → List Int} {P : Nat → Bool} {Q : Nat → Option Nat} {r : Option ((Nat → List Int) × (Nat → Bool) × (Nat → Option Nat))} (h : ColR k n c M P Q r) : PInv k c M P Q → ∀ M' P' Q', r = some (M', P', Q') → PInv k n M' P' Q' := by
  induction h with
  | done =>
    intro hi M' P' Q' e
    simp only [Option.some.injEq, Prod.mk.injEq] at e
    obtain ⟨rfl, rfl, rfl⟩ := e
    exact hi
  | bad _ _ => intro _ M' P' Q' e; exact absurd e (by simp)
  | @skip c M M1 P Q r hc hp _ ih =>
    intro hi
    obtain ⟨h1, _⟩ := PivR_keep hp M1 _ rfl
    refine ih ⟨fun j hj b hb => ?_, fun j hj => hi.2 j (by omega)⟩
    by_cases e : j = c
    · rw [e, hi.2 c (Nat.le_refl _)] at hb; exact absurd hb (by simp)
    · obtain ⟨g1, g2, g3⟩ := hi.1 j (by omega) b hb
      refine ⟨g1, g2, ?_⟩
      have : gM M1 b j = gM M b j := by unfold gM; rw [h1 b g2]
      rw [this]; exact g3
  | @pick c M M1 P Q r b hc hp _ ih =>
    intro hi
    obtain ⟨h1, h2⟩ := PivR_keep hp M1 _ rfl
    obtain ⟨hb, ho⟩ := h2 b rfl
    refine ih ⟨fun j hj b' hb' => ?_, fun j hj => ?_⟩
    · unfold upd at hb'
      by_cases e : j = c
      · rw [if_pos e] at hb'
        simp only [Option.some.injEq] at hb'
        subst hb'
        subst e
        exact ⟨hb, by simp, ((isOpen_iff _ _ _ _).1 ho).2⟩
      · rw [if_neg e] at hb'
        obtain ⟨g1, g2, g3⟩ := hi.1 j (by omega) b' hb'
        refine ⟨g1, by simp [g2], ?_⟩
        have : gM M1 b' j = gM M b' j := by unfold gM; rw [h1 b' g2]
        rw [this]; exact g3
    · unfold upd
      rw [if_neg (by omega)]; exact hi.2 j (by omega)
theorem PivR_one {P : Nat → Bool} {c k : Nat} {M : Nat → List Int} {r r' : Option ((Nat → List Int) × Int)} (h : PivR P c k M r) (h' : PivR P c k M r') : r = r' := by
  induction h with
  | none_ hL =>
    cases h' with
    | none_ _ => rfl
    | alone h1 _ => omega
    | bad h1 _ _ => omega
    | step h1 _ _ _ => omega
  | @alone M b hL ha =>
    cases h' with
    | none_ h1 => omega
    | @alone _ b' h1 _ => (have e : b = b' := by omega); subst e; rfl
    | @bad _ b' h1 h2 _ => (have e : b = b' := by omega); subst e; rw [ha] at h2; exact absurd h2 (by simp)
    | @step _ _ b' h1 h2 _ _ => (have e : b = b' := by omega); subst e; rw [ha] at h2; exact absurd h2 (by simp)
  | @bad M b hL ha hr =>
    cases h' with
    | none_ h1 => omega
    | @alone _ b' h1 h2 => (have e : b = b' := by omega); subst e; rw [ha] at h2; exact absurd h2 (by simp)
    | bad _ _ _ => rfl
    | @step _ _ b' h1 _ h3 _ => (have e : b = b' := by omega); subst e; rw [hr] at h3; exact absurd h3 (by simp)
  | @step M r b hL ha hr _ ih =>
    cases h' with
    | none_ h1 => omega
    | @alone _ b' h1 h2 => (have e : b = b' := by omega); subst e; rw [ha] at h2; exact absurd h2 (by simp)
    | @bad _ b' h1 _ h3 => (have e : b = b' := by omega); subst e; rw [hr] at h3; exact absurd h3 (by simp)
    | @step _ _ b' h1 _ _ h4 => (have e : b = b' := by omega); subst e; exact ih h4
end Go.Proofs.YtcieadjjcpmieaaGreat
