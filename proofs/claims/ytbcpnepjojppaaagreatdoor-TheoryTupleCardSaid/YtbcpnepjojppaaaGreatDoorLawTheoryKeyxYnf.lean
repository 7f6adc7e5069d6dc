import Derived.Test.YtbcpnepjojppaaaGreatDoorLawTheoryKeyxPmul
import Derived.Test.YtbcpnepjojppaaaGreatDoorLawTheoryKeyxPops
import Derived.Test.YtbcpnepjojppaaaGreatDoorLawTheoryKeyxPterm
import Derived.Test.YtbcpnepjojppaaaGreatDoorLawTheoryKeyxQparts
import Derived.Test.YtbcpnepjojppaaaGreatDoorLawTheoryKeyxYfr
import Derived.Test.YtbcpnepjojppaaaGreatDoorLawTheoryKeyxYzb
namespace Go.Proofs.YtbcpnepjojppaaaGreatDoor
open Go.RowKit
def Fsh (H : Nat) (xa : Option Addr) : Prop := ∀ b o s, xa = some ⟨b, o, s⟩ → H ≤ b
theorem Fsh.mono {H K : Nat} {xa : Option Addr} (h : Fsh H xa) (hk : K ≤ H) : Fsh K xa := fun b o s e => Nat.le_trans hk (h b o s e)
def PwF (w : World) (ps : List Pw) (e : Ending) (w' : World) : Prop := ∃ xa c, e = .returned (.slice xa ps.length c) ∧ ps.length ≤ c ∧ PRow w' ps xa ∧ Below w.heap.size w w' ∧ Fsh w.heap.size xa
theorem PwF.post {w : World} {ps : List Pw} {e : Ending} {w' : World} (h : PwF w ps e w') : PwPost w ps e w' := by
  obtain ⟨xa, c, h1, h2, h3, h4, _⟩ := h
  exact ⟨xa, c, h1, h2, h3, h4⟩
def PeF (w : World) (r : List Pw × Int) (e : Ending) (w' : World) : Prop :=
  ∃ xa c, e = .returned (.tuple #[.slice xa r.1.length c, .int .i64 r.2]) ∧ r.1.length ≤ c ∧ PRow w' r.1 xa ∧ Below w.heap.size w w' ∧ Fsh w.heap.size xa
theorem PeF.post {w : World} {r : List Pw × Int} {e : Ending} {w' : World} (h : PeF w r e w') : PePost w r e w' := by
  obtain ⟨xa, c, h1, h2, h3, h4, _⟩ := h
  exact ⟨xa, c, h1, h2, h3, h4⟩
end Go.Proofs.YtbcpnepjojppaaaGreatDoor
namespace Go.Proofs.YtbcpnepjojppaaaGreatDoor
open Go.RowKit
theorem addG_len (t : Tm) (n : Int) : ∀ (l : List Pw) (d : Bool), (addG t n l d).length ≤ l.length + (if d = true then 0 else 1)
  | [], d => by rw [addG]; cases d <;> simp
  | p :: ps, d => by
    have h1 := addG_len t n ps true
    have h2 := addG_len t n ps d
    rw [addG]
    cases d <;> simp only [List.length_cons, Bool.false_eq_true, if_true, if_false, true_and, false_and, Nat.add_zero, reduceCtorEq] at h1 h2 ⊢ <;> (repeat' split) <;> (try simp only [List.length_cons]) <;> omega
end Go.Proofs.YtbcpnepjojppaaaGreatDoor
namespace Go.Proofs.YtbcpnepjojppaaaGreatDoor
open Go.RowKit
def Okl (k : Nat) (l : List Pw) : Prop := NormP l ∧ l.length ≤ k ∧ (∀ u, (pwr l u).natAbs ≤ k) ∧ SzP 1073741824 l
theorem Okl.num {k : Nat} {l : List Pw} (h : Okl k l) {p : Pw} (hp : p ∈ l) : p.2.natAbs ≤ k := by
  have := h.2.2.1 p.1
  rw [norm_get h.1 hp] at this
  exact this
theorem Okl.add {k : Nat} {l : List Pw} {t : Tm} {n : Int} (h : Okl k l) (hn : n = 1 ∨ n = -1) (ht : size t ≤ 1073741824) : Okl (k + 1) (addP l (t, n)) := by
  obtain ⟨a1, a2, a3⟩ := addG_norm (t := t) (n := n) (by omega) h.1
  refine ⟨a1, ?_, fun u => ?_, fun q hq => ?_⟩
  · have h2 : (addP l (t, n)).length ≤ l.length + 1 := addG_len t n l false
    have := h.2.1
    omega
  · have h1 := h.2.2.1 u
    rw [show pwr (addP l (t, n)) u = pwr l u + (if cmpT t u = 0 then n else 0) from a3 u]
    split <;> omega
  · rcases a2 q hq with e | ⟨p, hp, e⟩
    · rw [e]; exact ht
    · rw [e]; exact h.2.2.2 p hp
theorem Okl.adds : ∀ (ps : List Pw) {k : Nat} {l : List Pw}, Okl k l → (∀ p ∈ ps, (p.2 = 1 ∨ p.2 = -1) ∧ size p.1 ≤ 1073741824) → Okl (k + ps.length) (addsP l ps)
  | [], _, _, h, _ => h
  | p :: ps, k, l, h, hp => by
    have h1 := Okl.add h (hp p (List.mem_cons_self ..)).1 (hp p (List.mem_cons_self ..)).2
    have h2 := Okl.adds ps h1 (fun q hq => hp q (List.mem_cons_of_mem _ hq))
    rw [show addsP l (p :: ps) = addsP (addP l p) ps from rfl, List.length_cons, show k + (ps.length + 1) = k + 1 + ps.length by omega]
    exact h2
theorem Okl.mono {k k' : Nat} {l : List Pw} (h : Okl k l) (hk : k ≤ k') : Okl k' l := ⟨h.1, Nat.le_trans h.2.1 hk, fun u => Nat.le_trans (h.2.2.1 u) hk, h.2.2.2⟩
end Go.Proofs.YtbcpnepjojppaaaGreatDoor
namespace Go.Proofs.YtbcpnepjojppaaaGreatDoor
open Go.RowKit
end Go.Proofs.YtbcpnepjojppaaaGreatDoor
namespace Go.Proofs.YtbcpnepjojppaaaGreatDoor
open Go.RowKit
end Go.Proofs.YtbcpnepjojppaaaGreatDoor
namespace Go.Proofs.YtbcpnepjojppaaaGreatDoor
open Go.RowKit
theorem itsKids_mk (k : Int) (n : ByteArray) (s : Int) (ks : List Tm) : itsKids (.mk k n s ks) = if (n.toList == [109, 117, 108]) = true then decide (2 ≤ ks.length) else if (n.toList == [105, 110, 118]) = true then decide (ks.length = 1) else decide (ks.length = 0) := rfl
theorem valid_parts {t : Tm} (h : validE t = 0) : nodesE t = 0 ∧ size t ≤ 400 ∧ depth t ≤ 40 := by
  unfold validE at h
  by_cases h0 : nodesE t = 0
  · rw [if_pos h0] at h
    by_cases h1 : 400 < size t ∨ 40 < depth t
    · rw [if_pos h1] at h; exact absurd h (by decide)
    · exact ⟨h0, by omega, by omega⟩
  · rw [if_neg h0] at h; exact absurd h h0
theorem pnodesL_all : ∀ {l : List Tm}, (∀ t ∈ l, nodesE t = 0) → nodesL l = 0
  | [], _ => rfl
  | t :: l, h => by rw [nodesL, if_pos (h t (List.mem_cons_self ..)), pnodesL_all (fun u hu => h u (List.mem_cons_of_mem _ hu))]
theorem nodes_prod {l : List Tm} (h8 : l.length ≤ 8) (h : ∀ t ∈ l, nodesE t = 0) : nodesE (prodT l) = 0 := by
  match l, h8, h with
  | [], _, _ => rfl
  | [t], _, h => exact h t (List.mem_cons_self ..)
  | t :: u :: l, h8, h =>
    have e : nodeE (.mk 3 ⟨#[109, 117, 108]⟩ 0 (t :: u :: l)) = 0 := by
      rw [nodeE, if_neg (by omega), if_neg (by omega), if_neg (by omega), if_neg (by omega), if_pos (by kernel_rfl), if_neg (by omega)]
    rw [prodT, nodesE, if_pos e, pnodesL_all h]
theorem nodes_inv {t : Tm} (h : nodesE t = 0) : nodesE (tInv t) = 0 := by
  have e : nodeE (tInv t) = 0 := by
    rw [tInv, nodeE, if_neg (by omega), if_neg (by omega), if_neg (by omega), if_neg (by omega), if_pos (by kernel_rfl), if_neg (by simp)]
  rw [tInv] at e ⊢
  rw [nodesE, if_pos e, nodesL, if_pos h, nodesL]
theorem mem_posO {ps : List Pw} {t : Tm} (h : t ∈ posO ps) : ∃ p ∈ ps, t = p.1 := by
  obtain ⟨p, hp, h2⟩ := List.mem_flatMap.1 h
  exact ⟨p, hp, List.eq_of_mem_replicate h2⟩
theorem mem_negO {ps : List Pw} {t : Tm} (h : t ∈ negO ps) : ∃ p ∈ ps, t = tInv p.1 := by
  obtain ⟨p, hp, h2⟩ := List.mem_flatMap.1 h
  exact ⟨p, hp, List.eq_of_mem_replicate h2⟩
theorem ofP_ok {t : Tm} {l : List Pw} (h : ofP t = (l, 0)) : NormP l ∧ l.length ≤ 200 ∧ powE 1000 l = 0 := by
  unfold ofP at h
  by_cases hv : validE t = 0
  rotate_left
  · rw [if_neg hv] at h; exact absurd (congrArg Prod.snd h) hv
  rw [if_pos hv] at h
  by_cases ha : arityT t = true
  rotate_left
  · rw [if_neg ha] at h; exact absurd (show _ = (0 : Int) from congrArg Prod.snd h) (by decide)
  rw [if_pos ha] at h
  by_cases hl : 200 < (addsP [] (occT t 1)).length
  · rw [if_pos hl] at h; exact absurd (show _ = (0 : Int) from congrArg Prod.snd h) (by decide)
  rw [if_neg hl] at h
  have e : addsP [] (occT t 1) = l := congrArg Prod.fst h
  obtain ⟨hn, hs, hd⟩ := valid_parts hv
  have h1 := occT_one t 1 (Or.inl rfl)
  obtain ⟨b1, b2, b3⟩ := addsP_norm (occT t 1) normP_nil (fun p hp => by rcases (h1 p hp).1 with e | e <;> rw [e] <;> decide)
  rw [e] at b1 b2 b3 hl
  refine ⟨b1, by omega, powE_mk (by omega) (fun p hp => ?_) b1.1⟩
  have hab : p.2.natAbs ≤ 400 := by
    have c1 := norm_get b1 hp
    have c2 := pwr_abs (occT t 1) p.1
    have c3 := occT_len t 1
    rw [abs_ones (fun q hq => (h1 q hq).1)] at c2
    rw [b3, pwr] at c1
    omega
  rcases b2 p hp with ⟨q, hq, e⟩ | ⟨q, hq, _⟩
  · obtain ⟨_, g2, g3, g4, g5⟩ := h1 q hq
    refine pwE_mk ?_ (by rw [e]; exact g2) (b1.2 p hp) (by omega) (by omega)
    rw [e, validE, if_pos (g3 hn), if_neg (by omega)]
  · simp at hq
end Go.Proofs.YtbcpnepjojppaaaGreatDoor
namespace Go.Proofs.YtbcpnepjojppaaaGreatDoor
open Go.RowKit Go.Lib
def TrPost (w : World) (r : Tm × Int) (e : Ending) (w' : World) : Prop :=
  ∃ k n s xa l c, e = .returned (.tuple #[.agg #[.int .i64 k, .string n, .int .i64 s, .slice xa l c], .int .i64 r.2]) ∧ Is w' r.1 (.int .i64 k) (.string n) (.int .i64 s) (.slice xa l c) ∧ Ext w w'
theorem TePost.weak {w : World} {r : Tm × Int} {e : Ending} {w' : World} (h : TePost w r e w') : TrPost w r e w' := by
  obtain ⟨k, n, s, xa, l, c, h1, h2, h3⟩ := h
  exact ⟨k, n, s, xa, l, c, h1, IsIn_Is _ _ _ _ _ h2, h3⟩
end Go.Proofs.YtbcpnepjojppaaaGreatDoor
namespace Go.Proofs.YtbcpnepjojppaaaGreatDoor
open Go.RowKit
def yPair : ByteArray := ⟨#[112, 97, 105, 114]⟩
def yEnc : ByteArray := ⟨#[101, 110, 99]⟩
def yAenc : ByteArray := ⟨#[97, 101, 110, 99]⟩
def yPk : ByteArray := ⟨#[112, 107]⟩
def ySign : ByteArray := ⟨#[115, 105, 103, 110]⟩
def yXor : ByteArray := ⟨#[120, 111, 114]⟩
def yExp : ByteArray := ⟨#[101, 120, 112]⟩
def yFst : ByteArray := ⟨#[102, 115, 116]⟩
def ySnd : ByteArray := ⟨#[115, 110, 100]⟩
def yDec : ByteArray := ⟨#[100, 101, 99]⟩
def yAdec : ByteArray := ⟨#[97, 100, 101, 99]⟩
def yOpen : ByteArray := ⟨#[111, 112, 101, 110]⟩
def yRead : ByteArray := ⟨#[114, 101, 97, 100]⟩
def gd (t : Tm) : Prop := nodesE t = 0 ∧ ynodesE t = 0
theorem nodesL_mem : ∀ {l : List Tm}, nodesL l = 0 → ∀ t ∈ l, nodesE t = 0
  | [], _, t, ht => by simp at ht
  | u :: l, h, t, ht => by
    rw [nodesL] at h
    by_cases h0 : nodesE u = 0
    · rw [if_pos h0] at h
      rcases List.mem_cons.1 ht with rfl | ht
      · exact h0
      · exact nodesL_mem h t ht
    · rw [if_neg h0] at h; exact absurd h h0
theorem ynodesL_mem : ∀ {l : List Tm}, ynodesL l = 0 → ∀ t ∈ l, ynodesE t = 0
  | [], _, t, ht => by simp at ht
  | u :: l, h, t, ht => by
    rw [ynodesL] at h
    by_cases h0 : ynodesE u = 0
    · rw [if_pos h0] at h
      rcases List.mem_cons.1 ht with rfl | ht
      · exact h0
      · exact ynodesL_mem h t ht
    · rw [if_neg h0] at h; exact absurd h h0
theorem ynodesL_all : ∀ {l : List Tm}, (∀ t ∈ l, ynodesE t = 0) → ynodesL l = 0
  | [], _ => rfl
  | t :: l, h => by rw [ynodesL, if_pos (h t (List.mem_cons_self ..))]; exact ynodesL_all fun u hu => h u (List.mem_cons_of_mem _ hu)
theorem gd_mk {n : ByteArray} {s : Int} {ks : List Tm} (h : gd (.mk 3 n s ks)) : nodeE (.mk 3 n s ks) = 0 ∧ ynodeE n ks = 0 ∧ ∀ k ∈ ks, gd k := by
  obtain ⟨h1, h2⟩ := nodesE_parts h.1
  have h3 := h.2
  rw [ynodesE_mk, if_pos rfl] at h3
  by_cases h4 : ynodeE n ks = 0
  · rw [if_pos h4] at h3
    exact ⟨h1, h4, fun k hk => ⟨nodesL_mem h2 k hk, ynodesL_mem h3 k hk⟩⟩
  · rw [if_neg h4] at h3; exact absurd h3 h4
theorem gd_of {n : ByteArray} {s : Int} {ks : List Tm} (h1 : nodeE (.mk 3 n s ks) = 0) (h2 : ynodeE n ks = 0) (h3 : ∀ k ∈ ks, gd k) : gd (.mk 3 n s ks) := by
  constructor
  · rw [nodesE, if_pos h1]; exact nodesL_all fun t ht => (h3 t ht).1
  · rw [ynodesE_mk, if_pos rfl, if_pos h2]; exact ynodesL_all fun t ht => (h3 t ht).2
theorem ynodeE_ok {n : ByteArray} {ks : List Tm} (h : ynodeE n ks = 0) : symI n < 21 ∧ symLo (symI n) ≤ (ks.length : Int) ∧ (ks.length : Int) ≤ symHi (symI n) ∧ rightK n ks = true := by
  unfold ynodeE at h
  by_cases h0 : symI n < 21
  · rw [if_pos h0] at h
    by_cases h1 : (ks.length : Int) < symLo (symI n)
    · rw [if_pos h1] at h; exact absurd h (by decide)
    rw [if_neg h1] at h
    by_cases h2 : symHi (symI n) < (ks.length : Int)
    · rw [if_pos h2] at h; exact absurd h (by decide)
    rw [if_neg h2] at h
    cases h3 : rightK n ks
    · rw [h3] at h; exact absurd h (by decide)
    · exact ⟨h0, by omega, by omega, rfl⟩
  · rw [if_neg h0] at h; exact absurd h (by decide)
theorem ynodeE_mk {n : ByteArray} {ks : List Tm} (h0 : symI n < 21) (h1 : symLo (symI n) ≤ (ks.length : Int)) (h2 : (ks.length : Int) ≤ symHi (symI n)) (h3 : rightK n ks = true) : ynodeE n ks = 0 := by
  unfold ynodeE
  rw [if_pos h0, if_neg (by omega), if_neg (by omega), h3]; rfl
theorem arY {n : ByteArray} {ks : List Tm} {lo hi : Int} (h : ynodeE n ks = 0) (e1 : symLo (symI n) = lo) (e2 : symHi (symI n) = hi) : lo ≤ (ks.length : Int) ∧ (ks.length : Int) ≤ hi := by
  obtain ⟨_, h1, h2, _⟩ := ynodeE_ok h
  omega
theorem ar2 {n : ByteArray} {ks : List Tm} (h : ynodeE n ks = 0) (e1 : symLo (symI n) = 2) (e2 : symHi (symI n) = 2) : ks.length = 2 := by
  have := arY h e1 e2; omega
theorem ar1 {n : ByteArray} {ks : List Tm} (h : ynodeE n ks = 0) (e1 : symLo (symI n) = 1) (e2 : symHi (symI n) = 1) : ks.length = 1 := by
  have := arY h e1 e2; omega
theorem ln_pair {ks : List Tm} (h : ynodeE yPair ks = 0) : ks.length = 2 := ar2 h (by kernel_rfl) (by kernel_rfl)
theorem ln_enc {ks : List Tm} (h : ynodeE yEnc ks = 0) : ks.length = 2 := ar2 h (by kernel_rfl) (by kernel_rfl)
theorem ln_aenc {ks : List Tm} (h : ynodeE yAenc ks = 0) : ks.length = 2 := ar2 h (by kernel_rfl) (by kernel_rfl)
theorem ln_sign {ks : List Tm} (h : ynodeE ySign ks = 0) : ks.length = 2 := ar2 h (by kernel_rfl) (by kernel_rfl)
theorem ln_exp {ks : List Tm} (h : ynodeE yExp ks = 0) : ks.length = 2 := ar2 h (by kernel_rfl) (by kernel_rfl)
theorem ln_pk {ks : List Tm} (h : ynodeE yPk ks = 0) : ks.length = 1 := ar1 h (by kernel_rfl) (by kernel_rfl)
theorem ln_fst {ks : List Tm} (h : ynodeE yFst ks = 0) : ks.length = 1 := ar1 h (by kernel_rfl) (by kernel_rfl)
theorem ln_snd {ks : List Tm} (h : ynodeE ySnd ks = 0) : ks.length = 1 := ar1 h (by kernel_rfl) (by kernel_rfl)
theorem ln_read {ks : List Tm} (h : ynodeE yRead ks = 0) : ks.length = 1 := ar1 h (by kernel_rfl) (by kernel_rfl)
theorem ln_dec {ks : List Tm} (h : ynodeE yDec ks = 0) : ks.length = 2 := ar2 h (by kernel_rfl) (by kernel_rfl)
theorem ln_adec {ks : List Tm} (h : ynodeE yAdec ks = 0) : ks.length = 2 := ar2 h (by kernel_rfl) (by kernel_rfl)
theorem ln_open {ks : List Tm} (h : ynodeE yOpen ks = 0) : ks.length = 2 := ar2 h (by kernel_rfl) (by kernel_rfl)
theorem isDes_iff (n : ByteArray) : isDes n = true ↔ n = yFst ∨ n = ySnd ∨ n = yDec ∨ n = yAdec ∨ n = yOpen ∨ n = yRead := by
  constructor
  · intro h
    have h3 : kindS n = 3 := by unfold isDes at h; exact eq_of_beq h
    have hi : symI n < 21 := by
      rcases Nat.lt_or_ge (symI n) 21 with h | h
      · exact h
      · have : symI n = 21 := Nat.le_antisymm (symI_le n) h
        rw [kindS_no this] at h3; exact absurd h3 (by decide)
    have hd : ∀ i, i < 21 → symKd i = 3 → i = 15 ∨ i = 16 ∨ i = 17 ∨ i = 18 ∨ i = 19 ∨ i = 20 := by decide
    have hn := symI_nm hi
    rcases hd _ hi h3 with e | e | e | e | e | e <;> rw [e] at hn
    · exact Or.inl hn.symm
    · exact Or.inr (Or.inl hn.symm)
    · exact Or.inr (Or.inr (Or.inl hn.symm))
    · exact Or.inr (Or.inr (Or.inr (Or.inl hn.symm)))
    · exact Or.inr (Or.inr (Or.inr (Or.inr (Or.inl hn.symm))))
    · exact Or.inr (Or.inr (Or.inr (Or.inr (Or.inr hn.symm))))
  · rintro (rfl | rfl | rfl | rfl | rfl | rfl) <;> kernel_rfl
theorem kidT_mem {ks : List Tm} {i : Nat} (h : i < ks.length) : kidT ks i ∈ ks := by rw [kidT_eq h]; exact List.getElem_mem h
theorem isApp_mk {t : Tm} {n : ByteArray} (h : isApp t n = true) : ∃ s ks, t = .mk 3 n s ks := by
  obtain ⟨k, m, s, ks⟩ := t
  unfold isApp at h
  rw [Bool.and_eq_true] at h
  have h1 : k = 3 := of_decide_eq_true h.1
  have h2 : m = n := of_decide_eq_true h.2
  rw [h1, h2]
  exact ⟨s, ks, rfl⟩
def pubB (p q : Tm) : Bool := isApp p yPk && (cmpT (kidT p.kids 0) q == 0)
def openT (n : ByteArray) (s : Int) (us : List Tm) : Tm :=
  if n = yFst ∧ isApp (kidT us 0) yPair = true then kidT (kidT us 0).kids 0
  else if n = ySnd ∧ isApp (kidT us 0) yPair = true then kidT (kidT us 0).kids 1
  else if n = yDec ∧ isApp (kidT us 0) yEnc = true ∧ cmpT (kidT (kidT us 0).kids 1) (kidT us 1) = 0 then kidT (kidT us 0).kids 0
  else if n = yAdec ∧ isApp (kidT us 0) yAenc = true ∧ pubB (kidT (kidT us 0).kids 1) (kidT us 1) = true then kidT (kidT us 0).kids 0
  else if n = yOpen ∧ isApp (kidT us 0) ySign = true ∧ pubB (kidT us 1) (kidT (kidT us 0).kids 1) = true then kidT (kidT us 0).kids 0
  else if n = yRead ∧ isApp (kidT us 0) ySign = true then kidT (kidT us 0).kids 0
  else .mk 3 n s us
def prodU (t : Tm) : Tm × Int := if (ofP t).2 = 0 then termP (ofP t).1 else (zilT, (ofP t).2)
def powM (base : Tm) (l : List Pw) : Tm × Int := if l.length = 0 then (base, 0) else if (termP l).2 = 0 then (.mk 3 yExp 0 [base, (termP l).1], 0) else (zilT, (termP l).2)
def factU (b : Tm) : Tm × List Pw × Int := if isApp b yExp = true then (kidT b.kids 0, ofP (kidT b.kids 1)) else (b, [], 0)
def powU (b e : Tm) : Tm × Int :=
  if (factU b).2.2 = 0 then (if (ofP e).2 = 0 then (if (mulP (factU b).2.1 (ofP e).1).2 = 0 then powM (factU b).1 (mulP (factU b).2.1 (ofP e).1).1 else (zilT, (mulP (factU b).2.1 (ofP e).1).2)) else (zilT, (ofP e).2)) else (zilT, (factU b).2.2)
def redU (n : ByteArray) (s : Int) (us : List Tm) : Tm × Int :=
  if isDes n = true then (openT n s us, 0) else if n = yXor then sumP us else if n = nMul ∨ n = nInv ∨ n = nOne then prodU (.mk 3 n s us) else if n = yExp then powU (kidT us 0) (kidT us 1) else (.mk 3 n s us, 0)
mutual
/-- The normal form of a term, and an error. -/
def nrmT : Tm → Tm × Int
  | .mk k n s ks => if k = 3 then (if (nrmL ks).2 = 0 then redU n s (nrmL ks).1 else (zilT, (nrmL ks).2)) else (.mk k n s ks, 0)
def nrmL : List Tm → List Tm × Int
  | [] => ([], 0)
  | t :: ts => if (nrmT t).2 = 0 then (if (nrmL ts).2 = 0 then ((nrmT t).1 :: (nrmL ts).1, 0) else ([], (nrmL ts).2)) else ([], (nrmT t).2)
end
theorem nrmT_mk (k : Int) (n : ByteArray) (s : Int) (ks : List Tm) : nrmT (.mk k n s ks) = if k = 3 then (if (nrmL ks).2 = 0 then redU n s (nrmL ks).1 else (zilT, (nrmL ks).2)) else (.mk k n s ks, 0) := by rw [nrmT]
theorem nrmL_ok : ∀ {l : List Tm}, (∀ t ∈ l, (nrmT t).2 = 0) → nrmL l = (l.map fun t => (nrmT t).1, 0)
  | [], _ => by rw [nrmL]; rfl
  | t :: l, h => by
    rw [nrmL, if_pos (h t (List.mem_cons_self ..)), nrmL_ok fun u hu => h u (List.mem_cons_of_mem _ hu), if_pos rfl]; rfl
theorem nrmL_bad : ∀ {l : List Tm} {j : Nat} (hj : j < l.length), (∀ i (h : i < j), (nrmT (l[i]'(by omega))).2 = 0) → ¬ (nrmT l[j]).2 = 0 → (nrmL l).2 = (nrmT l[j]).2
  | t :: l, 0, _, _, h => by
    simp only [List.getElem_cons_zero] at h ⊢
    rw [nrmL, if_neg h]
  | t :: l, j + 1, hj, h0, h => by
    have h1 := h0 0 (by omega)
    have ih := nrmL_bad (l := l) (j := j) (by simpa using hj) (fun i hi => by have := h0 (i + 1) (by omega); simpa using this) (by simpa using h)
    simp only [List.getElem_cons_zero] at h1
    rw [nrmL, if_pos h1, if_neg (by rw [ih]; simpa using h)]
    simpa using ih
theorem nrmL_all : ∀ {l : List Tm}, (nrmL l).2 = 0 → ∀ t ∈ l, (nrmT t).2 = 0
  | [], _, t, ht => by simp at ht
  | u :: l, h, t, ht => by
    rw [nrmL] at h
    by_cases h0 : (nrmT u).2 = 0
    · rw [if_pos h0] at h
      by_cases h1 : (nrmL l).2 = 0
      · rcases List.mem_cons.1 ht with rfl | ht
        · exact h0
        · exact nrmL_all h1 t ht
      · rw [if_neg h1] at h; exact absurd h h1
    · rw [if_neg h0] at h; exact absurd h h0
end Go.Proofs.YtbcpnepjojppaaaGreatDoor
