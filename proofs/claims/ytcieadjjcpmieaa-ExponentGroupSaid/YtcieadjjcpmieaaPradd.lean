/-
  THE REFERENCE'S add: a power added to an ordered list.
-/
import Derived.Test.YtcieadjjcpmieaaPmul
import Derived.Test.YtcieadjjcpmieaaPops
namespace Go.Proofs.Ytcieadjjcpmieaa
open Go.RowKit

theorem addG_at {t : Tm} {n : Int} {l : List Pw} {j : Nat} {d : Bool} (h : j < l.length) (hc : cmpT t l[j].1 = 0) : addG t n (l.drop j) d = if l[j].2 + n = 0 then addG t n (l.drop (j + 1)) true else (l[j].1, l[j].2 + n) :: addG t n (l.drop (j + 1)) true := by
  rw [List.drop_eq_getElem_cons h, addG, if_pos hc]
theorem addG_lt {t : Tm} {n : Int} {l : List Pw} {j : Nat} (h : j < l.length) (hc : cmpT t l[j].1 < 0) (hz : ¬ l[j].2 = 0) : addG t n (l.drop j) false = (t, n) :: l[j] :: addG t n (l.drop (j + 1)) true := by
  rw [List.drop_eq_getElem_cons h, addG, if_neg (by omega), if_pos ⟨rfl, hc⟩, if_neg hz]
theorem addG_no {t : Tm} {n : Int} {l : List Pw} {j : Nat} {d : Bool} (h : j < l.length) (hc : ¬ cmpT t l[j].1 = 0) (hd : ¬ (d = false ∧ cmpT t l[j].1 < 0)) (hz : ¬ l[j].2 = 0) : addG t n (l.drop j) d = l[j] :: addG t n (l.drop (j + 1)) d := by
  rw [List.drop_eq_getElem_cons h, addG, if_neg hc, if_neg hd, if_neg hz]
/-- A row that lies in blocks from H on. -/
def Fsh (H : Nat) (xa : Option Addr) : Prop := ∀ b o s, xa = some ⟨b, o, s⟩ → H ≤ b
theorem Fsh.mono {H K : Nat} {xa : Option Addr} (h : Fsh H xa) (hk : K ≤ H) : Fsh K xa := fun b o s e => Nat.le_trans hk (h b o s e)
theorem Fsh_none (H : Nat) : Fsh H none := fun _ _ _ e => by cases e
theorem OwnP_fr {H : Nat} {S : Nat → Prop} {w : World} {ps : List Pw} {xa : Option Addr} {n cap : Nat} (h : OwnP H S w ps (.slice xa n cap)) : Fsh H xa := fun b o s e => by
  subst e
  obtain ⟨cs, hown, _⟩ := h
  exact (hown.lt b rfl).1
def PwF (w : World) (ps : List Pw) (e : Ending) (w' : World) : Prop := ∃ xa c, e = .returned (.slice xa ps.length c) ∧ ps.length ≤ c ∧ PRow w' ps xa ∧ Below w.heap.size w w' ∧ Fsh w.heap.size xa
theorem PwF.post {w : World} {ps : List Pw} {e : Ending} {w' : World} (h : PwF w ps e w') : PwPost w ps e w' := by
  obtain ⟨xa, c, h1, h2, h3, h4, _⟩ := h
  exact ⟨xa, c, h1, h2, h3, h4⟩
def PeF (w : World) (r : List Pw × Int) (e : Ending) (w' : World) : Prop :=
  ∃ xa c, e = .returned (.tuple #[.slice xa r.1.length c, .int .i64 r.2]) ∧ r.1.length ≤ c ∧ PRow w' r.1 xa ∧ Below w.heap.size w w' ∧ Fsh w.heap.size xa
theorem PeF.post {w : World} {r : List Pw × Int} {e : Ending} {w' : World} (h : PeF w r e w') : PePost w r e w' := by
  obtain ⟨xa, c, h1, h2, h3, h4, _⟩ := h
  exact ⟨xa, c, h1, h2, h3, h4⟩
theorem PeF_err {w W : World} {r : List Pw × Int} {x : Int} (h : r = ([], x)) (hB : Below w.heap.size w W) : PeF w r (.returned (.tuple #[.slice none 0 0, .int .i64 x])) W := by
  rw [h]; exact ⟨none, 0, rfl, Nat.le_refl _, Or.inl rfl, hB, Fsh_none _⟩
/-- A power appended: the element lies alone in the newest block. -/
theorem wpList_append_pow {W : World} {ops : Array Oper} {rest : List Oper} {o : Oper} {a : Act} {Q : Exit → Act → World → Prop} (hgd : o.guard = none) (s x : Operand)
    (ho : o.op = .call { callee := .builtin .append, args := #[s, x], argTypes := #[24, 24] }) {H base : Nat} {acc : List Pw} {v : Value} (hO : OwnP H (fun b => b < base) W acc v) (hbH : base ≤ H) (hH : H ≤ W.heap.size) (hlen : acc.length ≤ 1048577)
    {t : Tm} {c0 c1 c2 c3 : Value} {N : Int} (h1 : c0.oneCell' = true ∧ c1.oneCell' = true ∧ c2.oneCell' = true ∧ c3.oneCell' = true) (hI : IsIn (fun b => b < base) W t c0 c1 c2 c3) (hN : i64ok N) (hs : a.eval s = v) {z : Nat} (hzW : W.heap.size = z) (hx : a.eval x = .slice (some ⟨z, 0, none⟩) 1 1)
    (h : ∀ v' w8, OwnP H (fun b => b < base) w8 (acc ++ [(t, N)]) v' → Below H W w8 → W.heap.size ≤ w8.heap.size → wpList Try.prog ops Q rest (a.put o.dst v') w8) :
    wpList Try.prog ops Q (o :: rest) a (W.alloc (.cells #[c0, c1, c2, c3, .int .i64 N] 54)) := by
  subst hzW
  obtain ⟨i0, hi0, hz0, hz1, hz2⟩ := info_parts infoPw
  obtain ⟨xl, lcap, rfl⟩ := OwnP_form hO
  obtain ⟨cs, hown, hK⟩ := hO
  refine wpList_append_lies _ hgd s x _ ho H 54 i0 _ 5 64 Try.underlying24 hi0 hz0 hz1 hz2 rfl (by omega) (.slice xl acc.length lcap) acc.length cs hs (hown.alloc _) ⟨W.heap.size, 0, none⟩ 1 1 [c0, c1, c2, c3, .int .i64 N] hx rfl
    (World.news_of_block (cs := #[c0, c1, c2, c3, .int .i64 N]) (t := 54) (fr := (0, 0)) (heap_alloc_new W _)) (fun u hu => by simp only [List.mem_cons, List.not_mem_nil, or_false] at hu; rcases hu with rfl | rfl | rfl | rfl | rfl <;> first | exact h1.1 | exact h1.2.1 | exact h1.2.2.1 | exact h1.2.2.2 | rfl) (by omega) (by unfold maxLen; omega) (by omega) (by rw [World.size_alloc]; omega) (W.heap.size + 1) (by rw [World.size_alloc]) ?_
  intro g cap w8 ho8 hg _ _
  have r := OwnP_push rfl hown hK hbH hH (Ext.refl W) hI hN ho8 hg
  exact h _ _ r.1 r.2.1 r.2.2

theorem OwnP_ext {H base : Nat} {w W : World} {ps : List Pw} {v : Value} (hb : base ≤ H) (hH : H ≤ w.heap.size) (h : OwnP H (fun b => b < base) w ps v) (y : Ext w W) : OwnP H (fun b => b < base) W ps v := by
  obtain ⟨cs, hown, hK⟩ := h
  exact ⟨cs, own_heap hown (fun q hq => y.block q (hown.lt q hq).2), KP_carry (fun b hb => y.block b (by have : b < base := hb; omega)) (fun _ h => h) hK⟩
def AddI (l : List Pw) (t : Tm) (n : Int) (w w0 : World) (v d i : Value) (wr : World) : Prop :=
  ∃ (j : Nat) (out : List Pw) (f : Bool), j ≤ l.length ∧ i = .int .i64 j ∧ d = .bool f ∧ OwnP (w.heap.size + 1) (fun b => b < w.heap.size) wr out v ∧ out.length ≤ j + 1 ∧ (f = false → out.length ≤ j) ∧ addG t n l false = out ++ addG t n (l.drop j) f ∧ Below (w.heap.size + 1) w0 wr
end Go.Proofs.Ytcieadjjcpmieaa

/-
  THE REFERENCE'S Mul: the product of two products.
-/
namespace Go.Proofs.Ytcieadjjcpmieaa
open Go.RowKit

theorem addG_len (t : Tm) (n : Int) : ∀ (l : List Pw) (d : Bool), (addG t n l d).length ≤ l.length + (if d = true then 0 else 1)
  | [], d => by rw [addG]; cases d <;> simp
  | p :: ps, d => by
    have h1 := addG_len t n ps true
    have h2 := addG_len t n ps d
    rw [addG]
    cases d <;> simp only [List.length_cons, Bool.false_eq_true, if_true, if_false, true_and, false_and, Nat.add_zero, reduceCtorEq] at h1 h2 ⊢ <;> (repeat' split) <;> (try simp only [List.length_cons]) <;> omega
theorem addsP_len : ∀ (ps l : List Pw), (addsP l ps).length ≤ l.length + ps.length
  | [], l => by simp [addsP]
  | p :: ps, l => by
    have h1 := addsP_len ps (addP l p)
    have h2 : (addP l p).length ≤ l.length + 1 := addG_len p.1 p.2 l false
    rw [show addsP l (p :: ps) = addsP (addP l p) ps from rfl, List.length_cons]
    omega
theorem addsP_take {a b : List Pw} {j : Nat} (h : j < b.length) : addsP a (b.take (j + 1)) = addP (addsP a (b.take j)) b[j] := by
  rw [List.take_succ_eq_append_getElem h, addsP_app]; rfl
theorem mul_step {a b : List Pw} (ha : powE 1000 a = 0) (hb : powE 1000 b = 0) (hsa : SzP 1073741824 a) (hsb : SzP 1073741824 b) (j : Nat) : (addsP a (b.take j)).length ≤ 400 ∧ SzP 1073741824 (addsP a (b.take j)) ∧ (∀ p ∈ addsP a (b.take j), ¬ p.2 = 0) ∧ ∀ p ∈ addsP a (b.take j), -2305843009213693952 ≤ p.2 ∧ p.2 ≤ 2305843009213693952 := by
  obtain ⟨a1, a2, a3, a4⟩ := prod_norm ha
  obtain ⟨b1, b2, b3, b4⟩ := prod_norm hb
  obtain ⟨c1, c2, c3⟩ := addsP_norm (b.take j) a2 (fun p hp => b2.2 p (List.mem_of_mem_take hp))
  refine ⟨?_, fun q hq => ?_, c1.2, fun q hq => ?_⟩
  · have := addsP_len (b.take j) a
    have h := List.length_take_le j b
    have h2 : (b.take j).length ≤ b.length := by rw [List.length_take]; omega
    omega
  · rcases c2 q hq with ⟨p, hp, e⟩ | ⟨p, hp, e⟩
    · rw [e]; exact hsb p (List.mem_of_mem_take hp)
    · rw [e]; exact hsa p hp
  · have h1 := norm_get c1 hq
    have h2 := pwr_abs a q.1
    have h3 := pwr_abs (b.take j) q.1
    have h4 := absS_take_le b j
    rw [c3] at h1
    omega
/-- A whole row appended to an empty slice that was just made. -/
theorem wpList_copy_pow {W w0 : World} {ops : Array Oper} {rest : List Oper} {o : Oper} {a : Act} {Q : Exit → Act → World → Prop} (hgd : o.guard = none) (s x : Operand)
    (ho : o.op = .call { callee := .builtin .append, args := #[s, x], argTypes := #[24, 24] }) {ps : List Pw} {xa : Option Addr} {ca : Nat} (hR : PRow w0 ps xa) (hE : Ext w0 W) (hlen : ps.length ≤ 1048577)
    (hs : a.eval s = .slice (some ⟨W.heap.size, 0, none⟩) 0 0) (hx : a.eval x = .slice xa ps.length ca)
    (h : ∀ xo co w8, PRow w8 ps xo → ps.length ≤ co → Ext W w8 → Fsh W.heap.size xo → wpList Try.prog ops Q rest (a.put o.dst (.slice xo ps.length co)) w8) :
    wpList Try.prog ops Q (o :: rest) a (W.alloc (.cells #[] 54)) := by
  obtain ⟨i0, hi0, hz0, hz1, hz2⟩ := info_parts infoPw
  have hown : (W.alloc (.cells #[] 54)).ownsRow W.heap.size 54 5 (.slice (some ⟨W.heap.size, 0, none⟩) 0 0) 0 [] := World.ownsRow_made W #[] 0 (Nat.le_refl _) (by simp [maxLen]) rfl
  have hEa : Ext w0 (W.alloc (.cells #[] 54)) := hE.alloc _
  by_cases h0 : ps.length = 0
  · have hn : ps = [] := List.length_eq_zero_iff.1 h0
    subst hn
    exact wpList_append_zero hgd s x _ ho 54 i0 Try.underlying24 hi0 _ 0 0 hs xa ca hx (Nat.le_refl _) (h _ 0 _ (Or.inl rfl) (Nat.le_refl _) ((Ext.refl W).alloc _) (fun b o s e => by simp only [Option.some.injEq, Addr.mk.injEq] at e; omega))
  · obtain ⟨b2, o2, rfl⟩ := PRow_at hR (by omega)
    obtain ⟨ds, hd1, hd2, hd3⟩ := src_cells hR
    obtain ⟨hd4, hd5⟩ := hd1 _ hEa
    refine wpList_append_own_at _ hgd s x _ ho W.heap.size 54 i0 _ 5 64 Try.underlying24 hi0 hz0 hz1 hz2 rfl (by omega) (.slice (some ⟨W.heap.size, 0, none⟩) 0 0) 0 [] hs hown ⟨b2, o2, none⟩ ps.length ca ds hx hd2 hd5 hd3 (by unfold maxLen; omega) (by omega) (by rw [World.size_alloc]; omega) ?_
    intro v1 w1 hown1 hgrow _ _
    have hj := OwnP_join (H := W.heap.size) (base := w0.heap.size) (acc := []) (qs := ps) hown rfl (Below.size hE) (by rw [World.size_alloc]; omega) hd4 hown1 hgrow
    rw [List.nil_append] at hj
    obtain ⟨xo, co, rfl⟩ := OwnP_form hj.1
    exact h xo co w1 (OwnP_row hj.1).1 (OwnP_row hj.1).2 (((Below.refl W.heap.size W).alloc (Nat.le_refl _) _).trans hj.2) (OwnP_fr hj.1)
end Go.Proofs.Ytcieadjjcpmieaa
