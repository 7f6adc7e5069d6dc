/-
  WHAT end DOES; the state before and behind its steps.
-/
import Derived.Test.YthhhmjjgckkdhaaDoorStackc
import Derived.Deep.LoopGhost
import Derived.Deep.RegionLaw
import Derived.Deep.DeepCutAuto
namespace Go.Proofs.YthhhmjjgckkdhaaDoor
open Go.RowKit

def pst (l : List Fr) : List (ByteArray × List Tm) := l.map fun f => (f.nm, f.ks)

/-- What end does: whether it is right, what remains, the stack, whether a limit is exceeded, and the root. -/
def endP : List (ByteArray × List Tm) → ByteArray → Bool → Tm → Bool × ByteArray × List (ByteArray × List Tm) × Bool × Option Tm
  | [], rest, large, t => (true, rest, [], large, some t)
  | (nm, ks) :: st, rest, large, t =>
    if preB rest bComma then (true, takeB rest bComma, (nm, ks ++ [t]) :: st, large || decide (8 < (ks ++ [t]).length), none)
    else if preB rest bClose then endP st (takeB rest bClose) (large || decide (8 < (ks ++ [t]).length)) (.mk 3 nm 0 (ks ++ [t]))
    else (false, rest, (nm, ks ++ [t]) :: st, large || decide (8 < (ks ++ [t]).length), none)

theorem ST.below {w w' : World} {base pb : Nat} {rest : ByteArray} {ov : Value} {nodes : Int} {large whole : Bool} {r0 r1 r2 r3 : Value} {fr : List Fr} {F : Nat → Prop}
    (h : ST w base pb rest ov nodes large whole r0 r1 r2 r3 fr F) (hb : Below w.heap.size w w') : ST w' base pb rest ov nodes large whole r0 r1 r2 r3 fr F :=
  ⟨h.ps.below hb, h.pbase, ownsRow_of_heap h.own (fun g hg => hb.block g (h.own.lt g hg).2), h.ovp, fun b hb' => ⟨Nat.lt_of_lt_of_le (h.fF b hb').1 hb.size, (h.fF b hb').2⟩,
    Stk_carry (fun b hb' => hb.block b (h.fF b hb').1) (fun f hf g hg => ⟨hb.block g (Stk_kv_lt h.stk f hf g hg).2, (Stk_ov h.stk f hf g hg).1⟩) h.stk⟩

/-- The parser's own fields turn. -/
theorem ST.field {w w' : World} {base pb : Nat} {rest rest' : ByteArray} {ov : Value} {nodes nodes' : Int} {large whole large' whole' : Bool} {r0 r1 r2 r3 r0' r1' r2' r3' : Value} {fr : List Fr} {F : Nat → Prop}
    (h : ST w base pb rest ov nodes large whole r0 r1 r2 r3 fr F) (hP : PS w' pb rest' ov nodes' large' whole' r0' r1' r2' r3') (hb : But pb w w') : ST w' base pb rest' ov nodes' large' whole' r0' r1' r2' r3' fr F ∧ Keeps F w w' := by
  have hk : ∀ b, b < w.heap.size → b ≠ pb → w'.heap[b]? = w.heap[b]? := fun b h1 h2 => hb.block b h1 (by intro e; simp only [Option.some.injEq] at e; exact h2 e)
  have hF : ∀ b, F b → w'.heap[b]? = w.heap[b]? := fun b hb' => hk b (h.fF b hb').1 (h.fF b hb').2.1
  exact ⟨⟨hP, h.pbase, ownsRow_of_heap h.own (fun g hg => hk g (h.own.lt g hg).2 (fun e => h.ovp (by rw [hg, e]))), h.ovp, fun b hb' => ⟨Nat.lt_of_lt_of_le (h.fF b hb').1 hb.size, (h.fF b hb').2⟩,
    Stk_carry hF (fun f hf g hg => ⟨hk g (Stk_kv_lt h.stk f hf g hg).2 (Stk_ov h.stk f hf g hg).2.1, (Stk_ov h.stk f hf g hg).1⟩) h.stk⟩, ⟨hb.os, hb.tape, hb.output, hb.size, hF⟩⟩

def EndPost (base pb M : Nat) (nodes : Int) (whole : Bool) (r0 r1 r2 r3 : Value) (fr : List Fr) (F : Nat → Prop) (w : World) (R : Bool × ByteArray × List (ByteArray × List Tm) × Bool × Option Tm) (e : Ending) (w' : World) : Prop :=
  e = .returned (.bool R.1) ∧ ∃ (fr' : List Fr) (ov' : Value) (F' : Nat → Prop),
    (match R.2.2.2.2 with
      | none => ST w' base pb R.2.1 ov' nodes R.2.2.2.1 whole r0 r1 r2 r3 fr' F'
      | some u => ∃ s0 s1 s2 s3, ST w' base pb R.2.1 ov' nodes R.2.2.2.1 true s0 s1 s2 s3 fr' F' ∧ IsIn (Fb base F') w' u s0 s1 s2 s3) ∧
    pst fr' = R.2.2.1 ∧ (∀ b, F b → F' b) ∧ Keeps F w w' ∧ (∀ f ∈ fr', f.ks.length ≤ M) ∧ fr'.length ≤ fr.length

/-- What holds at the head of the loop. -/
def EndRel (base pb M tb : Nat) (nodes : Int) (whole : Bool) (r0 r1 r2 r3 : Value) (fr : List Fr) (F : Nat → Prop) (w : World) (R : Bool × ByteArray × List (ByteArray × List Tm) × Bool × Option Tm) (k : Nat) (wr : World) : Prop :=
  ∃ (fr' : List Fr) (ov' : Value) (F' : Nat → Prop) (rest' : ByteArray) (large' : Bool) (t' : Tm) (c0 c1 c2 c3 : Value),
    fr'.length ≤ k ∧ R = endP (pst fr') rest' large' t' ∧ ST wr base pb rest' ov' nodes large' whole r0 r1 r2 r3 fr' F' ∧ wr.heap[tb]? = some (.cells #[c0, c1, c2, c3] 24 (0, 0)) ∧ IsIn (Fb base F') wr t' c0 c1 c2 c3 ∧ Apart pb ov' fr' F' tb ∧
    (∀ b, F b → F' b) ∧ Keeps F w wr ∧ (∀ f ∈ fr', f.ks.length + 1 ≤ M) ∧ fr'.length ≤ fr.length

theorem own_form {w : World} {base : Nat} {T : TypeId} {k : Nat} {v : Value} {n : Nat} {xs : List Value} (h : w.ownsRow base T k v n xs) : ∃ xa cap, v = .slice xa n cap := by
  rcases h.2 with ⟨rfl, h0⟩ | ⟨g, cap, cur, rfl, _⟩
  · exact ⟨none, 0, by rw [h0]⟩
  · exact ⟨some ⟨g, 0, none⟩, cap, rfl⟩
theorem own_form_pos {w : World} {base : Nat} {T : TypeId} {k : Nat} {v : Value} {n : Nat} {xs : List Value} (h : w.ownsRow base T k v n xs) (hn : 0 < n) : ∃ g cap, v = .slice (some ⟨g, 0, none⟩) n cap := by
  rcases h.2 with ⟨rfl, h0⟩ | ⟨g, cap, cur, rfl, _⟩
  · omega
  · exact ⟨g, cap, rfl⟩

def KidRel (wr : World) (base pb tb : Nat) (rest : ByteArray) (ov : Value) (nodes : Int) (large whole : Bool) (r0 r1 r2 r3 : Value) (nm : ByteArray) (ks : List Tm) (r : List Fr) (F : Nat → Prop) (wc : World) : Prop :=
  ∃ kv, ST wc base pb rest ov nodes large whole r0 r1 r2 r3 (⟨nm, ks, kv⟩ :: r) F ∧ Keeps F wr wc ∧ wc.heap[tb]? = wr.heap[tb]? ∧ kv.ownBlock ≠ some tb

theorem row_new {w : World} {base : Nat} {T : TypeId} {g n cap : Nat} {cs : List Value} {z0 z1 z2 z3 : Value} (h : w.ownsRow base T 4 (.slice (some ⟨g, 0, none⟩) (n + 1) cap) (n + 1) (cs ++ [z0, z1, z2, z3])) (hc : cs.length = n * 4) :
    w.cell? ⟨g, n * 4, none⟩ = some z0 ∧ w.cell? ⟨g, n * 4 + 1, none⟩ = some z1 ∧ w.cell? ⟨g, n * 4 + 2, none⟩ = some z2 ∧ w.cell? ⟨g, n * 4 + 3, none⟩ = some z3 := by
  refine ⟨?_, ?_, ?_, ?_⟩ <;> (rw [h.cellAt _ (by omega), List.getElem?_append_right (by omega), hc])
  · rw [Nat.sub_self]; rfl
  · rw [Nat.add_sub_cancel_left]; rfl
  · rw [Nat.add_sub_cancel_left]; rfl
  · rw [Nat.add_sub_cancel_left]; rfl

theorem info24 : (Tryd.prog.info? 24).map (fun i => (i.zero, i.size, i.bytes)) = some (some (.agg #[.int .i64 0, .string ⟨#[]⟩, .int .i64 0, .slice none 0 0]), 4, 56) := by kernel_rfl

theorem setCell_comm (w : World) (p q : Addr) (u v : Value) (h : p.block ≠ q.block) : (w.setCell p u).setCell q v = (w.setCell q v).setCell p u := by
  unfold World.setCell
  congr 1
  apply Array.ext_getElem?
  intro i
  simp only [Array.getElem?_modify]
  by_cases h1 : p.block = i
  · have h2 : ¬ q.block = i := fun e => h (h1.trans e.symm)
    simp [h1, h2]
  · by_cases h2 : q.block = i <;> simp [h1, h2]

theorem kid_close {wr w1 : World} {base pb tb : Nat} {rest : ByteArray} {og ocap gg cap : Nat} {nodes : Int} {large whole : Bool} {r0 r1 r2 r3 : Value} {nm : ByteArray} {ks : List Tm} {kv : Value} {r : List Fr} {F : Nat → Prop} {t : Tm} {c0 c1 c2 c3 : Value} {cs zs : List Value} {o : Obj}
    (hst : ST wr base pb rest (.slice (some ⟨og, 0, none⟩) (r.length + 1) ocap) nodes large whole r0 r1 r2 r3 (⟨nm, ks, kv⟩ :: r) F) (hI : IsIn (Fb base F) wr t c0 c1 c2 c3) (ho : wr.ownsRow base 24 4 kv ks.length cs) (hK : KC (Fb base F) wr ks cs) (hz : zs.length = 4)
    (hap : Apart pb (.slice (some ⟨og, 0, none⟩) (r.length + 1) ocap) (⟨nm, ks, kv⟩ :: r) F tb) (htl : tb < wr.heap.size)
    (hown : w1.ownsRow base 24 4 (.slice (some ⟨gg, 0, none⟩) (ks.length + 1) cap) (ks.length + 1) (cs ++ zs)) (hg : (wr.alloc o).drew.grownBy w1 kv.ownBlock) (hat : kv.ownBlock = some gg ∨ gg = wr.heap.size + 1) :
    KidRel wr base pb tb rest (.slice (some ⟨og, 0, none⟩) (r.length + 1) ocap) nodes large whole r0 r1 r2 r3 nm (ks ++ [t]) r F (kidW w1 gg og ks.length r.length cap c0 c1 c2 c3) := by
  have hg' : wr.grownBy w1 kv.ownBlock := ⟨hg.os, hg.tape, hg.output, by have h1 := hg.size; have h2 : (wr.alloc o).drew.heap.size = wr.heap.size + 1 := World.size_alloc ..; omega, fun k hk hne => by
    have h2 : (wr.alloc o).drew.heap.size = wr.heap.size + 1 := World.size_alloc ..
    rw [hg.block k (by omega) hne]
    exact Below.heap_alloc wr o k hk⟩
  have h := hst.kid hI ho hK hz rfl hown hg' (hat.imp id (fun e => by omega))
  refine ⟨_, h.1, h.2.1, h.2.2 tb htl hap.2.1 (hap.2.2.1 _ (List.mem_cons_self ..)), ?_⟩
  simp only [Value.ownBlock, ne_eq, Option.some.injEq]
  intro e
  rcases hat with e2 | e2
  · exact hap.2.2.1 _ (List.mem_cons_self ..) (by rw [← e]; exact e2)
  · omega

theorem kid_close1 {w1 : World} {gg og n l cap : Nat} {c0 c1 c2 c3 : Value} :
    ((((w1.setCell ⟨gg, n * 4, none⟩ c0).setCell ⟨gg, n * 4 + 1, none⟩ c1).setCell ⟨gg, n * 4 + 2, none⟩ c2).setCell ⟨gg, n * 4 + 3, none⟩ c3).setCell ⟨og, l * 4 + 3, none⟩ (.slice (some ⟨gg, 0, none⟩) (n + 1) cap) = kidW w1 gg og n l cap c0 c1 c2 c3 := rfl

theorem kid_close2 {w1 : World} {gg og n l cap : Nat} {c0 c1 c2 c3 : Value} (h : gg ≠ og) :
    ((((w1.setCell ⟨og, l * 4 + 3, none⟩ (.slice (some ⟨gg, 0, none⟩) (n + 1) cap)).setCell ⟨gg, n * 4, none⟩ c0).setCell ⟨gg, n * 4 + 1, none⟩ c1).setCell ⟨gg, n * 4 + 2, none⟩ c2).setCell ⟨gg, n * 4 + 3, none⟩ c3 = kidW w1 gg og n l cap c0 c1 c2 c3 := by
  unfold kidW put4
  rw [setCell_comm _ ⟨og, l * 4 + 3, none⟩ ⟨gg, n * 4, none⟩ _ _ (fun e => h e.symm), setCell_comm _ ⟨og, l * 4 + 3, none⟩ ⟨gg, n * 4 + 1, none⟩ _ _ (fun e => h e.symm),
    setCell_comm _ ⟨og, l * 4 + 3, none⟩ ⟨gg, n * 4 + 2, none⟩ _ _ (fun e => h e.symm), setCell_comm _ ⟨og, l * 4 + 3, none⟩ ⟨gg, n * 4 + 3, none⟩ _ _ (fun e => h e.symm)]

theorem Stk_head_form {w : World} {base pb : Nat} {ov : Value} {F : Nat → Prop} {nm : ByteArray} {ks : List Tm} {kv : Value} {r : List Fr} (h : Stk w base pb ov F (⟨nm, ks, kv⟩ :: r)) : ∃ xa cap, kv = .slice xa ks.length cap := by
  obtain ⟨_, ⟨cs, ho, _⟩, _⟩ := h
  exact own_form ho

/-- The innermost application's cells. -/
theorem ST.head {w : World} {base pb : Nat} {rest : ByteArray} {og ocap n : Nat} {nodes : Int} {large whole : Bool} {r0 r1 r2 r3 : Value} {nm : ByteArray} {ks : List Tm} {kv : Value} {r : List Fr} {F : Nat → Prop}
    (h : ST w base pb rest (.slice (some ⟨og, 0, none⟩) n ocap) nodes large whole r0 r1 r2 r3 (⟨nm, ks, kv⟩ :: r) F) (hn : n = r.length + 1) :
    w.cell? ⟨og, r.length * 4, none⟩ = some (.int .i64 3) ∧ w.cell? ⟨og, r.length * 4 + 1, none⟩ = some (.string nm) ∧ w.cell? ⟨og, r.length * 4 + 2, none⟩ = some (.int .i64 0) ∧ w.cell? ⟨og, r.length * 4 + 3, none⟩ = some kv := by
  subst hn
  refine ⟨?_, ?_, ?_, ?_⟩
  · rw [h.own.cellAt (r.length * 4) (by omega)]
    simp only [flat, Fr.cells]
    rw [List.getElem?_append_right (by rw [flat_length]; omega), flat_length, Nat.sub_self]; rfl
  · rw [h.own.cellAt (r.length * 4 + 1) (by omega)]
    simp only [flat, Fr.cells]
    rw [List.getElem?_append_right (by rw [flat_length]; omega), flat_length, Nat.add_sub_cancel_left]; rfl
  · rw [h.own.cellAt (r.length * 4 + 2) (by omega)]
    simp only [flat, Fr.cells]
    rw [List.getElem?_append_right (by rw [flat_length]; omega), flat_length, Nat.add_sub_cancel_left]; rfl
  · rw [h.own.cellAt (r.length * 4 + 3) (by omega)]
    simp only [flat, Fr.cells]
    rw [List.getElem?_append_right (by rw [flat_length]; omega), flat_length, Nat.add_sub_cancel_left]; rfl

theorem popW_eq {w : World} {pb tb og n ocap : Nat} {c0 c1 c2 c3 : Value} :
    ((((w.setCell ⟨tb, 0, none⟩ c0).setCell ⟨tb, 1, none⟩ c1).setCell ⟨tb, 2, none⟩ c2).setCell ⟨tb, 3, none⟩ c3).setCell ⟨pb, 1, none⟩ (.slice (some ⟨og, 0, none⟩) n ocap) = popW w pb tb og n ocap c0 c1 c2 c3 := rfl

theorem endP_comma {nm : ByteArray} {ks : List Tm} {st : List (ByteArray × List Tm)} {rest : ByteArray} {large : Bool} {t : Tm} (h : preB rest bComma = true) :
    endP ((nm, ks) :: st) rest large t = (true, takeB rest bComma, (nm, ks ++ [t]) :: st, large || decide (8 < (ks ++ [t]).length), none) := by simp only [endP, h, if_true]
theorem endP_close {nm : ByteArray} {ks : List Tm} {st : List (ByteArray × List Tm)} {rest : ByteArray} {large : Bool} {t : Tm} (h : preB rest bComma = false) (h2 : preB rest bClose = true) :
    endP ((nm, ks) :: st) rest large t = endP st (takeB rest bClose) (large || decide (8 < (ks ++ [t]).length)) (.mk 3 nm 0 (ks ++ [t])) := by
  rw [endP, if_neg (by rw [h]; simp), if_pos h2]
theorem endP_fail {nm : ByteArray} {ks : List Tm} {st : List (ByteArray × List Tm)} {rest : ByteArray} {large : Bool} {t : Tm} (h : preB rest bComma = false) (h2 : preB rest bClose = false) :
    endP ((nm, ks) :: st) rest large t = (false, rest, (nm, ks ++ [t]) :: st, large || decide (8 < (ks ++ [t]).length), none) := by
  rw [endP, if_neg (by rw [h]; simp), if_neg (by rw [h2]; simp)]

/-- The root is laid down, and the text is whole. -/
def rootW (w : World) (pb : Nat) (x0 x1 x2 x3 : Value) : World := ((((w.setCell ⟨pb, 5, none⟩ x0).setCell ⟨pb, 6, none⟩ x1).setCell ⟨pb, 7, none⟩ x2).setCell ⟨pb, 8, none⟩ x3).setCell ⟨pb, 4, none⟩ (.bool true)
theorem PS_root {w : World} {pb : Nat} {rest : ByteArray} {ov : Value} {nodes : Int} {large whole : Bool} {r0 r1 r2 r3 x0 x1 x2 x3 : Value} (h : PS w pb rest ov nodes large whole r0 r1 r2 r3) : PS (rootW w pb x0 x1 x2 x3) pb rest ov nodes large true x0 x1 x2 x3 := by
  unfold PS at h ⊢
  simp [rootW, World.setCell, Array.getElem?_modify, h]
theorem But_root (w : World) (pb : Nat) (x0 x1 x2 x3 : Value) : But pb w (rootW w pb x0 x1 x2 x3) :=
  (((((But.refl pb w).setCell 5 x0).setCell 6 x1).setCell 7 x2).setCell 8 x3).setCell 4 (.bool true)

end Go.Proofs.YthhhmjjgckkdhaaDoor
