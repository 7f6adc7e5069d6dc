/-
  WHAT end DOES; the state before and behind its steps.
-/
import Derived.Test.YtkdnfioihhfmpaaGreatDoorStack
import Derived.Deep.LoopGhost
import Derived.Deep.RegionLaw
import Derived.Deep.DeepCutAuto
namespace Go.Proofs.YtkdnfioihhfmpaaGreatDoor
open Go.RowKit

def pst (l : List Fr) : List (ByteArray × List Tm) := l.map fun f => (f.nm, f.ks)

/-- What end does: whether it is right, what remains, the stack, whether a limit is exceeded, and the root. -/
def endP : List (ByteArray × List Tm) → ByteArray → Bool → Tm → Bool × ByteArray × List (ByteArray × List Tm) × Bool × Option Tm
  | [], rest, large, t => (true, rest, [], large, some t)
  | (nm, ks) :: st, rest, large, t =>
    if preB rest bComma then (true, takeB rest bComma, (nm, ks ++ [t]) :: st, large || decide (8 < (ks ++ [t]).length), none)
    else if preB rest bClose then endP st (takeB rest bClose) (large || decide (8 < (ks ++ [t]).length)) (.mk 3 nm 0 (ks ++ [t]))
    else (false, rest, (nm, ks ++ [t]) :: st, large || decide (8 < (ks ++ [t]).length), none)

theorem ST.below {w w' : World} {base pb : Nat} {rest : ByteArray} {ov : Value} {nodes : Int} {large whole : Bool} {r0 r1 r2 r3 : Value} {fr : List Fr} {F : Nat → Prop}
    (h : ST w base pb rest ov nodes large whole r0 r1 r2 r3 fr F) (hb : Below w.heap.size w w') : ST w' base pb rest ov nodes large whole r0 r1 r2 r3 fr F :=
  ⟨h.ps.below hb, h.pbase, ownsRow_of_heap h.own (fun g hg => hb.block g (h.own.lt g hg).2), h.ovp, fun b hb' => ⟨Nat.lt_of_lt_of_le (h.fF b hb').1 hb.size, (h.fF b hb').2⟩,
    Stk_carry (fun b hb' => hb.block b (h.fF b hb').1) (fun f hf g hg => ⟨hb.block g (Stk_kv_lt h.stk f hf g hg).2, (Stk_ov h.stk f hf g hg).1⟩) h.stk⟩

/-- The parser's own fields turn. -/
theorem ST.field {w w' : World} {base pb : Nat} {rest rest' : ByteArray} {ov : Value} {nodes nodes' : Int} {large whole large' whole' : Bool} {r0 r1 r2 r3 r0' r1' r2' r3' : Value} {fr : List Fr} {F : Nat → Prop}
    (h : ST w base pb rest ov nodes large whole r0 r1 r2 r3 fr F) (hP : PS w' pb rest' ov nodes' large' whole' r0' r1' r2' r3') (hb : But pb w w') : ST w' base pb rest' ov nodes' large' whole' r0' r1' r2' r3' fr F ∧ Keeps F w w' := by
  have hk : ∀ b, b < w.heap.size → b ≠ pb → w'.heap[b]? = w.heap[b]? := fun b h1 h2 => hb.block b h1 (by intro e; simp only [Option.some.injEq] at e; exact h2 e)
  have hF : ∀ b, F b → w'.heap[b]? = w.heap[b]? := fun b hb' => hk b (h.fF b hb').1 (h.fF b hb').2.1
  exact ⟨⟨hP, h.pbase, ownsRow_of_heap h.own (fun g hg => hk g (h.own.lt g hg).2 (fun e => h.ovp (by rw [hg, e]))), h.ovp, fun b hb' => ⟨Nat.lt_of_lt_of_le (h.fF b hb').1 hb.size, (h.fF b hb').2⟩,
    Stk_carry hF (fun f hf g hg => ⟨hk g (Stk_kv_lt h.stk f hf g hg).2 (Stk_ov h.stk f hf g hg).2.1, (Stk_ov h.stk f hf g hg).1⟩) h.stk⟩, ⟨hb.os, hb.tape, hb.output, hb.size, hF⟩⟩

def EndPost (base pb M : Nat) (nodes : Int) (whole : Bool) (r0 r1 r2 r3 : Value) (fr : List Fr) (F : Nat → Prop) (w : World) (R : Bool × ByteArray × List (ByteArray × List Tm) × Bool × Option Tm) (e : Ending) (w' : World) : Prop :=
  e = .returned (.bool R.1) ∧ ∃ (fr' : List Fr) (ov' : Value) (F' : Nat → Prop),
    (match R.2.2.2.2 with
      | none => ST w' base pb R.2.1 ov' nodes R.2.2.2.1 whole r0 r1 r2 r3 fr' F'
      | some u => ∃ s0 s1 s2 s3, ST w' base pb R.2.1 ov' nodes R.2.2.2.1 true s0 s1 s2 s3 fr' F' ∧ IsIn (Fb base F') w' u s0 s1 s2 s3) ∧
    pst fr' = R.2.2.1 ∧ (∀ b, F b → F' b) ∧ Keeps F w w' ∧ (∀ f ∈ fr', f.ks.length ≤ M) ∧ fr'.length ≤ fr.length

/-- What holds at the head of the loop. -/
def EndRel (base pb M tb : Nat) (nodes : Int) (whole : Bool) (r0 r1 r2 r3 : Value) (fr : List Fr) (F : Nat → Prop) (w : World) (R : Bool × ByteArray × List (ByteArray × List Tm) × Bool × Option Tm) (k : Nat) (wr : World) : Prop :=
  ∃ (fr' : List Fr) (ov' : Value) (F' : Nat → Prop) (rest' : ByteArray) (large' : Bool) (t' : Tm) (c0 c1 c2 c3 : Value),
    fr'.length ≤ k ∧ R = endP (pst fr') rest' large' t' ∧ ST wr base pb rest' ov' nodes large' whole r0 r1 r2 r3 fr' F' ∧ wr.heap[tb]? = some (.cells #[c0, c1, c2, c3] 41 (0, 0)) ∧ IsIn (Fb base F') wr t' c0 c1 c2 c3 ∧ Apart pb ov' fr' F' tb ∧
    (∀ b, F b → F' b) ∧ Keeps F w wr ∧ (∀ f ∈ fr', f.ks.length + 1 ≤ M) ∧ fr'.length ≤ fr.length

theorem own_form {w : World} {base : Nat} {T : TypeId} {k : Nat} {v : Value} {n : Nat} {xs : List Value} (h : w.ownsRow base T k v n xs) : ∃ xa cap, v = .slice xa n cap := by
  rcases h.2 with ⟨rfl, h0⟩ | ⟨g, cap, cur, rfl, _⟩
  · exact ⟨none, 0, by rw [h0]⟩
  · exact ⟨some ⟨g, 0, none⟩, cap, rfl⟩
theorem own_form_pos {w : World} {base : Nat} {T : TypeId} {k : Nat} {v : Value} {n : Nat} {xs : List Value} (h : w.ownsRow base T k v n xs) (hn : 0 < n) : ∃ g cap, v = .slice (some ⟨g, 0, none⟩) n cap := by
  rcases h.2 with ⟨rfl, h0⟩ | ⟨g, cap, cur, rfl, _⟩
  · omega
  · exact ⟨g, cap, rfl⟩

def KidRel (wr : World) (base pb tb : Nat) (rest : ByteArray) (ov : Value) (nodes : Int) (large whole : Bool) (r0 r1 r2 r3 : Value) (nm : ByteArray) (ks : List Tm) (r : List Fr) (F : Nat → Prop) (wc : World) : Prop :=
  ∃ kv, ST wc base pb rest ov nodes large whole r0 r1 r2 r3 (⟨nm, ks, kv⟩ :: r) F ∧ Keeps F wr wc ∧ wc.heap[tb]? = wr.heap[tb]? ∧ kv.ownBlock ≠ some tb

theorem row_new {w : World} {base : Nat} {T : TypeId} {g n cap : Nat} {cs : List Value} {z0 z1 z2 z3 : Value} (h : w.ownsRow base T 4 (.slice (some ⟨g, 0, none⟩) (n + 1) cap) (n + 1) (cs ++ [z0, z1, z2, z3])) (hc : cs.length = n * 4) :
    w.cell? ⟨g, n * 4, none⟩ = some z0 ∧ w.cell? ⟨g, n * 4 + 1, none⟩ = some z1 ∧ w.cell? ⟨g, n * 4 + 2, none⟩ = some z2 ∧ w.cell? ⟨g, n * 4 + 3, none⟩ = some z3 := by
  refine ⟨?_, ?_, ?_, ?_⟩ <;> (rw [h.cellAt _ (by omega), List.getElem?_append_right (by omega), hc])
  · rw [Nat.sub_self]; rfl
  · rw [Nat.add_sub_cancel_left]; rfl
  · rw [Nat.add_sub_cancel_left]; rfl
  · rw [Nat.add_sub_cancel_left]; rfl

theorem info24 : (Tryz.prog.info? 41).map (fun i => (i.zero, i.size, i.bytes)) = some (some (.agg #[.int .i64 0, .string ⟨#[]⟩, .int .i64 0, .slice none 0 0]), 4, 56) := by kernel_rfl

theorem setCell_comm (w : World) (p q : Addr) (u v : Value) (h : p.block ≠ q.block) : (w.setCell p u).setCell q v = (w.setCell q v).setCell p u := by
  unfold World.setCell
  congr 1
  apply Array.ext_getElem?
  intro i
  simp only [Array.getElem?_modify]
  by_cases h1 : p.block = i
  · have h2 : ¬ q.block = i := fun e => h (h1.trans e.symm)
    simp [h1, h2]
  · by_cases h2 : q.block = i <;> simp [h1, h2]

theorem kid_close {wr w1 : World} {base pb tb : Nat} {rest : ByteArray} {og ocap gg cap : Nat} {nodes : Int} {large whole : Bool} {r0 r1 r2 r3 : Value} {nm : ByteArray} {ks : List Tm} {kv : Value} {r : List Fr} {F : Nat → Prop} {t : Tm} {c0 c1 c2 c3 : Value} {cs zs : List Value} {o : Obj}
    (hst : ST wr base pb rest (.slice (some ⟨og, 0, none⟩) (r.length + 1) ocap) nodes large whole r0 r1 r2 r3 (⟨nm, ks, kv⟩ :: r) F) (hI : IsIn (Fb base F) wr t c0 c1 c2 c3) (ho : wr.ownsRow base 41 4 kv ks.length cs) (hK : KC (Fb base F) wr ks cs) (hz : zs.length = 4)
    (hap : Apart pb (.slice (some ⟨og, 0, none⟩) (r.length + 1) ocap) (⟨nm, ks, kv⟩ :: r) F tb) (htl : tb < wr.heap.size)
    (hown : w1.ownsRow base 41 4 (.slice (some ⟨gg, 0, none⟩) (ks.length + 1) cap) (ks.length + 1) (cs ++ zs)) (hg : (wr.alloc o).drew.grownBy w1 kv.ownBlock) (hat : kv.ownBlock = some gg ∨ gg = wr.heap.size + 1) :
    KidRel wr base pb tb rest (.slice (some ⟨og, 0, none⟩) (r.length + 1) ocap) nodes large whole r0 r1 r2 r3 nm (ks ++ [t]) r F (kidW w1 gg og ks.length r.length cap c0 c1 c2 c3) := by
  have hg' : wr.grownBy w1 kv.ownBlock := ⟨hg.os, hg.tape, hg.output, by have h1 := hg.size; have h2 : (wr.alloc o).drew.heap.size = wr.heap.size + 1 := World.size_alloc ..; omega, fun k hk hne => by
    have h2 : (wr.alloc o).drew.heap.size = wr.heap.size + 1 := World.size_alloc ..
    rw [hg.block k (by omega) hne]
    exact Below.heap_alloc wr o k hk⟩
  have h := hst.kid hI ho hK hz rfl hown hg' (hat.imp id (fun e => by omega))
  refine ⟨_, h.1, h.2.1, h.2.2 tb htl hap.2.1 (hap.2.2.1 _ (List.mem_cons_self ..)), ?_⟩
  simp only [Value.ownBlock, ne_eq, Option.some.injEq]
  intro e
  rcases hat with e2 | e2
  · exact hap.2.2.1 _ (List.mem_cons_self ..) (by rw [← e]; exact e2)
  · omega

theorem kid_close1 {w1 : World} {gg og n l cap : Nat} {c0 c1 c2 c3 : Value} :
    ((((w1.setCell ⟨gg, n * 4, none⟩ c0).setCell ⟨gg, n * 4 + 1, none⟩ c1).setCell ⟨gg, n * 4 + 2, none⟩ c2).setCell ⟨gg, n * 4 + 3, none⟩ c3).setCell ⟨og, l * 4 + 3, none⟩ (.slice (some ⟨gg, 0, none⟩) (n + 1) cap) = kidW w1 gg og n l cap c0 c1 c2 c3 := rfl

theorem kid_close2 {w1 : World} {gg og n l cap : Nat} {c0 c1 c2 c3 : Value} (h : gg ≠ og) :
    ((((w1.setCell ⟨og, l * 4 + 3, none⟩ (.slice (some ⟨gg, 0, none⟩) (n + 1) cap)).setCell ⟨gg, n * 4, none⟩ c0).setCell ⟨gg, n * 4 + 1, none⟩ c1).setCell ⟨gg, n * 4 + 2, none⟩ c2).setCell ⟨gg, n * 4 + 3, none⟩ c3 = kidW w1 gg og n l cap c0 c1 c2 c3 := by
  unfold kidW put4
  rw [setCell_comm _ ⟨og, l * 4 + 3, none⟩ ⟨gg, n * 4, none⟩ _ _ (fun e => h e.symm), setCell_comm _ ⟨og, l * 4 + 3, none⟩ ⟨gg, n * 4 + 1, none⟩ _ _ (fun e => h e.symm),
    setCell_comm _ ⟨og, l * 4 + 3, none⟩ ⟨gg, n * 4 + 2, none⟩ _ _ (fun e => h e.symm), setCell_comm _ ⟨og, l * 4 + 3, none⟩ ⟨gg, n * 4 + 3, none⟩ _ _ (fun e => h e.symm)]

theorem Stk_head_form {w : World} {base pb : Nat} {ov : Value} {F : Nat → Prop} {nm : ByteArray} {ks : List Tm} {kv : Value} {r : List Fr} (h : Stk w base pb ov F (⟨nm, ks, kv⟩ :: r)) : ∃ xa cap, kv = .slice xa ks.length cap := by
  obtain ⟨_, ⟨cs, ho, _⟩, _⟩ := h
  exact own_form ho

/-- The innermost application's cells. -/
theorem ST.head {w : World} {base pb : Nat} {rest : ByteArray} {og ocap n : Nat} {nodes : Int} {large whole : Bool} {r0 r1 r2 r3 : Value} {nm : ByteArray} {ks : List Tm} {kv : Value} {r : List Fr} {F : Nat → Prop}
    (h : ST w base pb rest (.slice (some ⟨og, 0, none⟩) n ocap) nodes large whole r0 r1 r2 r3 (⟨nm, ks, kv⟩ :: r) F) (hn : n = r.length + 1) :
    w.cell? ⟨og, r.length * 4, none⟩ = some (.int .i64 3) ∧ w.cell? ⟨og, r.length * 4 + 1, none⟩ = some (.string nm) ∧ w.cell? ⟨og, r.length * 4 + 2, none⟩ = some (.int .i64 0) ∧ w.cell? ⟨og, r.length * 4 + 3, none⟩ = some kv := by
  subst hn
  refine ⟨?_, ?_, ?_, ?_⟩
  · rw [h.own.cellAt (r.length * 4) (by omega)]
    simp only [flat, Fr.cells]
    rw [List.getElem?_append_right (by rw [flat_length]; omega), flat_length, Nat.sub_self]; rfl
  · rw [h.own.cellAt (r.length * 4 + 1) (by omega)]
    simp only [flat, Fr.cells]
    rw [List.getElem?_append_right (by rw [flat_length]; omega), flat_length, Nat.add_sub_cancel_left]; rfl
  · rw [h.own.cellAt (r.length * 4 + 2) (by omega)]
    simp only [flat, Fr.cells]
    rw [List.getElem?_append_right (by rw [flat_length]; omega), flat_length, Nat.add_sub_cancel_left]; rfl
  · rw [h.own.cellAt (r.length * 4 + 3) (by omega)]
    simp only [flat, Fr.cells]
    rw [List.getElem?_append_right (by rw [flat_length]; omega), flat_length, Nat.add_sub_cancel_left]; rfl

theorem popW_eq {w : World} {pb tb og n ocap : Nat} {c0 c1 c2 c3 : Value} :
    ((((w.setCell ⟨tb, 0, none⟩ c0).setCell ⟨tb, 1, none⟩ c1).setCell ⟨tb, 2, none⟩ c2).setCell ⟨tb, 3, none⟩ c3).setCell ⟨pb, 1, none⟩ (.slice (some ⟨og, 0, none⟩) n ocap) = popW w pb tb og n ocap c0 c1 c2 c3 := rfl

theorem endP_comma {nm : ByteArray} {ks : List Tm} {st : List (ByteArray × List Tm)} {rest : ByteArray} {large : Bool} {t : Tm} (h : preB rest bComma = true) :
    endP ((nm, ks) :: st) rest large t = (true, takeB rest bComma, (nm, ks ++ [t]) :: st, large || decide (8 < (ks ++ [t]).length), none) := by simp only [endP, h, if_true]
theorem endP_close {nm : ByteArray} {ks : List Tm} {st : List (ByteArray × List Tm)} {rest : ByteArray} {large : Bool} {t : Tm} (h : preB rest bComma = false) (h2 : preB rest bClose = true) :
    endP ((nm, ks) :: st) rest large t = endP st (takeB rest bClose) (large || decide (8 < (ks ++ [t]).length)) (.mk 3 nm 0 (ks ++ [t])) := by
  rw [endP, if_neg (by rw [h]; simp), if_pos h2]
theorem endP_fail {nm : ByteArray} {ks : List Tm} {st : List (ByteArray × List Tm)} {rest : ByteArray} {large : Bool} {t : Tm} (h : preB rest bComma = false) (h2 : preB rest bClose = false) :
    endP ((nm, ks) :: st) rest large t = (false, rest, (nm, ks ++ [t]) :: st, large || decide (8 < (ks ++ [t]).length), none) := by
  rw [endP, if_neg (by rw [h]; simp), if_neg (by rw [h2]; simp)]

/-- The root is laid down, and the text is whole. -/
def rootW (w : World) (pb : Nat) (x0 x1 x2 x3 : Value) : World := ((((w.setCell ⟨pb, 5, none⟩ x0).setCell ⟨pb, 6, none⟩ x1).setCell ⟨pb, 7, none⟩ x2).setCell ⟨pb, 8, none⟩ x3).setCell ⟨pb, 4, none⟩ (.bool true)
theorem PS_root {w : World} {pb : Nat} {rest : ByteArray} {ov : Value} {nodes : Int} {large whole : Bool} {r0 r1 r2 r3 x0 x1 x2 x3 : Value} (h : PS w pb rest ov nodes large whole r0 r1 r2 r3) : PS (rootW w pb x0 x1 x2 x3) pb rest ov nodes large true x0 x1 x2 x3 := by
  unfold PS at h ⊢
  simp [rootW, World.setCell, Array.getElem?_modify, h]
theorem But_root (w : World) (pb : Nat) (x0 x1 x2 x3 : Value) : But pb w (rootW w pb x0 x1 x2 x3) :=
  (((((But.refl pb w).setCell 5 x0).setCell 6 x1).setCell 7 x2).setCell 8 x3).setCell 4 (.bool true)

end Go.Proofs.YtkdnfioihhfmpaaGreatDoor

/-
  THE WALK OF end.
-/
namespace Go.Proofs.YtkdnfioihhfmpaaGreatDoor
open Go.RowKit

set_option maxHeartbeats 3200000 in
set_option maxRecDepth 100000 in
theorem end_any (base pb M : Nat) (rest : ByteArray) (ov : Value) (nodes : Int) (large whole : Bool) (r0 r1 r2 r3 : Value) (fr : List Fr) (F : Nat → Prop) (t : Tm) (c0 c1 c2 c3 : Value) (w : World)
    (h : ST w base pb rest ov nodes large whole r0 r1 r2 r3 fr F) (hI : IsIn (Fb base F) w t c0 c1 c2 c3) (hM : M ≤ 1099511627776) (hk : ∀ f ∈ fr, f.ks.length + 1 ≤ M) (hfr : fr.length ≤ M) :
    Calls Tryz.prog 129 #[.pointer (some ⟨pb, 0, none⟩), .agg #[c0, c1, c2, c3]] w (EndPost base pb M nodes whole r0 r1 r2 r3 fr F w (endP (pst fr) rest large t)) := by
  have hB0 : Below w.heap.size w (w.alloc (.cells #[c0, c1, c2, c3] 41)) := (Below.refl _ _).alloc (Nat.le_refl _) _
  have hstart : EndRel base pb M w.heap.size nodes whole r0 r1 r2 r3 fr F w (endP (pst fr) rest large t) fr.length (w.alloc (.cells #[c0, c1, c2, c3] 41)) := by
    refine ⟨fr, ov, F, rest, large, t, c0, c1, c2, c3, Nat.le_refl _, rfl, h.below hB0, heap_alloc_new _ _, IsIn_carry (fun b hb => hB0.block b (h.fF b hb.1).1) (fun _ h => h) t _ _ _ _ hI, ⟨?_, ?_, ?_, ?_⟩, fun _ h => h, ⟨hB0.os, hB0.tape, hB0.output, hB0.size, fun b hb => hB0.block b (h.fF b hb).1⟩, hk, Nat.le_refl _⟩
    · have := h.ps.lt; omega
    · intro e; have := (h.own.lt _ e).2; omega
    · intro f hf e; have := (Stk_kv_lt h.stk f hf _ e).2; omega
    · intro e; have := (h.fF _ e).1; omega
  generalize hR : endP (pst fr) rest large t = R at *
  clear h hI hk hR hB0
  obtain ⟨i0, hi0, hz0, hz1, hz2⟩ := info_parts info24
  have HI0 := Lib.hid (And.intro hi0 (And.intro hz0 (And.intro hz1 hz2)))
  clear hi0 hz0 hz1 hz2
  go_enter Tryz.func129, Tryz.ntmps129
  go_wp2_with fail
  go_loopg [5] fr.length (fun k s5 wr => EndRel base pb M w.heap.size nodes whole r0 r1 r2 r3 fr F w R k wr)
  case atStart => exact hstart
  case round =>
    obtain ⟨fr', ov', F', rest', large', t', d0, d1, d2, d3, hgk, hRe, hst, htb, hI', hap, hFF, hKp, hks, hfl⟩ := hrel
    have hc := hst.ps.cells
    have c1' := hc.2.1
    clear hc
    cases fr' with
    | nil =>
      obtain ⟨xa, cap, rfl⟩ := own_form hst.own
      obtain ⟨tk, tn, ts, tks⟩ := t'
      have hIs := hI'
      simp only [IsIn] at hIs
      obtain ⟨rfl, rfl, rfl, _, _, _, _, ya, ycap, rfl, _, _⟩ := hIs
      obtain ⟨e0, e1, e2, e3, ef⟩ := cells_of_block4 htb
      have hcs := hst.ps.cells
      have a0 := hcs.2.2.2.2.1
      have a5 := hcs.2.2.2.2.2.1
      have a6 := hcs.2.2.2.2.2.2.1
      have a7 := hcs.2.2.2.2.2.2.2.1
      have a8 := hcs.2.2.2.2.2.2.2.2
      have f4 := hst.ps.free 4; have f5 := hst.ps.free 5; have f6 := hst.ps.free 6; have f7 := hst.ps.free 7; have f8 := hst.ps.free 8
      have hRe2 : R = (true, rest', [], large', some (.mk tk tn ts tks)) := hRe
      have HALL := Lib.hid (And.intro hRe2 (And.intro hst (And.intro hI' (And.intro hFF (And.intro hKp hfl)))))
      clear hRe hRe2 hst htb hI' hap hFF hKp hks hcs hstart hgk ef hfl
      go_wp2_with fail
      go_ret
      have hP2 := PS_root HALL.out.2.1.ps (x0 := .int .i64 tk) (x1 := .string tn) (x2 := .int .i64 ts) (x3 := .slice ya tks.length ycap)
      have hB2 := But_root wr pb (.int .i64 tk) (.string tn) (.int .i64 ts) (.slice ya tks.length ycap)
      obtain ⟨hs1, hs2⟩ := HALL.out.2.1.field hP2 hB2
      rw [HALL.out.1]
      refine ⟨rfl, [], _, _, ⟨_, _, _, _, hs1, IsIn_carry (fun b hb => hs2.block b hb.1) (fun _ h => h) _ _ _ _ _ HALL.out.2.2.1⟩, rfl, HALL.out.2.2.2.1, HALL.out.2.2.2.2.1.trans (hs2.mono HALL.out.2.2.2.1), fun f hf => by simp at hf, Nat.zero_le _⟩
    | cons f r =>
      obtain ⟨og, ocap, rfl⟩ := own_form_pos hst.own (by simp)
      obtain ⟨nm, ks, kv⟩ := f
      have hrl : r.length < 1099511627776 := by simp only [List.length_cons] at hfl; omega
      obtain ⟨hnm, ⟨cs, ho, hK⟩, hd, hsr⟩ := hst.stk
      have hkl : ks.length < 1099511627776 := by have := hks ⟨nm, ks, kv⟩ (List.mem_cons_self ..); simp only at this; omega
      simp only at ho hK hd hnm
      obtain ⟨xk, kcap, rfl⟩ := own_form ho
      obtain ⟨tk, tn, ts, tks⟩ := t'
      have hIs := hI'
      simp only [IsIn] at hIs
      obtain ⟨rfl, rfl, rfl, _, _, _, _, ya, ycap, rfl, _, _⟩ := hIs
      obtain ⟨e0, e1, e2, e3, ef⟩ := cells_of_block4 htb
      have hog : w.heap.size ≠ og := by have := hap.2.1; simpa [Value.ownBlock, eq_comm] using this
      have hoc : wr.cell? ⟨og, r.length * 4 + 3, none⟩ = some (.slice xk ks.length kcap) := by
        rw [hst.own.cellAt (r.length * 4 + 3) (by simp only [List.length_cons]; omega)]
        simp only [flat, Fr.cells]
        rw [List.getElem?_append_right (by rw [flat_length]; omega), flat_length]
        have : r.length * 4 + 3 - r.length * 4 = 3 := by omega
        rw [this]; rfl
      have hof : wr.frozen? ⟨og, r.length * 4 + 3, none⟩ = false := hst.own.frozenAt _
      have hogl : og < wr.heap.size := (hst.own.lt og rfl).2
      have htl : w.heap.size < wr.heap.size := (Array.getElem?_eq_some_iff.1 htb).1
      have hkt : (Value.slice xk ks.length kcap).ownBlock ≠ some w.heap.size := hap.2.2.1 _ (List.mem_cons_self ..)
      have hko : (Value.slice xk ks.length kcap).ownBlock ≠ some og := fun e => (hd og e).2.2.1 rfl
      have hbase : base ≤ wr.heap.size := Nat.le_trans hst.pbase (Nat.le_of_lt hst.ps.lt)
      have HALL := Lib.hid (And.intro hRe (And.intro hst (And.intro htb (And.intro hI' (And.intro hap (And.intro hFF (And.intro hKp (And.intro hks (And.intro hfl (And.intro ho (And.intro hK (And.intro hd hgk))))))))))))
      have HO := Lib.hid ho
      clear hRe hst htb hI' hap hFF hKp hks ho hK hsr ef hstart hgk hd
      go_wp2_with fail
      have k0 : (0 : Int) ≤ (ks.length : Int) := by omega
      have k1 : (ks.length : Int) < (ks.length : Int) + 1 := by omega
      have k2 : (ks.length : Int) < ((ks.length + 1 : Nat) : Int) := by omega
      have hcl : cs.length = ks.length * 4 := HO.out.1
      have HCL := Lib.hid hcl
      clear hcl
      go_cut [] (fun wc => KidRel wr base pb w.heap.size rest' (.slice (some ⟨og, 0, none⟩) (r.length + 1) ocap) nodes large' whole r0 r1 r2 r3 nm (ks ++ [Tm.mk tk tn ts tks]) r F' wc)
      case first =>
        have hkc : ∀ (gg cap : Nat) (w1 : World), w1.ownsRow base 41 4 (.slice (some ⟨gg, 0, none⟩) (ks.length + 1) cap) (ks.length + 1) (cs ++ [.int .i64 0, .string ⟨#[]⟩, .int .i64 0, .slice none 0 0]) → (wr.alloc (.cells #[.int .i64 0, .string ⟨#[]⟩, .int .i64 0, .slice none 0 0] 41)).drew.grownBy w1 (Value.slice xk ks.length kcap).ownBlock →
            ((Value.slice xk ks.length kcap).ownBlock = some gg ∨ gg = wr.heap.size + 1) → KidRel wr base pb w.heap.size rest' (.slice (some ⟨og, 0, none⟩) (r.length + 1) ocap) nodes large' whole r0 r1 r2 r3 nm (ks ++ [Tm.mk tk tn ts tks]) r F' (kidW w1 gg og ks.length r.length cap (.int .i64 tk) (.string tn) (.int .i64 ts) (.slice ya tks.length ycap)) :=
          fun gg cap w1 hown1 hgrow hat => kid_close HALL.out.2.1 HALL.out.2.2.2.1 HALL.out.2.2.2.2.2.2.2.2.2.1 HALL.out.2.2.2.2.2.2.2.2.2.2.1 rfl HALL.out.2.2.2.2.1 htl hown1 hgrow hat
        have HKC := Lib.hid hkc
        clear hkc
        have HE := Lib.hid (And.intro hoc (And.intro e0 (And.intro e1 (And.intro e2 e3))))
        go_region_law ((refine step_append_lies _ (by rfl) _ _ _ (by rfl) base 41 i0 _ 4 56 Tryz.underlying23 HI0.out.1 HI0.out.2.1 HI0.out.2.2.1 HI0.out.2.2.2 rfl (by omega) (.slice xk ks.length kcap) ks.length cs (by rfl) ((HO.out.alloc _).drew) ⟨wr.heap.size, 0, none⟩ 1 1 [.int .i64 0, .string ⟨#[]⟩, .int .i64 0, .slice none 0 0] (by rfl) (by rfl) (World.news_of_block (cs := #[.int .i64 0, .string ⟨#[]⟩, .int .i64 0, .slice none 0 0]) (t := 41) (fr := (0, 0)) (heap_alloc_new wr _)) (by simp [Value.oneCell']) (by omega) (by unfold maxLen; omega) (by omega) (by simp; omega) (wr.heap.size + 1) (by simp) ?_; intro gg cap w1 hown1 hgrow hat hlt; have q0 := row_new hown1 HCL.out; have qf := hown1.frozenAt (ks.length * 4); have qf1 := hown1.frozenAt (ks.length * 4 + 1); have qf2 := hown1.frozenAt (ks.length * 4 + 2); have qf3 := hown1.frozenAt (ks.length * 4 + 3); have n1 : ¬ og = gg := (by rintro rfl; rcases hat with e | e; exact hko e; omega); have n2 : ¬ gg = og := fun e => n1 e.symm; have n3 : ¬ w.heap.size = gg := (by rintro e'; rcases hat with e | e; exact hkt (by rw [e, ← e']); omega); have n4 : ¬ gg = w.heap.size := fun e => n3 e.symm; have z1 : w1.frozen? ⟨og, r.length * 4 + 3, none⟩ = false := (by rw [hgrow.frozen_far _ (by simp; omega) (fun e => hko e.symm)]; exact (Below.frozen (p := ⟨og, r.length * 4 + 3, none⟩) ((Below.refl wr.heap.size wr).alloc (Nat.le_refl _) _) hogl).trans hof); have z0 : w1.cell? ⟨og, r.length * 4 + 3, none⟩ = some (.slice xk ks.length kcap) := (by rw [hgrow.cell_far _ (by simp; omega) (fun e => hko e.symm)]; exact keep_alloc wr _ _ _ HE.out.1); have y0 : w1.cell? ⟨w.heap.size, 0, none⟩ = some (.int .i64 tk) := (by rw [hgrow.cell_far _ (by simp; omega) (fun e => hkt e.symm)]; exact keep_alloc wr _ _ _ HE.out.2.1); have y1 : w1.cell? ⟨w.heap.size, 1, none⟩ = some (.string tn) := (by rw [hgrow.cell_far _ (by simp; omega) (fun e => hkt e.symm)]; exact keep_alloc wr _ _ _ HE.out.2.2.1); have y2 : w1.cell? ⟨w.heap.size, 2, none⟩ = some (.int .i64 ts) := (by rw [hgrow.cell_far _ (by simp; omega) (fun e => hkt e.symm)]; exact keep_alloc wr _ _ _ HE.out.2.2.2.1); have y3 : w1.cell? ⟨w.heap.size, 3, none⟩ = some (.slice ya tks.length ycap) := (by rw [hgrow.cell_far _ (by simp; omega) (fun e => hkt e.symm)]; exact keep_alloc wr _ _ _ HE.out.2.2.2.2); have HG := Lib.hid (HKC.out gg cap w1 hown1 hgrow hat)))
        all_goals (go_wp2_with fail)
        all_goals go_meet
        all_goals (first | rw [kid_close1] | rw [kid_close2 n2])
        all_goals exact HG.out
      case rest =>
        obtain ⟨kv', hst', hK1, htb', hkt'⟩ := hcut
        clear hoc hof
        obtain ⟨xk', kcap', rfl⟩ := Stk_head_form hst'.stk
        have hoc : wc.cell? ⟨og, r.length * 4 + 3, none⟩ = some (.slice xk' (ks ++ [Tm.mk tk tn ts tks]).length kcap') := (hst'.head rfl).2.2.2
        have hl1 : (ks ++ [Tm.mk tk tn ts tks]).length = ks.length + 1 := by simp
        rw [hl1] at hoc
        clear hl1
        have HST' := Lib.hid (And.intro hst' (And.intro hK1 (And.intro htb' hkt')))
        clear hst' hK1 htb' hkt'
        go_upto_if 41 with (fail)
        go_cut [] (fun wd => ∃ kv, ST wd base pb rest' (.slice (some ⟨og, 0, none⟩) (r.length + 1) ocap) nodes (large' || decide (8 < (ks ++ [Tm.mk tk tn ts tks]).length)) whole r0 r1 r2 r3 (⟨nm, ks ++ [Tm.mk tk tn ts tks], kv⟩ :: r) F' ∧ Keeps F' wr wd ∧ wd.heap[w.heap.size]? = wr.heap[w.heap.size]? ∧ kv.ownBlock ≠ some w.heap.size)
        case first =>
          have g3 := HST'.out.1.ps.cells.2.2.2.1
          have gf := HST'.out.1.ps.free 3
          by_cases h8 : 8 < ks.length + 1
          · have h8' : (8 : Int) < (ks.length : Int) + 1 := by omega
            have hd8 : Hid ((large' || decide (8 < (ks ++ [Tm.mk tk tn ts tks]).length)) = true) := by show _ = _; simp; omega
            clear h8
            go_wp2_with fail
            go_meet
            rw [hd8.out]
            obtain ⟨hs1, hs2⟩ := HST'.out.1.field (HST'.out.1.ps.large_ true) ((But.refl _ _).setCell _ _)
            exact ⟨_, hs1, HST'.out.2.1.trans hs2, (Below.heap_setCell _ _ _ _ HALL.out.2.2.2.2.1.1).trans HST'.out.2.2.1, HST'.out.2.2.2⟩
          · have h8' : (ks.length : Int) + 1 ≤ 8 := by omega
            have hd8 : Hid ((large' || decide (8 < (ks ++ [Tm.mk tk tn ts tks]).length)) = large') := by show _ = _; simp; omega
            clear h8
            go_wp2_with fail
            go_meet
            rw [hd8.out]
            exact ⟨_, HST'.out.1, HST'.out.2.1, HST'.out.2.2.1, HST'.out.2.2.2⟩
        case rest =>
          obtain ⟨kv2, hst2, hK2, htb2, hkt2⟩ := hcut
          obtain ⟨xk2, kcap2, rfl⟩ := Stk_head_form hst2.stk
          clear hoc HST'
          generalize hlg : (large' || decide (8 < (ks ++ [Tm.mk tk tn ts tks]).length)) = lg at *
          have HT := Lib.hid (take_any pb rest' bComma _ nodes lg whole r0 r1 r2 r3 _ hst2.ps)
          by_cases hcm : preB rest' bComma = true
          · have hRe := HALL.out.1
            have hep := endP_comma (nm := nm) (ks := ks) (st := pst r) (large := large') (t := .mk tk tn ts tks) hcm
            rw [hlg] at hep
            have HR := Lib.hid (hRe.trans hep)
            rw [hcm] at HT
            have HX := Lib.hid (And.intro hst2 (And.intro hK2 (And.intro htb2 hkt2)))
            clear hst2 hK2 htb2 hkt2 hcm hlg hRe hep
            go_wp2_with (go_at_call 128; refine (HT.out).mono ?_; rintro e w3 ⟨rfl, hP3, hB3⟩)
            go_ret
            obtain ⟨hs1, hs2⟩ := HX.out.1.field hP3 hB3
            rw [HR.out]
            refine ⟨rfl, _, _, _, hs1, rfl, HALL.out.2.2.2.2.2.1, HALL.out.2.2.2.2.2.2.1.trans ((HX.out.2.1.trans hs2).mono HALL.out.2.2.2.2.2.1), ?_, HALL.out.2.2.2.2.2.2.2.2.1⟩
            intro f hf
            simp only [List.mem_cons] at hf
            rcases hf with rfl | hf
            · have := HALL.out.2.2.2.2.2.2.2.1 _ (List.mem_cons_self ..); simp only [List.length_append, List.length_cons, List.length_nil] at this ⊢; omega
            · have := HALL.out.2.2.2.2.2.2.2.1 f (List.mem_cons_of_mem _ hf); omega
          have hcm' : preB rest' bComma = false := by simpa using hcm
          have htc : takeB rest' bComma = rest' := by simp [takeB, hcm']
          rw [hcm', htc] at HT
          have HT2 := Lib.hid (take_any pb rest' bClose (.slice (some ⟨og, 0, none⟩) (r.length + 1) ocap) nodes lg whole r0 r1 r2 r3)
          by_cases hcl : preB rest' bClose = true
          rotate_left
          · have hcl' : preB rest' bClose = false := by simpa using hcl
            have htl' : takeB rest' bClose = rest' := by simp [takeB, hcl']
            rw [hcl', htl'] at HT2
            have hRe := HALL.out.1
            have hep := endP_fail (nm := nm) (ks := ks) (st := pst r) (large := large') (t := .mk tk tn ts tks) hcm' hcl'
            rw [hlg] at hep
            have HR := Lib.hid (hRe.trans hep)
            have HX := Lib.hid (And.intro hst2 (And.intro hK2 (And.intro htb2 hkt2)))
            clear hst2 hK2 htb2 hkt2 hcm hcm' htc hlg hRe hep hcl hcl' htl'
            go_wp2_with (first
              | (go_at_call_of 128 (Value.string ⟨#[44, 32]⟩); refine (HT.out).mono ?_; rintro e w3 ⟨rfl, hP3, hB3⟩)
              | (go_at_call_of 128 (Value.string ⟨#[41]⟩); refine (HT2.out _ hP3).mono ?_; rintro e w4 ⟨rfl, hP4, hB4⟩))
            go_ret
            obtain ⟨hs1, hs2⟩ := HX.out.1.field hP4 (hB3.trans hB4)
            rw [HR.out]
            refine ⟨rfl, _, _, _, hs1, rfl, HALL.out.2.2.2.2.2.1, HALL.out.2.2.2.2.2.2.1.trans ((HX.out.2.1.trans hs2).mono HALL.out.2.2.2.2.2.1), ?_, HALL.out.2.2.2.2.2.2.2.2.1⟩
            intro f hf
            simp only [List.mem_cons] at hf
            rcases hf with rfl | hf
            · have := HALL.out.2.2.2.2.2.2.2.1 _ (List.mem_cons_self ..); simp only [List.length_append, List.length_cons, List.length_nil] at this ⊢; omega
            · have := HALL.out.2.2.2.2.2.2.2.1 f (List.mem_cons_of_mem _ hf); omega
          · rw [hcl] at HT2
            have hRe := HALL.out.1
            have hep := endP_close (nm := nm) (ks := ks) (st := pst r) (large := large') (t := .mk tk tn ts tks) hcm' hcl
            rw [hlg] at hep
            have HR := Lib.hid (hRe.trans hep)
            have HX := Lib.hid (And.intro hst2 (And.intro hK2 (And.intro htb2 hkt2)))
            have HAP := HALL.out.2.2.2.2.1
            have htbpb := HAP.1
            have hapn : Apart pb (.slice (some ⟨og, 0, none⟩) (r.length + 1) ocap) (⟨nm, ks ++ [Tm.mk tk tn ts tks], .slice xk2 (ks ++ [Tm.mk tk tn ts tks]).length kcap2⟩ :: r) F' w.heap.size := by
              refine ⟨HAP.1, HAP.2.1, ?_, HAP.2.2.2⟩
              intro f hf
              simp only [List.mem_cons] at hf
              rcases hf with rfl | hf
              · exact hkt2
              · exact HAP.2.2.1 f (List.mem_cons_of_mem _ hf)
            have HAPN := Lib.hid hapn
            have hocap : (r.length : Int) ≤ (ocap : Int) := by
              rcases hst2.own.2 with ⟨e, _⟩ | ⟨g', cap', cur', e, _, _, hn', _⟩
              · simp at e
              · simp only [Value.slice.injEq] at e; simp only [List.length_cons] at hn'; omega
            have hl1 : (ks ++ [Tm.mk tk tn ts tks]).length = ks.length + 1 := by simp
            clear hst2 hK2 htb2 hkt2 hcm hcm' htc hlg hRe hep hcl HAP hapn
            go_wp2_with (first
              | (go_at_call_of 128 (Value.string ⟨#[44, 32]⟩); refine (HT.out).mono ?_; rintro e w3 ⟨rfl, hP3, hB3⟩)
              | (go_at_call_of 128 (Value.string ⟨#[41]⟩); refine (HT2.out _ hP3).mono ?_; rintro e w4 ⟨rfl, hP4, hB4⟩;
                 have hfld := HX.out.1.field hP4 (hB3.trans hB4); have hhd := hfld.1.head rfl; have hh0 := hhd.1; have hh1 := hhd.2.1; have hh2 := hhd.2.2.1; have hh3 := hhd.2.2.2;
                 have htb4 : w4.heap[w.heap.size]? = some (.cells #[.int .i64 tk, .string tn, .int .i64 ts, .slice ya tks.length ycap] 41 (0, 0)) := (((hB3.trans hB4).block w.heap.size (by have := HX.out.2.1.size; omega) (by simpa using htbpb)).trans HX.out.2.2.1).trans HALL.out.2.2.1;
                 have hbx := cells_of_block4 htb4; have b0 := hbx.1; have b1 := hbx.2.1; have b2 := hbx.2.2.1; have b3 := hbx.2.2.2.1; have bf0 := hbx.2.2.2.2 0; have bf1 := hbx.2.2.2.2 1; have bf2 := hbx.2.2.2.2 2; have bf3 := hbx.2.2.2.2 3;
                 have pf := hP4.free 1; have pc := hP4.cells.2.1;
                 have HF4 := Lib.hid (And.intro hfld htb4); clear hfld htb4 hhd hbx hP3))
            have hgk' : r.length + 1 ≤ gk := HALL.out.2.2.2.2.2.2.2.2.2.2.2.2
            go_roundg (gk - 1)
            case measure => omega
            case rel =>
              have hpop := HF4.out.1.1.pop ((HAPN.out)) rfl
              dsimp only at hpop
              simp only [List.length_append, List.length_cons, List.length_nil, Nat.zero_add] at hpop
              rw [popW_eq]
              have hbox := popW_box (pb := pb) (og := og) (n := r.length) (ocap := ocap) (c0 := .int .i64 3) (c1 := .string nm) (c2 := .int .i64 0) (c3 := .slice xk2 (ks.length + 1) kcap2) HF4.out.2 htbpb
              generalize popW w4 pb w.heap.size og r.length ocap (.int .i64 3) (.string nm) (.int .i64 0) (.slice xk2 (ks.length + 1) kcap2) = wp at *
              refine ⟨r, _, _, _, _, _, _, _, _, _, by omega, HR.out, hpop.1, hbox, hpop.2.2.1, hpop.2.2.2, fun b hb => Or.inl (HALL.out.2.2.2.2.2.1 b hb),
                HALL.out.2.2.2.2.2.2.1.trans (((HX.out.2.1.trans HF4.out.1.2).trans hpop.2.1).mono HALL.out.2.2.2.2.2.1), fun f hf => HALL.out.2.2.2.2.2.2.2.1 f (List.mem_cons_of_mem _ hf), ?_⟩
              have := HALL.out.2.2.2.2.2.2.2.2.1; simp only [List.length_cons] at this; omega

end Go.Proofs.YtkdnfioihhfmpaaGreatDoor
