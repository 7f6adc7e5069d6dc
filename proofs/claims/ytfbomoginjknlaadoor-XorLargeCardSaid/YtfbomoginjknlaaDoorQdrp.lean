/-
  slices.Repeat AT ONE TERM: the laying of math/bits.Mul (its numbers are marks), a copy of elements of several cells, and the walk.
-/
import Derived.Shelf.Bits.Mul64
import Derived.Laws.CopyRow
import Derived.Laws.CopyOwn
import Derived.BigQuiet
import Derived.Test.YtfbomoginjknlaaDoorQcan
namespace Go.Proofs
open Go.Shelf
def Tryd.lays212_ren : Go.Shelf.Ren := ⟨fun | 212 => 34 | 263 => 58 | 264 => 59 | n => n, fun | 46 => 58 | 51 => 83 | 146 => 84 | 53 => 86 | 148 => 87 | n => n, fun | n => n⟩
theorem Tryd.lays212 : Go.Proofs.Lays.n212 Tryd.prog Tryd.lays212_ren := {
  mixed := by kernel_rfl
  f212 := Tryd.func34.trans (congrArg some (by kernel_rfl))
  f263 := Tryd.func58.trans (congrArg some (by kernel_rfl))
  f264 := Tryd.func59.trans (congrArg some (by kernel_rfl))
  t46 := Tryd.underlying58
  a46 := Tryd.isAgg58
  z46 := Tryd.sizeOf58
  v46 := Tryd.zeroValue58
  t51 := Tryd.underlying83
  a51 := Tryd.isAgg83
  z51 := Tryd.sizeOf83
  v51 := Tryd.zeroValue83
  t53 := Tryd.underlying86
  a53 := Tryd.isAgg86
  z53 := Tryd.sizeOf86
  v53 := Tryd.zeroValue86
  t146 := Tryd.underlying84
  a146 := Tryd.isAgg84
  z146 := Tryd.sizeOf84
  v146 := Tryd.zeroValue84
  t148 := Tryd.underlying87
  a148 := Tryd.isAgg87
  z148 := Tryd.sizeOf87
  v148 := Tryd.zeroValue87 }
end Go.Proofs
namespace Go.Proofs.YtfbomoginjknlaaDoor
open Go.RowKit Go.Lib

theorem run_copy_rowK (P : Program) (w : World) (dT sT ty elem : TypeId) (k g o dLen dCap : Nat) (a : Addr) (sLen sCap : Nat) (cur : Array Value) (t : TypeId) (cs : List Value)
    (hu : P.underlying dT = some (.slice elem)) (hs : (P.info? elem).map (·.size) = some k)
    (hg : w.heap[g]? = some (.cells cur t (0, 0))) (hn : cs.length = Nat.min sLen dLen * k)
    (hsrc : ∀ j v, cs[j]? = some v → w.cell? (a.add j) = some v) (hfit : o + cs.length ≤ cur.size) (h1 : ∀ v ∈ cs, v.oneCell' = true) :
    (Builtin.copy_ #[dT, sT] ty #[.slice (some ⟨g, o, none⟩) dLen dCap, .slice (some a) sLen sCap]).run P w =
      .ok (goInt (Nat.min sLen dLen)) (w.setRow g (cur.toList.take o ++ cs ++ cur.toList.drop (o + cs.length)).toArray) := by
  have hl := run_loadCells_list (P := P) w a cs hsrc
  have hst := run_storeCells_at P g o t cs 0 cur w hg (by simpa using hfit) h1
  cases hq : P.info? elem with
  | none => simp [hq] at hs
  | some i =>
    have hi : i.size = k := by simpa [hq] using hs
    simp [Builtin.copy_, run_underlying hu, Builtin.lenOf, Builtin.firstCells, sizeOf, typeInfo, hq, hi, ← hn, hl, hst]
theorem wpList_copy_rowK {P : Program} {w : World} {ops : Array Oper} {rest : List Oper} {o : Oper} {a : Act} {Q : Exit → Act → World → Prop} (hgd : o.guard = none) (d s : Operand) (dT sT : TypeId)
    (ho : o.op = .call { callee := .builtin .copy, args := #[d, s], argTypes := #[dT, sT] }) (elem : TypeId) (hu : P.underlying dT = some (.slice elem)) (k : Nat) (hsz : (P.info? elem).map (·.size) = some k)
    (g off dLen dCap : Nat) (ad : Addr) (sLen sCap : Nat) (hd : a.eval d = .slice (some ⟨g, off, none⟩) dLen dCap) (hs : a.eval s = .slice (some ad) sLen sCap)
    (cur : Array Value) (t : TypeId) (hg : w.heap[g]? = some (.cells cur t (0, 0))) (cs : List Value) (m : Nat) (hm : Nat.min sLen dLen = m) (hn : cs.length = m * k)
    (hsrc : ∀ j v, cs[j]? = some v → w.cell? (ad.add j) = some v) (hfit : off + cs.length ≤ cur.size) (h1 : ∀ v ∈ cs, v.oneCell' = true)
    (h : wpList P ops Q rest (a.put o.dst (.int .i64 (m : Int))) (w.setRow g (cur.toList.take off ++ cs ++ cur.toList.drop (off + cs.length)).toArray)) : wpList P ops Q (o :: rest) a w := by
  refine wpList_plain hgd fun K hK => ?_
  have hrun := run_copy_rowK P w dT sT o.type elem k g off dLen dCap ad sLen sCap cur t cs hu hsz hg (by rw [hm]; exact hn) hsrc hfit h1
  rw [hm] at hrun
  have hgi : goInt m = .int .i64 (m : Int) := rfl
  rw [hgi] at hrun
  unfold Oper.wp
  simp only [execOp, ho, resolve, invoke, builtin, Sem.run_bind, Sem.run_pure, Result.andThen_ok, List.map_toArray, List.map_cons, List.map_nil, hd, hs, hrun]
  exact hK _ _ h
theorem step_copy_rowK {P : Program} {w : World} {ops : Array Oper} {o : Oper} {a : Act} {K : Act → World → Prop} {Q : Exit → Act → World → Prop} {E : Prop} (hgd : o.guard = none) (d s : Operand) (dT sT : TypeId)
    (ho : o.op = .call { callee := .builtin .copy, args := #[d, s], argTypes := #[dT, sT] }) (elem : TypeId) (hu : P.underlying dT = some (.slice elem)) (k : Nat) (hsz : (P.info? elem).map (·.size) = some k)
    (g off dLen dCap : Nat) (ad : Addr) (sLen sCap : Nat) (hd : a.eval d = .slice (some ⟨g, off, none⟩) dLen dCap) (hs : a.eval s = .slice (some ad) sLen sCap)
    (cur : Array Value) (t : TypeId) (hg : w.heap[g]? = some (.cells cur t (0, 0))) (cs : List Value) (m : Nat) (hm : Nat.min sLen dLen = m) (hn : cs.length = m * k)
    (hsrc : ∀ j v, cs[j]? = some v → w.cell? (ad.add j) = some v) (hfit : off + cs.length ≤ cur.size) (h1 : ∀ v ∈ cs, v.oneCell' = true)
    (h : K (a.put o.dst (.int .i64 (m : Int))) (w.setRow g (cur.toList.take off ++ cs ++ cur.toList.drop (off + cs.length)).toArray)) :
    if Region.wanted o (yielded ops a.tmps) = true then Oper.wp P o a w K Q else E := by
  have hw : Region.wanted o (yielded ops a.tmps) = true := by simp [Region.wanted, hgd]
  rw [if_pos hw]
  have hrun := run_copy_rowK P w dT sT o.type elem k g off dLen dCap ad sLen sCap cur t cs hu hsz hg (by rw [hm]; exact hn) hsrc hfit h1
  rw [hm] at hrun
  have hgi : goInt m = .int .i64 (m : Int) := rfl
  rw [hgi] at hrun
  unfold Oper.wp
  simp only [execOp, ho, resolve, invoke, builtin, Sem.run_bind, Sem.run_pure, Result.andThen_ok, List.map_toArray, List.map_cons, List.map_nil, hd, hs, hrun]
  exact h
/-- The cells of n equal elements. -/
def repC (cs : List Value) : Nat → List Value
  | 0 => []
  | n + 1 => repC cs n ++ cs
theorem repC_len (cs : List Value) : ∀ n, (repC cs n).length = n * cs.length
  | 0 => by simp [repC]
  | n + 1 => by rw [repC, List.length_append, repC_len cs n, Nat.add_mul, Nat.one_mul]
theorem repC_add (cs : List Value) (m : Nat) : ∀ n, repC cs (m + n) = repC cs m ++ repC cs n
  | 0 => by simp [repC]
  | n + 1 => by rw [← Nat.add_assoc, repC, repC_add cs m n, repC, List.append_assoc]
theorem repC_mem {cs : List Value} {v : Value} : ∀ {n : Nat}, v ∈ repC cs n → v ∈ cs
  | 0, h => absurd h (by simp [repC])
  | n + 1, h => by
    rw [repC] at h
    rcases List.mem_append.1 h with h | h
    · exact repC_mem h
    · exact h
theorem repC_KC {S : Nat → Prop} {w : World} {t : Tm} {c0 c1 c2 c3 : Value} (h : IsIn S w t c0 c1 c2 c3) : ∀ n, KC S w (List.replicate n t) (repC [c0, c1, c2, c3] n)
  | 0 => rfl
  | n + 1 => by
    have e : repC [c0, c1, c2, c3] (n + 1) = [c0, c1, c2, c3] ++ repC [c0, c1, c2, c3] n := by
      rw [Nat.add_comm, repC_add]; rfl
    rw [List.replicate_succ, e]
    exact ⟨c0, c1, c2, c3, _, rfl, h, repC_KC h n⟩
/-- A row of n elements, the first j of which are set. -/
structure RpS (w : World) (g n : Nat) (cs : List Value) (j : Nat) (wr : World) : Prop where
  below : Below w.heap.size w wr
  row : ∃ cur : Array Value, wr.heap[g]? = some (.cells cur 24 (0, 0)) ∧ cur.size = n * 4 ∧ cur.toList.take (j * 4) = repC cs j
  le : j ≤ n
theorem RpS.copied {w wr : World} {g n j m : Nat} {cs : List Value} {cur : Array Value} (hcs : cs.length = 4) (hB : Below w.heap.size w wr) (hwg : w.heap.size ≤ g) (h0 : wr.heap[g]? = some (.cells cur 24 (0, 0))) (h1 : cur.size = n * 4) (h2 : cur.toList.take (j * 4) = repC cs j) (hm : j + m ≤ n) :
    RpS w g n cs (j + m) (wr.setRow g (cur.toList.take (j * 4) ++ repC cs m ++ cur.toList.drop (j * 4 + (repC cs m).length)).toArray) := by
  have hl : (repC cs m).length = m * 4 := by rw [repC_len, hcs]
  have hj : (repC cs j).length = j * 4 := by rw [repC_len, hcs]
  refine ⟨?_, ⟨_, setRow_heap wr g cur _ 24 _ h0, ?_, ?_⟩, hm⟩
  · exact below_setRow hB hwg _
  · simp only [List.size_toArray, List.length_append, List.length_drop, Array.length_toList, h1]
    rw [h2, hj, hl]
    omega
  · rw [h2]
    show List.take ((j + m) * 4) (repC cs j ++ repC cs m ++ _) = _
    rw [List.take_append_of_le_length (by rw [List.length_append, hj, hl]; omega), List.take_of_length_le (by rw [List.length_append, hj, hl]; omega), repC_add]
theorem rep_cells {wr : World} {g j : Nat} {cs : List Value} {cur : Array Value} (h0 : wr.heap[g]? = some (.cells cur 24 (0, 0))) (h2 : cur.toList.take (j * 4) = repC cs j) {m : Nat} (hm : m ≤ j) : ∀ q v, (repC cs m)[q]? = some v → wr.cell? ((⟨g, 0, none⟩ : Addr).add q) = some v := by
  intro q v hq
  rw [add_plain, Nat.zero_add, cell_of_row wr g q cur _ (0, 0) h0]
  have e : repC cs j = repC cs m ++ repC cs (j - m) := by rw [← repC_add]; congr 1; omega
  have h3 : (repC cs j)[q]? = some v := by
    rw [e, List.getElem?_append_left (by
      rcases Nat.lt_or_ge q (repC cs m).length with h | h
      · exact h
      · rw [List.getElem?_eq_none h] at hq; cases hq)]
    exact hq
  rw [← h2, List.getElem?_take] at h3
  split at h3
  · simpa using h3
  · cases h3
theorem RpS.done {w wr : World} {g n : Nat} {t : Tm} {c0 c1 c2 c3 : Value} {S : Nat → Prop} (h : RpS w g n [c0, c1, c2, c3] n wr) (hI : IsIn S wr t c0 c1 c2 c3) : Row wr (List.replicate n t) (some ⟨g, 0, none⟩) := by
  obtain ⟨cur, h0, h1, h2⟩ := h.row
  refine Row_cellsQ g _ 0 _ (repC_KC hI n) fun j u hu => ?_
  have := rep_cells h0 h2 (Nat.le_refl n) j u hu
  rw [add_plain] at this
  exact this
def RepPost (t : Tm) (n : Nat) (w : World) (e : Ending) (w' : World) : Prop := ∃ g, e = .returned (.slice (some ⟨g, 0, none⟩) n n) ∧ Row w' (List.replicate n t) (some ⟨g, 0, none⟩) ∧ w.heap.size ≤ g ∧ Ext w w'
theorem mul_one_any (n : Nat) (hn : n ≤ 1048576) (w : World) : Calls Tryd.prog 34 #[.int .u64 1, .int .u64 n] w fun e w' => e = .returned (.tuple #[.int .u64 0, .int .u64 n]) ∧ w' = w := by
  have h := Any.bits_Mul Tryd.lays212 1 n (by decide) (by omega) w
  rw [Nat.one_mul, Nat.div_eq_of_lt (by omega), Nat.mod_eq_of_lt (by omega)] at h
  exact h
theorem RpS_made {w w2 : World} {n : Nat} {cs xs : List Value} (ho : w2.ownsRow w.heap.size 24 4 (.slice (some ⟨w.heap.size, 0, none⟩) n n) n xs) (hg : w.grownBy w2 none) : RpS w w.heap.size n cs 0 w2 := by
  refine ⟨(Below.refl w.heap.size w).grown hg (Nat.le_refl _) (fun q hq => by simp at hq), ?_, Nat.zero_le _⟩
  rcases ho.2 with ⟨e, _⟩ | ⟨g, cap, cur, e, _, hgg, _, _, hs, _⟩
  · cases e
  · simp only [Value.slice.injEq, Option.some.injEq, Addr.mk.injEq, and_true, true_and] at e
    obtain ⟨rfl, rfl⟩ := e
    exact ⟨cur, hgg, hs, by simp [repC]⟩
set_option maxHeartbeats 3200000 in
set_option maxRecDepth 100000 in
theorem repeat_any (t : Tm) (n b o cap : Nat) (c0 c1 c2 c3 : Value) (w : World) (hn : n ≤ 1000000) (p0 : w.cell? ⟨b, o, none⟩ = some c0) (p1 : w.cell? ⟨b, o + 1, none⟩ = some c1) (p2 : w.cell? ⟨b, o + 2, none⟩ = some c2) (p3 : w.cell? ⟨b, o + 3, none⟩ = some c3) (hI : Is w t c0 c1 c2 c3) :
    Calls Tryd.prog 16 #[.slice (some ⟨b, o, none⟩) 1 cap, .int .i64 n] w (RepPost t n w) := by
  obtain ⟨k2, n2, s2, ya2, yl2, yc2, rfl, rfl, rfl, rfl⟩ := Is_form hI
  obtain ⟨i0, hi0, hz0, hz1, hz2⟩ := info_parts info24
  have HI0 := Lib.hid (And.intro hi0 (And.intro hz0 (And.intro hz1 hz2)))
  have hSZ : (Tryd.prog.info? 24).map (·.size) = some 4 := by rw [hi0]; simp [hz1]
  have HSZ := Lib.hid hSZ
  have HMU := Lib.hid (fun W => mul_one_any n (by omega) W)
  have HIN := Lib.hid (Is_IsIn _ _ _ _ _ hI)
  have HCE : Hid (∀ W, Ext w W → ∀ q v, (repC [Value.int .i64 k2, .string n2, .int .i64 s2, .slice ya2 yl2 yc2] 1)[q]? = some v → W.cell? ((⟨b, o, none⟩ : Addr).add q) = some v) := by
    show ∀ _, _
    intro W x q v hq
    rw [add_plain]
    rcases q with _ | _ | _ | _ | q
    · simp [repC] at hq; subst hq; exact keep_below x _ _ p0
    · simp [repC] at hq; subst hq; exact keep_below x _ _ p1
    · simp [repC] at hq; subst hq; exact keep_below x _ _ p2
    · simp [repC] at hq; subst hq; exact keep_below x _ _ p3
    · simp [repC] at hq
  have HONE : Hid (∀ m, ∀ v ∈ repC [Value.int .i64 k2, .string n2, .int .i64 s2, .slice ya2 yl2 yc2] m, v.oneCell' = true) := by
    show ∀ _, _
    intro m v hv
    have := repC_mem hv
    simp only [List.mem_cons, List.not_mem_nil, or_false] at this
    rcases this with rfl | rfl | rfl | rfl <;> rfl
  clear hI hi0 hz0 hz1 hz2 hSZ p0 p1 p2 p3
  obtain ⟨g, hgw⟩ : ∃ g, w.heap.size = g := ⟨_, rfl⟩
  have HGW := Lib.hid hgw
  have HGI : Hid (∀ W, Ext w W → IsIn (fun q => q < w.heap.size) W t (.int .i64 k2) (.string n2) (.int .i64 s2) (.slice ya2 yl2 yc2)) := fun W x => IsIn_carry (fun q (hq : q < w.heap.size) => x.block q hq) (fun _ h => h) _ _ _ _ _ HIN.out
  generalize hcs : ([.int .i64 k2, .string n2, .int .i64 s2, .slice ya2 yl2 yc2] : List Value) = cs at HCE HONE
  have hc4 : cs.length = 4 := by rw [← hcs]; rfl
  have HC4 := Lib.hid hc4
  have HCS := Lib.hid hcs
  obtain ⟨m1, hm1⟩ : ∃ m, Nat.min 1 n = m := ⟨_, rfl⟩
  have HM1 := Lib.hid hm1
  have hm1a : m1 ≤ 1 ∧ m1 ≤ n ∧ (0 < n → 0 < m1) := by rw [← hm1]; exact ⟨Nat.min_le_left _ _, Nat.min_le_right _ _, fun h => by have : Nat.min 1 n = 1 := Nat.min_eq_left h; omega⟩
  have HM1A := Lib.hid hm1a
  have HSRC : Hid (∀ W, Ext w W → ∀ q v, (repC cs m1)[q]? = some v → W.cell? ((⟨b, o, none⟩ : Addr).add q) = some v) := by
    show ∀ _, _
    intro W x q v hq
    rcases Nat.lt_or_ge 0 m1 with h | h
    · have e : m1 = 1 := by omega
      rw [e] at hq
      exact HCE.out W x q v hq
    · have e : m1 = 0 := by omega
      rw [e] at hq
      simp [repC] at hq
  have HL1 : Hid ((repC cs m1).length = m1 * 4) := by show _ = _; rw [repC_len, hc4]
  clear hc4 hcs hm1 hm1a HCE HIN hgw
  have q0 : decide ((n : Int) < 0) = false := decide_eq_false (by omega)
  have q1 : decide ((9223372036854775807 : Int) < (n : Int)) = false := decide_eq_false (by omega)
  have hw1 : IntKind.u64.wrap (n : Int) = (n : Int) := IntWalk.u64_in _ (by omega)
  have hw2 : IntKind.i64.wrap (n : Int) = (n : Int) := IntWalk.i64_in _ (by omega)
  go_enter Tryd.func16, Tryd.ntmps16
  go_upto_region 8 with (first
    | (go_at_call 34; refine (HMU.out _).mono ?_; rintro e w1 ⟨he, hw⟩; subst he; subst hw)
    | (at_make; (refine make_full_at _ w1.heap.size rfl rfl _ _ _ rfl 24 i0 _ 4 Tryd.underlying22 HI0.out.1 HI0.out.2.1 HI0.out.2.2.1 n rfl rfl (by rw [HI0.out.2.2.2]; omega) (by unfold maxLen; omega) ?_; intro w2 hown1 hgrow; have HM := Lib.hid (RpS_made (cs := cs) hown1 hgrow); clear hown1 hgrow))
    | (obtain ⟨cur, h0, h1, h2⟩ := HM.out.row; (refine wpList_copy_rowK rfl _ _ _ _ rfl 24 Tryd.underlying22 4 HSZ.out w1.heap.size 0 n n ⟨b, o, none⟩ 1 cap rfl rfl cur 24 h0 (repC cs m1) m1 HM1.out HL1.out (HSRC.out _ HM.out.below) (by have := HL1.out; have := HM1A.out; omega) (HONE.out m1) ?_; have HR : Hid (RpS w1 w1.heap.size n cs m1 (w2.setRow w1.heap.size (repC cs m1 ++ List.drop (repC cs m1).length cur.toList).toArray)) := Lib.hid (by have := RpS.copied (m := m1) HC4.out HM.out.below (Nat.le_refl _) h0 h1 h2 (by have := HM1A.out; omega); simpa using this); clear h0 h1 h2)))
  have hR := HR.out
  generalize w2.setRow w1.heap.size _ = w3 at hR ⊢
  have HR3 := Lib.hid hR
  clear hR HR q0 q1 hw1 hw2
  go_loopw [8] (fun i wr => ∃ j : Nat, (0 < n → 0 < j) ∧ i = .int .i64 j ∧ RpS w1 w1.heap.size n cs j wr) (fun i _ => n - (intOf i).toNat)
  case atStart => exact ⟨m1, HM1A.out.2.2, rfl, HR3.out⟩
  case round =>
    obtain ⟨j, hj0, rfl, hR⟩ := hrel
    have hjn := hR.le
    by_cases hlt : j < n
    rotate_left
    · have hjl : j = n := by omega
      subst hjl
      rw [← HCS.out] at hR
      have HQ : Hid (RepPost t j w1 (.returned (.slice (some ⟨w1.heap.size, 0, none⟩) j j)) wr) := ⟨_, rfl, hR.done (HGI.out wr hR.below), Nat.le_refl _, hR.below⟩
      clear hR hjn
      go_wp2_with fail
      go_ret
      exact HQ.out
    obtain ⟨cur, h0, h1, h2⟩ := hR.row
    have hB := hR.below
    have hjp := hj0 (by omega)
    obtain ⟨m, hm⟩ : ∃ m, Nat.min j (n - j) = m := ⟨_, rfl⟩
    have hmb : m ≤ j ∧ m ≤ n - j ∧ 0 < m := by
      rw [← hm]
      exact ⟨Nat.min_le_left _ _, Nat.min_le_right _ _, Nat.lt_min.2 ⟨hjp, by omega⟩⟩
    have HMB := Lib.hid hmb
    have HM := Lib.hid hm
    have HL : Hid ((repC cs m).length = m * 4) := by show _ = _; rw [repC_len, HC4.out]
    have HST := Lib.hid (And.intro h0 (And.intro h1 (And.intro h2 hB)))
    have hnx := RpS.copied (wr := wr.drew) (m := m) HC4.out hB.drew (Nat.le_refl _) h0 h1 h2 (by omega)
    rw [List.append_assoc] at hnx
    have HNX := Lib.hid hnx
    have hcj : ¬ n = j := by omega
    have hcj2 : ¬ n - j = 0 := by omega
    have hw5 : IntKind.i64.wrap ((j : Int) + (m : Int)) = ((j + m : Nat) : Int) := (IntWalk.i64_in _ (by omega)).trans (by omega)
    have i1 : (0 : Int) ≤ (j : Int) := by omega
    have i2 : (j : Int) ≤ (n : Int) := by omega
    clear hR h0 h1 h2 hB hm hmb hnx
    go_wp2_with fail
    go_region_law
      (refine step_copy_rowK (by rfl) _ _ _ _ (by rfl) 24 Tryd.underlying22 4 HSZ.out w1.heap.size (j * 4) (n - j) (n - j) ⟨w1.heap.size, 0, none⟩ j n (by rfl) (by rfl) cur 24 (by first | exact HST.out.1 | exact HST.out.1) (repC cs m) m HM.out HL.out (by intro q v hq; have := rep_cells HST.out.1 HST.out.2.2.1 HMB.out.1 q v hq; exact this) (by have := HL.out; have := HST.out.2.1; have := HMB.out; omega) (HONE.out m) ?_)
    all_goals (try simp only [Act.put, List.getElem_toArray, List.getElem_cons_zero, List.getElem_cons_succ, List.setIfInBounds_toArray, List.set_cons_zero, List.set_cons_succ])
    all_goals (go_wp2_with fail)
    all_goals go_roundw
    case rel => exact ⟨j + m, fun _ => by omega, by go_num, HNX.out⟩
    case measure => have := HMB.out; simp only [intOf]; omega
end Go.Proofs.YtfbomoginjknlaaDoor
