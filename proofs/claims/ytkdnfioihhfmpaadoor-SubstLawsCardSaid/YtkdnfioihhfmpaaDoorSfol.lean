/-
  THE WALK OF subst.followed.
-/
import Derived.Test.YtkdnfioihhfmpaaDoorSapply
import Derived.Test.YtkdnfioihhfmpaaDoorSbcopy
import Derived.Test.YtkdnfioihhfmpaaDoorSortB
import Derived.Deep.RegionHeldLaw
namespace Go.Proofs.YtkdnfioihhfmpaaDoor
open Go.RowKit

theorem infoBd : (Tryd.prog.info? 77).map (fun i => (i.zero, i.size, i.bytes)) = some (some (.agg #[.int .i64 0, .string ⟨#[]⟩, .int .i64 0, .slice none 0 0, .int .i64 0, .string ⟨#[]⟩, .int .i64 0, .slice none 0 0]), 8, 112) := by kernel_rfl

/-- The bindings with another substitution applied, without those that bind nothing then. -/
def folP (ts : List Bd) : List Bd → List Bd × Int
  | [] => ([], 0)
  | b :: bs => if (applyP ts b.2).2 = 0 then (if (folP ts bs).2 = 0 then (if cmpT b.1 (applyP ts b.2).1 = 0 then ((folP ts bs).1, 0) else ((b.1, (applyP ts b.2).1) :: (folP ts bs).1, 0)) else ([], (folP ts bs).2)) else ([], (applyP ts b.2).2)
/-- What comes out with these bindings done. -/
def folS (ts acc bs : List Bd) : List Bd × Int := if (folP ts bs).2 = 0 then (acc ++ (folP ts bs).1, 0) else ([], (folP ts bs).2)
theorem folS_nil (ts bs : List Bd) : folS ts [] bs = if (folP ts bs).2 = 0 then ((folP ts bs).1, 0) else ([], (folP ts bs).2) := rfl
theorem folS_end (ts acc : List Bd) : folS ts acc [] = (acc, 0) := by simp [folS, folP]
theorem folS_err {ts acc bs : List Bd} {b : Bd} (h : ¬ (applyP ts b.2).2 = 0) : folS ts acc (b :: bs) = ([], (applyP ts b.2).2) := by
  unfold folS
  have e : folP ts (b :: bs) = ([], (applyP ts b.2).2) := by rw [folP, if_neg h]
  rw [e, if_neg h]
theorem folS_skip {ts acc bs : List Bd} {b : Bd} (h : (applyP ts b.2).2 = 0) (hc : cmpT b.1 (applyP ts b.2).1 = 0) : folS ts acc (b :: bs) = folS ts acc bs := by
  unfold folS
  by_cases h2 : (folP ts bs).2 = 0
  · have e : folP ts (b :: bs) = ((folP ts bs).1, 0) := by rw [folP, if_pos h, if_pos h2, if_pos hc]
    rw [e, if_pos h2]; rfl
  · have e : folP ts (b :: bs) = ([], (folP ts bs).2) := by rw [folP, if_pos h, if_neg h2]
    rw [e, if_neg h2, if_neg h2]
theorem folS_keep {ts acc bs : List Bd} {b : Bd} (h : (applyP ts b.2).2 = 0) (hc : ¬ cmpT b.1 (applyP ts b.2).1 = 0) : folS ts acc (b :: bs) = folS ts (acc ++ [(b.1, (applyP ts b.2).1)]) bs := by
  unfold folS
  by_cases h2 : (folP ts bs).2 = 0
  · have e : folP ts (b :: bs) = ((b.1, (applyP ts b.2).1) :: (folP ts bs).1, 0) := by rw [folP, if_pos h, if_pos h2, if_neg hc]
    rw [e, if_pos h2]
    simp
  · have e : folP ts (b :: bs) = ([], (folP ts bs).2) := by rw [folP, if_pos h, if_neg h2]
    rw [e, if_neg h2, if_neg h2]
theorem folS_pair (ts bs : List Bd) (h : (folP ts bs).2 ≠ 0 → (folP ts bs).1 = []) : folS ts [] bs = folP ts bs := by
  unfold folS
  by_cases h2 : (folP ts bs).2 = 0
  · rw [if_pos h2]; exact Prod.ext rfl h2.symm
  · rw [if_neg h2]; exact Prod.ext (h h2).symm rfl

/-- Bindings that are made: a row of the call's own, what it holds lies elsewhere. -/
def BdsAt (H : Nat) (wr : World) (acc : List Bd) (kv : Value) : Prop :=
  ∃ (F : Nat → Prop) (cs : List Value), wr.ownsRow H 77 8 kv acc.length cs ∧ KC F wr (flatB acc) cs ∧ ∀ b, F b → H ≤ b ∧ b < wr.heap.size ∧ kv.ownBlock ≠ some b
theorem BdsAt_nil (H : Nat) (w : World) : BdsAt H w [] (.slice none 0 0) := ⟨fun _ => False, [], World.ownsRow_nil w H _ 8, rfl, fun _ h => h.elim⟩
theorem BdsAt_form {H : Nat} {w : World} {acc : List Bd} {kv : Value} (h : BdsAt H w acc kv) : ∃ xa cap, kv = .slice xa acc.length cap := by
  obtain ⟨F, cs, ho, _⟩ := h; exact own_form ho
theorem BdsAt_ext {H : Nat} {w w' : World} {acc : List Bd} {kv : Value} (h : BdsAt H w acc kv) (hE : Ext w w') : BdsAt H w' acc kv := by
  obtain ⟨F, cs, ho, hK, hF⟩ := h
  exact ⟨F, cs, own_heap ho (fun q hq => hE.block q (ho.lt q hq).2), KC_carry (fun b hb => hE.block b (hF b hb).2.1) (fun _ h => h) _ _ hK, fun b hb => ⟨(hF b hb).1, Nat.lt_of_lt_of_le (hF b hb).2.1 hE.size, (hF b hb).2.2⟩⟩
theorem flatB_snoc : ∀ (l : List Bd) (b : Bd), flatB (l ++ [b]) = flatB l ++ [b.1, b.2]
  | [], b => rfl
  | x :: l, b => by simp only [List.cons_append, flatB, flatB_snoc l b]
/-- One more binding. -/
theorem BdsAt_push {H n g lcap cap : Nat} {wr w6 w8 : World} {acc : List Bd} {xl : Option Addr} {cs : List Value} {F : Nat → Prop} {v t : Tm} {c0 c1 c2 c3 d0 d1 d2 d3 : Value} {o : Obj} (hn : n = acc.length)
    (ho : wr.ownsRow H 77 8 (.slice xl n lcap) n cs) (hK : KC F wr (flatB acc) cs) (hF : ∀ b, F b → H ≤ b ∧ b < wr.heap.size ∧ (Value.slice xl n lcap).ownBlock ≠ some b) (hH : H ≤ wr.heap.size)
    (hB : Below wr.heap.size wr w6) (hI : IsIn (fun b => wr.heap.size ≤ b ∧ b < w6.heap.size) w6 v c0 c1 c2 c3) (hJ : IsIn (fun b => wr.heap.size ≤ b ∧ b < w6.heap.size) w6 t d0 d1 d2 d3) (hown : w8.ownsRow H 77 8 (.slice (some ⟨g, 0, none⟩) (n + 1) cap) (n + 1) (cs ++ [c0, c1, c2, c3, d0, d1, d2, d3])) (hg : (w6.alloc o).grownBy w8 (Value.slice xl n lcap).ownBlock)
    (hat : (Value.slice xl n lcap).ownBlock = some g ∨ g = w6.heap.size + 1) :
    BdsAt H w8 (acc ++ [(v, t)]) (.slice (some ⟨g, 0, none⟩) (n + 1) cap) ∧ Below H wr w8 ∧ ∀ b, wr.heap.size ≤ b → b < w6.heap.size → w8.heap[b]? = w6.heap[b]? := by
  subst hn
  have hsz := hB.size
  have hgs := hg.size
  rw [World.size_alloc] at hgs
  have hlt := fun q hq => ho.lt q hq
  have hk : ∀ b, b < w6.heap.size → (Value.slice xl acc.length lcap).ownBlock ≠ some b → w8.heap[b]? = w6.heap[b]? := fun b hb hne => by
    rw [hg.block b (by rw [World.size_alloc]; omega) (fun e => hne e.symm), Below.heap_alloc _ _ _ hb]
  refine ⟨⟨fun b => F b ∨ (wr.heap.size ≤ b ∧ b < w6.heap.size), cs ++ [c0, c1, c2, c3, d0, d1, d2, d3], by simpa using hown, ?_, ?_⟩, ?_, fun b h1 h2 => hk b h2 (fun e => by have := (hlt b e).2; omega)⟩
  · rw [flatB_snoc]
    refine KC_append _ _ _ _ (KC_carry (fun b hb => ?_) (fun b hb => Or.inl hb) _ _ hK) ⟨_, _, _, _, _, rfl, IsIn_carry (fun b hb => ?_) (fun b hb => Or.inr hb) _ _ _ _ _ hI, KC_one_term (IsIn_carry (fun b hb => ?_) (fun b hb => Or.inr hb) _ _ _ _ _ hJ)⟩
    · rw [hk b (by have := (hF b hb).2.1; omega) (hF b hb).2.2]; exact hB.block b (hF b hb).2.1
    · exact hk b hb.2 (fun e => by have := (hlt b e).2; omega)
    · exact hk b hb.2 (fun e => by have := (hlt b e).2; omega)
  · have hnew : ∀ b, b < w6.heap.size → (Value.slice xl acc.length lcap).ownBlock ≠ some b → (Value.slice (some ⟨g, 0, none⟩) (acc.length + 1) cap).ownBlock ≠ some b := fun b h1 h2 e => by
      have e2 : g = b := by simpa [Value.ownBlock] using e
      rcases hat with h | h
      · exact h2 (by rw [h, e2])
      · omega
    rintro b (hb | hb)
    · exact ⟨(hF b hb).1, by have := (hF b hb).2.1; omega, hnew b (by have := (hF b hb).2.1; omega) (hF b hb).2.2⟩
    · exact ⟨by omega, by omega, hnew b hb.2 (fun e => by have := (hlt b e).2; omega)⟩
  · exact ((hB.mono hH).alloc (by omega) _).grown hg (by rw [World.size_alloc]; omega) (fun q hq => (hlt q hq).1)
end Go.Proofs.YtkdnfioihhfmpaaDoor

/-
  THE WALK OF subst.followed.
-/
namespace Go.Proofs.YtkdnfioihhfmpaaDoor
open Go.RowKit
def FolPost (w : World) (r : List Bd × Int) (e : Ending) (w' : World) : Prop :=
  ∃ kv, e = .returned (.tuple #[kv, .int .i64 r.2]) ∧ BdsAt w.heap.size w' r.1 kv ∧ Below w.heap.size w w'
set_option maxHeartbeats 6400000 in
set_option maxRecDepth 100000 in
theorem sfollowed_any (ss ts : List Bd) (xs xt : Option Addr) (cs ct N : Nat) (w : World) (hcs : ss.length ≤ cs) (hlen : ss.length ≤ 1073741824) (hsz : SzB 1073741824 ss) (hrow : Row w (flatB ss) xs) (hRb : RbOk ts xt ct w) (hN : ∀ b ∈ ts, size b.2 ≤ N) (h1 : 1 ≤ N) (hsn : ∀ b ∈ ss, size b.2 * N ≤ 1073741824) :
    Calls Tryd.prog 61 #[.slice xs ss.length cs, .slice xt ts.length ct] w (FolPost w (folS ts [] ss)) := by
  have HR := Lib.hid hrow
  have HSZ := Lib.hid hsz
  have HC2 := Lib.hid hcs
  have HRB := Lib.hid hRb
  have HN := Lib.hid hN
  have HSN := Lib.hid hsn
  clear hrow hsz hcs hRb hN hsn
  go_enter Tryd.func61, Tryd.ntmps61
  go_wp2_with fail
  go_loopw [6, 12] (fun l i wr => ∃ (j : Nat) (acc : List Bd), j ≤ ss.length ∧ i = .int .i64 j ∧ acc.length ≤ j ∧ Hid (folS ts [] ss = folS ts acc (ss.drop j)) ∧ BdsAt w.heap.size wr acc l ∧ Below w.heap.size w wr) (fun _ i _ => ss.length - (intOf i).toNat)
  case atStart => exact ⟨0, [], Nat.zero_le _, rfl, Nat.le_refl _, Lib.hid rfl, BdsAt_nil _ _, Below.refl _ _⟩
  case round =>
    obtain ⟨j, acc, hj, rfl, haj, hfo, hBA, hB⟩ := hrel
    obtain ⟨xl, lcap, rfl⟩ := BdsAt_form hBA
    by_cases hlt : j < ss.length
    rotate_left
    · have H : Hid (FolPost w (folS ts [] ss) (.returned (.tuple #[.slice xl acc.length lcap, .int .i64 0])) wr) := by
        show FolPost _ _ _ _
        rw [hfo.out, List.drop_eq_nil_of_le (by omega), folS_end]
        exact ⟨_, rfl, hBA, hB⟩
      clear hBA hB hfo
      go_wp2_with fail
      exact bodyPost_ret (v := .tuple #[.slice xl acc.length lcap, .int .i64 0]) (by simp [results, Tryd.results61, go_sem]) rfl H.out
    have hd : ss.drop j = ss[j] :: ss.drop (j + 1) := List.drop_eq_getElem_cons hlt
    obtain ⟨b, o, rfl⟩ := Row_at HR.out (by rw [flatB_length]; omega)
    obtain ⟨⟨v0, v1, v2, v3, g0, g1, g2, g3, hIv⟩, t0, t1, t2, t3, g4, g5, g6, g7, hIt⟩ := bds_get HR.out j hlt
    obtain ⟨k, n, s, ya, yl, yc, rfl, rfl, rfl, rfl⟩ := Is_form hIv
    obtain ⟨k2, n2, s2, ya2, yl2, yc2, rfl, rfl, rfl, rfl⟩ := Is_form hIt
    rw [Nat.add_assoc] at g5 g6 g7
    have HG : Hid (∀ W, Ext w W → W.cell? ⟨b, o + j * 8, none⟩ = some (.int .i64 k) ∧ W.cell? ⟨b, o + j * 8 + 1, none⟩ = some (.string n) ∧ W.cell? ⟨b, o + j * 8 + 2, none⟩ = some (.int .i64 s) ∧ W.cell? ⟨b, o + j * 8 + 3, none⟩ = some (.slice ya yl yc)) := fun W x => ⟨keep_below x _ _ g0, keep_below x _ _ g1, keep_below x _ _ g2, keep_below x _ _ g3⟩
    have g0 := keep_below hB _ _ g0
    have g1 := keep_below hB _ _ g1
    have g2 := keep_below hB _ _ g2
    have g3 := keep_below hB _ _ g3
    have g4 := keep_below hB _ _ g4
    have g5 := keep_below hB _ _ g5
    have g6 := keep_below hB _ _ g6
    have g7 := keep_below hB _ _ g7
    have hIv := Is_below hIv hB
    have hIt := Is_below hIt hB
    have hs1 := HSZ.out _ (List.getElem_mem hlt)
    have hsn := HSN.out _ (List.getElem_mem hlt)
    have HA := Lib.hid (sapply_any ts xt ct N ss[j].2 _ _ _ _ wr HN.out h1 hsn (HRB.out.ext hB) hIt)
    have HC := Lib.hid (fun W (x : Ext wr W) => scopy_any ss[j].1 _ _ _ _ W hs1.1 (Is_below (w' := W) hIv x))
    have HAP : Hid ((applyP ts ss[j].2).2 = 0 → size (applyP ts ss[j].2).1 ≤ 1073741824) := by
      show _ → _
      intro h
      have hz := Nat.le_trans (apT_size ts N HN.out h1 ss[j].2) hsn
      unfold applyP at h ⊢
      by_cases e1 : validE ss[j].2 = 0
      · rw [if_pos e1] at h ⊢
        by_cases e2 : validE (apT ts ss[j].2) = 0
        · rw [if_pos e2]; exact hz
        · rw [if_neg e2] at h; exact absurd h e2
      · rw [if_neg e1] at h; exact absurd h e1
    have HS := Lib.hid (fun (u : Tm) (c0 c1 c2 c3 : Value) (hu : size u ≤ 1073741824) W (x : Ext wr W) (hI : Is W u c0 c1 c2 c3) => ssame_any ss[j].1 u _ _ _ _ _ _ _ _ W (by omega) (by omega) (Is_below (w' := W) hIv x) hI)
    have i1 : (0 : Int) ≤ (j : Int) := by omega
    have i2 : (j : Int) < (ss.length : Int) := by omega
    have hfe := folS_err (ts := ts) (acc := acc) (bs := ss.drop (j + 1)) (b := ss[j])
    have hfs := folS_skip (ts := ts) (acc := acc) (bs := ss.drop (j + 1)) (b := ss[j])
    have hfk := folS_keep (ts := ts) (acc := acc) (bs := ss.drop (j + 1)) (b := ss[j])
    rw [hd] at hfo
    generalize ss[j].1 = V at HC HS hfs hfk hs1
    generalize hap : applyP ts ss[j].2 = ap at HA HAP hfe hfs hfk
    obtain ⟨U, E⟩ := ap
    have HFO := Lib.hid hfo
    have HBA := Lib.hid hBA
    have HB := Lib.hid hB
    clear hfo hBA hB hap hIv hIt
    by_cases he : E = 0
    rotate_left
    · have H : Hid (∀ W, Ext wr W → FolPost w (folS ts [] ss) (.returned (.tuple #[.slice none 0 0, .int .i64 E])) W) := by
        show ∀ _, _ → _
        intro W x
        rw [HFO.out.out, hfe he]
        exact ⟨_, rfl, BdsAt_nil _ _, HB.out.trans (x.mono HB.out.size)⟩
      have q2 : (E != 0) = true := by rw [bne_iff_ne]; exact he
      clear HFO HBA HAP hfe hfs hfk he HC HS HG
      go_wp2_with (go_at_call 60; refine (HA.out).mono ?_; rintro e w3 ⟨c0, c1, c2, c3, he, hI3, hB3⟩; subst he; obtain ⟨k3, n3, s3, xa3, l3, cap3, e0, e1, e2, e3⟩ := IsIn_form hI3; subst e0 e1 e2 e3; have HB3 := Lib.hid hB3; clear hI3 hB3)
      exact bodyPost_ret (v := .tuple #[.slice none 0 0, .int .i64 E]) (by simp [results, Tryd.results61, go_sem]) rfl (H.out _ (HB3.out.alloc HB3.out.size _))
    subst he
    go_upto_region 8 with (go_at_call 60; refine (HA.out).mono ?_; rintro e w3 ⟨c0, c1, c2, c3, he, hI3, hB3⟩; subst he; obtain ⟨k3, n3, s3, xa3, l3, cap3, e0, e1, e2, e3⟩ := IsIn_form hI3; subst e0 e1 e2 e3; have HI3 := Lib.hid hI3; have HB3 := Lib.hid hB3; clear hI3 hB3)
    have hx4 := heap_alloc_new w3 (.cells #[.int .i64 k3, .string n3, .int .i64 s3, .slice xa3 l3 cap3] 25)
    have hB4 : Ext wr (w3.alloc (.cells #[.int .i64 k3, .string n3, .int .i64 s3, .slice xa3 l3 cap3] 25)) := HB3.out.alloc HB3.out.size _
    have hI4 : IsIn (fun b => wr.heap.size ≤ b ∧ b < w3.heap.size) (w3.alloc (.cells #[.int .i64 k3, .string n3, .int .i64 s3, .slice xa3 l3 cap3] 25)) U (.int .i64 k3) (.string n3) (.int .i64 s3) (.slice xa3 l3 cap3) := IsIn_carry (fun b hb => Below.heap_alloc _ _ _ hb.2) (fun b hb => hb) _ _ _ _ _ HI3.out
    have hs4 : (w3.alloc (.cells #[.int .i64 k3, .string n3, .int .i64 s3, .slice xa3 l3 cap3] 25)).heap.size = w3.heap.size + 1 := World.size_alloc _ _
    have hle := HB3.out.size
    generalize (w3.alloc (.cells #[.int .i64 k3, .string n3, .int .i64 s3, .slice xa3 l3 cap3] 25)) = w4 at hx4 hB4 hI4 hs4 ⊢
    generalize w3.heap.size = gb at hx4 hI4 hs4 hle ⊢
    have HCr : Hid (∀ W, Ext w4 W → (W.cell? ⟨b, o + j * 8, none⟩ = some (.int .i64 k) ∧ W.cell? ⟨b, o + j * 8 + 1, none⟩ = some (.string n) ∧ W.cell? ⟨b, o + j * 8 + 2, none⟩ = some (.int .i64 s) ∧ W.cell? ⟨b, o + j * 8 + 3, none⟩ = some (.slice ya yl yc)) ∧ W.cell? ⟨gb, 0, none⟩ = some (.int .i64 k3) ∧ W.cell? ⟨gb, 1, none⟩ = some (.string n3) ∧ W.cell? ⟨gb, 2, none⟩ = some (.int .i64 s3) ∧ W.cell? ⟨gb, 3, none⟩ = some (.slice xa3 l3 cap3)) := fun W x => ⟨HG.out W (Ext.trans HB.out (Ext.trans hB4 x)), (box_facts ((x.block gb (by omega)).trans hx4)).1⟩
    have HI4 := Lib.hid (And.intro hI4 (And.intro hs4 hle))
    have HX4 := Lib.hid (fun W (x : Ext w4 W) => (x.block gb (by omega)).trans hx4)
    have HB4 := Lib.hid hB4
    have HS4 := Lib.hid (fun W (x : Ext w4 W) => HS.out U _ _ _ _ (HAP.out trivial) W (Ext.trans hB4 x) (Is_below (IsIn_Is _ _ _ _ _ hI4) x))
    have hF0 : Ext w4 w4.drew := (Ext.refl w4).drew
    obtain ⟨⟨g0, g1, g2, g3⟩, m0, m1, m2, m3⟩ := HCr.out w4 (Ext.refl w4)
    clear hx4 hB4 hI4 hs4 hle HI3 HB3 HS hfe
    generalize hcb : (cmpT V U == 0) = cb at HS4
    go_region_held3 (fun W => (W.cell? ⟨b, o + j * 8, none⟩ = some (.int .i64 k) ∧ W.cell? ⟨b, o + j * 8 + 1, none⟩ = some (.string n) ∧ W.cell? ⟨b, o + j * 8 + 2, none⟩ = some (.int .i64 s) ∧ W.cell? ⟨b, o + j * 8 + 3, none⟩ = some (.slice ya yl yc)) ∧ W.cell? ⟨gb, 0, none⟩ = some (.int .i64 k3) ∧ W.cell? ⟨gb, 1, none⟩ = some (.string n3) ∧ W.cell? ⟨gb, 2, none⟩ = some (.int .i64 s3) ∧ W.cell? ⟨gb, 3, none⟩ = some (.slice xa3 l3 cap3))
      (first | exact HCr.out _ (by assumption) | go_keep)
      (first | (go_at_call 93; refine (HS4.out _ hF0).mono ?_; rintro e w5 ⟨he, hB5⟩; subst he; have hF1 : Ext w4 w5 := hF0.trans hB5; clear hB5))
    have HE5 := Lib.hid (Ext.trans HB4.out hF1)
    have HF1 := Lib.hid hF1
    clear hF0 hF1 g0 g1 g2 g3 m0 m1 m2 m3 HS4
    cases cb with
    | true =>
      have hcz : cmpT V U = 0 := by simpa using hcb
      have H := Lib.hid (HFO.out.out.trans (hfs trivial hcz))
      clear hfs hfk hcb hcz
      go_wp2_with fail
      go_roundw
      case rel => exact ⟨j + 1, acc, by omega, by go_num, by omega, H, BdsAt_ext HBA.out HE5.out, HB.out.trans (HE5.out.mono HB.out.size)⟩
      case measure => simp [intOf]; omega
    | false =>
      have hcz : ¬ cmpT V U = 0 := by simpa using hcb
      have H := Lib.hid (HFO.out.out.trans (hfk trivial hcz))
      obtain ⟨F, cs', hown, hK, hF⟩ := HBA.out
      have hOlt := fun q hq => hown.lt q hq
      have HO := Lib.hid (fun W (x : Ext wr W) => own_heap hown (fun q hq => x.block q (hOlt q hq).2))
      have HP := Lib.hid (And.intro hown (And.intro hK hF))
      have HPU : Hid (∀ w6, Ext w5 w6 → ∀ c0 c1 c2 c3, IsIn (fun b => w5.drew.heap.size ≤ b ∧ b < w6.heap.size) w6 V c0 c1 c2 c3 → ∀ g cap w8 o, w8.ownsRow w.heap.size 77 8 (.slice (some ⟨g, 0, none⟩) (acc.length + 1) cap) (acc.length + 1) (cs' ++ [c0, c1, c2, c3, .int .i64 k3, .string n3, .int .i64 s3, .slice xa3 l3 cap3]) → (w6.alloc o).grownBy w8 (Value.slice xl acc.length lcap).ownBlock → ((Value.slice xl acc.length lcap).ownBlock = some g ∨ g = w6.heap.size + 1) →
          BdsAt w.heap.size w8 (acc ++ [(V, U)]) (.slice (some ⟨g, 0, none⟩) (acc.length + 1) cap) ∧ Below w.heap.size wr w8 ∧ w8.heap[gb]? = w6.heap[gb]?) := by
        show ∀ _, _
        intro w6 hF6 c0 c1 c2 c3 hI g cap w8 o hown8 hgrow hat
        have h5 := HE5.out.size
        have h4 := HI4.out.2
        have h6 := hF6.size
        have h45 := HF1.out.size
        have r := BdsAt_push rfl hown hK hF HB.out.size (Ext.trans HE5.out hF6) (IsIn_carry (S' := fun b => wr.heap.size ≤ b ∧ b < w6.heap.size) (fun b hb => rfl) (fun b hb => ⟨by have : w5.heap.size ≤ b := hb.1; omega, hb.2⟩) _ _ _ _ _ hI) (IsIn_carry (S' := fun b => wr.heap.size ≤ b ∧ b < w6.heap.size) (fun b hb => (Ext.trans HF1.out hF6).block b (by have := hb.2; omega)) (fun b hb => ⟨hb.1, by have := hb.2; omega⟩) _ _ _ _ _ HI4.out.1) hown8 hgrow hat
        exact ⟨r.1, r.2.1, r.2.2 gb (by omega) (by omega)⟩
      obtain ⟨i0, hi0, hz0, hz1, hz2⟩ := info_parts infoBd
      have HI0 := Lib.hid (And.intro hi0 (And.intro hz0 (And.intro hz1 hz2)))
      have hF5 : Ext w5 w5.drew := (Ext.refl w5).drew
      have hZ : acc.length ≤ 1073741824 := by omega
      obtain ⟨⟨g0, g1, g2, g3⟩, m0, m1, m2, m3⟩ := HCr.out w5 HF1.out
      clear hfs hfk hcb hcz hown hK hF hOlt hi0 hz0 hz1 hz2
      go_upto_region 9 with (fail)
      have HCr5 : Hid (∀ W, Ext w5 W → (W.cell? ⟨b, o + j * 8, none⟩ = some (.int .i64 k) ∧ W.cell? ⟨b, o + j * 8 + 1, none⟩ = some (.string n) ∧ W.cell? ⟨b, o + j * 8 + 2, none⟩ = some (.int .i64 s) ∧ W.cell? ⟨b, o + j * 8 + 3, none⟩ = some (.slice ya yl yc)) ∧ W.cell? ⟨gb, 0, none⟩ = some (.int .i64 k3) ∧ W.cell? ⟨gb, 1, none⟩ = some (.string n3) ∧ W.cell? ⟨gb, 2, none⟩ = some (.int .i64 s3) ∧ W.cell? ⟨gb, 3, none⟩ = some (.slice xa3 l3 cap3)) := fun W x => HCr.out W (Ext.trans HF1.out x)
      go_region_held_law (fun W => (W.cell? ⟨b, o + j * 8, none⟩ = some (.int .i64 k) ∧ W.cell? ⟨b, o + j * 8 + 1, none⟩ = some (.string n) ∧ W.cell? ⟨b, o + j * 8 + 2, none⟩ = some (.int .i64 s) ∧ W.cell? ⟨b, o + j * 8 + 3, none⟩ = some (.slice ya yl yc)) ∧ W.cell? ⟨gb, 0, none⟩ = some (.int .i64 k3) ∧ W.cell? ⟨gb, 1, none⟩ = some (.string n3) ∧ W.cell? ⟨gb, 2, none⟩ = some (.int .i64 s3) ∧ W.cell? ⟨gb, 3, none⟩ = some (.slice xa3 l3 cap3))
        (first | exact HK8.out | exact HCr5.out _ (by assumption) | go_keep)
        (first
          | (go_at_call 70; refine (HC.out _ (Ext.trans HE5.out hF5)).mono ?_; rintro e w6 ⟨c0, c1, c2, c3, he, hI6, hB6⟩; subst he; obtain ⟨k6, n6, s6, xa6, l6, cap6, e0, e1, e2, e3⟩ := IsIn_form hI6; subst e0 e1 e2 e3; have hF6 : Ext w5 w6 := hF5.trans hB6; have HI6 := Lib.hid hI6; have HB6 := Lib.hid hB6; have HO6 := Lib.hid (HO.out _ (Ext.trans HE5.out hF6)); have hw6 : w.heap.size ≤ w6.heap.size := Nat.le_trans HB.out.size (Ext.trans HE5.out hF6).size; clear hI6 hB6)
          | (refine step_append_lies _ (by rfl) _ _ _ (by rfl) w.heap.size 77 i0 _ 8 112 Tryd.underlying33 HI0.out.1 HI0.out.2.1 HI0.out.2.2.1 HI0.out.2.2.2 rfl (by omega) (.slice xl acc.length lcap) acc.length cs' (by rfl) (HO6.out.alloc _) ⟨w6.heap.size, 0, none⟩ 1 1 [.int .i64 k6, .string n6, .int .i64 s6, .slice xa6 l6 cap6, .int .i64 k3, .string n3, .int .i64 s3, .slice xa3 l3 cap3] (by rfl) (by rfl) (World.news_of_block (cs := #[.int .i64 k6, .string n6, .int .i64 s6, .slice xa6 l6 cap6, .int .i64 k3, .string n3, .int .i64 s3, .slice xa3 l3 cap3]) (t := 77) (fr := (0, 0)) (heap_alloc_new w6 _)) (by simp [Value.oneCell']) (by omega) (by unfold maxLen; omega) (by omega) (by simp; omega) (w6.heap.size + 1) (by simp) ?_; intro gg cap8 w8 hown8 hgrow hat hltt; have hpu := HPU.out w6 hF6 _ _ _ _ HI6.out _ _ _ _ hown8 hgrow hat; have HK8 := Lib.hid (And.intro (HG.out w8 (HB.out.trans hpu.2.1)) (box_facts (hpu.2.2.trans (HX4.out w6 (Ext.trans HF1.out hF6)))).1); have HP8 := Lib.hid (And.intro hpu.1 hpu.2.1); clear hown8 hgrow hat hltt hpu))
      all_goals (go_wp2_with fail)
      all_goals (go_roundw)
      case rel => exact ⟨j + 1, acc ++ [(V, U)], by omega, by go_num, by simp; omega, H, by simpa using HP8.out.1, HB.out.trans (HP8.out.2.mono (Nat.le_refl _))⟩
      case measure => simp [intOf]; omega
end Go.Proofs.YtkdnfioihhfmpaaDoor
