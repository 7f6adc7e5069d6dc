/-
  THE REFERENCE's App: the blocks in which its term lies.
-/
import Derived.Test.YtcieadjjcpmieaaGreatNodes
import Derived.Test.YtcieadjjcpmieaaGreatPops
import Derived.Test.YtcieadjjcpmieaaGreatPcat
import Derived.Test.YtcieadjjcpmieaaGreatKeep
import Derived.Test.YtcieadjjcpmieaaGreatPterm
namespace Go.Proofs.YtcieadjjcpmieaaGreat
open Go.RowKit

def AppS (S : Nat → Prop) (w : World) (n : ByteArray) (ks : List Tm) (l : Nat) (e : Ending) (w' : World) : Prop := (∃ xa cap, e = .returned (.agg #[.int .i64 3, .string n, .int .i64 0, .slice xa l cap]) ∧ IsIn (fun b => S b ∨ w.heap.size ≤ b ∧ b < w'.heap.size) w' (.mk 3 n 0 ks) (.int .i64 3) (.string n) (.int .i64 0) (.slice xa l cap)) ∧ Ext w w'
theorem app_end_s {S : Nat → Prop} {w w1 : World} {n : ByteArray} {ks : List Tm} {gg cap' : Nat} {cs : List Value} (hS : ∀ b, S b → b < w.heap.size) (hn : n.size ≤ maxLen) (hB : Below w.heap.size w w1) (hg : w.heap.size < gg)
    (hown : w1.ownsRow w.heap.size 24 4 (.slice (some ⟨gg, 0, none⟩) (0 + ks.length) cap') (0 + ks.length) ([] ++ cs)) (hK : KC S w ks cs) :
    AppS S w n ks ks.length (.returned (.agg #[.int .i64 3, .string n, .int .i64 0, .slice (some ⟨gg, 0, none⟩) ks.length cap'])) ((((w1.setCell ⟨w.heap.size, 0, none⟩ (.int .i64 3)).setCell ⟨w.heap.size, 1, none⟩ (.string n)).setCell ⟨w.heap.size, 2, none⟩ (.int .i64 0)).setCell ⟨w.heap.size, 3, none⟩ (.slice (some ⟨gg, 0, none⟩) ks.length cap')) := by
  have hB4 := (((hB.setCell (p := ⟨w.heap.size, 0, none⟩) (Nat.le_refl _) (.int .i64 3)).setCell (p := ⟨w.heap.size, 1, none⟩) (Nat.le_refl _) (.string n)).setCell (p := ⟨w.heap.size, 2, none⟩) (Nat.le_refl _) (.int .i64 0)).setCell (p := ⟨w.heap.size, 3, none⟩) (Nat.le_refl _) (.slice (some ⟨gg, 0, none⟩) ks.length cap')
  refine ⟨⟨_, _, rfl, ?_⟩, hB4⟩
  rw [Nat.zero_add, List.nil_append] at hown
  have ho := own_heap (w' := (((w1.setCell ⟨w.heap.size, 0, none⟩ (.int .i64 3)).setCell ⟨w.heap.size, 1, none⟩ (.string n)).setCell ⟨w.heap.size, 2, none⟩ (.int .i64 0)).setCell ⟨w.heap.size, 3, none⟩ (.slice (some ⟨gg, 0, none⟩) ks.length cap')) hown (fun q hq => by
    simp only [Value.ownBlock, Option.some.injEq] at hq; subst hq
    rw [Below.heap_setCell _ _ _ _ (by simp only; omega), Below.heap_setCell _ _ _ _ (by simp only; omega), Below.heap_setCell _ _ _ _ (by simp only; omega), Below.heap_setCell _ _ _ _ (by simp only; omega)])
  have hI := IsIn_lt _ _ _ _ _ (IsIn_app (S' := fun b => S b ∨ w.heap.size ≤ b) hn ho (KC_carry (fun b hb => hB4.block b (hS b hb)) (fun _ h => h) ks cs hK) (fun _ h => Or.inl h) (fun q hq => Or.inr (by simp only [Value.ownBlock, Option.some.injEq] at hq; omega)))
  exact IsIn_carry (fun _ _ => rfl) (fun b hb => by rcases hb.1 with h | h; exact Or.inl h; exact Or.inr ⟨h, hb.2⟩) _ _ _ _ _ hI

set_option maxHeartbeats 1600000 in
set_option maxRecDepth 100000 in
theorem app_s {S : Nat → Prop} (n : ByteArray) (ks : List Tm) (cs : List Value) (kb ko cap : Nat) (w : World) (hS : ∀ b, S b → b < w.heap.size) (hn : n.size ≤ maxLen) (hl : ks.length ≤ 1073741824) (h0 : 0 < ks.length) (hK : KC S w ks cs) (hc : ∀ j u, cs[j]? = some u → w.cell? ((⟨kb, ko, none⟩ : Addr).add j) = some u) :
    Calls Tryz.prog 37 #[.string n, .slice (some ⟨kb, ko, none⟩) ks.length cap] w (AppS S w n ks ks.length) := by
  obtain ⟨hcl, hone⟩ := KC_one ks cs hK
  have HC : Hid (∀ j u, cs[j]? = some u → ((w.alloc (.cells #[.int .i64 0, .string ⟨#[]⟩, .int .i64 0, .slice none 0 0] 24)).alloc (.cells #[] 24)).cell? ((⟨kb, ko, none⟩ : Addr).add j) = some u) := fun j u hu => keep_alloc _ _ _ _ (keep_alloc w _ _ _ (hc j u hu))
  have HP := Lib.hid hcl
  have HN := Lib.hid hone
  have HSS := Lib.hid hS
  obtain ⟨i0, hi0, hz0, hz1, hz2⟩ := info_parts info24
  have HI0 := Lib.hid (And.intro hi0 (And.intro hz0 (And.intro hz1 hz2)))
  have HO : Hid (((w.alloc (.cells #[.int .i64 0, .string ⟨#[]⟩, .int .i64 0, .slice none 0 0] 24)).alloc (.cells #[] 24)).ownsRow w.heap.size 24 4 (.slice (some ⟨w.heap.size + 1, 0, none⟩) 0 0) 0 []) := by
    show World.ownsRow _ _ _ _ _ _ _
    have := World.ownsRow_made (e := 24) (size := 4) (base := w.heap.size) (w.alloc (.cells #[.int .i64 0, .string ⟨#[]⟩, .int .i64 0, .slice none 0 0] 24)) #[] 0 (by simp) (by simp [maxLen]) (by simp)
    simpa using this
  have HKC := Lib.hid hK
  clear hK hc hcl hone hi0 hz0 hz1 hz2 hS
  go_enter Tryz.func37, Tryz.ntmps37
  go_wp2_with (at_builtin; (refine wpList_append_lies _ rfl _ _ _ rfl w.heap.size 24 i0 _ 4 56 Tryz.underlying22 HI0.out.1 HI0.out.2.1 HI0.out.2.2.1 HI0.out.2.2.2 rfl (by omega) (.slice (some ⟨w.heap.size + 1, 0, none⟩) 0 0) 0 [] rfl HO.out ⟨kb, ko, none⟩ ks.length cap cs rfl HP.out HC.out HN.out h0 (by unfold maxLen; omega) (by omega) (by simp; omega) (w.heap.size + 2) (by simp) ?_); intro gg cap' w1 hown1 hgrow hat hlt; have n1 : w.heap.size < gg := (by rcases hat with e | e; (simp only [Value.ownBlock, Option.some.injEq] at e; omega); omega); have hB1 := Lib.hid (app_grow hgrow); have y0 := hB1.out.2.1; have y1 := hB1.out.2.2.1; have y2 := hB1.out.2.2.2.1; have y3 := hB1.out.2.2.2.2.1; have z0 := hB1.out.2.2.2.2.2.1; have z1 := hB1.out.2.2.2.2.2.2.1; have z2 := hB1.out.2.2.2.2.2.2.2.1; have z3 := hB1.out.2.2.2.2.2.2.2.2; have HO1 := Lib.hid hown1; clear hown1 hgrow hat)
  exact bodyPost_ret (v := .agg #[.int .i64 3, .string n, .int .i64 0, .slice (some ⟨gg, 0, none⟩) ks.length cap']) (by simp [results, Tryz.results37, go_sem, y0, y1, y2, y3]) rfl (app_end_s HSS.out hn hB1.out.1 n1 HO1.out HKC.out)
/-- inv of a term that lies in S. -/
theorem app_inv {S : Nat → Prop} (t : Tm) (k : Int) (nm : ByteArray) (s : Int) (xa : Option Addr) (l c : Nat) (H : Nat) (w : World) (hH : w.heap.size = H) (hS : ∀ b, S b → b < w.heap.size) (hI : IsIn S w t (.int .i64 k) (.string nm) (.int .i64 s) (.slice xa l c)) (T : TypeId) :
    Calls Tryz.prog 37 #[.string ⟨#[105, 110, 118]⟩, .slice (some ⟨H, 0, none⟩) 1 1] (w.alloc (.cells #[.int .i64 k, .string nm, .int .i64 s, .slice xa l c] T)) (AppS S (w.alloc (.cells #[.int .i64 k, .string nm, .int .i64 s, .slice xa l c] T)) ⟨#[105, 110, 118]⟩ [t] 1) := by
  refine app_s ⟨#[105, 110, 118]⟩ [t] [.int .i64 k, .string nm, .int .i64 s, .slice xa l c] H 0 1 _ (fun b hb => by rw [World.size_alloc]; have := hS b hb; omega) (by decide) (by simp) (by simp) (KC_one_term (IsIn_carry (fun b hb => Below.heap_alloc _ _ _ (hS b hb)) (fun _ h => h) _ _ _ _ _ hI)) (fun j u hu => ?_)
  rw [add_plain, Nat.zero_add]
  exact cells_new_at w #[.int .i64 k, .string nm, .int .i64 s, .slice xa l c] T H hH j u (by simpa using hu)
end Go.Proofs.YtcieadjjcpmieaaGreat

/-
  THE WALK OF the reference's operands.
-/
namespace Go.Proofs.YtcieadjjcpmieaaGreat
open Go.RowKit

theorem t9_more {A B : List Tm} (h : 9 ≤ (A.take 9).length) : (A ++ B).take 9 = A.take 9 := by
  rw [List.length_take] at h
  rw [List.take_append_of_le_length (by omega)]
theorem t9_push {A : List Tm} {t : Tm} (h : (A.take 9).length < 9) : (A ++ [t]).take 9 = A.take 9 ++ [t] := by
  rw [List.length_take] at h
  rw [List.take_of_length_le (by rw [List.length_append]; simp; omega), List.take_of_length_le (by omega)]
/-- What operands gives back. -/
def RoPost (w : World) (ts : List Tm) (e : Ending) (w' : World) : Prop := ∃ v, e = .returned v ∧ KdIn w.heap.size w.heap.size w' ts v ∧ Below w.heap.size w w'
set_option maxHeartbeats 3200000 in
set_option maxRecDepth 100000 in
theorem roperands_any (ps : List Pw) (xa : Option Addr) (cap : Nat) (w : World) (hlen : ps.length ≤ 1048576) (hbd : ∀ p ∈ ps, p.2.natAbs ≤ 1000) (hR : PRow w ps xa) :
    Calls Tryz.prog 54 #[.slice xa ps.length cap] w (RoPost w ((posO ps ++ negO ps).take 9)) := by
  have HR := Lib.hid hR
  have HBD := Lib.hid hbd
  obtain ⟨i0, hi0, hz0, hz1, hz2⟩ := info_parts info24
  have HI0 := Lib.hid (And.intro hi0 (And.intro hz0 (And.intro hz1 hz2)))
  clear hR hbd hi0 hz0 hz1 hz2
  go_enter Tryz.func54, Tryz.ntmps54
  go_wp2_with fail
  go_loopw [3, 4] (fun l i wr => ∃ j : Nat, j ≤ ps.length ∧ i = .int .i64 j ∧ KdIn w.heap.size w.heap.size wr ((posO (ps.take j)).take 9) l ∧ Below w.heap.size w wr) (fun _ i _ => ps.length - (intOf i).toNat)
  case atStart => exact ⟨0, Nat.zero_le _, rfl, KdIn_nil _ _ _, Below.refl _ _⟩
  case round =>
    obtain ⟨j, hj, rfl, hO, hB⟩ := hrel
    by_cases hlt : j < ps.length
    rotate_left
    · obtain rfl : j = ps.length := by omega
      rw [List.take_length] at hO
      have HO1 := Lib.hid hO
      have HB1 := Lib.hid hB
      clear hO hB
      go_wp2_with fail
      go_loopw [3, 6] (fun l i wr => ∃ j : Nat, j ≤ ps.length ∧ i = .int .i64 j ∧ KdIn w.heap.size w.heap.size wr ((posO ps ++ negO (ps.take j)).take 9) l ∧ Below w.heap.size w wr) (fun _ i _ => ps.length - (intOf i).toNat)
      case atStart => exact ⟨0, Nat.zero_le _, rfl, by simpa [negO] using HO1.out, HB1.out⟩
      case round =>
        obtain ⟨j, hj, rfl, hO, hB⟩ := hrel
        by_cases hlt : j < ps.length
        rotate_left
        · obtain rfl : j = ps.length := by omega
          rw [List.take_length] at hO
          have HF : Hid (RoPost w ((posO ps ++ negO ps).take 9) (.returned _) _) := ⟨_, rfl, hO, hB⟩
          clear hO hB
          go_wp2_with fail
          go_ret
          exact HF.out
        obtain ⟨b, o, rfl⟩ := PRow_at HR.out (by omega)
        obtain ⟨⟨c0, c1, c2, c3, f0, f1, f2, f3, hIw⟩, f4, _⟩ := PRow_get HR.out j hlt
        obtain ⟨kk, nm, s, za, zl, zc, rfl, rfl, rfl, rfl⟩ := Is_form hIw
        have hbN := HBD.out _ (List.getElem_mem hlt)
        have HIW := Lib.hid (Is_IsIn _ _ _ _ _ hIw)
        have HCE : Hid (∀ W, Ext w W → (W.cell? ⟨b, o + j * 5, none⟩ = some (.int .i64 kk) ∧ W.cell? ⟨b, o + j * 5 + 1, none⟩ = some (.string nm) ∧ W.cell? ⟨b, o + j * 5 + 2, none⟩ = some (.int .i64 s) ∧ W.cell? ⟨b, o + j * 5 + 3, none⟩ = some (.slice za zl zc)) ∧ W.cell? ⟨b, o + j * 5 + 4, none⟩ = some (.int .i64 ps[j].2)) := fun W y => ⟨⟨keep_below y _ _ f0, keep_below y _ _ f1, keep_below y _ _ f2, keep_below y _ _ f3⟩, keep_below y _ _ f4⟩
        have HTK := Lib.hid (negO_take ps j hlt)
        clear f0 f1 f2 f3 f4 hIw
        generalize ps[j].1 = T at HIW HTK
        generalize ps[j].2 = N at hbN HCE HTK
        have i1 : (0 : Int) ≤ (j : Int) := by omega
        have i2 : (j : Int) < (ps.length : Int) := by omega
        have hN1 : -1000 ≤ N := by omega
        have hN2 : N ≤ 1000 := by omega
        have HO0 := Lib.hid hO
        have HB0 := Lib.hid hB
        obtain ⟨w1, hw1⟩ : ∃ v : World, v = wr := ⟨_, rfl⟩
        subst hw1
        clear hO hB hbN
        go_wp2_with fail
        go_loopw [3, 7] (fun l i wr => ∃ k : Nat, k ≤ (-N).toNat ∧ i = .int .i64 k ∧ KdIn w.heap.size w.heap.size wr (((posO ps ++ negO (ps.take j)) ++ List.replicate k (tInv T)).take 9) l ∧ Below w.heap.size w wr) (fun _ i _ => (-N).toNat - (intOf i).toNat)
        case atStart => exact ⟨0, Nat.zero_le _, rfl, by simpa using HO0.out, HB0.out⟩
        case round =>
          obtain ⟨k, hk, rfl, hO, hB⟩ := hrel
          obtain ⟨⟨e0, e1, e2, e3⟩, e4⟩ := HCE.out wr hB
          obtain ⟨xl, lcap, rfl⟩ := KdIn_form hO
          have k1 : (0 : Int) ≤ (k : Int) := by omega
          have hnN : IntKind.i64.wrap (-N) = -N := IntWalk.i64_in _ (by omega)
          by_cases hkN : (k : Int) < -N
          rotate_left
          · have hke : k = (-N).toNat := by omega
            have HXX : Hid (((posO ps ++ negO (ps.take j)) ++ List.replicate k (tInv T)).take 9 = ((posO ps ++ negO (ps.take (j + 1)))).take 9) := by show _ = _; rw [HTK.out, hke, List.append_assoc]
            clear hke
            have HO2 := Lib.hid hO
            have HB := Lib.hid hB
            clear hO hB
            go_wp2_with fail
            go_roundw
            case rel => exact ⟨j + 1, by omega, by go_num, by rw [← HXX.out]; exact HO2.out, HB.out⟩
            case measure => simp [intOf]; omega
          obtain ⟨A, hA⟩ : ∃ A, (((posO ps ++ negO (ps.take j)) ++ List.replicate k (tInv T)).take 9).length = A := ⟨_, rfl⟩
          have hA9 : A ≤ 9 := by rw [← hA, List.length_take]; omega
          by_cases hlA : A < 9
          rotate_left
          · have HXX : Hid (((posO ps ++ negO (ps.take j)) ++ List.replicate k (tInv T)).take 9 = ((posO ps ++ negO (ps.take (j + 1)))).take 9) := by
              show _ = _
              have hre : List.replicate (-N).toNat (tInv T) = List.replicate k (tInv T) ++ List.replicate ((-N).toNat - k) (tInv T) := by rw [List.replicate_append_replicate, show k + ((-N).toNat - k) = (-N).toNat by omega]
              rw [HTK.out, hre, ← List.append_assoc, ← List.append_assoc]
              exact (t9_more (by rw [hA]; omega)).symm
            have q1 : ¬ (A : Int) < 9 := by omega
            rw [hA] at hO ⊢
            clear hA
            have HO2 := Lib.hid hO
            have HB := Lib.hid hB
            clear hO hB
            go_wp2_with fail
            go_roundw
            case rel => exact ⟨j + 1, by omega, by go_num, by rw [← HXX.out]; exact HO2.out, HB.out⟩
            case measure => simp [intOf]; omega
          · have HST : Hid (((posO ps ++ negO (ps.take j)) ++ List.replicate (k + 1) (tInv T)).take 9 = ((posO ps ++ negO (ps.take j)) ++ List.replicate k (tInv T)).take 9 ++ [(tInv T)]) := by
              show _ = _
              rw [List.replicate_succ', ← List.append_assoc]
              exact t9_push (by rw [hA]; exact hlA)
            have hkt : k + 1 ≤ (-N).toNat := by omega
            have q1 : (A : Int) < 9 := by omega
            obtain ⟨F, ⟨cs, hown, hK⟩, hFF⟩ := hO
            have HA := Lib.hid hA
            rw [hA] at hown hFF ⊢
            have HO := Lib.hid hown
            have HK := Lib.hid hK
            have HFF := Lib.hid hFF
            have HB := Lib.hid hB
            have hws := hB.size
            have HIB : Hid (IsIn (fun b => b < w.heap.size) wr T (.int .i64 kk) (.string nm) (.int .i64 s) (.slice za zl zc)) := IsIn_carry (fun b hb => hB.block b hb) (fun _ h => h) _ _ _ _ _ HIW.out
            have HPU : Hid (∀ w6, Ext wr w6 → ∀ xa6 cap6, IsIn (fun b => b < w.heap.size ∨ (wr.alloc (.cells #[.int .i64 kk, .string nm, .int .i64 s, .slice za zl zc] 24)).heap.size ≤ b ∧ b < w6.heap.size) w6 (tInv T) (.int .i64 3) (.string ⟨#[105, 110, 118]⟩) (.int .i64 0) (.slice xa6 1 cap6) → ∀ g cap2 w4 ob, w4.ownsRow w.heap.size 24 4 (.slice (some ⟨g, 0, none⟩) (A + 1) cap2) (A + 1) (cs ++ [.int .i64 3, .string ⟨#[105, 110, 118]⟩, .int .i64 0, .slice xa6 1 cap6]) → (w6.alloc ob).grownBy w4 (Value.slice xl A lcap).ownBlock → ((Value.slice xl A lcap).ownBlock = some g ∨ g = w6.heap.size + 1) → KdIn w.heap.size w.heap.size w4 (((posO ps ++ negO (ps.take j)) ++ List.replicate (k + 1) (tInv T)).take 9) (.slice (some ⟨g, 0, none⟩) (A + 1) cap2) ∧ Below w.heap.size w w4) := by
              show ∀ _, _
              intro w6 hx6 xa6 cap6 hI6 g cap2 w4 ob ho hg hat
              have r := KdIn_push HA.out.symm HO.out HK.out HFF.out (Nat.le_refl _) hws hx6 (IsIn_carry (fun _ _ => rfl) (fun b hb => by rcases hb with h | h; exact Or.inl h; (rw [World.size_alloc] at h; exact Or.inr ⟨by omega, h.2⟩)) _ _ _ _ _ hI6) ho hg hat
              rw [HST.out]
              exact ⟨r.1, (HB.out.trans (hx6.mono hws)).trans r.2.2.2⟩
            have HAP := Lib.hid (app_inv T kk nm s za zl zc wr.heap.size wr rfl (fun b hb => by have : b < w.heap.size := hb; omega) HIB.out 24)
            clear hown hK hFF hB hA
            go_wp2_with (first
              | (go_at_call 37; refine (HAP.out).mono ?_; rintro e w6 ⟨⟨xa6, cap6, he, hI6⟩, hx6⟩; subst he; have HI6 := Lib.hid hI6; have HX6 := Lib.hid (Ext.trans ((Ext.refl wr).alloc _) hx6); have hs6 : w.heap.size ≤ w6.heap.size := Nat.le_trans hws HX6.out.size; have HO6 := Lib.hid (own_heap (w' := w6) HO.out (fun q hq => HX6.out.block q (HO.out.lt q hq).2)); clear hI6 hx6)
              | (at_builtin; refine wpList_append_lies _ rfl _ _ _ rfl w.heap.size 24 i0 _ 4 56 Tryz.underlying22 HI0.out.1 HI0.out.2.1 HI0.out.2.2.1 HI0.out.2.2.2 rfl (by omega) (.slice xl A lcap) A cs rfl (HO6.out.alloc _) ⟨w6.heap.size, 0, none⟩ 1 1 [.int .i64 3, .string ⟨#[105, 110, 118]⟩, .int .i64 0, .slice xa6 1 cap6] rfl rfl (World.news_of_block (cs := #[.int .i64 3, .string ⟨#[105, 110, 118]⟩, .int .i64 0, .slice xa6 1 cap6]) (t := 24) (fr := (0, 0)) (heap_alloc_new w6 _)) (by simp [Value.oneCell']) (by omega) (by unfold maxLen; omega) (by omega) (by simp; omega) (w6.heap.size + 1) (by simp) ?_; intro g cap2 w4 hown4 hgrow4 hat4 hlt4; have HP := Lib.hid (HPU.out w6 HX6.out _ _ HI6.out _ _ _ _ hown4 hgrow4 hat4); clear hown4 hgrow4 hat4 hlt4))
            go_roundw
            case rel => exact ⟨k + 1, hkt, by go_num, HP.out.1, HP.out.2⟩
            case measure => simp [intOf]; omega
    obtain ⟨b, o, rfl⟩ := PRow_at HR.out (by omega)
    obtain ⟨⟨c0, c1, c2, c3, f0, f1, f2, f3, hIw⟩, f4, _⟩ := PRow_get HR.out j hlt
    obtain ⟨kk, nm, s, za, zl, zc, rfl, rfl, rfl, rfl⟩ := Is_form hIw
    have hbN := HBD.out _ (List.getElem_mem hlt)
    have HIW := Lib.hid (Is_IsIn _ _ _ _ _ hIw)
    have HCE : Hid (∀ W, Ext w W → (W.cell? ⟨b, o + j * 5, none⟩ = some (.int .i64 kk) ∧ W.cell? ⟨b, o + j * 5 + 1, none⟩ = some (.string nm) ∧ W.cell? ⟨b, o + j * 5 + 2, none⟩ = some (.int .i64 s) ∧ W.cell? ⟨b, o + j * 5 + 3, none⟩ = some (.slice za zl zc)) ∧ W.cell? ⟨b, o + j * 5 + 4, none⟩ = some (.int .i64 ps[j].2)) := fun W y => ⟨⟨keep_below y _ _ f0, keep_below y _ _ f1, keep_below y _ _ f2, keep_below y _ _ f3⟩, keep_below y _ _ f4⟩
    have HTK := Lib.hid (posO_take ps j hlt)
    clear f0 f1 f2 f3 f4 hIw
    generalize ps[j].1 = T at HIW HTK
    generalize ps[j].2 = N at hbN HCE HTK
    have i1 : (0 : Int) ≤ (j : Int) := by omega
    have i2 : (j : Int) < (ps.length : Int) := by omega
    have hN1 : -1000 ≤ N := by omega
    have hN2 : N ≤ 1000 := by omega
    have HO0 := Lib.hid hO
    have HB0 := Lib.hid hB
    obtain ⟨w1, hw1⟩ : ∃ v : World, v = wr := ⟨_, rfl⟩
    subst hw1
    clear hO hB hbN
    go_wp2_with fail
    go_loopw [3, 5] (fun l i wr => ∃ k : Nat, k ≤ (N).toNat ∧ i = .int .i64 k ∧ KdIn w.heap.size w.heap.size wr ((posO (ps.take j) ++ List.replicate k T).take 9) l ∧ Below w.heap.size w wr) (fun _ i _ => (N).toNat - (intOf i).toNat)
    case atStart => exact ⟨0, Nat.zero_le _, rfl, by simpa using HO0.out, HB0.out⟩
    case round =>
      obtain ⟨k, hk, rfl, hO, hB⟩ := hrel
      obtain ⟨⟨e0, e1, e2, e3⟩, e4⟩ := HCE.out wr hB
      obtain ⟨xl, lcap, rfl⟩ := KdIn_form hO
      have k1 : (0 : Int) ≤ (k : Int) := by omega
      by_cases hkN : (k : Int) < N
      rotate_left
      · have hke : k = (N).toNat := by omega
        have HXX : Hid ((posO (ps.take j) ++ List.replicate k T).take 9 = (posO (ps.take (j + 1))).take 9) := by show _ = _; rw [HTK.out, hke]
        clear hke
        have HO2 := Lib.hid hO
        have HB := Lib.hid hB
        clear hO hB
        go_wp2_with fail
        go_roundw
        case rel => exact ⟨j + 1, by omega, by go_num, by rw [← HXX.out]; exact HO2.out, HB.out⟩
        case measure => simp [intOf]; omega
      obtain ⟨A, hA⟩ : ∃ A, ((posO (ps.take j) ++ List.replicate k T).take 9).length = A := ⟨_, rfl⟩
      have hA9 : A ≤ 9 := by rw [← hA, List.length_take]; omega
      by_cases hlA : A < 9
      rotate_left
      · have HXX : Hid ((posO (ps.take j) ++ List.replicate k T).take 9 = (posO (ps.take (j + 1))).take 9) := by
          show _ = _
          have hre : List.replicate (N).toNat T = List.replicate k T ++ List.replicate ((N).toNat - k) T := by rw [List.replicate_append_replicate, show k + ((N).toNat - k) = (N).toNat by omega]
          rw [HTK.out, hre, ← List.append_assoc]
          exact (t9_more (by rw [hA]; omega)).symm
        have q1 : ¬ (A : Int) < 9 := by omega
        rw [hA] at hO ⊢
        clear hA
        have HO2 := Lib.hid hO
        have HB := Lib.hid hB
        clear hO hB
        go_wp2_with fail
        go_roundw
        case rel => exact ⟨j + 1, by omega, by go_num, by rw [← HXX.out]; exact HO2.out, HB.out⟩
        case measure => simp [intOf]; omega
      · have HST : Hid ((posO (ps.take j) ++ List.replicate (k + 1) T).take 9 = (posO (ps.take j) ++ List.replicate k T).take 9 ++ [T]) := by
          show _ = _
          rw [List.replicate_succ', ← List.append_assoc]
          exact t9_push (by rw [hA]; exact hlA)
        have hkt : k + 1 ≤ (N).toNat := by omega
        have q1 : (A : Int) < 9 := by omega
        obtain ⟨F, ⟨cs, hown, hK⟩, hFF⟩ := hO
        have HA := Lib.hid hA
        rw [hA] at hown hFF ⊢
        have HO := Lib.hid hown
        have HK := Lib.hid hK
        have HFF := Lib.hid hFF
        have HB := Lib.hid hB
        have hws := hB.size
        have HIB : Hid (IsIn (fun b => b < w.heap.size) wr T (.int .i64 kk) (.string nm) (.int .i64 s) (.slice za zl zc)) := IsIn_carry (fun b hb => hB.block b hb) (fun _ h => h) _ _ _ _ _ HIW.out
        have HPU : Hid (∀ g cap2 w4 ob, w4.ownsRow w.heap.size 24 4 (.slice (some ⟨g, 0, none⟩) (A + 1) cap2) (A + 1) (cs ++ [.int .i64 kk, .string nm, .int .i64 s, .slice za zl zc]) → (wr.alloc ob).grownBy w4 (Value.slice xl A lcap).ownBlock → ((Value.slice xl A lcap).ownBlock = some g ∨ g = wr.heap.size + 1) → KdIn w.heap.size w.heap.size w4 ((posO (ps.take j) ++ List.replicate (k + 1) T).take 9) (.slice (some ⟨g, 0, none⟩) (A + 1) cap2) ∧ Below w.heap.size w w4) := by
          show ∀ _, _
          intro g cap2 w4 ob ho hg hat
          have r := KdIn_push HA.out.symm HO.out HK.out HFF.out (Nat.le_refl _) hws (Below.refl _ _) (IsIn_carry (fun _ _ => rfl) (fun b hb => Or.inl hb) _ _ _ _ _ HIB.out) ho hg hat
          rw [HST.out]
          exact ⟨r.1, HB.out.trans r.2.2.2⟩
        clear hown hK hFF hB hA
        go_wp2_with (at_builtin; refine wpList_append_lies _ rfl _ _ _ rfl w.heap.size 24 i0 _ 4 56 Tryz.underlying22 HI0.out.1 HI0.out.2.1 HI0.out.2.2.1 HI0.out.2.2.2 rfl (by omega) (.slice xl A lcap) A cs rfl (HO.out.alloc _) ⟨wr.heap.size, 0, none⟩ 1 1 [.int .i64 kk, .string nm, .int .i64 s, .slice za zl zc] rfl rfl (World.news_of_block (cs := #[.int .i64 kk, .string nm, .int .i64 s, .slice za zl zc]) (t := 24) (fr := (0, 0)) (heap_alloc_new wr _)) (by simp [Value.oneCell']) (by omega) (by unfold maxLen; omega) (by omega) (by simp; omega) (wr.heap.size + 1) (by simp) ?_; intro g cap2 w4 hown4 hgrow4 hat4 hlt4; have HP := Lib.hid (HPU.out _ _ _ _ hown4 hgrow4 hat4); clear hown4 hgrow4 hat4 hlt4)
        go_roundw
        case rel => exact ⟨k + 1, hkt, by go_num, HP.out.1, HP.out.2⟩
        case measure => simp [intOf]; omega
end Go.Proofs.YtcieadjjcpmieaaGreat

/-
  THE WALK OF the reference's Term.
-/
namespace Go.Proofs.YtcieadjjcpmieaaGreat
open Go.RowKit

set_option maxHeartbeats 1600000 in
set_option maxRecDepth 100000 in
/-- App of nothing. -/
theorem app_zero (n : ByteArray) (xa : Option Addr) (cap : Nat) (w : World) (hn : n.size ≤ maxLen) :
    Calls Tryz.prog 37 #[.string n, .slice xa 0 cap] w (AppPost w n []) := by
  obtain ⟨i0, hi0, hz0, hz1, hz2⟩ := info_parts info24
  have HI0 := Lib.hid (And.intro hi0 (And.intro hz0 (And.intro hz1 hz2)))
  have HF : Hid (∀ W, Ext w W → AppPost w n [] (.returned (.agg #[.int .i64 3, .string n, .int .i64 0, .slice (some ⟨w.heap.size + 1, 0, none⟩) 0 0])) W) := fun W y => by
    refine ⟨⟨_, rfl, ?_⟩, y⟩
    simp only [Is]
    exact ⟨trivial, trivial, trivial, by omega, by omega, hn, by simp, _, 0, rfl, Nat.le_refl _, by simp [Row]⟩
  clear hi0 hz0 hz1 hz2
  go_enter Tryz.func37, Tryz.ntmps37
  go_wp2_with (at_builtin; refine wpList_append_zero rfl _ _ 22 rfl 24 i0 Tryz.underlying22 HI0.out.1 (some ⟨w.heap.size + 1, 0, none⟩) 0 0 (by first | rfl | simp) xa cap rfl (Nat.le_refl _) ?_)
  exact bodyPost_ret (v := .agg #[.int .i64 3, .string n, .int .i64 0, .slice (some ⟨w.heap.size + 1, 0, none⟩) 0 0]) (by simp [results, Tryz.results37, go_sem]) rfl (HF.out _ (((Ext.refl w).alloc _).alloc _))

def opsR (ps : List Pw) : List Tm := (posO ps ++ negO ps).take 9
theorem opsR_len (ps : List Pw) : (opsR ps).length = min 9 (absS ps) := by unfold opsR; rw [List.length_take, List.length_append, ops_len]
theorem opsR_all {ps : List Pw} (h : absS ps ≤ 8) : opsR ps = posO ps ++ negO ps := by
  unfold opsR
  rw [List.take_of_length_le (by rw [List.length_append, ops_len]; omega)]
theorem zero_is (w : World) : Is w (.mk 0 ⟨#[]⟩ 0 []) (.int .i64 0) (.string ⟨#[]⟩) (.int .i64 0) (.slice none 0 0) := IsIn_Is _ _ _ _ _ (zero_isE (fun _ => True) w)
theorem box_new (w : World) (T : TypeId) : (w.alloc (.cells #[.int .i64 0, .string ⟨#[]⟩, .int .i64 0, .slice none 0 0] T)).heap[w.heap.size]? = some (.cells #[.int .i64 0, .string ⟨#[]⟩, .int .i64 0, .slice none 0 0] T (0, 0)) := heap_alloc_new _ _
/-- A kidless application beside another box. -/
theorem put_one {w : World} {g : Nat} {n : ByteArray} {y0 y1 y2 y3 d0 d1 d2 d3 : Value} {x : Option Addr} {l c : Nat} {T : TypeId} (_ : w.heap[g]? = some (.cells #[y0, y1, y2, y3] T (0, 0))) (hI : Is w (.mk 3 n 0 []) (.int .i64 3) (.string n) (.int .i64 0) (.slice x l c)) : Is (put4 w g 0 d0 d1 d2 d3) (.mk 3 n 0 []) (.int .i64 3) (.string n) (.int .i64 0) (.slice x l c) := by
  simp only [Is] at hI ⊢
  obtain ⟨a, b, c', d, e, f, h, xa, cap, i, j, _⟩ := hI
  exact ⟨a, b, c', d, e, f, h, xa, cap, i, j, by simp [Row]⟩
theorem put_new {w : World} {t : Tm} {c0 c1 c2 c3 d0 d1 d2 d3 : Value} {ob : Obj} (hI : IsIn (fun b => b < w.heap.size) w t c0 c1 c2 c3) : Is (put4 (w.alloc ob) w.heap.size 0 d0 d1 d2 d3) t c0 c1 c2 c3 :=
  IsIn_Is _ _ _ _ _ (IsIn_carry (S' := fun b => b < w.heap.size) (fun b hb => by rw [put4_other _ _ _ _ _ _ _ _ (Nat.ne_of_lt hb), Below.heap_alloc _ _ _ hb]) (fun _ h => h) _ _ _ _ _ hI)
theorem Row_one_get {w : World} {t : Tm} {b o : Nat} (h : Row w [t] (some ⟨b, o, none⟩)) : (∃ c0 c1 c2 c3, w.cell? ⟨b, o, none⟩ = some c0 ∧ w.cell? ⟨b, o + 1, none⟩ = some c1 ∧ w.cell? ⟨b, o + 2, none⟩ = some c2 ∧ w.cell? ⟨b, o + 3, none⟩ = some c3 ∧ Is w t c0 c1 c2 c3) ∧ True := by
  simp only [Row] at h
  obtain ⟨b', o', e, hL, _⟩ := h
  simp only [Option.some.injEq, Addr.mk.injEq, and_true] at e
  obtain ⟨rfl, rfl⟩ := e
  exact ⟨hL, trivial⟩
theorem put_keepE {w : World} {g : Nat} {t : Tm} {c0 c1 c2 c3 d0 d1 d2 d3 : Value} {T : TypeId} (hz : w.heap[g]? = some (.cells #[.int .i64 0, .string ⟨#[]⟩, .int .i64 0, .slice none 0 0] T (0, 0))) (h0 : nodesE t = 0) (hI : Is w t c0 c1 c2 c3) : Is (put4 w g 0 d0 d1 d2 d3) t c0 c1 c2 c3 := by
  refine is_keep (fun b hb => put4_other _ _ _ _ _ _ _ _ hb) (fun o n hc => ?_) t h0 _ _ _ _ hI
  unfold World.cell? at hc
  rw [hz] at hc
  match o, hc with
  | 0, hc => simp at hc; exact hc.symm
  | 1, hc => simp at hc
  | 2, hc => simp at hc; exact hc.symm
  | 3, hc => simp at hc
  | o + 4, hc => simp at hc
theorem validE_nodesE {t : Tm} (h : validE t = 0) : nodesE t = 0 := by
  unfold validE at h
  by_cases h0 : nodesE t = 0
  · exact h0
  · rw [if_neg h0] at h; exact absurd h h0

set_option maxHeartbeats 1600000 in
set_option maxRecDepth 100000 in
theorem rTerm_any (ps : List Pw) (xa : Option Addr) (cap : Nat) (w : World) (hlen : ps.length ≤ 1048576) (hsz : SzP 1048576 ps) (hR : PRow w ps xa) :
    Calls Tryz.prog 17 #[.slice xa ps.length cap] w (TePost w (termP ps)) := by
  obtain ⟨w1, hw1⟩ : ∃ w1, w.alloc (.cells #[.int .i64 0, .string ⟨#[]⟩, .int .i64 0, .slice none 0 0] 24) = w1 := ⟨_, rfl⟩
  have hx1 : Ext w w1 := by rw [← hw1]; exact (Ext.refl w).alloc _
  have hz1 : w1.heap[w.heap.size]? = some (.cells #[.int .i64 0, .string ⟨#[]⟩, .int .i64 0, .slice none 0 0] 24 (0, 0)) := by rw [← hw1]; exact box_new w _
  have hs1 : w1.heap.size = w.heap.size + 1 := by rw [← hw1, World.size_alloc]
  have HVP := Lib.hid (rpowE_any ps xa cap w1 (by unfold maxLen; omega) (fun p hp => Nat.le_trans (hsz p hp) (by omega)) (PRow_below (w' := w1) hR hx1))
  obtain ⟨h, hh⟩ : ∃ h, w.heap.size = h := ⟨_, rfl⟩
  rw [hh] at hz1 hs1
  have HH := Lib.hid hh
  have HBX : Hid (∀ W, Ext w1 W → W.heap[h]? = some (.cells #[.int .i64 0, .string ⟨#[]⟩, .int .i64 0, .slice none 0 0] 24 (0, 0))) := fun W y => (y.block h (by omega)).trans hz1
  have HX1 := Lib.hid hx1
  have HS1 := Lib.hid hs1
  obtain ⟨E, hE⟩ : ∃ E, powE 1000 ps = E := ⟨_, rfl⟩
  rw [hE] at HVP
  have HW : Hid (w.alloc (.cells #[.int .i64 0, .string ⟨#[]⟩, .int .i64 0, .slice none 0 0] 24) = w1) := hw1
  clear hw1 hx1 hz1 hs1 hh
  by_cases hE0 : E = 0
  rotate_left
  · have HT : Hid (termP ps = (.mk 0 ⟨#[]⟩ 0 [], E)) := by show _ = _; unfold termP; rw [hE, if_neg hE0]
    have q1 : (E != 0) = true := by rw [bne_iff_ne]; exact hE0
    clear hE hE0 hR hsz
    go_enter Tryz.func17, Tryz.ntmps17
    go_upto_region 1 with (fail)
    rw [HW.out, HH.out]
    clear HW
    go_wp2_with (go_at_call 53; refine (HVP.out).mono ?_; rintro e w2 ⟨he, hB⟩; subst he; have hx2 : Ext w1 w2 := hB; have HX2 := Lib.hid (Ext.trans HX1.out hx2); obtain ⟨⟨m0, m1, m2, m3⟩, n0, n1, n2, n3⟩ := box_facts (HBX.out _ hx2); clear hB hx2)
    have HF : Hid (TePost w (termP ps) (.returned (.tuple #[.agg #[.int .i64 0, .string ⟨#[]⟩, .int .i64 0, .slice none 0 0], .int .i64 E])) (put4 w2 h 0 (.int .i64 0) (.string ⟨#[]⟩) (.int .i64 0) (.slice none 0 0))) := by
      show TePost _ _ _ _
      rw [HT.out]
      exact ⟨_, _, _, _, rfl, zero_is _, put4_below HX2.out (by rw [HH.out]; exact Nat.le_refl _)⟩
    exact bodyPost_ret (v := .tuple #[.agg #[.int .i64 0, .string ⟨#[]⟩, .int .i64 0, .slice none 0 0], .int .i64 E]) (by simp [results, Tryz.results17, go_sem, m0, m1, m2, m3]) rfl HF.out
  subst hE0
  have HRO := Lib.hid (fun W (y : Ext w W) => roperands_any ps xa cap W hlen (fun p hp => by have := pwE_ok ((powE_ok hE).2.1 p hp); omega) (PRow_below (w' := W) hR y))
  have HPZ : Hid (∀ p ∈ ps, size p.1 ≤ 1048576) := hsz
  obtain ⟨N, hN⟩ : ∃ N, absS ps = N := ⟨_, rfl⟩
  have hol : (opsR ps).length = min 9 N := by rw [opsR_len, hN]
  by_cases h8 : 8 < N
  · have HT : Hid (termP ps = (.mk 0 ⟨#[]⟩ 0 [], 3)) := by show _ = _; unfold termP; rw [hE, if_pos rfl, if_pos (by rw [hN]; exact h8)]
    have hol9 : (opsR ps).length = 9 := by omega
    have HOL := Lib.hid hol9
    clear hE hR hsz hol hol9 hN
    go_enter Tryz.func17, Tryz.ntmps17
    go_upto_region 1 with (fail)
    rw [HW.out, HH.out]
    clear HW
    go_wp2_with (first
      | (go_at_call 53; refine (HVP.out).mono ?_; rintro e w2 ⟨he, hB⟩; subst he; have HX2 : Hid (Ext w1 w2) := hB; clear hB)
      | (go_at_call 54; refine (HRO.out _ (Ext.trans HX1.out HX2.out)).mono ?_; rintro e w3 ⟨v3, he, hK, hB⟩; subst he; obtain ⟨x3, c3, hv⟩ := KdIn_form hK; subst hv; rw [show ((posO ps ++ negO ps).take 9).length = 9 from HOL.out]; have hx3 : Ext w1 w3 := Ext.trans HX2.out hB; have HX3 := Lib.hid (Ext.trans HX1.out hx3); obtain ⟨⟨m0, m1, m2, m3⟩, n0, n1, n2, n3⟩ := box_facts (HBX.out _ hx3); clear hK hB hx3))
    have HF : Hid (TePost w (termP ps) (.returned (.tuple #[.agg #[.int .i64 0, .string ⟨#[]⟩, .int .i64 0, .slice none 0 0], .int .i64 3])) (put4 w3 h 0 (.int .i64 0) (.string ⟨#[]⟩) (.int .i64 0) (.slice none 0 0))) := by
      show TePost _ _ _ _
      rw [HT.out]
      exact ⟨_, _, _, _, rfl, zero_is _, put4_below HX3.out (by rw [HH.out]; exact Nat.le_refl _)⟩
    exact bodyPost_ret (v := .tuple #[.agg #[.int .i64 0, .string ⟨#[]⟩, .int .i64 0, .slice none 0 0], .int .i64 3]) (by simp [results, Tryz.results17, go_sem, m0, m1, m2, m3]) rfl HF.out
  have hall := opsR_all (ps := ps) (by omega)
  obtain ⟨os, hos⟩ : ∃ os, opsR ps = os := ⟨_, rfl⟩
  rw [hos] at hol hall
  have holN : os.length = N := by omega
  have hm : ∀ t ∈ os, size t ≤ 1048577 := by
    rw [hall]
    intro t ht
    rcases List.mem_append.1 ht with ht | ht
    · obtain ⟨p, hp, h2⟩ := List.mem_flatMap.1 ht
      rw [List.eq_of_mem_replicate h2]
      have := HPZ p hp; omega
    · obtain ⟨p, hp, h2⟩ := List.mem_flatMap.1 ht
      rw [List.eq_of_mem_replicate h2]
      have := HPZ p hp
      have e : size (tInv p.1) = 1 + (size p.1 + 0) := rfl
      rw [e]; omega
  have hszo : size (prodT os) ≤ 1073741824 := by
    have h1 := size_prodT _ hm
    have h2 : os.length * 1048577 ≤ 8 * 1048577 := Nat.mul_le_mul_right _ (by omega)
    omega
  obtain ⟨V, hV⟩ : ∃ V, validE (prodT os) = V := ⟨_, rfl⟩
  have HT : Hid (termP ps = if V = 0 then (prodT os, 0) else (.mk 0 ⟨#[]⟩ 0 [], V)) := by show _ = _; unfold termP; rw [hE, if_pos rfl, if_neg (by rw [hN]; exact h8), ← hall, hV]
  have HEND : Hid (∀ (W : World) k nm sx xa l c, Ext w W → W.heap[h]? = some (.cells #[.int .i64 0, .string ⟨#[]⟩, .int .i64 0, .slice none 0 0] 24 (0, 0)) → Is W (prodT os) (.int .i64 k) (.string nm) (.int .i64 sx) (.slice xa l c) → V = 0 → TePost w (termP ps) (.returned (.tuple #[.agg #[.int .i64 k, .string nm, .int .i64 sx, .slice xa l c], .int .i64 0])) (put4 W h 0 (.int .i64 k) (.string nm) (.int .i64 sx) (.slice xa l c))) := by
    show ∀ _, _
    intro W k nm sx xa l c y hz hI hv
    rw [HT.out, if_pos hv]
    exact ⟨_, _, _, _, rfl, put_keepE hz (validE_nodesE (hV.trans hv)) hI, put4_below y (by rw [HH.out]; exact Nat.le_refl _)⟩
  have HBAD : Hid (∀ (W : World), Ext w W → ¬ V = 0 → TePost w (termP ps) (.returned (.tuple #[.agg #[.int .i64 0, .string ⟨#[]⟩, .int .i64 0, .slice none 0 0], .int .i64 V])) (put4 W h 0 (.int .i64 0) (.string ⟨#[]⟩) (.int .i64 0) (.slice none 0 0))) := by
    show ∀ _, _
    intro W y hv
    rw [HT.out, if_neg hv]
    exact ⟨_, _, _, _, rfl, zero_is _, put4_below y (by rw [HH.out]; exact Nat.le_refl _)⟩
  have HVT : Hid (∀ (W : World) k nm sx xa l c, Is W (prodT os) (.int .i64 k) (.string nm) (.int .i64 sx) (.slice xa l c) → Calls Tryz.prog 46 #[.agg #[.int .i64 k, .string nm, .int .i64 sx, .slice xa l c]] W fun e w' => e = .returned (.int .i64 V) ∧ Below W.heap.size W w') := by
    show ∀ _, _
    intro W k nm sx xa l c hI
    have := rValid_any (prodT os) _ _ _ _ W hszo hI
    rw [hV] at this; exact this
  have HOS : Hid (∀ W, Ext w W → Calls Tryz.prog 54 #[.slice xa ps.length cap] W (RoPost W os)) := fun W y => by have := HRO.out W y; rw [show (posO ps ++ negO ps).take 9 = os from hos] at this; exact this
  have hN8 : N ≤ 8 := by omega
  clear hE hR hsz hol hall hos hm hszo hV HRO HPZ HT h8 hN
  rcases os with _ | ⟨t1, _ | ⟨t2, os⟩⟩
  · by_cases hV0 : V = 0
    · subst hV0
      have hN0 : N = 0 := by rw [← holN]; rfl
      subst hN0
      go_enter Tryz.func17, Tryz.ntmps17
      go_upto_region 1 with (fail)
      rw [HW.out, HH.out]
      clear HW
      have tok1 : True := trivial
      go_wp2_with (first
        | (go_at_call 53; refine (HVP.out).mono ?_; rintro e w2 ⟨he, hB⟩; subst he; have HX2 : Hid (Ext w1 w2) := hB; clear hB)
        | (go_at_call 54; refine (HOS.out _ (Ext.trans HX1.out HX2.out)).mono ?_; rintro e w3 ⟨v3, he, hK, hB⟩; subst he; obtain ⟨x3, c3, hv⟩ := KdIn_form hK; subst hv; have hR3 := (KdIn_row hK).1; have hC3 := (KdIn_row hK).2; rw [holN] at hC3 ⊢; have HX3 : Hid (Ext w1 w3) := Ext.trans HX2.out hB; clear hR3 hC3; clear hK hB)
        | (go_at_call_of 37 (Value.string ⟨#[109, 117, 108]⟩); refine (app_zero ⟨#[109, 117, 108]⟩ x3 c3 _ (by decide)).mono ?_; rintro e w4 ⟨⟨kv, he, hI⟩, hB⟩; subst he; obtain ⟨_, _, _, x4, l4, c4, _, _, _, e3⟩ := Is_form hI; subst e3; have HX4 : Hid (Ext w1 w4) := Ext.trans HX3.out hB; have HXB : Hid (Ext w1 (w4.alloc (.cells #[.int .i64 3, .string ⟨#[109, 117, 108]⟩, .int .i64 0, .slice x4 l4 c4] 24))) := Ext.alloc HX4.out _; have HL4 := Lib.hid (heap_alloc_new w4 (.cells #[.int .i64 3, .string ⟨#[109, 117, 108]⟩, .int .i64 0, .slice x4 l4 c4] 24)); clear hI hB)
        | (go_at_call_of 37 (Value.string ⟨#[111, 110, 101]⟩); refine (app_zero ⟨#[111, 110, 101]⟩ none 0 _ (by decide)).mono ?_; rintro e w5 ⟨⟨kv, he, hI⟩, hB⟩; subst he; obtain ⟨_, _, _, x5, l5, c5, _, _, _, e3⟩ := Is_form hI; subst e3; have HX5 : Hid (Ext w1 w5) := Ext.trans HXB.out hB; have HI5 := Lib.hid hI; have hl5 := (hB.block w4.heap.size (by simp)).trans HL4.out; obtain ⟨⟨r0, r1, r2, r3⟩, r4, r5, r6, r7⟩ := box_facts hl5; have HL5 := Lib.hid hl5; have HG4 : Hid (w.heap.size + 1 ≤ w4.heap.size) := (by have := HX4.out.size; have := HS1.out; show _ ≤ _; have := HH.out; omega); clear hI hB hl5)
        | (go_at_call 46; refine (HVT.out _ _ _ _ _ _ _ (put_one HL5.out HI5.out)).mono ?_; rintro e w8 ⟨he, hB⟩; subst he; have hx8 : Ext w1 w8 := Ext.trans (put4_below HX5.out (by have := HX4.out.size; omega)) hB; have HX8 := Lib.hid hx8; have HI8 := Lib.hid (Is_below (put_one HL5.out HI5.out) hB); have HZ8 := Lib.hid (HBX.out _ hx8); obtain ⟨⟨m0, m1, m2, m3⟩, n0, n1, n2, n3⟩ := box_facts HZ8.out; have HL8 := Lib.hid ((hB.block w4.heap.size (by rw [put4_size]; exact heap_lt2 HL5.out)).trans (put4_box HL5.out)); obtain ⟨⟨s0, s1, s2, s3⟩, _⟩ := box_facts HL8.out; clear hB hx8))
      exact bodyPost_ret (v := .tuple #[.agg #[.int .i64 3, .string ⟨#[111, 110, 101]⟩, .int .i64 0, .slice x5 l5 c5], .int .i64 0]) (by simp [results, Tryz.results17, go_sem, m0, m1, m2, m3]) rfl (HEND.out w8 _ _ _ _ _ _ (Ext.trans HX1.out HX8.out) HZ8.out HI8.out (by first | rfl | trivial))
    · have qv : (V != 0) = true := by rw [bne_iff_ne]; exact hV0
      have hN0 : N = 0 := by rw [← holN]; rfl
      subst hN0
      go_enter Tryz.func17, Tryz.ntmps17
      go_upto_region 1 with (fail)
      rw [HW.out, HH.out]
      clear HW
      have tok1 : True := trivial
      go_wp2_with (first
        | (go_at_call 53; refine (HVP.out).mono ?_; rintro e w2 ⟨he, hB⟩; subst he; have HX2 : Hid (Ext w1 w2) := hB; clear hB)
        | (go_at_call 54; refine (HOS.out _ (Ext.trans HX1.out HX2.out)).mono ?_; rintro e w3 ⟨v3, he, hK, hB⟩; subst he; obtain ⟨x3, c3, hv⟩ := KdIn_form hK; subst hv; have hR3 := (KdIn_row hK).1; have hC3 := (KdIn_row hK).2; rw [holN] at hC3 ⊢; have HX3 : Hid (Ext w1 w3) := Ext.trans HX2.out hB; clear hR3 hC3; clear hK hB)
        | (go_at_call_of 37 (Value.string ⟨#[109, 117, 108]⟩); refine (app_zero ⟨#[109, 117, 108]⟩ x3 c3 _ (by decide)).mono ?_; rintro e w4 ⟨⟨kv, he, hI⟩, hB⟩; subst he; obtain ⟨_, _, _, x4, l4, c4, _, _, _, e3⟩ := Is_form hI; subst e3; have HX4 : Hid (Ext w1 w4) := Ext.trans HX3.out hB; have HXB : Hid (Ext w1 (w4.alloc (.cells #[.int .i64 3, .string ⟨#[109, 117, 108]⟩, .int .i64 0, .slice x4 l4 c4] 24))) := Ext.alloc HX4.out _; have HL4 := Lib.hid (heap_alloc_new w4 (.cells #[.int .i64 3, .string ⟨#[109, 117, 108]⟩, .int .i64 0, .slice x4 l4 c4] 24)); clear hI hB)
        | (go_at_call_of 37 (Value.string ⟨#[111, 110, 101]⟩); refine (app_zero ⟨#[111, 110, 101]⟩ none 0 _ (by decide)).mono ?_; rintro e w5 ⟨⟨kv, he, hI⟩, hB⟩; subst he; obtain ⟨_, _, _, x5, l5, c5, _, _, _, e3⟩ := Is_form hI; subst e3; have HX5 : Hid (Ext w1 w5) := Ext.trans HXB.out hB; have HI5 := Lib.hid hI; have hl5 := (hB.block w4.heap.size (by simp)).trans HL4.out; obtain ⟨⟨r0, r1, r2, r3⟩, r4, r5, r6, r7⟩ := box_facts hl5; have HL5 := Lib.hid hl5; have HG4 : Hid (w.heap.size + 1 ≤ w4.heap.size) := (by have := HX4.out.size; have := HS1.out; show _ ≤ _; have := HH.out; omega); clear hI hB hl5)
        | (go_at_call 46; refine (HVT.out _ _ _ _ _ _ _ (put_one HL5.out HI5.out)).mono ?_; rintro e w8 ⟨he, hB⟩; subst he; have hx8 : Ext w1 w8 := Ext.trans (put4_below HX5.out (by have := HX4.out.size; omega)) hB; have HX8 := Lib.hid hx8; have HI8 := Lib.hid (Is_below (put_one HL5.out HI5.out) hB); have HZ8 := Lib.hid (HBX.out _ hx8); obtain ⟨⟨m0, m1, m2, m3⟩, n0, n1, n2, n3⟩ := box_facts HZ8.out;  clear hB hx8))
      exact bodyPost_ret (v := .tuple #[.agg #[.int .i64 0, .string ⟨#[]⟩, .int .i64 0, .slice none 0 0], .int .i64 V]) (by simp [results, Tryz.results17, go_sem, m0, m1, m2, m3]) rfl (HBAD.out w8 (Ext.trans HX1.out HX8.out) hV0)
  · by_cases hV0 : V = 0
    · subst hV0
      have hN1 : N = 1 := by rw [← holN]; rfl
      subst hN1
      go_enter Tryz.func17, Tryz.ntmps17
      go_upto_region 1 with (fail)
      rw [HW.out, HH.out]
      clear HW
      go_wp2_with (first
        | (go_at_call 53; refine (HVP.out).mono ?_; rintro e w2 ⟨he, hB⟩; subst he; have HX2 : Hid (Ext w1 w2) := hB; clear hB)
        | (go_at_call 54; refine (HOS.out _ (Ext.trans HX1.out HX2.out)).mono ?_; rintro e w3 ⟨v3, he, hK, hB⟩; subst he; obtain ⟨x3, c3, hv⟩ := KdIn_form hK; subst hv; have hR3 := (KdIn_row hK).1; have hC3 := (KdIn_row hK).2; rw [holN] at hC3 ⊢; have HX3 : Hid (Ext w1 w3) := Ext.trans HX2.out hB; obtain ⟨b3, o3, hb3⟩ := Row_at hR3 (by simp); subst hb3; obtain ⟨⟨c0, c1, c2, c3', f0, f1, f2, f3, hI1⟩, _⟩ := Row_one_get hR3; obtain ⟨kk, nm, sx, ya, yl, yc, e0, e1, e2, e3⟩ := Is_form hI1; subst e0 e1 e2 e3; have HI1 := Lib.hid hI1; have HAP := Lib.hid (show Calls Tryz.prog 37 #[.string ⟨#[109, 117, 108]⟩, .slice (some ⟨b3, o3, none⟩) 1 c3] w3 (AppPost w3 ⟨#[109, 117, 108]⟩ [t1]) from app_any ⟨#[109, 117, 108]⟩ [t1] b3 o3 c3 w3 (by decide) (by simp) (by simp) hR3); clear hR3 hI1; clear hK hB)
        | (go_at_call 37; refine (HAP.out).mono ?_; rintro e w4 ⟨⟨kv, he, hI⟩, hB⟩; subst he; obtain ⟨_, _, _, x4, l4, c4, _, _, _, e3⟩ := Is_form hI; subst e3; have HX4 : Hid (Ext w1 w4) := Ext.trans HX3.out hB; have HJ4 : Hid (Is w4 (prodT [t1]) (.int .i64 kk) (.string nm) (.int .i64 sx) (.slice ya yl yc)) := Is_below (w' := w4) HI1.out hB; have g0 := keep_alloc w4 (.cells #[.int .i64 3, .string ⟨#[109, 117, 108]⟩, .int .i64 0, .slice x4 l4 c4] 24) _ _ (keep_below hB _ _ f0); have g1 := keep_alloc w4 (.cells #[.int .i64 3, .string ⟨#[109, 117, 108]⟩, .int .i64 0, .slice x4 l4 c4] 24) _ _ (keep_below hB _ _ f1); have g2 := keep_alloc w4 (.cells #[.int .i64 3, .string ⟨#[109, 117, 108]⟩, .int .i64 0, .slice x4 l4 c4] 24) _ _ (keep_below hB _ _ f2); have g3 := keep_alloc w4 (.cells #[.int .i64 3, .string ⟨#[109, 117, 108]⟩, .int .i64 0, .slice x4 l4 c4] 24) _ _ (keep_below hB _ _ f3); have HL4 := Lib.hid (heap_alloc_new w4 (.cells #[.int .i64 3, .string ⟨#[109, 117, 108]⟩, .int .i64 0, .slice x4 l4 c4] 24)); obtain ⟨⟨r0, r1, r2, r3⟩, r4, r5, r6, r7⟩ := box_facts HL4.out; have HG4 : Hid (w1.heap.size ≤ w4.heap.size) := HX4.out.size; clear hI hB f0 f1 f2 f3)
        | (go_at_call 46; refine (HVT.out _ _ _ _ _ _ _ (Is_alloc HJ4.out _)).mono ?_; rintro e w8 ⟨he, hB⟩; subst he; have hx8 : Ext w1 w8 := Ext.trans (Ext.alloc HX4.out _) hB; have HX8 := Lib.hid hx8; have HI8 := Lib.hid (Is_below (Is_alloc HJ4.out _) hB); have HZ8 := Lib.hid (HBX.out _ hx8); obtain ⟨⟨m0, m1, m2, m3⟩, n0, n1, n2, n3⟩ := box_facts HZ8.out; have HL8 := Lib.hid ((hB.block w4.heap.size (by simp)).trans (heap_alloc_new w4 (.cells #[.int .i64 kk, .string nm, .int .i64 sx, .slice ya yl yc] 24))); obtain ⟨⟨s0, s1, s2, s3⟩, _⟩ := box_facts HL8.out; clear hB hx8))
      exact bodyPost_ret (v := .tuple #[.agg #[.int .i64 kk, .string nm, .int .i64 sx, .slice ya yl yc], .int .i64 0]) (by simp [results, Tryz.results17, go_sem, m0, m1, m2, m3]) rfl (HEND.out w8 _ _ _ _ _ _ (Ext.trans HX1.out HX8.out) HZ8.out HI8.out (by first | rfl | trivial))
    · have qv : (V != 0) = true := by rw [bne_iff_ne]; exact hV0
      have hN1 : N = 1 := by rw [← holN]; rfl
      subst hN1
      go_enter Tryz.func17, Tryz.ntmps17
      go_upto_region 1 with (fail)
      rw [HW.out, HH.out]
      clear HW
      go_wp2_with (first
        | (go_at_call 53; refine (HVP.out).mono ?_; rintro e w2 ⟨he, hB⟩; subst he; have HX2 : Hid (Ext w1 w2) := hB; clear hB)
        | (go_at_call 54; refine (HOS.out _ (Ext.trans HX1.out HX2.out)).mono ?_; rintro e w3 ⟨v3, he, hK, hB⟩; subst he; obtain ⟨x3, c3, hv⟩ := KdIn_form hK; subst hv; have hR3 := (KdIn_row hK).1; have hC3 := (KdIn_row hK).2; rw [holN] at hC3 ⊢; have HX3 : Hid (Ext w1 w3) := Ext.trans HX2.out hB; obtain ⟨b3, o3, hb3⟩ := Row_at hR3 (by simp); subst hb3; obtain ⟨⟨c0, c1, c2, c3', f0, f1, f2, f3, hI1⟩, _⟩ := Row_one_get hR3; obtain ⟨kk, nm, sx, ya, yl, yc, e0, e1, e2, e3⟩ := Is_form hI1; subst e0 e1 e2 e3; have HI1 := Lib.hid hI1; have HAP := Lib.hid (show Calls Tryz.prog 37 #[.string ⟨#[109, 117, 108]⟩, .slice (some ⟨b3, o3, none⟩) 1 c3] w3 (AppPost w3 ⟨#[109, 117, 108]⟩ [t1]) from app_any ⟨#[109, 117, 108]⟩ [t1] b3 o3 c3 w3 (by decide) (by simp) (by simp) hR3); clear hR3 hI1; clear hK hB)
        | (go_at_call 37; refine (HAP.out).mono ?_; rintro e w4 ⟨⟨kv, he, hI⟩, hB⟩; subst he; obtain ⟨_, _, _, x4, l4, c4, _, _, _, e3⟩ := Is_form hI; subst e3; have HX4 : Hid (Ext w1 w4) := Ext.trans HX3.out hB; have HJ4 : Hid (Is w4 (prodT [t1]) (.int .i64 kk) (.string nm) (.int .i64 sx) (.slice ya yl yc)) := Is_below (w' := w4) HI1.out hB; have g0 := keep_alloc w4 (.cells #[.int .i64 3, .string ⟨#[109, 117, 108]⟩, .int .i64 0, .slice x4 l4 c4] 24) _ _ (keep_below hB _ _ f0); have g1 := keep_alloc w4 (.cells #[.int .i64 3, .string ⟨#[109, 117, 108]⟩, .int .i64 0, .slice x4 l4 c4] 24) _ _ (keep_below hB _ _ f1); have g2 := keep_alloc w4 (.cells #[.int .i64 3, .string ⟨#[109, 117, 108]⟩, .int .i64 0, .slice x4 l4 c4] 24) _ _ (keep_below hB _ _ f2); have g3 := keep_alloc w4 (.cells #[.int .i64 3, .string ⟨#[109, 117, 108]⟩, .int .i64 0, .slice x4 l4 c4] 24) _ _ (keep_below hB _ _ f3); have HL4 := Lib.hid (heap_alloc_new w4 (.cells #[.int .i64 3, .string ⟨#[109, 117, 108]⟩, .int .i64 0, .slice x4 l4 c4] 24)); obtain ⟨⟨r0, r1, r2, r3⟩, r4, r5, r6, r7⟩ := box_facts HL4.out; have HG4 : Hid (w1.heap.size ≤ w4.heap.size) := HX4.out.size; clear hI hB f0 f1 f2 f3)
        | (go_at_call 46; refine (HVT.out _ _ _ _ _ _ _ (Is_alloc HJ4.out _)).mono ?_; rintro e w8 ⟨he, hB⟩; subst he; have hx8 : Ext w1 w8 := Ext.trans (Ext.alloc HX4.out _) hB; have HX8 := Lib.hid hx8; have HI8 := Lib.hid (Is_below (Is_alloc HJ4.out _) hB); have HZ8 := Lib.hid (HBX.out _ hx8); obtain ⟨⟨m0, m1, m2, m3⟩, n0, n1, n2, n3⟩ := box_facts HZ8.out;  clear hB hx8))
      exact bodyPost_ret (v := .tuple #[.agg #[.int .i64 0, .string ⟨#[]⟩, .int .i64 0, .slice none 0 0], .int .i64 V]) (by simp [results, Tryz.results17, go_sem, m0, m1, m2, m3]) rfl (HBAD.out w8 (Ext.trans HX1.out HX8.out) hV0)
  · by_cases hV0 : V = 0
    · subst hV0
      have q8 : ¬ (8 : Int) < (N : Int) := by omega
      have hN2 : 2 ≤ N := by rw [← holN]; simp
      have q0 : ((N : Int) == 0) = false := by simp; omega
      have q1 : ((N : Int) == 1) = false := by simp; omega
      go_enter Tryz.func17, Tryz.ntmps17
      go_upto_region 1 with (fail)
      rw [HW.out, HH.out]
      clear HW
      go_wp2_with (first
        | (go_at_call 53; refine (HVP.out).mono ?_; rintro e w2 ⟨he, hB⟩; subst he; have HX2 : Hid (Ext w1 w2) := hB; clear hB)
        | (go_at_call 54; refine (HOS.out _ (Ext.trans HX1.out HX2.out)).mono ?_; rintro e w3 ⟨v3, he, hK, hB⟩; subst he; obtain ⟨x3, c3, hv⟩ := KdIn_form hK; subst hv; have hR3 := (KdIn_row hK).1; have hC3 := (KdIn_row hK).2; rw [holN] at hC3 ⊢; have HX3 : Hid (Ext w1 w3) := Ext.trans HX2.out hB; obtain ⟨b3, o3, hb3⟩ := Row_at hR3 (by simp); subst hb3; have HAP := Lib.hid (app_any ⟨#[109, 117, 108]⟩ (t1 :: t2 :: os) b3 o3 c3 w3 (by decide) (by omega) (by simp) hR3); rw [holN] at HAP; clear hR3; clear hK hB)
        | (go_at_call 37; refine (HAP.out).mono ?_; rintro e w4 ⟨⟨kv, he, hI⟩, hB⟩; subst he; obtain ⟨_, _, _, x5, l5, c5, _, _, _, e3⟩ := Is_form hI; subst e3; have HX4 : Hid (Ext w1 w4) := Ext.trans HX3.out hB; have HI4 := Lib.hid hI; clear hI hB)
        | (go_at_call 46; refine (HVT.out _ _ _ _ _ _ _ (Is_below HI4.out ((Ext.refl w4).alloc _))).mono ?_; rintro e w8 ⟨he, hB⟩; subst he; have hx8 : Ext w1 w8 := Ext.trans (Ext.alloc HX4.out _) hB; have HX8 := Lib.hid hx8; have HI8 := Lib.hid (Is_below (Is_below HI4.out ((Ext.refl w4).alloc _)) hB); have HZ8 := Lib.hid (HBX.out _ hx8); obtain ⟨⟨m0, m1, m2, m3⟩, n0, n1, n2, n3⟩ := box_facts HZ8.out; have HL8 := Lib.hid ((hB.block w4.heap.size (by simp)).trans (heap_alloc_new w4 (.cells #[.int .i64 3, .string ⟨#[109, 117, 108]⟩, .int .i64 0, .slice x5 l5 c5] 24))); obtain ⟨⟨r0, r1, r2, r3⟩, _⟩ := box_facts HL8.out; clear hB hx8))
      exact bodyPost_ret (v := .tuple #[.agg #[.int .i64 3, .string ⟨#[109, 117, 108]⟩, .int .i64 0, .slice x5 l5 c5], .int .i64 0]) (by simp [results, Tryz.results17, go_sem, m0, m1, m2, m3]) rfl (HEND.out w8 _ _ _ _ _ _ (Ext.trans HX1.out HX8.out) HZ8.out HI8.out (by first | rfl | trivial))
    · have qv : (V != 0) = true := by rw [bne_iff_ne]; exact hV0
      have q8 : ¬ (8 : Int) < (N : Int) := by omega
      have hN2 : 2 ≤ N := by rw [← holN]; simp
      have q0 : ((N : Int) == 0) = false := by simp; omega
      have q1 : ((N : Int) == 1) = false := by simp; omega
      go_enter Tryz.func17, Tryz.ntmps17
      go_upto_region 1 with (fail)
      rw [HW.out, HH.out]
      clear HW
      go_wp2_with (first
        | (go_at_call 53; refine (HVP.out).mono ?_; rintro e w2 ⟨he, hB⟩; subst he; have HX2 : Hid (Ext w1 w2) := hB; clear hB)
        | (go_at_call 54; refine (HOS.out _ (Ext.trans HX1.out HX2.out)).mono ?_; rintro e w3 ⟨v3, he, hK, hB⟩; subst he; obtain ⟨x3, c3, hv⟩ := KdIn_form hK; subst hv; have hR3 := (KdIn_row hK).1; have hC3 := (KdIn_row hK).2; rw [holN] at hC3 ⊢; have HX3 : Hid (Ext w1 w3) := Ext.trans HX2.out hB; obtain ⟨b3, o3, hb3⟩ := Row_at hR3 (by simp); subst hb3; have HAP := Lib.hid (app_any ⟨#[109, 117, 108]⟩ (t1 :: t2 :: os) b3 o3 c3 w3 (by decide) (by omega) (by simp) hR3); rw [holN] at HAP; clear hR3; clear hK hB)
        | (go_at_call 37; refine (HAP.out).mono ?_; rintro e w4 ⟨⟨kv, he, hI⟩, hB⟩; subst he; obtain ⟨_, _, _, x5, l5, c5, _, _, _, e3⟩ := Is_form hI; subst e3; have HX4 : Hid (Ext w1 w4) := Ext.trans HX3.out hB; have HI4 := Lib.hid hI; clear hI hB)
        | (go_at_call 46; refine (HVT.out _ _ _ _ _ _ _ (Is_below HI4.out ((Ext.refl w4).alloc _))).mono ?_; rintro e w8 ⟨he, hB⟩; subst he; have hx8 : Ext w1 w8 := Ext.trans (Ext.alloc HX4.out _) hB; have HX8 := Lib.hid hx8; have HI8 := Lib.hid (Is_below (Is_below HI4.out ((Ext.refl w4).alloc _)) hB); have HZ8 := Lib.hid (HBX.out _ hx8); obtain ⟨⟨m0, m1, m2, m3⟩, n0, n1, n2, n3⟩ := box_facts HZ8.out;  clear hB hx8))
      exact bodyPost_ret (v := .tuple #[.agg #[.int .i64 0, .string ⟨#[]⟩, .int .i64 0, .slice none 0 0], .int .i64 V]) (by simp [results, Tryz.results17, go_sem, m0, m1, m2, m3]) rfl (HBAD.out w8 (Ext.trans HX1.out HX8.out) hV0)
end Go.Proofs.YtcieadjjcpmieaaGreat
