/-
  THE WALK OF the reference's Same (layer 6) at equal lists.
-/
import Derived.Test.YtcieadjjcpmieaaGreatPvan
import Derived.Deep.RegionHeld3
namespace Go.Proofs.YtcieadjjcpmieaaGreat
open Go.RowKit

set_option maxHeartbeats 6400000 in
set_option maxRecDepth 100000 in
/-- Equal lists (all that is asked: its results are equal wherever a law asks). -/
theorem psame_eq (ps : List Pw) (xa ya : Option Addr) (cap cap2 : Nat) (w : World) (hlen : ps.length ≤ maxLen) (hsz : SzP 1073741824 ps) (hR : PRow w ps xa) (hR2 : PRow w ps ya) :
    Calls Tryz.prog 14 #[.slice xa ps.length cap, .slice ya ps.length cap2] w fun e w' => e = .returned (.bool true) ∧ Below w.heap.size w w' := by
  unfold maxLen at hlen
  have q : ((ps.length : Int) != (ps.length : Int)) = false := by simp
  have HR := Lib.hid hR
  have HR2 := Lib.hid hR2
  have HSZ := Lib.hid hsz
  clear hR hR2 hsz
  go_enter Tryz.func14, Tryz.ntmps14
  go_wp2_with fail
  go_loopw [5] (fun i wr => ∃ j : Nat, j ≤ ps.length ∧ i = .int .i64 j ∧ Ext w wr) (fun i _ => ps.length - (intOf i).toNat)
  case atStart => exact ⟨0, Nat.zero_le _, rfl, Ext.refl w⟩
  case round =>
    obtain ⟨i, hi, rfl, hE⟩ := hrel
    have HE := Lib.hid hE
    by_cases hlt : i < ps.length
    rotate_left
    · clear hE
      go_wp2_with fail
      go_ret
      exact ⟨rfl, HE.out⟩
    obtain ⟨b, o, rfl⟩ := PRow_at HR.out (by omega)
    obtain ⟨b2, o2, rfl⟩ := PRow_at HR2.out (by omega)
    obtain ⟨⟨v0, v1, v2, v3, g0, g1, g2, g3, hI1⟩, g4, _⟩ := PRow_get (PRow_below HR.out hE) i hlt
    obtain ⟨⟨p0, p1, p2, p3, h0, h1, h2, h3, hI3⟩, h4, _⟩ := PRow_get (PRow_below HR2.out hE) i hlt
    obtain ⟨k1, n1, s1, ya1, yl1, yc1, rfl, rfl, rfl, rfl⟩ := Is_form hI1
    obtain ⟨k3, n3, s3, ya3, yl3, yc3, rfl, rfl, rfl, rfl⟩ := Is_form hI3
    have hz1 := HSZ.out ps[i] (List.getElem_mem hlt)
    have hC1 := fun W (x : Ext wr W) => same_any ps[i].1 ps[i].1 _ _ _ _ _ _ _ _ W (by omega) (by omega) (Is_below (w' := W) hI1 x) (Is_below (w' := W) hI3 x)
    have e1 : (cmpT ps[i].1 ps[i].1 == 0) = true := by rw [cmpT_self]; rfl
    rw [e1] at hC1
    have HC1 := Lib.hid hC1
    generalize ps[i].2 = N at g4 h4
    have HCr : Hid (∀ W, Ext wr W → ((W.cell? ⟨b, o + i * 5, none⟩ = some (.int .i64 k1) ∧ W.cell? ⟨b, o + i * 5 + 1, none⟩ = some (.string n1) ∧ W.cell? ⟨b, o + i * 5 + 2, none⟩ = some (.int .i64 s1) ∧ W.cell? ⟨b, o + i * 5 + 3, none⟩ = some (.slice ya1 yl1 yc1)) ∧ W.cell? ⟨b, o + i * 5 + 4, none⟩ = some (.int .i64 N)) ∧ ((W.cell? ⟨b2, o2 + i * 5, none⟩ = some (.int .i64 k3) ∧ W.cell? ⟨b2, o2 + i * 5 + 1, none⟩ = some (.string n3) ∧ W.cell? ⟨b2, o2 + i * 5 + 2, none⟩ = some (.int .i64 s3) ∧ W.cell? ⟨b2, o2 + i * 5 + 3, none⟩ = some (.slice ya3 yl3 yc3)) ∧ W.cell? ⟨b2, o2 + i * 5 + 4, none⟩ = some (.int .i64 N))) := fun W x => ⟨⟨⟨keep_below x _ _ g0, keep_below x _ _ g1, keep_below x _ _ g2, keep_below x _ _ g3⟩, keep_below x _ _ g4⟩, ⟨keep_below x _ _ h0, keep_below x _ _ h1, keep_below x _ _ h2, keep_below x _ _ h3⟩, keep_below x _ _ h4⟩
    have qN : (N != N) = false := by simp
    have i1 : (0 : Int) ≤ (i : Int) := by omega
    have i2 : (i : Int) < (ps.length : Int) := by omega
    have hF0 : Ext wr wr.drew := (Ext.refl wr).drew
    clear hE hI1 hI3 hz1 e1 hC1
    go_wp2_with fail
    go_region_held3 (fun W => ((W.cell? ⟨b, o + i * 5, none⟩ = some (.int .i64 k1) ∧ W.cell? ⟨b, o + i * 5 + 1, none⟩ = some (.string n1) ∧ W.cell? ⟨b, o + i * 5 + 2, none⟩ = some (.int .i64 s1) ∧ W.cell? ⟨b, o + i * 5 + 3, none⟩ = some (.slice ya1 yl1 yc1)) ∧ W.cell? ⟨b, o + i * 5 + 4, none⟩ = some (.int .i64 N)) ∧ ((W.cell? ⟨b2, o2 + i * 5, none⟩ = some (.int .i64 k3) ∧ W.cell? ⟨b2, o2 + i * 5 + 1, none⟩ = some (.string n3) ∧ W.cell? ⟨b2, o2 + i * 5 + 2, none⟩ = some (.int .i64 s3) ∧ W.cell? ⟨b2, o2 + i * 5 + 3, none⟩ = some (.slice ya3 yl3 yc3)) ∧ W.cell? ⟨b2, o2 + i * 5 + 4, none⟩ = some (.int .i64 N)))
      (first | exact HCr.out _ (by assumption) | go_keep)
      (first | (go_at_call 18; refine (HC1.out _ hF0).mono ?_; rintro e w4 ⟨he, hB⟩; subst he; have hF1 : Ext wr w4 := hF0.trans hB; clear hB))
    all_goals (try go_wp2_with fail)
    all_goals go_roundw
    case rel => exact ⟨i + 1, by omega, by go_num, Ext.trans HE.out hF1⟩
    case measure => simp [intOf]; omega
end Go.Proofs.YtcieadjjcpmieaaGreat
