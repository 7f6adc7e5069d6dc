/-
  slices.Reverse AT A ROW OF TERMS OF ONE'S OWN: the same terms in some order.
-/
import Derived.Test.YtfbomoginjknlaaGreatDoorQlw
namespace Go.Proofs.YtfbomoginjknlaaGreatDoor
open Go.RowKit Go.Lib

section
variable {S : Nat → Prop} {w : World}
set_option maxHeartbeats 3200000 in
set_option maxRecDepth 100000 in
theorem reverse_pos {H g cap : Nat} (L : List (TA S w)) (n : Nat) (hn : L.length = n) (hpos : 0 < n) (hnl : n ≤ 1048576) (hown : w.ownsRow H 26 4 (.slice (some ⟨g, 0, none⟩) n cap) n (L.flatMap encT)) :
    Calls Tryz.prog 15 #[.slice (some ⟨g, 0, none⟩) n cap] w fun e w' => e = .returned (.tuple #[]) ∧ ∃ us : List (TA S w), us.length = n ∧ us.Perm L ∧ w'.ownsRow H 26 4 (.slice (some ⟨g, 0, none⟩) n cap) n (us.flatMap encT) ∧ Below H w w' ∧ w.heap.size ≤ w'.heap.size := by
  have HO := Lib.hid hown
  have HN := Lib.hid hn
  clear hown hn
  go_enter Tryz.func15, Tryz.ntmps15
  go_wp2_with fail
  go_loopw [2, 3] (fun s2 s3 wr => ∃ (a : Nat) (z : Int) (us : List (TA S w)), s2 = .int .i64 a ∧ s3 = .int .i64 z ∧ z = (n : Int) - 1 - a ∧ a ≤ n ∧ us.length = n ∧ us.Perm L ∧ wr.ownsRow H 26 4 (.slice (some ⟨g, 0, none⟩) n cap) n (us.flatMap encT) ∧ Below H w wr ∧ w.heap.size ≤ wr.heap.size) (fun s2 _ _ => n - (intOf s2).toNat)
  case atStart => exact ⟨0, _, L, rfl, rfl, by omega, Nat.zero_le _, HN.out, List.Perm.refl _, HO.out, Below.refl _ _, Nat.le_refl _⟩
  case round =>
    obtain ⟨a, z, us, rfl, rfl, hz, han, hul, hp, ho, hB, hs⟩ := hrel
    by_cases hlt : (a : Int) < z
    rotate_left
    · have HF := Lib.hid (And.intro hul (And.intro hp (And.intro ho (And.intro hB hs))))
      clear hul hp ho hB hs
      go_wp2_with fail
      go_end0
      exact ⟨rfl, us, HF.out.1, HF.out.2.1, HF.out.2.2.1, HF.out.2.2.2.1, HF.out.2.2.2.2⟩
    obtain ⟨b, rfl⟩ : ∃ b : Nat, z = (b : Int) := ⟨z.toNat, by omega⟩
    have ha : a < us.length := by omega
    have hb : b < us.length := by omega
    obtain ⟨x0, x1, x2, x3⟩ := ta_cells ho a ha
    obtain ⟨y0, y1, y2, y3⟩ := ta_cells ho b hb
    have hfz := fun i => ho.frozenAt i
    have hgl := ho.lt g rfl
    have HFIN : Hid ((put4 (put4 wr g (a * 4) (.int .i64 us[b].k) (.string us[b].n) (.int .i64 us[b].s) (.slice us[b].xa us[b].l us[b].c)) g (b * 4) (.int .i64 us[a].k) (.string us[a].n) (.int .i64 us[a].s) (.slice us[a].xa us[a].l us[a].c)).ownsRow H 26 4 (.slice (some ⟨g, 0, none⟩) n cap) n (((us.set a us[b]).set b us[a]).flatMap encT) ∧ ((us.set a us[b]).set b us[a]).length = n ∧ ((us.set a us[b]).set b us[a]).Perm L ∧ Below H w (put4 (put4 wr g (a * 4) (.int .i64 us[b].k) (.string us[b].n) (.int .i64 us[b].s) (.slice us[b].xa us[b].l us[b].c)) g (b * 4) (.int .i64 us[a].k) (.string us[a].n) (.int .i64 us[a].s) (.slice us[a].xa us[a].l us[a].c)) ∧ w.heap.size ≤ (put4 (put4 wr g (a * 4) (.int .i64 us[b].k) (.string us[b].n) (.int .i64 us[b].s) (.slice us[b].xa us[b].l us[b].c)) g (b * 4) (.int .i64 us[a].k) (.string us[a].n) (.int .i64 us[a].s) (.slice us[a].xa us[a].l us[a].c)).heap.size) :=
      ⟨own_ta (own_ta ho ha us[b]) (by rw [List.length_set]; exact hb) us[a], by rw [List.length_set, List.length_set]; exact hul, (List.set_set_perm ha hb).trans hp, put4_below (put4_below hB hgl.1) hgl.1, by rw [put4_size, put4_size]; exact hs⟩
    have hne : a ≠ b := by omega
    obtain ⟨f0, f1, f2, f3⟩ := (⟨hfz (a * 4), hfz (a * 4 + 1), hfz (a * 4 + 2), hfz (a * 4 + 3)⟩ : _ ∧ _ ∧ _ ∧ _)
    obtain ⟨g0, g1, g2, g3⟩ := (⟨hfz (b * 4), hfz (b * 4 + 1), hfz (b * 4 + 2), hfz (b * 4 + 3)⟩ : _ ∧ _ ∧ _ ∧ _)
    have hw1 : IntKind.i64.wrap ((b : Int) - 1) = (b : Int) - 1 := IntWalk.i64_in _ (by omega)
    have i1 : (0 : Int) ≤ (a : Int) := by omega
    have i2 : (a : Int) < (n : Int) := by omega
    have i3 : (0 : Int) ≤ (b : Int) := by omega
    have i4 : (b : Int) < (n : Int) := by omega
    have HZ := Lib.hid (And.intro hz han)
    clear hul hp ho hB hs hz han hfz hgl
    generalize (us.set a us[b]).set b us[a] = us2 at HFIN
    generalize us[a] = X at x0 x1 x2 x3 HFIN
    generalize us[b] = Y at y0 y1 y2 y3 HFIN
    clear ha hb
    go_upto_region 3 with fail
    go_region
    have hf := HFIN.out
    simp only [put4] at hf
    obtain ⟨o1, o2, o3, o4, o5⟩ := hf
    have p1 := o1.drew
    have p4 := o4.drew
    have HFF := Lib.hid (And.intro p1 (And.intro o2 (And.intro o3 (And.intro p4 o5))))
    clear o1 o2 o3 o4 o5 p1 p4 HFIN
    go_wp2_with fail
    go_roundw
    case rel => exact ⟨a + 1, (b : Int) - 1, us2, by go_num, rfl, by have := HZ.out; omega, by have := HZ.out; omega, HFF.out.2.1, HFF.out.2.2.1, HFF.out.1, HFF.out.2.2.2.1, HFF.out.2.2.2.1.size⟩
    case measure => simp [intOf]; omega
end
/-- What Reverse leaves. -/
def RevPost (H : Nat) (S : Nat → Prop) (w : World) (ts : List Tm) (v : Value) (e : Ending) (w' : World) : Prop := e = .returned (.tuple #[]) ∧ ∃ us : List Tm, us.Perm ts ∧ OwnT H S w' us v ∧ Below H w w' ∧ w.heap.size ≤ w'.heap.size
set_option maxHeartbeats 1600000 in
set_option maxRecDepth 100000 in
theorem reverse_zero (xa : Option Addr) (cap : Nat) (w : World) :
    Calls Tryz.prog 15 #[.slice xa 0 cap] w fun e w' => e = .returned (.tuple #[]) ∧ w' = w := by
  go_enter Tryz.func15, Tryz.ntmps15
  go_wp2_with fail
  go_loopw [2, 3] (fun s2 s3 wr => s2 = .int .i64 0 ∧ s3 = .int .i64 (-1) ∧ wr = w) (fun s2 _ _ => (intOf s2).toNat)
  case atStart => exact ⟨rfl, rfl, rfl⟩
  case round =>
    obtain ⟨rfl, rfl, rfl⟩ := hrel
    go_wp2_with fail
    go_end0
    exact ⟨rfl, rfl⟩
theorem reverse_any {H : Nat} {S : Nat → Prop} {ts : List Tm} {xa : Option Addr} {cap : Nat} {w : World} (hown : OwnT H S w ts (.slice xa ts.length cap)) (hS : ∀ b, S b → b < H) (hnl : ts.length ≤ 1048576) (hsz : ∀ t ∈ ts, size t ≤ 1073741824) :
    Calls Tryz.prog 15 #[.slice xa ts.length cap] w (RevPost H S w ts (.slice xa ts.length cap)) := by
  by_cases h0 : ts.length = 0
  · have hn : ts = [] := List.length_eq_zero_iff.1 h0
    subst hn
    refine (reverse_zero xa cap w).mono fun e w' h => ?_
    obtain ⟨rfl, rfl⟩ := h
    exact ⟨rfl, [], List.Perm.refl _, hown, Below.refl _ _, Nat.le_refl _⟩
  · obtain ⟨cs, ho, hK⟩ := hown
    obtain ⟨l, e1, e2⟩ := KC_TA ts cs hK hsz
    rcases id ho.2 with ⟨e, h⟩ | ⟨g, cap', _, e, _⟩
    · exact absurd h h0
    · simp only [Value.slice.injEq] at e
      obtain ⟨rfl, _, rfl⟩ := e
      have hl : l.length = ts.length := by rw [← e1, List.length_map]
      rw [e2] at ho
      refine (reverse_pos l ts.length hl (by omega) hnl ho).mono fun e w' h => ?_
      obtain ⟨rfl, us, h1, h2, h3, h4, h5⟩ := h
      have hp : (us.map TA.t).Perm ts := by rw [← e1]; exact h2.map _
      refine ⟨rfl, us.map TA.t, hp, ?_, h4, h5⟩
      refine ⟨us.flatMap encT, by rw [List.length_map, h1]; exact h3, TA_KC (fun b hb => h4.block b (hS b hb)) (fun _ h => h) us⟩
end Go.Proofs.YtfbomoginjknlaaGreatDoor
