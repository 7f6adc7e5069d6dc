/-
  THE WALK OF the reference's Spoil: only the blocks of the term's own rows are written.
-/
import Derived.Test.YthhhmjjgckkdhaaDoorShape
namespace Go.Proofs.YthhhmjjgckkdhaaDoor
open Go.RowKit

def SpPost (lo hi : Nat) (w : World) (e : Ending) (w' : World) : Prop :=
  e = .returned (.tuple #[]) ∧ Below lo w w' ∧ ∀ b, hi ≤ b → b < w.heap.size → w'.heap[b]? = w.heap[b]?

/-- What holds at the loop's head. -/
structure SpR (w : World) (lo hi : Nat) (c0 c1 c2 c3 : Value) (ks : List Tm) (kb j : Nat) (wr : World) : Prop where
  below : Below lo w wr
  high : ∀ b, hi ≤ b → b < w.heap.size → wr.heap[b]? = w.heap[b]?
  box : wr.heap[w.heap.size]? = some (.cells #[c0, c1, c2, c3] 24 (0, 0))
  snd : Sound wr kb
  row : ∃ m, kb + 1 ≤ m ∧ m ≤ hi ∧ ShL wr (ks.drop j) kb (j * 4) m hi

theorem heap_lt' {w : World} {b : Nat} {o : Obj} (h : w.heap[b]? = some o) : b < w.heap.size := (Array.getElem?_eq_some_iff.1 h).1
theorem SpR.next {w wr w3 : World} {lo hi : Nat} {c0 c1 c2 c3 : Value} {ks : List Tm} {kb j m m2 : Nat} (h : SpR w lo hi c0 c1 c2 c3 ks kb j wr) (hlk : lo ≤ kb) (hhi : hi ≤ w.heap.size) (hm : kb + 1 ≤ m) (hm2 : m ≤ m2) (hmh : m2 ≤ hi) (hR : ShL wr (ks.drop (j + 1)) kb (j * 4 + 4) m2 hi)
    (hB : Below m wr w3) (hh : ∀ b, m2 ≤ b → b < wr.heap.size → w3.heap[b]? = wr.heap[b]?) (s1 s2 : Value) : SpR w lo hi c0 c1 c2 c3 ks kb (j + 1) ((w3.setCell ⟨kb, j * 4 + 1, none⟩ s1).setCell ⟨kb, j * 4, none⟩ s2) := by
  have hws := h.below.size
  have hbl := heap_lt' h.box
  have hset : ∀ b, b ≠ kb → ((w3.setCell ⟨kb, j * 4 + 1, none⟩ s1).setCell ⟨kb, j * 4, none⟩ s2).heap[b]? = w3.heap[b]? := fun b hb => by
    rw [Below.heap_setCell _ _ _ _ hb, Below.heap_setCell _ _ _ _ hb]
  refine ⟨((h.below.trans (hB.mono (by omega))).setCell (p := ⟨kb, j * 4 + 1, none⟩) hlk s1).setCell (p := ⟨kb, j * 4, none⟩) hlk s2, fun b hb hb2 => ?_, ?_, Sound_set (Sound_set ?_ _ _) _ _, m2, by omega, hmh, ?_⟩
  · rw [hset b (by omega), hh b (by omega) (by omega)]; exact h.high b hb hb2
  · rw [hset _ (by omega), hh _ (by omega) (by omega)]; exact h.box
  · obtain ⟨cs, hs⟩ := h.snd
    exact ⟨cs, by rw [hB.block kb (by omega)]; exact hs⟩
  · have e : (j + 1) * 4 = j * 4 + 4 := by omega
    rw [e]
    refine ShL_carry _ _ _ _ _ (fun x hx hx2 => by rw [hset x (by omega)]; exact hh x hx (by omega)) (fun q c hq hc => ?_) hR
    rw [setOther (fun e => by simp only [Addr.mk.injEq, and_true, true_and] at e; omega), setOther (fun e => by simp only [Addr.mk.injEq, and_true, true_and] at e; omega), hB.cell (by simp only; omega)]
    exact hc

set_option maxHeartbeats 1600000 in
set_option maxRecDepth 100000 in
theorem spoil_any (m : Nat) : ∀ (t : Tm) (c0 c1 c2 c3 : Value) (lo hi : Nat) (w : World), size t ≤ m → m ≤ 1073741824 → ShT w t lo hi c3 → lo ≤ hi → hi ≤ w.heap.size →
    Calls Tryd.prog 45 #[.agg #[c0, c1, c2, c3]] w (SpPost lo hi w) := by
  induction m with
  | zero => intro t c0 c1 c2 c3 lo hi w h; have := size_pos t; omega
  | succ m ih =>
    intro t c0 c1 c2 c3 lo hi w hm hM hS hlh hhw
    obtain ⟨k, n, s, ks⟩ := t
    have hsk : size (.mk k n s ks) = 1 + sizes ks := rfl
    rw [hsk] at hm
    simp only [ShT] at hS
    obtain ⟨hkl, xa, cap, rfl, hcap, hrow⟩ := hS
    unfold maxLen at hkl
    have hbox : (w.alloc (.cells #[c0, c1, c2, .slice xa ks.length cap] 24)).heap[w.heap.size]? = some (.cells #[c0, c1, c2, .slice xa ks.length cap] 24 (0, 0)) := heap_alloc_new w _
    have hB0 : Below lo w (w.alloc (.cells #[c0, c1, c2, .slice xa ks.length cap] 24)) := (Below.refl _ _).alloc (by omega) _
    have HA : Hid (∀ b, b < w.heap.size → (w.alloc (.cells #[c0, c1, c2, .slice xa ks.length cap] 24)).heap[b]? = w.heap[b]?) := fun b hb => Below.heap_alloc _ _ _ hb
    by_cases h0 : ks.length = 0
    · have HF : Hid (∀ W, W = w.alloc (.cells #[c0, c1, c2, .slice xa ks.length cap] 24) → SpPost lo hi w (.returned (.tuple #[])) W) := fun W hW => by
        subst hW; exact ⟨rfl, hB0, fun b _ hb2 => HA.out b hb2⟩
      obtain ⟨⟨y0, y1, y2, y3⟩, _⟩ := box_facts hbox
      have hz : ¬ (0 : Int) < (ks.length : Int) := by omega
      clear hbox hB0 hrow h0
      go_enter Tryd.func45, Tryd.ntmps45
      go_wp2_with fail
      go_loopw [2] (fun i wr => i = .int .i64 0 ∧ wr = w.alloc (.cells #[c0, c1, c2, .slice xa ks.length cap] 24)) (fun _ _ => 0)
      case atStart => exact ⟨rfl, rfl⟩
      case round =>
        obtain ⟨rfl, rfl⟩ := hrel
        go_wp2_with fail
        refine bodyPost_ret (results_none rfl _ _ _) rfl ?_
        exact HF.out _ rfl
    rcases hrow with h | ⟨kb, rfl, hlk, hkh, hsd, hR⟩
    · exact absurd h h0
    have hSnd : Sound (w.alloc (.cells #[c0, c1, c2, .slice (some ⟨kb, 0, none⟩) ks.length cap] 24)) kb := by
      obtain ⟨cs, hs⟩ := hsd
      exact ⟨cs, by rw [HA.out kb (by omega)]; exact hs⟩
    have HS0 : Hid (SpR w lo hi c0 c1 c2 (.slice (some ⟨kb, 0, none⟩) ks.length cap) ks kb 0 (w.alloc (.cells #[c0, c1, c2, .slice (some ⟨kb, 0, none⟩) ks.length cap] 24))) := Lib.hid ⟨hB0, fun b _ hb2 => HA.out b hb2, hbox, hSnd, kb + 1, Nat.le_refl _, by omega,
      ShL_carry ks kb 0 (kb + 1) hi (fun x _ hx2 => HA.out x (by omega)) (fun q c _ hc => keep_alloc _ _ _ _ hc) hR⟩
    clear hbox hB0 hSnd hsd hR hsk
    go_enter Tryd.func45, Tryd.ntmps45
    go_wp2_with fail
    go_loopw [2] (fun i wr => ∃ j : Nat, j ≤ ks.length ∧ i = .int .i64 j ∧ SpR w lo hi c0 c1 c2 (.slice (some ⟨kb, 0, none⟩) ks.length cap) ks kb j wr) (fun i _ => ks.length - (intOf i).toNat)
    case atStart => exact ⟨0, Nat.zero_le _, rfl, HS0.out⟩
    case round =>
      obtain ⟨j, hj, rfl, hP⟩ := hrel
      obtain ⟨⟨y0, y1, y2, y3⟩, _⟩ := box_facts hP.box
      have HP := Lib.hid hP
      by_cases hlt : j < ks.length
      rotate_left
      · clear hP
        go_wp2_with fail
        refine bodyPost_ret (results_none rfl _ _ _) rfl ?_
        exact ⟨rfl, HP.out.below, HP.out.high⟩
      obtain ⟨mm, hm1, hm2, hrw⟩ := hP.row
      rw [List.drop_eq_getElem_cons hlt] at hrw
      simp only [ShL] at hrw
      obtain ⟨m2, hm3, hm4, ⟨x0, x1, x2, x3, g0, g1, g2, g3, hT⟩, hrest⟩ := hrw
      have hbl := heap_lt' hP.box
      have hws := hP.below.size
      have hsz : size ks[j] ≤ sizes ks := size_le_sizes (List.getElem_mem hlt)
      have HIH := Lib.hid (ih ks[j] (.int .i64 x0) (.string x1) (.int .i64 x2) x3 mm m2 wr (by omega) (by omega) hT hm3 (by omega))
      have HRS := Lib.hid hrest
      have HSD := Lib.hid hP.snd
      have i1 : (0 : Int) ≤ (j : Int) := by omega
      have i2 : (j : Int) < (ks.length : Int) := by omega
      have nb1 : ¬ kb = w.heap.size := by omega
      have nb2 : ¬ w.heap.size = kb := by omega
      clear hP hT hrest hsz ih
      go_wp2_with (go_at_call 45; refine (HIH.out).mono ?_; rintro e w3 ⟨he, hB, hh⟩; subst he; have HN := Lib.hid (HP.out.next hlk hhw hm1 hm3 hm4 HRS.out hB hh (.string ⟨#[115, 112, 111, 105, 108, 101, 100]⟩) (.int .i64 9)); have hbx : w3.heap[w.heap.size]? = some (.cells #[c0, c1, c2, .slice (some ⟨kb, 0, none⟩) ks.length cap] 24 (0, 0)) := (by rw [hh _ (by omega) hbl]; exact HP.out.box); obtain ⟨⟨z0, z1, z2, z3⟩, _⟩ := box_facts hbx; have q0 := (hB.cell (p := ⟨kb, j * 4, none⟩) (by simp only; omega)).trans g0; have q1 := (hB.cell (p := ⟨kb, j * 4 + 1, none⟩) (by simp only; omega)).trans g1; have hs3 : Sound w3 kb := (by obtain ⟨cs, hs⟩ := HSD.out; exact ⟨cs, by rw [hB.block kb (by omega)]; exact hs⟩); have v0 := hs3.free (j * 4); have v1 := hs3.free (j * 4 + 1); clear hB hh hbx hs3)
      go_roundw
      case rel => exact ⟨j + 1, by omega, by go_num, HN.out⟩
      case measure => simp [intOf]; omega

end Go.Proofs.YthhhmjjgckkdhaaDoor
