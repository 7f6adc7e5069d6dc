/-
  THE WALK OF next.
-/
import Derived.Test.YtkdnfioihhfmpaaGreatDoorEndb
namespace Go.Proofs.YtkdnfioihhfmpaaGreatDoor
open Go.RowKit

/-- What next does, of the state: whether it is right, what remains, the stack, whether a limit is exceeded, the root; 'nodes' counts this node already. -/
def nextP (st : List (ByteArray × List Tm)) (rest : ByteArray) (nodes : Int) (large : Bool) : Bool × ByteArray × List (ByteArray × List Tm) × Bool × Option Tm :=
  if (nodeP rest).2.2.2.1 = false then (false, (nodeP rest).2.2.2.2, st, large, none)
  else if (nodeP rest).1 = 3 ∧ preB (nodeP rest).2.2.2.2 bClose = false then (true, (nodeP rest).2.2.2.2, ((nodeP rest).2.1, []) :: st, large || decide (400 < nodes) || decide (40 ≤ st.length), none)
  else endP st (if (nodeP rest).1 = 3 then takeB (nodeP rest).2.2.2.2 bClose else (nodeP rest).2.2.2.2) (large || decide (400 < nodes) || decide (40 ≤ st.length)) (.mk (nodeP rest).1 (nodeP rest).2.1 (nodeP rest).2.2.1 [])

def NextPost (base pb M : Nat) (nodes : Int) (whole : Bool) (r0 r1 r2 r3 : Value) (n : Nat) (F : Nat → Prop) (w : World) (R : Bool × ByteArray × List (ByteArray × List Tm) × Bool × Option Tm) (e : Ending) (w' : World) : Prop :=
  e = .returned (.bool R.1) ∧ ∃ (fr' : List Fr) (ov' : Value) (F' : Nat → Prop) (nodes' : Int),
    (match R.2.2.2.2 with
      | none => ST w' base pb R.2.1 ov' nodes' R.2.2.2.1 whole r0 r1 r2 r3 fr' F'
      | some u => ∃ s0 s1 s2 s3, ST w' base pb R.2.1 ov' nodes' R.2.2.2.1 true s0 s1 s2 s3 fr' F' ∧ IsIn (Fb base F') w' u s0 s1 s2 s3) ∧
    pst fr' = R.2.2.1 ∧ (∀ b, F b → F' b) ∧ Keeps F w w' ∧ (∀ f ∈ fr', f.ks.length ≤ M) ∧ fr'.length ≤ n + 1 ∧ (R.1 = true → nodes' = nodes)

theorem end_next {base pb M : Nat} {nodes : Int} {whole : Bool} {r0 r1 r2 r3 : Value} {fr : List Fr} {F : Nat → Prop} {w wd : World} {R : Bool × ByteArray × List (ByteArray × List Tm) × Bool × Option Tm} {e : Ending} {w' : World}
    (h : EndPost base pb M nodes whole r0 r1 r2 r3 fr F wd R e w') (hK : Keeps F w wd) : NextPost base pb M nodes whole r0 r1 r2 r3 fr.length F w R e w' := by
  obtain ⟨he, fr', ov', F', h1, h2, h3, h4, h5, h6⟩ := h
  exact ⟨he, fr', ov', F', nodes, h1, h2, h3, hK.trans h4, h5, by omega, fun _ => rfl⟩
theorem IsIn_leaf {S : Nat → Prop} {w : World} {k s : Int} {nm : ByteArray} (h1 : 0 ≤ k ∧ k ≤ 3) (h2 : 0 ≤ s ∧ s ≤ 6) (h3 : nm.size ≤ maxLen) : IsIn S w (.mk k nm s []) (.int .i64 k) (.string nm) (.int .i64 s) (.slice none 0 0) := by
  simp only [IsIn]
  exact ⟨trivial, trivial, trivial, by omega, by omega, h3, by simp, none, 0, rfl, by simp, by simp [RowIn]⟩

theorem pst_length (l : List Fr) : (pst l).length = l.length := by simp [pst]

theorem sortP_range (rest : ByteArray) : ∀ (l : List ByteArray) (i : Int), 0 ≤ i → 0 ≤ (sortP rest i l).1 ∧ (sortP rest i l).1 ≤ i + l.length
  | [], i, h => by simp only [sortP, List.length_nil]; omega
  | p :: ps, i, h => by
    simp only [sortP]
    split
    · simp only [List.length_cons]; omega
    · have := sortP_range rest ps (i + 1) (by omega)
      simp only [List.length_cons]; omega
theorem vsortP_range (rest : ByteArray) : 0 ≤ (vsortP rest).1 ∧ (vsortP rest).1 ≤ 6 := by
  unfold vsortP
  split
  · have := sortP_range (takeB rest bColon) sortW 0 (by omega); simp only [sortW, List.length_cons, List.length_nil] at this ⊢; omega
  · simp
theorem nodeP_app (rest : ByteArray) (h : (nodeP rest).1 = 3) : (nodeP rest).2.2.1 = 0 := by
  unfold nodeP at h ⊢
  split at h
  · simp at h
  · split at h
    · simp at h
    · split at h
      · simp_all
      · split at h
        · simp at h
        · simp at h

def PushRel (wr : World) (base pb : Nat) (rest : ByteArray) (nodes : Int) (large whole : Bool) (r0 r1 r2 r3 : Value) (nm : ByteArray) (r : List Fr) (F : Nat → Prop) (wc : World) : Prop :=
  ∃ ov, ST wc base pb rest ov nodes large whole r0 r1 r2 r3 (⟨nm, [], .slice none 0 0⟩ :: r) F ∧ Keeps F wr wc

theorem push_close {wr w1 : World} {base pb : Nat} {rest : ByteArray} {ov : Value} {gg cap : Nat} {nodes : Int} {large whole : Bool} {r0 r1 r2 r3 : Value} {nm : ByteArray} {r : List Fr} {F : Nat → Prop} {zs : List Value} {o : Obj}
    (hst : ST wr base pb rest ov nodes large whole r0 r1 r2 r3 r F) (hn : nm.size ≤ maxLen) (hz : zs.length = 4)
    (hown : w1.ownsRow base 41 4 (.slice (some ⟨gg, 0, none⟩) (r.length + 1) cap) (r.length + 1) (flat r ++ zs)) (hg : (wr.alloc o).drew.grownBy w1 ov.ownBlock) (hat : ov.ownBlock = some gg ∨ gg = wr.heap.size + 1) :
    PushRel wr base pb rest nodes large whole r0 r1 r2 r3 nm r F (pushW w1 pb gg r.length cap (.int .i64 3) (.string nm) (.int .i64 0) (.slice none 0 0)) := by
  have hg' : wr.grownBy w1 ov.ownBlock := ⟨hg.os, hg.tape, hg.output, by have h1 := hg.size; have h2 : (wr.alloc o).drew.heap.size = wr.heap.size + 1 := World.size_alloc ..; omega, fun k hk hne => by
    have h2 : (wr.alloc o).drew.heap.size = wr.heap.size + 1 := World.size_alloc ..
    rw [hg.block k (by omega) hne]
    exact Below.heap_alloc wr o k hk⟩
  have h := hst.push hn hz hown hg' (hat.imp id (fun e => by omega))
  exact ⟨_, h.1, h.2.1⟩
theorem push_close1 {w1 : World} {gg pb n cap : Nat} {c0 c1 c2 c3 : Value} :
    ((((w1.setCell ⟨gg, n * 4, none⟩ c0).setCell ⟨gg, n * 4 + 1, none⟩ c1).setCell ⟨gg, n * 4 + 2, none⟩ c2).setCell ⟨gg, n * 4 + 3, none⟩ c3).setCell ⟨pb, 1, none⟩ (.slice (some ⟨gg, 0, none⟩) (n + 1) cap) = pushW w1 pb gg n cap c0 c1 c2 c3 := rfl
theorem push_close2 {w1 : World} {gg pb n cap : Nat} {c0 c1 c2 c3 : Value} (h : gg ≠ pb) :
    ((((w1.setCell ⟨pb, 1, none⟩ (.slice (some ⟨gg, 0, none⟩) (n + 1) cap)).setCell ⟨gg, n * 4, none⟩ c0).setCell ⟨gg, n * 4 + 1, none⟩ c1).setCell ⟨gg, n * 4 + 2, none⟩ c2).setCell ⟨gg, n * 4 + 3, none⟩ c3 = pushW w1 pb gg n cap c0 c1 c2 c3 := by
  unfold pushW put4
  rw [setCell_comm _ ⟨pb, 1, none⟩ ⟨gg, n * 4, none⟩ _ _ (fun e => h e.symm), setCell_comm _ ⟨pb, 1, none⟩ ⟨gg, n * 4 + 1, none⟩ _ _ (fun e => h e.symm),
    setCell_comm _ ⟨pb, 1, none⟩ ⟨gg, n * 4 + 2, none⟩ _ _ (fun e => h e.symm), setCell_comm _ ⟨pb, 1, none⟩ ⟨gg, n * 4 + 3, none⟩ _ _ (fun e => h e.symm)]

theorem nodeP_range (rest : ByteArray) : 0 ≤ (nodeP rest).1 ∧ (nodeP rest).1 ≤ 3 ∧ 0 ≤ (nodeP rest).2.2.1 ∧ (nodeP rest).2.2.1 ≤ 6 ∧ (nodeP rest).2.1.size ≤ rest.size := by
  have h1 : (nodeName rest).size ≤ rest.size := by
    unfold nodeName
    rw [ByteArray.size_extract]
    have := takeB_size rest bQ; omega
  have h2 : (ByteArray.empty : ByteArray).size = 0 := rfl
  have h3 := vsortP_range (nodeRest rest)
  have h4 := sortP_range (takeB (nodeRest rest) bColon) sortW 0 (by omega)
  have h5 : (sortW.length : Int) = 6 := rfl
  rw [h5] at h4
  unfold nodeP
  split
  · simp only; omega
  · split
    · simp only; omega
    · split
      · simp only; omega
      · split
        · simp only; omega
        · simp only; omega

set_option maxHeartbeats 3200000 in
set_option maxRecDepth 100000 in
theorem next_any (base pb M : Nat) (rest : ByteArray) (ov : Value) (nodes : Int) (large whole : Bool) (r0 r1 r2 r3 : Value) (fr : List Fr) (F : Nat → Prop) (w : World)
    (h : ST w base pb rest ov nodes large whole r0 r1 r2 r3 fr F) (hL : Laid w) (hLF : F 0) (hsz : rest.size ≤ maxLen) (hM : M ≤ 1099511627776) (hn : 0 ≤ nodes) (hn2 : nodes < M) (hk : ∀ f ∈ fr, f.ks.length + 1 ≤ M) (hfr : fr.length + 1 ≤ M) :
    Calls Tryz.prog 96 #[.pointer (some ⟨pb, 0, none⟩)] w (NextPost base pb M (nodes + 1) whole r0 r1 r2 r3 fr.length F w (nextP (pst fr) rest (nodes + 1) large)) := by
  have hne : pb ≠ 0 := fun e => (h.fF _ hLF).2.1 e.symm
  have HN := Lib.hid (node_any pb rest ov nodes large whole r0 r1 r2 r3 w h.ps hL hne hsz)
  generalize hR : nextP (pst fr) rest (nodes + 1) large = R
  have hRd := hR
  simp only [nextP] at hRd
  have hrg := nodeP_range rest
  have hs0 := nodeP_app rest
  generalize hq : nodeP rest = q at *
  obtain ⟨k, nm, s, ok, rr⟩ := q
  simp only at HN hRd hrg hs0
  have HS0 := Lib.hid hs0
  clear hs0
  obtain ⟨xa, cap, rfl⟩ := own_form h.own
  cases ok with
  | false =>
    simp only [if_true] at hRd
    have HRd := Lib.hid hRd
    have HX := Lib.hid h
    have HK := Lib.hid hk
    clear hRd hR h hq hk
    go_enter Tryz.func96, Tryz.ntmps96
    go_wp2_with (go_at_call 127; refine (HN.out).mono ?_; rintro e w2 ⟨rfl, hP2, hB2⟩)
    go_ret
    obtain ⟨hs1, hs2⟩ := HX.out.field hP2 hB2
    have hb := (Below.refl w2.heap.size w2).alloc (Nat.le_refl _) (.cells #[.int .i64 k, .string nm, .int .i64 s, .slice none 0 0] 41)
    rw [← HRd.out]
    refine ⟨rfl, fr, _, F, nodes, hs1.below hb, rfl, fun _ h => h, hs2.trans ⟨hb.os, hb.tape, hb.output, hb.size, fun b hb' => hb.block b (hs1.fF b hb').1⟩, fun f hf => by have := HK.out f hf; omega, Nat.le_succ _, fun h => by simp at h⟩
  | true =>
    rw [if_neg (by simp)] at hRd
    have HRd := Lib.hid hRd
    have HX := Lib.hid h
    have HK := Lib.hid hk
    have HRG := Lib.hid hrg
    have hw0 : nodes + 1 ≤ 1099511627777 := by omega
    clear hRd hR h hq hk hrg
    go_enter Tryz.func96, Tryz.ntmps96
    go_upto_region 5 with (go_at_call 127; refine (HN.out).mono ?_; rintro e w2 ⟨rfl, hP2, hB2⟩; have hf2 := HX.out.field hP2 hB2; have hst3 := hf2.1.below ((Below.refl w2.heap.size w2).alloc (Nat.le_refl _) (.cells #[.int .i64 k, .string nm, .int .i64 s, .slice none 0 0] 41)); have a2 := hst3.ps.cells.2.2.1; have b2 := hst3.ps.free 2; have HF2 := Lib.hid (And.intro hf2 hst3); clear hf2 hst3 hP2)
    obtain ⟨hs3, hs4⟩ := HF2.out.2.field (HF2.out.2.ps.nodes_ (nodes + 1)) ((But.refl pb _).setCell 2 (.int .i64 (nodes + 1)))
    have hbx : ((w2.alloc (.cells #[.int .i64 k, .string nm, .int .i64 s, .slice none 0 0] 41)).setCell ⟨pb, 2, none⟩ (.int .i64 (nodes + 1))).heap[w2.heap.size]? = some (.cells #[.int .i64 k, .string nm, .int .i64 s, .slice none 0 0] 41 (0, 0)) := by
      rw [Below.heap_setCell _ _ _ _ (by have := HF2.out.1.1.ps.lt; simp only; omega), heap_alloc_new]
    have hK3 : Keeps F w ((w2.alloc (.cells #[.int .i64 k, .string nm, .int .i64 s, .slice none 0 0] 41)).setCell ⟨pb, 2, none⟩ (.int .i64 (nodes + 1))) :=
      (HF2.out.1.2.trans (show Keeps F w2 (w2.alloc (.cells #[.int .i64 k, .string nm, .int .i64 s, .slice none 0 0] 41)) from ⟨rfl, rfl, rfl, by simp, fun b hb => Below.heap_alloc _ _ _ (HF2.out.1.1.fF b hb).1⟩)).trans hs4
    have hapt : Apart pb (.slice xa fr.length cap) fr F w2.heap.size := by
      refine ⟨?_, ?_, ?_, ?_⟩
      · have := HF2.out.1.1.ps.lt; omega
      · intro e; have := (HF2.out.1.1.own.lt _ e).2; omega
      · intro f hf e; have := (Stk_kv_lt HF2.out.1.1.stk f hf _ e).2; omega
      · intro e; have := (HF2.out.1.1.fF _ e).1; omega
    generalize ((w2.alloc (.cells #[.int .i64 k, .string nm, .int .i64 s, .slice none 0 0] 41)).setCell ⟨pb, 2, none⟩ (.int .i64 (nodes + 1))) = w3 at *
    generalize w2.heap.size = tb at *
    have HS := Lib.hid (And.intro hs3 (And.intro hbx (And.intro hK3 hapt)))
    have c1 := hs3.ps.cells.2.1
    have c2 := hs3.ps.cells.2.2.1
    clear hs3 hs4 hbx hK3 hapt HF2 a2 b2 hB2 HN
    have hfi : (fr.length : Int) + 1 ≤ 1099511627776 := by omega
    go_cut [31] (fun b wd => b = .bool (decide (400 < nodes + 1) || decide (40 ≤ (fr.length : Int))) ∧ wd = w3)
    case first =>
      by_cases h4 : 400 < nodes + 1
      · go_wp2_with fail
        go_meet
        exact ⟨by simp [h4], rfl⟩
      · go_wp2_with fail
        go_meet
        exact ⟨by simp; omega, rfl⟩
    case rest =>
      obtain ⟨rfl, rfl⟩ := hcut
      generalize hlb : (decide (400 < nodes + 1) || decide (40 ≤ (fr.length : Int))) = lb
      have hlg : (large || decide (400 < nodes + 1) || decide (40 ≤ (pst fr).length)) = (large || lb) := by
        rw [← hlb, pst_length, Bool.or_assoc]
        congr 2
        simp; omega
      rw [hlg] at HRd
      clear c1 c2 hlg
      have g3 := HS.out.1.ps.cells.2.2.2.1
      have gf := HS.out.1.ps.free 3
      have htbpb := HS.out.2.2.2.1
      go_upto_if 31 with (fail)
      go_cut [] (fun we => ST we base pb rr (.slice xa fr.length cap) (nodes + 1) (large || lb) whole r0 r1 r2 r3 fr F ∧ we.heap[tb]? = some (.cells #[.int .i64 k, .string nm, .int .i64 s, .slice none 0 0] 41 (0, 0)) ∧ Keeps F w we)
      case first =>
        cases lb with
        | true =>
          go_wp2_with fail
          go_meet
          obtain ⟨hs1, hs2⟩ := HS.out.1.field (HS.out.1.ps.large_ true) ((But.refl _ _).setCell _ _)
          exact ⟨by simpa using hs1, (Below.heap_setCell _ _ _ _ htbpb).trans HS.out.2.1, HS.out.2.2.1.trans hs2⟩
        | false =>
          go_wp2_with fail
          go_meet
          exact ⟨by simpa using HS.out.1, HS.out.2.1, HS.out.2.2.1⟩
      case rest =>
        obtain ⟨hst, hbx, hK4⟩ := hcut
        obtain ⟨e0, e1, e2, e3, _⟩ := cells_of_block4 hbx
        generalize hlg2 : (large || lb) = lg at *
        have HS2 := Lib.hid (And.intro hst (And.intro hbx hK4))
        have HT := Lib.hid (take_any pb rr bClose _ (nodes + 1) lg whole r0 r1 r2 r3 _ hst.ps)
        clear hst hbx hK4 hlg2 g3 gf
        by_cases hk3 : k = 3
        rotate_left
        · have hkb : (k == 3) = false := by simp [hk3]
          have hRe := HRd.out
          rw [if_neg (fun e => hk3 e.1), if_neg hk3] at hRe
          have HRe := Lib.hid hRe
          clear hRe hk3 HT
          have HE := Lib.hid (end_any base pb M rr _ (nodes + 1) lg whole r0 r1 r2 r3 fr F (.mk k nm s []) _ _ _ _ wc HS2.out.1 (IsIn_leaf (by have := HRG.out; omega) (by have := HRG.out; omega) (by have := HRG.out; omega)) hM HK.out (by omega))
          rw [HRe.out] at HE
          go_wp2_with (go_at_call 129; refine (HE.out).mono ?_; rintro e w5 hEP; have hEN := end_next hEP HS2.out.2.2; obtain ⟨he, hrest⟩ := hEP; subst he; have HEN := Lib.hid hEN; clear hEN hrest)
          go_ret
          exact HEN.out
        · subst hk3
          have hs0 : s = 0 := HS0.out rfl
          subst hs0
          by_cases hcl : preB rr bClose = true
          · have hRe := HRd.out
            rw [if_neg (fun e => by rw [hcl] at e; simp at e), if_pos rfl] at hRe
            rw [hcl] at HT
            have HRe := Lib.hid hRe
            have HE := Lib.hid (end_any base pb M (takeB rr bClose) (.slice xa fr.length cap) (nodes + 1) lg whole r0 r1 r2 r3 fr F (.mk 3 nm 0 []) (.int .i64 3) (.string nm) (.int .i64 0) (.slice none 0 0))
            rw [HRe.out] at HE
            clear hRe hcl
            go_wp2_with (first
              | (go_at_call 128; refine (HT.out).mono ?_; rintro e w5 ⟨rfl, hP5, hB5⟩;
                 have hf5 := HS2.out.1.field hP5 hB5; have hb5 : w5.heap[tb]? = some (.cells #[.int .i64 3, .string nm, .int .i64 0, .slice none 0 0] 41 (0, 0)) := (hB5.block tb (Array.getElem?_eq_some_iff.1 HS2.out.2.1).1 (by simpa using htbpb)).trans HS2.out.2.1;
                 have hc5 := cells_of_block4 hb5; have d0 := hc5.1; have d1 := hc5.2.1; have d2 := hc5.2.2.1; have d3 := hc5.2.2.2.1; have HF5 := Lib.hid hf5; clear hf5 hb5 hc5)
              | (go_at_call 129; refine (HE.out _ HF5.out.1 (IsIn_leaf (by omega) (by omega) (by have := HRG.out; omega)) hM HK.out (by omega)).mono ?_; rintro e w6 hEP; have hEN := end_next hEP (HS2.out.2.2.trans HF5.out.2); obtain ⟨he, hrest⟩ := hEP; subst he; have HEN := Lib.hid hEN; clear hEN hrest))
            go_ret
            exact HEN.out
          · have hcl' : preB rr bClose = false := by simpa using hcl
            have htc : takeB rr bClose = rr := by simp [takeB, hcl']
            have hRe := HRd.out
            rw [if_pos ⟨rfl, hcl'⟩] at hRe
            rw [hcl', htc] at HT
            have HRe := Lib.hid hRe
            clear hRe hcl hcl' htc
            go_upto_region 8 with (go_at_call 128; refine (HT.out).mono ?_; rintro e w5 ⟨rfl, hP5, hB5⟩; have hf5 := HS2.out.1.field hP5 hB5; have hb5 : w5.heap[tb]? = some (.cells #[.int .i64 3, .string nm, .int .i64 0, .slice none 0 0] 41 (0, 0)) := (hB5.block tb (Array.getElem?_eq_some_iff.1 HS2.out.2.1).1 (by simpa using htbpb)).trans HS2.out.2.1; have hc5 := cells_of_block4 hb5; have d0 := hc5.1; have d1 := hc5.2.1; have d2 := hc5.2.2.1; have d3 := hc5.2.2.2.1; have HF5 := Lib.hid (And.intro hf5 hb5); clear hf5 hb5 hc5)
            have HO := Lib.hid HF5.out.1.1.own
            have HFl : Hid ((flat fr).length = fr.length * 4) := flat_length fr
            have ovc := HF5.out.1.1.ps.cells.2.1
            have ovf := HF5.out.1.1.ps.free 1
            have hbase : base ≤ w5.heap.size := Nat.le_trans HF5.out.1.1.pbase (Nat.le_of_lt HF5.out.1.1.ps.lt)
            have hpl : pb < w5.heap.size := HF5.out.1.1.ps.lt
            have htl : tb < w5.heap.size := (Array.getElem?_eq_some_iff.1 HF5.out.2).1
            have hkp : (Value.slice xa fr.length cap).ownBlock ≠ some pb := HF5.out.1.1.ovp
            have hkt : (Value.slice xa fr.length cap).ownBlock ≠ some tb := HS.out.2.2.2.2.1
            obtain ⟨i0, hi0, hz0, hz1, hz2⟩ := info_parts info24
            have HI0 := Lib.hid (And.intro hi0 (And.intro hz0 (And.intro hz1 hz2)))
            clear hi0 hz0 hz1 hz2
            have k0 : (0 : Int) ≤ (fr.length : Int) := by omega
            have k1 : (fr.length : Int) < (fr.length : Int) + 1 := by omega
            go_cut [] (fun wc => PushRel w5 base pb rr (nodes + 1) lg whole r0 r1 r2 r3 nm fr F wc)
            case first =>
              have hkc : ∀ (gg cap' : Nat) (w1 : World), w1.ownsRow base 41 4 (.slice (some ⟨gg, 0, none⟩) (fr.length + 1) cap') (fr.length + 1) (flat fr ++ [.int .i64 0, .string ⟨#[]⟩, .int .i64 0, .slice none 0 0]) → (w5.alloc (.cells #[.int .i64 0, .string ⟨#[]⟩, .int .i64 0, .slice none 0 0] 41)).drew.grownBy w1 (Value.slice xa fr.length cap).ownBlock →
                  ((Value.slice xa fr.length cap).ownBlock = some gg ∨ gg = w5.heap.size + 1) → PushRel w5 base pb rr (nodes + 1) lg whole r0 r1 r2 r3 nm fr F (pushW w1 pb gg fr.length cap' (.int .i64 3) (.string nm) (.int .i64 0) (.slice none 0 0)) :=
                fun gg cap' w1 hown1 hgrow hat => push_close HF5.out.1.1 (by have := HRG.out; omega) rfl hown1 hgrow hat
              have HKC := Lib.hid hkc
              clear hkc
              have HE := Lib.hid (And.intro ovc (And.intro d0 (And.intro d1 (And.intro d2 d3))))
              go_region_law ((refine step_append_lies _ (by rfl) _ _ _ (by rfl) base 41 i0 _ 4 56 Tryz.underlying23 HI0.out.1 HI0.out.2.1 HI0.out.2.2.1 HI0.out.2.2.2 rfl (by omega) (.slice xa fr.length cap) fr.length (flat fr) (by rfl) ((HO.out.alloc _).drew) ⟨w5.heap.size, 0, none⟩ 1 1 [.int .i64 0, .string ⟨#[]⟩, .int .i64 0, .slice none 0 0] (by rfl) (by rfl) (World.news_of_block (cs := #[.int .i64 0, .string ⟨#[]⟩, .int .i64 0, .slice none 0 0]) (t := 41) (fr := (0, 0)) (heap_alloc_new w5 _)) (by simp [Value.oneCell']) (by omega) (by unfold maxLen; omega) (by omega) (by simp; omega) (w5.heap.size + 1) (by simp) ?_; intro gg cap' w1 hown1 hgrow hat hlt; have q0 := row_new hown1 HFl.out; have qf := hown1.frozenAt (fr.length * 4); have qf1 := hown1.frozenAt (fr.length * 4 + 1); have qf2 := hown1.frozenAt (fr.length * 4 + 2); have qf3 := hown1.frozenAt (fr.length * 4 + 3); have n1 : ¬ pb = gg := (by rintro rfl; rcases hat with e | e; exact hkp e; omega); have n2 : ¬ gg = pb := fun e => n1 e.symm; have n3 : ¬ tb = gg := (by rintro e'; rcases hat with e | e; exact hkt (by rw [e, ← e']); omega); have n4 : ¬ gg = tb := fun e => n3 e.symm; have z1 : w1.frozen? ⟨pb, 1, none⟩ = false := (by rw [hgrow.frozen_far _ (by simp; omega) (fun e => hkp e.symm)]; exact (Below.frozen (p := ⟨pb, 1, none⟩) ((Below.refl w5.heap.size w5).alloc (Nat.le_refl _) _) hpl).trans ovf); have z0 : w1.cell? ⟨pb, 1, none⟩ = some (.slice xa fr.length cap) := (by rw [hgrow.cell_far _ (by simp; omega) (fun e => hkp e.symm)]; exact keep_alloc w5 _ _ _ HE.out.1); have y0 : w1.cell? ⟨tb, 0, none⟩ = some (.int .i64 3) := (by rw [hgrow.cell_far _ (by simp; omega) (fun e => hkt e.symm)]; exact keep_alloc w5 _ _ _ HE.out.2.1); have y1 : w1.cell? ⟨tb, 1, none⟩ = some (.string nm) := (by rw [hgrow.cell_far _ (by simp; omega) (fun e => hkt e.symm)]; exact keep_alloc w5 _ _ _ HE.out.2.2.1); have y2 : w1.cell? ⟨tb, 2, none⟩ = some (.int .i64 0) := (by rw [hgrow.cell_far _ (by simp; omega) (fun e => hkt e.symm)]; exact keep_alloc w5 _ _ _ HE.out.2.2.2.1); have y3 : w1.cell? ⟨tb, 3, none⟩ = some (.slice none 0 0) := (by rw [hgrow.cell_far _ (by simp; omega) (fun e => hkt e.symm)]; exact keep_alloc w5 _ _ _ HE.out.2.2.2.2); have HG := Lib.hid (HKC.out gg cap' w1 hown1 hgrow hat)))
              all_goals (go_wp2_with fail)
              all_goals go_meet
              all_goals (first | rw [push_close1] | rw [push_close2 n2])
              all_goals exact HG.out
            case rest =>
              obtain ⟨ov2, hst6, hK6⟩ := hcut
              have HX6 := Lib.hid (And.intro hst6 hK6)
              clear hst6 hK6
              go_wp2_with fail
              go_ret
              rw [← HRe.out]
              refine ⟨rfl, _, _, F, _, HX6.out.1, rfl, fun _ h => h, HS2.out.2.2.trans (HF5.out.1.2.trans HX6.out.2), ?_, by simp, fun _ => rfl⟩
              intro f hf
              simp only [List.mem_cons] at hf
              rcases hf with rfl | hf
              · simp
              · have := HK.out f hf; omega

end Go.Proofs.YtkdnfioihhfmpaaGreatDoor
