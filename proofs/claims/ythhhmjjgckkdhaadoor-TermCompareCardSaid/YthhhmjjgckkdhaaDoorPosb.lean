/-
  THE WALK OF positions.
-/
import Derived.Test.YthhhmjjgckkdhaaDoorPos
namespace Go.Proofs.YthhhmjjgckkdhaaDoor
open Go.RowKit

/-- A term that lies at an address, all of it in blocks of S. -/
def LiesIn (S : Nat → Prop) (w : World) (t : Tm) (b o : Nat) : Prop :=
  S b ∧ ∃ c0 c1 c2 c3, w.cell? ⟨b, o, none⟩ = some c0 ∧ w.cell? ⟨b, o + 1, none⟩ = some c1 ∧ w.cell? ⟨b, o + 2, none⟩ = some c2 ∧ w.cell? ⟨b, o + 3, none⟩ = some c3 ∧ IsIn S w t c0 c1 c2 c3
theorem LiesIn_carry {S S' : Nat → Prop} {w w' : World} (hc : ∀ b, S b → w'.heap[b]? = w.heap[b]?) (hS : ∀ b, S b → S' b) {t : Tm} {b o : Nat} (h : LiesIn S w t b o) : LiesIn S' w' t b o := by
  obtain ⟨hb, c0, c1, c2, c3, g0, g1, g2, g3, hI⟩ := h
  have hk : ∀ i v, w.cell? ⟨b, i, none⟩ = some v → w'.cell? ⟨b, i, none⟩ = some v := fun i v hv => by rw [World.cell?_of_block (w := w) (a := ⟨b, i, none⟩) (hc b hb)]; exact hv
  exact ⟨hS b hb, c0, c1, c2, c3, hk _ _ g0, hk _ _ g1, hk _ _ g2, hk _ _ g3, IsIn_carry hc hS t _ _ _ _ hI⟩
theorem RowIn_get {S : Nat → Prop} {w : World} : ∀ {ts : List Tm} {b o : Nat} (_ : RowIn S w ts (some ⟨b, o, none⟩)) (i : Nat) (hi : i < ts.length), LiesIn S w ts[i] b (o + i * 4)
  | t :: ts, b, o, h, i, hi => by
    simp only [RowIn] at h
    obtain ⟨b', o', e, hs, h1, h2⟩ := h
    simp only [Option.some.injEq, Addr.mk.injEq, and_true] at e
    obtain ⟨rfl, rfl⟩ := e
    cases i with
    | zero => simpa [LiesIn] using And.intro hs h1
    | succ i =>
      have := RowIn_get h2 i (by simpa using hi)
      have e : o + (i + 1) * 4 = o + 4 + i * 4 := by omega
      rw [e]; simpa using this
theorem RowIn_at {S : Nat → Prop} {w : World} {ts : List Tm} {xa : Option Addr} (h : RowIn S w ts xa) (hne : 0 < ts.length) : ∃ b o, xa = some ⟨b, o, none⟩ := by
  cases ts with
  | nil => simp at hne
  | cons t ts => simp only [RowIn] at h; obtain ⟨b, o, e, _⟩ := h; exact ⟨b, o, e⟩
/-- What lies in a world lies in its blocks. -/
theorem Is_IsIn {w : World} (t : Tm) : ∀ c0 c1 c2 c3, Is w t c0 c1 c2 c3 → IsIn (fun b => b < w.heap.size) w t c0 c1 c2 c3 := by
  refine Tm.rec (motive_1 := fun t => ∀ c0 c1 c2 c3, Is w t c0 c1 c2 c3 → IsIn (fun b => b < w.heap.size) w t c0 c1 c2 c3) (motive_2 := fun ts => ∀ xa, Row w ts xa → RowIn (fun b => b < w.heap.size) w ts xa) ?_ ?_ ?_ t
  · intro k n s ks ih c0 c1 c2 c3 h
    simp only [Is] at h; simp only [IsIn]
    obtain ⟨h1, h2, h3, h4, h5, h6, h7, xa, cap, h8, h9, h10⟩ := h
    exact ⟨h1, h2, h3, h4, h5, h6, h7, xa, cap, h8, h9, ih _ h10⟩
  · intro xa _; simp [RowIn]
  · intro t ts h1 h2 xa h
    simp only [Row] at h; simp only [RowIn]
    obtain ⟨b, o, e, ⟨c0, c1, c2, c3, g0, g1, g2, g3, hI⟩, hR⟩ := h
    exact ⟨b, o, e, World.block_lt_of_cell? w _ g0, ⟨c0, c1, c2, c3, g0, g1, g2, g3, h1 _ _ _ _ hI⟩, h2 _ hR⟩

theorem posL_len (path : List Nat) : ∀ (l : List Tm) (i : Nat), (posL path i l).length = sizes l
  | [], i => by simp [posL, sizes]
  | t :: ts, i => by simp only [posL, sizes, List.length_append, posT_length, posL_len path ts (i + 1)]

def PosRel (G F : Nat → Prop) (w : World) (base : Nat) (at_ : Value) (path : List Nat) (l : Value) (ps : List (List Nat)) (ks : List Tm) (j : Nat) (l' : Value) (wr : World) : Prop :=
  ∃ vs' F', PosPre (fun b => G b ∨ F' b) F' wr base at_ path l' (ps ++ (path :: posL path 0 (ks.take j))) vs' ∧ (∀ b, F b → F' b) ∧ (∀ b, F' b → F b ∨ w.heap.size ≤ b) ∧
    (∀ g, l'.ownBlock = some g → l.ownBlock = some g ∨ w.heap.size ≤ g) ∧ Keeps G w wr

theorem PosPre.less {G G' F : Nat → Prop} {w : World} {base : Nat} {at_ : Value} {path : List Nat} {l : Value} {ps : List (List Nat)} {vs : List Value} (h : PosPre G F w base at_ path l ps vs) (h1 : ∀ b, G' b → G b) (h2 : ∀ b, F b → G' b) (h3 : ∀ b, b < base → G' b) : PosPre G' F w base at_ path l ps vs :=
  ⟨fun b hb => h.gG b (h1 b hb), h2, h3, h.gl, h.own, h.row, h.pl, h.ne, h.atn⟩
theorem pos_next {G F F1 F2 : Nat → Prop} {w wr w3 : World} {base : Nat} {at_ : Value} {path : List Nat} {l lv l2 : Value} {ps : List (List Nat)} {vs2 : List Value} {ks : List Tm} {j : Nat} (hj : j < ks.length)
    (hF : ∀ b, F b → F1 b) (hFn : ∀ b, F1 b → F b ∨ w.heap.size ≤ b) (hl : ∀ g, lv.ownBlock = some g → l.ownBlock = some g ∨ w.heap.size ≤ g) (hK : Keeps G w wr) (hB : ∀ b, b < base → G b)
    (q1 : PosPre (fun b => (G b ∨ F1 b) ∨ F2 b) F2 w3 base at_ path l2 ((ps ++ (path :: posL path 0 (ks.take j))) ++ posT (path ++ [j]) ks[j]) vs2) (q2 : ∀ b, F1 b → F2 b) (q3 : ∀ b, F2 b → F1 b ∨ wr.heap.size ≤ b)
    (q4 : ∀ g, l2.ownBlock = some g → lv.ownBlock = some g ∨ wr.heap.size ≤ g) (q5 : Keeps (fun b => G b ∨ F1 b) wr w3) : PosRel G F w base at_ path l ps ks (j + 1) l2 w3 := by
  have hs := hK.size
  refine ⟨vs2, F2, ?_, fun b hb => q2 b (hF b hb), fun b hb => ?_, fun g hg => ?_, hK.trans (q5.mono (fun b hb => Or.inl hb))⟩
  · have e : ps ++ (path :: posL path 0 (ks.take (j + 1))) = (ps ++ (path :: posL path 0 (ks.take j))) ++ posT (path ++ [j]) ks[j] := by rw [posL_take path ks j hj]; simp
    rw [e]
    exact q1.less (fun b hb => hb.imp Or.inl id) (fun b hb => Or.inr hb) (fun b hb => Or.inl (hB b hb))
  · rcases q3 b hb with e | e
    · exact hFn b e
    · exact Or.inr (by omega)
  · rcases q4 g hg with e | e
    · exact hl g e
    · exact Or.inr (by omega)

theorem pos_start {G F : Nat → Prop} {w w1 : World} {base : Nat} {at_ : Value} {path : List Nat} {l : Value} {ps : List (List Nat)} {vs1 : List Value} {ks : List Tm} {v : Value} {gl n c : Nat}
    (h : PosPre (fun b => G b ∨ (F b ∨ v.ownBlock = some b)) (fun b => F b ∨ v.ownBlock = some b) w1 base at_ path (.slice (some ⟨gl, 0, none⟩) n c) (ps ++ [path]) vs1 ∧ Keeps G w w1 ∧ (∀ b, v.ownBlock = some b → w.heap.size ≤ b) ∧ (l.ownBlock = some gl ∨ w.heap.size ≤ gl)) :
    PosRel G F w base at_ path l ps ks 0 (.slice (some ⟨gl, 0, none⟩) n c) w1 := by
  refine ⟨vs1, _, ?_, fun b hb => Or.inl hb, fun b hb => hb.imp id (h.2.2.1 b), fun q hq => ?_, h.2.1⟩
  · simpa [posL] using h.1
  · simp only [Value.ownBlock, Option.some.injEq] at hq; subst hq; exact h.2.2.2

theorem own_full {w : World} {base : Nat} {T : TypeId} {n cap : Nat} {ao : Option Addr} {xs : List Value} (h : w.ownsRow base T 1 (.slice ao n cap) n xs) : (ao = none → n = 0 ∧ cap = 0) ∧ (∀ b, ao = some b → ∀ j u, xs[j]? = some u → w.cell? (b.add j) = some u) := by
  refine ⟨fun e => ?_, fun b e j u hu => ?_⟩
  · subst e
    rcases h.2 with ⟨e, h0⟩ | ⟨g, c, cur, e, _⟩
    · simp only [Value.slice.injEq] at e; exact ⟨h0, e.2.2⟩
    · simp at e
  · subst e
    rcases h.2 with ⟨e, _⟩ | ⟨g, c, cur, e, _⟩
    · simp at e
    · simp only [Value.slice.injEq, Option.some.injEq] at e
      obtain ⟨rfl, _, rfl⟩ := e
      exact h.cells rfl j u hu

set_option maxHeartbeats 3200000 in
set_option maxRecDepth 100000 in
theorem positions_any (m : Nat) : ∀ (t : Tm) (b o : Nat) (at_ : Value) (path : List Nat) (l : Value) (ps : List (List Nat)) (vs : List Value) (G F : Nat → Prop) (base : Nat) (w : World), size t ≤ m → m ≤ 1073741824 →
    PosPre G F w base at_ path l ps vs → LiesIn (fun b => b < base) w t b o → ps.length + size t ≤ 1073741824 → path.length + size t ≤ 1073741824 →
    Calls Tryd.prog 64 #[.pointer (some ⟨b, o, none⟩), at_, l] w (PosPost G F w base at_ path l ps t) := by
  induction m with
  | zero => intro t b o at_ path l ps vs G F base w h; have := size_pos t; omega
  | succ m ih =>
    intro t b o at_ path l ps vs G F base w hm hM hpre hL hps hpa
    obtain ⟨k, n, s, ks⟩ := t
    have hsk : size (.mk k n s ks) = 1 + sizes ks := rfl
    rw [hsk] at hm hps hpa
    have hC := Lib.hid (clone_any base at_ path w hpre.own hpre.atn (by omega))
    have hL0 := hL
    obtain ⟨hbb, c0, c1, c2, c3, g0, g1, g2, g3, hI⟩ := hL
    simp only [IsIn] at hI
    obtain ⟨rfl, rfl, rfl, _, _, _, hkl, xa, cap, rfl, hcap, hR⟩ := hI
    have hkl2 := length_le_sizes ks
    obtain ⟨xl, lcap, hlv⟩ := own_form hpre.row
    subst hlv
    obtain ⟨i0, hi0, hz0, hz1, hz2⟩ := info_parts info46
    have HI0 := Lib.hid (And.intro hi0 (And.intro hz0 (And.intro hz1 hz2)))
    have HPRE := Lib.hid hpre
    have HLL : Hid (vs.length = ps.length * 1) := by show _ = _; rw [PL_length _ _ hpre.pl]; omega
    have HR := Lib.hid hR
    have hsz0 : base ≤ w.heap.size := hpre.gl
    clear g0 g1 g2 hi0 hz0 hz1 hz2 hpre hR hL0
    go_enter Tryd.func64, Tryd.ntmps64
    go_wp2_with (first
      | (go_at_call 40; refine (hC.out).mono ?_; rintro e wc ⟨v, he, hv1, hv2⟩; subst he; obtain ⟨xv, vcap, hvf⟩ := own_form hv1; subst hvf; have HV := Lib.hid (And.intro hv1 hv2); have hszc : w.heap.size ≤ wc.heap.size := hv2.size; have HOL : Hid (wc.ownsRow base 46 1 (.slice xl ps.length lcap) ps.length vs) := own_heap HPRE.out.row (fun q hq => hv2.block q (HPRE.out.row.lt q hq).2); clear hv1 hv2)
      | (at_builtin; refine wpList_append_lies _ rfl _ _ _ rfl base 46 i0 _ 1 24 Tryd.underlying43 HI0.out.1 HI0.out.2.1 HI0.out.2.2.1 HI0.out.2.2.2 rfl (by omega) (.slice xl ps.length lcap) ps.length vs rfl (HOL.out.alloc _) ⟨wc.heap.size, 0, none⟩ 1 1 [.slice xv path.length vcap] rfl rfl (World.news_of_block (cs := #[.slice xv path.length vcap]) (t := 46) (fr := (0, 0)) (heap_alloc_new wc _)) (by simp [Value.oneCell']) (by omega) (by unfold maxLen; omega) (by omega) (by simp; omega) (wc.heap.size + 1) (by simp) ?_; intro gl lcap' w1 hown1 hgrow hat hlt; have hrt := HPRE.out.root HV.out.1 HV.out.2 hown1 hgrow hat; have HG := Lib.hid (And.intro hrt.1 (And.intro hrt.2.1 (And.intro hrt.2.2 (show (Value.slice xl ps.length lcap).ownBlock = some gl ∨ w.heap.size ≤ gl from hat.imp id (fun e => by omega))))); have g3' : w1.cell? ⟨b, o + 3, none⟩ = some (.slice xa ks.length cap) := (World.cell?_of_block (a := ⟨b, o + 3, none⟩) (HG.out.2.1.block b (HPRE.out.gB b hbb))).trans g3; clear hown1 hgrow hat hrt))
    go_loopw [2, 18] (fun lv i wr => ∃ j : Nat, j ≤ ks.length ∧ i = .int .i64 j ∧ PosRel G F w base at_ path (.slice xl ps.length lcap) ps ks j lv wr) (fun _ i _ => ks.length - (intOf i).toNat)
    case atStart => exact ⟨0, Nat.zero_le _, rfl, pos_start HG.out⟩
    case round =>
      obtain ⟨j, hj, rfl, vs', F', hp, hFF, hFn, hln, hKw⟩ := hrel
      have hgr : wr.cell? ⟨b, o + 3, none⟩ = some (.slice xa ks.length cap) := (World.cell?_of_block (a := ⟨b, o + 3, none⟩) (hKw.block b (HPRE.out.gB b hbb))).trans g3
      clear g3'
      by_cases hlt : j < ks.length
      rotate_left
      · have hjl : j = ks.length := by omega
        have HD : Hid (path :: posL path 0 (ks.take j) = posT path (.mk k n s ks)) := by show _ = _; rw [hjl, List.take_length]; rfl
        have HX := Lib.hid (And.intro hp (And.intro hFF (And.intro hFn (And.intro hln hKw))))
        clear hjl hp hFF hFn hln hKw
        go_wp2_with fail
        go_ret
        refine ⟨_, vs', F', rfl, ?_, HX.out.2.1, HX.out.2.2.1, HX.out.2.2.2.1, HX.out.2.2.2.2⟩
        rw [← HD.out]; exact HX.out.1
      obtain ⟨kb, ko, rfl⟩ := RowIn_at HR.out (by omega)
      have HK0 := Lib.hid (RowIn_get HR.out j hlt)
      have HKP := Lib.hid (show Keeps (fun b => G b) w wr from hKw)
      have hsz := sizes_take ks j hlt
      have hle := sizes_take_le ks (j + 1)
      have hpl : (ps ++ (path :: posL path 0 (ks.take j))).length = ps.length + 1 + sizes (ks.take j) := by
        rw [List.length_append, List.length_cons, posL_len]; omega
      have hpl1 : (ps ++ (path :: posL path 0 (ks.take j))).length + size ks[j] ≤ 1073741824 := by omega
      have hpl2 : (path ++ [j]).length + size ks[j] ≤ 1073741824 := by simp only [List.length_append, List.length_cons, List.length_nil]; omega
      have hks1 : size ks[j] ≤ m := by omega
      have HD := Lib.hid (posL_take path ks j hlt)
      have HX := Lib.hid (And.intro hp (And.intro hFF (And.intro hFn (And.intro hln hKw))))
      have HB := Lib.hid (And.intro hpl1 (And.intro hpl2 hks1))
      have hbase : base ≤ wr.heap.size := hp.gl
      have i1 : (0 : Int) ≤ (j : Int) := by omega
      have i2 : (j : Int) < (ks.length : Int) := by omega
      obtain ⟨j0, hj0, hy0, hy1, hy2⟩ := info_parts info3
      have HJ0 := Lib.hid (And.intro hj0 (And.intro hy0 (And.intro hy1 hy2)))
      have HP : Hid ((ints path).length = path.length * 1) := ints_length path
      have hown := hp.own
      have hbs : b < wr.heap.size := World.block_lt_of_cell? wr _ hgr
      obtain ⟨ao, acap, rfl⟩ := own_form hown
      have HO := Lib.hid hown
      clear hsz hle hpl hp hFF hFn hln hKw hj0 hy0 hy1 hy2 hown hpl1 hpl2 hks1
      by_cases hroom : path.length + 1 ≤ acap
      · obtain ⟨g, hg⟩ : ∃ g, ao = some ⟨g, 0, none⟩ := by
          rcases HO.out.2 with ⟨e, _⟩ | ⟨g, c, cur, e, _⟩
          · simp only [Value.slice.injEq] at e; omega
          · simp only [Value.slice.injEq] at e; exact ⟨g, e.1⟩
        subst hg
        have hgb : b ≠ g := fun e => (HX.out.1.gG b (Or.inl (HPRE.out.gB b hbb))).2.1 (by rw [e]; rfl)
        have GB : (fun b => G b ∨ F' b) b := Or.inl (HPRE.out.gB b hbb)
        have GLh : ∀ b, b < base → (fun b => G b ∨ F' b) b := fun b hb => Or.inl (HPRE.out.gB b hb)
        have GL := GLh
        clear GLh
        have HIH := Lib.hid (ih ks[j] kb (ko + j * 4))
        clear ih
        go_wp2_with fail
        go_region_held3 (fun W => W.cell? ⟨b, o + 3, none⟩ = some (.slice (some ⟨kb, ko, none⟩) ks.length cap))
          (first | go_keep | assumption)
          (first
            | (refine step_append_fits (by rfl) _ _ _ (by rfl) base 3 j0 1 Tryd.underlying46 HJ0.out.1 HJ0.out.2.2.1 g path.length acap (ints path) (by rfl) ((HO.out.alloc _).drew) ⟨wr.heap.size, 0, none⟩ 1 1 [.int .i64 (j : Int)] (by rfl) (by rfl) (World.news_of_block (cs := #[.int .i64 (j : Int)]) (t := 3) (fr := (0, 0)) (heap_alloc_new wr _)) (by simp [Value.oneCell']) hroom ?_; intro w1' hown1 hgrow; have HQ := Lib.hid (HX.out.1.room rfl hown1 hgrow); have hg1 : w1'.cell? ⟨b, o + 3, none⟩ = some (.slice (some ⟨kb, ko, none⟩) ks.length cap) := (World.cell?_of_block (a := ⟨b, o + 3, none⟩) (HQ.out.2.1.block b GB)).trans hgr; clear hown1 hgrow)
            | (go_at_call 64; refine (HIH.out (.slice (some ⟨g, 0, none⟩) (path.length + 1) acap) (path ++ [j]) u2 (ps ++ (path :: posL path 0 (ks.take j))) vs' (fun b => G b ∨ F' b) F' base w1' HB.out.2.2 (by omega) HQ.out.1 (LiesIn_carry (fun b hb => (HQ.out.2.1.block b (GL b hb)).trans (HX.out.2.2.2.2.block b (HPRE.out.gB b hb))) (fun _ h => h) HK0.out) HB.out.1 HB.out.2.1).mono ?_; rintro e w3 hpost; obtain ⟨l2, vs2, F2, he, q1, q2, q3, q4, q5⟩ := PosPost.room HX.out.1 rfl HQ.out.2.1 HQ.out.2.2 hpost; subst he; have hg3 : w3.cell? ⟨b, o + 3, none⟩ = some (.slice (some ⟨kb, ko, none⟩) ks.length cap) := (World.cell?_of_block (a := ⟨b, o + 3, none⟩) (q5.block b (Or.inl (HPRE.out.gB b hbb)))).trans hgr; have HP3 := Lib.hid (pos_next hlt HX.out.2.1 HX.out.2.2.1 HX.out.2.2.2.1 HX.out.2.2.2.2 HPRE.out.gB q1 q2 q3 q4 q5); clear q1 q2 q3 q4 q5 hpost))
        go_wp2_with fail
        go_roundw
        case rel => exact ⟨j + 1, by omega, by go_num, HP3.out⟩
        case measure => simp [intOf]; omega
      · have HFu := Lib.hid (own_full ((HO.out.alloc (.cells #[.int .i64 (j : Int)] 3)).drew))
        have GB : (fun c => (G c ∨ F' c) ∨ (Value.slice ao path.length acap).ownBlock = some c) b := Or.inl (Or.inl (HPRE.out.gB b hbb))
        have GL : ∀ b, b < base → (fun c => (G c ∨ F' c) ∨ (Value.slice ao path.length acap).ownBlock = some c) b := fun b hb => Or.inl (Or.inl (HPRE.out.gB b hb))
        have HIH := Lib.hid (ih ks[j] kb (ko + j * 4))
        clear ih
        go_wp2_with fail
        go_region_held3 (fun W => W.cell? ⟨b, o + 3, none⟩ = some (.slice (some ⟨kb, ko, none⟩) ks.length cap))
          (first | go_keep | assumption)
          (first
            | (refine step_append_full _ (by rfl) _ _ _ (by rfl) 3 j0 _ 1 8 Tryd.underlying46 HJ0.out.1 HJ0.out.2.1 HJ0.out.2.2.1 HJ0.out.2.2.2 rfl (by omega) ao path.length acap (ints path) (by rfl) HFu.out.1 HP.out HFu.out.2 ⟨wr.heap.size, 0, none⟩ 1 1 [.int .i64 (j : Int)] (by rfl) (by rfl) (World.news_of_block (cs := #[.int .i64 (j : Int)]) (t := 3) (fr := (0, 0)) (heap_alloc_new wr _)) (by simp [Value.oneCell']) (by omega) (by unfold maxLen; omega) (by omega) (wr.heap.size + 1) (by simp) ?_; intro at2 w1' hown1 hgrow; have HQ := Lib.hid (HX.out.1.fresh (hown1) hgrow); have hg1 : w1'.cell? ⟨b, o + 3, none⟩ = some (.slice (some ⟨kb, ko, none⟩) ks.length cap) := (World.cell?_of_block (a := ⟨b, o + 3, none⟩) (HQ.out.2.1.block b GB)).trans hgr; clear hown1 hgrow)
            | (go_at_call 64; refine (HIH.out at2 (path ++ [j]) u2 (ps ++ (path :: posL path 0 (ks.take j))) vs' (fun b => (G b ∨ F' b) ∨ (Value.slice ao path.length acap).ownBlock = some b) F' base w1' HB.out.2.2 (by omega) HQ.out.1 (LiesIn_carry (fun b hb => (HQ.out.2.1.block b (GL b hb)).trans (HX.out.2.2.2.2.block b (HPRE.out.gB b hb))) (fun _ h => h) HK0.out) HB.out.1 HB.out.2.1).mono ?_; rintro e w3 hpost; obtain ⟨l2, vs2, F2, he, q1, q2, q3, q4, q5⟩ := PosPost.fresh HX.out.1 HQ.out.2.1 HQ.out.2.2 hpost; subst he; have hg3 : w3.cell? ⟨b, o + 3, none⟩ = some (.slice (some ⟨kb, ko, none⟩) ks.length cap) := (World.cell?_of_block (a := ⟨b, o + 3, none⟩) (q5.block b (Or.inl (HPRE.out.gB b hbb)))).trans hgr; have HP3 := Lib.hid (pos_next hlt HX.out.2.1 HX.out.2.2.1 HX.out.2.2.2.1 HX.out.2.2.2.2 HPRE.out.gB q1 q2 q3 q4 q5); clear q1 q2 q3 q4 q5 hpost))
        go_wp2_with fail
        go_roundw
        case rel => exact ⟨j + 1, by omega, by go_num, HP3.out⟩
        case measure => simp [intOf]; omega

end Go.Proofs.YthhhmjjgckkdhaaDoor
