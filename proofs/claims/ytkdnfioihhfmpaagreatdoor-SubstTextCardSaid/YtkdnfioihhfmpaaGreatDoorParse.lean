/-
  WHAT Parse DOES, AS A PLAIN FUNCTION; the texts get shorter.
-/
import Derived.Test.YtkdnfioihhfmpaaGreatDoorNext
namespace Go.Proofs.YtkdnfioihhfmpaaGreatDoor
open Go.RowKit

/-- The parser's rounds: none where the text is wrong; else what remains, whether a limit is exceeded, and the term. -/
def runP : Nat → List (ByteArray × List Tm) → ByteArray → Int → Bool → Option (ByteArray × Bool × Tm)
  | 0, _, _, _, _ => none
  | n + 1, st, rest, nodes, large =>
    if (nextP st rest (nodes + 1) large).1 = false then none
    else match (nextP st rest (nodes + 1) large).2.2.2.2 with
      | some u => some ((nextP st rest (nodes + 1) large).2.1, (nextP st rest (nodes + 1) large).2.2.2.1, u)
      | none => runP n (nextP st rest (nodes + 1) large).2.2.1 (nextP st rest (nodes + 1) large).2.1 (nodes + 1) (nextP st rest (nodes + 1) large).2.2.2.1

def zeroT : Tm := .mk 0 ByteArray.empty 0 []
def finP : Option (ByteArray × Bool × Tm) → Tm × Int
  | none => (zeroT, 2)
  | some (rest, large, u) => if rest.toList.isEmpty = false then (zeroT, 2) else if large then (zeroT, 3) else (u, 0)
def parseP (s : ByteArray) : Tm × Int := finP (runP (s.size + 1) [] s 0 false)

theorem sortP_size (rest : ByteArray) : ∀ (l : List ByteArray) (i : Int), (sortP rest i l).2.2.size ≤ rest.size
  | [], i => Nat.le_refl _
  | p :: ps, i => by
    simp only [sortP]
    split
    · exact takeB_size rest p
    · exact sortP_size rest ps (i + 1)
theorem vsortP_size (rest : ByteArray) : (vsortP rest).2.2.size ≤ rest.size := by
  unfold vsortP
  split
  · exact Nat.le_trans (sortP_size _ _ _) (takeB_size _ _)
  · exact Nat.le_refl _
theorem nodeP_size (rest : ByteArray) (h : (nodeP rest).2.2.2.1 = true) : (nodeP rest).2.2.2.2.size < rest.size := by
  have h1 := takeB_size rest bQ
  have h2 : isNameB (nodeName rest).data.toList = true → (nodeRest rest).size < rest.size := fun hn => by
    have h3 : 0 < (nodeName rest).data.toList.length := by
      simp only [isNameB, Bool.and_eq_true, decide_eq_true_eq] at hn; exact hn.1.1
    have h4 : (nodeName rest).data.toList.length = (nodeName rest).size := by simp
    have h5 : (nodeName rest).size ≤ (takeB rest bQ).size := by
      unfold nodeName; rw [ByteArray.size_extract]; omega
    unfold nodeRest
    rw [ByteArray.size_extract]; omega
  have h6 := vsortP_size (nodeRest rest)
  have h7 := takeB_size (nodeRest rest) bOpen
  have h8 := takeB_size (nodeRest rest) bColon
  have h9 := sortP_size (takeB (nodeRest rest) bColon) sortW 0
  unfold nodeP at h ⊢
  split at h
  · simp at h
  · rename_i hn
    have hn' : isNameB (nodeName rest).data.toList = true := by simpa using hn
    have := h2 hn'
    rw [if_neg hn]
    split
    · simp only; omega
    · split
      · simp only; omega
      · split
        · rename_i a b c
          rw [if_neg a, if_neg b, if_pos c] at h
          simp at h
        · simp only; omega
theorem endP_size : ∀ (st : List (ByteArray × List Tm)) (rest : ByteArray) (large : Bool) (t : Tm), (endP st rest large t).2.1.size ≤ rest.size
  | [], rest, large, t => Nat.le_refl _
  | (nm, ks) :: st, rest, large, t => by
    rw [endP]
    split
    · exact takeB_size rest bComma
    · split
      · exact Nat.le_trans (endP_size st _ _ _) (takeB_size rest bClose)
      · exact Nat.le_refl _
theorem nextP_size (st : List (ByteArray × List Tm)) (rest : ByteArray) (nodes : Int) (large : Bool) (h : (nextP st rest nodes large).1 = true) : (nextP st rest nodes large).2.1.size < rest.size := by
  unfold nextP at h ⊢
  split at h
  · simp at h
  · rename_i hn
    have hn' : (nodeP rest).2.2.2.1 = true := by simpa using hn
    have h1 := nodeP_size rest hn'
    rw [if_neg hn]
    split
    · exact h1
    · refine Nat.lt_of_le_of_lt (endP_size _ _ _ _) ?_
      split
      · exact Nat.lt_of_le_of_lt (takeB_size _ _) h1
      · exact h1

end Go.Proofs.YtkdnfioihhfmpaaGreatDoor

/-
  THE WALK OF Parse.
-/
namespace Go.Proofs.YtkdnfioihhfmpaaGreatDoor
open Go.RowKit

theorem Laid_of {w w' : World} (h : Laid w) (hk : w'.heap[0]? = w.heap[0]?) : Laid w' := by
  obtain ⟨l0, l1, l2, l3, l4, l5⟩ := h
  refine ⟨?_, ?_, ?_, ?_, ?_, ?_⟩ <;> (rw [World.cell?_of_block (w := w) hk]; assumption)

def ParsePost (s : ByteArray) (w : World) (e : Ending) (w' : World) : Prop :=
  ∃ v, e = .returned (.tuple #[v, .int .i64 (parseP s).2]) ∧ IsV w' (parseP s).1 v ∧ Below w.heap.size w w'

/-- The same, and where the term lies: in new blocks. -/
def ParseInP (r : Tm × Int) (w : World) (e : Ending) (w' : World) : Prop :=
  ∃ c0 c1 c2 c3, e = .returned (.tuple #[.agg #[c0, c1, c2, c3], .int .i64 r.2]) ∧ IsIn (fun b => w.heap.size ≤ b) w' r.1 c0 c1 c2 c3 ∧ Below w.heap.size w w'
theorem zero_In (S : Nat → Prop) (w : World) : IsIn S w zeroT (.int .i64 0) (.string ByteArray.empty) (.int .i64 0) (.slice none 0 0) := by
  simp only [zeroT, IsIn]
  exact ⟨trivial, trivial, trivial, by omega, by omega, Nat.zero_le _, by simp, none, 0, rfl, by simp, by simp [RowIn]⟩
/-- The world at the loop's head, first. -/
def parseW (s : ByteArray) (w : World) : World := (w.alloc (.cells #[.int .i64 0, .string ByteArray.empty, .int .i64 0, .slice none 0 0] 41)).alloc (.cells #[.string s, .slice none 0 0, .int .i64 0, .bool false, .bool false, .int .i64 0, .string ByteArray.empty, .int .i64 0, .slice none 0 0] 125)

def PRel (s : ByteArray) (w : World) (k : Nat) (wr : World) : Prop :=
  ∃ (fr : List Fr) (ov : Value) (F : Nat → Prop) (rest : ByteArray) (q : Nat) (large whole : Bool) (z0 z1 z2 z3 : Value),
    (∀ b, b ≤ w.heap.size → F b) ∧ Keeps (fun b => b ≤ w.heap.size) (parseW s w) wr ∧ ST wr (w.heap.size + 1) (w.heap.size + 1) rest ov q large whole z0 z1 z2 z3 fr F ∧
    match whole with
    | false => parseP s = finP (runP k (pst fr) rest q large) ∧ rest.size < k ∧ q + rest.size ≤ s.size ∧ fr.length ≤ q ∧ ∀ f ∈ fr, f.ks.length ≤ q
    | true => ∃ u, IsIn (Fb (w.heap.size + 1) F) wr u z0 z1 z2 z3 ∧ parseP s = finP (some (rest, large, u))

theorem parse_start (s : ByteArray) (w : World) : PRel s w (s.size + 1) (parseW s w) := by
  refine ⟨[], .slice none 0 0, fun b => b ≤ w.heap.size, s, 0, false, false, .int .i64 0, .string ByteArray.empty, .int .i64 0, .slice none 0 0, fun _ h => h, Keeps.refl _ _, ⟨?_, Nat.le_refl _, World.ownsRow_nil _ _ _ _, by simp [Value.ownBlock], fun b hb => ⟨?_, ?_, by simp [Value.ownBlock]⟩, by simp [Stk]⟩, rfl, Nat.lt_succ_self _, by omega, Nat.le_refl _, fun f hf => by simp at hf⟩
  · unfold PS parseW
    have := heap_alloc_new (w.alloc (.cells #[.int .i64 0, .string ByteArray.empty, .int .i64 0, .slice none 0 0] 41)) (.cells #[.string s, .slice none 0 0, .int .i64 0, .bool false, .bool false, .int .i64 0, .string ByteArray.empty, .int .i64 0, .slice none 0 0] 125)
    rw [World.size_alloc] at this
    exact this
  · unfold parseW; simp only [World.size_alloc]; omega
  · omega

theorem parse_rb {s : ByteArray} {w wr : World} (h : Keeps (fun b => b ≤ w.heap.size) (parseW s w) wr) : wr.heap[w.heap.size]? = some (.cells #[.int .i64 0, .string ByteArray.empty, .int .i64 0, .slice none 0 0] 41 (0, 0)) := by
  rw [h.block _ (Nat.le_refl _)]
  unfold parseW
  rw [Below.heap_alloc _ _ _ (by simp), heap_alloc_new]
theorem parse_below {s : ByteArray} {w wr : World} (h : Keeps (fun b => b ≤ w.heap.size) (parseW s w) wr) : Below w.heap.size w wr := by
  have h0 : Below w.heap.size w (parseW s w) := ((Below.refl _ _).alloc (Nat.le_refl _) _).alloc (by simp) _
  exact h0.trans ⟨h.os, h.tape, h.output, h.size, fun k hk => h.block k (Nat.le_of_lt hk)⟩
theorem below_set4 {w wr : World} (h : Below w.heap.size w wr) (v0 v1 v2 v3 : Value) : Below w.heap.size w ((((wr.setCell ⟨w.heap.size, 0, none⟩ v0).setCell ⟨w.heap.size, 1, none⟩ v1).setCell ⟨w.heap.size, 2, none⟩ v2).setCell ⟨w.heap.size, 3, none⟩ v3) :=
  (((h.setCell (Nat.le_refl _) _).setCell (Nat.le_refl _) _).setCell (Nat.le_refl _) _).setCell (Nat.le_refl _) _

theorem zero_IsV (w : World) : IsV w zeroT (.agg #[.int .i64 0, .string ByteArray.empty, .int .i64 0, .slice none 0 0]) := by
  refine ⟨_, _, _, _, rfl, ?_⟩
  simp only [zeroT, Is]
  exact ⟨trivial, trivial, trivial, by omega, by omega, Nat.zero_le _, by simp, none, 0, rfl, by simp, by simp [Row]⟩

set_option maxHeartbeats 3200000 in
set_option maxRecDepth 100000 in
theorem parse_in (s : ByteArray) (w : World) (hL : Laid w) (hs : s.size ≤ 1073741824) : Calls Tryz.prog 68 #[.string s] w (ParseInP (parseP s) w) := by
  have hg0 : 0 < w.heap.size := World.block_lt_of_cell? w _ hL.1
  have hstart := parse_start s w
  have HL := Lib.hid hL
  clear hL
  go_enter Tryz.func68, Tryz.ntmps68
  go_wp2_with fail
  go_loopg [7] (s.size + 1) (fun k _ wr => PRel s w k wr)
  case atStart => exact hstart
  case round =>
    obtain ⟨fr, ov, F, rest, q, large, whole, z0, z1, z2, z3, hF, hK, hst, hm⟩ := hrel
    clear hstart
    have hcs := hst.ps.cells
    have c4 := hcs.2.2.2.2.1
    obtain ⟨r0, r1, r2, r3, rf⟩ := cells_of_block4 (parse_rb hK)
    have rf0 := rf 0; have rf1 := rf 1; have rf2 := rf 2; have rf3 := rf 3
    cases whole with
    | false =>
      obtain ⟨hrun, hk, hq, hfl, hks⟩ := hm
      obtain ⟨m, rfl⟩ : ∃ m, gk = m + 1 := ⟨gk - 1, by omega⟩
      have hLr : Laid wr := Laid_of HL.out ((hK.block _ (by omega)).trans (by unfold parseW; rw [Below.heap_alloc _ _ _ (by rw [World.size_alloc]; omega), Below.heap_alloc _ _ _ hg0]))
      have HN := Lib.hid (next_any (w.heap.size + 1) (w.heap.size + 1) (q + 1) rest ov q large false z0 z1 z2 z3 fr F wr hst hLr (hF _ (by omega)) (by unfold maxLen; omega) (by omega) (by omega) (by omega) (fun f hf => by have := hks f hf; omega) (by omega))
      have hrun2 := hrun
      simp only [runP] at hrun2
      have hsz := nextP_size (pst fr) rest ((q : Int) + 1) large
      generalize nextP (pst fr) rest ((q : Int) + 1) large = R at HN hrun2 hsz
      obtain ⟨ok, rest2, st2, large2, root⟩ := R
      simp only at hrun2 hsz
      cases ok with
      | false =>
        rw [if_pos rfl] at hrun2
        have hp : parseP s = (zeroT, 2) := hrun2
        have HP := Lib.hid hp
        have HX := Lib.hid hK
        have HFF := Lib.hid hF
        have HRB := Lib.hid (parse_rb hK)
        clear hrun hrun2 hp hst hK hF hcs hks hsz hLr rf
        go_wp2_with (go_at_call 96; refine (HN.out).mono ?_; rintro e w5 ⟨he, fr', ov', F', nodes', h1, h2, h3, h4, h5, h6, h7⟩; subst he; have hrb : w5.heap[w.heap.size]? = some (.cells #[.int .i64 0, .string ByteArray.empty, .int .i64 0, .slice none 0 0] 41 (0, 0)) := (h4.block _ (HFF.out _ (Nat.le_refl _))).trans HRB.out; have hbx := cells_of_block4 hrb; have b0 := hbx.1; have b1 := hbx.2.1; have b2 := hbx.2.2.1; have b3 := hbx.2.2.2.1; have bf0 := hbx.2.2.2.2 0; have bf1 := hbx.2.2.2.2 1; have bf2 := hbx.2.2.2.2 2; have bf3 := hbx.2.2.2.2 3; have HR := Lib.hid (And.intro h1 (And.intro h2 (And.intro h3 (And.intro h4 (And.intro h5 (And.intro h6 (And.intro h7 hrb))))))); clear h1 h2 h3 h4 h5 h6 h7 hrb hbx)
        obtain ⟨s0, s1, s2, s3, _⟩ := cells_of_block4 (set4 (v0 := .int .i64 0) (v1 := .string ⟨#[]⟩) (v2 := .int .i64 0) (v3 := .slice none 0 0) HR.out.2.2.2.2.2.2.2)
        refine bodyPost_ret (v := .tuple #[.agg #[.int .i64 0, .string ⟨#[]⟩, .int .i64 0, .slice none 0 0], .int .i64 2]) (by simp [results, Tryz.results68, go_sem, s0, s1, s2, s3]) rfl ?_
        have hk5 : Keeps (fun b => b ≤ w.heap.size) (parseW s w) w5 := HX.out.trans (HR.out.2.2.2.1.mono HFF.out)
        exact ⟨_, _, _, _, by rw [HP.out], by rw [HP.out]; exact zero_In _ _, below_set4 (parse_below hk5) _ _ _ _⟩
      | true =>
        rw [if_neg (by simp)] at hrun2
        have hsz2 := hsz rfl
        have HX := Lib.hid hK
        have HFF := Lib.hid hF
        have HRB := Lib.hid (parse_rb hK)
        have HRN := Lib.hid hrun2
        clear hrun hrun2 hst hK hF hcs hks hsz hLr rf
        go_wp2_with (go_at_call 96; refine (HN.out).mono ?_; rintro e w5 ⟨he, fr', ov', F', nodes', h1, h2, h3, h4, h5, h6, h7⟩; subst he; have hrb : w5.heap[w.heap.size]? = some (.cells #[.int .i64 0, .string ByteArray.empty, .int .i64 0, .slice none 0 0] 41 (0, 0)) := (h4.block _ (HFF.out _ (Nat.le_refl _))).trans HRB.out; have hbx := cells_of_block4 hrb; have b0 := hbx.1; have b1 := hbx.2.1; have b2 := hbx.2.2.1; have b3 := hbx.2.2.2.1; have bf0 := hbx.2.2.2.2 0; have bf1 := hbx.2.2.2.2 1; have bf2 := hbx.2.2.2.2 2; have bf3 := hbx.2.2.2.2 3; have HR := Lib.hid (And.intro h1 (And.intro h2 (And.intro h3 (And.intro h4 (And.intro h5 (And.intro h6 (And.intro h7 hrb))))))); clear h1 h2 h3 h4 h5 h6 h7 hrb hbx)
        go_roundg m
        case measure => omega
        case rel =>
          obtain ⟨h1, h2, h3, h4, h5, h6, h7, _⟩ := HR.out
          have hrn := HRN.out
          obtain rfl := h7 (by simp)
          cases root with
          | none =>
            simp only at h1 hrn
            refine ⟨fr', ov', F', rest2, q + 1, large2, false, _, _, _, _, fun b hb => h3 b (HFF.out b hb), HX.out.trans (h4.mono HFF.out), h1, ?_, by omega, by omega, by omega, h5⟩
            rw [h2]; exact hrn
          | some u =>
            simp only at h1 hrn
            obtain ⟨s0, s1, s2, s3, hst, hI⟩ := h1
            exact ⟨fr', ov', F', rest2, q + 1, large2, true, s0, s1, s2, s3, fun b hb => h3 b (HFF.out b hb), HX.out.trans (h4.mono HFF.out), hst, u, hI, hrn⟩
    | true =>
      obtain ⟨u, hI, hp⟩ := hm
      have c0 := hcs.1
      have c3 := hcs.2.2.2.1
      have c5 := hcs.2.2.2.2.2.1
      have c6 := hcs.2.2.2.2.2.2.1
      have c7 := hcs.2.2.2.2.2.2.2.1
      have c8 := hcs.2.2.2.2.2.2.2.2
      obtain ⟨uk, un, us, uks⟩ := u
      have hIs := hI
      simp only [IsIn] at hIs
      obtain ⟨rfl, rfl, rfl, _, _, _, _, ya, ycap, rfl, _, _⟩ := hIs
      have HX := Lib.hid (And.intro hK (And.intro hI (parse_rb hK)))
      by_cases hre : rest.toList.isEmpty = true
      rotate_left
      · have hre' : rest.toList.isEmpty = false := by simpa using hre
        have hp2 : parseP s = (zeroT, 2) := by rw [hp]; simp only [finP]; rw [if_pos hre']
        have HP := Lib.hid hp2
        clear hp hp2 hst hK hF hcs hI hre rf
        go_wp2_with fail
        obtain ⟨s0, s1, s2, s3, _⟩ := cells_of_block4 (set4 (v0 := .int .i64 0) (v1 := .string ⟨#[]⟩) (v2 := .int .i64 0) (v3 := .slice none 0 0) HX.out.2.2)
        refine bodyPost_ret (v := .tuple #[.agg #[.int .i64 0, .string ⟨#[]⟩, .int .i64 0, .slice none 0 0], .int .i64 2]) (by simp [results, Tryz.results68, go_sem, s0, s1, s2, s3]) rfl ?_
        exact ⟨_, _, _, _, by rw [HP.out], by rw [HP.out]; exact zero_In _ _, below_set4 (parse_below HX.out.1) _ _ _ _⟩
      cases large with
      | true =>
        have hp2 : parseP s = (zeroT, 3) := by rw [hp]; simp only [finP]; rw [if_neg (by rw [hre]; simp)]; simp
        have HP := Lib.hid hp2
        clear hp hp2 hst hK hF hcs hI rf
        go_wp2_with fail
        obtain ⟨s0, s1, s2, s3, _⟩ := cells_of_block4 (set4 (v0 := .int .i64 0) (v1 := .string ⟨#[]⟩) (v2 := .int .i64 0) (v3 := .slice none 0 0) HX.out.2.2)
        refine bodyPost_ret (v := .tuple #[.agg #[.int .i64 0, .string ⟨#[]⟩, .int .i64 0, .slice none 0 0], .int .i64 3]) (by simp [results, Tryz.results68, go_sem, s0, s1, s2, s3]) rfl ?_
        exact ⟨_, _, _, _, by rw [HP.out], by rw [HP.out]; exact zero_In _ _, below_set4 (parse_below HX.out.1) _ _ _ _⟩
      | false =>
        have hp2 : parseP s = (.mk uk un us uks, 0) := by rw [hp]; simp only [finP]; rw [if_neg (by rw [hre]; simp)]; simp
        have HP := Lib.hid hp2
        clear hp hp2 hst hK hF hcs hI rf
        go_wp2_with fail
        obtain ⟨s0, s1, s2, s3, _⟩ := cells_of_block4 (set4 (v0 := .int .i64 uk) (v1 := .string un) (v2 := .int .i64 us) (v3 := .slice ya uks.length ycap) HX.out.2.2)
        refine bodyPost_ret (v := .tuple #[.agg #[.int .i64 uk, .string un, .int .i64 us, .slice ya uks.length ycap], .int .i64 0]) (by simp [results, Tryz.results68, go_sem, s0, s1, s2, s3]) rfl ?_
        refine ⟨_, _, _, _, by rw [HP.out], ?_, below_set4 (parse_below HX.out.1) _ _ _ _⟩
        rw [HP.out]
        exact IsIn_carry (fun b hb => set4_other _ _ _ _ _ _ _ (by have := hb.2; omega)) (fun b hb => by have := hb.2; omega) _ _ _ _ _ HX.out.2.1

theorem parse_any (s : ByteArray) (w : World) (hL : Laid w) (hs : s.size ≤ 1073741824) : Calls Tryz.prog 68 #[.string s] w (ParsePost s w) :=
  (parse_in s w hL hs).mono fun _ _ ⟨_, _, _, _, he, hI, hB⟩ => ⟨_, he, ⟨_, _, _, _, rfl, IsIn_Is _ _ _ _ _ hI⟩, hB⟩
end Go.Proofs.YtkdnfioihhfmpaaGreatDoor
