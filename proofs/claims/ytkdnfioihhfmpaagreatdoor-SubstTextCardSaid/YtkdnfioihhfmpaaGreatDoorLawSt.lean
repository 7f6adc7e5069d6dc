/-
  Parse READS A SUBSTITUTION's TEXT BACK.
-/
import Derived.Test.YtkdnfioihhfmpaaGreatDoorPieces
import Derived.Test.YtkdnfioihhfmpaaGreatDoorSformat
import Derived.Test.YtkdnfioihhfmpaaGreatDoorText
import Derived.Test.YtkdnfioihhfmpaaGreatDoorBval
import Derived.Deep.RegionHeld3
import Derived.Test.YtkdnfioihhfmpaaGreatDoorFrame
import Derived.Test.YtkdnfioihhfmpaaGreatDoorSep
import Derived.Test.YtkdnfioihhfmpaaGreatDoorExs
import Derived.Test.YtkdnfioihhfmpaaGreatDoorCards
import Derived.Test.YtkdnfioihhfmpaaGreatDoorTie
namespace Go.Proofs.YtkdnfioihhfmpaaGreatDoor
open Go.RowKit

def bt (b : ByteArray) : List UInt8 := b.data.toList
theorem bt_app (a b : ByteArray) : bt (a ++ b) = bt a ++ bt b := data_app a b
theorem bt_inj {a b : ByteArray} (h : bt a = bt b) : a = b := ByteArray.ext (Array.toList_inj.1 h)
theorem bt_ext (s : ByteArray) (a b : Nat) : bt (s.extract a b) = ((bt s).drop a).take (b - a) := by
  unfold bt
  rw [ByteArray.data_extract, Array.toList_extract, List.extract_eq_take_drop]
theorem bt_len (s : ByteArray) : (bt s).length = s.size := by unfold bt; have := Lib.size_eq s; omega
theorem bt_drop (s : ByteArray) (k : Nat) (h : k < s.size) : (bt s).drop k = s[k] :: (bt s).drop (k + 1) := by
  have := data_at s k h
  obtain ⟨hl, he⟩ := List.getElem?_eq_some_iff.1 this
  unfold bt
  rw [List.drop_eq_getElem_cons hl, he]
/-- The pieces of a list of bytes; behind a comma the space is left out. -/
def cutL : List UInt8 → Bool → Int → List UInt8 → List (List UInt8)
  | [], _, _, cur => [cur]
  | c :: l, sk, d, cur =>
    if sk = true then cutL l false d []
    else if c = 40 then cutL l false (d + 1) (cur ++ [c])
    else if c = 41 then cutL l false (d - 1) (cur ++ [c])
    else if d = 0 ∧ c = 44 ∧ l.head? = some 32 then cur :: cutL l true d []
    else cutL l false d (cur ++ [c])
theorem pre_iff {s : ByteArray} {k : Nat} (h : k < s.size) : preB (s.extract k s.size) ⟨#[44, 32]⟩ = true ↔ s[k] = 44 ∧ ((bt s).drop (k + 1)).head? = some 32 := by
  constructor
  · intro hp
    obtain ⟨hr, hq⟩ := (pre_at h).1 hp
    obtain ⟨q1, q2⟩ := pre_char h hq
    refine ⟨q1, ?_⟩
    rw [bt_drop s (k + 1) (by omega), q2 (by omega)]; rfl
  · rintro ⟨h1, h2⟩
    have hr : k + 1 < s.size := by
      by_cases hh : k + 1 < s.size
      · exact hh
      · rw [List.drop_of_length_le (by rw [bt_len]; omega)] at h2; simp at h2
    rw [bt_drop s (k + 1) hr] at h2
    simp only [List.head?_cons, Option.some.injEq] at h2
    refine (pre_at h).2 ⟨by omega, ?_⟩
    rw [Lib.toList_data, beq_iff_eq]
    show bt (s.extract k (k + 2)) = _
    rw [bt_ext, bt_drop s k h, bt_drop s (k + 1) hr, h1, h2, show k + 2 - k = 2 by omega]
    rfl
theorem take_more1 (l : List UInt8) (b k : Nat) (h : b ≤ k) (hk : k < l.length) : (l.drop b).take (k + 1 - b) = (l.drop b).take (k - b) ++ [l[k]] := by
  rw [show k + 1 - b = (k - b) + 1 by omega, List.take_succ_eq_append_getElem (by rw [List.length_drop]; omega)]
  congr 2
  rw [List.getElem_drop]
  congr 1
  omega
theorem pcs_list (s : ByteArray) : ∀ (n k b : Nat) (d : Int), k + n = s.size → b ≤ s.size →
    (b ≤ k → (pcs s n b d).map bt = cutL ((bt s).drop k) false d (((bt s).drop b).take (k - b))) ∧ (b = k + 1 → (∃ h : k < s.size, s[k] = 32) → (pcs s n b d).map bt = cutL ((bt s).drop k) true d [])
  | 0, k, b, d, hk, hb => by
    refine ⟨fun h => ?_, fun h _ => absurd h (by omega)⟩
    rw [pcs, List.drop_of_length_le (by rw [bt_len]; omega : (bt s).length ≤ k), cutL, List.map_singleton, bt_ext, show k = s.size by omega]
  | n + 1, k, b, d, hk, hb => by
    have hlt : k < s.size := by omega
    have e : n + 1 = s.size - k := by omega
    have e2 : s.size - (k + 1) = n := by omega
    have hkl : k < (bt s).length := by rw [bt_len]; exact hlt
    have hgk : (bt s)[k] = s[k]'hlt := by
      have := bt_drop s k hlt
      rw [List.drop_eq_getElem_cons hkl] at this
      exact (List.cons.inj this).1
    rw [e, pcs_step hlt, e2, bt_drop s k hlt]
    refine ⟨fun h => ?_, fun h hx => ?_⟩
    · have hcur := take_more1 (bt s) b k h hkl
      rw [hgk] at hcur
      rw [cutL, if_neg (show ¬ (false = true) by simp)]
      by_cases c1 : s[k]'hlt = 40
      · rw [if_pos c1, if_pos c1, ← hcur]; exact (pcs_list s n (k + 1) b _ (by omega) hb).1 (by omega)
      rw [if_neg c1, if_neg c1]
      by_cases c2 : s[k]'hlt = 41
      · rw [if_pos c2, if_pos c2, ← hcur]; exact (pcs_list s n (k + 1) b _ (by omega) hb).1 (by omega)
      rw [if_neg c2, if_neg c2]
      by_cases c3 : d = 0 ∧ preB (s.extract k s.size) ⟨#[44, 32]⟩ = true
      · obtain ⟨q1, q2⟩ := (pre_iff hlt).1 c3.2
        obtain ⟨hr, hq⟩ := (pre_at hlt).1 c3.2
        rw [if_pos c3, if_pos ⟨c3.1, q1, q2⟩, List.map_cons, bt_ext]
        congr 1
        exact (pcs_list s n (k + 1) (k + 2) d (by omega) hr).2 rfl ⟨by omega, (pre_char hlt hq).2 (by omega)⟩
      · rw [if_neg c3, if_neg (fun h => c3 ⟨h.1, (pre_iff hlt).2 h.2⟩), ← hcur]; exact (pcs_list s n (k + 1) b d (by omega) hb).1 (by omega)
    · obtain ⟨_, hx⟩ := hx
      rw [cutL, if_pos rfl, if_neg (by rw [hx]; decide), if_neg (by rw [hx]; decide), if_neg (fun h => by have := ((pre_iff hlt).1 h.2).1; rw [hx] at this; exact absurd this (by decide))]
      have := (pcs_list s n (k + 1) b d (by omega) hb).1 (by omega)
      rw [h, Nat.sub_self, List.take_zero] at this
      rw [h]; exact this
/-- Bytes that are passed without a cut. -/
def Pass (d : Int) (l : List UInt8) : Prop := ∀ rest cur, cutL (l ++ rest) false d cur = cutL rest false d (cur ++ l)
theorem Pass.nil (d : Int) : Pass d [] := fun rest cur => by simp
theorem Pass.app {d : Int} {l m : List UInt8} (h : Pass d l) (k : Pass d m) : Pass d (l ++ m) := fun rest cur => by
  rw [List.append_assoc, h, k, List.append_assoc]
def PlainC (c : UInt8) : Prop := c ≠ 40 ∧ c ≠ 41 ∧ c ≠ 44 ∧ c ≠ 32
theorem Pass.one {d : Int} {c : UInt8} (h1 : c ≠ 40) (h2 : c ≠ 41) (h3 : ¬ (d = 0 ∧ c = 44)) : Pass d [c] := fun rest cur => by
  rw [List.singleton_append, cutL, if_neg (by simp), if_neg h1, if_neg h2, if_neg (fun h => h3 ⟨h.1, h.2.1⟩)]
theorem Pass.plain {d : Int} : ∀ {l : List UInt8}, (∀ c ∈ l, c ≠ 40 ∧ c ≠ 41 ∧ c ≠ 44) → Pass d l
  | [], _ => Pass.nil d
  | c :: l, h => by
    have h1 := h c (List.mem_cons_self ..)
    exact Pass.app (l := [c]) (Pass.one h1.1 h1.2.1 (fun e => h1.2.2 e.2)) (Pass.plain (fun x hx => h x (List.mem_cons_of_mem _ hx)))
theorem Pass.paren {d : Int} {l : List UInt8} (h : Pass (d + 1) l) : Pass d (40 :: (l ++ [41])) := fun rest cur => by
  rw [List.cons_append, cutL, if_neg (by simp), if_pos rfl, List.append_assoc, h, List.singleton_append, cutL, if_neg (by simp), if_neg (by decide), if_pos rfl, show d + 1 - 1 = d by omega]
  simp
theorem name_all {l : List UInt8} (h : isNameB l = true) : ∀ c ∈ l, nameByte c = true := by
  unfold isNameB at h
  simp only [Bool.and_eq_true, decide_eq_true_eq] at h
  obtain ⟨⟨h1, _⟩, h3⟩ := h
  cases l with
  | nil => simp at h1
  | cons c r =>
    rw [nameLen] at h3
    by_cases hc : letterI c.toNat = true
    · rw [if_pos hc, List.length_cons] at h3
      have := (tail_all r).1 (by omega)
      intro x hx
      rcases List.mem_cons.1 hx with rfl | hx
      · unfold nameByte; rw [hc]; rfl
      · exact (List.all_eq_true.1 this) x hx
    · rw [if_neg hc, List.length_cons] at h3; omega
theorem nameByte_plain {c : UInt8} (h : nameByte c = true) : PlainC c := by
  refine ⟨?_, ?_, ?_, ?_⟩ <;> (rintro rfl; exact absurd h (by decide))
theorem word_plain (s : Int) : ∀ c ∈ bt (wordB s), PlainC c := by
  have key : ∀ w : ByteArray, (w.data.toList.all (fun c => c != 40 && c != 41 && c != 44 && c != 32)) = true → ∀ c ∈ bt w, PlainC c := by
    intro w hw c hc
    have := (List.all_eq_true.1 hw) c hc
    simp only [Bool.and_eq_true, bne_iff_ne] at this
    exact ⟨this.1.1.1, this.1.1.2, this.1.2, this.2⟩
  unfold wordB
  split
  · exact key _ (by decide)
  · split
    · exact key _ (by decide)
    · split
      · exact key _ (by decide)
      · split
        · exact key _ (by decide)
        · split
          · exact key _ (by decide)
          · exact key _ (by decide)
theorem leaf_plain {k s : Int} {n : ByteArray} (hn : isNameB n.data.toList = true) (hk : k = 1 ∨ k = 2) : ∀ c ∈ bt (textT (.mk k n s [])), PlainC c := by
  have hN : ∀ c ∈ bt n, PlainC c := fun c hc => nameByte_plain (name_all hn c hc)
  have hQ : ∀ c ∈ bt bQ, PlainC c := fun c hc => by
    have : c = 63 := by simpa [bt, bQ] using hc
    subst this; exact ⟨by decide, by decide, by decide, by decide⟩
  have hC : ∀ c ∈ bt bColon, PlainC c := fun c hc => by
    have : c = 58 := by simpa [bt, bColon] using hc
    subst this; exact ⟨by decide, by decide, by decide, by decide⟩
  intro c hc
  rw [textT] at hc
  rcases hk with rfl | rfl
  · rw [if_pos rfl] at hc
    by_cases hs : s = 0
    · rw [if_pos hs, bt_app] at hc
      rcases List.mem_append.1 hc with h | h
      · exact hQ c h
      · exact hN c h
    · rw [if_neg hs, bt_app, bt_app, bt_app] at hc
      rcases List.mem_append.1 hc with h | h
      · rcases List.mem_append.1 h with h | h
        · rcases List.mem_append.1 h with h | h
          · exact hQ c h
          · exact hN c h
        · exact hC c h
      · exact word_plain s c h
  · rw [if_neg (by decide), if_pos rfl, bt_app, bt_app] at hc
    rcases List.mem_append.1 hc with h | h
    · rcases List.mem_append.1 h with h | h
      · exact hN c h
      · exact hC c h
    · exact word_plain s c h
theorem pass_text (t : Tm) : nodesE t = 0 → ∀ d, 0 ≤ d → Pass d (bt (textT t)) := by
  refine Tm.rec (motive_1 := fun t => nodesE t = 0 → ∀ d, 0 ≤ d → Pass d (bt (textT t))) (motive_2 := fun ks => nodesL ks = 0 → ∀ d, 1 ≤ d → Pass d (bt (headJ ks)) ∧ Pass d (bt (tailJ ks))) ?_ ?_ ?_ t
  · intro k n s ks ih h d hd
    obtain ⟨h1, h2⟩ := nodesE_parts h
    obtain ⟨hn, _, hk⟩ := node_cases h1
    rcases hk with ⟨hk, rfl⟩ | ⟨rfl, _, _⟩
    · exact Pass.plain (fun c hc => by have := leaf_plain (s := s) hn hk c hc; exact ⟨this.1, this.2.1, this.2.2.1⟩)
    · rw [textT_app3, bt_app, bt_app, bt_app]
      refine Pass.app (Pass.plain (fun c hc => by have := nameByte_plain (name_all hn c hc); exact ⟨this.1, this.2.1, this.2.2.1⟩)) ?_
      exact Pass.paren (ih h2 (d + 1) (by omega)).1
  · intro _ d _
    exact ⟨by simpa [headJ, bt] using Pass.nil d, by simpa [tailJ, bt] using Pass.nil d⟩
  · intro t ts h3 h4 h d hd
    rw [nodesL] at h
    by_cases h0 : nodesE t = 0
    · rw [if_pos h0] at h
      have p1 := h3 h0 d (by omega)
      have p2 := (h4 h d hd).2
      refine ⟨by rw [headJ, bt_app]; exact p1.app p2, ?_⟩
      rw [tailJ, bt_app, bt_app]
      refine Pass.app ?_ (p1.app p2)
      exact Pass.app (l := [44]) (m := [32]) (Pass.one (by decide) (by decide) (fun e => by omega)) (Pass.one (by decide) (by decide) (fun e => absurd e.2 (by decide)))
    · rw [if_neg h0] at h; exact absurd h h0

/-- A binding's text. -/
def textB (b : Bd) : ByteArray := (textT b.1 ++ bEq) ++ textT b.2
theorem fmt_joinB : ∀ (bs : List Bd) (acc : ByteArray) (f : Bool), bs ≠ [] → fmtA acc f bs = (if f then acc ++ bComma else acc) ++ joinP (bs.map textB)
  | [], _, _, h => absurd rfl h
  | b :: bs, acc, f, _ => by
    rw [fmtA]
    have e : (((if f then acc ++ bComma else acc) ++ textT b.1) ++ bEq) ++ textT b.2 = (if f then acc ++ bComma else acc) ++ textB b := by
      unfold textB
      simp only [ByteArray.append_assoc]
    rw [e]
    generalize (if f then acc ++ bComma else acc) = X
    cases bs with
    | nil => rfl
    | cons c bs =>
      rw [fmt_joinB (c :: bs) (X ++ textB b) true (by simp)]
      simp only [if_true, List.map_cons, joinP, ByteArray.append_assoc]
theorem cut_join : ∀ (ps : List ByteArray) (p : ByteArray) (cur : List UInt8), (∀ q ∈ p :: ps, Pass 0 (bt q)) → cutL (bt (joinP (p :: ps))) false 0 cur = (cur ++ bt p) :: ps.map bt
  | [], p, cur, h => by
    have := h p (List.mem_cons_self ..) [] cur
    rw [List.append_nil] at this
    rw [joinP, this, cutL]; rfl
  | q :: ps, p, cur, h => by
    have hp := h p (List.mem_cons_self ..) (bt (bComma ++ joinP (q :: ps))) cur
    rw [joinP, bt_app, hp, bt_app]
    have hc : bt bComma = [44, 32] := rfl
    rw [hc]
    show cutL (44 :: 32 :: bt (joinP (q :: ps))) false 0 (cur ++ bt p) = _
    rw [cutL, if_neg (by simp), if_neg (by decide), if_neg (by decide), if_pos ⟨rfl, rfl, rfl⟩, cutL, if_pos rfl, cut_join ps q [] (fun r hr => h r (List.mem_cons_of_mem _ hr)), List.nil_append, List.map_cons]
theorem pass_textB {b : Bd} (h : bindE b.1 b.2 = 0) : Pass 0 (bt (textB b)) := by
  obtain ⟨h1, h2⟩ := bindE_valid h
  unfold textB
  rw [bt_app, bt_app]
  refine Pass.app (Pass.app (pass_text _ (validE_nodes h1) 0 (by omega)) ?_) (pass_text _ (validE_nodes h2) 0 (by omega))
  exact Pass.plain (fun c hc => by
    have : c = 32 ∨ c = 61 ∨ c = 32 := by
      have e : bt bEq = [32, 61, 32] := rfl
      rw [e] at hc
      simp at hc; exact hc
    rcases this with rfl | rfl | rfl <;> exact ⟨by decide, by decide, by decide⟩)
theorem map_bt_inj : ∀ {l m : List ByteArray}, l.map bt = m.map bt → l = m
  | [], [], _ => rfl
  | [], _ :: _, h => by simp at h
  | _ :: _, [], h => by simp at h
  | a :: l, b :: m, h => by
    rw [List.map_cons, List.map_cons] at h
    obtain ⟨h1, h2⟩ := List.cons.inj h
    rw [bt_inj h1, map_bt_inj h2]
/-- The pieces of the text of bindings are theirs. -/
theorem pieces_text {bs : List Bd} (h : ∀ b ∈ bs, bindE b.1 b.2 = 0) : piecesP (joinP (bs.map textB)) = bs.map textB := by
  cases bs with
  | nil => rfl
  | cons b bs =>
    have hpass : ∀ q ∈ textB b :: bs.map textB, Pass 0 (bt q) := by
      intro q hq
      rw [← List.map_cons] at hq
      obtain ⟨c, hc, rfl⟩ := List.mem_map.1 hq
      exact pass_textB (h c hc)
    have hj := cut_join (bs.map textB) (textB b) [] hpass
    rw [List.map_cons]
    generalize joinP (textB b :: bs.map textB) = x at hj
    have hne : ¬ x.size = 0 := by
      intro h0
      have : bt x = [] := List.length_eq_zero_iff.1 (by rw [bt_len]; exact h0)
      rw [this, cutL, List.nil_append] at hj
      obtain ⟨h1, _⟩ := List.cons.inj hj
      have h2 := congrArg List.length h1
      rw [bt_len] at h2
      unfold textB at h2
      rw [ByteArray.size_append, ByteArray.size_append] at h2
      have : bEq.size = 3 := rfl
      simp at h2
      omega
    apply map_bt_inj
    unfold piecesP
    rw [if_neg hne]
    have := (pcs_list x x.size 0 0 0 (by omega) (by omega)).1 (Nat.le_refl _)
    rw [this]
    simpa using hj

theorem occ_head {l : List UInt8} {j : Nat} (h : Lib.occAt l [32, 61, 32] j = true) : (l.drop j).head? = some 32 := by
  unfold Lib.occAt at h
  rw [List.isPrefixOf_iff_prefix] at h
  obtain ⟨r, hr⟩ := h
  rw [← hr]; rfl
/-- The sign of a binding's text is the first one there. -/
theorem eqAt_textB {v : ByteArray} (r : ByteArray) (hv : ∀ c ∈ bt v, PlainC c) : eqAt ((v ++ bEq) ++ r) = (v.size : Int) := by
  have hb : bt ((v ++ bEq) ++ r) = bt v ++ ([32, 61, 32] ++ bt r) := by
    rw [bt_app, bt_app, List.append_assoc]; rfl
  have hl : (bt v).length = v.size := bt_len v
  unfold eqAt
  show Lib.index (bt ((v ++ bEq) ++ r)) [32, 61, 32] = _
  rw [hb]
  refine Lib.index_hit (fun j hj => ?_) (by rw [List.length_append]; omega) ?_
  · cases ho : Lib.occAt (bt v ++ ([32, 61, 32] ++ bt r)) [32, 61, 32] j with
    | false => rfl
    | true =>
      exfalso
      have := occ_head ho
      have hjl : j < (bt v).length := by omega
      rw [List.drop_append_of_le_length (by omega), List.drop_eq_getElem_cons hjl, List.cons_append, List.head?_cons, Option.some.injEq] at this
      exact (hv _ (List.getElem_mem hjl)).2.2.2 this
  · unfold Lib.occAt
    rw [← hl, List.drop_left, List.isPrefixOf_iff_prefix]
    exact List.prefix_append _ _
theorem sides_textB {v r : ByteArray} (hv : ∀ c ∈ bt v, PlainC c) : hasEq ((v ++ bEq) ++ r) = true ∧ lftP ((v ++ bEq) ++ r) = v ∧ rgtP ((v ++ bEq) ++ r) = r := by
  have he := eqAt_textB r hv
  have hb : bt ((v ++ bEq) ++ r) = bt v ++ ([32, 61, 32] ++ bt r) := by
    rw [bt_app, bt_app, List.append_assoc]; rfl
  have hl : (bt v).length = v.size := bt_len v
  refine ⟨decide_eq_true (by rw [he]; omega), ?_, ?_⟩
  · apply bt_inj
    unfold lftP
    rw [he, bt_ext, hb]
    simp [← hl]
  · apply bt_inj
    unfold rgtP
    rw [he, bt_ext, hb, ← bt_len, hb, Int.toNat_natCast, ← hl, ← List.drop_drop, List.drop_left]
    show List.take _ (bt r) = bt r
    exact List.take_of_length_le (by simp; omega)
theorem parse_ok {t : Tm} (h : validE t = 0) : parseP (textT t) = (t, 0) := by
  have hn := validE_nodes h
  unfold validE at h
  rw [if_pos hn] at h
  by_cases e : 400 < size t ∨ 40 < depth t
  · rw [if_pos e] at h; exact absurd h (by decide)
  · exact parse_text t hn (by omega) (by omega)
theorem var_text_plain {v t : Tm} (h : bindE v t = 0) : ∀ c ∈ bt (textT v), PlainC c := by
  have h1 := (bindE_valid h).1
  have hk : v.kind = 1 := by
    unfold bindE at h
    rw [if_pos h1] at h
    by_cases e2 : ¬ v.kind = 1 ∨ cmpT v t = 0
    · rw [if_pos e2] at h; exact absurd h (by decide)
    · by_cases hk : v.kind = 1
      · exact hk
      · exact absurd (Or.inl hk) e2
  obtain ⟨k, n, s, ks⟩ := v
  simp only [Tm.kind] at hk
  subst hk
  have hN := (nodesE_parts (validE_nodes h1)).1
  obtain ⟨hn, _, hc⟩ := node_cases hN
  rcases hc with ⟨_, rfl⟩ | ⟨hc, _⟩
  · exact leaf_plain hn (Or.inl rfl)
  · exact absurd hc (by decide)
theorem bd_back {R1 R2 : Tm × Int} {u w : Tm} (h1 : R1 = (u, 0)) (h2 : R2 = (w, 0)) : (if R1.2 = 0 then R2.2 else R1.2) = 0 ∧ (if (if R1.2 = 0 then R2.2 else R1.2) = 0 then (R1.1, R2.1) else (zeroT, zeroT)) = (u, w) := by
  subst h1 h2; exact ⟨rfl, rfl⟩
theorem piece_back {b : Bd} (h : bindE b.1 b.2 = 0) : hasEq (textB b) = true ∧ errP (textB b) = 0 ∧ bdP (textB b) = b := by
  obtain ⟨h1, h2⟩ := bindE_valid h
  obtain ⟨e1, e2, e3⟩ := sides_textB (r := textT b.2) (var_text_plain h)
  have p1 : parseP (lftP (textB b)) = (b.1, 0) := by
    show parseP (lftP ((textT b.1 ++ bEq) ++ textT b.2)) = _
    rw [e2]; exact parse_ok h1
  have p2 : parseP (rgtP (textB b)) = (b.2, 0) := by
    show parseP (rgtP ((textT b.1 ++ bEq) ++ textT b.2)) = _
    rw [e3]; exact parse_ok h2
  obtain ⟨q1, q2⟩ := bd_back p1 p2
  exact ⟨e1, q1, q2⟩
theorem rest_back {bs : List Bd} (h : ∀ b ∈ bs, bindE b.1 b.2 = 0) : (bs.map textB).all hasEq = true ∧ firstE (bs.map textB) = 0 ∧ (bs.map textB).map bdP = bs := by
  induction bs with
  | nil => exact ⟨rfl, rfl, rfl⟩
  | cons b bs ih =>
    obtain ⟨i1, i2, i3⟩ := ih (fun c hc => h c (List.mem_cons_of_mem _ hc))
    obtain ⟨e1, e2, e3⟩ := piece_back (h b (List.mem_cons_self ..))
    refine ⟨by rw [List.map_cons, List.all_cons, e1, i1]; rfl, ?_, by rw [List.map_cons, List.map_cons, e3, i3]⟩
    rw [List.map_cons, firstE_cons]
    generalize errP (textB b) = x at e2
    subst e2
    rw [if_pos rfl]; exact i2
/-- The text of a valid substitution, taken apart. -/
theorem text_shape (bs : List Bd) : fmtA bLbr false bs = bLbr ++ joinP (bs.map textB) := by
  by_cases h : bs = []
  · subst h; simp [fmtA, joinP]
  · rw [fmt_joinB bs bLbr false h]; rfl
theorem restP_back {bs : List Bd} (hv : validB bs = 0) : restP (piecesP (joinP (bs.map textB))) = (bs, 0) := by
  have hb := (validB_ok hv).2.1
  obtain ⟨i1, i2, i3⟩ := rest_back hb
  rw [pieces_text hb]
  unfold restP
  rw [if_pos i1, if_pos i2, i3, if_pos hv]
end Go.Proofs.YtkdnfioihhfmpaaGreatDoor

/-
  THE WALK OF the reference's Format of a substitution.
-/
namespace Go.Proofs.YtkdnfioihhfmpaaGreatDoor
open Go.RowKit

set_option maxHeartbeats 3200000 in
set_option maxRecDepth 100000 in
theorem rsFormat_any (bs : List Bd) (xa : Option Addr) (cap : Nat) (w : World) (hcap : bs.length ≤ cap) (hlen : bs.length ≤ 1073741824) (hsz : SzB 1073741824 bs) (hR : Row w (flatB bs) xa) :
    Calls Tryz.prog 17 #[.slice xa bs.length cap] w fun e w' => e = .returned (.tuple #[.string (formS bs).1, .int .i64 (formS bs).2]) ∧ Ext w w' := by
  have HV := Lib.hid (rbvalid_any bs xa cap w hcap (by unfold maxLen; omega) hsz hR)
  have HD : Hid (formS bs = if validB bs = 0 then (fmtA bLbr false bs ++ bRbr, 0) else (⟨#[]⟩, validB bs)) := rfl
  by_cases hv : validB bs = 0
  rotate_left
  · have HF : Hid (formS bs = (⟨#[]⟩, validB bs)) := by show _ = _; rw [HD.out, if_neg hv]
    rw [HF.out]
    have q1 : (validB bs != 0) = true := by rw [bne_iff_ne]; exact hv
    generalize validB bs = V at HV q1 ⊢
    clear hv hcap hlen hsz hR
    go_enter Tryz.func17, Tryz.ntmps17
    go_wp2_with (go_at_call 38; refine (HV.out).mono ?_; rintro e w1 ⟨he, hB⟩; subst he; have HB1 := Lib.hid hB; clear hB)
    go_ret2
    exact ⟨rfl, HB1.out⟩
  rw [hv] at HV
  have HF : Hid (formS bs = (fmtA bLbr false bs ++ bRbr, 0)) := by show _ = _; rw [HD.out, if_pos hv]
  rw [HF.out]
  obtain ⟨h200, hb2, _⟩ := validB_ok hv
  have HFZ := Lib.hid (fun j hj => fmtA_size bs hb2 j hj)
  have HBV := Lib.hid (fun (j : Nat) (h : j < bs.length) => bindE_valid (hb2 _ (List.getElem_mem h)))
  have HR := Lib.hid hR
  have HTK := Lib.hid (fun (j : Nat) (h : j < bs.length) => fmtA_take bs bLbr j h)
  have hl0 : (bs.length : Int) ≤ 200 := by omega
  have HAT : Hid (⟨#[123]⟩ = fmtA bLbr false (bs.take 0)) := by show _ = _; simp [fmtA, bLbr]
  have HEND : Hid (∀ j, bs.length ≤ j → fmtA bLbr false (bs.take j) ++ bRbr = fmtA bLbr false bs ++ bRbr) := fun j h => by rw [List.take_of_length_le h]
  clear hv hsz hR HD HF hb2
  go_enter Tryz.func17, Tryz.ntmps17
  go_wp2_with (go_at_call 38; refine (HV.out).mono ?_; rintro e w1 ⟨he, hB⟩; subst he; have HB1 := Lib.hid hB; clear hB)
  go_loopw [5, 6] (fun o i wr => ∃ j : Nat, j ≤ bs.length ∧ i = .int .i64 j ∧ o = .string (fmtA bLbr false (bs.take j)) ∧ Ext w wr) (fun _ i _ => bs.length - (intOf i).toNat)
  case atStart => exact ⟨0, Nat.zero_le _, rfl, by rw [← HAT.out], HB1.out⟩
  case round =>
    obtain ⟨j, hj, rfl, rfl, hE⟩ := hrel
    have HE := Lib.hid hE
    have hfz := HFZ.out j hj
    by_cases hlt : j < bs.length
    rotate_left
    · have HJ := Lib.hid (HEND.out j (by omega))
      generalize fmtA bLbr false (bs.take j) = A at hfz HJ ⊢
      have m0 : A.size + 1 ≤ 9223372036854775807 := by omega
      clear hE hfz
      go_wp2_with fail
      go_ret2
      exact ⟨by rw [← HJ.out]; rfl, HE.out⟩
    obtain ⟨b, o, rfl⟩ := Row_at HR.out (by rw [flatB_length]; omega)
    obtain ⟨⟨v0, v1, v2, v3, g0, g1, g2, g3, hIv⟩, t0, t1, t2, t3, g4, g5, g6, g7, hIt⟩ := bds_get (Row_below HR.out hE) j hlt
    obtain ⟨k, n, s, ya, yl, yc, rfl, rfl, rfl, rfl⟩ := Is_form hIv
    obtain ⟨k2, n2, s2, ya2, yl2, yc2, rfl, rfl, rfl, rfl⟩ := Is_form hIt
    obtain ⟨hva, hvb⟩ := HBV.out j hlt
    have hza := text_small hva
    have hzb := text_small hvb
    have HT1 := Lib.hid (fun W (x : Ext wr W) => rText_any (size bs[j].1) bs[j].1 _ _ _ _ W (Nat.le_refl _) (valid_ok _ (validE_nodes hva)) (by omega) (Is_below (w' := W) hIv x))
    have HT2 := Lib.hid (fun W (x : Ext wr W) => rText_any (size bs[j].2) bs[j].2 _ _ _ _ W (Nat.le_refl _) (valid_ok _ (validE_nodes hvb)) (by omega) (Is_below (w' := W) hIt x))
    have HTJ := Lib.hid (HTK.out j hlt)
    generalize textT bs[j].1 = ta at HT1 HTJ hza
    generalize textT bs[j].2 = tb at HT2 HTJ hzb
    have i1 : (0 : Int) ≤ (j : Int) := by omega
    have i2 : (j : Int) < (bs.length : Int) := by omega
    generalize fmtA bLbr false (bs.take j) = A at hfz HTJ ⊢
    have HCr : Hid (∀ W, Ext wr W → W.cell? ⟨b, o + j * 8, none⟩ = some (.int .i64 k) ∧ W.cell? ⟨b, o + j * 8 + 1, none⟩ = some (.string n) ∧ W.cell? ⟨b, o + j * 8 + 2, none⟩ = some (.int .i64 s) ∧ W.cell? ⟨b, o + j * 8 + 3, none⟩ = some (.slice ya yl yc) ∧ W.cell? ⟨b, o + j * 8 + 4, none⟩ = some (.int .i64 k2) ∧ W.cell? ⟨b, o + j * 8 + 4 + 1, none⟩ = some (.string n2) ∧ W.cell? ⟨b, o + j * 8 + 4 + 2, none⟩ = some (.int .i64 s2) ∧ W.cell? ⟨b, o + j * 8 + 4 + 3, none⟩ = some (.slice ya2 yl2 yc2)) := fun W h => ⟨keep_below h _ _ g0, keep_below h _ _ g1, keep_below h _ _ g2, keep_below h _ _ g3, keep_below h _ _ g4, keep_below h _ _ g5, keep_below h _ _ g6, keep_below h _ _ g7⟩
    have hF0 : Ext wr wr.drew := (Ext.refl wr).drew
    have tok1 : True := trivial
    have HFZ2 := Lib.hid hfz
    clear hE hIv hIt hva hvb
    by_cases h0 : 0 < j
    · have HX0 : Hid (fmtA bLbr false (bs.take (j + 1)) = (((A ++ bComma) ++ ta) ++ bEq) ++ tb) := by show _ = _; rw [HTJ.out, if_pos h0]
      have e3 : decide (0 < j) = true := decide_eq_true h0
      have m0 : A.size + 2 ≤ 9223372036854775807 := by omega
      clear h0
      go_upto_region 10 with (fail)
      have hxz : (A ++ (⟨#[44, 32]⟩ : ByteArray)).size ≤ A.size + 2 := by rw [ByteArray.size_append]; exact Nat.le_refl _
      have HX : Hid (fmtA bLbr false (bs.take (j + 1)) = (((A ++ (⟨#[44, 32]⟩ : ByteArray)) ++ ta) ++ bEq) ++ tb) := HX0.out
      generalize A ++ (⟨#[44, 32]⟩ : ByteArray) = X at hxz HX ⊢
      have m1 : ¬ 9223372036854775807 < X.size + ta.size := by omega
      have m2 : ¬ 9223372036854775807 < X.size + ta.size + 3 := by omega
      have m3 : ¬ 9223372036854775807 < X.size + ta.size + 3 + tb.size := by omega
      clear hza hzb hfz m0 hxz
      go_region_held3 (fun W => W.cell? ⟨b, o + j * 8, none⟩ = some (.int .i64 k) ∧ W.cell? ⟨b, o + j * 8 + 1, none⟩ = some (.string n) ∧ W.cell? ⟨b, o + j * 8 + 2, none⟩ = some (.int .i64 s) ∧ W.cell? ⟨b, o + j * 8 + 3, none⟩ = some (.slice ya yl yc) ∧ W.cell? ⟨b, o + j * 8 + 4, none⟩ = some (.int .i64 k2) ∧ W.cell? ⟨b, o + j * 8 + 4 + 1, none⟩ = some (.string n2) ∧ W.cell? ⟨b, o + j * 8 + 4 + 2, none⟩ = some (.int .i64 s2) ∧ W.cell? ⟨b, o + j * 8 + 4 + 3, none⟩ = some (.slice ya2 yl2 yc2))
        (first | exact HCr.out _ (by assumption) | go_keep)
        (first
          | (go_at_call 39; (first
              | (have _t := tok1; refine (HT1.out _ hF0).mono ?_; rintro e w4 ⟨he, hB⟩; subst he; have hF1 : Ext wr w4 := hF0.trans hB; clear hB tok1)
              | (refine (HT2.out _ hF1).mono ?_; rintro e w5 ⟨he, hB⟩; subst he; have hF2 : Ext wr w5 := hF1.trans hB; clear hB))))
      go_wp2_with fail
      go_roundw
      case rel => exact ⟨j + 1, by omega, by go_num, by rw [HX.out]; rfl, Ext.trans HE.out hF2⟩
      case measure => simp [intOf]; omega
    · have HX0 : Hid (fmtA bLbr false (bs.take (j + 1)) = ((A ++ ta) ++ bEq) ++ tb) := by show _ = _; rw [HTJ.out, if_neg h0]
      have e3 : decide (0 < j) = false := decide_eq_false h0
      clear h0
      go_upto_region 10 with (fail)
      obtain ⟨X, hXA⟩ : ∃ X, X = A := ⟨_, rfl⟩
      subst hXA
      have HX := HX0
      have m1 : ¬ 9223372036854775807 < X.size + ta.size := by omega
      have m2 : ¬ 9223372036854775807 < X.size + ta.size + 3 := by omega
      have m3 : ¬ 9223372036854775807 < X.size + ta.size + 3 + tb.size := by omega
      clear hza hzb hfz 
      go_region_held3 (fun W => W.cell? ⟨b, o + j * 8, none⟩ = some (.int .i64 k) ∧ W.cell? ⟨b, o + j * 8 + 1, none⟩ = some (.string n) ∧ W.cell? ⟨b, o + j * 8 + 2, none⟩ = some (.int .i64 s) ∧ W.cell? ⟨b, o + j * 8 + 3, none⟩ = some (.slice ya yl yc) ∧ W.cell? ⟨b, o + j * 8 + 4, none⟩ = some (.int .i64 k2) ∧ W.cell? ⟨b, o + j * 8 + 4 + 1, none⟩ = some (.string n2) ∧ W.cell? ⟨b, o + j * 8 + 4 + 2, none⟩ = some (.int .i64 s2) ∧ W.cell? ⟨b, o + j * 8 + 4 + 3, none⟩ = some (.slice ya2 yl2 yc2))
        (first | exact HCr.out _ (by assumption) | go_keep)
        (first
          | (go_at_call 39; (first
              | (have _t := tok1; refine (HT1.out _ hF0).mono ?_; rintro e w4 ⟨he, hB⟩; subst he; have hF1 : Ext wr w4 := hF0.trans hB; clear hB tok1)
              | (refine (HT2.out _ hF1).mono ?_; rintro e w5 ⟨he, hB⟩; subst he; have hF2 : Ext wr w5 := hF1.trans hB; clear hB))))
      go_wp2_with fail
      go_roundw
      case rel => exact ⟨j + 1, by omega, by go_num, by rw [HX.out]; rfl, Ext.trans HE.out hF2⟩
      case measure => simp [intOf]; omega
end Go.Proofs.YtkdnfioihhfmpaaGreatDoor

/-
  THE WALK OF the law SubstText, the chapter's examples by hypothesis.
-/
namespace Go.Proofs.YtkdnfioihhfmpaaGreatDoor
open Go.RowKit

theorem text_bt (J : ByteArray) : bt ((bLbr ++ J) ++ bRbr) = 123 :: (bt J ++ [125]) := by
  rw [bt_app, bt_app]; rfl
theorem text_at {J : ByteArray} {T : ByteArray} (hT : T = (bLbr ++ J) ++ bRbr) : T.size = J.size + 1 + 1 ∧ (∀ h : 0 < T.size, T[0] = 123) ∧ (∀ h : J.size + 1 < T.size, T[J.size + 1] = 125) ∧ T.extract 1 (J.size + 1) = J := by
  have hb : bt T = 123 :: (bt J ++ [125]) := by rw [hT]; exact text_bt J
  have hl := bt_len J
  have hz : T.size = J.size + 1 + 1 := by
    have := bt_len T
    rw [hb] at this
    simp at this
    omega
  refine ⟨hz, fun h => ?_, fun h => ?_, ?_⟩
  · have := data_at T 0 h
    have e : T.data.toList = 123 :: (bt J ++ [125]) := hb
    rw [e] at this
    simpa using this.symm
  · have := data_at T (J.size + 1) h
    have e : T.data.toList = 123 :: (bt J ++ [125]) := hb
    rw [e, List.getElem?_cons_succ, List.getElem?_append_right (by omega), hl, Nat.sub_self] at this
    simpa using this.symm
  · apply bt_inj
    rw [bt_ext, hb, List.drop_one, List.tail_cons, Nat.add_sub_cancel, ← hl, List.take_left]
theorem sparse_text (bs : List Bd) (hv : validB bs = 0) (w : World) (hL : Laid w) (hM : MaxL w) :
    Calls Tryz.prog 18 #[.string (fmtA bLbr false bs ++ bRbr)] w (RcPost w (bs, 0)) := by
  have hb := (validB_ok hv).2.1
  have h200 := (validB_ok hv).1
  have hz := fmtA_size bs hb bs.length (Nat.le_refl _)
  rw [List.take_length, text_shape, ByteArray.size_append] at hz
  have h1 : bLbr.size = 1 := rfl
  rw [text_shape]
  have hrb := restP_back hv
  have hpt := pieces_text hb
  generalize hJ : joinP (bs.map textB) = J at hz hrb hpt ⊢
  obtain ⟨z0, z1, z2, z3⟩ := text_at (J := J) rfl
  generalize (bLbr ++ J) ++ bRbr = T at z0 z1 z2 z3 ⊢
  by_cases hJ0 : 0 < J.size
  · have := sparse_good T (J.size + 1) w hL hM z0 (by omega) (by omega) (by
      rw [z3, hpt]
      intro p hp
      obtain ⟨b, hbm, rfl⟩ := List.mem_map.1 hp
      have e := (piece_back (hb b hbm)).2.2
      rw [e]
      obtain ⟨v1, v2⟩ := bindE_valid (hb b hbm)
      have := vsz v1
      have := vsz v2
      omega) (z1 (by omega)) (z2 (by omega))
    rw [z3, hrb] at this
    exact this
  · have := sparse_good T (J.size + 1) w hL hM z0 (by omega) (by omega) (by
      rw [z3, hpt]
      intro p hp
      obtain ⟨b, hbm, rfl⟩ := List.mem_map.1 hp
      have e := (piece_back (hb b hbm)).2.2
      rw [e]
      obtain ⟨v1, v2⟩ := bindE_valid (hb b hbm)
      have := vsz v1
      have := vsz v2
      omega) (z1 (by omega)) (z2 (by omega))
    rw [z3, hrb] at this
    exact this

set_option maxHeartbeats 1600000 in
set_option maxRecDepth 100000 in
theorem stext_S (HA : Hid Awake2Ok) (bs : List Bd) (xa : Option Addr) (cap : Nat) (w : World) (hL : Laid w) (hM : MaxL w) (hcap : bs.length ≤ cap) (hb : bs.length * 112 ≤ 140737488355328) (hR : Row w (flatB bs) xa) (h1 : few (flatB bs) (2 * ((210 : Nat) : Int)) ((2000 : Nat) : Int) = true) :
    Calls Tryz.prog 4 #[.slice xa bs.length cap] w fun e w' => e = .returned (.bool true) ∧ Below w.heap.size w w' := by
  obtain ⟨hl, hz⟩ := few_binds h1
  have hsz : SzB 1073741824 bs := fun b hb => ⟨by have := (hz b hb).1; omega, by have := (hz b hb).2; omega⟩
  have HL := Lib.hid hL
  have HF := Lib.hid (fun W (x : Ext w W) => few02_any bs xa cap 210 2000 W hb (by omega) (by omega) (by omega) (Row_below (w' := W) hR x))
  have h1' : few (flatB bs) (2 * 210) 2000 = true := h1
  rw [h1'] at HF
  have hMX : ∀ W, Ext w W → MaxL W := fun W x => by obtain ⟨m, hm⟩ := hM; exact ⟨m, keep_below x _ _ hm⟩
  have HG1 := Lib.hid (fun W (x : Ext w W) => sFormat_any bs xa cap W hcap (by omega) hsz (Row_below (w' := W) hR x) (Laid_ext hL x))
  have HG2 := Lib.hid (fun W (x : Ext w W) => rsFormat_any bs xa cap W hcap (by omega) hsz (Row_below (w' := W) hR x))
  have HPA := Lib.hid (fun (hv : validB bs = 0) W (x : Ext w W) => sparse_text bs hv W (Laid_ext hL x) (hMX W x))
  have HSM := Lib.hid (fun ya c W (x : Ext w W) p r => bsame_eq bs ya xa c cap W p hcap (by unfold maxLen; omega) hsz r (Row_below (w' := W) hR x))
  have HD : Hid (formS bs = if validB bs = 0 then (fmtA bLbr false bs ++ bRbr, 0) else (⟨#[]⟩, validB bs)) := rfl
  generalize formS bs = fm at HG1 HG2 HD
  generalize fmtA bLbr false bs ++ bRbr = T at HPA HD
  generalize validB bs = V at HPA HD
  obtain ⟨tx, E⟩ := fm
  simp only at HG1 HG2
  unfold RcPost at HPA
  clear h1 h1' hL hM hMX hcap hb hR hl hz hsz
  have q1 : (tx.toList == tx.toList) = true := by simp
  have q2 : (tx.toList != tx.toList) = false := by simp
  have q3 : (E != E) = false := by simp
  have q4 : (E == E) = true := by simp
  by_cases hV : V = 0
  · subst hV
    have hd := HD.out
    rw [if_pos rfl, Prod.mk.injEq] at hd
    obtain ⟨rfl, rfl⟩ := hd
    have HPB := Lib.hid (HPA.out rfl)
    clear HPA HD
    go_enter Tryz.func4, Tryz.ntmps4
    go_wp2_with (first
      | (go_at_call 6; refine (HA.out _ HL.out).mono ?_; rintro e w1 ⟨he, hB1⟩; subst he; have HB1 := Lib.hid (show Ext w w1 from hB1); clear hB1)
      | (go_at_call 7; refine (HF.out _ HB1.out).mono ?_; rintro e w2 ⟨he, hB2⟩; subst he; have HB2 := Lib.hid (Ext.trans HB1.out hB2); clear hB2)
      | (go_at_call 16; refine (HG1.out _ HB2.out).mono ?_; rintro e w3 ⟨he, hB⟩; subst he; have HB3 := Lib.hid (Ext.trans HB2.out hB); clear hB)
      | (go_at_call 17; refine (HG2.out _ HB3.out).mono ?_; rintro e w4 ⟨he, hB⟩; subst he; have HB4 := Lib.hid (Ext.trans HB3.out hB); clear hB)
      | (go_at_call 18; refine (HPB.out _ HB4.out).mono ?_; rintro e w5 ⟨ya, ca, he, hc, hr, hB⟩; subst he; have HR5 := Lib.hid (And.intro hc hr); have HB5 := Lib.hid (Ext.trans HB4.out hB); clear hc hr hB)
      | (go_at_call 12; refine (HSM.out _ _ _ HB5.out HR5.out.1 HR5.out.2).mono ?_; rintro e w6 ⟨he, hB⟩; subst he; have HB6 := Lib.hid (Ext.trans HB5.out hB); clear hB))
    go_ret
    exact ⟨rfl, HB6.out⟩
  · have hd := HD.out
    rw [if_neg hV, Prod.mk.injEq] at hd
    obtain ⟨rfl, rfl⟩ := hd
    have q5 : (E != 0) = true := by rw [bne_iff_ne]; exact hV
    clear hV HPA HD
    go_enter Tryz.func4, Tryz.ntmps4
    go_wp2_with (first
      | (go_at_call 6; refine (HA.out _ HL.out).mono ?_; rintro e w1 ⟨he, hB1⟩; subst he; have HB1 := Lib.hid (show Ext w w1 from hB1); clear hB1)
      | (go_at_call 7; refine (HF.out _ HB1.out).mono ?_; rintro e w2 ⟨he, hB2⟩; subst he; have HB2 := Lib.hid (Ext.trans HB1.out hB2); clear hB2)
      | (go_at_call 16; refine (HG1.out _ HB2.out).mono ?_; rintro e w3 ⟨he, hB⟩; subst he; have HB3 := Lib.hid (Ext.trans HB2.out hB); clear hB)
      | (go_at_call 17; refine (HG2.out _ HB3.out).mono ?_; rintro e w4 ⟨he, hB⟩; subst he; have HB4 := Lib.hid (Ext.trans HB3.out hB); clear hB))
    go_ret
    exact ⟨rfl, HB4.out⟩

set_option maxHeartbeats 1600000 in
set_option maxRecDepth 100000 in
theorem stext_N (HA : Hid Awake2Ok) (bs : List Bd) (xa : Option Addr) (cap : Nat) (w : World) (hL : Laid w) (hb : bs.length * 112 ≤ 140737488355328) (hR : Row w (flatB bs) xa) (h1 : few (flatB bs) (2 * 210) 2000 = false) :
    Calls Tryz.prog 4 #[.slice xa bs.length cap] w fun e w' => e = .returned (.bool true) ∧ Below w.heap.size w w' := by
  have HL := Lib.hid hL
  have HF := Lib.hid (fun W (x : Ext w W) => few02_any bs xa cap 210 2000 W hb (by omega) (by omega) (by omega) (Row_below (w' := W) hR x))
  rw [h1] at HF
  have tok1 : True := trivial
  clear h1 hL hb hR
  go_enter Tryz.func4, Tryz.ntmps4
  go_wp2_with (first
    | (go_at_call 6; have _t := tok1; refine (HA.out _ HL.out).mono ?_; rintro e w1 ⟨he, hB1⟩; subst he; have HB1 := Lib.hid (show Ext w w1 from hB1); clear hB1 tok1)
    | (go_at_call 6; refine (HA.out _ (Laid_ext HL.out HB2.out)).mono ?_; rintro e w3 ⟨he, hB⟩; subst he; have HB3 := Lib.hid (Ext.trans HB2.out hB); clear hB)
    | (go_at_call 7; refine (HF.out _ HB1.out).mono ?_; rintro e w2 ⟨he, hB2⟩; subst he; have HB2 := Lib.hid (Ext.trans HB1.out hB2); clear hB2))
  go_ret
  exact ⟨rfl, HB3.out⟩
theorem lawSt_any (HA : Awake2Ok) (bs : List Bd) (xa : Option Addr) (cap : Nat) (w : World) (hL : Laid w) (hM : MaxL w) (hcap : bs.length ≤ cap) (hb : bs.length * 112 ≤ 140737488355328) (hR : Row w (flatB bs) xa) :
    Calls Tryz.prog 4 #[.slice xa bs.length cap] w fun e w' => e = .returned (.bool true) ∧ Below w.heap.size w w' := by
  cases h : few (flatB bs) (2 * 210) 2000 with
  | true => exact stext_S (Lib.hid HA) bs xa cap w hL hM hcap hb hR h
  | false => exact stext_N (Lib.hid HA) bs xa cap w hL hb hR h
end Go.Proofs.YtkdnfioihhfmpaaGreatDoor

/- The law SubstText: for every list of bindings, Format returns its text, or its error, as the reference does, and Parse leads back from the text; the law returns true, and the list reads as it did. No condition. -/
namespace Go.Proofs.YtkdnfioihhfmpaaGreatDoor.lawSt
open Go.ChangeShapes Go.WideShapes Go.ChangeAt Go.RowKit

theorem params : Tryz.f4.params.toList = [22] := by kernel_rfl
theorem types_ok : ∀ t ∈ Tryz.f4.params.toList, t < Tryz.prog.types.size ∧ Tryz.prog.readableRec t = true := by
  rw [params]; intro t ht
  have h_binds : 22 < Tryz.prog.types.size ∧ Tryz.prog.readableRec 22 = true := ⟨of_decide_eq_true (by kernel_rfl), by kernel_rfl⟩
  simp only [List.mem_cons, List.not_mem_nil, or_false] at ht
  subst ht; exact h_binds

set_option maxRecDepth 100000 in
theorem contract (HA : Awake2Ok) (H : Type) (enc : TypeId × Value → H) (W : World) (base : Nat) (args : Array Value) (ds gs : List (DataW H)) (before : List MemPlace) (vs : List TypeId)
    (hval : ∀ (j : Nat) t v, Tryz.f4.params[j]? = some t → args[j]? = some v → Value.okWide Tryz.prog W .any base t v)
    (hW : DataW.Whole enc Tryz.prog Tryz.f4.params.toList Rows.substTextSpec.vars false W args.toList ds gs before) (hS : (DataW.weightsEach Tryz.prog (Tryz.f4.params.toList ++ vs) (ds ++ gs)).all (· ≤ reachBytes) = true) (hL : laidMetH Tryz.prog Rows.substTextRow.laid W) (hM : MaxL W) :
    Calls Tryz.prog 4 args W fun e W' => ∃ v, e = .returned v ∧ Rows.substTextSpec.post enc Tryz.prog Tryz.f4 false true false false W args v W' := by
  have hL' := laid_of hL
  have hW' := hW
  obtain ⟨p, q, hA, hV, rfl, hfz, hnd⟩ := hW
  rw [params] at hA
  obtain ⟨v0, d0, rfl, rfl, h0⟩ := trodAll_one hA
  obtain ⟨t0, xa0, cap0, rfl, hc0, hI0, hd0⟩ := open_binds (hval 0 22 v0 (by kernel_rfl) rfl) h0
  have hb0 := binds_bytes hS (j := 0) (by rw [params]; rfl) rfl hd0
  refine (lawSt_any HA t0 xa0 cap0 W hL' hM hc0 hb0 hI0).mono fun e W' ⟨he, hB⟩ => ?_
  exact ⟨_, he, post_true rfl rfl (by kernel_rfl) types_ok hW' hB⟩

theorem laid_met (os : Os) : laidMet Tryz.prog Rows.substTextRow.laid ((laidWorld os).forCall (fun _ _ => 0) ⟨#[], #[vInts], []⟩).memory :=
  laidMet_of_run' 8 (by kernel_rfl) (by kernel_rfl)
theorem reads (os : Os) {H : Type} (enc : TypeId × Value → H) : ∃ places, DataW.whole enc Tryz.prog ((laidWorld os).forCall (fun _ _ => 0) ⟨#[], #[vInts], []⟩).memory Tryz.f4.params.toList Rows.substTextSpec.vars false (#[vInts] : Array Value).toList 8 = some ([.nil], [], places) :=
  ⟨[], by kernel_rfl⟩

set_option maxRecDepth 100000 in
theorem lifted (HA : Awake2Ok) (os : Os) (started : os.Started) (H : Type) (enc : TypeId × Value → H) (F : Stop.Interp) :
    ReturnsInHanded {} Tryz.checked os 4 .any ((OpenSpec.ofChange Rows.substTextSpec).preRow enc Tryz.prog Tryz.f4 Rows.substTextRow.domain false Rows.substTextRow.laid) (((OpenSpec.ofChange Rows.substTextSpec).at F).post enc Tryz.prog Tryz.f4 false true false false) := by
  obtain ⟨places, hx⟩ := reads os enc
  refine returnsInHanded_of_row (C := Tryz.checked) (s := OpenSpec.ofChange Rows.substTextSpec) own started (by kernel_rfl) Tryz.func4
    (witness_row_at (enc := enc) (C := Tryz.checked) false (laidWorld os) #[vInts] rfl (by kernel_rfl) (by kernel_rfl) (by kernel_rfl)
      (OpenSpec.preRow_of_cond 8 hx (by kernel_rfl) (fun k hk => by cases hk) (by kernel_rfl) (laid_met os))) ?_
  intro W base args ds gs before hval hW _ _ hS hL hsh _
  exact contract HA H enc W base args ds gs before _ hval hW hS hL (maxL_shaped hsh)

theorem said (HA : Awake2Ok) : Rows.SubstTextSaid :=
  OpenClaim.holds_of_cond 4 Tryz.f4 rfl rfl rfl rfl rfl rfl rfl ⟨rfl, rfl, rfl, rfl, rfl⟩ rfl rfl rfl rfl rfl (by kernel_rfl) Tryz.func4 (by kernel_rfl)
    (of_decide_eq_true (by kernel_rfl)) (by unfold Func.isWrapper; first | (rw [if_pos (by decide +kernel)]; kernel_rfl) | (rw [if_neg (by decide +kernel)]; exact ⟨rfl, rfl⟩))
    (fun os started H enc _ F => by rw [OpenClaim.pre_eq_preRow]; exact lifted HA os started H enc F)

theorem plain (f : FuncId) (fn : Func) (hf : Tryz.pinned.checked.prog.funcNamed "sealring/sealringlaw02.SubstText" = some f) (hfn : Tryz.pinned.checked.prog.funcs[f]? = some fn) :
    false = Tryz.pinned.checked.prog.looks [] ∧ ∀ (j : Nat) t, fn.params[j]? = some t → Tryz.pinned.checked.prog.wantsStandIn t = false := by
  obtain rfl : f = 4 := Option.some.inj ((show Tryz.prog.funcNamed "sealring/sealringlaw02.SubstText" = some 4 by kernel_rfl).symm.trans hf) |>.symm
  obtain rfl : fn = Tryz.f4 := (Option.some.inj (Tryz.func4.symm.trans hfn)).symm
  refine ⟨by kernel_rfl, fun j t ht => ?_⟩
  have hm : t ∈ Tryz.f4.params.toList := by
    rw [← Array.getElem?_toList] at ht; exact List.mem_of_getElem? ht
  rw [params] at hm
  have hall : ([22].all fun u => !Tryz.prog.wantsStandIn u) = true := by kernel_rfl
  exact (show Tryz.prog.wantsStandIn t = false by simpa using List.all_eq_true.1 hall t hm)

theorem card : Rows.SubstTextCardSaid :=
  Claim7.holds_tied_plain_at .later [] _ _ _ _ (said awake2_any) (fun _ h => by cases h) (by kernel_rfl) (fun _ h => by cases h) substText_row_tie rfl ⟨rfl, rfl⟩ (by kernel_rfl) rfl plain (by kernel_rfl)
end Go.Proofs.YtkdnfioihhfmpaaGreatDoor.lawSt
