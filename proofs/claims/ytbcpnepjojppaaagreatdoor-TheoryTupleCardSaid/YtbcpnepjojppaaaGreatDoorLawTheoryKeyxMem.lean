import Derived.Outline
import Derived.Test.YtbcpnepjojppaaaGreatDoorProg
import Derived.Test.YtbcpnepjojppaaaGreatDoorLawTheoryKeyxPure
namespace Go.Proofs.YtbcpnepjojppaaaGreatDoor
open Go.RowKit
mutual
/-- Four values that are a term's cells. -/
def Is (w : World) : Tm → Value → Value → Value → Value → Prop
  | .mk k n s ks, c0, c1, c2, c3 => c0 = .int .i64 k ∧ c1 = .string n ∧ c2 = .int .i64 s ∧ (-9223372036854775808 ≤ k ∧ k ≤ 9223372036854775807) ∧ (-9223372036854775808 ≤ s ∧ s ≤ 9223372036854775807) ∧ n.size ≤ maxLen ∧ ks.length ≤ maxLen ∧
      ∃ xa cap, c3 = .slice xa ks.length cap ∧ ks.length ≤ cap ∧ Row w ks xa
/-- A row of terms at an address. -/
def Row (w : World) : List Tm → Option Addr → Prop
  | [], _ => True
  | t :: ts, xa => ∃ b o, xa = some ⟨b, o, none⟩ ∧ (∃ c0 c1 c2 c3, w.cell? ⟨b, o, none⟩ = some c0 ∧ w.cell? ⟨b, o + 1, none⟩ = some c1 ∧ w.cell? ⟨b, o + 2, none⟩ = some c2 ∧ w.cell? ⟨b, o + 3, none⟩ = some c3 ∧ Is w t c0 c1 c2 c3) ∧ Row w ts (some ⟨b, o + 4, none⟩)
end
def Lies (w : World) (t : Tm) (b o : Nat) : Prop :=
  ∃ c0 c1 c2 c3, w.cell? ⟨b, o, none⟩ = some c0 ∧ w.cell? ⟨b, o + 1, none⟩ = some c1 ∧ w.cell? ⟨b, o + 2, none⟩ = some c2 ∧ w.cell? ⟨b, o + 3, none⟩ = some c3 ∧ Is w t c0 c1 c2 c3
def IsV (w : World) (t : Tm) (v : Value) : Prop := ∃ c0 c1 c2 c3, v = .agg #[c0, c1, c2, c3] ∧ Is w t c0 c1 c2 c3
theorem Row_cons {w : World} {t : Tm} {ts : List Tm} {xa : Option Addr} (h : Row w (t :: ts) xa) : ∃ b o, xa = some ⟨b, o, none⟩ ∧ Lies w t b o ∧ Row w ts (some ⟨b, o + 4, none⟩) := by
  simpa only [Row, Lies] using h
theorem Row_cons_mk {w : World} {t : Tm} {ts : List Tm} {b o : Nat} (h : Lies w t b o) (h2 : Row w ts (some ⟨b, o + 4, none⟩)) : Row w (t :: ts) (some ⟨b, o, none⟩) := by
  simp only [Row]; exact ⟨b, o, rfl, h, h2⟩
theorem Row_get {w : World} : ∀ {ts : List Tm} {b o : Nat} (_ : Row w ts (some ⟨b, o, none⟩)) (i : Nat) (hi : i < ts.length), Lies w ts[i] b (o + i * 4)
  | t :: ts, b, o, h, i, hi => by
    obtain ⟨b', o', e, h1, h2⟩ := Row_cons h
    simp only [Option.some.injEq, Addr.mk.injEq, and_true] at e
    obtain ⟨rfl, rfl⟩ := e
    cases i with
    | zero => simpa using h1
    | succ i =>
      have := Row_get h2 i (by simpa using hi)
      have e : o + (i + 1) * 4 = o + 4 + i * 4 := by omega
      rw [e]; simpa using this
theorem Row_at {w : World} {ts : List Tm} {xa : Option Addr} (h : Row w ts xa) (hne : 0 < ts.length) : ∃ b o, xa = some ⟨b, o, none⟩ := by
  cases ts with
  | nil => simp at hne
  | cons t ts => obtain ⟨b, o, e, _⟩ := Row_cons h; exact ⟨b, o, e⟩
theorem Is_carry {w w' : World} (hc : ∀ a v, w.cell? a = some v → w'.cell? a = some v) (t : Tm) : ∀ c0 c1 c2 c3, Is w t c0 c1 c2 c3 → Is w' t c0 c1 c2 c3 := by
  refine Tm.rec (motive_1 := fun t => ∀ c0 c1 c2 c3, Is w t c0 c1 c2 c3 → Is w' t c0 c1 c2 c3) (motive_2 := fun ts => ∀ xa, Row w ts xa → Row w' ts xa) ?_ ?_ ?_ t
  · intro k n s ks ih c0 c1 c2 c3 h
    simp only [Is] at h ⊢
    obtain ⟨h1, h2, h3, h4, h5, h6, h7, xa, cap, h8, h9, h10⟩ := h
    exact ⟨h1, h2, h3, h4, h5, h6, h7, xa, cap, h8, h9, ih _ h10⟩
  · intro xa _; simp [Row]
  · intro t ts h1 h2 xa h
    simp only [Row] at h ⊢
    obtain ⟨b, o, e, ⟨c0, c1, c2, c3, g0, g1, g2, g3, hI⟩, hR⟩ := h
    exact ⟨b, o, e, ⟨c0, c1, c2, c3, hc _ _ g0, hc _ _ g1, hc _ _ g2, hc _ _ g3, h1 _ _ _ _ hI⟩, h2 _ hR⟩
theorem Row_carry {w w' : World} (hc : ∀ a v, w.cell? a = some v → w'.cell? a = some v) : ∀ (ts : List Tm) (xa : Option Addr), Row w ts xa → Row w' ts xa
  | [], _, _ => by simp [Row]
  | t :: ts, xa, h => by
    simp only [Row] at h ⊢
    obtain ⟨b, o, e, ⟨c0, c1, c2, c3, g0, g1, g2, g3, hI⟩, hR⟩ := h
    exact ⟨b, o, e, ⟨c0, c1, c2, c3, hc _ _ g0, hc _ _ g1, hc _ _ g2, hc _ _ g3, Is_carry hc t _ _ _ _ hI⟩, Row_carry hc ts _ hR⟩
theorem Lies_carry {w w' : World} (hc : ∀ a v, w.cell? a = some v → w'.cell? a = some v) {t : Tm} {b o : Nat} (h : Lies w t b o) : Lies w' t b o := by
  obtain ⟨c0, c1, c2, c3, g0, g1, g2, g3, hI⟩ := h
  exact ⟨c0, c1, c2, c3, hc _ _ g0, hc _ _ g1, hc _ _ g2, hc _ _ g3, Is_carry hc t _ _ _ _ hI⟩
theorem keep_below {w w' : World} (h : Below w.heap.size w w') : ∀ a v, w.cell? a = some v → w'.cell? a = some v := fun a v hv => by
  rw [h.cell (World.block_lt_of_cell? w a hv)]; exact hv
theorem keep_alloc (w : World) (o : Obj) : ∀ a v, w.cell? a = some v → (w.alloc o).cell? a = some v := keep_below ((Below.refl _ _).alloc (Nat.le_refl _) _)
theorem keep_drew (w : World) : ∀ a v, w.cell? a = some v → w.drew.cell? a = some v := keep_below (Below.refl _ _).drew
theorem Lies_mk {w : World} {k : Int} {n : ByteArray} {s : Int} {ks : List Tm} {b o : Nat} (h : Lies w (.mk k n s ks) b o) :
    w.cell? ⟨b, o, none⟩ = some (.int .i64 k) ∧ w.cell? ⟨b, o + 1, none⟩ = some (.string n) ∧ w.cell? ⟨b, o + 2, none⟩ = some (.int .i64 s) ∧
    (-9223372036854775808 ≤ k ∧ k ≤ 9223372036854775807) ∧ (-9223372036854775808 ≤ s ∧ s ≤ 9223372036854775807) ∧ n.size ≤ maxLen ∧ ks.length ≤ maxLen ∧
    ∃ xa cap, w.cell? ⟨b, o + 3, none⟩ = some (.slice xa ks.length cap) ∧ ks.length ≤ cap ∧ Row w ks xa := by
  obtain ⟨c0, c1, c2, c3, g0, g1, g2, g3, hI⟩ := h
  simp only [Is] at hI
  obtain ⟨rfl, rfl, rfl, h4, h5, h6, h7, xa, cap, rfl, h9, h10⟩ := hI
  exact ⟨g0, g1, g2, h4, h5, h6, h7, xa, cap, g3, h9, h10⟩
theorem Is_alloc {w : World} {t : Tm} {c0 c1 c2 c3 : Value} (h : Is w t c0 c1 c2 c3) (o : Obj) : Is (w.alloc o) t c0 c1 c2 c3 := Is_carry (keep_alloc w o) t _ _ _ _ h
theorem Row_alloc {w : World} {ts : List Tm} {xa : Option Addr} (h : Row w ts xa) (o : Obj) : Row (w.alloc o) ts xa := Row_carry (keep_alloc w o) ts _ h
theorem Is_below {w w' : World} {t : Tm} {c0 c1 c2 c3 : Value} (h : Is w t c0 c1 c2 c3) (hb : Below w.heap.size w w') : Is w' t c0 c1 c2 c3 := Is_carry (keep_below hb) t _ _ _ _ h
theorem Row_below {w w' : World} {ts : List Tm} {xa : Option Addr} (h : Row w ts xa) (hb : Below w.heap.size w w') : Row w' ts xa := Row_carry (keep_below hb) ts _ h
theorem Lies_below {w w' : World} {t : Tm} {b o : Nat} (h : Lies w t b o) (hb : Below w.heap.size w w') : Lies w' t b o := Lies_carry (keep_below hb) h
theorem box_cells (w : World) (c0 c1 c2 c3 : Value) (T : TypeId) :
    (w.alloc (.cells #[c0, c1, c2, c3] T)).cell? ⟨w.heap.size, 0, none⟩ = some c0 ∧ (w.alloc (.cells #[c0, c1, c2, c3] T)).cell? ⟨w.heap.size, 1, none⟩ = some c1 ∧
    (w.alloc (.cells #[c0, c1, c2, c3] T)).cell? ⟨w.heap.size, 2, none⟩ = some c2 ∧ (w.alloc (.cells #[c0, c1, c2, c3] T)).cell? ⟨w.heap.size, 3, none⟩ = some c3 := by
  refine ⟨?_, ?_, ?_, ?_⟩ <;> (unfold World.cell?; rw [heap_alloc_new]; rfl)
theorem Lies_box {w : World} {t : Tm} {c0 c1 c2 c3 : Value} (h : Is w t c0 c1 c2 c3) (T : TypeId) : Lies (w.alloc (.cells #[c0, c1, c2, c3] T)) t w.heap.size 0 := by
  obtain ⟨h0, h1, h2, h3⟩ := box_cells w c0 c1 c2 c3 T
  exact ⟨c0, c1, c2, c3, h0, h1, h2, h3, Is_alloc h _⟩
theorem box_kept {w w' : World} {c0 c1 c2 c3 : Value} {T : TypeId} (hb : Below (w.heap.size + 1) (w.alloc (.cells #[c0, c1, c2, c3] T)) w') :
    w'.cell? ⟨w.heap.size, 0, none⟩ = some c0 ∧ w'.cell? ⟨w.heap.size, 1, none⟩ = some c1 ∧ w'.cell? ⟨w.heap.size, 2, none⟩ = some c2 ∧ w'.cell? ⟨w.heap.size, 3, none⟩ = some c3 := by
  obtain ⟨h0, h1, h2, h3⟩ := box_cells w c0 c1 c2 c3 T
  refine ⟨?_, ?_, ?_, ?_⟩ <;> (rw [hb.cell (by simp)]; assumption)
theorem below_box {w w' : World} {o : Obj} (hb : Below (w.heap.size + 1) (w.alloc o) w') : Below w.heap.size w w' :=
  ((Below.refl _ _).alloc (Nat.le_refl _) o).trans (hb.mono (by omega))
end Go.Proofs.YtbcpnepjojppaaaGreatDoor
namespace Go.Proofs.YtbcpnepjojppaaaGreatDoor
open Go.RowKit
set_option maxHeartbeats 400000 in
theorem size_any (m : Nat) : ∀ (t : Tm) (b o : Nat) (w : World), size t ≤ m → m ≤ 4611686018427387904 → Lies w t b o →
    Calls Tryz.prog 105 #[.pointer (some ⟨b, o, none⟩)] w fun e w' => e = .returned (.int .i64 (size t)) ∧ w = w' := by
  induction m with
  | zero => intro t b o w h; have := size_pos t; omega
  | succ m ih =>
    intro t b o w hm hM hL
    obtain ⟨k, n, s, ks⟩ := t
    obtain ⟨g0, g1, g2, _, _, _, hl, xa, cap, g3, hcap, hR⟩ := Lies_mk hL
    clear g0 g1 g2 hL
    unfold maxLen at hl
    have hm2 : sizes ks ≤ m := by simp only [size] at hm; omega
    clear hm
    go_enter Tryz.func105, Tryz.ntmps105
    go_wp2_with fail
    go_loop [3, 10] (fun n i => ∃ j : Nat, j ≤ ks.length ∧ i = .int .i64 j ∧ n = .int .i64 ((1 + sizes (ks.take j) : Nat) : Int)) (fun _ i => ks.length - (intOf i).toNat)
    case atStart => exact ⟨0, Nat.zero_le _, rfl, rfl⟩
    case round =>
      obtain ⟨j, hj, rfl, rfl⟩ := hrel
      by_cases hlt : j < ks.length
      · obtain ⟨kb, ko, rfl⟩ := Row_at hR (by omega)
        have hK := Row_get hR j hlt
        have hsz := sizes_take ks j hlt
        have hle := sizes_take_le ks (j + 1)
        have hsz1 : sizes (ks.take j) + size ks[j] ≤ m := by omega
        have H : Hid (sizes (ks.take (j + 1)) = sizes (ks.take j) + size ks[j]) := hsz
        clear hsz hle
        go_wp2_with (go_at_call 105; refine (ih ks[j] kb (ko + j * 4) w (by omega) (by omega) hK).mono ?_; rintro e w' ⟨rfl, rfl⟩)
        go_round
        case rel => exact ⟨j + 1, by omega, by go_num, by rw [H.out]; go_num⟩
        case measure => simp [intOf]; omega
      · have hjl : j = ks.length := by omega
        have hfin : Hid (1 + sizes (ks.take j) = size (.mk k n s ks)) := by show _ = _; rw [hjl, List.take_length]; rfl
        clear hjl
        go_wp2_with fail
        go_ret
        refine ⟨?_, rfl⟩
        rw [← hfin.out]; go_num
set_option maxHeartbeats 400000 in
theorem Size_any (t : Tm) (c0 c1 c2 c3 : Value) (w : World) (hM : size t ≤ 4611686018427387904) (hI : Is w t c0 c1 c2 c3) :
    Calls Tryz.prog 79 #[.agg #[c0, c1, c2, c3]] w fun e w' => e = .returned (.int .i64 (size t)) ∧ Below w.heap.size w w' := by
  go_enter Tryz.func79, Tryz.ntmps79
  go_wp2_with (go_at_call 105; refine (size_any _ t _ _ _ (Nat.le_refl _) hM (Lies_box hI 24)).mono ?_; rintro e w' ⟨rfl, rfl⟩)
  go_ret
  exact ⟨rfl, (Below.refl _ _).alloc (Nat.le_refl _) _⟩
set_option maxHeartbeats 400000 in
theorem rsize_any (m : Nat) : ∀ (t : Tm) (c0 c1 c2 c3 : Value) (w : World), size t ≤ m → m ≤ 4611686018427387904 → Is w t c0 c1 c2 c3 →
    Calls Tryz.prog 83 #[.agg #[c0, c1, c2, c3]] w fun e w' => e = .returned (.int .i64 (size t)) ∧ Below w.heap.size w w' := by
  induction m with
  | zero => intro t c0 c1 c2 c3 w h; have := size_pos t; omega
  | succ m ih =>
    intro t c0 c1 c2 c3 w hm hM hI
    obtain ⟨k, n, s, ks⟩ := t
    simp only [Is] at hI
    obtain ⟨rfl, rfl, rfl, _, _, _, hl, xa, cap, rfl, hcap, hR⟩ := hI
    unfold maxLen at hl
    have hm2 : sizes ks ≤ m := by simp only [size] at hm; omega
    clear hm
    go_enter Tryz.func83, Tryz.ntmps83
    go_wp2_with fail
    go_loopw [3, 4] (fun n' i wr => ∃ j : Nat, j ≤ ks.length ∧ i = .int .i64 j ∧ n' = .int .i64 ((1 + sizes (ks.take j) : Nat) : Int) ∧ Below (w.heap.size + 1) (w.alloc (.cells #[.int .i64 k, .string n, .int .i64 s, .slice xa ks.length cap] 24)) wr) (fun _ i _ => ks.length - (intOf i).toNat)
    case atStart => exact ⟨0, Nat.zero_le _, rfl, rfl, Below.refl _ _⟩
    case round =>
      obtain ⟨j, hj, rfl, rfl, hB⟩ := hrel
      obtain ⟨_, _, _, g3⟩ := box_kept hB
      by_cases hlt : j < ks.length
      · obtain ⟨kb, ko, rfl⟩ := Row_at hR (by omega)
        have hK := Row_get (Row_below hR (below_box hB)) j hlt
        obtain ⟨e0, e1, e2, e3, k0, k1, k2, k3, hKI⟩ := hK
        have hsz := sizes_take ks j hlt
        have hle := sizes_take_le ks (j + 1)
        have hsz1 : sizes (ks.take j) + size ks[j] ≤ m := by omega
        have H : Hid (sizes (ks.take (j + 1)) = sizes (ks.take j) + size ks[j]) := hsz
        clear hsz hle
        go_wp2_with (go_at_call 83; refine (ih ks[j] _ _ _ _ _ (by omega) (by omega) hKI).mono ?_; rintro e w' ⟨rfl, hB'⟩)
        go_roundw
        case rel => exact ⟨j + 1, by omega, by go_num, by rw [H.out]; go_num, hB.trans (hB'.mono (by have := hB.size; simpa using this))⟩
        case measure => simp [intOf]; omega
      · have hjl : j = ks.length := by omega
        have hfin : Hid (1 + sizes (ks.take j) = size (.mk k n s ks)) := by show _ = _; rw [hjl, List.take_length]; rfl
        clear hjl
        go_wp2_with fail
        go_ret
        refine ⟨?_, below_box hB⟩
        rw [← hfin.out]; go_num
end Go.Proofs.YtbcpnepjojppaaaGreatDoor
namespace Go.Proofs.YtbcpnepjojppaaaGreatDoor
open Go.RowKit
theorem depths_le_sizes (l : List Tm) : depths l ≤ sizes l := by
  induction l with
  | nil => simp [depths, sizes]
  | cons a l ih => have := depth_le_size a; simp only [depths, sizes]; omega
set_option maxHeartbeats 400000 in
theorem depth_any (m : Nat) : ∀ (t : Tm) (b o : Nat) (w : World), size t ≤ m → m ≤ 4611686018427387904 → Lies w t b o →
    Calls Tryz.prog 106 #[.pointer (some ⟨b, o, none⟩)] w fun e w' => e = .returned (.int .i64 (depth t)) ∧ w = w' := by
  induction m with
  | zero => intro t b o w h; have := size_pos t; omega
  | succ m ih =>
    intro t b o w hm hM hL
    obtain ⟨k, n, s, ks⟩ := t
    obtain ⟨g0, g1, g2, _, _, _, hl, xa, cap, g3, hcap, hR⟩ := Lies_mk hL
    clear g0 g1 g2 hL
    unfold maxLen at hl
    have hm2 : sizes ks ≤ m := by simp only [size] at hm; omega
    clear hm
    go_enter Tryz.func106, Tryz.ntmps106
    go_wp2_with fail
    go_loop [3, 10] (fun n i => ∃ j : Nat, j ≤ ks.length ∧ i = .int .i64 j ∧ n = .int .i64 ((depths (ks.take j) : Nat) : Int)) (fun _ i => ks.length - (intOf i).toNat)
    case atStart => exact ⟨0, Nat.zero_le _, rfl, rfl⟩
    case round =>
      obtain ⟨j, hj, rfl, rfl⟩ := hrel
      by_cases hlt : j < ks.length
      · obtain ⟨kb, ko, rfl⟩ := Row_at hR (by omega)
        have hK := Row_get hR j hlt
        have hsz := sizes_take ks j hlt
        have hle := sizes_take_le ks (j + 1)
        have hsz1 : sizes (ks.take j) + size ks[j] ≤ m := by omega
        have hd1 : depths (ks.take j) ≤ m := by have := depths_le_sizes (ks.take j); omega
        have hd2 : depth ks[j] ≤ m := by have := depth_le_size ks[j]; omega
        have H : Hid (depths (ks.take (j + 1)) = max (depths (ks.take j)) (depth ks[j])) := depths_take ks j hlt
        clear hsz hle
        go_wp2_with (go_at_call 106; refine (ih ks[j] kb (ko + j * 4) w (by omega) (by omega) hK).mono ?_; rintro e w' ⟨rfl, rfl⟩)
        go_round
        case rel => exact ⟨j + 1, by omega, by go_num, by rw [H.out]; go_num⟩
        case measure => simp [intOf]; omega
      · have hjl : j = ks.length := by omega
        have hfin : Hid (depths (ks.take j) + 1 = depth (.mk k n s ks)) := by show _ = _; rw [hjl, List.take_length]; rfl
        have hd1 : depths (ks.take j) ≤ m := by have := depths_le_sizes (ks.take j); have := sizes_take_le ks j; omega
        clear hjl
        go_wp2_with fail
        go_ret
        refine ⟨?_, rfl⟩
        rw [← hfin.out]; go_num
set_option maxHeartbeats 400000 in
theorem Depth_any (t : Tm) (c0 c1 c2 c3 : Value) (w : World) (hM : size t ≤ 4611686018427387904) (hI : Is w t c0 c1 c2 c3) :
    Calls Tryz.prog 80 #[.agg #[c0, c1, c2, c3]] w fun e w' => e = .returned (.int .i64 (depth t)) ∧ Below w.heap.size w w' := by
  go_enter Tryz.func80, Tryz.ntmps80
  go_wp2_with (go_at_call 106; refine (depth_any _ t _ _ _ (Nat.le_refl _) hM (Lies_box hI 24)).mono ?_; rintro e w' ⟨rfl, rfl⟩)
  go_ret
  exact ⟨rfl, (Below.refl _ _).alloc (Nat.le_refl _) _⟩
set_option maxHeartbeats 400000 in
theorem rdepth_any (m : Nat) : ∀ (t : Tm) (c0 c1 c2 c3 : Value) (w : World), size t ≤ m → m ≤ 4611686018427387904 → Is w t c0 c1 c2 c3 →
    Calls Tryz.prog 51 #[.agg #[c0, c1, c2, c3]] w fun e w' => e = .returned (.int .i64 (depth t)) ∧ Below w.heap.size w w' := by
  induction m with
  | zero => intro t c0 c1 c2 c3 w h; have := size_pos t; omega
  | succ m ih =>
    intro t c0 c1 c2 c3 w hm hM hI
    obtain ⟨k, n, s, ks⟩ := t
    simp only [Is] at hI
    obtain ⟨rfl, rfl, rfl, _, _, _, hl, xa, cap, rfl, hcap, hR⟩ := hI
    unfold maxLen at hl
    have hm2 : sizes ks ≤ m := by simp only [size] at hm; omega
    clear hm
    go_enter Tryz.func51, Tryz.ntmps51
    go_wp2_with fail
    go_loopw [3, 4] (fun n' i wr => ∃ j : Nat, j ≤ ks.length ∧ i = .int .i64 j ∧ n' = .int .i64 ((depths (ks.take j) : Nat) : Int) ∧ Below (w.heap.size + 1) (w.alloc (.cells #[.int .i64 k, .string n, .int .i64 s, .slice xa ks.length cap] 24)) wr) (fun _ i _ => ks.length - (intOf i).toNat)
    case atStart => exact ⟨0, Nat.zero_le _, rfl, rfl, Below.refl _ _⟩
    case round =>
      obtain ⟨j, hj, rfl, rfl, hB⟩ := hrel
      obtain ⟨_, _, _, g3⟩ := box_kept hB
      by_cases hlt : j < ks.length
      · obtain ⟨kb, ko, rfl⟩ := Row_at hR (by omega)
        have hK := Row_get (Row_below hR (below_box hB)) j hlt
        obtain ⟨e0, e1, e2, e3, k0, k1, k2, k3, hKI⟩ := hK
        have hsz := sizes_take ks j hlt
        have hle := sizes_take_le ks (j + 1)
        have hsz1 : sizes (ks.take j) + size ks[j] ≤ m := by omega
        have hd1 : depths (ks.take j) ≤ m := by have := depths_le_sizes (ks.take j); omega
        have hd2 : depth ks[j] ≤ m := by have := depth_le_size ks[j]; omega
        have H : Hid (depths (ks.take (j + 1)) = max (depths (ks.take j)) (depth ks[j])) := depths_take ks j hlt
        clear hsz hle
        go_wp2_with (go_at_call 51; refine (ih ks[j] _ _ _ _ _ (by omega) (by omega) hKI).mono ?_; rintro e w' ⟨rfl, hB'⟩)
        go_roundw
        case rel => exact ⟨j + 1, by omega, by go_num, by rw [H.out]; go_num, hB.trans (hB'.mono (by have := hB.size; simpa using this))⟩
        case measure => simp [intOf]; omega
      · have hjl : j = ks.length := by omega
        have hfin : Hid (depths (ks.take j) + 1 = depth (.mk k n s ks)) := by show _ = _; rw [hjl, List.take_length]; rfl
        have hd1 : depths (ks.take j) ≤ m := by have := depths_le_sizes (ks.take j); have := sizes_take_le ks j; omega
        clear hjl
        go_wp2_with fail
        go_ret
        refine ⟨?_, below_box hB⟩
        rw [← hfin.out]; go_num
end Go.Proofs.YtbcpnepjojppaaaGreatDoor
