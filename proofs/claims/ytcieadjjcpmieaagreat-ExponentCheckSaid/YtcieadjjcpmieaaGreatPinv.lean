/-
  THE WALKS OF Inverse, on both sides.
-/
import Derived.Test.YtcieadjjcpmieaaGreatPof
import Derived.Test.YtcieadjjcpmieaaGreatPos
import Derived.Test.YtcieadjjcpmieaaGreatOpen
import Derived.Test.YtcieadjjcpmieaaGreatSep
import Derived.Test.YtcieadjjcpmieaaGreatPvan
import Derived.Test.YtcieadjjcpmieaaGreatPcat
import Derived.Test.YtcieadjjcpmieaaGreatBnd
import Derived.Test.YtcieadjjcpmieaaGreatSetof
import Derived.Test.YtcieadjjcpmieaaGreatPapp
import Derived.Test.YtcieadjjcpmieaaGreatPsame
namespace Go.Proofs.YtcieadjjcpmieaaGreat
open Go.RowKit

set_option maxHeartbeats 800000 in
set_option maxRecDepth 100000 in
theorem Inverse_any (ps : List Pw) (xa : Option Addr) (cap : Nat) (w : World) (hlen : ps.length ≤ 1048576) (hsz : SzP 1073741824 ps) (hR : PRow w ps xa) :
    Calls Tryz.prog 19 #[.slice xa ps.length cap] w (PwPost w (scalP (-1) ps)) := by
  have HS := Lib.hid (scaled_any (-1) ps xa cap w hlen hsz hR)
  clear hsz hR
  obtain ⟨us, hus⟩ : ∃ us, scalP (-1) ps = us := ⟨_, rfl⟩
  rw [hus] at HS ⊢
  clear hus
  go_enter Tryz.func19, Tryz.ntmps19
  go_wp2_with (go_at_call 45; refine (HS.out).mono ?_; rintro e w2 ⟨x2, c2, he, h1, h2, h3⟩; subst he; have HF : Hid (PwPost w us (.returned (.slice x2 us.length c2)) w2) := ⟨x2, c2, rfl, h1, h2, h3⟩; clear h1 h2 h3)
  go_ret
  exact HF.out
theorem scalP_take (n : Int) (ps : List Pw) (j : Nat) (h : j < ps.length) : scalP n (ps.take (j + 1)) = scalP n (ps.take j) ++ [(ps[j].1, wrap64 (ps[j].2 * n))] := by
  unfold scalP; rw [List.take_succ_eq_append_getElem h, List.map_append]; rfl
theorem scalP_len (n : Int) (ps : List Pw) : (scalP n ps).length = ps.length := by unfold scalP; simp

set_option maxHeartbeats 3200000 in
set_option maxRecDepth 100000 in
theorem rInverse_any (ps : List Pw) (xa : Option Addr) (cap : Nat) (w : World) (hlen : ps.length ≤ 1048576) (hR : PRow w ps xa) :
    Calls Tryz.prog 20 #[.slice xa ps.length cap] w (PwPost w (scalP (-1) ps)) := by
  have HR := Lib.hid hR
  obtain ⟨i0, hi0, hz0, hz1, hz2⟩ := info_parts infoPw
  have HI0 := Lib.hid (And.intro hi0 (And.intro hz0 (And.intro hz1 hz2)))
  clear hR hi0 hz0 hz1 hz2
  go_enter Tryz.func20, Tryz.ntmps20
  go_wp2_with fail
  go_loopw [3, 4] (fun v i wr => ∃ j : Nat, j ≤ ps.length ∧ i = .int .i64 j ∧ OwnP w.heap.size (fun b => b < w.heap.size) wr (scalP (-1) (ps.take j)) v ∧ Below w.heap.size w wr) (fun _ i _ => ps.length - (intOf i).toNat)
  case atStart => exact ⟨0, Nat.zero_le _, rfl, OwnP_nil _ _ _, Below.refl _ _⟩
  case round =>
    obtain ⟨j, hj, rfl, hO, hB⟩ := hrel
    by_cases hlt : j < ps.length
    rotate_left
    · obtain rfl : j = ps.length := by omega
      rw [List.take_length] at hO
      obtain ⟨xl, lcap, rfl⟩ := OwnP_form hO
      have HF : Hid (PwPost w (scalP (-1) ps) (.returned (.slice xl (scalP (-1) ps).length lcap)) wr) := ⟨xl, lcap, rfl, (OwnP_row hO).2, (OwnP_row hO).1, hB⟩
      clear hO hB
      go_wp2_with fail
      go_ret
      exact HF.out
    obtain ⟨xl, lcap, rfl⟩ := OwnP_form hO
    obtain ⟨b, o, rfl⟩ := PRow_at HR.out (by omega)
    obtain ⟨⟨c0, c1, c2, c3, f0, f1, f2, f3, hIw⟩, f4, hno⟩ := PRow_get HR.out j hlt
    obtain ⟨kk, nm, s, za, zl, zc, rfl, rfl, rfl, rfl⟩ := Is_form hIw
    have HIB : Hid (IsIn (fun b => b < w.heap.size) wr ps[j].1 (.int .i64 kk) (.string nm) (.int .i64 s) (.slice za zl zc)) := IsIn_carry (fun b hb => hB.block b hb) (fun _ h => h) _ _ _ _ _ (Is_IsIn _ _ _ _ _ hIw)
    have HCE : Hid (∀ W, Ext w W → (W.cell? ⟨b, o + j * 5, none⟩ = some (.int .i64 kk) ∧ W.cell? ⟨b, o + j * 5 + 1, none⟩ = some (.string nm) ∧ W.cell? ⟨b, o + j * 5 + 2, none⟩ = some (.int .i64 s) ∧ W.cell? ⟨b, o + j * 5 + 3, none⟩ = some (.slice za zl zc)) ∧ W.cell? ⟨b, o + j * 5 + 4, none⟩ = some (.int .i64 ps[j].2)) := fun W y => ⟨⟨keep_below y _ _ f0, keep_below y _ _ f1, keep_below y _ _ f2, keep_below y _ _ f3⟩, keep_below y _ _ f4⟩
    have HST := Lib.hid (scalP_take (-1) ps j hlt)
    obtain ⟨M, hM⟩ : ∃ M, wrap64 (ps[j].2 * -1) = M := ⟨_, rfl⟩
    have HMO : Hid (i64ok M) := by rw [← hM]; exact wrap_ok _
    have hM2 : IntKind.i64.wrap (-ps[j].2) = M := (IntWalk.i64_left _).trans (by rw [← hM, Int.mul_neg_one])
    rw [hM] at HST
    generalize ps[j].2 = N at HCE hM2
    generalize ps[j].1 = T at HIB HST
    clear f0 f1 f2 f3 f4 hIw hno hM
    have hll : (scalP (-1) (ps.take j)).length = j := by rw [scalP_len, List.length_take]; omega
    obtain ⟨cs, hown, hK⟩ := hO
    rw [hll] at hown ⊢
    have HO := Lib.hid hown
    have HK := Lib.hid hK
    have HB := Lib.hid hB
    have HLL := Lib.hid hll
    have hws := hB.size
    have HPU : Hid (∀ gg cap2 w4 ob, w4.ownsRow w.heap.size 77 5 (.slice (some ⟨gg, 0, none⟩) (j + 1) cap2) (j + 1) (cs ++ [.int .i64 kk, .string nm, .int .i64 s, .slice za zl zc, .int .i64 M]) → (wr.drew.alloc ob).grownBy w4 (Value.slice xl j lcap).ownBlock → OwnP w.heap.size (fun b => b < w.heap.size) w4 (scalP (-1) (ps.take (j + 1))) (.slice (some ⟨gg, 0, none⟩) (j + 1) cap2) ∧ Below w.heap.size w w4) := by
      show ∀ _, _
      intro gg cap2 w4 ob ho hg
      have r := OwnP_push (w6 := wr.drew) HLL.out.symm HO.out HK.out (Nat.le_refl _) hws ((Ext.refl wr).drew) (IsIn_carry (w := wr) (w' := wr.drew) (fun _ _ => rfl) (fun _ h => h) _ _ _ _ _ HIB.out) HMO.out ho hg
      rw [HST.out]
      exact ⟨r.1, HB.out.trans r.2.1⟩
    obtain ⟨⟨e0, e1, e2, e3⟩, e4⟩ := HCE.out wr hB
    have i1 : (0 : Int) ≤ (j : Int) := by omega
    have i2 : (j : Int) < (ps.length : Int) := by omega
    clear hown hK hB hll
    go_upto_region 5 with (fail)
    go_region_law ((refine step_append_lies _ (by rfl) _ _ _ (by rfl) w.heap.size 77 i0 _ 5 64 Tryz.underlying27 HI0.out.1 HI0.out.2.1 HI0.out.2.2.1 HI0.out.2.2.2 rfl (by omega) (.slice xl j lcap) j cs (by rfl) (by first | exact (HO.out.alloc _).drew | exact (own_heap (w' := wr.drew) HO.out (fun _ _ => rfl)).alloc _) ⟨wr.heap.size, 0, none⟩ 1 1 [.int .i64 kk, .string nm, .int .i64 s, .slice za zl zc, .int .i64 M] (by rfl) (by rfl) (World.news_of_block (cs := #[.int .i64 kk, .string nm, .int .i64 s, .slice za zl zc, .int .i64 M]) (t := 77) (fr := (0, 0)) (heap_alloc_new wr _)) (by simp [Value.oneCell']) (by omega) (by unfold maxLen; omega) (by omega) (by simp; omega) (wr.heap.size + 1) (by simp) ?_; intro gg cap8 w1 hown1 hgrow hat hltt; have HP8 := Lib.hid (HPU.out gg cap8 w1 _ hown1 hgrow); clear hown1 hgrow hat hltt))
    all_goals (go_wp2_with fail)
    all_goals (go_roundw)
    all_goals (first | exact ⟨j + 1, by omega, by go_num, HP8.out.1, HP8.out.2⟩ | (simp [intOf]; omega))
end Go.Proofs.YtcieadjjcpmieaaGreat

/-
  POWERS THAT COME IN.
-/
namespace Go.Proofs.YtcieadjjcpmieaaGreat
open Go.ChangeShapes Go.WideShapes Go.ChangeAt Go.RowKit Go.Deep

theorem cellsPower : Tryz.prog.cellsOf 77 = 5 := by kernel_rfl
theorem bytesPower : Tryz.prog.bytesOf 77 = 64 := by kernel_rfl
section
variable {H : Type} {enc : TypeId × Value → H} {W : World} {base : Nat} {sp : Nat → Bool} {held : Bool}

set_option maxRecDepth 100000 in
theorem open_power_upto (fuel : Nat) (cs : List Value) (x : DataW H × List MemPlace) (h : DataW.trod enc Tryz.prog W base sp held fuel 77 cs = some x) :
    ∃ (p : Pw) (c0 c1 c2 c3 : Value), cs = [c0, c1, c2, c3, .int .i64 p.2] ∧ Is W p.1 c0 c1 c2 c3 ∧ i64ok p.2 := by
  obtain ⟨xs, n, rfl, rfl, hl, hlen, hfs⟩ := DataW.trod_struct Tryz.underlying77 h
  rw [cellsPower] at hl
  match cs, hl with
  | [c0, c1, c2, c3, c4], _ =>
    match xs, hlen with
    | [y0, y1], _ =>
      have h0 := hfs 0 _ rfl
      have h1 := hfs 1 _ rfl
      simp [cellsTerm, cellsInt] at h0 h1
      obtain ⟨v, a0, a1, a2, a3, e, hI⟩ := open_term_upto n n _ _ (Nat.le_refl _) h0
      obtain ⟨k, e1, _, w1⟩ := DataW.trod_int Tryz.underlying3 h1
      simp only [List.cons.injEq, and_true] at e e1
      obtain ⟨rfl, rfl, rfl, rfl⟩ := e
      subst e1
      exact ⟨(v, k), _, _, _, _, rfl, hI, bounds_i64 w1⟩

set_option maxRecDepth 100000 in
/-- A SLICE OF POWERS, told by its cell. -/
theorem open_powers_upto (fuel : Nat) (cs : List Value) (x : DataW H × List MemPlace) (h : DataW.trod enc Tryz.prog W base sp held fuel 27 cs = some x) :
    ∃ (ps : List Pw) (xa : Option Addr) (cap : Nat), cs = [.slice xa ps.length cap] ∧ ps.length ≤ cap ∧ cap ≤ maxLen ∧ PRow W ps xa ∧ (ps = [] ∨ ∃ elems spare, x.1 = .slice elems spare ∧ elems.length = ps.length) := by
  rcases DataW.trod_slice Tryz.underlying27 h with ⟨e3, _⟩ | ⟨a, len, cap, elems, rest, m, hn, e3, hd, hb, hlc, hcm, hel, hat, _⟩
  · exact ⟨[], none, 0, e3, Nat.le_refl _, Nat.zero_le _, Or.inl rfl, Or.inl rfl⟩
  · rw [cellsPower] at hat
    have hone : ∀ i, i < len → ∃ p : Pw, ∃ c0 c1 c2 c3, W.cells? base (a.add (i * 5)) 5 = some [c0, c1, c2, c3, .int .i64 p.2] ∧ Is W p.1 c0 c1 c2 c3 ∧ i64ok p.2 := fun i hi => by
      have hi' : i < elems.length := by omega
      have := hat i hi
      rw [List.getElem?_eq_getElem hi'] at this
      obtain ⟨cs', hcs, htr⟩ := Option.bind_eq_some_iff.1 this
      obtain ⟨p, x0, x1, x2, x3, rfl, hI, hn⟩ := open_power_upto m cs' _ htr
      exact ⟨p, x0, x1, x2, x3, hcs, hI, hn⟩
    obtain ⟨f, hf'⟩ := choose_lt hone
    obtain ⟨ab, ao, spot⟩ := a
    have hll : ((List.range len).map f).length = len := by simp
    refine ⟨(List.range len).map f, some ⟨ab, ao, spot⟩, cap, by rw [hll]; exact e3, by rw [hll]; exact hlc, hcm, ?_, Or.inr ⟨elems.map (·.1), rest.map (·.1), by rw [hd], by rw [hll, List.length_map]; exact hel⟩⟩
    by_cases h0 : len = 0
    · subst h0; exact Or.inl rfl
    · have hspot : spot = none := by
        obtain ⟨x0, x1, x2, x3, hcs, _⟩ := hf' 0 (by omega)
        obtain ⟨_, _, hc⟩ := World.cells?_some hcs
        have := hc 0 (by omega)
        simpa [Addr.add] using World.cell?_spot this
      subst hspot
      refine Or.inr ⟨ab, ao, rfl, fun k hk => ?_⟩
      rw [hll] at hk
      obtain ⟨x0, x1, x2, x3, hcs, hI, hn⟩ := hf' k hk
      obtain ⟨_, _, hc⟩ := World.cells?_some hcs
      have g0 := hc 0 (by omega)
      have g1 := hc 1 (by omega)
      have g2 := hc 2 (by omega)
      have g3 := hc 3 (by omega)
      have g4 := hc 4 (by omega)
      simp only [Addr.add_lit, List.getElem?_cons_zero, List.getElem?_cons_succ, Nat.add_zero] at g0 g1 g2 g3 g4
      have e : ((List.range len).map f)[k]'(by rw [hll]; exact hk) = f k := by simp
      rw [e]
      exact ⟨⟨x0, x1, x2, x3, g0, g1, g2, g3, hI⟩, g4, hn⟩
set_option maxRecDepth 100000 in
/-- A SLICE OF POWERS THAT CAME IN. -/
theorem open_powers {v : Value} {d : DataW H} {ps0 : List MemPlace} {r : Reach} {b0 : Nat} (hv : Value.okWide Tryz.prog W r b0 27 v) (h : DataW.Trod enc Tryz.prog W base sp held 27 v d ps0) :
    ∃ (ps : List Pw) (xa : Option Addr) (cap : Nat), v = .slice xa ps.length cap ∧ ps.length ≤ cap ∧ cap ≤ maxLen ∧ PRow W ps xa ∧ (ps = [] ∨ ∃ elems spare, d = .slice elems spare ∧ elems.length = ps.length) := by
  obtain ⟨a0, l0, c0, rfl⟩ := okWide_slice Tryz.underlying27 hv
  obtain ⟨fuel, hf⟩ := h
  have hcs : (Value.slice a0 l0 c0).cells.toList = [.slice a0 l0 c0] := rfl
  rw [hcs] at hf
  obtain ⟨ps, xa, cap, e, h1, h2, h3, h4⟩ := open_powers_upto fuel _ _ hf
  simp only [List.cons.injEq, and_true] at e
  exact ⟨ps, xa, cap, e, h1, h2, h3, h4⟩
end
set_option maxRecDepth 100000 in
/-- The bulk that the form bears. -/
theorem powers_bytes {H : Type} {ts : List TypeId} {ds : List (DataW H)} (h : (DataW.weightsEach Tryz.prog ts ds).all (· ≤ reachBytes) = true) {j : Nat} {d : DataW H} {ps : List Pw} (ht : ts[j]? = some 27) (hd : ds[j]? = some d) (hb : ps = [] ∨ ∃ elems spare, d = .slice elems spare ∧ elems.length = ps.length) : ps.length * 64 ≤ 140737488355328 := by
  rcases hb with rfl | ⟨elems, spare, rfl, he⟩
  · simp
  · have := sized_slice h ht hd Tryz.underlying27
    rw [bytesPower] at this
    have h2 := reachBytes_lt
    have h3 : elems.length * 64 ≤ (elems.length + spare.length) * 64 := Nat.mul_le_mul_right _ (Nat.le_add_right _ _)
    omega
end Go.Proofs.YtcieadjjcpmieaaGreat

/-
  THE WALK OF the reference's Few at lists of powers.
-/
namespace Go.Proofs.YtcieadjjcpmieaaGreat
open Go.RowKit

def termsP (ps : List Pw) : List Tm := ps.map Prod.fst
def few06 (ls : List (List Pw)) (n most : Int) : Bool := decide ((ls.length : Int) ≤ n) && few (termsP ls.flatten) most most
theorem termsP_len (ps : List Pw) : (termsP ps).length = ps.length := by unfold termsP; simp
/-- The powers that two loops have gone through. -/
def goneP (ls : List (List Pw)) (j k : Nat) : List Tm := termsP ((ls.take j).flatten ++ (ls.getD j []).take k)
theorem goneP_zero (ls : List (List Pw)) (j : Nat) : goneP ls j 0 = termsP (ls.take j).flatten := by unfold goneP; simp
theorem goneP_next {ls : List (List Pw)} {j : Nat} (h : j < ls.length) : goneP ls j ls[j].length = goneP ls (j + 1) 0 := by
  unfold goneP
  rw [flatP_take h, List.getD_eq_getElem?_getD, List.getElem?_eq_getElem h]
  simp
theorem goneP_step {ls : List (List Pw)} {j k : Nat} (h : j < ls.length) (hk : k < ls[j].length) : goneP ls j (k + 1) = goneP ls j k ++ [(ls[j][k]).1] := by
  unfold goneP
  rw [List.getD_eq_getElem?_getD, List.getElem?_eq_getElem h]
  simp only [Option.getD_some]
  unfold termsP
  rw [List.take_succ_eq_append_getElem hk, List.map_append, List.map_append, List.map_append, List.append_assoc]
  rfl
theorem goneP_len {ls : List (List Pw)} {j k : Nat} (h : j < ls.length) (hk : k ≤ ls[j].length) : (goneP ls j k).length ≤ ls.flatten.length := by
  unfold goneP
  rw [termsP_len, List.length_append, List.getD_eq_getElem?_getD, List.getElem?_eq_getElem h]
  simp only [Option.getD_some, List.length_take]
  have := flatP_le ls (j + 1)
  rw [flatP_take h, List.length_append] at this
  omega

set_option maxHeartbeats 1000000 in
set_option maxRecDepth 100000 in
theorem few06_any (ls : List (List Pw)) (xs : Option Addr) (cs0 : Nat) (n most : Int) (w : World) (hlen : ls.flatten.length * 56 ≤ 140737488355328) (hn : ls.length ≤ 1048576) (hp : ∀ l ∈ ls, l.length ≤ maxLen) (h1 : most ≤ 4611686018427387904) (h2 : -9223372036854775808 ≤ most) (hR : PsRow w ls xs) :
    Calls Tryz.prog 16 #[.slice xs ls.length cs0, .int .i64 n, .int .i64 most] w fun e w' => e = .returned (.bool (few06 ls n most)) ∧ Below w.heap.size w w' := by
  have HF := Lib.hid (fun (xa' : Option Addr) (cap' : Nat) (W : World) (x : Row W (termsP ls.flatten) xa') => few_any (termsP ls.flatten) xa' cap' most most W (by rw [termsP_len]; unfold maxLen; omega) h1 h2 x)
  obtain ⟨T, hT⟩ : ∃ T, ls.flatten.length = T := ⟨_, rfl⟩
  have HFL : Hid ((termsP ls.flatten).length = T) := by show _ = _; rw [termsP_len, hT]
  have HTT := Lib.hid hT
  rw [HFL.out] at HF
  rw [hT] at hlen
  clear hT
  obtain ⟨R, hR0⟩ : ∃ R, few (termsP ls.flatten) most most = R := ⟨_, rfl⟩
  have HRR : Hid (few06 ls n most = (decide ((ls.length : Int) ≤ n) && R)) := by show _ = _; unfold few06; rw [hR0]
  rw [hR0] at HF
  clear hR0
  have HR := Lib.hid hR
  have HPL := Lib.hid hp
  have HLN := Lib.hid hlen
  obtain ⟨i0, hi0, hz0, hz1, hz2⟩ := info_parts info24
  have HI0 := Lib.hid (And.intro hi0 (And.intro hz0 (And.intro hz1 hz2)))
  obtain ⟨res, hres⟩ : ∃ res, few06 ls n most = res := ⟨_, rfl⟩
  rw [hres] at HRR ⊢
  clear hR h1 h2 hi0 hz0 hz1 hz2 hlen hp hres
  go_enter Tryz.func16, Tryz.ntmps16
  go_wp2_with fail
  go_loopw [7, 8] (fun l i wr => ∃ j : Nat, j ≤ ls.length ∧ i = .int .i64 j ∧ OwnT w.heap.size (fun b => b < w.heap.size) wr (goneP ls j 0) l ∧ Below w.heap.size w wr) (fun _ i _ => ls.length - (intOf i).toNat)
  case atStart => exact ⟨0, Nat.zero_le _, rfl, by rw [goneP_zero]; exact OwnT_nil _ _ _, Below.refl _ _⟩
  case round =>
    obtain ⟨j, hj, rfl, hO, hB⟩ := hrel
    by_cases hlt : j < ls.length
    rotate_left
    · obtain rfl : j = ls.length := by omega
      have eg : goneP ls ls.length 0 = termsP ls.flatten := by rw [goneP_zero, List.take_length]
      rw [eg] at hO
      obtain ⟨xl, lcap, rfl⟩ := OwnT_form hO
      have HR2 := Lib.hid (OwnT_row hO)
      have HB := Lib.hid hB
      rw [HFL.out]
      clear eg
      by_cases hle : (ls.length : Int) ≤ n
      · have hd : decide ((ls.length : Int) ≤ n) = true := decide_eq_true hle
        have HX : Hid (res = R) := by show _ = _; rw [HRR.out, hd, Bool.true_and]
        clear hO hB
        go_wp2_with (go_at_call 11; refine (HF.out xl lcap _ HR2.out).mono ?_; rintro e w3 ⟨he, hB3⟩; subst he; have HB3 := Lib.hid (HB.out.trans (hB3.mono HB.out.size)); clear hB3)
        go_ret
        exact ⟨by rw [HX.out]; rfl, HB3.out⟩
      · have hd : decide ((ls.length : Int) ≤ n) = false := decide_eq_false hle
        have HX : Hid (res = false) := by show _ = _; rw [HRR.out, hd, Bool.false_and]
        clear hO hB
        go_wp2_with fail
        go_ret
        exact ⟨by rw [HX.out]; rfl, HB.out⟩
    obtain ⟨b, o, rfl⟩ := PsRow_at HR.out (by omega)
    obtain ⟨ya, c, g0, hc0, hRj⟩ := PsRow_get HR.out j hlt
    have hpl := HPL.out _ (List.getElem_mem hlt)
    unfold maxLen at hpl
    have HGN := Lib.hid (goneP_next hlt)
    have HGS := Lib.hid (fun k (hk : k < ls[j].length) => goneP_step hlt hk)
    have HGL : Hid (∀ k, k ≤ ls[j].length → (goneP ls j k).length ≤ T) := fun k hk => by have := goneP_len hlt hk; rw [HTT.out] at this; exact this
    have HG0 : Hid (∀ W, Ext w W → W.cell? ⟨b, o + j, none⟩ = some (.slice ya ls[j].length c)) := fun W y => keep_below y _ _ g0
    have HRj := Lib.hid (fun W (y : Ext w W) => PRow_below (w' := W) hRj y)
    obtain ⟨qs, hqs⟩ : ∃ qs, ls[j] = qs := ⟨_, rfl⟩
    rw [hqs] at HGN HGS HGL HG0 HRj hpl hc0
    clear hqs g0 hRj
    have i1 : (0 : Int) ≤ (j : Int) := by omega
    have i2 : (j : Int) < (ls.length : Int) := by omega
    have HO0 := Lib.hid hO
    have HB0 := Lib.hid hB
    obtain ⟨w1, hw1⟩ : ∃ v : World, v = wr := ⟨_, rfl⟩
    subst hw1
    clear hO hB
    go_wp2_with fail
    go_loopw [7, 9] (fun l i wr => ∃ k : Nat, k ≤ qs.length ∧ i = .int .i64 k ∧ OwnT w.heap.size (fun b => b < w.heap.size) wr (goneP ls j k) l ∧ Below w.heap.size w wr) (fun _ i _ => qs.length - (intOf i).toNat)
    case atStart => exact ⟨0, Nat.zero_le _, rfl, HO0.out, HB0.out⟩
    case round =>
      obtain ⟨k, hk, rfl, hO, hB⟩ := hrel
      have e0 := HG0.out wr hB
      obtain ⟨xl, lcap, rfl⟩ := OwnT_form hO
      by_cases hkt : k < qs.length
      rotate_left
      · obtain rfl : k = qs.length := by omega
        rw [HGN.out] at hO ⊢
        have HO := Lib.hid hO
        have HB := Lib.hid hB
        clear hO hB
        go_wp2_with fail
        go_roundw
        case rel => exact ⟨j + 1, by omega, by go_num, HO.out, HB.out⟩
        case measure => simp [intOf]; omega
      obtain ⟨b2, o2, rfl⟩ := PRow_at (HRj.out w (Ext.refl _)) (by omega)
      obtain ⟨⟨c0, c1, c2, c3, f0, f1, f2, f3, hIw⟩, _, _⟩ := PRow_get (HRj.out w (Ext.refl _)) k hkt
      obtain ⟨kk, nm, s, za, zl, zc, rfl, rfl, rfl, rfl⟩ := Is_form hIw
      have HIB : Hid (IsIn (fun b => b < w.heap.size) wr qs[k].1 (.int .i64 kk) (.string nm) (.int .i64 s) (.slice za zl zc)) := IsIn_carry (fun b hb => hB.block b hb) (fun _ h => h) _ _ _ _ _ (Is_IsIn _ _ _ _ _ hIw)
      replace f0 := keep_below hB _ _ f0
      replace f1 := keep_below hB _ _ f1
      replace f2 := keep_below hB _ _ f2
      replace f3 := keep_below hB _ _ f3
      have HST := Lib.hid (HGS.out k hkt)
      have hll := HGL.out k hk
      obtain ⟨cs, hown, hK⟩ := hO
      obtain ⟨A, hA⟩ : ∃ A, (goneP ls j k).length = A := ⟨_, rfl⟩
      have HA := Lib.hid hA
      rw [hA] at hown hll ⊢
      have hA1 : A + 1 ≤ T := by
        have h1 := HGL.out (k + 1) hkt
        rw [HST.out, List.length_append, HA.out] at h1
        simpa using h1
      have hA56 : (A + 1) * 56 ≤ 140737488355328 := by have := HLN.out; omega
      have HO := Lib.hid hown
      have HK := Lib.hid hK
      have HB := Lib.hid hB
      have hws := hB.size
      have k1 : (0 : Int) ≤ (k : Int) := by omega
      have k2 : (k : Int) < (qs.length : Int) := by omega
      have HPU : Hid (∀ gg cap2 w4 ob, w4.ownsRow w.heap.size 24 4 (.slice (some ⟨gg, 0, none⟩) (A + 1) cap2) (A + 1) (cs ++ [.int .i64 kk, .string nm, .int .i64 s, .slice za zl zc]) → (wr.alloc ob).grownBy w4 (Value.slice xl A lcap).ownBlock → OwnT w.heap.size (fun b => b < w.heap.size) w4 (goneP ls j (k + 1)) (.slice (some ⟨gg, 0, none⟩) (A + 1) cap2) ∧ Below w.heap.size w w4) := by
        show ∀ _, _
        intro gg cap2 w4 ob ho hg
        have r := OwnT_push HO.out HK.out HA.out.symm HIB.out (Nat.le_refl _) hws ho hg
        rw [HST.out]
        exact ⟨r.1, HB.out.trans r.2⟩
      clear hown hK hB hA hIw hll
      go_wp2_with (at_builtin; refine wpList_append_lies _ rfl _ _ _ rfl w.heap.size 24 i0 _ 4 56 Tryz.underlying22 HI0.out.1 HI0.out.2.1 HI0.out.2.2.1 HI0.out.2.2.2 rfl (by omega) (.slice xl A lcap) A cs rfl (HO.out.alloc _) ⟨wr.heap.size, 0, none⟩ 1 1 [.int .i64 kk, .string nm, .int .i64 s, .slice za zl zc] rfl rfl (World.news_of_block (cs := #[.int .i64 kk, .string nm, .int .i64 s, .slice za zl zc]) (t := 24) (fr := (0, 0)) (heap_alloc_new wr _)) (by simp [Value.oneCell']) (by omega) (by unfold maxLen; omega) (by omega) (by simp; omega) (wr.heap.size + 1) (by simp) ?_; intro g cap2 w4 hown4 hgrow4 hat4 hlt4; have HP := Lib.hid (HPU.out _ _ _ _ hown4 hgrow4); clear hown4 hgrow4 hat4 hlt4)
      go_roundw
      case rel => exact ⟨k + 1, by omega, by go_num, HP.out.1, HP.out.2⟩
      case measure => simp [intOf]; omega
end Go.Proofs.YtcieadjjcpmieaaGreat

/-
  THE WALK OF the law ExponentTerm, the chapter's examples by hypothesis.
-/
namespace Go.Proofs.YtcieadjjcpmieaaGreat
open Go.RowKit

/-- What every law's first test gives. -/
def Awake6Ok : Prop := ∀ w : World, Calls Tryz.prog 10 #[] w fun e w' => e = .returned (.bool true) ∧ Below w.heap.size w w'
theorem mem_sizes : ∀ {l : List Tm} {t : Tm}, t ∈ l → size t ≤ sizes l
  | u :: l, t, h => by
    have e : sizes (u :: l) = size u + sizes l := rfl
    rcases List.mem_cons.1 h with rfl | h
    · omega
    · have := mem_sizes h; omega
theorem few_szP {ps : List Pw} {n most : Nat} (h : few (termsP ps) (n : Int) (most : Int) = true) : ps.length ≤ n ∧ SzP most ps := by
  unfold few at h
  by_cases hl : (n : Int) < ((termsP ps).length : Int)
  · rw [if_pos hl] at h; cases h
  · rw [if_neg hl] at h
    rw [termsP_len] at hl
    have := fewL_sizes _ _ (by omega) h
    refine ⟨by omega, fun p hp => ?_⟩
    have h2 := mem_sizes (l := termsP ps) (t := p.1) (List.mem_map.2 ⟨p, hp, rfl⟩)
    omega
theorem termP_size (ps : List Pw) : size (termP ps).1 ≤ 400 := by
  have hz : size (.mk 0 ⟨#[]⟩ 0 [] : Tm) ≤ 400 := by decide
  unfold termP
  split
  · split
    · exact hz
    · split
      · rename_i h
        unfold validE at h
        split at h
        · split at h
          · cases h
          · show size (prodT (posO ps ++ negO ps)) ≤ 400; omega
        · rename_i h2; exact absurd h h2
      · exact hz
  · exact hz
theorem keep_alloc_box {w w' : World} {b : Nat} {o : Obj} (h : w'.heap[b]? = w.heap[b]?) (hb : w.heap[b]? = some o) (x : Obj) : (w'.alloc x).heap[b]? = some o := by
  have h2 := h.trans hb
  rw [Below.heap_alloc _ _ _ (Array.getElem?_eq_some_iff.1 h2).1]; exact h2
theorem few06_one (ps : List Pw) (most : Int) : few06 [ps] 1 most = few (termsP ps) most most := by
  unfold few06; simp
theorem PsRow_one {w : World} {H : Nat} (hH : w.heap.size = H) {l : List Pw} {x : Option Addr} {c : Nat} (hc : l.length ≤ c) (h1 : PRow w l x) (T : TypeId) : PsRow (w.alloc (.cells #[.slice x l.length c] T)) [l] (some ⟨H, 0, none⟩) := by
  have c := cells_new_at w #[.slice x l.length c] T H hH
  refine Or.inr ⟨H, 0, rfl, fun k hk => ?_⟩
  match k, hk with
  | 0, _ => exact ⟨x, _, c 0 _ rfl, hc, PRow_below h1 ((Ext.refl w).alloc _)⟩

set_option maxHeartbeats 3200000 in
set_option maxRecDepth 100000 in
theorem laT_any (HA0 : Awake6Ok) (ps : List Pw) (xa : Option Addr) (cap : Nat) (w : World) (hcap : ps.length ≤ cap) (hb : ps.length * 64 ≤ 140737488355328) (hR : PRow w ps xa) :
    Calls Tryz.prog 4 #[.slice xa ps.length cap] w fun e w' => e = .returned (.bool true) ∧ Below w.heap.size w w' := by
  have HA := Lib.hid HA0
  have HR := Lib.hid (fun W (y : Ext w W) => PRow_below (w' := W) hR y)
  have HCP := Lib.hid hcap
  have HFE := Lib.hid (fun W (y : Ext w W) => by
    have h := few06_any [ps] (some ⟨W.heap.size, 0, none⟩) 1 1 1000 (W.alloc (.cells #[.slice xa ps.length cap] 27)) (by simp; omega) (by simp) (fun l hl => by simp only [List.mem_singleton] at hl; subst hl; unfold maxLen; omega) (by omega) (by omega) (PsRow_one rfl hcap (PRow_below (w' := W) hR y) _)
    rw [few06_one] at h
    exact h)
  obtain ⟨L, hL⟩ : ∃ L, ps.length = L := ⟨_, rfl⟩
  have HL := Lib.hid hL
  rw [hL] at HFE hb
  cases hfew : few (termsP ps) 1000 1000 with
  | false =>
    rw [hfew] at HFE
    rw [hL]
    clear hfew hL hR hcap
    go_enter Tryz.func4, Tryz.ntmps4
    have tok1 : True := trivial
    go_wp2_with (first
      | (go_at_call 10; have _t := tok1; refine (HA.out _).mono ?_; rintro e w1 ⟨he, hB⟩; subst he; have HX1 : Hid (Ext w w1) := hB; clear hB tok1)
      | (go_at_call 16; refine (HFE.out _ HX1.out).mono ?_; rintro e w2 ⟨he, hB⟩; subst he; have HX2 : Hid (Ext w w2) := Ext.trans (Ext.alloc HX1.out _) hB; clear hB)
      | (go_at_call 10; refine (HA.out _).mono ?_; rintro e w3 ⟨he, hB⟩; subst he; have HX3 : Hid (Ext w w3) := Ext.trans HX2.out hB; clear hB))
    go_ret
    exact ⟨rfl, HX3.out⟩
  | true =>
    rw [hfew] at HFE
    obtain ⟨hl, hsz⟩ := few_szP (n := 1000) (most := 1000) hfew
    by_cases h210 : 210 < ps.length
    · have q : (210 : Int) < (L : Int) := by omega
      rw [hL]
      clear hfew hL hR hcap hsz hl h210
      go_enter Tryz.func4, Tryz.ntmps4
      have tok1 : True := trivial
      go_wp2_with (first
        | (go_at_call 10; have _t := tok1; refine (HA.out _).mono ?_; rintro e w1 ⟨he, hB⟩; subst he; have HX1 : Hid (Ext w w1) := hB; clear hB tok1)
        | (go_at_call 16; refine (HFE.out _ HX1.out).mono ?_; rintro e w2 ⟨he, hB⟩; subst he; have HX2 : Hid (Ext w w2) := Ext.trans (Ext.alloc HX1.out _) hB; clear hB)
        | (go_at_call 10; refine (HA.out _).mono ?_; rintro e w3 ⟨he, hB⟩; subst he; have HX3 : Hid (Ext w w3) := Ext.trans HX2.out hB; clear hB))
      go_ret
      exact ⟨rfl, HX3.out⟩
    have q : ¬ (210 : Int) < (L : Int) := by omega
    have HTE := Lib.hid (fun W (y : Ext w W) => Term_any ps xa cap W (by omega) (fun p hp => Nat.le_trans (hsz p hp) (by omega)) (PRow_below (w' := W) hR y))
    have HRT := Lib.hid (fun W (y : Ext w W) => rTerm_any ps xa cap W (by omega) (fun p hp => Nat.le_trans (hsz p hp) (by omega)) (PRow_below (w' := W) hR y))
    have HIN := Lib.hid (fun W (y : Ext w W) => Inverse_any ps xa cap W (by omega) (fun p hp => Nat.le_trans (hsz p hp) (by omega)) (PRow_below (w' := W) hR y))
    have HRI := Lib.hid (fun W (y : Ext w W) => rInverse_any ps xa cap W (by omega) (PRow_below (w' := W) hR y))
    have hsl := scalP_len (-1) ps
    have HSA := Lib.hid (fun x2 x3 c2 c3 W h1 h2 => psame_eq (scalP (-1) ps) x2 x3 c2 c3 W (by unfold maxLen; omega) (fun p hp => by obtain ⟨q, hq, rfl⟩ := List.mem_map.1 hp; exact Nat.le_trans (hsz q hq) (by omega)) h1 h2)
    rw [hsl] at HSA
    rw [hL] at HTE HRT HIN HRI HSA ⊢
    rw [hL] at hsl
    have HSL := Lib.hid hsl
    have hts := termP_size ps
    obtain ⟨r, hT⟩ : ∃ r, termP ps = r := ⟨_, rfl⟩
    rw [hT] at HTE HRT hts
    obtain ⟨T, E⟩ := r
    simp only at hts
    have HTS : Hid (∀ c0 c1 c2 c3 d0 d1 d2 d3 W, Is W T c0 c1 c2 c3 → Is W T d0 d1 d2 d3 → Calls Tryz.prog 18 #[.agg #[c0, c1, c2, c3], .agg #[d0, d1, d2, d3]] W fun e w' => e = .returned (.bool true) ∧ Below W.heap.size W w') := by
      show ∀ _, _
      intro c0 c1 c2 c3 d0 d1 d2 d3 W h1 h2
      have h := same_any T T c0 c1 c2 c3 d0 d1 d2 d3 W (by omega) (by omega) h1 h2
      rw [cmpT_self] at h
      exact h
    have qE : (E == E) = true := by simp
    clear hfew hL hR hcap hsz hl h210 hT hts hsl
    go_enter Tryz.func4, Tryz.ntmps4
    go_wp2_with (first
      | (go_at_call 10; refine (HA.out _).mono ?_; rintro e w1 ⟨he, hB⟩; subst he; have HX1 : Hid (Ext w w1) := hB; clear hB)
      | (go_at_call 16; refine (HFE.out _ HX1.out).mono ?_; rintro e w2 ⟨he, hB⟩; subst he; have HX2 : Hid (Ext w w2) := Ext.trans (Ext.alloc HX1.out _) hB; clear hB)
      | (go_at_call 15; refine (HTE.out _ HX2.out).mono ?_; rintro e w3 ⟨c0, c1, c2, c3, he, hI, hB⟩; subst he; obtain ⟨k3, n3, s3, x3, l3, d3, e0, e1, e2, e3⟩ := Is_form hI; subst e0 e1 e2 e3; have HX3 : Hid (Ext w w3) := Ext.trans HX2.out hB; have HI3 := Lib.hid hI; have HL3 := Lib.hid (heap_alloc_new w3 (.cells #[.int .i64 k3, .string n3, .int .i64 s3, .slice x3 l3 d3] 24)); clear hI hB)
      | (go_at_call 17; refine (HRT.out _ (Ext.alloc HX3.out _)).mono ?_; rintro e w4 ⟨c0, c1, c2, c3, he, hJ, hB⟩; subst he; obtain ⟨k4, n4, s4, x4, l4, d4, e0, e1, e2, e3⟩ := Is_form hJ; subst e0 e1 e2 e3; have HX4 : Hid (Ext w w4) := Ext.trans (Ext.alloc HX3.out _) hB; have HJ4 := Lib.hid hJ; have HI4 := Lib.hid (Is_below (Is_alloc HI3.out _) hB); have hl4 := keep_alloc_box (hB.block w3.heap.size (by simp)) HL3.out (.cells #[.int .i64 k4, .string n4, .int .i64 s4, .slice x4 l4 d4] 24); obtain ⟨⟨a0, a1, a2, a3⟩, _⟩ := box_facts hl4; clear hJ hB)
      | (go_at_call 18; refine (HTS.out _ _ _ _ _ _ _ _ _ (Is_alloc HI4.out _) (Is_alloc HJ4.out _)).mono ?_; rintro e w5 ⟨he, hB⟩; subst he; have HX5 : Hid (Ext w w5) := Ext.trans (Ext.alloc HX4.out _) hB; clear hB)
      | (go_at_call 19; refine (HIN.out _ HX5.out).mono ?_; rintro e w6 ⟨x6, c6, he, hc6, hR6, hB⟩; subst he; rw [show (scalP (-1) ps).length = L from HSL.out]; have HX6 : Hid (Ext w w6) := Ext.trans HX5.out hB; have HR6 := Lib.hid hR6; clear hB hc6 hR6)
      | (go_at_call 20; refine (HRI.out _ HX6.out).mono ?_; rintro e w7 ⟨x7, c7, he, hc7, hR7, hB⟩; subst he; rw [show (scalP (-1) ps).length = L from HSL.out]; have HX7 : Hid (Ext w w7) := Ext.trans HX6.out hB; have HR7 := Lib.hid hR7; have HR67 := Lib.hid (PRow_below HR6.out hB); clear hB hc7 hR7)
      | (go_at_call 14; refine (HSA.out _ _ _ _ _ HR67.out HR7.out).mono ?_; rintro e w8 ⟨he, hB⟩; subst he; have HX8 : Hid (Ext w w8) := Ext.trans HX7.out hB; clear hB))
    go_ret
    exact ⟨rfl, HX8.out⟩
end Go.Proofs.YtcieadjjcpmieaaGreat
