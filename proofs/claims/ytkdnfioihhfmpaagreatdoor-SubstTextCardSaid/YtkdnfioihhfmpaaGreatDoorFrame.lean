/-
  THE FRAME OF EVERY LAW OF THIS SEAT: what the listed table gives; the arguments read again behind a call that makes only new memory; a call that returns true meets the law's specification; a world for the witness.
-/
import Derived.Test.YtkdnfioihhfmpaaGreatDoorRows
import Derived.Test.YtkdnfioihhfmpaaGreatDoorOpen
import Derived.Test.YtkdnfioihhfmpaaGreatDoorExt
import Derived.Carry
import Derived.MakeChecks
import Derived.Deep.DeepHandedRow
import Derived.Lib.LaidTab
namespace Go.Proofs.YtkdnfioihhfmpaaGreatDoor
open Go.ChangeShapes Go.WideShapes Go.ChangeAt Go.RowKit Go.Deep

theorem laid_of {W : World} (h : laidMetH Tryz.prog [("sealring/term.sortWords", Rows.laid_sealring_term_sortWords)] W) : Laid W := by
  rw [MakeChecks.laidMetH_plain _ _ _ (by kernel_rfl)] at h
  obtain ⟨ps, ⟨g, t, cs, f, p, q, hg, ht, hv, hd, _, _⟩, _⟩ := h
  obtain rfl := Option.some.inj (gWords.symm.trans hg)
  obtain rfl := Option.some.inj (gWordsType.symm.trans ht)
  have hw := fun i b hi => trod_word (ws := [[97, 110, 121], [97, 103, 101, 110, 116], [110, 111, 110, 99, 101], [107, 101, 121], [100, 97, 116, 97], [116, 97, 103]]) Tryz.underlying148 Tryz.underlying9 cellsString hd i b hi
  have hc : ∀ i b, ([[97, 110, 121], [97, 103, 101, 110, 116], [110, 111, 110, 99, 101], [107, 101, 121], [100, 97, 116, 97], [116, 97, 103]] : List (List UInt8))[i]? = some b → W.cell? ⟨0, i, none⟩ = some (.string ⟨b.toArray⟩) := fun i b hi => by
    obtain ⟨s, h1, h2⟩ := hw i b hi
    rw [World.var?_cell hg hv i, ← Array.getElem?_toList, h1, ba_eq h2]
  exact ⟨hc 0 _ rfl, hc 1 _ rfl, hc 2 _ rfl, hc 3 _ rfl, hc 4 _ rfl, hc 5 _ rfl⟩

theorem trodAll_below {H : Type} {enc : TypeId × Value → H} {W W' : World} (hB : Below W.heap.size W W') : ∀ {ts : List TypeId} {vs : List Value} {ds : List (DataW H)} {ps : List MemPlace}, (∀ t ∈ ts, t < Tryz.prog.types.size ∧ Tryz.prog.readableRec t = true) →
    DataW.TrodAll enc Tryz.prog W 0 (fun _ => true) true ts vs ds ps → (∀ x ∈ ps, x.block < W.heap.size) → DataW.TrodAll enc Tryz.prog W' 0 (fun b => decide (b < W.heap.size)) true ts vs ds ps
  | [], [], [], _, _, h, _ => h
  | t :: ts, _ :: _, _ :: _, _, hT, ⟨p, q, h1, h2, e⟩, hs =>
    ⟨p, q, Below.trod laidOut (hT t (List.mem_cons.2 (Or.inl rfl))).2 (hT t (List.mem_cons.2 (Or.inl rfl))).1 h1 hB (fun x hx => hs x (by rw [e]; exact List.mem_append_left _ hx)),
      trodAll_below hB (fun t ht => hT t (List.mem_cons.2 (Or.inr ht))) h2 (fun x hx => hs x (by rw [e]; exact List.mem_append_right _ hx)), e⟩

/-- A CALL THAT RETURNS true AND MAKES ONLY NEW MEMORY MEETS THE LAW. -/
theorem post_true {H : Type} {enc : TypeId × Value → H} {f : Func} {s : ChangeSpec} {W W' : World} {args : Array Value} {ds gs : List (DataW H)} {before : List MemPlace} (hv : s.vars = []) (hs : s.fn H ds = { results := [.lit (.bool true)], args := ds })
    (hr : f.resultTypes = #[4]) (hT : ∀ t ∈ f.params.toList, t < Tryz.prog.types.size ∧ Tryz.prog.readableRec t = true)
    (hW : DataW.Whole enc Tryz.prog f.params.toList s.vars false W args.toList ds gs before) (hB : Below W.heap.size W W') : s.post enc Tryz.prog f false true false false W args (.bool true) W' := by
  have hlt := hW.lt
  have hW' := hW
  rw [hv] at hW'
  obtain ⟨p, q, hA, hV, rfl, hfz, hnd⟩ := hW'
  obtain ⟨rfl, rfl⟩ := trodVars_none hV
  refine ⟨ds, [], p ++ [], [], p, [], hW, ?_, ?_, ?_, hB.frame _, fun h => by cases h⟩
  · rw [List.append_nil, hs, hr]
    exact trodAll_mk1 (shut_bool Tryz.underlying4 _)
  · rw [List.append_nil, hs]
    exact trodAll_below hB hT hA (fun x hx => hlt x (by simpa using hx))
  · rw [List.append_nil, hs, hv]; rfl

/-- A WORLD FOR THE WITNESS: the settled one, the table holding what its initialiser lays. -/
noncomputable def laidWorld (os : Os) : World :=
  { World.holding Tryz.prog os ⟨#[], #[], []⟩ with heap := (World.holding Tryz.prog os ⟨#[], #[], []⟩).heap.modify 0 fun
      | .cells _ t frozen => .cells #[.string wAny, .string wAgent, .string wNonce, .string wKey, .string wData, .string wTag] t frozen
      | o => o }
def vTerm : Value := .agg #[.int .i64 0, .string ⟨#[]⟩, .int .i64 0, .slice none 0 0]
def vInts : Value := .slice none 0 0
def vString : Value := .string ⟨#[]⟩

end Go.Proofs.YtkdnfioihhfmpaaGreatDoor
