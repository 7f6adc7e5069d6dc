/-
  THE WALKS OF the reference's Text and Format.
-/
import Derived.Test.YtclgcfpjhlcnfaaDoorText
namespace Go.Proofs.YtclgcfpjhlcnfaaDoor
open Go.RowKit

section
variable (w : World) (n : ByteArray) (s : Int) (ks : List Tm) (xa : Option Addr) (cap : Nat)

end

theorem textL_first (n : ByteArray) (ks : List Tm) (s : Int) : textT (.mk 3 n s ks) = textL (n ++ (⟨#[40]⟩ : ByteArray)) false ks ++ ⟨#[41]⟩ := by
  simp only [textT]
  rw [if_neg (by omega), if_neg (by omega)]; rfl

end Go.Proofs.YtclgcfpjhlcnfaaDoor

/-
  THE WALK OF the reference's Format; what it computes.
-/
namespace Go.Proofs.YtclgcfpjhlcnfaaDoor
open Go.RowKit

/-- The text of a valid term, or no text and its error. -/
def formP (t : Tm) : ByteArray × Int := if validE t = 0 then (textT t, 0) else (⟨#[]⟩, validE t)
theorem validE_zero {t : Tm} (h : validE t = 0) : nodesE t = 0 ∧ size t ≤ 400 ∧ depth t ≤ 40 := by
  unfold validE at h
  split at h
  · rename_i h0
    split at h
    · cases h
    · exact ⟨h0, by omega, by omega⟩
  · rename_i h0; exact absurd h h0

end Go.Proofs.YtclgcfpjhlcnfaaDoor
