/-
  Texts in memory that are read. Laws for other texts; no statement of its own.
-/
import Derived.Test.YtgbcklnnbeimhaaDoorBase
set_option linter.unusedVariables false
set_option linter.unusedSimpArgs false
namespace Go.Proofs.YtgbcklnnbeimhaaDoor
open Go Go.RowKit

/-- Texts that are read. -/
def RdStr (w : World) (A : Option Addr) (L : List ByteArray) : Prop := ∀ i s, L[i]? = some s → ∃ b off, A = some ⟨b, off, none⟩ ∧ b < w.heap.size ∧ w.cell? ⟨b, off + i, none⟩ = some (.string s)
theorem RdStr.stays {w w' : World} {A : Option Addr} {L : List ByteArray} (h : RdStr w A L) (hb : Below w.heap.size w w') : RdStr w' A L := fun i s e => by
  obtain ⟨b, off, h1, h2, h3⟩ := h i s e
  exact ⟨b, off, h1, Nat.lt_of_lt_of_le h2 hb.size, cell_stays h3 hb⟩
end Go.Proofs.YtgbcklnnbeimhaaDoor
