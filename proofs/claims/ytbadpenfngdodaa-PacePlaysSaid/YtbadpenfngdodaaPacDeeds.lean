/-
  Deeds that are read. Laws for other texts; no statement of its own.
-/
import Derived.Test.YtbadpenfngdodaaBase
set_option linter.unusedVariables false
set_option linter.unusedSimpArgs false
namespace Go.Proofs.Ytbadpenfngdodaa
open Go Go.RowKit

/-- A deed. -/
structure Dd where
  what : Int
  n : Int
structure Dd.fits (x : Dd) : Prop where
  w1 : -9223372036854775808 ≤ x.what
  w2 : x.what ≤ 9223372036854775807
  n1 : -9223372036854775808 ≤ x.n
  n2 : x.n ≤ 9223372036854775807
/-- Deeds that are read. -/
def RdD (w : World) (A : Option Addr) (l : List Dd) : Prop :=
  ∀ (i : Nat) (x : Dd), l[i]? = some x → ∃ g off, A = some ⟨g, off, none⟩ ∧ g < w.heap.size ∧ w.cell? ⟨g, off + i * 2, none⟩ = some (.int .i64 x.what) ∧ w.cell? ⟨g, off + i * 2 + 1, none⟩ = some (.int .i64 x.n)
theorem RdD.stays {w w' : World} {A : Option Addr} {l : List Dd} (h : RdD w A l) (hb : Below w.heap.size w w') : RdD w' A l := fun i x hi => by
  obtain ⟨g, off, e, hg, h0, h1⟩ := h i x hi
  exact ⟨g, off, e, Nat.lt_of_lt_of_le hg hb.size, cell_stays h0 hb, cell_stays h1 hb⟩
end Go.Proofs.Ytbadpenfngdodaa
