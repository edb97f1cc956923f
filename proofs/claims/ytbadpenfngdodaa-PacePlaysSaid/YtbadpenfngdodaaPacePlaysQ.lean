/-
  Layer 13's law: PacePlays, with its arguments as they were opened. Contracts for other texts; no statement of its own.
-/
import Derived.Test.YtbadpenfngdodaaPacOpen
import Derived.Test.YtbadpenfngdodaaPacPlays
set_option linter.unusedVariables false
set_option linter.unusedSimpArgs false
namespace Go.Proofs.Ytbadpenfngdodaa
open Go Go.RowKit

theorem paceplays_q (w : World) (p : Pc) (A : Option Addr) (ca : Nat) (l : List Dd) (hl : RdD w A l) (hfit : ∀ (i : Nat) (x : Dd), l[i]? = some x → x.fits) (hlc : l.length ≤ 9223372036854775807) :
    Calls Try.prog 5 #[pcV p, .slice A l.length ca] w fun e w' => e = .returned (.bool true) ∧ Below w.heap.size w w' := paceplays_p p hl hfit hlc
end Go.Proofs.Ytbadpenfngdodaa
