/-
  Layer 13's law: PaceLeft, with its arguments as they were opened. Contracts for other texts; no statement of its own.
-/
import Derived.Test.YtbadpenfngdodaaPacOpen
import Derived.Test.YtbadpenfngdodaaPacLeft
set_option linter.unusedVariables false
set_option linter.unusedSimpArgs false
namespace Go.Proofs.Ytbadpenfngdodaa
open Go Go.RowKit

theorem paceleft_q (w : World) (la k q : Int) (A : Option Addr) (ca : Nat) (l : List Dd) (c0 : -9223372036854775808 ≤ la) (e0 : la ≤ 9223372036854775807) (c1 : -9223372036854775808 ≤ k) (e1 : k ≤ 9223372036854775807) (c2 : -9223372036854775808 ≤ q) (e2 : q ≤ 9223372036854775807) (hl : RdD w A l) (hfit : ∀ (i : Nat) (x : Dd), l[i]? = some x → x.fits) (hlc : l.length ≤ 9223372036854775807) :
    Calls Try.prog 6 #[.int .i64 la, .int .i64 k, .int .i64 q, .slice A l.length ca] w fun e w' => e = .returned (.bool true) ∧ Below w.heap.size w w' := paceleft_p la k q hl hfit hlc
end Go.Proofs.Ytbadpenfngdodaa
