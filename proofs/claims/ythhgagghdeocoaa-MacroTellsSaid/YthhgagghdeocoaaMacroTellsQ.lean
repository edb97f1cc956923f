/-
  Layer 11's law: MacroTells, with its arguments as they were opened. Contracts for other texts; no statement of its own.
-/
import Derived.Test.YthhgagghdeocoaaCtOpen
import Derived.Test.YthhgagghdeocoaaMacTells
set_option linter.unusedVariables false
set_option linter.unusedSimpArgs false
namespace Go.Proofs.Ythhgagghdeocoaa
open Go Go.RowKit

theorem macrotells_q (w : World) (dst key base n step tmp cells : Int) (A : Option Addr) (ca : Nat) (l : List Ins) (c0 : -9223372036854775808 ≤ dst) (e0 : dst ≤ 9223372036854775807) (c1 : -9223372036854775808 ≤ key) (e1 : key ≤ 9223372036854775807) (c2 : -9223372036854775808 ≤ base) (e2 : base ≤ 9223372036854775807) (c3 : -9223372036854775808 ≤ n) (e3 : n ≤ 9223372036854775807) (c4 : -9223372036854775808 ≤ step) (e4 : step ≤ 9223372036854775807) (c5 : -9223372036854775808 ≤ tmp) (e5 : tmp ≤ 9223372036854775807) (c6 : -9223372036854775808 ≤ cells) (e6 : cells ≤ 9223372036854775807) (hl : RdI w A l) (hfit : ∀ (i : Nat) (x : Ins), l[i]? = some x → x.fits) (hlc : l.length ≤ 9223372036854775807) :
    Calls Try.prog 6 #[.int .i64 dst, .int .i64 key, .int .i64 base, .int .i64 n, .int .i64 step, .int .i64 tmp, .int .i64 cells, .slice A l.length ca] w fun e w' => e = .returned (.bool true) ∧ Below w.heap.size w w' := macrotells_p dst key base n step tmp cells ⟨c0, e0⟩ ⟨c1, e1⟩ ⟨c2, e2⟩ ⟨c3, e3⟩ ⟨c4, e4⟩ ⟨c5, e5⟩ ⟨c6, e6⟩ hl hfit hlc
end Go.Proofs.Ythhgagghdeocoaa
