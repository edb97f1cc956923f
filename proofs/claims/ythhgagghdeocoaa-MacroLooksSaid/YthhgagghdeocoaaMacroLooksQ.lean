/-
  Layer 11's law: MacroLooks, with its arguments as they were opened. Contracts for other texts; no statement of its own.
-/
import Derived.Test.YthhgagghdeocoaaCtOpen
import Derived.Test.YthhgagghdeocoaaMacLooks
set_option linter.unusedVariables false
set_option linter.unusedSimpArgs false
namespace Go.Proofs.Ythhgagghdeocoaa
open Go Go.RowKit

theorem macrolooks_q (w : World) (A : Option Addr) (ca : Nat) (tb : List Int) (key step k : Int) (ht : RdZ .u64 w A tb) (hfit : ∀ k, k < tb.length → U64 (tb.getD k 0)) (hlc : tb.length ≤ 9223372036854775807) (c1 : 0 ≤ key) (e1 : key ≤ 18446744073709551615) (c2 : -9223372036854775808 ≤ step) (e2 : step ≤ 9223372036854775807) (c3 : -9223372036854775808 ≤ k) (e3 : k ≤ 9223372036854775807) :
    Calls Try.prog 7 #[.slice A tb.length ca, .int .u64 key, .int .i64 step, .int .i64 k] w fun e w' => e = .returned (.bool true) ∧ Below w.heap.size w w' := macrolooks_p key step k ⟨c1, e1⟩ ⟨c2, e2⟩ ⟨c3, e3⟩ ht hfit hlc
end Go.Proofs.Ythhgagghdeocoaa
