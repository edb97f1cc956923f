/-
  Layer 10's law: CtPlays, with its arguments as they were opened. Contracts for other texts; no statement of its own.
-/
import Derived.Test.YtccglhcjbpgipaaCtOpen
import Derived.Test.YtccglhcjbpgipaaCtPlays
set_option linter.unusedVariables false
set_option linter.unusedSimpArgs false
namespace Go.Proofs.Ytccglhcjbpgipaa
open Go Go.RowKit

theorem ctplays_q (w : World) (cells : Int) (A : Option Addr) (ca : Nat) (l : List Ins) (B : Option Addr) (cb : Nat) (zs : List Int) (c0 : -9223372036854775808 ≤ cells) (e0 : cells ≤ 9223372036854775807) (hl : RdI w A l) (hfit : ∀ (i : Nat) (x : Ins), l[i]? = some x → x.fits) (hlc : l.length ≤ 9223372036854775807)
    (has : RdZ .i64 w B zs) (hab : ∀ k, k < zs.length → I64 (zs.getD k 0)) (hac : zs.length ≤ 9223372036854775807) :
    Calls Try.prog 6 #[.int .i64 cells, .slice A l.length ca, .slice B zs.length cb] w fun e w' => e = .returned (.bool true) ∧ Below w.heap.size w w' := ctplays_p cells ⟨c0, e0⟩ hl hfit has hab hlc hac
end Go.Proofs.Ytccglhcjbpgipaa
