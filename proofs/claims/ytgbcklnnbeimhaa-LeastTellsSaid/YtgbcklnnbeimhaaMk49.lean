import Derived.Test.YtgbcklnnbeimhaaMk48
set_option linter.unusedVariables false
set_option linter.unusedSimpArgs false
namespace Go.Proofs.Ytgbcklnnbeimhaa
open Go Go.RowKit
theorem zkh (w:World) (A:Option Addr) (ca:Nat) (L:List ByteArray) (B:Option Addr) (cb:Nat) (bs:List Bool) (lam:Int)
   (hs:RdStr w A L) (hL:L.length≤9223372036854775807) (hsz:∀ s∈L,s.size≤9223372036854775807) (hb:RdBo w B bs) (hbs:bs.length≤9223372036854775807) (c2 : -9223372036854775808≤lam) (e2:lam≤9223372036854775807):
   Calls Try.prog 3 #[.slice A L.length ca,.slice B bs.length cb,.int .i64 lam] w fun e w'=>e = .returned (.bool true)∧Below w.heap.size w w':=
 zki hs hb hL hbs hsz ⟨c2,e2⟩
end Go.Proofs.Ytgbcklnnbeimhaa
