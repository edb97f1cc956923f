import Derived.Test.YtgbdanddbgomhaaMk47
set_option linter.unusedVariables false
set_option linter.unusedSimpArgs false
namespace Go.Proofs.Ytgbdanddbgomhaa
open Go Go.RowKit
theorem zlz (w:World) (A:Option Addr) (ca:Nat) (L:List ByteArray) (B:Option Addr) (cb:Nat) (bs:List Bool) (lam:Int) (C:Option Addr) (cc:Nat) (xs:List Int)
   (hs:RdStr w A L) (hL:L.length<=9223372036854775807) (hsz:∀ s∈L,s.size<=9223372036854775807) (hb:RdBo w B bs) (hbs:bs.length<=9223372036854775807) (c2 : -9223372036854775808<=lam) (e2:lam<=9223372036854775807)
   (hx:RdB w w.heap.size C xs) (hby:∀ k,k<xs.length->0<=xs.getD k 0∧xs.getD k 0<=255) (hxl:xs.length<=9223372036854775807):
   Calls Try.prog 3 #[.slice A L.length ca,.slice B bs.length cb,.int .i64 lam,.slice C xs.length cc] w fun e w'=>e = .returned (.bool true)∧Below w.heap.size w w':=
 zm0 hs hb hL hbs hsz ⟨c2,e2⟩ hx hby hxl
end Go.Proofs.Ytgbdanddbgomhaa
