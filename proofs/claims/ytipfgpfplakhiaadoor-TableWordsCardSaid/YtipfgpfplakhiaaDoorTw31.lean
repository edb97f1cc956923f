import Derived.Test.YtipfgpfplakhiaaDoorTw16
import Derived.Test.YtipfgpfplakhiaaDoorTw11
set_option linter.unusedVariables false
set_option linter.unusedSimpArgs false
namespace Go.Proofs.YtipfgpfplakhiaaDoor
open Go Go.RowKit
section
attribute [local go_sem ↓] Go.wp_at_zero Go.wp_at_succ
def sortN (l:List Nat) (n:Nat):List Nat:=(List.range n).filter fun x=>l.contains x
end
section
open Go
def start (z:Nat):Lay:=⟨List.replicate z za9,List.replicate z []⟩
end
end Go.Proofs.YtipfgpfplakhiaaDoor
