import Derived.Test.YtipfgpfplakhiaaDoorTw29
import Derived.Test.YtipfgpfplakhiaaDoorTw33
import Derived.Test.YtipfgpfplakhiaaDoorTw31
import Derived.Test.YtipfgpfplakhiaaDoorTw14
set_option linter.unusedVariables false
set_option linter.unusedSimpArgs false
namespace Go.Proofs.YtipfgpfplakhiaaDoor
open Go Go.RowKit
section
attribute [local go_sem ↓] Go.wp_at_zero Go.wp_at_succ
attribute [local go_sem ↓] zgq
def BoxG (w:World) (g:Nat) (a b c d:Value) (e:Bool):Prop:=w.heap[g]?=some (.cells #[a,b,c,d,.bool e] 70 (0,0))
section
variable {w w':World} {g x y:Nat} {a b c d v:Value} {e:Bool}
end
def yeh (w:World) (s:Lay) (x:Str) (e:Ending) (w':World):Prop:=
 ∃ A1 m1 c1 A2 m2 c2 gm A3 m3 c3,e = .returned (.tuple #[.agg #[.slice A1 m1 c1,.slice A2 m2 c2,.slice (some ⟨gm,0,none⟩) s.sets.length s.sets.length,.slice A3 m3 c3,.bool x.empty],.bool true])∧
  NfaAt w' w.heap.size (.slice A1 m1 c1) (.slice A2 m2 c2) gm (.slice A3 m3 c3) s x∧Below w.heap.size w w'
end
end Go.Proofs.YtipfgpfplakhiaaDoor
