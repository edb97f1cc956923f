import Derived.Test.YtgbdanddbgomhaaGreatDoorMs6
import Derived.Deep.DeepCutAuto
set_option linter.unusedVariables false
set_option linter.unusedSimpArgs false
namespace Go.Proofs.YtgbdanddbgomhaaGreatDoor
open Go Go.RowKit
section
attribute [local go_sem ↓] Go.wp_at_zero Go.wp_at_succ
def St.escHere (s:ByteArray) (st:St):Bool:=st.peek s==92&&decide (st.pos+1<s.size)
end
end Go.Proofs.YtgbdanddbgomhaaGreatDoor
