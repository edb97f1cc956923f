import Derived.Test.YtgbdanddbgomhaaGreatDoorMs2
import Derived.Test.YtgbdanddbgomhaaGreatDoorMs3
set_option linter.unusedVariables false
set_option linter.unusedSimpArgs false
namespace Go.Proofs.YtgbdanddbgomhaaGreatDoor
open Go Go.RowKit
def drateV (x:Nat):Value := .tuple #[.int .i64 (if rateOk x=true then (rateN x:Int) else 0),.bool (rateOk x)]
end Go.Proofs.YtgbdanddbgomhaaGreatDoor
