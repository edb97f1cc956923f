import Derived.Test.YtgbdanddbgomhaaGreatDoorMs8
set_option linter.unusedVariables false
set_option linter.unusedSimpArgs false
namespace Go.Proofs.YtgbdanddbgomhaaGreatDoor
open Go Go.RowKit
def RetRules14 (w:World) (r:Except (Int×Nat) (List Ru)) (e:Ending) (w':World):Prop:=match r with
 | .ok l=>(∃ A c,e = .returned (.tuple #[.slice A l.length c,.int .i64 0,.int .i64 0])∧RdRu w' A l)∧Below w.heap.size w w'
 | .error (c,k)=>e = .returned (.tuple #[.slice none 0 0,.int .i64 c,.int .i64 (k:Int)])∧Below w.heap.size w w'
end Go.Proofs.YtgbdanddbgomhaaGreatDoor
