import Derived.Test.YtgbdanddbgomhaaGreatDoorMs31
set_option linter.unusedVariables false
set_option linter.unusedSimpArgs false
namespace Go.Proofs.YtgbdanddbgomhaaGreatDoor
open Go Go.RowKit
section
attribute [local go_sem ↓] Go.wp_at_zero Go.wp_at_succ
def put80 (w:World) (g:Nat):World:=
 (((((((w.setCell ⟨g,0,none⟩ (.int .i64 0)).setCell ⟨g,1,none⟩ (.int .u64 0)).setCell ⟨g,2,none⟩ (.int .u64 0)).setCell ⟨g,3,none⟩ (.int .u64 0)).setCell ⟨g,4,none⟩ (.int .u64 0)).setCell ⟨g,5,none⟩ (.int .i64 0)).setCell ⟨g,6,none⟩ (.int .i64 0)).setCell ⟨g,7,none⟩ (.slice none 0 0)
theorem zau (w:World) (g:Nat):put80 w g=put8 w g T.zero (.slice none 0 0):=by
 simp only[put80,put8,T.zero,T.op,T.set,T.lo,T.hi,za6]
def RetParse (w:World) (s:ByteArray) (e:Ending) (w':World):Prop:=
 ∃ t k bad at_,e = .returned (.tuple #[nodeV t k,.int .i64 bad,.int .i64 at_])∧Tree w' (fun b=>w.heap.size<=b) t k∧Below w.heap.size w w'∧
   (match parse s with
     | .ok t'=>t=t'∧bad=0∧at_=0
     | .error (c,a)=>t=T.zero∧k = .slice none 0 0∧bad=c∧at_=a∧c≠0)
end
end Go.Proofs.YtgbdanddbgomhaaGreatDoor
