import Derived.Test.YtgbdanddbgomhaaGreatDoorMs33
import Derived.Test.YtgbdanddbgomhaaGreatDoorMs18
import Derived.Test.YtgbdanddbgomhaaGreatDoorMs5
import Derived.Test.YtgbdanddbgomhaaGreatDoorMs9
import Derived.Test.YtgbdanddbgomhaaGreatDoorMs16
set_option linter.unusedVariables false
set_option linter.unusedSimpArgs false
namespace Go.Proofs.YtgbdanddbgomhaaGreatDoor
open Go Go.RowKit
section
attribute [local go_sem ↓] Go.wp_at_zero Go.wp_at_succ
def RetIs (w:World) (P:Prop) (e:Ending) (w':World):Prop:=∃ b:Bool,e = .returned (.bool b)∧(b=true↔P)∧Below w.heap.size w w'
end
section
attribute [local go_sem ↓] Go.wp_at_zero Go.wp_at_succ
def RetDoc15 (w:World) (K:Int) (r:Except (Int×Int) (List (T×Bool))) (e:Ending) (w':World):Prop:=match r with
 | .ok l=>(∃ A c,e = .returned (.tuple #[.slice A l.length c,.int .i64 K,.int .i64 0,.int .i64 0])∧RdRules w' A l)∧Below w.heap.size w w'
 | .error (n,k)=>e = .returned (.tuple #[.slice none 0 0,.int .i64 0,.int .i64 n,.int .i64 k])∧Below w.heap.size w w'
theorem zlz {c:Cf} (h:cfOk c=true):¬ c.lam<1∧¬ 32<c.lam∧rateOk c.rate=true∧¬ c.q<(rateN c.rate:Int)∧¬ 1024<c.q∧¬ c.cap<1∧¬ 1000<c.cap:=by
 unfold cfOk at h;simp only[Bool.and_eq_true,decide_eq_true_eq] at h;obtain⟨a,b,d,e⟩:=h;exact⟨by omega,by omega,b,by omega,by omega,by omega,by omega⟩
end
section
attribute [local go_sem ↓] Go.wp_at_zero Go.wp_at_succ
def RetTrue (w:World) (e:Ending) (w':World):Prop:=e = .returned (.bool true)∧Below w.heap.size w w'
end
end Go.Proofs.YtgbdanddbgomhaaGreatDoor
