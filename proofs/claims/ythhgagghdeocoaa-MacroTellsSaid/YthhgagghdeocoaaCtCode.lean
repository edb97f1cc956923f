/-
  An error's number. Contracts for other texts; no statement of its own.
-/
import Derived.Test.YthhgagghdeocoaaCtDo
import Derived.BigQuiet
import Derived.Deep.LoopGhost
set_option linter.unusedVariables false
set_option linter.unusedSimpArgs false
namespace Go.Proofs.Ythhgagghdeocoaa
open Go Go.RowKit

set_option maxRecDepth 20000 in
set_option maxHeartbeats 2000000 in
theorem code_p (w : World) (b : Bool) : Calls Try.prog 13 #[errM b] w fun e w' => e = .returned (.int .i64 (if b = true then 0 else 1)) ∧ w = w' := by
  cases b
  · have e1 : ∀ w : World, (binOp .eql 40 (.iface 101 (.int .i64 1)) (.iface 101 (.int .i64 1))).run Try.prog w = .ok (.bool true) w := fun w => by kernel_rfl
    unfold errM
    simp only [Bool.false_eq_true, if_false]
    go_enter Try.func13, Try.ntmps13
    go_wp2
    go_loopg [3] 3 (fun m c wr => c = .int .i64 1 ∧ wr = w)
    case atStart => exact ⟨by first | rfl | trivial, rfl⟩
    case round =>
      obtain ⟨rfl, hww⟩ := hrel
      obtain rfl := hww.symm
      go_wp2
      go_ret
      exact ⟨rfl, rfl⟩
  · unfold errM
    simp only [if_true]
    go_enter Try.func13, Try.ntmps13
    go_wp2
    go_ret
    exact ⟨rfl, rfl⟩
end Go.Proofs.Ythhgagghdeocoaa
