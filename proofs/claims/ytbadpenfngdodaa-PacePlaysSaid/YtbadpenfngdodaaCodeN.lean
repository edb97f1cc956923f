/-
  law00.Code of any of api's errors, and of none. Contracts for other texts; no statement of its own.
-/
import Derived.Test.YtbadpenfngdodaaBase
import Derived.BigQuiet
import Derived.Deep.LoopGhost
import Derived.Lib.Hide
set_option linter.unusedVariables false
set_option linter.unusedSimpArgs false
namespace Go.Proofs.Ytbadpenfngdodaa
open Go Go.RowKit

theorem err_eq (a b : Int) (w : World) : (binOp .eql 61 (.iface 110 (.int .i64 a)) (.iface 110 (.int .i64 b))).run Try.prog w = .ok (.bool (a == b)) w := by kernel_rfl
theorem code0_p (w : World) : Calls Try.prog 22 #[.nilIface] w fun e w' => e = .returned (.int .i64 0) ∧ w = w' := by
  go_enter Try.func22, Try.ntmps22
  go_wp2
  go_ret
  exact ⟨rfl, rfl⟩
set_option maxRecDepth 20000 in
set_option maxHeartbeats 2000000 in
theorem coden_p (w : World) (c : Nat) (h1 : 1 ≤ c) (h2 : c ≤ 11) : Calls Try.prog 22 #[.iface 110 (.int .i64 (c : Int))] w fun e w' => e = .returned (.int .i64 (c : Int)) ∧ w = w' := by
  have he := err_eq
  go_enter Try.func22, Try.ntmps22
  go_wp2
  go_loopg [3] 12 (fun m s wr => ∃ j : Nat, s = .int .i64 (j : Int) ∧ 1 ≤ j ∧ j ≤ c ∧ m = 13 - j ∧ wr = w)
  case atStart => exact ⟨1, by first | rfl | trivial, Nat.le_refl _, h1, by first | rfl | trivial, rfl⟩
  case round =>
    obtain ⟨j, rfl, hj1, hj, hm, hww⟩ := hrel
    obtain rfl := hww.symm
    have HM := Lib.hid hm
    clear hm
    have i1 : (j : Int) ≤ 11 := by omega
    by_cases hjc : j = c
    · subst hjc
      go_wp2
      go_ret
      exact ⟨rfl, rfl⟩
    · have hq : ((c : Int) == (j : Int)) = false := by simp; omega
      go_wp2
      go_roundg (13 - (j + 1))
      case measure => have := HM.out; omega
      case rel => exact ⟨j + 1, by go_num, by omega, by omega, rfl, rfl⟩
end Go.Proofs.Ytbadpenfngdodaa
