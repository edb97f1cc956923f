/-
  The laws' Spot of an error that is a Spot, or of none. Contracts for other texts; no statement of its own.
-/
import Derived.Test.YtgbcklnnbeimhaaDoorBase
import Derived.Deep.QuietTactic
import Derived.BigQuiet
set_option linter.unusedVariables false
set_option linter.unusedSimpArgs false
namespace Go.Proofs.YtgbcklnnbeimhaaDoor
open Go Go.RowKit

theorem Tryd.askSpot (x : TypeId) (p : Value) (w : World) : (Instr.typeAssert (.iface 40 p) x 40 true).run Tryd.prog w = .ok (.tuple #[p, .bool true]) w := by
  unfold Instr.typeAssert
  simp [run_underlying Tryd.underlying40, Sem.run_bind, Result.andThen]

set_option maxHeartbeats 400000 in
theorem spot_nil (w : World) : Calls Tryd.prog 9 #[.nilIface] w fun e w' => e = .returned (.tuple #[.int .i64 0, .int .i64 0]) ∧ w = w' := by
  go_enter Tryd.func9, Tryd.ntmps9
  go_wp2
  go_ret2
  exact ⟨rfl, rfl⟩

set_option maxHeartbeats 400000 in
theorem spot_p (w : World) (gs : Nat) (a c : Int) (h : w.heap[gs]? = some (.cells #[.int .i64 a, .int .i64 c] 43 (0, 0))) :
    Calls Tryd.prog 9 #[.iface 40 (.pointer (some ⟨gs, 0, none⟩))] w fun e w' => e = .returned (.tuple #[.int .i64 c, .int .i64 a]) ∧ ∃ n, w' = w.drewN n := by
  have c0 : w.cell? ⟨gs, 0, none⟩ = some (.int .i64 a) := cell_of_row w gs _ _ 43 (0, 0) h
  have c1 : w.cell? ⟨gs, 1, none⟩ = some (.int .i64 c) := cell_of_row w gs _ _ 43 (0, 0) h
  have hta := Tryd.askSpot
  go_enter Tryd.func9, Tryd.ntmps9
  go_wp2
  go_quiet (fail)
  go_wp2
  go_ret2
  exact ⟨rfl, _, rfl⟩

end Go.Proofs.YtgbcklnnbeimhaaDoor
