/-
  A number modulo another. Contracts for other texts; no statement of its own.
-/
import Derived.Test.YtbadpenfngdodaaBase
import Derived.Deep.LoopGhost
import Derived.IntWalk
set_option linter.unusedVariables false
set_option linter.unusedSimpArgs false
namespace Go.Proofs.Ytbadpenfngdodaa
open Go Go.RowKit

theorem pick_p (w : World) (n by' : Int) (hn : -9223372036854775808 ≤ n ∧ n ≤ 9223372036854775807) (hb : 1 ≤ by' ∧ by' ≤ 1000000) :
    Calls Try.prog 25 #[.int .i64 n, .int .i64 by'] w fun e w' => ∃ p : Nat, e = .returned (.int .i64 p) ∧ (p : Int) < by' ∧ w' = w := by
  have hne : ¬ by' = 0 := by omega
  have hne2 : (by' == 0) = false := by simp; omega
  have hbd : n.tmod by' < by' ∧ -by' < n.tmod by' := by
    have h1 := Int.tmod_lt_of_pos n (show 0 < by' by omega)
    have h2 := Int.lt_tmod_of_pos n (show 0 < by' by omega)
    exact ⟨h1, h2⟩
  obtain ⟨q, hq⟩ : ∃ q, n.tmod by' = q := ⟨_, rfl⟩
  rw [hq] at hbd
  by_cases h0 : q < 0
  · have hw : IntKind.i64.wrap (q + by') = q + by' := IntWalk.i64_in _ (by omega)
    go_enter Try.func25, Try.ntmps25
    go_wp2
    go_ret
    exact ⟨(q + by').toNat, by show Ending.returned (.int .i64 (q + by')) = _; rw [Int.toNat_of_nonneg (by omega)], by omega, rfl⟩
  · go_enter Try.func25, Try.ntmps25
    go_wp2
    go_ret
    exact ⟨q.toNat, by show Ending.returned (.int .i64 q) = _; rw [Int.toNat_of_nonneg (by omega)], by omega, rfl⟩

end Go.Proofs.Ytbadpenfngdodaa
