/-
  Layer 12's law: RateTells, with its arguments as they were opened. Contracts for other texts; no statement of its own.
-/
import Derived.Test.YtnkopcmkanibhaaRateTellsW
set_option linter.unusedVariables false
set_option linter.unusedSimpArgs false
namespace Go.Proofs.Ytnkopcmkanibhaa
open Go Go.RowKit

theorem ratetells_q (w : World) (a b n : Int) (c0 : 0 ≤ a) (e0 : a ≤ 18446744073709551615) (c1 : 0 ≤ b) (e1 : b ≤ 18446744073709551615) (c2 : -9223372036854775808 ≤ n) (e2 : n ≤ 9223372036854775807) :
    Calls Try.prog 6 #[.int .u64 a, .int .u64 b, .int .i64 n] w fun e w' => e = .returned (.bool true) ∧ Below w.heap.size w w' := by
  have h := ratetells_p w a.toNat b.toNat n (by omega) (by omega)
  rw [Int.toNat_of_nonneg c0, Int.toNat_of_nonneg c1] at h
  refine h.mono ?_
  rintro e w' ⟨rfl, rfl⟩
  exact ⟨rfl, Below.refl _ _⟩
end Go.Proofs.Ytnkopcmkanibhaa
