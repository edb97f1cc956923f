/-
  Layer 12's law: RateOrders, with its arguments as they were opened. Contracts for other texts; no statement of its own.
-/
import Derived.Test.YtnkopcmkanibhaaRateOrdersW
set_option linter.unusedVariables false
set_option linter.unusedSimpArgs false
namespace Go.Proofs.Ytnkopcmkanibhaa
open Go Go.RowKit

theorem rateorders_q (w : World) (n m a b c : Int) (c0 : -9223372036854775808 ≤ n) (e0 : n ≤ 9223372036854775807) (c1 : -9223372036854775808 ≤ m) (e1 : m ≤ 9223372036854775807) (c2 : 0 ≤ a) (e2 : a ≤ 18446744073709551615) (c3 : 0 ≤ b) (e3 : b ≤ 18446744073709551615) (c4 : 0 ≤ c) (e4 : c ≤ 18446744073709551615) :
    Calls Try.prog 7 #[.int .i64 n, .int .i64 m, .int .u64 a, .int .u64 b, .int .u64 c] w fun e w' => e = .returned (.bool true) ∧ Below w.heap.size w w' := by
  have h := rateorders_p w n m a.toNat b.toNat c.toNat (by omega) (by omega) (by omega)
  rw [Int.toNat_of_nonneg c2, Int.toNat_of_nonneg c3, Int.toNat_of_nonneg c4] at h
  refine h.mono ?_
  rintro e w' ⟨rfl, rfl⟩
  exact ⟨rfl, Below.refl _ _⟩
end Go.Proofs.Ytnkopcmkanibhaa
