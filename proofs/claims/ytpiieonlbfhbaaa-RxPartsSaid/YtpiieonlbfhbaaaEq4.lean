/-
  How Go's == on two sets (arrays of four words) goes in the model: true just if all four words are the same. A law for other texts; no statement of its own.
-/
import Derived.Test.YtpiieonlbfhbaaaMem
import Derived.Laws.StructEq
set_option linter.unusedVariables false
set_option linter.unusedSimpArgs false
namespace Go.Proofs.Ytpiieonlbfhbaaa
open Go Go.RowKit

theorem eq4 (a0 a1 a2 a3 b0 b1 b2 b3 : Int) (w : World) :
    (Op.equalIn 10000 25 (.agg #[.int .u64 a0, .int .u64 a1, .int .u64 a2, .int .u64 a3]) (.agg #[.int .u64 b0, .int .u64 b1, .int .u64 b2, .int .u64 b3])).run Try.prog w = .ok (a0 == b0 && a1 == b1 && a2 == b2 && a3 == b3) w := by
  have hs : ∀ w : World, (sizeOf 23).run Try.prog w = .ok 1 w := fun _ => by kernel_rfl
  have p0 : ∀ (c0 c1 c2 c3 : Int) (w : World), (part 23 #[.int .u64 c0, .int .u64 c1, .int .u64 c2, .int .u64 c3] 0).run Try.prog w = .ok (.int .u64 c0) w := fun _ _ _ _ _ => by kernel_rfl
  have p1 : ∀ (c0 c1 c2 c3 : Int) (w : World), (part 23 #[.int .u64 c0, .int .u64 c1, .int .u64 c2, .int .u64 c3] 1).run Try.prog w = .ok (.int .u64 c1) w := fun _ _ _ _ _ => by kernel_rfl
  have p2 : ∀ (c0 c1 c2 c3 : Int) (w : World), (part 23 #[.int .u64 c0, .int .u64 c1, .int .u64 c2, .int .u64 c3] 2).run Try.prog w = .ok (.int .u64 c2) w := fun _ _ _ _ _ => by kernel_rfl
  have p3 : ∀ (c0 c1 c2 c3 : Int) (w : World), (part 23 #[.int .u64 c0, .int .u64 c1, .int .u64 c2, .int .u64 c3] 3).run Try.prog w = .ok (.int .u64 c3) w := fun _ _ _ _ _ => by kernel_rfl
  have pe : ∀ (a b : Int) (w : World), (Op.equalIn 9999 23 (.int .u64 a) (.int .u64 b)).run Try.prog w = .ok (a == b) w := fun a b w => run_equalIn_int (P := Try.prog) w 9998 23 .u64 .u64 a b Try.underlying23
  rw [show (10000 : Nat) = 9999 + 1 from rfl]
  unfold Op.equalIn
  simp only [Sem.run_bind, run_underlying Try.underlying25, Result.andThen_ok, hs]
  simp only [Std.Legacy.Range.forIn_eq_forIn_range', Std.Legacy.Range.size]
  simp only [show List.range' 0 ((4 - 0 + 1 - 1) / 1) 1 = [0, 1, 2, 3] from rfl, List.forIn_cons, List.forIn_nil, Sem.run_bind, p0, p1, p2, p3, pe, Result.andThen_ok, Nat.zero_mul, Nat.one_mul, Nat.mul_one]
  cases h0 : a0 == b0 <;> cases h1 : a1 == b1 <;> cases h2 : a2 == b2 <;> cases h3 : a3 == b3 <;> simp [p1, p2, p3, pe, go_sem, h1, h2, h3]

end Go.Proofs.Ytpiieonlbfhbaaa
