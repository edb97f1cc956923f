/-
  What set.Or, Not, Count, Of and Bytes do, whatever they are called with. Contracts for other texts; no statement of its own.
-/
import Derived.Test.YtpiieonlbfhbaaaSet
set_option linter.unusedVariables false
set_option linter.unusedSimpArgs false
namespace Go.Proofs.Ytpiieonlbfhbaaa
open Go Go.RowKit

set_option maxHeartbeats 400000 in
theorem or_p (p q : Nat → Bool) (w : World) :
    Calls Try.prog 54 #[.agg #[.int .u64 (word p 0), .int .u64 (word p 1), .int .u64 (word p 2), .int .u64 (word p 3)], .agg #[.int .u64 (word q 0), .int .u64 (word q 1), .int .u64 (word q 2), .int .u64 (word q 3)]] w fun e w' => e = .returned (setV (orP p q)) ∧ Below w.heap.size w w' := by
  generalize ha0 : word p 0 = a0
  generalize ha1 : word p 1 = a1
  generalize ha2 : word p 2 = a2
  generalize ha3 : word p 3 = a3
  generalize hb0 : word q 0 = b0
  generalize hb1 : word q 1 = b1
  generalize hb2 : word q 2 = b2
  generalize hb3 : word q 3 = b3
  have hv : setV (orP p q) = .agg #[.int .u64 (bits .or .u64 a0 b0), .int .u64 (bits .or .u64 a1 b1), .int .u64 (bits .or .u64 a2 b2), .int .u64 (bits .or .u64 a3 b3)] := by
    unfold setV
    rw [← or_words, ← or_words, ← or_words, ← or_words, ha0, ha1, ha2, ha3, hb0, hb1, hb2, hb3]
  rw [hv]
  clear hv ha0 ha1 ha2 ha3 hb0 hb1 hb2 hb3
  have i0 : ∀ w : World, (Instr.index 25 (.agg #[.int .u64 b0, .int .u64 b1, .int .u64 b2, .int .u64 b3]) (.int .i64 0)).run Try.prog w = .ok (.int .u64 b0) w := fun _ => by kernel_rfl
  have i1 : ∀ w : World, (Instr.index 25 (.agg #[.int .u64 b0, .int .u64 b1, .int .u64 b2, .int .u64 b3]) (.int .i64 1)).run Try.prog w = .ok (.int .u64 b1) w := fun _ => by kernel_rfl
  have i2 : ∀ w : World, (Instr.index 25 (.agg #[.int .u64 b0, .int .u64 b1, .int .u64 b2, .int .u64 b3]) (.int .i64 2)).run Try.prog w = .ok (.int .u64 b2) w := fun _ => by kernel_rfl
  have i3 : ∀ w : World, (Instr.index 25 (.agg #[.int .u64 b0, .int .u64 b1, .int .u64 b2, .int .u64 b3]) (.int .i64 3)).run Try.prog w = .ok (.int .u64 b3) w := fun _ => by kernel_rfl
  go_enter Try.func54, Try.ntmps54
  go_wp2
  refine wp_loop_rounds 5 ?_
  iterate 5 (rw [rounds_succ]; go_wp2)
  refine bodyPost_ret (v := .agg #[.int .u64 (bits .or .u64 a0 b0), .int .u64 (bits .or .u64 a1 b1), .int .u64 (bits .or .u64 a2 b2), .int .u64 (bits .or .u64 a3 b3)]) ?_ rfl ⟨rfl, ?_⟩
  · simp [results, Try.results54, go_sem]
  · exact ((((Below.refl _ _).alloc (Nat.le_refl _) _).alloc (by simp) _).alloc (by simp; omega) _)

set_option maxHeartbeats 400000 in
theorem not_p (p : Nat → Bool) (w : World) :
    Calls Try.prog 41 #[.agg #[.int .u64 (word p 0), .int .u64 (word p 1), .int .u64 (word p 2), .int .u64 (word p 3)]] w fun e w' => e = .returned (setV (notP p)) ∧ Below w.heap.size w w' := by
  generalize ha0 : word p 0 = a0
  generalize ha1 : word p 1 = a1
  generalize ha2 : word p 2 = a2
  generalize ha3 : word p 3 = a3
  have hv : setV (notP p) = .agg #[.int .u64 (bits .xor .u64 18446744073709551615 a0), .int .u64 (bits .xor .u64 18446744073709551615 a1), .int .u64 (bits .xor .u64 18446744073709551615 a2), .int .u64 (bits .xor .u64 18446744073709551615 a3)] := by
    unfold setV
    rw [← not_words, ← not_words, ← not_words, ← not_words, ha0, ha1, ha2, ha3]
  rw [hv]
  clear hv ha0 ha1 ha2 ha3
  have i0 : ∀ w : World, (Instr.index 25 (.agg #[.int .u64 a0, .int .u64 a1, .int .u64 a2, .int .u64 a3]) (.int .i64 0)).run Try.prog w = .ok (.int .u64 a0) w := fun _ => by kernel_rfl
  have i1 : ∀ w : World, (Instr.index 25 (.agg #[.int .u64 a0, .int .u64 a1, .int .u64 a2, .int .u64 a3]) (.int .i64 1)).run Try.prog w = .ok (.int .u64 a1) w := fun _ => by kernel_rfl
  have i2 : ∀ w : World, (Instr.index 25 (.agg #[.int .u64 a0, .int .u64 a1, .int .u64 a2, .int .u64 a3]) (.int .i64 2)).run Try.prog w = .ok (.int .u64 a2) w := fun _ => by kernel_rfl
  have i3 : ∀ w : World, (Instr.index 25 (.agg #[.int .u64 a0, .int .u64 a1, .int .u64 a2, .int .u64 a3]) (.int .i64 3)).run Try.prog w = .ok (.int .u64 a3) w := fun _ => by kernel_rfl
  have sg : IntKind.u64.signed = false := rfl
  have mx : IntKind.u64.max = 18446744073709551615 := rfl
  go_enter Try.func41, Try.ntmps41
  go_wp2
  refine wp_loop_rounds 5 ?_
  iterate 5 (rw [rounds_succ]; go_wp2)
  refine bodyPost_ret (v := .agg #[.int .u64 (bits .xor .u64 18446744073709551615 a0), .int .u64 (bits .xor .u64 18446744073709551615 a1), .int .u64 (bits .xor .u64 18446744073709551615 a2), .int .u64 (bits .xor .u64 18446744073709551615 a3)]) ?_ rfl ⟨rfl, ?_⟩
  · simp [results, Try.results41, go_sem]
  · exact ((((Below.refl _ _).alloc (Nat.le_refl _) _).alloc (by simp) _))

end Go.Proofs.Ytpiieonlbfhbaaa
