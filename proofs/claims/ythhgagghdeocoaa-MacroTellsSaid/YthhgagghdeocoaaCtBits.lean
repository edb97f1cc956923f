/-
  ct's numbers: lt, eq, sel, csub. Contracts for other texts; no statement of its own.
-/
import Derived.Test.YthhgagghdeocoaaCtMath
import Derived.Test.YthhgagghdeocoaaBase
import Derived.Laws.Externs
import Derived.Lib.Hide
set_option linter.unusedVariables false
set_option linter.unusedSimpArgs false
namespace Go.Proofs.Ythhgagghdeocoaa
open Go Go.RowKit

theorem run_sub (x y : Nat) (w : World) :
    (callFunc 98 #[.int .u64 (x : Int), .int .u64 (y : Int), .int .u64 0]).run Try.prog w =
      .ok (.value (.tuple #[.int .u64 (((x + 18446744073709551616 - y) % 18446744073709551616 : Nat) : Int), .int .u64 ((if x < y then 1 else 0 : Nat) : Int)])) w := by
  rw [run_callFunc_extern Try.func98 (by kernel_rfl) (by kernel_rfl) (by kernel_rfl) (e := fun args => do
    let (x, y, b) ← Extern.MathBitsCarry.three "Sub64" args
    pure (Extern.MathBitsCarry.pair ((x + Extern.MathBitsCarry.m64 - y - b) % Extern.MathBitsCarry.m64) (if x < y + b then 1 else 0))) (by kernel_rfl)]
  rfl
/-- What Sub64 tells: the rest, and whether there was less. -/
def less (x y : Int) : Int := if x < y then 1 else 0
theorem less_u64 (x y : Int) : U64 (less x y) := by
  unfold less U64
  split <;> omega
theorem run_sub' (x y : Int) (hx : U64 x) (hy : U64 y) : ∃ d l : Int, d = (x - y) % 18446744073709551616 ∧ l = less x y ∧ ∀ w : World,
    (callFunc 98 #[.int .u64 x, .int .u64 y, .int .u64 0]).run Try.prog w = .ok (.value (.tuple #[.int .u64 d, .int .u64 l])) w := by
  obtain ⟨X, rfl, hX⟩ := nat_of hx
  obtain ⟨Y, rfl, hY⟩ := nat_of hy
  refine ⟨(((X + 18446744073709551616 - Y) % 18446744073709551616 : Nat) : Int), ((if X < Y then 1 else 0 : Nat) : Int), by omega, ?_, run_sub X Y⟩
  unfold less
  split <;> split <;> omega
theorem lt_p (x y : Int) (hx : U64 x) (hy : U64 y) (w : World) :
    Calls Try.prog 92 #[.int .u64 x, .int .u64 y] w fun e w' => e = .returned (.int .u64 (less x y)) ∧ w = w' := by
  obtain ⟨d, l, hd, hl, hs⟩ := run_sub' x y hx hy
  rw [← hl]
  clear hd hl hx hy
  go_enter Try.func92, Try.ntmps92
  go_wp2_with (simp only [hs])
  go_ret
  exact ⟨rfl, rfl⟩
def same (x y : Int) : Int := if x = y then 1 else 0
theorem eq_p (x y : Int) (hx : U64 x) (hy : U64 y) (w : World) :
    Calls Try.prog 91 #[.int .u64 x, .int .u64 y] w fun e w' => e = .returned (.int .u64 (same x y)) ∧ w = w' := by
  have hl := lt_p (bits .xor .u64 x y) 1 (bits_u64 _ _ _) ⟨by decide, by decide⟩
  have e0 : less (bits .xor .u64 x y) 1 = same x y := by unfold less same; simp only [xor_less hx hy]
  rw [e0] at hl
  obtain ⟨z, hz⟩ : ∃ z, bits .xor .u64 x y = z := ⟨_, rfl⟩
  obtain ⟨s, hs⟩ : ∃ s, same x y = s := ⟨_, rfl⟩
  rw [hz, hs] at hl
  rw [hs]
  clear e0 hx hy hs
  go_enter Try.func91, Try.ntmps91
  go_wp2_with (first | (go_at_call 92; (try rw [hz]); (with_reducible refine (hl _).mono ?_); rintro e w1 ⟨rfl, rfl⟩) | fail)
  go_ret
  exact ⟨rfl, rfl⟩
theorem neg_same (x y : Int) : IntKind.u64.wrap (-same x y) = if x = y then 18446744073709551615 else 0 := by
  unfold same
  rw [IntKind.wrap_u64]
  split <;> rfl
theorem neg_less (x y : Int) : IntKind.u64.wrap (-less x y) = if x < y then 18446744073709551615 else 0 := by
  unfold less
  rw [IntKind.wrap_u64]
  split <;> rfl
theorem sel_p (x y z : Int) (hx : U64 x) (hy : U64 y) (hz : U64 z) (w : World) :
    Calls Try.prog 90 #[.int .u64 x, .int .u64 y, .int .u64 z] w fun e w' => e = .returned (.int .u64 (if x = 0 then z else y)) ∧ w = w' := by
  have hq := eq_p x 0 hx ⟨by decide, by decide⟩
  have hfin : bits .or .u64 (bits .andNot .u64 y (IntKind.u64.wrap (-same x 0))) (bits .and .u64 z (IntKind.u64.wrap (-same x 0))) = if x = 0 then z else y := by
    rw [neg_same]
    split
    · rw [andNot_all hy, and_all hz, none_or hz]
    · rw [andNot_none hy, and_none hz, or_none hy]
  have HF := Lib.hid hfin
  clear hfin hx hy hz
  generalize same x 0 = s at hq HF
  generalize (if x = 0 then z else y) = r at HF ⊢
  go_enter Try.func90, Try.ntmps90
  go_wp2_with (first | (go_at_call 91; (with_reducible refine (hq _).mono ?_); rintro e w1 ⟨rfl, rfl⟩) | fail)
  go_ret
  exact ⟨by rw [← HF.out]; try rfl, rfl⟩
theorem csub_p (x y : Int) (hx : U64 x) (hy : U64 y) (w : World) :
    Calls Try.prog 93 #[.int .u64 x, .int .u64 y] w fun e w' => e = .returned (.int .u64 (if y ≤ x then x - y else x)) ∧ w = w' := by
  obtain ⟨d, l, hd, hl, hs⟩ := run_sub' x y hx hy
  have hfin : IntKind.u64.wrap (d + bits .and .u64 y (IntKind.u64.wrap (-l))) = if y ≤ x then x - y else x := by
    have h1 := hx.1; have h2 := hx.2; have h3 := hy.1; have h4 := hy.2
    rw [hl, neg_less, hd, IntKind.wrap_u64]
    by_cases h : x < y
    · rw [if_pos h, and_all hy, if_neg (by omega)]
      omega
    · rw [if_neg h, and_none hy, if_pos (by omega)]
      omega
  have HF := Lib.hid hfin
  clear hfin hx hy hd hl
  generalize (if y ≤ x then x - y else x) = r at HF ⊢
  go_enter Try.func93, Try.ntmps93
  go_wp2_with (simp only [hs])
  go_ret
  exact ⟨by rw [← HF.out]; try rfl, rfl⟩
end Go.Proofs.Ythhgagghdeocoaa
