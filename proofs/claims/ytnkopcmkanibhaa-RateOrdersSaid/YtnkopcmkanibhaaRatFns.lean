/-
  rate: Of, Bits, Less, Same. Contracts for other texts; no statement of its own.
-/
import Derived.Test.YtnkopcmkanibhaaRatBits
import Derived.Test.YtnkopcmkanibhaaBase
import Derived.Laws.Externs
import Derived.Laws.Cover2
import Derived.Laws.FloatArith
import Derived.Lib.Hide
set_option linter.unusedVariables false
set_option linter.unusedSimpArgs false
namespace Go.Proofs.Ytnkopcmkanibhaa
open Go Go.RowKit

theorem order_ge (a b : Nat) (ha : a < 18446744073709551616) (hb : b < 18446744073709551616) : (Ieee.double.order a b == some .gt || Ieee.double.order a b == some .eq) = (someN a && someN b && decide (rankN b ≤ rankN a)) := by
  rw [order_gt a b ha hb, order_eq a b ha hb, lessB, sameB, Bool.and_comm (someN b), ← Bool.and_or_distrib_left]
  congr 1
  by_cases h : rankN b ≤ rankN a
  · by_cases h2 : rankN a = rankN b
    · rw [decide_eq_true h2, decide_eq_true h]; simp
    · rw [decide_eq_true h, decide_eq_true (by omega)]; rfl
  · rw [decide_eq_false h, decide_eq_false (by omega), decide_eq_false (by omega)]; rfl
theorem order_le (a b : Nat) (ha : a < 18446744073709551616) (hb : b < 18446744073709551616) : (Ieee.double.order a b == some .lt || Ieee.double.order a b == some .eq) = (someN a && someN b && decide (rankN a ≤ rankN b)) := by
  rw [order_lt a b ha hb, order_eq a b ha hb, lessB, sameB, ← Bool.and_or_distrib_left]
  congr 1
  by_cases h : rankN a ≤ rankN b
  · by_cases h2 : rankN a = rankN b
    · rw [decide_eq_true h2, decide_eq_true h]; simp
    · rw [decide_eq_true h, decide_eq_true (by omega)]; rfl
  · rw [decide_eq_false h, decide_eq_false (by omega), decide_eq_false (by omega)]; rfl

theorem run_frombits (x : Nat) (w : World) :
    (callFunc 49 #[.int .u64 (x : Int)]).run Try.prog w = .ok (.value (.float .f64 x)) w := by
  rw [run_callFunc_extern Try.func49 (by kernel_rfl) (by kernel_rfl) (by kernel_rfl) (e := Extern.MathFloatBits.float64frombits) (by kernel_rfl)]
  rfl
theorem run_tobits (x : Nat) (w : World) :
    (callFunc 52 #[.float .f64 x]).run Try.prog w = .ok (.value (.int .u64 (x : Int))) w := by
  rw [run_callFunc_extern Try.func52 (by kernel_rfl) (by kernel_rfl) (by kernel_rfl) (e := Extern.MathFloatBits.float64bits) (by kernel_rfl)]
  rfl
theorem rless_p (a b : Nat) (ha : a < 18446744073709551616) (hb : b < 18446744073709551616) (w : World) :
    Calls Try.prog 28 #[.int .u64 (a : Int), .int .u64 (b : Int)] w fun e w' => e = .returned (.bool (lessB a b)) ∧ w = w' := by
  have h := order_lt a b ha hb
  have h1 := run_frombits a
  have h2 := run_frombits b
  go_enter Try.func28, Try.ntmps28
  go_wp2_with (first | simp only [h1] | simp only [h2])
  go_ret
  exact ⟨by rw [← h]; rfl, rfl⟩
theorem rsame_p (a b : Nat) (ha : a < 18446744073709551616) (hb : b < 18446744073709551616) (w : World) :
    Calls Try.prog 30 #[.int .u64 (a : Int), .int .u64 (b : Int)] w fun e w' => e = .returned (.bool (sameB a b)) ∧ w = w' := by
  have h := order_eq a b ha hb
  have h1 := run_frombits a
  have h2 := run_frombits b
  go_enter Try.func30, Try.ntmps30
  go_wp2_with (first | simp only [h1] | simp only [h2])
  go_ret
  exact ⟨by rw [← h]; rfl, rfl⟩
theorem rbits_p (n : Int) (w : World) :
    Calls Try.prog 26 #[.int .i64 n] w fun e w' => e = .returned (.int .u64 (bitsW n : Int)) ∧ w = w' := by
  by_cases h1 : n > 9007199254740992
  · have e : bitsW n = 0 := by rw [bitsW, if_pos (by omega)]
    rw [e]
    go_enter Try.func26, Try.ntmps26
    go_wp2
    go_ret
    exact ⟨rfl, rfl⟩
  · by_cases h2 : n < -9007199254740992
    · have e : bitsW n = 0 := by rw [bitsW, if_pos (by omega)]
      rw [e]
      go_enter Try.func26, Try.ntmps26
      go_wp2
      go_ret
      exact ⟨rfl, rfl⟩
    · have e := near_int n (by omega) (by omega)
      have hf : floatOfInt .f64 n = bitsW n := e
      have hr := run_tobits (bitsW n)
      go_enter Try.func26, Try.ntmps26
      go_wp2_with (first | simp only [hf, hr] | simp only [hr])
      go_ret
      exact ⟨rfl, rfl⟩
/-- What Of tells. -/
def rateV (x : Nat) : Value := .tuple #[.int .i64 (if rateOk x = true then (rateN x : Int) else 0), if rateOk x = true then .nilIface else .iface 88 (.int .i64 1)]
theorem rof_p (x : Nat) (hx : x < 18446744073709551616) (w : World) :
    Calls Try.prog 24 #[.int .u64 (x : Int)] w fun e w' => e = .returned (rateV x) ∧ w = w' := by
  have hr := run_frombits x
  have hrk := rate_rank x hx
  have o1 := order_ge x 4607182418800017408 hx (by omega)
  have o2 := order_le x 4652218415073722368 hx (by omega)
  have s1 : someN 4607182418800017408 = true := by decide +kernel
  have s2 : someN 4652218415073722368 = true := by decide +kernel
  have r1 : rankN 4607182418800017408 = 4607182418800017408 := by decide +kernel
  have r2 : rankN 4652218415073722368 = 4652218415073722368 := by decide +kernel
  rw [s1, r1, Bool.and_true] at o1
  rw [s2, r2, Bool.and_true] at o2
  unfold rateV
  cases hk : rateOk x
  · rw [hk] at hrk
    simp only [Bool.false_eq_true, if_false]
    cases ha : (someN x && decide (4607182418800017408 ≤ rankN x))
    · rw [ha] at o1
      have o1' : (FloatKind.f64.format.order x 4607182418800017408 == some .gt || FloatKind.f64.format.order x 4607182418800017408 == some .eq) = false := o1
      clear o1 o2 s1 s2 r1 r2 hrk hk ha
      go_enter Try.func24, Try.ntmps24
      go_wp2_with (first | simp only [hr] | simp only [o1'])
      go_ret2
      exact ⟨rfl, rfl⟩
    · have hb : (someN x && decide (rankN x ≤ 4652218415073722368)) = false := by
        cases h1 : someN x
        · rfl
        · rw [h1] at ha hrk
          simp only [Bool.true_and] at ha hrk ⊢
          rw [ha, Bool.true_and] at hrk
          exact hrk.symm
      rw [ha] at o1
      rw [hb] at o2
      have o1' : (FloatKind.f64.format.order x 4607182418800017408 == some .gt || FloatKind.f64.format.order x 4607182418800017408 == some .eq) = true := o1
      have o2' : (FloatKind.f64.format.order x 4652218415073722368 == some .lt || FloatKind.f64.format.order x 4652218415073722368 == some .eq) = false := o2
      clear o1 o2 s1 s2 r1 r2 hrk hk ha hb
      go_enter Try.func24, Try.ntmps24
      go_wp2_with (first | simp only [hr] | simp only [o1'] | simp only [o2'])
      go_ret2
      exact ⟨rfl, rfl⟩
  · rw [hk] at hrk
    simp only [if_true]
    have ht := toInt_rate x hk
    have ha : (someN x && decide (4607182418800017408 ≤ rankN x)) = true := by simp at hrk; simp [hrk]
    have hb : (someN x && decide (rankN x ≤ 4652218415073722368)) = true := by simp at hrk; simp [hrk]
    rw [ha] at o1
    rw [hb] at o2
    have o1' : (FloatKind.f64.format.order x 4607182418800017408 == some .gt || FloatKind.f64.format.order x 4607182418800017408 == some .eq) = true := o1
    have o2' : (FloatKind.f64.format.order x 4652218415073722368 == some .lt || FloatKind.f64.format.order x 4652218415073722368 == some .eq) = true := o2
    have hcv : ∀ w : World, (convert 115 3 (.float .f64 x)).run Try.prog w = .ok (.int .i64 (rateN x)) w := fun w => run_convert_float_int w _ _ _ _ _ _ (by kernel_rfl) Try.underlying3 ht
    clear o1 o2 s1 s2 r1 r2 hrk hk ha hb
    go_enter Try.func24, Try.ntmps24
    go_wp2_with (first | simp only [hr] | simp only [o1'] | simp only [o2'] | simp only [hcv])
    go_ret2
    exact ⟨rfl, rfl⟩
end Go.Proofs.Ytnkopcmkanibhaa
