/-
  The document's machine: may an instruction be? Contracts for other texts; no statement of its own.
-/
import Derived.Test.YthhgagghdeocoaaCtRefM
set_option linter.unusedVariables false
set_option linter.unusedSimpArgs false
namespace Go.Proofs.Ythhgagghdeocoaa
open Go Go.RowKit

set_option maxHeartbeats 1000000 in
theorem dmay_p {w : World} {p m : Nat} (hm : w.cell? ⟨p, 0, none⟩ = some (.int .i64 (m : Int))) (hM : m ≤ 200000) (x : Ins) (hx : x.fits) :
    Calls Try.prog 76 #[.pointer (some ⟨p, 0, none⟩), insV x] w fun e w' => e = .returned (.bool (may x m)) ∧ Below w.heap.size w w' := by
  have hh := fun (W : World) (hb : Below w.heap.size w W) (y : Int) (hy : I64 y) => there_p (w := W) (cell_stays hm hb) hM y hy
  have hop := hx.op
  have hD := fun W hb => hh W hb x.d hx.d
  have hA := fun W hb => hh W hb x.a hx.a
  have hB := fun W hb => hh W hb x.b hx.b
  have hC := fun W hb => hh W hb x.c hx.c
  have hn := hx.n
  obtain ⟨o, d, a, b, c', n⟩ := x
  simp only at hop hD hA hB hC hn
  have hb0 : Below w.heap.size w (w.alloc (.cells #[.int .i64 o, .int .i64 d, .int .i64 a, .int .i64 b, .int .i64 c', .int .u64 n] 68)) := (Below.refl _ _).alloc (Nat.le_refl _) _
  have HB := Lib.hid hb0
  have HD := Lib.hid hD
  have HA := Lib.hid hA
  have HBB := Lib.hid hB
  have HC := Lib.hid hC
  unfold may insV
  simp only
  clear hh hD hA hB hC hb0 hx hm
  generalize there d m = bd at HD ⊢
  generalize there a m = ba at HA ⊢
  generalize there b m = bb at HBB ⊢
  generalize there c' m = bc at HC ⊢
  unfold I64 at hop
  unfold U64 at hn
  rcases op_cases o with h | h | h | h | h | h | h | h | h | h | h | h | h
  · subst h
    go_enter Try.func76, Try.ntmps76
    go_wp2_with (first
        | (go_at_call 94; first
            | ((with_reducible refine (HD.out _ HB.out).mono ?_); rintro e w1 ⟨rfl, rfl⟩)
            | ((with_reducible refine (HA.out _ HB.out).mono ?_); rintro e w1 ⟨rfl, rfl⟩)
            | ((with_reducible refine (HBB.out _ HB.out).mono ?_); rintro e w1 ⟨rfl, rfl⟩)
            | ((with_reducible refine (HC.out _ HB.out).mono ?_); rintro e w1 ⟨rfl, rfl⟩))
        | fail)
    go_ret
    exact ⟨by simp, HB.out⟩
  · subst h
    cases bd <;> cases ba <;> cases bb
    all_goals
      go_enter Try.func76, Try.ntmps76
      go_wp2_with (first
        | (go_at_call 94; first
            | ((with_reducible refine (HD.out _ HB.out).mono ?_); rintro e w1 ⟨rfl, rfl⟩)
            | ((with_reducible refine (HA.out _ HB.out).mono ?_); rintro e w1 ⟨rfl, rfl⟩)
            | ((with_reducible refine (HBB.out _ HB.out).mono ?_); rintro e w1 ⟨rfl, rfl⟩)
            | ((with_reducible refine (HC.out _ HB.out).mono ?_); rintro e w1 ⟨rfl, rfl⟩))
        | fail)
      go_ret
      exact ⟨by simp, HB.out⟩
  · subst h
    cases bd <;> cases ba
    all_goals
      go_enter Try.func76, Try.ntmps76
      go_wp2_with (first
        | (go_at_call 94; first
            | ((with_reducible refine (HD.out _ HB.out).mono ?_); rintro e w1 ⟨rfl, rfl⟩)
            | ((with_reducible refine (HA.out _ HB.out).mono ?_); rintro e w1 ⟨rfl, rfl⟩)
            | ((with_reducible refine (HBB.out _ HB.out).mono ?_); rintro e w1 ⟨rfl, rfl⟩)
            | ((with_reducible refine (HC.out _ HB.out).mono ?_); rintro e w1 ⟨rfl, rfl⟩))
        | fail)
      go_ret
      exact ⟨by simp, HB.out⟩
  · subst h
    cases bd <;> cases ba
    all_goals
      go_enter Try.func76, Try.ntmps76
      go_wp2_with (first
        | (go_at_call 94; first
            | ((with_reducible refine (HD.out _ HB.out).mono ?_); rintro e w1 ⟨rfl, rfl⟩)
            | ((with_reducible refine (HA.out _ HB.out).mono ?_); rintro e w1 ⟨rfl, rfl⟩)
            | ((with_reducible refine (HBB.out _ HB.out).mono ?_); rintro e w1 ⟨rfl, rfl⟩)
            | ((with_reducible refine (HC.out _ HB.out).mono ?_); rintro e w1 ⟨rfl, rfl⟩))
        | fail)
      go_ret
      exact ⟨by simp, HB.out⟩
  · subst h
    cases bd <;> cases ba
    all_goals
      go_enter Try.func76, Try.ntmps76
      go_wp2_with (first
        | (go_at_call 94; first
            | ((with_reducible refine (HD.out _ HB.out).mono ?_); rintro e w1 ⟨rfl, rfl⟩)
            | ((with_reducible refine (HA.out _ HB.out).mono ?_); rintro e w1 ⟨rfl, rfl⟩)
            | ((with_reducible refine (HBB.out _ HB.out).mono ?_); rintro e w1 ⟨rfl, rfl⟩)
            | ((with_reducible refine (HC.out _ HB.out).mono ?_); rintro e w1 ⟨rfl, rfl⟩))
        | fail)
      go_ret
      exact ⟨by simp, HB.out⟩
  · subst h
    cases bd <;> cases ba
    all_goals
      go_enter Try.func76, Try.ntmps76
      go_wp2_with (first
        | (go_at_call 94; first
            | ((with_reducible refine (HD.out _ HB.out).mono ?_); rintro e w1 ⟨rfl, rfl⟩)
            | ((with_reducible refine (HA.out _ HB.out).mono ?_); rintro e w1 ⟨rfl, rfl⟩)
            | ((with_reducible refine (HBB.out _ HB.out).mono ?_); rintro e w1 ⟨rfl, rfl⟩)
            | ((with_reducible refine (HC.out _ HB.out).mono ?_); rintro e w1 ⟨rfl, rfl⟩))
        | fail)
      go_ret
      exact ⟨by simp, HB.out⟩
  · subst h
    by_cases hN : n ≤ 63
    all_goals
      cases bd <;> cases ba
      all_goals
        go_enter Try.func76, Try.ntmps76
        go_wp2_with (first
        | (go_at_call 94; first
            | ((with_reducible refine (HD.out _ HB.out).mono ?_); rintro e w1 ⟨rfl, rfl⟩)
            | ((with_reducible refine (HA.out _ HB.out).mono ?_); rintro e w1 ⟨rfl, rfl⟩)
            | ((with_reducible refine (HBB.out _ HB.out).mono ?_); rintro e w1 ⟨rfl, rfl⟩)
            | ((with_reducible refine (HC.out _ HB.out).mono ?_); rintro e w1 ⟨rfl, rfl⟩))
        | fail)
        go_ret
        exact ⟨by simp [hN]; try omega, HB.out⟩
  · subst h
    by_cases hN : n ≤ 63
    all_goals
      cases bd <;> cases ba
      all_goals
        go_enter Try.func76, Try.ntmps76
        go_wp2_with (first
        | (go_at_call 94; first
            | ((with_reducible refine (HD.out _ HB.out).mono ?_); rintro e w1 ⟨rfl, rfl⟩)
            | ((with_reducible refine (HA.out _ HB.out).mono ?_); rintro e w1 ⟨rfl, rfl⟩)
            | ((with_reducible refine (HBB.out _ HB.out).mono ?_); rintro e w1 ⟨rfl, rfl⟩)
            | ((with_reducible refine (HC.out _ HB.out).mono ?_); rintro e w1 ⟨rfl, rfl⟩))
        | fail)
        go_ret
        exact ⟨by simp [hN]; try omega, HB.out⟩
  · subst h
    cases bd <;> cases ba
    all_goals
      go_enter Try.func76, Try.ntmps76
      go_wp2_with (first
        | (go_at_call 94; first
            | ((with_reducible refine (HD.out _ HB.out).mono ?_); rintro e w1 ⟨rfl, rfl⟩)
            | ((with_reducible refine (HA.out _ HB.out).mono ?_); rintro e w1 ⟨rfl, rfl⟩)
            | ((with_reducible refine (HBB.out _ HB.out).mono ?_); rintro e w1 ⟨rfl, rfl⟩)
            | ((with_reducible refine (HC.out _ HB.out).mono ?_); rintro e w1 ⟨rfl, rfl⟩))
        | fail)
      go_ret
      exact ⟨by simp, HB.out⟩
  · subst h
    cases bd <;> cases ba
    all_goals
      go_enter Try.func76, Try.ntmps76
      go_wp2_with (first
        | (go_at_call 94; first
            | ((with_reducible refine (HD.out _ HB.out).mono ?_); rintro e w1 ⟨rfl, rfl⟩)
            | ((with_reducible refine (HA.out _ HB.out).mono ?_); rintro e w1 ⟨rfl, rfl⟩)
            | ((with_reducible refine (HBB.out _ HB.out).mono ?_); rintro e w1 ⟨rfl, rfl⟩)
            | ((with_reducible refine (HC.out _ HB.out).mono ?_); rintro e w1 ⟨rfl, rfl⟩))
        | fail)
      go_ret
      exact ⟨by simp, HB.out⟩
  · subst h
    go_enter Try.func76, Try.ntmps76
    go_wp2_with (first
        | (go_at_call 94; first
            | ((with_reducible refine (HD.out _ HB.out).mono ?_); rintro e w1 ⟨rfl, rfl⟩)
            | ((with_reducible refine (HA.out _ HB.out).mono ?_); rintro e w1 ⟨rfl, rfl⟩)
            | ((with_reducible refine (HBB.out _ HB.out).mono ?_); rintro e w1 ⟨rfl, rfl⟩)
            | ((with_reducible refine (HC.out _ HB.out).mono ?_); rintro e w1 ⟨rfl, rfl⟩))
        | fail)
    go_ret
    exact ⟨by simp, HB.out⟩
  · subst h
    go_enter Try.func76, Try.ntmps76
    go_wp2_with (first
        | (go_at_call 94; first
            | ((with_reducible refine (HD.out _ HB.out).mono ?_); rintro e w1 ⟨rfl, rfl⟩)
            | ((with_reducible refine (HA.out _ HB.out).mono ?_); rintro e w1 ⟨rfl, rfl⟩)
            | ((with_reducible refine (HBB.out _ HB.out).mono ?_); rintro e w1 ⟨rfl, rfl⟩)
            | ((with_reducible refine (HC.out _ HB.out).mono ?_); rintro e w1 ⟨rfl, rfl⟩))
        | fail)
    go_ret
    exact ⟨by simp, HB.out⟩
  · obtain ⟨q0, q1, q2, q3, q4, q5, q6, q7, q8, q9, q10, q11⟩ := h
    go_enter Try.func76, Try.ntmps76
    go_wp2_with (first
        | (go_at_call 94; first
            | ((with_reducible refine (HD.out _ HB.out).mono ?_); rintro e w1 ⟨rfl, rfl⟩)
            | ((with_reducible refine (HA.out _ HB.out).mono ?_); rintro e w1 ⟨rfl, rfl⟩)
            | ((with_reducible refine (HBB.out _ HB.out).mono ?_); rintro e w1 ⟨rfl, rfl⟩)
            | ((with_reducible refine (HC.out _ HB.out).mono ?_); rintro e w1 ⟨rfl, rfl⟩))
        | fail)
    go_ret
    exact ⟨by simp [q0, q1, q2, q3, q4, q5, q6, q7, q8, q9, q10, q11], HB.out⟩
end Go.Proofs.Ythhgagghdeocoaa
