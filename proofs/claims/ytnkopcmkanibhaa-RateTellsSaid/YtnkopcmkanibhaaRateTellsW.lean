/-
  The statement RateTells of layer 12: the walk. Contracts for other texts; no statement of its own.
-/
import Derived.Test.YtnkopcmkanibhaaRatLaw
set_option linter.unusedVariables false
set_option linter.unusedSimpArgs false
namespace Go.Proofs.Ytnkopcmkanibhaa
open Go Go.RowKit

set_option maxRecDepth 20000 in
set_option maxHeartbeats 1000000 in
theorem ratetells_p (w : World) (a b : Nat) (n : Int) (ha : a < 18446744073709551616) (hb : b < 18446744073709551616) :
    Calls Try.prog 6 #[.int .u64 (a : Int), .int .u64 (b : Int), .int .i64 n] w fun e w' => e = .returned (.bool true) ∧ w = w' := by
  obtain ⟨k, v, hkv, hdv, hc⟩ := rof_any a ha
  have h1 := rof_p a ha
  have h2 := drate_p a ha
  rw [hkv] at h1
  rw [hdv] at h2
  have h3 := rbits_p n
  have h4 := dbits_p n
  have h5 := rless_p a b ha hb
  have h6 := dless_p a b ha hb
  have h7 := rsame_p a b ha hb
  have h8 := dsame_p a b ha hb
  have h9 : ∀ w, Calls Try.prog 13 #[.iface 88 (.int .i64 1)] w fun e w' => e = .returned (.int .i64 1) ∧ w = w' := fun w => coden_p w 1 (by omega) (by omega)
  generalize rateOk a = ok at h2 hc
  generalize bitsW n = bw at h3 h4
  generalize lessB a b = ls at h5 h6
  generalize sameB a b = sm at h7 h8
  clear hkv hdv ha hb
  rcases hc with ⟨rfl, hk1, hk2, rfl, _, _⟩ | ⟨rfl, rfl, rfl⟩
  all_goals
    go_enter Try.func6, Try.ntmps6
    go_wp2_with (first
      | (go_at_call 23; (with_reducible refine (up12_p _).mono ?_); rintro e w1 ⟨rfl, rfl⟩)
      | (go_at_call 24; (with_reducible refine (h1 _).mono ?_); rintro e w1 ⟨rfl, rfl⟩)
      | (go_at_call 25; (with_reducible refine (h2 _).mono ?_); rintro e w1 ⟨rfl, rfl⟩)
      | (go_at_call 26; (with_reducible refine (h3 _).mono ?_); rintro e w1 ⟨rfl, rfl⟩)
      | (go_at_call 27; (with_reducible refine (h4 _).mono ?_); rintro e w1 ⟨rfl, rfl⟩)
      | (go_at_call 28; (with_reducible refine (h5 _).mono ?_); rintro e w1 ⟨rfl, rfl⟩)
      | (go_at_call 29; (with_reducible refine (h6 _).mono ?_); rintro e w1 ⟨rfl, rfl⟩)
      | (go_at_call 30; (with_reducible refine (h7 _).mono ?_); rintro e w1 ⟨rfl, rfl⟩)
      | (go_at_call 31; (with_reducible refine (h8 _).mono ?_); rintro e w1 ⟨rfl, rfl⟩)
      | (go_at_call 13; (with_reducible refine (h9 _).mono ?_); rintro e w1 ⟨rfl, rfl⟩)
      | fail)
    go_ret
    exact ⟨by simp, rfl⟩
end Go.Proofs.Ytnkopcmkanibhaa
