/-
  The statement RateOrders of layer 12: the walk. Contracts for other texts; no statement of its own.
-/
import Derived.Test.YtnkopcmkanibhaaRatLaw
import Derived.Deep.Cut
set_option linter.unusedVariables false
set_option linter.unusedSimpArgs false
namespace Go.Proofs.Ytnkopcmkanibhaa
open Go Go.RowKit

set_option maxRecDepth 20000 in
set_option maxHeartbeats 4000000 in
theorem rateorders_p (w : World) (n m : Int) (a b c : Nat) (ha : a < 18446744073709551616) (hb : b < 18446744073709551616) (hc : c < 18446744073709551616) :
    Calls Try.prog 7 #[.int .i64 n, .int .i64 m, .int .u64 (a : Int), .int .u64 (b : Int), .int .u64 (c : Int)] w fun e w' => e = .returned (.bool true) ∧ w = w' := by
  by_cases n1 : n < -9007199254740992
  · clear ha hb hc
    go_enter Try.func7, Try.ntmps7
    go_wp2_with (first
      | (go_at_call 23; (with_reducible refine (up12_p _).mono ?_); rintro e w1 ⟨rfl, rfl⟩)
      | fail)
    go_ret
    exact ⟨rfl, rfl⟩
  by_cases n2 : n > 9007199254740992
  · clear ha hb hc
    go_enter Try.func7, Try.ntmps7
    go_wp2_with (first
      | (go_at_call 23; (with_reducible refine (up12_p _).mono ?_); rintro e w1 ⟨rfl, rfl⟩)
      | fail)
    go_ret
    exact ⟨rfl, rfl⟩
  by_cases m1 : m < -9007199254740992
  · clear ha hb hc
    go_enter Try.func7, Try.ntmps7
    go_wp2_with (first
      | (go_at_call 23; (with_reducible refine (up12_p _).mono ?_); rintro e w1 ⟨rfl, rfl⟩)
      | fail)
    go_ret
    exact ⟨rfl, rfl⟩
  by_cases m2 : m > 9007199254740992
  · clear ha hb hc
    go_enter Try.func7, Try.ntmps7
    go_wp2_with (first
      | (go_at_call 23; (with_reducible refine (up12_p _).mono ?_); rintro e w1 ⟨rfl, rfl⟩)
      | fail)
    go_ret
    exact ⟨rfl, rfl⟩
  have hlw := lessW n m (by omega) (by omega) (by omega) (by omega)
  have hsw := sameW12 n m (by omega) (by omega) (by omega) (by omega)
  obtain ⟨k, kv, hkv, hkc⟩ := rof_bits n (by omega) (by omega)
  obtain ⟨j, jv, hjv, _, hjc⟩ := rof_any a ha
  have H1 := Lib.hid (rbits_p n)
  have H2 := Lib.hid (rbits_p m)
  have l1 := rless_p (bitsW n) (bitsW m) (bitsW_lt n) (bitsW_lt m)
  have s1 := rsame_p (bitsW n) (bitsW m) (bitsW_lt n) (bitsW_lt m)
  have f1 := rof_p (bitsW n) (bitsW_lt n)
  have f2 := rof_p a ha
  rw [hlw] at l1
  rw [hsw] at s1
  rw [hkv] at f1
  rw [hjv] at f2
  have q1 := rless_p a b ha hb
  have q2 := rless_p b a hb ha
  have q3 := rsame_p a b ha hb
  have q4 := rsame_p a a ha ha
  have q5 := rsame_p b b hb hb
  have q6 := rless_p b c hb hc
  have q7 := rless_p a c ha hc
  have h3 := three a b c
  have j1 := rbits_p (j : Int)
  have j2 := rbits_p ((j : Int) + 1)
  have j3 := rless_p a (bitsW (j : Int)) ha (bitsW_lt _)
  have j4 := rless_p a (bitsW ((j : Int) + 1)) ha (bitsW_lt _)
  generalize bitsW n = x at H1 l1 s1 f1
  generalize bitsW m = y at H2 l1 s1
  generalize bitsW (j : Int) = u at j1 j3 hjc
  generalize bitsW ((j : Int) + 1) = v at j2 j4 hjc
  generalize rateOk a = ok at hjc
  generalize lessB a u = z1 at j3 hjc
  generalize lessB a v = z2 at j4 hjc
  generalize lessB a b = p1 at q1 h3
  generalize lessB b a = p2 at q2 h3
  generalize sameB a b = p3 at q3 h3
  generalize sameB a a = p4 at q4 h3
  generalize sameB b b = p5 at q5 h3
  generalize lessB b c = p6 at q6 h3
  generalize lessB a c = p7 at q7 h3
  have L1 := Lib.hid l1
  have S1 := Lib.hid s1
  have F1 := Lib.hid f1
  have F2 := Lib.hid f2
  have Q1 := Lib.hid q1
  have Q2 := Lib.hid q2
  have Q3 := Lib.hid q3
  have Q4 := Lib.hid q4
  have Q5 := Lib.hid q5
  have Q6 := Lib.hid q6
  have Q7 := Lib.hid q7
  have J1 := Lib.hid j1
  have J2 := Lib.hid j2
  have J3 := Lib.hid j3
  have J4 := Lib.hid j4
  have HK := Lib.hid hkc
  have HJ := Lib.hid hjc
  have H3 := Lib.hid h3
  clear l1 s1 f1 f2 q1 q2 q3 q4 q5 q6 q7 j1 j2 j3 j4 hkc hjc h3 hlw hsw hkv hjv ha hb hc
  go_enter Try.func7, Try.ntmps7
  go_upto_region 9 with (first
      | (go_at_call 23; (with_reducible refine (up12_p _).mono ?_); rintro e w1 ⟨rfl, rfl⟩)
      | (go_at_call 26; (with_reducible refine (H1.out _).mono ?_); rintro e w1 ⟨rfl, rfl⟩)
      | (go_at_call 26; (with_reducible refine (H2.out _).mono ?_); rintro e w1 ⟨rfl, rfl⟩)
      | (go_at_call 28; (with_reducible refine (L1.out _).mono ?_); rintro e w1 ⟨rfl, rfl⟩)
      | (go_at_call 30; (with_reducible refine (S1.out _).mono ?_); rintro e w1 ⟨rfl, rfl⟩)
      | fail)
  rcases H3.out with ⟨rfl, rfl, ⟨rfl, rfl, rfl, ⟨rfl, rfl⟩ | rfl⟩ | ⟨rfl, ⟨rfl, rfl⟩ | ⟨rfl, rfl⟩⟩⟩ | ⟨rfl | ⟨rfl, rfl⟩, rfl, rfl, rfl⟩
  all_goals
    clear H3
    go_upto_region 19 with (first
      | (go_at_call 28; (with_reducible refine (Q1.out _).mono ?_); rintro e w1 ⟨rfl, rfl⟩)
      | (go_at_call 28; (with_reducible refine (Q2.out _).mono ?_); rintro e w1 ⟨rfl, rfl⟩)
      | (go_at_call 30; (with_reducible refine (Q3.out _).mono ?_); rintro e w1 ⟨rfl, rfl⟩)
      | (go_at_call 30; (with_reducible refine (Q4.out _).mono ?_); rintro e w1 ⟨rfl, rfl⟩)
      | (go_at_call 30; (with_reducible refine (Q5.out _).mono ?_); rintro e w1 ⟨rfl, rfl⟩)
      | (go_at_call 28; (with_reducible refine (Q6.out _).mono ?_); rintro e w1 ⟨rfl, rfl⟩)
      | (go_at_call 28; (with_reducible refine (Q7.out _).mono ?_); rintro e w1 ⟨rfl, rfl⟩)
      | (go_at_call 24; (with_reducible refine (F1.out _).mono ?_); rintro e w1 ⟨rfl, rfl⟩)
      | fail)
    clear Q1 Q2 Q3 Q4 Q5 Q6 Q7
  all_goals
    rcases HK.out with ⟨⟨i1, i2⟩, rfl, rfl⟩ | ⟨i1 | i1, rfl, rfl⟩
  all_goals
    clear HK
    go_upto_region 22 with (first
      | (go_at_call 24; (with_reducible refine (F2.out _).mono ?_); rintro e w1 ⟨rfl, rfl⟩)
      | fail)
  all_goals
    rcases HJ.out with ⟨rfl, j1, j2, rfl, rfl, rfl⟩ | ⟨rfl, rfl, rfl⟩
  all_goals
    clear HJ
    go_wp2_with (first
      | (go_at_call 26; (with_reducible refine (J1.out _).mono ?_); rintro e w1 ⟨rfl, rfl⟩)
      | (go_at_call 26; (with_reducible refine (J2.out _).mono ?_); rintro e w1 ⟨rfl, rfl⟩)
      | (go_at_call 28; (with_reducible refine (J3.out _).mono ?_); rintro e w1 ⟨rfl, rfl⟩)
      | (go_at_call 28; (with_reducible refine (J4.out _).mono ?_); rintro e w1 ⟨rfl, rfl⟩)
      | fail)
    go_ret
    exact ⟨rfl, rfl⟩
end Go.Proofs.Ytnkopcmkanibhaa
