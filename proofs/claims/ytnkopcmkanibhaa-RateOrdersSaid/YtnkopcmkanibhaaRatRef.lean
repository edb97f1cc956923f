/-
  rate: the document's own Some, rank, Less, Same, Bits. Contracts for other texts; no statement of its own.
-/
import Derived.Test.YtnkopcmkanibhaaRatBits
import Derived.Test.YtnkopcmkanibhaaBase
import Derived.Lib.Hide
import Derived.Deep.LoopGhost
set_option linter.unusedVariables false
set_option linter.unusedSimpArgs false
namespace Go.Proofs.Ytnkopcmkanibhaa
open Go Go.RowKit

theorem beq_dec (i j : Int) : (i == j) = decide (i = j) := by
  by_cases h : i = j
  · rw [decide_eq_true h]; simpa using h
  · rw [decide_eq_false h]; simpa using h
theorem dsome_p (x : Nat) (hx : x < 18446744073709551616) (w : World) :
    Calls Try.prog 50 #[.int .u64 (x : Int)] w fun e w' => e = .returned (.bool (someN x)) ∧ w = w' := by
  have h : (decide ((x : Int) % 9223372036854775808 ≤ 9218868437227405312)) = someN x := by
    unfold someN
    by_cases h : x % 9223372036854775808 ≤ 9218868437227405312
    · rw [decide_eq_true h, decide_eq_true (by omega)]
    · rw [decide_eq_false h, decide_eq_false (by omega)]
  have HH := Lib.hid h
  clear h
  go_enter Try.func50, Try.ntmps50
  go_wp2
  go_ret
  exact ⟨by rw [← HH.out]; rfl, rfl⟩
set_option maxRecDepth 20000 in
theorem drank_p (x : Nat) (hx : x < 18446744073709551616) (w : World) :
    Calls Try.prog 51 #[.int .u64 (x : Int)] w fun e w' => e = .returned (.int .i64 (rankN x)) ∧ w = w' := by
  by_cases h : 9223372036854775808 ≤ x
  · have e : rankN x = -((x : Int) - 9223372036854775808) := by
      unfold rankN sv
      rw [decide_eq_true h, if_pos rfl]
      omega
    rw [e]
    clear e
    have hi : (9223372036854775808 : Int) ≤ x := by omega
    have hx' : (x : Int) < 18446744073709551616 := by omega
    clear h hx
    go_enter Try.func51, Try.ntmps51
    go_wp2
    go_ret
    exact ⟨rfl, rfl⟩
  · have e : rankN x = (x : Int) := by
      unfold rankN sv
      rw [decide_eq_false h]
      simp only [Bool.false_eq_true, if_false]
      omega
    rw [e]
    clear e
    have hi : ¬ (9223372036854775808 : Int) ≤ x := by omega
    have hi2 : (x : Int) < 9223372036854775808 := by omega
    have hx' : (x : Int) < 18446744073709551616 := by omega
    clear h hx
    go_enter Try.func51, Try.ntmps51
    go_wp2
    go_ret
    exact ⟨rfl, rfl⟩
theorem dless_p (a b : Nat) (ha : a < 18446744073709551616) (hb : b < 18446744073709551616) (w : World) :
    Calls Try.prog 29 #[.int .u64 (a : Int), .int .u64 (b : Int)] w fun e w' => e = .returned (.bool (lessB a b)) ∧ w = w' := by
  have h1 := dsome_p a ha
  have h2 := dsome_p b hb
  have h3 := drank_p a ha
  have h4 := drank_p b hb
  have hq : Hid (lessB a b = (someN a && someN b && decide (rankN a < rankN b))) := Lib.hid rfl
  generalize lessB a b = r at hq ⊢
  generalize someN a = p at h1 hq
  generalize someN b = q at h2 hq
  generalize rankN a = i at h3 hq
  generalize rankN b = j at h4 hq
  clear ha hb
  cases p <;> cases q
  all_goals
    go_enter Try.func29, Try.ntmps29
    go_wp2_with (first
      | (go_at_call 50; (with_reducible refine (h1 _).mono ?_); rintro e w1 ⟨rfl, rfl⟩)
      | (go_at_call 50; (with_reducible refine (h2 _).mono ?_); rintro e w1 ⟨rfl, rfl⟩)
      | (go_at_call 51; (with_reducible refine (h3 _).mono ?_); rintro e w1 ⟨rfl, rfl⟩)
      | (go_at_call 51; (with_reducible refine (h4 _).mono ?_); rintro e w1 ⟨rfl, rfl⟩)
      | fail)
    go_ret
    exact ⟨by rw [hq.out]; rfl, rfl⟩
theorem dsame_p (a b : Nat) (ha : a < 18446744073709551616) (hb : b < 18446744073709551616) (w : World) :
    Calls Try.prog 31 #[.int .u64 (a : Int), .int .u64 (b : Int)] w fun e w' => e = .returned (.bool (sameB a b)) ∧ w = w' := by
  have h1 := dsome_p a ha
  have h2 := dsome_p b hb
  have h3 := drank_p a ha
  have h4 := drank_p b hb
  have hq : Hid (sameB a b = (someN a && someN b && decide (rankN a = rankN b))) := Lib.hid rfl
  generalize sameB a b = r at hq ⊢
  generalize someN a = p at h1 hq
  generalize someN b = q at h2 hq
  generalize rankN a = i at h3 hq
  generalize rankN b = j at h4 hq
  clear ha hb
  cases p <;> cases q
  all_goals
    go_enter Try.func31, Try.ntmps31
    go_wp2_with (first
      | (go_at_call 50; (with_reducible refine (h1 _).mono ?_); rintro e w1 ⟨rfl, rfl⟩)
      | (go_at_call 50; (with_reducible refine (h2 _).mono ?_); rintro e w1 ⟨rfl, rfl⟩)
      | (go_at_call 51; (with_reducible refine (h3 _).mono ?_); rintro e w1 ⟨rfl, rfl⟩)
      | (go_at_call 51; (with_reducible refine (h4 _).mono ?_); rintro e w1 ⟨rfl, rfl⟩)
      | fail)
    go_ret
    exact ⟨by rw [hq.out]; first | rfl | (rw [Bool.true_and, Bool.true_and]; exact congrArg (fun b => Ending.returned (.bool b)) (beq_dec i j)), rfl⟩

/-- One step of doubling. -/
theorem double_step (n j m : Nat) (hm : m = n * 2 ^ j) (h : m < 4503599627370496) (h1 : 1 ≤ n) : j < 52 ∧ 2 * m = n * 2 ^ (j + 1) := by
  constructor
  · rcases Nat.lt_or_ge j 52 with h2 | h2
    · exact h2
    · exfalso
      have h3 : 2 ^ 52 ≤ 2 ^ j := Nat.pow_le_pow_right (by omega) h2
      have h4 : 1 * 2 ^ j ≤ n * 2 ^ j := Nat.mul_le_mul_right _ h1
      have h5 : (2 : Nat) ^ 52 = 4503599627370496 := rfl
      omega
  · rw [hm, Nat.pow_succ]
    simp [Nat.mul_comm, Nat.mul_left_comm]
theorem double_end (n j m : Nat) (hm : m = n * 2 ^ j) (h1 : 1 ≤ n) (h2 : n < 9007199254740992) (ha : 4503599627370496 ≤ m) (hb : m < 9007199254740992) : (1074 - j) * 4503599627370496 + m = bitsN n := by
  subst hm
  exact (bits_loop n j h1 h2 ha hb).2.symm
set_option maxHeartbeats 1000000 in
theorem dbits_in (n : Int) (N : Nat) (sg : Nat) (h1 : 1 ≤ N) (h2 : N ≤ 9007199254740992) (hn : n = N ∧ sg = 0 ∨ n = -(N : Int) ∧ sg = 9223372036854775808) (w : World) :
    Calls Try.prog 27 #[.int .i64 n] w fun e w' => e = .returned (.int .u64 ((sg + bitsN N : Nat) : Int)) ∧ w = w' := by
  obtain ⟨T, hT⟩ : ∃ T, bitsN N = T := ⟨_, rfl⟩
  have HT := Lib.hid hT
  rw [hT]
  clear hT
  rcases hn with ⟨rfl, rfl⟩ | ⟨rfl, rfl⟩
  all_goals
    have n0 : ¬ (N : Int) = 0 := by omega
    have n1 : ¬ -(N : Int) = 0 := by omega
    have n2 : ((N : Int) == 0) = false := by simp; omega
    have n3 : (-(N : Int) == 0) = false := by simp; omega
    go_enter Try.func27, Try.ntmps27
    go_wp2
    go_loop [4, 5] (fun s4 s5 => ∃ j m e : Nat, j ≤ 52 ∧ s4 = .int .u64 (m : Int) ∧ s5 = .int .u64 (e : Int) ∧ Hid (e = 1075 - j ∧ m = N * 2 ^ j) ∧ e ≤ 1075 ∧ (j = 0 ∧ m = N ∨ m < 9007199254740992) ∧ 1 ≤ e) (fun s4 s5 => (intOf s5).toNat)
    case atStart => exact ⟨0, N, 1075, by omega, by first | rfl | (congr 1; omega), rfl, Lib.hid ⟨rfl, by simp⟩, by omega, .inl ⟨rfl, rfl⟩, by omega⟩
    case round =>
      obtain ⟨j, m, e, hj, rfl, rfl, hme, he, hlt, he1⟩ := hrel
      by_cases hm : m < 4503599627370496
      · have hd := double_step N j m hme.out.2 hm h1
        have HD := Lib.hid hd.2
        have HE := hme.out.1
        have hj2 := hd.1
        have he2 : 2 ≤ e := by omega
        have hmi : (m : Int) < 4503599627370496 := by omega
        have HM := Lib.hid hm
        have HJ := Lib.hid hj2
        have HL := Lib.hid hlt
        have HEE := Lib.hid hme.out.1
        clear hd hme hm hlt hj2 HE
        go_wp2
        go_round
        case rel => exact ⟨j + 1, 2 * m, e - 1, by have := HJ.out; omega, by go_num, by go_num, Lib.hid ⟨by rw [HEE.out]; have := HJ.out; omega, HD.out⟩, by omega, .inr (by have := HM.out; omega), by omega⟩
        case measure => simp [intOf]; omega
      · have hmi : ¬ (m : Int) < 4503599627370496 := by omega
        have hend : Hid (m < 9007199254740992 ∧ (e - 1) * 4503599627370496 + m = T ∨ m = 9007199254740992 ∧ e = 1075 ∧ T = 4845873199050653696) := Lib.hid (by
          have e1 := hme.out.1
          have e2 := hme.out.2
          have e3 := HT.out
          by_cases hN : N = 9007199254740992
          · rcases hlt with ⟨rfl, rfl⟩ | hlt
            · right
              subst hN
              refine ⟨rfl, by omega, ?_⟩
              rw [← e3]
              decide +kernel
            · exfalso
              have : 1 ≤ 2 ^ j := Nat.two_pow_pos j
              have h6 : N * 1 ≤ N * 2 ^ j := Nat.mul_le_mul_left _ this
              omega
          · left
            have hlt' : m < 9007199254740992 := by rcases hlt with ⟨rfl, rfl⟩ | hlt <;> omega
            have := double_end N j m e2 h1 (by omega) (by omega) hlt'
            refine ⟨hlt', ?_⟩
            have e5 : e - 1 = 1074 - j := by omega
            rw [e5, this, e3])
        have HM := Lib.hid hm
        clear hme hlt hj hm
        go_wp2
        go_loop [4, 5] (fun s4 s5 => ∃ m e : Nat, s4 = .int .u64 (m : Int) ∧ s5 = .int .u64 (e : Int) ∧ Hid (4503599627370496 ≤ m ∧ e ≤ 1076 ∧ 1 ≤ e ∧ (m < 9007199254740992 ∧ (e - 1) * 4503599627370496 + m = T ∨ m = 9007199254740992 ∧ e = 1075 ∧ T = 4845873199050653696))) (fun s4 s5 => (intOf s4).toNat)
        case atStart => exact ⟨m, e, rfl, rfl, Lib.hid ⟨by have := HM.out; omega, by omega, he1, hend.out⟩⟩
        case round =>
          clear hmi hend HM he1 he
          obtain ⟨m, e, rfl, rfl, hH⟩ := hrel
          by_cases hm : m < 9007199254740992
          · have i1 : ¬ (9007199254740992 : Int) ≤ m := by omega
            have i2 : (4503599627370496 : Int) ≤ m := by have := hH.out; omega
            have i3 : (m : Int) < 9007199254740992 := by omega
            have i4 : (e : Int) ≤ 1076 := by have := hH.out; omega
            have i5 : (1 : Int) ≤ e := by have := hH.out; omega
            have HF : Hid (((e : Int) * 4503599627370496 + m - 4503599627370496 = (T : Int))) := Lib.hid (by
              have := hH.out
              have h7 : (e - 1) * 4503599627370496 + m = T := by omega
              have h8 : ((e - 1 : Nat) : Int) = (e : Int) - 1 := by omega
              omega)
            clear hH hm
            clear h1 h2
            go_wp2
            go_ret
            exact ⟨by have := HF.out; show Ending.returned (.int .u64 _) = Ending.returned (.int .u64 _); congr 2; try omega, rfl⟩
          · have i1 : (9007199254740992 : Int) ≤ m := by omega
            have HH2 : Hid (m = 9007199254740992 ∧ e = 1075 ∧ T = 4845873199050653696) := Lib.hid (by have := hH.out; omega)
            have i3 : (m : Int) ≤ 9007199254740992 := by have := HH2.out; omega
            have i4 : (e : Int) ≤ 1075 := by have := HH2.out; omega
            have htd : (m : Int).tdiv 2 = (m : Int) / 2 := Int.tdiv_eq_ediv_of_nonneg (by omega)
            clear hH hm
            go_wp2
            go_round
            case rel =>
              have hh := HH2.out
              exact ⟨4503599627370496, 1076, by show Value.int .u64 _ = Value.int .u64 _; congr 1; try omega, by show Value.int .u64 _ = Value.int .u64 _; congr 1; omega, Lib.hid ⟨by omega, by omega, by omega, .inl ⟨by omega, by omega⟩⟩⟩
            case measure => simp [intOf]; omega
theorem dbits_p (n : Int) (w : World) :
    Calls Try.prog 27 #[.int .i64 n] w fun e w' => e = .returned (.int .u64 (bitsW n : Int)) ∧ w = w' := by
  by_cases h : n > 9007199254740992 ∨ n < -9007199254740992 ∨ n = 0
  · rw [bitsW, if_pos h]
    by_cases h1 : n > 9007199254740992
    · go_enter Try.func27, Try.ntmps27
      go_wp2
      go_ret
      exact ⟨rfl, rfl⟩
    · by_cases h2 : n < -9007199254740992
      · go_enter Try.func27, Try.ntmps27
        go_wp2
        go_ret
        exact ⟨rfl, rfl⟩
      · have h0 : n = 0 := by omega
        subst h0
        go_enter Try.func27, Try.ntmps27
        go_wp2
        go_ret
        exact ⟨rfl, rfl⟩
  · rw [bitsW, if_neg h]
    by_cases hn : n < 0
    · rw [if_pos hn]
      exact dbits_in n n.natAbs _ (by omega) (by omega) (.inr ⟨by omega, rfl⟩) w
    · rw [if_neg hn]
      exact dbits_in n n.natAbs _ (by omega) (by omega) (.inl ⟨by omega, rfl⟩) w
end Go.Proofs.Ytnkopcmkanibhaa
