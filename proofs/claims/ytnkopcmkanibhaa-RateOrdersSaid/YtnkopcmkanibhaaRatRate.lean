/-
  rate: the document's own Rate. Contracts for other texts; no statement of its own.
-/
import Derived.Test.YtnkopcmkanibhaaRatRef
import Derived.BigQuiet
set_option linter.unusedVariables false
set_option linter.unusedSimpArgs false
namespace Go.Proofs.Ytnkopcmkanibhaa
open Go Go.RowKit

theorem bitsW_1 : bitsW 1 = 4607182418800017408 := by decide +kernel
theorem bitsW_1024 : bitsW 1024 = 4652218415073722368 := by decide +kernel
theorem rank_lo : rankN 4607182418800017408 = 4607182418800017408 := by decide +kernel
theorem rank_hi : rankN 4652218415073722368 = 4652218415073722368 := by decide +kernel
theorem dbits_lo (w : World) : Calls Try.prog 27 #[.int .i64 1] w fun e w' => e = .returned (.int .u64 4607182418800017408) ∧ w = w' := by
  have h := dbits_p 1 w
  rw [bitsW_1] at h
  exact h
theorem dbits_hi (w : World) : Calls Try.prog 27 #[.int .i64 1024] w fun e w' => e = .returned (.int .u64 4652218415073722368) ∧ w = w' := by
  have h := dbits_p 1024 w
  rw [bitsW_1024] at h
  exact h
theorem drank_lo (w : World) : Calls Try.prog 51 #[.int .u64 4607182418800017408] w fun e w' => e = .returned (.int .i64 4607182418800017408) ∧ w = w' := by
  have h := drank_p 4607182418800017408 (by omega) w
  rw [rank_lo] at h
  exact h
theorem drank_hi (w : World) : Calls Try.prog 51 #[.int .u64 4652218415073722368] w fun e w' => e = .returned (.int .i64 4652218415073722368) ∧ w = w' := by
  have h := drank_p 4652218415073722368 (by omega) w
  rw [rank_hi] at h
  exact h
theorem rankN_bd (x : Nat) : -9223372036854775808 < rankN x ∧ rankN x < 9223372036854775808 := by
  unfold rankN sv
  have : x % 9223372036854775808 < 9223372036854775808 := Nat.mod_lt _ (by omega)
  split <;> omega
/-- What it tells. -/
def drateV (x : Nat) : Value := .tuple #[.int .i64 (if rateOk x = true then (rateN x : Int) else 0), .bool (rateOk x)]
set_option maxHeartbeats 1000000 in
set_option maxRecDepth 20000 in
theorem drate_p (x : Nat) (hx : x < 18446744073709551616) (w : World) :
    Calls Try.prog 25 #[.int .u64 (x : Int)] w fun e w' => e = .returned (drateV x) ∧ w = w' := by
  have hs := dsome_p x hx
  have hr := drank_p x hx
  have hk := rate_rank x hx
  have hbd := rankN_bd x
  have HX := Lib.hid hx
  unfold drateV
  obtain ⟨p, hp⟩ : ∃ p, someN x = p := ⟨_, rfl⟩
  obtain ⟨R, hR⟩ : ∃ R, rankN x = R := ⟨_, rfl⟩
  rw [hp] at hs hk
  rw [hR] at hr hk hbd
  have HP := Lib.hid hp
  have HR := Lib.hid hR
  clear hp hR hx
  cases p
  · have e : rateOk x = false := by rw [hk]; rfl
    rw [e]
    clear hk e
    go_enter Try.func25, Try.ntmps25
    go_wp2_with (first
      | (go_at_call 50; (with_reducible refine (hs _).mono ?_); rintro e w1 ⟨rfl, rfl⟩)
      | fail)
    go_ret2
    exact ⟨rfl, rfl⟩
  · by_cases h1 : R < 4607182418800017408
    · have e : rateOk x = false := by rw [hk]; simp; omega
      rw [e]
      clear hk e
      go_enter Try.func25, Try.ntmps25
      go_wp2_with (first
        | (go_at_call 50; (with_reducible refine (hs _).mono ?_); rintro e w1 ⟨rfl, rfl⟩)
        | (go_at_call 51; (with_reducible refine (hr _).mono ?_); rintro e w1 ⟨rfl, rfl⟩)
        | (go_at_call 51; (with_reducible refine (drank_lo _).mono ?_); rintro e w1 ⟨rfl, rfl⟩)
        | (go_at_call 27; (with_reducible refine (dbits_lo _).mono ?_); rintro e w1 ⟨rfl, rfl⟩)
        | fail)
      go_ret2
      exact ⟨rfl, rfl⟩
    · by_cases h2 : R > 4652218415073722368
      · have e : rateOk x = false := by rw [hk]; simp; omega
        rw [e]
        clear hk e
        go_enter Try.func25, Try.ntmps25
        go_wp2_with (first
          | (go_at_call 50; (with_reducible refine (hs _).mono ?_); rintro e w1 ⟨rfl, rfl⟩)
          | (go_at_call 51; (with_reducible refine (hr _).mono ?_); rintro e w1 ⟨rfl, rfl⟩)
          | (go_at_call 51; (with_reducible refine (drank_lo _).mono ?_); rintro e w1 ⟨rfl, rfl⟩)
          | (go_at_call 51; (with_reducible refine (drank_hi _).mono ?_); rintro e w1 ⟨rfl, rfl⟩)
          | (go_at_call 27; (with_reducible refine (dbits_lo _).mono ?_); rintro e w1 ⟨rfl, rfl⟩)
          | (go_at_call 27; (with_reducible refine (dbits_hi _).mono ?_); rintro e w1 ⟨rfl, rfl⟩)
          | fail)
        go_ret2
        exact ⟨rfl, rfl⟩
      · have e : rateOk x = true := by rw [hk]; simp; omega
        rw [e]
        have hnb := rate_bd x e
        have hRx : Hid (R = (x : Int)) := Lib.hid (by
          simp [rateOk] at e
          rw [← HR.out, rankN, sv, decide_eq_false (by omega)]
          simp only [Bool.false_eq_true, if_false]
          omega)
        simp only [if_true]
        have HI : Hid (∀ n, 1 ≤ n → n ≤ 9007199254740992 → (bitsN n ≤ x ↔ n ≤ rateN x)) := Lib.hid fun n a b => rate_iff n x a b
        obtain ⟨N, hN⟩ : ∃ N, rateN x = N := ⟨_, rfl⟩
        rw [hN] at hnb HI
        rw [hN]
        clear hk e hN
        go_enter Try.func25, Try.ntmps25
        go_wp2_with (first
          | (go_at_call 50; (with_reducible refine (hs _).mono ?_); rintro e w1 ⟨rfl, rfl⟩)
          | (go_at_call 51; (with_reducible refine (hr _).mono ?_); rintro e w1 ⟨rfl, rfl⟩)
          | (go_at_call 51; (with_reducible refine (drank_lo _).mono ?_); rintro e w1 ⟨rfl, rfl⟩)
          | (go_at_call 51; (with_reducible refine (drank_hi _).mono ?_); rintro e w1 ⟨rfl, rfl⟩)
          | (go_at_call 27; (with_reducible refine (dbits_lo _).mono ?_); rintro e w1 ⟨rfl, rfl⟩)
          | (go_at_call 27; (with_reducible refine (dbits_hi _).mono ?_); rintro e w1 ⟨rfl, rfl⟩)
          | fail)
        go_loopg [5] 1023 (fun m s5 wr => ∃ k : Nat, s5 = .int .i64 (k : Int) ∧ 1 ≤ k ∧ k ≤ N ∧ m = 1024 - k ∧ wr = w)
        case atStart => exact ⟨1, by first | rfl | trivial, by omega, by omega, by first | rfl | omega, rfl⟩
        case round =>
          obtain ⟨k, rfl, hk1, hkN, hm, hww⟩ := hrel
          obtain rfl := hww.symm
          have HM := Lib.hid hm
          clear hm
          by_cases hk : k < 1024
          · have hb := dbits_p ((k : Int) + 1)
            have hq := drank_p (bitsW ((k : Int) + 1)) (bitsW_lt _)
            have hrk : rankN (bitsW ((k : Int) + 1)) = (bitsN (k + 1) : Int) := by
              rw [rankW _ (by omega) (by omega), if_neg (by omega), if_neg (by omega)]
              congr 2
            rw [hrk] at hq
            have hit := HI.out (k + 1) (by omega) (by omega)
            have hbb := (bitsN_lt (k + 1) (by omega) (by omega)).2
            obtain ⟨bw, hbw⟩ : ∃ bw, bitsW ((k : Int) + 1) = bw := ⟨_, rfl⟩
            obtain ⟨bn, hbn⟩ : ∃ bn, bitsN (k + 1) = bn := ⟨_, rfl⟩
            rw [hbw] at hb hq
            rw [hbn] at hq hit hbb
            clear hbw hbn hrk
            have hki : (k : Int) < 1024 := by omega
            by_cases hle : bn ≤ x
            · have hle' : (bn : Int) ≤ R := by rw [hRx.out]; omega
              have HK := Lib.hid (hit.mp hle)
              have HBB := Lib.hid hbb
              clear hit hle hbb
              go_wp2_with (first
                | (go_at_call 27; (with_reducible refine (hb _).mono ?_); rintro e w1 ⟨rfl, rfl⟩)
                | (go_at_call 51; (with_reducible refine (hq _).mono ?_); rintro e w1 ⟨rfl, rfl⟩)
                | (go_at_call 51; (with_reducible refine (hr _).mono ?_); rintro e w1 ⟨rfl, rfl⟩)
                | fail)
              go_roundg (1024 - (k + 1))
              case measure => have := HM.out; omega
              case rel => exact ⟨k + 1, by go_num, by omega, HK.out, rfl, rfl⟩
            · have hle' : ¬ (bn : Int) ≤ R := by rw [hRx.out]; omega
              have hkk : k = N := by omega
              subst hkk
              have HBB := Lib.hid hbb
              clear hit hle hbb
              go_wp2_with (first
                | (go_at_call 27; (with_reducible refine (hb _).mono ?_); rintro e w1 ⟨rfl, rfl⟩)
                | (go_at_call 51; (with_reducible refine (hq _).mono ?_); rintro e w1 ⟨rfl, rfl⟩)
                | (go_at_call 51; (with_reducible refine (hr _).mono ?_); rintro e w1 ⟨rfl, rfl⟩)
                | fail)
              go_ret2
              exact ⟨rfl, rfl⟩
          · have hkk : k = N := by omega
            subst hkk
            have hki : ¬ (k : Int) < 1024 := by omega
            go_wp2
            go_ret2
            exact ⟨rfl, rfl⟩
end Go.Proofs.Ytnkopcmkanibhaa
