/-
  Layer 12's statements: the head that both begin with; what stands to what. Contracts for other texts; no statement of its own.
-/
import Derived.Test.YtnkopcmkanibhaaRatFns
import Derived.Test.YtnkopcmkanibhaaRatRate
import Derived.Test.YtnkopcmkanibhaaCodeN
set_option linter.unusedVariables false
set_option linter.unusedSimpArgs false
namespace Go.Proofs.Ytnkopcmkanibhaa
open Go Go.RowKit

theorem rate_bits (n : Int) (h1 : -9007199254740992 ≤ n) (h2 : n ≤ 9007199254740992) : rateOk (bitsW n) = (decide (1 ≤ n) && decide (n ≤ 1024)) := by
  rw [rate_rank _ (bitsW_lt n), bitsW_some, Bool.true_and]
  have a := rankW_lt n 1 h1 h2 (by omega) (by omega)
  have b := rankW_lt 1024 n (by omega) (by omega) h1 h2
  rw [bitsW_1, rank_lo] at a
  rw [bitsW_1024, rank_hi] at b
  congr 1
  · by_cases h : 1 ≤ n
    · rw [decide_eq_true h, decide_eq_true (by omega)]
    · rw [decide_eq_false h, decide_eq_false (by omega)]
  · by_cases h : n ≤ 1024
    · rw [decide_eq_true h, decide_eq_true (by omega)]
    · rw [decide_eq_false h, decide_eq_false (by omega)]
theorem bitsW_pos (n : Nat) (h1 : 1 ≤ n) (h2 : n ≤ 9007199254740992) : bitsW (n : Int) = bitsN n := by
  rw [bitsW, if_neg (by omega), if_neg (by omega)]
  simp
theorem rateN_bits (n : Nat) (h1 : 1 ≤ n) (h2 : n ≤ 1024) : rateN (bitsW (n : Int)) = n := by
  rw [bitsW_pos n h1 (by omega)]
  have a := (rate_iff n (bitsN n) h1 (by omega)).mp (Nat.le_refl _)
  have b := (rate_iff (n + 1) (bitsN n) (by omega) (by omega))
  have c := bitsN_lt_iff n (n + 1) (by omega) (by omega)
  omega
/-- Of of whole numbers' bits. -/
theorem rof_bits (n : Int) (h1 : -9007199254740992 ≤ n) (h2 : n ≤ 9007199254740992) :
    ∃ k v, rateV (bitsW n) = .tuple #[.int .i64 k, v] ∧ ((1 ≤ n ∧ n ≤ 1024) ∧ k = n ∧ v = .nilIface ∨ (n < 1 ∨ 1024 < n) ∧ k = 0 ∧ v = .iface 88 (.int .i64 1)) := by
  have h := rate_bits n h1 h2
  unfold rateV
  by_cases hn : 1 ≤ n ∧ n ≤ 1024
  · rw [decide_eq_true hn.1, decide_eq_true hn.2] at h
    have e := rateN_bits n.toNat (by omega) (by omega)
    rw [Int.toNat_of_nonneg (by omega)] at e
    refine ⟨n, .nilIface, ?_, .inl ⟨hn, rfl, rfl⟩⟩
    rw [h, e]
    simp
    omega
  · have hf : (decide (1 ≤ n) && decide (n ≤ 1024)) = false := by
      simp; omega
    rw [hf] at h
    refine ⟨0, .iface 88 (.int .i64 1), ?_, .inr ⟨by omega, rfl, rfl⟩⟩
    rw [h]
    simp
/-- Of of any bits. -/
theorem rof_any (a : Nat) (ha : a < 18446744073709551616) :
    ∃ (k : Nat) (v : Value), rateV a = .tuple #[.int .i64 (k : Int), v] ∧ drateV a = .tuple #[.int .i64 (k : Int), .bool (rateOk a)] ∧ (rateOk a = true ∧ 1 ≤ k ∧ k ≤ 1024 ∧ v = .nilIface ∧ lessB a (bitsW (k : Int)) = false ∧ lessB a (bitsW ((k : Int) + 1)) = true ∨ rateOk a = false ∧ k = 0 ∧ v = .iface 88 (.int .i64 1)) := by
  cases h : rateOk a
  · exact ⟨0, _, by unfold rateV; rw [h]; rfl, by unfold drateV; rw [h]; rfl, .inr ⟨rfl, rfl, rfl⟩⟩
  · have hb := rate_bd a h
    refine ⟨rateN a, _, by unfold rateV; rw [h]; rfl, by unfold drateV; rw [h]; rfl, .inl ⟨rfl, hb.1, hb.2, rfl, ?_, ?_⟩⟩
    all_goals
      have e1 := (rate_iff (rateN a) a hb.1 (by omega)).mpr (Nat.le_refl _)
      have e2 := rate_iff (rateN a + 1) a (by omega) (by omega)
      have hr := rate_rank a ha
      rw [h] at hr
      have hs : someN a = true := by
        cases hs : someN a
        · rw [hs] at hr; simp at hr
        · rfl
      have hrk : rankN a = (a : Int) := by
        simp [rateOk] at h
        rw [rankN, sv, decide_eq_false (by omega)]
        simp only [Bool.false_eq_true, if_false]
        omega
    · rw [lessB, hs, bitsW_some, hrk, rankW _ (by omega) (by omega), if_neg (by omega), if_neg (by omega), decide_eq_false]
      · rfl
      · rw [show ((rateN a : Nat) : Int).natAbs = rateN a by omega]
        omega
    · rw [lessB, hs, bitsW_some, hrk, rankW _ (by omega) (by omega), if_neg (by omega), if_neg (by omega), decide_eq_true]
      · rfl
      · rw [show (((rateN a : Nat) : Int) + 1).natAbs = rateN a + 1 by omega]
        omega
set_option maxRecDepth 20000 in
theorem up12_p (w : World) : Calls Try.prog 23 #[] w fun e w' => e = .returned (.bool true) ∧ w = w' := by
  have h1 := rbits_p 7
  obtain ⟨k, v, hkv, hc⟩ := rof_bits 7 (by omega) (by omega)
  have h2 := rof_p (bitsW 7) (bitsW_lt 7)
  have e3 : rateV 0 = .tuple #[.int .i64 0, .iface 88 (.int .i64 1)] := by
    have : rateOk 0 = false := by decide +kernel
    unfold rateV
    rw [this]
    rfl
  have h3 : ∀ w, Calls Try.prog 24 #[.int .u64 0] w fun e w' => e = .returned (rateV 0) ∧ w = w' := rof_p 0 (by omega)
  have h4 : ∀ w, Calls Try.prog 30 #[.int .u64 0, .int .u64 9223372036854775808] w fun e w' => e = .returned (.bool (sameB 0 9223372036854775808)) ∧ w = w' := rsame_p 0 9223372036854775808 (by omega) (by omega)
  have e4 : sameB 0 9223372036854775808 = true := by decide +kernel
  have h5 : ∀ w, Calls Try.prog 13 #[.iface 88 (.int .i64 1)] w fun e w' => e = .returned (.int .i64 1) ∧ w = w' := fun w => coden_p w 1 (by omega) (by omega)
  rw [hkv] at h2
  rw [e3] at h3
  rw [e4] at h4
  rcases hc with ⟨_, rfl, rfl⟩ | ⟨h, _⟩
  · generalize bitsW 7 = b7 at h1 h2
    clear hkv e3 e4
    go_enter Try.func23, Try.ntmps23
    go_wp2_with (first
      | (go_at_call 26; (with_reducible refine (h1 _).mono ?_); rintro e w1 ⟨rfl, rfl⟩)
      | (go_at_call 24; (with_reducible refine (h2 _).mono ?_); rintro e w1 ⟨rfl, rfl⟩)
      | (go_at_call 24; (with_reducible refine (h3 _).mono ?_); rintro e w1 ⟨rfl, rfl⟩)
      | (go_at_call 13; (with_reducible refine (h5 _).mono ?_); rintro e w1 ⟨rfl, rfl⟩)
      | (go_at_call 30; (with_reducible refine (h4 _).mono ?_); rintro e w1 ⟨rfl, rfl⟩)
      | fail)
    go_ret
    exact ⟨rfl, rfl⟩
  · omega
theorem lessW (n m : Int) (h1 : -9007199254740992 ≤ n) (h2 : n ≤ 9007199254740992) (h3 : -9007199254740992 ≤ m) (h4 : m ≤ 9007199254740992) : lessB (bitsW n) (bitsW m) = decide (n < m) := by
  have h := rankW_lt n m h1 h2 h3 h4
  rw [lessB, bitsW_some, bitsW_some]
  simp only [Bool.true_and]
  by_cases hl : n < m
  · rw [decide_eq_true hl, decide_eq_true (h.mpr hl)]
  · rw [decide_eq_false hl, decide_eq_false (fun x => hl (h.mp x))]
theorem sameW12 (n m : Int) (h1 : -9007199254740992 ≤ n) (h2 : n ≤ 9007199254740992) (h3 : -9007199254740992 ≤ m) (h4 : m ≤ 9007199254740992) : sameB (bitsW n) (bitsW m) = (n == m) := by
  have h := rankW_eq n m h1 h2 h3 h4
  rw [sameB, bitsW_some, bitsW_some, beq_dec]
  simp only [Bool.true_and]
  by_cases hl : n = m
  · rw [decide_eq_true hl, decide_eq_true (h.mpr hl)]
  · rw [decide_eq_false hl, decide_eq_false (fun x => hl (h.mp x))]
/-- How any three numbers stand to each other. -/
theorem three (a b c : Nat) : (sameB a a = true ∧ sameB b b = true ∧ (lessB a b = true ∧ lessB b a = false ∧ sameB a b = false ∧ (lessB b c = true ∧ lessB a c = true ∨ lessB b c = false) ∨ lessB a b = false ∧ (lessB b a = true ∧ sameB a b = false ∨ lessB b a = false ∧ sameB a b = true))) ∨ (sameB a a = false ∨ sameB a a = true ∧ sameB b b = false) ∧ lessB a b = false ∧ lessB b a = false ∧ sameB a b = false := by
  have ea : sameB a a = someN a := by simp [sameB]
  have eb : sameB b b = someN b := by simp [sameB]
  rw [ea, eb]
  unfold lessB sameB
  cases someN a <;> cases someN b
  · exact .inr ⟨.inl rfl, rfl, rfl, rfl⟩
  · exact .inr ⟨.inl rfl, rfl, rfl, rfl⟩
  · exact .inr ⟨.inr ⟨rfl, rfl⟩, rfl, rfl, rfl⟩
  · refine .inl ⟨rfl, rfl, ?_⟩
    simp only [Bool.true_and]
    rcases Int.lt_trichotomy (rankN a) (rankN b) with h | h | h
    · refine .inl ⟨decide_eq_true h, decide_eq_false (by omega), decide_eq_false (by omega), ?_⟩
      cases someN c
      · exact .inr rfl
      · simp only [Bool.true_and]
        by_cases hc : rankN b < rankN c
        · exact .inl ⟨decide_eq_true hc, decide_eq_true (by omega)⟩
        · exact .inr (decide_eq_false hc)
    · exact .inr ⟨decide_eq_false (by omega), .inr ⟨decide_eq_false (by omega), decide_eq_true h⟩⟩
    · exact .inr ⟨decide_eq_false (by omega), .inl ⟨decide_eq_true h, decide_eq_false (by omega)⟩⟩
end Go.Proofs.Ytnkopcmkanibhaa
