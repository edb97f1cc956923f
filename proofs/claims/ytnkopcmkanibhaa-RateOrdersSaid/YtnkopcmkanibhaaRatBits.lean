/-
  rate: the bits of whole numbers, and the whole number of bits. Mathematics for other texts; no statement of its own.
-/
import Derived.Test.YtnkopcmkanibhaaRatMath
set_option linter.unusedVariables false
set_option linter.unusedSimpArgs false
namespace Go.Proofs.Ytnkopcmkanibhaa
open Go

/-- The least number's units in 1. -/
def unitN : Nat := (2 ^ 179) ^ 6
theorem unitN_pos : 0 < unitN := Nat.pow_pos (Nat.two_pow_pos 179)
theorem pow_six (a b c : Nat) (h : a + b = c * 6) : 2 ^ a * 2 ^ b = (2 ^ c) ^ 6 := by
  rw [← Nat.pow_add, h, Nat.pow_mul]
theorem unitN_mul (a b : Nat) (h : a + b = 1074) : 2 ^ a * 2 ^ b = unitN := pow_six a b 179 h

/-- The bits of a whole number from 1 to 2^53, of n times 2^j from 2^52 on. -/
def bitsN (n : Nat) : Nat := if n = 9007199254740992 then 4845873199050653696 else (1022 + n.log2) * 4503599627370496 + n * 2 ^ (52 - n.log2)
theorem log_fit (n : Nat) (h1 : 1 ≤ n) (h2 : n < 9007199254740992) : n.log2 ≤ 52 ∧ 4503599627370496 ≤ n * 2 ^ (52 - n.log2) ∧ n * 2 ^ (52 - n.log2) < 9007199254740992 := by
  have hl : n.log2 < 53 := (Nat.log2_lt (by omega)).mpr h2
  have ha : 2 ^ n.log2 ≤ n := Nat.log2_self_le (by omega)
  have hb : n < 2 ^ (n.log2 + 1) := (Nat.log2_lt (by omega)).mp (Nat.lt_succ_self _)
  have e : 2 ^ n.log2 * 2 ^ (52 - n.log2) = 4503599627370496 := by
    rw [← Nat.pow_add, show n.log2 + (52 - n.log2) = 52 by omega]
  have hp : 0 < 2 ^ (52 - n.log2) := Nat.two_pow_pos _
  have e2 : 2 ^ (n.log2 + 1) * 2 ^ (52 - n.log2) = 9007199254740992 := by
    rw [← Nat.pow_add, show n.log2 + 1 + (52 - n.log2) = 53 by omega]
  refine ⟨by omega, ?_, ?_⟩
  · rw [← e]; exact Nat.mul_le_mul_right _ ha
  · rw [← e2]; exact Nat.mul_lt_mul_of_pos_right hb hp
/-- So is it found by doubling. -/
theorem bits_loop (n j : Nat) (h1 : 1 ≤ n) (h2 : n < 9007199254740992) (ha : 4503599627370496 ≤ n * 2 ^ j) (hb : n * 2 ^ j < 9007199254740992) : j ≤ 52 ∧ bitsN n = (1074 - j) * 4503599627370496 + n * 2 ^ j := by
  obtain ⟨l1, l2, l3⟩ := log_fit n h1 h2
  have hj : j = 52 - n.log2 := by
    rcases Nat.lt_trichotomy j (52 - n.log2) with h | h | h
    · exfalso
      have e : 52 - n.log2 = (52 - n.log2 - j - 1) + j + 1 := by omega
      rw [e, Nat.pow_succ, Nat.pow_add] at l3
      have hp : 1 ≤ 2 ^ (52 - n.log2 - j - 1) := Nat.two_pow_pos _
      have h5 : n * 2 ^ j * 2 ≤ n * (2 ^ (52 - n.log2 - j - 1) * 2 ^ j * 2) := by
        have h6 : 1 * (n * 2 ^ j * 2) ≤ 2 ^ (52 - n.log2 - j - 1) * (n * 2 ^ j * 2) := Nat.mul_le_mul_right _ hp
        have h7 : n * (2 ^ (52 - n.log2 - j - 1) * 2 ^ j * 2) = 2 ^ (52 - n.log2 - j - 1) * (n * 2 ^ j * 2) := by
          simp [Nat.mul_assoc, Nat.mul_left_comm]
        omega
      omega
    · exact h
    · exfalso
      have e : j = (j - (52 - n.log2) - 1) + (52 - n.log2) + 1 := by omega
      rw [e, Nat.pow_succ, Nat.pow_add] at hb
      have hp : 1 ≤ 2 ^ (j - (52 - n.log2) - 1) := Nat.two_pow_pos _
      have h5 : n * 2 ^ (52 - n.log2) * 2 ≤ n * (2 ^ (j - (52 - n.log2) - 1) * 2 ^ (52 - n.log2) * 2) := by
        have h6 : 1 * (n * 2 ^ (52 - n.log2) * 2) ≤ 2 ^ (j - (52 - n.log2) - 1) * (n * 2 ^ (52 - n.log2) * 2) := Nat.mul_le_mul_right _ hp
        have h7 : n * (2 ^ (j - (52 - n.log2) - 1) * 2 ^ (52 - n.log2) * 2) = 2 ^ (j - (52 - n.log2) - 1) * (n * 2 ^ (52 - n.log2) * 2) := by
          simp [Nat.mul_assoc, Nat.mul_left_comm]
        omega
      omega
  refine ⟨by omega, ?_⟩
  rw [bitsN, if_neg (by omega), hj]
  congr 2
  omega
theorem bitsN_lt (n : Nat) (h1 : 1 ≤ n) (h2 : n ≤ 9007199254740992) : 4503599627370496 ≤ bitsN n ∧ bitsN n < 9218868437227405312 := by
  by_cases h : n = 9007199254740992
  · rw [bitsN, if_pos h]; omega
  · obtain ⟨l1, l2, l3⟩ := log_fit n h1 (by omega)
    rw [bitsN, if_neg h]
    omega
theorem vN_bits (n : Nat) (h1 : 1 ≤ n) (h2 : n ≤ 9007199254740992) : vN (bitsN n) = n * unitN := by
  by_cases h : n = 9007199254740992
  · subst h; decide +kernel
  · obtain ⟨l1, l2, l3⟩ := log_fit n h1 (by omega)
    rw [bitsN, if_neg h]
    obtain ⟨s, hs⟩ : ∃ s, n * 2 ^ (52 - n.log2) = 4503599627370496 + s := ⟨n * 2 ^ (52 - n.log2) - 4503599627370496, by omega⟩
    rw [vN_eq _ (by omega) (1023 + n.log2) s (by rw [hs]; omega) (by omega), ← hs, Nat.mul_assoc, unitN_mul _ _ (by omega)]
theorem bitsN_lt_iff (n m : Nat) (hn : 1 ≤ n ∧ n ≤ 9007199254740992) (hm : 1 ≤ m ∧ m ≤ 9007199254740992) : bitsN n < bitsN m ↔ n < m := by
  rw [← vN_lt_iff, vN_bits n hn.1 hn.2, vN_bits m hm.1 hm.2]
  exact Nat.mul_lt_mul_right unitN_pos

/-- What the nearest number to a whole one is. -/
theorem near_nat (n : Nat) (s : Bool) (h1 : 1 ≤ n) (h2 : n ≤ 9007199254740992) : Ieee.double.nearest s n 0 = (if s then 9223372036854775808 else 0) + bitsN n := by
  by_cases h : n = 9007199254740992
  · subst h; cases s <;> decide +kernel
  · obtain ⟨l1, l2, l3⟩ := log_fit n h1 (by omega)
    have e3 : Ieee.double.infRung = 9218868437227405312 := by decide +kernel
    have e4 : Ieee.double.leastPlace = -1074 := by decide +kernel
    have e5 : Ieee.double.fractionBits = 52 := rfl
    have e2 : Ieee.double.binade = 4503599627370496 := by decide +kernel
    have e1 : Ieee.double.signWeight = 9223372036854775808 := by decide +kernel
    have ecut : ∀ m, Ieee.Toward.even.cut s m 0 = m := by
      intro m
      unfold Ieee.Toward.cut
      simp [Nat.mod_one]
    unfold Ieee.Format.nearest
    simp only [e3, e4, e5, e2]
    rw [if_neg (by omega)]
    have em : max (0 + (n.log2 : Int) - ((52 : Nat) : Int)) (-1074) = (n.log2 : Int) - 52 := by omega
    rw [em]
    have i1 : ((0 : Int) - ((n.log2 : Int) - 52)).toNat = 52 - n.log2 := by omega
    have i2 : ((n.log2 : Int) - 52 - 0).toNat = 0 := by omega
    have i3 : ((n.log2 : Int) - 52 - -1074).toNat = 1022 + n.log2 := by omega
    rw [i1, i2, i3, ecut, Nat.shiftLeft_eq, Nat.min_eq_left (by omega)]
    rw [bitsN, if_neg h]
    unfold Ieee.Format.word
    cases s
    · simp
    · simp only [if_true, e1]
/-- The bits of a whole number; of one beyond 2^53, or below, those of 0. -/
def bitsW (n : Int) : Nat :=
  if n > 9007199254740992 ∨ n < -9007199254740992 ∨ n = 0 then 0 else (if n < 0 then 9223372036854775808 else 0) + bitsN n.natAbs
theorem near_int (n : Int) (h1 : -9007199254740992 ≤ n) (h2 : n ≤ 9007199254740992) : FloatKind.f64.nearest n = bitsW n := by
  show Ieee.double.nearest (decide (n < 0)) n.natAbs 0 = _
  by_cases h0 : n = 0
  · subst h0; decide +kernel
  · have hc : ¬ (n > 9007199254740992 ∨ n < -9007199254740992 ∨ n = 0) := by omega
    rw [near_nat _ _ (by omega) (by omega), bitsW, if_neg hc]
    by_cases hn : n < 0
    · rw [decide_eq_true hn, if_pos rfl, if_pos hn]
    · rw [decide_eq_false hn, if_neg hn]
      simp
theorem bitsW_lt (n : Int) : bitsW n < 18446744073709551616 := by
  unfold bitsW
  split
  · omega
  · rename_i h
    have := bitsN_lt n.natAbs (by omega) (by omega)
    split <;> omega
theorem bitsW_some (n : Int) : someN (bitsW n) = true := by
  unfold someN bitsW
  split
  · rfl
  · rename_i h
    have := bitsN_lt n.natAbs (by omega) (by omega)
    split
    · rw [decide_eq_true_eq]; omega
    · rw [decide_eq_true_eq]; omega
theorem rankW (n : Int) (h1 : -9007199254740992 ≤ n) (h2 : n ≤ 9007199254740992) : rankN (bitsW n) = if n = 0 then 0 else if n < 0 then -(bitsN n.natAbs : Int) else bitsN n.natAbs := by
  unfold bitsW rankN
  by_cases h0 : n = 0
  · subst h0; rfl
  · have hb := bitsN_lt n.natAbs (by omega) (by omega)
    rw [if_neg (by omega), if_neg h0]
    by_cases hn : n < 0
    · rw [if_pos hn, if_pos hn, decide_eq_true (by omega)]
      unfold sv
      rw [if_pos rfl]
      omega
    · rw [if_neg hn, if_neg hn, decide_eq_false (by omega)]
      unfold sv
      simp only [Bool.false_eq_true, if_false]
      omega
theorem rankW_lt (n m : Int) (h1 : -9007199254740992 ≤ n) (h2 : n ≤ 9007199254740992) (h3 : -9007199254740992 ≤ m) (h4 : m ≤ 9007199254740992) : rankN (bitsW n) < rankN (bitsW m) ↔ n < m := by
  rw [rankW n h1 h2, rankW m h3 h4]
  by_cases hn : n = 0
  · by_cases hm : m = 0
    · rw [if_pos hn, if_pos hm]; omega
    · have hb := bitsN_lt m.natAbs (by omega) (by omega)
      rw [if_pos hn, if_neg hm]
      split <;> omega
  · have ha := bitsN_lt n.natAbs (by omega) (by omega)
    by_cases hm : m = 0
    · rw [if_neg hn, if_pos hm]
      split <;> omega
    · have hb := bitsN_lt m.natAbs (by omega) (by omega)
      have i1 := bitsN_lt_iff n.natAbs m.natAbs (by omega) (by omega)
      have i2 := bitsN_lt_iff m.natAbs n.natAbs (by omega) (by omega)
      rw [if_neg hn, if_neg hm]
      split <;> split <;> omega
theorem rankW_eq (n m : Int) (h1 : -9007199254740992 ≤ n) (h2 : n ≤ 9007199254740992) (h3 : -9007199254740992 ≤ m) (h4 : m ≤ 9007199254740992) : rankN (bitsW n) = rankN (bitsW m) ↔ n = m := by
  have i1 := rankW_lt n m h1 h2 h3 h4
  have i2 := rankW_lt m n h3 h4 h1 h2
  omega

/-- The greatest whole number that isn't above the number with these bits. -/
def rateN (x : Nat) : Nat := vN x / unitN
theorem rate_iff (n x : Nat) (h1 : 1 ≤ n) (h2 : n ≤ 9007199254740992) : bitsN n ≤ x ↔ n ≤ rateN x := by
  have h : vN (bitsN n) ≤ vN x ↔ bitsN n ≤ x := by
    have := vN_lt_iff x (bitsN n)
    omega
  rw [← h, vN_bits n h1 h2, rateN, Nat.le_div_iff_mul_le unitN_pos]
theorem bits_1 : bitsN 1 = 4607182418800017408 := by decide +kernel
theorem bits_1024 : bitsN 1024 = 4652218415073722368 := by decide +kernel
theorem bits_1025 : bitsN 1025 = 4652222813120233472 := by decide +kernel
/-- May it be a rate? -/
def rateOk (x : Nat) : Bool := decide (4607182418800017408 ≤ x) && decide (x ≤ 4652218415073722368)
theorem rate_bd (x : Nat) (h : rateOk x = true) : 1 ≤ rateN x ∧ rateN x ≤ 1024 := by
  simp [rateOk] at h
  have a := rate_iff 1 x (by omega) (by omega)
  have b := rate_iff 1025 x (by omega) (by omega)
  rw [bits_1] at a
  rw [bits_1025] at b
  omega
theorem rate_rank (x : Nat) (hx : x < 18446744073709551616) : rateOk x = (someN x && (decide (4607182418800017408 ≤ rankN x) && decide (rankN x ≤ 4652218415073722368))) := by
  unfold rateOk someN rankN sv
  by_cases h : 9223372036854775808 ≤ x
  · rw [decide_eq_true h, if_pos rfl, decide_eq_false (by omega : ¬ (4607182418800017408 : Int) ≤ _), decide_eq_false (by omega : ¬ x ≤ 4652218415073722368)]
    simp
  · rw [decide_eq_false h]
    simp only [Bool.false_eq_true, if_false]
    have e : x % 9223372036854775808 = x := by omega
    rw [e]
    by_cases h1 : 4607182418800017408 ≤ x
    · by_cases h2 : x ≤ 4652218415073722368
      · rw [decide_eq_true h1, decide_eq_true h2, decide_eq_true (by omega), decide_eq_true (by omega), decide_eq_true (by omega)]
        rfl
      · rw [decide_eq_false h2, decide_eq_false (by omega : ¬ (x : Int) ≤ 4652218415073722368)]
        simp
    · rw [decide_eq_false h1, decide_eq_false (by omega : ¬ (4607182418800017408 : Int) ≤ x)]
      simp
theorem cut_zero (s : Bool) (m d : Nat) (h : d ≤ m.log2 + 2) : Ieee.Toward.zero.cut s m d = m / 2 ^ d := by
  unfold Ieee.Toward.cut
  simp only [Nat.min_eq_left h, Nat.shiftLeft_eq, Nat.one_mul]
  simp
/-- The conversion of such a number to a whole one. -/
theorem toInt_rate (x : Nat) (h : rateOk x = true) : floatToIntVal .f64 x .i64 = some (rateN x : Int) := by
  have hbd := rate_bd x h
  simp [rateOk] at h
  have e1 : Ieee.double.signWeight = 9223372036854775808 := by decide +kernel
  have e2 : Ieee.double.binade = 4503599627370496 := by decide +kernel
  have e3 : Ieee.double.infRung = 9218868437227405312 := by decide +kernel
  have e4 : Ieee.double.leastPlace = -1074 := by decide +kernel
  obtain ⟨q, hq⟩ : ∃ q, x / 4503599627370496 = q := ⟨_, rfl⟩
  obtain ⟨s, hs⟩ : ∃ s, x % 4503599627370496 = s := ⟨_, rfl⟩
  have hq1 : 1023 ≤ q ∧ q ≤ 1033 := by omega
  have hread : Ieee.double.read x = .number false (4503599627370496 + s) (-1074 + ((q - 1 : Nat) : Int)) := by
    unfold Ieee.Format.read
    simp only [e1, e2, e3, e4]
    have a1 : (x / 9223372036854775808 % 2 == 1) = false := by
      have : x / 9223372036854775808 = 0 := by omega
      rw [this]; rfl
    have a2 : x % 9223372036854775808 = x := by omega
    rw [a1, a2, if_neg (by omega), if_pos (by omega), hq, hs]
  have hlog : (4503599627370496 + s).log2 = 52 := by
    have l1 : 52 ≤ (4503599627370496 + s).log2 := (Nat.le_log2 (by omega)).mpr (by show 4503599627370496 ≤ _; omega)
    have l2 : (4503599627370496 + s).log2 < 53 := (Nat.log2_lt (by omega)).mpr (by show _ < 9007199254740992; omega)
    omega
  have hval : (4503599627370496 + s) / 2 ^ (1075 - q) = rateN x := by
    rw [rateN, vN_eq x (by omega) q s (by omega) (by omega)]
    rw [← unitN_mul (1075 - q) (q - 1) (by omega), Nat.mul_div_mul_right _ _ (Nat.two_pow_pos _)]
  have hint : (FloatKind.f64.decode x).toInt .zero = some (rateN x : Int) := by
    show (Ieee.double.read x).toInt .zero = _
    rw [hread]
    unfold Ieee.Datum.toInt Ieee.Datum.integral
    simp only
    have i1 : (-1074 + ((q - 1 : Nat) : Int)).toNat = 0 := by omega
    have i2 : (-(-1074 + ((q - 1 : Nat) : Int))).toNat = 1075 - q := by omega
    rw [i1, i2, Nat.shiftLeft_zero, cut_zero _ _ _ (by omega), hval]
    simp [Ieee.signed]
  unfold floatToIntVal
  rw [hint]
  have m1 : IntKind.i64.min = -9223372036854775808 := by decide +kernel
  have m2 : IntKind.i64.max = 9223372036854775807 := by decide +kernel
  simp only [m1, m2]
  rw [if_pos (by omega)]

end Go.Proofs.Ytnkopcmkanibhaa
