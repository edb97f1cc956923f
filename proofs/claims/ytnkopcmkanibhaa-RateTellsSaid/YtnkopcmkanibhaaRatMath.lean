/-
  rate: numbers with bits, as they stand to each other. Mathematics for other texts; no statement of its own.
-/
import Derived.Test.YtnkopcmkanibhaaRows
import Derived.Laws.FloatArith
set_option linter.unusedVariables false
set_option linter.unusedSimpArgs false
namespace Go.Proofs.Ytnkopcmkanibhaa
open Go

/-- What a number of this rank comes to, in units of the least one. -/
def vN (r : Nat) : Nat := if r < 4503599627370496 then r else (4503599627370496 + r % 4503599627370496) * 2 ^ (r / 4503599627370496 - 1)
theorem vN_eq (r : Nat) (h : 4503599627370496 ≤ r) (q s : Nat) (e : r = q * 4503599627370496 + s) (hs : s < 4503599627370496) : vN r = (4503599627370496 + s) * 2 ^ (q - 1) := by
  have e1 : r / 4503599627370496 = q := by omega
  have e2 : r % 4503599627370496 = s := by omega
  rw [vN, if_neg (by omega), e1, e2]
theorem vN_succ (r : Nat) : vN r < vN (r + 1) := by
  by_cases h1 : r + 1 < 4503599627370496
  · rw [vN, vN, if_pos (by omega), if_pos h1]; omega
  · by_cases h2 : r < 4503599627370496
    · have : r + 1 = 4503599627370496 := by omega
      rw [this, vN, if_pos h2]
      have : vN 4503599627370496 = 4503599627370496 := by decide +kernel
      omega
    · obtain ⟨q, hq⟩ : ∃ q, r / 4503599627370496 = q := ⟨_, rfl⟩
      obtain ⟨s, hs⟩ : ∃ s, r % 4503599627370496 = s := ⟨_, rfl⟩
      have e : r = q * 4503599627370496 + s := by omega
      have hsl : s < 4503599627370496 := by omega
      rw [vN_eq r (by omega) q s e hsl]
      have hp : 0 < 2 ^ (q - 1) := Nat.two_pow_pos _
      by_cases h3 : s + 1 < 4503599627370496
      · rw [vN_eq (r + 1) (by omega) q (s + 1) (by omega) h3]
        exact Nat.mul_lt_mul_of_pos_right (by omega) hp
      · rw [vN_eq (r + 1) (by omega) (q + 1) 0 (by omega) (by omega)]
        have hq1 : q + 1 - 1 = (q - 1) + 1 := by omega
        rw [hq1, Nat.pow_succ]
        obtain ⟨P, hP⟩ : ∃ P, 2 ^ (q - 1) = P := ⟨_, rfl⟩
        rw [hP] at hp ⊢
        have : s = 4503599627370495 := by omega
        subst this
        omega
theorem vN_lt {r s : Nat} (h : r < s) : vN r < vN s := by
  induction s with
  | zero => omega
  | succ s ih =>
    by_cases h1 : r < s
    · exact Nat.lt_trans (ih h1) (vN_succ s)
    · have : r = s := by omega
      subst this
      exact vN_succ r
theorem vN_lt_iff (r s : Nat) : vN r < vN s ↔ r < s := by
  constructor
  · intro h
    rcases Nat.lt_trichotomy r s with h1 | h1 | h1
    · exact h1
    · subst h1; exact absurd h (Nat.lt_irrefl _)
    · exact absurd (Nat.lt_trans h (vN_lt h1)) (Nat.lt_irrefl _)
  · exact vN_lt
theorem vN_eq_iff (r s : Nat) : vN r = vN s ↔ r = s := by
  have h1 := vN_lt_iff r s
  have h2 := vN_lt_iff s r
  constructor <;> intro h <;> omega
theorem vN_zero (r : Nat) : vN r = 0 ↔ r = 0 := by
  have : vN 0 = 0 := by decide +kernel
  rw [← this, vN_eq_iff, this]

/-- A number's sign put to it. -/
def sv (s : Bool) (v : Nat) : Int := if s then -(v : Int) else v
theorem comp_eq {a b c d : Int} (h1 : a < b ↔ c < d) (h2 : a = b ↔ c = d) : compare a b = compare c d := by
  show compareOfLessAndEq a b = compareOfLessAndEq c d
  unfold compareOfLessAndEq
  by_cases h : a < b
  · rw [if_pos h, if_pos (h1.mp h)]
  · rw [if_neg h, if_neg (fun x => h (h1.mpr x))]
    by_cases h' : a = b
    · rw [if_pos h', if_pos (h2.mp h')]
    · rw [if_neg h', if_neg (fun x => h' (h2.mpr x))]
theorem comp_sv (s t : Bool) (r q : Nat) : compare (sv s (vN r)) (sv t (vN q)) = compare (sv s r) (sv t q) := by
  have a1 := vN_lt_iff r q
  have a2 := vN_lt_iff q r
  have a3 := vN_eq_iff r q
  have a4 := vN_zero r
  have a5 := vN_zero q
  have key : ((sv s (vN r)) < (sv t (vN q)) ↔ (sv s r) < (sv t q)) ∧ ((sv s (vN r)) = (sv t (vN q)) ↔ (sv s r) = (sv t q)) := by
    generalize vN r = R at *
    generalize vN q = Q at *
    cases s <;> cases t <;> simp only [sv, if_true, Bool.false_eq_true, if_false] <;> omega
  exact comp_eq key.1 key.2
theorem signed_sv (s : Bool) (m u : Nat) : Ieee.signed s m u = sv s (m * 2 ^ u) := by
  unfold Ieee.signed sv
  rw [Nat.shiftLeft_eq]
theorem comp_scale (s t : Bool) (a b c : Nat) (hc : 0 < c) : compare (sv s a) (sv t b) = compare (sv s (a * c)) (sv t (b * c)) := by
  have h1 : a * c < b * c ↔ a < b := Nat.mul_lt_mul_right hc
  have h2 : b * c < a * c ↔ b < a := Nat.mul_lt_mul_right hc
  have h3 : a * c = 0 ↔ a = 0 := by
    constructor
    · intro h; rcases Nat.mul_eq_zero.mp h with h | h <;> omega
    · intro h; rw [h, Nat.zero_mul]
  have h4 : b * c = 0 ↔ b = 0 := by
    constructor
    · intro h; rcases Nat.mul_eq_zero.mp h with h | h <;> omega
    · intro h; rw [h, Nat.zero_mul]
  have key : ((sv s a) < (sv t b) ↔ (sv s (a * c)) < (sv t (b * c))) ∧ ((sv s a) = (sv t b) ↔ (sv s (a * c)) = (sv t (b * c))) := by
    generalize a * c = R at *
    generalize b * c = Q at *
    cases s <;> cases t <;> simp only [sv, if_true, Bool.false_eq_true, if_false] <;> omega
  exact comp_eq key.1 key.2

/-- What bits stand for: a number, an infinity, or none. -/
theorem read_num (x : Nat) (hx : x < 18446744073709551616) (h : x % 9223372036854775808 < 9218868437227405312) :
    ∃ m e, Ieee.double.read x = .number (decide (9223372036854775808 ≤ x)) m e ∧ -1074 ≤ e ∧ m * 2 ^ (e + 1074).toNat = vN (x % 9223372036854775808) := by
  have e1 : Ieee.double.signWeight = 9223372036854775808 := by decide +kernel
  have e2 : Ieee.double.binade = 4503599627370496 := by decide +kernel
  have e3 : Ieee.double.infRung = 9218868437227405312 := by decide +kernel
  have e4 : Ieee.double.leastPlace = -1074 := by decide +kernel
  have eneg : (x / 9223372036854775808 % 2 == 1) = decide (9223372036854775808 ≤ x) := by
    by_cases hl : 9223372036854775808 ≤ x
    · rw [decide_eq_true hl]; simp; omega
    · rw [decide_eq_false hl]; simp; omega
  unfold Ieee.Format.read
  simp only [e1, e2, e3, e4, eneg]
  obtain ⟨r, hr⟩ : ∃ r, x % 9223372036854775808 = r := ⟨_, rfl⟩
  rw [hr] at h ⊢
  by_cases hb : r < 4503599627370496
  · rw [if_pos hb]
    exact ⟨_, _, rfl, by omega, by rw [vN, if_pos hb]; simp⟩
  · rw [if_neg hb, if_pos h]
    refine ⟨_, _, rfl, by omega, ?_⟩
    rw [vN, if_neg hb]
    congr 2
    omega
theorem read_inf (x : Nat) (hx : x < 18446744073709551616) (h : x % 9223372036854775808 = 9218868437227405312) :
    Ieee.double.read x = .infinity (decide (9223372036854775808 ≤ x)) := by
  have e1 : Ieee.double.signWeight = 9223372036854775808 := by decide +kernel
  have e2 : Ieee.double.binade = 4503599627370496 := by decide +kernel
  have e3 : Ieee.double.infRung = 9218868437227405312 := by decide +kernel
  have e4 : Ieee.double.leastPlace = -1074 := by decide +kernel
  have eneg : (x / 9223372036854775808 % 2 == 1) = decide (9223372036854775808 ≤ x) := by
    by_cases hl : 9223372036854775808 ≤ x
    · rw [decide_eq_true hl]; simp; omega
    · rw [decide_eq_false hl]; simp; omega
  unfold Ieee.Format.read
  simp only [e1, e2, e3, e4, eneg, h]
  rfl
theorem read_nan (x : Nat) (hx : x < 18446744073709551616) (h : 9218868437227405312 < x % 9223372036854775808) :
    ∃ s f, Ieee.double.read x = .nan s f := by
  have e1 : Ieee.double.signWeight = 9223372036854775808 := by decide +kernel
  have e2 : Ieee.double.binade = 4503599627370496 := by decide +kernel
  have e3 : Ieee.double.infRung = 9218868437227405312 := by decide +kernel
  unfold Ieee.Format.read
  simp only [e1, e2, e3]
  rw [if_neg (by omega), if_neg (by omega), if_neg (by omega)]
  exact ⟨_, _, rfl⟩

/-- Are these the bits of a number, or of one that is infinite? -/
def someN (x : Nat) : Bool := decide (x % 9223372036854775808 ≤ 9218868437227405312)
/-- A number for some bits, that rises as the numbers do. -/
def rankN (x : Nat) : Int := sv (decide (9223372036854775808 ≤ x)) (x % 9223372036854775808)
theorem order_is (a b : Nat) (ha : a < 18446744073709551616) (hb : b < 18446744073709551616) :
    Ieee.double.order a b = if someN a && someN b then some (compare (rankN a) (rankN b)) else none := by
  unfold Ieee.Format.order someN rankN
  obtain ⟨s, hs⟩ : ∃ s, decide (9223372036854775808 ≤ a) = s := ⟨_, rfl⟩
  obtain ⟨t, ht⟩ : ∃ t, decide (9223372036854775808 ≤ b) = t := ⟨_, rfl⟩
  rcases Nat.lt_trichotomy (a % 9223372036854775808) 9218868437227405312 with h1 | h1 | h1
  · obtain ⟨m, e, hr, he, hv⟩ := read_num a ha h1
    rw [hs] at hr
    rcases Nat.lt_trichotomy (b % 9223372036854775808) 9218868437227405312 with h2 | h2 | h2
    · obtain ⟨n, f, hq, hf, hw⟩ := read_num b hb h2
      rw [ht] at hq
      rw [hr, hq, hs, ht, decide_eq_true (by omega), decide_eq_true (by omega)]
      simp only [Bool.and_self, if_true]
      show some _ = some _
      congr 1
      rw [← comp_sv s t, ← hv, ← hw]
      simp only [signed_sv]
      have hc : 0 < 2 ^ ((min e f) + 1074).toNat := Nat.two_pow_pos _
      rw [comp_scale s t _ _ _ hc, Nat.mul_assoc, ← Nat.pow_add, Nat.mul_assoc, ← Nat.pow_add]
      have i1 : (e - min e f).toNat + (min e f + 1074).toNat = (e + 1074).toNat := by omega
      have i2 : (f - min e f).toNat + (min e f + 1074).toNat = (f + 1074).toNat := by omega
      rw [i1, i2]
    · rw [hr, read_inf b hb h2, hs, ht, decide_eq_true (by omega), decide_eq_true (by omega), h2]
      simp only [Bool.and_self, if_true]
      generalize a % 9223372036854775808 = r at h1
      clear hr hv hs ht
      have hlt : compare (sv s r) (sv t 9218868437227405312) = if t then .gt else .lt := by
        show compareOfLessAndEq _ _ = _
        unfold compareOfLessAndEq
        cases s <;> cases t <;> simp only [sv, if_true, Bool.false_eq_true, if_false]
        · rw [if_pos (by omega)]
        · rw [if_neg (by omega), if_neg (by omega)]
        · rw [if_pos (by omega)]
        · rw [if_neg (by omega), if_neg (by omega)]
      rw [hlt]
      rfl
    · obtain ⟨s', f', hq⟩ := read_nan b hb h2
      rw [hr, hq, decide_eq_false (by omega : ¬ b % 9223372036854775808 ≤ 9218868437227405312)]
      simp only [Bool.and_false, Bool.false_eq_true, if_false]
      rfl
  · rw [read_inf a ha h1, hs, h1]
    rcases Nat.lt_trichotomy (b % 9223372036854775808) 9218868437227405312 with h2 | h2 | h2
    · obtain ⟨n, f, hq, hf, hw⟩ := read_num b hb h2
      rw [ht] at hq
      rw [hq, ht, decide_eq_true (by omega), decide_eq_true (by omega)]
      simp only [Bool.and_self, if_true]
      generalize b % 9223372036854775808 = r at h2
      clear hq hw hs ht
      have hlt : compare (sv s 9218868437227405312) (sv t r) = if s then .lt else .gt := by
        show compareOfLessAndEq _ _ = _
        unfold compareOfLessAndEq
        cases s <;> cases t <;> simp only [sv, if_true, Bool.false_eq_true, if_false]
        · rw [if_neg (by omega), if_neg (by omega)]
        · rw [if_neg (by omega), if_neg (by omega)]
        · rw [if_pos (by omega)]
        · rw [if_pos (by omega)]
      rw [hlt]
      rfl
    · rw [read_inf b hb h2, ht, h2, decide_eq_true (by omega)]
      simp only [Bool.and_self, if_true]
      cases s <;> cases t <;> decide +kernel
    · obtain ⟨s', f', hq⟩ := read_nan b hb h2
      rw [hq, decide_eq_false (by omega : ¬ b % 9223372036854775808 ≤ 9218868437227405312)]
      simp only [Bool.and_false, Bool.false_eq_true, if_false]
      rfl
  · obtain ⟨s', f', hq⟩ := read_nan a ha h1
    rw [hq, decide_eq_false (by omega : ¬ a % 9223372036854775808 ≤ 9218868437227405312)]
    simp only [Bool.false_and, Bool.false_eq_true, if_false]
    rfl

def lessB (a b : Nat) : Bool := someN a && someN b && decide (rankN a < rankN b)
def sameB (a b : Nat) : Bool := someN a && someN b && decide (rankN a = rankN b)
theorem order_lt (a b : Nat) (ha : a < 18446744073709551616) (hb : b < 18446744073709551616) : (Ieee.double.order a b == some .lt) = lessB a b := by
  rw [order_is a b ha hb, lessB]
  by_cases h : (someN a && someN b) = true
  · rw [if_pos h, h, Bool.true_and]
    show (some (compareOfLessAndEq _ _) == _) = _
    unfold compareOfLessAndEq
    by_cases h1 : rankN a < rankN b
    · rw [if_pos h1, decide_eq_true h1]; rfl
    · rw [if_neg h1, decide_eq_false h1]
      by_cases h2 : rankN a = rankN b
      · rw [if_pos h2]; rfl
      · rw [if_neg h2]; rfl
  · rw [if_neg h]
    have h' : (someN a && someN b) = false := by simpa using h
    rw [h']; rfl
theorem order_eq (a b : Nat) (ha : a < 18446744073709551616) (hb : b < 18446744073709551616) : (Ieee.double.order a b == some .eq) = sameB a b := by
  rw [order_is a b ha hb, sameB]
  by_cases h : (someN a && someN b) = true
  · rw [if_pos h, h, Bool.true_and]
    show (some (compareOfLessAndEq _ _) == _) = _
    unfold compareOfLessAndEq
    by_cases h1 : rankN a < rankN b
    · rw [if_pos h1, decide_eq_false (by omega)]; rfl
    · rw [if_neg h1]
      by_cases h2 : rankN a = rankN b
      · rw [if_pos h2, decide_eq_true h2]; rfl
      · rw [if_neg h2, decide_eq_false h2]; rfl
  · rw [if_neg h]
    have h' : (someN a && someN b) = false := by simpa using h
    rw [h']; rfl
theorem order_gt (a b : Nat) (ha : a < 18446744073709551616) (hb : b < 18446744073709551616) : (Ieee.double.order a b == some .gt) = lessB b a := by
  rw [order_is a b ha hb, lessB, Bool.and_comm (someN b)]
  by_cases h : (someN a && someN b) = true
  · rw [if_pos h, h, Bool.true_and]
    show (some (compareOfLessAndEq _ _) == _) = _
    unfold compareOfLessAndEq
    by_cases h1 : rankN a < rankN b
    · rw [if_pos h1, decide_eq_false (by omega)]; rfl
    · rw [if_neg h1]
      by_cases h2 : rankN a = rankN b
      · rw [if_pos h2, decide_eq_false (by omega)]; rfl
      · rw [if_neg h2, decide_eq_true (by omega)]; rfl
  · rw [if_neg h]
    have h' : (someN a && someN b) = false := by simpa using h
    rw [h']; rfl

end Go.Proofs.Ytnkopcmkanibhaa
