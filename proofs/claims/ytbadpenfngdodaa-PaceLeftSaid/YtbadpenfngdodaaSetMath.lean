/-
  Sets of bytes as four words of 64 bits: plain mathematics, no program. A set is a test p on numbers; 'word p i' is its i-th word; what or, not, one byte more, a look-up and a count of ones do to words is said of p.
-/
import Derived.Laws.Bits64
import Derived.Laws.Bits64b
import Derived.IntWalk
set_option linter.unusedVariables false
set_option linter.unusedSimpArgs false
namespace Go.Proofs.Ytbadpenfngdodaa
open Go

/-- The number whose bit j is q j, for j below n. -/
def bitsN (q : Nat → Bool) : Nat → Nat
  | 0 => 0
  | n + 1 => (q 0).toNat + 2 * bitsN (fun j => q (j + 1)) n

theorem bitsN_lt : ∀ (n : Nat) (q : Nat → Bool), bitsN q n < 2 ^ n
  | 0, _ => by simp [bitsN]
  | n + 1, q => by
    have h := bitsN_lt n (fun j => q (j + 1))
    have : (q 0).toNat ≤ 1 := by cases q 0 <;> simp
    rw [bitsN, Nat.pow_succ]
    omega

theorem bitsN_test : ∀ (n : Nat) (q : Nat → Bool) (j : Nat), (bitsN q n).testBit j = (decide (j < n) && q j)
  | 0, q, j => by simp [bitsN]
  | n + 1, q, 0 => by
    rw [bitsN, Nat.testBit_zero]
    cases q 0 <;> simp <;> omega
  | n + 1, q, j + 1 => by
    have h := bitsN_test n (fun j => q (j + 1)) j
    rw [bitsN, Nat.testBit_add_one, show ((q 0).toNat + 2 * bitsN (fun j => q (j + 1)) n) / 2 = bitsN (fun j => q (j + 1)) n by cases q 0 <;> simp <;> omega, h]
    simp

theorem bitsN_congr (n : Nat) (q r : Nat → Bool) (h : ∀ j, j < n → q j = r j) : bitsN q n = bitsN r n := by
  apply Nat.eq_of_testBit_eq
  intro j
  rw [bitsN_test, bitsN_test]
  by_cases hj : j < n
  · simp [hj, h j hj]
  · simp [hj]

theorem bitsN_of (n x : Nat) (h : x < 2 ^ n) : bitsN x.testBit n = x := by
  apply Nat.eq_of_testBit_eq
  intro j
  rw [bitsN_test]
  by_cases hj : j < n
  · simp [hj]
  · have : x.testBit j = false := Nat.testBit_lt_two_pow (Nat.lt_of_lt_of_le h (Nat.pow_le_pow_right (by omega) (by omega)))
    simp [hj, this]

/-- The i-th word of the set p. -/
def wordN (p : Nat → Bool) (i : Nat) : Nat := bitsN (fun j => p (64 * i + j)) 64
def word (p : Nat → Bool) (i : Nat) : Int := (wordN p i : Int)

theorem wordN_lt (p : Nat → Bool) (i : Nat) : wordN p i < 18446744073709551616 := bitsN_lt 64 _
theorem word_nonneg (p : Nat → Bool) (i : Nat) : 0 ≤ word p i := by unfold word; omega
theorem word_lt (p : Nat → Bool) (i : Nat) : word p i ≤ 18446744073709551615 := by have := wordN_lt p i; unfold word; omega
theorem wordN_test (p : Nat → Bool) (i j : Nat) : (wordN p i).testBit j = (decide (j < 64) && p (64 * i + j)) := bitsN_test 64 _ j
theorem wordN_congr (p q : Nat → Bool) (i : Nat) (h : ∀ j, j < 64 → p (64 * i + j) = q (64 * i + j)) : wordN p i = wordN q i := bitsN_congr 64 _ _ h
theorem word_congr {p q : Nat → Bool} (h : ∀ x, x < 256 → p x = q x) {i : Nat} (hi : i < 4) : word p i = word q i := by
  unfold word
  rw [wordN_congr p q i fun j hj => h _ (by omega)]
theorem word_inj {p q : Nat → Bool} (h : ∀ i, i < 4 → word p i = word q i) (x : Nat) (hx : x < 256) : p x = q x := by
  have e := h (x / 64) (by omega)
  unfold word at e
  have e' : wordN p (x / 64) = wordN q (x / 64) := by omega
  have t := congrArg (fun n => n.testBit (x % 64)) e'
  simp only [wordN_test] at t
  have hm : x % 64 < 64 := by omega
  have hx' : 64 * (x / 64) + x % 64 = x := by omega
  simpa [hm, hx'] using t

theorem word_of (a : Int) (p : Nat → Bool) (i : Nat) (h : 0 ≤ a ∧ a ≤ 18446744073709551615) (hp : ∀ j, j < 64 → p (64 * i + j) = a.toNat.testBit j) : a = word p i := by
  unfold word wordN
  rw [bitsN_congr 64 _ _ hp, bitsN_of 64 a.toNat (by omega)]
  omega

/-- Any four words are a set's. -/
theorem words_of (a0 a1 a2 a3 : Int) (h0 : 0 ≤ a0 ∧ a0 ≤ 18446744073709551615) (h1 : 0 ≤ a1 ∧ a1 ≤ 18446744073709551615) (h2 : 0 ≤ a2 ∧ a2 ≤ 18446744073709551615) (h3 : 0 ≤ a3 ∧ a3 ≤ 18446744073709551615) :
    ∃ p : Nat → Bool, a0 = word p 0 ∧ a1 = word p 1 ∧ a2 = word p 2 ∧ a3 = word p 3 := by
  refine ⟨fun x => (if x < 64 then a0.toNat.testBit x else if x < 128 then a1.toNat.testBit (x - 64) else if x < 192 then a2.toNat.testBit (x - 128) else a3.toNat.testBit (x - 192)), word_of _ _ _ h0 ?_, word_of _ _ _ h1 ?_, word_of _ _ _ h2 ?_, word_of _ _ _ h3 ?_⟩
  · intro j hj
    have e2 : 64 * 0 + j = j := by omega
    simp only [e2, hj, if_true]
  · intro j hj
    have e1 : ¬ (64 * 1 + j < 64) := by omega
    have e2 : 64 * 1 + j < 128 := by omega
    have e4 : 64 * 1 + j - 64 = j := by omega
    simp only [e1, e2, if_true, if_false, e4]
  · intro j hj
    have e1 : ¬ (64 * 2 + j < 64) := by omega
    have e2 : ¬ (64 * 2 + j < 128) := by omega
    have e3 : 64 * 2 + j < 192 := by omega
    have e4 : 64 * 2 + j - 128 = j := by omega
    simp only [e1, e2, e3, if_true, if_false, e4]
  · intro j hj
    have e1 : ¬ (64 * 3 + j < 64) := by omega
    have e2 : ¬ (64 * 3 + j < 128) := by omega
    have e3 : ¬ (64 * 3 + j < 192) := by omega
    have e4 : 64 * 3 + j - 192 = j := by omega
    simp only [e1, e2, e3, if_false, e4]

/-- One byte more. -/
def add1 (p : Nat → Bool) (b : Nat) : Nat → Bool := fun x => p x || x == b
def orP (p q : Nat → Bool) : Nat → Bool := fun x => p x || q x
def notP (p : Nat → Bool) : Nat → Bool := fun x => !p x
def noneP : Nat → Bool := fun _ => false
def rangeP (lo hi : Int) : Nat → Bool := fun x => decide (lo ≤ x) && decide ((x : Int) ≤ hi)
def memP (l : List Int) : Nat → Bool := fun x => l.any fun y => y == (x : Int)

theorem word_none (i : Nat) : word noneP i = 0 := by
  have : wordN noneP i = 0 := by
    apply Nat.eq_of_testBit_eq; intro j; rw [wordN_test]; simp [noneP]
  simp [word, this]

theorem wrap_u64_of {n : Int} (h0 : 0 ≤ n) (h1 : n ≤ 18446744073709551615) : IntKind.u64.wrap n = n := by
  simp [IntKind.wrap, IntKind.bits, IntKind.signed]
  omega

theorem pow_bd (b : Int) (h0 : 0 ≤ b) : ((2 : Int) ^ (b % 64).toNat) = ((2 ^ (b % 64).toNat : Nat) : Int) ∧ 2 ^ (b % 64).toNat < 18446744073709551616 := by
  refine ⟨by simp, ?_⟩
  have : (b % 64).toNat ≤ 63 := by omega
  have h := Nat.pow_le_pow_right (n := 2) (by omega) this
  have e : (2 : Nat) ^ 63 = 9223372036854775808 := by decide
  omega

/-- The look-up: v >> (b % 64) & 1 == 1. -/
theorem has_bits (p : Nat → Bool) (b : Int) (h0 : 0 ≤ b) (h1 : b ≤ 255) :
    (bits .and .u64 (word p (b / 64).toNat / 2 ^ (b % 64).toNat) 1 == 1) = p b.toNat := by
  have e := (pow_bd b h0).1
  have lt : wordN p (b / 64).toNat / 2 ^ (b % 64).toNat < 18446744073709551616 := Nat.lt_of_le_of_lt (Nat.div_le_self _ _) (wordN_lt _ _)
  unfold word
  rw [e, ← Int.natCast_ediv, show (1 : Int) = ((1 : Nat) : Int) from rfl, bits_and_u64_nat _ _ lt (by omega)]
  have t := wordN_test p (b / 64).toNat (b % 64).toNat
  rw [Nat.testBit_eq_decide_div_mod_eq] at t
  have hm : (b % 64).toNat < 64 := by omega
  have hx : 64 * (b / 64).toNat + (b % 64).toNat = b.toNat := by omega
  rw [hx] at t
  simp only [hm, decide_true, Bool.true_and] at t
  rw [← t, Nat.and_one_is_mod]
  generalize wordN p (b / 64).toNat / 2 ^ (b % 64).toNat = m
  rw [Bool.eq_iff_iff, beq_iff_eq, decide_eq_true_iff]
  omega

/-- The look-up by the remainder: v >> (b % 64) % 2 == 1. -/
theorem has_mod (p : Nat → Bool) (b : Int) (h0 : 0 ≤ b) (h1 : b ≤ 255) :
    ((word p (b / 64).toNat / 2 ^ (b % 64).toNat).tmod 2 == 1) = p b.toNat := by
  have e := (pow_bd b h0).1
  unfold word
  rw [e, ← Int.natCast_ediv]
  have t := wordN_test p (b / 64).toNat (b % 64).toNat
  rw [Nat.testBit_eq_decide_div_mod_eq] at t
  have hm : (b % 64).toNat < 64 := by omega
  have hx : 64 * (b / 64).toNat + (b % 64).toNat = b.toNat := by omega
  rw [hx] at t
  simp only [hm, decide_true, Bool.true_and] at t
  rw [← t]
  generalize wordN p (b / 64).toNat / 2 ^ (b % 64).toNat = m
  rw [Int.tmod_eq_emod_of_nonneg (by omega), Bool.eq_iff_iff, beq_iff_eq, decide_eq_true_iff]
  omega

theorem add1_words (p : Nat → Bool) (b : Nat) (i : Nat) (hi : i ≠ b / 64) : word (add1 p b) i = word p i := by
  unfold word
  rw [wordN_congr (add1 p b) p i fun j hj => ?_]
  have : ¬ (64 * i + j = b) := by omega
  simp [add1, this]

theorem add1_wordN (p : Nat → Bool) (b : Nat) : wordN (add1 p b) (b / 64) = wordN p (b / 64) ||| 2 ^ (b % 64) := by
  apply Nat.eq_of_testBit_eq
  intro j
  rw [Nat.testBit_or, wordN_test, wordN_test, Nat.testBit_two_pow]
  by_cases hj : j < 64
  · have : (64 * (b / 64) + j == b) = decide (b % 64 = j) := by
      rw [Bool.eq_iff_iff]; simp; omega
    simp [hj, add1, this]
  · have : ¬ (b % 64 = j) := by omega
    simp [hj, this]

/-- One byte more, by or. -/
theorem add1_or (p : Nat → Bool) (b : Int) (h0 : 0 ≤ b) (h1 : b ≤ 255) :
    bits .or .u64 (word p (b / 64).toNat) (IntKind.u64.wrap (2 ^ (b % 64).toNat)) = word (add1 p b.toNat) (b / 64).toNat := by
  obtain ⟨e, lt⟩ := pow_bd b h0
  unfold word
  have wr : IntKind.u64.wrap ((2 ^ (b % 64).toNat : Nat) : Int) = ((2 ^ (b % 64).toNat : Nat) : Int) := by
    generalize 2 ^ (b % 64).toNat = m at lt ⊢
    exact wrap_u64_of (by omega) (by omega)
  rw [e, wr, bits_or_u64_nat _ _ (wordN_lt _ _) lt]
  have hd : (b / 64).toNat = b.toNat / 64 := by omega
  have hm : (b % 64).toNat = b.toNat % 64 := by omega
  rw [hd, hm, add1_wordN]

theorem bitsN_add : ∀ (n : Nat) (q : Nat → Bool) (b : Nat), b < n → q b = false → bitsN (fun j => q j || j == b) n = bitsN q n + 2 ^ b
  | n + 1, q, 0, _, hq => by
    have e : bitsN (fun j => (q (j + 1) || j + 1 == 0)) n = bitsN (fun j => q (j + 1)) n := bitsN_congr _ _ _ fun j _ => by simp
    simp only [bitsN, e, hq]
    simp
    omega
  | n + 1, q, b + 1, hb, hq => by
    have h := bitsN_add n (fun j => q (j + 1)) b (by omega) hq
    have e : bitsN (fun j => (q (j + 1) || j + 1 == b + 1)) n = bitsN (fun j => (q (j + 1) || j == b)) n := bitsN_congr _ _ _ fun j _ => by simp
    have e0 : (q 0 || 0 == b + 1) = q 0 := by simp
    simp only [bitsN, e, e0, h, Nat.pow_succ]
    omega

/-- One byte more, by a sum, where it wasn't there. -/
theorem add1_sum (p : Nat → Bool) (b : Int) (h0 : 0 ≤ b) (h1 : b ≤ 255) (hp : p b.toNat = false) :
    IntKind.u64.wrap (word p (b / 64).toNat + IntKind.u64.wrap (2 ^ (b % 64).toNat)) = word (add1 p b.toNat) (b / 64).toNat := by
  obtain ⟨e, lt⟩ := pow_bd b h0
  have key : wordN (add1 p b.toNat) (b / 64).toNat = wordN p (b / 64).toNat + 2 ^ (b % 64).toNat := by
    have hx : 64 * (b / 64).toNat + (b % 64).toNat = b.toNat := by omega
    have h := bitsN_add 64 (fun j => p (64 * (b / 64).toNat + j)) (b % 64).toNat (by omega) (by rw [hx]; exact hp)
    unfold wordN
    rw [← h]
    apply bitsN_congr
    intro j hj
    have : (64 * (b / 64).toNat + j == b.toNat) = (j == (b % 64).toNat) := by
      rw [Bool.eq_iff_iff]; simp; omega
    simp [add1, this]
  have bd := wordN_lt (add1 p b.toNat) (b / 64).toNat
  unfold word
  rw [e, key]
  generalize 2 ^ (b % 64).toNat = m at *
  rw [wrap_u64_of (n := (m : Int)) (by omega) (by omega), wrap_u64_of (by omega) (by omega)]
  omega

theorem or_words (p q : Nat → Bool) (i : Nat) : bits .or .u64 (word p i) (word q i) = word (orP p q) i := by
  unfold word
  have e : wordN p i ||| wordN q i = wordN (orP p q) i := by
    apply Nat.eq_of_testBit_eq
    intro j
    rw [Nat.testBit_or, wordN_test, wordN_test, wordN_test]
    cases decide (j < 64) <;> simp [orP]
  rw [bits_or_u64_nat _ _ (wordN_lt _ _) (wordN_lt _ _), e]

theorem not_words (p : Nat → Bool) (i : Nat) : bits .xor .u64 18446744073709551615 (word p i) = word (notP p) i := by
  have e : (2 ^ 64 - 1) ^^^ wordN p i = wordN (notP p) i := by
    apply Nat.eq_of_testBit_eq
    intro j
    rw [Nat.testBit_xor, wordN_test, wordN_test, Nat.testBit_two_pow_sub_one]
    cases decide (j < 64) <;> simp [notP]
  have h := bits_xor_u64_nat (2 ^ 64 - 1) (wordN p i) (by decide) (wordN_lt _ _)
  rw [e] at h
  exact h

end Go.Proofs.Ytbadpenfngdodaa
