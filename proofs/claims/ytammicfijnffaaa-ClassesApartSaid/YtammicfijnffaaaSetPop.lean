/-
  The count of ones of a word of 64 bits, by sums within the word, as the library's OnesCount64 reckons it: what it comes to is how many bits are 1. Plain mathematics, no program.
-/
import Derived.Test.YtammicfijnffaaaSetMath
import Derived.RowKit
import Derived.Laws.BitsLemmas
set_option linter.unusedVariables false
set_option linter.unusedSimpArgs false
namespace Go.Proofs.Ytammicfijnffaaa
open Go Go.RowKit

/-- How many j below n have q j. -/
def cntN (q : Nat → Bool) : Nat → Nat
  | 0 => 0
  | n + 1 => (q 0).toNat + cntN (fun j => q (j + 1)) n

theorem land_split (a b c d : Nat) (ha : a < 256) (hc : c < 256) : (a + 256 * b) &&& (c + 256 * d) = (a &&& c) + 256 * (b &&& d) := by
  have hac : a &&& c < 2 ^ 8 := Nat.and_lt_two_pow _ hc
  apply Nat.eq_of_testBit_eq
  intro j
  rw [show a + 256 * b = 2 ^ 8 * b + a by omega, show c + 256 * d = 2 ^ 8 * d + c by omega, show (a &&& c) + 256 * (b &&& d) = 2 ^ 8 * (b &&& d) + (a &&& c) by omega]
  rw [Nat.testBit_and, Nat.testBit_two_pow_mul_add _ ha, Nat.testBit_two_pow_mul_add _ hc, Nat.testBit_two_pow_mul_add _ hac]
  by_cases h : j < 8 <;> simp [h]

theorem land_byte (x c d : Nat) (hc : c < 256) : x &&& (c + 256 * d) = (x % 256 &&& c) + 256 * (x / 256 &&& d) := by
  have h := land_split (x % 256) (x / 256) c d (by omega) hc
  rwa [show x % 256 + 256 * (x / 256) = x by omega] at h

/-- n bytes c. -/
def msk (c : Nat) : Nat → Nat
  | 0 => 0
  | n + 1 => c + 256 * msk c n

def sumA (n x : Nat) : Nat := (x / 2 &&& msk 85 n) + (x &&& msk 85 n)
def sumB (n x : Nat) : Nat := (x / 4 &&& msk 51 n) + (x &&& msk 51 n)
def sumC (n x : Nat) : Nat := (x / 16 + x) &&& msk 15 n
def a8 (b : Nat) : Nat := (b / 2 &&& 85) + (b &&& 85)
def b8 (b : Nat) : Nat := (b / 4 &&& 51) + (b &&& 51)
def c8 (b : Nat) : Nat := (b / 16 + b) &&& 15

theorem a8_cross : ∀ b : Fin 256, ∀ c : Fin 2, ((b.val / 2 + 128 * c.val) &&& 85) = (b.val / 2 &&& 85) := by decide +kernel
theorem b8_cross : ∀ b : Fin 256, ∀ c : Fin 4, ((b.val / 4 + 64 * c.val) &&& 51) = (b.val / 4 &&& 51) := by decide +kernel
theorem c8_cross : ∀ b : Fin 69, ∀ c : Fin 5, ((b.val / 16 + b.val + 16 * c.val) &&& 15) = c8 b.val := by decide +kernel
theorem a8_lt : ∀ b : Fin 256, a8 b.val < 256 := by decide +kernel
theorem b8_le : ∀ b : Fin 256, b8 b.val ≤ 102 := by decide +kernel
theorem ba8_le : ∀ b : Fin 256, b8 (a8 b.val) ≤ 68 ∧ b8 (a8 b.val) % 16 ≤ 4 := by decide +kernel
theorem cba8 : ∀ b : Fin 256, c8 (b8 (a8 b.val)) = cntN b.val.testBit 8 := by decide +kernel

theorem sumA_succ (n x : Nat) : sumA (n + 1) x = a8 (x % 256) + 256 * sumA n (x / 256) := by
  have hc := a8_cross ⟨x % 256, by omega⟩ ⟨x / 256 % 2, by omega⟩
  simp only at hc
  unfold sumA a8
  rw [show msk 85 (n + 1) = 85 + 256 * msk 85 n from rfl, land_byte (x / 2) 85 _ (by omega), land_byte x 85 _ (by omega), show x / 2 % 256 = x % 256 / 2 + 128 * (x / 256 % 2) by omega, hc, show x / 2 / 256 = x / 256 / 2 by omega]
  omega

theorem sumB_succ (n x : Nat) : sumB (n + 1) x = b8 (x % 256) + 256 * sumB n (x / 256) := by
  have hc := b8_cross ⟨x % 256, by omega⟩ ⟨x / 256 % 4, by omega⟩
  simp only at hc
  unfold sumB b8
  rw [show msk 51 (n + 1) = 51 + 256 * msk 51 n from rfl, land_byte (x / 4) 51 _ (by omega), land_byte x 51 _ (by omega), show x / 4 % 256 = x % 256 / 4 + 64 * (x / 256 % 4) by omega, hc, show x / 4 / 256 = x / 256 / 4 by omega]
  omega

theorem sumC_succ (n x : Nat) (h0 : x % 256 ≤ 68) (h1 : x / 256 % 16 ≤ 4) : sumC (n + 1) x = c8 (x % 256) + 256 * sumC n (x / 256) := by
  have hc := c8_cross ⟨x % 256, by omega⟩ ⟨x / 256 % 16, by omega⟩
  simp only at hc
  unfold sumC
  rw [show msk 15 (n + 1) = 15 + 256 * msk 15 n from rfl, land_byte (x / 16 + x) 15 _ (by omega), show (x / 16 + x) % 256 = x % 256 / 16 + x % 256 + 16 * (x / 256 % 16) by omega, hc, show (x / 16 + x) / 256 = x / 256 / 16 + x / 256 by omega]

theorem sumBA_succ (n x : Nat) : sumB (n + 1) (sumA (n + 1) x) = b8 (a8 (x % 256)) + 256 * sumB n (sumA n (x / 256)) := by
  have l := a8_lt ⟨x % 256, by omega⟩
  simp only at l
  rw [sumB_succ, sumA_succ, show (a8 (x % 256) + 256 * sumA n (x / 256)) % 256 = a8 (x % 256) by omega, show (a8 (x % 256) + 256 * sumA n (x / 256)) / 256 = sumA n (x / 256) by omega]

theorem sumBA_mod : ∀ (n x : Nat), sumB n (sumA n x) % 16 ≤ 4
  | 0, x => by simp [sumB, msk]
  | n + 1, x => by
    have l := ba8_le ⟨x % 256, by omega⟩
    simp only at l
    rw [sumBA_succ]
    omega

theorem sumBA_le : ∀ (n x : Nat), sumB n (sumA n x) ≤ msk 68 n
  | 0, x => by simp [sumB, msk]
  | n + 1, x => by
    have l := ba8_le ⟨x % 256, by omega⟩
    simp only at l
    have h := sumBA_le n (x / 256)
    rw [sumBA_succ, msk]
    omega

theorem sumCBA_succ (n x : Nat) : sumC (n + 1) (sumB (n + 1) (sumA (n + 1) x)) = cntN (x % 256).testBit 8 + 256 * sumC n (sumB n (sumA n (x / 256))) := by
  have l := ba8_le ⟨x % 256, by omega⟩
  have e := cba8 ⟨x % 256, by omega⟩
  simp only at l e
  have m := sumBA_mod n (x / 256)
  have s := sumBA_succ n x
  rw [sumC_succ n _ (by rw [s]; omega) (by rw [s]; omega), s, show (b8 (a8 (x % 256)) + 256 * sumB n (sumA n (x / 256))) % 256 = b8 (a8 (x % 256)) by omega, show (b8 (a8 (x % 256)) + 256 * sumB n (sumA n (x / 256))) / 256 = sumB n (sumA n (x / 256)) by omega, e]

theorem cntN_le : ∀ (n : Nat) (q : Nat → Bool), cntN q n ≤ n
  | 0, _ => by simp [cntN]
  | n + 1, q => by
    have h := cntN_le n (fun j => q (j + 1))
    have : (q 0).toNat ≤ 1 := by cases q 0 <;> simp
    rw [cntN]
    omega
theorem cntN_congr : ∀ (n : Nat) (q r : Nat → Bool), (∀ j, j < n → q j = r j) → cntN q n = cntN r n
  | 0, _, _, _ => rfl
  | n + 1, q, r, h => by rw [cntN, cntN, h 0 (by omega), cntN_congr n _ _ fun j hj => h (j + 1) (by omega)]
theorem cntN_add : ∀ (m n : Nat) (q : Nat → Bool), cntN q (m + n) = cntN q m + cntN (fun j => q (m + j)) n
  | 0, n, q => by simp [cntN]
  | m + 1, n, q => by
    have e : cntN (fun j => q (m + j + 1)) n = cntN (fun j => q (m + 1 + j)) n := cntN_congr _ _ _ fun j _ => by congr 1; omega
    rw [show m + 1 + n = (m + n) + 1 by omega, cntN, cntN, cntN_add m n, e]
    omega
theorem cntN_not : ∀ (n : Nat) (q : Nat → Bool), cntN q n + cntN (fun j => !q j) n = n
  | 0, _ => rfl
  | n + 1, q => by
    have h := cntN_not n (fun j => q (j + 1))
    rw [cntN, cntN]
    cases q 0 <;> simp <;> omega

theorem test_byte (x k : Nat) : cntN (x / 256 ^ k % 256).testBit 8 = cntN (fun j => x.testBit (8 * k + j)) 8 := by
  apply cntN_congr
  intro j hj
  rw [show (256 : Nat) = 2 ^ 8 from rfl, ← Nat.pow_mul, Nat.testBit_mod_two_pow, Nat.testBit_div_two_pow]
  simp [hj, Nat.add_comm]

/-- The three steps within bytes: eight counts, one a byte. -/
theorem bytes_of (x : Nat) : ∃ c0 c1 c2 c3 c4 c5 c6 c7 : Nat, (c0 ≤ 8 ∧ c1 ≤ 8 ∧ c2 ≤ 8 ∧ c3 ≤ 8 ∧ c4 ≤ 8 ∧ c5 ≤ 8 ∧ c6 ≤ 8 ∧ c7 ≤ 8) ∧ c0 + c1 + c2 + c3 + c4 + c5 + c6 + c7 = cntN x.testBit 64 ∧
    sumC 8 (sumB 8 (sumA 8 x)) = c0 + 256 * (c1 + 256 * (c2 + 256 * (c3 + 256 * (c4 + 256 * (c5 + 256 * (c6 + 256 * c7)))))) := by
  have f : ∀ k, cntN (x / 256 ^ k % 256).testBit 8 ≤ 8 := fun k => cntN_le _ _
  refine ⟨_, _, _, _, _, _, _, _, ⟨f 0, f 1, f 2, f 3, f 4, f 5, f 6, f 7⟩, ?_, ?_⟩
  · simp only [test_byte]
    rw [show (64 : Nat) = 8 + (8 + (8 + (8 + (8 + (8 + (8 + 8)))))) from rfl]
    simp only [cntN_add]
    simp only [← Nat.add_assoc, Nat.mul_zero, Nat.zero_add, Nat.mul_one, Nat.reduceMul, Nat.reduceAdd]
  · simp only [sumCBA_succ]
    rw [show sumC 0 (sumB 0 (sumA 0 (x / 256 / 256 / 256 / 256 / 256 / 256 / 256 / 256))) = 0 by simp [sumC, msk]]
    simp only [Nat.div_div_eq_div_mul, Nat.pow_zero, Nat.div_one, Nat.pow_one, Nat.mul_zero, Nat.add_zero]

def st1 (a : Int) : Int := IntKind.u64.wrap (bits .and .u64 (a / 2) 6148914691236517205 + bits .and .u64 a 6148914691236517205)
def st2 (a : Int) : Int := IntKind.u64.wrap (bits .and .u64 (a / 4) 3689348814741910323 + bits .and .u64 a 3689348814741910323)
def st3 (a : Int) : Int := bits .and .u64 (IntKind.u64.wrap (a / 16 + a)) 1085102592571150095
def st4 (a : Int) : Int := IntKind.u64.wrap (a + a / 256)
def st5 (a : Int) : Int := IntKind.u64.wrap (a + a / 65536)
def st6 (a : Int) : Int := IntKind.u64.wrap (a + a / 4294967296)
def st7 (a : Int) : Int := bits .and .i64 (wrap64 a) 127

theorem and_le_mask (x m : Nat) : x &&& m ≤ m := Nat.and_le_right

theorem st1_eq (x : Nat) (h : x < 18446744073709551616) : st1 x = (sumA 8 x : Nat) := by
  have e1 := bits_and_u64_nat (x / 2) 6148914691236517205 (by omega) (by omega)
  have e2 := bits_and_u64_nat x 6148914691236517205 h (by omega)
  have m : msk 85 8 = 6148914691236517205 := rfl
  have l1 : x / 2 &&& 6148914691236517205 ≤ 6148914691236517205 := and_le_mask _ _
  have l2 : x &&& 6148914691236517205 ≤ 6148914691236517205 := and_le_mask _ _
  unfold st1 sumA
  rw [m, show ((x : Int) / 2) = ((x / 2 : Nat) : Int) by omega]
  rw [show (6148914691236517205 : Int) = ((6148914691236517205 : Nat) : Int) from rfl, e1, e2, wrap_u64_of (by omega) (by omega)]
  omega

theorem sumA_le (x : Nat) : sumA 8 x ≤ 12297829382473034410 := by
  have m : msk 85 8 = 6148914691236517205 := rfl
  unfold sumA
  rw [m]
  have l1 : x / 2 &&& 6148914691236517205 ≤ 6148914691236517205 := and_le_mask _ _
  have l2 : x &&& 6148914691236517205 ≤ 6148914691236517205 := and_le_mask _ _
  omega

theorem st2_eq (x : Nat) (h : x < 18446744073709551616) : st2 x = (sumB 8 x : Nat) := by
  have e1 := bits_and_u64_nat (x / 4) 3689348814741910323 (by omega) (by omega)
  have e2 := bits_and_u64_nat x 3689348814741910323 h (by omega)
  have m : msk 51 8 = 3689348814741910323 := rfl
  have l1 : x / 4 &&& 3689348814741910323 ≤ 3689348814741910323 := and_le_mask _ _
  have l2 : x &&& 3689348814741910323 ≤ 3689348814741910323 := and_le_mask _ _
  unfold st2 sumB
  rw [m, show ((x : Int) / 4) = ((x / 4 : Nat) : Int) by omega]
  rw [show (3689348814741910323 : Int) = ((3689348814741910323 : Nat) : Int) from rfl, e1, e2, wrap_u64_of (by omega) (by omega)]
  omega

theorem st3_eq (x : Nat) (h : x ≤ 4919131752989213764) : st3 x = (sumC 8 x : Nat) := by
  have e1 := bits_and_u64_nat (x / 16 + x) 1085102592571150095 (by omega) (by omega)
  have m : msk 15 8 = 1085102592571150095 := rfl
  unfold st3 sumC
  rw [m, wrap_u64_of (by omega) (by omega), show ((x : Int) / 16 + x) = ((x / 16 + x : Nat) : Int) by omega]
  rw [show (1085102592571150095 : Int) = ((1085102592571150095 : Nat) : Int) from rfl, e1]

theorem wraps_i64 (n : Int) (h₀ : 0 ≤ n) (h₁ : n < 2 ^ 63) : IntKind.i64.wrap n = n := by rw [IntKind.wrap_i64]; omega

theorem st7_eq (a : Int) (h0 : 0 ≤ a) (h1 : a < 9223372036854775808) : st7 a = a % 128 := by
  unfold st7
  have e : wrap64 a = a := by unfold wrap64; omega
  rw [e]
  exact bits_mask .i64 63 (by decide) wraps_i64 7 (by omega) a h0 (by omega)

theorem wrap_nat (n : Nat) (h : n ≤ 9223372036854775807) : IntKind.u64.wrap (n : Int) = n := wrap_u64_of (by omega) (by omega)

/-- The sums come to the count. -/
theorem ones_eq (x : Nat) (h : x < 18446744073709551616) : st7 (st6 (st5 (st4 (st3 (st2 (st1 x)))))) = (cntN x.testBit 64 : Nat) := by
  have lA := sumA_le x
  have lB := sumBA_le 8 x
  rw [show msk 68 8 = 4919131752989213764 from rfl] at lB
  rw [st1_eq x h, st2_eq _ (by omega), st3_eq _ lB]
  obtain ⟨c0, c1, c2, c3, c4, c5, c6, c7, ⟨h0, h1, h2, h3, h4, h5, h6, h7⟩, hs, e⟩ := bytes_of x
  rw [e, ← hs]
  clear e hs lA lB h
  obtain ⟨u7, q7⟩ : ∃ u, u = c7 := ⟨_, rfl⟩
  obtain ⟨u6, q6⟩ : ∃ u, u = c6 + 256 * u7 := ⟨_, rfl⟩
  obtain ⟨u5, q5⟩ : ∃ u, u = c5 + 256 * u6 := ⟨_, rfl⟩
  obtain ⟨u4, q4⟩ : ∃ u, u = c4 + 256 * u5 := ⟨_, rfl⟩
  obtain ⟨u3, q3⟩ : ∃ u, u = c3 + 256 * u4 := ⟨_, rfl⟩
  obtain ⟨u2, q2⟩ : ∃ u, u = c2 + 256 * u3 := ⟨_, rfl⟩
  obtain ⟨u1, q1⟩ : ∃ u, u = c1 + 256 * u2 := ⟨_, rfl⟩
  obtain ⟨u0, q0⟩ : ∃ u, u = c0 + 256 * u1 := ⟨_, rfl⟩
  rw [← q7, ← q6, ← q5, ← q4, ← q3, ← q2, ← q1, ← q0]
  have b7 : u7 ≤ 8 := by omega
  have b6 : u6 ≤ 2056 := by omega
  have b5 : u5 ≤ 526344 := by omega
  have b4 : u4 ≤ 134744072 := by omega
  have b3 : u3 ≤ 34494482440 := by omega
  have b2 : u2 ≤ 8830587504648 := by omega
  have b1 : u1 ≤ 2260630401189896 := by omega
  have b0 : u0 ≤ 578721382704613384 := by omega
  have d4 : (u0 : Int) / 256 = u1 := by omega
  have e4 : st4 (u0 : Int) = ((u0 + u1 : Nat) : Int) := by unfold st4; rw [d4, wrap_u64_of (by omega) (by omega)]; omega
  rw [e4]
  have d5 : u0 + u1 = (c0 + c1 + 256 * (c1 + c2)) + 65536 * (u2 + u3) := by omega
  have d5' : ((u0 + u1 : Nat) : Int) / 65536 = ((u2 + u3 : Nat) : Int) := by rw [d5]; clear q0 q1 q2 q3 q4 q5 q6 d4 d5 e4; omega
  have e5 : st5 ((u0 + u1 : Nat) : Int) = ((u0 + u1 + (u2 + u3) : Nat) : Int) := by unfold st5; rw [d5', wrap_u64_of (by omega) (by omega)]; omega
  rw [e5]
  have d6 : u0 + u1 + (u2 + u3) = ((c0 + c1 + c2 + c3) + 256 * (c1 + c2 + c3 + c4) + 65536 * (c2 + c3 + c4 + c5) + 16777216 * (c3 + c4 + c5 + c6)) + 4294967296 * (u4 + u5 + u6 + u7) := by clear d5 d5' e4 e5 d4; omega
  have d6' : ((u0 + u1 + (u2 + u3) : Nat) : Int) / 4294967296 = ((u4 + u5 + u6 + u7 : Nat) : Int) := by rw [d6]; clear q0 q1 q2 q3 q4 q5 q6 d4 d5 d5' d6 e4 e5; omega
  have hb : u0 + u1 + (u2 + u3) + (u4 + u5 + u6 + u7) ≤ 9223372036854775807 := by clear d6 d6' d5 d5' e4 e5 d4 q0 q1 q2 q3 q4 q5 q6 q7; omega
  have e6 : st6 ((u0 + u1 + (u2 + u3) : Nat) : Int) = ((u0 + u1 + (u2 + u3) + (u4 + u5 + u6 + u7) : Nat) : Int) := by unfold st6; rw [d6', ← Int.natCast_add, wrap_nat _ hb]
  rw [e6, st7_eq _ (Int.natCast_nonneg _) (by clear d6 d6' d5 d5' e4 e5 e6 d4 q0 q1 q2 q3 q4 q5 q6 q7; omega), d6]
  clear d6 d6' d5 d5' e4 e5 e6 d4 q0 q1 q2 q3 b0 b1 b2 b3 b4 b5 b6 hb
  omega

end Go.Proofs.Ytammicfijnffaaa
