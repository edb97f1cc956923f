/-
  Several texts of this proof in one file: Base, SetMath, Mem, Arr, Kept, App. No statement of its own.
-/
import Derived.Test.YtnkopcmkanibhaaRows
import Derived.WalkKit
import Derived.WalkSpells
import Derived.WalkLawsBesides
import Derived.Laws.Bits64
import Derived.Laws.Bits64b
import Derived.IntWalk
import Derived.Laws.Tables
import Derived.Laws.Cells
import Derived.Maps.AppendAt
import Derived.Deep.AppendLies
set_option linter.unusedVariables false
set_option linter.unusedSimpArgs false

/-
  Words for memory that the walks share: what stays as it was; a row of bytes that reads as a list of numbers. Laws for other texts; no statement of its own.
-/
namespace Go.Proofs.Ytnkopcmkanibhaa
open Go Go.RowKit

theorem lt_of_some {w : World} {g : Nat} {o : Obj} (h : w.heap[g]? = some o) : g < w.heap.size := by
  rcases Nat.lt_or_ge g w.heap.size with hlt | hge
  · exact hlt
  · rw [Array.getElem?_eq_none hge] at h; cases h

/-- What is owned stays owned where all that was there is as it was. -/
theorem own_stays {w w' : World} {B e size n : Nat} {v : Value} {xs : List Value} (h : w.ownsRow B e size v n xs) (hb : Below w.heap.size w w') : w'.ownsRow B e size v n xs := by
  refine ⟨h.1, ?_⟩
  rcases h.2 with h0 | ⟨g, cap, cur, hv, hB, hh, r⟩
  · exact Or.inl h0
  · exact Or.inr ⟨g, cap, cur, hv, hB, (hb.block g (lt_of_some hh)).trans hh, r⟩
theorem own_lower {w : World} {B B' e size n : Nat} {v : Value} {xs : List Value} (h : w.ownsRow B e size v n xs) (hB : B' ≤ B) : w.ownsRow B' e size v n xs := by
  refine ⟨h.1, ?_⟩
  rcases h.2 with h0 | ⟨g, cap, cur, hv, hg, r⟩
  · exact Or.inl h0
  · exact Or.inr ⟨g, cap, cur, hv, by omega, r⟩

theorem gro {w a b : World} (h : Below w.heap.size w a) (hb : Below a.heap.size a b) : Below w.heap.size w b := h.trans (hb.mono h.size)
theorem gro1 {w a b : World} {o : Obj} (h : Below w.heap.size w a) (hb : Below (a.alloc o).heap.size (a.alloc o) b) : Below w.heap.size w b := gro (h.alloc h.size o) hb
theorem undrew {w w1 : World} (h : Below w.drew.heap.size w.drew w1) : Below w.heap.size w w1 := ⟨h.os, h.tape, h.output, h.size, h.block⟩
theorem cell_stays {w w1 : World} {a : Addr} {v : Value} (h : w.cell? a = some v) (hb : Below w.heap.size w w1) : w1.cell? a = some v := (hb.cell (World.block_lt_of_cell? w a h)).trans h
/-- The bytes that lie from A on read as xs, in a block below B. -/
def RdB (w : World) (B : Nat) (A : Option Addr) (xs : List Int) : Prop :=
  ∀ k, k < xs.length → ∃ b off, A = some ⟨b, off, none⟩ ∧ b < B ∧ w.cell? ⟨b, off + k, none⟩ = some (.int .u8 (xs.getD k 0))

section
variable {w w' : World} {B B' : Nat} {A : Option Addr} {xs : List Int}
theorem RdB.below (h : RdB w B A xs) (hb : Below B w w') : RdB w' B A xs := fun k hk => by
  obtain ⟨b, off, e, hB, hc⟩ := h k hk
  exact ⟨b, off, e, hB, (hb.cell (p := ⟨b, off + k, none⟩) hB).trans hc⟩
theorem RdB.more (h : RdB w B A xs) (hB : B ≤ B') : RdB w B' A xs := fun k hk => by
  obtain ⟨b, off, e, hb, hc⟩ := h k hk
  exact ⟨b, off, e, by omega, hc⟩
theorem RdB.at (h : RdB w B A xs) {k : Nat} (hk : k < xs.length) : ∃ b off, A = some ⟨b, off, none⟩ ∧ b < B ∧ ∀ j, j < xs.length → w.cell? ⟨b, off + j, none⟩ = some (.int .u8 (xs.getD j 0)) := by
  obtain ⟨b, off, e, hB, _⟩ := h k hk
  refine ⟨b, off, e, hB, fun j hj => ?_⟩
  obtain ⟨b', off', e', _, hc⟩ := h j hj
  rw [e] at e'
  injection e' with e'
  injection e' with e1 e2
  subst e1 e2
  exact hc
theorem rd_own {base n : Nat} {e : TypeId} {v : Value} (h : w.ownsRow base e 1 v n (xs.map (Value.int .u8))) : ∃ A cap, v = .slice A n cap ∧ n = xs.length ∧ RdB w w.heap.size A xs ∧ (A = none → n = 0 ∧ cap = 0) := by
  have hn : n = xs.length := by have := h.1; simp at this; omega
  rcases h.2 with ⟨rfl, rfl⟩ | ⟨g, cap, cur, rfl, hg, hh, hc, hm, hs, ht⟩
  · exact ⟨none, 0, rfl, hn, fun k hk => by omega, fun _ => ⟨rfl, rfl⟩⟩
  · refine ⟨_, cap, rfl, hn, fun k hk => ⟨g, 0, rfl, lt_of_some hh, ?_⟩, fun h => by cases h⟩
    rw [Nat.zero_add, cell_of_row w g k cur e (0, 0) hh]
    have e1 : (cur.toList.take (n * 1))[k]? = (xs.map (Value.int .u8))[k]? := by rw [ht]
    rw [List.getElem?_take_of_lt (by omega)] at e1
    rw [← Array.getElem?_toList, e1]
    simp [List.getD_eq_getElem?_getD, List.getElem?_eq_getElem hk]
end

end Go.Proofs.Ytnkopcmkanibhaa

/-
  Sets of bytes as four words of 64 bits: plain mathematics, no program. A set is a test p on numbers; 'word p i' is its i-th word; what or, not, one byte more, a look-up and a count of ones do to words is said of p.
-/
namespace Go.Proofs.Ytnkopcmkanibhaa
open Go

/-- The number whose bit j is q j, for j below n. -/
def bitsN (q : Nat → Bool) : Nat → Nat
  | 0 => 0
  | n + 1 => (q 0).toNat + 2 * bitsN (fun j => q (j + 1)) n

theorem bitsN_lt : ∀ (n : Nat) (q : Nat → Bool), bitsN q n < 2 ^ n
  | 0, _ => by simp [bitsN]
  | n + 1, q => by
    have h := bitsN_lt n (fun j => q (j + 1))
    have : (q 0).toNat ≤ 1 := by cases q 0 <;> simp
    rw [bitsN, Nat.pow_succ]
    omega

theorem bitsN_test : ∀ (n : Nat) (q : Nat → Bool) (j : Nat), (bitsN q n).testBit j = (decide (j < n) && q j)
  | 0, q, j => by simp [bitsN]
  | n + 1, q, 0 => by
    rw [bitsN, Nat.testBit_zero]
    cases q 0 <;> simp <;> omega
  | n + 1, q, j + 1 => by
    have h := bitsN_test n (fun j => q (j + 1)) j
    rw [bitsN, Nat.testBit_add_one, show ((q 0).toNat + 2 * bitsN (fun j => q (j + 1)) n) / 2 = bitsN (fun j => q (j + 1)) n by cases q 0 <;> simp <;> omega, h]
    simp

theorem bitsN_congr (n : Nat) (q r : Nat → Bool) (h : ∀ j, j < n → q j = r j) : bitsN q n = bitsN r n := by
  apply Nat.eq_of_testBit_eq
  intro j
  rw [bitsN_test, bitsN_test]
  by_cases hj : j < n
  · simp [hj, h j hj]
  · simp [hj]

theorem bitsN_of (n x : Nat) (h : x < 2 ^ n) : bitsN x.testBit n = x := by
  apply Nat.eq_of_testBit_eq
  intro j
  rw [bitsN_test]
  by_cases hj : j < n
  · simp [hj]
  · have : x.testBit j = false := Nat.testBit_lt_two_pow (Nat.lt_of_lt_of_le h (Nat.pow_le_pow_right (by omega) (by omega)))
    simp [hj, this]

/-- The i-th word of the set p. -/
def wordN (p : Nat → Bool) (i : Nat) : Nat := bitsN (fun j => p (64 * i + j)) 64
def word (p : Nat → Bool) (i : Nat) : Int := (wordN p i : Int)

theorem wordN_lt (p : Nat → Bool) (i : Nat) : wordN p i < 18446744073709551616 := bitsN_lt 64 _
theorem word_nonneg (p : Nat → Bool) (i : Nat) : 0 ≤ word p i := by unfold word; omega
theorem word_lt (p : Nat → Bool) (i : Nat) : word p i ≤ 18446744073709551615 := by have := wordN_lt p i; unfold word; omega
theorem wordN_test (p : Nat → Bool) (i j : Nat) : (wordN p i).testBit j = (decide (j < 64) && p (64 * i + j)) := bitsN_test 64 _ j
theorem wordN_congr (p q : Nat → Bool) (i : Nat) (h : ∀ j, j < 64 → p (64 * i + j) = q (64 * i + j)) : wordN p i = wordN q i := bitsN_congr 64 _ _ h
theorem word_congr {p q : Nat → Bool} (h : ∀ x, x < 256 → p x = q x) {i : Nat} (hi : i < 4) : word p i = word q i := by
  unfold word
  rw [wordN_congr p q i fun j hj => h _ (by omega)]
theorem word_inj {p q : Nat → Bool} (h : ∀ i, i < 4 → word p i = word q i) (x : Nat) (hx : x < 256) : p x = q x := by
  have e := h (x / 64) (by omega)
  unfold word at e
  have e' : wordN p (x / 64) = wordN q (x / 64) := by omega
  have t := congrArg (fun n => n.testBit (x % 64)) e'
  simp only [wordN_test] at t
  have hm : x % 64 < 64 := by omega
  have hx' : 64 * (x / 64) + x % 64 = x := by omega
  simpa [hm, hx'] using t

theorem word_of (a : Int) (p : Nat → Bool) (i : Nat) (h : 0 ≤ a ∧ a ≤ 18446744073709551615) (hp : ∀ j, j < 64 → p (64 * i + j) = a.toNat.testBit j) : a = word p i := by
  unfold word wordN
  rw [bitsN_congr 64 _ _ hp, bitsN_of 64 a.toNat (by omega)]
  omega

/-- Any four words are a set's. -/
theorem words_of (a0 a1 a2 a3 : Int) (h0 : 0 ≤ a0 ∧ a0 ≤ 18446744073709551615) (h1 : 0 ≤ a1 ∧ a1 ≤ 18446744073709551615) (h2 : 0 ≤ a2 ∧ a2 ≤ 18446744073709551615) (h3 : 0 ≤ a3 ∧ a3 ≤ 18446744073709551615) :
    ∃ p : Nat → Bool, a0 = word p 0 ∧ a1 = word p 1 ∧ a2 = word p 2 ∧ a3 = word p 3 := by
  refine ⟨fun x => (if x < 64 then a0.toNat.testBit x else if x < 128 then a1.toNat.testBit (x - 64) else if x < 192 then a2.toNat.testBit (x - 128) else a3.toNat.testBit (x - 192)), word_of _ _ _ h0 ?_, word_of _ _ _ h1 ?_, word_of _ _ _ h2 ?_, word_of _ _ _ h3 ?_⟩
  · intro j hj
    have e2 : 64 * 0 + j = j := by omega
    simp only [e2, hj, if_true]
  · intro j hj
    have e1 : ¬ (64 * 1 + j < 64) := by omega
    have e2 : 64 * 1 + j < 128 := by omega
    have e4 : 64 * 1 + j - 64 = j := by omega
    simp only [e1, e2, if_true, if_false, e4]
  · intro j hj
    have e1 : ¬ (64 * 2 + j < 64) := by omega
    have e2 : ¬ (64 * 2 + j < 128) := by omega
    have e3 : 64 * 2 + j < 192 := by omega
    have e4 : 64 * 2 + j - 128 = j := by omega
    simp only [e1, e2, e3, if_true, if_false, e4]
  · intro j hj
    have e1 : ¬ (64 * 3 + j < 64) := by omega
    have e2 : ¬ (64 * 3 + j < 128) := by omega
    have e3 : ¬ (64 * 3 + j < 192) := by omega
    have e4 : 64 * 3 + j - 192 = j := by omega
    simp only [e1, e2, e3, if_false, e4]

/-- One byte more. -/
def add1 (p : Nat → Bool) (b : Nat) : Nat → Bool := fun x => p x || x == b
def orP (p q : Nat → Bool) : Nat → Bool := fun x => p x || q x
def notP (p : Nat → Bool) : Nat → Bool := fun x => !p x
def noneP : Nat → Bool := fun _ => false
def rangeP (lo hi : Int) : Nat → Bool := fun x => decide (lo ≤ x) && decide ((x : Int) ≤ hi)
def memP (l : List Int) : Nat → Bool := fun x => l.any fun y => y == (x : Int)

theorem word_none (i : Nat) : word noneP i = 0 := by
  have : wordN noneP i = 0 := by
    apply Nat.eq_of_testBit_eq; intro j; rw [wordN_test]; simp [noneP]
  simp [word, this]

theorem wrap_u64_of {n : Int} (h0 : 0 ≤ n) (h1 : n ≤ 18446744073709551615) : IntKind.u64.wrap n = n := by
  simp [IntKind.wrap, IntKind.bits, IntKind.signed]
  omega

theorem pow_bd (b : Int) (h0 : 0 ≤ b) : ((2 : Int) ^ (b % 64).toNat) = ((2 ^ (b % 64).toNat : Nat) : Int) ∧ 2 ^ (b % 64).toNat < 18446744073709551616 := by
  refine ⟨by simp, ?_⟩
  have : (b % 64).toNat ≤ 63 := by omega
  have h := Nat.pow_le_pow_right (n := 2) (by omega) this
  have e : (2 : Nat) ^ 63 = 9223372036854775808 := by decide
  omega

/-- The look-up: v >> (b % 64) & 1 == 1. -/
theorem has_bits (p : Nat → Bool) (b : Int) (h0 : 0 ≤ b) (h1 : b ≤ 255) :
    (bits .and .u64 (word p (b / 64).toNat / 2 ^ (b % 64).toNat) 1 == 1) = p b.toNat := by
  have e := (pow_bd b h0).1
  have lt : wordN p (b / 64).toNat / 2 ^ (b % 64).toNat < 18446744073709551616 := Nat.lt_of_le_of_lt (Nat.div_le_self _ _) (wordN_lt _ _)
  unfold word
  rw [e, ← Int.natCast_ediv, show (1 : Int) = ((1 : Nat) : Int) from rfl, bits_and_u64_nat _ _ lt (by omega)]
  have t := wordN_test p (b / 64).toNat (b % 64).toNat
  rw [Nat.testBit_eq_decide_div_mod_eq] at t
  have hm : (b % 64).toNat < 64 := by omega
  have hx : 64 * (b / 64).toNat + (b % 64).toNat = b.toNat := by omega
  rw [hx] at t
  simp only [hm, decide_true, Bool.true_and] at t
  rw [← t, Nat.and_one_is_mod]
  generalize wordN p (b / 64).toNat / 2 ^ (b % 64).toNat = m
  rw [Bool.eq_iff_iff, beq_iff_eq, decide_eq_true_iff]
  omega

/-- The look-up by the remainder: v >> (b % 64) % 2 == 1. -/
theorem has_mod (p : Nat → Bool) (b : Int) (h0 : 0 ≤ b) (h1 : b ≤ 255) :
    ((word p (b / 64).toNat / 2 ^ (b % 64).toNat).tmod 2 == 1) = p b.toNat := by
  have e := (pow_bd b h0).1
  unfold word
  rw [e, ← Int.natCast_ediv]
  have t := wordN_test p (b / 64).toNat (b % 64).toNat
  rw [Nat.testBit_eq_decide_div_mod_eq] at t
  have hm : (b % 64).toNat < 64 := by omega
  have hx : 64 * (b / 64).toNat + (b % 64).toNat = b.toNat := by omega
  rw [hx] at t
  simp only [hm, decide_true, Bool.true_and] at t
  rw [← t]
  generalize wordN p (b / 64).toNat / 2 ^ (b % 64).toNat = m
  rw [Int.tmod_eq_emod_of_nonneg (by omega), Bool.eq_iff_iff, beq_iff_eq, decide_eq_true_iff]
  omega

theorem add1_words (p : Nat → Bool) (b : Nat) (i : Nat) (hi : i ≠ b / 64) : word (add1 p b) i = word p i := by
  unfold word
  rw [wordN_congr (add1 p b) p i fun j hj => ?_]
  have : ¬ (64 * i + j = b) := by omega
  simp [add1, this]

theorem add1_wordN (p : Nat → Bool) (b : Nat) : wordN (add1 p b) (b / 64) = wordN p (b / 64) ||| 2 ^ (b % 64) := by
  apply Nat.eq_of_testBit_eq
  intro j
  rw [Nat.testBit_or, wordN_test, wordN_test, Nat.testBit_two_pow]
  by_cases hj : j < 64
  · have : (64 * (b / 64) + j == b) = decide (b % 64 = j) := by
      rw [Bool.eq_iff_iff]; simp; omega
    simp [hj, add1, this]
  · have : ¬ (b % 64 = j) := by omega
    simp [hj, this]

/-- One byte more, by or. -/
theorem add1_or (p : Nat → Bool) (b : Int) (h0 : 0 ≤ b) (h1 : b ≤ 255) :
    bits .or .u64 (word p (b / 64).toNat) (IntKind.u64.wrap (2 ^ (b % 64).toNat)) = word (add1 p b.toNat) (b / 64).toNat := by
  obtain ⟨e, lt⟩ := pow_bd b h0
  unfold word
  have wr : IntKind.u64.wrap ((2 ^ (b % 64).toNat : Nat) : Int) = ((2 ^ (b % 64).toNat : Nat) : Int) := by
    generalize 2 ^ (b % 64).toNat = m at lt ⊢
    exact wrap_u64_of (by omega) (by omega)
  rw [e, wr, bits_or_u64_nat _ _ (wordN_lt _ _) lt]
  have hd : (b / 64).toNat = b.toNat / 64 := by omega
  have hm : (b % 64).toNat = b.toNat % 64 := by omega
  rw [hd, hm, add1_wordN]

theorem bitsN_add : ∀ (n : Nat) (q : Nat → Bool) (b : Nat), b < n → q b = false → bitsN (fun j => q j || j == b) n = bitsN q n + 2 ^ b
  | n + 1, q, 0, _, hq => by
    have e : bitsN (fun j => (q (j + 1) || j + 1 == 0)) n = bitsN (fun j => q (j + 1)) n := bitsN_congr _ _ _ fun j _ => by simp
    simp only [bitsN, e, hq]
    simp
    omega
  | n + 1, q, b + 1, hb, hq => by
    have h := bitsN_add n (fun j => q (j + 1)) b (by omega) hq
    have e : bitsN (fun j => (q (j + 1) || j + 1 == b + 1)) n = bitsN (fun j => (q (j + 1) || j == b)) n := bitsN_congr _ _ _ fun j _ => by simp
    have e0 : (q 0 || 0 == b + 1) = q 0 := by simp
    simp only [bitsN, e, e0, h, Nat.pow_succ]
    omega

/-- One byte more, by a sum, where it wasn't there. -/
theorem add1_sum (p : Nat → Bool) (b : Int) (h0 : 0 ≤ b) (h1 : b ≤ 255) (hp : p b.toNat = false) :
    IntKind.u64.wrap (word p (b / 64).toNat + IntKind.u64.wrap (2 ^ (b % 64).toNat)) = word (add1 p b.toNat) (b / 64).toNat := by
  obtain ⟨e, lt⟩ := pow_bd b h0
  have key : wordN (add1 p b.toNat) (b / 64).toNat = wordN p (b / 64).toNat + 2 ^ (b % 64).toNat := by
    have hx : 64 * (b / 64).toNat + (b % 64).toNat = b.toNat := by omega
    have h := bitsN_add 64 (fun j => p (64 * (b / 64).toNat + j)) (b % 64).toNat (by omega) (by rw [hx]; exact hp)
    unfold wordN
    rw [← h]
    apply bitsN_congr
    intro j hj
    have : (64 * (b / 64).toNat + j == b.toNat) = (j == (b % 64).toNat) := by
      rw [Bool.eq_iff_iff]; simp; omega
    simp [add1, this]
  have bd := wordN_lt (add1 p b.toNat) (b / 64).toNat
  unfold word
  rw [e, key]
  generalize 2 ^ (b % 64).toNat = m at *
  rw [wrap_u64_of (n := (m : Int)) (by omega) (by omega), wrap_u64_of (by omega) (by omega)]
  omega

theorem or_words (p q : Nat → Bool) (i : Nat) : bits .or .u64 (word p i) (word q i) = word (orP p q) i := by
  unfold word
  have e : wordN p i ||| wordN q i = wordN (orP p q) i := by
    apply Nat.eq_of_testBit_eq
    intro j
    rw [Nat.testBit_or, wordN_test, wordN_test, wordN_test]
    cases decide (j < 64) <;> simp [orP]
  rw [bits_or_u64_nat _ _ (wordN_lt _ _) (wordN_lt _ _), e]

theorem not_words (p : Nat → Bool) (i : Nat) : bits .xor .u64 18446744073709551615 (word p i) = word (notP p) i := by
  have e : (2 ^ 64 - 1) ^^^ wordN p i = wordN (notP p) i := by
    apply Nat.eq_of_testBit_eq
    intro j
    rw [Nat.testBit_xor, wordN_test, wordN_test, Nat.testBit_two_pow_sub_one]
    cases decide (j < 64) <;> simp [notP]
  have h := bits_xor_u64_nat (2 ^ 64 - 1) (wordN p i) (by decide) (wordN_lt _ _)
  rw [e] at h
  exact h

end Go.Proofs.Ytnkopcmkanibhaa

/-
  Words for memory that the walks share: a block that holds the four words of a set. No statement of its own.
-/
namespace Go.Proofs.Ytnkopcmkanibhaa
open Go Go.RowKit


/-- The set p as a value. -/
def setV (p : Nat → Bool) : Value := .agg #[.int .u64 (word p 0), .int .u64 (word p 1), .int .u64 (word p 2), .int .u64 (word p 3)]
theorem setV_congr {p q : Nat → Bool} (h : ∀ x, x < 256 → p x = q x) : setV p = setV q := by
  unfold setV
  rw [word_congr h (i := 0) (by omega), word_congr h (i := 1) (by omega), word_congr h (i := 2) (by omega), word_congr h (i := 3) (by omega)]

/-- Block g holds the four words of the set p. -/
def Box4 (w : World) (g : Nat) (p : Nat → Bool) : Prop := w.heap[g]? = some (.cells #[.int .u64 (word p 0), .int .u64 (word p 1), .int .u64 (word p 2), .int .u64 (word p 3)] 72 (0, 0))

section
variable {w w' : World} {g B : Nat} {p q : Nat → Bool}
theorem Box4.cell (h : Box4 w g p) :
    w.cell? ⟨g, 0, none⟩ = some (.int .u64 (word p 0)) ∧ w.cell? ⟨g, 1, none⟩ = some (.int .u64 (word p 1)) ∧ w.cell? ⟨g, 2, none⟩ = some (.int .u64 (word p 2)) ∧ w.cell? ⟨g, 3, none⟩ = some (.int .u64 (word p 3)) := by
  unfold Box4 at h
  refine ⟨?_, ?_, ?_, ?_⟩ <;> exact cell_of_row w g _ _ 72 (0, 0) h
theorem Box4.frozen (h : Box4 w g p) :
    w.frozen? ⟨g, 0, none⟩ = false ∧ w.frozen? ⟨g, 1, none⟩ = false ∧ w.frozen? ⟨g, 2, none⟩ = false ∧ w.frozen? ⟨g, 3, none⟩ = false := by
  unfold Box4 at h
  refine ⟨?_, ?_, ?_, ?_⟩ <;> simp [World.frozen?, h]
theorem Box4.below (h : Box4 w g p) (hb : Below B w w') (hg : g < B) : Box4 w' g p := (hb.block g hg).trans h
theorem Box4.lt (h : Box4 w g p) : g < w.heap.size := lt_of_some h
theorem Box4.stays (h : Box4 w g p) (hb : Below w.heap.size w w') : Box4 w' g p := h.below hb h.lt
theorem Box4.alloc (h : Box4 w g p) (o : Obj) : Box4 (w.alloc o) g p := (Below.heap_alloc w o g h.lt).trans h
theorem Box4.grown {row : Option Nat} (h : Box4 w g p) (hb : w.grownBy w' row) (hg : some g ≠ row) : Box4 w' g p := (hb.block g h.lt hg).trans h
theorem Box4.far (h : Box4 w g p) {a : Addr} (ha : g ≠ a.block) (u : Value) : Box4 (w.setCell a u) g p := (Below.heap_setCell w a u g ha).trans h
theorem Box4.new (w : World) (p : Nat → Bool) : Box4 (w.alloc (.cells #[.int .u64 (word p 0), .int .u64 (word p 1), .int .u64 (word p 2), .int .u64 (word p 3)] 72)) w.heap.size p := heap_alloc_new w _
theorem Box4.new0 (w : World) : Box4 (w.alloc (.cells #[.int .u64 0, .int .u64 0, .int .u64 0, .int .u64 0] 72)) w.heap.size noneP := by
  have h := Box4.new w noneP
  simpa only [word_none] using h
theorem Box4.congr (h : Box4 w g p) (hq : ∀ x, x < 256 → p x = q x) : Box4 w g q := by
  unfold Box4 at h ⊢
  rwa [← word_congr hq (i := 0) (by omega), ← word_congr hq (i := 1) (by omega), ← word_congr hq (i := 2) (by omega), ← word_congr hq (i := 3) (by omega)]

/-- The world with all four words stored anew. -/
def put4 (w : World) (g : Nat) (q : Nat → Bool) : World :=
  (((w.setCell ⟨g, 0, none⟩ (.int .u64 (word q 0))).setCell ⟨g, 1, none⟩ (.int .u64 (word q 1))).setCell ⟨g, 2, none⟩ (.int .u64 (word q 2))).setCell ⟨g, 3, none⟩ (.int .u64 (word q 3))
theorem Box4.put (h : Box4 w g p) (q : Nat → Bool) : Box4 (put4 w g q) g q := by
  unfold Box4 put4 at *
  simp [World.setCell, Array.getElem?_modify, h]
theorem Box4.set1 (h : Box4 w g p) (i : Nat) (hi : i < 4) (hq : ∀ j, j ≠ i → word q j = word p j) : Box4 (w.setCell ⟨g, i, none⟩ (.int .u64 (word q i))) g q := by
  unfold Box4 at *
  match i, hi with
  | 0, _ => rw [hq 1 (by omega), hq 2 (by omega), hq 3 (by omega)]; simp [World.setCell, Array.getElem?_modify, h]
  | 1, _ => rw [hq 0 (by omega), hq 2 (by omega), hq 3 (by omega)]; simp [World.setCell, Array.getElem?_modify, h]
  | 2, _ => rw [hq 0 (by omega), hq 1 (by omega), hq 3 (by omega)]; simp [World.setCell, Array.getElem?_modify, h]
  | 3, _ => rw [hq 0 (by omega), hq 1 (by omega), hq 2 (by omega)]; simp [World.setCell, Array.getElem?_modify, h]
theorem Box4.drew (h : Box4 w g p) : Box4 w.drew g p := h
theorem Box4.putFar {g' : Nat} (h : Box4 w g p) (hg : g ≠ g') (q : Nat → Bool) : Box4 (put4 w g' q) g p :=
  (((h.far (a := ⟨g', 0, none⟩) hg _).far (a := ⟨g', 1, none⟩) hg _).far (a := ⟨g', 2, none⟩) hg _).far (a := ⟨g', 3, none⟩) hg _
theorem below_put4 {a : World} (h : Below B a w) (hg : B ≤ g) (q : Nat → Bool) : Below B a (put4 w g q) :=
  (((h.setCell (p := ⟨g, 0, none⟩) hg _).setCell (p := ⟨g, 1, none⟩) hg _).setCell (p := ⟨g, 2, none⟩) hg _).setCell (p := ⟨g, 3, none⟩) hg _
end

end Go.Proofs.Ytnkopcmkanibhaa

/-
  A variable that is a long array of numbers, as memory and as a value. Words for other texts; no statement of its own.
-/
namespace Go.Proofs.Ytnkopcmkanibhaa
open Go Go.RowKit

/-- n numbers as values. -/
def arrV (n : Nat) (F : Nat → Nat) : Array Value := ((List.range n).map fun j => Value.int .i64 (F j : Int)).toArray
theorem arrV_size (n : Nat) (F : Nat → Nat) : (arrV n F).size = n := by simp [arrV]
theorem arrV_get (n : Nat) (F : Nat → Nat) (j : Nat) (h : j < n) : (arrV n F)[j]? = some (.int .i64 (F j : Int)) := by simp [arrV, h]
theorem arrV_congr {n : Nat} {F G : Nat → Nat} (h : ∀ j, j < n → F j = G j) : arrV n F = arrV n G := by
  unfold arrV
  congr 1
  exact List.map_congr_left fun j hj => by rw [h j (List.mem_range.1 hj)]
theorem arrV_set (n : Nat) (F : Nat → Nat) (j v : Nat) (h : j < n) : (arrV n F).setIfInBounds j (.int .i64 (v : Int)) = arrV n (fun i => if i = j then v else F i) := by
  apply Array.ext
  · simp [arrV]
  · intro i h1 h2
    have hi : i < n := by simpa [arrV] using h2
    rw [Array.getElem_setIfInBounds]
    · by_cases e : j = i
      · subst e; simp [arrV]
      · have : ¬ i = j := fun x => e x.symm
        simp [arrV, e, this]
    · simpa [arrV] using hi
theorem arrV_one (n : Nat) (F : Nat → Nat) : ∀ v ∈ (arrV n F).toList, v.oneCell' = true := by
  intro v hv
  simp only [arrV, List.mem_map] at hv
  obtain ⟨j, _, rfl⟩ := hv
  rfl

/-- Block g is a variable of n numbers. -/
def BoxN (w : World) (g t n : Nat) (F : Nat → Nat) : Prop := w.heap[g]? = some (.cells (arrV n F) t (0, 0))
section
variable {w w' : World} {g B t n : Nat} {F G : Nat → Nat}
theorem BoxN.cell (h : BoxN w g t n F) (j : Nat) (hj : j < n) : w.cell? ⟨g, j, none⟩ = some (.int .i64 (F j : Int)) := by
  rw [cell_of_row w g j _ t (0, 0) h]
  exact arrV_get n F j hj
theorem BoxN.frozen (h : BoxN w g t n F) (j : Nat) : w.frozen? ⟨g, j, none⟩ = false := by
  unfold BoxN at h
  simp [World.frozen?, h]
theorem BoxN.lt (h : BoxN w g t n F) : g < w.heap.size := lt_of_some h
theorem BoxN.below (h : BoxN w g t n F) (hb : Below B w w') (hg : g < B) : BoxN w' g t n F := (hb.block g hg).trans h
theorem BoxN.stays (h : BoxN w g t n F) (hb : Below w.heap.size w w') : BoxN w' g t n F := h.below hb h.lt
theorem BoxN.alloc (h : BoxN w g t n F) (o : Obj) : BoxN (w.alloc o) g t n F := (Below.heap_alloc w o g h.lt).trans h
theorem BoxN.far (h : BoxN w g t n F) {a : Addr} (ha : g ≠ a.block) (u : Value) : BoxN (w.setCell a u) g t n F := (Below.heap_setCell w a u g ha).trans h
theorem BoxN.row (h : BoxN w g t n F) {g' : Nat} (ha : g ≠ g') (A : Array Value) : BoxN (w.setRow g' A) g t n F := (setRow_other w g' g A ha).trans h
theorem BoxN.drew (h : BoxN w g t n F) : BoxN w.drew g t n F := h
theorem BoxN.new (w : World) (t n : Nat) (F : Nat → Nat) : BoxN (w.alloc (.cells (arrV n F) t)) w.heap.size t n F := heap_alloc_new w _
theorem BoxN.congr (h : BoxN w g t n F) (hq : ∀ j, j < n → F j = G j) : BoxN w g t n G := by
  unfold BoxN at h ⊢
  rwa [← arrV_congr hq]
theorem BoxN.put (h : BoxN w g t n F) (G : Nat → Nat) : BoxN (w.setRow g (arrV n G)) g t n G := setRow_heap w g _ _ t (0, 0) h
theorem BoxN.set (h : BoxN w g t n F) (j v : Nat) (hj : j < n) : BoxN (w.setCell ⟨g, j, none⟩ (.int .i64 (v : Int))) g t n (fun i => if i = j then v else F i) := by
  rw [setCell_eq_setRow w g j _ t (0, 0) _ h, arrV_set n F j v hj]
  exact setRow_heap w g _ _ t (0, 0) h
theorem Box4.row {p : Nat → Bool} (h : Box4 w g p) {g' : Nat} (ha : g ≠ g') (A : Array Value) : Box4 (w.setRow g' A) g p := (setRow_other w g' g A ha).trans h
theorem below_setRow {a : World} (h : Below B a w) (hg : B ≤ g) (A : Array Value) : Below B a (w.setRow g A) :=
  ⟨h.os, h.tape, h.output, by rw [setRow_size]; exact h.size, fun k hk => (setRow_other w g k A (by omega)).trans (h.block k hk)⟩
end

section
variable {w : World} {g n : Nat} {F G : Nat → Nat} {a : Act} {next : Act → World → Prop} {Q : Exit → Act → World → Prop} {d : Option Nat} {ty : TypeId} {pos : String} {aft : Array Edge} {gd : Option (Nat × Bool)}
theorem load256 (h : BoxN w g 34 256 F) : (Instr.loadAt 34 (.pointer (some ⟨g, 0, none⟩))).run Try.prog w = .ok (.agg (arrV 256 F)) w := by
  have h1 : (loadCells ⟨g, 0, none⟩ 256).run Try.prog w = .ok (arrV 256 F) w := run_loadCells w _ 256 (fun j => .int .i64 (F j : Int)) (fun j hj => by rw [Addr.add_lit, Nat.zero_add]; exact h.cell j hj)
  have h2 : (isAgg 34).run Try.prog w = .ok true w := by kernel_rfl
  have h3 : (sizeOf 34).run Try.prog w = .ok 256 w := by kernel_rfl
  simp [Instr.loadAt, loadVar, Instr.sureAddr, Sem.run_bind, h1, h2, h3]
theorem loadVar256 (h : BoxN w g 34 256 F) : (loadVar 34 ⟨g, 0, none⟩).run Try.prog w = .ok (.agg (arrV 256 F)) w := by
  have h1 : (loadCells ⟨g, 0, none⟩ 256).run Try.prog w = .ok (arrV 256 F) w := run_loadCells w _ 256 (fun j => .int .i64 (F j : Int)) (fun j hj => by rw [Addr.add_lit, Nat.zero_add]; exact h.cell j hj)
  have h2 : (isAgg 34).run Try.prog w = .ok true w := by kernel_rfl
  have h3 : (sizeOf 34).run Try.prog w = .ok 256 w := by kernel_rfl
  simp [loadVar, Sem.run_bind, h1, h2, h3]
theorem results_arr {fn : Func} {tmps : Array Value} {x y : Nat} {v : Value} (hr : fn.results = #[.cell x 34, .tmp y]) (hx : tmps.getD x undef = .pointer (some ⟨g, 0, none⟩)) (hy : tmps.getD y undef = v)
    (h : BoxN w g 34 256 F) : (results fn tmps).run Try.prog w = .ok (.tuple #[.agg (arrV 256 F), v]) w := by
  have e : (#[ResultVar.cell x 34, .tmp y] : Array ResultVar) = [ResultVar.cell x 34, .tmp y].toArray := rfl
  rw [Array.getD_eq_getD_getElem?] at hx hy
  unfold results
  rw [hr, e]
  simp [Sem.run_bind, hx, hy, loadVar256 h, asAddr]
theorem store256 (h : BoxN w g 34 256 F) : (Instr.storeAt 34 (.pointer (some ⟨g, 0, none⟩)) (.agg (arrV 256 G))).run Try.prog w = .ok () (w.setRow g (arrV 256 G)) := by
  have h1 : (storeCells ⟨g, 0, none⟩ (arrV 256 G).toList 0).run Try.prog w = .ok () (w.setRow g ((arrV 256 F).toList.take 0 ++ (arrV 256 G).toList).toArray) :=
    run_storeCells_from g _ _ 0 _ w h (by simp [arrV]) (arrV_one 256 G)
  have h3 : (sizeOf 34).run Try.prog w = .ok 256 w := by kernel_rfl
  have h4 : (arrV 256 G).size = 256 := arrV_size _ _
  rw [List.take_zero, List.nil_append, Array.toArray_toList] at h1
  simp [Instr.storeAt, storeVar, Instr.sureAddr, Sem.run_bind, Value.cells, h1, h3, h4]
theorem index256 (w : World) (j : Nat) (hj : j < 256) : (Instr.index 34 (.agg (arrV 256 F)) (.int .i64 (j : Int))).run Try.prog w = .ok (.int .i64 (F j : Int)) w := by
  have hu : (underlying 34).run Try.prog w = .ok (.array 256 3) w := by kernel_rfl
  have h3 : (sizeOf 3).run Try.prog w = .ok 1 w := by kernel_rfl
  have h2 : (isAgg 3).run Try.prog w = .ok false w := by kernel_rfl
  have h4 := arrV_get 256 F j hj
  have h5 : (0 : Int) ≤ (j : Int) ∧ (j : Int) < ((256 : Nat) : Int) := by omega
  simp only [Instr.index, asIntOf, part, Sem.run_bind, Sem.run_pure, Result.andThen_ok, hu, h3, h2, h5, and_self, if_true, Int.toNat_natCast, Nat.mul_one]
  simp [h4]
theorem wp_load256 {x : Operand} (hx : a.eval x = .pointer (some ⟨g, 0, none⟩)) (h : BoxN w g 34 256 F) (hK : next (a.put d (.agg (arrV 256 F))) w) :
    Oper.wp Try.prog ⟨d, .load 34 x, ty, pos, aft, gd⟩ a w next Q := by
  have e : (execOp a.eval ⟨d, .load 34 x, ty, pos, aft, gd⟩).run Try.prog w = .ok (.value (.agg (arrV 256 F))) w := by
    simp [execOp, hx, Sem.run_bind, load256 h]
  unfold Oper.wp
  rw [e]
  exact hK
theorem wp_store256 {x y : Operand} (hx : a.eval x = .pointer (some ⟨g, 0, none⟩)) (hy : a.eval y = .agg (arrV 256 G)) (h : BoxN w g 34 256 F) (hK : next (a.put d undef) (w.setRow g (arrV 256 G))) :
    Oper.wp Try.prog ⟨d, .store 34 x y, ty, pos, aft, gd⟩ a w next Q := by
  have e : (execOp a.eval ⟨d, .store 34 x y, ty, pos, aft, gd⟩).run Try.prog w = .ok .skip (w.setRow g (arrV 256 G)) := by
    simp [execOp, hx, hy, Sem.run_bind, store256 (G := G) h]
  unfold Oper.wp
  rw [e]
  exact hK
variable {ops : Array Oper} {QE : Exit → Act → World → Prop} {rest : List Oper}
theorem wpList_load256 {x : Operand} (hx : a.eval x = .pointer (some ⟨g, 0, none⟩)) (h : BoxN w g 34 256 F) (hK : wpList Try.prog ops QE rest (a.put d (.agg (arrV 256 F))) w) :
    wpList Try.prog ops QE (⟨d, .load 34 x, ty, pos, aft, none⟩ :: rest) a w :=
  wpList_plain rfl fun K hk => wp_load256 hx h (hk _ _ hK)
theorem wpList_store256 {x y : Operand} (hx : a.eval x = .pointer (some ⟨g, 0, none⟩)) (hy : a.eval y = .agg (arrV 256 G)) (h : BoxN w g 34 256 F) (hK : wpList Try.prog ops QE rest (a.put d undef) (w.setRow g (arrV 256 G))) :
    wpList Try.prog ops QE (⟨d, .store 34 x y, ty, pos, aft, none⟩ :: rest) a w :=
  wpList_plain rfl fun K hk => wp_store256 hx hy h (hk _ _ hK)
/-- The whole array stored into a variable that was made last: the world behind it a letter. -/
theorem wpList_lay256 {x y : Operand} (hx : a.eval x = .pointer (some ⟨g, 0, none⟩)) (hy : a.eval y = .agg (arrV 256 G)) (h : BoxN w g 34 256 F)
    (hK : ∀ w', BoxN w' g 34 256 G → Below g w w' → w'.heap.size = w.heap.size → wpList Try.prog ops QE rest (a.put d undef) w') :
    wpList Try.prog ops QE (⟨d, .store 34 x y, ty, pos, aft, none⟩ :: rest) a w :=
  wpList_store256 hx hy h (hK _ (h.put G) (below_setRow (Below.refl _ _) (Nat.le_refl _) _) (setRow_size _ _ _))
end
end Go.Proofs.Ytnkopcmkanibhaa

/-
  But for some blocks all is as it was; what that keeps. Laws for other texts; no statement of its own.
-/
namespace Go.Proofs.Ytnkopcmkanibhaa
open Go Go.RowKit

/-- But for the blocks of Q all is as it was. -/
structure Kept (Q : Nat → Prop) (w w' : World) : Prop where
  os : w'.os = w.os
  tape : w'.tape = w.tape
  output : w'.output = w.output
  size : w.heap.size ≤ w'.heap.size
  block : ∀ b, b < w.heap.size → ¬ Q b → w'.heap[b]? = w.heap[b]?
section
variable {Q Q' : Nat → Prop} {w w' w'' : World}
theorem Kept.refl (Q : Nat → Prop) (w : World) : Kept Q w w := ⟨rfl, rfl, rfl, Nat.le_refl _, fun _ _ _ => rfl⟩
theorem Kept.trans (h : Kept Q w w') (k : Kept Q' w' w'') (hq : ∀ b, Q' b → Q b ∨ w.heap.size ≤ b) : Kept Q w w'' :=
  ⟨k.os.trans h.os, k.tape.trans h.tape, k.output.trans h.output, Nat.le_trans h.size k.size, fun b hb hn => (k.block b (Nat.lt_of_lt_of_le hb h.size) fun e => (hq b e).elim hn (fun e => by omega)).trans (h.block b hb hn)⟩
theorem Kept.mono (h : Kept Q w w') (hq : ∀ b, Q b → Q' b ∨ w.heap.size ≤ b) : Kept Q' w w' := ⟨h.os, h.tape, h.output, h.size, fun b hb hn => h.block b hb fun e => (hq b e).elim hn (fun e => by omega)⟩
theorem Kept.of_below (Q : Nat → Prop) (h : Below w.heap.size w w') : Kept Q w w' := ⟨h.os, h.tape, h.output, h.size, fun b hb _ => h.block b hb⟩
theorem Kept.below {B : Nat} (h : Kept Q w w') (hB : B ≤ w.heap.size) (hq : ∀ b, Q b → B ≤ b) : Below B w w' := ⟨h.os, h.tape, h.output, h.size, fun b hb => h.block b (by omega) fun e => by have := hq b e; omega⟩
theorem Kept.alloc (h : Kept Q w w') (o : Obj) : Kept Q w (w'.alloc o) := ⟨h.os, h.tape, h.output, by have := h.size; simp; omega, fun b hb hn => by rw [Below.heap_alloc _ _ _ (Nat.lt_of_lt_of_le hb h.size)]; exact h.block b hb hn⟩
theorem Kept.drew (h : Kept Q w w') : Kept Q w w'.drew := ⟨h.os, h.tape, h.output, h.size, h.block⟩
theorem Kept.grown {row : Option Nat} (h : Kept Q w w') (hg : w'.grownBy w'' row) (hr : ∀ b, row = some b → Q b ∨ w.heap.size ≤ b) : Kept Q w w'' :=
  ⟨hg.os.trans h.os, hg.tape.trans h.tape, hg.output.trans h.output, Nat.le_trans h.size hg.size, fun b hb hn => (hg.block b (Nat.lt_of_lt_of_le hb h.size) fun e => (hr b e.symm).elim hn (fun e => by omega)).trans (h.block b hb hn)⟩
theorem Kept.setCell (h : Kept Q w w') {a : Addr} (ha : Q a.block ∨ w.heap.size ≤ a.block) (u : Value) : Kept Q w (w'.setCell a u) :=
  ⟨h.os, h.tape, h.output, by have := h.size; simpa [World.setCell] using this, fun b hb hn => (Below.heap_setCell _ _ _ _ (by intro e; subst e; exact ha.elim hn (fun e' => by omega))).trans (h.block b hb hn)⟩
theorem Kept.cell {a : Addr} {v : Value} (h : Kept Q w w') (hc : w.cell? a = some v) (hn : ¬ Q a.block) : w'.cell? a = some v :=
  (World.cell?_of_block (w := w) (h.block a.block (World.block_lt_of_cell? w a hc) hn)).trans hc
end

theorem own_block {w w' : World} {B e size n : Nat} {v : Value} {xs : List Value} (h : w.ownsRow B e size v n xs) (hb : ∀ b, v.ownBlock = some b → b < w.heap.size → w'.heap[b]? = w.heap[b]?) : w'.ownsRow B e size v n xs := by
  refine ⟨h.1, ?_⟩
  rcases h.2 with h0 | ⟨g, cap, cur, rfl, hB, hh, r⟩
  · exact Or.inl h0
  · exact Or.inr ⟨g, cap, cur, rfl, hB, (hb g rfl (lt_of_some hh)).trans hh, r⟩
theorem own_raise {w : World} {B B' e size n : Nat} {v : Value} {xs : List Value} (h : w.ownsRow B e size v n xs) (hb : ∀ b, v.ownBlock = some b → B' ≤ b) : w.ownsRow B' e size v n xs := by
  refine ⟨h.1, ?_⟩
  rcases h.2 with h0 | ⟨g, cap, cur, rfl, hB, r⟩
  · exact Or.inl h0
  · exact Or.inr ⟨g, cap, cur, rfl, hb g rfl, r⟩
theorem own_kind {w : World} {B e size n : Nat} {v : Value} {xs : List Value} (h : w.ownsRow B e size v n xs) {b : Nat} (hb : v.ownBlock = some b) : ∃ cur, w.heap[b]? = some (.cells cur e (0, 0)) := by
  rcases h.2 with ⟨rfl, _⟩ | ⟨g, cap, cur, rfl, hB, hh, r⟩
  · cases hb
  · cases hb
    exact ⟨cur, hh⟩
theorem kind_apart {w : World} {b c : Nat} {cur cur' : Array Value} {ty ty' : TypeId} (h : w.heap[b]? = some (.cells cur ty (0, 0))) (h' : w.heap[c]? = some (.cells cur' ty' (0, 0))) (hne : ty ≠ ty') : b ≠ c := by
  intro e
  subst e
  rw [h] at h'
  injection h' with h'
  injection h' with _ e _
  exact hne e

end Go.Proofs.Ytnkopcmkanibhaa

/-
  append onto a row that the call itself owns, from a source of whatever address (nil, too): what it leaves. Laws for other texts; no statement of its own.
-/
namespace Go.Proofs.Ytnkopcmkanibhaa
open Go Go.RowKit

section
variable {P : Program} (w : World)

theorem run_app (t ty : TypeId) (base : Nat) (e : TypeId) (i : TypeInfo) (z : Value) (size bytes : Nat) (ht : P.underlying t = some (.slice e)) (hi : P.info? e = some i) (hz : i.zero = some z)
    (hsize : i.size = size) (hby : i.bytes = bytes) (hzs : z.cells.size = size) (hsz : 0 < size)
    (v : Value) (n : Nat) (xs : List Value) (hown : w.ownsRow base e size v n xs)
    (A : Option Addr) (m c : Nat) (news : List Value) (hl : news.length = m * size) (hnil : A = none → m = 0) (hnews : ∀ ad, A = some ad → ∀ j u, news[j]? = some u → w.cell? (ad.add j) = some u) (h1 : ∀ u ∈ news, u.oneCell' = true)
    (h63 : n + m ≤ maxLen) (hbytes : (n + m) * bytes ≤ 140737488355328) (hbase : base ≤ w.heap.size) :
    ∃ v' w', (Builtin.append_ #[t, t] ty #[v, .slice A m c]).run P w = .ok v' w' ∧ w'.ownsRow base e size v' (n + m) (xs ++ news) ∧ w.grownBy w' v.ownBlock := by
  cases A with
  | none =>
    have hm := hnil rfl
    subst hm
    have hn : news = [] := List.eq_nil_of_length_eq_zero (by simpa using hl)
    subst hn
    refine ⟨v, w, ?_, by simpa using hown, ⟨rfl, rfl, rfl, Nat.le_refl _, fun _ _ _ => rfl⟩⟩
    rcases hown.2 with ⟨rfl, rfl⟩ | ⟨g, cap, cur, rfl, _, _, hnc, _⟩
    · simp [Builtin.append_, run_underlying ht, sizeOf, typeInfo, hi, Builtin.lenOf, Builtin.firstCells]
    · simp [Builtin.append_, run_underlying ht, sizeOf, typeInfo, hi, Builtin.lenOf, Builtin.firstCells, hnc, storeCells]
  | some ad =>
    obtain ⟨v', w', hr, h2, h3, _⟩ := run_append_own_at (P := P) w base t ty e i z size bytes ht hi hz hsize hby hzs hsz v n xs hown ad m c news hl (hnews ad rfl) h1 h63 hbytes hbase
    exact ⟨v', w', hr, h2, h3⟩

/-- At the operation. -/
theorem wp_app {o : Oper} {a : Act} {K : Act → World → Prop} {Q : Exit → Act → World → Prop} (s x : Operand) (t : TypeId)
    (ho : o.op = .call { callee := .builtin .append, args := #[s, x], argTypes := #[t, t] })
    (base : Nat) (e : TypeId) (i : TypeInfo) (z : Value) (size bytes : Nat) (ht : P.underlying t = some (.slice e)) (hi : P.info? e = some i) (hz : i.zero = some z)
    (hsize : i.size = size) (hby : i.bytes = bytes) (hzs : z.cells.size = size) (hsz : 0 < size)
    (v : Value) (n : Nat) (xs : List Value) (hs : a.eval s = v) (hown : w.ownsRow base e size v n xs)
    (A : Option Addr) (m c : Nat) (news : List Value) (hx : a.eval x = .slice A m c) (hl : news.length = m * size) (hnil : A = none → m = 0) (hnews : ∀ ad, A = some ad → ∀ j u, news[j]? = some u → w.cell? (ad.add j) = some u) (h1 : ∀ u ∈ news, u.oneCell' = true)
    (h63 : n + m ≤ maxLen) (hbytes : (n + m) * bytes ≤ 140737488355328) (hbase : base ≤ w.heap.size)
    (h : ∀ v' w', w'.ownsRow base e size v' (n + m) (xs ++ news) → w.grownBy w' v.ownBlock → K (a.put o.dst v') w') : o.wp P a w K Q := by
  obtain ⟨v', w', hr, h2, h3⟩ := run_app (P := P) w t o.type base e i z size bytes ht hi hz hsize hby hzs hsz v n xs hown A m c news hl hnil hnews h1 h63 hbytes hbase
  unfold Oper.wp execOp
  simp only [ho, resolve, invoke, builtin, Sem.run_bind, Sem.run_pure, Result.andThen_ok, List.map_toArray, List.map_cons, List.map_nil, hs, hx, hr]
  exact h v' w' h2 h3

/-- At the list of a plain region's operations. -/
theorem wpList_app {ops : Array Oper} {rest : List Oper} {o : Oper} {a : Act} {Q : Exit → Act → World → Prop} (hgd : o.guard = none) (s x : Operand) (t : TypeId)
    (ho : o.op = .call { callee := .builtin .append, args := #[s, x], argTypes := #[t, t] })
    (base : Nat) (e : TypeId) (i : TypeInfo) (z : Value) (size bytes : Nat) (ht : P.underlying t = some (.slice e)) (hi : P.info? e = some i) (hz : i.zero = some z)
    (hsize : i.size = size) (hby : i.bytes = bytes) (hzs : z.cells.size = size) (hsz : 0 < size)
    (v : Value) (n : Nat) (xs : List Value) (hs : a.eval s = v) (hown : w.ownsRow base e size v n xs)
    (A : Option Addr) (m c : Nat) (news : List Value) (hx : a.eval x = .slice A m c) (hl : news.length = m * size) (hnil : A = none → m = 0) (hnews : ∀ ad, A = some ad → ∀ j u, news[j]? = some u → w.cell? (ad.add j) = some u) (h1 : ∀ u ∈ news, u.oneCell' = true)
    (h63 : n + m ≤ maxLen) (hbytes : (n + m) * bytes ≤ 140737488355328) (hbase : base ≤ w.heap.size)
    (h : ∀ v' w', w'.ownsRow base e size v' (n + m) (xs ++ news) → w.grownBy w' v.ownBlock → wpList P ops Q rest (a.put o.dst v') w') : wpList P ops Q (o :: rest) a w :=
  wpList_plain hgd fun _ hK => wp_app w s x t ho base e i z size bytes ht hi hz hsize hby hzs hsz v n xs hs hown A m c news hx hl hnil hnews h1 h63 hbytes hbase fun v' w' h2 h3 => hK _ _ (h v' w' h2 h3)

/-- At a step of a region that draws its order. -/
theorem step_app {ops : Array Oper} {o : Oper} {a : Act} {K : Act → World → Prop} {Q : Exit → Act → World → Prop} {E : Prop} (hgd : o.guard = none) (s x : Operand) (t : TypeId)
    (ho : o.op = .call { callee := .builtin .append, args := #[s, x], argTypes := #[t, t] })
    (base : Nat) (e : TypeId) (i : TypeInfo) (z : Value) (size bytes : Nat) (ht : P.underlying t = some (.slice e)) (hi : P.info? e = some i) (hz : i.zero = some z)
    (hsize : i.size = size) (hby : i.bytes = bytes) (hzs : z.cells.size = size) (hsz : 0 < size)
    (v : Value) (n : Nat) (xs : List Value) (hs : a.eval s = v) (hown : w.ownsRow base e size v n xs)
    (A : Option Addr) (m c : Nat) (news : List Value) (hx : a.eval x = .slice A m c) (hl : news.length = m * size) (hnil : A = none → m = 0) (hnews : ∀ ad, A = some ad → ∀ j u, news[j]? = some u → w.cell? (ad.add j) = some u) (h1 : ∀ u ∈ news, u.oneCell' = true)
    (h63 : n + m ≤ maxLen) (hbytes : (n + m) * bytes ≤ 140737488355328) (hbase : base ≤ w.heap.size)
    (h : ∀ v' w', w'.ownsRow base e size v' (n + m) (xs ++ news) → w.grownBy w' v.ownBlock → K (a.put o.dst v') w') :
    if Region.wanted o (yielded ops a.tmps) = true then Oper.wp P o a w K Q else E := by
  have hw : Region.wanted o (yielded ops a.tmps) = true := by simp [Region.wanted, hgd]
  rw [if_pos hw]
  exact wp_app w s x t ho base e i z size bytes ht hi hz hsize hby hzs hsz v n xs hs hown A m c news hx hl hnil hnews h1 h63 hbytes hbase h

end

/-- The bytes of a source that reads, as the laws above ask for them. -/
theorem news_rd {w : World} {B : Nat} {A : Option Addr} {xs : List Int} (h : RdB w B A xs) : ∀ ad, A = some ad → ∀ j u, (xs.map (Value.int .u8))[j]? = some u → w.cell? (ad.add j) = some u := by
  intro ad hA j u hu
  have hj : j < xs.length := by
    rcases Nat.lt_or_ge j xs.length with h | h
    · exact h
    · rw [List.getElem?_eq_none (by simpa using h)] at hu; cases hu
  obtain ⟨b, off, e, _, hc⟩ := h j hj
  rw [hA] at e
  injection e with e
  subst e
  have hadd : (⟨b, off, none⟩ : Addr).add j = ⟨b, off + j, none⟩ := by unfold Addr.add; split <;> simp_all
  rw [hadd, hc]
  simp only [List.getElem?_map, List.getElem?_eq_getElem hj, Option.map_some, Option.some.injEq] at hu
  rw [← hu, List.getD_eq_getElem?_getD, List.getElem?_eq_getElem hj]
  rfl
theorem bytes_oneCell (xs : List Int) : ∀ u ∈ xs.map (Value.int .u8), u.oneCell' = true := by
  intro u hu
  simp only [List.mem_map] at hu
  obtain ⟨x, _, rfl⟩ := hu
  rfl

end Go.Proofs.Ytnkopcmkanibhaa
