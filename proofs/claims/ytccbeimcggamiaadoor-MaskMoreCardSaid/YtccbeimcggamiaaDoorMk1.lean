/-
  Several texts of this proof in one file: Base, SetMath, Mem, SetPop, SetLists, RefRd. No statement of its own.
-/
import Derived.Test.YtccbeimcggamiaaDoorRows
import Derived.WalkKit
import Derived.WalkSpells
import Derived.WalkLawsBesides
import Derived.Laws.Bits64
import Derived.Laws.Bits64b
import Derived.IntWalk
import Derived.RowKit
import Derived.Laws.BitsLemmas
import Derived.Lib.Hide
import Derived.Deep.QuietTactic
import Derived.BigQuiet
set_option linter.unusedVariables false
set_option linter.unusedSimpArgs false

/-
  Words for memory that the walks share: what stays as it was; a row of bytes that reads as a list of numbers. Laws for other texts; no statement of its own.
-/
namespace Go.Proofs.YtccbeimcggamiaaDoor
open Go Go.RowKit

theorem lt_of_some {w : World} {g : Nat} {o : Obj} (h : w.heap[g]? = some o) : g < w.heap.size := by
  rcases Nat.lt_or_ge g w.heap.size with hlt | hge
  · exact hlt
  · rw [Array.getElem?_eq_none hge] at h; cases h

/-- What is owned stays owned where all that was there is as it was. -/
theorem own_stays {w w' : World} {B e size n : Nat} {v : Value} {xs : List Value} (h : w.ownsRow B e size v n xs) (hb : Below w.heap.size w w') : w'.ownsRow B e size v n xs := by
  refine ⟨h.1, ?_⟩
  rcases h.2 with h0 | ⟨g, cap, cur, hv, hB, hh, r⟩
  · exact Or.inl h0
  · exact Or.inr ⟨g, cap, cur, hv, hB, (hb.block g (lt_of_some hh)).trans hh, r⟩
theorem own_lower {w : World} {B B' e size n : Nat} {v : Value} {xs : List Value} (h : w.ownsRow B e size v n xs) (hB : B' ≤ B) : w.ownsRow B' e size v n xs := by
  refine ⟨h.1, ?_⟩
  rcases h.2 with h0 | ⟨g, cap, cur, hv, hg, r⟩
  · exact Or.inl h0
  · exact Or.inr ⟨g, cap, cur, hv, by omega, r⟩

theorem gro {w a b : World} (h : Below w.heap.size w a) (hb : Below a.heap.size a b) : Below w.heap.size w b := h.trans (hb.mono h.size)
theorem gro1 {w a b : World} {o : Obj} (h : Below w.heap.size w a) (hb : Below (a.alloc o).heap.size (a.alloc o) b) : Below w.heap.size w b := gro (h.alloc h.size o) hb
theorem undrew {w w1 : World} (h : Below w.drew.heap.size w.drew w1) : Below w.heap.size w w1 := ⟨h.os, h.tape, h.output, h.size, h.block⟩
theorem cell_stays {w w1 : World} {a : Addr} {v : Value} (h : w.cell? a = some v) (hb : Below w.heap.size w w1) : w1.cell? a = some v := (hb.cell (World.block_lt_of_cell? w a h)).trans h
/-- The bytes that lie from A on read as xs, in a block below B. -/
def RdB (w : World) (B : Nat) (A : Option Addr) (xs : List Int) : Prop :=
  ∀ k, k < xs.length → ∃ b off, A = some ⟨b, off, none⟩ ∧ b < B ∧ w.cell? ⟨b, off + k, none⟩ = some (.int .u8 (xs.getD k 0))

section
variable {w w' : World} {B B' : Nat} {A : Option Addr} {xs : List Int}
theorem RdB.below (h : RdB w B A xs) (hb : Below B w w') : RdB w' B A xs := fun k hk => by
  obtain ⟨b, off, e, hB, hc⟩ := h k hk
  exact ⟨b, off, e, hB, (hb.cell (p := ⟨b, off + k, none⟩) hB).trans hc⟩
theorem RdB.more (h : RdB w B A xs) (hB : B ≤ B') : RdB w B' A xs := fun k hk => by
  obtain ⟨b, off, e, hb, hc⟩ := h k hk
  exact ⟨b, off, e, by omega, hc⟩
theorem RdB.at (h : RdB w B A xs) {k : Nat} (hk : k < xs.length) : ∃ b off, A = some ⟨b, off, none⟩ ∧ b < B ∧ ∀ j, j < xs.length → w.cell? ⟨b, off + j, none⟩ = some (.int .u8 (xs.getD j 0)) := by
  obtain ⟨b, off, e, hB, _⟩ := h k hk
  refine ⟨b, off, e, hB, fun j hj => ?_⟩
  obtain ⟨b', off', e', _, hc⟩ := h j hj
  rw [e] at e'
  injection e' with e'
  injection e' with e1 e2
  subst e1 e2
  exact hc
theorem rd_own {base n : Nat} {e : TypeId} {v : Value} (h : w.ownsRow base e 1 v n (xs.map (Value.int .u8))) : ∃ A cap, v = .slice A n cap ∧ n = xs.length ∧ RdB w w.heap.size A xs ∧ (A = none → n = 0 ∧ cap = 0) := by
  have hn : n = xs.length := by have := h.1; simp at this; omega
  rcases h.2 with ⟨rfl, rfl⟩ | ⟨g, cap, cur, rfl, hg, hh, hc, hm, hs, ht⟩
  · exact ⟨none, 0, rfl, hn, fun k hk => by omega, fun _ => ⟨rfl, rfl⟩⟩
  · refine ⟨_, cap, rfl, hn, fun k hk => ⟨g, 0, rfl, lt_of_some hh, ?_⟩, fun h => by cases h⟩
    rw [Nat.zero_add, cell_of_row w g k cur e (0, 0) hh]
    have e1 : (cur.toList.take (n * 1))[k]? = (xs.map (Value.int .u8))[k]? := by rw [ht]
    rw [List.getElem?_take_of_lt (by omega)] at e1
    rw [← Array.getElem?_toList, e1]
    simp [List.getD_eq_getElem?_getD, List.getElem?_eq_getElem hk]
end

end Go.Proofs.YtccbeimcggamiaaDoor

/-
  Sets of bytes as four words of 64 bits: plain mathematics, no program. A set is a test p on numbers; 'word p i' is its i-th word; what or, not, one byte more, a look-up and a count of ones do to words is said of p.
-/
namespace Go.Proofs.YtccbeimcggamiaaDoor
open Go

/-- The number whose bit j is q j, for j below n. -/
def bitsN (q : Nat → Bool) : Nat → Nat
  | 0 => 0
  | n + 1 => (q 0).toNat + 2 * bitsN (fun j => q (j + 1)) n

theorem bitsN_lt : ∀ (n : Nat) (q : Nat → Bool), bitsN q n < 2 ^ n
  | 0, _ => by simp [bitsN]
  | n + 1, q => by
    have h := bitsN_lt n (fun j => q (j + 1))
    have : (q 0).toNat ≤ 1 := by cases q 0 <;> simp
    rw [bitsN, Nat.pow_succ]
    omega

theorem bitsN_test : ∀ (n : Nat) (q : Nat → Bool) (j : Nat), (bitsN q n).testBit j = (decide (j < n) && q j)
  | 0, q, j => by simp [bitsN]
  | n + 1, q, 0 => by
    rw [bitsN, Nat.testBit_zero]
    cases q 0 <;> simp <;> omega
  | n + 1, q, j + 1 => by
    have h := bitsN_test n (fun j => q (j + 1)) j
    rw [bitsN, Nat.testBit_add_one, show ((q 0).toNat + 2 * bitsN (fun j => q (j + 1)) n) / 2 = bitsN (fun j => q (j + 1)) n by cases q 0 <;> simp <;> omega, h]
    simp

theorem bitsN_congr (n : Nat) (q r : Nat → Bool) (h : ∀ j, j < n → q j = r j) : bitsN q n = bitsN r n := by
  apply Nat.eq_of_testBit_eq
  intro j
  rw [bitsN_test, bitsN_test]
  by_cases hj : j < n
  · simp [hj, h j hj]
  · simp [hj]

theorem bitsN_of (n x : Nat) (h : x < 2 ^ n) : bitsN x.testBit n = x := by
  apply Nat.eq_of_testBit_eq
  intro j
  rw [bitsN_test]
  by_cases hj : j < n
  · simp [hj]
  · have : x.testBit j = false := Nat.testBit_lt_two_pow (Nat.lt_of_lt_of_le h (Nat.pow_le_pow_right (by omega) (by omega)))
    simp [hj, this]

/-- The i-th word of the set p. -/
def wordN (p : Nat → Bool) (i : Nat) : Nat := bitsN (fun j => p (64 * i + j)) 64
def word (p : Nat → Bool) (i : Nat) : Int := (wordN p i : Int)

theorem wordN_lt (p : Nat → Bool) (i : Nat) : wordN p i < 18446744073709551616 := bitsN_lt 64 _
theorem word_nonneg (p : Nat → Bool) (i : Nat) : 0 ≤ word p i := by unfold word; omega
theorem word_lt (p : Nat → Bool) (i : Nat) : word p i ≤ 18446744073709551615 := by have := wordN_lt p i; unfold word; omega
theorem wordN_test (p : Nat → Bool) (i j : Nat) : (wordN p i).testBit j = (decide (j < 64) && p (64 * i + j)) := bitsN_test 64 _ j
theorem wordN_congr (p q : Nat → Bool) (i : Nat) (h : ∀ j, j < 64 → p (64 * i + j) = q (64 * i + j)) : wordN p i = wordN q i := bitsN_congr 64 _ _ h
theorem word_congr {p q : Nat → Bool} (h : ∀ x, x < 256 → p x = q x) {i : Nat} (hi : i < 4) : word p i = word q i := by
  unfold word
  rw [wordN_congr p q i fun j hj => h _ (by omega)]
theorem word_inj {p q : Nat → Bool} (h : ∀ i, i < 4 → word p i = word q i) (x : Nat) (hx : x < 256) : p x = q x := by
  have e := h (x / 64) (by omega)
  unfold word at e
  have e' : wordN p (x / 64) = wordN q (x / 64) := by omega
  have t := congrArg (fun n => n.testBit (x % 64)) e'
  simp only [wordN_test] at t
  have hm : x % 64 < 64 := by omega
  have hx' : 64 * (x / 64) + x % 64 = x := by omega
  simpa [hm, hx'] using t

theorem word_of (a : Int) (p : Nat → Bool) (i : Nat) (h : 0 ≤ a ∧ a ≤ 18446744073709551615) (hp : ∀ j, j < 64 → p (64 * i + j) = a.toNat.testBit j) : a = word p i := by
  unfold word wordN
  rw [bitsN_congr 64 _ _ hp, bitsN_of 64 a.toNat (by omega)]
  omega

/-- Any four words are a set's. -/
theorem words_of (a0 a1 a2 a3 : Int) (h0 : 0 ≤ a0 ∧ a0 ≤ 18446744073709551615) (h1 : 0 ≤ a1 ∧ a1 ≤ 18446744073709551615) (h2 : 0 ≤ a2 ∧ a2 ≤ 18446744073709551615) (h3 : 0 ≤ a3 ∧ a3 ≤ 18446744073709551615) :
    ∃ p : Nat → Bool, a0 = word p 0 ∧ a1 = word p 1 ∧ a2 = word p 2 ∧ a3 = word p 3 := by
  refine ⟨fun x => (if x < 64 then a0.toNat.testBit x else if x < 128 then a1.toNat.testBit (x - 64) else if x < 192 then a2.toNat.testBit (x - 128) else a3.toNat.testBit (x - 192)), word_of _ _ _ h0 ?_, word_of _ _ _ h1 ?_, word_of _ _ _ h2 ?_, word_of _ _ _ h3 ?_⟩
  · intro j hj
    have e2 : 64 * 0 + j = j := by omega
    simp only [e2, hj, if_true]
  · intro j hj
    have e1 : ¬ (64 * 1 + j < 64) := by omega
    have e2 : 64 * 1 + j < 128 := by omega
    have e4 : 64 * 1 + j - 64 = j := by omega
    simp only [e1, e2, if_true, if_false, e4]
  · intro j hj
    have e1 : ¬ (64 * 2 + j < 64) := by omega
    have e2 : ¬ (64 * 2 + j < 128) := by omega
    have e3 : 64 * 2 + j < 192 := by omega
    have e4 : 64 * 2 + j - 128 = j := by omega
    simp only [e1, e2, e3, if_true, if_false, e4]
  · intro j hj
    have e1 : ¬ (64 * 3 + j < 64) := by omega
    have e2 : ¬ (64 * 3 + j < 128) := by omega
    have e3 : ¬ (64 * 3 + j < 192) := by omega
    have e4 : 64 * 3 + j - 192 = j := by omega
    simp only [e1, e2, e3, if_false, e4]

/-- One byte more. -/
def add1 (p : Nat → Bool) (b : Nat) : Nat → Bool := fun x => p x || x == b
def orP (p q : Nat → Bool) : Nat → Bool := fun x => p x || q x
def notP (p : Nat → Bool) : Nat → Bool := fun x => !p x
def noneP : Nat → Bool := fun _ => false
def rangeP (lo hi : Int) : Nat → Bool := fun x => decide (lo ≤ x) && decide ((x : Int) ≤ hi)
def memP (l : List Int) : Nat → Bool := fun x => l.any fun y => y == (x : Int)

theorem word_none (i : Nat) : word noneP i = 0 := by
  have : wordN noneP i = 0 := by
    apply Nat.eq_of_testBit_eq; intro j; rw [wordN_test]; simp [noneP]
  simp [word, this]

theorem wrap_u64_of {n : Int} (h0 : 0 ≤ n) (h1 : n ≤ 18446744073709551615) : IntKind.u64.wrap n = n := by
  simp [IntKind.wrap, IntKind.bits, IntKind.signed]
  omega

theorem pow_bd (b : Int) (h0 : 0 ≤ b) : ((2 : Int) ^ (b % 64).toNat) = ((2 ^ (b % 64).toNat : Nat) : Int) ∧ 2 ^ (b % 64).toNat < 18446744073709551616 := by
  refine ⟨by simp, ?_⟩
  have : (b % 64).toNat ≤ 63 := by omega
  have h := Nat.pow_le_pow_right (n := 2) (by omega) this
  have e : (2 : Nat) ^ 63 = 9223372036854775808 := by decide
  omega

/-- The look-up: v >> (b % 64) & 1 == 1. -/
theorem has_bits (p : Nat → Bool) (b : Int) (h0 : 0 ≤ b) (h1 : b ≤ 255) :
    (bits .and .u64 (word p (b / 64).toNat / 2 ^ (b % 64).toNat) 1 == 1) = p b.toNat := by
  have e := (pow_bd b h0).1
  have lt : wordN p (b / 64).toNat / 2 ^ (b % 64).toNat < 18446744073709551616 := Nat.lt_of_le_of_lt (Nat.div_le_self _ _) (wordN_lt _ _)
  unfold word
  rw [e, ← Int.natCast_ediv, show (1 : Int) = ((1 : Nat) : Int) from rfl, bits_and_u64_nat _ _ lt (by omega)]
  have t := wordN_test p (b / 64).toNat (b % 64).toNat
  rw [Nat.testBit_eq_decide_div_mod_eq] at t
  have hm : (b % 64).toNat < 64 := by omega
  have hx : 64 * (b / 64).toNat + (b % 64).toNat = b.toNat := by omega
  rw [hx] at t
  simp only [hm, decide_true, Bool.true_and] at t
  rw [← t, Nat.and_one_is_mod]
  generalize wordN p (b / 64).toNat / 2 ^ (b % 64).toNat = m
  rw [Bool.eq_iff_iff, beq_iff_eq, decide_eq_true_iff]
  omega

/-- The look-up by the remainder: v >> (b % 64) % 2 == 1. -/
theorem has_mod (p : Nat → Bool) (b : Int) (h0 : 0 ≤ b) (h1 : b ≤ 255) :
    ((word p (b / 64).toNat / 2 ^ (b % 64).toNat).tmod 2 == 1) = p b.toNat := by
  have e := (pow_bd b h0).1
  unfold word
  rw [e, ← Int.natCast_ediv]
  have t := wordN_test p (b / 64).toNat (b % 64).toNat
  rw [Nat.testBit_eq_decide_div_mod_eq] at t
  have hm : (b % 64).toNat < 64 := by omega
  have hx : 64 * (b / 64).toNat + (b % 64).toNat = b.toNat := by omega
  rw [hx] at t
  simp only [hm, decide_true, Bool.true_and] at t
  rw [← t]
  generalize wordN p (b / 64).toNat / 2 ^ (b % 64).toNat = m
  rw [Int.tmod_eq_emod_of_nonneg (by omega), Bool.eq_iff_iff, beq_iff_eq, decide_eq_true_iff]
  omega

theorem add1_words (p : Nat → Bool) (b : Nat) (i : Nat) (hi : i ≠ b / 64) : word (add1 p b) i = word p i := by
  unfold word
  rw [wordN_congr (add1 p b) p i fun j hj => ?_]
  have : ¬ (64 * i + j = b) := by omega
  simp [add1, this]

theorem add1_wordN (p : Nat → Bool) (b : Nat) : wordN (add1 p b) (b / 64) = wordN p (b / 64) ||| 2 ^ (b % 64) := by
  apply Nat.eq_of_testBit_eq
  intro j
  rw [Nat.testBit_or, wordN_test, wordN_test, Nat.testBit_two_pow]
  by_cases hj : j < 64
  · have : (64 * (b / 64) + j == b) = decide (b % 64 = j) := by
      rw [Bool.eq_iff_iff]; simp; omega
    simp [hj, add1, this]
  · have : ¬ (b % 64 = j) := by omega
    simp [hj, this]

/-- One byte more, by or. -/
theorem add1_or (p : Nat → Bool) (b : Int) (h0 : 0 ≤ b) (h1 : b ≤ 255) :
    bits .or .u64 (word p (b / 64).toNat) (IntKind.u64.wrap (2 ^ (b % 64).toNat)) = word (add1 p b.toNat) (b / 64).toNat := by
  obtain ⟨e, lt⟩ := pow_bd b h0
  unfold word
  have wr : IntKind.u64.wrap ((2 ^ (b % 64).toNat : Nat) : Int) = ((2 ^ (b % 64).toNat : Nat) : Int) := by
    generalize 2 ^ (b % 64).toNat = m at lt ⊢
    exact wrap_u64_of (by omega) (by omega)
  rw [e, wr, bits_or_u64_nat _ _ (wordN_lt _ _) lt]
  have hd : (b / 64).toNat = b.toNat / 64 := by omega
  have hm : (b % 64).toNat = b.toNat % 64 := by omega
  rw [hd, hm, add1_wordN]

theorem bitsN_add : ∀ (n : Nat) (q : Nat → Bool) (b : Nat), b < n → q b = false → bitsN (fun j => q j || j == b) n = bitsN q n + 2 ^ b
  | n + 1, q, 0, _, hq => by
    have e : bitsN (fun j => (q (j + 1) || j + 1 == 0)) n = bitsN (fun j => q (j + 1)) n := bitsN_congr _ _ _ fun j _ => by simp
    simp only [bitsN, e, hq]
    simp
    omega
  | n + 1, q, b + 1, hb, hq => by
    have h := bitsN_add n (fun j => q (j + 1)) b (by omega) hq
    have e : bitsN (fun j => (q (j + 1) || j + 1 == b + 1)) n = bitsN (fun j => (q (j + 1) || j == b)) n := bitsN_congr _ _ _ fun j _ => by simp
    have e0 : (q 0 || 0 == b + 1) = q 0 := by simp
    simp only [bitsN, e, e0, h, Nat.pow_succ]
    omega

/-- One byte more, by a sum, where it wasn't there. -/
theorem add1_sum (p : Nat → Bool) (b : Int) (h0 : 0 ≤ b) (h1 : b ≤ 255) (hp : p b.toNat = false) :
    IntKind.u64.wrap (word p (b / 64).toNat + IntKind.u64.wrap (2 ^ (b % 64).toNat)) = word (add1 p b.toNat) (b / 64).toNat := by
  obtain ⟨e, lt⟩ := pow_bd b h0
  have key : wordN (add1 p b.toNat) (b / 64).toNat = wordN p (b / 64).toNat + 2 ^ (b % 64).toNat := by
    have hx : 64 * (b / 64).toNat + (b % 64).toNat = b.toNat := by omega
    have h := bitsN_add 64 (fun j => p (64 * (b / 64).toNat + j)) (b % 64).toNat (by omega) (by rw [hx]; exact hp)
    unfold wordN
    rw [← h]
    apply bitsN_congr
    intro j hj
    have : (64 * (b / 64).toNat + j == b.toNat) = (j == (b % 64).toNat) := by
      rw [Bool.eq_iff_iff]; simp; omega
    simp [add1, this]
  have bd := wordN_lt (add1 p b.toNat) (b / 64).toNat
  unfold word
  rw [e, key]
  generalize 2 ^ (b % 64).toNat = m at *
  rw [wrap_u64_of (n := (m : Int)) (by omega) (by omega), wrap_u64_of (by omega) (by omega)]
  omega

theorem or_words (p q : Nat → Bool) (i : Nat) : bits .or .u64 (word p i) (word q i) = word (orP p q) i := by
  unfold word
  have e : wordN p i ||| wordN q i = wordN (orP p q) i := by
    apply Nat.eq_of_testBit_eq
    intro j
    rw [Nat.testBit_or, wordN_test, wordN_test, wordN_test]
    cases decide (j < 64) <;> simp [orP]
  rw [bits_or_u64_nat _ _ (wordN_lt _ _) (wordN_lt _ _), e]

theorem not_words (p : Nat → Bool) (i : Nat) : bits .xor .u64 18446744073709551615 (word p i) = word (notP p) i := by
  have e : (2 ^ 64 - 1) ^^^ wordN p i = wordN (notP p) i := by
    apply Nat.eq_of_testBit_eq
    intro j
    rw [Nat.testBit_xor, wordN_test, wordN_test, Nat.testBit_two_pow_sub_one]
    cases decide (j < 64) <;> simp [notP]
  have h := bits_xor_u64_nat (2 ^ 64 - 1) (wordN p i) (by decide) (wordN_lt _ _)
  rw [e] at h
  exact h

end Go.Proofs.YtccbeimcggamiaaDoor

/-
  Words for memory that the walks share: a block that holds the four words of a set. No statement of its own.
-/
namespace Go.Proofs.YtccbeimcggamiaaDoor
open Go Go.RowKit


/-- The set p as a value. -/
def setV (p : Nat → Bool) : Value := .agg #[.int .u64 (word p 0), .int .u64 (word p 1), .int .u64 (word p 2), .int .u64 (word p 3)]
theorem setV_congr {p q : Nat → Bool} (h : ∀ x, x < 256 → p x = q x) : setV p = setV q := by
  unfold setV
  rw [word_congr h (i := 0) (by omega), word_congr h (i := 1) (by omega), word_congr h (i := 2) (by omega), word_congr h (i := 3) (by omega)]

/-- Block g holds the four words of the set p. -/
def Box4 (w : World) (g : Nat) (p : Nat → Bool) : Prop := w.heap[g]? = some (.cells #[.int .u64 (word p 0), .int .u64 (word p 1), .int .u64 (word p 2), .int .u64 (word p 3)] 26 (0, 0))

section
variable {w w' : World} {g B : Nat} {p q : Nat → Bool}
theorem Box4.cell (h : Box4 w g p) :
    w.cell? ⟨g, 0, none⟩ = some (.int .u64 (word p 0)) ∧ w.cell? ⟨g, 1, none⟩ = some (.int .u64 (word p 1)) ∧ w.cell? ⟨g, 2, none⟩ = some (.int .u64 (word p 2)) ∧ w.cell? ⟨g, 3, none⟩ = some (.int .u64 (word p 3)) := by
  unfold Box4 at h
  refine ⟨?_, ?_, ?_, ?_⟩ <;> exact cell_of_row w g _ _ 26 (0, 0) h
theorem Box4.frozen (h : Box4 w g p) :
    w.frozen? ⟨g, 0, none⟩ = false ∧ w.frozen? ⟨g, 1, none⟩ = false ∧ w.frozen? ⟨g, 2, none⟩ = false ∧ w.frozen? ⟨g, 3, none⟩ = false := by
  unfold Box4 at h
  refine ⟨?_, ?_, ?_, ?_⟩ <;> simp [World.frozen?, h]
theorem Box4.below (h : Box4 w g p) (hb : Below B w w') (hg : g < B) : Box4 w' g p := (hb.block g hg).trans h
theorem Box4.lt (h : Box4 w g p) : g < w.heap.size := lt_of_some h
theorem Box4.stays (h : Box4 w g p) (hb : Below w.heap.size w w') : Box4 w' g p := h.below hb h.lt
theorem Box4.alloc (h : Box4 w g p) (o : Obj) : Box4 (w.alloc o) g p := (Below.heap_alloc w o g h.lt).trans h
theorem Box4.grown {row : Option Nat} (h : Box4 w g p) (hb : w.grownBy w' row) (hg : some g ≠ row) : Box4 w' g p := (hb.block g h.lt hg).trans h
theorem Box4.far (h : Box4 w g p) {a : Addr} (ha : g ≠ a.block) (u : Value) : Box4 (w.setCell a u) g p := (Below.heap_setCell w a u g ha).trans h
theorem Box4.new (w : World) (p : Nat → Bool) : Box4 (w.alloc (.cells #[.int .u64 (word p 0), .int .u64 (word p 1), .int .u64 (word p 2), .int .u64 (word p 3)] 26)) w.heap.size p := heap_alloc_new w _
theorem Box4.new0 (w : World) : Box4 (w.alloc (.cells #[.int .u64 0, .int .u64 0, .int .u64 0, .int .u64 0] 26)) w.heap.size noneP := by
  have h := Box4.new w noneP
  simpa only [word_none] using h
theorem Box4.congr (h : Box4 w g p) (hq : ∀ x, x < 256 → p x = q x) : Box4 w g q := by
  unfold Box4 at h ⊢
  rwa [← word_congr hq (i := 0) (by omega), ← word_congr hq (i := 1) (by omega), ← word_congr hq (i := 2) (by omega), ← word_congr hq (i := 3) (by omega)]

/-- The world with all four words stored anew. -/
def put4 (w : World) (g : Nat) (q : Nat → Bool) : World :=
  (((w.setCell ⟨g, 0, none⟩ (.int .u64 (word q 0))).setCell ⟨g, 1, none⟩ (.int .u64 (word q 1))).setCell ⟨g, 2, none⟩ (.int .u64 (word q 2))).setCell ⟨g, 3, none⟩ (.int .u64 (word q 3))
theorem Box4.put (h : Box4 w g p) (q : Nat → Bool) : Box4 (put4 w g q) g q := by
  unfold Box4 put4 at *
  simp [World.setCell, Array.getElem?_modify, h]
theorem Box4.set1 (h : Box4 w g p) (i : Nat) (hi : i < 4) (hq : ∀ j, j ≠ i → word q j = word p j) : Box4 (w.setCell ⟨g, i, none⟩ (.int .u64 (word q i))) g q := by
  unfold Box4 at *
  match i, hi with
  | 0, _ => rw [hq 1 (by omega), hq 2 (by omega), hq 3 (by omega)]; simp [World.setCell, Array.getElem?_modify, h]
  | 1, _ => rw [hq 0 (by omega), hq 2 (by omega), hq 3 (by omega)]; simp [World.setCell, Array.getElem?_modify, h]
  | 2, _ => rw [hq 0 (by omega), hq 1 (by omega), hq 3 (by omega)]; simp [World.setCell, Array.getElem?_modify, h]
  | 3, _ => rw [hq 0 (by omega), hq 1 (by omega), hq 2 (by omega)]; simp [World.setCell, Array.getElem?_modify, h]
theorem Box4.drew (h : Box4 w g p) : Box4 w.drew g p := h
theorem Box4.putFar {g' : Nat} (h : Box4 w g p) (hg : g ≠ g') (q : Nat → Bool) : Box4 (put4 w g' q) g p :=
  (((h.far (a := ⟨g', 0, none⟩) hg _).far (a := ⟨g', 1, none⟩) hg _).far (a := ⟨g', 2, none⟩) hg _).far (a := ⟨g', 3, none⟩) hg _
theorem below_put4 {a : World} (h : Below B a w) (hg : B ≤ g) (q : Nat → Bool) : Below B a (put4 w g q) :=
  (((h.setCell (p := ⟨g, 0, none⟩) hg _).setCell (p := ⟨g, 1, none⟩) hg _).setCell (p := ⟨g, 2, none⟩) hg _).setCell (p := ⟨g, 3, none⟩) hg _
end

end Go.Proofs.YtccbeimcggamiaaDoor

/-
  The count of ones of a word of 64 bits, by sums within the word, as the library's OnesCount64 reckons it: what it comes to is how many bits are 1. Plain mathematics, no program.
-/
namespace Go.Proofs.YtccbeimcggamiaaDoor
open Go Go.RowKit

/-- How many j below n have q j. -/
def cntN (q : Nat → Bool) : Nat → Nat
  | 0 => 0
  | n + 1 => (q 0).toNat + cntN (fun j => q (j + 1)) n

theorem land_split (a b c d : Nat) (ha : a < 256) (hc : c < 256) : (a + 256 * b) &&& (c + 256 * d) = (a &&& c) + 256 * (b &&& d) := by
  have hac : a &&& c < 2 ^ 8 := Nat.and_lt_two_pow _ hc
  apply Nat.eq_of_testBit_eq
  intro j
  rw [show a + 256 * b = 2 ^ 8 * b + a by omega, show c + 256 * d = 2 ^ 8 * d + c by omega, show (a &&& c) + 256 * (b &&& d) = 2 ^ 8 * (b &&& d) + (a &&& c) by omega]
  rw [Nat.testBit_and, Nat.testBit_two_pow_mul_add _ ha, Nat.testBit_two_pow_mul_add _ hc, Nat.testBit_two_pow_mul_add _ hac]
  by_cases h : j < 8 <;> simp [h]

theorem land_byte (x c d : Nat) (hc : c < 256) : x &&& (c + 256 * d) = (x % 256 &&& c) + 256 * (x / 256 &&& d) := by
  have h := land_split (x % 256) (x / 256) c d (by omega) hc
  rwa [show x % 256 + 256 * (x / 256) = x by omega] at h

/-- n bytes c. -/
def msk (c : Nat) : Nat → Nat
  | 0 => 0
  | n + 1 => c + 256 * msk c n

def sumA (n x : Nat) : Nat := (x / 2 &&& msk 85 n) + (x &&& msk 85 n)
def sumB (n x : Nat) : Nat := (x / 4 &&& msk 51 n) + (x &&& msk 51 n)
def sumC (n x : Nat) : Nat := (x / 16 + x) &&& msk 15 n
def a8 (b : Nat) : Nat := (b / 2 &&& 85) + (b &&& 85)
def b8 (b : Nat) : Nat := (b / 4 &&& 51) + (b &&& 51)
def c8 (b : Nat) : Nat := (b / 16 + b) &&& 15

theorem a8_cross : ∀ b : Fin 256, ∀ c : Fin 2, ((b.val / 2 + 128 * c.val) &&& 85) = (b.val / 2 &&& 85) := by decide +kernel
theorem b8_cross : ∀ b : Fin 256, ∀ c : Fin 4, ((b.val / 4 + 64 * c.val) &&& 51) = (b.val / 4 &&& 51) := by decide +kernel
theorem c8_cross : ∀ b : Fin 69, ∀ c : Fin 5, ((b.val / 16 + b.val + 16 * c.val) &&& 15) = c8 b.val := by decide +kernel
theorem a8_lt : ∀ b : Fin 256, a8 b.val < 256 := by decide +kernel
theorem b8_le : ∀ b : Fin 256, b8 b.val ≤ 102 := by decide +kernel
theorem ba8_le : ∀ b : Fin 256, b8 (a8 b.val) ≤ 68 ∧ b8 (a8 b.val) % 16 ≤ 4 := by decide +kernel
theorem cba8 : ∀ b : Fin 256, c8 (b8 (a8 b.val)) = cntN b.val.testBit 8 := by decide +kernel

theorem sumA_succ (n x : Nat) : sumA (n + 1) x = a8 (x % 256) + 256 * sumA n (x / 256) := by
  have hc := a8_cross ⟨x % 256, by omega⟩ ⟨x / 256 % 2, by omega⟩
  simp only at hc
  unfold sumA a8
  rw [show msk 85 (n + 1) = 85 + 256 * msk 85 n from rfl, land_byte (x / 2) 85 _ (by omega), land_byte x 85 _ (by omega), show x / 2 % 256 = x % 256 / 2 + 128 * (x / 256 % 2) by omega, hc, show x / 2 / 256 = x / 256 / 2 by omega]
  omega

theorem sumB_succ (n x : Nat) : sumB (n + 1) x = b8 (x % 256) + 256 * sumB n (x / 256) := by
  have hc := b8_cross ⟨x % 256, by omega⟩ ⟨x / 256 % 4, by omega⟩
  simp only at hc
  unfold sumB b8
  rw [show msk 51 (n + 1) = 51 + 256 * msk 51 n from rfl, land_byte (x / 4) 51 _ (by omega), land_byte x 51 _ (by omega), show x / 4 % 256 = x % 256 / 4 + 64 * (x / 256 % 4) by omega, hc, show x / 4 / 256 = x / 256 / 4 by omega]
  omega

theorem sumC_succ (n x : Nat) (h0 : x % 256 ≤ 68) (h1 : x / 256 % 16 ≤ 4) : sumC (n + 1) x = c8 (x % 256) + 256 * sumC n (x / 256) := by
  have hc := c8_cross ⟨x % 256, by omega⟩ ⟨x / 256 % 16, by omega⟩
  simp only at hc
  unfold sumC
  rw [show msk 15 (n + 1) = 15 + 256 * msk 15 n from rfl, land_byte (x / 16 + x) 15 _ (by omega), show (x / 16 + x) % 256 = x % 256 / 16 + x % 256 + 16 * (x / 256 % 16) by omega, hc, show (x / 16 + x) / 256 = x / 256 / 16 + x / 256 by omega]

theorem sumBA_succ (n x : Nat) : sumB (n + 1) (sumA (n + 1) x) = b8 (a8 (x % 256)) + 256 * sumB n (sumA n (x / 256)) := by
  have l := a8_lt ⟨x % 256, by omega⟩
  simp only at l
  rw [sumB_succ, sumA_succ, show (a8 (x % 256) + 256 * sumA n (x / 256)) % 256 = a8 (x % 256) by omega, show (a8 (x % 256) + 256 * sumA n (x / 256)) / 256 = sumA n (x / 256) by omega]

theorem sumBA_mod : ∀ (n x : Nat), sumB n (sumA n x) % 16 ≤ 4
  | 0, x => by simp [sumB, msk]
  | n + 1, x => by
    have l := ba8_le ⟨x % 256, by omega⟩
    simp only at l
    rw [sumBA_succ]
    omega

theorem sumBA_le : ∀ (n x : Nat), sumB n (sumA n x) ≤ msk 68 n
  | 0, x => by simp [sumB, msk]
  | n + 1, x => by
    have l := ba8_le ⟨x % 256, by omega⟩
    simp only at l
    have h := sumBA_le n (x / 256)
    rw [sumBA_succ, msk]
    omega

theorem sumCBA_succ (n x : Nat) : sumC (n + 1) (sumB (n + 1) (sumA (n + 1) x)) = cntN (x % 256).testBit 8 + 256 * sumC n (sumB n (sumA n (x / 256))) := by
  have l := ba8_le ⟨x % 256, by omega⟩
  have e := cba8 ⟨x % 256, by omega⟩
  simp only at l e
  have m := sumBA_mod n (x / 256)
  have s := sumBA_succ n x
  rw [sumC_succ n _ (by rw [s]; omega) (by rw [s]; omega), s, show (b8 (a8 (x % 256)) + 256 * sumB n (sumA n (x / 256))) % 256 = b8 (a8 (x % 256)) by omega, show (b8 (a8 (x % 256)) + 256 * sumB n (sumA n (x / 256))) / 256 = sumB n (sumA n (x / 256)) by omega, e]

theorem cntN_le : ∀ (n : Nat) (q : Nat → Bool), cntN q n ≤ n
  | 0, _ => by simp [cntN]
  | n + 1, q => by
    have h := cntN_le n (fun j => q (j + 1))
    have : (q 0).toNat ≤ 1 := by cases q 0 <;> simp
    rw [cntN]
    omega
theorem cntN_congr : ∀ (n : Nat) (q r : Nat → Bool), (∀ j, j < n → q j = r j) → cntN q n = cntN r n
  | 0, _, _, _ => rfl
  | n + 1, q, r, h => by rw [cntN, cntN, h 0 (by omega), cntN_congr n _ _ fun j hj => h (j + 1) (by omega)]
theorem cntN_add : ∀ (m n : Nat) (q : Nat → Bool), cntN q (m + n) = cntN q m + cntN (fun j => q (m + j)) n
  | 0, n, q => by simp [cntN]
  | m + 1, n, q => by
    have e : cntN (fun j => q (m + j + 1)) n = cntN (fun j => q (m + 1 + j)) n := cntN_congr _ _ _ fun j _ => by congr 1; omega
    rw [show m + 1 + n = (m + n) + 1 by omega, cntN, cntN, cntN_add m n, e]
    omega
theorem cntN_not : ∀ (n : Nat) (q : Nat → Bool), cntN q n + cntN (fun j => !q j) n = n
  | 0, _ => rfl
  | n + 1, q => by
    have h := cntN_not n (fun j => q (j + 1))
    rw [cntN, cntN]
    cases q 0 <;> simp <;> omega

theorem test_byte (x k : Nat) : cntN (x / 256 ^ k % 256).testBit 8 = cntN (fun j => x.testBit (8 * k + j)) 8 := by
  apply cntN_congr
  intro j hj
  rw [show (256 : Nat) = 2 ^ 8 from rfl, ← Nat.pow_mul, Nat.testBit_mod_two_pow, Nat.testBit_div_two_pow]
  simp [hj, Nat.add_comm]

/-- The three steps within bytes: eight counts, one a byte. -/
theorem bytes_of (x : Nat) : ∃ c0 c1 c2 c3 c4 c5 c6 c7 : Nat, (c0 ≤ 8 ∧ c1 ≤ 8 ∧ c2 ≤ 8 ∧ c3 ≤ 8 ∧ c4 ≤ 8 ∧ c5 ≤ 8 ∧ c6 ≤ 8 ∧ c7 ≤ 8) ∧ c0 + c1 + c2 + c3 + c4 + c5 + c6 + c7 = cntN x.testBit 64 ∧
    sumC 8 (sumB 8 (sumA 8 x)) = c0 + 256 * (c1 + 256 * (c2 + 256 * (c3 + 256 * (c4 + 256 * (c5 + 256 * (c6 + 256 * c7)))))) := by
  have f : ∀ k, cntN (x / 256 ^ k % 256).testBit 8 ≤ 8 := fun k => cntN_le _ _
  refine ⟨_, _, _, _, _, _, _, _, ⟨f 0, f 1, f 2, f 3, f 4, f 5, f 6, f 7⟩, ?_, ?_⟩
  · simp only [test_byte]
    rw [show (64 : Nat) = 8 + (8 + (8 + (8 + (8 + (8 + (8 + 8)))))) from rfl]
    simp only [cntN_add]
    simp only [← Nat.add_assoc, Nat.mul_zero, Nat.zero_add, Nat.mul_one, Nat.reduceMul, Nat.reduceAdd]
  · simp only [sumCBA_succ]
    rw [show sumC 0 (sumB 0 (sumA 0 (x / 256 / 256 / 256 / 256 / 256 / 256 / 256 / 256))) = 0 by simp [sumC, msk]]
    simp only [Nat.div_div_eq_div_mul, Nat.pow_zero, Nat.div_one, Nat.pow_one, Nat.mul_zero, Nat.add_zero]

def st1 (a : Int) : Int := IntKind.u64.wrap (bits .and .u64 (a / 2) 6148914691236517205 + bits .and .u64 a 6148914691236517205)
def st2 (a : Int) : Int := IntKind.u64.wrap (bits .and .u64 (a / 4) 3689348814741910323 + bits .and .u64 a 3689348814741910323)
def st3 (a : Int) : Int := bits .and .u64 (IntKind.u64.wrap (a / 16 + a)) 1085102592571150095
def st4 (a : Int) : Int := IntKind.u64.wrap (a + a / 256)
def st5 (a : Int) : Int := IntKind.u64.wrap (a + a / 65536)
def st6 (a : Int) : Int := IntKind.u64.wrap (a + a / 4294967296)
def st7 (a : Int) : Int := bits .and .i64 (wrap64 a) 127

theorem and_le_mask (x m : Nat) : x &&& m ≤ m := Nat.and_le_right

theorem st1_eq (x : Nat) (h : x < 18446744073709551616) : st1 x = (sumA 8 x : Nat) := by
  have e1 := bits_and_u64_nat (x / 2) 6148914691236517205 (by omega) (by omega)
  have e2 := bits_and_u64_nat x 6148914691236517205 h (by omega)
  have m : msk 85 8 = 6148914691236517205 := rfl
  have l1 : x / 2 &&& 6148914691236517205 ≤ 6148914691236517205 := and_le_mask _ _
  have l2 : x &&& 6148914691236517205 ≤ 6148914691236517205 := and_le_mask _ _
  unfold st1 sumA
  rw [m, show ((x : Int) / 2) = ((x / 2 : Nat) : Int) by omega]
  rw [show (6148914691236517205 : Int) = ((6148914691236517205 : Nat) : Int) from rfl, e1, e2, wrap_u64_of (by omega) (by omega)]
  omega

theorem sumA_le (x : Nat) : sumA 8 x ≤ 12297829382473034410 := by
  have m : msk 85 8 = 6148914691236517205 := rfl
  unfold sumA
  rw [m]
  have l1 : x / 2 &&& 6148914691236517205 ≤ 6148914691236517205 := and_le_mask _ _
  have l2 : x &&& 6148914691236517205 ≤ 6148914691236517205 := and_le_mask _ _
  omega

theorem st2_eq (x : Nat) (h : x < 18446744073709551616) : st2 x = (sumB 8 x : Nat) := by
  have e1 := bits_and_u64_nat (x / 4) 3689348814741910323 (by omega) (by omega)
  have e2 := bits_and_u64_nat x 3689348814741910323 h (by omega)
  have m : msk 51 8 = 3689348814741910323 := rfl
  have l1 : x / 4 &&& 3689348814741910323 ≤ 3689348814741910323 := and_le_mask _ _
  have l2 : x &&& 3689348814741910323 ≤ 3689348814741910323 := and_le_mask _ _
  unfold st2 sumB
  rw [m, show ((x : Int) / 4) = ((x / 4 : Nat) : Int) by omega]
  rw [show (3689348814741910323 : Int) = ((3689348814741910323 : Nat) : Int) from rfl, e1, e2, wrap_u64_of (by omega) (by omega)]
  omega

theorem st3_eq (x : Nat) (h : x ≤ 4919131752989213764) : st3 x = (sumC 8 x : Nat) := by
  have e1 := bits_and_u64_nat (x / 16 + x) 1085102592571150095 (by omega) (by omega)
  have m : msk 15 8 = 1085102592571150095 := rfl
  unfold st3 sumC
  rw [m, wrap_u64_of (by omega) (by omega), show ((x : Int) / 16 + x) = ((x / 16 + x : Nat) : Int) by omega]
  rw [show (1085102592571150095 : Int) = ((1085102592571150095 : Nat) : Int) from rfl, e1]

theorem wraps_i64 (n : Int) (h₀ : 0 ≤ n) (h₁ : n < 2 ^ 63) : IntKind.i64.wrap n = n := by rw [IntKind.wrap_i64]; omega

theorem st7_eq (a : Int) (h0 : 0 ≤ a) (h1 : a < 9223372036854775808) : st7 a = a % 128 := by
  unfold st7
  have e : wrap64 a = a := by unfold wrap64; omega
  rw [e]
  exact bits_mask .i64 63 (by decide) wraps_i64 7 (by omega) a h0 (by omega)

theorem wrap_nat (n : Nat) (h : n ≤ 9223372036854775807) : IntKind.u64.wrap (n : Int) = n := wrap_u64_of (by omega) (by omega)

/-- The sums come to the count. -/
theorem ones_eq (x : Nat) (h : x < 18446744073709551616) : st7 (st6 (st5 (st4 (st3 (st2 (st1 x)))))) = (cntN x.testBit 64 : Nat) := by
  have lA := sumA_le x
  have lB := sumBA_le 8 x
  rw [show msk 68 8 = 4919131752989213764 from rfl] at lB
  rw [st1_eq x h, st2_eq _ (by omega), st3_eq _ lB]
  obtain ⟨c0, c1, c2, c3, c4, c5, c6, c7, ⟨h0, h1, h2, h3, h4, h5, h6, h7⟩, hs, e⟩ := bytes_of x
  rw [e, ← hs]
  clear e hs lA lB h
  obtain ⟨u7, q7⟩ : ∃ u, u = c7 := ⟨_, rfl⟩
  obtain ⟨u6, q6⟩ : ∃ u, u = c6 + 256 * u7 := ⟨_, rfl⟩
  obtain ⟨u5, q5⟩ : ∃ u, u = c5 + 256 * u6 := ⟨_, rfl⟩
  obtain ⟨u4, q4⟩ : ∃ u, u = c4 + 256 * u5 := ⟨_, rfl⟩
  obtain ⟨u3, q3⟩ : ∃ u, u = c3 + 256 * u4 := ⟨_, rfl⟩
  obtain ⟨u2, q2⟩ : ∃ u, u = c2 + 256 * u3 := ⟨_, rfl⟩
  obtain ⟨u1, q1⟩ : ∃ u, u = c1 + 256 * u2 := ⟨_, rfl⟩
  obtain ⟨u0, q0⟩ : ∃ u, u = c0 + 256 * u1 := ⟨_, rfl⟩
  rw [← q7, ← q6, ← q5, ← q4, ← q3, ← q2, ← q1, ← q0]
  have b7 : u7 ≤ 8 := by omega
  have b6 : u6 ≤ 2056 := by omega
  have b5 : u5 ≤ 526344 := by omega
  have b4 : u4 ≤ 134744072 := by omega
  have b3 : u3 ≤ 34494482440 := by omega
  have b2 : u2 ≤ 8830587504648 := by omega
  have b1 : u1 ≤ 2260630401189896 := by omega
  have b0 : u0 ≤ 578721382704613384 := by omega
  have d4 : (u0 : Int) / 256 = u1 := by omega
  have e4 : st4 (u0 : Int) = ((u0 + u1 : Nat) : Int) := by unfold st4; rw [d4, wrap_u64_of (by omega) (by omega)]; omega
  rw [e4]
  have d5 : u0 + u1 = (c0 + c1 + 256 * (c1 + c2)) + 65536 * (u2 + u3) := by omega
  have d5' : ((u0 + u1 : Nat) : Int) / 65536 = ((u2 + u3 : Nat) : Int) := by rw [d5]; clear q0 q1 q2 q3 q4 q5 q6 d4 d5 e4; omega
  have e5 : st5 ((u0 + u1 : Nat) : Int) = ((u0 + u1 + (u2 + u3) : Nat) : Int) := by unfold st5; rw [d5', wrap_u64_of (by omega) (by omega)]; omega
  rw [e5]
  have d6 : u0 + u1 + (u2 + u3) = ((c0 + c1 + c2 + c3) + 256 * (c1 + c2 + c3 + c4) + 65536 * (c2 + c3 + c4 + c5) + 16777216 * (c3 + c4 + c5 + c6)) + 4294967296 * (u4 + u5 + u6 + u7) := by clear d5 d5' e4 e5 d4; omega
  have d6' : ((u0 + u1 + (u2 + u3) : Nat) : Int) / 4294967296 = ((u4 + u5 + u6 + u7 : Nat) : Int) := by rw [d6]; clear q0 q1 q2 q3 q4 q5 q6 d4 d5 d5' d6 e4 e5; omega
  have hb : u0 + u1 + (u2 + u3) + (u4 + u5 + u6 + u7) ≤ 9223372036854775807 := by clear d6 d6' d5 d5' e4 e5 d4 q0 q1 q2 q3 q4 q5 q6 q7; omega
  have e6 : st6 ((u0 + u1 + (u2 + u3) : Nat) : Int) = ((u0 + u1 + (u2 + u3) + (u4 + u5 + u6 + u7) : Nat) : Int) := by unfold st6; rw [d6', ← Int.natCast_add, wrap_nat _ hb]
  rw [e6, st7_eq _ (Int.natCast_nonneg _) (by clear d6 d6' d5 d5' e4 e5 e6 d4 q0 q1 q2 q3 q4 q5 q6 q7; omega), d6]
  clear d6 d6' d5 d5' e4 e5 e6 d4 q0 q1 q2 q3 b0 b1 b2 b3 b4 b5 b6 hb
  omega

end Go.Proofs.YtccbeimcggamiaaDoor

/-
  Sets of bytes, and lists of bytes: what the sets of lists have, the list of a set's bytes; the row of the type byte. No function of the program; no statement of its own.
-/
namespace Go.Proofs.YtccbeimcggamiaaDoor
open Go Go.RowKit

theorem words_at (p : Nat → Bool) (b : Int) (h0 : 0 ≤ b) (h1 : b ≤ 255) :
    [Value.int .u64 (word p 0), .int .u64 (word p 1), .int .u64 (word p 2), .int .u64 (word p 3)][(b / 64).toNat]? = some (.int .u64 (word p (b / 64).toNat)) := by
  have : (b / 64).toNat < 4 := by omega
  match h : (b / 64).toNat, this with
  | 0, _ => rfl
  | 1, _ => rfl
  | 2, _ => rfl
  | 3, _ => rfl

theorem mem_step (xs : List Int) (k : Nat) (hk : k < xs.length) (h0 : 0 ≤ xs.getD k 0) (x : Nat) : add1 (memP (xs.take k)) (xs.getD k 0).toNat x = memP (xs.take (k + 1)) x := by
  unfold add1 memP
  rw [List.take_succ_eq_append_getElem hk, List.any_append]
  rw [List.getD_eq_getElem?_getD, List.getElem?_eq_getElem hk] at *
  simp only [List.any_cons, List.any_nil, Bool.or_false, Option.getD_some] at *
  congr 1
  rw [Bool.eq_iff_iff]
  simp
  omega

/-- The numbers below k that the set p has, by size. -/
def listP (p : Nat → Bool) (k : Nat) : List Int := ((List.range k).filter p).map fun x : Nat => (x : Int)
theorem listP_hit (p : Nat → Bool) (k : Nat) (h : p k = true) : listP p (k + 1) = listP p k ++ [(k : Int)] := by
  unfold listP
  rw [List.range_succ, List.filter_append, List.map_append]
  simp [h]
theorem listP_miss (p : Nat → Bool) (k : Nat) (h : p k = false) : listP p (k + 1) = listP p k := by
  unfold listP
  rw [List.range_succ, List.filter_append, List.map_append]
  simp [h]
theorem listP_len : ∀ (p : Nat → Bool) (k : Nat), (listP p k).length = cntN p k
  | p, 0 => rfl
  | p, k + 1 => by
    rw [cntN_add k 1]
    cases h : p k
    · rw [listP_miss p k h, listP_len p k]; simp [cntN, h]
    · rw [listP_hit p k h, List.length_append, listP_len p k]; simp [cntN, h]
theorem listP_le (p : Nat → Bool) (k : Nat) : (listP p k).length ≤ k := by rw [listP_len]; exact cntN_le _ _
theorem listP_mem (p : Nat → Bool) (k : Nat) (v : Int) : v ∈ listP p k ↔ 0 ≤ v ∧ v < k ∧ p v.toNat = true := by
  unfold listP
  simp only [List.mem_map, List.mem_filter, List.mem_range]
  constructor
  · rintro ⟨x, ⟨h1, h2⟩, rfl⟩
    exact ⟨by omega, by omega, by simpa using h2⟩
  · rintro ⟨h0, h1, h2⟩
    exact ⟨v.toNat, ⟨by omega, h2⟩, by omega⟩
theorem listP_get (p : Nat → Bool) (k : Nat) (hk : k ≤ 256) : ∀ j, j < (listP p k).length → 0 ≤ (listP p k).getD j 0 ∧ (listP p k).getD j 0 ≤ 255 := by
  intro j hj
  have : (listP p k).getD j 0 ∈ listP p k := by
    rw [List.getD_eq_getElem?_getD, List.getElem?_eq_getElem hj]
    exact List.getElem_mem hj
  have := (listP_mem p k _).1 this
  omega
theorem memP_list (p : Nat → Bool) (k x : Nat) (hx : x < k) : memP (listP p k) x = p x := by
  unfold memP
  rw [Bool.eq_iff_iff, List.any_eq_true]
  constructor
  · rintro ⟨v, hv, e⟩
    have := (listP_mem p k v).1 hv
    have e' : v = (x : Int) := by simpa using e
    subst e'
    simpa using this.2.2
  · intro h
    exact ⟨(x : Int), (listP_mem p k _).2 ⟨by omega, by omega, by simpa using h⟩, by simp⟩

/-- All bytes of the set p, by size. -/
def allP (p : Nat → Bool) : List Int := listP p 256

theorem allP_get (p : Nat → Bool) : ∀ j, j < (allP p).length → 0 ≤ (allP p).getD j 0 ∧ (allP p).getD j 0 ≤ 255 := listP_get p 256 (by omega)
theorem allP_le (p : Nat → Bool) : (allP p).length ≤ 9223372036854775807 := by have := listP_le p 256; unfold allP; omega
theorem memP_all (p : Nat → Bool) (x : Nat) (hx : x < 256) : memP (allP p) x = p x := memP_list p 256 x hx

theorem Tryd.infoByte : (Tryd.prog.info? 5).map (fun i => (i.zero, i.size, i.bytes)) = some (some (.int .u8 0), 1, 1) := by kernel_rfl

theorem rd_new1 (w : World) (v : Int) : RdB (w.alloc (.cells #[.int .u8 v] 5)) (w.alloc (.cells #[.int .u8 v] 5)).heap.size (some ⟨w.heap.size, 0, none⟩) [v] := by
  intro k hk
  have : k = 0 := by simp at hk; omega
  subst this
  exact ⟨w.heap.size, 0, rfl, by simp, by simp⟩

end Go.Proofs.YtccbeimcggamiaaDoor

/-
  The document's own reader of patterns (package snaffleref02, type Reader): its state as plain numbers, and what its small steps do. Contracts for other texts; no statement of its own.
-/
namespace Go.Proofs.YtccbeimcggamiaaDoor
open Go Go.RowKit

/-- Where the reader is; how many brackets are open; what is amiss (0: nothing); where. -/
structure St where
  pos : Nat
  opn : Int
  bad : Int
  spot : Int

/-- Byte k of a text, as a number. -/
def bt (s : ByteArray) (k : Nat) : Nat := (s.data.toList.getD k 0).toNat
theorem bt_eq (s : ByteArray) (k : Nat) (h : k < s.size) : bt s k = (s[k]'h).toNat := by
  unfold bt
  rw [List.getD_eq_getElem?_getD, List.getElem?_eq_getElem (by simpa using h)]
  rfl
theorem bt_lt (s : ByteArray) (k : Nat) : bt s k < 256 := by unfold bt; exact UInt8.toNat_lt _

namespace St
def fail (st : St) (at_ bad : Int) : St := if st.bad = 0 then { st with bad := bad, spot := at_ } else st
def peek (s : ByteArray) (st : St) : Int := if st.bad ≠ 0 ∨ s.size ≤ st.pos then -1 else (bt s st.pos : Int)
def step (st : St) (k : Nat) : St := { st with pos := st.pos + k }
def next (s : ByteArray) (st : St) : Int × St := if st.peek s < 0 then (-1, st.fail s.size 2) else (st.peek s, st.step 1)
end St

/-- Block g holds the reader. -/
def Rdr (w : World) (g : Nat) (s : ByteArray) (st : St) : Prop :=
  w.heap[g]? = some (.cells #[.string s, .int .i64 (st.pos : Int), .int .i64 st.opn, .int .i64 st.bad, .int .i64 st.spot] 136 (0, 0))

section
variable {w w' : World} {g : Nat} {s : ByteArray} {st : St}
theorem Rdr.cell (h : Rdr w g s st) : w.cell? ⟨g, 0, none⟩ = some (.string s) ∧ w.cell? ⟨g, 1, none⟩ = some (.int .i64 (st.pos : Int)) ∧ w.cell? ⟨g, 2, none⟩ = some (.int .i64 st.opn) ∧ w.cell? ⟨g, 3, none⟩ = some (.int .i64 st.bad) ∧ w.cell? ⟨g, 4, none⟩ = some (.int .i64 st.spot) := by
  unfold Rdr at h
  refine ⟨?_, ?_, ?_, ?_, ?_⟩ <;> exact cell_of_row w g _ _ 136 (0, 0) h
theorem Rdr.frozen (h : Rdr w g s st) : w.frozen? ⟨g, 0, none⟩ = false ∧ w.frozen? ⟨g, 1, none⟩ = false ∧ w.frozen? ⟨g, 2, none⟩ = false ∧ w.frozen? ⟨g, 3, none⟩ = false ∧ w.frozen? ⟨g, 4, none⟩ = false := by
  unfold Rdr at h
  refine ⟨?_, ?_, ?_, ?_, ?_⟩ <;> simp [World.frozen?, h]
theorem Rdr.lt (h : Rdr w g s st) : g < w.heap.size := lt_of_some h
theorem Rdr.drew (h : Rdr w g s st) : Rdr w.drew g s st := h
theorem Rdr.drewN (h : Rdr w g s st) (n : Nat) : Rdr (w.drewN n) g s st := h
end

section
variable {w w' : World} {g : Nat} {s : ByteArray} {st : St}
theorem Rdr.setPos (h : Rdr w g s st) (k : Nat) : Rdr (w.setCell ⟨g, 1, none⟩ (.int .i64 (k : Int))) g s { st with pos := k } := by
  unfold Rdr at *
  simp [World.setCell, Array.getElem?_modify, h]
theorem Rdr.setOpn (h : Rdr w g s st) (k : Int) : Rdr (w.setCell ⟨g, 2, none⟩ (.int .i64 k)) g s { st with opn := k } := by
  unfold Rdr at *
  simp [World.setCell, Array.getElem?_modify, h]
theorem Rdr.setBad (h : Rdr w g s st) (k : Int) : Rdr (w.setCell ⟨g, 3, none⟩ (.int .i64 k)) g s { st with bad := k } := by
  unfold Rdr at *
  simp [World.setCell, Array.getElem?_modify, h]
theorem Rdr.setSpot (h : Rdr w g s st) (k : Int) : Rdr (w.setCell ⟨g, 4, none⟩ (.int .i64 k)) g s { st with spot := k } := by
  unfold Rdr at *
  simp [World.setCell, Array.getElem?_modify, h]
theorem Rdr.stays (h : Rdr w g s st) (hb : Below w.heap.size w w') : Rdr w' g s st := (hb.block g h.lt).trans h
theorem Rdr.put4 (h : Rdr w g s st) {g' : Nat} (hg : g ≠ g') (q : Nat → Bool) : Rdr (put4 w g' q) g s st := by
  unfold Rdr Go.Proofs.YtccbeimcggamiaaDoor.put4 at *
  rw [Below.heap_setCell _ _ _ _ hg, Below.heap_setCell _ _ _ _ hg, Below.heap_setCell _ _ _ _ hg, Below.heap_setCell _ _ _ _ hg]
  exact h
theorem Rdr.far4 (h : Rdr w g s st) {g' : Nat} (hg : g ≠ g') (v0 v1 v2 v3 : Value) : Rdr ((((w.setCell ⟨g', 0, none⟩ v0).setCell ⟨g', 1, none⟩ v1).setCell ⟨g', 2, none⟩ v2).setCell ⟨g', 3, none⟩ v3) g s st := by
  unfold Rdr at *
  rw [Below.heap_setCell _ _ _ _ hg, Below.heap_setCell _ _ _ _ hg, Below.heap_setCell _ _ _ _ hg, Below.heap_setCell _ _ _ _ hg]
  exact h
theorem Rdr.alloc (h : Rdr w g s st) (o : Obj) : Rdr (w.alloc o) g s st := (Below.heap_alloc w o g h.lt).trans h
end

/-- Only block g, and new ones, have turned. -/
theorem only_refl (w : World) (r : Option Nat) : w.grownBy w r := ⟨rfl, rfl, rfl, Nat.le_refl _, fun _ _ _ => rfl⟩
theorem only_trans {a b c : World} {r : Option Nat} (h : a.grownBy b r) (k : b.grownBy c r) : a.grownBy c r :=
  ⟨k.os.trans h.os, k.tape.trans h.tape, k.output.trans h.output, Nat.le_trans h.size k.size, fun i hi hr => (k.block i (Nat.lt_of_lt_of_le hi h.size) hr).trans (h.block i hi hr)⟩
theorem only_set {a b : World} {g i : Nat} (h : a.grownBy b (some g)) (v : Value) : a.grownBy (b.setCell ⟨g, i, none⟩ v) (some g) :=
  only_trans h ⟨rfl, rfl, rfl, by simp [World.setCell], fun k _ hk => Below.heap_setCell _ _ _ _ (by intro e; subst e; exact hk rfl)⟩
theorem only_drew {a b : World} {r : Option Nat} (h : a.grownBy b r) : a.grownBy b.drew r := ⟨h.os, h.tape, h.output, h.size, h.block⟩
theorem only_drewN {a b : World} {r : Option Nat} (h : a.grownBy b r) (n : Nat) : a.grownBy (b.drewN n) r := ⟨h.os, h.tape, h.output, h.size, h.block⟩
theorem only_alloc {a b : World} {r : Option Nat} (h : a.grownBy b r) (o : Obj) : a.grownBy (b.alloc o) r :=
  only_trans h ⟨rfl, rfl, rfl, by simp, fun k hk _ => Below.heap_alloc _ _ _ hk⟩
theorem only_below {a b c : World} {r : Option Nat} (h : a.grownBy b r) (k : Below b.heap.size b c) : a.grownBy c r :=
  only_trans h ⟨k.os, k.tape, k.output, k.size, fun i hi _ => k.block i hi⟩

/-- Blocks that came behind a are no block of a's. -/
theorem only_setNew {a b : World} {g g' i : Nat} (h : a.grownBy b (some g)) (hg : a.heap.size ≤ g') (v : Value) : a.grownBy (b.setCell ⟨g', i, none⟩ v) (some g) :=
  ⟨h.os, h.tape, h.output, by simpa [World.setCell] using h.size, fun k hk hr => (Below.heap_setCell _ _ _ _ (by show k ≠ g'; omega)).trans (h.block k hk hr)⟩
theorem only_put4 {a b : World} {g g' : Nat} (h : a.grownBy b (some g)) (hg : a.heap.size ≤ g') (q : Nat → Bool) : a.grownBy (put4 b g' q) (some g) :=
  only_setNew (only_setNew (only_setNew (only_setNew h hg _) hg _) hg _) hg _

set_option maxHeartbeats 400000 in
theorem fail_p (w : World) (g : Nat) (s : ByteArray) (st : St) (a b : Int) (h : Rdr w g s st) :
    Calls Tryd.prog 106 #[.pointer (some ⟨g, 0, none⟩), .int .i64 a, .int .i64 b] w fun e w' => e = .returned (.tuple #[]) ∧ Rdr w' g s (st.fail a b) ∧ w.grownBy w' (some g) := by
  obtain ⟨c0, c1, c2, c3, c4⟩ := h.cell
  obtain ⟨f0, f1, f2, f3, f4⟩ := h.frozen
  by_cases hb : st.bad = 0
  · have hb' : (st.bad == 0) = true := by simp [hb]
    have e : st.fail a b = { st with bad := b, spot := a } := by unfold St.fail; rw [if_pos hb]
    rw [e]
    clear e hb
    go_enter Tryd.func106, Tryd.ntmps106
    go_wp2
    go_end0
    exact ⟨rfl, (h.setBad b).setSpot a, only_set (only_set (only_refl _ _) _) _⟩
  · have hb' : (st.bad == 0) = false := by simp [hb]
    have e : st.fail a b = st := by unfold St.fail; rw [if_neg hb]
    rw [e]
    clear e hb
    go_enter Tryd.func106, Tryd.ntmps106
    go_wp2
    go_end0
    exact ⟨rfl, h, only_refl _ _⟩

theorem drew_two (w : World) (m n : Nat) : (w.drewN m).drewN n = w.drewN (m + n) := by
  unfold World.drewN
  simp [Nat.add_assoc]

set_option maxHeartbeats 400000 in
theorem peek_p (w : World) (g : Nat) (s : ByteArray) (st : St) (h : Rdr w g s st) (hs : s.size ≤ 1000) :
    Calls Tryd.prog 86 #[.pointer (some ⟨g, 0, none⟩)] w fun e w' => e = .returned (.int .i64 (st.peek s)) ∧ ∃ n, w' = w.drewN n := by
  obtain ⟨c0, c1, c2, c3, c4⟩ := h.cell
  by_cases hb : st.bad = 0
  · have hb' : (st.bad != 0) = false := by simp [hb]
    by_cases hlt : st.pos < s.size
    · have hd : decide (s.size ≤ st.pos) = false := by simp; omega
      have e : st.peek s = ((s[st.pos]'hlt).toNat : Int) := by unfold St.peek; rw [if_neg (by omega), bt_eq s _ hlt]
      rw [e]
      clear e hb
      have k0 : (0 : Int) ≤ (st.pos : Int) := by omega
      have k1 : (st.pos : Int) < (s.size : Int) := by omega
      go_enter Tryd.func86, Tryd.ntmps86
      go_wp2
      go_quiet (fail)
      go_wp2
      go_quiet (fail)
      go_wp2
      go_ret
      refine ⟨congrArg Ending.returned (congrArg (Value.int .i64) ?_), _, drew_two _ _ _⟩
      have := UInt8.toNat_lt (s[st.pos]'hlt)
      unfold wrap64
      omega
    · have hd : decide (s.size ≤ st.pos) = true := by simp; omega
      have e : st.peek s = -1 := by unfold St.peek; rw [if_pos (by omega)]
      rw [e]
      clear e hb
      go_enter Tryd.func86, Tryd.ntmps86
      go_wp2
      go_quiet (fail)
      go_wp2
      go_ret
      exact ⟨rfl, _, rfl⟩
  · have hb' : (st.bad != 0) = true := by simp [hb]
    have e : st.peek s = -1 := by unfold St.peek; rw [if_pos (by omega)]
    rw [e]
    clear e hb
    go_enter Tryd.func86, Tryd.ntmps86
    go_wp2
    go_quiet (fail)
    go_wp2
    go_ret
    exact ⟨rfl, _, rfl⟩

end Go.Proofs.YtccbeimcggamiaaDoor
