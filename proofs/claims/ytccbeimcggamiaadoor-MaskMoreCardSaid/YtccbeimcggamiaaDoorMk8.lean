/-
  Several texts of this proof in one file: Bits, Pl, Tz, All, Pl2, Span. No statement of its own.
-/
import Derived.Test.YtccbeimcggamiaaDoorMk1
import Derived.Test.YtccbeimcggamiaaDoorMk4
import Derived.Maps.AppendAt
import Derived.Laws.OwnMore
import Derived.Deep.LoopGhost
import Derived.Deep.DrawnRows
import Derived.RangeFuncNested
import Derived.RangeFuncBound
import Derived.RangeFuncCalls
import Derived.RangeFuncLeaves
import Derived.Shelf.Abstract
import Derived.Shelf.RegionOpen
import Derived.WalkKit
import Derived.OwnWalkIn
import Derived.TacticsInMore
import Derived.LoopNIn
import Derived.LoopIn
import Derived.Sort.LoopGhostIn
import Derived.Deep.QuietTactic
import Derived.BigQuiet
import Derived.Lib.BufferMore
import Derived.Test.YtccbeimcggamiaaDoorMk6
import Derived.Test.YtccbeimcggamiaaDoorMk5
set_option linter.unusedVariables false
set_option linter.unusedSimpArgs false

/-
  Places as bits of words: look-up, one more, without, and the walk from one bit to the next. Plain mathematics; no statement of its own.
-/
namespace Go.Proofs.YtccbeimcggamiaaDoor
open Go Go.RowKit

theorem has_any (p : Nat → Bool) (b : Nat) : (bits .and .u64 (word p (b / 64) / 2 ^ (b % 64)) 1 == 1) = p b := by
  have h := has_bits p (b % 64 + 64 * 0 : Nat)
  have e : ((2 : Int) ^ (b % 64)) = ((2 ^ (b % 64) : Nat) : Int) := by simp
  have lt : wordN p (b / 64) / 2 ^ (b % 64) < 18446744073709551616 := Nat.lt_of_le_of_lt (Nat.div_le_self _ _) (wordN_lt _ _)
  unfold word
  rw [e, ← Int.natCast_ediv, show (1 : Int) = ((1 : Nat) : Int) from rfl, bits_and_u64_nat _ _ lt (by omega)]
  have t := wordN_test p (b / 64) (b % 64)
  rw [Nat.testBit_eq_decide_div_mod_eq] at t
  have hm : b % 64 < 64 := by omega
  have hx : 64 * (b / 64) + b % 64 = b := by omega
  rw [hx] at t
  simp only [hm, decide_true, Bool.true_and] at t
  rw [← t, Nat.and_one_is_mod]
  generalize wordN p (b / 64) / 2 ^ (b % 64) = m
  rw [Bool.eq_iff_iff, beq_iff_eq, decide_eq_true_iff]
  omega

theorem pow_lt64 (k : Nat) (h : k < 64) : 2 ^ k < 18446744073709551616 := by
  have h := Nat.pow_le_pow_right (n := 2) (by omega) (show k ≤ 63 by omega)
  have e : (2 : Nat) ^ 63 = 9223372036854775808 := by decide
  omega
theorem add_any (p : Nat → Bool) (b : Nat) : bits .or .u64 (word p (b / 64)) (IntKind.u64.wrap (2 ^ (b % 64))) = word (add1 p b) (b / 64) := by
  have e : ((2 : Int) ^ (b % 64)) = ((2 ^ (b % 64) : Nat) : Int) := by simp
  have lt := pow_lt64 (b % 64) (by omega)
  have wr : IntKind.u64.wrap ((2 ^ (b % 64) : Nat) : Int) = ((2 ^ (b % 64) : Nat) : Int) := by
    generalize 2 ^ (b % 64) = m at lt ⊢
    exact wrap_u64_of (by omega) (by omega)
  unfold word
  rw [e, wr, bits_or_u64_nat _ _ (wordN_lt _ _) lt, add1_wordN]

def minusP (p q : Nat → Bool) : Nat → Bool := fun x => p x && !q x
theorem minus_words (p q : Nat → Bool) (i : Nat) : bits .andNot .u64 (word p i) (word q i) = word (minusP p q) i := by
  have h1 : (BitVec.ofInt 64 ((wordN p i : Nat) : Int)).toNat = wordN p i := by
    rw [BitVec.ofInt_natCast, BitVec.toNat_ofNat]; exact Nat.mod_eq_of_lt (wordN_lt _ _)
  have h2 : (BitVec.ofInt 64 ((wordN q i : Nat) : Int)).toNat = wordN q i := by
    rw [BitVec.ofInt_natCast, BitVec.toNat_ofNat]; exact Nat.mod_eq_of_lt (wordN_lt _ _)
  have e : wordN p i &&& (2 ^ 64 - 1 - wordN q i) = wordN (minusP p q) i := by
    apply Nat.eq_of_testBit_eq
    intro j
    have hq := wordN_lt q i
    rw [Nat.testBit_and, show 2 ^ 64 - 1 - wordN q i = 2 ^ 64 - (wordN q i + 1) by omega, Nat.testBit_two_pow_sub_succ (by omega), wordN_test, wordN_test, wordN_test]
    cases decide (j < 64) <;> simp [minusP]
  unfold word
  show IntKind.u64.wrap ((BitVec.ofInt 64 ((wordN p i : Nat) : Int) &&& ~~~ BitVec.ofInt 64 ((wordN q i : Nat) : Int)).toNat : Int) = _
  rw [BitVec.toNat_and, BitVec.toNat_not, h1, h2, e, IntKind.wrap_u64]
  have := wordN_lt (minusP p q) i
  omega

/-- The bits of word i from p on. -/
def fromP (q : Nat → Bool) (i p : Nat) : Nat := bitsN (fun j => decide (p ≤ j) && q (64 * i + j)) 64
theorem fromP_lt (q : Nat → Bool) (i p : Nat) : fromP q i p < 18446744073709551616 := bitsN_lt 64 _
theorem fromP_test (q : Nat → Bool) (i p j : Nat) : (fromP q i p).testBit j = (decide (j < 64) && (decide (p ≤ j) && q (64 * i + j))) := bitsN_test 64 _ j
theorem fromP_start (q : Nat → Bool) (i : Nat) : fromP q i 0 = wordN q i := bitsN_congr 64 _ _ fun j _ => by simp
theorem fromP_none {q : Nat → Bool} {i p : Nat} (h : fromP q i p = 0) (j : Nat) (h1 : p ≤ j) (h2 : j < 64) : q (64 * i + j) = false := by
  have t := fromP_test q i p j
  rw [h] at t
  simp [h1, h2] at t
  exact t
/-- The lowest bit. -/
theorem low_bit : ∀ (n x : Nat), x < 2 ^ n → x ≠ 0 → ∃ k m, k < n ∧ x = 2 ^ k * (2 * m + 1)
  | 0, x, h, h0 => by simp at h; omega
  | n + 1, x, h, h0 => by
    by_cases hx : x % 2 = 1
    · exact ⟨0, x / 2, by omega, by omega⟩
    · rw [Nat.pow_succ] at h
      obtain ⟨k, m, hk, e⟩ := low_bit n (x / 2) (by omega) (by omega)
      refine ⟨k + 1, m, by omega, ?_⟩
      have : x = 2 * (x / 2) := by omega
      rw [this, e, Nat.pow_succ, Nat.mul_comm (2 ^ k) 2, Nat.mul_assoc]
theorem low_test (k m j : Nat) : (2 ^ k * (2 * m + 1)).testBit j = (decide (k ≤ j) && (2 * m + 1).testBit (j - k)) := by
  have h := Nat.testBit_two_pow_mul (i := k) (a := 2 * m + 1) (j := j)
  simpa using h
theorem low_pred (k m j : Nat) : (2 ^ k * (2 * m + 1) - 1).testBit j = if j < k then true else (2 * m).testBit (j - k) := by
  have hp : 0 < 2 ^ k := Nat.two_pow_pos k
  have e : 2 ^ k * (2 * m + 1) - 1 = 2 ^ k * (2 * m) + (2 ^ k - 1) := by rw [Nat.mul_add, Nat.mul_one]; omega
  rw [e, Nat.testBit_two_pow_mul_add _ (by omega)]
  split
  · rename_i h; rw [Nat.testBit_two_pow_sub_one]; simp [h]
  · rfl
theorem odd_test (m j : Nat) : (2 * m + 1).testBit (j + 1) = m.testBit j := by
  rw [Nat.testBit_succ]; congr 1; omega
theorem even_test (m j : Nat) : (2 * m).testBit (j + 1) = m.testBit j := by
  rw [Nat.testBit_succ]; congr 1; omega
/-- The lowest bit alone. -/
theorem low_only (k m : Nat) (h : 2 ^ k * (2 * m + 1) < 2 ^ 64) : (2 ^ k * (2 * m + 1)) &&& (2 ^ 64 - 2 ^ k * (2 * m + 1)) = 2 ^ k := by
  have hp : 0 < 2 ^ k := Nat.two_pow_pos k
  have h1 : 0 < 2 ^ k * (2 * m + 1) := Nat.mul_pos hp (by omega)
  apply Nat.eq_of_testBit_eq
  intro j
  have e : 2 ^ 64 - 2 ^ k * (2 * m + 1) = 2 ^ 64 - ((2 ^ k * (2 * m + 1) - 1) + 1) := by omega
  rw [Nat.testBit_and, e, Nat.testBit_two_pow_sub_succ (by omega), low_test, low_pred, Nat.testBit_two_pow]
  by_cases h2 : j < k
  · have : ¬ k ≤ j := by omega
    have h3 : ¬ k = j := by omega
    simp [this, h3]
  · by_cases h3 : j = k
    · subst h3
      have h64 : j < 64 := by
        rcases Nat.lt_or_ge j 64 with h4 | h4
        · exact h4
        · have := Nat.pow_le_pow_right (n := 2) (by omega) h4
          have h5 : 2 ^ j * 1 ≤ 2 ^ j * (2 * m + 1) := Nat.mul_le_mul_left _ (by omega)
          omega
      simp [h64]
    · obtain ⟨d, rfl⟩ : ∃ d, j = k + (d + 1) := ⟨j - k - 1, by omega⟩
      have h4 : ¬ k = k + (d + 1) := by omega
      rw [show k + (d + 1) - k = d + 1 by omega, odd_test, even_test]
      simp [h4, h2]
      exact fun h _ => h
/-- Without the lowest bit. -/
theorem low_drop (k m : Nat) : (2 ^ k * (2 * m + 1)) &&& (2 ^ k * (2 * m + 1) - 1) = 2 ^ k * (2 * m) := by
  apply Nat.eq_of_testBit_eq
  intro j
  have h := Nat.testBit_two_pow_mul (i := k) (a := 2 * m) (j := j)
  rw [Nat.testBit_and, low_test, low_pred]
  by_cases h2 : j < k
  · have : ¬ k ≤ j := by omega
    simp [this] at h ⊢
    simpa using h.symm
  · have h6 : k ≤ j := by omega
    rw [if_neg h2]
    simp [h6] at h ⊢
    rw [h]
    by_cases h3 : j = k
    · subst h3; simp
    · obtain ⟨d, rfl⟩ : ∃ d, j = k + (d + 1) := ⟨j - k - 1, by omega⟩
      rw [show k + (d + 1) - k = d + 1 by omega, odd_test, even_test]
      simp

/-- From one bit to the next. -/
theorem fromP_next {q : Nat → Bool} {i p : Nat} (h : fromP q i p ≠ 0) : ∃ k, p ≤ k ∧ k < 64 ∧ q (64 * i + k) = true ∧ (∀ j, p ≤ j → j < k → q (64 * i + j) = false) ∧
    fromP q i p &&& (fromP q i p - 1) = fromP q i (k + 1) ∧ fromP q i p &&& (2 ^ 64 - fromP q i p) = 2 ^ k := by
  obtain ⟨k, m, hk, e⟩ := low_bit 64 (fromP q i p) (fromP_lt q i p) h
  have tk := fromP_test q i p k
  rw [e, low_test] at tk
  simp [hk] at tk
  have hb : ∀ j, p ≤ j → j < k → q (64 * i + j) = false := by
    intro j h1 h2
    have t := fromP_test q i p j
    have h3 : ¬ k ≤ j := by omega
    rw [e, low_test] at t
    simp [h3, h1, show j < 64 by omega] at t
    exact t
  refine ⟨k, tk.1, hk, tk.2, hb, ?_, ?_⟩
  · rw [e, low_drop]
    apply Nat.eq_of_testBit_eq
    intro j
    have hm := Nat.testBit_two_pow_mul (i := k) (a := 2 * m) (j := j)
    have t := fromP_test q i p j
    rw [e, low_test] at t
    rw [hm, fromP_test]
    by_cases h2 : k + 1 ≤ j
    · obtain ⟨d, rfl⟩ : ∃ d, j = k + (d + 1) := ⟨j - k - 1, by omega⟩
      rw [show k + (d + 1) - k = d + 1 by omega, odd_test] at t
      rw [show k + (d + 1) - k = d + 1 by omega, even_test]
      have h5 : p ≤ k + (d + 1) := by omega
      simp [h5] at t
      simp [t]
    · by_cases h3 : j = k
      · subst h3; simp; omega
      · have h4 : ¬ k ≤ j := by omega
        have h5 : ¬ k + 1 ≤ j := by omega
        simp [h4, h5]
  · rw [e, low_only k m (by rw [← e]; exact fromP_lt q i p)]

/-- The places up to a bound, rising. -/
def upP (q : Nat → Bool) (m : Nat) : List Nat := (List.range m).filter q
theorem upP_hit {q : Nat → Bool} {k : Nat} (h : q k = true) : upP q (k + 1) = upP q k ++ [k] := by
  unfold upP; rw [List.range_succ, List.filter_append]; simp [h]
theorem upP_miss {q : Nat → Bool} {k : Nat} (h : q k = false) : upP q (k + 1) = upP q k := by
  unfold upP; rw [List.range_succ, List.filter_append]; simp [h]
theorem upP_skip {q : Nat → Bool} {a : Nat} : ∀ (d : Nat), (∀ j, a ≤ j → j < a + d → q j = false) → upP q (a + d) = upP q a
  | 0, _ => rfl
  | d + 1, h => by rw [← Nat.add_assoc, upP_miss (h (a + d) (by omega) (by omega)), upP_skip d fun j h1 h2 => h j h1 (by omega)]
theorem upP_mem {q : Nat → Bool} {m k : Nat} : k ∈ upP q m ↔ k < m ∧ q k = true := by simp [upP]

/-- The table of the lowest bits' places. -/
def deBr : List Nat := [0, 1, 56, 2, 57, 49, 28, 3, 61, 58, 42, 50, 38, 29, 17, 4, 62, 47, 59, 36, 45, 43, 51, 22, 53, 39, 33, 30, 24, 18, 12, 5, 63, 55, 48, 27, 60, 41, 37, 16, 46, 35, 44, 21, 52, 32, 23, 11, 54, 26, 40, 15, 34, 20, 31, 10, 25, 14, 19, 9, 13, 8, 7, 6]
theorem deBr_at : ∀ k : Fin 64, deBr.getD ((2 ^ k.val * 285870213051353865 % 18446744073709551616) / 288230376151711744) 0 = k.val ∧ (2 ^ k.val * 285870213051353865 % 18446744073709551616) / 288230376151711744 < 64 := by decide +kernel

end Go.Proofs.YtccbeimcggamiaaDoor

/-
  Places in memory (package lang, type places): words of a test of numbers; nowhere, add, only, has, none, join, without, and slices.Equal, slices.Clone. Contracts for other texts; no statement of its own.
-/
namespace Go.Proofs.YtccbeimcggamiaaDoor
open Go Go.RowKit
attribute [local go_sem ↓] Go.wp_at_zero Go.wp_at_succ

theorem Tryd.infoWord : (Tryd.prog.info? 24).map (fun i => (i.zero, i.size, i.bytes)) = some (some (.int .u64 0), 1, 8) := by kernel_rfl

def wordsOf (q : Nat → Bool) (m : Nat) : List Value := (List.range m).map fun i => Value.int .u64 (word q i)
theorem wordsOf_len (q : Nat → Bool) (m : Nat) : (wordsOf q m).length = m := by simp [wordsOf]
theorem wordsOf_at (q : Nat → Bool) (m i : Nat) (h : i < m) : (wordsOf q m)[i]? = some (.int .u64 (word q i)) := by simp [wordsOf, h]
/-- Places in memory: m words of q. -/
def Pl (w : World) (B : Nat) (v : Value) (m : Nat) (q : Nat → Bool) : Prop := w.ownsRow B 24 1 v m (wordsOf q m)
section
variable {w w' : World} {B : Nat} {v : Value} {m : Nat} {q : Nat → Bool}
theorem Pl.stays (h : Pl w B v m q) (hb : Below w.heap.size w w') : Pl w' B v m q := own_stays h hb
theorem Pl.lower {B' : Nat} (h : Pl w B v m q) (hB : B' ≤ B) : Pl w B' v m q := own_lower h hB
theorem Pl.form (h : Pl w B v m q) (hm : 0 < m) : ∃ g c, v = .slice (some ⟨g, 0, none⟩) m c ∧ B ≤ g ∧ g < w.heap.size := by
  rcases h.2 with ⟨rfl, h0⟩ | ⟨g, cap, cur, rfl, hB, hg, _⟩
  · omega
  · exact ⟨g, cap, rfl, hB, lt_of_some hg⟩
theorem Pl.cell {g c : Nat} (h : Pl w B (.slice (some ⟨g, 0, none⟩) m c) m q) (i : Nat) (hi : i < m) : w.cell? ⟨g, i, none⟩ = some (.int .u64 (word q i)) := by
  rw [World.ownsRow.cellAt h i (by omega), wordsOf_at q m i hi]
theorem Pl.frozen {g c : Nat} (h : Pl w B (.slice (some ⟨g, 0, none⟩) m c) m q) (i : Nat) : w.frozen? ⟨g, i, none⟩ = false := World.ownsRow.frozenAt h i
theorem Pl.congr {q' : Nat → Bool} (h : Pl w B v m q) (hq : ∀ i, i < m → word q i = word q' i) : Pl w B v m q' := by
  unfold Pl at *
  have e : wordsOf q m = wordsOf q' m := by
    unfold wordsOf
    apply List.map_congr_left
    intro i hi
    rw [hq i (by simpa using hi)]
  rwa [← e]
/-- One word is stored anew. -/
theorem Pl.set {g c : Nat} {q' : Nat → Bool} (h : Pl w B (.slice (some ⟨g, 0, none⟩) m c) m q) (i : Nat) (hi : i < m) (hq : ∀ j, j ≠ i → word q' j = word q j) :
    Pl (w.setCell ⟨g, i, none⟩ (.int .u64 (word q' i))) B (.slice (some ⟨g, 0, none⟩) m c) m q' ∧ w.grownBy (w.setCell ⟨g, i, none⟩ (.int .u64 (word q' i))) (some g) := by
  have k := World.ownsRow.stored h i (.int .u64 (word q' i))
  refine ⟨?_, k.2⟩
  unfold Pl
  have e : (wordsOf q m).set i (.int .u64 (word q' i)) = wordsOf q' m := by
    apply List.ext_getElem?
    intro j
    rw [List.getElem?_set]
    by_cases hj : j < m
    · rw [wordsOf_at q' m j hj, wordsOf_at q m j hj, wordsOf_len]
      by_cases hij : i = j
      · subst hij; simp [hi]
      · rw [if_neg hij, hq j (fun e => hij e.symm)]
    · rw [List.getElem?_eq_none (by rw [wordsOf_len]; omega), List.getElem?_eq_none (by rw [wordsOf_len]; omega)]
      by_cases hij : i = j
      · omega
      · rw [if_neg hij]
  rw [← e]
  exact k.1
end
theorem wordsOf_none (m : Nat) : wordsOf noneP m = List.replicate m (.int .u64 0) := by
  apply List.ext_getElem?
  intro j
  by_cases hj : j < m
  · rw [wordsOf_at _ m j hj, word_none]; simp [hj]
  · rw [List.getElem?_eq_none (by rw [wordsOf_len]; omega), List.getElem?_eq_none (by simpa using hj)]

def RetPl (w : World) (m : Nat) (q : Nat → Bool) (e : Ending) (w' : World) : Prop := ∃ v, e = .returned v ∧ Pl w' w.heap.size v m q ∧ Below w.heap.size w w'

theorem nowhere_p (w : World) (n : Nat) (hn : n ≤ 1000000) : Calls Tryd.prog 64 #[.int .i64 n] w (RetPl w (n / 64 + 1) noneP) := by
  obtain ⟨i0, hi, hz0, hz1, hz2⟩ := info_parts Tryd.infoWord
  obtain ⟨w', hr, hown, hg⟩ := run_make_full (P := Tryd.prog) w w.heap.size 97 24 i0 _ 1 Tryd.underlying97 hi hz0 hz1 .i64 .i64 (n / 64 + 1) (by rw [hz2]; omega) (by unfold maxLen; omega) (Nat.le_refl _)
  rw [show (((n / 64 + 1 : Nat)) : Int) = (n : Int) / 64 + 1 by omega] at hr
  rw [show (madeCells (Value.int IntKind.u64 0).cells ((n / 64 + 1) * 1)).toList = wordsOf noneP (n / 64 + 1) by rw [wordsOf_none, Nat.mul_one]; exact toList_madeCells_one _ _] at hown
  have HO := Lib.hid hown
  have HG := Lib.hid hg
  clear hown hg hi hz0 hz1 hz2
  go_enter Tryd.func64, Tryd.ntmps64
  go_wp2
  go_ret
  exact ⟨_, rfl, HO.out, (Below.refl _ _).grown HG.out (Nat.le_refl _) (fun j e => by cases e)⟩

/-- A look-up. -/
theorem plhas_p (w : World) (B m i : Nat) (v : Value) (q : Nat → Bool) (h : Pl w B v m q) (hi : i < 64 * m) (hm : m ≤ 1000000) : Calls Tryd.prog 37 #[v, .int .i64 i] w fun e w' => e = .returned (.bool (q i)) ∧ w = w' := by
  obtain ⟨g, c, rfl, _, _⟩ := h.form (by omega)
  have hc := h.cell (i / 64) (by omega)
  have H := has_any q i
  rw [← H]
  have e1 : ((i : Int) / 64).toNat = i / 64 := by omega
  have e2 : ((i : Int) % 64).toNat = i % 64 := by omega
  have e3 : (i : Int) / 64 < (m : Int) := by omega
  have e4 : (0 : Int) ≤ (i : Int) / 64 := by omega
  have w0 := word_nonneg q (i / 64)
  have w1 := word_lt q (i / 64)
  clear H h
  go_enter Tryd.func37, Tryd.ntmps37
  go_wp2
  go_ret
  exact ⟨rfl, rfl⟩

theorem grown_drew {a b : World} {row : Option Nat} (h : a.grownBy b row) : a.grownBy b.drew row := ⟨h.os, h.tape, h.output, h.size, h.block⟩
theorem Pl.drew {w : World} {B m : Nat} {v : Value} {q : Nat → Bool} (h : Pl w B v m q) : Pl w.drew B v m q := h
/-- What a call on places of one's own leaves. -/
def RetOwn (w : World) (B m : Nat) (v : Value) (q : Nat → Bool) (e : Ending) (w' : World) : Prop := e = .returned (.tuple #[]) ∧ Pl w' B v m q ∧ w.grownBy w' v.ownBlock

theorem pladd_p (w : World) (B m i : Nat) (v : Value) (q : Nat → Bool) (h : Pl w B v m q) (hi : i < 64 * m) (hm : m ≤ 1000000) : Calls Tryd.prog 67 #[v, .int .i64 i] w (RetOwn w B m v (add1 q i)) := by
  obtain ⟨g, c, rfl, _, _⟩ := h.form (by omega)
  have hc := h.cell (i / 64) (by omega)
  have hf := h.frozen (i / 64)
  have HA := Lib.hid (add_any q i)
  have HS := Lib.hid (h.set (q' := add1 q i) (i / 64) (by omega) (fun j hj => add1_words q i j hj))
  have e1 : ((i : Int) / 64).toNat = i / 64 := by omega
  have e2 : ((i : Int) % 64).toNat = i % 64 := by omega
  have e3 : (i : Int) / 64 < (m : Int) := by omega
  have e4 : (0 : Int) ≤ (i : Int) / 64 := by omega
  have w0 := word_nonneg q (i / 64)
  have w1 := word_lt q (i / 64)
  clear h
  go_enter Tryd.func67, Tryd.ntmps67
  go_region
  all_goals
    go_wp2
    go_end0
    rw [HA.out]
    exact ⟨rfl, HS.out.1.drew, grown_drew HS.out.2⟩

set_option maxHeartbeats 1000000 in
theorem only_p (w : World) (i n : Nat) (hn : n ≤ 1000000) (hi : i ≤ n) : Calls Tryd.prog 36 #[.int .i64 i, .int .i64 n] w (RetPl w (n / 64 + 1) (fun x => x == i)) := by
  have HN := Lib.hid (nowhere_p w n hn)
  unfold RetPl at HN
  have HA := Lib.hid (fun W v (h : Pl W w.heap.size v (n / 64 + 1) noneP) => pladd_p W w.heap.size (n / 64 + 1) i v noneP h (by omega) (by omega))
  unfold RetOwn at HA
  go_enter Tryd.func36, Tryd.ntmps36
  go_wp2_with (first
    | (go_at_call 64; (with_reducible refine HN.out.mono ?_); rintro e w1 ⟨v, rfl, hv, hb⟩)
    | (go_at_call 67; (with_reducible refine (HA.out _ _ hv).mono ?_); rintro e w2 ⟨rfl, hv2, hg2⟩))
  go_ret
  refine ⟨v, rfl, hv2.congr fun i' _ => ?_, hb.grown hg2 hb.size (fun j e => (World.ownsRow.lt hv j e).1)⟩
  have e : wordN (add1 noneP i) i' = wordN (fun x => x == i) i' := wordN_congr _ _ i' fun j _ => by simp [add1, noneP]
  unfold word
  rw [e]

theorem word_zero {q : Nat → Bool} {i : Nat} (h : word q i = 0) (j : Nat) (hj : j < 64) : q (64 * i + j) = false := by
  have h0 : wordN q i = 0 := by unfold word at h; omega
  have t := wordN_test q i j
  rw [h0] at t
  simpa [hj] using t.symm
theorem word_nonzero {q : Nat → Bool} {i : Nat} (h : word q i ≠ 0) : ∃ j, j < 64 ∧ q (64 * i + j) = true := by
  by_cases hx : ∃ j, j < 64 ∧ q (64 * i + j) = true
  · exact hx
  · exfalso
    apply h
    have : wordN q i = 0 := by
      apply Nat.eq_of_testBit_eq
      intro j
      rw [wordN_test]
      by_cases hj : j < 64
      · have : ¬ q (64 * i + j) = true := fun e => hx ⟨j, hj, e⟩
        simp [this]
      · simp [hj]
    simp [word, this]
/-- Are there none? -/
theorem none_p (w : World) (B m : Nat) (v : Value) (q : Nat → Bool) (h : Pl w B v m q) (hm0 : 0 < m) (hm : m ≤ 1000000) :
    Calls Tryd.prog 62 #[v] w fun e w' => ∃ b : Bool, e = .returned (.bool b) ∧ (b = true ↔ ∀ x, x < 64 * m → q x = false) ∧ w = w' := by
  obtain ⟨g, c, rfl, _, _⟩ := h.form hm0
  have HH := Lib.hid h
  clear h
  go_enter Tryd.func62, Tryd.ntmps62
  go_wp2
  go_loopg [7] m (fun m' i wr => ∃ j : Nat, i = .int .i64 (j : Int) ∧ j ≤ m ∧ m' = m - j ∧ (∀ x, x < 64 * j → q x = false) ∧ wr = w)
  case atStart => exact ⟨0, rfl, Nat.zero_le _, rfl, fun x hx => by omega, rfl⟩
  case round =>
    obtain ⟨j, rfl, hj, hmj, hz, rfl⟩ := hrel
    have HMJ := Lib.hid hmj
    have HZ := Lib.hid hz
    clear hmj hz
    by_cases hlt : j < m
    · have hc := HH.out.cell j hlt
      cases hb : (word q j != 0)
      · have hw0 : word q j = 0 := by simpa using hb
        have HW0 := Lib.hid hw0
        clear hw0
        go_wp2
        go_roundg (m - (j + 1))
        case measure => have := HMJ.out; omega
        case rel =>
          refine ⟨j + 1, by go_num, by omega, rfl, fun x hx => ?_, rfl⟩
          by_cases hx2 : x < 64 * j
          · exact HZ.out x hx2
          · have := word_zero HW0.out (x - 64 * j) (by omega)
            rwa [show 64 * j + (x - 64 * j) = x by omega] at this
      · have hw0 : word q j ≠ 0 := by simpa using hb
        have HW0 := Lib.hid (word_nonzero hw0)
        clear hw0
        go_wp2
        go_ret
        refine ⟨false, rfl, ⟨fun h => (by cases h), fun h => ?_⟩, rfl⟩
        obtain ⟨k, hk, hq⟩ := HW0.out
        rw [h (64 * j + k) (by omega)] at hq
        cases hq
    · go_wp2
      go_ret
      exact ⟨true, rfl, ⟨fun _ x hx => HZ.out x (by omega), fun _ => rfl⟩, rfl⟩

/-- Up to word j as f, from there on as q. -/
def mixP (q f : Nat → Bool) (j : Nat) : Nat → Bool := fun x => if x < 64 * j then f x else q x
theorem mix_lt (q f : Nat → Bool) (j i : Nat) (h : i < j) : word (mixP q f j) i = word f i := by
  unfold word
  rw [wordN_congr _ f i fun b hb => by unfold mixP; rw [if_pos (by omega)]]
theorem mix_ge (q f : Nat → Bool) (j i : Nat) (h : j ≤ i) : word (mixP q f j) i = word q i := by
  unfold word
  rw [wordN_congr _ q i fun b hb => by unfold mixP; rw [if_neg (by omega)]]
theorem mix_step (q f : Nat → Bool) (j i : Nat) (h : i ≠ j) : word (mixP q f (j + 1)) i = word (mixP q f j) i := by
  by_cases hi : i < j
  · rw [mix_lt _ _ _ _ hi, mix_lt _ _ _ _ (by omega)]
  · rw [mix_ge _ _ _ _ (by omega), mix_ge _ _ _ _ (by omega)]

theorem pljoin_p (w : World) (B C m : Nat) (v v2 : Value) (q r : Nat → Bool) (h : Pl w B v m q) (h2 : Pl w C v2 m r) (hB : B ≤ w.heap.size) (hm0 : 0 < m) (hm : m ≤ 1000000) :
    Calls Tryd.prog 65 #[v, v2] w (RetOwn w B m v (orP q r)) := by
  obtain ⟨g, c, rfl, hg1, hg2⟩ := h.form hm0
  obtain ⟨g2, c2, rfl, _, hg4⟩ := h2.form hm0
  have hcell : ∀ i, i < m → w.cell? ⟨g2, i, none⟩ = some (.int .u64 (word r i)) := fun i hi => h2.cell i hi
  have HH := Lib.hid h
  have HC := Lib.hid hcell
  clear h h2 hcell
  go_enter Tryd.func65, Tryd.ntmps65
  go_wp2
  go_loopg [8] m (fun m' i wr => ∃ j : Nat, i = .int .i64 (j : Int) ∧ j ≤ m ∧ m' = m - j ∧ Pl wr B (.slice (some ⟨g, 0, none⟩) m c) m (mixP q (orP q r) j) ∧ (∀ k, j ≤ k → k < m → wr.cell? ⟨g2, k, none⟩ = some (.int .u64 (word r k))) ∧ w.grownBy wr (some g))
  case atStart => exact ⟨0, rfl, Nat.zero_le _, rfl, HH.out.congr fun i hi => (mix_ge _ _ _ _ (Nat.zero_le _)).symm, fun k _ hk => HC.out k hk, ⟨rfl, rfl, rfl, Nat.le_refl _, fun _ _ _ => rfl⟩⟩
  case round =>
    obtain ⟨j, rfl, hj, hmj, hpl, hr, hgw⟩ := hrel
    have HMJ := Lib.hid hmj
    have HPL := Lib.hid hpl
    have HR := Lib.hid hr
    clear hmj hpl hr
    by_cases hlt : j < m
    · have hc := HPL.out.cell j hlt
      have hf := HPL.out.frozen j
      rw [mix_ge _ _ _ _ (Nat.le_refl _)] at hc
      have hc2 := HR.out j (Nat.le_refl _) hlt
      have HO := Lib.hid (or_words q r j)
      have hst := HPL.out.set (q' := mixP q (orP q r) (j + 1)) j hlt (fun i hi => mix_step _ _ j i hi)
      rw [mix_lt _ _ _ _ (Nat.lt_succ_self j)] at hst
      have HST := Lib.hid hst
      clear hst
      go_wp2
      go_roundg (m - (j + 1))
      case measure => have := HMJ.out; omega
      case rel =>
        rw [HO.out]
        refine ⟨j + 1, by go_num, by omega, rfl, HST.out.1, fun k hk hkm => ?_, World.grownBy.trans hgw HST.out.2⟩
        have := HR.out k (by omega) hkm
        rw [World.cell?_setCell_other]
        · exact this
        · intro e
          injection e with e1 e2
          omega
    · have hjm : j = m := by omega
      go_wp2
      go_end0
      exact ⟨rfl, HPL.out.congr fun i hi => mix_lt _ _ _ _ (by omega), hgw⟩

end Go.Proofs.YtccbeimcggamiaaDoor

/-
  math/bits.TrailingZeros64, by its table. Contracts for other texts; no statement of its own.
-/
namespace Go.Proofs.YtccbeimcggamiaaDoor
open Go Go.RowKit
attribute [local go_sem ↓] Go.wp_at_zero Go.wp_at_succ

/-- The table lies where the program's text lays it. -/
def Tab (w : World) : Prop := 0 < w.heap.size ∧ ∀ k, k < 64 → w.cell? ⟨0, k, none⟩ = some (.int .u8 (deBr.getD k 0))
theorem Tab.below {w w' : World} {B : Nat} (h : Tab w) (hb : Below B w w') (hB : 0 < B) : Tab w' := ⟨Nat.lt_of_lt_of_le h.1 hb.size, fun k hk => (hb.cell (p := ⟨0, k, none⟩) hB).trans (h.2 k hk)⟩

set_option maxHeartbeats 1000000 in
theorem tz_p (w : World) (x k : Nat) (hx : x < 18446744073709551616) (hk : k < 64) (h : x &&& (2 ^ 64 - x) = 2 ^ k) (ht : Tab w) : Calls Tryd.prog 99 #[.int .u64 x] w fun e w' => e = .returned (.int .i64 k) ∧ w = w' := by
  have hx0 : x ≠ 0 := by
    rintro rfl
    have := Nat.two_pow_pos k
    simp at h
    omega
  have hb0 : ((x : Int) == 0) = false := by simp; omega
  have e1 : IntKind.u64.wrap (-(x : Int)) = ((2 ^ 64 - x : Nat) : Int) := by
    rw [IntKind.wrap_u64]
    have : (2 : Nat) ^ 64 = 18446744073709551616 := by decide
    omega
  have e2 : bits .and .u64 (x : Int) ((2 ^ 64 - x : Nat) : Int) = ((2 ^ k : Nat) : Int) := by
    rw [bits_and_u64_nat _ _ hx (by have : (2 : Nat) ^ 64 = 18446744073709551616 := (by decide); omega), h]
  obtain ⟨d1, d2⟩ := deBr_at ⟨k, hk⟩
  simp only at d1 d2
  have e3 : IntKind.u64.wrap (((2 ^ k : Nat) : Int) * 285870213051353865) = ((2 ^ k * 285870213051353865 % 18446744073709551616 : Nat) : Int) := by
    rw [IntKind.wrap_u64]; omega
  generalize 2 ^ k * 285870213051353865 % 18446744073709551616 = y at d1 d2 e3
  have hc := ht.2 _ d2
  rw [d1] at hc
  generalize hp : ((2 ^ k : Nat)) = p2 at *
  generalize hn : 2 ^ 64 - x = nx at *
  have j1 : (y : Int) / 288230376151711744 < 64 := by omega
  have j2 : ((y : Int) / 288230376151711744).toNat = y / 288230376151711744 := by omega
  have j0 : (0 : Int) ≤ (y : Int) / 288230376151711744 := by omega
  clear d1 h hp hn hx0
  go_enter Tryd.func99, Tryd.ntmps99
  go_wp2
  go_ret
  exact ⟨rfl, rfl⟩

end Go.Proofs.YtccbeimcggamiaaDoor

/-
  lang.places.all: the iterator's contract. Contracts for other texts; no statement of its own.
-/
namespace Go.Proofs.YtccbeimcggamiaaDoor
open Go Go.RowKit Go.Shelf
attribute [local go_sem] Oper.semAt_some

/-- A place of q, of so many. -/
abbrev UpAt (q : Nat → Bool) (M : Nat) := { x : Nat // x < M ∧ q x = true }
theorem upP_length (q : Nat → Bool) (m : Nat) : (upP q m).length ≤ m := by
  unfold upP
  exact Nat.le_trans (List.length_filter_le _ _) (by simp)
/-- What a round must keep: the words that are gone through, and the table. -/
def KpW (g : Nat) (W W' : World) : Prop := W.heap.size ≤ W'.heap.size ∧ W'.heap[g]? = W.heap[g]? ∧ W'.heap[0]? = W.heap[0]?
theorem KpW.refl (g : Nat) (W : World) : KpW g W W := ⟨Nat.le_refl _, rfl, rfl⟩
theorem KpW.trans {g : Nat} {A B C : World} (h : KpW g A B) (k : KpW g B C) : KpW g A C := ⟨Nat.le_trans h.1 k.1, k.2.1.trans h.2.1, k.2.2.trans h.2.2⟩
theorem KpW.tab {g : Nat} {W W' : World} (h : KpW g W W') (ht : Tab W) : Tab W' := ⟨Nat.lt_of_lt_of_le ht.1 h.1, fun k hk => (World.cell?_of_block (w := W) (a := ⟨0, k, none⟩) h.2.2).trans (ht.2 k hk)⟩
theorem KpW.cell {g i : Nat} {W W' : World} (h : KpW g W W') : W'.cell? ⟨g, i, none⟩ = W.cell? ⟨g, i, none⟩ := World.cell?_of_block (w := W) (a := ⟨g, i, none⟩) h.2.1
theorem kpw_b {w : World} {g : Nat} (hg : g < w.heap.size) (ht : 0 < w.heap.size) (W : World) (l : Nat) (o o' : Obj) (hl : w.heap.size ≤ l) (h : W.heap[l]? = some o) (_ : o.isCells = false) (_ : o.isWalk = false) : KpW g W (W.putObj l o') :=
  ⟨by simp [World.putObj], World.putObj_heap_other (by omega), World.putObj_heap_other (by omega)⟩

set_option maxRecDepth 20000 in
set_option maxHeartbeats 1000000 in
theorem all1_in (n : Nat) (hn : 1 ≤ n) (l Bn g m c : Nat) (q : Nat → Bool) (hm : m ≤ 1000000) (J Jx : List (UpAt q (64 * m)) → World → Prop)
    (hY : ∀ pre x W, J pre W → pre.length < 64 * m + 1 → YieldAt Fence.wide (n - 1) Tryd.prog l #[.int .i64 (x.1 : Int)] W fun e W' =>
      (e = .returned (.bool true) ∧ J (pre ++ [x]) W' ∧ KpW g W W') ∨ (e = .returned (.bool false) ∧ Jx (pre ++ [x]) W'))
    (W : World) (hBn : W.cell? ⟨Bn, 0, none⟩ = some (.slice (some ⟨g, 0, none⟩) m c)) (hc : ∀ i, i < m → W.cell? ⟨g, i, none⟩ = some (.int .u64 (word q i))) (ht : Tab W) (h0 : J [] W) :
    CallsIn Fence.wide n Tryd.prog 98 #[.func (.yield l) #[] #[], .pointer (some ⟨Bn, 0, none⟩)] W fun e W' => (∃ v, e = .returned v) ∧
      ((∃ ys, ys.map (·.1) = upP q (64 * m) ∧ J ys W') ∨ (∃ pre, True ∧ Jx pre W')) := by
  refine callsIn_of_wp Tryd.func98 rfl trivial ?_ rfl
  simp only [Tryd.ntmps98, List.size_toArray, List.length_cons, List.length_nil, Nat.reduceAdd, Nat.reduceSub, Array.replicate_succ, Array.replicate_zero, List.push_toArray, List.append_toArray, List.nil_append, List.cons_append]
  have HC := Lib.hid hc
  have HY := Lib.hid hY
  clear hc hY
  gi_wp2
  gi_loopg [7] m (fun m' i wr => ∃ (k : Nat) (pre : List (UpAt q (64 * m))), i = .int .i64 (k : Int) ∧ k ≤ m ∧ m' = m - k ∧ pre.map (·.1) = upP q (64 * k) ∧ KpW g W wr ∧ J pre wr)
  case atStart => exact ⟨0, [], rfl, Nat.zero_le _, rfl, rfl, KpW.refl _ _, h0⟩
  case round =>
    obtain ⟨k, pre, rfl, hk, hmk, hpre, hkp, hJ⟩ := hrel
    have HMK := Lib.hid hmk
    have HPRE := Lib.hid hpre
    have HKP := Lib.hid hkp
    have HJ := Lib.hid hJ
    clear hmk hpre hkp hJ
    by_cases hlt : k < m
    · have hcx := HKP.out.cell.trans (HC.out k hlt)
      gi_wp2
      gi_loopg [4] 65 (fun m' x wr2 => ∃ (p : Nat) (pre : List (UpAt q (64 * m))), x = .int .u64 (fromP q k p : Int) ∧ p ≤ 64 ∧ m' = 65 - p ∧ pre.map (·.1) = upP q (64 * k + p) ∧ KpW g W wr2 ∧ J pre wr2)
      case atStart =>
        refine ⟨0, pre, ?_, by omega, rfl, HPRE.out, HKP.out, HJ.out⟩
        rw [fromP_start]
        rfl
      case round =>
        obtain ⟨p, pre2, rfl, hp, hmp, hpre2, hkp2, hJ2⟩ := hrel
        have HMP := Lib.hid hmp
        have HPRE2 := Lib.hid hpre2
        have HKP2 := Lib.hid hkp2
        have HTAB := Lib.hid (hkp2.tab ht)
        clear hmp hpre2 hkp2
        by_cases hx : fromP q k p = 0
        · have hxi : ((fromP q k p : Nat) : Int) = 0 := by omega
          have HX := Lib.hid (fun _ : Unit => hx)
          clear hx
          gi_wp2
          gi_roundg (m - (k + 1))
          case measure => have := HMK.out; omega
          case rel =>
            have h64 : upP q (64 * k + 64) = upP q (64 * k + p) := by
              have := upP_skip (q := q) (a := 64 * k + p) (64 - p) fun j h1 h2 => by
                have := fromP_none (HX.out ()) (j - 64 * k) (by omega) (by omega)
                rwa [show 64 * k + (j - 64 * k) = j by omega] at this
              rwa [show 64 * k + p + (64 - p) = 64 * k + 64 by omega] at this
            exact ⟨k + 1, pre2, by go_num, by omega, rfl, by rw [show 64 * (k + 1) = 64 * k + 64 by omega, h64]; exact HPRE2.out, HKP2.out, hJ2⟩
        · obtain ⟨j, hj1, hj2, hj3, hj4, hj5, hj6⟩ := fromP_next hx
          have hxl := fromP_lt q k p
          have e1 : IntKind.u64.wrap (((fromP q k p : Nat) : Int) - 1) = ((fromP q k p - 1 : Nat) : Int) := by
            rw [IntKind.wrap_u64]; omega
          have e2 : bits .and .u64 ((fromP q k p : Nat) : Int) ((fromP q k p - 1 : Nat) : Int) = ((fromP q k (j + 1) : Nat) : Int) := by
            rw [bits_and_u64_nat _ _ hxl (by omega), hj5]
          have hxi : ¬ ((fromP q k p : Nat) : Int) = 0 := by omega
          have hlen : pre2.length < 64 * m + 1 := by
            have h1 := congrArg List.length HPRE2.out
            have h2 := upP_length q (64 * k + p)
            rw [List.length_map] at h1
            omega
          obtain ⟨xx, hxx⟩ : ∃ xx : UpAt q (64 * m), xx.1 = 64 * k + j := ⟨⟨64 * k + j, by omega, hj3⟩, rfl⟩
          obtain ⟨fn, tmps, assign, body, hy, hR⟩ := HY.out pre2 xx wr hJ2 hlen
          rw [hxx] at hy
          push_cast at hy
          have HXX := Lib.hid hxx
          have HTZ := Lib.hid (fun N => (callsIn_wide (n := N)).2 (tz_p wr (fromP q k p) j hxl hj2 hj6 HTAB.out))
          have HJ3 := Lib.hid hj3
          have HJ4 := Lib.hid hj4
          generalize hgx : fromP q k p = x at *
          generalize hgy : fromP q k (j + 1) = y at *
          have HGX := Lib.hid (fun _ : Unit => hgx)
          have HGY := Lib.hid (fun _ : Unit => hgy)
          have HR := Lib.hid hR
          have HXL := Lib.hid hxl
          have HJ1 := Lib.hid hj1
          clear hgx hgy hj3 hj4 hj5 hj6 hJ2 hx HTAB hxx hR hxl hj1 hlen
          gi_wp2_with (refine ⟨trivial, ?_⟩; gi_at_call 99; refine (HTZ.out _).mono ?_; rintro e w1 ⟨rfl, rfl⟩)
          refine HR.out.mono ?_
          have hup : (pre2 ++ [xx]).map (·.1) = upP q (64 * k + (j + 1)) := by
            rw [List.map_append, HPRE2.out, show 64 * k + (j + 1) = 64 * k + j + 1 by omega, upP_hit HJ3.out]
            have := upP_skip (q := q) (a := 64 * k + p) (j - p) fun i h1 h2 => by
              have := HJ4.out (i - 64 * k) (by omega) (by omega)
              rwa [show 64 * k + (i - 64 * k) = i by omega] at this
            rw [show 64 * k + p + (j - p) = 64 * k + j by have := HJ1.out; omega] at this
            rw [this]
            simp [HXX.out]
          have HUP := Lib.hid hup
          clear hup
          rintro e W3 (⟨rfl, hJ3, hk3⟩ | ⟨rfl, hJx3⟩)
          · have HJ3' := Lib.hid hJ3
            have HK3 := Lib.hid hk3
            clear hJ3 hk3
            gi_wp2
            gi_roundg (65 - (j + 1))
            case measure => have := HMP.out; have := HJ1.out; omega
            case rel =>
              have hy' := HGY.out ()
              exact ⟨j + 1, pre2 ++ [xx], by rw [hy'], by omega, rfl, HUP.out, HKP2.out.trans HK3.out, HJ3'.out⟩
          · have HJX3 := Lib.hid hJx3
            clear hJx3
            gi_wp2
            refine bodyPost_ret (results_none rfl _ _ _) rfl ?_
            exact ⟨⟨_, rfl⟩, .inr ⟨_, trivial, HJX3.out⟩⟩
    · have hkm : k = m := by omega
      have HKM := Lib.hid hkm
      clear hkm
      gi_wp2
      go_end0
      exact ⟨⟨_, rfl⟩, .inl ⟨pre, by rw [HPRE.out, HKM.out], HJ.out⟩⟩

set_option maxHeartbeats 1000000 in
theorem all_in (n : Nat) (a : Option Addr) (len cap : Nat) (w : World) :
    CallsIn Fence.wide n Tryd.prog 91 #[.slice a len cap] w fun e w' => e = .returned (.func (.func 98) #[] #[.pointer (some ⟨w.heap.size, 0, none⟩)]) ∧ w' = w.alloc (.cells #[.slice a len cap] 97) := by
  refine callsIn_of_wp Tryd.func91 rfl trivial ?_ rfl
  simp only [Tryd.ntmps91, List.size_toArray, List.length_cons, List.length_nil, Nat.reduceAdd, Nat.reduceSub, Array.replicate_succ, Array.replicate_zero, List.push_toArray, List.append_toArray, List.nil_append, List.cons_append]
  gi_wp2
  go_ret
  exact ⟨rfl, rfl⟩

/-- What all hands back gives the places, rising. -/
theorem all_stops (n : Nat) (hn : 1 ≤ n) (Bn g m c C : Nat) (q : Nat → Bool) (hm : m ≤ 1000000) (w : World) (hBn : Bn < w.heap.size) (hcb : w.cell? ⟨Bn, 0, none⟩ = some (.slice (some ⟨g, 0, none⟩) m c)) (hp : Pl w C (.slice (some ⟨g, 0, none⟩) m c) m q) (hg : g < w.heap.size) (ht : Tab w) :
    SeqStopsK Fence.wide n Tryd.prog 98 #[.pointer (some ⟨Bn, 0, none⟩)] (fun x : UpAt q (64 * m) => #[Value.int .i64 (x.1 : Int)]) (KpW g) (fun ys => ys.map (·.1) = upP q (64 * m)) (fun _ => True) (64 * m + 1) w := fun l J Jx W hW _ _ hY h0 =>
  all1_in n hn l Bn g m c q hm J Jx hY W ((hW.cell (p := ⟨Bn, 0, none⟩) hBn).trans hcb) (fun i hi => (hW.cell (p := ⟨g, i, none⟩) hg).trans (hp.cell i hi)) (ht.below hW ht.1) h0

end Go.Proofs.YtccbeimcggamiaaDoor

/-
  Places in memory: slices.Clone, slices.Equal, without. Contracts for other texts; no statement of its own.
-/
namespace Go.Proofs.YtccbeimcggamiaaDoor
open Go Go.RowKit
attribute [local go_sem ↓] Go.wp_at_zero Go.wp_at_succ

theorem wordsOf_one (q : Nat → Bool) (m : Nat) : ∀ u ∈ wordsOf q m, u.oneCell' = true := by
  intro u hu
  simp only [wordsOf, List.mem_map] at hu
  obtain ⟨i, _, rfl⟩ := hu
  rfl
set_option maxHeartbeats 1000000 in
theorem clone_p (w : World) (C m : Nat) (v : Value) (q : Nat → Bool) (h : Pl w C v m q) (hm0 : 0 < m) (hm : m ≤ 1000000) :
    Calls Tryd.prog 101 #[v] w (RetPl w m q) := by
  obtain ⟨i0, hi, hz0, hz1, hz2⟩ := info_parts Tryd.infoWord
  obtain ⟨g, c, rfl, _, hg⟩ := h.form hm0
  have hown : (w.alloc (.cells #[] 24)).ownsRow w.heap.size 24 1 (.slice (some ⟨w.heap.size, 0, none⟩) 0 0) 0 [] := World.ownsRow_lit w #[] 0 (Nat.le_refl _) (by decide) rfl
  have hnews : ∀ j u, (wordsOf q m)[j]? = some u → (w.alloc (.cells #[] 24)).cell? ((⟨g, 0, none⟩ : Addr).add j) = some u := by
    intro j u hu
    have hj : j < m := by
      rcases Nat.lt_or_ge j m with h' | h'
      · exact h'
      · rw [List.getElem?_eq_none (by rw [wordsOf_len]; exact h')] at hu; cases hu
    rw [wordsOf_at q m j hj] at hu
    have hu' := Option.some.inj hu
    rw [← hu']
    have e : (⟨g, 0, none⟩ : Addr).add j = ⟨g, j, none⟩ := by unfold Addr.add; split <;> simp_all
    rw [e]
    exact cell_stays (h.cell j hj) ((Below.refl _ _).alloc (Nat.le_refl _) _)
  have HO := Lib.hid hown
  have HN := Lib.hid hnews
  have hnil : ∀ W, (binOp .eql 97 (.slice (some ⟨g, 0, none⟩) m c) (.slice none 0 0)).run Tryd.prog W = .ok (.bool false) W := fun W => Lib.run_eql_slice_some_nil W _ _ _ Tryd.underlying97
  clear hown hnews h
  go_enter Tryd.func101, Tryd.ntmps101
  go_wp2_with (at_builtin; refine wpList_append_own _ rfl _ _ 97 rfl w.heap.size 24 i0 (.int .u64 0) 1 8 Tryd.underlying97 hi hz0 hz1 hz2 rfl (by decide) _ _ _ rfl HO.out ⟨g, 0, none⟩ m c (wordsOf q m) rfl (by rw [wordsOf_len, Nat.mul_one]) HN.out (wordsOf_one q m) ?c3 ?c4 ?c5 ?_)
  case c3 => unfold maxLen; omega
  case c4 => omega
  case c5 => simp
  · intro v' w2 hown' hgrow _
    have HO2 := Lib.hid hown'
    have hB2 : Below w.heap.size w w2 := ((Below.refl _ _).alloc (Nat.le_refl _) _).grown hgrow (by simp) (fun j e => ((HO.out).lt j e).1)
    clear hgrow hown'
    go_wp2
    go_ret
    refine ⟨v', rfl, ?_, hB2⟩
    exact HO2.out

set_option maxHeartbeats 1000000 in
theorem equal_p (w : World) (B C m : Nat) (v v2 : Value) (q r : Nat → Bool) (h : Pl w B v m q) (h2 : Pl w C v2 m r) (hm0 : 0 < m) (hm : m ≤ 1000000) :
    Calls Tryd.prog 100 #[v, v2] w fun e w' => ∃ b : Bool, e = .returned (.bool b) ∧ (b = true ↔ ∀ i, i < m → word q i = word r i) ∧ Below w.heap.size w w' := by
  obtain ⟨g, c, rfl, _, _⟩ := h.form hm0
  obtain ⟨g2, c2, rfl, _, _⟩ := h2.form hm0
  have H1 := Lib.hid h
  have H2 := Lib.hid h2
  clear h h2
  go_enter Tryd.func100, Tryd.ntmps100
  go_wp2
  go_loopg [13] m (fun m' i wr => ∃ j : Nat, i = .int .i64 (j : Int) ∧ j ≤ m ∧ m' = m - j ∧ (∀ k, k < j → word q k = word r k) ∧ Below w.heap.size w wr)
  case atStart => exact ⟨0, rfl, Nat.zero_le _, rfl, fun k hk => by omega, Below.refl _ _⟩
  case round =>
    obtain ⟨j, rfl, hj, hmj, hz, hW⟩ := hrel
    have HMJ := Lib.hid hmj
    have HZ := Lib.hid hz
    clear hmj hz
    by_cases hlt : j < m
    · have hc := (H1.out.stays hW).cell j hlt
      have hc2 := (H2.out.stays hW).cell j hlt
      have j0 : (0 : Int) ≤ (j : Int) := by omega
      have j1 : (j : Int) < (m : Int) := by omega
      cases hb : (word q j != word r j)
      · go_wp2_with fail
        go_quiet (fail)
        go_wp2
        go_roundg (m - (j + 1))
        case measure => have := HMJ.out; omega
        case rel =>
          refine ⟨j + 1, by go_num, by omega, rfl, fun k hk => ?_, below_drewN hW _⟩
          by_cases hk2 : k < j
          · exact HZ.out k hk2
          · have : k = j := by omega
            subst this
            simpa using hb
      · go_wp2_with fail
        go_quiet (fail)
        go_wp2
        go_ret
        refine ⟨false, rfl, ⟨fun h => (by cases h), fun h => ?_⟩, below_drewN hW _⟩
        rw [h j hlt] at hb
        simp at hb
    · go_wp2
      go_ret
      exact ⟨true, rfl, ⟨fun _ k hk => HZ.out k (by omega), fun _ => rfl⟩, hW⟩

set_option maxHeartbeats 1000000 in
theorem without_p (w : World) (B C m : Nat) (v v2 : Value) (q r : Nat → Bool) (h : Pl w B v m q) (h2 : Pl w C v2 m r) (hm0 : 0 < m) (hm : m ≤ 1000000) :
    Calls Tryd.prog 102 #[v, v2] w (RetPl w m (minusP q r)) := by
  obtain ⟨g2, c2, rfl, _, hg4⟩ := h2.form hm0
  have H2 := Lib.hid h2
  have HC := Lib.hid (clone_p w B m v q h hm0 hm)
  unfold RetPl at HC
  clear h h2
  go_enter Tryd.func102, Tryd.ntmps102
  go_wp2_with (go_at_call 101; (with_reducible refine HC.out.mono ?_); rintro e w1 ⟨v1, rfl, hv1, hb1⟩; obtain ⟨g, c, rfl, hg1, hg2⟩ := hv1.form hm0; have HV := Lib.hid hv1; clear hv1)
  obtain ⟨w4, hw4⟩ : ∃ w4, w4 = w1 := ⟨_, rfl⟩
  rw [← hw4] at HV hb1 hg2 ⊢
  clear hw4
  go_loopg [12] m (fun m' i wr => ∃ j : Nat, i = .int .i64 (j : Int) ∧ j ≤ m ∧ m' = m - j ∧ Pl wr w.heap.size (.slice (some ⟨g, 0, none⟩) m c) m (mixP q (minusP q r) j) ∧ Below w.heap.size w wr)
  case atStart => exact ⟨0, rfl, Nat.zero_le _, rfl, HV.out.congr fun i hi => (mix_ge _ _ _ _ (Nat.zero_le _)).symm, hb1⟩
  case round =>
    obtain ⟨j, rfl, hj, hmj, hpl, hW⟩ := hrel
    have HMJ := Lib.hid hmj
    have HPL := Lib.hid hpl
    clear hmj hpl
    by_cases hlt : j < m
    · have hc := HPL.out.cell j hlt
      have hf := HPL.out.frozen j
      rw [mix_ge _ _ _ _ (Nat.le_refl _)] at hc
      have hc2 := (H2.out.stays hW).cell j hlt
      have HO := Lib.hid (minus_words q r j)
      have hst := HPL.out.set (q' := mixP q (minusP q r) (j + 1)) j hlt (fun i hi => mix_step _ _ j i hi)
      rw [mix_lt _ _ _ _ (Nat.lt_succ_self j)] at hst
      have HST := Lib.hid hst
      clear hst
      go_wp2
      go_roundg (m - (j + 1))
      case measure => have := HMJ.out; omega
      case rel =>
        rw [HO.out]
        exact ⟨j + 1, by go_num, by omega, rfl, HST.out.1, hW.grown HST.out.2 hW.size (fun k e => by injection e with e; omega)⟩
    · have hjm : j = m := by omega
      go_wp2
      go_ret
      exact ⟨_, rfl, HPL.out.congr fun i hi => mix_lt _ _ _ _ (by omega), hW⟩

end Go.Proofs.YtccbeimcggamiaaDoor

/-
  lang.span: how many bytes a word has at least and at most, held to a limit. Contracts for other texts; no statement of its own.
-/
namespace Go.Proofs.YtccbeimcggamiaaDoor
open Go Go.RowKit
attribute [local go_sem ↓] Go.wp_at_zero Go.wp_at_succ

theorem sumL_take (most : Bool) (l : List T) (j : Nat) (h : j < l.length) : (LenL most (l.take (j + 1))).sum = (LenL most (l.take j)).sum + LenU most (l[j]'h) := by
  rw [List.take_succ_eq_append_getElem h, LenL_map, LenL_map, List.map_append, List.sum_append]
  simp only [List.map_cons, List.map_nil, List.sum_cons, List.sum_nil, Nat.add_zero]
/-- The least of all and the limit; the greatest of all. -/
def fold0 (L : Nat) (l : List T) : Nat := (LenL false l).foldl (best1 false) L
def fold1 (l : List T) : Nat := (LenL true l).foldl (best1 true) 0
theorem fold0_take (L : Nat) (l : List T) (j : Nat) (h : j < l.length) : fold0 L (l.take (j + 1)) = min (fold0 L (l.take j)) (LenU false (l[j]'h)) := by
  unfold fold0
  rw [List.take_succ_eq_append_getElem h, LenL_map, LenL_map, List.map_append, List.foldl_append]
  rfl
theorem fold1_take (l : List T) (j : Nat) (h : j < l.length) : fold1 (l.take (j + 1)) = max (fold1 (l.take j)) (LenU true (l[j]'h)) := by
  unfold fold1
  rw [List.take_succ_eq_append_getElem h, LenL_map, LenL_map, List.map_append, List.foldl_append]
  rfl
theorem fold0_le (L : Nat) : ∀ (l : List Nat) (a : Nat), a ≤ L → l.foldl (best1 false) a ≤ L
  | [], a, h => h
  | b :: l, a, h => fold0_le L l _ (by unfold best1; simp <;> omega)
theorem fold0_all (L : Nat) (l : List T) (h : 0 < l.length) : fold0 L l = min (bestN false (LenL false l)) L := by
  cases l with
  | nil => simp at h
  | cons t ts =>
    have key : ∀ (l : List Nat) (a : Nat), l.foldl (best1 false) (min L a) = min (l.foldl (best1 false) a) L := by
      intro l
      induction l with
      | nil => intro a; simp; omega
      | cons b l ih =>
        intro a
        simp only [List.foldl_cons]
        rw [show best1 false (min L a) b = min L (best1 false a b) by unfold best1; simp <;> omega, ih]
    exact key (LenL false ts) (LenU false t)
theorem fold1_all (l : List T) (h : 0 < l.length) : fold1 l = bestN true (LenL true l) := by
  cases l with
  | nil => simp at h
  | cons t ts =>
    unfold fold1
    simp only [LenL, List.foldl_cons, bestN]
    simp [best1]

def RetTwo (w : World) (a b : Nat) (e : Ending) (w' : World) : Prop := e = .returned (.tuple #[.int .i64 a, .int .i64 b]) ∧ Below w.heap.size w w'
theorem ret_two {a b : Nat} {x y : Int} {w w' : World} (h1 : x = a) (h2 : y = b) (hb : Below w.heap.size w w') : RetTwo w a b (.returned (.tuple #[.int .i64 x, .int .i64 y])) w' := by subst h1 h2; exact ⟨rfl, hb⟩

set_option maxRecDepth 20000 in
set_option maxHeartbeats 4000000 in
theorem span_n (L : Nat) (hL1 : 1 ≤ L) (hL2 : L ≤ 1000000) : ∀ (N : Nat) (t : T) (w : World) (ok : Nat → Prop) (k : Value) (g o : Nat), SizeOf.sizeOf t ≤ N → WF t → Tree w ok t k → NodeAt w g o t k →
    Calls Tryd.prog 34 #[.pointer (some ⟨g, o, none⟩), .int .i64 L] w (RetTwo w (min (LenU false t) L) (min (LenU true t) L)) := by
  intro N
  induction N with
  | zero => intro t w ok k g o h; obtain ⟨op, p, lo, hi, l⟩ := t; simp at h
  | succ N ih =>
  intro t w ok k g o hN hwf ht hna
  obtain ⟨A, n', c, rfl⟩ := ht.form
  obtain ⟨hn, hm⟩ := ht.bound
  have hlen := hwf.len
  rw [← hn] at hlen
  unfold maxLen at hm
  have hop := hwf.op_cases
  have HN := Lib.hid hn
  have HT := Lib.hid ht
  have HWF := Lib.hid hwf
  have IH := Lib.hid ih
  have HNA := Lib.hid hna
  have hlu : ∀ most, LenU most t = if t.op = 1 then 1 else if t.op = 2 then (LenL most t.kids).sum else if t.op = 3 then bestN most (LenL most t.kids) else if t.op = 4 then (if most then t.hi else t.lo).toNat * bestN most (LenL most t.kids) else 0 := by intro most; cases t; rfl
  have c0 : w.cell? ⟨g, o, none⟩ = _ := hna 0 _ rfl
  have c5 := hna 5 _ rfl
  have c6 := hna 6 _ rfl
  have c7 := hna 7 _ rfl
  have hB := Below.refl w.heap.size w
  clear hn ih hwf ht hna
  rcases hop with ⟨h, h2, z1, z2⟩ | ⟨h, h2, h3, z1, z2⟩ | ⟨h, h2, h3, z1, z2⟩ | ⟨h, h2, h3, h4, h5, h6⟩
  · have hb1 : (t.op == 1) = true := by simp [h]
    have e : ∀ most, LenU most t = 1 := fun most => by rw [hlu most, if_pos h]
    rw [e false, e true]
    clear h h2 z1 z2 e hlu
    go_enter Tryd.func34, Tryd.ntmps34
    go_wp2
    go_ret2
    exact ret_two (by omega) (by omega) hB
  · have hb1 : (t.op == 1) = false := by simp [h]
    have hb2 : (t.op == 2) = true := by simp [h]
    have e : ∀ most, LenU most t = (LenL most t.kids).sum := fun most => by rw [hlu most, if_neg (by omega), if_pos h]
    rw [e false, e true]
    clear h h2 z1 z2 e hlu
    go_enter Tryd.func34, Tryd.ntmps34
    go_wp2
    go_loopg [4, 5, 27] n' (fun m a b i wr => ∃ j : Nat, i = .int .i64 (j : Int) ∧ j ≤ n' ∧ m = n' - j ∧ a = .int .i64 ((min ((LenL false (t.kids.take j)).sum) L : Nat) : Int) ∧ b = .int .i64 ((min ((LenL true (t.kids.take j)).sum) L : Nat) : Int) ∧ Below w.heap.size w wr)
    case atStart => exact ⟨0, rfl, Nat.zero_le _, rfl, by simp [LenL], by simp [LenL], hB⟩
    case round =>
      obtain ⟨j, rfl, hj, hmj, rfl, rfl, hW⟩ := hrel
      have HMJ := Lib.hid hmj
      clear hmj c0 c5 c6 c7
      have c7 : wr.cell? ⟨g, o + 7, none⟩ = _ := (HNA.out.stays hW) 7 _ rfl
      by_cases hlt : j < n'
      · have hlt' : j < t.kids.length := by rw [← HN.out]; exact hlt
        obtain ⟨g', B, m1, m2, e1, htk, hnk⟩ := NodeAt.kid HT.out j hlt'
        subst e1
        have hks := kid_size t j hlt'
        have hwk := HWF.out.at j hlt'
        have hs0 := sumL_take false t.kids j hlt'
        have hs1 := sumL_take true t.kids j hlt'
        generalize t.kids[j] = u at *
        have HK := Lib.hid (fun w' (hb : Below wr.heap.size wr w') => IH.out u w' ok (.slice B m1 m2) g' (j * 8) (by omega) hwk ((htk.stays hW).stays hb) ((hnk.stays hW).stays hb))
        have HS0 := Lib.hid hs0
        have HS1 := Lib.hid hs1
        clear htk hnk hks hwk hs0 hs1
        unfold RetTwo at HK
        obtain ⟨a0, ha0⟩ : ∃ a, a = min ((LenL false (t.kids.take j)).sum) L := ⟨_, rfl⟩
        obtain ⟨a1, ha1⟩ : ∃ a, a = min ((LenL true (t.kids.take j)).sum) L := ⟨_, rfl⟩
        obtain ⟨b0, hb0⟩ : ∃ a, a = min (LenU false u) L := ⟨_, rfl⟩
        obtain ⟨b1, hb1'⟩ : ∃ a, a = min (LenU true u) L := ⟨_, rfl⟩
        rw [← hb0, ← hb1'] at HK
        rw [← ha0, ← ha1]
        have la0 : a0 ≤ L := by omega
        have la1 : a1 ≤ L := by omega
        have lb0 : b0 ≤ L := by omega
        have lb1 : b1 ≤ L := by omega
        have HA0 := Lib.hid ha0
        have HA1 := Lib.hid ha1
        have HB0 := Lib.hid hb0
        have HB1 := Lib.hid hb1'
        clear ha0 ha1 hb0 hb1'
        go_wp2_with (go_at_call 34; (with_reducible refine (HK.out _ (Below.refl _ _)).mono ?_); rintro e w5 ⟨rfl, hb5⟩)
        all_goals
          go_roundg (n' - (j + 1))
          case measure => have := HMJ.out; omega
          case rel =>
            have q0 := HA0.out
            have q1 := HA1.out
            have q2 := HB0.out
            have q3 := HB1.out
            refine ⟨j + 1, by go_num, by omega, rfl, ?_, ?_, gro hW hb5⟩
            · rw [HS0.out]; refine congrArg (Value.int .i64) ?_; omega
            · rw [HS1.out]; refine congrArg (Value.int .i64) ?_; omega
      · have hjn : j = t.kids.length := by rw [← HN.out]; omega
        have hwhole : t.kids.take j = t.kids := by rw [hjn]; exact List.take_length
        rw [hwhole]
        go_wp2
        go_ret2
        exact ret_two rfl rfl hW
  · have hb1 : (t.op == 1) = false := by simp [h]
    have hb2 : (t.op == 2) = false := by simp [h]
    have hb3 : (t.op == 3) = true := by simp [h]
    have e : ∀ most, LenU most t = bestN most (LenL most t.kids) := fun most => by rw [hlu most, if_neg (by omega), if_neg (by omega), if_pos h]
    have hk0 : 0 < t.kids.length := by omega
    rw [e false, e true, ← fold0_all L t.kids hk0, ← fold1_all t.kids hk0]
    clear hk0
    clear h h2 z1 z2 e hlu
    go_enter Tryd.func34, Tryd.ntmps34
    go_wp2
    go_loopg [4, 5, 60] n' (fun m a b i wr => ∃ j : Nat, i = .int .i64 (j : Int) ∧ j ≤ n' ∧ m = n' - j ∧ a = .int .i64 ((fold0 L (t.kids.take j) : Nat) : Int) ∧ b = .int .i64 ((min (fold1 (t.kids.take j)) L : Nat) : Int) ∧ Below w.heap.size w wr)
    case atStart => exact ⟨0, rfl, Nat.zero_le _, rfl, by simp [LenL, fold0], by simp [LenL, fold1], hB⟩
    case round =>
      obtain ⟨j, rfl, hj, hmj, rfl, rfl, hW⟩ := hrel
      have HMJ := Lib.hid hmj
      clear hmj c0 c5 c6 c7
      have c7 : wr.cell? ⟨g, o + 7, none⟩ = _ := (HNA.out.stays hW) 7 _ rfl
      by_cases hlt : j < n'
      · have hlt' : j < t.kids.length := by rw [← HN.out]; exact hlt
        obtain ⟨g', B, m1, m2, e1, htk, hnk⟩ := NodeAt.kid HT.out j hlt'
        subst e1
        have hks := kid_size t j hlt'
        have hwk := HWF.out.at j hlt'
        have hs0 := fold0_take L t.kids j hlt'
        have hs1 := fold1_take t.kids j hlt'
        generalize t.kids[j] = u at *
        have HK := Lib.hid (fun w' (hb : Below wr.heap.size wr w') => IH.out u w' ok (.slice B m1 m2) g' (j * 8) (by omega) hwk ((htk.stays hW).stays hb) ((hnk.stays hW).stays hb))
        have HS0 := Lib.hid hs0
        have HS1 := Lib.hid hs1
        clear htk hnk hks hwk hs0 hs1
        unfold RetTwo at HK
        obtain ⟨a0, ha0⟩ : ∃ a, a = fold0 L (t.kids.take j) := ⟨_, rfl⟩
        obtain ⟨a1, ha1⟩ : ∃ a, a = min (fold1 (t.kids.take j)) L := ⟨_, rfl⟩
        obtain ⟨b0, hb0⟩ : ∃ a, a = min (LenU false u) L := ⟨_, rfl⟩
        obtain ⟨b1, hb1'⟩ : ∃ a, a = min (LenU true u) L := ⟨_, rfl⟩
        rw [← hb0, ← hb1'] at HK
        rw [← ha0, ← ha1]
        have la0 : a0 ≤ L := by rw [ha0]; exact fold0_le L _ L (Nat.le_refl _)
        have la1 : a1 ≤ L := by omega
        have lb0 : b0 ≤ L := by omega
        have lb1 : b1 ≤ L := by omega
        have HA0 := Lib.hid ha0
        have HA1 := Lib.hid ha1
        have HB0 := Lib.hid hb0
        have HB1 := Lib.hid hb1'
        clear ha0 ha1 hb0 hb1'
        go_wp2_with (go_at_call 34; (with_reducible refine (HK.out _ (Below.refl _ _)).mono ?_); rintro e w5 ⟨rfl, hb5⟩)
        all_goals
          go_roundg (n' - (j + 1))
          case measure => have := HMJ.out; omega
          case rel =>
            have q0 := HA0.out
            have q1 := HA1.out
            have q2 := HB0.out
            have q3 := HB1.out
            refine ⟨j + 1, by go_num, by omega, rfl, ?_, ?_, gro hW hb5⟩
            · rw [HS0.out]; refine congrArg (Value.int .i64) ?_; omega
            · rw [HS1.out]; refine congrArg (Value.int .i64) ?_; omega
      · have hjn : j = t.kids.length := by rw [← HN.out]; omega
        have hwhole : t.kids.take j = t.kids := by rw [hjn]; exact List.take_length
        rw [hwhole]
        go_wp2
        go_ret2
        exact ret_two rfl rfl hW
  · have hb1 : (t.op == 1) = false := by simp [h]
    have hb2 : (t.op == 2) = false := by simp [h]
    have hb3 : (t.op == 3) = false := by simp [h]
    have hb4 : (t.op == 4) = true := by simp [h]
    have h0 : 0 < t.kids.length := by omega
    have hn3 : (0 : Int) < (n' : Int) := by rw [HN.out]; omega
    have hone : ∀ most, bestN most (LenL most t.kids) = LenU most (t.kids[0]'h0) := by
      intro most
      obtain ⟨u, hu⟩ := List.length_eq_one_iff.1 h2
      simp [hu, LenL, bestN]
    have e : ∀ most, LenU most t = (if most then t.hi else t.lo).toNat * LenU most (t.kids[0]'h0) := fun most => by rw [hlu most, if_neg (by omega), if_neg (by omega), if_neg (by omega), if_pos h, hone]
    rw [e false, e true]
    obtain ⟨g', B, m1, m2, e1, htk, hnk⟩ := NodeAt.kid HT.out 0 h0
    subst e1
    have hks := kid_size t 0 h0
    have hwk := HWF.out.at 0 h0
    generalize t.kids[0] = u at *
    have HK := Lib.hid (fun w' (hb : Below w.heap.size w w') => IH.out u w' ok (.slice B m1 m2) g' (0 * 8) (by omega) hwk (htk.stays hb) (hnk.stays hb))
    rw [Nat.zero_mul] at HK
    unfold RetTwo at HK
    obtain ⟨lo, hlo⟩ : ∃ x : Nat, t.lo = x := ⟨t.lo.toNat, by omega⟩
    obtain ⟨hi, hhi⟩ : ∃ x : Nat, t.hi = x := ⟨t.hi.toNat, by omega⟩
    have hloV : lo ≤ 32 := by omega
    have hhiV : hi ≤ 32 := by omega
    have e0 : min ((if false = true then t.hi else t.lo).toNat * LenU false u) L = min (lo * min (LenU false u) L) L := by rw [min_mul]; simp [hlo]
    have e1 : min ((if true = true then t.hi else t.lo).toNat * LenU true u) L = min (hi * min (LenU true u) L) L := by rw [min_mul]; simp [hhi]
    rw [e0, e1]
    generalize hb0 : min (LenU false u) L = b0 at *
    generalize hb1' : min (LenU true u) L = b1 at *
    have lb0 : b0 ≤ L := by omega
    have lb1 : b1 ≤ L := by omega
    have pr0 : lo * b0 ≤ 32 * 1000000 := Nat.mul_le_mul hloV (by omega)
    have pr1 : hi * b1 ≤ 32 * 1000000 := Nat.mul_le_mul hhiV (by omega)
    have f0 : (lo : Int) * (b0 : Int) = ((lo * b0 : Nat) : Int) := by simp
    have f1 : (hi : Int) * (b1 : Int) = ((hi * b1 : Nat) : Int) := by simp
    rw [hlo] at c5
    rw [hhi] at c6
    have i0 : (0 : Int) ≤ (lo : Int) * (b0 : Int) := by rw [f0]; omega
    have i1 : (lo : Int) * (b0 : Int) ≤ 9223372036854775807 := by rw [f0]; omega
    have i2 : (0 : Int) ≤ (hi : Int) * (b1 : Int) := by rw [f1]; omega
    have i3 : (hi : Int) * (b1 : Int) ≤ 9223372036854775807 := by rw [f1]; omega
    have F0 := Lib.hid f0
    have F1 := Lib.hid f1
    clear h hlu hone e e0 e1 htk hnk hks hwk h2 h3 h4 h5 h6 hlo hhi hb0 hb1' f0 f1 h0 pr0 pr1
    generalize hP0 : lo * b0 = P0 at *
    generalize hP1 : hi * b1 = P1 at *
    clear hP0 hP1
    go_enter Tryd.func34, Tryd.ntmps34
    go_wp2_with (go_at_call 34; (with_reducible refine (HK.out _ (Below.refl _ _)).mono ?_); rintro e w5 ⟨rfl, hb5⟩; have d5 := cell_stays c5 hb5; have d6 := cell_stays c6 hb5)
    by_cases q0 : (lo : Int) * (b0 : Int) ≤ (L : Int)
    all_goals
      by_cases q1 : (hi : Int) * (b1 : Int) ≤ (L : Int)
      all_goals
        go_region
        all_goals
          go_wp2
          go_ret2
          have g0 := F0.out
          have g1 := F1.out
          exact ret_two (by omega) (by omega) (hb5.drew)

theorem span_p {t : T} {k : Value} {ok : Nat → Prop} (w : World) (L : Nat) (hL1 : 1 ≤ L) (hL2 : L ≤ 1000000) (g o : Nat) (hwf : WF t) (ht : Tree w ok t k) (hn : NodeAt w g o t k) :
    Calls Tryd.prog 34 #[.pointer (some ⟨g, o, none⟩), .int .i64 L] w (RetTwo w (min (LenU false t) L) (min (LenU true t) L)) :=
  span_n L hL1 hL2 _ t w ok k g o (Nat.le_refl _) hwf ht hn

end Go.Proofs.YtccbeimcggamiaaDoor
