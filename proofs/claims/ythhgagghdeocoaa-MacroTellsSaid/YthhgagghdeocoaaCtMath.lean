/-
  A machine of cells: what an instruction does, as plain mathematics; what and, or do to no bit and to all. No statement of its own.
-/
import Derived.Laws.Bits64
import Derived.Laws.Bits64b
import Derived.IntWalk
set_option linter.unusedVariables false
set_option linter.unusedSimpArgs false
namespace Go.Proofs.Ythhgagghdeocoaa
open Go Go.RowKit

/-- An instruction. -/
structure Ins where
  op : Int
  d : Int
  a : Int
  b : Int
  c : Int
  n : Int
def I64 (v : Int) : Prop := -9223372036854775808 ≤ v ∧ v ≤ 9223372036854775807
def U64 (v : Int) : Prop := 0 ≤ v ∧ v ≤ 18446744073709551615
/-- Its fields are numbers of their kinds. -/
structure Ins.fits (x : Ins) : Prop where
  op : I64 x.op
  d : I64 x.d
  a : I64 x.a
  b : I64 x.b
  c : I64 x.c
  n : U64 x.n
def insC (x : Ins) : List Value := [.int .i64 x.op, .int .i64 x.d, .int .i64 x.a, .int .i64 x.b, .int .i64 x.c, .int .u64 x.n]
def insV (x : Ins) : Value := .agg #[.int .i64 x.op, .int .i64 x.d, .int .i64 x.a, .int .i64 x.b, .int .i64 x.c, .int .u64 x.n]
theorem insC_len (x : Ins) : (insC x).length = 6 := rfl
def insL (l : List Ins) : List Value := l.flatMap insC
theorem insL_len : ∀ (l : List Ins), (insL l).length = l.length * 6
  | [] => rfl
  | x :: l => by
    have h := insL_len l
    unfold insL at h ⊢
    rw [List.flatMap_cons, List.length_append, h, insC_len, List.length_cons]
    omega
theorem insL_app (l m : List Ins) : insL (l ++ m) = insL l ++ insL m := by simp [insL]
theorem insL_one (x : Ins) : insL [x] = insC x := by simp [insL]
theorem insL_get : ∀ (l : List Ins) (i q : Nat) (x : Ins), l[i]? = some x → q < 6 → (insL l)[i * 6 + q]? = (insC x)[q]?
  | [], i, q, x, h, hq => by simp at h
  | y :: l, 0, q, x, h, hq => by
    simp at h
    subst h
    unfold insL
    rw [List.flatMap_cons, List.getElem?_append_left (by rw [insC_len]; omega)]
    simp
  | y :: l, i + 1, q, x, h, hq => by
    have ih := insL_get l i q x (by simpa using h) hq
    unfold insL at ih ⊢
    rw [List.flatMap_cons, List.getElem?_append_right (by rw [insC_len]; omega), insC_len, show (i + 1) * 6 + q - 6 = i * 6 + q by omega]
    exact ih

def there (c : Int) (m : Nat) : Bool := decide (0 ≤ c) && decide (c < (m : Int))
def may (x : Ins) (m : Nat) : Bool :=
  if x.op = 0 ∨ x.op = 10 then there x.d m
  else if x.op = 1 then there x.d m && there x.a m && there x.b m && there x.c m
  else if x.op = 2 ∨ x.op = 3 ∨ x.op = 4 ∨ x.op = 5 ∨ x.op = 8 ∨ x.op = 9 then there x.d m && there x.a m && there x.b m
  else if x.op = 6 ∨ x.op = 7 then there x.d m && there x.a m && decide (x.n ≤ 63)
  else if x.op = 11 then there x.a m else false
def worth (x : Ins) (f : Int → Int) : Int :=
  if x.op = 1 then (if f x.a = 0 then f x.c else f x.b)
  else if x.op = 2 then (if f x.a = f x.b then 1 else 0)
  else if x.op = 3 then (if f x.a < f x.b then 1 else 0)
  else if x.op = 4 then (f x.a + f x.b) % 18446744073709551616
  else if x.op = 5 then (if f x.b ≤ f x.a then f x.a - f x.b else f x.a)
  else if x.op = 6 then (f x.a * 2 ^ x.n.toNat) % 18446744073709551616
  else if x.op = 7 then f x.a / 2 ^ x.n.toNat
  else if x.op = 8 then bits .and .u64 (f x.a) (f x.b)
  else if x.op = 9 then bits .or .u64 (f x.a) (f x.b)
  else x.n
def put (f : Int → Int) (d v : Int) : Int → Int := fun c => if c = d then v else f c
def told (x : Ins) (f : Int → Int) : Int := if x.op = 11 then f x.a else 0
def nextF (x : Ins) (f : Int → Int) : Int → Int := if x.op = 11 then f else put f x.d (worth x f)
def trc (x : Ins) : Ins := if x.op = 10 then { x with n := 0 } else x
theorem trc_fits {x : Ins} (h : x.fits) : (trc x).fits := by
  unfold trc
  split
  · exact ⟨h.op, h.d, h.a, h.b, h.c, (show U64 0 from ⟨by decide, by decide⟩)⟩
  · exact h

/-- Which of an instruction's cases it is. -/
theorem op_cases (o : Int) : o = 0 ∨ o = 1 ∨ o = 2 ∨ o = 3 ∨ o = 4 ∨ o = 5 ∨ o = 6 ∨ o = 7 ∨ o = 8 ∨ o = 9 ∨ o = 10 ∨ o = 11 ∨ (¬ o = 0 ∧ ¬ o = 1 ∧ ¬ o = 2 ∧ ¬ o = 3 ∧ ¬ o = 4 ∧ ¬ o = 5 ∧ ¬ o = 6 ∧ ¬ o = 7 ∧ ¬ o = 8 ∧ ¬ o = 9 ∧ ¬ o = 10 ∧ ¬ o = 11) := by omega

theorem bits_u64 (op : BinOp) (a b : Int) : U64 (bits op .u64 a b) := by
  unfold U64 bits
  cases op <;> simp only [IntKind.wrap_u64] <;> omega
theorem nat_of {v : Int} (h : U64 v) : ∃ x : Nat, v = (x : Int) ∧ x < 18446744073709551616 := ⟨v.toNat, by rw [Int.toNat_of_nonneg h.1], by have := h.1; have := h.2; omega⟩
theorem and_none {b : Int} (h : U64 b) : bits .and .u64 b 0 = 0 := by
  obtain ⟨x, rfl, hx⟩ := nat_of h
  rw [show (0 : Int) = ((0 : Nat) : Int) from rfl, bits_and_u64_nat _ _ hx (by decide)]
  simp
theorem and_all {b : Int} (h : U64 b) : bits .and .u64 b 18446744073709551615 = b := by
  obtain ⟨x, rfl, hx⟩ := nat_of h
  rw [show (18446744073709551615 : Int) = ((18446744073709551615 : Nat) : Int) from rfl, bits_and_u64_nat _ _ hx (by decide), show (18446744073709551615 : Nat) = 2 ^ 64 - 1 by decide, Nat.and_two_pow_sub_one_eq_mod, Nat.mod_eq_of_lt hx]
theorem ofInt_nat {x : Nat} (hx : x < 18446744073709551616) : (BitVec.ofInt 64 (x : Int)).toNat = x := by
  rw [BitVec.ofInt_natCast, BitVec.toNat_ofNat]; exact Nat.mod_eq_of_lt hx
theorem andNot_nat {x y : Nat} (hx : x < 18446744073709551616) (hy : y < 18446744073709551616) : bits .andNot .u64 (x : Int) (y : Int) = ((x &&& (18446744073709551615 - y) : Nat) : Int) := by
  show IntKind.u64.wrap ((BitVec.ofInt 64 (x : Int) &&& ~~~ BitVec.ofInt 64 (y : Int)).toNat : Int) = _
  have h : x &&& (2 ^ 64 - 1 - y) < 18446744073709551616 := Nat.and_lt_two_pow _ (n := 64) (by omega)
  rw [BitVec.toNat_and, BitVec.toNat_not, ofInt_nat hx, ofInt_nat hy, IntKind.wrap_u64]
  have e : (2 : Nat) ^ 64 - 1 = 18446744073709551615 := by decide
  rw [e] at h ⊢
  omega
theorem andNot_none {b : Int} (h : U64 b) : bits .andNot .u64 b 0 = b := by
  obtain ⟨x, rfl, hx⟩ := nat_of h
  rw [show (0 : Int) = ((0 : Nat) : Int) from rfl, andNot_nat hx (by decide), Nat.sub_zero, show (18446744073709551615 : Nat) = 2 ^ 64 - 1 by decide, Nat.and_two_pow_sub_one_eq_mod, Nat.mod_eq_of_lt hx]
theorem andNot_all {b : Int} (h : U64 b) : bits .andNot .u64 b 18446744073709551615 = 0 := by
  obtain ⟨x, rfl, hx⟩ := nat_of h
  rw [show (18446744073709551615 : Int) = ((18446744073709551615 : Nat) : Int) from rfl, andNot_nat hx (by decide)]
  simp
theorem or_none {b : Int} (h : U64 b) : bits .or .u64 b 0 = b := by
  obtain ⟨x, rfl, hx⟩ := nat_of h
  rw [show (0 : Int) = ((0 : Nat) : Int) from rfl, bits_or_u64_nat _ _ hx (by decide)]
  simp
theorem none_or {b : Int} (h : U64 b) : bits .or .u64 0 b = b := by
  obtain ⟨x, rfl, hx⟩ := nat_of h
  rw [show (0 : Int) = ((0 : Nat) : Int) from rfl, bits_or_u64_nat _ _ (by decide) hx]
  simp
theorem xor_less {a b : Int} (ha : U64 a) (hb : U64 b) : (bits .xor .u64 a b < 1) = (a = b) := by
  obtain ⟨x, rfl, hx⟩ := nat_of ha
  obtain ⟨y, rfl, hy⟩ := nat_of hb
  rw [bits_xor_u64_nat _ _ hx hy]
  apply propext
  constructor
  · intro h
    have h0 : x ^^^ y = 0 := by omega
    have := Nat.eq_of_testBit_eq (x := x) (y := y) fun j => by
      have := congrArg (fun v => Nat.testBit v j) h0
      simpa [Nat.testBit_xor] using this
    omega
  · intro h
    have h' : x = y := by omega
    subst h'
    simp
theorem worth_u64 {x : Ins} {f : Int → Int} (hx : U64 x.n) (hf : ∀ c, U64 (f c)) : U64 (worth x f) := by
  have ha := hf x.a
  have hb := hf x.b
  have hc := hf x.c
  have h8 := bits_u64 .and (f x.a) (f x.b)
  have h9 := bits_u64 .or (f x.a) (f x.b)
  have hdiv : U64 (f x.a / 2 ^ x.n.toNat) := by
    have hp : (0 : Int) < 2 ^ x.n.toNat := Int.pow_pos (by decide)
    exact ⟨Int.ediv_nonneg ha.1 (Int.le_of_lt hp), Int.le_trans (Int.ediv_le_self _ ha.1) ha.2⟩
  have hmod : ∀ v : Int, U64 (v % 18446744073709551616) := fun v => ⟨by omega, by omega⟩
  unfold worth
  split
  · split <;> assumption
  split
  · split <;> (unfold U64; decide)
  split
  · split <;> (unfold U64; decide)
  split
  · exact hmod _
  split
  · split
    · exact ⟨by omega, by have := ha.2; have := hb.1; omega⟩
    · exact ha
  split
  · exact hmod _
  split
  · exact hdiv
  split
  · exact h8
  split
  · exact h9
  · exact hx
theorem next_u64 {x : Ins} {f : Int → Int} (hx : U64 x.n) (hf : ∀ c, U64 (f c)) (c : Int) : U64 (nextF x f c) := by
  unfold nextF
  split
  · exact hf c
  · unfold put
    split
    · exact worth_u64 hx hf
    · exact hf c
theorem told_u64 {x : Ins} {f : Int → Int} (hf : ∀ c, U64 (f c)) : U64 (told x f) := by
  unfold told
  split
  · exact hf _
  · unfold U64; decide
end Go.Proofs.Ythhgagghdeocoaa
