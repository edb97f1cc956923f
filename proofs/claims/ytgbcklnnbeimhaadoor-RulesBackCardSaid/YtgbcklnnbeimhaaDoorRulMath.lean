/-
  Rules as text, as plain functions: the places of a byte, a name, a line's rule, lines, what a text of rules tells, what rules show. No program; no statement of its own.
-/
import Derived.Test.YtgbcklnnbeimhaaDoorBt
import Derived.Lib.SplitLaws
import Derived.Lib.LastIndexByte
import Derived.Lib.Bytealg
set_option linter.unusedVariables false
set_option linter.unusedSimpArgs false
namespace Go.Proofs.YtgbcklnnbeimhaaDoor
open Go

theorem bytes_ext {a b : ByteArray} (h : a.data.toList = b.data.toList) : a = b := by
  cases a with
  | mk x => cases b with
    | mk y => exact congrArg ByteArray.mk (Array.toList_inj.1 h)
theorem str_beq (a b : ByteArray) : (a.toList == b.toList) = decide (a = b) := by
  rw [ByteArray.toList_eq, ByteArray.toList_eq]
  by_cases h : a = b
  · subst h; simp
  · rw [decide_eq_false h]
    refine beq_eq_false_iff_ne.2 fun e => h (bytes_ext e)
theorem str_lit (a : ByteArray) (x : Array UInt8) : (a.toList == x.toList) = decide (a = ⟨x⟩) := by
  have := str_beq a ⟨x⟩
  rw [ByteArray.toList_eq ⟨x⟩] at this
  exact this
theorem bt_data (s : ByteArray) (k : Nat) : bt s k = (s.data[k]!).toNat := by
  unfold bt
  rw [List.getD_eq_getElem?_getD, getElem!_def, Array.getElem?_toList]
  cases s.data[k]? <;> rfl
theorem bt_list (s : ByteArray) (k : Nat) (b : UInt8) (h : s.data.toList[k]? = some b) : bt s k = b.toNat := by
  unfold bt
  rw [List.getD_eq_getElem?_getD, h]
  rfl

/-- The first place, and the last one, of a byte among the first k. -/
def firstI (s : ByteArray) (c : Nat) : Nat → Int
  | 0 => -1
  | k + 1 => if firstI s c k < 0 ∧ bt s k = c then (k : Int) else firstI s c k
def lastI (s : ByteArray) (c : Nat) : Nat → Int
  | 0 => -1
  | k + 1 => if bt s k = c then (k : Int) else lastI s c k
theorem firstI_spec (s : ByteArray) (c : Nat) : ∀ k, (firstI s c k = -1 ∧ ∀ j, j < k → bt s j ≠ c) ∨ ∃ i : Nat, i < k ∧ firstI s c k = i ∧ bt s i = c ∧ ∀ j, j < i → bt s j ≠ c
  | 0 => .inl ⟨rfl, fun j h => absurd h (Nat.not_lt_zero _)⟩
  | k + 1 => by
    unfold firstI
    rcases firstI_spec s c k with ⟨e, hn⟩ | ⟨i, hi, e, hc, hn⟩
    · by_cases h : bt s k = c
      · rw [if_pos ⟨by omega, h⟩]
        exact .inr ⟨k, by omega, rfl, h, hn⟩
      · rw [if_neg fun x => h x.2]
        exact .inl ⟨e, fun j hj => by rcases Nat.lt_succ_iff_lt_or_eq.1 hj with h' | rfl; exact hn j h'; exact h⟩
    · rw [if_neg fun x => by have := x.1; omega]
      exact .inr ⟨i, by omega, e, hc, hn⟩
theorem lastI_spec (s : ByteArray) (c : Nat) : ∀ k, (lastI s c k = -1 ∧ ∀ j, j < k → bt s j ≠ c) ∨ ∃ i : Nat, i < k ∧ lastI s c k = i ∧ bt s i = c ∧ ∀ j, i < j → j < k → bt s j ≠ c
  | 0 => .inl ⟨rfl, fun j h => absurd h (Nat.not_lt_zero _)⟩
  | k + 1 => by
    unfold lastI
    by_cases h : bt s k = c
    · rw [if_pos h]
      exact .inr ⟨k, by omega, rfl, h, fun j h1 h2 => by omega⟩
    · rw [if_neg h]
      rcases lastI_spec s c k with ⟨e, hn⟩ | ⟨i, hi, e, hc, hn⟩
      · exact .inl ⟨e, fun j hj => by rcases Nat.lt_succ_iff_lt_or_eq.1 hj with h' | rfl; exact hn j h'; exact h⟩
      · exact .inr ⟨i, by omega, e, hc, fun j h1 h2 => by rcases Nat.lt_succ_iff_lt_or_eq.1 h2 with h' | rfl; exact hn j h1 h'; exact h⟩
theorem firstI_is (s : ByteArray) (c k i : Nat) (hi : i < k) (hc : bt s i = c) (hn : ∀ j, j < i → bt s j ≠ c) : firstI s c k = i := by
  rcases firstI_spec s c k with ⟨e, h⟩ | ⟨j, hj, e, h1, h2⟩
  · exact absurd hc (h i hi)
  · rcases Nat.lt_trichotomy i j with h | h | h
    · exact absurd hc (h2 i h)
    · rw [e, h]
    · exact absurd h1 (hn j h)
theorem lastI_is (s : ByteArray) (c k i : Nat) (hi : i < k) (hc : bt s i = c) (hn : ∀ j, i < j → j < k → bt s j ≠ c) : lastI s c k = i := by
  rcases lastI_spec s c k with ⟨e, h⟩ | ⟨j, hj, e, h1, h2⟩
  · exact absurd hc (h i hi)
  · rcases Nat.lt_trichotomy i j with h | h | h
    · exact absurd h1 (hn j h hj)
    · rw [e, h]
    · exact absurd hc (h2 i h hi)
theorem first_last (s : ByteArray) (c k : Nat) : firstI s c k ≤ lastI s c k ∧ -1 ≤ firstI s c k ∧ lastI s c k < k ∧ (firstI s c k < 0 ↔ lastI s c k < 0) := by
  rcases firstI_spec s c k with ⟨e, h⟩ | ⟨i, hi, e, h1, h2⟩ <;> rcases lastI_spec s c k with ⟨e', h'⟩ | ⟨j, hj, e', h1', h2'⟩
  · rw [e, e']; omega
  · exact absurd h1' (h j hj)
  · exact absurd h1 (h' i hi)
  · have : ¬ j < i := fun hh => absurd h1' (h2 j hh)
    rw [e, e']
    omega
theorem lastIdx_is (s : ByteArray) (c : Nat) : ∀ k, Lib.lastIdx s (c : Int) k = lastI s c k
  | 0 => rfl
  | k + 1 => by
    unfold Lib.lastIdx lastI
    rw [lastIdx_is s c k, bt_data]
    by_cases h : (s.data[k]!).toNat = c
    · rw [if_pos h, if_pos (by omega)]
    · rw [if_neg h, if_neg (by omega)]
theorem indexByte_spec (c : UInt8) : ∀ (l : List UInt8), (Lib.indexByte l c = -1 ∧ ∀ j, j < l.length → l[j]? ≠ some c) ∨ ∃ i : Nat, i < l.length ∧ Lib.indexByte l c = i ∧ l[i]? = some c ∧ ∀ j, j < i → l[j]? ≠ some c
  | [] => .inl ⟨rfl, fun j h => absurd h (Nat.not_lt_zero _)⟩
  | b :: l => by
    unfold Lib.indexByte
    by_cases h : b = c
    · subst h
      rw [if_pos (by simp)]
      exact .inr ⟨0, by simp, rfl, rfl, fun j h => absurd h (Nat.not_lt_zero _)⟩
    · rw [if_neg (by simpa using h)]
      rcases indexByte_spec c l with ⟨e, hn⟩ | ⟨i, hi, e, hc, hn⟩
      · rw [if_pos (by rw [e]; rfl)]
        refine .inl ⟨rfl, fun j hj => ?_⟩
        cases j with
        | zero => simpa using h
        | succ j => simpa using hn j (by simpa using hj)
      · rw [if_neg (by rw [e]; intro h; have := beq_iff_eq.1 h; omega)]
        refine .inr ⟨i + 1, by simpa using hi, by rw [e]; omega, by simpa using hc, fun j hj => ?_⟩
        cases j with
        | zero => simpa using h
        | succ j => simpa using hn j (by omega)
theorem indexByte_is (s : ByteArray) (c : UInt8) : Lib.indexByte s.data.toList c = firstI s c.toNat s.size := by
  have hlen : s.data.toList.length = s.size := by simp
  have key : ∀ j, j < s.size → (s.data.toList[j]? = some c ↔ bt s j = c.toNat) := fun j hj => by
    rw [List.getElem?_eq_getElem (by rw [hlen]; exact hj)]
    have : bt s j = (s.data.toList[j]'(by rw [hlen]; exact hj)).toNat := bt_list s j _ (List.getElem?_eq_getElem _)
    rw [this]
    constructor
    · intro h; rw [Option.some.inj h]
    · intro h; rw [UInt8.toNat_inj.1 h]
  rcases indexByte_spec c s.data.toList with ⟨e, hn⟩ | ⟨i, hi, e, hc, hn⟩
  · rw [e]
    rcases firstI_spec s c.toNat s.size with ⟨e', _⟩ | ⟨i, hi, e', h1, _⟩
    · exact e'.symm
    · exact absurd ((key i hi).2 h1) (hn i (by rw [hlen]; exact hi))
  · rw [hlen] at hi
    rw [e, firstI_is s c.toNat s.size i hi ((key i hi).1 hc) fun j hj h => hn j hj ((key j (by omega)).2 h)]

/-- May that byte stand in a name? -/
def okB (b : Nat) : Bool := decide (97 ≤ b ∧ b ≤ 122) || decide (48 ≤ b ∧ b ≤ 57) || decide (b = 45) || decide (b = 95)
def nameOk (s : ByteArray) : Bool := decide (1 ≤ s.size ∧ s.size ≤ 16) && (List.range s.size).all fun i => okB (bt s i)
theorem nameOk_iff (s : ByteArray) : nameOk s = true ↔ (1 ≤ s.size ∧ s.size ≤ 16) ∧ ∀ i, i < s.size → okB (bt s i) = true := by
  unfold nameOk
  rw [Bool.and_eq_true, decide_eq_true_iff, List.all_eq_true]
  constructor
  · rintro ⟨h, g⟩; exact ⟨h, fun i hi => g i (List.mem_range.2 hi)⟩
  · rintro ⟨h, g⟩; exact ⟨h, fun i hi => g i (List.mem_range.1 hi)⟩

/-- A rule, as text. -/
structure Ru where
  name : ByteArray
  pat : ByteArray
  luhn : Bool

def luhnT : ByteArray := ⟨#[108, 117, 104, 110]⟩
def plainT : ByteArray := ⟨#[112, 108, 97, 105, 110]⟩
def nameOf (s : ByteArray) : ByteArray := s.extract 0 (firstI s 32 s.size).toNat
def patOf (s : ByteArray) : ByteArray := s.extract ((firstI s 32 s.size).toNat + 1) (lastI s 32 s.size).toNat
def kindOf (s : ByteArray) : ByteArray := s.extract ((lastI s 32 s.size).toNat + 1) s.size
/-- A line's rule. -/
def ruleT (s : ByteArray) : Option Ru :=
  if lastI s 32 s.size < firstI s 32 s.size + 2 then none
  else if nameOk (nameOf s) = true ∧ (kindOf s = luhnT ∨ kindOf s = plainT) then some ⟨nameOf s, patOf s, decide (kindOf s = luhnT)⟩ else none

/-- Lines. -/
def fromI (s : ByteArray) : Nat → Nat
  | 0 => 0
  | k + 1 => if bt s k = 10 then k + 1 else fromI s k
def doneI (s : ByteArray) : Nat → List ByteArray
  | 0 => []
  | k + 1 => if bt s k = 10 then doneI s k ++ [s.extract (fromI s k) k] else doneI s k
def linesB (s : ByteArray) : List ByteArray := doneI s s.size ++ [s.extract (fromI s s.size) s.size]
theorem fromI_le (s : ByteArray) : ∀ k, fromI s k ≤ k
  | 0 => Nat.le_refl _
  | k + 1 => by unfold fromI; split; exact Nat.le_refl _; exact Nat.le_succ_of_le (fromI_le s k)
theorem doneI_len (s : ByteArray) : ∀ k, (doneI s k).length ≤ k
  | 0 => Nat.le_refl _
  | k + 1 => by
    unfold doneI
    have := doneI_len s k
    split
    · simp; exact this
    · omega
theorem doneI_size (s : ByteArray) : ∀ k, ∀ x ∈ doneI s k, x.size ≤ s.size
  | 0 => fun x h => by simp [doneI] at h
  | k + 1 => fun x h => by
    unfold doneI at h
    split at h
    · rcases List.mem_append.1 h with h | h
      · exact doneI_size s k x h
      · rw [List.mem_singleton] at h
        subst h
        simp
        omega
    · exact doneI_size s k x h
theorem linesB_size (s : ByteArray) : ∀ x ∈ linesB s, x.size ≤ s.size := fun x h => by
  unfold linesB at h
  rcases List.mem_append.1 h with h | h
  · exact doneI_size s _ x h
  · rw [List.mem_singleton] at h
    subst h
    simp
def linesL : List UInt8 → List (List UInt8)
  | [] => [[]]
  | b :: l => if b = 10 then [] :: linesL l else match linesL l with
    | [] => [[b]]
    | x :: r => (b :: x) :: r
theorem linesL_ne : ∀ l, linesL l ≠ []
  | [] => by simp [linesL]
  | b :: l => by
    unfold linesL
    split
    · simp
    · split <;> simp
theorem linesL_no : ∀ l : List UInt8, (∀ b ∈ l, b ≠ 10) → linesL l = [l]
  | [], _ => rfl
  | b :: l, h => by
    unfold linesL
    rw [if_neg (h b (by simp)), linesL_no l fun x hx => h x (by simp [hx])]
theorem linesL_app : ∀ (a b : List UInt8), (∀ x ∈ a, x ≠ 10) → linesL (a ++ 10 :: b) = a :: linesL b
  | [], b, _ => by simp [linesL]
  | x :: a, b, h => by
    rw [List.cons_append, linesL, if_neg (h x (by simp)), linesL_app a b fun y hy => h y (by simp [hy])]
theorem splitK_is : ∀ l : List UInt8, Lib.splitK [10] 0 (Lib.count l [10]) l = linesL l
  | [] => by rw [show Lib.count [] [10] = 0 from Lib.count_miss (by simp [Lib.index])]; rfl
  | b :: l => by
    by_cases h : b = 10
    · subst h
      have hix : Lib.index (10 :: l) [10] = 0 := by rw [Lib.index]; simp [List.isPrefixOf]
      rw [Lib.count_cons_eq, Nat.add_comm, linesL, if_pos rfl, Lib.splitK, hix]
      simp only [Int.toNat_zero, Nat.zero_add, List.take_zero, List.length_singleton, List.drop_succ_cons, List.drop_zero]
      rw [if_neg (by decide), splitK_is l]
    · have hp : ([10] : List UInt8).isPrefixOf (b :: l) = false := by simp [List.isPrefixOf, Ne.symm h]
      have hix : Lib.index (b :: l) [10] = if Lib.index l [10] == -1 then -1 else Lib.index l [10] + 1 := by rw [Lib.index, hp]; simp
      have ih := splitK_is l
      rw [Lib.count_cons_ne b 10 l h, linesL, if_neg h]
      cases hk : Lib.count l [10] with
      | zero => rw [hk] at ih; rw [Lib.splitK] at ih ⊢; rw [← ih]
      | succ k =>
        rw [hk] at ih
        rw [Lib.splitK] at ih ⊢
        by_cases hm : Lib.index l [10] = -1
        · rw [hix, hm]
          rw [hm] at ih
          simp only [beq_self_eq_true, if_true] at ih ⊢
          rw [← ih]
        · have hge := Lib.index_ge l [10]
          have hm' : (Lib.index l [10] == -1) = false := beq_eq_false_iff_ne.2 hm
          rw [hix]
          simp only [hm', Bool.false_eq_true, if_false] at ih ⊢
          have h2 : (Lib.index l [10] + 1 == -1) = false := beq_eq_false_iff_ne.2 (by omega)
          simp only [h2, Bool.false_eq_true, if_false]
          rw [← ih]
          have e1 : (Lib.index l [10] + 1).toNat = (Lib.index l [10]).toNat + 1 := by omega
          simp only [e1, List.length_singleton]
          simp only [Nat.add_zero, List.take_succ_cons, List.drop_succ_cons, List.length_singleton]
theorem drop_cons (s : ByteArray) (k : Nat) (h : k < s.size) : ∃ b : UInt8, s.data.toList.drop k = b :: s.data.toList.drop (k + 1) ∧ bt s k = b.toNat := by
  have hl : k < s.data.toList.length := by simpa using h
  exact ⟨_, List.drop_eq_getElem_cons hl, bt_list s k _ (List.getElem?_eq_getElem hl)⟩
theorem extract_list (s : ByteArray) (a b : Nat) : (s.extract a b).data.toList = (s.data.toList.drop a).take (b - a) := by
  rw [ByteArray.data_extract, Array.toList_extract]
theorem doneI_is (s : ByteArray) : ∀ k, k ≤ s.size → (doneI s k).map (fun x => x.data.toList) ++ linesL (s.data.toList.drop (fromI s k)) = linesL s.data.toList ∧ ∀ j, fromI s k ≤ j → j < k → bt s j ≠ 10
  | 0, _ => ⟨by simp [doneI, fromI], fun j h1 h2 => by omega⟩
  | k + 1, hk => by
    obtain ⟨ih1, ih2⟩ := doneI_is s k (by omega)
    rw [doneI, fromI]
    have hf := fromI_le s k
    by_cases h : bt s k = 10
    · rw [if_pos h, if_pos h]
      refine ⟨?_, fun j h1 h2 => by omega⟩
      rw [List.map_append, List.append_assoc, ← ih1]
      congr 1
      obtain ⟨b, hb, hv⟩ := drop_cons s k (by omega)
      have hb10 : b = 10 := by
        have : b.toNat = 10 := by omega
        exact UInt8.toNat_inj.1 this
      have hsp : s.data.toList.drop (fromI s k) = (s.extract (fromI s k) k).data.toList ++ 10 :: s.data.toList.drop (k + 1) := by
        rw [extract_list, ← hb10, ← hb]
        conv => lhs; rw [← List.take_append_drop (k - fromI s k) (s.data.toList.drop (fromI s k))]
        rw [List.drop_drop, show fromI s k + (k - fromI s k) = k by omega]
      rw [hsp, linesL_app]
      · rfl
      · intro x hx
        rw [extract_list] at hx
        obtain ⟨i, hi, e⟩ := List.getElem_of_mem hx
        have hi' : i < k - fromI s k := by
          have := hi
          rw [List.length_take] at this
          omega
        have hj : s.data.toList[fromI s k + i]? = some x := by
          rw [← List.getElem?_drop, ← List.getElem?_take_of_lt hi', List.getElem?_eq_getElem hi, e]
        have := bt_list s _ _ hj
        intro h10
        exact ih2 (fromI s k + i) (by omega) (by omega) (by rw [this, h10]; rfl)
    · rw [if_neg h, if_neg h]
      exact ⟨ih1, fun j h1 h2 => by rcases Nat.lt_succ_iff_lt_or_eq.1 h2 with h' | rfl; exact ih2 j h1 h'; exact h⟩
theorem no_ten (s : ByteArray) (a b : Nat) (hab : a ≤ b) (hb : b ≤ s.size) (h : ∀ j, a ≤ j → j < b → bt s j ≠ 10) : ∀ x ∈ (s.extract a b).data.toList, x ≠ 10 := by
  intro x hx
  rw [extract_list] at hx
  obtain ⟨i, hi, e⟩ := List.getElem_of_mem hx
  have hi' : i < b - a := by
    have := hi
    rw [List.length_take] at this
    omega
  have hj : s.data.toList[a + i]? = some x := by
    rw [← List.getElem?_drop, ← List.getElem?_take_of_lt hi', List.getElem?_eq_getElem hi, e]
  have := bt_list s _ _ hj
  intro h10
  exact h (a + i) (by omega) (by omega) (by rw [this, h10]; rfl)
theorem linesB_data (s : ByteArray) : (linesB s).map (fun x => x.data.toList) = linesL s.data.toList := by
  obtain ⟨h1, h2⟩ := doneI_is s s.size (Nat.le_refl _)
  unfold linesB
  rw [List.map_append, ← h1]
  congr 1
  have hf := fromI_le s s.size
  have hx : s.data.toList.drop (fromI s s.size) = (s.extract (fromI s s.size) s.size).data.toList := by
    rw [extract_list, List.take_of_length_le (by simp)]
  rw [hx, linesL_no _ (no_ten s _ _ hf (Nat.le_refl _) h2)]
  rfl
theorem bytes_map_inj : ∀ {a b : List ByteArray}, a.map (fun x => x.data.toList) = b.map (fun x => x.data.toList) → a = b
  | [], [], _ => rfl
  | [], _ :: _, h => by simp at h
  | _ :: _, [], h => by simp at h
  | x :: a, y :: b, h => by
    simp only [List.map_cons, List.cons.injEq] at h
    rw [bytes_ext h.1, bytes_map_inj h.2]
def nlT : ByteArray := ⟨#[10]⟩
theorem split_is (s : ByteArray) : Lib.splitB nlT 0 (Lib.countB s nlT) s = linesB s := by
  refine bytes_map_inj ?_
  rw [Lib.splitB_data, linesB_data]
  exact splitK_is s.data.toList

/-- What is amiss (its number, its line), or the rules. -/
def parseL : List ByteArray → Nat → List Ru → Except (Int × Nat) (List Ru)
  | [], _, acc => .ok acc
  | l :: r, k, acc =>
    if l.size = 0 ∨ bt l 0 = 35 then parseL r (k + 1) acc
    else match ruleT l with
      | none => .error (2, k)
      | some x => if acc.any (fun y => decide (y.name = x.name)) = true then .error (8, k) else if acc.length = 8 then .error (4, k) else parseL r (k + 1) (acc ++ [x])
def parseR (s : ByteArray) : Except (Int × Nat) (List Ru) := if 4000 < s.size then .error (4, 0) else parseL (linesB s) 0 []

theorem parseL_len : ∀ (ls : List ByteArray) (k : Nat) (acc l : List Ru), acc.length ≤ 8 → parseL ls k acc = .ok l → l.length ≤ 8
  | [], k, acc, l, ha, h => by
    rw [parseL] at h
    cases h
    exact ha
  | x :: r, k, acc, l, ha, h => by
    rw [parseL] at h
    split at h
    · exact parseL_len r _ _ _ ha h
    · split at h
      · cases h
      · split at h
        · cases h
        · split at h
          · cases h
          · exact parseL_len r _ _ _ (by simp; omega) h
theorem parseR_len8 {s : ByteArray} {l : List Ru} (h : parseR s = .ok l) : l.length ≤ 8 := by
  unfold parseR at h
  split at h
  · cases h
  · exact parseL_len _ _ _ _ (by simp) h
theorem parseR_len {s : ByteArray} {l : List Ru} (h : parseR s = .ok l) : l.length ≤ 1000 := Nat.le_trans (parseR_len8 h) (by omega)
/-- A rule's line. -/
def lineT (x : Ru) : List UInt8 := x.name.data.toList ++ 32 :: (x.pat.data.toList ++ 32 :: (if x.luhn then luhnT else plainT).data.toList)
def showL : List Ru → List UInt8
  | [] => []
  | x :: l => lineT x ++ 10 :: showL l
theorem showL_app : ∀ (a b : List Ru), showL (a ++ b) = showL a ++ showL b
  | [], b => rfl
  | x :: a, b => by rw [List.cons_append, showL, showL, showL_app a b]; simp
end Go.Proofs.YtgbcklnnbeimhaaDoor
