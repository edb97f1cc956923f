/-
  luhn: the sum of digits, as plain functions. Mathematics for other texts; no statement of its own.
-/
import Derived.Test.YtoigllolilibhaaRows
set_option linter.unusedVariables false
set_option linter.unusedSimpArgs false
namespace Go.Proofs.Ytoigllolilibhaa

def isD (x : Int) : Bool := decide (48 ≤ x) && decide (x ≤ 57)
theorem isD_yes {x : Int} (h : isD x = true) : 48 ≤ x ∧ x ≤ 57 := by simpa [isD] using h
theorem isD_no {x : Int} (h : isD x = false) : x < 48 ∨ 57 < x := by
  simp [isD] at h
  omega
theorem isD_no' {x : Int} (h : x < 48 ∨ 57 < x) : isD x = false := by
  rw [isD]
  rcases h with h | h
  · simp; omega
  · simp; omega
theorem isD_yes' {x : Int} (h : 48 ≤ x) (h' : x ≤ 57) : isD x = true := by simp [isD, h, h']
/-- What the digit d adds as number i from the last one on, from 0. -/
def wt (i : Nat) (d : Int) : Int := if i % 2 = 1 then (if 9 < 2 * d then 2 * d - 9 else 2 * d) else d
theorem wt_bd (i : Nat) (d : Int) (h : 0 ≤ d) (h' : d ≤ 9) : 0 ≤ wt i d ∧ wt i d ≤ 9 := by
  unfold wt
  split
  · split <;> omega
  · omega
theorem wt_inj (i : Nat) (d e : Int) (h : 0 ≤ d) (h' : d ≤ 9) (k : 0 ≤ e) (k' : e ≤ 9) (hw : wt i d = wt i e) : d = e := by
  unfold wt at hw
  split at hw
  · split at hw
    · split at hw <;> omega
    · split at hw <;> omega
  · exact hw
theorem wt_two (i : Nat) (d : Int) : wt (i + 2) d = wt i d := by unfold wt; rw [show (i + 2) % 2 = i % 2 by omega]
/-- How many digits. -/
def lN : List Int → Nat
  | [] => 0
  | x :: xs => if isD x = true then lN xs + 1 else lN xs
/-- Their sum, p digits standing behind. -/
def raw (p : Nat) : List Int → Int
  | [] => 0
  | x :: xs => if isD x = true then raw p xs + wt (p + lN xs) (x - 48) else raw p xs
def lS (xs : List Int) : Int := raw 0 xs % 10
theorem lN_le : ∀ xs : List Int, lN xs ≤ xs.length
  | [] => Nat.le_refl _
  | x :: xs => by
    have := lN_le xs
    unfold lN
    split <;> simp <;> omega
theorem lS_bd (xs : List Int) : 0 ≤ lS xs ∧ lS xs ≤ 9 := by unfold lS; omega
theorem lN_yes {x : Int} (xs : List Int) (h : isD x = true) : lN (x :: xs) = lN xs + 1 := by simp [lN, h]
theorem lN_no {x : Int} (xs : List Int) (h : isD x = false) : lN (x :: xs) = lN xs := by simp [lN, h]
theorem raw_yes {x : Int} (p : Nat) (xs : List Int) (h : isD x = true) : raw p (x :: xs) = raw p xs + wt (p + lN xs) (x - 48) := by simp [raw, h]
theorem raw_no {x : Int} (p : Nat) (xs : List Int) (h : isD x = false) : raw p (x :: xs) = raw p xs := by simp [raw, h]
theorem lS_yes {x : Int} (xs : List Int) (h : isD x = true) : lS (x :: xs) = (lS xs + wt (lN xs) (x - 48)) % 10 := by
  unfold lS
  rw [raw_yes 0 xs h, Nat.zero_add]
  omega
theorem lS_no {x : Int} (xs : List Int) (h : isD x = false) : lS (x :: xs) = lS xs := by
  unfold lS
  rw [raw_no 0 xs h]
theorem drop_cons (xs : List Int) (k : Nat) (h : k < xs.length) : xs.drop k = xs.getD k 0 :: xs.drop (k + 1) := by
  rw [List.drop_eq_getElem_cons h]
  simp [h]

-- the document's way: the digits, the last one first
def digs (xs : List Int) : List Int := ((xs.filter isD).map (· - 48)).reverse
def tot (l : List Int) : Nat → Int
  | 0 => 0
  | k + 1 => tot l k + wt k (l.getD k 0)
theorem digs_len : ∀ xs : List Int, (digs xs).length = lN xs
  | [] => rfl
  | x :: xs => by
    have h := digs_len xs
    cases hx : isD x
    · rw [lN_no xs hx, ← h]; simp [digs, hx]
    · rw [lN_yes xs hx, ← h]; simp [digs, hx]
theorem digs_snoc (xs : List Int) (x : Int) : digs (xs ++ [x]) = if isD x = true then (x - 48) :: digs xs else digs xs := by
  cases hx : isD x
  · simp [digs, hx, List.filter_append]
  · simp [digs, hx, List.filter_append]
theorem digs_cons (xs : List Int) (x : Int) : digs (x :: xs) = if isD x = true then digs xs ++ [x - 48] else digs xs := by
  cases hx : isD x
  · simp [digs, hx]
  · simp [digs, hx]
theorem tot_app (l : List Int) (d : Int) : ∀ k, k ≤ l.length → tot (l ++ [d]) k = tot l k
  | 0, _ => rfl
  | k + 1, h => by
    unfold tot
    rw [tot_app l d k (by omega)]
    congr 2
    simp [List.getD_eq_getElem?_getD, List.getElem?_append_left (show k < l.length by omega)]
theorem tot_all : ∀ xs : List Int, tot (digs xs) (lN xs) = raw 0 xs
  | [] => rfl
  | x :: xs => by
    have h := tot_all xs
    have hl := digs_len xs
    cases hx : isD x
    · rw [lN_no xs hx, raw_no 0 xs hx, digs_cons, if_neg (by simp [hx]), h]
    · rw [lN_yes xs hx, raw_yes 0 xs hx, digs_cons, if_pos hx]
      unfold tot
      rw [tot_app _ _ _ (by omega), h, Nat.zero_add]
      congr 2
      rw [← hl]
      simp
theorem digs_bd (xs : List Int) : ∀ j, 0 ≤ (digs xs).getD j 0 ∧ (digs xs).getD j 0 ≤ 9 := by
  intro j
  rw [List.getD_eq_getElem?_getD]
  cases h : (digs xs)[j]? with
  | none => simp
  | some d =>
    have hm := List.mem_of_getElem? h
    simp [digs] at hm
    obtain ⟨x, ⟨_, hx⟩, rfl⟩ := hm
    have := isD_yes hx
    simp
    omega
theorem tot_bd (l : List Int) (hl : ∀ j, 0 ≤ l.getD j 0 ∧ l.getD j 0 ≤ 9) : ∀ k, 0 ≤ tot l k ∧ tot l k ≤ 9 * k
  | 0 => by simp [tot]
  | k + 1 => by
    have h := tot_bd l hl k
    have b := wt_bd k (l.getD k 0) (hl k).1 (hl k).2
    unfold tot
    omega

-- what follows
theorem lN_app : ∀ (a b : List Int), lN (a ++ b) = lN a + lN b
  | [], b => by simp [lN]
  | x :: a, b => by
    have h := lN_app a b
    cases hx : isD x
    · rw [List.cons_append, lN_no _ hx, lN_no _ hx, h]
    · rw [List.cons_append, lN_yes _ hx, lN_yes _ hx, h]; omega
theorem raw_app (p : Nat) : ∀ (a b : List Int), raw p (a ++ b) = raw (p + lN b) a + raw p b
  | [], b => by simp [raw]
  | x :: a, b => by
    have h := raw_app p a b
    cases hx : isD x
    · rw [List.cons_append, raw_no _ _ hx, raw_no _ _ hx, h]
    · rw [List.cons_append, raw_yes _ _ hx, raw_yes _ _ hx, h, lN_app, show p + (lN a + lN b) = p + lN b + lN a by omega]; omega
theorem put_lN (a b : List Int) (x : Int) (h : isD x = false) : lN (a ++ x :: b) = lN (a ++ b) := by rw [lN_app, lN_app, lN_no b h]
theorem put_lS (a b : List Int) (x : Int) (h : isD x = false) : lS (a ++ x :: b) = lS (a ++ b) := by
  unfold lS
  rw [raw_app, raw_app, lN_no b h, raw_no 0 b h]
theorem last_lS (a : List Int) (d : Nat) (h : d < 10) : lS (a ++ [48 + (d : Int)]) = (raw 1 a + d) % 10 := by
  have hx : isD (48 + (d : Int)) = true := isD_yes' (by omega) (by omega)
  unfold lS
  rw [raw_app, lN_yes [] hx, raw_yes 0 [] hx]
  simp only [lN, raw]
  rw [show wt (0 + 0) (48 + (d : Int) - 48) = d by simp only [wt]; simp; omega]
  rw [show (0 + (0 + 1)) = 1 from rfl]
  congr 1
  omega
/-- Of the digits below k, how many make the sum 0. -/
def goodN (c : Int) : Nat → Nat
  | 0 => 0
  | k + 1 => goodN c k + if (c + k) % 10 = 0 then 1 else 0
theorem goodN_mod (c : Int) : ∀ k, goodN c k = goodN (c % 10) k
  | 0 => rfl
  | k + 1 => by
    unfold goodN
    rw [goodN_mod c k]
    have : ((c + k) % 10 = 0) = ((c % 10 + k) % 10 = 0) := by
      apply propext
      omega
    simp only [this]
theorem goodN_le (c : Int) : ∀ k, goodN c k ≤ k
  | 0 => Nat.le_refl _
  | k + 1 => by
    have := goodN_le c k
    unfold goodN
    split <;> omega
theorem goodN_one (c : Int) : goodN c 10 = 1 := by
  rw [goodN_mod]
  have h : c % 10 = 0 ∨ c % 10 = 1 ∨ c % 10 = 2 ∨ c % 10 = 3 ∨ c % 10 = 4 ∨ c % 10 = 5 ∨ c % 10 = 6 ∨ c % 10 = 7 ∨ c % 10 = 8 ∨ c % 10 = 9 := by omega
  rcases h with h | h | h | h | h | h | h | h | h | h <;> (rw [h]; decide)
theorem turn_lN (a b : List Int) (x y : Int) (hx : isD x = true) (hy : isD y = true) : lN (a ++ y :: b) = lN (a ++ x :: b) := by rw [lN_app, lN_app, lN_yes b hx, lN_yes b hy]
theorem turn_lS (a b : List Int) (x y : Int) (hx : isD x = true) (hy : isD y = true) (hne : x ≠ y) : lS (a ++ y :: b) ≠ lS (a ++ x :: b) := by
  unfold lS
  rw [raw_app, raw_app, lN_yes b hx, lN_yes b hy, raw_yes 0 b hx, raw_yes 0 b hy, Nat.zero_add, Nat.zero_add]
  have dx := isD_yes hx
  have dy := isD_yes hy
  have bx := wt_bd (lN b) (x - 48) (by omega) (by omega)
  have bY := wt_bd (lN b) (y - 48) (by omega) (by omega)
  have hi : wt (lN b) (x - 48) ≠ wt (lN b) (y - 48) := fun e => hne (by
    have := wt_inj (lN b) (x - 48) (y - 48) (by omega) (by omega) (by omega) (by omega) e
    omega)
  omega
end Go.Proofs.Ytoigllolilibhaa
