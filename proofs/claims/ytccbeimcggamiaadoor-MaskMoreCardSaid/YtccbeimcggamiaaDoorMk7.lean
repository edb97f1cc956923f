/-
  Several texts of this proof in one file: LuhMath, LuhOk, MskMath, App2, StoRow, MskMem. No statement of its own.
-/
import Derived.Test.YtccbeimcggamiaaDoorRows
import Derived.Test.YtccbeimcggamiaaDoorMk6
import Derived.Test.YtccbeimcggamiaaDoorMk2
import Derived.Laws.Tables
import Derived.Laws.CopyOwn
import Derived.Deep.MidRow
import Derived.Test.YtccbeimcggamiaaDoorMk5
import Derived.Deep.LoopGhost
set_option linter.unusedVariables false
set_option linter.unusedSimpArgs false

/-
  luhn: the sum of digits, as plain functions. Mathematics for other texts; no statement of its own.
-/
namespace Go.Proofs.YtccbeimcggamiaaDoor

def isDg (x : Int) : Bool := decide (48 ≤ x) && decide (x ≤ 57)
theorem isDg_yes {x : Int} (h : isDg x = true) : 48 ≤ x ∧ x ≤ 57 := by simpa [isDg] using h
theorem isDg_no {x : Int} (h : isDg x = false) : x < 48 ∨ 57 < x := by
  simp [isDg] at h
  omega
theorem isDg_no' {x : Int} (h : x < 48 ∨ 57 < x) : isDg x = false := by
  rw [isDg]
  rcases h with h | h
  · simp; omega
  · simp; omega
theorem isDg_yes' {x : Int} (h : 48 ≤ x) (h' : x ≤ 57) : isDg x = true := by simp [isDg, h, h']
/-- What the digit d adds as number i from the last one on, from 0. -/
def wt (i : Nat) (d : Int) : Int := if i % 2 = 1 then (if 9 < 2 * d then 2 * d - 9 else 2 * d) else d
theorem wt_bd (i : Nat) (d : Int) (h : 0 ≤ d) (h' : d ≤ 9) : 0 ≤ wt i d ∧ wt i d ≤ 9 := by
  unfold wt
  split
  · split <;> omega
  · omega
theorem wt_inj (i : Nat) (d e : Int) (h : 0 ≤ d) (h' : d ≤ 9) (k : 0 ≤ e) (k' : e ≤ 9) (hw : wt i d = wt i e) : d = e := by
  unfold wt at hw
  split at hw
  · split at hw
    · split at hw <;> omega
    · split at hw <;> omega
  · exact hw
theorem wt_two (i : Nat) (d : Int) : wt (i + 2) d = wt i d := by unfold wt; rw [show (i + 2) % 2 = i % 2 by omega]
/-- How many digits. -/
def lN : List Int → Nat
  | [] => 0
  | x :: xs => if isDg x = true then lN xs + 1 else lN xs
/-- Their sum, p digits standing behind. -/
def raw (p : Nat) : List Int → Int
  | [] => 0
  | x :: xs => if isDg x = true then raw p xs + wt (p + lN xs) (x - 48) else raw p xs
def lS (xs : List Int) : Int := raw 0 xs % 10
theorem lN_le : ∀ xs : List Int, lN xs ≤ xs.length
  | [] => Nat.le_refl _
  | x :: xs => by
    have := lN_le xs
    unfold lN
    split <;> simp <;> omega
theorem lS_bd (xs : List Int) : 0 ≤ lS xs ∧ lS xs ≤ 9 := by unfold lS; omega
theorem lN_yes {x : Int} (xs : List Int) (h : isDg x = true) : lN (x :: xs) = lN xs + 1 := by simp [lN, h]
theorem lN_no {x : Int} (xs : List Int) (h : isDg x = false) : lN (x :: xs) = lN xs := by simp [lN, h]
theorem raw_yes {x : Int} (p : Nat) (xs : List Int) (h : isDg x = true) : raw p (x :: xs) = raw p xs + wt (p + lN xs) (x - 48) := by simp [raw, h]
theorem raw_no {x : Int} (p : Nat) (xs : List Int) (h : isDg x = false) : raw p (x :: xs) = raw p xs := by simp [raw, h]
theorem lS_yes {x : Int} (xs : List Int) (h : isDg x = true) : lS (x :: xs) = (lS xs + wt (lN xs) (x - 48)) % 10 := by
  unfold lS
  rw [raw_yes 0 xs h, Nat.zero_add]
  omega
theorem lS_no {x : Int} (xs : List Int) (h : isDg x = false) : lS (x :: xs) = lS xs := by
  unfold lS
  rw [raw_no 0 xs h]
theorem drop_cons (xs : List Int) (k : Nat) (h : k < xs.length) : xs.drop k = xs.getD k 0 :: xs.drop (k + 1) := by
  rw [List.drop_eq_getElem_cons h]
  simp [h]

-- the document's way: the digits, the last one first
def digs (xs : List Int) : List Int := ((xs.filter isDg).map (· - 48)).reverse
def tot (l : List Int) : Nat → Int
  | 0 => 0
  | k + 1 => tot l k + wt k (l.getD k 0)
theorem digs_len : ∀ xs : List Int, (digs xs).length = lN xs
  | [] => rfl
  | x :: xs => by
    have h := digs_len xs
    cases hx : isDg x
    · rw [lN_no xs hx, ← h]; simp [digs, hx]
    · rw [lN_yes xs hx, ← h]; simp [digs, hx]
theorem digs_snoc (xs : List Int) (x : Int) : digs (xs ++ [x]) = if isDg x = true then (x - 48) :: digs xs else digs xs := by
  cases hx : isDg x
  · simp [digs, hx, List.filter_append]
  · simp [digs, hx, List.filter_append]
theorem digs_cons (xs : List Int) (x : Int) : digs (x :: xs) = if isDg x = true then digs xs ++ [x - 48] else digs xs := by
  cases hx : isDg x
  · simp [digs, hx]
  · simp [digs, hx]
theorem tot_app (l : List Int) (d : Int) : ∀ k, k ≤ l.length → tot (l ++ [d]) k = tot l k
  | 0, _ => rfl
  | k + 1, h => by
    unfold tot
    rw [tot_app l d k (by omega)]
    congr 2
    simp [List.getD_eq_getElem?_getD, List.getElem?_append_left (show k < l.length by omega)]
theorem tot_all : ∀ xs : List Int, tot (digs xs) (lN xs) = raw 0 xs
  | [] => rfl
  | x :: xs => by
    have h := tot_all xs
    have hl := digs_len xs
    cases hx : isDg x
    · rw [lN_no xs hx, raw_no 0 xs hx, digs_cons, if_neg (by simp [hx]), h]
    · rw [lN_yes xs hx, raw_yes 0 xs hx, digs_cons, if_pos hx]
      unfold tot
      rw [tot_app _ _ _ (by omega), h, Nat.zero_add]
      congr 2
      rw [← hl]
      simp
theorem digs_bd (xs : List Int) : ∀ j, 0 ≤ (digs xs).getD j 0 ∧ (digs xs).getD j 0 ≤ 9 := by
  intro j
  rw [List.getD_eq_getElem?_getD]
  cases h : (digs xs)[j]? with
  | none => simp
  | some d =>
    have hm := List.mem_of_getElem? h
    simp [digs] at hm
    obtain ⟨x, ⟨_, hx⟩, rfl⟩ := hm
    have := isDg_yes hx
    simp
    omega
theorem tot_bd (l : List Int) (hl : ∀ j, 0 ≤ l.getD j 0 ∧ l.getD j 0 ≤ 9) : ∀ k, 0 ≤ tot l k ∧ tot l k ≤ 9 * k
  | 0 => by simp [tot]
  | k + 1 => by
    have h := tot_bd l hl k
    have b := wt_bd k (l.getD k 0) (hl k).1 (hl k).2
    unfold tot
    omega

-- what follows
theorem lN_app : ∀ (a b : List Int), lN (a ++ b) = lN a + lN b
  | [], b => by simp [lN]
  | x :: a, b => by
    have h := lN_app a b
    cases hx : isDg x
    · rw [List.cons_append, lN_no _ hx, lN_no _ hx, h]
    · rw [List.cons_append, lN_yes _ hx, lN_yes _ hx, h]; omega
theorem raw_app (p : Nat) : ∀ (a b : List Int), raw p (a ++ b) = raw (p + lN b) a + raw p b
  | [], b => by simp [raw]
  | x :: a, b => by
    have h := raw_app p a b
    cases hx : isDg x
    · rw [List.cons_append, raw_no _ _ hx, raw_no _ _ hx, h]
    · rw [List.cons_append, raw_yes _ _ hx, raw_yes _ _ hx, h, lN_app, show p + (lN a + lN b) = p + lN b + lN a by omega]; omega
theorem put_lN (a b : List Int) (x : Int) (h : isDg x = false) : lN (a ++ x :: b) = lN (a ++ b) := by rw [lN_app, lN_app, lN_no b h]
theorem put_lS (a b : List Int) (x : Int) (h : isDg x = false) : lS (a ++ x :: b) = lS (a ++ b) := by
  unfold lS
  rw [raw_app, raw_app, lN_no b h, raw_no 0 b h]
theorem last_lS (a : List Int) (d : Nat) (h : d < 10) : lS (a ++ [48 + (d : Int)]) = (raw 1 a + d) % 10 := by
  have hx : isDg (48 + (d : Int)) = true := isDg_yes' (by omega) (by omega)
  unfold lS
  rw [raw_app, lN_yes [] hx, raw_yes 0 [] hx]
  simp only [lN, raw]
  rw [show wt (0 + 0) (48 + (d : Int) - 48) = d by simp only [wt]; simp; omega]
  rw [show (0 + (0 + 1)) = 1 from rfl]
  congr 1
  omega
/-- Of the digits below k, how many make the sum 0. -/
def goodN (c : Int) : Nat → Nat
  | 0 => 0
  | k + 1 => goodN c k + if (c + k) % 10 = 0 then 1 else 0
theorem goodN_mod (c : Int) : ∀ k, goodN c k = goodN (c % 10) k
  | 0 => rfl
  | k + 1 => by
    unfold goodN
    rw [goodN_mod c k]
    have : ((c + k) % 10 = 0) = ((c % 10 + k) % 10 = 0) := by
      apply propext
      omega
    simp only [this]
theorem goodN_le (c : Int) : ∀ k, goodN c k ≤ k
  | 0 => Nat.le_refl _
  | k + 1 => by
    have := goodN_le c k
    unfold goodN
    split <;> omega
theorem goodN_one (c : Int) : goodN c 10 = 1 := by
  rw [goodN_mod]
  have h : c % 10 = 0 ∨ c % 10 = 1 ∨ c % 10 = 2 ∨ c % 10 = 3 ∨ c % 10 = 4 ∨ c % 10 = 5 ∨ c % 10 = 6 ∨ c % 10 = 7 ∨ c % 10 = 8 ∨ c % 10 = 9 := by omega
  rcases h with h | h | h | h | h | h | h | h | h | h <;> (rw [h]; decide)
theorem turn_lN (a b : List Int) (x y : Int) (hx : isDg x = true) (hy : isDg y = true) : lN (a ++ y :: b) = lN (a ++ x :: b) := by rw [lN_app, lN_app, lN_yes b hx, lN_yes b hy]
theorem turn_lS (a b : List Int) (x y : Int) (hx : isDg x = true) (hy : isDg y = true) (hne : x ≠ y) : lS (a ++ y :: b) ≠ lS (a ++ x :: b) := by
  unfold lS
  rw [raw_app, raw_app, lN_yes b hx, lN_yes b hy, raw_yes 0 b hx, raw_yes 0 b hy, Nat.zero_add, Nat.zero_add]
  have dx := isDg_yes hx
  have dy := isDg_yes hy
  have bx := wt_bd (lN b) (x - 48) (by omega) (by omega)
  have bY := wt_bd (lN b) (y - 48) (by omega) (by omega)
  have hi : wt (lN b) (x - 48) ≠ wt (lN b) (y - 48) := fun e => hne (by
    have := wt_inj (lN b) (x - 48) (y - 48) (by omega) (by omega) (by omega) (by omega) e
    omega)
  omega
end Go.Proofs.YtccbeimcggamiaaDoor

/-
  luhn: whether bytes check, as a plain function. Mathematics for other texts; no statement of its own.
-/
namespace Go.Proofs.YtccbeimcggamiaaDoor

def byteOk (xs : List Int) : Prop := ∀ k, k < xs.length → 0 ≤ xs.getD k 0 ∧ xs.getD k 0 ≤ 255
def okV (xs : List Int) : Bool := decide (2 ≤ lN xs) && decide (lS xs = 0)
theorem byteOk_of {xs : List Int} (h : (xs.all fun x => decide (0 ≤ x) && decide (x ≤ 255)) = true) : byteOk xs := by
  intro k hk
  have hm := List.getElem_mem hk
  have := List.all_eq_true.mp h _ hm
  simp at this
  simpa [List.getD_eq_getElem?_getD, List.getElem?_eq_getElem hk] using this

end Go.Proofs.YtccbeimcggamiaaDoor

/-
  mask: which bytes rules cover, as plain words. Mathematics for other texts; no statement of its own.
-/
namespace Go.Proofs.YtccbeimcggamiaaDoor

/-- The bytes from a up to b. -/
def sub (xs : List Int) (a b : Nat) : List Int := (xs.drop a).take (b - a)
theorem sub_len {xs : List Int} {a b : Nat} (hb : b ≤ xs.length) : (sub xs a b).length = b - a := by
  unfold sub
  rw [List.length_take, List.length_drop]
  omega
theorem sub_getD {xs : List Int} {a b k : Nat} (hk : a + k < b) (hb : b ≤ xs.length) : (sub xs a b).getD k 0 = xs.getD (a + k) 0 := by
  unfold sub
  rw [List.getD_eq_getElem?_getD, List.getD_eq_getElem?_getD, List.getElem?_take_of_lt (by omega), List.getElem?_drop]
theorem byteOk_sub {xs : List Int} (h : byteOk xs) {a b : Nat} (hb : b ≤ xs.length) : byteOk (sub xs a b) := fun k hk => by
  rw [sub_len hb] at hk
  rw [sub_getD (by omega) hb]
  exact h (a + k) (by omega)
theorem sub_all (xs : List Int) : sub xs 0 xs.length = xs := by simp [sub]
theorem sub_split (xs : List Int) {a b : Nat} (hab : a ≤ b) (hb : b ≤ xs.length) : xs.take a ++ sub xs a b ++ xs.drop b = xs := by
  unfold sub
  have h1 : xs.drop b = (xs.drop a).drop (b - a) := by rw [List.drop_drop, show a + (b - a) = b by omega]
  rw [h1, List.append_assoc, List.take_append_drop, List.take_append_drop]
theorem sub_mid (us xs vs : List Int) {a b : Nat} (hab : a ≤ b) (hb : b ≤ xs.length) : sub (us ++ xs ++ vs) (us.length + a) (us.length + b) = sub xs a b := by
  apply List.ext_getElem?
  intro k
  have hlen : (us ++ xs ++ vs).length = us.length + xs.length + vs.length := by simp; omega
  by_cases hk : k < b - a
  · have h1 := sub_getD (xs := us ++ xs ++ vs) (a := us.length + a) (b := us.length + b) (k := k) (by omega) (by omega)
    have h2 := sub_getD (xs := xs) (a := a) (b := b) (k := k) (by omega) hb
    have h3 := getD_mid us xs vs (a + k) (by omega)
    have l1 := sub_len (xs := us ++ xs ++ vs) (a := us.length + a) (b := us.length + b) (by omega)
    have l2 := sub_len (xs := xs) (a := a) (b := b) hb
    rw [List.getElem?_eq_getElem (by omega), List.getElem?_eq_getElem (by omega)]
    rw [List.getD_eq_getElem?_getD, List.getElem?_eq_getElem (by omega)] at h1 h2
    simp only [Option.getD_some] at h1 h2
    rw [h1, h2, Nat.add_assoc, h3]
  · rw [List.getElem?_eq_none (by rw [sub_len (by omega)]; omega), List.getElem?_eq_none (by rw [sub_len hb]; omega)]

/-- A rule fits the bytes from a up to b. -/
def Fit (xs : List Int) (r : T × Bool) (a b : Nat) : Prop := E xs r.1 a b ∧ (r.2 = true → okV (sub xs a b) = true)
theorem fit_mid (us xs vs : List Int) {r : T × Bool} (h : WF r.1) {a b : Nat} (hab : a ≤ b) (hb : b ≤ xs.length) : Fit (us ++ xs ++ vs) r (us.length + a) (us.length + b) ↔ Fit xs r a b := by
  unfold Fit
  rw [sub_mid us xs vs hab hb, E_shift us xs vs h a b (by omega) hb]
theorem fit_sub {xs : List Int} {r : T × Bool} (h : WF r.1) {a b : Nat} (hab : a ≤ b) (hb : b ≤ xs.length) : Fit xs r a b ↔ Fit (sub xs a b) r 0 (b - a) := by
  have h1 := fit_mid (xs.take a) (sub xs a b) (xs.drop b) h (a := 0) (b := b - a) (Nat.zero_le _) (by rw [sub_len hb]; omega)
  rw [sub_split xs hab hb, List.length_take, show min a xs.length = a by omega, Nat.add_zero, show a + (b - a) = b by omega] at h1
  exact h1
/-- Whole bytes that a rule fits: what Fits tells. -/
theorem fit_whole (xs : List Int) (r : T × Bool) : Fit xs r 0 xs.length ↔ E xs r.1 0 xs.length ∧ (r.2 = true → okV xs = true) := by
  unfold Fit
  rw [sub_all]
theorem fit_len {xs : List Int} {r : T × Bool} (h : WF r.1) {a b : Nat} (ha : a ≤ xs.length) (hf : Fit xs r a b) : a ≤ b ∧ b ≤ xs.length ∧ a + LenU false r.1 ≤ b ∧ b ≤ a + LenU true r.1 := by
  have h1 := E_bd h a b ha hf.1
  have h2 := E_len h a b ha hf.1
  exact ⟨h1.1, h1.2, h2.1, h2.2⟩

/-- A byte is one of 1 to lam that stand together and that the rule fits. -/
def CovR (lam : Int) (xs : List Int) (r : T × Bool) (j : Nat) : Prop := ∃ a b : Nat, a ≤ j ∧ j < b ∧ b ≤ xs.length ∧ (b : Int) - a ≤ lam ∧ Fit xs r a b
def Cov (l : List (T × Bool)) (lam : Int) (xs : List Int) (j : Nat) : Prop := ∃ r ∈ l, CovR lam xs r j
theorem cov_take (l : List (T × Bool)) (lam : Int) (xs : List Int) (j k : Nat) (h : k < l.length) : Cov (l.take (k + 1)) lam xs j ↔ Cov (l.take k) lam xs j ∨ CovR lam xs (l[k]'h) j := by
  unfold Cov
  rw [List.take_succ_eq_append_getElem h]
  constructor
  · rintro ⟨r, hr, hc⟩
    rcases List.mem_append.1 hr with h1 | h1
    · exact .inl ⟨r, h1, hc⟩
    · rw [List.mem_singleton] at h1
      exact .inr (h1 ▸ hc)
  · rintro (⟨r, hr, hc⟩ | hc)
    · exact ⟨r, List.mem_append_left _ hr, hc⟩
    · exact ⟨_, List.mem_append_right _ (List.mem_singleton.2 rfl), hc⟩
/-- What covers j of the words that begin ahead of a. -/
def CovA (lam : Int) (xs : List Int) (r : T × Bool) (a0 j : Nat) : Prop := ∃ a b : Nat, a < a0 ∧ a ≤ j ∧ j < b ∧ b ≤ xs.length ∧ (b : Int) - a ≤ lam ∧ Fit xs r a b
theorem covA_zero {lam : Int} {xs : List Int} {r : T × Bool} {j : Nat} : ¬ CovA lam xs r 0 j := by rintro ⟨a, b, h, _⟩; omega
theorem covA_all {lam : Int} {xs : List Int} {r : T × Bool} {j : Nat} : CovA lam xs r xs.length j ↔ CovR lam xs r j :=
  ⟨fun ⟨a, b, _, h⟩ => ⟨a, b, h⟩, fun ⟨a, b, h1, h2, h3, h4⟩ => ⟨a, b, by omega, h1, h2, h3, h4⟩⟩
/-- What covers j of the words from a on to one of some ends. -/
def CovE (lam : Int) (xs : List Int) (r : T × Bool) (a : Nat) (es : List Int) (j : Nat) : Prop := ∃ b : Nat, (b : Int) ∈ es ∧ a ≤ j ∧ j < b ∧ (b : Int) - a ≤ lam ∧ (r.2 = true → okV (sub xs a b) = true)
theorem covE_nil {lam : Int} {xs : List Int} {r : T × Bool} {a j : Nat} : ¬ CovE lam xs r a [] j := by rintro ⟨b, h, _⟩; simp at h
theorem covE_snoc {lam : Int} {xs : List Int} {r : T × Bool} {a j b : Nat} {es : List Int} : CovE lam xs r a (es ++ [(b : Int)]) j ↔ CovE lam xs r a es j ∨ (a ≤ j ∧ j < b ∧ (b : Int) - a ≤ lam ∧ (r.2 = true → okV (sub xs a b) = true)) := by
  unfold CovE
  constructor
  · rintro ⟨b', hm, h⟩
    rcases List.mem_append.1 hm with h1 | h1
    · exact .inl ⟨b', h1, h⟩
    · have e : b' = b := by have := List.mem_singleton.1 h1; omega
      subst e
      exact .inr h
  · rintro (⟨b', hm, h⟩ | h)
    · exact ⟨b', List.mem_append_left _ hm, h⟩
    · exact ⟨b, List.mem_append_right _ (List.mem_singleton.2 rfl), h⟩
theorem covA_succ {lam : Int} {xs : List Int} {r : T × Bool} (h : WF r.1) {a j : Nat} {es : List Int} (ha : a < xs.length) (hes : ∀ x, x ∈ es ↔ ∃ b : Nat, x = b ∧ E xs r.1 a b) : CovA lam xs r (a + 1) j ↔ CovA lam xs r a j ∨ CovE lam xs r a es j := by
  constructor
  · rintro ⟨a', b, h1, h2, h3, h4, h5, h6⟩
    by_cases e : a' = a
    · subst e
      exact .inr ⟨b, (hes _).2 ⟨b, rfl, h6.1⟩, h2, h3, h5, h6.2⟩
    · exact .inl ⟨a', b, by omega, h2, h3, h4, h5, h6⟩
  · rintro (⟨a', b, h1, h2⟩ | ⟨b, hm, h2, h3, h4, h5⟩)
    · exact ⟨a', b, by omega, h2⟩
    · obtain ⟨b', e, hE⟩ := (hes _).1 hm
      have e' : b' = b := by omega
      subst e'
      have := E_bd h a b' (by omega) hE
      exact ⟨a, b', by omega, h2, h3, this.2, h4, hE, h5⟩

/-- How far what is covered by then reaches, behind the words of some rules that begin ahead of i. -/
structure Reach (l : List (T × Bool)) (lam : Int) (xs : List Int) (i e : Nat) : Prop where
  is : e = 0 ∨ ∃ r ∈ l, ∃ a : Nat, a < i ∧ a < e ∧ e ≤ xs.length ∧ (e : Int) - a ≤ lam ∧ Fit xs r a e
  far : ∀ r ∈ l, ∀ a b : Nat, a < i → a < b → b ≤ xs.length → (b : Int) - a ≤ lam → Fit xs r a b → b ≤ e
/-- .. and of the first k rules the words at i, too. -/
structure ReachK (l : List (T × Bool)) (lam : Int) (xs : List Int) (i k e : Nat) : Prop where
  is : e = 0 ∨ ∃ r ∈ l, ∃ a : Nat, a ≤ i ∧ a < e ∧ e ≤ xs.length ∧ (e : Int) - a ≤ lam ∧ Fit xs r a e
  far : ∀ r ∈ l, ∀ a b : Nat, a < i → a < b → b ≤ xs.length → (b : Int) - a ≤ lam → Fit xs r a b → b ≤ e
  here : ∀ r ∈ l.take k, ∀ b : Nat, i < b → b ≤ xs.length → (b : Int) - i ≤ lam → Fit xs r i b → b ≤ e
theorem Reach.start (l : List (T × Bool)) (lam : Int) (xs : List Int) : Reach l lam xs 0 0 := ⟨.inl rfl, fun r _ a b h => by omega⟩
theorem Reach.k {l : List (T × Bool)} {lam : Int} {xs : List Int} {i e : Nat} (h : Reach l lam xs i e) : ReachK l lam xs i 0 e :=
  ⟨h.is.imp id fun ⟨r, hr, a, h1, h2⟩ => ⟨r, hr, a, by omega, h2⟩, h.far, fun r hr => by simp at hr⟩
/-- What one look for the longest word that begins at i tells. -/
structure Longest (lam : Int) (xs : List Int) (r : T × Bool) (i e e' : Nat) : Prop where
  le : e ≤ e'
  is : e' = e ∨ (i < e' ∧ e' ≤ xs.length ∧ (e' : Int) - i ≤ lam ∧ Fit xs r i e')
  far : ∀ b : Nat, i < b → b ≤ xs.length → (b : Int) - i ≤ lam → Fit xs r i b → b ≤ e'
theorem ReachK.step {l : List (T × Bool)} {lam : Int} {xs : List Int} {i k e e' : Nat} (h : ReachK l lam xs i k e) (hk : k < l.length) (hl : Longest lam xs (l[k]'hk) i e e') : ReachK l lam xs i (k + 1) e' := by
  refine ⟨?_, fun r hr a b h1 h2 h3 h4 h5 => Nat.le_trans (h.far r hr a b h1 h2 h3 h4 h5) hl.le, fun r hr b h1 h2 h3 h4 => ?_⟩
  · rcases hl.is with e1 | ⟨h1, h2, h3, h4⟩
    · rw [e1]; exact h.is
    · exact .inr ⟨_, List.getElem_mem hk, i, Nat.le_refl _, h1, h2, h3, h4⟩
  · rw [List.take_succ_eq_append_getElem hk] at hr
    rcases List.mem_append.1 hr with h5 | h5
    · exact Nat.le_trans (h.here r h5 b h1 h2 h3 h4) hl.le
    · rw [List.mem_singleton] at h5
      subst h5
      exact hl.far b h1 h2 h3 h4
theorem ReachK.next {l : List (T × Bool)} {lam : Int} {xs : List Int} {i e : Nat} (h : ReachK l lam xs i l.length e) : Reach l lam xs (i + 1) e := by
  refine ⟨h.is.imp id fun ⟨r, hr, a, h1, h2⟩ => ⟨r, hr, a, by omega, h2⟩, fun r hr a b h1 h2 h3 h4 h5 => ?_⟩
  by_cases ha : a = i
  · subst ha
    exact h.here r (by simpa using hr) b h2 h3 h4 h5
  · exact h.far r hr a b (by omega) h2 h3 h4 h5
/-- Behind all rules at i: i is covered just if what is reached ends behind it. -/
theorem Reach.cov {l : List (T × Bool)} {lam : Int} {xs : List Int} {i e : Nat} (h : Reach l lam xs (i + 1) e) : i < e ↔ Cov l lam xs i := by
  constructor
  · intro hi
    rcases h.is with e0 | ⟨r, hr, a, h1, h2, h3, h4, h5⟩
    · omega
    · exact ⟨r, hr, a, e, by omega, hi, h3, h4, h5⟩
  · rintro ⟨r, hr, a, b, h1, h2, h3, h4, h5⟩
    have := h.far r hr a b (by omega) (by omega) h3 h4 h5
    omega
theorem cov_ext {l : List (T × Bool)} {lam : Int} {xs : List Int} {f g : Nat → Bool} (hf : ∀ j, j < xs.length → (f j = true ↔ Cov l lam xs j)) (hg : ∀ j, j < xs.length → (g j = true ↔ Cov l lam xs j)) (j : Nat) (hj : j < xs.length) : f j = g j :=
  Bool.eq_iff_iff.2 ((hf j hj).trans (hg j hj).symm)
/-- How long words are at most, and at least, as a look takes it. -/
def mostN (lam : Int) (t : T) : Int := if lenN true t < 1000 then min lam (lenN true t) else lam
def leastN (t : T) : Int := max 1 (lenN false t)
theorem fit_look {lam : Int} {xs : List Int} {r : T × Bool} (h : WF r.1) {i b : Nat} (hi : i < b) (hb : b ≤ xs.length) (hl : (b : Int) - i ≤ lam) (hf : Fit xs r i b) : leastN r.1 ≤ (b : Int) - i ∧ (b : Int) - i ≤ mostN lam r.1 ∧ ∀ k, i ≤ k → k < b → anyP r.1 (xs.getD k 0).toNat = true := by
  obtain ⟨_, _, h1, h2⟩ := fit_len h (by omega) hf
  have e1 := lenN_eq false h
  have e2 := lenN_eq true h
  refine ⟨?_, ?_, E_any h i b (by omega) hf.1⟩
  · unfold leastN
    omega
  · unfold mostN
    split <;> omega

end Go.Proofs.YtccbeimcggamiaaDoor

/-
  append onto a row that is there: where the new one lies, at a step of a region that draws its order; what blocks hold, through such a region. Laws for other texts; no statement of its own.
-/
namespace Go.Proofs.YtccbeimcggamiaaDoor
open Go Go.RowKit

section
variable {P : Program} (w : World)
/-- As run_app, for a row that is there (its address some): where the new one lies. -/
theorem run_app2 (t ty : TypeId) (base : Nat) (e : TypeId) (i : TypeInfo) (z : Value) (size bytes : Nat) (ht : P.underlying t = some (.slice e)) (hi : P.info? e = some i) (hz : i.zero = some z)
    (hsize : i.size = size) (hby : i.bytes = bytes) (hzs : z.cells.size = size) (hsz : 0 < size)
    (g0 cap0 : Nat) (n : Nat) (xs : List Value) (hown : w.ownsRow base e size (.slice (some ⟨g0, 0, none⟩) n cap0) n xs)
    (A : Option Addr) (m c : Nat) (news : List Value) (hl : news.length = m * size) (hnil : A = none → m = 0) (hnews : ∀ ad, A = some ad → ∀ j u, news[j]? = some u → w.cell? (ad.add j) = some u) (h1 : ∀ u ∈ news, u.oneCell' = true)
    (h63 : n + m ≤ maxLen) (hbytes : (n + m) * bytes ≤ 140737488355328) (hbase : base ≤ w.heap.size) :
    ∃ g cap w', (Builtin.append_ #[t, t] ty #[.slice (some ⟨g0, 0, none⟩) n cap0, .slice A m c]).run P w = .ok (.slice (some ⟨g, 0, none⟩) (n + m) cap) w' ∧ w'.ownsRow base e size (.slice (some ⟨g, 0, none⟩) (n + m) cap) (n + m) (xs ++ news) ∧ w.grownBy w' (some g0) ∧ (g = g0 ∨ g = w.heap.size) ∧ g < w'.heap.size := by
  cases A with
  | none =>
    have hm := hnil rfl
    subst hm
    have hn : news = [] := List.eq_nil_of_length_eq_zero (by simpa using hl)
    subst hn
    have hlt := (hown.lt g0 rfl).2
    refine ⟨g0, cap0, w, ?_, by simpa using hown, ⟨rfl, rfl, rfl, Nat.le_refl _, fun _ _ _ => rfl⟩, .inl rfl, hlt⟩
    rcases hown.2 with ⟨h, _⟩ | ⟨g, cap, cur, h, _, _, hnc, _⟩
    · cases h
    · cases h
      simp [Builtin.append_, run_underlying ht, sizeOf, typeInfo, hi, Builtin.lenOf, Builtin.firstCells, hnc, storeCells]
  | some ad =>
    obtain ⟨v', w', hr, h2, h3, h4, h5⟩ := run_append_own_at (P := P) w base t ty e i z size bytes ht hi hz hsize hby hzs hsz _ n xs hown ad m c news hl (hnews ad rfl) h1 h63 hbytes hbase
    rcases h2.2 with ⟨rfl, _⟩ | ⟨g, cap, cur, rfl, _, _, hnc, _⟩
    · have := (h4.1 rfl).1
      cases this
    · exact ⟨g, cap, w', hr, h2, h3, by simpa [Value.ownBlock] using h5, (h2.lt g rfl).2⟩
theorem step_app2 {ops : Array Oper} {o : Oper} {a : Act} {K : Act → World → Prop} {Q : Exit → Act → World → Prop} {E : Prop} (hgd : o.guard = none) (s x : Operand) (t : TypeId)
    (ho : o.op = .call { callee := .builtin .append, args := #[s, x], argTypes := #[t, t] })
    (base : Nat) (e : TypeId) (i : TypeInfo) (z : Value) (size bytes : Nat) (ht : P.underlying t = some (.slice e)) (hi : P.info? e = some i) (hz : i.zero = some z)
    (hsize : i.size = size) (hby : i.bytes = bytes) (hzs : z.cells.size = size) (hsz : 0 < size)
    (g0 cap0 : Nat) (n : Nat) (xs : List Value) (hs : a.eval s = .slice (some ⟨g0, 0, none⟩) n cap0) (hown : w.ownsRow base e size (.slice (some ⟨g0, 0, none⟩) n cap0) n xs)
    (A : Option Addr) (m c : Nat) (news : List Value) (hx : a.eval x = .slice A m c) (hl : news.length = m * size) (hnil : A = none → m = 0) (hnews : ∀ ad, A = some ad → ∀ j u, news[j]? = some u → w.cell? (ad.add j) = some u) (h1 : ∀ u ∈ news, u.oneCell' = true)
    (h63 : n + m ≤ maxLen) (hbytes : (n + m) * bytes ≤ 140737488355328) (hbase : base ≤ w.heap.size)
    (h : ∀ g cap w', w'.ownsRow base e size (.slice (some ⟨g, 0, none⟩) (n + m) cap) (n + m) (xs ++ news) → w.grownBy w' (some g0) → (g = g0 ∨ g = w.heap.size) → g < w'.heap.size → K (a.put o.dst (.slice (some ⟨g, 0, none⟩) (n + m) cap)) w') :
    if Region.wanted o (yielded ops a.tmps) = true then Oper.wp P o a w K Q else E := by
  have hw : Region.wanted o (yielded ops a.tmps) = true := by simp [Region.wanted, hgd]
  rw [if_pos hw]
  obtain ⟨g, cap, w', hr, h2, h3, h4, h5⟩ := run_app2 (P := P) w t o.type base e i z size bytes ht hi hz hsize hby hzs hsz g0 cap0 n xs hown A m c news hl hnil hnews h1 h63 hbytes hbase
  unfold Oper.wp execOp
  simp only [ho, resolve, invoke, builtin, Sem.run_bind, Sem.run_pure, Result.andThen_ok, List.map_toArray, List.map_cons, List.map_nil, hs, hx, hr]
  exact h g cap w' h2 h3 h4 h5
end

/-- Block g holds o. -/
def HasO (w : World) (g : Nat) (o : Obj) : Prop := w.heap[g]? = some o
theorem has_new (w : World) (cs : Array Value) (t : TypeId) (g : Nat) (h : w.heap.size = g) : HasO (w.alloc (.cells cs t)) g (.cells cs t (0, 0)) := by
  subst h
  exact heap_alloc_new w _
theorem has_alloc {w : World} {g : Nat} {o : Obj} (o' : Obj) (h : HasO w g o) : HasO (w.alloc o') g o := (Below.heap_alloc w o' g (lt_of_some h)).trans h
theorem has_drew {w : World} {g : Nat} {o : Obj} (h : HasO w g o) : HasO w.drew g o := h
theorem has_grown {w w' : World} {g : Nat} {o : Obj} {row : Option Nat} (hg : w.grownBy w' row) (h : HasO w g o) (hne : some g ≠ row) : HasO w' g o := (hg.block g (lt_of_some h) hne).trans h
theorem has_below {w w' : World} {g : Nat} {o : Obj} (hb : Below w.heap.size w w') (h : HasO w g o) : HasO w' g o := (hb.block g (lt_of_some h)).trans h
theorem own_drew {w : World} {base e size n : Nat} {v : Value} {xs : List Value} (h : w.ownsRow base e size v n xs) : w.drew.ownsRow base e size v n xs := h

theorem has_stays {w w' : World} {g : Nat} {o : Obj} (h : HasO w g o) (hb : Below w.heap.size w w') : HasO w' g o := (hb.block g (lt_of_some h)).trans h
theorem below_al {B : Nat} {a w : World} (h : Below B a w) (hB : B = a.heap.size) (o : Obj) : Below B a (w.alloc o) := h.alloc (hB ▸ h.size) o
theorem cell_al {w : World} {a : Addr} {v : Value} (h : w.cell? a = some v) (o : Obj) : (w.alloc o).cell? a = some v := (World.cell?_of_block (Below.heap_alloc w o a.block (World.block_lt_of_cell? w a h))).trans h
theorem cell_dr {w : World} {a : Addr} {v : Value} (h : w.cell? a = some v) : w.drew.cell? a = some v := h
theorem below_dn {B : Nat} {a w : World} (h : Below B a w) (n : Nat) : Below B a (w.drewN n) := ⟨h.os, h.tape, h.output, h.size, h.block⟩
theorem has_setCell {w : World} {g : Nat} {o : Obj} {a : Addr} (u : Value) (h : HasO w g o) (hne : g = a.block → False) : HasO (w.setCell a u) g o := (Below.heap_setCell w a u g hne).trans h
theorem cell_st {w : World} {g o g' o' : Nat} {v : Value} (u : Value) (h : w.cell? ⟨g, o, none⟩ = some v) (hne : g ≠ g') : (w.setCell ⟨g', o', none⟩ u).cell? ⟨g, o, none⟩ = some v :=
  (World.cell?_of_block (w := w) (a := ⟨g, o, none⟩) (Below.heap_setCell w ⟨g', o', none⟩ u g hne)).trans h
end Go.Proofs.YtccbeimcggamiaaDoor

/-
  A struct's whole value stored at once into its block, as one step of a walk: what is stored is named, no cell is opened. Laws for other texts; no statement of its own.
  In a walk: 'attribute [local go_sem ↓] run_stoE' ahead of it; a fact 'Sto ty w p v' for each world w in which the store may come up (sto_of); behind it the world reads 'stoW w p v' (cell_sto, below_sto, has_sto).
-/
namespace Go.Proofs.YtccbeimcggamiaaDoor
open Go Go.RowKit

def stoW (w : World) (p v : Value) : World := match p, v with
  | .pointer (some a), .agg cs => w.setRow a.block cs
  | _, _ => w
def Sto (ty : TypeId) (w : World) (p v : Value) : Prop := (Instr.storeAt ty p v).run Tryd.prog w = .ok () (stoW w p v)
theorem sto_of {ty : TypeId} {w : World} {b : Nat} {cur cs : Array Value} {t : TypeId} (h : w.heap[b]? = some (.cells cur t (0, 0))) (hi : (Tryd.prog.info? ty).map (·.size) = some cs.size) (ho : cur.size = cs.size) (h1 : cs.all (·.oneCell') = true) :
    Sto ty w (.pointer (some ⟨b, 0, none⟩)) (.agg cs) := by
  unfold Sto stoW
  simp only [Instr.storeAt, Instr.sureAddr, Sem.run_bind, Sem.run_pure, Result.andThen_ok, run_storeVar_row w b t ty cur cs h hi ho h1]
theorem run_stoE {ρ : Operand → Value} {dst : Option Tmp} {x y : Operand} {t ty : TypeId} {pos : String} {after : Array Edge} {guard : Option (Nat × Bool)} {w : World} (h : Sto t w (ρ x) (ρ y)) :
    Sem.run Tryd.prog (execOp ρ { dst := dst, op := .store t x y, type := ty, pos := pos, after := after, guard := guard }) w = .ok .skip (stoW w (ρ x) (ρ y)) := by
  unfold Sto at h
  unfold execOp
  simp only [Sem.run_bind, Sem.run_pure, Result.andThen_ok, h]
theorem has_sto {w : World} {b : Nat} {old cs : Array Value} {t : TypeId} (h : w.heap[b]? = some (.cells old t (0, 0))) : (stoW w (.pointer (some ⟨b, 0, none⟩)) (.agg cs)).heap[b]? = some (.cells cs t (0, 0)) := setRow_heap w b old cs t (0, 0) h
theorem cell_sto {w : World} {g o b : Nat} {cs : Array Value} {v : Value} (h : w.cell? ⟨g, o, none⟩ = some v) (hne : g ≠ b) : (stoW w (.pointer (some ⟨b, 0, none⟩)) (.agg cs)).cell? ⟨g, o, none⟩ = some v := (cell_setRow_other w b cs ⟨g, o, none⟩ hne).trans h
theorem block_sto {w : World} {g b : Nat} {cs : Array Value} (hne : g ≠ b) : (stoW w (.pointer (some ⟨b, 0, none⟩)) (.agg cs)).heap[g]? = w.heap[g]? := setRow_other w b g cs hne
theorem below_sto {B : Nat} {w0 w : World} {b : Nat} {cs : Array Value} (h : Below B w0 w) (hb : B ≤ b) : Below B w0 (stoW w (.pointer (some ⟨b, 0, none⟩)) (.agg cs)) := below_setRow h hb cs
theorem size_sto {w : World} {b : Nat} {cs : Array Value} : (stoW w (.pointer (some ⟨b, 0, none⟩)) (.agg cs)).heap.size = w.heap.size := setRow_size w b cs
/-- .. into the middle of a row. -/
def stoM (w : World) (p v : Value) : World := match p, v with
  | .pointer (some a), .agg cs => w.setCells a.block a.off cs.toList
  | _, _ => w
def StoM (ty : TypeId) (w : World) (p v : Value) : Prop := (Instr.storeAt ty p v).run Tryd.prog w = .ok () (stoM w p v)
theorem stoM_of {ty : TypeId} {w : World} {b o : Nat} {cs : Array Value} (ht : w.there b o cs.size) (hi : (Tryd.prog.info? ty).map (·.size) = some cs.size) (h1 : cs.all (·.oneCell') = true) : StoM ty w (.pointer (some ⟨b, o, none⟩)) (.agg cs) := run_storeAt_mid w b o ty cs ht hi h1
theorem run_stoM {ρ : Operand → Value} {dst : Option Tmp} {x y : Operand} {t ty : TypeId} {pos : String} {after : Array Edge} {guard : Option (Nat × Bool)} {w : World} (h : StoM t w (ρ x) (ρ y)) :
    Sem.run Tryd.prog (execOp ρ { dst := dst, op := .store t x y, type := ty, pos := pos, after := after, guard := guard }) w = .ok .skip (stoM w (ρ x) (ρ y)) := by
  unfold StoM at h
  unfold execOp
  simp only [Sem.run_bind, Sem.run_pure, Result.andThen_ok, h]
/-- At the list of a plain region's operations. -/
theorem wpList_stoM {ops : Array Oper} {rest : List Oper} {o : Oper} {a : Act} {w : World} {Q : Exit → Act → World → Prop} (hgd : o.guard = none) {ty : TypeId} (x y : Operand) (ho : o.op = .store ty x y) {p v : Value} (h : StoM ty w p v)
    (hx : a.eval x = p) (hy : a.eval y = v) (hk : wpList Tryd.prog ops Q rest (a.put o.dst undef) (stoM w p v)) : wpList Tryd.prog ops Q (o :: rest) a w := by
  unfold StoM at h
  refine wpList_plain hgd fun _ hK => ?_
  unfold Oper.wp execOp
  simp only [ho, hx, hy, Sem.run_bind, Sem.run_pure, Result.andThen_ok, h]
  exact hK _ _ hk
end Go.Proofs.YtccbeimcggamiaaDoor

/-
  mask: what looks for rules, in memory. Laws for other texts; no statement of its own.
-/
namespace Go.Proofs.YtccbeimcggamiaaDoor
open Go Go.RowKit

/-- One that looks for a rule. -/
structure Sk where
  r : T × Bool
  least : Int
  most : Int
  any : Nat → Bool
  stop : Int
def skC (s : Sk) (k : Value) : List Value := [.int .i64 s.r.1.op, .int .u64 (word s.r.1.set 0), .int .u64 (word s.r.1.set 1), .int .u64 (word s.r.1.set 2), .int .u64 (word s.r.1.set 3), .int .i64 s.r.1.lo, .int .i64 s.r.1.hi, k, .bool s.r.2,
  .int .i64 s.least, .int .i64 s.most, .int .u64 (word s.any 0), .int .u64 (word s.any 1), .int .u64 (word s.any 2), .int .u64 (word s.any 3), .int .i64 s.stop]
theorem skC_len (s : Sk) (k : Value) : (skC s k).length = 16 := rfl
def sksC : List Sk → List Value → List Value
  | s :: S, k :: ks => skC s k ++ sksC S ks
  | _, _ => []
theorem sksC_get : ∀ (S : List Sk) (ks : List Value) (i q : Nat) (s : Sk) (k : Value), S[i]? = some s → ks[i]? = some k → q < 16 → (sksC S ks)[i * 16 + q]? = (skC s k)[q]?
  | [], ks, i, q, r, k, h1, h2, hq => by simp at h1
  | r' :: l, [], i, q, r, k, h1, h2, hq => by simp at h2
  | r' :: l, k' :: ks, 0, q, r, k, h1, h2, hq => by
    simp at h1 h2
    subst h1 h2
    rw [sksC, List.getElem?_append_left (by rw [skC_len]; omega)]
    simp
  | r' :: l, k' :: ks, i + 1, q, r, k, h1, h2, hq => by
    rw [sksC, List.getElem?_append_right (by rw [skC_len]; omega), skC_len, show (i + 1) * 16 + q - 16 = i * 16 + q by omega]
    exact sksC_get l ks i q r k (by simpa using h1) (by simpa using h2) hq
theorem sksC_len : ∀ (S : List Sk) (ks : List Value), ks.length = S.length → (sksC S ks).length = S.length * 16
  | [], [], _ => rfl
  | s :: S, k :: ks, h => by simp only [sksC, List.length_append, skC_len, List.length_cons]; rw [sksC_len S ks (by simpa using h)]; omega
  | [], _ :: _, h => by simp at h
  | _ :: _, [], h => by simp at h
/-- Sixteen cells set, one behind the other. -/
def set16 (xs : List Value) (o : Nat) : List Value → List Value
  | [] => xs
  | v :: vs => set16 (xs.set o v) (o + 1) vs
theorem set16_skip (x : Value) : ∀ (vs xs : List Value) (o : Nat), set16 (x :: xs) (o + 1) vs = x :: set16 xs o vs
  | [], xs, o => rfl
  | v :: vs, xs, o => by simp only [set16, List.set_cons_succ]; rw [set16_skip x vs]
theorem set16_app : ∀ (ys vs xs : List Value) (o : Nat), set16 (ys ++ xs) (ys.length + o) vs = ys ++ set16 xs o vs
  | [], vs, xs, o => by simp
  | y :: ys, vs, xs, o => by
    rw [List.cons_append, List.length_cons, show ys.length + 1 + o = ys.length + o + 1 by omega, set16_skip, set16_app ys]
    rfl
theorem set16_all : ∀ (vs ys xs : List Value), ys.length = vs.length → set16 (ys ++ xs) 0 vs = vs ++ xs
  | [], [], xs, _ => rfl
  | v :: vs, y :: ys, xs, h => by
    simp only [List.cons_append, set16, List.set_cons_zero]
    rw [set16_skip, set16_all vs ys xs (by simpa using h)]
  | [], _ :: _, _, h => by simp at h
  | _ :: _, [], _, h => by simp at h
theorem sksC_set : ∀ (S : List Sk) (ks : List Value) (i : Nat) (s : Sk) (k : Value), ks.length = S.length → i < S.length → set16 (sksC S ks) (i * 16) (skC s k) = sksC (S.set i s) (ks.set i k)
  | [], ks, i, s, k, h, hi => by simp at hi
  | x :: S, [], i, s, k, h, hi => by simp at h
  | x :: S, y :: ks, 0, s, k, h, hi => by
    simp only [sksC, List.set_cons_zero, Nat.zero_mul]
    exact set16_all _ _ _ (by rw [skC_len, skC_len])
  | x :: S, y :: ks, i + 1, s, k, h, hi => by
    simp only [sksC, List.set_cons_succ]
    have := set16_app (skC x y) (skC s k) (sksC S ks) (i * 16)
    rw [skC_len, show 16 + i * 16 = (i + 1) * 16 by omega] at this
    rw [this, sksC_set S ks i s k (by simpa using h) (by simpa using hi)]
/-- The last cell alone. -/
theorem sksC_stop : ∀ (S : List Sk) (ks : List Value) (i : Nat) (s : Sk) (x : Int), ks.length = S.length → S[i]? = some s → (sksC S ks).set (i * 16 + 15) (.int .i64 x) = sksC (S.set i { s with stop := x }) ks
  | [], ks, i, s, x, h, hi => by simp at hi
  | x' :: S, [], i, s, x, h, hi => by simp at h
  | x' :: S, y :: ks, 0, s, x, h, hi => by
    simp at hi
    subst hi
    simp only [sksC, List.set_cons_zero, Nat.zero_mul]
    rw [List.set_append_left _ _ (by rw [skC_len]; omega)]
    rfl
  | x' :: S, y :: ks, i + 1, s, x, h, hi => by
    simp only [sksC, List.set_cons_succ]
    rw [List.set_append_right _ _ (by rw [skC_len]; omega), skC_len, show (i + 1) * 16 + 15 - 16 = i * 16 + 15 by omega, sksC_stop S ks i s x (by simpa using h) (by simpa using hi)]

/-- All that look, in memory of one's own. -/
def SkRow (w : World) (C g : Nat) (S : List Sk) : Prop := ∃ ks, ks.length = S.length ∧ w.ownsRow C 130 16 (.slice (some ⟨g, 0, none⟩) S.length S.length) S.length (sksC S ks) ∧ ∀ (i : Nat) s k, S[i]? = some s → ks[i]? = some k → Tree w (fun _ => True) s.r.1 k
/-- They look for these rules, with this lambda. -/
def SksFor (S : List Sk) (l : List (T × Bool)) (lam : Int) : Prop := S.length = l.length ∧ ∀ (i : Nat) s r, S[i]? = some s → l[i]? = some r → s.r = r ∧ s.least = leastN r.1 ∧ s.most = mostN lam r.1 ∧ s.any = anyP r.1
/-- From i up to where it stopped all bytes are of words; it stopped at a byte that no word has, or at the end; or ahead of i. -/
def StopOk (xs : List Int) (i : Nat) (s : Sk) : Prop := ∃ n : Nat, s.stop = (n : Int) ∧ n ≤ xs.length ∧ ∀ k, i ≤ k → k < n → s.any (xs.getD k 0).toNat = true
section
variable {w w' : World} {C g : Nat} {S : List Sk} {Q : Nat → Prop}
theorem SkRow.in (h : SkRow w C g S) : C ≤ g ∧ g < w.heap.size := by
  obtain ⟨ks, h1, h2, h3⟩ := h
  exact World.ownsRow.lt h2 g rfl
theorem SkRow.frozen (h : SkRow w C g S) (j : Nat) : w.frozen? ⟨g, j, none⟩ = false := by
  obtain ⟨ks, h1, h2, h3⟩ := h
  exact World.ownsRow.frozenAt h2 j
theorem SkRow.kind (h : SkRow w C g S) : ∃ cur, w.heap[g]? = some (.cells cur 130 (0, 0)) := by
  obtain ⟨ks, h1, h2, h3⟩ := h
  exact own_kind h2 rfl
theorem SkRow.at (h : SkRow w C g S) {i : Nat} {s : Sk} (hi : S[i]? = some s) : ∃ k, Tree w (fun _ => True) s.r.1 k ∧ ∀ q u, (skC s k)[q]? = some u → w.cell? ⟨g, i * 16 + q, none⟩ = some u := by
  obtain ⟨ks, h1, h2, h3⟩ := h
  have hl : i < S.length := (List.getElem?_eq_some_iff.1 hi).1
  obtain ⟨k, hk⟩ : ∃ k, ks[i]? = some k := ⟨_, List.getElem?_eq_getElem (by omega)⟩
  refine ⟨k, h3 i s k hi hk, fun q u hu => ?_⟩
  have hq : q < 16 := by
    have := (List.getElem?_eq_some_iff.1 hu).1
    rw [skC_len] at this
    exact this
  rw [World.ownsRow.cellAt h2 (i * 16 + q) (by omega), sksC_get S ks i q s k hi hk hq]
  exact hu
theorem SkRow.off (h : SkRow w C g S) (hk : Kept Q w w') (hq : ∀ b, Q b → b < w.heap.size → ∃ cur ty, w.heap[b]? = some (.cells cur ty (0, 0)) ∧ ty ≠ 130 ∧ ty ≠ 29) : SkRow w' C g S := by
  obtain ⟨cg, hcg⟩ := h.kind
  obtain ⟨ks, h1, h2, h3⟩ := h
  have key : ∀ (b : Nat) (cur : Array Value) (ty : TypeId), w.heap[b]? = some (.cells cur ty (0, 0)) → (ty = 130 ∨ ty = 29) → w'.heap[b]? = w.heap[b]? := fun b cur ty hb ht => by
    refine hk.block b (lt_of_some hb) fun q => ?_
    obtain ⟨cur', ty', hb', n1, n2⟩ := hq b q (lt_of_some hb)
    have hne : ty' ≠ ty := fun e => by
      rcases ht with h | h
      · exact n1 (e.trans h)
      · exact n2 (e.trans h)
    exact kind_apart hb' hb hne rfl
  refine ⟨ks, h1, own_block h2 fun b e hb => ?_, fun i s k e1 e2 => (h3 i s k e1 e2).mono fun b hb hlt ⟨cur, hc⟩ => ⟨key b cur _ hc (.inr rfl), trivial⟩⟩
  have e' : g = b := by injection e
  subst e'
  exact key g cg _ hcg (.inl rfl)
theorem SkRow.stays (h : SkRow w C g S) (hb : Below w.heap.size w w') : SkRow w' C g S := h.off (Kept.of_below (fun _ => False) hb) fun b q => q.elim
/-- Where it stopped is laid. -/
theorem SkRow.stop (h : SkRow w C g S) {i : Nat} {s : Sk} (hi : S[i]? = some s) (x : Int) : SkRow (w.setCell ⟨g, i * 16 + 15, none⟩ (.int .i64 x)) C g (S.set i { s with stop := x }) := by
  obtain ⟨cg, hcg⟩ := h.kind
  obtain ⟨ks, h1, h2, h3⟩ := h
  have s1 := (World.ownsRow.stored h2 (i * 16 + 15) (.int .i64 x)).1
  rw [sksC_stop S ks i s x h1 hi] at s1
  refine ⟨ks, by rw [List.length_set, h1], by rw [List.length_set]; exact s1, fun j s' k e1 e2 => ?_⟩
  have ht : Tree w (fun _ => True) s'.r.1 k := by
    rw [List.getElem?_set] at e1
    split at e1
    · rename_i e
      subst e
      split at e1
      · injection e1 with e1
        rw [← e1]
        exact h3 i s k hi e2
      · cases e1
    · exact h3 j s' k e1 e2
  exact ht.mono fun b hb hlt ⟨cur, hc⟩ => ⟨Below.heap_setCell _ _ _ _ (by
    intro e
    have e' : b = g := e
    subst e'
    exact kind_apart hcg hc (by decide) rfl), trivial⟩
theorem SkRow.set (h : SkRow w C g S) (i : Nat) (hi : i < S.length) (s : Sk) (k : Value) (ht : Tree w (fun _ => True) s.r.1 k) :
    SkRow ((((((((((((((((w.setCell ⟨g, i * 16, none⟩ (.int .i64 s.r.1.op)).setCell ⟨g, i * 16 + 1, none⟩ (.int .u64 (word s.r.1.set 0))).setCell ⟨g, i * 16 + 2, none⟩ (.int .u64 (word s.r.1.set 1))).setCell ⟨g, i * 16 + 3, none⟩ (.int .u64 (word s.r.1.set 2))).setCell ⟨g, i * 16 + 4, none⟩ (.int .u64 (word s.r.1.set 3))).setCell ⟨g, i * 16 + 5, none⟩ (.int .i64 s.r.1.lo)).setCell ⟨g, i * 16 + 6, none⟩ (.int .i64 s.r.1.hi)).setCell ⟨g, i * 16 + 7, none⟩ k).setCell ⟨g, i * 16 + 8, none⟩ (.bool s.r.2)).setCell ⟨g, i * 16 + 9, none⟩ (.int .i64 s.least)).setCell ⟨g, i * 16 + 10, none⟩ (.int .i64 s.most)).setCell ⟨g, i * 16 + 11, none⟩ (.int .u64 (word s.any 0))).setCell ⟨g, i * 16 + 12, none⟩ (.int .u64 (word s.any 1))).setCell ⟨g, i * 16 + 13, none⟩ (.int .u64 (word s.any 2))).setCell ⟨g, i * 16 + 14, none⟩ (.int .u64 (word s.any 3))).setCell ⟨g, i * 16 + 15, none⟩ (.int .i64 s.stop)) C g (S.set i s) := by
  obtain ⟨cg, hcg⟩ := h.kind
  obtain ⟨ks, h1, h2, h3⟩ := h
  have s0 := (World.ownsRow.stored h2 (i * 16) (.int .i64 s.r.1.op)).1
  have s1 := (World.ownsRow.stored s0 (i * 16 + 1) (.int .u64 (word s.r.1.set 0))).1
  have s2 := (World.ownsRow.stored s1 (i * 16 + 2) (.int .u64 (word s.r.1.set 1))).1
  have s3 := (World.ownsRow.stored s2 (i * 16 + 3) (.int .u64 (word s.r.1.set 2))).1
  have s4 := (World.ownsRow.stored s3 (i * 16 + 4) (.int .u64 (word s.r.1.set 3))).1
  have s5 := (World.ownsRow.stored s4 (i * 16 + 5) (.int .i64 s.r.1.lo)).1
  have s6 := (World.ownsRow.stored s5 (i * 16 + 6) (.int .i64 s.r.1.hi)).1
  have s7 := (World.ownsRow.stored s6 (i * 16 + 7) k).1
  have s8 := (World.ownsRow.stored s7 (i * 16 + 8) (.bool s.r.2)).1
  have s9 := (World.ownsRow.stored s8 (i * 16 + 9) (.int .i64 s.least)).1
  have s10 := (World.ownsRow.stored s9 (i * 16 + 10) (.int .i64 s.most)).1
  have s11 := (World.ownsRow.stored s10 (i * 16 + 11) (.int .u64 (word s.any 0))).1
  have s12 := (World.ownsRow.stored s11 (i * 16 + 12) (.int .u64 (word s.any 1))).1
  have s13 := (World.ownsRow.stored s12 (i * 16 + 13) (.int .u64 (word s.any 2))).1
  have s14 := (World.ownsRow.stored s13 (i * 16 + 14) (.int .u64 (word s.any 3))).1
  have s15 := (World.ownsRow.stored s14 (i * 16 + 15) (.int .i64 s.stop)).1
  have hcs := sksC_set S ks i s k h1 hi
  simp only [set16, skC] at hcs
  rw [hcs] at s15
  refine ⟨ks.set i k, by rw [List.length_set, List.length_set, h1], by rw [List.length_set]; exact s15, fun j s' k' e1 e2 => ?_⟩
  have ht' : Tree w (fun _ => True) s'.r.1 k' := by
    rw [List.getElem?_set] at e1 e2
    by_cases e : i = j
    · subst e
      rw [if_pos rfl, if_pos (by omega)] at e1 e2
      injection e1 with e1
      injection e2 with e2
      rw [← e1, ← e2]
      exact ht
    · rw [if_neg e] at e1 e2
      exact h3 j s' k' e1 e2
  refine ht'.mono fun b hb hlt ⟨cur, hc⟩ => ?_
  have hne : b ≠ g := fun e => by
    subst e
    exact kind_apart hcg hc (by decide) rfl
  refine ⟨?_, trivial⟩
  rw [Below.heap_setCell _ _ _ _ hne, Below.heap_setCell _ _ _ _ hne, Below.heap_setCell _ _ _ _ hne, Below.heap_setCell _ _ _ _ hne, Below.heap_setCell _ _ _ _ hne, Below.heap_setCell _ _ _ _ hne, Below.heap_setCell _ _ _ _ hne, Below.heap_setCell _ _ _ _ hne,
    Below.heap_setCell _ _ _ _ hne, Below.heap_setCell _ _ _ _ hne, Below.heap_setCell _ _ _ _ hne, Below.heap_setCell _ _ _ _ hne, Below.heap_setCell _ _ _ _ hne, Below.heap_setCell _ _ _ _ hne, Below.heap_setCell _ _ _ _ hne, Below.heap_setCell _ _ _ _ hne]
end
/-- One that lies in a block of its own. -/
def SkBox (w : World) (b : Nat) (s : Sk) (k : Value) : Prop := w.heap[b]? = some (.cells #[.int .i64 s.r.1.op, .int .u64 (word s.r.1.set 0), .int .u64 (word s.r.1.set 1), .int .u64 (word s.r.1.set 2), .int .u64 (word s.r.1.set 3), .int .i64 s.r.1.lo, .int .i64 s.r.1.hi, k, .bool s.r.2, .int .i64 s.least, .int .i64 s.most, .int .u64 (word s.any 0), .int .u64 (word s.any 1), .int .u64 (word s.any 2), .int .u64 (word s.any 3), .int .i64 s.stop] 130 (0, 0))
section
variable {w w' : World} {b : Nat} {s : Sk} {k : Value}
theorem SkBox.lt (h : SkBox w b s k) : b < w.heap.size := lt_of_some h
theorem SkBox.stays (h : SkBox w b s k) (hb : Below w.heap.size w w') : SkBox w' b s k := (hb.block b h.lt).trans h
theorem SkBox.drew (h : SkBox w b s k) : SkBox w.drew b s k := h
theorem SkBox.alloc (h : SkBox w b s k) (o : Obj) : SkBox (w.alloc o) b s k := (Below.heap_alloc w o b h.lt).trans h
theorem SkBox.cell (h : SkBox w b s k) : w.cell? ⟨b, 0, none⟩ = some (.int .i64 s.r.1.op) ∧ w.cell? ⟨b, 1, none⟩ = some (.int .u64 (word s.r.1.set 0)) ∧ w.cell? ⟨b, 2, none⟩ = some (.int .u64 (word s.r.1.set 1)) ∧ w.cell? ⟨b, 3, none⟩ = some (.int .u64 (word s.r.1.set 2)) ∧ w.cell? ⟨b, 4, none⟩ = some (.int .u64 (word s.r.1.set 3)) ∧ w.cell? ⟨b, 5, none⟩ = some (.int .i64 s.r.1.lo) ∧ w.cell? ⟨b, 6, none⟩ = some (.int .i64 s.r.1.hi) ∧ w.cell? ⟨b, 7, none⟩ = some (k) ∧ w.cell? ⟨b, 8, none⟩ = some (.bool s.r.2) ∧ w.cell? ⟨b, 9, none⟩ = some (.int .i64 s.least) ∧ w.cell? ⟨b, 10, none⟩ = some (.int .i64 s.most) ∧ w.cell? ⟨b, 11, none⟩ = some (.int .u64 (word s.any 0)) ∧ w.cell? ⟨b, 12, none⟩ = some (.int .u64 (word s.any 1)) ∧ w.cell? ⟨b, 13, none⟩ = some (.int .u64 (word s.any 2)) ∧ w.cell? ⟨b, 14, none⟩ = some (.int .u64 (word s.any 3)) ∧ w.cell? ⟨b, 15, none⟩ = some (.int .i64 s.stop) :=
  ⟨cell_of_row w b 0 _ _ (0, 0) h, cell_of_row w b 1 _ _ (0, 0) h, cell_of_row w b 2 _ _ (0, 0) h, cell_of_row w b 3 _ _ (0, 0) h, cell_of_row w b 4 _ _ (0, 0) h, cell_of_row w b 5 _ _ (0, 0) h, cell_of_row w b 6 _ _ (0, 0) h, cell_of_row w b 7 _ _ (0, 0) h, cell_of_row w b 8 _ _ (0, 0) h, cell_of_row w b 9 _ _ (0, 0) h, cell_of_row w b 10 _ _ (0, 0) h, cell_of_row w b 11 _ _ (0, 0) h, cell_of_row w b 12 _ _ (0, 0) h, cell_of_row w b 13 _ _ (0, 0) h, cell_of_row w b 14 _ _ (0, 0) h, cell_of_row w b 15 _ _ (0, 0) h⟩
theorem SkBox.frozen (h : SkBox w b s k) : w.frozen? ⟨b, 0, none⟩ = false ∧ w.frozen? ⟨b, 1, none⟩ = false ∧ w.frozen? ⟨b, 2, none⟩ = false ∧ w.frozen? ⟨b, 3, none⟩ = false ∧ w.frozen? ⟨b, 4, none⟩ = false ∧ w.frozen? ⟨b, 5, none⟩ = false ∧ w.frozen? ⟨b, 6, none⟩ = false ∧ w.frozen? ⟨b, 7, none⟩ = false ∧ w.frozen? ⟨b, 8, none⟩ = false ∧ w.frozen? ⟨b, 9, none⟩ = false ∧ w.frozen? ⟨b, 10, none⟩ = false ∧ w.frozen? ⟨b, 11, none⟩ = false ∧ w.frozen? ⟨b, 12, none⟩ = false ∧ w.frozen? ⟨b, 13, none⟩ = false ∧ w.frozen? ⟨b, 14, none⟩ = false ∧ w.frozen? ⟨b, 15, none⟩ = false :=
  ⟨frozen_of_row w b 0 _ _ h, frozen_of_row w b 1 _ _ h, frozen_of_row w b 2 _ _ h, frozen_of_row w b 3 _ _ h, frozen_of_row w b 4 _ _ h, frozen_of_row w b 5 _ _ h, frozen_of_row w b 6 _ _ h, frozen_of_row w b 7 _ _ h, frozen_of_row w b 8 _ _ h, frozen_of_row w b 9 _ _ h, frozen_of_row w b 10 _ _ h, frozen_of_row w b 11 _ _ h, frozen_of_row w b 12 _ _ h, frozen_of_row w b 13 _ _ h, frozen_of_row w b 14 _ _ h, frozen_of_row w b 15 _ _ h⟩
theorem SkBox.new (w : World) (s : Sk) (k : Value) : SkBox (w.alloc (.cells #[.int .i64 s.r.1.op, .int .u64 (word s.r.1.set 0), .int .u64 (word s.r.1.set 1), .int .u64 (word s.r.1.set 2), .int .u64 (word s.r.1.set 3), .int .i64 s.r.1.lo, .int .i64 s.r.1.hi, k, .bool s.r.2, .int .i64 s.least, .int .i64 s.most, .int .u64 (word s.any 0), .int .u64 (word s.any 1), .int .u64 (word s.any 2), .int .u64 (word s.any 3), .int .i64 s.stop] 130)) w.heap.size s k := heap_alloc_new w _
theorem below_put16 {a : World} {B : Nat} (h : Below B a w) (hg : B ≤ b) (s : Sk) (k : Value) : Below B a ((((((((((((((((w.setCell ⟨b, 0, none⟩ (.int .i64 s.r.1.op)).setCell ⟨b, 1, none⟩ (.int .u64 (word s.r.1.set 0))).setCell ⟨b, 2, none⟩ (.int .u64 (word s.r.1.set 1))).setCell ⟨b, 3, none⟩ (.int .u64 (word s.r.1.set 2))).setCell ⟨b, 4, none⟩ (.int .u64 (word s.r.1.set 3))).setCell ⟨b, 5, none⟩ (.int .i64 s.r.1.lo)).setCell ⟨b, 6, none⟩ (.int .i64 s.r.1.hi)).setCell ⟨b, 7, none⟩ k).setCell ⟨b, 8, none⟩ (.bool s.r.2)).setCell ⟨b, 9, none⟩ (.int .i64 s.least)).setCell ⟨b, 10, none⟩ (.int .i64 s.most)).setCell ⟨b, 11, none⟩ (.int .u64 (word s.any 0))).setCell ⟨b, 12, none⟩ (.int .u64 (word s.any 1))).setCell ⟨b, 13, none⟩ (.int .u64 (word s.any 2))).setCell ⟨b, 14, none⟩ (.int .u64 (word s.any 3))).setCell ⟨b, 15, none⟩ (.int .i64 s.stop)) :=
  ((((((((((((((((h.setCell (p := ⟨b, 0, none⟩) hg _).setCell (p := ⟨b, 1, none⟩) hg _).setCell (p := ⟨b, 2, none⟩) hg _).setCell (p := ⟨b, 3, none⟩) hg _).setCell (p := ⟨b, 4, none⟩) hg _).setCell (p := ⟨b, 5, none⟩) hg _).setCell (p := ⟨b, 6, none⟩) hg _).setCell (p := ⟨b, 7, none⟩) hg _).setCell (p := ⟨b, 8, none⟩) hg _).setCell (p := ⟨b, 9, none⟩) hg _).setCell (p := ⟨b, 10, none⟩) hg _).setCell (p := ⟨b, 11, none⟩) hg _).setCell (p := ⟨b, 12, none⟩) hg _).setCell (p := ⟨b, 13, none⟩) hg _).setCell (p := ⟨b, 14, none⟩) hg _).setCell (p := ⟨b, 15, none⟩) hg _)
theorem SkBox.put {s0 : Sk} {k0 : Value} (h : SkBox w b s0 k0) (s : Sk) (k : Value) : SkBox ((((((((((((((((w.setCell ⟨b, 0, none⟩ (.int .i64 s.r.1.op)).setCell ⟨b, 1, none⟩ (.int .u64 (word s.r.1.set 0))).setCell ⟨b, 2, none⟩ (.int .u64 (word s.r.1.set 1))).setCell ⟨b, 3, none⟩ (.int .u64 (word s.r.1.set 2))).setCell ⟨b, 4, none⟩ (.int .u64 (word s.r.1.set 3))).setCell ⟨b, 5, none⟩ (.int .i64 s.r.1.lo)).setCell ⟨b, 6, none⟩ (.int .i64 s.r.1.hi)).setCell ⟨b, 7, none⟩ k).setCell ⟨b, 8, none⟩ (.bool s.r.2)).setCell ⟨b, 9, none⟩ (.int .i64 s.least)).setCell ⟨b, 10, none⟩ (.int .i64 s.most)).setCell ⟨b, 11, none⟩ (.int .u64 (word s.any 0))).setCell ⟨b, 12, none⟩ (.int .u64 (word s.any 1))).setCell ⟨b, 13, none⟩ (.int .u64 (word s.any 2))).setCell ⟨b, 14, none⟩ (.int .u64 (word s.any 3))).setCell ⟨b, 15, none⟩ (.int .i64 s.stop)) b s k := by
  unfold SkBox at *
  simp [World.setCell, Array.getElem?_modify, h]
theorem SkBox.most (h : SkBox w b s k) (x : Int) : SkBox (w.setCell ⟨b, 10, none⟩ (.int .i64 x)) b { s with most := x } k := by
  unfold SkBox at *
  simp [World.setCell, Array.getElem?_modify, h]
end
/-- One that was just made. -/
def sk0 : Sk := ⟨(.mk 0 noneP 0 0 [], false), 0, 0, noneP, 0⟩
theorem sks_made (z : Nat) : (madeCells (Value.agg #[.int .i64 0, .int .u64 0, .int .u64 0, .int .u64 0, .int .u64 0, .int .i64 0, .int .i64 0, .slice none 0 0, .bool false, .int .i64 0, .int .i64 0, .int .u64 0, .int .u64 0, .int .u64 0, .int .u64 0, .int .i64 0]).cells (z * 16)).toList = sksC (List.replicate z sk0) (List.replicate z (.slice none 0 0)) := by
  apply List.ext_getElem?
  intro j
  by_cases hj : j < z * 16
  · have hd : j = j / 16 * 16 + j % 16 := by omega
    have hlt : j / 16 < z := by omega
    have h1 := sksC_get (List.replicate z sk0) (List.replicate z (.slice none 0 0)) (j / 16) (j % 16) sk0 (.slice none 0 0) (by rw [List.getElem?_replicate, if_pos hlt]) (by rw [List.getElem?_replicate, if_pos hlt]) (by omega)
    rw [← hd] at h1
    rw [h1]
    have h16 : j % 16 = 0 ∨ j % 16 = 1 ∨ j % 16 = 2 ∨ j % 16 = 3 ∨ j % 16 = 4 ∨ j % 16 = 5 ∨ j % 16 = 6 ∨ j % 16 = 7 ∨ j % 16 = 8 ∨ j % 16 = 9 ∨ j % 16 = 10 ∨ j % 16 = 11 ∨ j % 16 = 12 ∨ j % 16 = 13 ∨ j % 16 = 14 ∨ j % 16 = 15 := by omega
    simp only [madeCells, Value.cells, Array.toList_map, Array.toList_range, List.getElem?_map, List.getElem?_range hj, Option.map_some]
    have hs : (#[Value.int .i64 0, .int .u64 0, .int .u64 0, .int .u64 0, .int .u64 0, .int .i64 0, .int .i64 0, .slice none 0 0, .bool false, .int .i64 0, .int .i64 0, .int .u64 0, .int .u64 0, .int .u64 0, .int .u64 0, .int .i64 0] : Array Value).size = 16 := rfl
    rcases h16 with h | h | h | h | h | h | h | h | h | h | h | h | h | h | h | h <;> simp [h, skC, sk0, word_none, T.op, T.set, T.lo, T.hi]
  · rw [List.getElem?_eq_none (by simp [madeCells]; omega), List.getElem?_eq_none (by rw [sksC_len _ _ (by simp), List.length_replicate]; omega)]
theorem SkBox.new0 (w : World) : SkBox (w.alloc (.cells #[.int .i64 0, .int .u64 0, .int .u64 0, .int .u64 0, .int .u64 0, .int .i64 0, .int .i64 0, .slice none 0 0, .bool false, .int .i64 0, .int .i64 0, .int .u64 0, .int .u64 0, .int .u64 0, .int .u64 0, .int .i64 0] 130)) w.heap.size sk0 (.slice none 0 0) := by
  have h := SkBox.new w sk0 (.slice none 0 0)
  simpa only [sk0, T.op, T.set, T.lo, T.hi, word_none] using h
theorem Tryd.sizeSk : (Tryd.prog.info? 130).map (·.size) = some 16 := by kernel_rfl
/-- Whole, stored at once. -/
def skV (s : Sk) (k : Value) : Value := .agg #[.int .i64 s.r.1.op, .int .u64 (word s.r.1.set 0), .int .u64 (word s.r.1.set 1), .int .u64 (word s.r.1.set 2), .int .u64 (word s.r.1.set 3), .int .i64 s.r.1.lo, .int .i64 s.r.1.hi, k, .bool s.r.2, .int .i64 s.least, .int .i64 s.most, .int .u64 (word s.any 0), .int .u64 (word s.any 1), .int .u64 (word s.any 2), .int .u64 (word s.any 3), .int .i64 s.stop]
set_option maxRecDepth 20000 in
theorem sto_sk {w : World} {b : Nat} {s0 : Sk} {k0 : Value} (h : SkBox w b s0 k0) (s : Sk) (A : Option Addr) (n c : Nat) : Sto 130 w (.pointer (some ⟨b, 0, none⟩)) (skV s (.slice A n c)) := by
  unfold skV
  refine sto_of h ?_ ?_ ?_
  · rw [Tryd.sizeSk]; simp
  · simp
  · simp [Value.oneCell']
theorem SkBox.sto {w : World} {b : Nat} {s0 : Sk} {k0 : Value} (h : SkBox w b s0 k0) (s : Sk) (k : Value) : SkBox (stoW w (.pointer (some ⟨b, 0, none⟩)) (skV s k)) b s k := has_sto h
theorem SkRow.there {w : World} {C g : Nat} {S : List Sk} (h : SkRow w C g S) {i : Nat} (hi : i < S.length) : w.there g (i * 16) 16 := fun j hj => by
  obtain ⟨k, ht, hc⟩ := h.at (List.getElem?_eq_getElem hi)
  refine ⟨?_, h.frozen _⟩
  rw [hc j ((skC S[i] k)[j]'(by rw [skC_len]; exact hj)) (List.getElem?_eq_getElem _)]
  rfl
set_option maxRecDepth 20000 in
theorem SkRow.stoM {w : World} {C g : Nat} {S : List Sk} (h : SkRow w C g S) {i : Nat} (hi : i < S.length) (s : Sk) (A : Option Addr) (n c : Nat) : StoM 130 w (.pointer (some ⟨g, i * 16, none⟩)) (skV s (.slice A n c)) := by
  unfold skV
  refine stoM_of ?_ ?_ ?_
  · simpa using h.there hi
  · rw [Tryd.sizeSk]; simp
  · simp [Value.oneCell']
theorem SkRow.setM {w : World} {C g : Nat} {S : List Sk} (h : SkRow w C g S) {i : Nat} (hi : i < S.length) (s : Sk) (k : Value) (ht : Tree w (fun _ => True) s.r.1 k) : SkRow (Go.Proofs.YtccbeimcggamiaaDoor.stoM w (.pointer (some ⟨g, i * 16, none⟩)) (skV s k)) C g (S.set i s) := h.set i hi s k ht
theorem below_stoM {B : Nat} {w0 w : World} {b o : Nat} {s : Sk} {k : Value} (h : Below B w0 w) (hb : B ≤ b) : Below B w0 (Go.Proofs.YtccbeimcggamiaaDoor.stoM w (.pointer (some ⟨b, o, none⟩)) (skV s k)) :=
  (((((((((((((((h.setCell (p := ⟨b, o, none⟩) hb _).setCell (p := ⟨b, o + 1, none⟩) hb _).setCell (p := ⟨b, o + 2, none⟩) hb _).setCell (p := ⟨b, o + 3, none⟩) hb _).setCell (p := ⟨b, o + 4, none⟩) hb _).setCell (p := ⟨b, o + 5, none⟩) hb _).setCell (p := ⟨b, o + 6, none⟩) hb _).setCell (p := ⟨b, o + 7, none⟩) hb _).setCell (p := ⟨b, o + 8, none⟩) hb _).setCell (p := ⟨b, o + 9, none⟩) hb _).setCell (p := ⟨b, o + 10, none⟩) hb _).setCell (p := ⟨b, o + 11, none⟩) hb _).setCell (p := ⟨b, o + 12, none⟩) hb _).setCell (p := ⟨b, o + 13, none⟩) hb _).setCell (p := ⟨b, o + 14, none⟩) hb _).setCell (p := ⟨b, o + 15, none⟩) hb _
theorem SkRow.far {w : World} {C g : Nat} {S : List Sk} (h : SkRow w C g S) {b : Nat} {s : Sk} {kv : Value} (hb : SkBox w b s kv) (hne : b ≠ g) (o : Nat) (u : Value) : SkRow (w.setCell ⟨b, o, none⟩ u) C g S := by
  obtain ⟨ks, h1, h2, h3⟩ := h
  refine ⟨ks, h1, own_block h2 fun b' e _ => ?_, fun i s' k e1 e2 => (h3 i s' k e1 e2).mono fun b' _ _ ⟨cur, hc⟩ => ⟨Below.heap_setCell _ _ _ _ fun e => ?_, trivial⟩⟩
  · have e' : g = b' := by injection e
    exact Below.heap_setCell _ _ _ _ fun e2 => hne (e2.symm.trans e'.symm)
  · have e' : b' = b := e
    subst e'
    exact kind_apart hb hc (by decide) rfl
end Go.Proofs.YtccbeimcggamiaaDoor
