/-
  Words within a longer one; a word's bytes are all of Any; words put together. Plain mathematics; no statement of its own.
-/
import Derived.Test.YtlnanelejaddiaaDoorMa5
import Derived.Test.YtlnanelejaddiaaDoorMa8
set_option linter.unusedVariables false
set_option linter.unusedSimpArgs false
namespace Go.Proofs.YtlnanelejaddiaaDoor
open Go

/-- From where to where one goes is the same, a further on, up to n. -/
def Shift (a n : Nat) (R R' : Nat → Nat → Prop) : Prop := ∀ i j, i ≤ n → j ≤ n → (R (a + i) (a + j) ↔ R' i j)
/-- One goes forwards. -/
def Onw (R : Nat → Nat → Prop) (N : Nat) : Prop := ∀ i j, i ≤ N → R i j → i ≤ j ∧ j ≤ N

theorem shift_comp {a n N : Nat} {R R' S S' : Nat → Nat → Prop} (hN : a + n ≤ N) (hR : Shift a n R R') (hS : Shift a n S S') (fR : Onw R N) (fS : Onw S N) (fR' : Onw R' n) :
    Shift a n (fun i j => ∃ k, R i k ∧ S k j) (fun i j => ∃ k, R' i k ∧ S' k j) := by
  intro i j hi hj
  constructor
  · rintro ⟨k, h1, h2⟩
    have b1 := fR (a + i) k (by omega) h1
    have b2 := fS k (a + j) b1.2 h2
    refine ⟨k - a, ?_, ?_⟩
    · have := (hR i (k - a) hi (by omega)).1
      rw [show a + (k - a) = k by omega] at this
      exact this h1
    · have := (hS (k - a) j (by omega) hj).1
      rw [show a + (k - a) = k by omega] at this
      exact this h2
  · rintro ⟨k, h1, h2⟩
    have b1 := fR' i k hi h1
    exact ⟨a + k, (hR i k hi b1.2).2 h1, (hS k j b1.2 hj).2 h2⟩
theorem shift_eq (a n : Nat) : Shift a n (fun i j => i = j) (fun i j => i = j) := by
  intro i j _ _
  constructor
  · intro h; omega
  · intro h; omega
theorem fwd_iter {R : Nat → Nat → Prop} {N : Nat} (h : Onw R N) (m : Nat) : Onw (iter R m) N := fun i j hi hE => iter_bd h m i j hi hE
theorem shift_iter {a n N : Nat} {R R' : Nat → Nat → Prop} (hN : a + n ≤ N) (hR : Shift a n R R') (fR : Onw R N) (fR' : Onw R' n) : ∀ m, Shift a n (iter R m) (iter R' m)
  | 0 => shift_eq a n
  | m + 1 => shift_comp hN (shift_iter hN hR fR fR' m) hR (fwd_iter fR m) fR (fwd_iter fR' m)

theorem getD_mid (us xs bs : List Int) (i : Nat) (h : i < xs.length) : (us ++ xs ++ bs).getD (us.length + i) 0 = xs.getD i 0 := by
  rw [List.getD_eq_getElem?_getD, List.getD_eq_getElem?_getD, List.append_assoc, List.getElem?_append_right (by omega), show us.length + i - us.length = i by omega, List.getElem?_append_left h]

theorem fwd_E {xs : List Int} {t : T} (h : WF t) : Onw (E xs t) xs.length := fun i j hi hE => E_bd h i j hi hE
theorem fwd_ECat {xs : List Int} : ∀ {l : List T}, (∀ x ∈ l, WF x) → Onw (ECat xs l) xs.length
  | [], _, i, j, hi, h => by have e : i = j := h; omega
  | t :: ts, hw, i, j, hi, h => by
    obtain ⟨k, h1, h2⟩ := h
    have a := fwd_E (hw t (by simp)) i k hi h1
    have b := fwd_ECat (fun x hx => hw x (by simp [hx])) k j a.2 h2
    omega

theorem E_shift (us xs bs : List Int) {t : T} (h : WF t) : Shift us.length xs.length (E (us ++ xs ++ bs) t) (E xs t) := by
  have hlen : us.length + xs.length ≤ (us ++ xs ++ bs).length := by simp
  induction h with
  | one p =>
    intro i j hi hj
    rw [E_one, E_one]
    constructor
    · rintro ⟨h1, h2, h3⟩
      have hl : i < xs.length := by omega
      rw [getD_mid us xs bs i hl] at h2
      exact ⟨hl, h2, by omega⟩
    · rintro ⟨h1, h2, h3⟩
      refine ⟨by omega, ?_, by omega⟩
      rw [getD_mid us xs bs i h1]
      exact h2
  | cat l h2 hN h ih =>
    have key : ∀ (l : List T), (∀ x ∈ l, WF x) → (∀ x ∈ l, Shift us.length xs.length (E (us ++ xs ++ bs) x) (E xs x)) → Shift us.length xs.length (ECat (us ++ xs ++ bs) l) (ECat xs l) := by
      intro l
      induction l with
      | nil => exact fun _ _ => shift_eq _ _
      | cons t ts ihl => exact fun hw hs => shift_comp hlen (hs t (by simp)) (ihl (fun x hx => hw x (by simp [hx])) (fun x hx => hs x (by simp [hx]))) (fwd_E (hw t (by simp))) (fwd_ECat (fun x hx => hw x (by simp [hx]))) (fwd_E (hw t (by simp)))
    intro i j hi hj
    rw [E_cat, E_cat]
    exact key l h ih i j hi hj
  | alt l h2 hN h ih =>
    intro i j hi hj
    rw [E_alt, E_alt, EAny_iff, EAny_iff]
    constructor
    · rintro ⟨t, ht, hE⟩; exact ⟨t, ht, (ih t ht i j hi hj).1 hE⟩
    · rintro ⟨t, ht, hE⟩; exact ⟨t, ht, (ih t ht i j hi hj).2 hE⟩
  | rep m n t h0 h1 h2 h3 h ih =>
    intro i j hi hj
    rw [E_rep, E_rep]
    constructor
    · rintro ⟨k, ha, hb, hE⟩
      rw [EAny_one] at hE
      exact ⟨k, ha, hb, by rw [EAny_one]; exact (shift_iter hlen ih (fwd_E h) (fwd_E h) k i j hi hj).1 hE⟩
    · rintro ⟨k, ha, hb, hE⟩
      rw [EAny_one] at hE
      exact ⟨k, ha, hb, by rw [EAny_one]; exact (shift_iter hlen ih (fwd_E h) (fwd_E h) k i j hi hj).2 hE⟩

/-- A word of the first part stands at the beginning of both. -/
theorem E_left (xs ys : List Int) {t : T} (h : WF t) : E (xs ++ ys) t 0 xs.length ↔ E xs t 0 xs.length := by
  have := E_shift [] xs ys h 0 xs.length (Nat.zero_le _) (Nat.le_refl _)
  simpa using this
theorem E_right (xs ys : List Int) {t : T} (h : WF t) : E (xs ++ ys) t xs.length (xs.length + ys.length) ↔ E ys t 0 ys.length := by
  have := E_shift xs ys [] h 0 ys.length (Nat.zero_le _) (Nat.le_refl _)
  simpa using this
/-- Words put together. -/
theorem E_both {xs ys : List Int} {a b : T} (ha : WF a) (hb : WF b) (h1 : E xs a 0 xs.length) (h2 : E ys b 0 ys.length) : E (xs ++ ys) (.mk 2 noneP 0 0 [a, b]) 0 (xs ++ ys).length := by
  rw [E_cat, List.length_append]
  exact ⟨xs.length, (E_left xs ys ha).2 h1, xs.length + ys.length, (E_right xs ys hb).2 h2, rfl⟩
theorem E_twice {xs : List Int} {a : T} (ha : WF a) (h1 : E xs a 0 xs.length) : E (xs ++ xs) (.mk 4 noneP 1 2 [a]) 0 (xs ++ xs).length := by
  rw [E_rep, List.length_append]
  refine ⟨2, by omega, by omega, ?_⟩
  rw [EAny_one]
  exact ⟨xs.length, ⟨0, rfl, (E_left xs xs ha).2 h1⟩, (E_right xs xs ha).2 h1⟩
theorem E_once {xs : List Int} {a : T} (h1 : E xs a 0 xs.length) : E xs (.mk 4 noneP 1 2 [a]) 0 xs.length := by
  rw [E_rep]
  refine ⟨1, by omega, by omega, ?_⟩
  rw [EAny_one]
  exact ⟨0, rfl, h1⟩
theorem E_alt1 {xs : List Int} {a b : T} {i j : Nat} (h1 : E xs a i j) : E xs (.mk 3 noneP 0 0 [a, b]) i j := by
  rw [E_alt]; exact .inl h1
theorem E_alt2 {xs : List Int} {a b : T} {i j : Nat} (h1 : E xs b i j) : E xs (.mk 3 noneP 0 0 [a, b]) i j := by
  rw [E_alt]; exact .inr (.inl h1)

theorem anyL_of {l : List T} {t : T} {x : Nat} (h : t ∈ l) (hx : anyP t x = true) : anyL l x = true := by
  induction l with
  | nil => cases h
  | cons u us ih =>
    simp only [anyL, Bool.or_eq_true]
    rcases List.mem_cons.1 h with rfl | h
    · exact .inl hx
    · exact .inr (ih h)
/-- Each byte of a word is one of Any. -/
theorem E_any {xs : List Int} {t : T} (h : WF t) : ∀ i j, i ≤ xs.length → E xs t i j → ∀ k, i ≤ k → k < j → anyP t (xs.getD k 0).toNat = true := by
  induction h with
  | one p =>
    intro i j hi hE k h1 h2
    rw [E_one] at hE
    obtain rfl : k = i := by omega
    simp only [anyP, Bool.or_eq_true]
    exact .inl hE.2.1
  | cat l h2 hN h ih =>
    have key : ∀ (l : List T), (∀ x ∈ l, WF x) → (∀ x ∈ l, ∀ i j, i ≤ xs.length → E xs x i j → ∀ k, i ≤ k → k < j → anyP x (xs.getD k 0).toNat = true) → ∀ i j, i ≤ xs.length → ECat xs l i j → ∀ k, i ≤ k → k < j → anyL l (xs.getD k 0).toNat = true := by
      intro l
      induction l with
      | nil =>
        intro _ _ i j _ hE k h1 h2
        have e : i = j := hE
        omega
      | cons u us ihl =>
        intro hw hs i j hi hE k h1 h2
        obtain ⟨y, e1, e2⟩ := hE
        have b := fwd_E (hw u (by simp)) i y hi e1
        simp only [anyL, Bool.or_eq_true]
        by_cases hk : k < y
        · exact .inl (hs u (by simp) i y hi e1 k h1 hk)
        · exact .inr (ihl (fun x hx => hw x (by simp [hx])) (fun x hx => hs x (by simp [hx])) y j b.2 e2 k (by omega) h2)
    intro i j hi hE k h1 h2
    rw [E_cat] at hE
    simp only [anyP, Bool.or_eq_true]
    exact .inr (key l h ih i j hi hE k h1 h2)
  | alt l h2 hN h ih =>
    intro i j hi hE k h1 h2
    rw [E_alt, EAny_iff] at hE
    obtain ⟨u, hu, hE⟩ := hE
    simp only [anyP, Bool.or_eq_true]
    exact .inr (anyL_of hu (ih u hu i j hi hE k h1 h2))
  | rep m n u h0 h1 h2 h3 h ih =>
    intro i j hi hE k e1 e2
    rw [E_rep] at hE
    obtain ⟨c, _, _, hE⟩ := hE
    rw [EAny_one] at hE
    have key : ∀ (c i j : Nat), i ≤ xs.length → iter (E xs u) c i j → i ≤ k → k < j → anyP u (xs.getD k 0).toNat = true := by
      intro c
      induction c with
      | zero => intro i j _ hE a b; have e : i = j := hE; omega
      | succ c ihc =>
        intro i j hi hE a b
        obtain ⟨y, e1, e2⟩ := hE
        have bb := iter_bd (fwd_E h) c i y hi e1
        by_cases hk : k < y
        · exact ihc i y hi e1 a hk
        · exact ih y j bb.2 e2 k (by omega) b
    simp only [anyP, anyL, Bool.or_eq_true]
    exact .inr (.inl (key c i j hi hE e1 e2))

end Go.Proofs.YtlnanelejaddiaaDoor
