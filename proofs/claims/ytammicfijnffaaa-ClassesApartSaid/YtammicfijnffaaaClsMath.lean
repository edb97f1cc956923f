/-
  Bytes by keys, counted as they come up: the mathematics of classes. No statement of its own.
-/
import Derived.Test.YtammicfijnffaaaSetMath
set_option linter.unusedVariables false
set_option linter.unusedSimpArgs false
namespace Go.Proofs.Ytammicfijnffaaa
open Go

section
variable {K : Type} [DecidableEq K]

/-- Nothing below b has b's key. -/
def isFst (f : Nat → K) (b : Nat) : Bool := (List.range b).all fun c => decide (f c ≠ f b)
/-- How many keys there are below b. -/
def cntK (f : Nat → K) : Nat → Nat
  | 0 => 0
  | b + 1 => cntK f b + if isFst f b then 1 else 0
/-- The first that has b's key. -/
def fstK (f : Nat → K) (b : Nat) : Nat := ((List.range b).find? fun c => decide (f c = f b)).getD b
/-- b's number. -/
def numK (f : Nat → K) (b : Nat) : Nat := cntK f (fstK f b)

theorem isFst_iff (f : Nat → K) (b : Nat) : isFst f b = true ↔ ∀ c, c < b → f c ≠ f b := by
  unfold isFst
  simp
theorem not_fst (f : Nat → K) (b : Nat) : isFst f b = false ↔ ∃ c, c < b ∧ f c = f b := by
  rw [← Bool.not_eq_true, isFst_iff]
  simp
theorem cntK_mono (f : Nat → K) {a b : Nat} (h : a ≤ b) : cntK f a ≤ cntK f b := by
  induction b with
  | zero => have : a = 0 := by omega
            subst this; exact Nat.le_refl _
  | succ b ih =>
    by_cases e : a = b + 1
    · subst e; exact Nat.le_refl _
    · have := ih (by omega)
      simp only [cntK]
      omega
theorem cntK_lt (f : Nat → K) {a b : Nat} (h : a < b) (ha : isFst f a = true) : cntK f a < cntK f b := by
  have := cntK_mono f (show a + 1 ≤ b from h)
  simp only [cntK, ha, if_true] at this
  omega
theorem cntK_le (f : Nat → K) (b : Nat) : cntK f b ≤ b := by
  induction b with
  | zero => exact Nat.le_refl _
  | succ b ih => simp only [cntK]; split <;> omega
theorem fstK_spec (f : Nat → K) (b : Nat) : fstK f b ≤ b ∧ f (fstK f b) = f b ∧ isFst f (fstK f b) = true := by
  induction b using Nat.strongRecOn with
  | _ b ih =>
    unfold fstK
    cases hf : (List.range b).find? (fun c => decide (f c = f b)) with
    | none =>
      rw [List.find?_eq_none] at hf
      refine ⟨Nat.le_refl _, rfl, ?_⟩
      rw [Option.getD_none, isFst_iff]
      intro c hc e
      exact hf c (List.mem_range.2 hc) (by simpa using e)
    | some c =>
      have hm := List.mem_of_find?_eq_some hf
      have hp := List.find?_some hf
      rw [List.mem_range] at hm
      simp at hp
      rw [Option.getD_some]
      refine ⟨by omega, hp, ?_⟩
      rw [isFst_iff]
      intro d hd e
      rw [List.find?_range_eq_some] at hf
      exact absurd (e.trans hp) (by have := hf.2.2 d hd; simpa using this)
theorem fst_uniq (f : Nat → K) {a b : Nat} (ha : isFst f a = true) (hb : isFst f b = true) (e : f a = f b) : a = b := by
  rw [isFst_iff] at ha hb
  rcases Nat.lt_trichotomy a b with h | h | h
  · exact absurd e (hb a h)
  · exact h
  · exact absurd e.symm (ha b h)
theorem fstK_self (f : Nat → K) {b : Nat} (h : isFst f b = true) : fstK f b = b := by
  have := fstK_spec f b
  exact fst_uniq f this.2.2 h this.2.1
theorem numK_fst (f : Nat → K) {b : Nat} (h : isFst f b = true) : numK f b = cntK f b := by
  unfold numK
  rw [fstK_self f h]
theorem numK_eq (f : Nat → K) (a b : Nat) : numK f a = numK f b ↔ f a = f b := by
  obtain ⟨_, ea, fa⟩ := fstK_spec f a
  obtain ⟨_, eb, fb⟩ := fstK_spec f b
  unfold numK
  constructor
  · intro h
    rcases Nat.lt_trichotomy (fstK f a) (fstK f b) with l | l | l
    · have := cntK_lt f l fa; omega
    · rw [← ea, ← eb, l]
    · have := cntK_lt f l fb; omega
  · intro h
    rw [fst_uniq f fa fb (by rw [ea, eb, h])]
theorem numK_lt (f : Nat → K) (b : Nat) : numK f b < cntK f (b + 1) := by
  obtain ⟨h, _, fa⟩ := fstK_spec f b
  exact cntK_lt f (by omega) fa
theorem numK_bound (f : Nat → K) {b n : Nat} (h : b < n) : numK f b < cntK f n := Nat.lt_of_lt_of_le (numK_lt f b) (cntK_mono f h)
theorem cntK_step (f : Nat → K) (b : Nat) : cntK f (b + 1) = max (cntK f b) (numK f b + 1) := by
  cases h : isFst f b
  · obtain ⟨c, hc, e⟩ := (not_fst f b).1 h
    have h1 := numK_bound f hc
    rw [(numK_eq f c b).2 e] at h1
    simp only [cntK, h]
    simp
    omega
  · rw [numK_fst f h]
    simp only [cntK, h, if_true]
    omega
theorem numK_le (f : Nat → K) (b : Nat) : numK f b ≤ cntK f b := by
  have := cntK_step f b
  have h2 : cntK f (b + 1) ≤ cntK f b + 1 := by simp only [cntK]; split <;> omega
  omega
/-- A finer key has no fewer numbers. -/
theorem cntK_fine {L : Type} [DecidableEq L] (f : Nat → K) (g : Nat → L) (h : ∀ a b, g a = g b → f a = f b) (n : Nat) : cntK f n ≤ cntK g n := by
  induction n with
  | zero => exact Nat.le_refl _
  | succ n ih =>
    have : isFst f n = true → isFst g n = true := fun hf => by
      rw [isFst_iff] at hf ⊢
      exact fun c hc e => hf c hc (h c n e)
    simp only [cntK]
    cases h1 : isFst f n
    · simp; omega
    · rw [this h1]; simp; omega
end

/-- Which of the sets have a byte. -/
def keyL (l : List (Nat → Bool)) (b : Nat) : List Bool := l.map fun p => p b
theorem keyL_take (l : List (Nat → Bool)) (i : Nat) (h : i < l.length) (b : Nat) : keyL (l.take (i + 1)) b = keyL (l.take i) b ++ [(l[i]'h) b] := by
  unfold keyL
  rw [List.take_succ_eq_append_getElem h, List.map_append]
  rfl
theorem keyL_eq (l : List (Nat → Bool)) (i : Nat) (h : i < l.length) (a b : Nat) : keyL (l.take (i + 1)) a = keyL (l.take (i + 1)) b ↔ keyL (l.take i) a = keyL (l.take i) b ∧ (l[i]'h) a = (l[i]'h) b := by
  rw [keyL_take l i h, keyL_take l i h]
  constructor
  · intro e
    have := List.append_inj' e rfl
    exact ⟨this.1, by simpa using this.2⟩
  · rintro ⟨e1, e2⟩
    rw [e1, e2]
theorem keyL_snoc (l : List (Nat → Bool)) (p : Nat → Bool) (a b : Nat) : keyL (l ++ [p]) a = keyL (l ++ [p]) b → keyL l a = keyL l b := by
  unfold keyL
  rw [List.map_append, List.map_append]
  exact fun e => (List.append_inj' e rfl).1

/-- What a split has met: number and one of the part of class c that is on side q, or 0. -/
def metK (f g : Nat → List Bool) (p : Nat → Bool) (j : Nat) (q : Bool) (c : Nat) : Nat :=
  match (List.range j).find? fun b => p b == q && numK f b == c with
  | some b => numK g b + 1
  | none => 0
theorem metK_none (f g : Nat → List Bool) (p : Nat → Bool) (q : Bool) (c : Nat) : metK f g p 0 q c = 0 := rfl
/-- g parts f by p. -/
def PartsBy (f g : Nat → List Bool) (p : Nat → Bool) : Prop := ∀ a b, g a = g b ↔ f a = f b ∧ p a = p b
theorem metK_here {f g : Nat → List Bool} {p : Nat → Bool} (h : PartsBy f g p) (j : Nat) :
    metK f g p j (p j) (numK f j) = if isFst g j then 0 else numK g j + 1 := by
  unfold metK
  cases hf : (List.range j).find? (fun b => p b == p j && numK f b == numK f j) with
  | none =>
    rw [List.find?_eq_none] at hf
    have : isFst g j = true := by
      rw [isFst_iff]
      intro c hc e
      have := (h c j).1 e
      exact hf c (List.mem_range.2 hc) (by simp [this.2, (numK_eq f c j).2 this.1])
    simp [this]
  | some b =>
    have hm := List.mem_of_find?_eq_some hf
    have hp := List.find?_some hf
    rw [List.mem_range] at hm
    simp at hp
    have hg : g b = g j := (h b j).2 ⟨(numK_eq f b j).1 hp.2, hp.1⟩
    have : isFst g j = false := (not_fst g j).2 ⟨b, hm, hg⟩
    simp [this, (numK_eq g b j).2 hg]
theorem metK_step {f g : Nat → List Bool} {p : Nat → Bool} (h : PartsBy f g p) (j : Nat) (q : Bool) (c : Nat) :
    metK f g p (j + 1) q c = if q = p j ∧ c = numK f j then numK g j + 1 else metK f g p j q c := by
  by_cases hq : q = p j ∧ c = numK f j
  · obtain ⟨rfl, rfl⟩ := hq
    rw [if_pos ⟨rfl, rfl⟩]
    unfold metK
    rw [List.range_succ, List.find?_append]
    cases hf : (List.range j).find? (fun b => p b == p j && numK f b == numK f j) with
    | none => simp
    | some b =>
      have hp := List.find?_some hf
      simp at hp
      simp [(numK_eq g b j).2 ((h b j).2 ⟨(numK_eq f b j).1 hp.2, hp.1⟩)]
  · rw [if_neg hq]
    unfold metK
    rw [List.range_succ, List.find?_append]
    have : (List.find? (fun b => p b == q && numK f b == c) [j]) = none := by
      simp
      intro e e2
      exact hq ⟨e.symm, e2.symm⟩
    rw [this, Option.or_none]
end Go.Proofs.Ytammicfijnffaaa
