/-
  What holds of all nodes that the grammar makes holds of a pattern. Plain mathematics; no statement of its own.
-/
import Derived.Test.YtpiieonlbfhbaaaRxCat
set_option linter.unusedVariables false
set_option linter.unusedSimpArgs false
namespace Go.Proofs.Ytpiieonlbfhbaaa
open Go

/-- A property that each node has which the grammar makes, whatever its kids. -/
structure Made (N : Nat) (Q : T → Prop) : Prop where
  one : ∀ p, Q (.one p)
  rep : ∀ m n t, 0 ≤ m → m ≤ n → 1 ≤ n → n ≤ 32 → Q t → Q (.rep m n t)
  cat : ∀ l, 2 ≤ l.length → l.length ≤ N → (∀ x ∈ l, Q x) → Q (.mk 2 noneP 0 0 l)
  alt : ∀ l, 2 ≤ l.length → l.length ≤ N → (∀ x ∈ l, Q x) → Q (.mk 3 noneP 0 0 l)

theorem num_pos {s : ByteArray} {p q : Nat} {m : Int} (h : cNum s p = .ok (m, q)) : 0 ≤ m := by
  unfold cNum at h
  by_cases h1 : isD s p = true
  · rw [if_pos h1] at h
    simp [isD] at h1
    by_cases h2 : isD s (p + 1) = true
    · rw [if_pos h2] at h
      simp [isD] at h2
      injection h with h; injection h with h _
      omega
    · rw [if_neg h2] at h
      injection h with h; injection h with h _
      omega
  · rw [if_neg h1] at h; cases h
theorem times_good {s : ByteArray} {p q : Nat} {m n : Int} (h : cTimes s p = .ok ((m, n), q)) : 0 ≤ m ∧ m ≤ n ∧ 1 ≤ n ∧ n ≤ 32 := by
  unfold cTimes at h
  cases hc : cNum s p with
  | error e => rw [hc] at h; cases h
  | ok x =>
    rw [hc] at h
    simp only [thenR] at h
    have h0 := num_pos (m := x.1) (q := x.2) hc
    cases hd : (if isB s x.2 44 = true then cNum s (x.2 + 1) else (.ok (x.1, x.2) : R Int)) with
    | error e => rw [hd] at h; cases h
    | ok y =>
      rw [hd] at h
      simp only at h
      by_cases hk : isB s y.2 125 = true ∧ 1 ≤ y.1 ∧ y.1 ≤ 32 ∧ x.1 ≤ y.1
      · rw [if_pos hk] at h
        injection h with h; injection h with h _; injection h with h1 h2
        subst h1 h2
        exact ⟨h0, hk.2.2.2, hk.2.1, hk.2.2.1⟩
      · rw [if_neg hk] at h; cases h
theorem many_two {op : Int} {l : List T} {Q : T → Prop} (h1 : 1 ≤ l.length) (hl : ∀ x ∈ l, Q x) (hm : 2 ≤ l.length → Q (.mk op noneP 0 0 l)) : Q (T.many op l) := by
  unfold T.many
  split
  · rename_i z
    exact hl z (by simp)
  · rename_i hne
    refine hm ?_
    match l, h1, hne with
    | [x], _, hne => exact absurd rfl (hne x)
    | _ :: _ :: _, _, _ => simp

section
variable {s : ByteArray} {Q : T → Prop} (hQ : Made (s.size + 2) Q) {d : Option (Nat → R T)} {top : Bool} (hd : ∀ f, d = some f → ∀ p t q, f p = .ok (t, q) → Q t)
include hQ hd
theorem Made.atom {p q : Nat} {t : T} (h : cAtom s d p = .ok (t, q)) : Q t := by
  unfold cAtom at h
  by_cases hlt : p < s.size
  · rw [if_pos hlt] at h
    split at h
    · cases d with
      | none => cases h
      | some f =>
        simp only at h
        cases hc : f (p + 1) with
        | error e => rw [hc] at h; cases h
        | ok x =>
          rw [hc] at h
          simp only [thenR] at h
          split at h
          · injection h with h; injection h with h _; rw [← h]; exact hd f rfl (p + 1) x.1 x.2 hc
          · cases h
    · split at h
      · cases hc : cClass s (p + 1) with
        | error e => rw [hc] at h; cases h
        | ok x => rw [hc] at h; injection h with h; injection h with h _; rw [← h]; exact hQ.one _
      · split at h
        · injection h with h; injection h with h _; rw [← h]; exact hQ.one _
        · split at h
          · split at h
            · injection h with h; injection h with h _; rw [← h]; exact hQ.one _
            · cases hc : cEsc s (p + 1) with
              | error e => rw [hc] at h; cases h
              | ok x => rw [hc] at h; injection h with h; injection h with h _; rw [← h]; exact hQ.one _
          · split at h
            · cases h
            · split at h
              · cases h
              · injection h with h; injection h with h _; rw [← h]; exact hQ.one _
  · rw [if_neg hlt] at h; cases h
omit hd in
theorem Made.rloop : ∀ (n : Nat) (t : T) (p : Nat) (t' : T) (q : Nat), Q t → loopR (repStep s) n t p = .ok (t', q) → Q t'
  | 0, t, p, t', q, h0, h => by unfold loopR at h; injection h with h; injection h with h _; rw [← h]; exact h0
  | n + 1, t, p, t', q, h0, h => by
    unfold loopR repStep at h
    by_cases h63 : isB s p 63 = true
    · rw [if_pos h63] at h
      exact Made.rloop n _ _ t' q (hQ.rep _ _ _ (by omega) (by omega) (by omega) (by omega) h0) h
    · rw [if_neg h63] at h
      by_cases h123 : isB s p 123 = true
      · rw [if_pos h123] at h
        cases hc : cTimes s (p + 1) with
        | error e => rw [hc] at h; cases h
        | ok x =>
          rw [hc] at h
          obtain ⟨g1, g2, g3, g4⟩ := times_good (m := x.1.1) (n := x.1.2) (q := x.2) hc
          exact Made.rloop n _ _ t' q (hQ.rep _ _ _ g1 g2 g3 g4 h0) h
      · rw [if_neg h123] at h
        injection h with h; injection h with h _; rw [← h]; exact h0
theorem Made.piece {p q : Nat} {t : T} (h : cPiece s d p = .ok (t, q)) : Q t := by
  unfold cPiece at h
  cases hc : cAtom s d p with
  | error e => rw [hc] at h; cases h
  | ok x =>
    rw [hc] at h
    exact hQ.rloop _ x.1 x.2 t q (hQ.atom hd hc) h
theorem Made.ploop : ∀ (n : Nat) (l : List T) (p : Nat) (l' : List T) (q : Nat), 1 ≤ l.length → (∀ x ∈ l, Q x) → loopR (partStep s d top) n l p = .ok (l', q) → (∀ x ∈ l', Q x) ∧ 1 ≤ l'.length ∧ l'.length ≤ l.length + n
  | 0, l, p, l', q, hl, h0, h => by unfold loopR at h; injection h with h; injection h with h _; rw [← h]; exact ⟨h0, hl, by omega⟩
  | n + 1, l, p, l', q, hl, h0, h => by
    unfold loopR partStep at h
    split at h
    · injection h with h; injection h with h _; rw [← h]; exact ⟨h0, hl, by omega⟩
    · cases h
    · rename_i a' p' e
      split at e
      · cases hc : cPiece s d p with
        | error e' => rw [hc] at e; injection e with e; cases e
        | ok x =>
          rw [hc] at e
          injection e with e
          injection e with e
          injection e with e1 e2
          have k := Made.ploop n a' p' l' q (by rw [← e1]; simp) (fun y hy => ?_) h
          · refine ⟨k.1, k.2.1, ?_⟩
            have := k.2.2
            rw [← e1] at this
            simp at this
            omega
          rw [← e1] at hy
          rcases List.mem_append.1 hy with hy | hy
          · exact h0 y hy
          · simp at hy
            rw [hy]
            exact hQ.piece hd (q := x.2) hc
      · cases e
theorem Made.part {p q : Nat} {t : T} (h : cPart s d top p = .ok (t, q)) : Q t := by
  unfold cPart at h
  cases hc : cPiece s d p with
  | error e => rw [hc] at h; cases h
  | ok x =>
    rw [hc] at h
    simp only [thenR] at h
    cases hl : loopR (partStep s d top) (s.size + 1) [x.1] x.2 with
    | error e => rw [hl] at h; cases h
    | ok y =>
      rw [hl] at h
      have k := hQ.ploop hd _ [x.1] x.2 y.1 y.2 (by simp) (fun z hz => by simp at hz; rw [hz]; exact hQ.piece hd (q := x.2) hc) hl
      injection h with h
      injection h with h _
      rw [← h]
      exact many_two k.2.1 k.1 fun h2 => hQ.cat _ h2 (by have := k.2.2; simp at this; omega) k.1
theorem Made.loop : ∀ (n : Nat) (l : List T) (p : Nat) (l' : List T) (q : Nat), 1 ≤ l.length → (∀ x ∈ l, Q x) → loopR (patStep s d top) n l p = .ok (l', q) → (∀ x ∈ l', Q x) ∧ 1 ≤ l'.length ∧ l'.length ≤ l.length + n
  | 0, l, p, l', q, hl, h0, h => by unfold loopR at h; injection h with h; injection h with h _; rw [← h]; exact ⟨h0, hl, by omega⟩
  | n + 1, l, p, l', q, hl, h0, h => by
    unfold loopR patStep at h
    split at h
    · injection h with h; injection h with h _; rw [← h]; exact ⟨h0, hl, by omega⟩
    · cases h
    · rename_i a' p' e
      split at e
      · cases hc : cPart s d top (p + 1) with
        | error e' => rw [hc] at e; injection e with e; cases e
        | ok x =>
          rw [hc] at e
          injection e with e
          injection e with e
          injection e with e1 e2
          have k := Made.loop n a' p' l' q (by rw [← e1]; simp) (fun y hy => ?_) h
          · refine ⟨k.1, k.2.1, ?_⟩
            have := k.2.2
            rw [← e1] at this
            simp at this
            omega
          rw [← e1] at hy
          rcases List.mem_append.1 hy with hy | hy
          · exact h0 y hy
          · simp at hy
            rw [hy]
            exact hQ.part hd (q := x.2) hc
      · cases e
theorem Made.cpat {p q : Nat} {t : T} (h : cPat s d top p = .ok (t, q)) : Q t := by
  unfold cPat at h
  cases hc : cPart s d top p with
  | error e => rw [hc] at h; cases h
  | ok x =>
    rw [hc] at h
    simp only [thenR] at h
    cases hl : loopR (patStep s d top) (s.size + 1) [x.1] x.2 with
    | error e => rw [hl] at h; cases h
    | ok y =>
      rw [hl] at h
      have k := hQ.loop hd _ [x.1] x.2 y.1 y.2 (by simp) (fun z hz => by simp at hz; rw [hz]; exact hQ.part hd (q := x.2) hc) hl
      injection h with h
      injection h with h _
      rw [← h]
      exact many_two k.2.1 k.1 fun h2 => hQ.alt _ h2 (by have := k.2.2; simp at this; omega) k.1
omit hd
theorem Made.pat : ∀ (k : Nat) (top : Bool) (p : Nat) (t : T) (q : Nat), pat s k top p = .ok (t, q) → Q t
  | 0, top, p, t, q, h => hQ.cpat (d := none) (fun f e => by cases e) h
  | k + 1, top, p, t, q, h => hQ.cpat (d := some (Go.Proofs.Ytpiieonlbfhbaaa.pat s k false)) (fun f e p t q h => by cases e; exact Made.pat k false p t q h) h
theorem Made.xparse {t : T} (h : xparse s = .ok t) : Q t := hQ.pat 20 false 0 t s.size (xparse_read h).2
end
theorem op_made (N : Nat) : Made N (fun t => t.op ≠ 0) := ⟨fun p => by show (1 : Int) ≠ 0; decide, fun m n t _ _ _ _ _ => by show (4 : Int) ≠ 0; decide, fun l _ _ _ => by show (2 : Int) ≠ 0; decide, fun l _ _ _ => by show (3 : Int) ≠ 0; decide⟩
theorem alts_made (N : Nat) : Made N (fun t => (altsT t).length ≤ N + 1) := ⟨fun p => by show 1 ≤ _; omega, fun m n t _ _ _ _ _ => by show 1 ≤ _; omega, fun l _ _ _ => by show 1 ≤ _; omega, fun l _ h _ => by show l.length ≤ _; omega⟩

end Go.Proofs.Ytpiieonlbfhbaaa
