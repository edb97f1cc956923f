/-
  The document's own reader of patterns: its small steps, held against the plain grammar. No program; no statement of its own.
-/
import Derived.Test.YtpiieonlbfhbaaaRxPure
set_option linter.unusedVariables false
set_option linter.unusedSimpArgs false
namespace Go.Proofs.Ytpiieonlbfhbaaa
open Go

/-- What the reader has done is what the grammar says: what is read, where it ends; or what is amiss, where. What was amiss before stays. -/
def Rel {α : Type} (s : ByteArray) (o : R α) (st : St) (a : α) (st' : St) : Prop :=
  st'.opn = st.opn ∧ st'.pos ≤ s.size ∧ (st.bad ≠ 0 → st'.bad = st.bad ∧ st'.spot = st.spot) ∧
  (st.bad = 0 → match o with
    | .ok (x, p) => a = x ∧ st'.pos = p ∧ st'.bad = 0
    | .error (c, q) => c ≠ 0 ∧ st'.bad = c ∧ st'.spot = q)

section
variable (s : ByteArray) (st : St)
theorem fail_keep (h : st.bad ≠ 0) (a b : Int) : st.fail a b = st := by unfold St.fail; rw [if_neg h]
theorem fail_new (h : st.bad = 0) (a b : Int) : st.fail a b = { st with bad := b, spot := a } := by unfold St.fail; rw [if_pos h]
theorem peek_ok (h : st.bad = 0) (hp : st.pos < s.size) : st.peek s = (bt s st.pos : Int) := by unfold St.peek; rw [if_neg (by omega)]
theorem peek_end (h : st.bad = 0) (hp : s.size ≤ st.pos) : st.peek s = -1 := by unfold St.peek; rw [if_pos (by omega)]
theorem peek_bad (h : st.bad ≠ 0) : st.peek s = -1 := by unfold St.peek; rw [if_pos (by omega)]
theorem next_ok (h : st.bad = 0) (hp : st.pos < s.size) : st.next s = ((bt s st.pos : Int), st.step 1) := by
  unfold St.next; rw [peek_ok s st h hp, if_neg (by omega)]
theorem next_end (h : st.bad = 0) (hp : s.size ≤ st.pos) : st.next s = (-1, { st with bad := 2, spot := s.size }) := by
  unfold St.next; rw [peek_end s st h hp, if_pos (by omega), fail_new _ h]
theorem next_bad (h : st.bad ≠ 0) : st.next s = (-1, st) := by
  unfold St.next; rw [peek_bad s st h, if_pos (by omega), fail_keep _ h]
theorem inT_neg (t : ByteArray) : inT (-1) t = false := by
  cases h : inT (-1) t
  · rfl
  · have := inT_nonneg _ _ h; omega

/-- Whether the next byte is that one. -/
theorem peek_isB (h : st.bad = 0) (c : Nat) : (st.peek s = (c : Int)) ↔ isB s st.pos c = true := by
  unfold isB
  by_cases hp : st.pos < s.size
  · rw [peek_ok s st h hp]; simp [hp]; omega
  · rw [peek_end s st h (by omega)]; simp [hp]

theorem escaped_bad (h : st.bad ≠ 0) : st.escaped s = (0, st) := by
  unfold St.escaped
  simp only [next_bad s st h, inT_neg, fail_keep st h]
  simp
theorem escaped_rel (hpos : st.pos ≤ s.size) : Rel s (cEsc s st.pos) st (st.escaped s).1 (st.escaped s).2 := by
  by_cases hb : st.bad = 0
  · refine ⟨?_, (escaped_pos s st hpos).1, fun h => absurd hb h, fun _ => ?_⟩
    · unfold St.escaped St.next
      simp only
      have e : ∀ (x : St) a b, (x.fail a b).opn = x.opn := fun x a b => by unfold St.fail; split <;> rfl
      repeat' split
      all_goals simp [e, St.step]
    · by_cases hp : st.pos < s.size
      · unfold St.escaped cEsc quotT
        simp only [next_ok s st hb hp, hp, if_true]
        have e1 : ((bt s st.pos : Int) = 110) ↔ bt s st.pos = 110 := by omega
        have e2 : ((bt s st.pos : Int) = 116) ↔ bt s st.pos = 116 := by omega
        simp only [e1, e2]
        by_cases h1 : bt s st.pos = 110
        · simp only [h1, if_true]; exact ⟨trivial, rfl, hb⟩
        · simp only [h1, if_false]
          by_cases h2 : bt s st.pos = 116
          · simp only [h2, if_true]; exact ⟨trivial, rfl, hb⟩
          · simp only [h2, if_false]
            by_cases h3 : inT (bt s st.pos : Int) ⟨#[92, 46, 91, 93, 40, 41, 123, 125, 124, 63, 42, 43, 94, 36, 45, 47]⟩ = true
            · simp only [h3, if_true]; exact ⟨trivial, rfl, hb⟩
            · simp only [h3]
              rw [if_neg (by simp), if_neg (by simp), fail_new _ (by exact hb)]
              exact ⟨by simp, rfl, by simp [St.step]⟩
      · unfold St.escaped cEsc
        simp only [next_end s st hb (by omega), inT_neg, hp, if_false]
        simp [St.fail]
        omega
  · rw [escaped_bad s st hb]
    exact ⟨rfl, hpos, fun _ => ⟨rfl, rfl⟩, fun h => absurd h hb⟩
theorem member_bad (h : st.bad ≠ 0) : st.member s = (0, st) := by
  unfold St.member
  simp [next_bad s st h]
  omega
theorem member_rel (hpos : st.pos ≤ s.size) : Rel s (cMem s st.pos) st (st.member s).1 (st.member s).2 := by
  by_cases hb : st.bad = 0
  · by_cases hp : st.pos < s.size
    · have e1 : ((bt s st.pos : Int) = 93) ↔ bt s st.pos = 93 := by omega
      have e2 : ((bt s st.pos : Int) = 92) ↔ bt s st.pos = 92 := by omega
      unfold St.member cMem
      simp only [next_ok s st hb hp, hp, if_true, e1, e2]
      by_cases h3 : bt s st.pos = 93
      · simp only [h3, if_true]
        rw [fail_new _ (by exact hb)]
        refine ⟨rfl, by simp [St.step]; omega, fun h => absurd hb h, fun _ => ⟨by simp, rfl, by simp [St.step]⟩⟩
      · simp only [h3, if_false]
        by_cases h2 : bt s st.pos = 92
        · simp only [h2, if_true]
          have := escaped_rel s (st.step 1) (show st.pos + 1 ≤ s.size by omega)
          exact this
        · simp only [h2, if_false]
          refine ⟨rfl, by simp [St.step]; omega, fun h => absurd hb h, fun _ => ⟨by omega, rfl, hb⟩⟩
    · unfold St.member cMem
      simp only [next_end s st hb (by omega), hp, if_false]
      refine ⟨rfl, hpos, fun h => absurd hb h, fun _ => ?_⟩
      simp
      omega
  · rw [member_bad s st hb]
    exact ⟨rfl, hpos, fun _ => ⟨rfl, rfl⟩, fun h => absurd h hb⟩
theorem number_bad (h : st.bad ≠ 0) : st.number s = (0, st) := by
  unfold St.number
  simp [next_bad s st h, fail_keep st h]
theorem number_rel (hpos : st.pos ≤ s.size) : Rel s (cNum s st.pos) st (st.number s).1 (st.number s).2 := by
  by_cases hb : st.bad = 0
  · by_cases hp : st.pos < s.size
    · unfold St.number cNum
      simp only [next_ok s st hb hp]
      by_cases hd : isD s st.pos = true
      · have hd' := hd
        simp [isD] at hd'
        have hx : ¬ ((bt s st.pos : Int) < 48 ∨ 57 < (bt s st.pos : Int)) := by omega
        rw [if_pos hd]
        simp only [hx, if_false]
        by_cases hd2 : isD s (st.pos + 1) = true
        · have hd3 := hd2
          simp [isD] at hd3
          rw [peek_ok s (st.step 1) hb (by simp [St.step]; omega), if_pos hd2]
          have hy : (48 ≤ (bt s (st.step 1).pos : Int) ∧ (bt s (st.step 1).pos : Int) ≤ 57) := by simp only [St.step]; omega
          rw [if_pos hy]
          refine ⟨rfl, by simp [St.step]; omega, fun h => absurd hb h, fun _ => ⟨by simp only [St.step]; omega, rfl, hb⟩⟩
        · have hd3 : ¬ (48 ≤ (st.step 1).peek s ∧ (st.step 1).peek s ≤ 57) := by
            by_cases hp2 : st.pos + 1 < s.size
            · rw [peek_ok s (st.step 1) hb (by simpa [St.step] using hp2)]
              simp [isD, hp2] at hd2
              simp only [St.step]
              omega
            · rw [peek_end s (st.step 1) hb (by simp [St.step]; omega)]
              omega
          rw [if_neg hd2, if_neg hd3]
          refine ⟨rfl, by simp [St.step]; omega, fun h => absurd hb h, fun _ => ⟨rfl, rfl, hb⟩⟩
      · have hd' := hd
        simp [isD, hp] at hd'
        have hx : (bt s st.pos : Int) < 48 ∨ 57 < (bt s st.pos : Int) := by omega
        rw [if_neg hd, if_pos hx, fail_new _ (by exact hb)]
        refine ⟨rfl, by simp [St.step]; omega, fun h => absurd hb h, fun _ => ⟨by simp, rfl, by simp [St.step]⟩⟩
    · unfold St.number cNum
      simp only [next_end s st hb (by omega)]
      have hd : ¬ isD s st.pos = true := by simp [isD, hp]
      rw [if_neg hd, if_pos (by omega)]
      refine ⟨rfl, hpos, fun h => absurd hb h, fun _ => ?_⟩
      simp [St.fail]
      omega
  · rw [number_bad s st hb]
    exact ⟨rfl, hpos, fun _ => ⟨rfl, rfl⟩, fun h => absurd h hb⟩

theorem wide_eq (hb : st.bad = 0) : st.wideHere s = cWide s st.pos := by
  unfold St.wideHere cWide
  congr 1
  congr 1
  rw [Bool.eq_iff_iff, ← peek_isB s st hb 92]
  simp
theorem item_bad (h : st.bad ≠ 0) : st.item s = (rangeP 0 0, st) := by
  unfold St.item St.wideHere
  simp [peek_bad s st h, member_bad s st h]
theorem item_rel (hpos : st.pos ≤ s.size) : Rel s (cItem s st.pos) st (st.item s).1 (st.item s).2 := by
  by_cases hb : st.bad = 0
  · unfold St.item cItem
    rw [wide_eq s st hb]
    by_cases hw : cWide s st.pos = true
    · rw [if_pos hw, if_pos hw]
      simp [cWide] at hw
      exact ⟨rfl, by simp [St.step]; omega, fun h => absurd hb h, fun _ => ⟨rfl, rfl, hb⟩⟩
    · rw [if_neg hw, if_neg hw]
      have hm := member_rel s st hpos
      have hbd := member_bd s st
      revert hm hbd
      generalize (st.member s).1 = lo
      generalize (st.member s).2 = st1
      generalize cMem s st.pos = o
      rintro ⟨m1, m2, m3, m4⟩ hbd
      replace m4 := m4 hb
      match o, m4 with
      | .error (c, q), m4 =>
        have hz : st1.bad ≠ 0 := by rw [m4.2.1]; exact m4.1
        simp only [thenR, peek_bad s st1 hz]
        exact ⟨m1, m2, fun h => absurd hb h, fun _ => m4⟩
      | .ok (x, p), m4 =>
        obtain ⟨rfl, rfl, hz⟩ := m4
        simp only [thenR]
        by_cases h45 : isB s st1.pos 45 = true
        · have hp := (peek_isB s st1 hz 45).2 h45
          have hlt := isB_lt h45
          rw [if_pos h45, if_pos (show st1.peek s = 45 from hp)]
          have hm := member_rel s (st1.step 1) (show st1.pos + 1 ≤ s.size by omega)
          revert hm
          rw [show (st1.step 1).pos = st1.pos + 1 from rfl]
          generalize ((st1.step 1).member s).1 = hi
          generalize ((st1.step 1).member s).2 = st3
          generalize cMem s (st1.pos + 1) = o
          rintro ⟨n1, n2, n3, n4⟩
          replace n4 := n4 hz
          match o, n4 with
          | .error (c, q), n4 =>
            have hz3 : st3.bad ≠ 0 := by rw [n4.2.1]; exact n4.1
            simp only [fail_keep st3 hz3, ite_self]
            exact ⟨n1.trans m1, n2, fun h => absurd hb h, fun _ => n4⟩
          | .ok (y, p), n4 =>
            obtain ⟨rfl, rfl, hz3⟩ := n4
            by_cases hlo : hi < lo
            · simp only [hlo, if_true]
              rw [fail_new _ hz3]
              exact ⟨n1.trans m1, n2, fun h => absurd hb h, fun _ => ⟨by simp, rfl, rfl⟩⟩
            · simp only [hlo, if_false]
              exact ⟨n1.trans m1, n2, fun h => absurd hb h, fun _ => ⟨rfl, rfl, hz3⟩⟩
        · have hp : ¬ (st1.peek s = 45) := fun h => h45 ((peek_isB s st1 hz 45).1 (by simpa using h))
          rw [if_neg h45, if_neg hp]
          exact ⟨m1, m2, fun h => absurd hb h, fun _ => ⟨rfl, rfl, hz⟩⟩
  · rw [item_bad s st hb]
    exact ⟨rfl, hpos, fun _ => ⟨rfl, rfl⟩, fun h => absurd h hb⟩
end
end Go.Proofs.Ytpiieonlbfhbaaa
