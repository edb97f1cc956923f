/-
  Several texts of this proof in one file: RefRel, RefGo, RefRd7, RefRd8, RefMid, RefAtom. No statement of its own.
-/
import Derived.Test.YtnkopcmkanibhaaMo8
import Derived.Test.YtnkopcmkanibhaaMo13
import Derived.Deep.LoopGhost
import Derived.Test.YtnkopcmkanibhaaMo10
set_option linter.unusedVariables false
set_option linter.unusedSimpArgs false

/-
  The document's own reader of patterns: its small steps, held against the plain grammar. No program; no statement of its own.
-/
namespace Go.Proofs.Ytnkopcmkanibhaa
open Go

/-- What the reader has done is what the grammar says: what is read, where it ends; or what is amiss, where. What was amiss before stays. -/
def Rel {α : Type} (s : ByteArray) (o : R α) (st : St) (a : α) (st' : St) : Prop :=
  st'.opn = st.opn ∧ st'.pos ≤ s.size ∧ (st.bad ≠ 0 → st'.bad = st.bad ∧ st'.spot = st.spot) ∧
  (st.bad = 0 → match o with
    | .ok (x, p) => a = x ∧ st'.pos = p ∧ st'.bad = 0
    | .error (c, q) => c ≠ 0 ∧ st'.bad = c ∧ st'.spot = q)

section
variable (s : ByteArray) (st : St)
theorem fail_keep (h : st.bad ≠ 0) (a b : Int) : st.fail a b = st := by unfold St.fail; rw [if_neg h]
theorem fail_new (h : st.bad = 0) (a b : Int) : st.fail a b = { st with bad := b, spot := a } := by unfold St.fail; rw [if_pos h]
theorem peek_ok (h : st.bad = 0) (hp : st.pos < s.size) : st.peek s = (bt s st.pos : Int) := by unfold St.peek; rw [if_neg (by omega)]
theorem peek_end (h : st.bad = 0) (hp : s.size ≤ st.pos) : st.peek s = -1 := by unfold St.peek; rw [if_pos (by omega)]
theorem peek_bad (h : st.bad ≠ 0) : st.peek s = -1 := by unfold St.peek; rw [if_pos (by omega)]
theorem next_ok (h : st.bad = 0) (hp : st.pos < s.size) : st.next s = ((bt s st.pos : Int), st.step 1) := by
  unfold St.next; rw [peek_ok s st h hp, if_neg (by omega)]
theorem next_end (h : st.bad = 0) (hp : s.size ≤ st.pos) : st.next s = (-1, { st with bad := 2, spot := s.size }) := by
  unfold St.next; rw [peek_end s st h hp, if_pos (by omega), fail_new _ h]
theorem next_bad (h : st.bad ≠ 0) : st.next s = (-1, st) := by
  unfold St.next; rw [peek_bad s st h, if_pos (by omega), fail_keep _ h]
theorem inT_neg (t : ByteArray) : inT (-1) t = false := by
  cases h : inT (-1) t
  · rfl
  · have := inT_nonneg _ _ h; omega

/-- Whether the next byte is that one. -/
theorem peek_isB (h : st.bad = 0) (c : Nat) : (st.peek s = (c : Int)) ↔ isB s st.pos c = true := by
  unfold isB
  by_cases hp : st.pos < s.size
  · rw [peek_ok s st h hp]; simp [hp]; omega
  · rw [peek_end s st h (by omega)]; simp [hp]

theorem escaped_bad (h : st.bad ≠ 0) : st.escaped s = (0, st) := by
  unfold St.escaped
  simp only [next_bad s st h, inT_neg, fail_keep st h]
  simp
theorem escaped_rel (hpos : st.pos ≤ s.size) : Rel s (cEsc s st.pos) st (st.escaped s).1 (st.escaped s).2 := by
  by_cases hb : st.bad = 0
  · refine ⟨?_, (escaped_pos s st hpos).1, fun h => absurd hb h, fun _ => ?_⟩
    · unfold St.escaped St.next
      simp only
      have e : ∀ (x : St) a b, (x.fail a b).opn = x.opn := fun x a b => by unfold St.fail; split <;> rfl
      repeat' split
      all_goals simp [e, St.step]
    · by_cases hp : st.pos < s.size
      · unfold St.escaped cEsc quotT
        simp only [next_ok s st hb hp, hp, if_true]
        have e1 : ((bt s st.pos : Int) = 110) ↔ bt s st.pos = 110 := by omega
        have e2 : ((bt s st.pos : Int) = 116) ↔ bt s st.pos = 116 := by omega
        simp only [e1, e2]
        by_cases h1 : bt s st.pos = 110
        · simp only [h1, if_true]; exact ⟨trivial, rfl, hb⟩
        · simp only [h1, if_false]
          by_cases h2 : bt s st.pos = 116
          · simp only [h2, if_true]; exact ⟨trivial, rfl, hb⟩
          · simp only [h2, if_false]
            by_cases h3 : inT (bt s st.pos : Int) ⟨#[92, 46, 91, 93, 40, 41, 123, 125, 124, 63, 42, 43, 94, 36, 45, 47]⟩ = true
            · simp only [h3, if_true]; exact ⟨trivial, rfl, hb⟩
            · simp only [h3]
              rw [if_neg (by simp), if_neg (by simp), fail_new _ (by exact hb)]
              exact ⟨by simp, rfl, by simp [St.step]⟩
      · unfold St.escaped cEsc
        simp only [next_end s st hb (by omega), inT_neg, hp, if_false]
        simp [St.fail]
        omega
  · rw [escaped_bad s st hb]
    exact ⟨rfl, hpos, fun _ => ⟨rfl, rfl⟩, fun h => absurd h hb⟩
theorem member_bad (h : st.bad ≠ 0) : st.member s = (0, st) := by
  unfold St.member
  simp [next_bad s st h]
  omega
theorem member_rel (hpos : st.pos ≤ s.size) : Rel s (cMem s st.pos) st (st.member s).1 (st.member s).2 := by
  by_cases hb : st.bad = 0
  · by_cases hp : st.pos < s.size
    · have e1 : ((bt s st.pos : Int) = 93) ↔ bt s st.pos = 93 := by omega
      have e2 : ((bt s st.pos : Int) = 92) ↔ bt s st.pos = 92 := by omega
      unfold St.member cMem
      simp only [next_ok s st hb hp, hp, if_true, e1, e2]
      by_cases h3 : bt s st.pos = 93
      · simp only [h3, if_true]
        rw [fail_new _ (by exact hb)]
        refine ⟨rfl, by simp [St.step]; omega, fun h => absurd hb h, fun _ => ⟨by simp, rfl, by simp [St.step]⟩⟩
      · simp only [h3, if_false]
        by_cases h2 : bt s st.pos = 92
        · simp only [h2, if_true]
          have := escaped_rel s (st.step 1) (show st.pos + 1 ≤ s.size by omega)
          exact this
        · simp only [h2, if_false]
          refine ⟨rfl, by simp [St.step]; omega, fun h => absurd hb h, fun _ => ⟨by omega, rfl, hb⟩⟩
    · unfold St.member cMem
      simp only [next_end s st hb (by omega), hp, if_false]
      refine ⟨rfl, hpos, fun h => absurd hb h, fun _ => ?_⟩
      simp
      omega
  · rw [member_bad s st hb]
    exact ⟨rfl, hpos, fun _ => ⟨rfl, rfl⟩, fun h => absurd h hb⟩
theorem number_bad (h : st.bad ≠ 0) : st.number s = (0, st) := by
  unfold St.number
  simp [next_bad s st h, fail_keep st h]
theorem number_rel (hpos : st.pos ≤ s.size) : Rel s (cNum s st.pos) st (st.number s).1 (st.number s).2 := by
  by_cases hb : st.bad = 0
  · by_cases hp : st.pos < s.size
    · unfold St.number cNum
      simp only [next_ok s st hb hp]
      by_cases hd : isD s st.pos = true
      · have hd' := hd
        simp [isD] at hd'
        have hx : ¬ ((bt s st.pos : Int) < 48 ∨ 57 < (bt s st.pos : Int)) := by omega
        rw [if_pos hd]
        simp only [hx, if_false]
        by_cases hd2 : isD s (st.pos + 1) = true
        · have hd3 := hd2
          simp [isD] at hd3
          rw [peek_ok s (st.step 1) hb (by simp [St.step]; omega), if_pos hd2]
          have hy : (48 ≤ (bt s (st.step 1).pos : Int) ∧ (bt s (st.step 1).pos : Int) ≤ 57) := by simp only [St.step]; omega
          rw [if_pos hy]
          refine ⟨rfl, by simp [St.step]; omega, fun h => absurd hb h, fun _ => ⟨by simp only [St.step]; omega, rfl, hb⟩⟩
        · have hd3 : ¬ (48 ≤ (st.step 1).peek s ∧ (st.step 1).peek s ≤ 57) := by
            by_cases hp2 : st.pos + 1 < s.size
            · rw [peek_ok s (st.step 1) hb (by simpa [St.step] using hp2)]
              simp [isD, hp2] at hd2
              simp only [St.step]
              omega
            · rw [peek_end s (st.step 1) hb (by simp [St.step]; omega)]
              omega
          rw [if_neg hd2, if_neg hd3]
          refine ⟨rfl, by simp [St.step]; omega, fun h => absurd hb h, fun _ => ⟨rfl, rfl, hb⟩⟩
      · have hd' := hd
        simp [isD, hp] at hd'
        have hx : (bt s st.pos : Int) < 48 ∨ 57 < (bt s st.pos : Int) := by omega
        rw [if_neg hd, if_pos hx, fail_new _ (by exact hb)]
        refine ⟨rfl, by simp [St.step]; omega, fun h => absurd hb h, fun _ => ⟨by simp, rfl, by simp [St.step]⟩⟩
    · unfold St.number cNum
      simp only [next_end s st hb (by omega)]
      have hd : ¬ isD s st.pos = true := by simp [isD, hp]
      rw [if_neg hd, if_pos (by omega)]
      refine ⟨rfl, hpos, fun h => absurd hb h, fun _ => ?_⟩
      simp [St.fail]
      omega
  · rw [number_bad s st hb]
    exact ⟨rfl, hpos, fun _ => ⟨rfl, rfl⟩, fun h => absurd h hb⟩

theorem wide_eq (hb : st.bad = 0) : st.wideHere s = cWide s st.pos := by
  unfold St.wideHere cWide
  congr 1
  congr 1
  rw [Bool.eq_iff_iff, ← peek_isB s st hb 92]
  simp
theorem item_bad (h : st.bad ≠ 0) : st.item s = (rangeP 0 0, st) := by
  unfold St.item St.wideHere
  simp [peek_bad s st h, member_bad s st h]
theorem item_rel (hpos : st.pos ≤ s.size) : Rel s (cItem s st.pos) st (st.item s).1 (st.item s).2 := by
  by_cases hb : st.bad = 0
  · unfold St.item cItem
    rw [wide_eq s st hb]
    by_cases hw : cWide s st.pos = true
    · rw [if_pos hw, if_pos hw]
      simp [cWide] at hw
      exact ⟨rfl, by simp [St.step]; omega, fun h => absurd hb h, fun _ => ⟨rfl, rfl, hb⟩⟩
    · rw [if_neg hw, if_neg hw]
      have hm := member_rel s st hpos
      have hbd := member_bd s st
      revert hm hbd
      generalize (st.member s).1 = lo
      generalize (st.member s).2 = st1
      generalize cMem s st.pos = o
      rintro ⟨m1, m2, m3, m4⟩ hbd
      replace m4 := m4 hb
      match o, m4 with
      | .error (c, q), m4 =>
        have hz : st1.bad ≠ 0 := by rw [m4.2.1]; exact m4.1
        simp only [thenR, peek_bad s st1 hz]
        exact ⟨m1, m2, fun h => absurd hb h, fun _ => m4⟩
      | .ok (x, p), m4 =>
        obtain ⟨rfl, rfl, hz⟩ := m4
        simp only [thenR]
        by_cases h45 : isB s st1.pos 45 = true
        · have hp := (peek_isB s st1 hz 45).2 h45
          have hlt := isB_lt h45
          rw [if_pos h45, if_pos (show st1.peek s = 45 from hp)]
          have hm := member_rel s (st1.step 1) (show st1.pos + 1 ≤ s.size by omega)
          revert hm
          rw [show (st1.step 1).pos = st1.pos + 1 from rfl]
          generalize ((st1.step 1).member s).1 = hi
          generalize ((st1.step 1).member s).2 = st3
          generalize cMem s (st1.pos + 1) = o
          rintro ⟨n1, n2, n3, n4⟩
          replace n4 := n4 hz
          match o, n4 with
          | .error (c, q), n4 =>
            have hz3 : st3.bad ≠ 0 := by rw [n4.2.1]; exact n4.1
            simp only [fail_keep st3 hz3, ite_self]
            exact ⟨n1.trans m1, n2, fun h => absurd hb h, fun _ => n4⟩
          | .ok (y, p), n4 =>
            obtain ⟨rfl, rfl, hz3⟩ := n4
            by_cases hlo : hi < lo
            · simp only [hlo, if_true]
              rw [fail_new _ hz3]
              exact ⟨n1.trans m1, n2, fun h => absurd hb h, fun _ => ⟨by simp, rfl, rfl⟩⟩
            · simp only [hlo, if_false]
              exact ⟨n1.trans m1, n2, fun h => absurd hb h, fun _ => ⟨rfl, rfl, hz3⟩⟩
        · have hp : ¬ (st1.peek s = 45) := fun h => h45 ((peek_isB s st1 hz 45).1 (by simpa using h))
          rw [if_neg h45, if_neg hp]
          exact ⟨m1, m2, fun h => absurd hb h, fun _ => ⟨rfl, rfl, hz⟩⟩
  · rw [item_bad s st hb]
    exact ⟨rfl, hpos, fun _ => ⟨rfl, rfl⟩, fun h => absurd h hb⟩
end
end Go.Proofs.Ytnkopcmkanibhaa

/-
  A loop of the document's own reader, held against the grammar's loop: how far it is. No program; no statement of its own.
-/
namespace Go.Proofs.Ytnkopcmkanibhaa
open Go

/-- m rounds at most are to come; what is told in the end is what the rest of the loop tells. -/
def Going {α : Type} (s : ByteArray) (o : R α) (step : α → Nat → Option (R α)) (st : St) (m : Nat) (a : α) (st2 : St) : Prop :=
  st2.opn = st.opn ∧ st2.pos ≤ s.size ∧
  ((st2.bad = 0 ∧ st.bad = 0 ∧ o = loopR step m a st2.pos ∧ s.size + 1 - st2.pos ≤ m) ∨
   (st2.bad ≠ 0 ∧ m = 0 ∧ (st.bad ≠ 0 → st2.bad = st.bad ∧ st2.spot = st.spot) ∧ (st.bad = 0 → o = .error (st2.bad, st2.spot))))

section
variable {α β : Type} {s : ByteArray} {o : R α} {step : α → Nat → Option (R α)} {st st2 st3 : St} {m : Nat} {a a' : α} {r : R α}
theorem Rel.opn {b : β} {r : R β} (h : Rel s r st b st2) : st2.opn = st.opn := h.1
theorem Rel.pos {b : β} {r : R β} (h : Rel s r st b st2) : st2.pos ≤ s.size := h.2.1
theorem Rel.bad {b : β} {r : R β} (h : Rel s r st b st2) (hb : st.bad ≠ 0) : st2.bad ≠ 0 := by have := h.2.2.1 hb; omega
theorem Rel.cases {b : β} {r : R β} (h : Rel s r st b st2) (hb : st.bad = 0) : (st2.bad = 0 ∧ r = .ok (b, st2.pos)) ∨ (st2.bad ≠ 0 ∧ r = .error (st2.bad, st2.spot)) := by
  have h4 := h.2.2.2 hb
  match r, h4 with
  | .ok (x, p), h4 => obtain ⟨rfl, rfl, hz⟩ := h4; exact .inl ⟨hz, rfl⟩
  | .error (c, q), h4 => obtain ⟨hc, rfl, rfl⟩ := h4; exact .inr ⟨hc, rfl⟩
theorem Rel.mk0 {b : β} {r : R β} (h1 : st2.opn = st.opn) (h2 : st2.pos ≤ s.size) (h3 : st.bad ≠ 0 → st2.bad = st.bad ∧ st2.spot = st.spot) (h4 : st.bad = 0 → (st2.bad = 0 ∧ r = .ok (b, st2.pos)) ∨ (st2.bad ≠ 0 ∧ r = .error (st2.bad, st2.spot))) : Rel s r st b st2 := by
  refine ⟨h1, h2, h3, fun hb => ?_⟩
  rcases h4 hb with ⟨hz, rfl⟩ | ⟨hz, rfl⟩
  · exact ⟨rfl, rfl, hz⟩
  · exact ⟨hz, rfl, rfl⟩

/-- One thing behind the other. -/
theorem Rel.then {b : β} {r : R β} {f : β → Nat → R α} (h : Rel s r st b st2) (hz : st2.bad ≠ 0 → st3.bad = st2.bad ∧ st3.spot = st2.spot ∧ st3.opn = st2.opn ∧ st3.pos ≤ s.size) (hf : st.bad = 0 → st2.bad = 0 → Rel s (f b st2.pos) st2 a st3) : Rel s (thenR r f) st a st3 := by
  by_cases hb : st.bad = 0
  · rcases h.cases hb with ⟨h1, h2⟩ | ⟨h1, h2⟩
    · have := hf hb h1
      refine Rel.mk0 (this.opn.trans h.opn) this.pos (fun h => absurd hb h) fun _ => ?_
      rw [h2]
      exact this.cases h1
    · have := hz h1
      refine Rel.mk0 (this.2.2.1.trans h.opn) this.2.2.2 (fun h => absurd hb h) fun _ => ?_
      rw [h2]
      exact .inr ⟨by omega, by rw [this.1, this.2.1]; rfl⟩
  · have h1 := h.bad hb
    have := hz h1
    have h3 := h.2.2.1 hb
    exact Rel.mk0 (this.2.2.1.trans h.opn) this.2.2.2 (fun _ => ⟨by omega, by omega⟩) (fun h => absurd h hb)
theorem Going.start {b : β} {r : R β} {f : β → α} (h : Rel s r st b st2) : Going s (thenR r fun b p => loopR step (s.size + 1) (f b) p) step st (if st2.bad = 0 then s.size + 1 else 0) (f b) st2 := by
  refine ⟨h.opn, h.pos, ?_⟩
  by_cases hb : st.bad = 0
  · rcases h.cases hb with ⟨h1, h2⟩ | ⟨h1, h2⟩
    · left
      rw [if_pos h1, h2]
      exact ⟨h1, hb, rfl, by omega⟩
    · right
      rw [if_neg h1, h2]
      exact ⟨h1, rfl, fun h => absurd hb h, fun _ => rfl⟩
  · right
    rw [if_neg (h.bad hb)]
    exact ⟨h.bad hb, rfl, h.2.2.1, fun h => absurd h hb⟩
theorem Going.on (h : Going s o step st m a st2) (hb : st2.bad = 0) (hs : step a st2.pos = some r) (hr : Rel s r st2 a' st3) (hf : Fwd s st2.pos r) :
    (if st3.bad = 0 then m - 1 else 0) < m ∧ Going s o step st (if st3.bad = 0 then m - 1 else 0) a' st3 := by
  obtain ⟨h1, h2, ⟨_, h4, h5, h6⟩ | ⟨h3, _⟩⟩ := h
  · have hm : 0 < m := by omega
    obtain ⟨k, rfl⟩ : ∃ k, m = k + 1 := ⟨m - 1, by omega⟩
    unfold loopR at h5
    rw [hs] at h5
    refine ⟨by split <;> omega, hr.opn.trans h1, hr.pos, ?_⟩
    rcases hr.cases hb with ⟨h7, h8⟩ | ⟨h7, h8⟩
    · left
      rw [if_pos h7]
      rw [h8] at h5 hf
      have := hf.1
      exact ⟨h7, h4, h5, by omega⟩
    · right
      rw [if_neg h7]
      rw [h8] at h5
      exact ⟨h7, rfl, fun h => absurd h4 h, fun _ => h5⟩
  · exact absurd hb h3
theorem Going.stop (h : Going s o step st m a st2) (hs : st2.bad = 0 → step a st2.pos = none) : Rel s o st a st2 := by
  obtain ⟨h1, h2, ⟨h3, h4, h5, h6⟩ | ⟨h3, h4, h5, h6⟩⟩ := h
  · obtain ⟨k, rfl⟩ : ∃ k, m = k + 1 := ⟨m - 1, by omega⟩
    unfold loopR at h5
    rw [hs h3] at h5
    exact Rel.mk0 h1 h2 (fun h => absurd h4 h) fun _ => .inl ⟨h3, h5⟩
  · exact Rel.mk0 h1 h2 h5 fun h => .inr ⟨h3, h6 h⟩
theorem Rel.swap {b : β} {r r' : R β} (h : Rel s r st b st2) (he : st.bad = 0 → r = r') : Rel s r' st b st2 :=
  ⟨h.1, h.2.1, h.2.2.1, fun hb => by rw [← he hb]; exact h.2.2.2 hb⟩
theorem Rel.from {b : β} {r : R β} (h : Rel s r st3 b st2) (h1 : st3.opn = st.opn) (h2 : st3.bad = st.bad) (h3 : st3.spot = st.spot) : Rel s r st b st2 :=
  ⟨h.1.trans h1, h.2.1, fun hb => by have := h.2.2.1 (by rw [h2]; exact hb); rw [← h2, ← h3]; exact this, fun hb => h.2.2.2 (by rw [h2]; exact hb)⟩
theorem Going.opn (h : Going s o step st m a st2) : st2.opn = st.opn := h.1
theorem Going.pos (h : Going s o step st m a st2) : st2.pos ≤ s.size := h.2.1
theorem Going.bad0 (h : Going s o step st m a st2) (hb : st2.bad = 0) : st.bad = 0 := by
  obtain ⟨h1, h2, ⟨h3, h4, h5, h6⟩ | ⟨h3, h4, h5, h6⟩⟩ := h
  · exact h4
  · exact absurd hb h3
end

end Go.Proofs.Ytnkopcmkanibhaa

/-
  The document's own reader of patterns: class, One: what they do, held against the grammar. Contracts for other texts; no statement of its own.
-/
namespace Go.Proofs.Ytnkopcmkanibhaa
open Go Go.RowKit
attribute [local go_sem ↓] Go.wp_at_zero Go.wp_at_succ

/-- A set is told, and the reader is where the grammar says. -/
def RetSet (w : World) (g : Nat) (s : ByteArray) (o : R (Nat → Bool)) (st : St) (e : Ending) (w' : World) : Prop :=
  ∃ q st', e = .returned (setV q) ∧ Rdr w' g s st' ∧ w.grownBy w' (some g) ∧ Rel s o st q st'

/-- What is told behind the items. -/
theorem class_end (s : ByteArray) (st st2 : St) (T0 : R (Nat → Bool)) (q : Nat → Bool) (hr : Rel s T0 st q st2) (h93 : st2.bad = 0 → isB s st2.pos 93 = true) (neg : Bool) :
    Rel s (thenR T0 fun q p => .ok (if neg = true then notP q else q, p + 1)) st (if neg = true then notP q else q) (st2.next s).2 := by
  refine hr.then (fun h => ?_) fun _ h => ?_
  · rw [next_bad s st2 h]
    exact ⟨rfl, rfl, rfl, hr.pos⟩
  · have := isB_lt (h93 h)
    rw [next_ok s st2 h this.1]
    exact Rel.mk0 rfl (show st2.pos + 1 ≤ s.size by omega) (fun h' => absurd h h') fun _ => .inl ⟨h, rfl⟩

set_option maxRecDepth 20000 in
set_option maxHeartbeats 4000000 in
theorem class_p (w : World) (g : Nat) (s : ByteArray) (st : St) (h : Rdr w g s st) (hs : s.size ≤ 1000) (hpos : st.pos ≤ s.size) :
    Calls Try.prog 91 #[.pointer (some ⟨g, 0, none⟩)] w (RetSet w g s (cClass s st.pos) st) := by
  have b0 := Box4.new0 w
  have r0 := h.alloc (.cells #[.int .u64 0, .int .u64 0, .int .u64 0, .int .u64 0] 72)
  have hO : w.grownBy (w.alloc (.cells #[.int .u64 0, .int .u64 0, .int .u64 0, .int .u64 0] 72)) (some g) := only_alloc (only_refl _ _) _
  have hgw := h.lt
  have hgb : w.heap.size ≠ g := by omega
  generalize hw0 : w.alloc (.cells #[.int .u64 0, .int .u64 0, .int .u64 0, .int .u64 0] 72) = w0 at *
  have HW := Lib.hid hw0
  clear hw0
  obtain ⟨neg, hneg⟩ : ∃ neg, (st.peek s == 94) = neg := ⟨_, rfl⟩
  have HN : Hid (st.bad = 0 → neg = isB s st.pos 94) := by
    intro hb
    rw [← hneg, Bool.eq_iff_iff, ← peek_isB s st hb 94]
    simp
  obtain ⟨st1, hst1⟩ : ∃ st1, st1 = if neg = true then st.step 1 else st := ⟨_, rfl⟩
  have hp1 : st1.pos ≤ s.size := by
    rw [hst1]
    split
    · have := peek_pos s st (by simp_all)
      exact this.2
    · exact hpos
  have HS := Lib.hid hst1
  obtain ⟨c0, c1, c2, c3, c4⟩ := r0.cell
  obtain ⟨f0, f1, f2, f3, f4⟩ := r0.frozen
  go_enter Try.func91, Try.ntmps91
  go_wp2_with fail
  rw [HW.out]
  clear HW hst1
  go_upto_if 8 with (go_at_call 83; (with_reducible refine (peek_p _ g s st r0 hs).mono ?_); rintro e w1 ⟨rfl, n, rfl⟩)
  go_cut [3] (fun s3 wx => s3 = .bool neg ∧ Rdr wx g s st1 ∧ Box4 wx w.heap.size noneP ∧ w.grownBy wx (some g))
  case first =>
    cases neg
    · go_wp2_with fail
      go_meet
      exact ⟨rfl, by rw [HS.out, if_neg (by simp)]; exact r0.drewN _, b0, only_drewN hO _⟩
    · have hpk := (peek_pos s st (by simp at hneg; omega)).2
      go_wp2_with fail
      go_meet
      exact ⟨rfl, by rw [HS.out, if_pos (by simp)]; exact r0.setPos (st.pos + 1), b0.far hgb _, only_drewN (only_set hO _) _⟩
  case rest =>
  clear r0 b0 hO c0 c1 c2 c3 c4 f0 f1 f2 f3 f4 hneg
  obtain ⟨rfl, r0, b0, hO⟩ := hcut
  have hir := (item_rel s st1 hp1).from (st := st) (by rw [HS.out]; split <;> rfl) (by rw [HS.out]; split <;> rfl) (by rw [HS.out]; split <;> rfl)
  have HI := Lib.hid (item_p wc g s st1 r0 hs hp1)
  have HC : Hid (st.bad = 0 → thenR (thenR (cItem s st1.pos) fun b p => loopR (clsStep s) (s.size + 1) b p) (fun q p => .ok (if neg = true then notP q else q, p + 1)) = cClass s st.pos) := by
    intro hb
    have hn := HN.out hb
    rw [HS.out, hn]
    unfold cClass
    split <;> rfl
  generalize (st1.item s).1 = q1 at *
  generalize (st1.item s).2 = st2 at *
  have hgo := Lib.hid (Going.start (step := clsStep s) (f := id) hir)
  generalize hm0 : (if st2.bad = 0 then s.size + 1 else 0) = m0 at hgo
  clear hir hm0 HN HS
  simp only [id] at hgo
  go_wp2_with (go_at_call 97; (with_reducible refine (HI.out).mono ?_); rintro e w2 ⟨rfl, r2, o2⟩; unfold setV)
  have bk := Box4.new w2 q1
  replace r2 := r2.alloc (.cells #[.int .u64 (word q1 0), .int .u64 (word q1 1), .int .u64 (word q1 2), .int .u64 (word q1 3)] 72)
  have b2 := (b0.grown o2 (by simpa using hgb)).alloc (.cells #[.int .u64 (word q1 0), .int .u64 (word q1 1), .int .u64 (word q1 2), .int .u64 (word q1 3)] 72)
  have hO2 := only_alloc (only_trans hO o2) (.cells #[.int .u64 (word q1 0), .int .u64 (word q1 1), .int .u64 (word q1 2), .int .u64 (word q1 3)] 72)
  have hbx : w.heap.size ≠ w2.heap.size := by have := (b0.grown o2 (by simpa using hgb)).lt; omega
  have hgx : g ≠ w2.heap.size := by have := o2.size; have := r0.lt; omega
  have hnx : w.heap.size ≤ w2.heap.size := Nat.le_trans hO.size o2.size
  generalize w2.alloc (.cells #[.int .u64 (word q1 0), .int .u64 (word q1 1), .int .u64 (word q1 2), .int .u64 (word q1 3)] 72) = w3 at *
  generalize w2.heap.size = gx at *
  clear HI r0 b0 hO o2
  go_loopg [] m0 (fun m wr => ∃ q st2, Rdr wr g s st2 ∧ Box4 wr w.heap.size noneP ∧ Box4 wr gx q ∧ w.grownBy wr (some g) ∧ Going s (thenR (cItem s st1.pos) fun b p => loopR (clsStep s) (s.size + 1) b p) (clsStep s) st m q st2)
  case atStart => exact ⟨q1, st2, r2, b2, bk, hO2, hgo.out⟩
  case round =>
    clear r2 b2 bk hO2 hgo
    obtain ⟨q, st2, r2, b2, bk, hO2, hgo⟩ := hrel
    have hp2 := hgo.pos
    by_cases hround : st2.bad = 0 ∧ ¬ st2.peek s = 93
    · obtain ⟨hb, hpk⟩ := hround
      have h93 : ¬ isB s st2.pos 93 = true := fun h => hpk ((peek_isB s st2 hb 93).2 h)
      have hst : clsStep s q st2.pos = some (thenR (cItem s st2.pos) fun r p => .ok (orP q r, p)) := by unfold clsStep; rw [if_neg h93]
      have hi := item_rel s st2 hp2
      have HI := Lib.hid (fun w h => item_p w g s st2 h hs hp2)
      have HF := Lib.hid (clsStep_fwd s q st2.pos _ hst)
      generalize (st2.item s).1 = q3 at *
      generalize (st2.item s).2 = st3 at *
      have hre : Rel s (thenR (cItem s st2.pos) fun r p => .ok (orP q r, p)) st2 (orP q q3) st3 := hi.then (fun h => ⟨rfl, rfl, rfl, hi.pos⟩) fun _ h => Rel.mk0 rfl hi.pos (fun h' => absurd h h') fun _ => .inl ⟨h, rfl⟩
      have HG := Lib.hid (hgo.on hb hst hre HF.out)
      have hpk' : (st2.peek s != 93) = true := by simpa using hpk
      have hb' : (st2.bad == 0) = true := by simpa using hb
      clear hgo hst hi hre HF hpk h93 hb
      obtain ⟨c0, c1, c2, c3, c4⟩ := r2.cell
      obtain ⟨k0, k1, k2, k3⟩ := bk.cell
      go_wp2_with (go_at_call 83; (with_reducible refine (peek_p _ g s st2 r2 hs).mono ?_); rintro e w1 ⟨rfl, n, rfl⟩)
      replace r2 := r2.drewN n
      replace b2 : Box4 (wr.drewN n) w.heap.size noneP := b2
      replace bk : Box4 (wr.drewN n) gx q := bk
      replace hO2 := only_drewN hO2 n
      generalize wr.drewN n = w4 at *
      clear k0 k1 k2 k3 c0 c1 c2 c3 c4
      obtain ⟨k0, k1, k2, k3⟩ := bk.cell
      have hgx' : some gx ≠ some g := by simpa using Ne.symm hgx
      have hgb' : some w.heap.size ≠ some g := by simpa using hgb
      go_region_law (first
        | (go_simp; go_at_call 97; (with_reducible refine (HI.out _ (by first | exact r2.drew | exact r2)).mono ?_); rintro e w5 ⟨rfl, r5, o5⟩; unfold setV; have bk5 := (show Box4 w4.drew gx q from bk).grown o5 hgx'; have b5 := (show Box4 w4.drew w.heap.size noneP from b2).grown o5 hgb'; have hO5 := only_trans (only_drew hO2) o5; obtain ⟨l0, l1, l2, l3⟩ := bk5.cell)
        | (go_simp; go_at_call 98; (with_reducible refine (ror_p q q3 _).mono ?_); rintro e w6 ⟨rfl, hb6⟩; unfold setV; have r6 := r5.stays hb6; have bk6 := bk5.stays hb6; have b6 := b5.stays hb6; have hO6 := only_below hO5 hb6; obtain ⟨m0, m1, m2, m3⟩ := bk6.cell; obtain ⟨y0, y1, y2, y3⟩ := bk6.frozen))
      all_goals
        go_wp2
        go_roundg (if st3.bad = 0 then gk - 1 else 0)
        case measure => exact HG.out.1
        case rel => exact ⟨orP q q3, st3, r6.put4 hgx (orP q q3), b6.putFar hbx (orP q q3), bk6.put (orP q q3), only_put4 hO6 hnx (orP q q3), HG.out.2⟩
    · have hx : st2.bad = 0 → isB s st2.pos 93 = true := fun hb => (peek_isB s st2 hb 93).1 (Classical.not_not.1 fun h => hround ⟨hb, h⟩)
      have hre := class_end s st st2 _ q (hgo.stop fun hb => by unfold clsStep; rw [if_pos (hx hb)]) hx neg
      have HRE := Lib.hid (hre.swap HC.out)
      have HNX := Lib.hid (fun w h => next_p w g s st2 h hs)
      generalize (st2.next s).2 = st3 at *
      generalize (st2.next s).1 = c at *
      clear hre hx hgo HC
      obtain ⟨c0, c1, c2, c3, c4⟩ := r2.cell
      by_cases hb : st2.bad = 0
      · have hb' : (st2.bad == 0) = true := by simpa using hb
        have hpk' : (st2.peek s != 93) = false := by simpa using Classical.not_not.1 fun h => hround ⟨hb, h⟩
        clear hb hround
        cases neg
        · go_wp2_with (first
            | (go_at_call 83; (with_reducible refine (peek_p _ g s st2 r2 hs).mono ?_); rintro e w1 ⟨rfl, n, rfl⟩)
            | (go_at_call 87; (with_reducible refine (HNX.out _ (r2.drewN n)).mono ?_); rintro e w5 ⟨rfl, r5, o5⟩; have bk5 := (show Box4 (wr.drewN n) gx q from bk).grown o5 (by simpa using Ne.symm hgx); have b5 := (show Box4 (wr.drewN n) w.heap.size noneP from b2).grown o5 (by simpa using hgb); have hO5 := only_trans (only_drewN hO2 n) o5; obtain ⟨l0, l1, l2, l3⟩ := bk5.cell; obtain ⟨m0, m1, m2, m3⟩ := b5.cell; obtain ⟨y0, y1, y2, y3⟩ := b5.frozen))
          refine bodyPost_ret (v := setV q) ?_ rfl ⟨q, st3, rfl, ?_, ?_, ?_⟩
          · unfold setV
            simp [results, Try.results91, go_sem, m0, m1, m2, m3]
          · exact r5.put4 (Ne.symm hgb) q
          · exact only_put4 hO5 (Nat.le_refl _) q
          · simpa using HRE.out
        · go_wp2_with (first
            | (go_at_call 83; (with_reducible refine (peek_p _ g s st2 r2 hs).mono ?_); rintro e w1 ⟨rfl, n, rfl⟩)
            | (go_at_call 87; (with_reducible refine (HNX.out _ (r2.drewN n)).mono ?_); rintro e w5 ⟨rfl, r5, o5⟩; have bk5 := (show Box4 (wr.drewN n) gx q from bk).grown o5 (by simpa using Ne.symm hgx); have b5 := (show Box4 (wr.drewN n) w.heap.size noneP from b2).grown o5 (by simpa using hgb); have hO5 := only_trans (only_drewN hO2 n) o5; obtain ⟨l0, l1, l2, l3⟩ := bk5.cell)
            | (go_at_call 92; (with_reducible refine (rnot_p q _).mono ?_); rintro e w6 ⟨rfl, hb6⟩; unfold setV; have r6 := r5.stays hb6; have b6 := b5.stays hb6; have hO6 := only_below hO5 hb6; obtain ⟨m0, m1, m2, m3⟩ := b6.cell; obtain ⟨y0, y1, y2, y3⟩ := b6.frozen))
          refine bodyPost_ret (v := setV (notP q)) ?_ rfl ⟨notP q, st3, rfl, ?_, ?_, ?_⟩
          · unfold setV
            simp [results, Try.results91, go_sem, m0, m1, m2, m3]
          · exact r6.put4 (Ne.symm hgb) (notP q)
          · exact only_put4 hO6 (Nat.le_refl _) (notP q)
          · simpa using HRE.out
      · have hb' : (st2.bad == 0) = false := by simpa using hb
        clear hb hround
        cases neg
        · go_wp2_with (first
            | (go_at_call 87; (with_reducible refine (HNX.out _ r2).mono ?_); rintro e w5 ⟨rfl, r5, o5⟩; have bk5 := bk.grown o5 (by simpa using Ne.symm hgx); have b5 := b2.grown o5 (by simpa using hgb); have hO5 := only_trans hO2 o5; obtain ⟨l0, l1, l2, l3⟩ := bk5.cell; obtain ⟨m0, m1, m2, m3⟩ := b5.cell; obtain ⟨y0, y1, y2, y3⟩ := b5.frozen))
          refine bodyPost_ret (v := setV q) ?_ rfl ⟨q, st3, rfl, ?_, ?_, ?_⟩
          · unfold setV
            simp [results, Try.results91, go_sem, m0, m1, m2, m3]
          · exact r5.put4 (Ne.symm hgb) q
          · exact only_put4 hO5 (Nat.le_refl _) q
          · simpa using HRE.out
        · go_wp2_with (first
            | (go_at_call 87; (with_reducible refine (HNX.out _ r2).mono ?_); rintro e w5 ⟨rfl, r5, o5⟩; have bk5 := bk.grown o5 (by simpa using Ne.symm hgx); have b5 := b2.grown o5 (by simpa using hgb); have hO5 := only_trans hO2 o5; obtain ⟨l0, l1, l2, l3⟩ := bk5.cell)
            | (go_at_call 92; (with_reducible refine (rnot_p q _).mono ?_); rintro e w6 ⟨rfl, hb6⟩; unfold setV; have r6 := r5.stays hb6; have b6 := b5.stays hb6; have hO6 := only_below hO5 hb6; obtain ⟨m0, m1, m2, m3⟩ := b6.cell; obtain ⟨y0, y1, y2, y3⟩ := b6.frozen))
          refine bodyPost_ret (v := setV (notP q)) ?_ rfl ⟨notP q, st3, rfl, ?_, ?_, ?_⟩
          · unfold setV
            simp [results, Try.results91, go_sem, m0, m1, m2, m3]
          · exact r6.put4 (Ne.symm hgb) (notP q)
          · exact only_put4 hO6 (Nat.le_refl _) (notP q)
          · simpa using HRE.out

end Go.Proofs.Ytnkopcmkanibhaa

/-
  The document's own reader of patterns: One, many; one kid more in a row. Contracts for other texts; no statement of its own.
-/
namespace Go.Proofs.Ytnkopcmkanibhaa
open Go Go.RowKit
attribute [local go_sem ↓] Go.wp_at_zero Go.wp_at_succ

/-- One kid more. -/
theorem row_push {w : World} {B : Nat} {v : Value} {l : List T} (h : Row w B v l) (hB : B ≤ w.heap.size) (hl : l.length ≤ 100000) (t : T) (k : Value) (ht : Tree w (fun b => B ≤ b ∧ some b ≠ v.ownBlock) t k)
    (ty : TypeId) (ad : Addr) (c : Nat) (hc : ∀ (j : Nat) u, (nodeC t k)[j]? = some u → w.cell? (ad.add j) = some u) :
    ∃ v' w', (Builtin.append_ #[73, 73] ty #[v, .slice (some ad) 1 c]).run Try.prog w = .ok v' w' ∧ Row w' B v' (l ++ [t]) ∧ w.grownBy w' v.ownBlock ∧ B ≤ w'.heap.size := by
  obtain ⟨ks, h1, h2, h3⟩ := h
  obtain ⟨i0, hi, hz0, hz1, hz2⟩ := info_parts Try.infoNode
  obtain ⟨v', w', hr, h4, h5, _, h6⟩ := run_append_own_at (P := Try.prog) w B 73 ty 75 i0 _ 8 80 Try.underlying73 hi hz0 hz1 hz2 rfl (by decide) v l.length (cellsOf l ks) h2 ad 1 c (nodeC t k) rfl hc
    (by
      intro u hu
      simp [nodeC] at hu
      rcases hu with rfl | rfl | rfl | rfl | rfl | rfl | rfl | rfl
      all_goals first | rfl | exact ht.one) (by unfold maxLen; omega) (by omega) hB
  refine ⟨v', w', hr, ⟨ks ++ [k], by simp [h1], ?_, fun i t' k' e1 e2 => ?_⟩, h5, Nat.le_trans hB h5.size⟩
  · rw [cellsOf_app l ks t k h1]
    simpa using h4
  · have hkeep : ∀ t' k', Tree w (fun b => B ≤ b ∧ some b ≠ v.ownBlock) t' k' → Tree w' (fun b => B ≤ b ∧ some b ≠ v'.ownBlock) t' k' := by
      intro t' k' h
      refine h.mono fun b hb hlt _ => ⟨h5.block b hlt hb.2, hb.1, ?_⟩
      rcases h6 with h6 | h6
      · rw [h6]; exact hb.2
      · rw [h6]; simp; omega
    by_cases hi : i < l.length
    · rw [List.getElem?_append_left hi] at e1
      rw [List.getElem?_append_left (by omega)] at e2
      exact hkeep _ _ (h3 i t' k' e1 e2)
    · rw [List.getElem?_append_right (by omega)] at e1
      rw [List.getElem?_append_right (by omega)] at e2
      have hi' : i = l.length := by
        have := List.getElem?_eq_some_iff.1 e1
        simp at this
        omega
      subst hi'
      simp [h1] at e1 e2
      subst e1 e2
      exact hkeep _ _ ht

/-- At the list of a plain region's operations. -/
theorem wpList_push {w : World} {ops : Array Oper} {rest : List Oper} {o : Oper} {a : Act} {Q : Exit → Act → World → Prop} (hgd : o.guard = none) (s x : Operand)
    (ho : o.op = .call { callee := .builtin .append, args := #[s, x], argTypes := #[73, 73] })
    {B : Nat} {v : Value} {l : List T} (hs : a.eval s = v) (h : Row w B v l) (hB : B ≤ w.heap.size) (hl : l.length ≤ 100000) (t : T) (k : Value) (ht : Tree w (fun b => B ≤ b ∧ some b ≠ v.ownBlock) t k)
    (ad : Addr) (c : Nat) (hx : a.eval x = .slice (some ad) 1 c) (hc : ∀ (j : Nat) u, (nodeC t k)[j]? = some u → w.cell? (ad.add j) = some u)
    (hk : ∀ v' w', Row w' B v' (l ++ [t]) → w.grownBy w' v.ownBlock → B ≤ w'.heap.size → wpList Try.prog ops Q rest (a.put o.dst v') w') : wpList Try.prog ops Q (o :: rest) a w := by
  obtain ⟨v', w', hr, h2, h3, h4⟩ := row_push h hB hl t k ht o.type ad c hc
  refine wpList_plain hgd fun _ hK => ?_
  unfold Oper.wp execOp
  simp only [ho, resolve, invoke, builtin, Sem.run_bind, Sem.run_pure, Result.andThen_ok, List.map_toArray, List.map_cons, List.map_nil, hs, hx, hr]
  exact hK _ _ (hk v' w' h2 h3 h4)

set_option maxHeartbeats 400000 in
theorem one_p (p : Nat → Bool) (w : World) :
    Calls Try.prog 90 #[.agg #[.int .u64 (word p 0), .int .u64 (word p 1), .int .u64 (word p 2), .int .u64 (word p 3)]] w fun e w' => e = .returned (nodeV (.one p) (.slice none 0 0)) ∧ Below w.heap.size w w' := by
  go_enter Try.func90, Try.ntmps90
  go_wp2
  refine bodyPost_ret (v := nodeV (.one p) (.slice none 0 0)) ?_ rfl ⟨rfl, ((Below.refl _ _).alloc (Nat.le_refl _) _).alloc (by simp) _⟩
  simp [nodeV, T.one, T.op, T.set, T.lo, T.hi, results, Try.results90, go_sem]

/-- A node is told, in new memory. -/
def RetMany (w : World) (B : Nat) (t : T) (e : Ending) (w' : World) : Prop := ∃ k, e = .returned (nodeV t k) ∧ Tree w' (fun b => B ≤ b) t k ∧ Below w.heap.size w w'

set_option maxHeartbeats 1000000 in
theorem many_p (w : World) (B : Nat) (op : Int) (v : Value) (l : List T) (h : Row w B v l) (h0 : 0 < l.length) :
    Calls Try.prog 84 #[.int .i64 op, v] w (RetMany w B (T.many op l)) := by
  have ht := h.tree h0 op noneP 0 0
  have hh := h
  obtain ⟨ks, h1, h2, h3⟩ := h
  obtain ⟨g, cap, rfl, hB, hg⟩ := h2.form h0
  by_cases hl : l.length = 1
  · obtain ⟨t, rfl⟩ : ∃ t, l = [t] := by
      match l, hl with
      | [t], _ => exact ⟨t, rfl⟩
    obtain ⟨k, rfl⟩ : ∃ k, ks = [k] := by
      match ks, h1 with
      | [k], _ => exact ⟨k, rfl⟩
    have hk := h3 0 t k rfl rfl
    obtain ⟨A, m, c, rfl⟩ := hk.form
    have c0 : w.cell? ⟨g, 0, none⟩ = some (.int .i64 t.op) := h2.cellAt 0 (by simp)
    have c1 : w.cell? ⟨g, 1, none⟩ = some (.int .u64 (word t.set 0)) := h2.cellAt 1 (by simp)
    have c2 : w.cell? ⟨g, 2, none⟩ = some (.int .u64 (word t.set 1)) := h2.cellAt 2 (by simp)
    have c3 : w.cell? ⟨g, 3, none⟩ = some (.int .u64 (word t.set 2)) := h2.cellAt 3 (by simp)
    have c4 : w.cell? ⟨g, 4, none⟩ = some (.int .u64 (word t.set 3)) := h2.cellAt 4 (by simp)
    have c5 : w.cell? ⟨g, 5, none⟩ = some (.int .i64 t.lo) := h2.cellAt 5 (by simp)
    have c6 : w.cell? ⟨g, 6, none⟩ = some (.int .i64 t.hi) := h2.cellAt 6 (by simp)
    have c7 : w.cell? ⟨g, 7, none⟩ = some (.slice A m c) := h2.cellAt 7 (by simp)
    clear h1 h2 h3 hh hl h0 ht
    show Calls Try.prog 84 #[.int .i64 op, .slice (some ⟨g, 0, none⟩) 1 cap] w (RetMany w B t)
    go_enter Try.func84, Try.ntmps84
    go_wp2
    refine bodyPost_ret (v := nodeV t (.slice A m c)) ?_ rfl ⟨_, rfl, ?_, ?_⟩
    · simp [nodeV, results, Try.results84, go_sem]
    · exact (hk.weak fun b hb _ => hb.1).stays ((Below.refl _ _).alloc (Nat.le_refl _) _)
    · exact (Below.refl _ _).alloc (Nat.le_refl _) _
  · have e : T.many op l = .mk op noneP 0 0 l := by
      unfold T.many
      match l, hl with
      | [], _ => rfl
      | _ :: _ :: _, _ => rfl
    rw [e]
    clear e
    have hl' : ((l.length : Int) == 1) = false := by simp; omega
    have hl2 : (l.length == 1) = false := by simp [hl]
    generalize l.length = n at *
    clear h1 h2 h3 hh hl h0
    go_enter Try.func84, Try.ntmps84
    go_wp2
    refine bodyPost_ret (v := nodeV (.mk op noneP 0 0 l) (.slice (some ⟨g, 0, none⟩) n cap)) ?_ rfl ⟨_, rfl, ?_, ?_⟩
    · simp [nodeV, T.op, T.set, T.lo, T.hi, word_none, results, Try.results84, go_sem]
    · exact ht.stays ((Below.refl _ _).alloc (Nat.le_refl _) _)
    · exact (Below.refl _ _).alloc (Nat.le_refl _) _

end Go.Proofs.Ytnkopcmkanibhaa

/-
  The document's own reader of patterns, amid a call that tells a node: what holds of memory, and what is told in the end. Laws for other texts; no statement of its own.
-/
namespace Go.Proofs.Ytnkopcmkanibhaa
open Go Go.RowKit

/-- A node is told, in new memory, and the reader is where the grammar says. -/
def RetNode (w : World) (g : Nat) (s : ByteArray) (o : R T) (st : St) (e : Ending) (w' : World) : Prop :=
  ∃ t k st', e = .returned (nodeV t k) ∧ Tree w' (fun b => w.heap.size ≤ b) t k ∧ Rdr w' g s st' ∧ w.grownBy w' (some g) ∧ Rel s o st t st'

/-- Amid the call: the reader; the box of what will be told; what has turned. -/
structure Mid (w : World) (g : Nat) (s : ByteArray) (st : St) (wx : World) : Prop where
  lt : g < w.heap.size
  rdr : Rdr wx g s st
  box : Box8 wx w.heap.size T.zero (.slice none 0 0)
  only : w.grownBy wx (some g)

section
variable {w wx wy : World} {g : Nat} {s : ByteArray} {st st' : St}
theorem Mid.start (h : Rdr w g s st) : Mid w g s st (w.alloc (.cells #[.int .i64 0, .int .u64 0, .int .u64 0, .int .u64 0, .int .u64 0, .int .i64 0, .int .i64 0, .slice none 0 0] 75)) :=
  ⟨h.lt, h.alloc _, Box8.new0 w, only_alloc (only_refl _ _) _⟩
theorem Mid.next (h : Mid w g s st wx) (o : wx.grownBy wy (some g)) (r : Rdr wy g s st') : Mid w g s st' wy :=
  ⟨h.lt, r, h.box.grown o (by have := h.lt; simp; omega), only_trans h.only o⟩
theorem Mid.below (h : Mid w g s st wx) (hb : Below wx.heap.size wx wy) : Mid w g s st wy := ⟨h.lt, h.rdr.stays hb, h.box.stays hb, only_below h.only hb⟩
theorem Mid.drewN (h : Mid w g s st wx) (n : Nat) : Mid w g s st (wx.drewN n) := ⟨h.lt, h.rdr.drewN n, h.box, only_drewN h.only n⟩
theorem Mid.alloc (h : Mid w g s st wx) (o : Obj) : Mid w g s st (wx.alloc o) := ⟨h.lt, h.rdr.alloc o, h.box.alloc o, only_alloc h.only o⟩
theorem Mid.setPos (h : Mid w g s st wx) (k : Nat) : Mid w g s { st with pos := k } (wx.setCell ⟨g, 1, none⟩ (.int .i64 (k : Int))) := h.next (only_set (only_refl _ _) _) (h.rdr.setPos k)
theorem Mid.setOpn (h : Mid w g s st wx) (k : Int) : Mid w g s { st with opn := k } (wx.setCell ⟨g, 2, none⟩ (.int .i64 k)) := h.next (only_set (only_refl _ _) _) (h.rdr.setOpn k)
theorem Mid.new (h : Mid w g s st wx) : w.heap.size < wx.heap.size := h.box.lt
theorem Mid.put8 (h : Mid w g s st wx) {b : Nat} (hb : w.heap.size < b) (t : T) (k : Value) : Mid w g s st (put8 wx b t k) :=
  ⟨h.lt, h.rdr.put8 (by have := h.lt; omega) t k, h.box.putFar (by omega), only_put8 h.only (by omega) t k⟩
theorem Mid.ret {o : R T} {st0 : St} {t : T} {k : Value} (h : Mid w g s st wx) (ht : Tree wx (fun b => w.heap.size < b) t k) (hr : Rel s o st0 t st) : RetNode w g s o st0 (.returned (nodeV t k)) (Go.Proofs.Ytnkopcmkanibhaa.put8 wx w.heap.size t k) := by
  have := h.lt
  exact ⟨t, k, st, rfl, (ht.put8 fun b hb => by omega).weak fun b hb _ => Nat.le_of_lt hb, h.rdr.put8 (by omega) t k, only_put8 h.only (Nat.le_refl _) t k, hr⟩
/-- Nothing is stored: the node is nothing. -/
theorem Mid.ret0 {o : R T} {st0 : St} (h : Mid w g s st wx) (hr : Rel s o st0 T.zero st) : RetNode w g s o st0 (.returned (nodeV T.zero (.slice none 0 0))) wx :=
  ⟨T.zero, _, st, rfl, .nil _ rfl, h.rdr, h.only, hr⟩
end

theorem memP_one (c : Int) : memP [c] = rangeP c c := by
  funext x
  unfold memP rangeP
  rw [Bool.eq_iff_iff]
  simp
  omega
theorem max_nonneg (c : Int) (h : 0 ≤ c) : max c 0 = c := by omega

end Go.Proofs.Ytnkopcmkanibhaa

/-
  The document's own reader of patterns: atom: what it does, held against the grammar. Contracts for other texts; no statement of its own.
-/
namespace Go.Proofs.Ytnkopcmkanibhaa
open Go Go.RowKit
attribute [local go_sem ↓] Go.wp_at_zero Go.wp_at_succ

/-- The set of one byte. -/
theorem of1_p (c : Int) (w : World) (h0 : 0 ≤ c) (h1 : c ≤ 255) :
    Calls Try.prog 93 #[.slice (some ⟨w.heap.size, 0, none⟩) 1 1] (w.alloc (.cells #[.int .u8 c] 5)) fun e w' => e = .returned (setV (rangeP c c)) ∧ Below w.heap.size w w' := by
  refine (rof_p _ 1 1 [c] _ rfl (rd_new1 w c) (by intro k hk; simp at hk; subst hk; exact ⟨h0, h1⟩) (by simp)).mono ?_
  rintro e w' ⟨rfl, hb⟩
  rw [memP_one]
  exact ⟨rfl, gro1 (Below.refl _ _) hb⟩

theorem escaped_bd (s : ByteArray) (st' : St) : 0 ≤ (st'.escaped s).1 ∧ (st'.escaped s).1 ≤ 255 := by
  have h := next_bd s st'
  unfold St.escaped
  simp only
  split
  · simp
  · split
    · simp
    · split
      · rename_i h3
        have := inT_nonneg _ _ h3
        simp only
        omega
      · simp
theorem next_opn {s : ByteArray} {st st' : St} {c n : Int} (h : st.next s = (c, st')) (hn : st.opn = n) : st'.opn = n := by
  have e : ∀ (x : St) a b, (x.fail a b).opn = x.opn := fun x a b => by unfold St.fail; split <;> rfl
  unfold St.next at h
  split at h
  · injection h with h1 h2; rw [← h2, e]; exact hn
  · injection h with h1 h2; rw [← h2]; exact hn
theorem fail_opn (st : St) (a b : Int) : (st.fail a b).opn = st.opn := by unfold St.fail; split <;> rfl
set_option maxRecDepth 20000 in
set_option maxHeartbeats 2000000 in
theorem atom_else (w : World) (g : Nat) (s : ByteArray) (st : St) (h : Rdr w g s st) (hs : s.size ≤ 1000) (hpos : st.pos ≤ s.size) (o : R T) (c : Int) (st1 : St) (hc : st.next s = (c, st1)) (h1 : c ≠ 40) (h2 : c ≠ 91) (h3 : c ≠ 46) (h4 : c ≠ 92) (h5 : c ≠ 42) (h6 : c ≠ 43) (hi : inT c stopT = false) (hb : -1 ≤ c ∧ c ≤ 255) (hr : Rel s o st (.one (rangeP (max c 0) (max c 0))) st1) :
    Calls Try.prog 86 #[.pointer (some ⟨g, 0, none⟩)] w (RetNode w g s o st) := by
  have mid := Mid.start h
  have HN := Lib.hid (fun w h => next_p w g s st h hs)
  simp only [hc] at HN
  generalize hw0 : w.alloc (.cells #[.int .i64 0, .int .u64 0, .int .u64 0, .int .u64 0, .int .u64 0, .int .i64 0, .int .i64 0, .slice none 0 0] 75) = w0 at mid
  have HW := Lib.hid hw0
  have HR := Lib.hid hr
  clear hw0 hr hc
  have e1 : (c == 40) = false := by simpa using h1
  have e2 : (c == 91) = false := by simpa using h2
  have e3 : (c == 46) = false := by simpa using h3
  have e4 : (c == 92) = false := by simpa using h4
  have e5 : (c == 42) = false := by simpa using h5
  have e6 : (c == 43) = false := by simpa using h6
  clear h1 h2 h3 h4 h5 h6
  unfold stopT at hi
  obtain ⟨m, hm⟩ : ∃ m, max c 0 = m := ⟨_, rfl⟩
  have hm0 : 0 ≤ m ∧ m ≤ 255 := by omega
  rw [hm] at HR
  have hif : (if c < 0 then 0 else c) = m := by split <;> omega
  clear hm
  go_enter Try.func86, Try.ntmps86
  go_wp2_with fail
  rw [HW.out]
  clear HW
  go_wp2_with (first
    | (go_at_call 87; (with_reducible refine (HN.out _ mid.rdr).mono ?_); rintro e w1 ⟨rfl, r1, o1⟩; have mid1 := mid.next o1 r1; obtain ⟨c0, c1, c2, c3, c4⟩ := r1.cell; obtain ⟨f0, f1, f2, f3, f4⟩ := r1.frozen)
    | (go_at_call 96; (with_reducible refine (in_p _ c ⟨#[93, 41, 125, 123, 124, 63, 94, 36]⟩ (by decide)).mono ?_); rintro e w2 ⟨rfl, rfl⟩; rw [hi])
    | (go_at_call 93; (with_reducible refine (of1_p m _ (by omega) (by omega)).mono ?_); rintro e w3 ⟨rfl, hb3⟩; unfold setV; have mid3 := mid1.below hb3)
    | (go_at_call 90; (with_reducible refine (one_p (rangeP m m) _).mono ?_); rintro e w4 ⟨rfl, hb4⟩; unfold nodeV; have mid4 := mid3.below hb4; obtain ⟨m0, m1, m2, m3, m4, m5, m6, m7⟩ := mid4.box.cell; obtain ⟨y0, y1, y2, y3, y4, y5, y6, y7⟩ := mid4.box.frozen))
  refine bodyPost_ret (v := nodeV (.one (rangeP m m)) (.slice none 0 0)) ?_ rfl (mid4.ret (.nil _ rfl) HR.out)
  simp [nodeV, T.one, T.zero, T.op, T.set, T.lo, T.hi, word_none, results, Try.results86, go_sem, m0, m1, m2, m3, m4, m5, m6, m7]

set_option maxRecDepth 20000 in
set_option maxHeartbeats 2000000 in
theorem atom_stop (w : World) (g : Nat) (s : ByteArray) (st : St) (h : Rdr w g s st) (hs : s.size ≤ 1000) (hpos : st.pos ≤ s.size) (o : R T) (c : Int) (st1 : St) (hc : st.next s = (c, st1)) (h1 : c ≠ 40) (h2 : c ≠ 91) (h3 : c ≠ 46) (h4 : c ≠ 92) (h5 : c ≠ 42) (h6 : c ≠ 43) (hi : inT c stopT = true) (hb : 0 ≤ c ∧ c ≤ 255) (hr : Rel s o st (.one (rangeP c c)) (st1.fail ((st1.pos : Int) - 1) 2)) (hp1 : st1.pos ≤ s.size) :
    Calls Try.prog 86 #[.pointer (some ⟨g, 0, none⟩)] w (RetNode w g s o st) := by
  have mid := Mid.start h
  have HN := Lib.hid (fun w h => next_p w g s st h hs)
  simp only [hc] at HN
  generalize hw0 : w.alloc (.cells #[.int .i64 0, .int .u64 0, .int .u64 0, .int .u64 0, .int .u64 0, .int .i64 0, .int .i64 0, .slice none 0 0] 75) = w0 at mid
  have HW := Lib.hid hw0
  have HR := Lib.hid hr
  clear hw0 hr hc
  have e1 : (c == 40) = false := by simpa using h1
  have e2 : (c == 91) = false := by simpa using h2
  have e3 : (c == 46) = false := by simpa using h3
  have e4 : (c == 92) = false := by simpa using h4
  have e5 : (c == 42) = false := by simpa using h5
  have e6 : (c == 43) = false := by simpa using h6
  clear h1 h2 h3 h4 h5 h6
  unfold stopT at hi
  go_enter Try.func86, Try.ntmps86
  go_wp2_with fail
  rw [HW.out]
  clear HW
  go_wp2_with (first
    | (go_at_call 87; (with_reducible refine (HN.out _ mid.rdr).mono ?_); rintro e w1 ⟨rfl, r1, o1⟩; have mid1 := mid.next o1 r1; obtain ⟨c0, c1, c2, c3, c4⟩ := r1.cell; obtain ⟨f0, f1, f2, f3, f4⟩ := r1.frozen)
    | (go_at_call 96; (with_reducible refine (in_p _ c ⟨#[93, 41, 125, 123, 124, 63, 94, 36]⟩ (by decide)).mono ?_); rintro e w2 ⟨rfl, rfl⟩; rw [hi])
    | (go_at_call 89; (with_reducible refine (fail_p _ g s st1 _ _ r1).mono ?_); rintro e w5 ⟨rfl, r5, o5⟩; have mid5 := mid1.next o5 r5)
    | (go_at_call 93; (with_reducible refine (of1_p c _ (by omega) (by omega)).mono ?_); rintro e w3 ⟨rfl, hb3⟩; unfold setV; have mid3 := mid5.below hb3)
    | (go_at_call 90; (with_reducible refine (one_p (rangeP c c) _).mono ?_); rintro e w4 ⟨rfl, hb4⟩; unfold nodeV; have mid4 := mid3.below hb4; obtain ⟨m0, m1, m2, m3, m4, m5, m6, m7⟩ := mid4.box.cell; obtain ⟨y0, y1, y2, y3, y4, y5, y6, y7⟩ := mid4.box.frozen))
  refine bodyPost_ret (v := nodeV (.one (rangeP c c)) (.slice none 0 0)) ?_ rfl (mid4.ret (.nil _ rfl) HR.out)
  simp [nodeV, T.one, T.zero, T.op, T.set, T.lo, T.hi, word_none, results, Try.results86, go_sem, m0, m1, m2, m3, m4, m5, m6, m7]

set_option maxRecDepth 20000 in
set_option maxHeartbeats 2000000 in
theorem atom_star (w : World) (g : Nat) (s : ByteArray) (st : St) (h : Rdr w g s st) (hs : s.size ≤ 1000) (hpos : st.pos ≤ s.size) (o : R T) (c : Int) (st1 : St) (hc : st.next s = (c, st1)) (h5 : c = 42 ∨ c = 43) (hr : Rel s o st (.one (rangeP c c)) (st1.fail ((st1.pos : Int) - 1) 3)) (hp1 : st1.pos ≤ s.size) :
    Calls Try.prog 86 #[.pointer (some ⟨g, 0, none⟩)] w (RetNode w g s o st) := by
  have mid := Mid.start h
  have HN := Lib.hid (fun w h => next_p w g s st h hs)
  simp only [hc] at HN
  generalize hw0 : w.alloc (.cells #[.int .i64 0, .int .u64 0, .int .u64 0, .int .u64 0, .int .u64 0, .int .i64 0, .int .i64 0, .slice none 0 0] 75) = w0 at mid
  have HW := Lib.hid hw0
  have HR := Lib.hid hr
  clear hw0 hr hc
  have hi : inT c ⟨#[93, 41, 125, 123, 124, 63, 94, 36]⟩ = false := by rcases h5 with rfl | rfl <;> decide
  rcases h5 with rfl | rfl
  all_goals
    go_enter Try.func86, Try.ntmps86
    go_wp2_with fail
    rw [HW.out]
    clear HW
    go_wp2_with (first
      | (go_at_call 87; (with_reducible refine (HN.out _ mid.rdr).mono ?_); rintro e w1 ⟨rfl, r1, o1⟩; have mid1 := mid.next o1 r1; obtain ⟨c0, c1, c2, c3, c4⟩ := r1.cell; obtain ⟨f0, f1, f2, f3, f4⟩ := r1.frozen)
      | (go_at_call 96; (with_reducible refine (in_p _ _ ⟨#[93, 41, 125, 123, 124, 63, 94, 36]⟩ (by decide)).mono ?_); rintro e w2 ⟨rfl, rfl⟩; rw [hi])
      | (go_at_call 89; (with_reducible refine (fail_p _ g s st1 _ _ r1).mono ?_); rintro e w5 ⟨rfl, r5, o5⟩; have mid5 := mid1.next o5 r5)
      | (go_at_call 93; (with_reducible refine (of1_p _ _ (by omega) (by omega)).mono ?_); rintro e w3 ⟨rfl, hb3⟩; unfold setV; have mid3 := mid5.below hb3)
      | (go_at_call 90; (with_reducible refine (one_p _ _).mono ?_); rintro e w4 ⟨rfl, hb4⟩; unfold nodeV; have mid4 := mid3.below hb4; obtain ⟨m0, m1, m2, m3, m4, m5, m6, m7⟩ := mid4.box.cell; obtain ⟨y0, y1, y2, y3, y4, y5, y6, y7⟩ := mid4.box.frozen))
    refine bodyPost_ret (v := nodeV (.one (rangeP _ _)) (.slice none 0 0)) ?_ rfl (mid4.ret (.nil _ rfl) HR.out)
    simp [nodeV, T.one, T.zero, T.op, T.set, T.lo, T.hi, word_none, results, Try.results86, go_sem, m0, m1, m2, m3, m4, m5, m6, m7]

set_option maxRecDepth 20000 in
set_option maxHeartbeats 2000000 in
theorem atom_dot (w : World) (g : Nat) (s : ByteArray) (st : St) (h : Rdr w g s st) (hs : s.size ≤ 1000) (hpos : st.pos ≤ s.size) (o : R T) (st1 : St) (hc : st.next s = (46, st1)) (hr : Rel s o st (.one (notP (rangeP 10 10))) st1) :
    Calls Try.prog 86 #[.pointer (some ⟨g, 0, none⟩)] w (RetNode w g s o st) := by
  have mid := Mid.start h
  have HN := Lib.hid (fun w h => next_p w g s st h hs)
  simp only [hc] at HN
  generalize hw0 : w.alloc (.cells #[.int .i64 0, .int .u64 0, .int .u64 0, .int .u64 0, .int .u64 0, .int .i64 0, .int .i64 0, .slice none 0 0] 75) = w0 at mid
  have HW := Lib.hid hw0
  have HR := Lib.hid hr
  clear hw0 hr hc
  go_enter Try.func86, Try.ntmps86
  go_wp2_with fail
  rw [HW.out]
  clear HW
  go_wp2_with (first
    | (go_at_call 87; (with_reducible refine (HN.out _ mid.rdr).mono ?_); rintro e w1 ⟨rfl, r1, o1⟩; have mid1 := mid.next o1 r1; obtain ⟨c0, c1, c2, c3, c4⟩ := r1.cell; obtain ⟨f0, f1, f2, f3, f4⟩ := r1.frozen)
    | (go_at_call 93; (with_reducible refine (of1_p 10 _ (by omega) (by omega)).mono ?_); rintro e w3 ⟨rfl, hb3⟩; unfold setV; have mid3 := mid1.below hb3)
    | (go_at_call 92; (with_reducible refine (rnot_p (rangeP 10 10) _).mono ?_); rintro e w5 ⟨rfl, hb5⟩; unfold setV; have mid5 := mid3.below hb5)
    | (go_at_call 90; (with_reducible refine (one_p (notP (rangeP 10 10)) _).mono ?_); rintro e w4 ⟨rfl, hb4⟩; unfold nodeV; have mid4 := mid5.below hb4; obtain ⟨m0, m1, m2, m3, m4, m5, m6, m7⟩ := mid4.box.cell; obtain ⟨y0, y1, y2, y3, y4, y5, y6, y7⟩ := mid4.box.frozen))
  refine bodyPost_ret (v := nodeV (.one (notP (rangeP 10 10))) (.slice none 0 0)) ?_ rfl (mid4.ret (.nil _ rfl) HR.out)
  simp [nodeV, T.one, T.zero, T.op, T.set, T.lo, T.hi, word_none, results, Try.results86, go_sem, m0, m1, m2, m3, m4, m5, m6, m7]

set_option maxRecDepth 20000 in
set_option maxHeartbeats 2000000 in
theorem atom_class (w : World) (g : Nat) (s : ByteArray) (st : St) (h : Rdr w g s st) (hs : s.size ≤ 1000) (hpos : st.pos ≤ s.size) (o : R T) (st1 : St) (hc : st.next s = (91, st1)) (hr : ∀ q st2, Rel s (cClass s st1.pos) st1 q st2 → Rel s o st (.one q) st2) (hp1 : st1.pos ≤ s.size) :
    Calls Try.prog 86 #[.pointer (some ⟨g, 0, none⟩)] w (RetNode w g s o st) := by
  have mid := Mid.start h
  have HN := Lib.hid (fun w h => next_p w g s st h hs)
  simp only [hc] at HN
  generalize hw0 : w.alloc (.cells #[.int .i64 0, .int .u64 0, .int .u64 0, .int .u64 0, .int .u64 0, .int .i64 0, .int .i64 0, .slice none 0 0] 75) = w0 at mid
  have HW := Lib.hid hw0
  have HR := Lib.hid hr
  clear hw0 hr hc
  go_enter Try.func86, Try.ntmps86
  go_wp2_with fail
  rw [HW.out]
  clear HW
  go_wp2_with (first
    | (go_at_call 87; (with_reducible refine (HN.out _ mid.rdr).mono ?_); rintro e w1 ⟨rfl, r1, o1⟩; have mid1 := mid.next o1 r1; obtain ⟨c0, c1, c2, c3, c4⟩ := r1.cell; obtain ⟨f0, f1, f2, f3, f4⟩ := r1.frozen)
    | (go_at_call 91; (with_reducible refine (class_p _ g s st1 mid1.rdr hs hp1).mono ?_); rintro e w3 ⟨q, st2, rfl, r3, o3, hq⟩; replace HR := Lib.hid (HR.out q st2 hq); unfold setV; have mid3 := mid1.next o3 r3)
    | (go_at_call 90; (with_reducible refine (one_p q _).mono ?_); rintro e w4 ⟨rfl, hb4⟩; unfold nodeV; have mid4 := mid3.below hb4; obtain ⟨m0, m1, m2, m3, m4, m5, m6, m7⟩ := mid4.box.cell; obtain ⟨y0, y1, y2, y3, y4, y5, y6, y7⟩ := mid4.box.frozen))
  refine bodyPost_ret (v := nodeV (.one q) (.slice none 0 0)) ?_ rfl (mid4.ret (.nil _ rfl) HR.out)
  simp [nodeV, T.one, T.zero, T.op, T.set, T.lo, T.hi, word_none, results, Try.results86, go_sem, m0, m1, m2, m3, m4, m5, m6, m7]

set_option maxRecDepth 20000 in
set_option maxHeartbeats 2000000 in
theorem atom_esc (w : World) (g : Nat) (s : ByteArray) (st : St) (h : Rdr w g s st) (hs : s.size ≤ 1000) (hpos : st.pos ≤ s.size) (o : R T) (st1 : St) (hc : st.next s = (92, st1)) (hw : isWide (st1.peek s) = false) (hr : Rel s o st (.one (rangeP (st1.escaped s).1 (st1.escaped s).1)) (st1.escaped s).2) (hp1 : st1.pos ≤ s.size) :
    Calls Try.prog 86 #[.pointer (some ⟨g, 0, none⟩)] w (RetNode w g s o st) := by
  have mid := Mid.start h
  have HN := Lib.hid (fun w h => next_p w g s st h hs)
  simp only [hc] at HN
  generalize hw0 : w.alloc (.cells #[.int .i64 0, .int .u64 0, .int .u64 0, .int .u64 0, .int .u64 0, .int .i64 0, .int .i64 0, .slice none 0 0] 75) = w0 at mid
  have HW := Lib.hid hw0
  have HR := Lib.hid hr
  clear hw0 hr hc
  have hbd : 0 ≤ (st1.escaped s).1 ∧ (st1.escaped s).1 ≤ 255 := escaped_bd s st1
  have HE := Lib.hid (fun w h => escaped_p w g s st1 h hs hp1)
  generalize (st1.escaped s).1 = b at *
  generalize (st1.escaped s).2 = st2 at *
  go_enter Try.func86, Try.ntmps86
  go_wp2_with fail
  rw [HW.out]
  clear HW
  go_wp2_with (first
    | (go_at_call 87; (with_reducible refine (HN.out _ mid.rdr).mono ?_); rintro e w1 ⟨rfl, r1, o1⟩; have mid1 := mid.next o1 r1; obtain ⟨c0, c1, c2, c3, c4⟩ := r1.cell; obtain ⟨f0, f1, f2, f3, f4⟩ := r1.frozen)
    | (go_at_call 83; (with_reducible refine (peek_p _ g s st1 r1 hs).mono ?_); rintro e w2 ⟨rfl, n, rfl⟩; have mid2 := mid1.drewN n)
    | (go_at_call 94; (with_reducible refine (wide_p _ _).mono ?_); rintro e w3 ⟨rfl, hb3⟩; rw [hw]; unfold setV; have mid3 := mid2.below hb3)
    | (go_at_call 95; (with_reducible refine (HE.out _ (mid3.alloc _).rdr).mono ?_); rintro e w5 ⟨rfl, r5, o5⟩; have mid5 := (mid3.alloc _).next o5 r5)
    | (go_at_call 93; (with_reducible refine (of1_p b _ (by omega) (by omega)).mono ?_); rintro e w6 ⟨rfl, hb6⟩; unfold setV; have mid6 := mid5.below hb6)
    | (go_at_call 90; (with_reducible refine (one_p (rangeP b b) _).mono ?_); rintro e w4 ⟨rfl, hb4⟩; unfold nodeV; have mid4 := mid6.below hb4; obtain ⟨m0, m1, m2, m3, m4, m5, m6, m7⟩ := mid4.box.cell; obtain ⟨y0, y1, y2, y3, y4, y5, y6, y7⟩ := mid4.box.frozen))
  refine bodyPost_ret (v := nodeV (.one (rangeP b b)) (.slice none 0 0)) ?_ rfl (mid4.ret (.nil _ rfl) HR.out)
  simp [nodeV, T.one, T.zero, T.op, T.set, T.lo, T.hi, word_none, results, Try.results86, go_sem, m0, m1, m2, m3, m4, m5, m6, m7]

set_option maxRecDepth 20000 in
set_option maxHeartbeats 2000000 in
theorem atom_wide (w : World) (g : Nat) (s : ByteArray) (st : St) (h : Rdr w g s st) (hs : s.size ≤ 1000) (hpos : st.pos ≤ s.size) (o : R T) (st1 : St) (hc : st.next s = (92, st1)) (hw : isWide (st1.peek s) = true) (hr : Rel s o st (.one (wideP (st1.peek s))) (st1.step 1)) (hp1 : st1.pos < s.size) :
    Calls Try.prog 86 #[.pointer (some ⟨g, 0, none⟩)] w (RetNode w g s o st) := by
  have mid := Mid.start h
  have HN := Lib.hid (fun w h => next_p w g s st h hs)
  simp only [hc] at HN
  generalize hw0 : w.alloc (.cells #[.int .i64 0, .int .u64 0, .int .u64 0, .int .u64 0, .int .u64 0, .int .i64 0, .int .i64 0, .slice none 0 0] 75) = w0 at mid
  have HW := Lib.hid hw0
  have HR := Lib.hid hr
  clear hw0 hr hc
  go_enter Try.func86, Try.ntmps86
  go_wp2_with fail
  rw [HW.out]
  clear HW
  go_wp2_with (first
    | (go_at_call 87; (with_reducible refine (HN.out _ mid.rdr).mono ?_); rintro e w1 ⟨rfl, r1, o1⟩; have mid1 := mid.next o1 r1; obtain ⟨c0, c1, c2, c3, c4⟩ := r1.cell; obtain ⟨f0, f1, f2, f3, f4⟩ := r1.frozen)
    | (go_at_call 83; (with_reducible refine (peek_p _ g s st1 r1 hs).mono ?_); rintro e w2 ⟨rfl, n, rfl⟩; have mid2 := mid1.drewN n)
    | (go_at_call 94; (with_reducible refine (wide_p _ _).mono ?_); rintro e w3 ⟨rfl, hb3⟩; rw [hw]; unfold setV; have mid3 := mid2.below hb3; obtain ⟨k0, k1, k2, k3, k4⟩ := mid3.rdr.cell; obtain ⟨l0, l1, l2, l3, l4⟩ := mid3.rdr.frozen; have hg3 := mid3.rdr.lt; have hg4 : g ≠ w3.heap.size := by omega)
    | (go_at_call 90; (with_reducible refine (one_p (wideP (st1.peek s)) _).mono ?_); rintro e w4 ⟨rfl, hb4⟩; unfold nodeV; have mid4 := ((mid3.setPos (st1.pos + 1)).alloc _).below hb4; obtain ⟨m0, m1, m2, m3, m4, m5, m6, m7⟩ := mid4.box.cell; obtain ⟨y0, y1, y2, y3, y4, y5, y6, y7⟩ := mid4.box.frozen))
  refine bodyPost_ret (v := nodeV (.one (wideP (st1.peek s))) (.slice none 0 0)) ?_ rfl (mid4.ret (.nil _ rfl) HR.out)
  simp [nodeV, T.one, T.zero, T.op, T.set, T.lo, T.hi, word_none, results, Try.results86, go_sem, m0, m1, m2, m3, m4, m5, m6, m7]

set_option maxRecDepth 20000 in
set_option maxHeartbeats 2000000 in
theorem atom_full (w : World) (g : Nat) (s : ByteArray) (st : St) (h : Rdr w g s st) (hs : s.size ≤ 1000) (hpos : st.pos ≤ s.size) (o : R T) (st1 : St) (hc : st.next s = (40, st1)) (h20 : st1.opn = 20) (hr : Rel s o st T.zero (st1.fail ((st1.pos : Int) - 1) 4)) (hp1 : st1.pos ≤ s.size) :
    Calls Try.prog 86 #[.pointer (some ⟨g, 0, none⟩)] w (RetNode w g s o st) := by
  have mid := Mid.start h
  have HN := Lib.hid (fun w h => next_p w g s st h hs)
  simp only [hc] at HN
  generalize hw0 : w.alloc (.cells #[.int .i64 0, .int .u64 0, .int .u64 0, .int .u64 0, .int .u64 0, .int .i64 0, .int .i64 0, .slice none 0 0] 75) = w0 at mid
  have HW := Lib.hid hw0
  have HR := Lib.hid hr
  clear hw0 hr hc
  have h20' : (st1.opn == 20) = true := by simpa using h20
  clear h20
  go_enter Try.func86, Try.ntmps86
  go_wp2_with fail
  rw [HW.out]
  clear HW
  go_wp2_with (first
    | (go_at_call 87; (with_reducible refine (HN.out _ mid.rdr).mono ?_); rintro e w1 ⟨rfl, r1, o1⟩; have mid1 := mid.next o1 r1; obtain ⟨c0, c1, c2, c3, c4⟩ := r1.cell; obtain ⟨f0, f1, f2, f3, f4⟩ := r1.frozen)
    | (go_at_call 89; (with_reducible refine (fail_p _ g s st1 _ _ r1).mono ?_); rintro e w5 ⟨rfl, r5, o5⟩; have mid5 := mid1.next o5 r5; obtain ⟨m0, m1, m2, m3, m4, m5, m6, m7⟩ := mid5.box.cell; obtain ⟨y0, y1, y2, y3, y4, y5, y6, y7⟩ := mid5.box.frozen))
  refine bodyPost_ret (v := nodeV T.zero (.slice none 0 0)) ?_ rfl (mid5.ret (.nil _ rfl) HR.out)
  simp [nodeV, T.one, T.zero, T.op, T.set, T.lo, T.hi, word_none, results, Try.results86, go_sem, m0, m1, m2, m3, m4, m5, m6, m7]

end Go.Proofs.Ytnkopcmkanibhaa
