/-
  The document's own reader of patterns: next, in, escaped, member, number: what they do, as functions of the reader's state. Contracts for other texts; no statement of its own.
-/
import Derived.Test.YtpiieonlbfhbaaaRefRd
set_option linter.unusedVariables false
set_option linter.unusedSimpArgs false
namespace Go.Proofs.Ytpiieonlbfhbaaa
open Go Go.RowKit

theorem peek_bd (s : ByteArray) (st : St) : -1 ≤ st.peek s ∧ st.peek s ≤ 255 := by
  have := bt_lt s st.pos
  unfold St.peek
  split <;> omega
theorem peek_pos (s : ByteArray) (st : St) (h : 0 ≤ st.peek s) : st.bad = 0 ∧ st.pos < s.size := by
  unfold St.peek at h
  split at h
  · omega
  · omega

set_option maxHeartbeats 400000 in
theorem next_p (w : World) (g : Nat) (s : ByteArray) (st : St) (h : Rdr w g s st) (hs : s.size ≤ 1000) :
    Calls Try.prog 33 #[.pointer (some ⟨g, 0, none⟩)] w fun e w' => e = .returned (.int .i64 (st.next s).1) ∧ Rdr w' g s (st.next s).2 ∧ w.grownBy w' (some g) := by
  obtain ⟨c0, c1, c2, c3, c4⟩ := h.cell
  obtain ⟨f0, f1, f2, f3, f4⟩ := h.frozen
  have hbd := peek_bd s st
  by_cases hn : st.peek s < 0
  · have e : st.next s = (-1, st.fail s.size 2) := by unfold St.next; rw [if_pos hn]
    rw [e]
    clear e
    go_enter Try.func33, Try.ntmps33
    go_wp2_with (first
      | (go_at_call 23; (with_reducible refine (peek_p _ g s st h hs).mono ?_); rintro e w1 ⟨rfl, n, rfl⟩)
      | (go_at_call 35; (with_reducible refine (fail_p _ g s st _ _ (h.drewN _)).mono ?_); rintro e w2 ⟨rfl, hr, ho⟩))
    go_ret
    exact ⟨rfl, hr, only_trans (only_drewN (only_refl _ _) _) ho⟩
  · have hp := peek_pos s st (by omega)
    have e : st.next s = (st.peek s, st.step 1) := by unfold St.next; rw [if_neg hn]
    rw [e]
    clear e
    have hp1 := hp.2
    clear hp
    go_enter Try.func33, Try.ntmps33
    go_wp2_with (go_at_call 23; (with_reducible refine (peek_p _ g s st h hs).mono ?_); rintro e w1 ⟨rfl, n, rfl⟩)
    go_ret
    refine ⟨rfl, ?_, ?_⟩
    · exact h.setPos (st.pos + 1)
    · exact only_drewN (only_set (only_refl _ _) _) _

theorem wrap64_byte (b : UInt8) : wrap64 (b.toNat : Int) = (b.toNat : Int) := by
  have := UInt8.toNat_lt b
  unfold wrap64
  omega

/-- Does a byte stand in a text? -/
def inT (c : Int) (s : ByteArray) : Bool := s.data.toList.any fun b => (b.toNat : Int) == c
theorem inT_nonneg (c : Int) (s : ByteArray) (h : inT c s = true) : 0 ≤ c := by
  unfold inT at h
  rw [List.any_eq_true] at h
  obtain ⟨b, _, hb⟩ := h
  have : (b.toNat : Int) = c := by simpa using hb
  omega
def inUpto (c : Int) (s : ByteArray) (k : Nat) : Bool := (s.data.toList.take k).any fun b => (b.toNat : Int) == c

set_option maxHeartbeats 400000 in
theorem in_p (w : World) (c : Int) (s : ByteArray) (hs : s.size ≤ 1000) :
    Calls Try.prog 52 #[.int .i64 c, .string s] w fun e w' => e = .returned (.bool (inT c s)) ∧ w = w' := by
  go_enter Try.func52, Try.ntmps52
  go_wp2
  go_loop [5] (fun i => ∃ k : Nat, k ≤ s.size ∧ i = .int .i64 k ∧ inUpto c s k = false) (fun i => s.size - (intOf i).toNat)
  case atStart => exact ⟨0, Nat.zero_le _, rfl, by simp [inUpto]⟩
  case round =>
    obtain ⟨k, hk, rfl, hin⟩ := hrel
    have HI := Lib.hid hin
    clear hin
    by_cases hlt : k < s.size
    · by_cases he : ((s[k]'hlt).toNat : Int) = c
      · have he' : (wrap64 ((s[k]'hlt).toNat : Int) == c) = true := by rw [wrap64_byte]; simp [he]
        have HE := Lib.hid he
        clear he
        go_wp2
        go_ret
        refine ⟨congrArg Ending.returned (congrArg Value.bool ?_), rfl⟩
        symm
        unfold inT
        rw [List.any_eq_true]
        rw [wrap64_byte] at he'
        exact ⟨s[k]'hlt, by simp [ByteArray.getElem_eq_getElem_data], he'⟩
      · have he' : (wrap64 ((s[k]'hlt).toNat : Int) == c) = false := by rw [wrap64_byte]; simp [he]
        clear he
        go_wp2
        go_round
        case rel =>
          refine ⟨k + 1, by omega, by go_num, ?_⟩
          have hin := HI.out
          unfold inUpto at *
          rw [List.take_succ_eq_append_getElem (by simpa using hlt), List.any_append, hin]
          rw [wrap64_byte] at he'
          simpa [ByteArray.getElem_eq_getElem_data] using he'
        case measure => simp [intOf]; omega
    · go_wp2
      go_ret
      refine ⟨congrArg Ending.returned (congrArg Value.bool ?_), rfl⟩
      have hin := HI.out
      unfold inUpto at hin
      unfold inT
      rw [List.take_of_length_le (by simp; omega)] at hin
      exact hin.symm

namespace St
/-- The byte behind a backslash, and where the reader is then. -/
def escaped (s : ByteArray) (st : St) : Int × St :=
  let c := (st.next s).1
  let st1 := (st.next s).2
  if c = 110 then (10, st1) else if c = 116 then (9, st1) else
  if inT c ⟨#[92, 46, 91, 93, 40, 41, 123, 125, 124, 63, 42, 43, 94, 36, 45, 47]⟩ = true then (c, st1) else (0, st1.fail ((st1.pos : Int) - 1) 2)
/-- A byte of an item. -/
def member (s : ByteArray) (st : St) : Int × St :=
  let c := (st.next s).1
  let st1 := (st.next s).2
  let st2 := if c = 93 then st1.fail ((st1.pos : Int) - 1) 2 else st1
  if c = 92 then st2.escaped s else (max c 0, st2)
/-- One digit, or two. -/
def number (s : ByteArray) (st : St) : Int × St :=
  let c := (st.next s).1
  let st1 := (st.next s).2
  if c < 48 ∨ 57 < c then (0, st1.fail ((st1.pos : Int) - 1) 2) else
  let d := st1.peek s
  if 48 ≤ d ∧ d ≤ 57 then (10 * (c - 48) + d - 48, st1.step 1) else (c - 48, st1)
end St

theorem next_bd (s : ByteArray) (st : St) : -1 ≤ (st.next s).1 ∧ (st.next s).1 ≤ 255 := by
  have := peek_bd s st
  unfold St.next
  split <;> simp <;> omega
theorem next_pos (s : ByteArray) (st : St) (h : st.pos ≤ s.size) : (st.next s).2.pos ≤ s.size ∧ st.pos ≤ (st.next s).2.pos := by
  by_cases hn : st.peek s < 0
  · have e : st.next s = (-1, st.fail s.size 2) := by unfold St.next; rw [if_pos hn]
    rw [e]
    unfold St.fail
    split <;> simp <;> omega
  · have hp := peek_pos s st (by omega)
    have e : st.next s = (st.peek s, st.step 1) := by unfold St.next; rw [if_neg hn]
    rw [e]
    simp [St.step]
    omega
theorem fail_pos (st : St) (a b : Int) : (st.fail a b).pos = st.pos := by unfold St.fail; split <;> rfl

set_option maxHeartbeats 400000 in
theorem escaped_p (w : World) (g : Nat) (s : ByteArray) (st : St) (h : Rdr w g s st) (hs : s.size ≤ 1000) (hpos : st.pos ≤ s.size) :
    Calls Try.prog 51 #[.pointer (some ⟨g, 0, none⟩)] w fun e w' => e = .returned (.int .u8 (st.escaped s).1) ∧ Rdr w' g s (st.escaped s).2 ∧ w.grownBy w' (some g) := by
  have hbd := next_bd s st
  have hps := next_pos s st hpos
  have hnot : ∀ (x : Bool) (w : World), (Op.unary .not (.bool x)).run Try.prog w = .ok (.bool (!x)) w := fun _ _ => rfl
  have HN := Lib.hid (next_p w g s st h hs)
  generalize hc : (st.next s).1 = c at *
  generalize h1 : (st.next s).2 = st1 at *
  have HE : Hid (st.escaped s = if c = 110 then (10, st1) else if c = 116 then (9, st1) else if inT c ⟨#[92, 46, 91, 93, 40, 41, 123, 125, 124, 63, 42, 43, 94, 36, 45, 47]⟩ = true then (c, st1) else (0, st1.fail ((st1.pos : Int) - 1) 2)) := by
    unfold St.escaped
    rw [hc, h1]
    exact rfl
  clear hc h1
  by_cases e1 : c = 110
  · have hE := HE.out
    rw [if_pos e1] at hE
    rw [hE]
    clear hE HE
    have e1' : (c == 110) = true := by simp [e1]
    clear e1
    go_enter Try.func51, Try.ntmps51
    go_wp2_with (go_at_call 33; (with_reducible refine (HN.out).mono ?_); rintro e w1 ⟨rfl, hr, ho⟩)
    go_ret
    exact ⟨rfl, hr, ho⟩
  · have e1' : (c == 110) = false := by simp [e1]
    have hE := HE.out
    rw [if_neg e1] at hE
    clear e1 HE
    by_cases e2 : c = 116
    · rw [if_pos e2] at hE
      rw [hE]
      clear hE
      have e2' : (c == 116) = true := by simp [e2]
      clear e2
      go_enter Try.func51, Try.ntmps51
      go_wp2_with (go_at_call 33; (with_reducible refine (HN.out).mono ?_); rintro e w1 ⟨rfl, hr, ho⟩)
      go_ret
      exact ⟨rfl, hr, ho⟩
    · have e2' : (c == 116) = false := by simp [e2]
      rw [if_neg e2] at hE
      clear e2
      have HI := Lib.hid (fun w => in_p w c ⟨#[92, 46, 91, 93, 40, 41, 123, 125, 124, 63, 42, 43, 94, 36, 45, 47]⟩ (by decide))
      generalize hi : inT c ⟨#[92, 46, 91, 93, 40, 41, 123, 125, 124, 63, 42, 43, 94, 36, 45, 47]⟩ = i at *
      have HI2 := Lib.hid hi
      clear hi
      cases i with
      | true =>
        rw [if_pos rfl] at hE
        rw [hE]
        clear hE
        have c0 : 0 ≤ c := inT_nonneg _ _ HI2.out
        go_enter Try.func51, Try.ntmps51
        go_wp2_with (first
          | (go_at_call 33; (with_reducible refine (HN.out).mono ?_); rintro e w1 ⟨rfl, hr, ho⟩)
          | (go_at_call 52; (with_reducible refine (HI.out _).mono ?_); rintro e w2 ⟨rfl, rfl⟩))
        go_ret
        exact ⟨rfl, hr, ho⟩
      | false =>
        rw [if_neg (by simp)] at hE
        rw [hE]
        clear hE
        go_enter Try.func51, Try.ntmps51
        go_wp2_with (first
          | (go_at_call 33; (with_reducible refine (HN.out).mono ?_); rintro e w1 ⟨rfl, hr, ho⟩; obtain ⟨k0, k1, k2, k3, k4⟩ := hr.cell)
          | (go_at_call 52; (with_reducible refine (HI.out _).mono ?_); rintro e w2 ⟨rfl, rfl⟩)
          | (go_at_call 35; (with_reducible refine (fail_p _ g s st1 _ _ hr).mono ?_); rintro e w3 ⟨rfl, hr3, ho3⟩))
        go_ret
        exact ⟨rfl, hr3, only_trans ho ho3⟩

end Go.Proofs.Ytpiieonlbfhbaaa
