/-
  The document's own reader of patterns: member, number, Digits, Words, wide: what they do, as functions of the reader's state. Contracts for other texts; no statement of its own.
-/
import Derived.Test.YtpiieonlbfhbaaaRefRd2
import Derived.Test.YtpiieonlbfhbaaaRefSet3
set_option linter.unusedVariables false
set_option linter.unusedSimpArgs false
namespace Go.Proofs.Ytpiieonlbfhbaaa
open Go Go.RowKit

theorem escaped_pos (s : ByteArray) (st : St) (h : st.pos ≤ s.size) : (st.escaped s).2.pos ≤ s.size ∧ st.pos ≤ (st.escaped s).2.pos := by
  have := next_pos s st h
  unfold St.escaped
  simp only
  split
  · exact this
  · split
    · exact this
    · split
      · exact this
      · rw [fail_pos]; exact this

set_option maxHeartbeats 400000 in
theorem member_p (w : World) (g : Nat) (s : ByteArray) (st : St) (h : Rdr w g s st) (hs : s.size ≤ 1000) (hpos : st.pos ≤ s.size) :
    Calls Try.prog 67 #[.pointer (some ⟨g, 0, none⟩)] w fun e w' => e = .returned (.int .u8 (st.member s).1) ∧ Rdr w' g s (st.member s).2 ∧ w.grownBy w' (some g) := by
  have hbd := next_bd s st
  have hps := next_pos s st hpos
  have HN := Lib.hid (next_p w g s st h hs)
  generalize hc : (st.next s).1 = c at *
  generalize h1 : (st.next s).2 = st1 at *
  have HE : Hid (st.member s = if c = 92 then (if c = 93 then st1.fail ((st1.pos : Int) - 1) 2 else st1).escaped s else (max c 0, if c = 93 then st1.fail ((st1.pos : Int) - 1) 2 else st1)) := by
    show St.member s st = _
    unfold St.member
    simp only [hc, h1]
  clear hc h1
  by_cases e1 : c = 93
  · have hE := HE.out
    rw [if_neg (by omega), if_pos e1] at hE
    rw [hE, e1]
    clear hE HE
    have e1' : (c == 93) = true := by simp [e1]
    have e2' : (c == 92) = false := by simp [e1]
    have hc : (max c 0) = 93 := by omega
    go_enter Try.func67, Try.ntmps67
    go_wp2_with (first
      | (go_at_call 33; (with_reducible refine (HN.out).mono ?_); rintro e w1 ⟨rfl, hr, ho⟩; rw [e1]; obtain ⟨k0, k1, k2, k3, k4⟩ := hr.cell)
      | (go_at_call 35; (with_reducible refine (fail_p _ g s st1 _ _ hr).mono ?_); rintro e w3 ⟨rfl, hr3, ho3⟩))
    go_ret
    exact ⟨rfl, hr3, only_trans ho ho3⟩
  · have e1' : (c == 93) = false := by simp [e1]
    have hE := HE.out
    clear HE
    simp only [if_neg e1] at hE
    by_cases e2 : c = 92
    · rw [if_pos e2] at hE
      rw [hE]
      clear hE
      have e2' : (c == 92) = true := by simp [e2]
      clear e1 e2
      go_enter Try.func67, Try.ntmps67
      go_wp2_with (first
        | (go_at_call 33; (with_reducible refine (HN.out).mono ?_); rintro e w1 ⟨rfl, hr, ho⟩)
        | (go_at_call 51; (with_reducible refine (escaped_p _ g s st1 hr hs hps.1).mono ?_); rintro e w3 ⟨rfl, hr3, ho3⟩))
      go_ret
      exact ⟨rfl, hr3, only_trans ho ho3⟩
    · rw [if_neg e2] at hE
      rw [hE]
      clear hE
      have e2' : (c == 92) = false := by simp [e2]
      clear e1 e2
      by_cases e3 : c < 0
      · have hm : max c 0 = 0 := by omega
        rw [hm]
        go_enter Try.func67, Try.ntmps67
        go_wp2_with (go_at_call 33; (with_reducible refine (HN.out).mono ?_); rintro e w1 ⟨rfl, hr, ho⟩)
        go_ret
        exact ⟨rfl, hr, ho⟩
      · have hm : max c 0 = c := by omega
        rw [hm]
        go_enter Try.func67, Try.ntmps67
        go_wp2_with (go_at_call 33; (with_reducible refine (HN.out).mono ?_); rintro e w1 ⟨rfl, hr, ho⟩)
        go_ret
        exact ⟨rfl, hr, ho⟩

set_option maxHeartbeats 400000 in
theorem number_p (w : World) (g : Nat) (s : ByteArray) (st : St) (h : Rdr w g s st) (hs : s.size ≤ 1000) (hpos : st.pos ≤ s.size) :
    Calls Try.prog 34 #[.pointer (some ⟨g, 0, none⟩)] w fun e w' => e = .returned (.int .i64 (st.number s).1) ∧ Rdr w' g s (st.number s).2 ∧ w.grownBy w' (some g) := by
  have hbd := next_bd s st
  have hps := next_pos s st hpos
  have HN := Lib.hid (next_p w g s st h hs)
  generalize hc : (st.next s).1 = c at *
  generalize h1 : (st.next s).2 = st1 at *
  have HE : Hid (st.number s = if c < 48 ∨ 57 < c then (0, st1.fail ((st1.pos : Int) - 1) 2) else if 48 ≤ st1.peek s ∧ st1.peek s ≤ 57 then (10 * (c - 48) + st1.peek s - 48, st1.step 1) else (c - 48, st1)) := by
    show St.number s st = _
    unfold St.number
    simp only [hc, h1]
  clear hc h1
  have hpd := peek_bd s st1
  have hE := HE.out
  clear HE
  by_cases e1 : c < 48 ∨ 57 < c
  · rw [if_pos e1] at hE
    rw [hE]
    clear hE
    rcases e1 with e1 | e1
    all_goals
      go_enter Try.func34, Try.ntmps34
      go_wp2_with (first
        | (go_at_call 33; (with_reducible refine (HN.out).mono ?_); rintro e w1 ⟨rfl, hr, ho⟩; obtain ⟨k0, k1, k2, k3, k4⟩ := hr.cell)
        | (go_at_call 35; (with_reducible refine (fail_p _ g s st1 _ _ hr).mono ?_); rintro e w3 ⟨rfl, hr3, ho3⟩))
      go_ret
      exact ⟨rfl, hr3, only_trans ho ho3⟩
  · rw [if_neg e1] at hE
    have a1 : 48 ≤ c := by omega
    have a2 : c ≤ 57 := by omega
    clear e1
    have HP := Lib.hid (fun (w : World) (h : Rdr w g s st1) => peek_p w g s st1 h hs)
    have HQ := Lib.hid (peek_pos s st1)
    generalize hd : st1.peek s = d at *
    clear hd
    by_cases e2 : 48 ≤ d ∧ d ≤ 57
    · rw [if_pos e2] at hE
      rw [hE]
      clear hE
      obtain ⟨b1, b2⟩ := e2
      have hp := HQ.out (by omega)
      have hp2 := hp.2
      clear hp HQ
      go_enter Try.func34, Try.ntmps34
      go_wp2_with (first
        | (go_at_call 33; (with_reducible refine (HN.out).mono ?_); rintro e w1 ⟨rfl, hr, ho⟩; obtain ⟨k0, k1, k2, k3, k4⟩ := hr.cell; obtain ⟨f0, f1, f2, f3, f4⟩ := hr.frozen)
        | (go_at_call 23; (with_reducible refine (HP.out _ hr).mono ?_); rintro e w2 ⟨rfl, n, rfl⟩))
      go_ret
      exact ⟨rfl, hr.setPos (st1.pos + 1), only_drewN (only_set ho _) _⟩
    · rw [if_neg e2] at hE
      rw [hE]
      clear hE HQ
      rcases (show d < 48 ∨ (48 ≤ d ∧ 57 < d) by omega) with b1 | ⟨b1, b2⟩
      all_goals
        clear e2
        go_enter Try.func34, Try.ntmps34
        go_wp2_with (first
          | (go_at_call 33; (with_reducible refine (HN.out).mono ?_); rintro e w1 ⟨rfl, hr, ho⟩)
          | (go_at_call 23; (with_reducible refine (HP.out _ hr).mono ?_); rintro e w2 ⟨rfl, n, rfl⟩))
        go_ret
        exact ⟨rfl, hr, only_drewN ho _⟩

end Go.Proofs.Ytpiieonlbfhbaaa
