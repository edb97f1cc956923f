/-
  The program's reader of patterns (package rx): skip, peek, next, isDigit, and the small makers of nodes. Contracts for other texts; no statement of its own.
-/
import Derived.Test.YtpiieonlbfhbaaaRx1
import Derived.Deep.QuietTactic
import Derived.BigQuiet
set_option linter.unusedVariables false
set_option linter.unusedSimpArgs false
namespace Go.Proofs.Ytpiieonlbfhbaaa
open Go Go.RowKit
attribute [local go_sem ↓] Go.wp_at_zero Go.wp_at_succ

theorem bodyPost_panic {P : Program} {fn : Func} {Q : Ending → World → Prop} {a : Act} {w : World} {chain : List PanicEntry} (hd : a.defers = []) (hR : Q (.panicked chain) w) : bodyPost P fn Q (.panic chain) a w := ⟨hd, hR⟩

set_option maxHeartbeats 400000 in
theorem xskip_no (w : World) (g : Nat) (s : ByteArray) (pos : Nat) (opn : Int) (h : Rx w g s pos opn) (hs : s.size ≤ 1000) (hp : pos ≤ s.size) (t : ByteArray) (ht : t.size ≤ 2) (hb : preB (s.extract pos s.size) t = false) :
    Calls Try.prog 20 #[.pointer (some ⟨g, 0, none⟩), .string t] w fun e w' => e = .returned (.bool false) ∧ Rx w' g s pos opn ∧ w.grownBy w' (some g) := by
  have HI := Lib.hid (xis_p w g s pos opn h hs hp t ht)
  simp only [hb] at HI
  obtain ⟨c0, c1, c2⟩ := h.cell
  go_enter Try.func20, Try.ntmps20
  go_wp2_with (go_at_call 26; (with_reducible refine (HI.out).mono ?_); rintro e w1 ⟨rfl, n, rfl⟩)
  go_ret
  exact ⟨rfl, h.drewN n, only_drewN (only_refl _ _) _⟩
set_option maxHeartbeats 400000 in
theorem xskip_yes (w : World) (g : Nat) (s : ByteArray) (pos : Nat) (opn : Int) (h : Rx w g s pos opn) (hs : s.size ≤ 1000) (hp : pos ≤ s.size) (t : ByteArray) (ht : t.size ≤ 2) (hb : preB (s.extract pos s.size) t = true) :
    Calls Try.prog 20 #[.pointer (some ⟨g, 0, none⟩), .string t] w fun e w' => e = .returned (.bool true) ∧ Rx w' g s (pos + t.size) opn ∧ w.grownBy w' (some g) := by
  have HI := Lib.hid (xis_p w g s pos opn h hs hp t ht)
  simp only [hb] at HI
  obtain ⟨c0, c1, c2⟩ := h.cell
  obtain ⟨f0, f1, f2⟩ := h.frozen
  go_enter Try.func20, Try.ntmps20
  go_wp2_with (go_at_call 26; (with_reducible refine (HI.out).mono ?_); rintro e w1 ⟨rfl, n, rfl⟩)
  go_ret
  exact ⟨rfl, (h.drewN n).setPos (pos + t.size), only_drewN (only_set (only_refl _ _) _) _⟩
theorem xskip1_no (w : World) (g : Nat) (s : ByteArray) (pos : Nat) (opn : Int) (h : Rx w g s pos opn) (hs : s.size ≤ 1000) (hp : pos ≤ s.size) (c : UInt8) (n : Nat) (hn : n = c.toNat) (hb : isB s pos n = false) :
    Calls Try.prog 20 #[.pointer (some ⟨g, 0, none⟩), .string ⟨#[c]⟩] w fun e w' => e = .returned (.bool false) ∧ Rx w' g s pos opn ∧ w.grownBy w' (some g) :=
  xskip_no w g s pos opn h hs hp ⟨#[c]⟩ (show 1 ≤ 2 by omega) (by rw [pre1 s pos c hp, ← hn]; exact hb)
theorem xskip1_yes (w : World) (g : Nat) (s : ByteArray) (pos : Nat) (opn : Int) (h : Rx w g s pos opn) (hs : s.size ≤ 1000) (hp : pos ≤ s.size) (c : UInt8) (n : Nat) (hn : n = c.toNat) (hb : isB s pos n = true) :
    Calls Try.prog 20 #[.pointer (some ⟨g, 0, none⟩), .string ⟨#[c]⟩] w fun e w' => e = .returned (.bool true) ∧ Rx w' g s (pos + 1) opn ∧ w.grownBy w' (some g) :=
  xskip_yes w g s pos opn h hs hp ⟨#[c]⟩ (show 1 ≤ 2 by omega) (by rw [pre1 s pos c hp, ← hn]; exact hb)
theorem xis1_p (w : World) (g : Nat) (s : ByteArray) (pos : Nat) (opn : Int) (h : Rx w g s pos opn) (hs : s.size ≤ 1000) (hp : pos ≤ s.size) (c : UInt8) (n : Nat) (hn : n = c.toNat) (b : Bool) (hb : isB s pos n = b) :
    Calls Try.prog 26 #[.pointer (some ⟨g, 0, none⟩), .string ⟨#[c]⟩] w fun e w' => e = .returned (.bool b) ∧ ∃ n, w' = w.drewN n := by
  rw [← hb, hn, ← pre1 s pos c hp]
  exact xis_p w g s pos opn h hs hp ⟨#[c]⟩ (show 1 ≤ 2 by omega)

/-- The next byte, which must be there. -/
def cPeek (s : ByteArray) (pos : Nat) : R Int := if pos < s.size then .ok ((bt s pos : Int), pos) else .error (2, (pos : Int))
/-- A number's value. -/
def isU8 (a : Int) (v : Value) (_ : World) : Prop := v = .int .u8 a

set_option maxHeartbeats 400000 in
theorem xpeek_p (w : World) (g : Nat) (s : ByteArray) (pos : Nat) (opn : Int) (h : Rx w g s pos opn) (hs : s.size ≤ 1000) (hp : pos ≤ s.size) :
    Calls Try.prog 38 #[.pointer (some ⟨g, 0, none⟩)] w (XRet w g s opn (cPeek s pos) isU8) := by
  obtain ⟨c0, c1, c2⟩ := h.cell
  have HE := Lib.hid (xended_p w g s pos opn h hs)
  by_cases hlt : pos < s.size
  · have e : cPeek s pos = .ok ((s[pos]'hlt).toNat, pos) := by unfold cPeek; rw [if_pos hlt, bt_eq s pos hlt]
    rw [e]
    have e2 : (pos == s.size) = false := by simp; omega
    simp only [e2] at HE
    clear e e2
    have k0 : (0 : Int) ≤ (pos : Int) := by omega
    have k1 : (pos : Int) < (s.size : Int) := by omega
    go_enter Try.func38, Try.ntmps38
    go_wp2_with (go_at_call 15; (with_reducible refine (HE.out).mono ?_); rintro e w1 ⟨rfl, n, rfl⟩)
    go_quiet (fail)
    go_wp2
    go_ret
    exact ⟨⟨_, rfl, rfl⟩, (h.drewN _).drewN _, only_drewN (only_drewN (only_refl _ _) _) _⟩
  · have e : cPeek s pos = .error (2, (pos : Int)) := by unfold cPeek; rw [if_neg hlt]
    rw [e]
    have e2 : (pos == s.size) = true := by simp; omega
    simp only [e2] at HE
    clear e e2
    go_enter Try.func38, Try.ntmps38
    go_wp2_with (first
      | (go_at_call 15; (with_reducible refine (HE.out).mono ?_); rintro e w1 ⟨rfl, n, rfl⟩)
      | (go_at_call 16; (with_reducible refine (xfault_p _ g s pos opn _ (h.drewN _)).mono ?_); rintro e w2 ⟨rfl, rfl⟩))
    exact bodyPost_panic rfl ⟨⟨_, Nat.le_refl _, rfl, heap_alloc_new _ _⟩, only_alloc (only_drewN (only_refl _ _) _) _⟩

/-- The next byte is taken. -/
def cNext (s : ByteArray) (pos : Nat) : R Int := if pos < s.size then .ok ((bt s pos : Int), pos + 1) else .error (2, (pos : Int))

set_option maxHeartbeats 400000 in
theorem xnext_p (w : World) (g : Nat) (s : ByteArray) (pos : Nat) (opn : Int) (h : Rx w g s pos opn) (hs : s.size ≤ 1000) (hp : pos ≤ s.size) :
    Calls Try.prog 58 #[.pointer (some ⟨g, 0, none⟩)] w (XRet w g s opn (cNext s pos) isU8) := by
  have HP := Lib.hid (xpeek_p w g s pos opn h hs hp)
  by_cases hlt : pos < s.size
  · have e : cNext s pos = .ok ((bt s pos : Int), pos + 1) := by unfold cNext; rw [if_pos hlt]
    have e2 : cPeek s pos = .ok ((bt s pos : Int), pos) := by unfold cPeek; rw [if_pos hlt]
    rw [e]
    simp only [e2] at HP
    clear e e2
    go_enter Try.func58, Try.ntmps58
    go_wp2_with (go_at_call 38; (with_reducible refine (HP.out).mono ?_); rintro e w1 ⟨⟨v, rfl, rfl⟩, r1, o1⟩; obtain ⟨c0, c1, c2⟩ := r1.cell; obtain ⟨f0, f1, f2⟩ := r1.frozen)
    go_ret
    exact ⟨⟨_, rfl, rfl⟩, r1.setPos (pos + 1), only_set o1 _⟩
  · have e : cNext s pos = .error (2, (pos : Int)) := by unfold cNext; rw [if_neg hlt]
    have e2 : cPeek s pos = .error (2, (pos : Int)) := by unfold cPeek; rw [if_neg hlt]
    rw [e]
    simp only [e2] at HP
    clear e e2
    go_enter Try.func58, Try.ntmps58
    go_wp2_with (go_at_call 38; (with_reducible refine (HP.out).mono ?_); rintro e w1 ⟨⟨gs, hB, rfl, hgs⟩, o1⟩)
    exact bodyPost_panic rfl ⟨⟨gs, hB, rfl, hgs⟩, o1⟩

set_option maxHeartbeats 1000000 in
theorem xisDigit_p (w : World) (g : Nat) (s : ByteArray) (pos : Nat) (opn : Int) (h : Rx w g s pos opn) (hs : s.size ≤ 1000) (hp : pos ≤ s.size) (b : Bool) (hb : isD s pos = b) :
    Calls Try.prog 57 #[.pointer (some ⟨g, 0, none⟩)] w fun e w' => e = .returned (.bool b) ∧ ∃ n, w' = w.drewN n := by
  obtain ⟨c0, c1, c2⟩ := h.cell
  by_cases hlt : pos < s.size
  · have e2 : (pos == s.size) = false := by simp; omega
    have HE : ∀ w, Rx w g s pos opn → Calls Try.prog 15 #[.pointer (some ⟨g, 0, none⟩)] w fun e w' => e = .returned (.bool false) ∧ ∃ n, w' = w.drewN n := fun w h => by rw [← e2]; exact xended_p w g s pos opn h hs
    replace HE := Lib.hid HE
    have k0 : (0 : Int) ≤ (pos : Int) := by omega
    have k1 : (pos : Int) < (s.size : Int) := by omega
    have hbe := bt_eq s pos hlt
    have hdd : isD s pos = (decide (48 ≤ bt s pos) && decide (bt s pos ≤ 57)) := by unfold isD; simp [hlt]
    rw [hbe] at hdd
    rw [← hb, hdd]
    clear e2 hdd hb hbe
    have hnot : ∀ (x : Bool) (w : World), (Op.unary .not (.bool x)).run Try.prog w = .ok (.bool (!x)) w := fun _ _ => rfl
    by_cases h1 : (48 : Int) ≤ ((s[pos]'hlt).toNat : Int)
    · have d1 : decide ((48 : Int) ≤ ((s[pos]'hlt).toNat : Int)) = true := by simpa using h1
      have d2 : decide (48 ≤ (s[pos]'hlt).toNat) = true := by simp; omega
      rw [d2, Bool.true_and]
      clear d2
      go_enter Try.func57, Try.ntmps57
      go_wp2
      go_quiet ((go_at_call 15; exact Calls.quiet_of (HE.out _ (by first | exact h | exact h.drewN _))))
      go_wp2
      go_ret
      refine ⟨congrArg Ending.returned (congrArg Value.bool ?_), _, rfl⟩
      rw [Bool.eq_iff_iff]
      simp
      omega
    · have d1 : decide ((48 : Int) ≤ ((s[pos]'hlt).toNat : Int)) = false := by simpa using h1
      have d2 : decide (48 ≤ (s[pos]'hlt).toNat) = false := by simp; omega
      rw [d2, Bool.false_and]
      clear d2
      go_enter Try.func57, Try.ntmps57
      go_wp2
      go_quiet ((go_at_call 15; exact Calls.quiet_of (HE.out _ (by first | exact h | exact h.drewN _))))
      go_wp2
      go_ret
      exact ⟨rfl, _, rfl⟩
  · have e2 : (pos == s.size) = true := by simp; omega
    have HE : ∀ w, Rx w g s pos opn → Calls Try.prog 15 #[.pointer (some ⟨g, 0, none⟩)] w fun e w' => e = .returned (.bool true) ∧ ∃ n, w' = w.drewN n := fun w h => by rw [← e2]; exact xended_p w g s pos opn h hs
    replace HE := Lib.hid HE
    have hdd : isD s pos = false := by unfold isD; simp [hlt]
    rw [← hb, hdd]
    clear e2 hdd hb
    have hnot : ∀ (x : Bool) (w : World), (Op.unary .not (.bool x)).run Try.prog w = .ok (.bool (!x)) w := fun _ _ => rfl
    go_enter Try.func57, Try.ntmps57
    go_wp2
    go_quiet ((go_at_call 15; exact Calls.quiet_of (HE.out _ (by first | exact h | exact h.drewN _))))
    go_wp2
    go_ret
    exact ⟨rfl, _, rfl⟩

end Go.Proofs.Ytpiieonlbfhbaaa
