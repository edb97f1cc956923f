/-
  The program's reader of patterns (package rx): quoted, itemByte, number, times. Contracts for other texts; no statement of its own.
-/
import Derived.Test.YtpiieonlbfhbaaaRx2
import Derived.Lib.Bytealg
set_option linter.unusedVariables false
set_option linter.unusedSimpArgs false
namespace Go.Proofs.Ytpiieonlbfhbaaa
open Go Go.RowKit
attribute [local go_sem ↓] Go.wp_at_zero Go.wp_at_succ

section
variable {α : Type} {w wx w' : World} {g : Nat} {s : ByteArray} {opn : Int} {r : R α} {val : α → Value → World → Prop}
/-- What is told by a panic of something called. -/
theorem XRet.fault {c q : Int} {e : Ending} (o : w.grownBy wx (some g)) (hf : Fault w' wx.heap.size c q e) (o' : wx.grownBy w' (some g)) (hr : r = .error (c, q)) : XRet w g s opn r val e w' := by
  rw [hr]
  exact ⟨hf.more o.size, only_trans o o'⟩
theorem XRet.ok {a : α} {v : Value} {p : Nat} (hr : r = .ok (a, p)) (hv : val a v w') (hx : Rx w' g s p opn) (o : w.grownBy w' (some g)) : XRet w g s opn r val (.returned v) w' := by
  rw [hr]
  exact ⟨⟨v, rfl, hv⟩, hx, o⟩
/-- A panic of the reader's own. -/
theorem XRet.here {pos : Nat} {c : Int} (o : w.grownBy wx (some g)) (hr : r = .error (c, (pos : Int))) :
    XRet w g s opn r val (.panicked [{ v := .iface 42 (.pointer (some ⟨wx.heap.size, 0, none⟩)), recovered := false }]) (wx.alloc (.cells #[.int .i64 (pos : Int), .int .i64 c] 45)) := by
  rw [hr]
  exact ⟨⟨_, o.size, rfl, heap_alloc_new _ _⟩, only_alloc o _⟩
end

theorem idx_neg : ∀ (l : List UInt8) (c : UInt8), (Lib.indexByte l c < 0) ↔ ¬ (l.any fun b => b == c) = true
  | [], c => by simp [Lib.indexByte]
  | b :: l, c => by
    have ih := idx_neg l c
    have hge := Lib.indexByte_ge l c
    unfold Lib.indexByte
    by_cases h : (b == c) = true
    · simp [h]
    · simp only [h, if_false, List.any_cons, Bool.false_or]
      by_cases h1 : (Lib.indexByte l c == -1) = true
      · have e : Lib.indexByte l c = -1 := by simpa using h1
        have := ih.1 (by omega)
        simp [h1, this]
      · have e : ¬ Lib.indexByte l c = -1 := by simpa using h1
        have hn : ¬ Lib.indexByte l c < 0 := by omega
        have := fun h => hn (ih.2 h)
        simp [h1]
        constructor
        · intro h2; omega
        · intro h2
          exfalso
          apply this
          simpa using h2

set_option maxHeartbeats 1000000 in
theorem xindex_p (s : ByteArray) (c : Int) (w : World) :
    Calls Try.prog 66 #[.string s, .int .u8 c] w fun e w' => e = .returned (.int .i64 (Lib.indexByte s.data.toList c.toNat.toUInt8)) ∧ w = w' := by
  go_enter Try.func66, Try.ntmps66
  go_wp2
  rw [run_callFunc_extern Try.func70 (by kernel_rfl) (by kernel_rfl) (by kernel_rfl) (e := Extern.BytealgIndexByte.indexByte) (by kernel_rfl), Lib.run_indexByteString]
  simp only [Result.andThen]
  rw [Oper.upon_value]
  go_wp2
  go_ret
  exact ⟨rfl, rfl⟩
set_option maxHeartbeats 1000000 in
theorem xindex2_p (s : ByteArray) (c : Int) (w : World) :
    Calls Try.prog 56 #[.string s, .int .u8 c] w fun e w' => e = .returned (.int .i64 (Lib.indexByte s.data.toList c.toNat.toUInt8)) ∧ w = w' := by
  go_enter Try.func56, Try.ntmps56
  go_wp2_with (go_at_call 66; (with_reducible refine (xindex_p s c w).mono ?_); rintro e w1 ⟨rfl, rfl⟩)
  go_ret
  exact ⟨rfl, rfl⟩
/-- Whether a byte stands in the text. -/
theorem idx_in (s : ByteArray) (c : Int) (h0 : 0 ≤ c) (h1 : c ≤ 255) : (Lib.indexByte s.data.toList c.toNat.toUInt8 < 0) ↔ inT c s = false := by
  rw [idx_neg]
  unfold inT
  have e : (fun b : UInt8 => b == c.toNat.toUInt8) = fun b : UInt8 => ((b.toNat : Int) == c) := by
    funext b
    rw [Bool.eq_iff_iff]
    have hb := UInt8.toNat_lt b
    simp only [beq_iff_eq]
    constructor
    · intro h
      rw [h]
      simp [Nat.toUInt8, UInt8.toNat_ofNat']
      omega
    · intro h
      have : b.toNat = c.toNat := by omega
      rw [← UInt8.toNat_inj, this]
      simp [Nat.toUInt8, UInt8.toNat_ofNat']
      omega
  rw [e]
  simp

set_option maxHeartbeats 1000000 in
theorem xquoted_p (w : World) (g : Nat) (s : ByteArray) (pos : Nat) (opn : Int) (h : Rx w g s pos opn) (hs : s.size ≤ 1000) (hp : pos < s.size) :
    Calls Try.prog 43 #[.pointer (some ⟨g, 0, none⟩)] w (XRet w g s opn (cEsc s (pos + 1)) isU8) := by
  obtain ⟨c0, c1, c2⟩ := h.cell
  obtain ⟨f0, f1, f2⟩ := h.frozen
  have h1 := h.setPos (pos + 1)
  have o1 : w.grownBy (w.setCell ⟨g, 1, none⟩ (.int .i64 ((pos + 1 : Nat) : Int))) (some g) := only_set (only_refl _ _) _
  have HP := Lib.hid (xpeek_p _ g s (pos + 1) opn h1 hs (by omega))
  by_cases hlt : pos + 1 < s.size
  · have e2 : cPeek s (pos + 1) = .ok ((bt s (pos + 1) : Int), pos + 1) := by unfold cPeek; rw [if_pos hlt]
    have hbt := bt_lt s (pos + 1)
    have hE : cEsc s (pos + 1) = if bt s (pos + 1) = 110 then .ok (10, pos + 2) else if bt s (pos + 1) = 116 then .ok (9, pos + 2) else if inT (bt s (pos + 1) : Int) quotT = true then .ok ((bt s (pos + 1) : Int), pos + 2) else .error (2, ((pos + 1 : Nat) : Int)) := by unfold cEsc; rw [if_pos hlt]
    have hidx := idx_in quotT (bt s (pos + 1) : Int) (by omega) (by omega)
    simp only [e2] at HP
    generalize hb : (bt s (pos + 1) : Int) = b at *
    have hb1 : (bt s (pos + 1) = 110) ↔ b = 110 := by omega
    have hb2 : (bt s (pos + 1) = 116) ↔ b = 116 := by omega
    simp only [hb1, hb2] at hE
    have hb0 : 0 ≤ b ∧ b ≤ 255 := by omega
    clear hb hb1 hb2 e2 hbt
    by_cases b1 : b = 110
    · rw [if_pos b1] at hE
      have HE := Lib.hid hE
      subst b1
      clear hE hidx
      go_enter Try.func43, Try.ntmps43
      go_wp2_with (go_at_call 38; (refine (HP.out).mono ?_); rintro e w1 ⟨⟨v, rfl, rfl⟩, r1, o2⟩; obtain ⟨k0, k1, k2⟩ := r1.cell; obtain ⟨l0, l1, l2⟩ := r1.frozen)
      go_ret
      exact XRet.ok HE.out rfl (r1.setPos (pos + 2)) (only_set (only_trans o1 o2) _)
    · rw [if_neg b1] at hE
      by_cases b2 : b = 116
      · rw [if_pos b2] at hE
        have HE := Lib.hid hE
        subst b2
        clear hE hidx
        go_enter Try.func43, Try.ntmps43
        go_wp2_with (go_at_call 38; (refine (HP.out).mono ?_); rintro e w1 ⟨⟨v, rfl, rfl⟩, r1, o2⟩; obtain ⟨k0, k1, k2⟩ := r1.cell; obtain ⟨l0, l1, l2⟩ := r1.frozen)
        go_ret
        exact XRet.ok HE.out rfl (r1.setPos (pos + 2)) (only_set (only_trans o1 o2) _)
      · rw [if_neg b2] at hE
        have e1 : (b != 110) = true := by simpa using b1
        have e2 : (b != 116) = true := by simpa using b2
        have e3 : (b == 110) = false := by simpa using b1
        have e4 : (b == 116) = false := by simpa using b2
        generalize hj : Lib.indexByte quotT.data.toList b.toNat.toUInt8 = j at hidx
        have HX : Hid (∀ w, Calls Try.prog 56 #[.string ⟨#[92, 46, 91, 93, 40, 41, 123, 125, 124, 63, 42, 43, 94, 36, 45, 47]⟩, .int .u8 b] w fun e w' => e = .returned (.int .i64 j) ∧ w = w') := by
          intro w
          rw [← hj]
          exact xindex2_p quotT b w
        clear hj b1 b2
        by_cases hin : inT b quotT = true
        · rw [if_pos hin] at hE
          have HE := Lib.hid hE
          have hj : ¬ j < 0 := fun h => by rw [hidx.1 h] at hin; cases hin
          clear hE hidx hin
          go_enter Try.func43, Try.ntmps43
          go_wp2_with (first
            | (go_at_call 38; (refine (HP.out).mono ?_); rintro e w1 ⟨⟨v, rfl, rfl⟩, r1, o2⟩; obtain ⟨k0, k1, k2⟩ := r1.cell; obtain ⟨l0, l1, l2⟩ := r1.frozen)
            | (go_at_call 56; (with_reducible refine (HX.out _).mono ?_); rintro e w3 ⟨rfl, rfl⟩))
          go_ret
          exact XRet.ok HE.out rfl (r1.setPos (pos + 2)) (only_set (only_trans o1 o2) _)
        · rw [if_neg hin] at hE
          have HE := Lib.hid hE
          have hj : j < 0 := hidx.2 (by simpa using hin)
          clear hE hidx hin
          go_enter Try.func43, Try.ntmps43
          go_wp2_with (first
            | (go_at_call 38; (refine (HP.out).mono ?_); rintro e w1 ⟨⟨v, rfl, rfl⟩, r1, o2⟩; obtain ⟨k0, k1, k2⟩ := r1.cell)
            | (go_at_call 56; (with_reducible refine (HX.out _).mono ?_); rintro e w3 ⟨rfl, rfl⟩)
            | (go_at_call 16; (with_reducible refine (xfault_p _ g s (pos + 1) opn _ r1).mono ?_); rintro e w4 ⟨rfl, rfl⟩))
          exact bodyPost_panic rfl (XRet.here (pos := pos + 1) (only_trans o1 o2) HE.out)
  · have e2 : cPeek s (pos + 1) = .error (2, ((pos + 1 : Nat) : Int)) := by unfold cPeek; rw [if_neg hlt]
    have HE : Hid (cEsc s (pos + 1) = .error (2, ((pos + 1 : Nat) : Int))) := by show cEsc s (pos + 1) = _; unfold cEsc; rw [if_neg hlt]
    simp only [e2] at HP
    clear e2
    go_enter Try.func43, Try.ntmps43
    go_wp2_with (go_at_call 38; (refine (HP.out).mono ?_); rintro e w1 ⟨⟨gs, hB, rfl, hgs⟩, o2⟩)
    exact bodyPost_panic rfl (XRet.fault o1 ⟨gs, hB, rfl, hgs⟩ o2 HE.out)

theorem cPeek_ok {s : ByteArray} {pos : Nat} (h : pos < s.size) : cPeek s pos = .ok ((bt s pos : Int), pos) := by unfold cPeek; rw [if_pos h]
theorem cPeek_no {s : ByteArray} {pos : Nat} (h : ¬ pos < s.size) : cPeek s pos = .error (2, (pos : Int)) := by unfold cPeek; rw [if_neg h]
theorem cNext_ok {s : ByteArray} {pos : Nat} (h : pos < s.size) : cNext s pos = .ok ((bt s pos : Int), pos + 1) := by unfold cNext; rw [if_pos h]

set_option maxHeartbeats 1000000 in
theorem xitemByte_p (w : World) (g : Nat) (s : ByteArray) (pos : Nat) (opn : Int) (h : Rx w g s pos opn) (hs : s.size ≤ 1000) (hp : pos ≤ s.size) :
    Calls Try.prog 65 #[.pointer (some ⟨g, 0, none⟩)] w (XRet w g s opn (cMem s pos) isU8) := by
  have HP := Lib.hid (xpeek_p w g s pos opn h hs hp)
  by_cases hlt : pos < s.size
  · simp only [cPeek_ok hlt] at HP
    have hbt := bt_lt s pos
    have hE : cMem s pos = if bt s pos = 93 then .error (2, (pos : Int)) else if bt s pos = 92 then cEsc s (pos + 1) else .ok ((bt s pos : Int), pos + 1) := by unfold cMem; rw [if_pos hlt]
    by_cases b1 : bt s pos = 92
    · rw [if_neg (by omega), if_pos b1] at hE
      have HE := Lib.hid hE
      rw [b1] at HP
      clear hE b1
      have HQ := Lib.hid (fun w h => xquoted_p w g s pos opn h hs hlt)
      cases hq : cEsc s (pos + 1) with
      | ok x =>
        obtain ⟨a, p⟩ := x
        simp only [hq] at HQ HE
        clear hq
        go_enter Try.func65, Try.ntmps65
        go_wp2_with (first
          | (go_at_call 38; (with_reducible refine (HP.out).mono ?_); rintro e w1 ⟨⟨v, rfl, rfl⟩, r1, o1⟩)
          | (go_at_call 43; (with_reducible refine (HQ.out _ r1).mono ?_); rintro e w2 ⟨⟨v, rfl, rfl⟩, r2, o2⟩))
        go_ret
        exact XRet.ok HE.out rfl r2 (only_trans o1 o2)
      | error x =>
        obtain ⟨c, q⟩ := x
        simp only [hq] at HQ HE
        clear hq
        go_enter Try.func65, Try.ntmps65
        go_wp2_with (first
          | (go_at_call 38; (with_reducible refine (HP.out).mono ?_); rintro e w1 ⟨⟨v, rfl, rfl⟩, r1, o1⟩)
          | (go_at_call 43; (with_reducible refine (HQ.out _ r1).mono ?_); rintro e w2 ⟨⟨gs, hB, rfl, hgs⟩, o2⟩))
        exact bodyPost_panic rfl (XRet.fault o1 ⟨gs, hB, rfl, hgs⟩ o2 HE.out)
    · by_cases b2 : bt s pos = 93
      · rw [if_pos b2] at hE
        have HE := Lib.hid hE
        rw [b2] at HP
        clear hE b1 b2
        go_enter Try.func65, Try.ntmps65
        go_wp2_with (first
          | (go_at_call 38; (with_reducible refine (HP.out).mono ?_); rintro e w1 ⟨⟨v, rfl, rfl⟩, r1, o1⟩)
          | (go_at_call 16; (with_reducible refine (xfault_p _ g s pos opn _ r1).mono ?_); rintro e w4 ⟨rfl, rfl⟩))
        exact bodyPost_panic rfl (XRet.here o1 HE.out)
      · rw [if_neg b2, if_neg b1] at hE
        have HE := Lib.hid hE
        have e1 : ((bt s pos : Int) == 92) = false := by simp; omega
        have e2 : ((bt s pos : Int) == 93) = false := by simp; omega
        have HN := Lib.hid (fun w h => xnext_p w g s pos opn h hs hp)
        simp only [cNext_ok hlt] at HN
        clear hE b1 b2
        generalize (bt s pos : Int) = b at *
        go_enter Try.func65, Try.ntmps65
        go_wp2_with (first
          | (go_at_call 38; (with_reducible refine (HP.out).mono ?_); rintro e w1 ⟨⟨v, rfl, rfl⟩, r1, o1⟩)
          | (go_at_call 58; (with_reducible refine (HN.out _ r1).mono ?_); rintro e w4 ⟨⟨v, rfl, rfl⟩, r4, o4⟩))
        go_ret
        exact XRet.ok HE.out rfl r4 (only_trans o1 o4)
  · simp only [cPeek_no hlt] at HP
    have HE : Hid (cMem s pos = .error (2, (pos : Int))) := by show cMem s pos = _; unfold cMem; rw [if_neg hlt]
    go_enter Try.func65, Try.ntmps65
    go_wp2_with (first
      | (go_at_call 38; (with_reducible refine (HP.out).mono ?_); rintro e w1 ⟨⟨gs, hB, rfl, hgs⟩, o1⟩))
    exact bodyPost_panic rfl (XRet.fault (only_refl _ _) ⟨gs, hB, rfl, hgs⟩ o1 HE.out)

def isI64 (a : Int) (v : Value) (_ : World) : Prop := v = .int .i64 a

set_option maxHeartbeats 1000000 in
theorem xnumber_p (w : World) (g : Nat) (s : ByteArray) (pos : Nat) (opn : Int) (h : Rx w g s pos opn) (hs : s.size ≤ 1000) (hp : pos ≤ s.size) :
    Calls Try.prog 44 #[.pointer (some ⟨g, 0, none⟩)] w (XRet w g s opn (cNum s pos) isI64) := by
  by_cases hd : isD s pos = true
  · have hd' := hd
    simp [isD] at hd'
    obtain ⟨⟨hlt, l1⟩, l2⟩ := hd'
    have HD := Lib.hid (xisDigit_p w g s pos opn h hs hp true hd)
    have HN := Lib.hid (fun w h => xnext_p w g s pos opn h hs hp)
    simp only [cNext_ok hlt] at HN
    by_cases hd2 : isD s (pos + 1) = true
    · have hd' := hd2
      simp [isD] at hd'
      obtain ⟨⟨hlt2, m1⟩, m2⟩ := hd'
      have HE : Hid (cNum s pos = .ok (10 * ((bt s pos : Int) - 48) + ((bt s (pos + 1) : Int) - 48), pos + 2)) := by show cNum s pos = _; unfold cNum; rw [if_pos hd, if_pos hd2]
      have HD2 := Lib.hid (fun w h => xisDigit_p w g s (pos + 1) opn h hs (by omega) true hd2)
      have HN2 := Lib.hid (fun w h => xnext_p w g s (pos + 1) opn h hs (by omega))
      simp only [cNext_ok hlt2] at HN2
      have i1 : (48 : Int) ≤ (bt s pos : Int) := by omega
      have i2 : (bt s pos : Int) ≤ 57 := by omega
      have i3 : (48 : Int) ≤ (bt s (pos + 1) : Int) := by omega
      have i4 : (bt s (pos + 1) : Int) ≤ 57 := by omega
      clear hd hd2 l1 l2 m1 m2
      generalize (bt s pos : Int) = a at *
      generalize (bt s (pos + 1) : Int) = b at *
      go_enter Try.func44, Try.ntmps44
      go_wp2_with (first
        | (go_at_call 57; (with_reducible refine (HD.out).mono ?_); rintro e w1 ⟨rfl, n, rfl⟩)
        | (go_at_call 58; (with_reducible refine (HN.out _ (h.drewN _)).mono ?_); rintro e w2 ⟨⟨v, rfl, rfl⟩, r2, o2⟩)
        | (go_at_call 57; (with_reducible refine (HD2.out _ r2).mono ?_); rintro e w3 ⟨rfl, n3, rfl⟩)
        | (go_at_call 58; (with_reducible refine (HN2.out _ (r2.drewN _)).mono ?_); rintro e w4 ⟨⟨v, rfl, rfl⟩, r4, o4⟩))
      go_ret
      exact XRet.ok HE.out rfl r4 (only_trans (only_drewN (only_trans (only_drewN (only_refl _ _) _) o2) _) o4)
    · have HE : Hid (cNum s pos = .ok ((bt s pos : Int) - 48, pos + 1)) := by show cNum s pos = _; unfold cNum; rw [if_pos hd, if_neg hd2]
      have HD2 := Lib.hid (fun w h => xisDigit_p w g s (pos + 1) opn h hs (by omega) false (by simpa using hd2))
      have i1 : (48 : Int) ≤ (bt s pos : Int) := by omega
      have i2 : (bt s pos : Int) ≤ 57 := by omega
      clear hd hd2 l1 l2
      generalize (bt s pos : Int) = a at *
      go_enter Try.func44, Try.ntmps44
      go_wp2_with (first
        | (go_at_call 57; (with_reducible refine (HD.out).mono ?_); rintro e w1 ⟨rfl, n, rfl⟩)
        | (go_at_call 58; (with_reducible refine (HN.out _ (h.drewN _)).mono ?_); rintro e w2 ⟨⟨v, rfl, rfl⟩, r2, o2⟩)
        | (go_at_call 57; (with_reducible refine (HD2.out _ r2).mono ?_); rintro e w3 ⟨rfl, n3, rfl⟩))
      go_ret
      exact XRet.ok HE.out rfl (r2.drewN _) (only_drewN (only_trans (only_drewN (only_refl _ _) _) o2) _)
  · have HD := Lib.hid (xisDigit_p w g s pos opn h hs hp false (by simpa using hd))
    have HE : Hid (cNum s pos = .error (2, (pos : Int))) := by show cNum s pos = _; unfold cNum; rw [if_neg hd]
    go_enter Try.func44, Try.ntmps44
    go_wp2_with (first
      | (go_at_call 57; (with_reducible refine (HD.out).mono ?_); rintro e w1 ⟨rfl, n, rfl⟩)
      | (go_at_call 16; (with_reducible refine (xfault_p _ g s pos opn _ (h.drewN _)).mono ?_); rintro e w4 ⟨rfl, rfl⟩))
    exact bodyPost_panic rfl (XRet.here (only_drewN (only_refl _ _) _) HE.out)

end Go.Proofs.Ytpiieonlbfhbaaa
