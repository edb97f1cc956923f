/-
  The document's lines of a text; its Rules; the program's Parse. Contracts for other texts; no statement of its own.
-/
import Derived.Test.YtgbcklnnbeimhaaDoorRulDoc
set_option linter.unusedVariables false
set_option linter.unusedSimpArgs false
namespace Go.Proofs.YtgbcklnnbeimhaaDoor
open Go Go.RowKit

set_option maxRecDepth 20000 in
set_option maxHeartbeats 2000000 in
theorem dlines_p (w : World) (s : ByteArray) (hs : s.size ≤ 4000) : Calls Tryd.prog 17 #[.string s] w fun e w' => ∃ A c, e = .returned (.slice A (linesB s).length c) ∧ RdStr w' A (linesB s) ∧ Below w.heap.size w w' := by
  obtain ⟨N, hN⟩ : ∃ N, s.size = N := ⟨_, rfl⟩
  have HNN := Lib.hid hN
  go_enter Tryd.func17, Tryd.ntmps17
  go_wp2
  go_loopg [3, 4, 5] N (fun mm v from' i wr => ∃ k : Nat, i = .int .i64 (k : Int) ∧ k ≤ N ∧ mm = N - k ∧ from' = .int .i64 (fromI s k : Int) ∧ StrRow wr w.heap.size v (doneI s k) ∧ Below w.heap.size w wr)
  case atStart => exact ⟨0, rfl, Nat.zero_le _, rfl, rfl, StrRow.nil _ _, Below.refl _ _⟩
  case round =>
    obtain ⟨k, rfl, hk, hmk, rfl, hv, hbw⟩ := hrel
    have HMK := Lib.hid hmk
    have HV := Lib.hid hv
    have HBW := Lib.hid hbw
    have HSZ := Lib.hid hbw.size
    have hle := fromI_le s k
    have hdl := Lib.hid (doneI_len s k)
    obtain ⟨F, hF⟩ : ∃ F, fromI s k = F := ⟨_, rfl⟩
    rw [hF] at hle ⊢
    have HF := Lib.hid hF
    clear hmk hv hbw hF
    by_cases hkN : k < N
    · have hkN' : (k : Int) < (N : Int) := by omega
      have hks : k < s.size := by omega
      have hbe : (s[k]'hks).toNat = bt s k := (bt_eq s k hks).symm
      obtain ⟨B, hB⟩ : ∃ B : Nat, bt s k = B := ⟨_, rfl⟩
      have HB := Lib.hid hB
      rw [hB] at hbe
      clear hB
      rcases beq_two (B : Int) 10 with ⟨e5, h5⟩ | ⟨e5, h5⟩
      · have e6 : bt s k = 10 := by rw [HB.out]; omega
        have HFN : Hid (fromI s (k + 1) = k + 1) := Lib.hid (by rw [fromI, if_pos e6])
        have HDN : Hid (doneI s (k + 1) = doneI s k ++ [s.extract F k]) := Lib.hid (by rw [doneI, if_pos e6, HF.out])
        obtain ⟨xs, hxs⟩ : ∃ xs, s.extract F k = xs := ⟨_, rfl⟩
        rw [hxs] at HDN
        have k1 : (F : Int) ≤ (k : Int) := by omega
        have k2 : (k : Int) ≤ (N : Int) := by omega
        clear e6 h5 hle hkN
        go_wp2_with (first
          | (at_builtin; refine wpList_str (by rfl) _ _ (by rfl) (by rfl) (HV.out.stays ((Below.refl _ _).alloc (Nat.le_refl _) _)) (Nat.le_trans HSZ.out (by simp)) (by have := hdl.out; omega) xs ⟨wr.heap.size, 0, none⟩ 1 (by rfl) (by exact cell_of_row _ wr.heap.size 0 _ 9 (0, 0) (heap_alloc_new wr _)) ?_; intro v2 w2 o2 g2 _; have O2 := Lib.hid o2; have B2 := Lib.hid ((HBW.out.alloc HSZ.out _).grown g2 (by have := HSZ.out; simp; omega) fun b e => (HV.out.in b e).1); clear o2 g2)
          | fail)
        go_roundg (N - (k + 1))
        case measure => have := HMK.out; omega
        case rel => exact ⟨k + 1, by go_num, by omega, rfl, by rw [HFN.out]; go_num, by rw [HDN.out]; exact O2.out, B2.out⟩
      · have e6 : ¬ bt s k = 10 := by rw [HB.out]; omega
        have HFN : Hid (fromI s (k + 1) = F) := Lib.hid (by rw [fromI, if_neg e6, HF.out])
        have HDN : Hid (doneI s (k + 1) = doneI s k) := Lib.hid (by rw [doneI, if_neg e6])
        clear e6 h5 hle
        go_wp2
        go_roundg (N - (k + 1))
        case measure => have := HMK.out; omega
        case rel => exact ⟨k + 1, by go_num, by omega, rfl, by rw [HFN.out], by rw [HDN.out]; exact HV.out, HBW.out⟩
    · have hkl : k = N := by omega
      subst hkl
      obtain ⟨xs, hxs⟩ : ∃ xs, s.extract F k = xs := ⟨_, rfl⟩
      have HDN : Hid (linesB s = doneI s k ++ [xs]) := Lib.hid (by unfold linesB; rw [HNN.out, HF.out, hxs])
      have k1 : (F : Int) ≤ (k : Int) := by omega
      clear hle hkN
      go_wp2_with (first
        | (at_builtin; refine wpList_str (by rfl) _ _ (by rfl) (by rfl) (HV.out.stays ((Below.refl _ _).alloc (Nat.le_refl _) _)) (Nat.le_trans HSZ.out (by simp)) (by have := hdl.out; omega) xs ⟨wr.heap.size, 0, none⟩ 1 (by rfl) (by exact cell_of_row _ wr.heap.size 0 _ 9 (0, 0) (heap_alloc_new wr _)) ?_; intro v2 w2 o2 g2 _; have O2 := Lib.hid o2; have B2 := Lib.hid ((HBW.out.alloc HSZ.out _).grown g2 (by have := HSZ.out; simp; omega) fun b e => (HV.out.in b e).1); clear o2 g2)
        | fail)
      go_ret
      obtain ⟨A, c, rfl⟩ := O2.out.form
      rw [HDN.out]
      exact ⟨A, c, rfl, O2.out.rd, B2.out⟩
end Go.Proofs.YtgbcklnnbeimhaaDoor
