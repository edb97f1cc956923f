/-
  Names of rules: the program's isOfName, isName, isNamed, strings.Clone, and the document's named. Contracts for other texts; no statement of its own.
-/
import Derived.Test.YtgbcklnnbeimhaaDoorRulMem
import Derived.Test.YtgbcklnnbeimhaaDoorShelf
import Derived.BigQuiet
import Derived.Deep.LoopGhost
set_option linter.unusedVariables false
set_option linter.unusedSimpArgs false
namespace Go.Proofs.YtgbcklnnbeimhaaDoor
open Go Go.RowKit

set_option maxHeartbeats 400000 in
theorem okb_p (w : World) (b : Nat) (hb : b < 256) : Calls Tryd.prog 34 #[.int .u8 (b : Int)] w fun e w' => e = .returned (.bool (okB b)) ∧ w' = w := by
  have hi : ∃ B : Int, B = (b : Int) ∧ okB b = (decide (97 ≤ B ∧ B ≤ 122) || decide (48 ≤ B ∧ B ≤ 57) || decide (B = 45) || decide (B = 95)) := ⟨_, rfl, by unfold okB; congr 1; congr 1; congr 1 <;> (congr 1; apply propext; omega); all_goals (congr 1; apply propext; omega)⟩
  obtain ⟨B, hB, he⟩ := hi
  rw [he, ← hB]
  clear he hB hb
  go_enter Tryd.func34, Tryd.ntmps34
  by_cases h1 : 97 ≤ B <;> by_cases h2 : B ≤ 122 <;> by_cases h3 : 48 ≤ B <;> by_cases h4 : B ≤ 57 <;> by_cases h5 : B = 45 <;> by_cases h6 : B = 95
  all_goals first
    | omega
    | (go_wp2
       go_ret
       refine ⟨?_, rfl⟩
       first
         | (simp [h1, h2, h3, h4, h5, h6]; done)
         | (simp [h1, h2, h3, h4, h5, h6]; rw [Bool.eq_iff_iff]; simp; omega))

set_option maxHeartbeats 400000 in
theorem clone_p (w : World) (s : ByteArray) (hs : s.size ≤ 100000) : Calls Tryd.prog 26 #[.string s] w fun e w' => e = .returned (.string s) ∧ Below w.heap.size w w' := by
  have H := Lib.hid (sh_stringslite_Clone s w (by omega))
  go_enter Tryd.func26, Tryd.ntmps26
  go_wp2_with (go_at_call 35; (with_reducible refine H.out.mono ?_); rintro e w1 ⟨rfl, hb⟩)
  go_ret
  exact ⟨rfl, hb⟩

theorem beq_two (B c : Int) : (((B == c) = true) ∧ B = c) ∨ (((B == c) = false) ∧ B ≠ c) := by
  by_cases h : B = c
  · exact .inl ⟨by simp [h], h⟩
  · exact .inr ⟨by simpa using h, h⟩
theorem okB_iff (b : Nat) : okB b = true ↔ (97 ≤ b ∧ b ≤ 122) ∨ (48 ≤ b ∧ b ≤ 57) ∨ b = 45 ∨ b = 95 := by
  unfold okB
  simp [or_assoc]
theorem nameOk_no (s : ByteArray) (k : Nat) (hk : k < s.size) (h : okB (bt s k) = false) : nameOk s = false := by
  cases hq : nameOk s with
  | false => rfl
  | true => exact absurd (((nameOk_iff s).1 hq).2 k hk) (by rw [h]; simp)
set_option maxHeartbeats 1000000 in
theorem isname_p (w : World) (s : ByteArray) (hs : s.size ≤ 100000) : Calls Tryd.prog 25 #[.string s] w fun e w' => e = .returned (.bool (nameOk s)) ∧ w' = w := by
  by_cases h0 : 1 ≤ s.size ∧ s.size ≤ 16
  · have hN := nameOk_iff s
    obtain ⟨N, hNs⟩ : ∃ N, s.size = N := ⟨_, rfl⟩
    go_enter Tryd.func25, Tryd.ntmps25
    go_wp2
    go_loopg [14] N (fun mm i wr => ∃ k : Nat, i = .int .i64 (k : Int) ∧ k ≤ N ∧ mm = N - k ∧ (∀ j, j < k → okB (bt s j) = true) ∧ wr = w)
    case atStart => exact ⟨0, rfl, Nat.zero_le _, rfl, fun j h => absurd h (Nat.not_lt_zero _), rfl⟩
    case round =>
      obtain ⟨k, rfl, hk, hmk, hok, rfl⟩ := hrel
      have HMK := Lib.hid hmk
      clear hmk
      by_cases hkN : k < N
      · have hkN' : (k : Int) < (N : Int) := by omega
        have hks : k < s.size := by omega
        have hbe : (s[k]'hks).toNat = bt s k := (bt_eq s k hks).symm
        have HO := Lib.hid (okb_p wr (bt s k) (bt_lt s k))
        by_cases hb : okB (bt s k) = true
        · rw [hb] at HO
          go_wp2_with (go_at_call 34; (with_reducible refine HO.out.mono ?_); rintro e w1 ⟨rfl, rfl⟩)
          go_roundg (N - (k + 1))
          case measure => have := HMK.out; omega
          case rel => exact ⟨k + 1, by go_num, by omega, rfl, fun j hj => by rcases Nat.lt_succ_iff_lt_or_eq.1 hj with h' | rfl; exact hok j h'; exact hb, rfl⟩
        · have hbf : okB (bt s k) = false := by simpa using hb
          rw [hbf] at HO
          go_wp2_with (go_at_call 34; (with_reducible refine HO.out.mono ?_); rintro e w1 ⟨rfl, rfl⟩)
          go_ret
          refine ⟨?_, rfl⟩
          rw [show nameOk s = false from by
            cases hq : nameOk s with
            | false => rfl
            | true => exact absurd ((hN.1 hq).2 k hks) hb]
          rfl
      · have hkl : k = N := by omega
        subst hkl
        go_wp2
        go_ret
        refine ⟨?_, rfl⟩
        rw [show nameOk s = true from hN.2 ⟨h0, fun i hi => hok i (by omega)⟩]
        rfl
  · have hN : nameOk s = false := by
      cases hq : nameOk s with
      | false => rfl
      | true => exact absurd ((nameOk_iff s).1 hq).1 h0
    rw [hN]
    clear hN
    obtain ⟨N, hNs⟩ : ∃ N, s.size = N := ⟨_, rfl⟩
    rw [hNs] at h0 hs
    by_cases h1 : N < 1
    · have h1' : (N : Int) < 1 := by omega
      go_enter Tryd.func25, Tryd.ntmps25
      go_wp2
      go_ret
      exact ⟨rfl, rfl⟩
    · have h1' : ¬ (N : Int) < 1 := by omega
      have h2' : (16 : Int) < (N : Int) := by omega
      go_enter Tryd.func25, Tryd.ntmps25
      go_wp2
      go_ret
      exact ⟨rfl, rfl⟩

set_option maxHeartbeats 1000000 in
theorem named_p (w : World) (s : ByteArray) (hs : s.size ≤ 100000) : Calls Tryd.prog 27 #[.string s] w fun e w' => e = .returned (.bool (nameOk s)) ∧ w' = w := by
  by_cases h0 : 1 ≤ s.size ∧ s.size ≤ 16
  · have hN := nameOk_iff s
    obtain ⟨N, hNs⟩ : ∃ N, s.size = N := ⟨_, rfl⟩
    go_enter Tryd.func27, Tryd.ntmps27
    go_wp2
    go_loopg [3] N (fun mm i wr => ∃ k : Nat, i = .int .i64 (k : Int) ∧ k ≤ N ∧ mm = N - k ∧ (∀ j, j < k → okB (bt s j) = true) ∧ wr = w)
    case atStart => exact ⟨0, rfl, Nat.zero_le _, rfl, fun j h => absurd h (Nat.not_lt_zero _), rfl⟩
    case round =>
      obtain ⟨k, rfl, hk, hmk, hok, rfl⟩ := hrel
      have HMK := Lib.hid hmk
      clear hmk
      by_cases hkN : k < N
      · have hkN' : (k : Int) < (N : Int) := by omega
        have hks : k < s.size := by omega
        have hbe : (s[k]'hks).toNat = bt s k := (bt_eq s k hks).symm
        obtain ⟨B, hB⟩ : ∃ B : Nat, bt s k = B := ⟨_, rfl⟩
        have HB := Lib.hid hB
        have HOK := Lib.hid hok
        have HNN := Lib.hid hN
        rw [hB] at hbe
        clear hB hok hN
        by_cases h1 : (97 : Int) ≤ (B : Int) <;> by_cases h2 : (B : Int) ≤ 122 <;> by_cases h3 : (48 : Int) ≤ (B : Int) <;> by_cases h4 : (B : Int) ≤ 57 <;> rcases beq_two B 45 with ⟨e5, h5⟩ | ⟨e5, h5⟩ <;> rcases beq_two B 95 with ⟨e6, h6⟩ | ⟨e6, h6⟩
        all_goals first
          | omega
          | (have hb : okB B = false := (by rw [Bool.eq_false_iff, Ne, okB_iff]; omega)
             go_wp2
             go_ret
             exact ⟨by rw [nameOk_no s k hks (by rw [HB.out]; exact hb)]; rfl, rfl⟩)
          | (have hb : okB B = true := (by rw [okB_iff]; omega)
             have HBB := Lib.hid hb
             clear hb
             go_wp2
             go_roundg (N - (k + 1))
             case measure => have := HMK.out; omega
             case rel => exact ⟨k + 1, by go_num, by omega, rfl, fun j hj => (by rcases Nat.lt_succ_iff_lt_or_eq.1 hj with h' | rfl; exact HOK.out j h'; rw [HB.out]; exact HBB.out), rfl⟩)
      · have hkl : k = N := by omega
        subst hkl
        go_wp2
        go_ret
        refine ⟨?_, rfl⟩
        rw [show nameOk s = true from hN.2 ⟨h0, fun i hi => hok i (by omega)⟩]
        rfl
  · have hN : nameOk s = false := by
      cases hq : nameOk s with
      | false => rfl
      | true => exact absurd ((nameOk_iff s).1 hq).1 h0
    rw [hN]
    clear hN
    obtain ⟨N, hNs⟩ : ∃ N, s.size = N := ⟨_, rfl⟩
    rw [hNs] at h0 hs
    by_cases h1 : N < 1
    · have h1' : (N : Int) < 1 := by omega
      go_enter Tryd.func27, Tryd.ntmps27
      go_wp2
      go_ret
      exact ⟨rfl, rfl⟩
    · have h1' : ¬ (N : Int) < 1 := by omega
      have h2' : (16 : Int) < (N : Int) := by omega
      go_enter Tryd.func27, Tryd.ntmps27
      go_wp2
      go_ret
      exact ⟨rfl, rfl⟩
end Go.Proofs.YtgbcklnnbeimhaaDoor
