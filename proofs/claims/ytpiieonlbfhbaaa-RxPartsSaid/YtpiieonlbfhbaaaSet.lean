/-
  What each function of package set does, whatever it is called with: Has, with, Of, Range, Or, Not, Count, Bytes. Contracts for other texts; no statement of its own.
-/
import Derived.Test.YtpiieonlbfhbaaaSetLists
set_option linter.unusedVariables false
set_option linter.unusedSimpArgs false
namespace Go.Proofs.Ytpiieonlbfhbaaa
open Go Go.RowKit

set_option maxHeartbeats 400000 in
theorem with_p (p : Nat → Bool) (b : Int) (w : World) (hb : 0 ≤ b) (hb' : b ≤ 255) :
    Calls Try.prog 64 #[.agg #[.int .u64 (word p 0), .int .u64 (word p 1), .int .u64 (word p 2), .int .u64 (word p 3)], .int .u8 b] w fun e w' => e = .returned (setV (add1 p b.toNat)) ∧ Below w.heap.size w w' := by
  have HO := Lib.hid (add1_or p b hb hb')
  have HW := Lib.hid (add1_words p b.toNat)
  have hd : (b / 64).toNat = b.toNat / 64 := by omega
  have HD := Lib.hid hd
  clear hd
  rcases (show b / 64 = 0 ∨ b / 64 = 1 ∨ b / 64 = 2 ∨ b / 64 = 3 by omega) with h | h | h | h
  all_goals
    go_enter Try.func64, Try.ntmps64
    go_wp2
    have ho := HO.out
    have hw := HW.out
    have hd := HD.out
    rw [h] at ho hd
    refine bodyPost_ret (v := setV (add1 p b.toNat)) ?_ rfl ⟨rfl, ((Below.refl _ _).alloc (Nat.le_refl _) _).alloc (by simp) _⟩
    unfold setV
  · rw [hw 1 (by omega), hw 2 (by omega), hw 3 (by omega), show word (add1 p b.toNat) 0 = _ from ho.symm]
    simp [results, Try.results64, go_sem]
  · rw [hw 0 (by omega), hw 2 (by omega), hw 3 (by omega), show word (add1 p b.toNat) 1 = _ from ho.symm]
    simp [results, Try.results64, go_sem]
  · rw [hw 0 (by omega), hw 1 (by omega), hw 3 (by omega), show word (add1 p b.toNat) 2 = _ from ho.symm]
    simp [results, Try.results64, go_sem]
  · rw [hw 0 (by omega), hw 1 (by omega), hw 2 (by omega), show word (add1 p b.toNat) 3 = _ from ho.symm]
    simp [results, Try.results64, go_sem]

theorem range_step (lo k : Int) (h : lo ≤ k) (h0 : 0 ≤ k) (x : Nat) : add1 (rangeP lo (k - 1)) k.toNat x = rangeP lo (k + 1 - 1) x := by
  unfold add1 rangeP
  rw [Bool.eq_iff_iff]
  simp
  omega

theorem range_none (lo : Int) (x : Nat) : noneP x = rangeP lo (lo - 1) x := by
  unfold noneP rangeP
  rw [Bool.eq_iff_iff]
  simp
  omega

set_option maxHeartbeats 800000 in
theorem range_p (lo hi : Int) (w : World) (hl : 0 ≤ lo) (hl' : lo ≤ 255) (hh : 0 ≤ hi) (hh' : hi ≤ 255) :
    Calls Try.prog 53 #[.int .u8 lo, .int .u8 hi] w fun e w' => e = .returned (setV (rangeP lo hi)) ∧ Below w.heap.size w w' := by
  go_enter Try.func53, Try.ntmps53
  go_wp2
  go_loopw [6] (fun i wr => ∃ k : Int, ∃ p0, lo ≤ k ∧ (k ≤ hi + 1 ∨ k = lo) ∧ i = .int .i64 k ∧ Box4 wr w.heap.size p0 ∧ Box4 wr (w.heap.size + 1) (rangeP lo (k - 1)) ∧ Below w.heap.size w wr) (fun i _ => (hi + 1 - intOf i).toNat)
  case atStart =>
    refine ⟨lo, noneP, by omega, by omega, rfl, (Box4.new0 w).alloc _, ?_, ((Below.refl _ _).alloc (Nat.le_refl _) _).alloc (by simp) _⟩
    have h := Box4.new0 (w.alloc (.cells #[.int .u64 0, .int .u64 0, .int .u64 0, .int .u64 0] 25))
    rw [World.size_alloc] at h
    exact h.congr fun x _ => range_none lo x
  case round =>
    obtain ⟨k, p0, hk, hk2, rfl, b0, b1, hnx⟩ := hrel
    have hs := b1.lt
    obtain ⟨c0, c1, c2, c3⟩ := b1.cell
    by_cases hlt : k ≤ hi
    · go_wp2_with (go_at_call 64; (with_reducible refine (with_p (rangeP lo (k-1)) k _ (by omega) (by omega)).mono ?_); rintro e w1 ⟨rfl, hb1⟩; unfold setV; obtain ⟨d0, d1, d2, d3⟩ := (b1.stays hb1).cell; obtain ⟨g0, g1, g2, g3⟩ := (b1.stays hb1).frozen)
      go_roundw
      case rel =>
        refine ⟨k + 1, p0, by omega, by omega, rfl, (b0.stays hb1).putFar (g' := w.heap.size + 1) (by omega) _, ?_, below_put4 (g := w.heap.size + 1) (hnx.trans (hb1.mono (by omega))) (by omega) _⟩
        exact ((b1.stays hb1).put (add1 (rangeP lo (k - 1)) k.toNat)).congr fun x _ => range_step lo k hk (by omega) x
      case measure => simp [intOf]; omega
    · obtain ⟨d0, d1, d2, d3⟩ := b0.cell
      obtain ⟨g0, g1, g2, g3⟩ := b0.frozen
      go_wp2
      refine bodyPost_ret (v := setV (rangeP lo (k - 1))) ?_ rfl ⟨congrArg Ending.returned (setV_congr fun x _ => ?_), below_put4 (g := w.heap.size) hnx (Nat.le_refl _) (rangeP lo (k - 1))⟩
      · unfold setV
        simp [results, Try.results53, go_sem, d0, d1, d2, d3]
      · unfold rangeP
        rw [Bool.eq_iff_iff]
        simp
        omega

end Go.Proofs.Ytpiieonlbfhbaaa
