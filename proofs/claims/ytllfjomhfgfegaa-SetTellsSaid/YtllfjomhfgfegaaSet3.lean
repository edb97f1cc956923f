/-
  What set.Count, Of and Bytes do, whatever they are called with. Contracts for other texts; no statement of its own.
-/
import Derived.Test.YtllfjomhfgfegaaSet2
set_option linter.unusedVariables false
set_option linter.unusedSimpArgs false
namespace Go.Proofs.Ytllfjomhfgfegaa
open Go Go.RowKit

/-- How many bytes of the i-th word the set p has. -/
def cw (p : Nat → Bool) (i : Nat) : Nat := cntN (fun j => p (64 * i + j)) 64
theorem cw_le (p : Nat → Bool) (i : Nat) : cw p i ≤ 64 := cntN_le _ _
/-- How many bytes the set p has. -/
def cntP (p : Nat → Bool) : Nat := cntN p 256
theorem cntP_eq (p : Nat → Bool) : cntP p = cw p 0 + cw p 1 + cw p 2 + cw p 3 := by
  unfold cntP cw
  rw [show (256 : Nat) = 64 + (64 + (64 + 64)) from rfl]
  simp only [cntN_add]
  simp only [← Nat.add_assoc, Nat.mul_zero, Nat.zero_add, Nat.reduceMul, Nat.reduceAdd]
theorem cntP_le (p : Nat → Bool) : cntP p ≤ 256 := cntN_le _ _

set_option maxHeartbeats 400000 in
theorem ones_walk (a : Int) (w : World) (h : 0 ≤ a) :
    Calls Try.prog 20 #[.int .u64 a] w fun e w' => e = .returned (.int .i64 (st7 (st6 (st5 (st4 (st3 (st2 (st1 a)))))))) ∧ w = w' := by
  go_enter Try.func20, Try.ntmps20
  go_wp2
  go_ret
  exact ⟨rfl, rfl⟩

theorem ones_p (p : Nat → Bool) (i : Nat) (w : World) :
    Calls Try.prog 20 #[.int .u64 (word p i)] w fun e w' => e = .returned (.int .i64 (cw p i : Nat)) ∧ w = w' := by
  have h := ones_walk (word p i) w (word_nonneg p i)
  have e : st7 (st6 (st5 (st4 (st3 (st2 (st1 (word p i))))))) = ((cw p i : Nat) : Int) := by
    unfold word
    rw [ones_eq _ (wordN_lt p i)]
    unfold cw
    rw [cntN_congr 64 (wordN p i).testBit (fun j => p (64 * i + j)) fun j hj => by rw [wordN_test]; simp [hj]]
  rwa [e] at h

set_option maxHeartbeats 400000 in
theorem count_p (p : Nat → Bool) (w : World) :
    Calls Try.prog 18 #[.agg #[.int .u64 (word p 0), .int .u64 (word p 1), .int .u64 (word p 2), .int .u64 (word p 3)]] w fun e w' => e = .returned (.int .i64 (cntP p : Nat)) ∧ Below w.heap.size w w' := by
  have l0 := cw_le p 0
  have l1 := cw_le p 1
  have l2 := cw_le p 2
  have l3 := cw_le p 3
  rw [cntP_eq]
  have i0 : ∀ w : World, (Instr.index 25 (.agg #[.int .u64 (word p 0), .int .u64 (word p 1), .int .u64 (word p 2), .int .u64 (word p 3)]) (.int .i64 0)).run Try.prog w = .ok (.int .u64 (word p 0)) w := fun _ => by kernel_rfl
  have i1 : ∀ w : World, (Instr.index 25 (.agg #[.int .u64 (word p 0), .int .u64 (word p 1), .int .u64 (word p 2), .int .u64 (word p 3)]) (.int .i64 1)).run Try.prog w = .ok (.int .u64 (word p 1)) w := fun _ => by kernel_rfl
  have i2 : ∀ w : World, (Instr.index 25 (.agg #[.int .u64 (word p 0), .int .u64 (word p 1), .int .u64 (word p 2), .int .u64 (word p 3)]) (.int .i64 2)).run Try.prog w = .ok (.int .u64 (word p 2)) w := fun _ => by kernel_rfl
  have i3 : ∀ w : World, (Instr.index 25 (.agg #[.int .u64 (word p 0), .int .u64 (word p 1), .int .u64 (word p 2), .int .u64 (word p 3)]) (.int .i64 3)).run Try.prog w = .ok (.int .u64 (word p 3)) w := fun _ => by kernel_rfl
  go_enter Try.func18, Try.ntmps18
  go_wp2
  refine wp_loop_rounds 5 ?_
  iterate 5 (rw [rounds_succ]; go_wp2_with (go_at_call 20; (with_reducible refine (ones_p p _ _).mono ?_); rintro e w1 ⟨rfl, rfl⟩))
  go_ret
  refine ⟨congrArg Ending.returned ?_, (Below.refl _ _).alloc (Nat.le_refl _) _⟩
  show Value.int _ _ = _
  go_num

theorem mem_step (xs : List Int) (k : Nat) (hk : k < xs.length) (h0 : 0 ≤ xs.getD k 0) (x : Nat) : add1 (memP (xs.take k)) (xs.getD k 0).toNat x = memP (xs.take (k + 1)) x := by
  unfold add1 memP
  rw [List.take_succ_eq_append_getElem hk, List.any_append]
  rw [List.getD_eq_getElem?_getD, List.getElem?_eq_getElem hk] at *
  simp only [List.any_cons, List.any_nil, Bool.or_false, Option.getD_some] at *
  congr 1
  rw [Bool.eq_iff_iff]
  simp
  omega

set_option maxHeartbeats 800000 in
theorem of_p (A : Option Addr) (n cap : Nat) (xs : List Int) (w : World) (hn : n = xs.length) (hr : RdB w w.heap.size A xs) (hx : ∀ k, k < xs.length → 0 ≤ xs.getD k 0 ∧ xs.getD k 0 ≤ 255) (hm : xs.length ≤ 9223372036854775807) :
    Calls Try.prog 6 #[.slice A n cap] w fun e w' => e = .returned (setV (memP xs)) ∧ Below w.heap.size w w' := by
  have HN := Lib.hid hn
  have HX := Lib.hid hx
  rw [← hn] at hm
  clear hx hn
  go_enter Try.func6, Try.ntmps6
  go_wp2
  go_loopw [8] (fun i wr => ∃ k : Nat, ∃ p0, k ≤ n ∧ i = .int .i64 k ∧ Box4 wr w.heap.size p0 ∧ Box4 wr (w.heap.size + 1) (memP (xs.take k)) ∧ Below w.heap.size w wr) (fun i _ => n - (intOf i).toNat)
  case atStart =>
    refine ⟨0, noneP, Nat.zero_le _, rfl, (Box4.new0 w).alloc _, ?_, ((Below.refl _ _).alloc (Nat.le_refl _) _).alloc (by simp) _⟩
    have h := Box4.new0 (w.alloc (.cells #[.int .u64 0, .int .u64 0, .int .u64 0, .int .u64 0] 25))
    rw [World.size_alloc] at h
    exact h.congr fun x _ => by simp [memP, noneP]
  case round =>
    obtain ⟨k, p0, hk, rfl, b0, b1, hnx⟩ := hrel
    have hs := b1.lt
    obtain ⟨c0, c1, c2, c3⟩ := b1.cell
    by_cases hlt : k < n
    · have hkx : k < xs.length := by rw [← HN.out]; exact hlt
      obtain ⟨b, off, rfl, hbB, hc⟩ := hr k hkx
      have hx := HX.out k hkx
      have hc1 := (hnx.cell (p := ⟨b, off + k, none⟩) hbB).trans hc
      have HM := Lib.hid (mem_step xs k hkx hx.1)
      obtain ⟨v, hv⟩ : ∃ v, v = xs.getD k 0 := ⟨_, rfl⟩
      rw [← hv] at hx hc1 HM
      clear hc hv hkx hr
      go_wp2_with (go_at_call 19; (with_reducible refine (with_p (memP (xs.take k)) v _ (by omega) (by omega)).mono ?_); rintro e w1 ⟨rfl, hb1⟩; unfold setV; obtain ⟨d0, d1, d2, d3⟩ := (b1.stays hb1).cell; obtain ⟨g0, g1, g2, g3⟩ := (b1.stays hb1).frozen)
      go_roundw
      case rel =>
        refine ⟨k + 1, p0, by omega, by go_num, (b0.stays hb1).putFar (g' := w.heap.size + 1) (by omega) _, ?_, below_put4 (g := w.heap.size + 1) (hnx.trans (hb1.mono (by omega))) (by omega) _⟩
        exact ((b1.stays hb1).put (add1 (memP (xs.take k)) v.toNat)).congr fun x _ => HM.out x
      case measure => simp [intOf]; omega
    · obtain ⟨d0, d1, d2, d3⟩ := b0.cell
      obtain ⟨g0, g1, g2, g3⟩ := b0.frozen
      go_wp2
      refine bodyPost_ret (v := setV (memP (xs.take k))) ?_ rfl ⟨congrArg Ending.returned (setV_congr fun x _ => ?_), below_put4 (g := w.heap.size) hnx (Nat.le_refl _) (memP (xs.take k))⟩
      · unfold setV
        simp [results, Try.results6, go_sem, d0, d1, d2, d3]
      · have := HN.out
        rw [List.take_of_length_le (by omega)]

end Go.Proofs.Ytllfjomhfgfegaa
