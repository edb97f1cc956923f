/-
  WHAT IS PROVED: the statement SetBack of layer 1, for every two sets and bytes, no condition: the walk.
-/
import Derived.Test.YtllfjomhfgfegaaLaw1
import Derived.Test.YtllfjomhfgfegaaEq4
import Derived.Deep.RegionHeld3
import Derived.Deep.DrawnRows
set_option linter.unusedVariables false
set_option linter.unusedSimpArgs false
namespace Go.Proofs.Ytllfjomhfgfegaa
open Go Go.RowKit
attribute [local go_sem ↓] Go.wp_at_zero Go.wp_at_succ

theorem range_or (lo mid hi : Int) (h : lo ≤ mid) (h' : mid < hi) : setV (orP (rangeP lo mid) (rangeP (mid + 1) hi)) = setV (rangeP lo hi) := setV_congr fun x _ => by
  unfold orP rangeP
  rw [Bool.eq_iff_iff]
  simp
  omega
theorem notnot (p : Nat → Bool) : setV (notP (notP p)) = setV p := setV_congr fun x _ => by simp [notP]
theorem cnt_both (p : Nat → Bool) : IntKind.i64.wrap ((cntP p : Int) + (cntP (notP p) : Int)) = 256 := by
  have h : cntP p + cntP (notP p) = 256 := cntN_not 256 p
  rw [show ((cntP p : Int) + (cntP (notP p) : Int)) = 256 by omega]
  rfl

set_option maxRecDepth 20000 in
set_option maxHeartbeats 8000000 in
theorem setBack_p (p q : Nat → Bool) (lo mid hi x : Int) (w : World) (hl : 0 ≤ lo) (hl' : lo ≤ 255) (hm : 0 ≤ mid) (hm' : mid ≤ 255) (hh : 0 ≤ hi) (hh' : hi ≤ 255) (hx : 0 ≤ x) (hx' : x ≤ 255) :
    Calls Try.prog 4 #[.agg #[.int .u64 (word p 0), .int .u64 (word p 1), .int .u64 (word p 2), .int .u64 (word p 3)], .agg #[.int .u64 (word q 0), .int .u64 (word q 1), .int .u64 (word q 2), .int .u64 (word q 3)], .int .u8 lo, .int .u8 mid, .int .u8 hi, .int .u8 x] w
      fun e w' => e = .returned (.bool true) ∧ Below w.heap.size w w' := by
  have eq4 := eq4
  have hsum := cnt_both p
  have hnn : notP p x.toNat = !p x.toNat := rfl
  have hor : orP p q x.toNat = (p x.toNat || q x.toNat) := rfl
  have hrg : rangeP lo hi x.toNat = (decide (lo ≤ x) && decide (x ≤ hi)) := by unfold rangeP; rw [show ((x.toNat : Nat) : Int) = x by omega]
  cases hpx : p x.toNat
  all_goals
  obtain ⟨w0, hw0⟩ : ∃ w0, w0 = (w.alloc (.cells #[.int .u64 (word p 0), .int .u64 (word p 1), .int .u64 (word p 2), .int .u64 (word p 3)] 25)).alloc (.cells #[.int .u64 (word q 0), .int .u64 (word q 1), .int .u64 (word q 2), .int .u64 (word q 3)] 25) := ⟨_, rfl⟩
  have bp : Box4 w0 w.heap.size p := by rw [hw0]; exact (Box4.new w p).alloc _
  have bq : Box4 w0 (w.heap.size + 1) q := by
    rw [hw0]
    have h := Box4.new (w.alloc (.cells #[.int .u64 (word p 0), .int .u64 (word p 1), .int .u64 (word p 2), .int .u64 (word p 3)] 25)) q
    rwa [World.size_alloc] at h
  have hB : Below w.heap.size w w0 := by rw [hw0]; exact ((Below.refl _ _).alloc (Nat.le_refl _) _).alloc (by simp) _
  have HW := Lib.hid hw0
  clear hw0
  go_enter Try.func4, Try.ntmps4
  go_wp2_with fail
  rw [← HW.out]
  clear HW
  go_wp2_with (first
    | (go_at_call 5; (with_reducible refine (up_p _).mono ?_); rintro e w1 ⟨rfl, hb1⟩; replace hB := gro hB hb1; replace bp := bp.stays hb1; replace bq := bq.stays hb1; obtain ⟨c0, c1, c2, c3⟩ := bp.cell; obtain ⟨d0, d1, d2, d3⟩ := bq.cell)
    | (go_at_call 15; (with_reducible refine (has_p p x _ (by omega) (by omega)).mono ?_); rintro e w2 ⟨rfl, hb2⟩; rw [hpx]; replace hB := gro hB hb2; replace bp := bp.stays hb2; replace bq := bq.stays hb2; obtain ⟨e0, e1, e2, e3⟩ := bp.cell; obtain ⟨f0, f1, f2, f3⟩ := bq.cell)
    | (go_at_call 15; (with_reducible refine (has_p q x _ (by omega) (by omega)).mono ?_); rintro e w3 ⟨rfl, hb3⟩; replace hB := gro hB hb3; replace bp := bp.stays hb3; replace bq := bq.stays hb3; obtain ⟨g0, g1, g2, g3⟩ := bp.cell; obtain ⟨h0, h1, h2, h3⟩ := bq.cell))
  clear c0 c1 c2 c3 d0 d1 d2 d3 e0 e1 e2 e3 f0 f1 f2 f3
  clear hb1 hb2 hb3
  refine wp_region_noPanic ?_
  first | go_region_held (fun w' => w'.cell? ⟨w.heap.size, 0, none⟩ = some (.int .u64 (word p 0)) ∧ w'.cell? ⟨w.heap.size, 1, none⟩ = some (.int .u64 (word p 1)) ∧ w'.cell? ⟨w.heap.size, 2, none⟩ = some (.int .u64 (word p 2)) ∧ w'.cell? ⟨w.heap.size, 3, none⟩ = some (.int .u64 (word p 3)) ∧
      w'.cell? ⟨w.heap.size + 1, 0, none⟩ = some (.int .u64 (word q 0)) ∧ w'.cell? ⟨w.heap.size + 1, 1, none⟩ = some (.int .u64 (word q 1)) ∧ w'.cell? ⟨w.heap.size + 1, 2, none⟩ = some (.int .u64 (word q 2)) ∧ w'.cell? ⟨w.heap.size + 1, 3, none⟩ = some (.int .u64 (word q 3)))
    (first | exact ⟨g0, g1, g2, g3, h0, h1, h2, h3⟩ | (go_split_ands; refine ⟨?_, ?_, ?_, ?_, ?_, ?_, ?_, ?_⟩ <;> first | with_reducible assumption | with_reducible exact cell_stays ‹_› ‹_›))
    (first | (go_at_call 17; (with_reducible refine (bytes_p p _).mono ?_); rintro e w4 ⟨v, rfl, hown, hb4⟩; replace hB := gro hB.drew hb4; obtain ⟨A, cap, rfl, hn, hr, hA⟩ := rd_own hown)
           | (go_at_call 6; (with_reducible refine (of_p _ _ _ (allP p) _ rfl hr (allP_get p) (allP_le p)).mono ?_); rintro e w5 ⟨rfl, hb5⟩; replace hB := gro hB hb5; rw [setV_congr (memP_all p)]; unfold setV)
           | (go_at_call 12; (with_reducible refine (not_p _ _).mono ?_); rintro e w6 ⟨rfl, hb6⟩; replace hB := gro hB hb6; (try rw [notnot]); unfold setV)
           | (go_at_call 10; (with_reducible refine (or_p _ _ _).mono ?_); rintro e w7 ⟨rfl, hb7⟩; replace hB := gro hB hb7; unfold setV)
           | (go_at_call 15; (with_reducible refine (has_p _ x _ (by omega) (by omega)).mono ?_); rintro e w8 ⟨rfl, hb8⟩; replace hB := gro hB hb8; (first | (rw [hor, hpx]; simp only [Bool.false_or, Bool.true_or]) | (rw [hnn, hpx]; simp only [Bool.not_true, Bool.not_false])))
           | (go_at_call 18; (with_reducible refine (count_p _ _).mono ?_); rintro e w9 ⟨rfl, hb9⟩; replace hB := gro hB hb9))
        | fail
  all_goals (refine NoPanic.normal ?_)
  clear hsum hnn hor bp bq
  go_wp2_with (first
    | (go_at_call 8; (with_reducible refine (range_p _ _ _ (by omega) (by omega) (by omega) (by omega)).mono ?_); rintro e wA ⟨rfl, hbA⟩; replace hB := gro hB hbA; unfold setV)
    | (go_at_call 15; (with_reducible refine (has_p _ x _ (by omega) (by omega)).mono ?_); rintro e wC ⟨rfl, hbC⟩; replace hB := gro hB hbC; rw [hrg])
    | (go_at_call 10; (with_reducible refine (or_p _ _ _).mono ?_); rintro e wD ⟨rfl, hbD⟩; replace hB := gro hB hbD; rw [range_or lo mid hi (by omega) (by omega)]; unfold setV))
  all_goals go_ret
  all_goals exact ⟨rfl, hB⟩
end Go.Proofs.Ytllfjomhfgfegaa
