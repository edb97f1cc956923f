/-
  WHAT IS PROVED: the statement SetTells of layer 1, for all bytes, ranges and sets: the walk.
-/
import Derived.Test.YtllfjomhfgfegaaLaw1
import Derived.Test.YtllfjomhfgfegaaEq4
import Derived.Test.YtllfjomhfgfegaaRefSet3
import Derived.Laws.BytesArg
set_option linter.unusedVariables false
set_option linter.unusedSimpArgs false
namespace Go.Proofs.Ytllfjomhfgfegaa
open Go Go.RowKit
attribute [local go_sem ↓] Go.wp_at_zero Go.wp_at_succ

theorem rd_now {w w' : World} {A : Option Addr} {xs : List Int} (h : RdB w w.heap.size A xs) (hb : Below w.heap.size w w') : RdB w' w'.heap.size A xs := (h.below hb).more hb.size

theorem conv_rd {w : World} {B n cap : Nat} {A : Option Addr} {xs : List Int} (h : RdB w B A xs) (hn : n = xs.length) : (convert 22 9 (.slice A n cap)).run Try.prog w = .ok (.string (strOfNums xs)) w := by
  subst hn
  cases A with
  | none =>
    have : xs = [] := by
      cases xs with
      | nil => rfl
      | cons x xs => obtain ⟨_, _, e, _⟩ := h 0 (by simp); cases e
    subst this
    exact run_convert_bytes_nil w 22 5 Try.underlying22 Try.underlying5 _ _ 9 Try.underlying9
  | some a =>
    by_cases h0 : xs.length = 0
    · have : xs = [] := List.eq_nil_of_length_eq_zero h0
      subst this
      rw [run_convert_bytes_string w 22 9 5 _ _ _ Try.underlying22 Try.underlying5 Try.underlying9, run_bytesToString w _ _ _ [] (by simp [loadCells, loadCellsFrom])]
      rfl
    · obtain ⟨b, off, e, _, hc⟩ := h.at (k := 0) (by omega)
      injection e with e
      subst e
      exact run_convert_bytes_arg w 22 5 Try.underlying22 Try.underlying5 b off _ _ xs rfl hc 9 Try.underlying9

theorem cnt_len (p : Nat → Bool) : cntP p = (allP p).length := (listP_len p 256).symm

set_option maxRecDepth 20000 in
set_option maxHeartbeats 8000000 in
theorem setTells_p (A : Option Addr) (n cap : Nat) (xs : List Int) (lo hi : Int) (p q : Nat → Bool) (x : Int) (w : World) (hn : n = xs.length) (hr : RdB w w.heap.size A xs) (hxs : ∀ k, k < xs.length → 0 ≤ xs.getD k 0 ∧ xs.getD k 0 ≤ 255) (hcap : n ≤ 9223372036854775807)
    (hl : 0 ≤ lo) (hl' : lo ≤ 255) (hh : 0 ≤ hi) (hh' : hi ≤ 255) (hx : 0 ≤ x) (hx' : x ≤ 255) :
    Calls Try.prog 3 #[.slice A n cap, .int .u8 lo, .int .u8 hi, .agg #[.int .u64 (word p 0), .int .u64 (word p 1), .int .u64 (word p 2), .int .u64 (word p 3)], .agg #[.int .u64 (word q 0), .int .u64 (word q 1), .int .u64 (word q 2), .int .u64 (word q 3)], .int .u8 x] w
      fun e w' => e = .returned (.bool true) ∧ Below w.heap.size w w' := by
  have eq4 := eq4
  have HN := Lib.hid hn
  have HX := Lib.hid hxs
  obtain ⟨m, hm⟩ : ∃ m, m = (allP p).length := ⟨_, rfl⟩
  have HM := Lib.hid hm
  clear hm
  have HL : Hid (xs.length ≤ 9223372036854775807) := by rw [← hn]; exact hcap
  clear hn hxs
  obtain ⟨w0, hw0⟩ : ∃ w0, w0 = (w.alloc (.cells #[.int .u64 (word p 0), .int .u64 (word p 1), .int .u64 (word p 2), .int .u64 (word p 3)] 25)).alloc (.cells #[.int .u64 (word q 0), .int .u64 (word q 1), .int .u64 (word q 2), .int .u64 (word q 3)] 25) := ⟨_, rfl⟩
  have bp : Box4 w0 w.heap.size p := by rw [hw0]; exact (Box4.new w p).alloc _
  have bq : Box4 w0 (w.heap.size + 1) q := by
    rw [hw0]
    have h := Box4.new (w.alloc (.cells #[.int .u64 (word p 0), .int .u64 (word p 1), .int .u64 (word p 2), .int .u64 (word p 3)] 25)) q
    rwa [World.size_alloc] at h
  have hB : Below w.heap.size w w0 := by rw [hw0]; exact ((Below.refl _ _).alloc (Nat.le_refl _) _).alloc (by simp) _
  have HW := Lib.hid hw0
  clear hw0
  by_cases hbig : 1000 < n
  · go_enter Try.func3, Try.ntmps3
    go_wp2_with fail
    rw [← HW.out]
    clear HW
    go_wp2_with (go_at_call 5; (with_reducible refine (up_p _).mono ?_); rintro e w1 ⟨rfl, hb1⟩; replace hB := gro hB hb1)
    go_ret
    exact ⟨rfl, hB⟩
  go_enter Try.func3, Try.ntmps3
  go_wp2_with fail
  rw [← HW.out]
  clear HW
  go_wp2_with (go_at_call 5; (with_reducible refine (up_p _).mono ?_); rintro e w1 ⟨rfl, hb1⟩; replace hB := gro hB hb1; replace bp := bp.stays hb1; replace bq := bq.stays hb1; obtain ⟨g0, g1, g2, g3⟩ := bp.cell; obtain ⟨h0, h1, h2, h3⟩ := bq.cell)
  clear hb1
  refine wp_region_noPanic ?_
  first | go_region_held (fun w' => w'.cell? ⟨w.heap.size, 0, none⟩ = some (.int .u64 (word p 0)) ∧ w'.cell? ⟨w.heap.size, 1, none⟩ = some (.int .u64 (word p 1)) ∧ w'.cell? ⟨w.heap.size, 2, none⟩ = some (.int .u64 (word p 2)) ∧ w'.cell? ⟨w.heap.size, 3, none⟩ = some (.int .u64 (word p 3)) ∧
      w'.cell? ⟨w.heap.size + 1, 0, none⟩ = some (.int .u64 (word q 0)) ∧ w'.cell? ⟨w.heap.size + 1, 1, none⟩ = some (.int .u64 (word q 1)) ∧ w'.cell? ⟨w.heap.size + 1, 2, none⟩ = some (.int .u64 (word q 2)) ∧ w'.cell? ⟨w.heap.size + 1, 3, none⟩ = some (.int .u64 (word q 3)))
    (first | exact ⟨g0, g1, g2, g3, h0, h1, h2, h3⟩ | (go_split_ands; refine ⟨?_, ?_, ?_, ?_, ?_, ?_, ?_, ?_⟩ <;> first | with_reducible assumption | with_reducible exact cell_stays ‹_› ‹_›))
    (first | (go_at_call 6; (with_reducible refine (of_p A n cap xs _ HN.out (rd_now hr hB.drew) HX.out HL.out).mono ?_); rintro e w4 ⟨rfl, hb4⟩; replace hB := gro hB.drew hb4; unfold setV)
           | (go_at_call 7; (with_reducible refine (rof_p A n cap xs _ HN.out (rd_now hr hB) HX.out HL.out).mono ?_); rintro e w5 ⟨rfl, hb5⟩; replace hB := gro hB hb5; unfold setV)
           | (go_at_call 8; (with_reducible refine (range_p lo hi _ (by omega) (by omega) (by omega) (by omega)).mono ?_); rintro e w6 ⟨rfl, hb6⟩; replace hB := gro hB hb6; unfold setV)
           | (go_at_call 9; (with_reducible refine (rrange_p lo hi _ (by omega) (by omega) (by omega) (by omega)).mono ?_); rintro e w7 ⟨rfl, hb7⟩; replace hB := gro hB hb7; unfold setV)
           | (go_at_call 10; (with_reducible refine (or_p p q _).mono ?_); rintro e w8 ⟨rfl, hb8⟩; replace hB := gro hB hb8; unfold setV)
           | (go_at_call 11; (with_reducible refine (ror_p p q _).mono ?_); rintro e w9 ⟨rfl, hb9⟩; replace hB := gro hB hb9; unfold setV)
           | (go_at_call 12; (with_reducible refine (not_p p _).mono ?_); rintro e wA ⟨rfl, hbA⟩; replace hB := gro hB hbA; unfold setV)
           | (go_at_call 13; (with_reducible refine (rnot_p p _).mono ?_); rintro e wC ⟨rfl, hbC⟩; replace hB := gro hB hbC; unfold setV))
        | fail
  refine NoPanic.normal ?_
  clear g0 g1 g2 g3 h0 h1 h2 h3 hb4 hb5 hb6 hb7 hb8 hb9 hbA
  rename_i hheld
  obtain ⟨g0, g1, g2, g3, h0, h1, h2, h3⟩ := hheld
  go_wp2_with (go_at_call 14; (with_reducible refine (rbytes_p p _).mono ?_); rintro e wD ⟨vD, rfl, hownD, hbD⟩; rw [← HM.out] at hownD; replace hB := gro hB hbD; obtain ⟨AD, capD, rfl, hnD, hrD, hAD⟩ := rd_own hownD; clear hnD hAD; have hD := Below.refl wD.heap.size wD; have k0 := cell_stays g0 hbD; have k1 := cell_stays g1 hbD; have k2 := cell_stays g2 hbD; have k3 := cell_stays g3 hbD)
  clear g0 g1 g2 g3 h0 h1 h2 h3 hbD hownD bp bq hr HX HN HL
  refine wp_region_noPanic ?_
  first | go_region_held (fun w' => w'.cell? ⟨w.heap.size, 0, none⟩ = some (.int .u64 (word p 0)) ∧ w'.cell? ⟨w.heap.size, 1, none⟩ = some (.int .u64 (word p 1)) ∧ w'.cell? ⟨w.heap.size, 2, none⟩ = some (.int .u64 (word p 2)) ∧ w'.cell? ⟨w.heap.size, 3, none⟩ = some (.int .u64 (word p 3)) ∧
      (convert 22 9 (.slice AD m capD)).run Try.prog w' = .ok (.string (strOfNums (allP p))) w')
    (first | exact ⟨k0, k1, k2, k3, conv_rd (rd_now hrD hD.drew) HM.out⟩ | (go_split_ands; refine ⟨?_, ?_, ?_, ?_, ?_⟩ <;> first | with_reducible assumption | with_reducible exact cell_stays ‹_› ‹_› | exact conv_rd (rd_now hrD hD) HM.out))
    (first | (go_at_call 15; (with_reducible refine (has_p p x _ (by omega) (by omega)).mono ?_); rintro e w4 ⟨rfl, hb4⟩; replace hB := gro hB.drew hb4; replace hD := gro hD.drew hb4)
           | (go_at_call 16; (with_reducible refine (rhas_p p x _ (by omega) (by omega)).mono ?_); rintro e w5 ⟨rfl, hb5⟩; replace hB := gro hB hb5; replace hD := gro hD hb5)
           | (go_at_call 17; (with_reducible refine (bytes_p p _).mono ?_); rintro e w6 ⟨v6, rfl, hown6, hb6⟩; replace hB := gro hB hb6; replace hD := gro hD hb6; rw [← HM.out] at hown6; obtain ⟨A6, cap6, rfl, hn6, hr6, hA6⟩ := rd_own hown6; have hcv := conv_rd (cap := cap6) hr6 HM.out; clear hn6 hA6 hown6 hr6)
           | (go_at_call 18; (with_reducible refine (count_p p _).mono ?_); rintro e w7 ⟨rfl, hb7⟩; replace hB := gro hB hb7; replace hD := gro hD hb7; rw [cnt_len p, ← HM.out]))
        | fail
  refine NoPanic.normal ?_
  go_wp2
  go_ret
  exact ⟨rfl, hB⟩

end Go.Proofs.Ytllfjomhfgfegaa
