/-
  Several texts of this proof in one file: RefRd4. No statement of its own.
-/
import Derived.Test.YtccbeimcggamiaaDoorMk2
import Derived.Deep.RegionLaw
set_option linter.unusedVariables false
set_option linter.unusedSimpArgs false

/-
  The document's own reader of patterns: Digits, Words, wide, item, class, One: what they do, as functions of the reader's state. Contracts for other texts; no statement of its own.
-/
namespace Go.Proofs.YtccbeimcggamiaaDoor
open Go Go.RowKit
attribute [local go_sem ↓] Go.wp_at_zero Go.wp_at_succ

def digP : Nat → Bool := rangeP 48 57
def wordP : Nat → Bool := orP (orP digP (memP [95])) (orP (rangeP 97 122) (rangeP 65 90))

set_option maxHeartbeats 400000 in
theorem digits_p (w : World) : Calls Tryd.prog 116 #[] w fun e w' => e = .returned (setV digP) ∧ Below w.heap.size w w' := by
  have b0 := Box4.new0 w
  have hB : Below w.heap.size w (w.alloc (.cells #[.int .u64 0, .int .u64 0, .int .u64 0, .int .u64 0] 26)) := (Below.refl _ _).alloc (Nat.le_refl _) _
  generalize hw0 : w.alloc (.cells #[.int .u64 0, .int .u64 0, .int .u64 0, .int .u64 0] 26) = w0 at *
  have HW := Lib.hid hw0
  clear hw0
  go_enter Tryd.func116, Tryd.ntmps116
  go_wp2_with fail
  rw [HW.out]
  clear HW
  go_wp2_with (go_at_call 119; (with_reducible refine (rrange_p 48 57 _ (by omega) (by omega) (by omega) (by omega)).mono ?_); rintro e w1 ⟨rfl, hb1⟩; unfold setV; obtain ⟨d0, d1, d2, d3⟩ := (b0.stays hb1).cell; obtain ⟨g0, g1, g2, g3⟩ := (b0.stays hb1).frozen)
  refine bodyPost_ret (v := setV digP) ?_ rfl ⟨rfl, below_put4 (g := w.heap.size) (gro hB hb1) (Nat.le_refl _) digP⟩
  unfold setV digP
  simp [results, Tryd.results116, go_sem, d0, d1, d2, d3]

set_option maxRecDepth 20000 in
set_option maxHeartbeats 2000000 in
theorem words_p (w : World) : Calls Tryd.prog 117 #[] w fun e w' => e = .returned (setV wordP) ∧ Below w.heap.size w w' := by
  have b0 := Box4.new0 w
  have hB : Below w.heap.size w (w.alloc (.cells #[.int .u64 0, .int .u64 0, .int .u64 0, .int .u64 0] 26)) := (Below.refl _ _).alloc (Nat.le_refl _) _
  generalize hw0 : w.alloc (.cells #[.int .u64 0, .int .u64 0, .int .u64 0, .int .u64 0] 26) = w0 at *
  have HW := Lib.hid hw0
  clear hw0
  go_enter Tryd.func117, Tryd.ntmps117
  go_wp2_with fail
  rw [HW.out]
  clear HW
  go_wp2_with (first
    | (go_at_call 116; (with_reducible refine (digits_p _).mono ?_); rintro e w1 ⟨rfl, hb1⟩; replace hB := gro hB hb1; replace b0 := b0.stays hb1; unfold setV)
    | (go_at_call 110; (with_reducible refine (rof_p _ 1 1 [95] _ rfl (rd_new1 _ _) (by intro k hk; simp at hk; subst hk; simp) (by simp)).mono ?_); rintro e w2 ⟨rfl, hb2⟩; replace hB := gro1 hB hb2; replace b0 := (b0.alloc _).stays hb2; unfold setV)
    | (go_at_call 115; (with_reducible refine (ror_p _ _ _).mono ?_); rintro e w3 ⟨rfl, hb3⟩; replace hB := gro hB hb3; replace b0 := b0.stays hb3; unfold setV))
  have b1 := Box4.new w3 (orP digP (memP [95]))
  replace b0 := b0.alloc (.cells #[.int .u64 (word (orP digP (memP [95])) 0), .int .u64 (word (orP digP (memP [95])) 1), .int .u64 (word (orP digP (memP [95])) 2), .int .u64 (word (orP digP (memP [95])) 3)] 26)
  replace hB := hB.alloc hB.size (.cells #[.int .u64 (word (orP digP (memP [95])) 0), .int .u64 (word (orP digP (memP [95])) 1), .int .u64 (word (orP digP (memP [95])) 2), .int .u64 (word (orP digP (memP [95])) 3)] 26)
  generalize w3.alloc (.cells #[.int .u64 (word (orP digP (memP [95])) 0), .int .u64 (word (orP digP (memP [95])) 1), .int .u64 (word (orP digP (memP [95])) 2), .int .u64 (word (orP digP (memP [95])) 3)] 26) = w4 at *
  obtain ⟨c0, c1, c2, c3⟩ := b1.cell
  go_region_law (first
    | (go_simp; go_at_call 119; (with_reducible refine (rrange_p 97 122 _ (by omega) (by omega) (by omega) (by omega)).mono ?_); rintro e w5 ⟨rfl, hb5⟩; replace hb5 := undrew hb5; have hB5 := gro hB hb5; have b05 := b0.stays hb5; have b15 := b1.stays hb5; obtain ⟨k0, k1, k2, k3⟩ := b15.cell; unfold setV)
    | (go_simp; go_at_call 119; (with_reducible refine (rrange_p 65 90 _ (by omega) (by omega) (by omega) (by omega)).mono ?_); rintro e w6 ⟨rfl, hb6⟩; have hB6 := gro hB5 hb6; have b06 := b05.stays hb6; have b16 := b15.stays hb6; obtain ⟨l0, l1, l2, l3⟩ := b16.cell; unfold setV)
    | (go_simp; go_at_call 115; (with_reducible refine (ror_p (rangeP 97 122) (rangeP 65 90) _).mono ?_); rintro e w7 ⟨rfl, hb7⟩; have hB7 := gro hB6 hb7; have b07 := b06.stays hb7; have b17 := b16.stays hb7; obtain ⟨m0, m1, m2, m3⟩ := b17.cell; unfold setV)
    | (go_simp; go_at_call 115; (with_reducible refine (ror_p (orP digP (memP [95])) (orP (rangeP 97 122) (rangeP 65 90)) _).mono ?_); rintro e w8 ⟨rfl, hb8⟩; have hB8 := gro hB7 hb8; unfold setV; obtain ⟨d0, d1, d2, d3⟩ := (b07.stays hb8).cell; obtain ⟨g0, g1, g2, g3⟩ := (b07.stays hb8).frozen))
  all_goals go_wp2
  all_goals
    refine bodyPost_ret (v := setV wordP) ?_ rfl ⟨rfl, below_put4 (g := w.heap.size) hB8 (Nat.le_refl _) wordP⟩
    unfold setV wordP
    simp [results, Tryd.results117, go_sem, d0, d1, d2, d3]

/-- The set of backslash d, of backslash w; or neither. -/
def wideP (c : Int) : Nat → Bool := if c = 100 then digP else if c = 119 then wordP else noneP
def isWide (c : Int) : Bool := c == 100 || c == 119

set_option maxHeartbeats 400000 in
theorem wide_p (w : World) (c : Int) : Calls Tryd.prog 111 #[.int .i64 c] w fun e w' => e = .returned (.tuple #[setV (wideP c), .bool (isWide c)]) ∧ Below w.heap.size w w' := by
  have b0 := Box4.new0 w
  have hB : Below w.heap.size w (w.alloc (.cells #[.int .u64 0, .int .u64 0, .int .u64 0, .int .u64 0] 26)) := (Below.refl _ _).alloc (Nat.le_refl _) _
  generalize hw0 : w.alloc (.cells #[.int .u64 0, .int .u64 0, .int .u64 0, .int .u64 0] 26) = w0 at *
  have HW := Lib.hid hw0
  clear hw0
  by_cases e1 : c = 100
  · have x1 : wideP c = digP := by unfold wideP; rw [if_pos e1]
    have x2 : isWide c = true := by unfold isWide; simp [e1]
    rw [x1, x2]
    clear x1 x2
    have e1' : (c == 100) = true := by simp [e1]
    clear e1
    go_enter Tryd.func111, Tryd.ntmps111
    go_wp2_with fail
    rw [HW.out]
    clear HW
    go_wp2_with (go_at_call 116; (with_reducible refine (digits_p _).mono ?_); rintro e w1 ⟨rfl, hb1⟩; unfold setV; obtain ⟨d0, d1, d2, d3⟩ := (b0.stays hb1).cell; obtain ⟨g0, g1, g2, g3⟩ := (b0.stays hb1).frozen)
    refine bodyPost_ret (v := .tuple #[setV digP, .bool true]) ?_ rfl ⟨rfl, below_put4 (g := w.heap.size) (gro hB hb1) (Nat.le_refl _) digP⟩
    unfold setV
    simp [results, Tryd.results111, go_sem, d0, d1, d2, d3]
  · have e1' : (c == 100) = false := by simp [e1]
    by_cases e2 : c = 119
    · have x1 : wideP c = wordP := by unfold wideP; rw [if_neg e1, if_pos e2]
      have x2 : isWide c = true := by unfold isWide; simp [e2]
      rw [x1, x2]
      clear x1 x2
      have e2' : (c == 119) = true := by simp [e2]
      clear e1 e2
      go_enter Tryd.func111, Tryd.ntmps111
      go_wp2_with fail
      rw [HW.out]
      clear HW
      go_wp2_with (go_at_call 117; (with_reducible refine (words_p _).mono ?_); rintro e w1 ⟨rfl, hb1⟩; unfold setV; obtain ⟨d0, d1, d2, d3⟩ := (b0.stays hb1).cell; obtain ⟨g0, g1, g2, g3⟩ := (b0.stays hb1).frozen)
      refine bodyPost_ret (v := .tuple #[setV wordP, .bool true]) ?_ rfl ⟨rfl, below_put4 (g := w.heap.size) (gro hB hb1) (Nat.le_refl _) wordP⟩
      unfold setV
      simp [results, Tryd.results111, go_sem, d0, d1, d2, d3]
    · have x1 : wideP c = noneP := by unfold wideP; rw [if_neg e1, if_neg e2]
      have x2 : isWide c = false := by unfold isWide; simp [e1, e2]
      rw [x1, x2]
      clear x1 x2
      have e2' : (c == 119) = false := by simp [e2]
      clear e1 e2
      obtain ⟨d0, d1, d2, d3⟩ := b0.cell
      obtain ⟨g0, g1, g2, g3⟩ := b0.frozen
      simp only [word_none] at d0 d1 d2 d3
      go_enter Tryd.func111, Tryd.ntmps111
      go_wp2
      refine bodyPost_ret (v := .tuple #[setV noneP, .bool false]) ?_ rfl ⟨rfl, (Below.refl _ _).alloc (Nat.le_refl _) _⟩
      unfold setV
      simp only [word_none]
      simp [results, Tryd.results111, go_sem]

end Go.Proofs.YtccbeimcggamiaaDoor
