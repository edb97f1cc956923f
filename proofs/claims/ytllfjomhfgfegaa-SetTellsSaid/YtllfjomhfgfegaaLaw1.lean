/-
  The head that all statements of layer 1 begin with ('up') is true, whatever the world. A contract for other texts; no statement of its own.
-/
import Derived.Test.YtllfjomhfgfegaaSet4
set_option linter.unusedVariables false
set_option linter.unusedSimpArgs false
namespace Go.Proofs.Ytllfjomhfgfegaa
open Go Go.RowKit

theorem rd_new1 (w : World) (v : Int) : RdB (w.alloc (.cells #[.int .u8 v] 5)) (w.alloc (.cells #[.int .u8 v] 5)).heap.size (some ⟨w.heap.size, 0, none⟩) [v] := by
  intro k hk
  have : k = 0 := by simp at hk; omega
  subst this
  exact ⟨w.heap.size, 0, rfl, by simp, by simp⟩

theorem up_cnt : cntP (rangeP 97 99) = 3 := by decide +kernel
theorem up_mem : memP [200] 200 = true := by decide +kernel

set_option maxRecDepth 20000 in
set_option maxHeartbeats 400000 in
theorem up_p (w : World) : Calls Try.prog 5 #[] w fun e w' => e = .returned (.bool true) ∧ Below w.heap.size w w' := by
  have hc := up_cnt
  have hm := up_mem
  have hn : notP (memP [200]) 200 = false := by simp [notP, hm]
  have hnot : ∀ (x : Bool) (w : World), (Op.unary .not (.bool x)).run Try.prog w = .ok (.bool (!x)) w := fun _ _ => rfl
  have hB := Below.refl w.heap.size w
  go_enter Try.func5, Try.ntmps5
  go_wp2_with (first
    | (go_at_call 8; (with_reducible refine (range_p 97 99 _ (by omega) (by omega) (by omega) (by omega)).mono ?_); rintro e w1 ⟨rfl, hb1⟩; replace hB := gro hB hb1; unfold setV)
    | (go_at_call 18; (with_reducible refine (count_p (rangeP 97 99) _).mono ?_); rintro e w2 ⟨rfl, hb2⟩; replace hB := gro hB hb2; rw [hc])
    | (go_at_call 6; (with_reducible refine (of_p _ 1 1 [200] _ rfl (rd_new1 _ _) (by intro k hk; simp at hk; subst hk; simp) (by simp)).mono ?_); rintro e w3 ⟨rfl, hb3⟩; replace hB := gro1 hB hb3; unfold setV)
    | (go_at_call 12; (with_reducible refine (not_p (memP [200]) _).mono ?_); rintro e w4 ⟨rfl, hb4⟩; replace hB := gro hB hb4; unfold setV)
    | (go_at_call 15; (with_reducible refine (has_p _ 200 _ (by omega) (by omega)).mono ?_); rintro e w5 ⟨rfl, hb5⟩; replace hB := gro hB hb5; rw [show (200 : Int).toNat = 200 from rfl]))
  go_ret
  exact ⟨rfl, hB⟩
end Go.Proofs.Ytllfjomhfgfegaa
