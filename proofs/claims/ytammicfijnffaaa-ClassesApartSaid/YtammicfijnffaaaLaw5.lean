/-
  The head of layer 5's statements. Contracts for other texts; no statement of its own.
-/
import Derived.Test.YtammicfijnffaaaClassOf
import Derived.Deep.RegionHeld3
import Derived.Shelf.RegionOpen
set_option linter.unusedVariables false
set_option linter.unusedSimpArgs false
namespace Go.Proofs.Ytammicfijnffaaa
open Go Go.RowKit
attribute [local go_sem ↓] Go.wp_at_zero Go.wp_at_succ

/-- The set of byte 1 alone. -/
def oneP (b : Nat) : Bool := b == 1
theorem oneP_words : word oneP 0 = 2 ∧ word oneP 1 = 0 ∧ word oneP 2 = 0 ∧ word oneP 3 = 0 := by
  refine ⟨?_, ?_, ?_, ?_⟩ <;> decide +kernel
theorem oneP_cls : numK (keyL [oneP]) 0 = 0 ∧ numK (keyL [oneP]) 1 = 1 ∧ numK (keyL [oneP]) 2 = 0 ∧ cntK (keyL [oneP]) 256 = 2 := by
  refine ⟨?_, ?_, ?_, ?_⟩ <;> decide +kernel

theorem gro2 {w a b : World} {o : Obj} (h : Below w.heap.size w a) (hb : Below a.heap.size (a.alloc o) b) : Below w.heap.size w b := (h.alloc h.size o).trans (hb.mono h.size)

set_option maxRecDepth 20000 in
set_option maxHeartbeats 4000000 in
theorem up5_p (w : World) : Calls Try.prog 16 #[] w fun e w' => e = .returned (.bool true) ∧ Below w.heap.size w w' := by
  have hz1 : ∀ w : World, Sem.run Try.prog (zeroValue 52) w = .ok (.agg (arrV 256 fun _ => 0)) w := fun _ => by kernel_rfl
  have HC1 : Hid (∀ w, Calls Try.prog 17 #[.slice none 0 0] w (RetCls w [])) := fun w => classof_p w none 0 [] (fun k h => by simp at h) (by simp)
  have HC2 : Hid (∀ (w : World) (g : Nat), w.heap.size = g → Calls Try.prog 17 #[.slice (some ⟨g, 0, none⟩) 1 1] (w.alloc (.cells #[.int .u64 2, .int .u64 0, .int .u64 0, .int .u64 0] 26)) (RetCls (w.alloc (.cells #[.int .u64 2, .int .u64 0, .int .u64 0, .int .u64 0] 26)) [oneP])) := fun w g hg => by
    subst hg
    refine classof_p _ _ 1 [oneP] (fun k h => ⟨w.heap.size, 0, rfl, by simp, fun q hq => ?_⟩) (by simp)
    have hb := Box4.new w oneP
    rw [oneP_words.1, oneP_words.2.1, oneP_words.2.2.1, oneP_words.2.2.2] at hb
    obtain ⟨e0, e1, e2, e3⟩ := oneP_words
    have hk : k = 0 := by simp at h; exact h
    subst hk
    rw [cell_of_row _ w.heap.size (0 + 0 * 4 + q) _ 26 (0, 0) hb]
    match q, hq with
    | 0, _ => simp [e0]
    | 1, _ => simp [e1]
    | 2, _ => simp [e2]
    | 3, _ => simp [e3]
  obtain ⟨n0, n1, n2, n3⟩ := oneP_cls
  have m0 := numK_nil 255
  have m1 := cntK_nil 255
  go_enter Try.func16, Try.ntmps16
  go_wp2_with (first
    | (go_at_call 17; (with_reducible refine (HC1.out _).mono ?_); rintro e w1 ⟨rfl, hb1⟩; rw [m1])
    | (refine wpList_lay256 (g := w1.heap.size) (F := fun _ => 0) (G := numK (keyL [])) rfl rfl (BoxN.new w1 _ _ _) (fun w2 b2 hb2 hs2 => ?_); go_simp)
    | (go_at_call 17; (refine (HC2.out w2 _ (by rw [hs2, World.size_alloc])).mono ?_); rintro e w3 ⟨rfl, hb3⟩; rw [n3]; have b3 := (b2.alloc (.cells #[.int .u64 2, .int .u64 0, .int .u64 0, .int .u64 0] 26)).stays hb3)
    | (refine wpList_lay256 (g := w3.heap.size) (F := fun _ => 0) (G := numK (keyL [oneP])) rfl rfl (BoxN.new w3 _ _ _) (fun w4 b4 hb4 hs4 => ?_); have hl3 := b3.lt; have b5 := (b3.alloc (.cells (arrV 256 fun _ => 0) 52)).below hb4 hl3; have d0 := b5.cell 255 (by omega); rw [m0] at d0; have e0 := b4.cell 0 (by omega); have e1 := b4.cell 1 (by omega); have e2 := b4.cell 2 (by omega); rw [n0] at e0; rw [n1] at e1; rw [n2] at e2; go_simp))
  go_ret
  exact ⟨rfl, gro2 (gro1 (gro2 hb1 hb2) hb3) hb4⟩

end Go.Proofs.Ytammicfijnffaaa
