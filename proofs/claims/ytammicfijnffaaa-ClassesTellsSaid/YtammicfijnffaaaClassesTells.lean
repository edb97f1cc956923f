/-
  The walk of ClassesTells. Contracts for other texts; no statement of its own.
-/
import Derived.Test.YtammicfijnffaaaClassRef
import Derived.Test.YtammicfijnffaaaLaw5
import Derived.Test.YtammicfijnffaaaEq256
set_option linter.unusedVariables false
set_option linter.unusedSimpArgs false
namespace Go.Proofs.Ytammicfijnffaaa
open Go Go.RowKit
attribute [local go_sem ↓] Go.wp_at_zero Go.wp_at_succ

set_option maxRecDepth 20000 in
set_option maxHeartbeats 4000000 in
theorem classestells_p (w : World) (A : Option Addr) (c : Nat) (l : List (Nat → Bool)) (hr : RdS w w.heap.size A l) (hlen : l.length ≤ 9223372036854775807) :
    Calls Try.prog 4 #[.slice A l.length c] w fun e w' => e = .returned (.bool true) ∧ Below w.heap.size w w' := by
  have hz1 : ∀ w : World, Sem.run Try.prog (zeroValue 52) w = .ok (.agg (arrV 256 fun _ => 0)) w := fun _ => by kernel_rfl
  have HC1 : Hid (∀ w', Below w.heap.size w w' → Calls Try.prog 17 #[.slice A l.length c] w' (RetCls w' l)) := fun w' hb => classof_p w' A c l ((hr.below hb).more hb.size) hlen
  have HC2 : Hid (∀ w', Below w.heap.size w w' → Calls Try.prog 18 #[.slice A l.length c] w' (RetCls w' l)) := fun w' hb => rclasses_p w' A c l ((hr.below hb).more hb.size) hlen
  generalize hL : l.length = L at *
  by_cases h40 : L ≤ 40
  · go_enter Try.func4, Try.ntmps4
    go_wp2_with (first
      | (go_at_call 16; (with_reducible refine (up5_p _).mono ?_); rintro e w1 ⟨rfl, hb1⟩)
      | (go_at_call 17; (with_reducible refine (HC1.out _ hb1).mono ?_); rintro e w2 ⟨rfl, hb2⟩; have hb2' := gro hb1 hb2)
      | (refine wpList_lay256 (g := w2.heap.size) (F := fun _ => 0) (G := numK (keyL l)) rfl rfl (BoxN.new w2 _ _ _) (fun w3 b3 hb3 hs3 => ?_); have hb3' := gro2 hb2' hb3; go_simp)
      | (go_at_call 18; (with_reducible refine (HC2.out _ hb3').mono ?_); rintro e w4 ⟨rfl, hb4⟩; have hb4' := gro hb3' hb4; have b4 := b3.stays hb4)
      | (refine wpList_lay256 (g := w4.heap.size) (F := fun _ => 0) (G := numK (keyL l)) rfl rfl (BoxN.new w4 _ _ _) (fun w5 b5 hb5 hs5 => ?_); have hb5' := gro2 hb4' hb5; have hl4 := b4.lt; have b6 := (b4.alloc (.cells (arrV 256 fun _ => 0) 52)).below hb5 hl4; go_simp)
      | (refine wpList_load256g (g := w2.heap.size) (F := numK (keyL l)) (by rfl) rfl b6 ?_; go_simp)
      | (refine wpList_load256g (g := w4.heap.size) (F := numK (keyL l)) (by rfl) rfl b5 ?_; go_simp)
      | (refine wpList_eq256g (F := numK (keyL l)) (by rfl) rfl rfl ?_; go_simp))
    go_ret
    exact ⟨rfl, hb5'⟩
  · go_enter Try.func4, Try.ntmps4
    go_wp2_with (go_at_call 16; (with_reducible refine (up5_p _).mono ?_); rintro e w1 ⟨rfl, hb1⟩)
    go_ret
    exact ⟨rfl, hb1⟩
end Go.Proofs.Ytammicfijnffaaa
