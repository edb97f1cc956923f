/-
  How Go's == on two long arrays that are the same goes in the model; a long array laid or loaded under a guard. Laws for other texts; no statement of its own.
-/
import Derived.Test.YtammicfijnffaaaArr
import Derived.Laws.StructEq
set_option linter.unusedVariables false
set_option linter.unusedSimpArgs false
namespace Go.Proofs.Ytammicfijnffaaa
open Go Go.RowKit

theorem forIn_ok {P : Program} {β : Type} (b : β) (f : Nat → β → Sem (ForInStep β)) (w : World) : ∀ (is : List Nat), (∀ i ∈ is, (f i b).run P w = .ok (.yield b) w) → (forIn is b f).run P w = .ok b w
  | [], _ => by simp
  | i :: is, h => by
    have ih := forIn_ok b f w is fun j hj => h j (by simp [hj])
    rw [List.forIn_cons, Sem.run_bind, h i (by simp), Result.andThen_ok]
    exact ih

theorem part256 (F : Nat → Nat) (i : Nat) (hi : i < 256) (w : World) : (part 3 (arrV 256 F) (i * 1)).run Try.prog w = .ok (.int .i64 (F i : Int)) w := by
  have h2 : (isAgg 3).run Try.prog w = .ok false w := by kernel_rfl
  simp [part, Sem.run_bind, h2, arrV_get 256 F i hi]
theorem eq256 (F : Nat → Nat) (w : World) : (Op.equalIn 10000 52 (.agg (arrV 256 F)) (.agg (arrV 256 F))).run Try.prog w = .ok true w := by
  have hs : (sizeOf 3).run Try.prog w = .ok 1 w := by kernel_rfl
  have pe : ∀ (a b : Int) (w : World), (Op.equalIn 9999 3 (.int .i64 a) (.int .i64 b)).run Try.prog w = .ok (a == b) w := fun a b w => run_equalIn_int (P := Try.prog) w 9998 3 .i64 .i64 a b Try.underlying3
  rw [show (10000 : Nat) = 9999 + 1 from rfl]
  unfold Op.equalIn
  have hu : (underlying 52).run Try.prog w = .ok (.array 256 3) w := by kernel_rfl
  simp only [Sem.run_bind, hu, Result.andThen_ok, hs]
  simp only [Std.Legacy.Range.forIn_eq_forIn_range', Std.Legacy.Range.size]
  rw [forIn_ok]
  · simp
  · intro i hi
    have hi' : i < 256 := by simp at hi; omega
    simp [Sem.run_bind, part256 F i hi', pe]
    have p := part256 F i hi' w
    rw [Nat.mul_one] at p
    simp [p, pe]

section
variable {w : World} {g n : Nat} {F G : Nat → Nat} {a : Act} {Q : Exit → Act → World → Prop} {d : Option Nat} {ty : TypeId} {pos : String} {aft : Array Edge} {gd : Option (Nat × Bool)} {ops : Array Oper} {QE : Exit → Act → World → Prop} {rest : List Oper}
theorem wpList_load256g {x : Operand} (hw : Region.wanted ⟨d, .load 52 x, ty, pos, aft, gd⟩ (yielded ops a.tmps) = true) (hx : a.eval x = .pointer (some ⟨g, 0, none⟩)) (h : BoxN w g 52 256 F) (hK : wpList Try.prog ops QE rest (a.put d (.agg (arrV 256 F))) w) :
    wpList Try.prog ops QE (⟨d, .load 52 x, ty, pos, aft, gd⟩ :: rest) a w :=
  wpList_step fun K hk => by
    rw [if_pos hw]
    exact wp_load256 hx h (hk _ _ hK)
theorem wpList_eq256g {x y : Operand} (hw : Region.wanted ⟨d, .binOp .eql 52 x y 52, ty, pos, aft, gd⟩ (yielded ops a.tmps) = true) (hx : a.eval x = .agg (arrV 256 F)) (hy : a.eval y = .agg (arrV 256 F))
    (hK : wpList Try.prog ops QE rest (a.put d (.bool true)) w) :
    wpList Try.prog ops QE (⟨d, .binOp .eql 52 x y 52, ty, pos, aft, gd⟩ :: rest) a w :=
  wpList_step fun K hk => by
    rw [if_pos hw]
    have h1 : (eqGuard .eql 52 x y (.agg (arrV 256 F)) (.agg (arrV 256 F))).run Try.prog w = .ok () w := by kernel_rfl
    have h2 : (binOp .eql 52 (.agg (arrV 256 F)) (.agg (arrV 256 F))).run Try.prog w = .ok (.bool true) w := by
      show (do pure (.bool (← Op.equal 52 (.agg (arrV 256 F)) (.agg (arrV 256 F)))) : Sem Value).run Try.prog w = _
      rw [Sem.run_bind, show Op.equal 52 (.agg (arrV 256 F)) (.agg (arrV 256 F)) = Op.equalIn 10000 52 (.agg (arrV 256 F)) (.agg (arrV 256 F)) from rfl, eq256 F w]
      rfl
    have e : (execOp a.eval ⟨d, .binOp .eql 52 x y 52, ty, pos, aft, gd⟩).run Try.prog w = .ok (.value (.bool true)) w := by
      simp only [execOp, hx, hy, Sem.run_bind, h1, h2, Result.andThen_ok]
      rfl
    unfold Oper.wp
    rw [e]
    exact hk _ _ hK
end
end Go.Proofs.Ytammicfijnffaaa
