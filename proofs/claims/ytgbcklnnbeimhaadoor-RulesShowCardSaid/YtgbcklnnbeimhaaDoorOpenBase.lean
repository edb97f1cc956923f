/-
  How arguments that came in are opened for a walk: a byte, a slice of bytes. No statement of its own.
-/
import Derived.Test.YtgbcklnnbeimhaaDoorBase
import Derived.ProofKit
import Derived.OpenShut
import Derived.Laws.IdiomArrays
import Derived.Lib.SmallJoins
set_option linter.unusedVariables false
set_option linter.unusedSimpArgs false
set_option maxRecDepth 20000
namespace Go.Proofs.YtgbcklnnbeimhaaDoor
open Go Go.ChangeShapes Go.WideShapes Go.ChangeAt Go.RowKit

theorem Tryd.ownKnobNone : ownKnob Tryd.prog.godebug = none := by kernel_rfl
theorem Tryd.laidOutOk : laidOutB Tryd.prog = true := by kernel_rfl

section
variable {H : Type} {enc : TypeId × Value → H} {W : World} {base : Nat} {spare : Nat → Bool} {held : Bool} {v : Value} {d : DataW H} {ps : List MemPlace}
theorem open_byte (hv : Value.okWide Tryd.prog W .any base 5 v) (h : DataW.Trod enc Tryd.prog W 0 spare held 5 v d ps) :
    ∃ n : Int, v = .int .u8 n ∧ 0 ≤ n ∧ n ≤ 255 := by
  obtain ⟨x, rfl, _, _, wx⟩ := open_int Tryd.underlying5 hv h
  exact ⟨x, rfl, bounds_u8 wx⟩
/-- A slice of bytes that came in: its elements xs. -/
theorem open_bytes (hv : Value.okWide Tryd.prog W .any base 53 v) (h : DataW.Trod enc Tryd.prog W 0 (fun _ => true) held 53 v d ps) :
    ∃ A n cap xs, v = .slice A n cap ∧ n = xs.length ∧ RdB W W.heap.size A xs ∧ (∀ k, k < xs.length → 0 ≤ xs.getD k 0 ∧ xs.getD k 0 ≤ 255) ∧ n ≤ cap ∧ cap ≤ maxLen := by
  obtain ⟨A, n, cap, rfl⟩ := okWide_slice Tryd.underlying53 hv
  obtain ⟨fuel, hf⟩ := h
  rcases open_ints Tryd.underlying53 Tryd.underlying5 (by kernel_rfl) hf with ⟨hcs, _⟩ | ⟨x, l, c, zs, hcs, _, hl, hm, hz, _, hcell, hwz⟩
  · simp [Value.cells] at hcs
    obtain ⟨rfl, rfl, rfl⟩ := hcs
    exact ⟨none, 0, 0, [], rfl, rfl, fun k hk => by simp at hk, fun k hk => by simp at hk, Nat.le_refl _, Nat.zero_le _⟩
  · simp [Value.cells] at hcs
    obtain ⟨rfl, rfl, rfl⟩ := hcs
    simp at hz
    refine ⟨_, n, cap, zs.take n, rfl, by simp; omega, ?_, ?_, hl, hm⟩
    · intro k hk
      simp at hk
      obtain ⟨b, off, rfl, hc⟩ := ints_at hcell (by omega)
      have hck := hc k (by omega)
      refine ⟨b, off, rfl, World.block_lt_of_cell? W ⟨b, off + k, none⟩ hck, ?_⟩
      rw [hck, List.getD_eq_getElem?_getD, List.getD_eq_getElem?_getD, List.getElem?_take_of_lt (by omega)]
    · intro k hk
      have hk' := hk
      simp at hk'
      have hb := range_u8 hwz k
      rw [List.getD_eq_getElem?_getD, List.getElem?_take_of_lt (by omega)]
      exact hb
end

end Go.Proofs.YtgbcklnnbeimhaaDoor
