/-
  The laws' same of two lists of rules that are one; the Spot that tells what is amiss; Show of both. Contracts for other texts; no statement of its own.
-/
import Derived.Test.YtgbcklnnbeimhaaDoorRulRules
import Derived.Laws.StructEq
set_option linter.unusedVariables false
set_option linter.unusedSimpArgs false
namespace Go.Proofs.YtgbcklnnbeimhaaDoor
open Go Go.RowKit

theorem ru_eq (a b : ByteArray) (c : Bool) (w : World) :
    (Op.equalIn 10000 35 (.agg #[.string a, .string b, .bool c]) (.agg #[.string a, .string b, .bool c])).run Tryd.prog w = .ok true w := by
  have p0 : ∀ (a b : ByteArray) (c : Bool) (w : World), (part 9 #[.string a, .string b, .bool c] 0).run Tryd.prog w = .ok (.string a) w := fun _ _ _ _ => by kernel_rfl
  have p1 : ∀ (a b : ByteArray) (c : Bool) (w : World), (part 9 #[.string a, .string b, .bool c] 1).run Tryd.prog w = .ok (.string b) w := fun _ _ _ _ => by kernel_rfl
  have p2 : ∀ (a b : ByteArray) (c : Bool) (w : World), (part 4 #[.string a, .string b, .bool c] 2).run Tryd.prog w = .ok (.bool c) w := fun _ _ _ _ => by kernel_rfl
  have pe : ∀ (a b : ByteArray) (w : World), (Op.equalIn 9999 9 (.string a) (.string b)).run Tryd.prog w = .ok (a.toList == b.toList) w := fun a b w => run_equalIn_string (P := Tryd.prog) w 9998 9 a b Tryd.underlying9
  have pb : ∀ (a b : Bool) (w : World), (Op.equalIn 9999 4 (.bool a) (.bool b)).run Tryd.prog w = .ok (a == b) w := fun a b w => by kernel_rfl
  rw [show (10000 : Nat) = 9999 + 1 from rfl, run_equalIn_struct w 9999 _ _ _ (by kernel_rfl) (by kernel_rfl)]
  simp only [Program.fieldsOf, Tryd.underlying35]
  simp only [Op.eqFields, Sem.run_bind, p0, p1, p2, pe, pb, Result.andThen_ok]
  simp [Op.eqFields, Sem.run_bind, p0, p1, p2, pe, pb]

set_option maxRecDepth 20000 in
set_option maxHeartbeats 2000000 in
theorem same14_p (w : World) (A B : Option Addr) (c d : Nat) (l : List Ru) (hl : l.length ≤ 1000) (ha : RdRu w A l) (hb : RdRu w B l) :
    Calls Tryd.prog 10 #[.slice A l.length c, .slice B l.length d] w fun e w' => e = .returned (.int .i64 1) ∧ Below w.heap.size w w' := by
  obtain ⟨N, hN⟩ : ∃ N, l.length = N := ⟨_, rfl⟩
  have HA := Lib.hid ha
  have HB := Lib.hid hb
  rw [hN] at hl ⊢
  clear ha hb
  go_enter Tryd.func10, Tryd.ntmps10
  go_wp2
  go_loopg [5] N (fun mm i wr => ∃ k : Nat, i = .int .i64 (k : Int) ∧ k ≤ N ∧ mm = N - k ∧ Below w.heap.size w wr)
  case atStart => exact ⟨0, rfl, Nat.zero_le _, rfl, Below.refl _ _⟩
  case round =>
    obtain ⟨k, rfl, hk, hmk, hbw⟩ := hrel
    have HMK := Lib.hid hmk
    have HBW := Lib.hid hbw
    clear hmk hbw
    by_cases hkN : k < N
    · have hkN' : (k : Int) < (N : Int) := by omega
      obtain ⟨x, hx⟩ : ∃ x, l[k]? = some x := ⟨_, List.getElem?_eq_getElem (by omega)⟩
      obtain ⟨g, off, rfl, hg, c0, c1, c2⟩ := (HA.out.stays HBW.out) k x hx
      obtain ⟨g', off', rfl, hg', d0, d1, d2⟩ := (HB.out.stays HBW.out) k x hx
      clear hx
      obtain ⟨xn, xp, xl⟩ := x
      simp only at c0 c1 c2 d0 d1 d2
      have hq : ∀ W : World, (binOp .neq 35 (.agg #[.string xn, .string xp, .bool xl]) (.agg #[.string xn, .string xp, .bool xl])).run Tryd.prog W = .ok (.bool false) W := fun W => by
        rw [run_neq_struct, ru_eq]; rfl
      have hgu : Tryd.prog.eqGuardType Tryd.prog.depth 35 = false := by kernel_rfl
      go_wp2
      go_quiet (fail)
      go_wp2
      go_roundg (N - (k + 1))
      case measure => have := HMK.out; omega
      case rel => exact ⟨k + 1, by go_num, by omega, rfl, below_drN HBW.out _⟩
    · have hkl : k = N := by omega
      subst hkl
      go_wp2
      go_ret
      exact ⟨rfl, HBW.out⟩
end Go.Proofs.YtgbcklnnbeimhaaDoor
