/-
  ct: what was done is kept. Contracts for other texts; no statement of its own.
-/
import Derived.Test.YthhgagghdeocoaaCtMem
import Derived.Test.YthhgagghdeocoaaStoRow
import Derived.Deep.RegionHeld3
import Derived.Deep.RegionLaw
import Derived.Deep.QuietTactic
import Derived.Lib.Hide
set_option linter.unusedVariables false
set_option linter.unusedSimpArgs false
namespace Go.Proofs.Ythhgagghdeocoaa
open Go Go.RowKit

/-- An append whose run is known, as one step of a region that draws. -/
theorem step_run {w w' : World} {ops : Array Oper} {o : Oper} {a : Act} {K : Act → World → Prop} {Q : Exit → Act → World → Prop} {E : Prop} {v u v' : Value} {t : TypeId} (hgd : o.guard = none) (s x : Operand) (ho : o.op = .call { callee := .builtin .append, args := #[s, x], argTypes := #[t, t] })
    (hs : a.eval s = v) (hx : a.eval x = u) (ty : TypeId) (hty : o.type = ty) (hr : (Builtin.append_ #[t, t] ty #[v, u]).run Try.prog w = .ok v' w') (hk : K (a.put o.dst v') w') : if Region.wanted o (yielded ops a.tmps) = true then Oper.wp Try.prog o a w K Q else E := by
  have hw : Region.wanted o (yielded ops a.tmps) = true := by simp [Region.wanted, hgd]
  rw [if_pos hw]
  subst hty
  unfold Oper.wp
  simp [execOp, ho, resolve, invoke, builtin, hs, hx, hr, Result.andThen]
  exact hk
section
variable {w : World} {F : Nat → Prop} {p m c : Nat} {f : Int → Int} {dv : Value} {vs : List Value} {ls : List (List Ins)}
/-- What the appends of pieces come to. -/
theorem MachE.append1 (h : MachE w F p m f c dv vs ls) {W : World} (hb : Below w.heap.size w W) (hn : vs.length ≤ 100000) {b : Nat} {u : Value} (hu : W.cell? ⟨b, 0, none⟩ = some u) (h1 : u.oneCell' = true) (cp : Nat) :
    ∃ v' W', (Builtin.append_ #[128, 128] 128 #[dv, .slice (some ⟨b, 0, none⟩) 1 cp]).run Try.prog W = .ok v' W' ∧ W'.ownsRow 0 63 1 v' (vs.length + 1) (vs ++ [u]) ∧ W.grownBy W' dv.ownBlock ∧ (v'.ownBlock = dv.ownBlock ∨ v'.ownBlock = some W.heap.size) := by
  obtain ⟨i0, hi, hz0, hz1, hz2⟩ := info_parts (show (Try.prog.info? 63).map (fun i => (i.zero, i.size, i.bytes)) = some (some (.slice none 0 0), 1, 24) from by kernel_rfl)
  obtain ⟨v', w', hr, h4, h5, _, h6⟩ := run_append_own_at (P := Try.prog) W 0 128 128 63 i0 _ 1 24 Try.underlying128 hi hz0 hz1 hz2 rfl (by decide) dv vs.length vs (own_stays h.row hb) ⟨b, 0, none⟩ 1 cp [u] rfl
    (fun j y hy => by
      match j, hy with
      | 0, hy =>
        have e : y = u := by simpa using hy.symm
        subst e
        rw [Addr.add_lit]
        exact hu)
    (fun y hy => by simp at hy; subst hy; exact h1) (by unfold maxLen; omega) (by omega) (Nat.zero_le _)
  exact ⟨v', w', hr, h4, h5, h6⟩
theorem append6 {w : World} {v : Value} {l : List Ins} {x : Ins} (h : w.ownsRow 0 68 6 v l.length (insL l)) (hn : l.length ≤ 100000) {b : Nat} (hu : HasO w b (.cells #[.int .i64 x.op, .int .i64 x.d, .int .i64 x.a, .int .i64 x.b, .int .i64 x.c, .int .u64 x.n] 68 (0, 0))) (cp : Nat) :
    ∃ v' W', (Builtin.append_ #[63, 63] 63 #[v, .slice (some ⟨b, 0, none⟩) 1 cp]).run Try.prog w = .ok v' W' ∧ W'.ownsRow 0 68 6 v' (l.length + 1) (insL (l ++ [x])) ∧ w.grownBy W' v.ownBlock ∧ (v'.ownBlock = v.ownBlock ∨ v'.ownBlock = some w.heap.size) := by
  obtain ⟨i0, hi, hz0, hz1, hz2⟩ := info_parts (show (Try.prog.info? 68).map (fun i => (i.zero, i.size, i.bytes)) = some (some (.agg #[.int .i64 0, .int .i64 0, .int .i64 0, .int .i64 0, .int .i64 0, .int .u64 0]), 6, 48) from by kernel_rfl)
  obtain ⟨v', w', hr, h4, h5, _, h6⟩ := run_append_own_at (P := Try.prog) w 0 63 63 68 i0 _ 6 48 Try.underlying63 hi hz0 hz1 hz2 rfl (by decide) v l.length (insL l) h ⟨b, 0, none⟩ 1 cp (insC x) rfl
    (fun j y hy => by
      rw [Addr.add_lit, Nat.zero_add, cell_of_row w b j _ _ (0, 0) hu]
      simpa [insC] using hy)
    (fun y hy => by
      simp [insC] at hy
      rcases hy with rfl | rfl | rfl | rfl | rfl | rfl <;> rfl) (by unfold maxLen; omega) (by omega) (Nat.zero_le _)
  exact ⟨v', w', hr, by rw [insL_app, insL_one]; exact h4, h5, h6⟩
end
end Go.Proofs.Ythhgagghdeocoaa
