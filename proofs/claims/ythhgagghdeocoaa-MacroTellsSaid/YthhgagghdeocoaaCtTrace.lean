/-
  ct: what is told of an instruction. Contracts for other texts; no statement of its own.
-/
import Derived.Test.YthhgagghdeocoaaCtBits
import Derived.Test.YthhgagghdeocoaaStoRow
set_option linter.unusedVariables false
set_option linter.unusedSimpArgs false
namespace Go.Proofs.Ythhgagghdeocoaa
open Go Go.RowKit
attribute [local go_sem ↓] run_stoE

section
variable {w : World} {g x : Nat} {y : Ins}
theorem loadVarI (h : HasO w g (.cells #[.int .i64 y.op, .int .i64 y.d, .int .i64 y.a, .int .i64 y.b, .int .i64 y.c, .int .u64 y.n] 68 (0, 0))) : (loadVar 68 ⟨g, 0, none⟩).run Try.prog w = .ok (insV y) w := by
  have c0 : w.cell? ⟨g, 0, none⟩ = some _ := cell_of_row w g 0 _ _ (0, 0) h
  have c1 : w.cell? ⟨g, 1, none⟩ = some _ := cell_of_row w g 1 _ _ (0, 0) h
  have c2 : w.cell? ⟨g, 2, none⟩ = some _ := cell_of_row w g 2 _ _ (0, 0) h
  have c3 : w.cell? ⟨g, 3, none⟩ = some _ := cell_of_row w g 3 _ _ (0, 0) h
  have c4 : w.cell? ⟨g, 4, none⟩ = some _ := cell_of_row w g 4 _ _ (0, 0) h
  have c5 : w.cell? ⟨g, 5, none⟩ = some _ := cell_of_row w g 5 _ _ (0, 0) h
  have h1 : (loadCells ⟨g, 0, none⟩ 6).run Try.prog w = .ok #[.int .i64 y.op, .int .i64 y.d, .int .i64 y.a, .int .i64 y.b, .int .i64 y.c, .int .u64 y.n] w := run_loadCells w ⟨g, 0, none⟩ 6 (fun j => (insC y).getD j undef) (fun j hj => by
    rw [Addr.add_lit, Nat.zero_add]
    match j, hj with
    | 0, _ => exact c0
    | 1, _ => exact c1
    | 2, _ => exact c2
    | 3, _ => exact c3
    | 4, _ => exact c4
    | 5, _ => exact c5)
  have h2 : (isAgg 68).run Try.prog w = .ok true w := by kernel_rfl
  have h3 : (sizeOf 68).run Try.prog w = .ok 6 w := by kernel_rfl
  simp [loadVar, Sem.run_bind, h1, h2, h3, insV]
theorem ret_ins {fn : Func} {R : Ending → World → Prop} {a : Act} (hr : fn.results = #[.cell x 68]) (hx : a.tmps.getD x undef = .pointer (some ⟨g, 0, none⟩)) (hd : a.defers = []) (h : HasO w g (.cells #[.int .i64 y.op, .int .i64 y.d, .int .i64 y.a, .int .i64 y.b, .int .i64 y.c, .int .u64 y.n] 68 (0, 0)))
    (hR : R (.returned (insV y)) w) : bodyPost Try.prog fn R .ret a w := by
  refine bodyPost_ret ?_ hd hR
  have e0 : (#[ResultVar.cell x 68] : Array ResultVar) = [ResultVar.cell x 68].toArray := rfl
  rw [Array.getD_eq_getD_getElem?] at hx
  unfold results
  rw [hr, e0]
  simp [Sem.run_bind, hx, loadVarI h, asAddr]
end
set_option maxRecDepth 20000 in
set_option maxHeartbeats 1000000 in
theorem trace_p (w : World) (x : Ins) (hx : x.fits) :
    Calls Try.prog 74 #[insV x] w fun e w' => e = .returned (insV (trc x)) ∧ Below w.heap.size w w' := by
  have hop := hx.op
  obtain ⟨o, d, a, b, c', n⟩ := x
  simp only at hop
  unfold I64 at hop
  unfold insV trc
  simp only
  clear hx
  have hb0 : Below w.heap.size w ((w.alloc (.cells #[.int .i64 o, .int .i64 d, .int .i64 a, .int .i64 b, .int .i64 c', .int .u64 n] 68)).alloc (.cells #[.int .i64 0, .int .i64 0, .int .i64 0, .int .i64 0, .int .i64 0, .int .u64 0] 68)) := ((Below.refl _ _).alloc (Nat.le_refl _) _).alloc (by simp) _
  have hn0 : HasO ((w.alloc (.cells #[.int .i64 o, .int .i64 d, .int .i64 a, .int .i64 b, .int .i64 c', .int .u64 n] 68)).alloc (.cells #[.int .i64 0, .int .i64 0, .int .i64 0, .int .i64 0, .int .i64 0, .int .u64 0] 68)) (w.heap.size + 1) (.cells #[.int .i64 0, .int .i64 0, .int .i64 0, .int .i64 0, .int .i64 0, .int .u64 0] 68 (0, 0)) := has_new _ _ _ _ (by simp)
  by_cases h : o = 10
  · subst h
    clear hn0 hb0
    simp only [if_true]
    go_enter Try.func74, Try.ntmps74
    go_wp2
    exact ret_ins (y := ⟨10, d, a, b, c', 0⟩) rfl rfl rfl (has_new _ _ _ _ (by simp)) ⟨rfl, ((Below.refl _ _).alloc (Nat.le_refl _) _).alloc (by simp) _⟩
  · have hst := sto_of (ty := 68) (cs := #[.int .i64 o, .int .i64 d, .int .i64 a, .int .i64 b, .int .i64 c', .int .u64 n]) hn0 (by kernel_rfl) rfl (by simp [Value.oneCell'])
    have hfin := has_sto (cs := #[.int .i64 o, .int .i64 d, .int .i64 a, .int .i64 b, .int .i64 c', .int .u64 n]) hn0
    have hbf := below_sto (b := w.heap.size + 1) (cs := #[.int .i64 o, .int .i64 d, .int .i64 a, .int .i64 b, .int .i64 c', .int .u64 n]) hb0 (by omega)
    have HF := Lib.hid hfin
    have HBF := Lib.hid hbf
    clear hn0 hb0 hfin hbf
    simp only [if_neg h]
    go_enter Try.func74, Try.ntmps74
    go_wp2
    exact ret_ins (y := ⟨o, d, a, b, c', n⟩) rfl rfl rfl HF.out ⟨rfl, HBF.out⟩
end Go.Proofs.Ythhgagghdeocoaa
