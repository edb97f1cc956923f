/-
  Layer 13: a pace, as plain mathematics; its box in memory. Laws for other texts; no statement of its own.
-/
import Derived.Test.YtbadpenfngdodaaKept
import Derived.Test.YtbadpenfngdodaaStoRow
import Derived.Test.YtbadpenfngdodaaArr
import Derived.BigQuiet
import Derived.Deep.LoopGhost
import Derived.Lib.Hide
import Derived.Lib.MinMax
import Derived.Laws.StructEq
set_option linter.unusedVariables false
set_option linter.unusedSimpArgs false
namespace Go.Proofs.Ytbadpenfngdodaa
open Go Go.RowKit

/-- A pace. -/
structure Pc where
  la : Int
  k : Int
  q : Int
  ring : Int
  queue : Int
  cl : Bool
def pcA (la k q ring queue : Int) (cl : Bool) : Array Value := #[.int .i64 la, .int .i64 k, .int .i64 q, .int .i64 ring, .int .i64 queue, .bool cl]
def pcV (p : Pc) : Value := .agg #[.int .i64 p.la, .int .i64 p.k, .int .i64 p.q, .int .i64 p.ring, .int .i64 p.queue, .bool p.cl]
/-- It may be. -/
structure Pc.ok (p : Pc) : Prop where
  l1 : 1 ≤ p.la
  l2 : p.la ≤ 32
  k1 : 1 ≤ p.k
  kq : p.k ≤ p.q
  q2 : p.q ≤ 1024
  r1 : 0 ≤ p.ring
  r2 : p.ring ≤ p.la
  u1 : 0 ≤ p.queue
  op : p.cl = false → p.queue ≤ p.q
  sh : p.cl = true → p.ring = 0 ∧ p.queue ≤ p.q + p.la
def Pc.may (p : Pc) : Bool :=
  decide (1 ≤ p.la) && decide (p.la ≤ 32) && decide (1 ≤ p.k) && decide (p.k ≤ p.q) && decide (p.q ≤ 1024) && decide (0 ≤ p.ring) && decide (p.ring ≤ p.la) && decide (0 ≤ p.queue) && (if p.cl then decide (p.ring = 0) && decide (p.queue ≤ p.q + p.la) else decide (p.queue ≤ p.q))
theorem Pc.may_iff (p : Pc) : p.may = true ↔ p.ok := by
  unfold Pc.may
  constructor
  · intro h
    simp only [Bool.and_eq_true, decide_eq_true_eq] at h
    obtain ⟨⟨⟨⟨⟨⟨⟨⟨h1, h2⟩, h3⟩, h4⟩, h5⟩, h6⟩, h7⟩, h8⟩, h9⟩ := h
    refine ⟨h1, h2, h3, h4, h5, h6, h7, h8, fun e => ?_, fun e => ?_⟩
    · simpa [e] using h9
    · simpa [e] using h9
  · intro h
    simp only [Bool.and_eq_true, decide_eq_true_eq]
    refine ⟨⟨⟨⟨⟨⟨⟨⟨h.l1, h.l2⟩, h.k1⟩, h.kq⟩, h.q2⟩, h.r1⟩, h.r2⟩, h.u1⟩, ?_⟩
    cases hc : p.cl
    · simpa using h.op hc
    · simpa using h.sh hc
/-- What is held back of n bytes; what waits. -/
def Pc.hld (p : Pc) (n : Int) : Int := min n (p.la - p.ring)
def Pc.wai (p : Pc) (n : Int) : Int := min (n - p.hld n) (p.q - p.queue)
def Pc.wr (p : Pc) (n : Int) : Pc := if n < 0 then p else if p.cl = true then p else { p with ring := p.ring + p.hld n, queue := p.queue + p.wai n }
def Pc.wrN (p : Pc) (n : Int) : Int := if n < 0 then 0 else if p.cl = true then 0 else p.hld n + p.wai n
def Pc.wrE (p : Pc) (n : Int) : Int := if n < 0 then 1 else if p.cl = true then 9 else if p.hld n + p.wai n < n then 10 else 0
def Pc.tkN (p : Pc) : Int := min p.k p.queue
def Pc.tk (p : Pc) : Pc := { p with queue := p.queue - p.tkN }
def Pc.sh' (p : Pc) : Pc := if p.cl = true then p else { p with queue := p.queue + p.ring, ring := 0, cl := true }
def Pc.shE (p : Pc) : Int := if p.cl = true then 9 else 0
/-- An error, by its number. -/
def errC (c : Int) : Value := if c = 0 then .nilIface else .iface 110 (.int .i64 c)
theorem Pc.ok_wr {p : Pc} (h : p.ok) (n : Int) : (p.wr n).ok := by
  have := h.l1; have := h.l2; have := h.k1; have := h.kq; have := h.q2; have := h.r1; have := h.r2; have := h.u1
  unfold Pc.wr
  split
  · exact h
  split
  · exact h
  · rename_i hn hc
    have ho := h.op (by simpa using hc)
    have h1 : p.hld n ≤ p.la - p.ring := by unfold Pc.hld; omega
    have h2 : 0 ≤ p.hld n := by unfold Pc.hld; omega
    have h5 : p.hld n ≤ n := by unfold Pc.hld; omega
    have h3 : p.wai n ≤ p.q - p.queue := by unfold Pc.wai; omega
    have h4 : 0 ≤ p.wai n := by unfold Pc.wai; omega
    exact ⟨h.l1, h.l2, h.k1, h.kq, h.q2, by simp only; omega, by simp only; omega, by simp only; omega, fun _ => by simp only; omega, fun e => by simp only at e; exact absurd e hc⟩
theorem Pc.ok_tk {p : Pc} (h : p.ok) : p.tk.ok := by
  have := h.k1; have := h.u1
  have h2 : 0 ≤ p.tkN := by unfold Pc.tkN; omega
  have h1 : p.tkN ≤ p.queue := by unfold Pc.tkN; omega
  unfold Pc.tk
  exact ⟨h.l1, h.l2, h.k1, h.kq, h.q2, h.r1, h.r2, by simp only; omega, fun e => by have := h.op e; simp only; omega, fun e => by have := h.sh e; simp only; omega⟩
theorem Pc.ok_sh {p : Pc} (h : p.ok) : p.sh'.ok := by
  have := h.l1; have := h.r1; have := h.r2; have := h.u1
  unfold Pc.sh'
  split
  · exact h
  · rename_i hc
    have ho := h.op (by simpa using hc)
    exact ⟨h.l1, h.l2, h.k1, h.kq, h.q2, by simp only; omega, by simp only; omega, by simp only; omega, fun e => by simp at e, fun e => ⟨rfl, by show p.queue + p.ring ≤ p.q + p.la; omega⟩⟩
theorem Pc.wr_same (p : Pc) (n : Int) : (p.wr n).la = p.la ∧ (p.wr n).k = p.k ∧ (p.wr n).q = p.q ∧ (p.wr n).cl = p.cl := by
  unfold Pc.wr
  split
  · exact ⟨rfl, rfl, rfl, rfl⟩
  split <;> exact ⟨rfl, rfl, rfl, rfl⟩
theorem Pc.wrE_is {p : Pc} (n : Int) : p.wrE n = 0 ∨ p.wrE n = 1 ∨ p.wrE n = 9 ∨ p.wrE n = 10 := by
  unfold Pc.wrE
  split
  · omega
  split
  · omega
  split <;> omega

/-- A variable that is a pace. -/
def PB (t : TypeId) (w : World) (g : Nat) (la k q ring queue : Int) (cl : Bool) : Prop := w.heap[g]? = some (.cells (pcA la k q ring queue cl) t (0, 0))
section
variable {t : TypeId} {w w' : World} {g : Nat} {la k q ring queue : Int} {cl : Bool}
theorem PB.lt (h : PB t w g la k q ring queue cl) : g < w.heap.size := lt_of_some h
theorem PB.stays (h : PB t w g la k q ring queue cl) (hb : Below w.heap.size w w') : PB t w' g la k q ring queue cl := (hb.block g h.lt).trans h
theorem PB.kept {Q : Nat → Prop} (h : PB t w g la k q ring queue cl) (hk : Kept Q w w') (hq : ¬ Q g) : PB t w' g la k q ring queue cl := (hk.block g h.lt hq).trans h
theorem PB.new (t : TypeId) (w : World) (la k q ring queue : Int) (cl : Bool) : PB t (w.alloc (.cells (pcA la k q ring queue cl) t)) w.heap.size la k q ring queue cl := heap_alloc_new w _
theorem PB.cell (h : PB t w g la k q ring queue cl) : w.cell? ⟨g, 0, none⟩ = some (.int .i64 la) ∧ w.cell? ⟨g, 1, none⟩ = some (.int .i64 k) ∧ w.cell? ⟨g, 2, none⟩ = some (.int .i64 q) ∧ w.cell? ⟨g, 3, none⟩ = some (.int .i64 ring) ∧ w.cell? ⟨g, 4, none⟩ = some (.int .i64 queue) ∧ w.cell? ⟨g, 5, none⟩ = some (.bool cl) :=
  ⟨cell_of_row w g 0 _ _ (0, 0) h, cell_of_row w g 1 _ _ (0, 0) h, cell_of_row w g 2 _ _ (0, 0) h, cell_of_row w g 3 _ _ (0, 0) h, cell_of_row w g 4 _ _ (0, 0) h, cell_of_row w g 5 _ _ (0, 0) h⟩
theorem PB.frozen (h : PB t w g la k q ring queue cl) (j : Nat) : w.frozen? ⟨g, j, none⟩ = false := by
  unfold PB at h
  simp [World.frozen?, h]
theorem PB.one (h : PB t w g la k q ring queue cl) (j : Nat) (v : Value) {la' k' q' ring' queue' : Int} {cl' : Bool} (hc : (pcA la k q ring queue cl).setIfInBounds j v = pcA la' k' q' ring' queue' cl') : PB t (w.setCell ⟨g, j, none⟩ v) g la' k' q' ring' queue' cl' := by
  have h1 := heap_setCell_same w g j _ t v h
  rw [hc] at h1
  exact h1
theorem PB.setRing (h : PB t w g la k q ring queue cl) (x : Int) : PB t (w.setCell ⟨g, 3, none⟩ (.int .i64 x)) g la k q x queue cl := h.one 3 _ rfl
theorem PB.setQueue (h : PB t w g la k q ring queue cl) (x : Int) : PB t (w.setCell ⟨g, 4, none⟩ (.int .i64 x)) g la k q ring x cl := h.one 4 _ rfl
theorem PB.setCl (h : PB t w g la k q ring queue cl) (x : Bool) : PB t (w.setCell ⟨g, 5, none⟩ (.bool x)) g la k q ring queue x := h.one 5 _ rfl
theorem PB.whole (h : PB t w g la k q ring queue cl) : w.rangeAt g 0 (pcA la k q ring queue cl).toList := fun j v hv => by
  rw [Nat.zero_add, cell_of_row w g j _ t (0, 0) h]
  simpa using hv
theorem PB.put (h : PB t w g la k q ring queue cl) (la' k' q' ring' queue' : Int) (cl' : Bool) : PB t (w.setRow g (pcA la' k' q' ring' queue' cl')) g la' k' q' ring' queue' cl' := setRow_heap w g _ _ t (0, 0) h
theorem PB.row (h : PB t w g la k q ring queue cl) {g' : Nat} (ha : g ≠ g') (A : Array Value) : PB t (w.setRow g' A) g la k q ring queue cl := (setRow_other w g' g A ha).trans h
theorem PB.cells (h : PB t w g la k q ring queue cl) {a : Addr} (ha : g ≠ a.block) (v : Value) : PB t (w.setCell a v) g la k q ring queue cl := (Below.heap_setCell w a v g ha).trans h
end
/-- A pace's type: six cells. -/
structure PcTy (t : TypeId) : Prop where
  size : (Try.prog.info? t).map (·.size) = some 6
  row : ∃ d, Try.prog.underlying t = some d ∧ d.isRow = true
theorem Try.pcP : PcTy 58 := ⟨by kernel_rfl, _, Try.underlying58, rfl⟩
theorem Try.pcR : PcTy 65 := ⟨by kernel_rfl, _, Try.underlying65, rfl⟩
section
variable {w : World} {ops : Array Oper} {rest : List Oper} {o : Oper} {a : Act} {Q : Exit → Act → World → Prop} {g : Nat} {t : TypeId} {la k q ring queue la' k' q' ring' queue' : Int} {cl cl' : Bool}
theorem run_loadP (ht : PcTy t) (h : PB t w g la k q ring queue cl) : (loadVar t ⟨g, 0, none⟩).run Try.prog w = .ok (.agg (pcA la k q ring queue cl)) w := by
  obtain ⟨d, hu, hd⟩ := ht.row
  have := run_loadVar_mid (P := Try.prog) w g 0 t (pcA la k q ring queue cl).toList d h.whole hu hd (by rw [ht.size]; rfl)
  simpa using this
theorem wpList_storeP (hgd : o.guard = none) (x y : Operand) (ho : o.op = .store t x y) (hx : a.eval x = .pointer (some ⟨g, 0, none⟩)) (hy : a.eval y = .agg (pcA la' k' q' ring' queue' cl')) (ht : PcTy t) (h : PB t w g la k q ring queue cl)
    (hk : PB t (w.setRow g (pcA la' k' q' ring' queue' cl')) g la' k' q' ring' queue' cl' → wpList Try.prog ops Q rest (a.put o.dst undef) (w.setRow g (pcA la' k' q' ring' queue' cl'))) : wpList Try.prog ops Q (o :: rest) a w := by
  refine wpList_plain hgd fun _ hK => ?_
  have hst : (storeVar t ⟨g, 0, none⟩ (.agg (pcA la' k' q' ring' queue' cl'))).run Try.prog w = .ok () (w.setRow g (pcA la' k' q' ring' queue' cl')) := run_storeVar_row w g t t _ _ h (by rw [ht.size]; rfl) rfl (by simp [pcA, Value.oneCell'])
  unfold Oper.wp execOp
  simp only [ho, hx, hy, Instr.storeAt, Instr.sureAddr, Sem.run_bind, Sem.run_pure, Result.andThen_ok, hst]
  exact hK _ _ (hk (h.put ..))
theorem results_pc {fn : Func} {tmps : Array Value} {x y : Nat} {v : Value} (hr : fn.results = #[.cell x t, .tmp y]) (hx : tmps.getD x undef = .pointer (some ⟨g, 0, none⟩)) (hy : tmps.getD y undef = v) (ht : PcTy t)
    (h : PB t w g la k q ring queue cl) : (results fn tmps).run Try.prog w = .ok (.tuple #[.agg (pcA la k q ring queue cl), v]) w := by
  have e : (#[ResultVar.cell x t, .tmp y] : Array ResultVar) = [ResultVar.cell x t, .tmp y].toArray := rfl
  rw [Array.getD_eq_getD_getElem?] at hx hy
  unfold results
  rw [hr, e]
  simp [Sem.run_bind, hx, hy, run_loadP ht h, asAddr]
theorem results_pc3 {fn : Func} {tmps : Array Value} {x y z : Nat} {v u : Value} (hr : fn.results = #[.cell x t, .tmp y, .tmp z]) (hx : tmps.getD x undef = .pointer (some ⟨g, 0, none⟩)) (hy : tmps.getD y undef = v) (hz : tmps.getD z undef = u) (ht : PcTy t)
    (h : PB t w g la k q ring queue cl) : (results fn tmps).run Try.prog w = .ok (.tuple #[.agg (pcA la k q ring queue cl), v, u]) w := by
  have e : (#[ResultVar.cell x t, .tmp y, .tmp z] : Array ResultVar) = [ResultVar.cell x t, .tmp y, .tmp z].toArray := rfl
  rw [Array.getD_eq_getD_getElem?] at hx hy hz
  unfold results
  rw [hr, e]
  simp [Sem.run_bind, hx, hy, hz, run_loadP ht h, asAddr]
theorem results_pc1 {fn : Func} {tmps : Array Value} {x : Nat} (hr : fn.results = #[.cell x t]) (hx : tmps.getD x undef = .pointer (some ⟨g, 0, none⟩)) (ht : PcTy t)
    (h : PB t w g la k q ring queue cl) : (results fn tmps).run Try.prog w = .ok (.agg (pcA la k q ring queue cl)) w := by
  have e : (#[ResultVar.cell x t] : Array ResultVar) = [ResultVar.cell x t].toArray := rfl
  rw [Array.getD_eq_getD_getElem?] at hx
  unfold results
  rw [hr, e]
  simp [Sem.run_bind, hx, run_loadP ht h, asAddr]
theorem pc_eq (t : TypeId) (a0 a1 a2 a3 a4 : Int) (a5 : Bool) (w : World) :
    (Op.equalIn 10000 65 (.agg (pcA a0 a1 a2 a3 a4 a5)) (.agg (pcA a0 a1 a2 a3 a4 a5))).run Try.prog w = .ok true w := by
  have p0 : ∀ (c0 c1 c2 c3 c4 : Int) (c5 : Bool) (w : World), (part 3 (pcA c0 c1 c2 c3 c4 c5) 0).run Try.prog w = .ok (.int .i64 c0) w := fun _ _ _ _ _ _ _ => by kernel_rfl
  have p1 : ∀ (c0 c1 c2 c3 c4 : Int) (c5 : Bool) (w : World), (part 3 (pcA c0 c1 c2 c3 c4 c5) 1).run Try.prog w = .ok (.int .i64 c1) w := fun _ _ _ _ _ _ _ => by kernel_rfl
  have p2 : ∀ (c0 c1 c2 c3 c4 : Int) (c5 : Bool) (w : World), (part 3 (pcA c0 c1 c2 c3 c4 c5) 2).run Try.prog w = .ok (.int .i64 c2) w := fun _ _ _ _ _ _ _ => by kernel_rfl
  have p3 : ∀ (c0 c1 c2 c3 c4 : Int) (c5 : Bool) (w : World), (part 3 (pcA c0 c1 c2 c3 c4 c5) 3).run Try.prog w = .ok (.int .i64 c3) w := fun _ _ _ _ _ _ _ => by kernel_rfl
  have p4 : ∀ (c0 c1 c2 c3 c4 : Int) (c5 : Bool) (w : World), (part 3 (pcA c0 c1 c2 c3 c4 c5) 4).run Try.prog w = .ok (.int .i64 c4) w := fun _ _ _ _ _ _ _ => by kernel_rfl
  have p5 : ∀ (c0 c1 c2 c3 c4 : Int) (c5 : Bool) (w : World), (part 4 (pcA c0 c1 c2 c3 c4 c5) 5).run Try.prog w = .ok (.bool c5) w := fun _ _ _ _ _ _ _ => by kernel_rfl
  have pe : ∀ (a b : Int) (w : World), (Op.equalIn 9999 3 (.int .i64 a) (.int .i64 b)).run Try.prog w = .ok (a == b) w := fun a b w => run_equalIn_int (P := Try.prog) w 9998 3 .i64 .i64 a b Try.underlying3
  have pb : ∀ (a b : Bool) (w : World), (Op.equalIn 9999 4 (.bool a) (.bool b)).run Try.prog w = .ok (a == b) w := fun a b w => by kernel_rfl
  rw [show (10000 : Nat) = 9999 + 1 from rfl, run_equalIn_struct w 9999 _ _ _ (by kernel_rfl) (by kernel_rfl)]
  simp only [Program.fieldsOf, Try.underlying65]
  simp only [Op.eqFields, Sem.run_bind, p0, p1, p2, p3, p4, p5, pe, pb, Result.andThen_ok]
  simp [Op.eqFields, Sem.run_bind, p0, p1, p2, p3, p4, p5, pe, pb]
end
end Go.Proofs.Ytbadpenfngdodaa
