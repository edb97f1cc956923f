/-
  A struct's whole value stored at once into its block, as one step of a walk: what is stored is named, no cell is opened. Laws for other texts; no statement of its own.
  In a walk: 'attribute [local go_sem ↓] run_stoE' ahead of it; a fact 'Sto ty w p v' for each world w in which the store may come up (sto_of); behind it the world reads 'stoW w p v' (cell_sto, below_sto, has_sto).
-/
import Derived.Test.YtbadpenfngdodaaApp2
import Derived.Laws.Tables
import Derived.Laws.CopyOwn
import Derived.Deep.MidRow
set_option linter.unusedVariables false
set_option linter.unusedSimpArgs false
namespace Go.Proofs.Ytbadpenfngdodaa
open Go Go.RowKit

def stoW (w : World) (p v : Value) : World := match p, v with
  | .pointer (some a), .agg cs => w.setRow a.block cs
  | _, _ => w
def Sto (ty : TypeId) (w : World) (p v : Value) : Prop := (Instr.storeAt ty p v).run Try.prog w = .ok () (stoW w p v)
theorem sto_of {ty : TypeId} {w : World} {b : Nat} {cur cs : Array Value} {t : TypeId} (h : w.heap[b]? = some (.cells cur t (0, 0))) (hi : (Try.prog.info? ty).map (·.size) = some cs.size) (ho : cur.size = cs.size) (h1 : cs.all (·.oneCell') = true) :
    Sto ty w (.pointer (some ⟨b, 0, none⟩)) (.agg cs) := by
  unfold Sto stoW
  simp only [Instr.storeAt, Instr.sureAddr, Sem.run_bind, Sem.run_pure, Result.andThen_ok, run_storeVar_row w b t ty cur cs h hi ho h1]
theorem run_stoE {ρ : Operand → Value} {dst : Option Tmp} {x y : Operand} {t ty : TypeId} {pos : String} {after : Array Edge} {guard : Option (Nat × Bool)} {w : World} (h : Sto t w (ρ x) (ρ y)) :
    Sem.run Try.prog (execOp ρ { dst := dst, op := .store t x y, type := ty, pos := pos, after := after, guard := guard }) w = .ok .skip (stoW w (ρ x) (ρ y)) := by
  unfold Sto at h
  unfold execOp
  simp only [Sem.run_bind, Sem.run_pure, Result.andThen_ok, h]
theorem has_sto {w : World} {b : Nat} {old cs : Array Value} {t : TypeId} (h : w.heap[b]? = some (.cells old t (0, 0))) : (stoW w (.pointer (some ⟨b, 0, none⟩)) (.agg cs)).heap[b]? = some (.cells cs t (0, 0)) := setRow_heap w b old cs t (0, 0) h
theorem cell_sto {w : World} {g o b : Nat} {cs : Array Value} {v : Value} (h : w.cell? ⟨g, o, none⟩ = some v) (hne : g ≠ b) : (stoW w (.pointer (some ⟨b, 0, none⟩)) (.agg cs)).cell? ⟨g, o, none⟩ = some v := (cell_setRow_other w b cs ⟨g, o, none⟩ hne).trans h
theorem block_sto {w : World} {g b : Nat} {cs : Array Value} (hne : g ≠ b) : (stoW w (.pointer (some ⟨b, 0, none⟩)) (.agg cs)).heap[g]? = w.heap[g]? := setRow_other w b g cs hne
theorem below_sto {B : Nat} {w0 w : World} {b : Nat} {cs : Array Value} (h : Below B w0 w) (hb : B ≤ b) : Below B w0 (stoW w (.pointer (some ⟨b, 0, none⟩)) (.agg cs)) := below_setRow h hb cs
theorem size_sto {w : World} {b : Nat} {cs : Array Value} : (stoW w (.pointer (some ⟨b, 0, none⟩)) (.agg cs)).heap.size = w.heap.size := setRow_size w b cs
/-- .. into the middle of a row. -/
def stoM (w : World) (p v : Value) : World := match p, v with
  | .pointer (some a), .agg cs => w.setCells a.block a.off cs.toList
  | _, _ => w
def StoM (ty : TypeId) (w : World) (p v : Value) : Prop := (Instr.storeAt ty p v).run Try.prog w = .ok () (stoM w p v)
theorem stoM_of {ty : TypeId} {w : World} {b o : Nat} {cs : Array Value} (ht : w.there b o cs.size) (hi : (Try.prog.info? ty).map (·.size) = some cs.size) (h1 : cs.all (·.oneCell') = true) : StoM ty w (.pointer (some ⟨b, o, none⟩)) (.agg cs) := run_storeAt_mid w b o ty cs ht hi h1
theorem run_stoM {ρ : Operand → Value} {dst : Option Tmp} {x y : Operand} {t ty : TypeId} {pos : String} {after : Array Edge} {guard : Option (Nat × Bool)} {w : World} (h : StoM t w (ρ x) (ρ y)) :
    Sem.run Try.prog (execOp ρ { dst := dst, op := .store t x y, type := ty, pos := pos, after := after, guard := guard }) w = .ok .skip (stoM w (ρ x) (ρ y)) := by
  unfold StoM at h
  unfold execOp
  simp only [Sem.run_bind, Sem.run_pure, Result.andThen_ok, h]
/-- At the list of a plain region's operations. -/
theorem wpList_stoM {ops : Array Oper} {rest : List Oper} {o : Oper} {a : Act} {w : World} {Q : Exit → Act → World → Prop} (hgd : o.guard = none) {ty : TypeId} (x y : Operand) (ho : o.op = .store ty x y) {p v : Value} (h : StoM ty w p v)
    (hx : a.eval x = p) (hy : a.eval y = v) (hk : wpList Try.prog ops Q rest (a.put o.dst undef) (stoM w p v)) : wpList Try.prog ops Q (o :: rest) a w := by
  unfold StoM at h
  refine wpList_plain hgd fun _ hK => ?_
  unfold Oper.wp execOp
  simp only [ho, hx, hy, Sem.run_bind, Sem.run_pure, Result.andThen_ok, h]
  exact hK _ _ hk
end Go.Proofs.Ytbadpenfngdodaa
