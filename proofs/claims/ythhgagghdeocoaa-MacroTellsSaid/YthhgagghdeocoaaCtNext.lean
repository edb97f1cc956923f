/-
  What a machine of cells is like behind an instruction, whether it may be or not; an instruction in a box of its own. Laws for other texts; no statement of its own.
-/
import Derived.Test.YthhgagghdeocoaaCtMem
set_option linter.unusedVariables false
set_option linter.unusedSimpArgs false
namespace Go.Proofs.Ythhgagghdeocoaa
open Go Go.RowKit

def nextM (x : Ins) (m : Nat) (f : Int → Int) : Int → Int := if may x m = true then nextF x f else f
def nextT (x : Ins) (m : Nat) (tr : List Ins) : List Ins := if may x m = true then tr ++ [trc x] else tr
def toldM (x : Ins) (m : Nat) (f : Int → Int) : Int := if may x m = true then told x f else 0
def BoxI (w : World) (b : Nat) (x : Ins) : Prop := HasO w b (.cells #[.int .i64 x.op, .int .i64 x.d, .int .i64 x.a, .int .i64 x.b, .int .i64 x.c, .int .u64 x.n] 68 (0, 0))
theorem BoxI.cells {w : World} {b : Nat} {x : Ins} (h : BoxI w b x) : w.cell? ⟨b, 0, none⟩ = some (.int .i64 x.op) ∧ w.cell? ⟨b, 1, none⟩ = some (.int .i64 x.d) ∧ w.cell? ⟨b, 2, none⟩ = some (.int .i64 x.a) ∧ w.cell? ⟨b, 3, none⟩ = some (.int .i64 x.b) ∧ w.cell? ⟨b, 4, none⟩ = some (.int .i64 x.c) ∧ w.cell? ⟨b, 5, none⟩ = some (.int .u64 x.n) :=
  ⟨cell_of_row w b 0 _ _ (0, 0) h, cell_of_row w b 1 _ _ (0, 0) h, cell_of_row w b 2 _ _ (0, 0) h, cell_of_row w b 3 _ _ (0, 0) h, cell_of_row w b 4 _ _ (0, 0) h, cell_of_row w b 5 _ _ (0, 0) h⟩
theorem BoxI.stays {w w' : World} {b : Nat} {x : Ins} (h : BoxI w b x) (hb : Below w.heap.size w w') : BoxI w' b x := has_stays h hb

end Go.Proofs.Ythhgagghdeocoaa
