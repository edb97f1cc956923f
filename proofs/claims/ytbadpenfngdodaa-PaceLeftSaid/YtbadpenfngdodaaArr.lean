/-
  A variable that is a long array of numbers, as memory and as a value. Words for other texts; no statement of its own.
-/
import Derived.Test.YtbadpenfngdodaaMem
import Derived.Laws.Tables
import Derived.Laws.Cells
set_option linter.unusedVariables false
set_option linter.unusedSimpArgs false
namespace Go.Proofs.Ytbadpenfngdodaa
open Go Go.RowKit

/-- n numbers as values. -/
def arrV (n : Nat) (F : Nat → Nat) : Array Value := ((List.range n).map fun j => Value.int .i64 (F j : Int)).toArray
theorem arrV_size (n : Nat) (F : Nat → Nat) : (arrV n F).size = n := by simp [arrV]
theorem arrV_get (n : Nat) (F : Nat → Nat) (j : Nat) (h : j < n) : (arrV n F)[j]? = some (.int .i64 (F j : Int)) := by simp [arrV, h]
theorem arrV_congr {n : Nat} {F G : Nat → Nat} (h : ∀ j, j < n → F j = G j) : arrV n F = arrV n G := by
  unfold arrV
  congr 1
  exact List.map_congr_left fun j hj => by rw [h j (List.mem_range.1 hj)]
theorem arrV_set (n : Nat) (F : Nat → Nat) (j v : Nat) (h : j < n) : (arrV n F).setIfInBounds j (.int .i64 (v : Int)) = arrV n (fun i => if i = j then v else F i) := by
  apply Array.ext
  · simp [arrV]
  · intro i h1 h2
    have hi : i < n := by simpa [arrV] using h2
    rw [Array.getElem_setIfInBounds]
    · by_cases e : j = i
      · subst e; simp [arrV]
      · have : ¬ i = j := fun x => e x.symm
        simp [arrV, e, this]
    · simpa [arrV] using hi
theorem arrV_one (n : Nat) (F : Nat → Nat) : ∀ v ∈ (arrV n F).toList, v.oneCell' = true := by
  intro v hv
  simp only [arrV, List.mem_map] at hv
  obtain ⟨j, _, rfl⟩ := hv
  rfl

/-- Block g is a variable of n numbers. -/
def BoxN (w : World) (g t n : Nat) (F : Nat → Nat) : Prop := w.heap[g]? = some (.cells (arrV n F) t (0, 0))
section
variable {w w' : World} {g B t n : Nat} {F G : Nat → Nat}
theorem BoxN.cell (h : BoxN w g t n F) (j : Nat) (hj : j < n) : w.cell? ⟨g, j, none⟩ = some (.int .i64 (F j : Int)) := by
  rw [cell_of_row w g j _ t (0, 0) h]
  exact arrV_get n F j hj
theorem BoxN.frozen (h : BoxN w g t n F) (j : Nat) : w.frozen? ⟨g, j, none⟩ = false := by
  unfold BoxN at h
  simp [World.frozen?, h]
theorem BoxN.lt (h : BoxN w g t n F) : g < w.heap.size := lt_of_some h
theorem BoxN.below (h : BoxN w g t n F) (hb : Below B w w') (hg : g < B) : BoxN w' g t n F := (hb.block g hg).trans h
theorem BoxN.stays (h : BoxN w g t n F) (hb : Below w.heap.size w w') : BoxN w' g t n F := h.below hb h.lt
theorem BoxN.alloc (h : BoxN w g t n F) (o : Obj) : BoxN (w.alloc o) g t n F := (Below.heap_alloc w o g h.lt).trans h
theorem BoxN.far (h : BoxN w g t n F) {a : Addr} (ha : g ≠ a.block) (u : Value) : BoxN (w.setCell a u) g t n F := (Below.heap_setCell w a u g ha).trans h
theorem BoxN.row (h : BoxN w g t n F) {g' : Nat} (ha : g ≠ g') (A : Array Value) : BoxN (w.setRow g' A) g t n F := (setRow_other w g' g A ha).trans h
theorem BoxN.drew (h : BoxN w g t n F) : BoxN w.drew g t n F := h
theorem BoxN.new (w : World) (t n : Nat) (F : Nat → Nat) : BoxN (w.alloc (.cells (arrV n F) t)) w.heap.size t n F := heap_alloc_new w _
theorem BoxN.congr (h : BoxN w g t n F) (hq : ∀ j, j < n → F j = G j) : BoxN w g t n G := by
  unfold BoxN at h ⊢
  rwa [← arrV_congr hq]
theorem BoxN.put (h : BoxN w g t n F) (G : Nat → Nat) : BoxN (w.setRow g (arrV n G)) g t n G := setRow_heap w g _ _ t (0, 0) h
theorem BoxN.set (h : BoxN w g t n F) (j v : Nat) (hj : j < n) : BoxN (w.setCell ⟨g, j, none⟩ (.int .i64 (v : Int))) g t n (fun i => if i = j then v else F i) := by
  rw [setCell_eq_setRow w g j _ t (0, 0) _ h, arrV_set n F j v hj]
  exact setRow_heap w g _ _ t (0, 0) h
theorem Box4.row {p : Nat → Bool} (h : Box4 w g p) {g' : Nat} (ha : g ≠ g') (A : Array Value) : Box4 (w.setRow g' A) g p := (setRow_other w g' g A ha).trans h
theorem below_setRow {a : World} (h : Below B a w) (hg : B ≤ g) (A : Array Value) : Below B a (w.setRow g A) :=
  ⟨h.os, h.tape, h.output, by rw [setRow_size]; exact h.size, fun k hk => (setRow_other w g k A (by omega)).trans (h.block k hk)⟩
end

section
variable {w : World} {g n : Nat} {F G : Nat → Nat} {a : Act} {next : Act → World → Prop} {Q : Exit → Act → World → Prop} {d : Option Nat} {ty : TypeId} {pos : String} {aft : Array Edge} {gd : Option (Nat × Bool)}
theorem load256 (h : BoxN w g 33 256 F) : (Instr.loadAt 33 (.pointer (some ⟨g, 0, none⟩))).run Try.prog w = .ok (.agg (arrV 256 F)) w := by
  have h1 : (loadCells ⟨g, 0, none⟩ 256).run Try.prog w = .ok (arrV 256 F) w := run_loadCells w _ 256 (fun j => .int .i64 (F j : Int)) (fun j hj => by rw [Addr.add_lit, Nat.zero_add]; exact h.cell j hj)
  have h2 : (isAgg 33).run Try.prog w = .ok true w := by kernel_rfl
  have h3 : (sizeOf 33).run Try.prog w = .ok 256 w := by kernel_rfl
  simp [Instr.loadAt, loadVar, Instr.sureAddr, Sem.run_bind, h1, h2, h3]
theorem loadVar256 (h : BoxN w g 33 256 F) : (loadVar 33 ⟨g, 0, none⟩).run Try.prog w = .ok (.agg (arrV 256 F)) w := by
  have h1 : (loadCells ⟨g, 0, none⟩ 256).run Try.prog w = .ok (arrV 256 F) w := run_loadCells w _ 256 (fun j => .int .i64 (F j : Int)) (fun j hj => by rw [Addr.add_lit, Nat.zero_add]; exact h.cell j hj)
  have h2 : (isAgg 33).run Try.prog w = .ok true w := by kernel_rfl
  have h3 : (sizeOf 33).run Try.prog w = .ok 256 w := by kernel_rfl
  simp [loadVar, Sem.run_bind, h1, h2, h3]
theorem results_arr {fn : Func} {tmps : Array Value} {x y : Nat} {v : Value} (hr : fn.results = #[.cell x 33, .tmp y]) (hx : tmps.getD x undef = .pointer (some ⟨g, 0, none⟩)) (hy : tmps.getD y undef = v)
    (h : BoxN w g 33 256 F) : (results fn tmps).run Try.prog w = .ok (.tuple #[.agg (arrV 256 F), v]) w := by
  have e : (#[ResultVar.cell x 33, .tmp y] : Array ResultVar) = [ResultVar.cell x 33, .tmp y].toArray := rfl
  rw [Array.getD_eq_getD_getElem?] at hx hy
  unfold results
  rw [hr, e]
  simp [Sem.run_bind, hx, hy, loadVar256 h, asAddr]
theorem store256 (h : BoxN w g 33 256 F) : (Instr.storeAt 33 (.pointer (some ⟨g, 0, none⟩)) (.agg (arrV 256 G))).run Try.prog w = .ok () (w.setRow g (arrV 256 G)) := by
  have h1 : (storeCells ⟨g, 0, none⟩ (arrV 256 G).toList 0).run Try.prog w = .ok () (w.setRow g ((arrV 256 F).toList.take 0 ++ (arrV 256 G).toList).toArray) :=
    run_storeCells_from g _ _ 0 _ w h (by simp [arrV]) (arrV_one 256 G)
  have h3 : (sizeOf 33).run Try.prog w = .ok 256 w := by kernel_rfl
  have h4 : (arrV 256 G).size = 256 := arrV_size _ _
  rw [List.take_zero, List.nil_append, Array.toArray_toList] at h1
  simp [Instr.storeAt, storeVar, Instr.sureAddr, Sem.run_bind, Value.cells, h1, h3, h4]
theorem index256 (w : World) (j : Nat) (hj : j < 256) : (Instr.index 33 (.agg (arrV 256 F)) (.int .i64 (j : Int))).run Try.prog w = .ok (.int .i64 (F j : Int)) w := by
  have hu : (underlying 33).run Try.prog w = .ok (.array 256 3) w := by kernel_rfl
  have h3 : (sizeOf 3).run Try.prog w = .ok 1 w := by kernel_rfl
  have h2 : (isAgg 3).run Try.prog w = .ok false w := by kernel_rfl
  have h4 := arrV_get 256 F j hj
  have h5 : (0 : Int) ≤ (j : Int) ∧ (j : Int) < ((256 : Nat) : Int) := by omega
  simp only [Instr.index, asIntOf, part, Sem.run_bind, Sem.run_pure, Result.andThen_ok, hu, h3, h2, h5, and_self, if_true, Int.toNat_natCast, Nat.mul_one]
  simp [h4]
theorem wp_load256 {x : Operand} (hx : a.eval x = .pointer (some ⟨g, 0, none⟩)) (h : BoxN w g 33 256 F) (hK : next (a.put d (.agg (arrV 256 F))) w) :
    Oper.wp Try.prog ⟨d, .load 33 x, ty, pos, aft, gd⟩ a w next Q := by
  have e : (execOp a.eval ⟨d, .load 33 x, ty, pos, aft, gd⟩).run Try.prog w = .ok (.value (.agg (arrV 256 F))) w := by
    simp [execOp, hx, Sem.run_bind, load256 h]
  unfold Oper.wp
  rw [e]
  exact hK
theorem wp_store256 {x y : Operand} (hx : a.eval x = .pointer (some ⟨g, 0, none⟩)) (hy : a.eval y = .agg (arrV 256 G)) (h : BoxN w g 33 256 F) (hK : next (a.put d undef) (w.setRow g (arrV 256 G))) :
    Oper.wp Try.prog ⟨d, .store 33 x y, ty, pos, aft, gd⟩ a w next Q := by
  have e : (execOp a.eval ⟨d, .store 33 x y, ty, pos, aft, gd⟩).run Try.prog w = .ok .skip (w.setRow g (arrV 256 G)) := by
    simp [execOp, hx, hy, Sem.run_bind, store256 (G := G) h]
  unfold Oper.wp
  rw [e]
  exact hK
variable {ops : Array Oper} {QE : Exit → Act → World → Prop} {rest : List Oper}
theorem wpList_load256 {x : Operand} (hx : a.eval x = .pointer (some ⟨g, 0, none⟩)) (h : BoxN w g 33 256 F) (hK : wpList Try.prog ops QE rest (a.put d (.agg (arrV 256 F))) w) :
    wpList Try.prog ops QE (⟨d, .load 33 x, ty, pos, aft, none⟩ :: rest) a w :=
  wpList_plain rfl fun K hk => wp_load256 hx h (hk _ _ hK)
theorem wpList_store256 {x y : Operand} (hx : a.eval x = .pointer (some ⟨g, 0, none⟩)) (hy : a.eval y = .agg (arrV 256 G)) (h : BoxN w g 33 256 F) (hK : wpList Try.prog ops QE rest (a.put d undef) (w.setRow g (arrV 256 G))) :
    wpList Try.prog ops QE (⟨d, .store 33 x y, ty, pos, aft, none⟩ :: rest) a w :=
  wpList_plain rfl fun K hk => wp_store256 hx hy h (hk _ _ hK)
/-- The whole array stored into a variable that was made last: the world behind it a letter. -/
theorem wpList_lay256 {x y : Operand} (hx : a.eval x = .pointer (some ⟨g, 0, none⟩)) (hy : a.eval y = .agg (arrV 256 G)) (h : BoxN w g 33 256 F)
    (hK : ∀ w', BoxN w' g 33 256 G → Below g w w' → w'.heap.size = w.heap.size → wpList Try.prog ops QE rest (a.put d undef) w') :
    wpList Try.prog ops QE (⟨d, .store 33 x y, ty, pos, aft, none⟩ :: rest) a w :=
  wpList_store256 hx hy h (hK _ (h.put G) (below_setRow (Below.refl _ _) (Nat.le_refl _) _) (setRow_size _ _ _))
end
end Go.Proofs.Ytbadpenfngdodaa
