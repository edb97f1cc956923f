/-
  Words for memory that the walks share: a block that holds the four words of a set. No statement of its own.
-/
import Derived.Test.YtbadpenfngdodaaBase
import Derived.Test.YtbadpenfngdodaaSetMath
set_option linter.unusedVariables false
set_option linter.unusedSimpArgs false
namespace Go.Proofs.Ytbadpenfngdodaa
open Go Go.RowKit


/-- The set p as a value. -/
def setV (p : Nat → Bool) : Value := .agg #[.int .u64 (word p 0), .int .u64 (word p 1), .int .u64 (word p 2), .int .u64 (word p 3)]
theorem setV_congr {p q : Nat → Bool} (h : ∀ x, x < 256 → p x = q x) : setV p = setV q := by
  unfold setV
  rw [word_congr h (i := 0) (by omega), word_congr h (i := 1) (by omega), word_congr h (i := 2) (by omega), word_congr h (i := 3) (by omega)]

/-- Block g holds the four words of the set p. -/
def Box4 (w : World) (g : Nat) (p : Nat → Bool) : Prop := w.heap[g]? = some (.cells #[.int .u64 (word p 0), .int .u64 (word p 1), .int .u64 (word p 2), .int .u64 (word p 3)] 83 (0, 0))

section
variable {w w' : World} {g B : Nat} {p q : Nat → Bool}
theorem Box4.cell (h : Box4 w g p) :
    w.cell? ⟨g, 0, none⟩ = some (.int .u64 (word p 0)) ∧ w.cell? ⟨g, 1, none⟩ = some (.int .u64 (word p 1)) ∧ w.cell? ⟨g, 2, none⟩ = some (.int .u64 (word p 2)) ∧ w.cell? ⟨g, 3, none⟩ = some (.int .u64 (word p 3)) := by
  unfold Box4 at h
  refine ⟨?_, ?_, ?_, ?_⟩ <;> exact cell_of_row w g _ _ 83 (0, 0) h
theorem Box4.frozen (h : Box4 w g p) :
    w.frozen? ⟨g, 0, none⟩ = false ∧ w.frozen? ⟨g, 1, none⟩ = false ∧ w.frozen? ⟨g, 2, none⟩ = false ∧ w.frozen? ⟨g, 3, none⟩ = false := by
  unfold Box4 at h
  refine ⟨?_, ?_, ?_, ?_⟩ <;> simp [World.frozen?, h]
theorem Box4.below (h : Box4 w g p) (hb : Below B w w') (hg : g < B) : Box4 w' g p := (hb.block g hg).trans h
theorem Box4.lt (h : Box4 w g p) : g < w.heap.size := lt_of_some h
theorem Box4.stays (h : Box4 w g p) (hb : Below w.heap.size w w') : Box4 w' g p := h.below hb h.lt
theorem Box4.alloc (h : Box4 w g p) (o : Obj) : Box4 (w.alloc o) g p := (Below.heap_alloc w o g h.lt).trans h
theorem Box4.grown {row : Option Nat} (h : Box4 w g p) (hb : w.grownBy w' row) (hg : some g ≠ row) : Box4 w' g p := (hb.block g h.lt hg).trans h
theorem Box4.far (h : Box4 w g p) {a : Addr} (ha : g ≠ a.block) (u : Value) : Box4 (w.setCell a u) g p := (Below.heap_setCell w a u g ha).trans h
theorem Box4.new (w : World) (p : Nat → Bool) : Box4 (w.alloc (.cells #[.int .u64 (word p 0), .int .u64 (word p 1), .int .u64 (word p 2), .int .u64 (word p 3)] 83)) w.heap.size p := heap_alloc_new w _
theorem Box4.new0 (w : World) : Box4 (w.alloc (.cells #[.int .u64 0, .int .u64 0, .int .u64 0, .int .u64 0] 83)) w.heap.size noneP := by
  have h := Box4.new w noneP
  simpa only [word_none] using h
theorem Box4.congr (h : Box4 w g p) (hq : ∀ x, x < 256 → p x = q x) : Box4 w g q := by
  unfold Box4 at h ⊢
  rwa [← word_congr hq (i := 0) (by omega), ← word_congr hq (i := 1) (by omega), ← word_congr hq (i := 2) (by omega), ← word_congr hq (i := 3) (by omega)]

/-- The world with all four words stored anew. -/
def put4 (w : World) (g : Nat) (q : Nat → Bool) : World :=
  (((w.setCell ⟨g, 0, none⟩ (.int .u64 (word q 0))).setCell ⟨g, 1, none⟩ (.int .u64 (word q 1))).setCell ⟨g, 2, none⟩ (.int .u64 (word q 2))).setCell ⟨g, 3, none⟩ (.int .u64 (word q 3))
theorem Box4.put (h : Box4 w g p) (q : Nat → Bool) : Box4 (put4 w g q) g q := by
  unfold Box4 put4 at *
  simp [World.setCell, Array.getElem?_modify, h]
theorem Box4.set1 (h : Box4 w g p) (i : Nat) (hi : i < 4) (hq : ∀ j, j ≠ i → word q j = word p j) : Box4 (w.setCell ⟨g, i, none⟩ (.int .u64 (word q i))) g q := by
  unfold Box4 at *
  match i, hi with
  | 0, _ => rw [hq 1 (by omega), hq 2 (by omega), hq 3 (by omega)]; simp [World.setCell, Array.getElem?_modify, h]
  | 1, _ => rw [hq 0 (by omega), hq 2 (by omega), hq 3 (by omega)]; simp [World.setCell, Array.getElem?_modify, h]
  | 2, _ => rw [hq 0 (by omega), hq 1 (by omega), hq 3 (by omega)]; simp [World.setCell, Array.getElem?_modify, h]
  | 3, _ => rw [hq 0 (by omega), hq 1 (by omega), hq 2 (by omega)]; simp [World.setCell, Array.getElem?_modify, h]
theorem Box4.drew (h : Box4 w g p) : Box4 w.drew g p := h
theorem Box4.putFar {g' : Nat} (h : Box4 w g p) (hg : g ≠ g') (q : Nat → Bool) : Box4 (put4 w g' q) g p :=
  (((h.far (a := ⟨g', 0, none⟩) hg _).far (a := ⟨g', 1, none⟩) hg _).far (a := ⟨g', 2, none⟩) hg _).far (a := ⟨g', 3, none⟩) hg _
theorem below_put4 {a : World} (h : Below B a w) (hg : B ≤ g) (q : Nat → Bool) : Below B a (put4 w g q) :=
  (((h.setCell (p := ⟨g, 0, none⟩) hg _).setCell (p := ⟨g, 1, none⟩) hg _).setCell (p := ⟨g, 2, none⟩) hg _).setCell (p := ⟨g, 3, none⟩) hg _
end

end Go.Proofs.Ytbadpenfngdodaa
