/-
  Words for memory that the walks share: a block that holds the four words of a set; a row of bytes that reads as a list of numbers; what stays as it was. No statement of its own.
-/
import Derived.Test.YtammicfijnffaaaRows
import Derived.Test.YtammicfijnffaaaSetMath
import Derived.WalkKit
import Derived.WalkSpells
import Derived.WalkLawsBesides
set_option linter.unusedVariables false
set_option linter.unusedSimpArgs false
namespace Go.Proofs.Ytammicfijnffaaa
open Go Go.RowKit

theorem lt_of_some {w : World} {g : Nat} {o : Obj} (h : w.heap[g]? = some o) : g < w.heap.size := by
  rcases Nat.lt_or_ge g w.heap.size with hlt | hge
  · exact hlt
  · rw [Array.getElem?_eq_none hge] at h; cases h

/-- What is owned stays owned where all that was there is as it was. -/
theorem own_stays {w w' : World} {B e size n : Nat} {v : Value} {xs : List Value} (h : w.ownsRow B e size v n xs) (hb : Below w.heap.size w w') : w'.ownsRow B e size v n xs := by
  refine ⟨h.1, ?_⟩
  rcases h.2 with h0 | ⟨g, cap, cur, hv, hB, hh, r⟩
  · exact Or.inl h0
  · exact Or.inr ⟨g, cap, cur, hv, hB, (hb.block g (lt_of_some hh)).trans hh, r⟩
theorem own_lower {w : World} {B B' e size n : Nat} {v : Value} {xs : List Value} (h : w.ownsRow B e size v n xs) (hB : B' ≤ B) : w.ownsRow B' e size v n xs := by
  refine ⟨h.1, ?_⟩
  rcases h.2 with h0 | ⟨g, cap, cur, hv, hg, r⟩
  · exact Or.inl h0
  · exact Or.inr ⟨g, cap, cur, hv, by omega, r⟩

theorem gro {w a b : World} (h : Below w.heap.size w a) (hb : Below a.heap.size a b) : Below w.heap.size w b := h.trans (hb.mono h.size)
theorem gro1 {w a b : World} {o : Obj} (h : Below w.heap.size w a) (hb : Below (a.alloc o).heap.size (a.alloc o) b) : Below w.heap.size w b := gro (h.alloc h.size o) hb
theorem undrew {w w1 : World} (h : Below w.drew.heap.size w.drew w1) : Below w.heap.size w w1 := ⟨h.os, h.tape, h.output, h.size, h.block⟩
theorem cell_stays {w w1 : World} {a : Addr} {v : Value} (h : w.cell? a = some v) (hb : Below w.heap.size w w1) : w1.cell? a = some v := (hb.cell (World.block_lt_of_cell? w a h)).trans h

/-- The set p as a value. -/
def setV (p : Nat → Bool) : Value := .agg #[.int .u64 (word p 0), .int .u64 (word p 1), .int .u64 (word p 2), .int .u64 (word p 3)]
theorem setV_congr {p q : Nat → Bool} (h : ∀ x, x < 256 → p x = q x) : setV p = setV q := by
  unfold setV
  rw [word_congr h (i := 0) (by omega), word_congr h (i := 1) (by omega), word_congr h (i := 2) (by omega), word_congr h (i := 3) (by omega)]

/-- Block g holds the four words of the set p. -/
def Box4 (w : World) (g : Nat) (p : Nat → Bool) : Prop := w.heap[g]? = some (.cells #[.int .u64 (word p 0), .int .u64 (word p 1), .int .u64 (word p 2), .int .u64 (word p 3)] 26 (0, 0))

section
variable {w w' : World} {g B : Nat} {p q : Nat → Bool}
theorem Box4.cell (h : Box4 w g p) :
    w.cell? ⟨g, 0, none⟩ = some (.int .u64 (word p 0)) ∧ w.cell? ⟨g, 1, none⟩ = some (.int .u64 (word p 1)) ∧ w.cell? ⟨g, 2, none⟩ = some (.int .u64 (word p 2)) ∧ w.cell? ⟨g, 3, none⟩ = some (.int .u64 (word p 3)) := by
  unfold Box4 at h
  refine ⟨?_, ?_, ?_, ?_⟩ <;> exact cell_of_row w g _ _ 26 (0, 0) h
theorem Box4.frozen (h : Box4 w g p) :
    w.frozen? ⟨g, 0, none⟩ = false ∧ w.frozen? ⟨g, 1, none⟩ = false ∧ w.frozen? ⟨g, 2, none⟩ = false ∧ w.frozen? ⟨g, 3, none⟩ = false := by
  unfold Box4 at h
  refine ⟨?_, ?_, ?_, ?_⟩ <;> simp [World.frozen?, h]
theorem Box4.below (h : Box4 w g p) (hb : Below B w w') (hg : g < B) : Box4 w' g p := (hb.block g hg).trans h
theorem Box4.lt (h : Box4 w g p) : g < w.heap.size := lt_of_some h
theorem Box4.stays (h : Box4 w g p) (hb : Below w.heap.size w w') : Box4 w' g p := h.below hb h.lt
theorem Box4.alloc (h : Box4 w g p) (o : Obj) : Box4 (w.alloc o) g p := (Below.heap_alloc w o g h.lt).trans h
theorem Box4.grown {row : Option Nat} (h : Box4 w g p) (hb : w.grownBy w' row) (hg : some g ≠ row) : Box4 w' g p := (hb.block g h.lt hg).trans h
theorem Box4.far (h : Box4 w g p) {a : Addr} (ha : g ≠ a.block) (u : Value) : Box4 (w.setCell a u) g p := (Below.heap_setCell w a u g ha).trans h
theorem Box4.new (w : World) (p : Nat → Bool) : Box4 (w.alloc (.cells #[.int .u64 (word p 0), .int .u64 (word p 1), .int .u64 (word p 2), .int .u64 (word p 3)] 26)) w.heap.size p := heap_alloc_new w _
theorem Box4.new0 (w : World) : Box4 (w.alloc (.cells #[.int .u64 0, .int .u64 0, .int .u64 0, .int .u64 0] 26)) w.heap.size noneP := by
  have h := Box4.new w noneP
  simpa only [word_none] using h
theorem Box4.congr (h : Box4 w g p) (hq : ∀ x, x < 256 → p x = q x) : Box4 w g q := by
  unfold Box4 at h ⊢
  rwa [← word_congr hq (i := 0) (by omega), ← word_congr hq (i := 1) (by omega), ← word_congr hq (i := 2) (by omega), ← word_congr hq (i := 3) (by omega)]

/-- The world with all four words stored anew. -/
def put4 (w : World) (g : Nat) (q : Nat → Bool) : World :=
  (((w.setCell ⟨g, 0, none⟩ (.int .u64 (word q 0))).setCell ⟨g, 1, none⟩ (.int .u64 (word q 1))).setCell ⟨g, 2, none⟩ (.int .u64 (word q 2))).setCell ⟨g, 3, none⟩ (.int .u64 (word q 3))
theorem Box4.put (h : Box4 w g p) (q : Nat → Bool) : Box4 (put4 w g q) g q := by
  unfold Box4 put4 at *
  simp [World.setCell, Array.getElem?_modify, h]
theorem Box4.set1 (h : Box4 w g p) (i : Nat) (hi : i < 4) (hq : ∀ j, j ≠ i → word q j = word p j) : Box4 (w.setCell ⟨g, i, none⟩ (.int .u64 (word q i))) g q := by
  unfold Box4 at *
  match i, hi with
  | 0, _ => rw [hq 1 (by omega), hq 2 (by omega), hq 3 (by omega)]; simp [World.setCell, Array.getElem?_modify, h]
  | 1, _ => rw [hq 0 (by omega), hq 2 (by omega), hq 3 (by omega)]; simp [World.setCell, Array.getElem?_modify, h]
  | 2, _ => rw [hq 0 (by omega), hq 1 (by omega), hq 3 (by omega)]; simp [World.setCell, Array.getElem?_modify, h]
  | 3, _ => rw [hq 0 (by omega), hq 1 (by omega), hq 2 (by omega)]; simp [World.setCell, Array.getElem?_modify, h]
theorem Box4.drew (h : Box4 w g p) : Box4 w.drew g p := h
theorem Box4.putFar {g' : Nat} (h : Box4 w g p) (hg : g ≠ g') (q : Nat → Bool) : Box4 (put4 w g' q) g p :=
  (((h.far (a := ⟨g', 0, none⟩) hg _).far (a := ⟨g', 1, none⟩) hg _).far (a := ⟨g', 2, none⟩) hg _).far (a := ⟨g', 3, none⟩) hg _
theorem below_put4 {a : World} (h : Below B a w) (hg : B ≤ g) (q : Nat → Bool) : Below B a (put4 w g q) :=
  (((h.setCell (p := ⟨g, 0, none⟩) hg _).setCell (p := ⟨g, 1, none⟩) hg _).setCell (p := ⟨g, 2, none⟩) hg _).setCell (p := ⟨g, 3, none⟩) hg _
end

/-- The bytes that lie from A on read as xs, in a block below B. -/
def RdB (w : World) (B : Nat) (A : Option Addr) (xs : List Int) : Prop :=
  ∀ k, k < xs.length → ∃ b off, A = some ⟨b, off, none⟩ ∧ b < B ∧ w.cell? ⟨b, off + k, none⟩ = some (.int .u8 (xs.getD k 0))

section
variable {w w' : World} {B B' : Nat} {A : Option Addr} {xs : List Int}
theorem RdB.below (h : RdB w B A xs) (hb : Below B w w') : RdB w' B A xs := fun k hk => by
  obtain ⟨b, off, e, hB, hc⟩ := h k hk
  exact ⟨b, off, e, hB, (hb.cell (p := ⟨b, off + k, none⟩) hB).trans hc⟩
theorem RdB.more (h : RdB w B A xs) (hB : B ≤ B') : RdB w B' A xs := fun k hk => by
  obtain ⟨b, off, e, hb, hc⟩ := h k hk
  exact ⟨b, off, e, by omega, hc⟩
theorem RdB.at (h : RdB w B A xs) {k : Nat} (hk : k < xs.length) : ∃ b off, A = some ⟨b, off, none⟩ ∧ b < B ∧ ∀ j, j < xs.length → w.cell? ⟨b, off + j, none⟩ = some (.int .u8 (xs.getD j 0)) := by
  obtain ⟨b, off, e, hB, _⟩ := h k hk
  refine ⟨b, off, e, hB, fun j hj => ?_⟩
  obtain ⟨b', off', e', _, hc⟩ := h j hj
  rw [e] at e'
  injection e' with e'
  injection e' with e1 e2
  subst e1 e2
  exact hc
theorem rd_own {base n : Nat} {e : TypeId} {v : Value} (h : w.ownsRow base e 1 v n (xs.map (Value.int .u8))) : ∃ A cap, v = .slice A n cap ∧ n = xs.length ∧ RdB w w.heap.size A xs ∧ (A = none → n = 0 ∧ cap = 0) := by
  have hn : n = xs.length := by have := h.1; simp at this; omega
  rcases h.2 with ⟨rfl, rfl⟩ | ⟨g, cap, cur, rfl, hg, hh, hc, hm, hs, ht⟩
  · exact ⟨none, 0, rfl, hn, fun k hk => by omega, fun _ => ⟨rfl, rfl⟩⟩
  · refine ⟨_, cap, rfl, hn, fun k hk => ⟨g, 0, rfl, lt_of_some hh, ?_⟩, fun h => by cases h⟩
    rw [Nat.zero_add, cell_of_row w g k cur e (0, 0) hh]
    have e1 : (cur.toList.take (n * 1))[k]? = (xs.map (Value.int .u8))[k]? := by rw [ht]
    rw [List.getElem?_take_of_lt (by omega)] at e1
    rw [← Array.getElem?_toList, e1]
    simp [List.getD_eq_getElem?_getD, List.getElem?_eq_getElem hk]
end

end Go.Proofs.Ytammicfijnffaaa
