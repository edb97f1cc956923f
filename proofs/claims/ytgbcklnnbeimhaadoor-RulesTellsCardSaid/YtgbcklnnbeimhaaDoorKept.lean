/-
  But for some blocks all is as it was; what that keeps. Laws for other texts; no statement of its own.
-/
import Derived.Test.YtgbcklnnbeimhaaDoorBase
set_option linter.unusedVariables false
set_option linter.unusedSimpArgs false
namespace Go.Proofs.YtgbcklnnbeimhaaDoor
open Go Go.RowKit

/-- But for the blocks of Q all is as it was. -/
structure Kept (Q : Nat → Prop) (w w' : World) : Prop where
  os : w'.os = w.os
  tape : w'.tape = w.tape
  output : w'.output = w.output
  size : w.heap.size ≤ w'.heap.size
  block : ∀ b, b < w.heap.size → ¬ Q b → w'.heap[b]? = w.heap[b]?
section
variable {Q Q' : Nat → Prop} {w w' w'' : World}
theorem Kept.refl (Q : Nat → Prop) (w : World) : Kept Q w w := ⟨rfl, rfl, rfl, Nat.le_refl _, fun _ _ _ => rfl⟩
theorem Kept.trans (h : Kept Q w w') (k : Kept Q' w' w'') (hq : ∀ b, Q' b → Q b ∨ w.heap.size ≤ b) : Kept Q w w'' :=
  ⟨k.os.trans h.os, k.tape.trans h.tape, k.output.trans h.output, Nat.le_trans h.size k.size, fun b hb hn => (k.block b (Nat.lt_of_lt_of_le hb h.size) fun e => (hq b e).elim hn (fun e => by omega)).trans (h.block b hb hn)⟩
theorem Kept.mono (h : Kept Q w w') (hq : ∀ b, Q b → Q' b ∨ w.heap.size ≤ b) : Kept Q' w w' := ⟨h.os, h.tape, h.output, h.size, fun b hb hn => h.block b hb fun e => (hq b e).elim hn (fun e => by omega)⟩
theorem Kept.of_below (Q : Nat → Prop) (h : Below w.heap.size w w') : Kept Q w w' := ⟨h.os, h.tape, h.output, h.size, fun b hb _ => h.block b hb⟩
theorem Kept.below {B : Nat} (h : Kept Q w w') (hB : B ≤ w.heap.size) (hq : ∀ b, Q b → B ≤ b) : Below B w w' := ⟨h.os, h.tape, h.output, h.size, fun b hb => h.block b (by omega) fun e => by have := hq b e; omega⟩
theorem Kept.alloc (h : Kept Q w w') (o : Obj) : Kept Q w (w'.alloc o) := ⟨h.os, h.tape, h.output, by have := h.size; simp; omega, fun b hb hn => by rw [Below.heap_alloc _ _ _ (Nat.lt_of_lt_of_le hb h.size)]; exact h.block b hb hn⟩
theorem Kept.drew (h : Kept Q w w') : Kept Q w w'.drew := ⟨h.os, h.tape, h.output, h.size, h.block⟩
theorem Kept.grown {row : Option Nat} (h : Kept Q w w') (hg : w'.grownBy w'' row) (hr : ∀ b, row = some b → Q b ∨ w.heap.size ≤ b) : Kept Q w w'' :=
  ⟨hg.os.trans h.os, hg.tape.trans h.tape, hg.output.trans h.output, Nat.le_trans h.size hg.size, fun b hb hn => (hg.block b (Nat.lt_of_lt_of_le hb h.size) fun e => (hr b e.symm).elim hn (fun e => by omega)).trans (h.block b hb hn)⟩
theorem Kept.setCell (h : Kept Q w w') {a : Addr} (ha : Q a.block ∨ w.heap.size ≤ a.block) (u : Value) : Kept Q w (w'.setCell a u) :=
  ⟨h.os, h.tape, h.output, by have := h.size; simpa [World.setCell] using this, fun b hb hn => (Below.heap_setCell _ _ _ _ (by intro e; subst e; exact ha.elim hn (fun e' => by omega))).trans (h.block b hb hn)⟩
theorem Kept.cell {a : Addr} {v : Value} (h : Kept Q w w') (hc : w.cell? a = some v) (hn : ¬ Q a.block) : w'.cell? a = some v :=
  (World.cell?_of_block (w := w) (h.block a.block (World.block_lt_of_cell? w a hc) hn)).trans hc
end

theorem own_block {w w' : World} {B e size n : Nat} {v : Value} {xs : List Value} (h : w.ownsRow B e size v n xs) (hb : ∀ b, v.ownBlock = some b → b < w.heap.size → w'.heap[b]? = w.heap[b]?) : w'.ownsRow B e size v n xs := by
  refine ⟨h.1, ?_⟩
  rcases h.2 with h0 | ⟨g, cap, cur, rfl, hB, hh, r⟩
  · exact Or.inl h0
  · exact Or.inr ⟨g, cap, cur, rfl, hB, (hb g rfl (lt_of_some hh)).trans hh, r⟩
theorem own_raise {w : World} {B B' e size n : Nat} {v : Value} {xs : List Value} (h : w.ownsRow B e size v n xs) (hb : ∀ b, v.ownBlock = some b → B' ≤ b) : w.ownsRow B' e size v n xs := by
  refine ⟨h.1, ?_⟩
  rcases h.2 with h0 | ⟨g, cap, cur, rfl, hB, r⟩
  · exact Or.inl h0
  · exact Or.inr ⟨g, cap, cur, rfl, hb g rfl, r⟩
theorem own_kind {w : World} {B e size n : Nat} {v : Value} {xs : List Value} (h : w.ownsRow B e size v n xs) {b : Nat} (hb : v.ownBlock = some b) : ∃ cur, w.heap[b]? = some (.cells cur e (0, 0)) := by
  rcases h.2 with ⟨rfl, _⟩ | ⟨g, cap, cur, rfl, hB, hh, r⟩
  · cases hb
  · cases hb
    exact ⟨cur, hh⟩
theorem kind_apart {w : World} {b c : Nat} {cur cur' : Array Value} {ty ty' : TypeId} (h : w.heap[b]? = some (.cells cur ty (0, 0))) (h' : w.heap[c]? = some (.cells cur' ty' (0, 0))) (hne : ty ≠ ty') : b ≠ c := by
  intro e
  subst e
  rw [h] at h'
  injection h' with h'
  injection h' with _ e _
  exact hne e

end Go.Proofs.YtgbcklnnbeimhaaDoor
