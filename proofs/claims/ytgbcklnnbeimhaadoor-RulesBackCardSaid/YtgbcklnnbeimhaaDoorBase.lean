/-
  Words for memory that the walks share: what stays as it was; a row of bytes that reads as a list of numbers. Laws for other texts; no statement of its own.
-/
import Derived.Test.YtgbcklnnbeimhaaDoorRows
import Derived.WalkKit
import Derived.WalkSpells
import Derived.WalkLawsBesides
set_option linter.unusedVariables false
set_option linter.unusedSimpArgs false
namespace Go.Proofs.YtgbcklnnbeimhaaDoor
open Go Go.RowKit

theorem lt_of_some {w : World} {g : Nat} {o : Obj} (h : w.heap[g]? = some o) : g < w.heap.size := by
  rcases Nat.lt_or_ge g w.heap.size with hlt | hge
  · exact hlt
  · rw [Array.getElem?_eq_none hge] at h; cases h

/-- What is owned stays owned where all that was there is as it was. -/
theorem own_stays {w w' : World} {B e size n : Nat} {v : Value} {xs : List Value} (h : w.ownsRow B e size v n xs) (hb : Below w.heap.size w w') : w'.ownsRow B e size v n xs := by
  refine ⟨h.1, ?_⟩
  rcases h.2 with h0 | ⟨g, cap, cur, hv, hB, hh, r⟩
  · exact Or.inl h0
  · exact Or.inr ⟨g, cap, cur, hv, hB, (hb.block g (lt_of_some hh)).trans hh, r⟩
theorem own_lower {w : World} {B B' e size n : Nat} {v : Value} {xs : List Value} (h : w.ownsRow B e size v n xs) (hB : B' ≤ B) : w.ownsRow B' e size v n xs := by
  refine ⟨h.1, ?_⟩
  rcases h.2 with h0 | ⟨g, cap, cur, hv, hg, r⟩
  · exact Or.inl h0
  · exact Or.inr ⟨g, cap, cur, hv, by omega, r⟩

theorem gro {w a b : World} (h : Below w.heap.size w a) (hb : Below a.heap.size a b) : Below w.heap.size w b := h.trans (hb.mono h.size)
theorem gro1 {w a b : World} {o : Obj} (h : Below w.heap.size w a) (hb : Below (a.alloc o).heap.size (a.alloc o) b) : Below w.heap.size w b := gro (h.alloc h.size o) hb
theorem undrew {w w1 : World} (h : Below w.drew.heap.size w.drew w1) : Below w.heap.size w w1 := ⟨h.os, h.tape, h.output, h.size, h.block⟩
theorem cell_stays {w w1 : World} {a : Addr} {v : Value} (h : w.cell? a = some v) (hb : Below w.heap.size w w1) : w1.cell? a = some v := (hb.cell (World.block_lt_of_cell? w a h)).trans h
/-- The bytes that lie from A on read as xs, in a block below B. -/
def RdB (w : World) (B : Nat) (A : Option Addr) (xs : List Int) : Prop :=
  ∀ k, k < xs.length → ∃ b off, A = some ⟨b, off, none⟩ ∧ b < B ∧ w.cell? ⟨b, off + k, none⟩ = some (.int .u8 (xs.getD k 0))

section
variable {w w' : World} {B B' : Nat} {A : Option Addr} {xs : List Int}
theorem RdB.below (h : RdB w B A xs) (hb : Below B w w') : RdB w' B A xs := fun k hk => by
  obtain ⟨b, off, e, hB, hc⟩ := h k hk
  exact ⟨b, off, e, hB, (hb.cell (p := ⟨b, off + k, none⟩) hB).trans hc⟩
theorem RdB.more (h : RdB w B A xs) (hB : B ≤ B') : RdB w B' A xs := fun k hk => by
  obtain ⟨b, off, e, hb, hc⟩ := h k hk
  exact ⟨b, off, e, by omega, hc⟩
theorem RdB.at (h : RdB w B A xs) {k : Nat} (hk : k < xs.length) : ∃ b off, A = some ⟨b, off, none⟩ ∧ b < B ∧ ∀ j, j < xs.length → w.cell? ⟨b, off + j, none⟩ = some (.int .u8 (xs.getD j 0)) := by
  obtain ⟨b, off, e, hB, _⟩ := h k hk
  refine ⟨b, off, e, hB, fun j hj => ?_⟩
  obtain ⟨b', off', e', _, hc⟩ := h j hj
  rw [e] at e'
  injection e' with e'
  injection e' with e1 e2
  subst e1 e2
  exact hc
theorem rd_own {base n : Nat} {e : TypeId} {v : Value} (h : w.ownsRow base e 1 v n (xs.map (Value.int .u8))) : ∃ A cap, v = .slice A n cap ∧ n = xs.length ∧ RdB w w.heap.size A xs ∧ (A = none → n = 0 ∧ cap = 0) := by
  have hn : n = xs.length := by have := h.1; simp at this; omega
  rcases h.2 with ⟨rfl, rfl⟩ | ⟨g, cap, cur, rfl, hg, hh, hc, hm, hs, ht⟩
  · exact ⟨none, 0, rfl, hn, fun k hk => by omega, fun _ => ⟨rfl, rfl⟩⟩
  · refine ⟨_, cap, rfl, hn, fun k hk => ⟨g, 0, rfl, lt_of_some hh, ?_⟩, fun h => by cases h⟩
    rw [Nat.zero_add, cell_of_row w g k cur e (0, 0) hh]
    have e1 : (cur.toList.take (n * 1))[k]? = (xs.map (Value.int .u8))[k]? := by rw [ht]
    rw [List.getElem?_take_of_lt (by omega)] at e1
    rw [← Array.getElem?_toList, e1]
    simp [List.getD_eq_getElem?_getD, List.getElem?_eq_getElem hk]
end

end Go.Proofs.YtgbcklnnbeimhaaDoor
