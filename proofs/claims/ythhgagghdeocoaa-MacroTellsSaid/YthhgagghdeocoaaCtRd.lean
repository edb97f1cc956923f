/-
  Layer 10's law: numbers that are read; a machine's blocks lie in memory. Laws for other texts; no statement of its own.
-/
import Derived.Test.YthhgagghdeocoaaCtAt
import Derived.Test.YthhgagghdeocoaaCtSame
set_option linter.unusedVariables false
set_option linter.unusedSimpArgs false
namespace Go.Proofs.Ythhgagghdeocoaa
open Go Go.RowKit

/-- Numbers that are read. -/
def RdZ (q : IntKind) (w : World) (A : Option Addr) (l : List Int) : Prop :=
  ∀ i, i < l.length → ∃ g off, A = some ⟨g, off, none⟩ ∧ g < w.heap.size ∧ w.cell? ⟨g, off + i, none⟩ = some (.int q (l.getD i 0))
theorem RdZ.stays {q : IntKind} {w w' : World} {A : Option Addr} {l : List Int} (h : RdZ q w A l) (hb : Below w.heap.size w w') : RdZ q w' A l := fun i hi => by
  obtain ⟨g, off, e, hg, hc⟩ := h i hi
  exact ⟨g, off, e, Nat.lt_of_lt_of_le hg hb.size, cell_stays hc hb⟩
theorem Mach.lt {w : World} {F : Nat → Prop} {p m : Nat} {f : Int → Int} {tr : List Ins} (h : Mach w F p m f tr) : ∀ b, F b → b < w.heap.size := by
  obtain ⟨c, dv, vs, ls, h1, _⟩ := h
  exact h1.fl
theorem own_formD {w : World} {B e size n : Nat} {v : Value} {xs : List Value} (h : w.ownsRow B e size v n xs) : ∃ A c, v = .slice A n c := by
  rcases h.2 with ⟨e, e0⟩ | ⟨g, cap, cur, e, _⟩
  · subst e0
    exact ⟨_, _, e⟩
  · exact ⟨_, _, e⟩
end Go.Proofs.Ythhgagghdeocoaa
