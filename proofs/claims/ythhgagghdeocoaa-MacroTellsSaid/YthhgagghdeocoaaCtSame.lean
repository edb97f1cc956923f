/-
  The document's SameInsns of two lists that are the same. Contracts for other texts; no statement of its own.
-/
import Derived.Test.YthhgagghdeocoaaCtMem
import Derived.BigQuiet
import Derived.Deep.LoopGhost
import Derived.Lib.Hide
set_option linter.unusedVariables false
set_option linter.unusedSimpArgs false
namespace Go.Proofs.Ythhgagghdeocoaa
open Go Go.RowKit

/-- Instructions that are read. -/
def RdI (w : World) (A : Option Addr) (l : List Ins) : Prop :=
  ∀ i x, l[i]? = some x → ∃ g off, A = some ⟨g, off, none⟩ ∧ g < w.heap.size ∧ ∀ q u, (insC x)[q]? = some u → w.cell? ⟨g, off + i * 6 + q, none⟩ = some u
section
variable {w w' : World} {A : Option Addr} {l : List Ins} {B n cap : Nat}
theorem RdI.stays (h : RdI w A l) (hb : Below w.heap.size w w') : RdI w' A l := fun i x hi => by
  obtain ⟨g, off, e, hg, hc⟩ := h i x hi
  exact ⟨g, off, e, Nat.lt_of_lt_of_le hg hb.size, fun q u hu => cell_stays (hc q u hu) hb⟩
theorem RdI.of_row (h : w.ownsRow B 68 6 (.slice A n cap) n (insL l)) (hn : n = l.length) : RdI w A l := fun i x hi => by
  have hl : i < l.length := (List.getElem?_eq_some_iff.1 hi).1
  rcases h.2 with ⟨_, h0⟩ | ⟨g, cap', cur, e, hB, hg, _⟩
  · omega
  · injection e with e1 e2 e3
    subst e1
    refine ⟨g, 0, rfl, lt_of_some hg, fun q u hu => ?_⟩
    have hq : q < 6 := (List.getElem?_eq_some_iff.1 hu).1
    rw [Nat.zero_add, World.ownsRow.cellAt h (i * 6 + q) (by omega), insL_get l i q x hi hq]
    exact hu
theorem RdI.at (h : RdI w A l) {i : Nat} {x : Ins} (hi : l[i]? = some x) : ∃ g off, A = some ⟨g, off, none⟩ ∧ g < w.heap.size ∧ w.cell? ⟨g, off + i * 6, none⟩ = some (.int .i64 x.op) ∧ w.cell? ⟨g, off + i * 6 + 1, none⟩ = some (.int .i64 x.d) ∧ w.cell? ⟨g, off + i * 6 + 2, none⟩ = some (.int .i64 x.a) ∧ w.cell? ⟨g, off + i * 6 + 3, none⟩ = some (.int .i64 x.b) ∧ w.cell? ⟨g, off + i * 6 + 4, none⟩ = some (.int .i64 x.c) ∧ w.cell? ⟨g, off + i * 6 + 5, none⟩ = some (.int .u64 x.n) := by
  obtain ⟨g, off, e, hg, hc⟩ := h i x hi
  exact ⟨g, off, e, hg, hc 0 _ rfl, hc 1 _ rfl, hc 2 _ rfl, hc 3 _ rfl, hc 4 _ rfl, hc 5 _ rfl⟩
end

set_option maxRecDepth 20000 in
set_option maxHeartbeats 1000000 in
theorem same_p {w : World} {A A' : Option Addr} {c c' : Nat} {l : List Ins} (h : RdI w A l) (h' : RdI w A' l) (hl : l.length ≤ 100000) :
    Calls Try.prog 24 #[.slice A l.length c, .slice A' l.length c'] w fun e w' => e = .returned (.bool true) ∧ Below w.heap.size w w' := by
  obtain ⟨N, hN⟩ : ∃ N, l.length = N := ⟨_, rfl⟩
  rw [hN] at hl ⊢
  have H := Lib.hid h
  have H' := Lib.hid h'
  have HN := Lib.hid hN
  clear h h' hN
  go_enter Try.func24, Try.ntmps24
  go_wp2
  go_loopg [5] N (fun mm i wr => ∃ k : Nat, i = .int .i64 (k : Int) ∧ k ≤ N ∧ mm = N - k ∧ Below w.heap.size w wr)
  case atStart => exact ⟨0, by first | rfl | trivial, Nat.zero_le _, by first | rfl | trivial, Below.refl _ _⟩
  case round =>
    obtain ⟨k, rfl, hk, hmk, hb⟩ := hrel
    have HMK := Lib.hid hmk
    have HB := Lib.hid hb
    by_cases hkN : k < N
    · obtain ⟨x, hx⟩ : ∃ x, l[k]? = some x := ⟨_, List.getElem?_eq_getElem (by rw [HN.out]; omega)⟩
      obtain ⟨g, off, rfl, hg, a0, a1, a2, a3, a4, a5⟩ := (H.out.stays hb).at hx
      obtain ⟨g', off', rfl, hg', b0, b1, b2, b3, b4, b5⟩ := (H'.out.stays hb).at hx
      obtain ⟨o, d, a, b, cc, n⟩ := x
      simp only at a0 a1 a2 a3 a4 a5 b0 b1 b2 b3 b4 b5
      have i0 : (0 : Int) ≤ (k : Int) := by omega
      have i1 : (k : Int) < (N : Int) := by omega
      clear hx hmk hb hg hg'
      go_wp2
      go_quiet (fail)
      go_wp2
      go_roundg (N - (k + 1))
      case measure => have := HMK.out; omega
      case rel => exact ⟨k + 1, by go_num, by omega, rfl, below_dn HB.out nq⟩
    · have hkl : k = N := by omega
      subst hkl
      go_wp2
      go_ret
      exact ⟨rfl, hb⟩
end Go.Proofs.Ythhgagghdeocoaa
