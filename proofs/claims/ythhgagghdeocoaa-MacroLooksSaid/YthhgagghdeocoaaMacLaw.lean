/-
  Layer 11's law: the head that its statements begin with; Look, as a list that is read. Contracts for other texts; no statement of its own.
-/
import Derived.Test.YthhgagghdeocoaaMacLook
set_option linter.unusedVariables false
set_option linter.unusedSimpArgs false
namespace Go.Proofs.Ythhgagghdeocoaa
open Go Go.RowKit

def lookI (dst key base n step tmp : Int) : List Ins := if 0 ≤ n ∧ n ≤ 200000 then lookL dst key base step tmp n.toNat else []
def RetRd (w : World) (L : List Ins) (e : Ending) (w' : World) : Prop := ∃ A c, e = .returned (.slice A L.length c) ∧ RdI w' A L ∧ Below w.heap.size w w'
theorem look_rd {w w' : World} {dst key base n step tmp : Int} {e : Ending} (h : RetLook w dst key base n step tmp e w') : RetRd w (lookI dst key base n step tmp) e w' := by
  unfold RetLook at h
  unfold lookI
  split at h
  · rename_i hn
    rw [if_pos hn]
    obtain ⟨v, rfl, h1, h2⟩ := h
    obtain ⟨A, c, rfl⟩ := h1.form
    exact ⟨A, c, rfl, h1.rd, h2⟩
  · rename_i hn
    rw [if_neg hn]
    obtain ⟨rfl, h2⟩ := h
    exact ⟨none, 0, rfl, fun i x hi => by simp at hi, h2⟩
theorem lookI_len (dst key base n step tmp : Int) (h : n ≤ 2000 ∨ 200000 < n) : (lookI dst key base n step tmp).length ≤ 100000 := by
  unfold lookI
  split
  · rw [lookL_len]; omega
  · simp
theorem copy_rd {w w' : World} {dst src : Int} {e : Ending} (h : ∃ v, e = .returned v ∧ Inss w' w.heap.size v [⟨1, dst, src, src, src, 0⟩] ∧ Below w.heap.size w w') : RetRd w [⟨1, dst, src, src, src, 0⟩] e w' := by
  obtain ⟨v, rfl, h1, h2⟩ := h
  obtain ⟨A, c, rfl⟩ := h1.form
  exact ⟨A, c, rfl, h1.rd, h2⟩
set_option maxRecDepth 20000 in
set_option maxHeartbeats 1000000 in
theorem up11_p (w : World) : Calls Try.prog 23 #[] w fun e w' => e = .returned (.bool true) ∧ Below w.heap.size w w' := by
  have h1 := fun W => (look_p W 0 1 2 1 1 3 (by unfold I64; omega) (by unfold I64; omega) (by unfold I64; omega) (by omega)).mono fun e w' h => look_rd h
  have h2 := fun W => (look_p W 0 1 2 (-1) 1 3 (by unfold I64; omega) (by unfold I64; omega) (by unfold I64; omega) (by omega)).mono fun e w' h => look_rd h
  have h3 := fun W => (copy_p W 0 1).mono fun e w' h => copy_rd h
  unfold RetRd at h1 h2 h3
  rw [show (lookI 0 1 2 1 1 3).length = 4 from by unfold lookI; rw [if_pos (by omega), lookL_len]; rfl] at h1
  rw [show (lookI 0 1 2 (-1) 1 3).length = 0 from by unfold lookI; rw [if_neg (by omega)]; rfl] at h2
  rw [show ([⟨1, 0, 1, 1, 1, 0⟩] : List Ins).length = 1 from rfl] at h3
  have H1 := Lib.hid h1
  have H2 := Lib.hid h2
  have H3 := Lib.hid h3
  have tok1 : True := trivial
  clear h1 h2 h3
  go_enter Try.func23, Try.ntmps23
  go_wp2_with (first
    | (go_at_call 25; first
      | (have _t := tok1; (with_reducible refine (H1.out _).mono ?_); rintro e w1 ⟨A1, c1, rfl, _, b1⟩; have B1 := Lib.hid b1; clear b1 tok1)
      | ((with_reducible refine (H2.out _).mono ?_); rintro e w3 ⟨A3, c3, rfl, _, b3⟩; have B3 := Lib.hid (gro B2.out b3); clear b3))
    | (go_at_call 27; (with_reducible refine (H3.out _).mono ?_); rintro e w2 ⟨A2, c2, rfl, _, b2⟩; have B2 := Lib.hid (gro B1.out b2); clear b2)
    | fail)
  go_ret
  exact ⟨rfl, B3.out⟩
end Go.Proofs.Ythhgagghdeocoaa
