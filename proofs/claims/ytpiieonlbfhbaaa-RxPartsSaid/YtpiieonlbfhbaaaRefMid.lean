/-
  The document's own reader of patterns, amid a call that tells a node: what holds of memory, and what is told in the end. Laws for other texts; no statement of its own.
-/
import Derived.Test.YtpiieonlbfhbaaaRefRd8
set_option linter.unusedVariables false
set_option linter.unusedSimpArgs false
namespace Go.Proofs.Ytpiieonlbfhbaaa
open Go Go.RowKit

/-- A node is told, in new memory, and the reader is where the grammar says. -/
def RetNode (w : World) (g : Nat) (s : ByteArray) (o : R T) (st : St) (e : Ending) (w' : World) : Prop :=
  ∃ t k st', e = .returned (nodeV t k) ∧ Tree w' (fun b => w.heap.size ≤ b) t k ∧ Rdr w' g s st' ∧ w.grownBy w' (some g) ∧ Rel s o st t st'

/-- Amid the call: the reader; the box of what will be told; what has turned. -/
structure Mid (w : World) (g : Nat) (s : ByteArray) (st : St) (wx : World) : Prop where
  lt : g < w.heap.size
  rdr : Rdr wx g s st
  box : Box8 wx w.heap.size T.zero (.slice none 0 0)
  only : w.grownBy wx (some g)

section
variable {w wx wy : World} {g : Nat} {s : ByteArray} {st st' : St}
theorem Mid.start (h : Rdr w g s st) : Mid w g s st (w.alloc (.cells #[.int .i64 0, .int .u64 0, .int .u64 0, .int .u64 0, .int .u64 0, .int .i64 0, .int .i64 0, .slice none 0 0] 28)) :=
  ⟨h.lt, h.alloc _, Box8.new0 w, only_alloc (only_refl _ _) _⟩
theorem Mid.next (h : Mid w g s st wx) (o : wx.grownBy wy (some g)) (r : Rdr wy g s st') : Mid w g s st' wy :=
  ⟨h.lt, r, h.box.grown o (by have := h.lt; simp; omega), only_trans h.only o⟩
theorem Mid.below (h : Mid w g s st wx) (hb : Below wx.heap.size wx wy) : Mid w g s st wy := ⟨h.lt, h.rdr.stays hb, h.box.stays hb, only_below h.only hb⟩
theorem Mid.drewN (h : Mid w g s st wx) (n : Nat) : Mid w g s st (wx.drewN n) := ⟨h.lt, h.rdr.drewN n, h.box, only_drewN h.only n⟩
theorem Mid.alloc (h : Mid w g s st wx) (o : Obj) : Mid w g s st (wx.alloc o) := ⟨h.lt, h.rdr.alloc o, h.box.alloc o, only_alloc h.only o⟩
theorem Mid.setPos (h : Mid w g s st wx) (k : Nat) : Mid w g s { st with pos := k } (wx.setCell ⟨g, 1, none⟩ (.int .i64 (k : Int))) := h.next (only_set (only_refl _ _) _) (h.rdr.setPos k)
theorem Mid.setOpn (h : Mid w g s st wx) (k : Int) : Mid w g s { st with opn := k } (wx.setCell ⟨g, 2, none⟩ (.int .i64 k)) := h.next (only_set (only_refl _ _) _) (h.rdr.setOpn k)
theorem Mid.new (h : Mid w g s st wx) : w.heap.size < wx.heap.size := h.box.lt
theorem Mid.put8 (h : Mid w g s st wx) {b : Nat} (hb : w.heap.size < b) (t : T) (k : Value) : Mid w g s st (put8 wx b t k) :=
  ⟨h.lt, h.rdr.put8 (by have := h.lt; omega) t k, h.box.putFar (by omega), only_put8 h.only (by omega) t k⟩
theorem Mid.ret {o : R T} {st0 : St} {t : T} {k : Value} (h : Mid w g s st wx) (ht : Tree wx (fun b => w.heap.size < b) t k) (hr : Rel s o st0 t st) : RetNode w g s o st0 (.returned (nodeV t k)) (Go.Proofs.Ytpiieonlbfhbaaa.put8 wx w.heap.size t k) := by
  have := h.lt
  exact ⟨t, k, st, rfl, (ht.put8 fun b hb => by omega).weak fun b hb _ => Nat.le_of_lt hb, h.rdr.put8 (by omega) t k, only_put8 h.only (Nat.le_refl _) t k, hr⟩
/-- Nothing is stored: the node is nothing. -/
theorem Mid.ret0 {o : R T} {st0 : St} (h : Mid w g s st wx) (hr : Rel s o st0 T.zero st) : RetNode w g s o st0 (.returned (nodeV T.zero (.slice none 0 0))) wx :=
  ⟨T.zero, _, st, rfl, .nil _ rfl, h.rdr, h.only, hr⟩
end

theorem memP_one (c : Int) : memP [c] = rangeP c c := by
  funext x
  unfold memP rangeP
  rw [Bool.eq_iff_iff]
  simp
  omega
theorem max_nonneg (c : Int) (h : 0 ≤ c) : max c 0 = c := by omega

end Go.Proofs.Ytpiieonlbfhbaaa
