/-
  The document's own reader of patterns (package snaffleref02, type Reader): its state as plain numbers, and what its small steps do. Contracts for other texts; no statement of its own.
-/
import Derived.Test.YtpiieonlbfhbaaaSetLists
import Derived.Deep.QuietTactic
import Derived.BigQuiet
set_option linter.unusedVariables false
set_option linter.unusedSimpArgs false
namespace Go.Proofs.Ytpiieonlbfhbaaa
open Go Go.RowKit

/-- Where the reader is; how many brackets are open; what is amiss (0: nothing); where. -/
structure St where
  pos : Nat
  opn : Int
  bad : Int
  spot : Int

/-- Byte k of a text, as a number. -/
def bt (s : ByteArray) (k : Nat) : Nat := (s.data.toList.getD k 0).toNat
theorem bt_eq (s : ByteArray) (k : Nat) (h : k < s.size) : bt s k = (s[k]'h).toNat := by
  unfold bt
  rw [List.getD_eq_getElem?_getD, List.getElem?_eq_getElem (by simpa using h)]
  rfl
theorem bt_lt (s : ByteArray) (k : Nat) : bt s k < 256 := by unfold bt; exact UInt8.toNat_lt _

namespace St
def fail (st : St) (at_ bad : Int) : St := if st.bad = 0 then { st with bad := bad, spot := at_ } else st
def peek (s : ByteArray) (st : St) : Int := if st.bad ≠ 0 ∨ s.size ≤ st.pos then -1 else (bt s st.pos : Int)
def step (st : St) (k : Nat) : St := { st with pos := st.pos + k }
def next (s : ByteArray) (st : St) : Int × St := if st.peek s < 0 then (-1, st.fail s.size 2) else (st.peek s, st.step 1)
end St

/-- Block g holds the reader. -/
def Rdr (w : World) (g : Nat) (s : ByteArray) (st : St) : Prop :=
  w.heap[g]? = some (.cells #[.string s, .int .i64 (st.pos : Int), .int .i64 st.opn, .int .i64 st.bad, .int .i64 st.spot] 53 (0, 0))

section
variable {w w' : World} {g : Nat} {s : ByteArray} {st : St}
theorem Rdr.cell (h : Rdr w g s st) : w.cell? ⟨g, 0, none⟩ = some (.string s) ∧ w.cell? ⟨g, 1, none⟩ = some (.int .i64 (st.pos : Int)) ∧ w.cell? ⟨g, 2, none⟩ = some (.int .i64 st.opn) ∧ w.cell? ⟨g, 3, none⟩ = some (.int .i64 st.bad) ∧ w.cell? ⟨g, 4, none⟩ = some (.int .i64 st.spot) := by
  unfold Rdr at h
  refine ⟨?_, ?_, ?_, ?_, ?_⟩ <;> exact cell_of_row w g _ _ 53 (0, 0) h
theorem Rdr.frozen (h : Rdr w g s st) : w.frozen? ⟨g, 0, none⟩ = false ∧ w.frozen? ⟨g, 1, none⟩ = false ∧ w.frozen? ⟨g, 2, none⟩ = false ∧ w.frozen? ⟨g, 3, none⟩ = false ∧ w.frozen? ⟨g, 4, none⟩ = false := by
  unfold Rdr at h
  refine ⟨?_, ?_, ?_, ?_, ?_⟩ <;> simp [World.frozen?, h]
theorem Rdr.lt (h : Rdr w g s st) : g < w.heap.size := lt_of_some h
theorem Rdr.drew (h : Rdr w g s st) : Rdr w.drew g s st := h
theorem Rdr.drewN (h : Rdr w g s st) (n : Nat) : Rdr (w.drewN n) g s st := h
end

section
variable {w w' : World} {g : Nat} {s : ByteArray} {st : St}
theorem Rdr.setPos (h : Rdr w g s st) (k : Nat) : Rdr (w.setCell ⟨g, 1, none⟩ (.int .i64 (k : Int))) g s { st with pos := k } := by
  unfold Rdr at *
  simp [World.setCell, Array.getElem?_modify, h]
theorem Rdr.setOpn (h : Rdr w g s st) (k : Int) : Rdr (w.setCell ⟨g, 2, none⟩ (.int .i64 k)) g s { st with opn := k } := by
  unfold Rdr at *
  simp [World.setCell, Array.getElem?_modify, h]
theorem Rdr.setBad (h : Rdr w g s st) (k : Int) : Rdr (w.setCell ⟨g, 3, none⟩ (.int .i64 k)) g s { st with bad := k } := by
  unfold Rdr at *
  simp [World.setCell, Array.getElem?_modify, h]
theorem Rdr.setSpot (h : Rdr w g s st) (k : Int) : Rdr (w.setCell ⟨g, 4, none⟩ (.int .i64 k)) g s { st with spot := k } := by
  unfold Rdr at *
  simp [World.setCell, Array.getElem?_modify, h]
theorem Rdr.stays (h : Rdr w g s st) (hb : Below w.heap.size w w') : Rdr w' g s st := (hb.block g h.lt).trans h
theorem Rdr.put4 (h : Rdr w g s st) {g' : Nat} (hg : g ≠ g') (q : Nat → Bool) : Rdr (put4 w g' q) g s st := by
  unfold Rdr Go.Proofs.Ytpiieonlbfhbaaa.put4 at *
  rw [Below.heap_setCell _ _ _ _ hg, Below.heap_setCell _ _ _ _ hg, Below.heap_setCell _ _ _ _ hg, Below.heap_setCell _ _ _ _ hg]
  exact h
theorem Rdr.far4 (h : Rdr w g s st) {g' : Nat} (hg : g ≠ g') (v0 v1 v2 v3 : Value) : Rdr ((((w.setCell ⟨g', 0, none⟩ v0).setCell ⟨g', 1, none⟩ v1).setCell ⟨g', 2, none⟩ v2).setCell ⟨g', 3, none⟩ v3) g s st := by
  unfold Rdr at *
  rw [Below.heap_setCell _ _ _ _ hg, Below.heap_setCell _ _ _ _ hg, Below.heap_setCell _ _ _ _ hg, Below.heap_setCell _ _ _ _ hg]
  exact h
theorem Rdr.alloc (h : Rdr w g s st) (o : Obj) : Rdr (w.alloc o) g s st := (Below.heap_alloc w o g h.lt).trans h
end

/-- Only block g, and new ones, have turned. -/
theorem only_refl (w : World) (r : Option Nat) : w.grownBy w r := ⟨rfl, rfl, rfl, Nat.le_refl _, fun _ _ _ => rfl⟩
theorem only_trans {a b c : World} {r : Option Nat} (h : a.grownBy b r) (k : b.grownBy c r) : a.grownBy c r :=
  ⟨k.os.trans h.os, k.tape.trans h.tape, k.output.trans h.output, Nat.le_trans h.size k.size, fun i hi hr => (k.block i (Nat.lt_of_lt_of_le hi h.size) hr).trans (h.block i hi hr)⟩
theorem only_set {a b : World} {g i : Nat} (h : a.grownBy b (some g)) (v : Value) : a.grownBy (b.setCell ⟨g, i, none⟩ v) (some g) :=
  only_trans h ⟨rfl, rfl, rfl, by simp [World.setCell], fun k _ hk => Below.heap_setCell _ _ _ _ (by intro e; subst e; exact hk rfl)⟩
theorem only_drew {a b : World} {r : Option Nat} (h : a.grownBy b r) : a.grownBy b.drew r := ⟨h.os, h.tape, h.output, h.size, h.block⟩
theorem only_drewN {a b : World} {r : Option Nat} (h : a.grownBy b r) (n : Nat) : a.grownBy (b.drewN n) r := ⟨h.os, h.tape, h.output, h.size, h.block⟩
theorem only_alloc {a b : World} {r : Option Nat} (h : a.grownBy b r) (o : Obj) : a.grownBy (b.alloc o) r :=
  only_trans h ⟨rfl, rfl, rfl, by simp, fun k hk _ => Below.heap_alloc _ _ _ hk⟩
theorem only_below {a b c : World} {r : Option Nat} (h : a.grownBy b r) (k : Below b.heap.size b c) : a.grownBy c r :=
  only_trans h ⟨k.os, k.tape, k.output, k.size, fun i hi _ => k.block i hi⟩

/-- Blocks that came behind a are no block of a's. -/
theorem only_setNew {a b : World} {g g' i : Nat} (h : a.grownBy b (some g)) (hg : a.heap.size ≤ g') (v : Value) : a.grownBy (b.setCell ⟨g', i, none⟩ v) (some g) :=
  ⟨h.os, h.tape, h.output, by simpa [World.setCell] using h.size, fun k hk hr => (Below.heap_setCell _ _ _ _ (by show k ≠ g'; omega)).trans (h.block k hk hr)⟩
theorem only_put4 {a b : World} {g g' : Nat} (h : a.grownBy b (some g)) (hg : a.heap.size ≤ g') (q : Nat → Bool) : a.grownBy (put4 b g' q) (some g) :=
  only_setNew (only_setNew (only_setNew (only_setNew h hg _) hg _) hg _) hg _

set_option maxHeartbeats 400000 in
theorem fail_p (w : World) (g : Nat) (s : ByteArray) (st : St) (a b : Int) (h : Rdr w g s st) :
    Calls Try.prog 35 #[.pointer (some ⟨g, 0, none⟩), .int .i64 a, .int .i64 b] w fun e w' => e = .returned (.tuple #[]) ∧ Rdr w' g s (st.fail a b) ∧ w.grownBy w' (some g) := by
  obtain ⟨c0, c1, c2, c3, c4⟩ := h.cell
  obtain ⟨f0, f1, f2, f3, f4⟩ := h.frozen
  by_cases hb : st.bad = 0
  · have hb' : (st.bad == 0) = true := by simp [hb]
    have e : st.fail a b = { st with bad := b, spot := a } := by unfold St.fail; rw [if_pos hb]
    rw [e]
    clear e hb
    go_enter Try.func35, Try.ntmps35
    go_wp2
    go_end0
    exact ⟨rfl, (h.setBad b).setSpot a, only_set (only_set (only_refl _ _) _) _⟩
  · have hb' : (st.bad == 0) = false := by simp [hb]
    have e : st.fail a b = st := by unfold St.fail; rw [if_neg hb]
    rw [e]
    clear e hb
    go_enter Try.func35, Try.ntmps35
    go_wp2
    go_end0
    exact ⟨rfl, h, only_refl _ _⟩

theorem drew_two (w : World) (m n : Nat) : (w.drewN m).drewN n = w.drewN (m + n) := by
  unfold World.drewN
  simp [Nat.add_assoc]

set_option maxHeartbeats 400000 in
theorem peek_p (w : World) (g : Nat) (s : ByteArray) (st : St) (h : Rdr w g s st) (hs : s.size ≤ 1000) :
    Calls Try.prog 23 #[.pointer (some ⟨g, 0, none⟩)] w fun e w' => e = .returned (.int .i64 (st.peek s)) ∧ ∃ n, w' = w.drewN n := by
  obtain ⟨c0, c1, c2, c3, c4⟩ := h.cell
  by_cases hb : st.bad = 0
  · have hb' : (st.bad != 0) = false := by simp [hb]
    by_cases hlt : st.pos < s.size
    · have hd : decide (s.size ≤ st.pos) = false := by simp; omega
      have e : st.peek s = ((s[st.pos]'hlt).toNat : Int) := by unfold St.peek; rw [if_neg (by omega), bt_eq s _ hlt]
      rw [e]
      clear e hb
      have k0 : (0 : Int) ≤ (st.pos : Int) := by omega
      have k1 : (st.pos : Int) < (s.size : Int) := by omega
      go_enter Try.func23, Try.ntmps23
      go_wp2
      go_quiet (fail)
      go_wp2
      go_quiet (fail)
      go_wp2
      go_ret
      refine ⟨congrArg Ending.returned (congrArg (Value.int .i64) ?_), _, drew_two _ _ _⟩
      have := UInt8.toNat_lt (s[st.pos]'hlt)
      unfold wrap64
      omega
    · have hd : decide (s.size ≤ st.pos) = true := by simp; omega
      have e : st.peek s = -1 := by unfold St.peek; rw [if_pos (by omega)]
      rw [e]
      clear e hb
      go_enter Try.func23, Try.ntmps23
      go_wp2
      go_quiet (fail)
      go_wp2
      go_ret
      exact ⟨rfl, _, rfl⟩
  · have hb' : (st.bad != 0) = true := by simp [hb]
    have e : st.peek s = -1 := by unfold St.peek; rw [if_pos (by omega)]
    rw [e]
    clear e hb
    go_enter Try.func23, Try.ntmps23
    go_wp2
    go_quiet (fail)
    go_wp2
    go_ret
    exact ⟨rfl, _, rfl⟩

end Go.Proofs.Ytpiieonlbfhbaaa
