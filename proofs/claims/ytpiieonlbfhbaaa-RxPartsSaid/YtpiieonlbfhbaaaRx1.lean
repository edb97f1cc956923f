/-
  The program's reader of patterns (package rx): its state, what it tells by a panic, and its small steps. Contracts for other texts; no statement of its own.
-/
import Derived.Test.YtpiieonlbfhbaaaRefMid
import Derived.Test.YtpiieonlbfhbaaaSet2
set_option linter.unusedVariables false
set_option linter.unusedSimpArgs false
namespace Go.Proofs.Ytpiieonlbfhbaaa
open Go Go.RowKit
attribute [local go_sem ↓] Go.wp_at_zero Go.wp_at_succ

/-- Block g holds the program's reader: the text, where it is, how many brackets are open. -/
def Rx (w : World) (g : Nat) (s : ByteArray) (pos : Nat) (opn : Int) : Prop :=
  w.heap[g]? = some (.cells #[.string s, .int .i64 (pos : Int), .int .i64 opn] 48 (0, 0))
section
variable {w w' : World} {g : Nat} {s : ByteArray} {pos : Nat} {opn : Int}
theorem Rx.cell (h : Rx w g s pos opn) : w.cell? ⟨g, 0, none⟩ = some (.string s) ∧ w.cell? ⟨g, 1, none⟩ = some (.int .i64 (pos : Int)) ∧ w.cell? ⟨g, 2, none⟩ = some (.int .i64 opn) := by
  unfold Rx at h
  refine ⟨?_, ?_, ?_⟩ <;> exact cell_of_row w g _ _ 48 (0, 0) h
theorem Rx.frozen (h : Rx w g s pos opn) : w.frozen? ⟨g, 0, none⟩ = false ∧ w.frozen? ⟨g, 1, none⟩ = false ∧ w.frozen? ⟨g, 2, none⟩ = false := by
  unfold Rx at h
  refine ⟨?_, ?_, ?_⟩ <;> simp [World.frozen?, h]
theorem Rx.lt (h : Rx w g s pos opn) : g < w.heap.size := lt_of_some h
theorem Rx.drewN (h : Rx w g s pos opn) (n : Nat) : Rx (w.drewN n) g s pos opn := h
theorem Rx.drew (h : Rx w g s pos opn) : Rx w.drew g s pos opn := h
theorem Rx.setPos (h : Rx w g s pos opn) (k : Nat) : Rx (w.setCell ⟨g, 1, none⟩ (.int .i64 (k : Int))) g s k opn := by
  unfold Rx at *
  simp [World.setCell, Array.getElem?_modify, h]
theorem Rx.setOpn (h : Rx w g s pos opn) (k : Int) : Rx (w.setCell ⟨g, 2, none⟩ (.int .i64 k)) g s pos k := by
  unfold Rx at *
  simp [World.setCell, Array.getElem?_modify, h]
theorem Rx.stays (h : Rx w g s pos opn) (hb : Below w.heap.size w w') : Rx w' g s pos opn := (hb.block g h.lt).trans h
theorem Rx.alloc (h : Rx w g s pos opn) (o : Obj) : Rx (w.alloc o) g s pos opn := (Below.heap_alloc w o g h.lt).trans h
theorem Rx.block (h : Rx w g s pos opn) (hb : w'.heap[g]? = w.heap[g]?) : Rx w' g s pos opn := hb.trans h
end

/-- A panic that tells a code, and a place, in new memory. -/
def Fault (w' : World) (B : Nat) (c a : Int) (e : Ending) : Prop :=
  ∃ gs, B ≤ gs ∧ e = .panicked [{ v := .iface 42 (.pointer (some ⟨gs, 0, none⟩)), recovered := false }] ∧ w'.heap[gs]? = some (.cells #[.int .i64 a, .int .i64 c] 45 (0, 0))
theorem Fault.more {w' : World} {B B' : Nat} {c a : Int} {e : Ending} (h : Fault w' B c a e) (hB : B' ≤ B) : Fault w' B' c a e := by
  obtain ⟨gs, h1, h2, h3⟩ := h
  exact ⟨gs, Nat.le_trans hB h1, h2, h3⟩

/-- What is told: as the grammar says, by an answer or by a panic. -/
def XRet {α : Type} (w : World) (g : Nat) (s : ByteArray) (opn : Int) (r : R α) (val : α → Value → World → Prop) (e : Ending) (w' : World) : Prop := match r with
  | .ok (a, p) => (∃ v, e = .returned v ∧ val a v w') ∧ Rx w' g s p opn ∧ w.grownBy w' (some g)
  | .error (c, q) => Fault w' w.heap.size c q e ∧ w.grownBy w' (some g)

/-- Does the text begin so there? -/
def preB (a t : ByteArray) : Bool := decide (t.size ≤ a.size) && ((a.extract 0 t.size).toList == t.toList)
theorem pre_list (s : ByteArray) (pos n : Nat) (h : pos + n ≤ s.size) : ((s.extract pos s.size).extract 0 n).toList = (s.data.toList.drop pos).take n := by
  rw [ByteArray.toList_eq, ByteArray.data_extract, ByteArray.data_extract, Array.toList_extract, Array.toList_extract]
  have hl : s.data.toList.length = s.size := rfl
  simp only [List.extract, List.drop_zero, Nat.sub_zero]
  rw [List.take_take]
  congr 1
  omega
theorem pre1 (s : ByteArray) (pos : Nat) (c : UInt8) (hp : pos ≤ s.size) : preB (s.extract pos s.size) ⟨#[c]⟩ = isB s pos c.toNat := by
  have hz : (s.extract pos s.size).size = s.size - pos := by simp
  have hl : s.data.toList.length = s.size := rfl
  unfold preB isB
  rw [hz, ByteArray.toList_eq ⟨#[c]⟩]
  show (decide (1 ≤ s.size - pos) && (((s.extract pos s.size).extract 0 1).toList == [c])) = _
  by_cases h : pos < s.size
  · rw [pre_list s pos 1 (by omega), List.drop_eq_getElem_cons (by omega)]
    have e : bt s pos = (s.data.toList[pos]'(by omega)).toNat := by
      unfold bt
      rw [List.getD_eq_getElem?_getD, List.getElem?_eq_getElem (by omega)]
      rfl
    rw [e]
    generalize s.data.toList[pos]'(by omega) = x
    rw [Bool.eq_iff_iff]
    simp [h, show 1 ≤ s.size - pos by omega, UInt8.toNat_inj]
  · simp [h, show ¬ (1 ≤ s.size - pos) by omega]
theorem pre2 (s : ByteArray) (pos : Nat) (c d : UInt8) (hp : pos ≤ s.size) : preB (s.extract pos s.size) ⟨#[c, d]⟩ = (isB s pos c.toNat && isB s (pos + 1) d.toNat) := by
  have hz : (s.extract pos s.size).size = s.size - pos := by simp
  have hl : s.data.toList.length = s.size := rfl
  unfold preB isB
  rw [hz, ByteArray.toList_eq ⟨#[c, d]⟩]
  show (decide (2 ≤ s.size - pos) && (((s.extract pos s.size).extract 0 2).toList == [c, d])) = _
  by_cases h : pos + 1 < s.size
  · rw [pre_list s pos 2 (by omega), List.drop_eq_getElem_cons (by omega), List.drop_eq_getElem_cons (by omega)]
    have e : ∀ k, (hk : k < s.size) → bt s k = (s.data.toList[k]'(by omega)).toNat := by
      intro k hk
      unfold bt
      rw [List.getD_eq_getElem?_getD, List.getElem?_eq_getElem (by omega)]
      rfl
    rw [e pos (by omega), e (pos + 1) h]
    generalize s.data.toList[pos]'(by omega) = x
    generalize s.data.toList[pos + 1]'(by omega) = y
    rw [Bool.eq_iff_iff]
    simp [h, show pos < s.size by omega, show 2 ≤ s.size - pos by omega, UInt8.toNat_inj]
  · simp [h, show ¬ (2 ≤ s.size - pos) by omega]

set_option maxHeartbeats 400000 in
theorem xhp_p (a t : ByteArray) (w : World) (ha : a.size ≤ 1000) (ht : t.size ≤ 2) :
    Calls Try.prog 31 #[.string a, .string t] w fun e w' => e = .returned (.bool (preB a t)) ∧ w = w' := by
  by_cases hle : t.size ≤ a.size
  · have e : preB a t = ((a.extract 0 t.size).toList == t.toList) := by unfold preB; simp [hle]
    rw [e]
    clear e
    go_enter Try.func31, Try.ntmps31
    go_wp2
    go_ret
    exact ⟨rfl, rfl⟩
  · have e : preB a t = false := by unfold preB; simp [hle]
    rw [e]
    clear e
    go_enter Try.func31, Try.ntmps31
    go_wp2
    go_ret
    exact ⟨rfl, rfl⟩

theorem xhp_q (a t : ByteArray) (w : World) (ha : a.size ≤ 1000) (ht : t.size ≤ 2) :
    Calls Try.prog 31 #[.string a, .string t] w fun e w' => e = .returned (.bool (preB a t)) ∧ ∃ n, w' = w.drewN n :=
  (xhp_p a t w ha ht).mono fun e w' ⟨h1, h2⟩ => ⟨h1, 0, h2.symm⟩

set_option maxHeartbeats 400000 in
theorem xended_p (w : World) (g : Nat) (s : ByteArray) (pos : Nat) (opn : Int) (h : Rx w g s pos opn) (hs : s.size ≤ 1000) :
    Calls Try.prog 15 #[.pointer (some ⟨g, 0, none⟩)] w fun e w' => e = .returned (.bool (pos == s.size)) ∧ ∃ n, w' = w.drewN n := by
  obtain ⟨c0, c1, c2⟩ := h.cell
  go_enter Try.func15, Try.ntmps15
  go_wp2
  go_quiet (fail)
  go_wp2
  go_ret
  refine ⟨congrArg Ending.returned (congrArg Value.bool ?_), _, rfl⟩
  rw [Bool.eq_iff_iff]
  simp
  omega

set_option maxHeartbeats 400000 in
theorem xis_p (w : World) (g : Nat) (s : ByteArray) (pos : Nat) (opn : Int) (h : Rx w g s pos opn) (hs : s.size ≤ 1000) (hp : pos ≤ s.size) (t : ByteArray) (ht : t.size ≤ 2) :
    Calls Try.prog 26 #[.pointer (some ⟨g, 0, none⟩), .string t] w fun e w' => e = .returned (.bool (preB (s.extract pos s.size) t)) ∧ ∃ n, w' = w.drewN n := by
  obtain ⟨c0, c1, c2⟩ := h.cell
  have k0 : (0 : Int) ≤ (pos : Int) := by omega
  have k1 : (pos : Int) ≤ (s.size : Int) := by omega
  have hx : (s.extract pos s.size).size ≤ 1000 := by simp; omega
  go_enter Try.func26, Try.ntmps26
  go_wp2
  go_quiet ((go_at_call 31; exact Calls.quiet_of (xhp_q _ _ _ hx ht)))
  go_wp2
  go_ret
  exact ⟨rfl, _, rfl⟩

set_option maxHeartbeats 400000 in
theorem xfault_p (w : World) (g : Nat) (s : ByteArray) (pos : Nat) (opn : Int) (c : Int) (h : Rx w g s pos opn) :
    Calls Try.prog 16 #[.pointer (some ⟨g, 0, none⟩), .int .i64 c] w fun e w' => e = .returned (.pointer (some ⟨w.heap.size, 0, none⟩)) ∧ w' = w.alloc (.cells #[.int .i64 (pos : Int), .int .i64 c] 45) := by
  obtain ⟨c0, c1, c2⟩ := h.cell
  go_enter Try.func16, Try.ntmps16
  go_wp2
  go_ret
  exact ⟨rfl, rfl⟩

end Go.Proofs.Ytpiieonlbfhbaaa
