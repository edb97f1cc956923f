/-
  The helpers of the law RxParts of layer 2. Contracts for other texts; no statement of its own.
-/
import Derived.Test.YtpiieonlbfhbaaaLaw2
import Derived.Test.YtpiieonlbfhbaaaRxAll
import Derived.Laws.IdiomStrings
set_option linter.unusedVariables false
set_option linter.unusedSimpArgs false
namespace Go.Proofs.Ytpiieonlbfhbaaa
open Go Go.RowKit
attribute [local go_sem ↓] Go.wp_at_zero Go.wp_at_succ

def bareB (s : ByteArray) : Bool := !inT 40 s
theorem bareB_spec {s : ByteArray} (h : bareB s = true) : ∀ i, i < s.size → bt s i ≠ 40 := by
  intro i hi e
  unfold bareB inT at h
  simp only [Bool.not_eq_true', List.any_eq_false] at h
  have hm : s.data.toList.getD i 0 ∈ s.data.toList := by
    rw [List.getD_eq_getElem?_getD, List.getElem?_eq_getElem (by simpa using hi)]
    simp
  have := h _ hm
  unfold bt at e
  rw [e] at this
  simp at this

theorem byte_bt (s : ByteArray) (k : Nat) (h : k < s.size) : (s[k]'h).toNat = bt s k := by
  unfold bt
  rw [List.getD_eq_getElem?_getD, List.getElem?_eq_getElem (by simpa using h)]
  simp [ByteArray.getElem_eq_getElem_data]

set_option maxHeartbeats 400000 in
theorem bare_p (w : World) (s : ByteArray) (hs : s.size ≤ 1000) :
    Calls Try.prog 10 #[.string s] w fun e w' => e = .returned (.bool (bareB s)) ∧ w = w' := by
  go_enter Try.func10, Try.ntmps10
  go_wp2
  go_loop [3] (fun i => ∃ k : Nat, k ≤ s.size ∧ i = .int .i64 k ∧ inUpto 40 s k = false) (fun i => s.size - (intOf i).toNat)
  case atStart => exact ⟨0, Nat.zero_le _, rfl, by simp [inUpto]⟩
  case round =>
    obtain ⟨k, hk, rfl, hin⟩ := hrel
    have HI := Lib.hid hin
    clear hin
    by_cases hlt : k < s.size
    · by_cases he : ((s[k]'hlt).toNat : Int) = 40
      · have he' : (((s[k]'hlt).toNat : Int) == 40) = true := by simp [he]
        have HE := Lib.hid he
        clear he
        go_wp2
        go_ret
        refine ⟨congrArg Ending.returned (congrArg Value.bool ?_), rfl⟩
        symm
        unfold bareB inT
        rw [List.any_eq_true.2 ⟨s[k]'hlt, by simp [ByteArray.getElem_eq_getElem_data], he'⟩]
        rfl
      · have he' : (((s[k]'hlt).toNat : Int) == 40) = false := by simp [he]
        clear he
        go_wp2
        go_round
        case rel =>
          refine ⟨k + 1, by omega, by go_num, ?_⟩
          have hin := HI.out
          unfold inUpto at *
          rw [List.take_succ_eq_append_getElem (by simpa using hlt), List.any_append, hin]
          simpa [ByteArray.getElem_eq_getElem_data] using he'
        case measure => simp [intOf]; omega
    · go_wp2
      go_ret
      refine ⟨congrArg Ending.returned (congrArg Value.bool ?_), rfl⟩
      have hin := HI.out
      unfold inUpto at hin
      rw [List.take_of_length_le (by simp; omega)] at hin
      unfold bareB inT
      rw [hin]
      rfl

/-- A node that is none, held against one that is. -/
theorem same_zero (t : T) (h : t.op ≠ 0) (w : World) (A B : Option Addr) (n c m d : Nat) :
    Calls Try.prog 9 #[.agg #[.int .i64 t.op, .int .u64 (word t.set 0), .int .u64 (word t.set 1), .int .u64 (word t.set 2), .int .u64 (word t.set 3), .int .i64 t.lo, .int .i64 t.hi, .slice A n c], .agg #[.int .i64 T.zero.op, .int .u64 (word T.zero.set 0), .int .u64 (word T.zero.set 1), .int .u64 (word T.zero.set 2), .int .u64 (word T.zero.set 3), .int .i64 T.zero.lo, .int .i64 T.zero.hi, .slice B m d]] w fun e w' => e = .returned (.bool false) ∧ Below w.heap.size w w' := by
  have h0 : T.zero.op = 0 := rfl
  have hb : (t.op != 0) = true := by simp [h]
  rw [h0]
  generalize T.zero.lo = x1
  generalize T.zero.hi = x2
  generalize word T.zero.set 0 = x3
  generalize word T.zero.set 1 = x4
  generalize word T.zero.set 2 = x5
  generalize word T.zero.set 3 = x6
  go_enter Try.func9, Try.ntmps9
  go_wp2
  go_ret
  exact ⟨rfl, ((Below.refl _ _).alloc (Nat.le_refl _) _).alloc (by simp) _⟩

theorem u8_of (k : Nat) (h : k < 256) : ((k.toUInt8).toNat : Int) = (k : Int) := by
  have : k.toUInt8.toNat = k := by simp [Nat.toUInt8, UInt8.toNat_ofNat', Nat.mod_eq_of_lt h]
  omega
theorem conv1 (w : World) (a : Nat) (ha : a < 256) (x : Int) (hx : x = a) :
    (convert 56 9 (.slice (some ⟨w.heap.size, 0, none⟩) 1 1)).run Try.prog (w.alloc (.cells #[.int .u8 x] 5)) = .ok (.string ⟨#[a.toUInt8]⟩) (w.alloc (.cells #[.int .u8 x] 5)) := by
  subst hx
  refine run_convert_bytes_back (l := [a.toUInt8]) _ _ _ 5 ⟨w.heap.size, 0, none⟩ 1 Try.underlying56 Try.underlying5 Try.underlying9 fun j hj => ?_
  match j, hj with
  | 0, _ => exact (cell_of_row _ w.heap.size 0 _ 5 (0, 0) (heap_alloc_new w _)).trans (by rw [List.getElem_cons_zero, u8_of a ha]; rfl)
theorem conv2 (w : World) (a b : Nat) (ha : a < 256) (hb : b < 256) (x y : Int) (hx : x = a) (hy : y = b) :
    (convert 56 9 (.slice (some ⟨w.heap.size, 0, none⟩) 2 2)).run Try.prog (w.alloc (.cells #[.int .u8 x, .int .u8 y] 5)) = .ok (.string ⟨#[a.toUInt8, b.toUInt8]⟩) (w.alloc (.cells #[.int .u8 x, .int .u8 y] 5)) := by
  subst hx hy
  refine run_convert_bytes_back (l := [a.toUInt8, b.toUInt8]) _ _ _ 5 ⟨w.heap.size, 0, none⟩ 2 Try.underlying56 Try.underlying5 Try.underlying9 fun j hj => ?_
  match j, hj with
  | 0, _ => exact (cell_of_row _ w.heap.size 0 _ 5 (0, 0) (heap_alloc_new w _)).trans (by rw [List.getElem_cons_zero, u8_of a ha]; rfl)
  | 1, _ => exact (cell_of_row _ w.heap.size 1 _ 5 (0, 0) (heap_alloc_new w _)).trans (by rw [List.getElem_cons_succ, List.getElem_cons_zero, u8_of b hb]; rfl)
set_option maxHeartbeats 400000 in
theorem dig_p (w : World) (n : Nat) (hn : n ≤ 32) : Calls Try.prog 12 #[.int .i64 n] w fun e w' => e = .returned (.string (digT n)) ∧ Below w.heap.size w w' := by
  by_cases h : n < 10
  · unfold digT
    rw [if_pos h]
    have hc := conv1 w (48 + n) (by omega) (48 + (n : Int)) (by omega)
    generalize (⟨#[(48 + n).toUInt8]⟩ : ByteArray) = D at hc ⊢
    go_enter Try.func12, Try.ntmps12
    go_wp2
    go_ret
    exact ⟨rfl, (Below.refl _ _).alloc (Nat.le_refl _) _⟩
  · unfold digT
    rw [if_neg h]
    have hq : (n : Int).tdiv 10 = ((n / 10 : Nat) : Int) := rfl
    have hr : (n : Int).tmod 10 = ((n % 10 : Nat) : Int) := rfl
    have hc := conv2 w (48 + n / 10) (48 + n % 10) (by omega) (by omega) (48 + ((n / 10 : Nat) : Int)) (48 + ((n % 10 : Nat) : Int)) (by omega) (by omega)
    generalize (⟨#[(48 + n / 10).toUInt8, (48 + n % 10).toUInt8]⟩ : ByteArray) = D at hc ⊢
    have hq1 : ((n / 10 : Nat) : Int) ≤ 3 := by omega
    have hq2 : 0 ≤ ((n / 10 : Nat) : Int) := by omega
    have hr1 : ((n % 10 : Nat) : Int) ≤ 9 := by omega
    have hr2 : 0 ≤ ((n % 10 : Nat) : Int) := by omega
    generalize ((n / 10 : Nat) : Int) = xq at *
    generalize ((n % 10 : Nat) : Int) = xr at *
    go_enter Try.func12, Try.ntmps12
    go_wp2
    go_ret
    exact ⟨rfl, (Below.refl _ _).alloc (Nat.le_refl _) _⟩

/-- The kids of a node that has the parts of t as its kids. -/
def Alts (w : World) (ok : Nat → Prop) (t : T) (v : Value) : Prop := Tree w ok (.mk 3 noneP 0 0 (altsT t)) v
theorem alts_p (w : World) (ok : Nat → Prop) (t : T) (k : Value) (ht : Tree w ok t k) :
    Calls Try.prog 11 #[.agg #[.int .i64 t.op, .int .u64 (word t.set 0), .int .u64 (word t.set 1), .int .u64 (word t.set 2), .int .u64 (word t.set 3), .int .i64 t.lo, .int .i64 t.hi, k]] w fun e w' => ∃ v, e = .returned v ∧ Tree w' (fun b => ok b ∨ w.heap.size ≤ b) (.mk 3 noneP 0 0 (altsT t)) v ∧ Below w.heap.size w w' := by
  obtain ⟨A, n, c, rfl⟩ := ht.form
  have HT := Lib.hid ht
  by_cases h3 : t.op = 3
  · have e : altsT t = t.kids := by unfold altsT; rw [if_pos h3]
    have h3b : (t.op == 3) = true := by simp [h3]
    rw [e]
    clear e ht h3
    go_enter Try.func11, Try.ntmps11
    go_wp2
    go_ret
    refine ⟨_, rfl, ?_, (Below.refl _ _).alloc (Nat.le_refl _) _⟩
    have h := HT.out.alloc (.cells #[.int .i64 t.op, .int .u64 (word t.set 0), .int .u64 (word t.set 1), .int .u64 (word t.set 2), .int .u64 (word t.set 3), .int .i64 t.lo, .int .i64 t.hi, .slice A n c] 28)
    cases h with
    | nil t h => exact .nil _ h
    | row t g cap cur ks hg hok hn h0 hcap hmax hsize hc hk =>
      exact Tree.row (.mk 3 noneP 0 0 t.kids) g c cur ks hg (Or.inl hok) hn h0 hcap hmax hsize hc fun i t' k' h1 h2 => (hk i t' k' h1 h2).weak fun b hb _ => Or.inl hb
  · have e : altsT t = [t] := by unfold altsT; rw [if_neg h3]
    have h3b : (t.op == 3) = false := by simp [h3]
    rw [e]
    clear e ht
    have bx := Box8.new w t (.slice A n c)
    obtain ⟨c0, c1, c2, c3, c4, c5, c6, c7⟩ := bx.cell
    go_enter Try.func11, Try.ntmps11
    go_wp2
    go_ret
    refine ⟨_, rfl, ?_, ((Below.refl _ _).alloc (Nat.le_refl _) _).alloc (by simp) _⟩
    refine .row (.mk 3 noneP 0 0 [t]) (w.heap.size + 1) 1 _ [.slice A n c] (by have h := heap_alloc_new (w.alloc (.cells #[.int .i64 t.op, .int .u64 (word t.set 0), .int .u64 (word t.set 1), .int .u64 (word t.set 2), .int .u64 (word t.set 3), .int .i64 t.lo, .int .i64 t.hi, .slice A n c] 28)) (.cells #[.int .i64 t.op, .int .u64 (word t.set 0), .int .u64 (word t.set 1), .int .u64 (word t.set 2), .int .u64 (word t.set 3), .int .i64 t.lo, .int .i64 t.hi, .slice A n c] 28); rw [World.size_alloc] at h; exact h) (.inr (by omega)) rfl (by simp) (Nat.le_refl _) (by decide) rfl rfl fun i t' k' h1 h2 => ?_
    match i, h1, h2 with
    | 0, h1, h2 =>
      have h1' : t = t' := by simpa [T.kids] using h1
      have h2' : Value.slice A n c = k' := by simpa using h2
      subst h1' h2'
      exact ((HT.out.weak fun b hb _ => .inl hb).alloc _).alloc _
    | i + 1, h1, h2 => simp at h2

end Go.Proofs.Ytpiieonlbfhbaaa
