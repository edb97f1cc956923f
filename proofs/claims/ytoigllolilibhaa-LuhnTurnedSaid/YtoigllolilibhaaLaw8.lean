/-
  The statement LuhnTells of layer 8: the head that all statements of that layer begin with, and the walk. Contracts for other texts; no statement of its own.
-/
import Derived.Test.YtoigllolilibhaaLuhSum
import Derived.Test.YtoigllolilibhaaLuhRef
import Derived.Lib.SlBytesConst
set_option linter.unusedVariables false
set_option linter.unusedSimpArgs false
namespace Go.Proofs.Ytoigllolilibhaa
open Go Go.RowKit

theorem rd_lit (w : World) (C : Array Value) (e : TypeId) (m : Nat × Nat) (xs : List Int) (hC : C.toList = xs.map (Value.int .u8)) : RdB (w.alloc (.cells C e m)) (w.heap.size + 1) (some ⟨w.heap.size, 0, none⟩) xs := by
  intro k hk
  refine ⟨w.heap.size, 0, rfl, Nat.lt_succ_self _, ?_⟩
  have hb : (w.alloc (.cells C e m)).heap[w.heap.size]? = some (.cells C e m) := by
    show (w.heap.push (.cells C e m))[w.heap.size]? = _
    simp
  rw [Nat.zero_add, cell_of_row (w.alloc (.cells C e m)) w.heap.size k C e m hb, ← Array.getElem?_toList, hC]
  simp [List.getD_eq_getElem?_getD, List.getElem?_eq_getElem hk]
def up8a : List Int := [52, 49, 49, 49, 49, 49, 49, 49, 49, 49, 49, 49, 49, 49, 49, 49]
def up8b : List Int := [52, 49, 49, 49, 49, 49, 49, 49, 49, 49, 49, 49, 49, 49, 49, 50]
def byteOk (xs : List Int) : Prop := ∀ k, k < xs.length → 0 ≤ xs.getD k 0 ∧ xs.getD k 0 ≤ 255
def okV (xs : List Int) : Bool := decide (2 ≤ lN xs) && decide (lS xs = 0)
theorem okV_a : okV up8a = true := by decide +kernel
theorem okV_b : okV up8b = false := by decide +kernel
theorem okV_c : okV [48] = false := by decide +kernel
theorem byteOk_of {xs : List Int} (h : (xs.all fun x => decide (0 ≤ x) && decide (x ≤ 255)) = true) : byteOk xs := by
  intro k hk
  have hm := List.getElem_mem hk
  have := List.all_eq_true.mp h _ hm
  simp at this
  simpa [List.getD_eq_getElem?_getD, List.getElem?_eq_getElem hk] using this
theorem bo_a : byteOk up8a := byteOk_of (by decide +kernel)
theorem bo_b : byteOk up8b := byteOk_of (by decide +kernel)
theorem bo_c : byteOk [48] := byteOk_of (by decide +kernel)
theorem lok_at (A : Option Addr) (n cap : Nat) (xs : List Int) (w : World) (B : Nat) (b : Bool) (hb : okV xs = b) (hn : n = xs.length) (hr : RdB w B A xs) (hxs : byteOk xs) (hm : n ≤ 9000000000000000000) :
    Calls Try.prog 26 #[.slice A n cap] w fun e w' => e = .returned (.bool b) ∧ w = w' := by
  subst hb
  exact lok_p A n cap xs w B hn hr hxs hm

set_option maxRecDepth 20000 in
set_option maxHeartbeats 400000 in
theorem up8_p (w : World) : Calls Try.prog 23 #[] w fun e w' => e = .returned (.bool true) ∧ Below w.heap.size w w' := by
  have hnot : ∀ (x : Bool) (w : World), (Op.unary .not (.bool x)).run Try.prog w = .ok (.bool (!x)) w := fun _ _ => rfl
  have hcv1 := Lib.run_convert_bytes_const (P := Try.prog) w 24 5 #[.int .u8 52, .int .u8 49, .int .u8 49, .int .u8 49, .int .u8 49, .int .u8 49, .int .u8 49, .int .u8 49, .int .u8 49, .int .u8 49, .int .u8 49, .int .u8 49, .int .u8 49, .int .u8 49, .int .u8 49, .int .u8 49] 16 16 Try.underlying24 Try.underlying5
  go_enter Try.func23, Try.ntmps23
  go_wp2_with (first
    | (go_at_call 26; (with_reducible refine (lok_at _ 16 16 up8a _ _ true okV_a rfl (rd_lit w #[.int .u8 52, .int .u8 49, .int .u8 49, .int .u8 49, .int .u8 49, .int .u8 49, .int .u8 49, .int .u8 49, .int .u8 49, .int .u8 49, .int .u8 49, .int .u8 49, .int .u8 49, .int .u8 49, .int .u8 49, .int .u8 49] _ (16, 17) up8a rfl) bo_a (by decide)).mono ?_); rintro e w1 ⟨rfl, hw1⟩; have B1 : Below w.heap.size w w1 := (by rw [← hw1]; exact (Below.refl _ _).alloc (Nat.le_refl _) _); clear hw1 hcv1; have hcv2 := Lib.run_convert_bytes_const (P := Try.prog) w1 24 5 #[.int .u8 52, .int .u8 49, .int .u8 49, .int .u8 49, .int .u8 49, .int .u8 49, .int .u8 49, .int .u8 49, .int .u8 49, .int .u8 49, .int .u8 49, .int .u8 49, .int .u8 49, .int .u8 49, .int .u8 49, .int .u8 50] 16 16 Try.underlying24 Try.underlying5)
    | (go_at_call 26; (with_reducible refine (lok_at _ 16 16 up8b _ _ false okV_b rfl (rd_lit w1 #[.int .u8 52, .int .u8 49, .int .u8 49, .int .u8 49, .int .u8 49, .int .u8 49, .int .u8 49, .int .u8 49, .int .u8 49, .int .u8 49, .int .u8 49, .int .u8 49, .int .u8 49, .int .u8 49, .int .u8 49, .int .u8 50] _ (16, 17) up8b rfl) bo_b (by decide)).mono ?_); rintro e w2 ⟨rfl, hw2⟩; have B2 : Below w.heap.size w w2 := (by rw [← hw2]; exact B1.alloc B1.size _); clear hw2 hcv2; have hcv3 := Lib.run_convert_bytes_const (P := Try.prog) w2 24 5 #[.int .u8 48] 1 1 Try.underlying24 Try.underlying5)
    | (go_at_call 26; (with_reducible refine (lok_at _ 1 1 [48] _ _ false okV_c rfl (rd_lit w2 #[.int .u8 48] _ (1, 2) [48] rfl) bo_c (by decide)).mono ?_); rintro e w3 ⟨rfl, hw3⟩; have B3 : Below w.heap.size w w3 := (by rw [← hw3]; exact B2.alloc B2.size _); clear hw3 hcv3))
  go_ret
  exact ⟨rfl, B3⟩

set_option maxHeartbeats 1000000 in
theorem luhntells_p (w : World) (A : Option Addr) (cap : Nat) (xs : List Int) (hr : RdB w w.heap.size A xs) (hxs : byteOk xs) (hcap : xs.length ≤ 9223372036854775807) :
    Calls Try.prog 6 #[.slice A xs.length cap] w fun e w' => e = .returned (.bool true) ∧ Below w.heap.size w w' := by
  obtain ⟨n, hn⟩ : ∃ n, n = xs.length := ⟨_, rfl⟩
  rw [← hn] at hcap ⊢
  by_cases hbig : 1000 < n
  · clear hn hr hxs
    go_enter Try.func6, Try.ntmps6
    go_wp2_with (go_at_call 23; (with_reducible refine (up8_p _).mono ?_); rintro e w1 ⟨rfl, hb1⟩)
    go_ret
    exact ⟨rfl, hb1⟩
  · have hm : n ≤ 50000 := by omega
    have HS : Hid (∀ w', Below w.heap.size w w' → Calls Try.prog 24 #[.slice A n cap] w' fun e w2 => e = .returned (.tuple #[.int .i64 (lN xs : Nat), .int .i64 (lS xs)]) ∧ w' = w2) := fun w' hb => lsum_p A n cap xs w' _ hn (hr.below hb) hxs (by omega)
    have HO : Hid (∀ w', Below w.heap.size w w' → Calls Try.prog 26 #[.slice A n cap] w' fun e w2 => e = .returned (.bool (okV xs)) ∧ w' = w2) := fun w' hb => lok_p A n cap xs w' _ hn (hr.below hb) hxs (by omega)
    have HRS : Hid (∀ w', Below w.heap.size w w' → Calls Try.prog 25 #[.slice A n cap] w' fun e w2 => e = .returned (.tuple #[.int .i64 (lN xs : Nat), .int .i64 (lS xs)]) ∧ Below w'.heap.size w' w2) := fun w' hb => rsum_p A n cap xs w' hn ((hr.below hb).more hb.size) hxs hm
    have HRO : Hid (∀ w', Below w.heap.size w w' → Calls Try.prog 27 #[.slice A n cap] w' fun e w2 => e = .returned (.bool (okV xs)) ∧ Below w'.heap.size w' w2) := fun w' hb => rok_p A n cap xs w' hn ((hr.below hb).more hb.size) hxs hm
    have hl := lN_le xs
    rw [← hn] at hl
    have hb := lS_bd xs
    obtain ⟨N, hN⟩ : ∃ N, lN xs = N := ⟨_, rfl⟩
    obtain ⟨S, hS⟩ : ∃ S, lS xs = S := ⟨_, rfl⟩
    obtain ⟨O, hO⟩ : ∃ O, okV xs = O := ⟨_, rfl⟩
    rw [hN, hS] at HS HRS
    rw [hO] at HO HRO
    rw [hN] at hl
    rw [hS] at hb
    clear hN hS hO hn hr hxs
    go_enter Try.func6, Try.ntmps6
    go_wp2_with (first
      | (go_at_call 23; (with_reducible refine (up8_p _).mono ?_); rintro e w1 ⟨rfl, hb1⟩)
      | (go_at_call 24; (with_reducible refine (HS.out _ hb1).mono ?_); rintro e w2 ⟨rfl, rfl⟩)
      | (go_at_call 25; (with_reducible refine (HRS.out _ hb1).mono ?_); rintro e w3 ⟨rfl, hb3⟩; have hb3' := gro hb1 hb3)
      | (go_at_call 26; (with_reducible refine (HO.out _ hb3').mono ?_); rintro e w4 ⟨rfl, rfl⟩)
      | (go_at_call 27; (with_reducible refine (HRO.out _ hb3').mono ?_); rintro e w5 ⟨rfl, hb5⟩; have hb5' := gro hb3' hb5))
    go_ret
    exact ⟨by simp, hb5'⟩
end Go.Proofs.Ytoigllolilibhaa
