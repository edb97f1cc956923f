/-
  The law LangParts of layer 3 as a walk. Contracts for other texts; no statement of its own.
-/
import Derived.Test.YtlnanelejaddiaaDoorMa11
import Derived.Test.YtlnanelejaddiaaDoorMbLangShift
import Derived.Test.YtlnanelejaddiaaDoorMa7
set_option linter.unusedVariables false
set_option linter.unusedSimpArgs false
namespace Go.Proofs.YtlnanelejaddiaaDoor
open Go Go.RowKit
attribute [local go_sem ↓] Go.wp_at_zero Go.wp_at_succ

theorem pattern_any {w : World} {s : ByteArray} (hs : s.size ≤ 9223372036854775807) : Calls Tryd.prog 7 #[.string s] w fun e w' => ∃ (t : T) (A : Option Addr) (n c : Nat) (ok : Int), e = .returned (.tuple #[nodeV t (.slice A n c), .int .i64 ok]) ∧ Below w.heap.size w w' := by
  refine (pattern0_p w s hs).mono fun e w' h => ?_
  obtain ⟨t', k, ok, rfl, ht, hb, h⟩ := h
  obtain ⟨A, n, c, rfl⟩ := ht.form
  exact ⟨t', A, n, c, ok, rfl, hb⟩

set_option maxRecDepth 20000 in
set_option maxHeartbeats 4000000 in
theorem langparts_out {w : World} {s s' : ByteArray} {c c' : Nat} {xs ys : List Int} {A A' : Option Addr} (hs : s.size ≤ 9223372036854775807) (hs' : s'.size ≤ 9223372036854775807) (htab : Tab w)
    (ho : (¬ ∃ t, parse s = .ok t ∧ plN t ≤ 60) ∨ (¬ ∃ t, parse s' = .ok t ∧ plN t ≤ 60) ∨ 40 < xs.length ∨ 40 < ys.length) :
    Calls Tryd.prog 4 #[.string s, .string s', .slice A xs.length c, .slice A' ys.length c'] w fun e w' => e = .returned (.bool true) ∧ Below w.heap.size w w' := by
  have HU := Lib.hid (up3_p w htab)
  by_cases hp : ∃ t, parse s = .ok t ∧ plN t ≤ 60
  · obtain ⟨t, hp1, hp2⟩ := hp
    have hpat := fun W => pattern_ok (w := W) hs hp1 hp2
    have HPAT := Lib.hid hpat
    by_cases hq : ∃ t, parse s' = .ok t ∧ plN t ≤ 60
    · obtain ⟨u, hq1, hq2⟩ := hq
      have hpat' := fun W => pattern_ok (w := W) hs' hq1 hq2
      have HPAT' := Lib.hid hpat'
      have hlen : 40 < xs.length ∨ 40 < ys.length := by
        rcases ho with h | h | h
        · exact absurd ⟨t, hp1, hp2⟩ h
        · exact absurd ⟨u, hq1, hq2⟩ h
        · exact h
      clear hpat hpat' hp1 hp2 hq1 hq2 ho
      by_cases h40 : 40 < xs.length
      · have hi40 : (40 : Int) < (xs.length : Int) := by omega
        clear hlen h40
        go_enter Tryd.func4, Tryd.ntmps4
        go_wp2_with (first
          | (go_at_call 6; (with_reducible refine HU.out.mono ?_); rintro e w1 ⟨rfl, hb1⟩; have HB := Lib.hid hb1; clear hb1)
          | (go_at_call 7; (with_reducible refine (HPAT.out _).mono ?_); rintro e w2 ⟨Ak, n, c2, rfl, ht, hb2⟩; have hb3 := gro HB.out hb2; have HB := Lib.hid (hb3.alloc hb3.size (.cells #[.int .i64 t.op, .int .u64 (word t.set 0), .int .u64 (word t.set 1), .int .u64 (word t.set 2), .int .u64 (word t.set 3), .int .i64 t.lo, .int .i64 t.hi, .slice Ak n c2] 29)); clear ht hb2 hb3; unfold nodeV)
          | (go_at_call 7; (with_reducible refine (HPAT'.out _).mono ?_); rintro e w3 ⟨Ak3, n3, c3, rfl, ht, hb2⟩; have hb3 := gro HB.out hb2; have HB := Lib.hid (hb3.alloc hb3.size (.cells #[.int .i64 u.op, .int .u64 (word u.set 0), .int .u64 (word u.set 1), .int .u64 (word u.set 2), .int .u64 (word u.set 3), .int .i64 u.lo, .int .i64 u.hi, .slice Ak3 n3 c3] 29)); clear ht hb2 hb3; unfold nodeV))
        go_ret
        exact ⟨rfl, HB.out⟩
      · have hi40 : ¬ ((40 : Int) < (xs.length : Int)) := by omega
        have hi41 : (40 : Int) < (ys.length : Int) := by omega
        clear hlen h40
        go_enter Tryd.func4, Tryd.ntmps4
        go_wp2_with (first
          | (go_at_call 6; (with_reducible refine HU.out.mono ?_); rintro e w1 ⟨rfl, hb1⟩; have HB := Lib.hid hb1; clear hb1)
          | (go_at_call 7; (with_reducible refine (HPAT.out _).mono ?_); rintro e w2 ⟨Ak, n, c2, rfl, ht, hb2⟩; have hb3 := gro HB.out hb2; have HB := Lib.hid (hb3.alloc hb3.size (.cells #[.int .i64 t.op, .int .u64 (word t.set 0), .int .u64 (word t.set 1), .int .u64 (word t.set 2), .int .u64 (word t.set 3), .int .i64 t.lo, .int .i64 t.hi, .slice Ak n c2] 29)); clear ht hb2 hb3; unfold nodeV)
          | (go_at_call 7; (with_reducible refine (HPAT'.out _).mono ?_); rintro e w3 ⟨Ak3, n3, c3, rfl, ht, hb2⟩; have hb3 := gro HB.out hb2; have HB := Lib.hid (hb3.alloc hb3.size (.cells #[.int .i64 u.op, .int .u64 (word u.set 0), .int .u64 (word u.set 1), .int .u64 (word u.set 2), .int .u64 (word u.set 3), .int .i64 u.lo, .int .i64 u.hi, .slice Ak3 n3 c3] 29)); clear ht hb2 hb3; unfold nodeV))
        go_ret
        exact ⟨rfl, HB.out⟩
    · have hpat' := fun W => pattern_no (w := W) hs' hq
      unfold nodeV at hpat'
      have HPAT' := Lib.hid hpat'
      clear hpat hpat' hp1 hp2 hq ho
      go_enter Tryd.func4, Tryd.ntmps4
      go_wp2_with (first
        | (go_at_call 6; (with_reducible refine HU.out.mono ?_); rintro e w1 ⟨rfl, hb1⟩; have HB := Lib.hid hb1; clear hb1)
        | (go_at_call 7; (with_reducible refine (HPAT.out _).mono ?_); rintro e w2 ⟨Ak, n, c2, rfl, ht, hb2⟩; have hb3 := gro HB.out hb2; have HB := Lib.hid (hb3.alloc hb3.size (.cells #[.int .i64 t.op, .int .u64 (word t.set 0), .int .u64 (word t.set 1), .int .u64 (word t.set 2), .int .u64 (word t.set 3), .int .i64 t.lo, .int .i64 t.hi, .slice Ak n c2] 29)); clear ht hb2 hb3; unfold nodeV)
        | (go_at_call 7; (with_reducible refine (HPAT'.out _).mono ?_); rintro e w3 ⟨rfl, hb2⟩; have hb3 := gro HB.out hb2; have HB := Lib.hid (hb3.alloc hb3.size (.cells #[.int .i64 T.zero.op, .int .u64 (word T.zero.set 0), .int .u64 (word T.zero.set 1), .int .u64 (word T.zero.set 2), .int .u64 (word T.zero.set 3), .int .i64 T.zero.lo, .int .i64 T.zero.hi, .slice none 0 0] 29)); clear hb2 hb3))
      go_ret
      exact ⟨rfl, HB.out⟩
  · have hpat := fun W => pattern_no (w := W) hs hp
    unfold nodeV at hpat
    have HPAT := Lib.hid hpat
    have hpat' := fun W => pattern_any (w := W) hs'
    have HPAT' := Lib.hid hpat'
    clear hpat hpat' hp ho
    go_enter Tryd.func4, Tryd.ntmps4
    go_wp2_with (first
      | (go_at_call 6; (with_reducible refine HU.out.mono ?_); rintro e w1 ⟨rfl, hb1⟩; have HB := Lib.hid hb1; clear hb1)
      | (go_at_call 7; (with_reducible refine (HPAT.out _).mono ?_); rintro e w2 ⟨rfl, hb2⟩; have hb3 := gro HB.out hb2; have HB := Lib.hid (hb3.alloc hb3.size (.cells #[.int .i64 T.zero.op, .int .u64 (word T.zero.set 0), .int .u64 (word T.zero.set 1), .int .u64 (word T.zero.set 2), .int .u64 (word T.zero.set 3), .int .i64 T.zero.lo, .int .i64 T.zero.hi, .slice none 0 0] 29)); clear hb2 hb3)
      | (go_at_call 7; (with_reducible refine (HPAT'.out _).mono ?_); rintro e w3 ⟨u, Ak3, n3, c3, ok3, rfl, hb2⟩; have hb3 := gro HB.out hb2; have HB := Lib.hid (hb3.alloc hb3.size (.cells #[.int .i64 u.op, .int .u64 (word u.set 0), .int .u64 (word u.set 1), .int .u64 (word u.set 2), .int .u64 (word u.set 3), .int .i64 u.lo, .int .i64 u.hi, .slice Ak3 n3 c3] 29)); clear hb2 hb3; unfold nodeV))
    go_ret
    exact ⟨rfl, HB.out⟩

end Go.Proofs.YtlnanelejaddiaaDoor
