/-
  The law RxTells of layer 2: its helpers, and itself. No statement of its own: the statement's proof is another text.
-/
import Derived.Test.YtpiieonlbfhbaaaSameNode
import Derived.Test.YtpiieonlbfhbaaaRx10
import Derived.Test.YtpiieonlbfhbaaaRxSame
set_option linter.unusedVariables false
set_option linter.unusedSimpArgs false
namespace Go.Proofs.Ytpiieonlbfhbaaa
open Go Go.RowKit
attribute [local go_sem ↓] Go.wp_at_zero Go.wp_at_succ

theorem Try.askSpot (x : TypeId) (p : Value) (w : World) : (Instr.typeAssert (.iface 42 p) x 42 true).run Try.prog w = .ok (.tuple #[p, .bool true]) w := by
  unfold Instr.typeAssert
  simp [run_underlying Try.underlying42, Sem.run_bind, Result.andThen]

set_option maxHeartbeats 400000 in
theorem spot_nil (w : World) : Calls Try.prog 8 #[.nilIface] w fun e w' => e = .returned (.tuple #[.int .i64 0, .int .i64 0]) ∧ w = w' := by
  go_enter Try.func8, Try.ntmps8
  go_wp2
  go_ret2
  exact ⟨rfl, rfl⟩

set_option maxHeartbeats 400000 in
theorem spot_p (w : World) (gs : Nat) (a c : Int) (h : w.heap[gs]? = some (.cells #[.int .i64 a, .int .i64 c] 45 (0, 0))) :
    Calls Try.prog 8 #[.iface 42 (.pointer (some ⟨gs, 0, none⟩))] w fun e w' => e = .returned (.tuple #[.int .i64 c, .int .i64 a]) ∧ ∃ n, w' = w.drewN n := by
  have c0 : w.cell? ⟨gs, 0, none⟩ = some (.int .i64 a) := cell_of_row w gs _ _ 45 (0, 0) h
  have c1 : w.cell? ⟨gs, 1, none⟩ = some (.int .i64 c) := cell_of_row w gs _ _ 45 (0, 0) h
  have hta := Try.askSpot
  go_enter Try.func8, Try.ntmps8
  go_wp2
  go_quiet (fail)
  go_wp2
  go_ret2
  exact ⟨rfl, _, rfl⟩

def abc : ByteArray := ⟨#[97, 124, 98, 99]⟩
def astar : ByteArray := ⟨#[97, 42]⟩
theorem abc_tree : xparse abc = .ok (.mk 3 noneP 0 0 [.one (rangeP 97 97), .mk 2 noneP 0 0 [.one (rangeP 98 98), .one (rangeP 99 99)]]) := by kernel_rfl
theorem astar_bad : xparse astar = .error (3, 1) := by kernel_rfl

def abcT : T := .mk 3 noneP 0 0 [.one (rangeP 97 97), .mk 2 noneP 0 0 [.one (rangeP 98 98), .one (rangeP 99 99)]]
theorem abc_p (w : World) : Calls Try.prog 6 #[.string ⟨#[97, 124, 98, 99]⟩] w fun e w' => ∃ k, e = .returned (.tuple #[nodeV abcT k, .nilIface]) ∧ Tree w' (fun b => w.heap.size ≤ b) abcT k ∧ Below w.heap.size w w' := by
  refine (xparse_p w abc (by decide)).mono fun e w' h => ?_
  unfold XParse at h
  rw [abc_tree] at h
  exact h
theorem astar_p (w : World) : Calls Try.prog 6 #[.string ⟨#[97, 42]⟩] w fun e w' => ∃ gs, e = .returned (.tuple #[nodeV T.zero (.slice none 0 0), .iface 42 (.pointer (some ⟨gs, 0, none⟩))]) ∧ w'.heap[gs]? = some (.cells #[.int .i64 1, .int .i64 3] 45 (0, 0)) ∧ w.heap.size ≤ gs ∧ Below w.heap.size w w' := by
  refine (xparse_p w astar (by decide)).mono fun e w' h => ?_
  unfold XParse at h
  rw [astar_bad] at h
  exact h

set_option maxRecDepth 20000 in
set_option maxHeartbeats 2000000 in
theorem up_p (w : World) : Calls Try.prog 5 #[] w fun e w' => e = .returned (.bool true) ∧ Below w.heap.size w w' := by
  go_enter Try.func5, Try.ntmps5
  go_wp2_with (first
    | (go_at_call 6; (with_reducible refine (abc_p _).mono ?_); rintro e w1 ⟨k, rfl, ht, hb1⟩; obtain ⟨g, cap, k0, rfl, hg, ht0, hc0⟩ := ht.kidAt 0 (by decide); obtain ⟨g', cap', k1, e1, hg', ht1, hc1⟩ := ht.kidAt 1 (by decide); have a1 : g' = g := (by injection e1 with e1; injection e1 with e1; injection e1 with e1; exact e1.symm); subst a1; clear e1; have q0 : w1.cell? ⟨g', 0, none⟩ = some (.int .i64 1) := hc0 0 _ rfl; have q1 : w1.cell? ⟨g', 8, none⟩ = some (.int .i64 2) := hc1 0 _ rfl; clear hc0 hc1 ht0 ht1; unfold nodeV)
    | (go_at_call 6; (with_reducible refine (astar_p _).mono ?_); rintro e w2 ⟨gs, rfl, hgs, hgB, hb2⟩; unfold nodeV; have bx := (Box8.new w1 abcT (.slice (some ⟨g', 0, none⟩) abcT.kids.length cap)).stays hb2; have bl := bx.lt; have bl2 : w1.heap.size ≠ w2.heap.size := (by omega); have gl : g' < w2.heap.size := (by omega); have gl2 : g' ≠ w2.heap.size := (by omega); obtain ⟨x0, x1, x2, x3, x4, x5, x6, x7⟩ := bx.cell; have y0 : w2.cell? ⟨g', 0, none⟩ = some (.int .i64 1) := cell_stays ((Below.cell ((Below.refl _ _).alloc (Nat.le_refl _) _) (p := ⟨g', 0, none⟩) hg).trans q0) hb2; have y1 : w2.cell? ⟨g', 8, none⟩ = some (.int .i64 2) := cell_stays ((Below.cell ((Below.refl _ _).alloc (Nat.le_refl _) _) (p := ⟨g', 8, none⟩) hg).trans q1) hb2)
    | (go_at_call 8; (with_reducible refine (spot_p _ gs 1 3 (by first | exact hgs | exact (Below.heap_alloc _ _ _ (lt_of_some hgs)).trans hgs)).mono ?_); rintro e w3 ⟨rfl, n, rfl⟩))
  go_ret
  exact ⟨rfl, below_drewN ((gro1 hb1 hb2).alloc (gro1 hb1 hb2).size _) n⟩

theorem xparse_eq (s : ByteArray) : xparse s = parse s := by
  rw [parse_same]
  rfl

set_option maxRecDepth 20000 in
set_option maxHeartbeats 2000000 in
theorem rxtells_p (w : World) (s : ByteArray) (hs : s.size ≤ 9223372036854775807) : Calls Try.prog 3 #[.string s] w fun e w' => e = .returned (.bool true) ∧ Below w.heap.size w w' := by
  by_cases hl : 1000 < s.size
  · go_enter Try.func3, Try.ntmps3
    go_wp2_with (go_at_call 5; (with_reducible refine (up_p _).mono ?_); rintro e w1 ⟨rfl, hb1⟩)
    go_ret
    exact ⟨rfl, hb1⟩
  · have HX := Lib.hid (fun w => xparse_p w s hs)
    have HR := Lib.hid (fun w => rparse_p w s hs)
    unfold XParse at HX
    unfold RetParse at HR
    simp only [xparse_eq] at HX
    cases hp : parse s with
    | ok t =>
      simp only [hp] at HX HR
      clear hp
      go_enter Try.func3, Try.ntmps3
      go_wp2_with (first
        | (go_at_call 5; (with_reducible refine (up_p _).mono ?_); rintro e w1 ⟨rfl, hb1⟩)
        | (go_at_call 6; (with_reducible refine (HX.out _).mono ?_); rintro e w2 ⟨k, rfl, ht, hb2⟩; obtain ⟨A, tn, tc, rfl⟩ := ht.form; unfold nodeV)
        | (go_at_call 7; (with_reducible refine (HR.out _).mono ?_); rintro e w3 ⟨t', k', bad, at_, rfl, ht', hb3, a1, a2, a3⟩; subst a1 a2 a3; obtain ⟨A', tn', tc', rfl⟩ := ht'.form; unfold nodeV; have bx := (Box8.new w2 t' (.slice A tn tc)).stays hb3; have bl := bx.lt; have bl2 : w2.heap.size ≠ w3.heap.size := (by omega); obtain ⟨x0, x1, x2, x3, x4, x5, x6, x7⟩ := bx.cell; have hta := ((ht.alloc (.cells #[.int .i64 t'.op, .int .u64 (word t'.set 0), .int .u64 (word t'.set 1), .int .u64 (word t'.set 2), .int .u64 (word t'.set 3), .int .i64 t'.lo, .int .i64 t'.hi, .slice A tn tc] 28)).stays hb3).alloc (.cells #[.int .i64 t'.op, .int .u64 (word t'.set 0), .int .u64 (word t'.set 1), .int .u64 (word t'.set 2), .int .u64 (word t'.set 3), .int .i64 t'.lo, .int .i64 t'.hi, .slice A' tn' tc'] 28); have htb := ht'.alloc (.cells #[.int .i64 t'.op, .int .u64 (word t'.set 0), .int .u64 (word t'.set 1), .int .u64 (word t'.set 2), .int .u64 (word t'.set 3), .int .i64 t'.lo, .int .i64 t'.hi, .slice A' tn' tc'] 28))
        | (go_at_call 8; (with_reducible refine (spot_nil _).mono ?_); rintro e w4 ⟨rfl, rfl⟩)
        | (go_at_call 9; (refine (same_p _ _ _ _ _ _ hta htb).mono ?_); rintro e w5 ⟨rfl, hb5⟩))
      go_ret
      exact ⟨rfl, gro1 (gro1 (gro hb1 hb2) hb3) hb5⟩
    | error x =>
      obtain ⟨c, q⟩ := x
      simp only [hp] at HX HR
      clear hp
      go_enter Try.func3, Try.ntmps3
      go_wp2_with (first
        | (go_at_call 5; (with_reducible refine (up_p _).mono ?_); rintro e w1 ⟨rfl, hb1⟩)
        | (go_at_call 6; (with_reducible refine (HX.out _).mono ?_); rintro e w2 ⟨gs, rfl, hgs, hgB, hb2⟩; unfold nodeV; have gl := lt_of_some hgs)
        | (go_at_call 7; (with_reducible refine (HR.out _).mono ?_); rintro e w3 ⟨t', k', bad, at_, rfl, ht', hb3, a1, a2, a3, a4, a5⟩; subst a1 a2 a3 a4; clear a5; unfold nodeV; have bx := (Box8.new w2 T.zero (.slice none 0 0)).stays hb3; have bl := bx.lt; have bl2 : w2.heap.size ≠ w3.heap.size := (by omega); obtain ⟨x0, x1, x2, x3, x4, x5, x6, x7⟩ := bx.cell; have hgs3 := (hb3.block gs (by simp; omega)).trans ((Below.heap_alloc w2 _ gs gl).trans hgs); have hgs4 := fun o => (Below.heap_alloc w3 o gs (lt_of_some hgs3)).trans hgs3)
        | (go_at_call 8; (with_reducible refine (spot_p _ gs at_ bad (hgs4 _)).mono ?_); rintro e w4 ⟨rfl, n, rfl⟩)
        | (go_at_call 9; (refine (same_p T.zero _ (fun _ => True) (fun _ => True) (.slice none 0 0) (.slice none 0 0) (.nil _ rfl) (.nil _ rfl)).mono ?_); rintro e w5 ⟨rfl, hb5⟩))
      go_ret
      exact ⟨rfl, gro (below_drewN ((gro1 (gro hb1 hb2) hb3).alloc (gro1 (gro hb1 hb2) hb3).size _) n) hb5⟩

end Go.Proofs.Ytpiieonlbfhbaaa
