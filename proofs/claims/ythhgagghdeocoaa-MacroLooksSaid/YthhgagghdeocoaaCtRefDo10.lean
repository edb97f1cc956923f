/-
  The document's machine: what Do does, op 10. Contracts for other texts; no statement of its own.
-/
import Derived.Test.YthhgagghdeocoaaCtRefApp
import Derived.Test.YthhgagghdeocoaaCtRefMay
import Derived.Test.YthhgagghdeocoaaStoRow
import Derived.BigQuiet
import Derived.Deep.RegionHeld3
import Derived.Deep.RegionLaw
import Derived.Deep.LoopGhost
set_option linter.unusedVariables false
set_option linter.unusedSimpArgs false
namespace Go.Proofs.Ythhgagghdeocoaa
open Go Go.RowKit
attribute [local go_sem ↓] run_stoE

set_option maxRecDepth 20000 in
set_option maxHeartbeats 4000000 in
theorem ddo_10 {w : World} {F : Nat → Prop} {q m : Nat} {f : Int → Int} {tr : List Ins} {mb : Nat} {lv : Value} {D : MapD} (h : DocE w F q m f tr mb lv D) (d a b c' n : Int) (hx : Ins.fits ⟨10, d, a, b, c', n⟩) (hm : m ≤ 200000) (hlen : tr.length ≤ 99999) (hmay : may ⟨10, d, a, b, c', n⟩ m = true) :
    Calls Try.prog 51 #[.pointer (some ⟨q, 0, none⟩), .agg #[.int .i64 10, .int .i64 d, .int .i64 a, .int .i64 b, .int .i64 c', .int .u64 n]] w fun e w' => e = .returned (.tuple #[.int .u64 (told ⟨10, d, a, b, c', n⟩ f), .int .i64 0]) ∧ ∃ F', Doc w' F' q m (nextF ⟨10, d, a, b, c', n⟩ f) (tr ++ [⟨10, d, a, b, c', 0⟩]) ∧ Kept F w w' ∧ (∀ b, F' b → F b ∨ w.heap.size ≤ b) := by
  have hcm := fun (W : World) (hb : Below w.heap.size w W) => dmay_p (w := W) (cell_stays h.c0 hb) hm ⟨10, d, a, b, c', n⟩ hx
  rw [hmay] at hcm
  unfold insV at hcm
  simp only at hcm
  have hb0 : Below w.heap.size w (w.alloc (.cells #[.int .i64 10, .int .i64 d, .int .i64 a, .int .i64 b, .int .i64 c', .int .u64 n] 68)) := (Below.refl _ _).alloc (Nat.le_refl _) _
  have hbx : BoxI (w.alloc (.cells #[.int .i64 10, .int .i64 d, .int .i64 a, .int .i64 b, .int .i64 c', .int .u64 n] 68)) w.heap.size ⟨10, d, a, b, c', n⟩ := has_new _ _ _ _ rfl
  have hn1 := hx.n.1
  have hn2 := hx.n.2
  have ha := hx.a
  have hb := hx.b
  have hc := hx.c
  have hd := hx.d
  simp only at hn1 hn2 ha hb hc hd
  have HA := Lib.hid ha
  have HBK := Lib.hid hb
  have HCK := Lib.hid hc
  have HDK := Lib.hid hd
  have HB := Lib.hid hb0
  have HBX := Lib.hid hbx
  have HC := Lib.hid hcm
  have HMAY := Lib.hid hmay
  have H := Lib.hid h
  obtain ⟨A0, c0, hlv⟩ : ∃ A c, lv = .slice A tr.length c := by
    rcases h.row.2 with ⟨e, e0⟩ | ⟨g, cap, cur, e, _⟩
    · rw [e0]; exact ⟨_, _, e⟩
    · exact ⟨_, _, e⟩
  obtain ⟨t0, ht0⟩ : ∃ t0, tr.length = t0 := ⟨_, rfl⟩
  rw [ht0] at hlv hlen
  have HT0 := Lib.hid ht0
  subst hlv
  clear h hcm hb0 hbx hmay ht0 ha hb hc hd hx
  go_enter Try.func51, Try.ntmps51
  go_wp2_with (first
    | (go_at_call 76; (with_reducible refine (HC.out _ HB.out).mono ?_); rintro e w1 ⟨rfl, b1⟩; have B1 := Lib.hid (gro HB.out b1); have bx1 := HBX.out.stays b1; have hl1 := lt_of_some bx1; have n1 : w.heap.size ≠ w1.heap.size := (by omega); obtain ⟨z0, z1, z2, z3, z4, z5⟩ := bx1.cells; have hn0 : HasO (w1.alloc (.cells #[.int .i64 0, .int .i64 0, .int .i64 0, .int .i64 0, .int .i64 0, .int .u64 0] 68)) w1.heap.size (.cells #[.int .i64 0, .int .i64 0, .int .i64 0, .int .i64 0, .int .i64 0, .int .u64 0] 68 (0, 0)) := has_new _ _ _ _ rfl; have hst := sto_of (ty := 68) (cs := #[.int .i64 10, .int .i64 d, .int .i64 a, .int .i64 b, .int .i64 c', .int .u64 n]) hn0 (by kernel_rfl) rfl (by simp [Value.oneCell']); have y0 := cell_sto (cs := #[.int .i64 10, .int .i64 d, .int .i64 a, .int .i64 b, .int .i64 c', .int .u64 n]) (cell_al z0 (.cells #[.int .i64 0, .int .i64 0, .int .i64 0, .int .i64 0, .int .i64 0, .int .u64 0] 68)) n1; have HY := Lib.hid (has_sto (cs := #[.int .i64 10, .int .i64 d, .int .i64 a, .int .i64 b, .int .i64 c', .int .u64 n]) hn0); have BX1 := Lib.hid bx1; have N0 := Lib.hid hn0; have y5 := cell_of_row _ w1.heap.size 5 _ _ (0, 0) HY.out; have fy5 := frozen_of_row _ w1.heap.size 5 _ _ HY.out; clear b1 bx1 hl1 hn0)
    | fail)
  have hb1s := B1.out.size
  have hmid0 : Below w.heap.size w ((stoW (w1.alloc (.cells #[.int .i64 0, .int .i64 0, .int .i64 0, .int .i64 0, .int .i64 0, .int .u64 0] 68)) (.pointer (some ⟨w1.heap.size, 0, none⟩)) (.agg #[.int .i64 10, .int .i64 d, .int .i64 a, .int .i64 b, .int .i64 c', .int .u64 n])).setCell ⟨w1.heap.size, 5, none⟩ (.int .u64 0)) := Below.setCell (p := ⟨w1.heap.size, 5, none⟩) (below_sto (B1.out.alloc hb1s _) hb1s) hb1s (.int .u64 0)
  have hmid : Mid w ((stoW (w1.alloc (.cells #[.int .i64 0, .int .i64 0, .int .i64 0, .int .i64 0, .int .i64 0, .int .u64 0] 68)) (.pointer (some ⟨w1.heap.size, 0, none⟩)) (.agg #[.int .i64 10, .int .i64 d, .int .i64 a, .int .i64 b, .int .i64 c', .int .u64 n])).setCell ⟨w1.heap.size, 5, none⟩ (.int .u64 0)) F q m f tr mb (.slice A0 t0 c0) D ⟨10, d, a, b, c', n⟩ ⟨10, d, a, b, c', 0⟩ w1.heap.size :=
    ⟨H.out.stays hmid0, (Below.heap_setCell _ _ _ _ n1).trans ((block_sto n1).trans (has_alloc _ BX1.out)), heap_setCell_same _ w1.heap.size 5 _ _ (.int .u64 0) HY.out, hmid0⟩
  generalize (stoW (w1.alloc (.cells #[.int .i64 0, .int .i64 0, .int .i64 0, .int .i64 0, .int .i64 0, .int .u64 0] 68)) (.pointer (some ⟨w1.heap.size, 0, none⟩)) (.agg #[.int .i64 10, .int .i64 d, .int .i64 a, .int .i64 b, .int .i64 c', .int .u64 n])).setCell ⟨w1.heap.size, 5, none⟩ (.int .u64 0) = W at *
  generalize w1.heap.size = yb at *
  have q1 := hmid.doc.c2
  obtain ⟨p0, p1, p2, p3, p4, p5⟩ := hmid.by'.cells
  simp only at p0 p1 p2 p3 p4 p5
  have q2 := cell_al q1 (.cells #[.int .i64 10, .int .i64 d, .int .i64 a, .int .i64 b, .int .i64 c', .int .u64 0] 68)
  have q1d := cell_dr q1
  have q2d := cell_dr q2
  have hb5 : Below W.heap.size W ((W.alloc (.cells #[.int .i64 10, .int .i64 d, .int .i64 a, .int .i64 b, .int .i64 c', .int .u64 0] 68)).drew) := ((Below.refl _ _).alloc (Nat.le_refl _) _).drew
  obtain ⟨v', W', hr, r1, r2, r3⟩ := append6 (x := ⟨10, d, a, b, c', 0⟩) (own_stays hmid.doc.row hb5) (by rw [HT0.out]; omega) (b := W.heap.size) (has_drew (has_new _ _ _ _ rfl)) 1
  obtain ⟨A', ce, rfl⟩ := own_formR r1
  have hL := hmid.grew H.out.fl hb5 r1 r2 r3
  have hq5 : HasO W' q _ := has_grown r2 (has_drew (has_alloc _ hmid.doc.hd)) (fun e => (hmid.doc.nlv q e.symm).1 rfl)
  have f5 := frozen_of_row W' q 2 _ _ hq5
  have q5 : W'.cell? ⟨q, 2, none⟩ = some _ := cell_of_row W' q 2 _ _ (0, 0) hq5
  rw [HT0.out] at hL
  try rw [HT0.out] at hr
  have HL := Lib.hid hL
  clear hmid hb5 r1 r2 r3 hL hq5 z0 z1 z2 z3 z4 z5 y0 hst HY N0 BX1  y5 fy5
  go_region_law (first
    | (refine step_run (by rfl) _ _ (by rfl) (by rfl) (by rfl) _ (by rfl) hr ?_)
    | fail)
  all_goals
    generalize W'.setCell ⟨q, 2, none⟩ (.slice A' (t0 + 1) ce) = V at *
    clear hr q1 q2 q1d q2d p0 p1 p2 p3 p4 p5 f5 q5
    go_wp2
    have k1 := HL.out.c1
    obtain ⟨z0, z1, z2, z3, z4, z5⟩ := HL.out.bx.cells
    simp only at z0 z1 z2 z3 z4 z5
    have hlk := HL.out.look HA.out
    go_quiet (fail)
    have hL1 := HL.out.stays (below_dn (Below.refl _ _) nq)
    clear k1 z0 z1 z2 z3 z4 z5 hlk HL
    generalize V.drewN nq = V1 at *
    have HL := Lib.hid hL1
    clear hL1
    go_wp2
    have k1 := HL.out.c1
    obtain ⟨z0, z1, z2, z3, z4, z5⟩ := HL.out.bx.cells
    simp only at z0 z1 z2 z3 z4 z5
    have hlk := HL.out.look HBK.out
    go_quiet (fail)
    have hL2 := HL.out.stays (below_dn (Below.refl _ _) nq)
    clear k1 z0 z1 z2 z3 z4 z5 hlk HL
    generalize V1.drewN nq = V2 at *
    have HL := Lib.hid hL2
    clear hL2
    have k1 := HL.out.c1
    obtain ⟨z0, z1, z2, z3, z4, z5⟩ := HL.out.bx.cells
    simp only at z0 z1 z2 z3 z4 z5
    go_wp2
    have k1d := cell_dr k1
    have z1d := cell_dr z1
    have hl5 := HL.out.stays (Below.refl _ _).drew
    obtain ⟨w9, hu, F9, d9, n9, kp9⟩ := hl5.upd (by rw [HT0.out]; omega) HDK.out (v := worth ⟨10, d, a, b, c', n⟩ f) (worth_u64 ⟨hn1, hn2⟩ H.out.fu)
    have HD9 := Lib.hid d9
    have HN9 := Lib.hid n9
    have HK9 := Lib.hid kp9
    clear hl5 d9 n9 kp9
    have hv : worth ⟨10, d, a, b, c', n⟩ f = n := by simp [worth]
    rw [hv] at hu
    go_region_law (fail)
    all_goals
      go_wp2
      go_ret2
      exact ⟨by simp [told], F9, ⟨_, _, _, by rw [show nextF ⟨10, d, a, b, c', n⟩ f = put f d (worth ⟨10, d, a, b, c', n⟩ f) from by simp [nextF]]; exact HD9.out⟩, HK9.out, HN9.out⟩
end Go.Proofs.Ythhgagghdeocoaa
