/-
  The statement PacePlays of layer 13: the walk. Contracts for other texts; no statement of its own.
-/
import Derived.Test.YtbadpenfngdodaaPacLaw
import Derived.Test.YtbadpenfngdodaaPacDeeds
import Derived.StillTailTactics
set_option linter.unusedVariables false
set_option linter.unusedSimpArgs false
namespace Go.Proofs.Ytbadpenfngdodaa
open Go Go.RowKit

theorem eql_pc (la k q ring queue : Int) (cl : Bool) (W : World) : (binOp .eql 65 (.agg #[.int .i64 la, .int .i64 k, .int .i64 q, .int .i64 ring, .int .i64 queue, .bool cl]) (.agg #[.int .i64 la, .int .i64 k, .int .i64 q, .int .i64 ring, .int .i64 queue, .bool cl])).run Try.prog W = .ok (.bool true) W := by
  rw [run_eql_struct]
  have := pc_eq 58 la k q ring queue cl W
  unfold pcA at this
  rw [this]
  rfl
/-- The loop: both stand alike. -/
structure Run2 (w wr : World) (bq bm : Nat) (p : Pc) : Prop where
  ok : p.ok
  pb : PB 58 wr bq p.la p.k p.q p.ring p.queue p.cl
  dp : DP wr bm p
  bel : Below w.heap.size w wr
theorem Run2.go {w wr w4 : World} {bq bm : Nat} {p p2 : Pc} (h : Run2 w wr bq bm p) (hne : bq ≠ bm) (hq : w.heap.size ≤ bq) (hm : w.heap.size ≤ bm) (h2 : p2.ok) (hd : DP w4 bm p2) (hk : Kept (fun b => b = bm) wr w4) : Run2 w (w4.setRow bq (pcA p2.la p2.k p2.q p2.ring p2.queue p2.cl)) bq bm p2 :=
  ⟨h2, (h.pb.kept hk hne).put .., PB.row hd (fun e => hne e.symm) _, (h.bel.trans (hk.below h.bel.size (fun b e => by subst e; exact hm))).trans (below_setRow (Below.refl _ _) hq _)⟩
theorem Run2.stays {w wr w4 : World} {bq bm : Nat} {p : Pc} (h : Run2 w wr bq bm p) (hb : Below wr.heap.size wr w4) : Run2 w w4 bq bm p := ⟨h.ok, h.pb.stays hb, PB.stays h.dp hb, gro h.bel hb⟩

attribute [local go_sem ↓] run_stoE
set_option maxRecDepth 20000 in
set_option maxHeartbeats 4000000 in
theorem paceplays_p {w : World} {A : Option Addr} {ca : Nat} {l : List Dd} (p : Pc) (hl : RdD w A l) (hfit : ∀ (i : Nat) (x : Dd), l[i]? = some x → x.fits) (hlc : l.length ≤ 9223372036854775807) :
    Calls Try.prog 5 #[pcV p, .slice A l.length ca] w fun e w' => e = .returned (.bool true) ∧ Below w.heap.size w w' := by
  obtain ⟨N, hN⟩ : ∃ N, l.length = N := ⟨_, rfl⟩
  rw [hN] at hlc ⊢
  have HN := Lib.hid hN
  have HL := Lib.hid hl
  have HF := Lib.hid hfit
  have HU := Lib.hid up13_p
  clear hN hl hfit
  by_cases hbig : (100 : Int) < (N : Int)
  · unfold pcV
    go_enter Try.func5, Try.ntmps5
    go_wp2_with (first
      | (go_at_call 19; (with_reducible refine (HU.out _).mono ?_); rintro e w1 ⟨rfl, b1⟩; have B1 := Lib.hid (gro (below_one w _) b1); clear b1)
      | fail)
    go_ret
    exact ⟨rfl, B1.out⟩
  have hm : Try.prog.eqGuardType Try.prog.depth 65 = false := by kernel_rfl
  have hnw := fun W => pnew_p W p.la p.k p.q
  have hmy := fun W => dmay_p13 W ⟨p.la, p.k, p.q, 0, 0, false⟩
  change ∀ W, Calls Try.prog 21 #[pcV ⟨p.la, p.k, p.q, 0, 0, false⟩] W fun e w' => e = .returned (.bool (newOk p.la p.k p.q)) ∧ Below W.heap.size W w' at hmy
  have hlk := fun W => like_p13 W (newP p.la p.k p.q)
  unfold newP at hnw hlk
  unfold pcV at hmy
  simp only at hmy
  by_cases hok : newOk p.la p.k p.q = true
  · simp only [hok, if_true] at hnw hmy hlk
    have hpok : Pc.ok ⟨p.la, p.k, p.q, 0, 0, false⟩ := (Pc.may_iff _).mp hok
    have hlp := fun W => like_p13 W p
    have hmp := fun W => dmay_p13 W p
    have hmi := (Pc.may_iff p)
    unfold errC at hnw
    unfold pcV at hnw hlk hlp hmp
    simp only [if_true] at hnw hlk
    obtain ⟨la, k, q, ring, queue, cl⟩ := p
    simp only at hnw hmy hlk hlp hmp hpok hok
    have heq := eq_pc la k q 0 0 false
    generalize Pc.may ⟨la, k, q, ring, queue, cl⟩ = may at hmp hmi
    have HNW := Lib.hid hnw
    have HMY := Lib.hid hmy
    have HLK := Lib.hid hlk
    have HLP := Lib.hid hlp
    have HMP := Lib.hid hmp
    have HMI := Lib.hid hmi
    have HPO := Lib.hid hpok
    clear hnw hmy hlk hlp hmp hmi hpok hok
    unfold pcV
    simp only
    go_enter Try.func5, Try.ntmps5
    go_upto_region 8 with (first
      | (go_at_call 19; (with_reducible refine (HU.out _).mono ?_); rintro e w1 ⟨rfl, b1⟩; have X1 := Lib.hid ((PB.new 58 w la k q ring queue cl).stays b1); obtain ⟨x0, x1, x2, x3, x4, x5⟩ := X1.out.cell; have B1 := Lib.hid (gro (below_one w _) b1); clear b1)
      | (go_at_call 20; (with_reducible refine (HNW.out _).mono ?_); rintro e w2 ⟨rfl, b2⟩; have X2 := Lib.hid ((X1.out.stays b2).stays (below_one w2 (.cells #[.int .i64 la, .int .i64 k, .int .i64 q, .int .i64 0, .int .i64 0, .bool false] 58))); obtain ⟨y0, y1, y2, y3, y4, y5⟩ := X2.out.cell; clear x0 x1 x2 x3 x4 x5; have S2 := Lib.hid b2.size; have B2 := Lib.hid (gro B1.out b2); clear b2)
      | (go_at_call 21; (with_reducible refine (HMY.out _).mono ?_); rintro e w3 ⟨rfl, b3⟩; have X3 := Lib.hid (X2.out.stays b3); have Q3 := Lib.hid ((PB.new 58 w2 la k q 0 0 false).stays b3); have B3 := Lib.hid (gro1 B2.out b3); clear b3 y0 y1 y2 y3 y4 y5)
      | fail)
    have hlo : w.heap.size < w2.heap.size := by have := S2.out; have := X1.out.lt; omega
    obtain ⟨bq, hbq⟩ : ∃ bq, w2.heap.size = bq := ⟨_, rfl⟩
    rw [hbq] at Q3 hlo ⊢
    have hbqw : w.heap.size < bq := hlo
    obtain ⟨x0, x1, x2, x3, x4, x5⟩ := X3.out.cell
    obtain ⟨z0, z1, z2, z3, z4, z5⟩ := Q3.out.cell
    have HBQ := Lib.hid hbqw
    clear hbq hlo hbqw
    go_region_held3 (fun W => W.cell? ⟨w.heap.size, 0, none⟩ = some (.int .i64 la) ∧ W.cell? ⟨w.heap.size, 1, none⟩ = some (.int .i64 k) ∧ W.cell? ⟨w.heap.size, 2, none⟩ = some (.int .i64 q) ∧ W.cell? ⟨bq, 0, none⟩ = some (.int .i64 la) ∧ W.cell? ⟨bq, 1, none⟩ = some (.int .i64 k) ∧ W.cell? ⟨bq, 2, none⟩ = some (.int .i64 q) ∧ W.cell? ⟨bq, 3, none⟩ = some (.int .i64 0) ∧ W.cell? ⟨bq, 4, none⟩ = some (.int .i64 0) ∧ W.cell? ⟨bq, 5, none⟩ = some (.bool false))
      ((refine ⟨?_, ?_, ?_, ?_, ?_, ?_, ?_, ?_, ?_⟩ <;> (repeat (first | with_reducible assumption | with_reducible refine cell_dr ?_ | with_reducible refine cell_al ?_ _ | with_reducible refine cell_stays ?_ B4.out)))) (first
      | (go_at_call 23; (with_reducible refine (HLK.out _).mono ?_); rintro e w4 ⟨rfl, b4⟩; have B4 := Lib.hid b4; clear b4)
      | fail)
    clear x0 x1 x2 x3 x4 x5 z0 z1 z2 z3 z4 z5
    have b4 := undrew B4.out
    have X4 := Lib.hid (X3.out.stays b4)
    have Q4 := Lib.hid (Q3.out.stays b4)
    have HB4 := Lib.hid (gro B3.out b4)
    obtain ⟨x0, x1, x2, x3, x4, x5⟩ := X4.out.cell
    clear b4
    rename_i hheld
    clear hheld
    go_upto_region 11 with (first
      | (go_at_call 23; (with_reducible refine (HLP.out _).mono ?_); rintro e w5 ⟨rfl, b5⟩; have X5 := Lib.hid (X4.out.stays b5); have Q5 := Lib.hid (Q4.out.stays b5); have B5 := Lib.hid (gro HB4.out b5); clear b5)
      | (go_at_call 21; (with_reducible refine (HMP.out _).mono ?_); rintro e w6 ⟨rfl, b6⟩; have X6 := Lib.hid (X5.out.stays b6); have Q6 := Lib.hid (Q5.out.stays b6); have B6 := Lib.hid (gro B5.out b6); clear b6)
      | fail)
    clear x0 x1 x2 x3 x4 x5
    cases may
    case' false =>
      go_upto_region 13 with fail
      have hq := Q6.out
      have hB := B6.out
      have hpo := HPO.out
      obtain ⟨W, hW⟩ : ∃ W, w6 = W := ⟨_, rfl⟩
      obtain ⟨r0, hr0⟩ : ∃ r : Int, 0 = r := ⟨_, rfl⟩
      obtain ⟨u0, hu0⟩ : ∃ r : Int, 0 = r := ⟨_, rfl⟩
      obtain ⟨t0, ht0⟩ : ∃ r : Bool, false = r := ⟨_, rfl⟩
      have hq' : PB 58 w6 bq la k q r0 u0 t0 := by subst hr0 hu0 ht0; exact hq
      have hpo' : Pc.ok ⟨la, k, q, r0, u0, t0⟩ := by subst hr0 hu0 ht0; exact hpo
      rw [hW] at hq' hB ⊢
      clear hr0 hu0 ht0 hW hq hpo
    case' true =>
      obtain ⟨x0, x1, x2, x3, x4, x5⟩ := X6.out.cell
      go_upto_region 13 with (first
        | (refine wpList_storeP (by rfl) _ _ (by rfl) (by rfl) (by rfl) Try.pcP Q6.out ?_; intro hbx; have HX := Lib.hid hbx; clear hbx; go_simp)
        | fail)
      have hq' := HX.out
      have hpo' := HMI.out.mp rfl
      have hB := B6.out.trans (below_setRow (Below.refl w.heap.size w6) (Nat.le_of_lt HBQ.out) (pcA la k q ring queue cl))
      obtain ⟨W, hW⟩ : ∃ W, w6.setRow bq (pcA la k q ring queue cl) = W := ⟨_, rfl⟩
      obtain ⟨r0, hr0⟩ : ∃ r : Int, ring = r := ⟨_, rfl⟩
      obtain ⟨u0, hu0⟩ : ∃ r : Int, queue = r := ⟨_, rfl⟩
      obtain ⟨t0, ht0⟩ : ∃ r : Bool, cl = r := ⟨_, rfl⟩
      rw [hW] at hq' hB ⊢
      rw [hr0, hu0, ht0] at hq' hpo'
      clear hr0 hu0 ht0 hW HX x0 x1 x2 x3 x4 x5
    all_goals
      have hlw := fun W => like_p13 W ⟨la, k, q, r0, u0, t0⟩
      unfold pcV at hlw
      simp only at hlw
      have HLW := Lib.hid hlw
      have HQ := Lib.hid hq'
      have HPK := Lib.hid hpo'
      have HB := Lib.hid hB
      obtain ⟨x0, x1, x2, x3, x4, x5⟩ := hq'.cell
      clear hlw hq' hpo' hB
      go_upto_region 16 with (first
        | (go_at_call 23; (with_reducible refine (HLW.out _).mono ?_); rintro e w7 ⟨rfl, b7⟩; have B7 := Lib.hid b7; clear b7)
        | fail)
      clear x0 x1 x2 x3 x4 x5
      have hrun : Run2 w (w7.alloc (.cells #[.int .i64 la, .int .i64 k, .int .i64 q, .int .i64 r0, .int .i64 u0, .bool t0] 65)) bq w7.heap.size ⟨la, k, q, r0, u0, t0⟩ := ⟨HPK.out, (HQ.out.stays B7.out).stays (below_one w7 _), PB.new 65 w7 la k q r0 u0 t0, (gro HB.out B7.out).alloc (gro HB.out B7.out).size _⟩
      have hbm : bq < w7.heap.size := Nat.lt_of_lt_of_le HQ.out.lt B7.out.size
      obtain ⟨bm, hbm2⟩ : ∃ bm, w7.heap.size = bm := ⟨_, rfl⟩
      rw [hbm2] at hrun hbm ⊢
      have HRUN := Lib.hid hrun
      have HBM := Lib.hid hbm
      clear hrun hbm hbm2
      go_loopg [9, 11, 12] N (fun mm fr okk i wr => ∃ (j : Nat) (p' : Pc), i = .int .i64 (j : Int) ∧ j ≤ N ∧ mm = N - j ∧ Run2 w wr bq bm p')
      case atStart => exact ⟨0, _, by first | rfl | trivial, Nat.zero_le _, by first | rfl | trivial, HRUN.out⟩
      case round =>
        obtain ⟨j, p', rfl, hj, hmj, hrn⟩ := hrel
        have HMJ := Lib.hid hmj
        have HRN := Lib.hid hrn
        clear hmj
        by_cases hjN : j < N
        · obtain ⟨x, hx⟩ : ∃ x, l[j]? = some x := ⟨_, List.getElem?_eq_getElem (by rw [HN.out]; omega)⟩
          have hfx := HF.out j x hx
          obtain ⟨g, off, rfl, hg, z0, z1⟩ := (HL.out.stays hrn.bel) j x hx
          have hdo := fun (W : World) (h : DP W bm p') => pdo_p h hrn.ok x.what x.n hfx.w1 hfx.w2 hfx.n1 hfx.n2
          obtain ⟨y0, y1, y2, y3, y4, y5⟩ := hrn.pb.cell
          obtain ⟨xw, xn⟩ := x
          have HDP := Lib.hid hrn.dp
          unfold pcV at hdo
          obtain ⟨e0, e1, e2, e3, e4, e5⟩ := p'
          simp only at hdo z0 z1 y0 y1 y2 y3 y4 y5
          have HDO := Lib.hid hdo
          have i0 : (0 : Int) ≤ (j : Int) := by omega
          have i1 : (j : Int) < (N : Int) := by omega
          clear hx hfx hg hdo hrn
          go_upto_region 18 with fail
          have hi6 : (Try.prog.info? 58).map (·.size) = some 6 := Try.pcP.size
          have HI6 := Lib.hid hi6
          clear hi6
          go_region_law (first
            | (go_simp; go_at_call 24; (with_reducible refine (HDO.out wr.drew HDP.out.dr).mono ?_); rintro e w4 ⟨p2, o2, rfl, d2, k2⟩; have r2 := HRN.out.go (Nat.ne_of_lt HBM.out) (Nat.le_of_lt HBQ.out) (Nat.le_of_lt (Nat.lt_trans HBQ.out HBM.out)) o2 d2 ⟨k2.os, k2.tape, k2.output, k2.size, k2.block⟩; have q2 := HRN.out.pb.kept (w' := w4) ⟨k2.os, k2.tape, k2.output, k2.size, k2.block⟩ (Nat.ne_of_lt HBM.out); obtain ⟨f0, f1, f2, f3, f4, f5⟩ := p2; have sto := sto_of (ty := 58) (cs := #[.int .i64 f0, .int .i64 f1, .int .i64 f2, .int .i64 f3, .int .i64 f4, .bool f5]) q2 HI6.out rfl (by simp [Value.oneCell']); have R2 := Lib.hid r2; clear r2 q2 d2 k2)
            | fail)
          all_goals
            have r2 := R2.out
            change Run2 w (stoW w4 (.pointer (some ⟨bq, 0, none⟩)) (.agg #[.int .i64 f0, .int .i64 f1, .int .i64 f2, .int .i64 f3, .int .i64 f4, .bool f5])) bq bm ⟨f0, f1, f2, f3, f4, f5⟩ at r2
            obtain ⟨w5, hw5⟩ : ∃ w5, stoW w4 (.pointer (some ⟨bq, 0, none⟩)) (.agg #[.int .i64 f0, .int .i64 f1, .int .i64 f2, .int .i64 f3, .int .i64 f4, .bool f5]) = w5 := ⟨_, rfl⟩
            rw [hw5] at r2 ⊢
            obtain ⟨s0, s1, s2, s3, s4, s5⟩ := PB.cell r2.dp
            have hmp := fun W => dmay_p13 W ⟨f0, f1, f2, f3, f4, f5⟩
            rw [(Pc.may_iff _).mpr o2] at hmp
            unfold pcV at hmp
            simp only at hmp s0 s1 s2 s3 s4 s5
            have R5 := Lib.hid r2
            have HMP2 := Lib.hid hmp
            clear R2 r2 hw5 hmp sto o2 y0 y1 y2 y3 y4 y5 z0 z1 HDO HRN HDP
            go_wp2_with (first
              | (go_at_call 21; (with_reducible refine (HMP2.out _).mono ?_); rintro e w6 ⟨rfl, b6⟩; have R6 := Lib.hid (R5.out.stays b6); clear b6)
              | fail)
            go_roundg (N - (j + 1))
            case measure => have := HMJ.out; omega
            case rel => exact ⟨j + 1, _, by go_num, by omega, rfl, R6.out⟩
        · have hkL : j = N := by omega
          subst hkL
          go_wp2
          go_ret
          exact ⟨rfl, hrn.bel⟩
  · have hok' : newOk p.la p.k p.q = false := by simpa using hok
    simp only [hok', Bool.false_eq_true, if_false] at hnw hmy hlk
    have hco := fun W => codeE W 1 (by decide)
    unfold errC at hnw hco
    unfold pcV at hnw hlk
    simp only [show ¬ ((1 : Int) = 0) by decide, if_false] at hnw hlk hco
    have heq := eql_pc 0 0 0 0 0 false
    have HNW := Lib.hid hnw
    have HMY := Lib.hid hmy
    have HLK := Lib.hid hlk
    have HCO := Lib.hid hco
    clear hnw hmy hlk hco hok hok'
    unfold pcV
    obtain ⟨la, k, q, ring, queue, cl⟩ := p
    simp only at HNW HMY ⊢
    go_enter Try.func5, Try.ntmps5
    go_wp2_with (first
      | (go_at_call 19; (with_reducible refine (HU.out _).mono ?_); rintro e w1 ⟨rfl, b1⟩; obtain ⟨x0, x1, x2, x3, x4, x5⟩ := ((PB.new 58 w la k q ring queue cl).stays b1).cell; have B1 := Lib.hid (gro (below_one w _) b1); clear b1)
      | (go_at_call 20; (with_reducible refine (HNW.out _).mono ?_); rintro e w2 ⟨rfl, b2⟩; have y0 := cell_al (cell_stays x0 b2) (.cells #[.int .i64 0, .int .i64 0, .int .i64 0, .int .i64 0, .int .i64 0, .bool false] 58); have y1 := cell_al (cell_stays x1 b2) (.cells #[.int .i64 0, .int .i64 0, .int .i64 0, .int .i64 0, .int .i64 0, .bool false] 58); have y2 := cell_al (cell_stays x2 b2) (.cells #[.int .i64 0, .int .i64 0, .int .i64 0, .int .i64 0, .int .i64 0, .bool false] 58); clear x0 x1 x2 x3 x4 x5; have B2 := Lib.hid (gro B1.out b2); clear b2)
      | (go_at_call 21; (with_reducible refine (HMY.out _).mono ?_); rintro e w3 ⟨rfl, b3⟩; obtain ⟨z0, z1, z2, z3, z4, z5⟩ := ((PB.new 58 w2 0 0 0 0 0 false).stays b3).cell; have B3 := Lib.hid (gro1 B2.out b3); clear b3)
      | (go_at_call 22; (with_reducible refine (HCO.out _).mono ?_); rintro e w4 ⟨rfl, rfl⟩)
      | (go_at_call 23; (with_reducible refine (HLK.out _).mono ?_); rintro e w5 ⟨rfl, b5⟩; have B5 := Lib.hid (gro B3.out b5); clear b5)
      | fail)
    go_ret
    exact ⟨rfl, B5.out⟩
end Go.Proofs.Ytbadpenfngdodaa
