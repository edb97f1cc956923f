/-
  Layer 13's statements: the head that both begin with; a deed, of a pace and its model. Contracts for other texts; no statement of its own.
-/
import Derived.Test.YtbadpenfngdodaaPacRef
import Derived.Test.YtbadpenfngdodaaCodeN
import Derived.Test.YtbadpenfngdodaaPick
import Derived.Deep.Cut
import Derived.Deep.RegionHeld3
set_option linter.unusedVariables false
set_option linter.unusedSimpArgs false
namespace Go.Proofs.Ytbadpenfngdodaa
open Go Go.RowKit

theorem codeE (W : World) (c : Int) (h : c = 0 ∨ c = 1 ∨ c = 9 ∨ c = 10) : Calls Try.prog 22 #[errC c] W fun e w' => e = .returned (.int .i64 c) ∧ W = w' := by
  unfold errC
  rcases h with rfl | rfl | rfl | rfl
  · exact code0_p W
  · exact coden_p W 1 (by omega) (by omega)
  · exact coden_p W 9 (by omega) (by omega)
  · exact coden_p W 10 (by omega) (by omega)
set_option maxRecDepth 20000 in
set_option maxHeartbeats 2000000 in
theorem up13_p (w : World) : Calls Try.prog 19 #[] w fun e w' => e = .returned (.bool true) ∧ Below w.heap.size w w' := by
  have o1 : newOk 2 1 1 = true := rfl
  have o2 : newOk 2 2 1 = false := rfl
  have hn1 : ∀ W, Calls Try.prog 20 #[.int .i64 2, .int .i64 1, .int .i64 1] W fun e w' => e = .returned (.tuple #[.agg #[.int .i64 2, .int .i64 1, .int .i64 1, .int .i64 0, .int .i64 0, .bool false], .nilIface]) ∧ Below W.heap.size W w' := fun W => pnew_p W 2 1 1
  have hn2 : ∀ W, Calls Try.prog 20 #[.int .i64 2, .int .i64 2, .int .i64 1] W fun e w' => e = .returned (.tuple #[.agg #[.int .i64 0, .int .i64 0, .int .i64 0, .int .i64 0, .int .i64 0, .bool false], .iface 110 (.int .i64 1)]) ∧ Below W.heap.size W w' := fun W => pnew_p W 2 2 1
  have hwr : ∀ W, Calls Try.prog 27 #[.agg #[.int .i64 2, .int .i64 1, .int .i64 1, .int .i64 0, .int .i64 0, .bool false], .int .i64 5] W fun e w' => e = .returned (.tuple #[.agg #[.int .i64 2, .int .i64 1, .int .i64 1, .int .i64 2, .int .i64 1, .bool false], .int .i64 3, .iface 110 (.int .i64 10)]) ∧ Below W.heap.size W w' := fun W => pwrite_p W ⟨2, 1, 1, 0, 0, false⟩ ((Pc.may_iff _).mp rfl) 5 (by decide) (by decide)
  have hc1 : ∀ W, Calls Try.prog 22 #[.iface 110 (.int .i64 1)] W fun e w' => e = .returned (.int .i64 1) ∧ W = w' := fun W => coden_p W 1 (by omega) (by omega)
  have hc2 : ∀ W, Calls Try.prog 22 #[.iface 110 (.int .i64 10)] W fun e w' => e = .returned (.int .i64 10) ∧ W = w' := fun W => coden_p W 10 (by omega) (by omega)
  have N1 := Lib.hid hn1
  have N2 := Lib.hid hn2
  have WR := Lib.hid hwr
  have C1 := Lib.hid hc1
  have C2 := Lib.hid hc2
  clear hn1 hn2 hwr hc1 hc2 o1 o2
  go_enter Try.func19, Try.ntmps19
  go_wp2_with (first
    | (go_at_call 20; first
      | ((with_reducible refine (N1.out _).mono ?_); rintro e w1 ⟨rfl, b1⟩; have B1 := Lib.hid b1; clear b1)
      | ((with_reducible refine (N2.out _).mono ?_); rintro e w3 ⟨rfl, b3⟩; have q3 := (((PB.new 58 w2 2 1 1 2 1 false)).stays b3).cell; obtain ⟨y0, y1, y2, y3, y4, y5⟩ := q3; have y3' := cell_al y3 (.cells #[.int .i64 0, .int .i64 0, .int .i64 0, .int .i64 0, .int .i64 0, .bool false] 58); have y4' := cell_al y4 (.cells #[.int .i64 0, .int .i64 0, .int .i64 0, .int .i64 0, .int .i64 0, .bool false] 58); clear y0 y1 y2 y3 y4 y5; have B3 := Lib.hid (gro1 B2.out b3); clear b3))
    | (go_at_call 27; (with_reducible refine (WR.out _).mono ?_); rintro e w2 ⟨rfl, b2⟩; have B2 := Lib.hid (gro1 B1.out b2); clear b2)
    | (go_at_call 22; first
      | ((with_reducible refine (C1.out _).mono ?_); rintro e w4 ⟨rfl, rfl⟩)
      | ((with_reducible refine (C2.out _).mono ?_); rintro e w5 ⟨rfl, rfl⟩))
    | fail)
  go_ret
  exact ⟨rfl, B3.out.alloc B3.out.size _⟩
theorem laid3 (w : World) (o1 o2 o3 : Obj) : Below w.heap.size w (((w.alloc o1).alloc o2).alloc o3) ∧ (((w.alloc o1).alloc o2).alloc o3).heap[w.heap.size]? = some o1 ∧ (((w.alloc o1).alloc o2).alloc o3).heap[w.heap.size + 1]? = some o2 ∧ (((w.alloc o1).alloc o2).alloc o3).heap[w.heap.size + 1 + 1]? = some o3 := by
  have h3 := heap_alloc_new ((w.alloc o1).alloc o2) o3
  have h2 := heap_alloc_new (w.alloc o1) o2
  have h1 := heap_alloc_new w o1
  rw [World.size_alloc, World.size_alloc] at h3
  rw [World.size_alloc] at h2
  refine ⟨(two_b w _ _).alloc (two_b w _ _).size _, ?_, ?_, h3⟩
  · rw [Below.heap_alloc _ _ _ (by simp; omega), Below.heap_alloc _ _ _ (by simp)]
    exact h1
  · rw [Below.heap_alloc _ _ _ (by simp)]
    exact h2
theorem kept_row {Q : Nat → Prop} {w w' : World} (h : Kept Q w w') {g : Nat} (hg : Q g ∨ w.heap.size ≤ g) (A : Array Value) : Kept Q w (w'.setRow g A) :=
  ⟨h.os, h.tape, h.output, by rw [setRow_size]; exact h.size, fun k hk hn => (setRow_other w' g k A fun e => by subst e; exact hg.elim hn fun x => by omega).trans (h.block k hk hn)⟩
theorem DP.dr {w : World} {g : Nat} {p : Pc} (h : DP w g p) : DP w.drew g p := h
theorem eq_pc (la k q ring queue : Int) (cl : Bool) (W : World) : (binOp .neq 65 (.agg #[.int .i64 la, .int .i64 k, .int .i64 q, .int .i64 ring, .int .i64 queue, .bool cl]) (.agg #[.int .i64 la, .int .i64 k, .int .i64 q, .int .i64 ring, .int .i64 queue, .bool cl])).run Try.prog W = .ok (.bool false) W := by
  rw [run_neq_struct]
  have := pc_eq 58 la k q ring queue cl W
  unfold pcA at this
  rw [this]
  rfl

set_option maxRecDepth 20000 in
set_option maxHeartbeats 4000000 in
theorem pdo_p {w : World} {g : Nat} {p : Pc} (h : DP w g p) (hp : p.ok) (what n : Int) (hw1 : -9223372036854775808 ≤ what) (hw2 : what ≤ 9223372036854775807) (hn1 : -9223372036854775808 ≤ n) (hn2 : n ≤ 9223372036854775807) :
    Calls Try.prog 24 #[pcV p, .pointer (some ⟨g, 0, none⟩), .agg #[.int .i64 what, .int .i64 n]] w fun e w' => ∃ p', Pc.ok p' ∧ e = .returned (.tuple #[pcV p', .int .i64 1]) ∧ DP w' g p' ∧ Kept (fun b => b = g) w w' := by
  have H := Lib.hid h
  have OK := Lib.hid hp
  have HPI := Lib.hid (fun W => pick_p W what 4 ⟨hw1, hw2⟩ (by decide))
  have hm : Try.prog.eqGuardType Try.prog.depth 65 = false := by kernel_rfl
  have htk := fun W => ptick_p W p hp
  have hcl := fun W => pclose_p W p hp
  have hwr := fun W => pwrite_p W p hp n hn1 hn2
  have hdt := fun (W : World) (h : DP W g p) => dtick_p h hp
  have hdc := fun (W : World) (h : DP W g p) => dclose_p h hp
  have hdw := fun (W : World) (h : DP W g p) => dwrite_p h hp n
  have HCW := Lib.hid (fun W => codeE W (p.wrE n) (Pc.wrE_is n))
  have HCC := Lib.hid (fun W => codeE W p.shE (by unfold Pc.shE; split <;> simp))
  have hlt := fun W => like_p13 W p.tk
  have hlc := fun W => like_p13 W p.sh'
  have hlw := fun W => like_p13 W (p.wr n)
  have ot := Lib.hid (Pc.ok_tk hp)
  have oc := Lib.hid (Pc.ok_sh hp)
  have ow := Lib.hid (Pc.ok_wr hp n)
  generalize p.tk = pt at *
  generalize p.sh' = ps at *
  generalize p.wr n = pw at *
  generalize p.tkN = tn at *
  generalize p.shE = se at *
  generalize p.wrN n = wn at *
  generalize p.wrE n = we at *
  obtain ⟨la, k, q, ring, queue, cl⟩ := p
  obtain ⟨at0, at1, at2, at3, at4, at5⟩ := pt
  obtain ⟨as0, as1, as2, as3, as4, as5⟩ := ps
  obtain ⟨aw0, aw1, aw2, aw3, aw4, aw5⟩ := pw
  have eqt := eq_pc at0 at1 at2 at3 at4 at5
  have eqs := eq_pc as0 as1 as2 as3 as4 as5
  have eqw := eq_pc aw0 aw1 aw2 aw3 aw4 aw5
  unfold pcV at *
  simp only at htk hcl hwr hlt hlc hlw ⊢
  have HTK := Lib.hid htk
  have HCL := Lib.hid hcl
  have HWR := Lib.hid hwr
  have HDT := Lib.hid hdt
  have HDC := Lib.hid hdc
  have HDW := Lib.hid hdw
  have HLT := Lib.hid hlt
  have HLC := Lib.hid hlc
  have HLW := Lib.hid hlw
  clear htk hcl hwr hdt hdc hdw hlt hlc hlw h hp hn1 hn2 hw1 hw2
  go_enter Try.func24, Try.ntmps24
  go_upto_region 2 with (first
    | (go_at_call 25; (with_reducible refine (HPI.out _).mono ?_); rintro e w0 ⟨pk, rfl, hpk, rfl⟩)
    | fail)
  obtain ⟨hb, hp0, hd, hz⟩ := laid3 w (.cells #[.int .i64 la, .int .i64 k, .int .i64 q, .int .i64 ring, .int .i64 queue, .bool cl] 58) (.cells #[.int .i64 what, .int .i64 n] 72) (.cells #[.int .i64 0, .int .i64 0, .int .i64 0, .int .i64 0, .int .i64 0, .bool false] 58)
  obtain ⟨w0, hw0⟩ : ∃ w0, (((w.alloc (.cells #[.int .i64 la, .int .i64 k, .int .i64 q, .int .i64 ring, .int .i64 queue, .bool cl] 58)).alloc (.cells #[.int .i64 what, .int .i64 n] 72)).alloc (.cells #[.int .i64 0, .int .i64 0, .int .i64 0, .int .i64 0, .int .i64 0, .bool false] 58)) = w0 := ⟨_, rfl⟩
  rw [hw0] at hz hd hb hp0 ⊢
  clear hw0
  have hgw : g < w.heap.size := H.out.lt
  have hgs := hb.size
  have zl := lt_of_some hz
  have dl := lt_of_some hd
  have n0 : ¬ w.heap.size = g := by omega
  have n1 : ¬ w.heap.size + 1 = g := by omega
  have n2 : ¬ w.heap.size + 1 + 1 = g := by omega
  obtain ⟨c0, c1, c2, c3, c4, c5⟩ := PB.cell (t := 58) hp0
  have d0 : w0.cell? ⟨w.heap.size + 1, 0, none⟩ = some (.int .i64 what) := cell_of_row w0 _ 0 _ _ (0, 0) hd
  have d1 : w0.cell? ⟨w.heap.size + 1, 1, none⟩ = some (.int .i64 n) := cell_of_row w0 _ 1 _ _ (0, 0) hd
  have HZ := Lib.hid (show PB 58 w0 (w.heap.size + 1 + 1) 0 0 0 0 0 false from hz)
  have HD := Lib.hid hd
  have HB0 := Lib.hid hb
  have HM0 := Lib.hid (show DP w0 g ⟨la, k, q, ring, queue, cl⟩ from H.out.stays hb)
  have NN := Lib.hid (And.intro n0 (And.intro n1 n2))
  have GS := Lib.hid (And.intro hgw hgs)
  clear hz hb hp0 hgw hgs zl dl n0 n1 n2 hd
  rcases (show pk = 2 ∨ pk = 3 ∨ pk = 0 ∨ pk = 1 by omega) with rfl | rfl | hpk2
  · go_upto_region 4 with (first
      | (go_at_call 26; (with_reducible refine (HTK.out _).mono ?_); rintro e w1 ⟨rfl, b1⟩; have B1 := Lib.hid b1; clear b1)
      | fail)
    clear c0 c1 c2 c3 c4 c5 d0 d1
    have hk1 : Kept (fun b => b = g) w0 (w1.alloc (.cells #[.int .i64 at0, .int .i64 at1, .int .i64 at2, .int .i64 at3, .int .i64 at4, .bool at5] 58)) := (Kept.of_below _ B1.out).alloc _
    have hp1 := PB.new 58 w1 at0 at1 at2 at3 at4 at5
    have hm1 : DP (w1.alloc (.cells #[.int .i64 at0, .int .i64 at1, .int .i64 at2, .int .i64 at3, .int .i64 at4, .bool at5] 58)) g ⟨la, k, q, ring, queue, cl⟩ := HM0.out.stays (B1.out.alloc B1.out.size _)
    have hng : ¬ w1.heap.size = g := by have := GS.out; have := B1.out.size; omega
    obtain ⟨b1, hb1⟩ : ∃ b1, w1.heap.size = b1 := ⟨_, rfl⟩
    rw [hb1] at hp1 hng ⊢
    obtain ⟨W1, hW1⟩ : ∃ W1, w1.alloc (.cells #[.int .i64 at0, .int .i64 at1, .int .i64 at2, .int .i64 at3, .int .i64 at4, .bool at5] 58) = W1 := ⟨_, rfl⟩
    unfold pcA at hp1
    rw [hW1] at hk1 hm1 ⊢
    have hp1' : PB 58 W1 b1 at0 at1 at2 at3 at4 at5 := by rw [← hW1]; exact hp1
    have HK1 := Lib.hid hk1
    have HP1 := Lib.hid hp1'
    have HM1 := Lib.hid hm1
    have NG := Lib.hid hng
    clear hk1 hp1 hp1' hm1 hng hW1 hb1
    go_region_law (first
      | (go_simp; go_at_call 39; (with_reducible refine (HDT.out W1.drew HM1.out.dr).mono ?_); rintro e w2 ⟨rfl, d2, k2⟩; have k2' : Kept (fun b => b = g) W1 w2 := ⟨k2.os, k2.tape, k2.output, k2.size, k2.block⟩; obtain ⟨x0, x1, x2, x3, x4, x5⟩ := (HP1.out.kept k2' NG.out).cell; obtain ⟨y0, y1, y2, y3, y4, y5⟩ := d2.cell; simp only at y0 y1 y2 y3 y4 y5; have P2 := Lib.hid (HP1.out.kept k2' NG.out); have D2 := Lib.hid d2; have K2 := Lib.hid k2'; clear d2 k2 k2')
      | (go_simp; go_at_call 23; (with_reducible refine (HLT.out _).mono ?_); rintro e w3 ⟨rfl, b3⟩; have b3' : Below w2.heap.size w2 w3 := ⟨b3.os, b3.tape, b3.output, b3.size, b3.block⟩; obtain ⟨s0, s1, s2, s3, s4, s5⟩ := (P2.out.stays b3').cell; obtain ⟨t0, t1, t2, t3, t4, t5⟩ := (D2.out.stays b3').cell; simp only at t0 t1 t2 t3 t4 t5; have B3 := Lib.hid b3'; clear b3 b3')
      | fail)
    all_goals
      have hz3 := ((HZ.out.kept HK1.out NN.out.2.2).kept K2.out NN.out.2.2).stays B3.out
      have HZ3 := Lib.hid hz3
      clear hz3
      go_wp2_with (first
        | (refine wpList_storeP (by rfl) _ _ (by rfl) (by rfl) (by rfl) Try.pcP HZ3.out ?_; intro hbx; have HX := Lib.hid hbx; clear hbx; go_simp)
        | fail)
      exact bodyPost_ret (results_pc Try.results24 rfl rfl Try.pcP HX.out) rfl ⟨⟨at0, at1, at2, at3, at4, at5⟩, ot.out, rfl, (D2.out.stays B3.out).row (fun e => NN.out.2.2 e.symm) _, kept_row ((((Kept.of_below (fun b => b = g) HB0.out).trans HK1.out fun b e => .inl e).trans K2.out fun b e => .inl e).trans (Kept.of_below (fun _ => False) B3.out) fun b e => e.elim) (.inr (by omega)) _⟩
  · go_upto_region 9 with (first
      | (go_at_call 28; (with_reducible refine (HCL.out _).mono ?_); rintro e w1 ⟨rfl, b1⟩; have B1 := Lib.hid b1; clear b1)
      | fail)
    clear c0 c1 c2 c3 c4 c5 d0 d1
    have hk1 : Kept (fun b => b = g) w0 (w1.alloc (.cells #[.int .i64 as0, .int .i64 as1, .int .i64 as2, .int .i64 as3, .int .i64 as4, .bool as5] 58)) := (Kept.of_below _ B1.out).alloc _
    have hp1 := PB.new 58 w1 as0 as1 as2 as3 as4 as5
    have hm1 : DP (w1.alloc (.cells #[.int .i64 as0, .int .i64 as1, .int .i64 as2, .int .i64 as3, .int .i64 as4, .bool as5] 58)) g ⟨la, k, q, ring, queue, cl⟩ := HM0.out.stays (B1.out.alloc B1.out.size _)
    have hng : ¬ w1.heap.size = g := by have := GS.out; have := B1.out.size; omega
    obtain ⟨b1, hb1⟩ : ∃ b1, w1.heap.size = b1 := ⟨_, rfl⟩
    rw [hb1] at hp1 hng ⊢
    obtain ⟨W1, hW1⟩ : ∃ W1, w1.alloc (.cells #[.int .i64 as0, .int .i64 as1, .int .i64 as2, .int .i64 as3, .int .i64 as4, .bool as5] 58) = W1 := ⟨_, rfl⟩
    unfold pcA at hp1
    rw [hW1] at hk1 hm1 ⊢
    have hp1' : PB 58 W1 b1 as0 as1 as2 as3 as4 as5 := by rw [← hW1]; exact hp1
    have HK1 := Lib.hid hk1
    have HP1 := Lib.hid hp1'
    have HM1 := Lib.hid hm1
    have NG := Lib.hid hng
    clear hk1 hp1 hp1' hm1 hng hW1 hb1
    go_region_law (first
      | (go_simp; go_at_call 40; (with_reducible refine (HDC.out W1.drew HM1.out.dr).mono ?_); rintro e w2 ⟨rfl, d2, k2⟩; have k2' : Kept (fun b => b = g) W1 w2 := ⟨k2.os, k2.tape, k2.output, k2.size, k2.block⟩; obtain ⟨x0, x1, x2, x3, x4, x5⟩ := (HP1.out.kept k2' NG.out).cell; obtain ⟨y0, y1, y2, y3, y4, y5⟩ := d2.cell; simp only at y0 y1 y2 y3 y4 y5; have P2 := Lib.hid (HP1.out.kept k2' NG.out); have D2 := Lib.hid d2; have K2 := Lib.hid k2'; clear d2 k2 k2')
      | (go_simp; go_at_call 23; (with_reducible refine (HLC.out _).mono ?_); rintro e w3 ⟨rfl, b3⟩; have b3' : Below w2.heap.size w2 w3 := ⟨b3.os, b3.tape, b3.output, b3.size, b3.block⟩; obtain ⟨s0, s1, s2, s3, s4, s5⟩ := (P2.out.stays b3').cell; obtain ⟨t0, t1, t2, t3, t4, t5⟩ := (D2.out.stays b3').cell; simp only at t0 t1 t2 t3 t4 t5; have B3 := Lib.hid b3'; clear b3 b3')
      | (go_simp; go_at_call 22; (with_reducible refine (HCC.out _).mono ?_); rintro e w5 ⟨rfl, rfl⟩)
      | fail)
    all_goals
      have hz3 := ((HZ.out.kept HK1.out NN.out.2.2).kept K2.out NN.out.2.2).stays B3.out
      have HZ3 := Lib.hid hz3
      clear hz3
      go_wp2_with (first
        | (refine wpList_storeP (by rfl) _ _ (by rfl) (by rfl) (by rfl) Try.pcP HZ3.out ?_; intro hbx; have HX := Lib.hid hbx; clear hbx; go_simp)
        | fail)
      exact bodyPost_ret (results_pc Try.results24 rfl rfl Try.pcP HX.out) rfl ⟨⟨as0, as1, as2, as3, as4, as5⟩, oc.out, rfl, (D2.out.stays B3.out).row (fun e => NN.out.2.2 e.symm) _, kept_row ((((Kept.of_below (fun b => b = g) HB0.out).trans HK1.out fun b e => .inl e).trans K2.out fun b e => .inl e).trans (Kept.of_below (fun _ => False) B3.out) fun b e => e.elim) (.inr (by omega)) _⟩
  · have hpa : ((pk : Int) == 2) = false := by simp; omega
    have hpb : ((pk : Int) == 3) = false := by simp; omega
    clear hpk2 hpk
    go_upto_region 13 with (first
      | (go_at_call 27; (with_reducible refine (HWR.out _).mono ?_); rintro e w1 ⟨rfl, b1⟩; have B1 := Lib.hid b1; have d1 : w1.cell? ⟨w.heap.size + 1, 1, none⟩ = some (.int .i64 n) := cell_stays d1 b1; have d1a := cell_al d1 (.cells #[.int .i64 aw0, .int .i64 aw1, .int .i64 aw2, .int .i64 aw3, .int .i64 aw4, .bool aw5] 58); clear b1)
      | fail)
    clear c0 c1 c2 c3 c4 c5 d0 d1
    have hk1 : Kept (fun b => b = g) w0 (w1.alloc (.cells #[.int .i64 aw0, .int .i64 aw1, .int .i64 aw2, .int .i64 aw3, .int .i64 aw4, .bool aw5] 58)) := (Kept.of_below _ B1.out).alloc _
    have hp1 := PB.new 58 w1 aw0 aw1 aw2 aw3 aw4 aw5
    have hm1 : DP (w1.alloc (.cells #[.int .i64 aw0, .int .i64 aw1, .int .i64 aw2, .int .i64 aw3, .int .i64 aw4, .bool aw5] 58)) g ⟨la, k, q, ring, queue, cl⟩ := HM0.out.stays (B1.out.alloc B1.out.size _)
    have hng : ¬ w1.heap.size = g := by have := GS.out; have := B1.out.size; omega
    obtain ⟨b1, hb1⟩ : ∃ b1, w1.heap.size = b1 := ⟨_, rfl⟩
    rw [hb1] at hp1 hng ⊢
    obtain ⟨W1, hW1⟩ : ∃ W1, w1.alloc (.cells #[.int .i64 aw0, .int .i64 aw1, .int .i64 aw2, .int .i64 aw3, .int .i64 aw4, .bool aw5] 58) = W1 := ⟨_, rfl⟩
    unfold pcA at hp1
    rw [hW1] at hk1 hm1 ⊢
    have hp1' : PB 58 W1 b1 aw0 aw1 aw2 aw3 aw4 aw5 := by rw [← hW1]; exact hp1
    have HK1 := Lib.hid hk1
    have HP1 := Lib.hid hp1'
    have HM1 := Lib.hid hm1
    have NG := Lib.hid hng
    rw [hW1] at d1a
    clear hk1 hp1 hp1' hm1 hng hW1 hb1
    go_upto_region 14 with (first
      | (go_at_call 41; (with_reducible refine (HDW.out W1 HM1.out).mono ?_); rintro e w2 ⟨rfl, d2, k2⟩; obtain ⟨x0, x1, x2, x3, x4, x5⟩ := (HP1.out.kept k2 NG.out).cell; obtain ⟨y0, y1, y2, y3, y4, y5⟩ := d2.cell; simp only at y0 y1 y2 y3 y4 y5; have P2 := Lib.hid (HP1.out.kept k2 NG.out); have D2 := Lib.hid d2; have K2 := Lib.hid k2; clear d2 k2)
      | fail)
    clear d1a
    go_region_law (first
      | (go_simp; go_at_call 22; (with_reducible refine (HCW.out _).mono ?_); rintro e w5 ⟨rfl, rfl⟩)
      | (go_simp; go_at_call 23; (with_reducible refine (HLW.out _).mono ?_); rintro e w3 ⟨rfl, b3⟩; have b3' : Below w2.heap.size w2 w3 := ⟨b3.os, b3.tape, b3.output, b3.size, b3.block⟩; obtain ⟨s0, s1, s2, s3, s4, s5⟩ := (P2.out.stays b3').cell; obtain ⟨t0, t1, t2, t3, t4, t5⟩ := (D2.out.stays b3').cell; simp only at t0 t1 t2 t3 t4 t5; have B3 := Lib.hid b3'; clear b3 b3')
      | fail)
    all_goals
      have hz3 := ((HZ.out.kept HK1.out NN.out.2.2).kept K2.out NN.out.2.2).stays B3.out
      have HZ3 := Lib.hid hz3
      clear hz3
      go_wp2_with (first
        | (refine wpList_storeP (by rfl) _ _ (by rfl) (by rfl) (by rfl) Try.pcP HZ3.out ?_; intro hbx; have HX := Lib.hid hbx; clear hbx; go_simp)
        | fail)
      exact bodyPost_ret (results_pc Try.results24 rfl rfl Try.pcP HX.out) rfl ⟨⟨aw0, aw1, aw2, aw3, aw4, aw5⟩, ow.out, rfl, (D2.out.stays B3.out).row (fun e => NN.out.2.2 e.symm) _, kept_row ((((Kept.of_below (fun b => b = g) HB0.out).trans HK1.out fun b e => .inl e).trans K2.out fun b e => .inl e).trans (Kept.of_below (fun _ => False) B3.out) fun b e => e.elim) (.inr (by omega)) _⟩
end Go.Proofs.Ytbadpenfngdodaa
