/-
  The statement PaceLeft of layer 13: the walk. Contracts for other texts; no statement of its own.
-/
import Derived.Test.YtbadpenfngdodaaPacLaw
import Derived.Test.YtbadpenfngdodaaPacDeeds
import Derived.Deep.CutRange
import Derived.Deep.DeepCutAuto
set_option linter.unusedVariables false
set_option linter.unusedSimpArgs false
namespace Go.Proofs.Ytbadpenfngdodaa
open Go Go.RowKit

/-- What is held back, and waits, and went, is all that was taken. -/
structure Lft (la k q : Int) (j : Nat) (p : Pc) (tk wt : Int) : Prop where
  ok : p.ok
  hla : p.la = la
  hk : p.k = k
  hq : p.q = q
  cl : p.cl = false
  ring : p.ring = min tk la
  queue : p.queue = tk - wt - p.ring
  t0 : 0 ≤ tk
  t1 : tk ≤ 1056 * (j : Int)
  w0 : 0 ≤ wt
section
variable {la k q tk wt : Int} {j : Nat} {p : Pc}
theorem Lft.new (h : Pc.ok ⟨la, k, q, 0, 0, false⟩) : Lft la k q 0 ⟨la, k, q, 0, 0, false⟩ 0 0 := ⟨h, rfl, rfl, rfl, rfl, by have := h.l1; simp only at this ⊢; omega, by simp, by omega, by omega, by omega⟩
theorem Lft.tick (h : Lft la k q j p tk wt) : Lft la k q (j + 1) p.tk tk (wt + p.tkN) ∧ 0 ≤ p.tkN ∧ p.tkN ≤ k := by
  have h1 := h.ok.k1; have h2 := h.ok.u1; have h3 := h.hk; have h4 := h.queue; have h5 := h.t1; have h6 := h.w0
  have h7 : 0 ≤ p.tkN := by unfold Pc.tkN; omega
  have h8 : p.tkN ≤ k := by unfold Pc.tkN; omega
  exact ⟨⟨Pc.ok_tk h.ok, h.hla, h.hk, h.hq, h.cl, h.ring, by show p.queue - p.tkN = _ - _ - p.ring; omega, h.t0, by omega, by omega⟩, h7, h8⟩
theorem Lft.write (h : Lft la k q j p tk wt) (n : Int) : Lft la k q (j + 1) (p.wr n) (tk + p.wrN n) wt ∧ 0 ≤ p.wrN n ∧ p.wrN n ≤ max n 0 := by
  have h1 := h.ok.l1; have h2 := h.ok.l2; have h3 := h.ok.r1; have h4 := h.ok.r2; have h5 := h.ok.u1; have h6 := h.ok.q2; have h7 := h.ok.op h.cl
  have e1 := h.hla; have e2 := h.hq; have e3 := h.ring; have e4 := h.queue; have e5 := h.t0; have e6 := h.t1; have e7 := h.w0
  have hs := Pc.wr_same p n
  have hh : ¬ n < 0 → p.wrN n = p.hld n + p.wai n ∧ (p.wr n).ring = p.ring + p.hld n ∧ (p.wr n).queue = p.queue + p.wai n := fun hn => by
    unfold Pc.wrN Pc.wr
    rw [if_neg hn, if_neg (by rw [h.cl]; simp), if_neg hn, if_neg (by rw [h.cl]; simp)]
    exact ⟨rfl, rfl, rfl⟩
  by_cases hn : n < 0
  · have a1 : p.wrN n = 0 := by unfold Pc.wrN; rw [if_pos hn]
    have a2 : p.wr n = p := by unfold Pc.wr; rw [if_pos hn]
    rw [a1, a2]
    exact ⟨⟨h.ok, h.hla, h.hk, h.hq, h.cl, by omega, by omega, by omega, by omega, h.w0⟩, by omega, by omega⟩
  · obtain ⟨a1, a2, a3⟩ := hh hn
    have b1 : p.hld n = min n (p.la - p.ring) := rfl
    have b2 : p.wai n = min (n - p.hld n) (p.q - p.queue) := rfl
    have b3 : 0 ≤ p.wai n := by omega
    have b4 : 0 ≤ p.hld n := by omega
    exact ⟨⟨Pc.ok_wr h.ok n, hs.1.trans h.hla, hs.2.1.trans h.hk, hs.2.2.1.trans h.hq, hs.2.2.2.trans h.cl, by omega, by omega, by omega, by omega, h.w0⟩, by omega, by omega⟩
end
theorem pick_v (n by' : Int) (hn : -9223372036854775808 ≤ n ∧ n ≤ 9223372036854775807) (hb : 1 ≤ by' ∧ by' ≤ 1000000) :
    ∃ p : Nat, (p : Int) < by' ∧ ∀ w, Calls Try.prog 25 #[.int .i64 n, .int .i64 by'] w fun e w' => e = .returned (.int .i64 p) ∧ w' = w := by
  have hne : ¬ by' = 0 := by omega
  have hne2 : (by' == 0) = false := by simp; omega
  have hbd : n.tmod by' < by' ∧ -by' < n.tmod by' := ⟨Int.tmod_lt_of_pos n (show 0 < by' by omega), Int.lt_tmod_of_pos n (show 0 < by' by omega)⟩
  obtain ⟨q, hq⟩ : ∃ q, n.tmod by' = q := ⟨_, rfl⟩
  rw [hq] at hbd
  by_cases h0 : q < 0
  · refine ⟨(q + by').toNat, by omega, fun w => ?_⟩
    have hw : IntKind.i64.wrap (q + by') = q + by' := IntWalk.i64_in _ (by omega)
    go_enter Try.func25, Try.ntmps25
    go_wp2
    go_ret
    exact ⟨by show Ending.returned (.int .i64 (q + by')) = _; rw [Int.toNat_of_nonneg (by omega)], rfl⟩
  · refine ⟨q.toNat, by omega, fun w => ?_⟩
    rw [Int.toNat_of_nonneg (show 0 ≤ q by omega)]
    go_enter Try.func25, Try.ntmps25
    go_wp2
    go_ret
    exact ⟨rfl, rfl⟩
/-- Ticks behind Close. -/
theorem ticks_is (left k t : Int) (hk : 1 ≤ k) (hl : 0 ≤ left) (ht : 0 ≤ t) (h1 : left ≤ k * t) (h2 : t = 0 ∨ k * (t - 1) < left) : (left + k - 1).tdiv k = t := by
  have h3 : k * t < left + k := by
    rcases h2 with rfl | h2
    · simp; omega
    · rw [Int.mul_sub, Int.mul_one] at h2; omega
  rw [Int.tdiv_eq_ediv_of_nonneg (by omega)]
  have e : left + k - 1 = (left + k - 1 - k * t) + t * k := by rw [Int.mul_comm t k]; omega
  rw [e, Int.add_mul_ediv_right _ _ (by omega), Int.ediv_eq_zero_of_lt (by omega) (by omega), Int.zero_add]

structure Tks (left k : Int) (t : Nat) (u : Int) : Prop where
  is : u = max (left - k * (t : Int)) 0
  t1 : (t : Int) = 0 ∨ k * ((t : Int) - 1) < left
theorem Tks.step {left k u : Int} {t : Nat} (h : Tks left k t u) (hu : 0 < u) (hk : 1 ≤ k) : Tks left k (t + 1) (u - min k u) := by
  have h1 := h.is
  have e : k * ((t + 1 : Nat) : Int) = k * (t : Int) + k := by rw [Int.natCast_add, Int.mul_add]; simp
  have e2 : k * (((t + 1 : Nat) : Int) - 1) = k * (t : Int) := by congr 1; omega
  exact ⟨by rw [e]; omega, .inr (by rw [e2]; omega)⟩
theorem Tks.few {left k u : Int} {t : Nat} (h : Tks left k t u) (hu : 0 < u) (hk : 1 ≤ k) : (t : Int) < left := by
  have h1 := h.is
  have e : (t : Int) ≤ k * (t : Int) := by
    have := Int.mul_le_mul_of_nonneg_right hk (show (0 : Int) ≤ (t : Int) by omega)
    omega
  omega
theorem Tks.fin {left k u : Int} {t : Nat} (h : Tks left k t u) (hu : ¬ 0 < u) (hk : 1 ≤ k) (hl : 0 ≤ left) : (left + k - 1).tdiv k = (t : Int) := by
  have h1 := h.is
  exact ticks_is left k t hk hl (by omega) (by omega) h.t1
attribute [local go_sem ↓] run_stoE
set_option maxRecDepth 20000 in
set_option maxHeartbeats 4000000 in
theorem paceleft_p {w : World} {A : Option Addr} {ca : Nat} {l : List Dd} (la k q : Int) (hl : RdD w A l) (hfit : ∀ (i : Nat) (x : Dd), l[i]? = some x → x.fits) (hlc : l.length ≤ 9223372036854775807) :
    Calls Try.prog 6 #[.int .i64 la, .int .i64 k, .int .i64 q, .slice A l.length ca] w fun e w' => e = .returned (.bool true) ∧ Below w.heap.size w w' := by
  obtain ⟨N, hN⟩ : ∃ N, l.length = N := ⟨_, rfl⟩
  rw [hN] at hlc ⊢
  have HN := Lib.hid hN
  have HL := Lib.hid hl
  have HF := Lib.hid hfit
  have HU := Lib.hid up13_p
  clear hN hl hfit
  have hnw := fun W => pnew_p W la k q
  unfold newP pcV errC at hnw
  by_cases hok : newOk la k q = true
  · simp only [hok, if_true] at hnw
    have hpok : Pc.ok ⟨la, k, q, 0, 0, false⟩ := (Pc.may_iff _).mp hok
    have HNW := Lib.hid hnw
    clear hnw hok
    by_cases hbig : (100 : Int) < (N : Int)
    · clear hpok
      go_enter Try.func6, Try.ntmps6
      go_wp2_with (first
        | (go_at_call 19; (with_reducible refine (HU.out _).mono ?_); rintro e w1 ⟨rfl, b1⟩; have B1 := Lib.hid b1; clear b1)
        | (go_at_call 20; (with_reducible refine (HNW.out _).mono ?_); rintro e w2 ⟨rfl, b2⟩; have B2 := Lib.hid (gro B1.out b2); clear b2)
        | fail)
      go_ret
      exact ⟨rfl, B2.out.alloc B2.out.size _⟩
    have HPO := Lib.hid hpok
    clear hpok
    go_enter Try.func6, Try.ntmps6
    go_upto_region 8 with (first
      | (go_at_call 19; (with_reducible refine (HU.out _).mono ?_); rintro e w1 ⟨rfl, b1⟩; have B1 := Lib.hid b1; clear b1)
      | (go_at_call 20; (with_reducible refine (HNW.out _).mono ?_); rintro e w2 ⟨rfl, b2⟩; have B2 := Lib.hid (gro B1.out b2); clear b2)
      | fail)
    have hq0 := PB.new 58 w2 la k q 0 0 false
    have hb0 : Below w.heap.size w (w2.alloc (.cells (pcA la k q 0 0 false) 58)) := B2.out.alloc B2.out.size _
    have hbq : w.heap.size ≤ w2.heap.size := B2.out.size
    obtain ⟨bq, hbq2⟩ : ∃ bq, w2.heap.size = bq := ⟨_, rfl⟩
    unfold pcA at hq0 hb0
    obtain ⟨w3, hw3⟩ : ∃ w3, w2.alloc (.cells #[.int .i64 la, .int .i64 k, .int .i64 q, .int .i64 0, .int .i64 0, .bool false] 58) = w3 := ⟨_, rfl⟩
    rw [hbq2] at hq0 hbq ⊢
    rw [hw3] at hq0 hb0 ⊢
    have HQ0 := Lib.hid hq0
    have HB0 := Lib.hid hb0
    have HBQ := Lib.hid hbq
    clear hq0 hb0 hbq hbq2 hw3
    go_loopg [12, 13, 14] N (fun mm tv wv i wr => ∃ (j : Nat) (p' : Pc) (tk wt : Int), i = .int .i64 (j : Int) ∧ j ≤ N ∧ mm = N - j ∧ tv = .int .i64 tk ∧ wv = .int .i64 wt ∧ Lft la k q j p' tk wt ∧ PB 58 wr bq p'.la p'.k p'.q p'.ring p'.queue p'.cl ∧ Below w.heap.size w wr)
    case atStart => exact ⟨0, _, 0, 0, by first | rfl | trivial, Nat.zero_le _, by first | rfl | trivial, by first | rfl | trivial, by first | rfl | trivial, Lft.new HPO.out, HQ0.out, HB0.out⟩
    case round =>
      obtain ⟨j, p', tk, wt, rfl, hj, hmj, rfl, rfl, hlf, hpb, hbw⟩ := hrel
      have HMJ := Lib.hid hmj
      have HLF := Lib.hid hlf
      have HPB := Lib.hid hpb
      have HBW := Lib.hid hbw
      clear hmj
      by_cases hjN : j < N
      · obtain ⟨x, hx⟩ : ∃ x, l[j]? = some x := ⟨_, List.getElem?_eq_getElem (by rw [HN.out]; omega)⟩
        have hfx := HF.out j x hx
        obtain ⟨g, off, rfl, hg, z0, z1⟩ := (HL.out.stays hbw) j x hx
        obtain ⟨pk, _, hpi⟩ := pick_v x.what 4 ⟨hfx.w1, hfx.w2⟩ (by decide)
        have htk := fun (W : World) => ptick_p W p' hlf.ok
        have hwr := fun (W : World) => pwrite_p W p' hlf.ok x.n hfx.n1 hfx.n2
        obtain ⟨xw, xn⟩ := x
        have hlt := hlf.tick
        have hlw := hlf.write xn
        have j1 : (j : Int) < 100 := by omega
        have hN2 : (N : Int) ≤ 100 := by omega
        unfold pcV at htk hwr
        simp only at hpi htk hwr z0 z1 hlw
        generalize p'.tk = pt at htk hlt
        generalize p'.wr xn = pw at hwr hlw
        generalize p'.tkN = tn at htk hlt
        generalize p'.wrN xn = wn at hwr hlw
        generalize p'.wrE xn = we at hwr
        generalize errC we = ev at hwr
        obtain ⟨y0, y1, y2, y3, y4, y5⟩ := hpb.cell
        obtain ⟨e0, e1, e2, e3, e4, e5⟩ := p'
        obtain ⟨t0, t1, t2, t3, t4, t5⟩ := pt
        obtain ⟨v0, v1, v2, v3, v4, v5⟩ := pw
        simp only at htk hwr y0 y1 y2 y3 y4 y5 hpb
        have HPI := Lib.hid hpi
        have HTK := Lib.hid htk
        have HWR := Lib.hid hwr
        have HLT := Lib.hid hlt
        have HLW := Lib.hid hlw
        have i0 : (0 : Int) ≤ (j : Int) := by omega
        have i1 : (j : Int) < (N : Int) := by omega
        have HJ := Lib.hid (And.intro j1 hN2)
        clear hx hfx hg hpi htk hwr hlt hlw hlf hpb hbw j1 hN2
        by_cases hpk : ((pk : Int) == 2) = true
        · have hj1 := HJ.out.1
          have hj2 := HJ.out.2
          have hlt := HLT.out
          have hk1 := HLF.out.ok.k1
          have e1 : ¬ tn < 0 := by have := hlt.2.1; omega
          have e2 : ¬ k < tn := by have := hlt.2.2; omega
          have hw2 := hlt.1.queue
          have hu1 := hlt.1.ok.u1
          have hr1 := hlt.1.ok.r1
          have htb := hlt.1.t1
          have hwr : IntKind.i64.wrap (wt + tn) = wt + tn := IntWalk.i64_in _ (by simp only at hw2 hu1 hr1; have := hlt.1.w0; omega)
          have hws : IntKind.i64.wrap (tk - (wt + tn)) = tk - (wt + tn) := IntWalk.i64_in _ (by simp only at hw2 hu1 hr1; have := hlt.1.w0; have := hlt.1.t0; omega)
          have g1 := hlt.1.ring
          have g3 := hlt.1.ok.op hlt.1.cl
          have g4 := hlt.1.hq
          have g5 := hlt.1.cl
          simp only at g1 g3 g4 g5 hw2 hu1 hr1
          have G3 : ¬ t4 < 0 := by omega
          have G4 : ¬ q < t4 := by omega
          have hwu : IntKind.i64.wrap (tk - (wt + tn) - t3) = t4 := by rw [hw2]; exact IntWalk.i64_in _ (by have := hlt.1.w0; have := hlt.1.t0; omega)
          have d1 : min tk la = t3 := g1.symm
          subst g5
          have HPQ := fun (W : World) (hW : Below wr.heap.size wr W) => HPB.out.stays hW
          have HPQ' := Lib.hid HPQ
          clear HPQ hlt hk1 hw2 hu1 hr1 htb g1 g3 g4
          go_upto_region 9 with (first
            | (go_at_call 25; (with_reducible refine (HPI.out _).mono ?_); rintro e w0 ⟨rfl, rfl⟩)
            | (go_at_call 26; (with_reducible refine (HTK.out _).mono ?_); rintro e w4 ⟨rfl, b4⟩; have hq4 := HPQ'.out _ (b4.alloc b4.size (.cells #[.int .i64 t0, .int .i64 t1, .int .i64 t2, .int .i64 t3, .int .i64 t4, .bool false] 58)); have HQ4 := Lib.hid hq4; have B4 := Lib.hid b4; clear b4 hq4)
            | (refine wpList_storeP (by rfl) _ _ (by rfl) (by rfl) (by rfl) Try.pcP HQ4.out ?_; intro hbx; obtain ⟨s0, s1, s2, s3, s4, s5⟩ := hbx.cell; have HX := Lib.hid hbx; clear hbx; go_simp)
            | fail)
          go_wp2
          go_roundg (N - (j + 1))
          case measure => have := HMJ.out; omega
          case rel => exact ⟨j + 1, ⟨t0, t1, t2, t3, t4, false⟩, tk, wt + tn, by go_num, by omega, rfl, rfl, rfl, HLT.out.1, HX.out, below_setRow ((gro HBW.out B4.out).alloc (gro HBW.out B4.out).size _) HBQ.out _⟩
        · have hpk' : ((pk : Int) == 2) = false := by simpa using hpk
          have hj1 := HJ.out.1
          have hj2 := HJ.out.2
          have hlw := HLW.out
          have e1 : ¬ wn < 0 := by have := hlw.2.1; omega
          have e2 : ¬ max xn 0 < wn := by have := hlw.2.2; omega
          have hw2 := hlw.1.queue
          have hu1 := hlw.1.ok.u1
          have hr1 := hlw.1.ok.r1
          have htb := hlw.1.t1
          have htk : IntKind.i64.wrap (tk + wn) = tk + wn := IntWalk.i64_in _ (by have := hlw.1.t0; omega)
          have hws : IntKind.i64.wrap (tk + wn - wt) = tk + wn - wt := IntWalk.i64_in _ (by simp only at hw2 hu1 hr1; have := hlw.1.w0; have := hlw.1.t0; omega)
          have g1 := hlw.1.ring
          have g3 := hlw.1.ok.op hlw.1.cl
          have g4 := hlw.1.hq
          have g5 := hlw.1.cl
          simp only at g1 g3 g4 g5 hw2 hu1 hr1
          have G3 : ¬ v4 < 0 := by omega
          have G4 : ¬ q < v4 := by omega
          have hwu : IntKind.i64.wrap (tk + wn - wt - v3) = v4 := by rw [hw2]; exact IntWalk.i64_in _ (by have := hlw.1.w0; have := hlw.1.t0; omega)
          have d1 : min (tk + wn) la = v3 := g1.symm
          subst g5
          have HPQ := fun (W : World) (hW : Below wr.heap.size wr W) => HPB.out.stays hW
          have HPQ' := Lib.hid HPQ
          have hi6 : (Try.prog.info? 58).map (·.size) = some 6 := Try.pcP.size
          have HI6 := Lib.hid hi6
          clear hi6 HPQ hlw hw2 hu1 hr1 htb g1 g3 g4 hpk
          go_upto_region 16 with (first
            | (go_at_call 25; (with_reducible refine (HPI.out _).mono ?_); rintro e w0 ⟨rfl, hw0⟩; obtain rfl := hw0.symm)
            | fail)
          have z1a := cell_al z1 (.cells #[.int .i64 0, .int .i64 0, .int .i64 0, .int .i64 0, .int .i64 0, .bool false] 58)
          have y0a := cell_al y0 (.cells #[.int .i64 0, .int .i64 0, .int .i64 0, .int .i64 0, .int .i64 0, .bool false] 58)
          have y1a := cell_al y1 (.cells #[.int .i64 0, .int .i64 0, .int .i64 0, .int .i64 0, .int .i64 0, .bool false] 58)
          have y2a := cell_al y2 (.cells #[.int .i64 0, .int .i64 0, .int .i64 0, .int .i64 0, .int .i64 0, .bool false] 58)
          have y3a := cell_al y3 (.cells #[.int .i64 0, .int .i64 0, .int .i64 0, .int .i64 0, .int .i64 0, .bool false] 58)
          have y4a := cell_al y4 (.cells #[.int .i64 0, .int .i64 0, .int .i64 0, .int .i64 0, .int .i64 0, .bool false] 58)
          have y5a := cell_al y5 (.cells #[.int .i64 0, .int .i64 0, .int .i64 0, .int .i64 0, .int .i64 0, .bool false] 58)
          go_cut [17, 18, 19] from 69 to 79 (fun s17 s18 s19 wx => ∃ bn, s17 = .pointer (some ⟨bn, 0, none⟩) ∧ s18 = .int .i64 wn ∧ s19 = ev ∧ Below wr.heap.size wr wx ∧ PB 58 wx bn v0 v1 v2 v3 v4 false)
          case first =>
            go_region_law (first
              | (go_simp; go_at_call 27; (with_reducible refine (HWR.out _).mono ?_); rintro e w4 ⟨rfl, b4⟩; have B4 := Lib.hid b4; try (have nw := (b4.block wr.heap.size (by simp)).trans (heap_alloc_new wr (.cells #[.int .i64 0, .int .i64 0, .int .i64 0, .int .i64 0, .int .i64 0, .bool false] 58)); have sto := sto_of (ty := 58) (cs := #[.int .i64 v0, .int .i64 v1, .int .i64 v2, .int .i64 v3, .int .i64 v4, .bool false]) nw HI6.out rfl (by simp [Value.oneCell']); have NW := Lib.hid nw; clear nw); clear b4)
              | fail)
            all_goals
              clear z1a y0a y1a y2a y3a y4a y5a
              first
                | (have hb5 : Below wr.heap.size wr (w4.alloc (.cells #[.int .i64 v0, .int .i64 v1, .int .i64 v2, .int .i64 v3, .int .i64 v4, .bool false] 58)) := (undrew B4.out).alloc (undrew B4.out).size _
                   have hp5 := PB.new 58 w4 v0 v1 v2 v3 v4 false
                   unfold pcA at hp5
                   obtain ⟨w5, hw5⟩ : ∃ w5, w4.alloc (.cells #[.int .i64 v0, .int .i64 v1, .int .i64 v2, .int .i64 v3, .int .i64 v4, .bool false] 58) = w5 := ⟨_, rfl⟩
                   obtain ⟨bn, hbn⟩ : ∃ bn, w4.heap.size = bn := ⟨_, rfl⟩
                   rw [hw5] at hb5 hp5 ⊢
                   rw [hbn] at hp5 ⊢
                   clear hw5 hbn)
                | (have hb5 : Below wr.heap.size wr (stoW w4 (.pointer (some ⟨wr.heap.size, 0, none⟩)) (.agg #[.int .i64 v0, .int .i64 v1, .int .i64 v2, .int .i64 v3, .int .i64 v4, .bool false])) := below_sto ((below_one wr (.cells #[.int .i64 0, .int .i64 0, .int .i64 0, .int .i64 0, .int .i64 0, .bool false] 58)).trans ((undrew B4.out).mono (by simp))) (Nat.le_refl _)
                   have hp5 : PB 58 (stoW w4 (.pointer (some ⟨wr.heap.size, 0, none⟩)) (.agg #[.int .i64 v0, .int .i64 v1, .int .i64 v2, .int .i64 v3, .int .i64 v4, .bool false])) wr.heap.size v0 v1 v2 v3 v4 false := has_sto NW.out
                   obtain ⟨w5, hw5⟩ : ∃ w5, stoW w4 (.pointer (some ⟨wr.heap.size, 0, none⟩)) (.agg #[.int .i64 v0, .int .i64 v1, .int .i64 v2, .int .i64 v3, .int .i64 v4, .bool false]) = w5 := ⟨_, rfl⟩
                   obtain ⟨bn, hbn⟩ : ∃ bn, wr.heap.size = bn := ⟨_, rfl⟩
                   rw [hw5] at hb5 hp5 ⊢
                   rw [hbn] at hp5 ⊢
                   clear hw5 hbn sto NW)
              go_wp2
              go_meet
              exact ⟨_, rfl, rfl, rfl, hb5, hp5⟩
          case rest =>
            obtain ⟨bn, rfl, rfl, rfl, hb5, hp5⟩ := hcut
            obtain ⟨x0, x1, x2, x3, x4, x5⟩ := hp5.cell
            have z2 := cell_stays z1 hb5
            have HQ5 := Lib.hid (HPB.out.stays hb5)
            have HB5 := Lib.hid hb5
            have he1 : decide (wn < 0) = false := by simpa using e1
            have he2 : decide (max xn 0 < wn) = false := by simpa using e2
            clear hb5 hp5 z0 z1 y0 y1 y2 y3 y4 y5 z1a y0a y1a y2a y3a y4a y5a
            go_upto_region 9 with (first
              | (refine wpList_storeP (by rfl) _ _ (by rfl) (by rfl) (by rfl) Try.pcP HQ5.out ?_; intro hbx; obtain ⟨s0, s1, s2, s3, s4, s5⟩ := hbx.cell; have HX := Lib.hid hbx; clear hbx; go_simp)
              | fail)
            go_wp2
            go_roundg (N - (j + 1))
            case measure => have := HMJ.out; omega
            case rel => exact ⟨j + 1, ⟨v0, v1, v2, v3, v4, false⟩, tk + wn, wt, by go_num, by omega, rfl, rfl, rfl, HLW.out.1, HX.out, below_setRow (gro HBW.out HB5.out) HBQ.out _⟩
      · have hkL : j = N := by omega
        subst hkL
        have hcl := fun (W : World) => pclose_p W p' hlf.ok
        unfold Pc.sh' Pc.shE pcV errC at hcl
        simp only [hlf.cl, Bool.false_eq_true, if_false, if_true] at hcl
        have hk1 := hlf.ok.k1
        have hu1 := hlf.ok.u1
        have hr1 := hlf.ok.r1
        have hr2 := hlf.ok.r2
        have hq2 := hlf.ok.q2
        have hl2 := hlf.ok.l2
        have hqu := hlf.queue
        have hlt := hlf.ok.op hlf.cl
        have hh := hlf.hk
        have hkq := hlf.ok.kq
        have hce := hlf.cl
        have hos := Pc.ok_sh hlf.ok
        unfold Pc.sh' at hos
        simp only [hlf.cl, Bool.false_eq_true, if_false] at hos
        obtain ⟨y0, y1, y2, y3, y4, y5⟩ := hpb.cell
        obtain ⟨e0, e1, e2, e3, e4, e5⟩ := p'
        simp only at hcl hk1 hu1 hr1 hr2 hq2 hl2 hqu hlt hh hkq hce hos y0 y1 y2 y3 y4 y5
        subst hce
        have hws : IntKind.i64.wrap (tk - wt) = e4 + e3 := by rw [show tk - wt = e4 + e3 by omega]; exact IntWalk.i64_in _ (by omega)
        obtain ⟨L, hL⟩ : ∃ L, e4 + e3 = L := ⟨_, rfl⟩
        rw [hL] at hws
        simp only [hL] at hcl hos
        have HOS := Lib.hid hos
        clear hos
        have hl0 : 0 ≤ L := by omega
        have hl9 : L ≤ 2000 := by omega
        have hk9 : k ≤ 2000 := by omega
        have hk0 : 1 ≤ k := by omega
        have HCL := Lib.hid hcl
        have HL9 := Lib.hid (And.intro hl0 (And.intro hl9 (And.intro hk9 hk0)))
        have HH := Lib.hid hh
        clear hcl hk1 hu1 hr1 hr2 hq2 hl2 hqu hlt hkq hlf hpb hbw hL hl0 hl9 hk9 hk0 hh
        go_upto_region 28 with (first
          | (go_at_call 28; (with_reducible refine (HCL.out _).mono ?_); rintro e w4 ⟨rfl, b4⟩; have HQ4 := Lib.hid (HPB.out.stays b4); have B4 := Lib.hid (gro HBW.out b4); clear b4)
          | (refine wpList_storeP (by rfl) _ _ (by rfl) (by rfl) (by rfl) Try.pcP HQ4.out ?_; intro hbx; obtain ⟨s0, s1, s2, s3, s4, s5⟩ := hbx.cell; have HX := Lib.hid hbx; clear hbx; go_simp)
          | fail)
        have hx := HX.out
        have hbe := below_setRow B4.out HBQ.out (pcA e0 e1 e2 0 L true)
        obtain ⟨w5, hw5⟩ : ∃ w5, w4.setRow bq (pcA e0 e1 e2 0 L true) = w5 := ⟨_, rfl⟩
        rw [hw5] at hx hbe ⊢
        have HX5 := Lib.hid hx
        have HB5 := Lib.hid hbe
        clear s0 s1 s2 s3 s4 s5 y0 y1 y2 y3 y4 y5 hx hbe hw5 HX HQ4 B4 hws
        have hT0 : Tks L k 0 L := ⟨by have := HL9.out.1; simp; omega, .inl rfl⟩
        have HT0 := Lib.hid hT0
        clear hT0
        go_loopg [20] 4000 (fun mm s wq => ∃ (t : Nat) (u : Int), s = .int .i64 (t : Int) ∧ mm = 4000 - t ∧ (t : Int) ≤ L ∧ u ≤ L ∧ Tks L k t u ∧ PB 58 wq bq e0 e1 e2 0 u true ∧ Below w.heap.size w wq)
        case atStart => exact ⟨0, L, by first | rfl | trivial, by first | rfl | trivial, HL9.out.1, Int.le_refl _, HT0.out, HX5.out, HB5.out⟩
        case round =>
          obtain ⟨t, u, rfl, hmt, htL, huL, hts, hpb, hbw⟩ := hrel
          have HMT := Lib.hid hmt
          have HTS := Lib.hid hts
          have HPB2 := Lib.hid hpb
          have HBW2 := Lib.hid hbw
          obtain ⟨y0, y1, y2, y3, y4, y5⟩ := hpb.cell
          have hk0 := HL9.out.2.2.2
          have hl0 := HL9.out.1
          clear hmt hpb hbw
          by_cases hu : 0 < u
          · have hfew := hts.few hu hk0
            have hstep := hts.step hu hk0
            have ho := HOS.out
            have hok2 : Pc.ok ⟨e0, e1, e2, 0, u, true⟩ := ⟨ho.l1, ho.l2, ho.k1, ho.kq, ho.q2, ho.r1, ho.r2, by simp only; omega, fun e => by simp at e, fun _ => ⟨rfl, by have := (ho.sh rfl).2; simp only at this ⊢; omega⟩⟩
            have htk := fun (W : World) => ptick_p W ⟨e0, e1, e2, 0, u, true⟩ hok2
            unfold Pc.tk Pc.tkN pcV at htk
            simp only [HH.out] at htk
            have hm0 : 0 ≤ min k u := by omega
            obtain ⟨n, hn⟩ : ∃ n, min k u = n := ⟨_, rfl⟩
            rw [hn] at htk hstep hm0
            have e : e1 = k := HH.out
            subst e
            have HTK2 := Lib.hid htk
            have HST2 := Lib.hid hstep
            have hl9 := HL9.out.2.1
            have ht3 : (t : Int) < 3000 := by omega
            have hm0' := Lib.hid hm0
            have HFW := Lib.hid hfew
            have HPQ := Lib.hid (fun (W : World) (hW : Below wr.heap.size wr W) => HPB2.out.stays hW)
            clear htk hstep ho hok2 hts hl9 hk0 hl0 hfew hm0
            go_wp2_with (first
              | (go_at_call 26; (with_reducible refine (HTK2.out _).mono ?_); rintro e w6 ⟨rfl, b6⟩; have hq6 := HPQ.out _ (b6.alloc b6.size (.cells #[.int .i64 e0, .int .i64 e1, .int .i64 e2, .int .i64 0, .int .i64 (u - n), .bool true] 58)); obtain ⟨x0, x1, x2, x3, x4, x5⟩ := hq6.cell; have HQ6 := Lib.hid hq6; have B6 := Lib.hid b6; clear b6 hq6)
              | (refine wpList_storeP (by rfl) _ _ (by rfl) (by rfl) (by rfl) Try.pcP HQ6.out ?_; intro hbx; have HX6 := Lib.hid hbx; clear hbx; go_simp)
              | fail)
            go_roundg (4000 - (t + 1))
            case measure => have := HMT.out; omega
            case rel => exact ⟨t + 1, u - n, by go_num, rfl, by have := HFW.out; omega, by have := hm0'.out; omega, HST2.out, HX6.out, below_setRow ((gro HBW2.out B6.out).alloc (gro HBW2.out B6.out).size _) HBQ.out _⟩
          · have hfin := hts.fin hu hk0 hl0
            have hl9 := HL9.out.2.1
            have hk9 := HL9.out.2.2.1
            have hwa : IntKind.i64.wrap (L + k) = L + k := IntWalk.i64_in _ (by omega)
            have hwb : IntKind.i64.wrap (L + k - 1) = L + k - 1 := IntWalk.i64_in _ (by omega)
            have hwt : IntKind.i64.wrap (t : Int) = (t : Int) := IntWalk.i64_in _ (by omega)
            have hkn : ¬ k = 0 := by omega
            have hkn2 : (k == 0) = false := by simp; omega
            clear hts
            go_wp2
            go_ret
            exact ⟨rfl, HBW2.out⟩
  · have hok' : newOk la k q = false := by simpa using hok
    simp only [hok', Bool.false_eq_true, if_false, show ¬ ((1 : Int) = 0) by decide] at hnw
    have HNW := Lib.hid hnw
    clear hnw hok hok'
    go_enter Try.func6, Try.ntmps6
    go_wp2_with (first
      | (go_at_call 19; (with_reducible refine (HU.out _).mono ?_); rintro e w1 ⟨rfl, b1⟩; have B1 := Lib.hid b1; clear b1)
      | (go_at_call 20; (with_reducible refine (HNW.out _).mono ?_); rintro e w2 ⟨rfl, b2⟩; have B2 := Lib.hid (gro B1.out b2); clear b2)
      | fail)
    go_ret
    exact ⟨rfl, B2.out.alloc B2.out.size _⟩
end Go.Proofs.Ytbadpenfngdodaa
