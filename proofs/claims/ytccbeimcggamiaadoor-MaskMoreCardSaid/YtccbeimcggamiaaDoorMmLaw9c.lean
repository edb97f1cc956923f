/-
  The law MaskMore of layer 9 as a walk. Contracts for other texts; no statement of its own.
-/
import Derived.Test.YtccbeimcggamiaaDoorMk1
import Derived.Test.YtccbeimcggamiaaDoorMk2
import Derived.Test.YtccbeimcggamiaaDoorMk3
import Derived.Test.YtccbeimcggamiaaDoorMk4
import Derived.Test.YtccbeimcggamiaaDoorMk5
import Derived.Test.YtccbeimcggamiaaDoorMk6
import Derived.Test.YtccbeimcggamiaaDoorMk7
import Derived.Test.YtccbeimcggamiaaDoorMk8
import Derived.Test.YtccbeimcggamiaaDoorMk9
import Derived.Test.YtccbeimcggamiaaDoorMk10
import Derived.Test.YtccbeimcggamiaaDoorMk11
import Derived.Test.YtccbeimcggamiaaDoorMk12
import Derived.Test.YtccbeimcggamiaaDoorMk13
import Derived.Test.YtccbeimcggamiaaDoorMk14
import Derived.Test.YtccbeimcggamiaaDoorMk15
import Derived.Test.YtccbeimcggamiaaDoorMk16
import Derived.Test.YtccbeimcggamiaaDoorMk17
import Derived.Test.YtccbeimcggamiaaDoorMk18
import Derived.Test.YtccbeimcggamiaaDoorMk19
import Derived.Test.YtccbeimcggamiaaDoorMk20
import Derived.Test.YtccbeimcggamiaaDoorMk21
import Derived.Test.YtccbeimcggamiaaDoorMk22
import Derived.Deep.RegionHeld3
import Derived.Deep.RegionLaw
import Derived.Deep.Cut
import Derived.Deep.CutRange
import Derived.Deep.DeepCutAuto
set_option linter.unusedVariables false
set_option linter.unusedSimpArgs false
namespace Go.Proofs.YtccbeimcggamiaaDoor
open Go Go.RowKit
attribute [local go_sem ↓] Go.wp_at_zero Go.wp_at_succ

set_option maxHeartbeats 1000000 in
theorem pick_p (w : World) (n by' : Int) (hn : -9223372036854775808 ≤ n ∧ n ≤ 9223372036854775807) (hb : 1 ≤ by' ∧ by' ≤ 1000000) :
    Calls Tryd.prog 26 #[.int .i64 n, .int .i64 by'] w fun e w' => ∃ p : Nat, e = .returned (.int .i64 p) ∧ (p : Int) < by' ∧ w' = w := by
  have hne : ¬ by' = 0 := by omega
  have hne2 : (by' == 0) = false := by simp; omega
  have hbd : n.tmod by' < by' ∧ -by' < n.tmod by' := by
    have h1 := Int.tmod_lt_of_pos n (show 0 < by' by omega)
    have h2 := Int.lt_tmod_of_pos n (show 0 < by' by omega)
    exact ⟨h1, h2⟩
  obtain ⟨q, hq⟩ : ∃ q, n.tmod by' = q := ⟨_, rfl⟩
  rw [hq] at hbd
  by_cases h0 : q < 0
  · have hw : IntKind.i64.wrap (q + by') = q + by' := IntWalk.i64_in _ (by omega)
    go_enter Tryd.func26, Tryd.ntmps26
    go_wp2
    go_ret
    exact ⟨(q + by').toNat, by show Ending.returned (.int .i64 (q + by')) = _; rw [Int.toNat_of_nonneg (by omega)], by omega, rfl⟩
  · go_enter Tryd.func26, Tryd.ntmps26
    go_wp2
    go_ret
    exact ⟨q.toNat, by show Ending.returned (.int .i64 q) = _; rw [Int.toNat_of_nonneg (by omega)], by omega, rfl⟩

theorem Bys.cap {w : World} {B n c : Nat} {A : Option Addr} {l : List Int} (h : Bys w B (.slice A n c) l) : n ≤ c := by
  rcases h.2 with ⟨e, h0⟩ | ⟨g, cap, cur, e, hB, hg, hc, _⟩
  · injection e with e1 e2 e3
    omega
  · injection e with e1 e2 e3
    omega
theorem byteOk_app {a b : List Int} (ha : byteOk a) (hb : byteOk b) : byteOk (a ++ b) := fun k hk => by
  rw [List.getD_eq_getElem?_getD]
  by_cases h : k < a.length
  · rw [List.getElem?_append_left h, ← List.getD_eq_getElem?_getD]
    exact ha k h
  · rw [List.getElem?_append_right (by omega), ← List.getD_eq_getElem?_getD]
    exact hb _ (by simp at hk; omega)
theorem cov_few {l : List (T × Bool)} {lam : Int} {xs : List Int} {p j : Nat} (h : Cov (l.take p) lam xs j) : Cov l lam xs j := by
  obtain ⟨r, hr, hc⟩ := h
  exact ⟨r, List.mem_of_mem_take hr, hc⟩
theorem cov_wide {l : List (T × Bool)} {lam more : Int} {us xs vs : List Int} {j : Nat} (hwf : ∀ r ∈ l, WF r.1) (hm : 0 ≤ more) (h : Cov l lam xs j) : Cov l (lam + more) (us ++ xs ++ vs) (us.length + j) := by
  obtain ⟨r, hr, a, b, h1, h2, h3, h4, h5⟩ := h
  exact ⟨r, hr, us.length + a, us.length + b, by omega, by omega, by simp; omega, by omega, (fit_mid us xs vs (hwf r hr) (by omega) h3).2 h5⟩
theorem cov_whole {l : List (T × Bool)} {lam : Int} {xs : List Int} {r : T × Bool} {j : Nat} (hr : r ∈ l) (hf : Fit xs r 0 xs.length) (hl : (xs.length : Int) ≤ lam) (hj : j < xs.length) : Cov l lam xs j := ⟨r, hr, 0, xs.length, Nat.zero_le _, hj, Nat.le_refl _, by omega, hf⟩

set_option maxRecDepth 20000 in
set_option maxHeartbeats 4000000 in
theorem maskmore_p {w : World} {A B X Y Z : Option Addr} {ca cb cx cy cz : Nat} {L : List ByteArray} {bs : List Bool} {kp lam more : Int} {us xs vs : List Int} (hs : RdStr w A L) (hb : RdBo w B bs) (hL : L.length ≤ 9223372036854775807) (hbs : bs.length ≤ 9223372036854775807) (hsz : ∀ s ∈ L, s.size ≤ 9223372036854775807)
    (hkp : -9223372036854775808 ≤ kp ∧ kp ≤ 9223372036854775807) (hlam : -9223372036854775808 ≤ lam ∧ lam ≤ 9223372036854775807) (hmore : -9223372036854775808 ≤ more ∧ more ≤ 9223372036854775807)
    (hru : RdB w w.heap.size Y us) (hbu : byteOk us) (hrx : RdB w w.heap.size X xs) (hbx : byteOk xs) (hcx : xs.length ≤ cx) (hrv : RdB w w.heap.size Z vs) (hbv : byteOk vs) (htab : Tab w) :
    Calls Tryd.prog 6 #[.slice A L.length ca, .slice B bs.length cb, .int .i64 kp, .int .i64 lam, .int .i64 more, .slice Y us.length cy, .slice X xs.length cx, .slice Z vs.length cz] w fun e w' => e = .returned (.bool true) ∧ Below w.heap.size w w' := by
  have HU := Lib.hid (up9_p w htab)
  have hrul := fun W (hW : Below w.heap.size w W) => rules_p (ca := ca) (cb := cb) (hs.stays hW) (hb.stays hW) hL hbs hsz
  obtain ⟨l, hl⟩ : ∃ l, rulesN L bs (min L.length 4) = l := ⟨_, rfl⟩
  have hok := rulesN_ok L bs (min L.length 4)
  have hll := rulesN_len L bs (min L.length 4)
  rw [hl] at hrul hok hll
  unfold RetRules at hrul
  obtain ⟨N, hN⟩ : ∃ N, L.length = N := ⟨_, rfl⟩
  obtain ⟨M, hM⟩ : ∃ M, bs.length = M := ⟨_, rfl⟩
  obtain ⟨Q, hQ⟩ : ∃ Q, l.length = Q := ⟨_, rfl⟩
  obtain ⟨K, hK⟩ : ∃ K, xs.length = K := ⟨_, rfl⟩
  obtain ⟨U, hU⟩ : ∃ U, us.length = U := ⟨_, rfl⟩
  obtain ⟨V, hV⟩ : ∃ V, vs.length = V := ⟨_, rfl⟩
  have hQ4 : Q ≤ 4 := by omega
  rw [hN, hM, hQ] at hrul
  rw [hN, hM, hK, hU, hV]
  have HRU := Lib.hid hrul
  have HWF := Lib.hid (fun r hr => (hok r hr).1)
  have HQQ := Lib.hid hQ
  have HKK := Lib.hid hK
  have HUU := Lib.hid hU
  have HVV := Lib.hid hV
  have HRX := Lib.hid hrx
  have HBX := Lib.hid hbx
  have HRY := Lib.hid hru
  have HBY := Lib.hid hbu
  have HRZ := Lib.hid hrv
  have HBZ := Lib.hid hbv
  have HTB := Lib.hid htab
  rw [hK] at hcx
  clear hrul hok hll hl hs hb hL hbs hsz hN hM hQ hK hU hV hrx hbx hru hbu hrv hbv htab
  by_cases c1 : (60 : Int) < (K : Int)
  · go_enter Tryd.func6, Tryd.ntmps6
    go_wp2_with (first
      | (go_at_call 18; (with_reducible refine HU.out.mono ?_); rintro e w1 ⟨rfl, hb1⟩; have HB1 := Lib.hid hb1; clear hb1)
      | fail)
    go_ret
    exact ⟨rfl, HB1.out⟩
  by_cases c2 : (60 : Int) < (U : Int)
  · go_enter Tryd.func6, Tryd.ntmps6
    go_wp2_with (first
      | (go_at_call 18; (with_reducible refine HU.out.mono ?_); rintro e w1 ⟨rfl, hb1⟩; have HB1 := Lib.hid hb1; clear hb1)
      | fail)
    go_ret
    exact ⟨rfl, HB1.out⟩
  by_cases c3 : (60 : Int) < (V : Int)
  · go_enter Tryd.func6, Tryd.ntmps6
    go_wp2_with (first
      | (go_at_call 18; (with_reducible refine HU.out.mono ?_); rintro e w1 ⟨rfl, hb1⟩; have HB1 := Lib.hid hb1; clear hb1)
      | fail)
    go_ret
    exact ⟨rfl, HB1.out⟩
  by_cases c4 : (32 : Int) < lam
  · go_enter Tryd.func6, Tryd.ntmps6
    go_wp2_with (first
      | (go_at_call 18; (with_reducible refine HU.out.mono ?_); rintro e w1 ⟨rfl, hb1⟩; have HB1 := Lib.hid hb1; clear hb1)
      | fail)
    go_ret
    exact ⟨rfl, HB1.out⟩
  by_cases c5 : more < 0
  · go_enter Tryd.func6, Tryd.ntmps6
    go_wp2_with (first
      | (go_at_call 18; (with_reducible refine HU.out.mono ?_); rintro e w1 ⟨rfl, hb1⟩; have HB1 := Lib.hid hb1; clear hb1)
      | fail)
    go_ret
    exact ⟨rfl, HB1.out⟩
  by_cases c6 : (32 : Int) < more
  · go_enter Tryd.func6, Tryd.ntmps6
    go_wp2_with (first
      | (go_at_call 18; (with_reducible refine HU.out.mono ?_); rintro e w1 ⟨rfl, hb1⟩; have HB1 := Lib.hid hb1; clear hb1)
      | fail)
    go_ret
    exact ⟨rfl, HB1.out⟩
  have hpick := fun W => pick_p W kp ((Q : Int) + 1) hkp (by omega)
  have HPICK := Lib.hid hpick
  clear hpick
  go_enter Tryd.func6, Tryd.ntmps6
  go_upto_region 6 with (first
    | (go_at_call 18; (with_reducible refine HU.out.mono ?_); rintro e w1 ⟨rfl, hb1⟩; have HB1 := Lib.hid hb1; clear hb1)
    | (go_at_call 13; (with_reducible refine (HRU.out _ HB1.out).mono ?_); rintro e w2 ⟨A2, c2', A3, c3', rfl, hc2, hc3, r2, r3, b2⟩; have HR2 := Lib.hid r2; have HB2 := Lib.hid (gro HB1.out b2); clear r2 r3 b2 hc3)
    | (go_at_call 26; (with_reducible refine (HPICK.out _).mono ?_); rintro e w3 ⟨p, rfl, hp, rfl⟩; have hp0 : (0 : Int) ≤ (p : Int) := (by omega); have hp1 : (p : Int) ≤ (c2' : Int) := (by omega); have hp2 : p ≤ c2' := (by omega); have hp3 : p ≤ Q := (by omega))
    | fail)
  have hK60 : K ≤ 60 := by omega
  have hU60 : U ≤ 60 := by omega
  have hV60 : V ≤ 60 := by omega
  have hl32 : lam ≤ 32 := by omega
  have hm0 : 0 ≤ more := by omega
  have hm32 : more ≤ 32 := by omega
  have d1 : decide ((60 : Int) < (K : Int)) = false := decide_eq_false (by omega)
  have d2 : decide ((60 : Int) < (U : Int)) = false := decide_eq_false (by omega)
  have d3 : decide ((60 : Int) < (V : Int)) = false := decide_eq_false (by omega)
  have d4 : decide ((32 : Int) < lam) = false := decide_eq_false (by omega)
  have d5 : decide (more < (0 : Int)) = false := decide_eq_false (by omega)
  have d6 : decide ((32 : Int) < more) = false := decide_eq_false (by omega)
  simp only [d1, d2, d3, d4, d5, d6, Bool.or_false, Bool.or_self]
  clear d1 d2 d3 d4 d5 d6
  clear c1 c2 c3 c4 c5 c6
  have hbw : ∀ W, Below w3.heap.size w3 W → Below w.heap.size w W := fun W hW => HB2.out.trans (hW.mono HB2.out.size)
  have htbW : ∀ W, Below w3.heap.size w3 W → Tab W := fun W hW => HTB.out.below (hbw W hW) HTB.out.1
  have hl4 : l.length ≤ 100000 := by rw [HQQ.out]; omega
  have hca : ∀ W, Below w3.heap.size w3 W → Calls Tryd.prog 22 #[.slice A2 p c2', .int .i64 lam, .slice X K cx] W fun e w' => ∃ g F, e = .returned (.slice (some ⟨g, 0, none⟩) K K) ∧ Bools w' 0 g K F ∧ (∀ j, j < K → (F j = true ↔ Cov (l.take p) lam xs j)) ∧ Below W.heap.size W w' := fun W hW => by
    have hpl : (l.take p).length = p := by rw [List.length_take, HQQ.out]; omega
    have h := mcover_p (w := W) (cl := c2') (cx := cx) (lam := lam) ((HR2.out.stays hW).take p) (fun r hr => HWF.out r (List.mem_of_mem_take hr)) (by omega) ((HRX.out.below (hbw W hW)).more (hbw W hW).size) HBX.out (by rw [HKK.out]; omega) (by rw [HKK.out]; exact hcx) (htbW W hW) hlam
    rw [hpl, HKK.out] at h
    exact h.mono fun e w' ⟨g, F, h1, h2, h3, h4⟩ => ⟨g, F, h1, own_lower h2 (Nat.zero_le _), h3, h4⟩
  have hcb : ∀ W, Below w3.heap.size w3 W → Calls Tryd.prog 22 #[.slice A2 Q c2', .int .i64 lam, .slice X K cx] W fun e w' => ∃ g F, e = .returned (.slice (some ⟨g, 0, none⟩) K K) ∧ Bools w' 0 g K F ∧ (∀ j, j < K → (F j = true ↔ Cov l lam xs j)) ∧ Below W.heap.size W w' := fun W hW => by
    have h := mcover_p (w := W) (cl := c2') (cx := cx) (lam := lam) (HR2.out.stays hW) HWF.out hl4 ((HRX.out.below (hbw W hW)).more (hbw W hW).size) HBX.out (by rw [HKK.out]; omega) (by rw [HKK.out]; exact hcx) (htbW W hW) hlam
    rw [HQQ.out, HKK.out] at h
    exact h.mono fun e w' ⟨g, F, h1, h2, h3, h4⟩ => ⟨g, F, h1, own_lower h2 (Nat.zero_le _), h3, h4⟩
  obtain ⟨T3, hT3⟩ : ∃ T3, us ++ xs ++ vs = T3 := ⟨_, rfl⟩
  have hT3l : T3.length = U + K + V := by rw [← hT3]; simp; have := HUU.out; have := HKK.out; have := HVV.out; omega
  have hT3b : byteOk T3 := by
    rw [← hT3]
    exact byteOk_app (byteOk_app HBY.out HBX.out) HBZ.out
  have hcc : ∀ W (A : Option Addr) (n c : Nat), Below w3.heap.size w3 W → Bys W 0 (.slice A n c) T3 → n ≤ c → Calls Tryd.prog 22 #[.slice A2 Q c2', .int .i64 (lam + more), .slice A n c] W fun e w' => ∃ g F, e = .returned (.slice (some ⟨g, 0, none⟩) (U + K + V) (U + K + V)) ∧ Bools w' 0 g (U + K + V) F ∧ (∀ j, j < U + K + V → (F j = true ↔ Cov l (lam + more) T3 j)) ∧ Below W.heap.size W w' := fun W A n c hW hb hnc => by
    have hn : n = T3.length := by obtain ⟨A', c', e⟩ := hb.form; injection e
    subst hn
    have h := mcover_p (w := W) (cl := c2') (cx := c) (lam := lam + more) (HR2.out.stays hW) HWF.out hl4 hb.rdAt hT3b (by omega) hnc (htbW W hW) (by omega)
    rw [HQQ.out, hT3l] at h
    rw [hT3l]
    exact h.mono fun e w' ⟨g, F, h1, h2, h3, h4⟩ => ⟨g, F, h1, own_lower h2 (Nat.zero_le _), h3, h4⟩
  have hmk : ∀ W, Below w3.heap.size w3 W → Calls Tryd.prog 24 #[.slice A2 Q c2', .int .i64 lam, .int .u8 42, .slice X K cx] W fun e w' => ∃ A c F, e = .returned (.slice A K c) ∧ Bys w' 0 (.slice A K c) (mskL F 42 xs xs.length) ∧ (∀ j, j < K → (F j = true ↔ Cov l lam xs j)) ∧ Below W.heap.size W w' := fun W hW => by
    have h := mmask_p (w := W) (cl := c2') (cx := cx) (lam := lam) (m := 42) (HR2.out.stays hW) HWF.out hl4 ((HRX.out.below (hbw W hW)).more (hbw W hW).size) HBX.out (by rw [HKK.out]; omega) (by rw [HKK.out]; exact hcx) (htbW W hW) hlam
    rw [HQQ.out, HKK.out] at h
    refine h.mono fun e w' h' => ?_
    obtain ⟨v, F, h1, h2, h3, h4⟩ := h'
    obtain ⟨A, c, e2⟩ := h2.form
    rw [mskL_len, HKK.out] at e2
    subst e2
    exact ⟨A, c, F, h1, h2.low (Nat.zero_le _), fun j hj => h3 j (by rw [HKK.out]; exact hj), h4⟩
  have HCA := Lib.hid hca
  have HCB := Lib.hid hcb
  have HCC := Lib.hid hcc
  have HMK := Lib.hid hmk
  have HT3 := Lib.hid hT3
  have hwr : IntKind.i64.wrap (lam + more) = lam + more := IntWalk.i64_in _ (by omega)
  clear hca hcb hcc hmk hbw htbW hl4 hT3 hT3l hT3b
  obtain ⟨S3, hS3⟩ : ∃ S3, U + K + V = S3 := ⟨_, rfl⟩
  have hS3i : (U : Int) + (K : Int) + (V : Int) = (S3 : Int) := by omega
  rw [hS3] at HCC
  have HS3 := Lib.hid hS3
  have HTL : Hid (T3.length = S3) := by show _ = _; rw [← HT3.out, ← hS3]; simp; have := HUU.out; have := HKK.out; have := HVV.out; omega
  have hS3n : S3 ≤ 180 := by omega
  clear hS3
  go_wp2_with (first
    | (go_at_call 22; (with_reducible refine (HCA.out _ (Below.refl _ _)).mono ?_); rintro e w4 ⟨ga, Fa, rfl, oa, fa, b4⟩; have OA := Lib.hid oa; have FA := Lib.hid fa; have HB4 := Lib.hid b4; clear oa fa b4)
    | (go_at_call 22; (with_reducible refine (HCB.out _ HB4.out).mono ?_); rintro e w5 ⟨gb, Fb, rfl, ob, fb, b5⟩; have OB := Lib.hid ob; have FB := Lib.hid fb; have OA5 := Lib.hid (OA.out.stays b5); have HB5 := Lib.hid (gro HB4.out b5); clear ob fb b5)
    | (at_builtin; refine wpList_bys (by rfl) _ _ (by rfl) (by rfl) (by rfl) HUU.out.symm (Bys.empty w5 (Nat.le_refl _)) (HRY.out.below ((HB2.out.trans (HB5.out.mono HB2.out.size)).alloc (Nat.le_trans HB2.out.size HB5.out.size) _)) (by rw [HUU.out]; simp; omega) (by simp) ?_; intro v6 w6 b6 g6 o6; have BY6 := Lib.hid b6; have HB6 := Lib.hid (((Below.refl w5.heap.size w5).alloc (Nat.le_refl _) _).grown g6 (by simp) (fun q e => ((Bys.empty w5 (Nat.le_refl _)).in e).1)); clear b6 g6 o6)
    | (at_builtin; refine wpList_bys (by rfl) _ _ (by rfl) (by rfl) (by rfl) HKK.out.symm BY6.out (HRX.out.below (HB2.out.trans ((gro HB5.out HB6.out).mono HB2.out.size))) (by simp; rw [HUU.out, HKK.out]; omega) HB6.out.size ?_; intro v7 w7 b7 g7 o7; have BY7 := Lib.hid b7; have HB7 := Lib.hid (HB6.out.grown g7 HB6.out.size (fun q e => (BY6.out.in e).1)); clear b7 g7 o7)
    | (at_builtin; refine wpList_bys (by rfl) _ _ (by rfl) (by rfl) (by rfl) HVV.out.symm BY7.out (HRZ.out.below (HB2.out.trans ((gro HB5.out HB7.out).mono HB2.out.size))) (by simp; rw [HUU.out, HKK.out, HVV.out]; omega) HB7.out.size ?_; intro v8 w8 b8 g8 o8; have HB8 := Lib.hid (HB7.out.grown g8 HB7.out.size (fun q e => (BY7.out.in e).1)); have b8' : Bys w8 w5.heap.size v8 T3 := (by have h := b8; rw [List.nil_append, HT3.out] at h; exact h); obtain ⟨A8, c8, e8⟩ := b8'.form; rw [HTL.out] at e8; subst e8; have BY8 := Lib.hid b8'; clear b8 b8' g8 o8)
    | (go_at_call 22; (with_reducible refine (HCC.out _ _ _ _ (gro HB5.out HB8.out) (BY8.out.low (Nat.zero_le _)) BY8.out.cap).mono ?_); rintro e w9 ⟨gc, Fc, rfl, oc, fc, b9⟩; have OC := Lib.hid oc; have FC := Lib.hid fc; have HB9 := Lib.hid (gro (gro HB5.out HB8.out) b9); have OA9 := Lib.hid (OA5.out.stays (gro HB8.out b9)); have OB9 := Lib.hid (OB.out.stays (gro HB8.out b9)); clear oc fc b9)
    | (go_at_call 24; (with_reducible refine (HMK.out _ HB9.out).mono ?_); rintro e w10 ⟨A10, c10, Fm, rfl, y10, fm, b10⟩; have Y10 := Lib.hid y10; have FM := Lib.hid fm; have HB10 := Lib.hid (gro HB9.out b10); have OA10 := Lib.hid (OA9.out.stays b10); have OB10 := Lib.hid (OB9.out.stays b10); have OC10 := Lib.hid (OC.out.stays b10); clear y10 fm b10)
    | fail)
  go_loopg [25] K (fun m i wr => ∃ j : Nat, i = .int .i64 (j : Int) ∧ j ≤ K ∧ m = K - j ∧ Below w10.heap.size w10 wr)
  case atStart => exact ⟨0, by first | rfl | trivial, Nat.zero_le _, by first | rfl | trivial, Below.refl _ _⟩
  case round =>
    obtain ⟨j, rfl, hj, hmk, hb⟩ := hrel
    have HMK1 := Lib.hid hmk
    have HB := Lib.hid hb
    clear hmk hb
    by_cases hjK : j < K
    · have hjx : j < xs.length := by rw [HKK.out]; exact hjK
      have a1 := (OA10.out.stays HB.out).cell j hjK
      have b1 := (OB10.out.stays HB.out).cell j hjK
      have c1 := (OC10.out.stays HB.out).cell (U + j) (by have := HS3.out; omega)
      have hy := Y10.out.stays HB.out
      obtain ⟨gy, cy', ey, -, -⟩ := hy.pos (by rw [mskL_len]; omega)
      rw [mskL_len, HKK.out] at ey
      simp only [Value.slice.injEq] at ey
      obtain ⟨rfl, -, rfl⟩ := ey
      have y1 := hy.cell j (by rw [mskL_len]; exact hjx)
      have hyv := mskL_get Fm 42 xs xs.length j hjx
      rw [List.getD_eq_getElem?_getD, hyv] at y1
      have hw10 := (HB2.out.trans (HB10.out.mono HB2.out.size)).trans (HB.out.mono (HB2.out.trans (HB10.out.mono HB2.out.size)).size)
      obtain ⟨bx, ox, rfl, -, x1⟩ := (HRX.out.below hw10) j hjx
      obtain ⟨x0, hx0⟩ : ∃ x0, xs.getD j 0 = x0 := ⟨_, rfl⟩
      rw [hx0] at x1 y1
      have hfm : Fm j = Fb j := Bool.eq_iff_iff.2 ((FM.out j hjK).trans (FB.out j hjK).symm)
      have hab : Fa j = true → Fb j = true := fun h => (FB.out j hjK).2 (cov_few ((FA.out j hjK).1 h))
      have hbc : Fb j = true → Fc (U + j) = true := fun h => (FC.out (U + j) (by have := HS3.out; omega)).2 (by rw [← HT3.out, ← HUU.out]; exact cov_wide HWF.out hm0 ((FB.out j hjK).1 h))
      obtain ⟨fa, hfa⟩ : ∃ fa, Fa j = fa := ⟨_, rfl⟩
      obtain ⟨fb, hfb⟩ : ∃ fb, Fb j = fb := ⟨_, rfl⟩
      obtain ⟨fc, hfc⟩ : ∃ fc, Fc (U + j) = fc := ⟨_, rfl⟩
      rw [hfm, hfb] at y1
      rw [hfa] at a1 hab
      rw [hfb] at b1 hab hbc
      rw [hfc] at c1 hbc
      have j0 : (0 : Int) ≤ (j : Int) := by omega
      have j1 : (j : Int) < (K : Int) := by omega
      have j2 : (0 : Int) ≤ (U : Int) + (j : Int) := by omega
      have j3 : (U : Int) + (j : Int) < (S3 : Int) := by have := HS3.out; omega
      have j4 : ((U : Int) + (j : Int)).toNat = U + j := by omega
      have j5 : IntKind.i64.wrap ((U : Int) + (j : Int)) = (U : Int) + (j : Int) := IntWalk.i64_in _ (by omega)
      clear hfm hx0 hyv hy hfa hfb hfc hw10
      cases fb
      · have hfa0 : fa = false := by
          cases fa
          · rfl
          · exact absurd (hab rfl) (by decide)
        subst hfa0
        simp only [Bool.and_false, Bool.false_eq_true, if_false, Option.getD_some] at y1
        clear hab hbc
        go_wp2
        go_quiet (fail)
        go_wp2
        go_roundg (K - (j + 1))
        case measure => have := HMK1.out; omega
        case rel => exact ⟨j + 1, by go_num, by omega, rfl, below_dn HB.out _⟩
      · have hfc0 : fc = true := hbc rfl
        subst hfc0
        have hjd : decide (j < xs.length) = true := decide_eq_true hjx
        simp only [hjd, Bool.and_true, if_true, Option.getD_some] at y1
        clear hab hbc hjd
        cases fa
        all_goals
          go_wp2
          go_quiet (fail)
          go_wp2
          go_roundg (K - (j + 1))
          case measure => have := HMK1.out; omega
          case rel => exact ⟨j + 1, by go_num, by omega, rfl, below_dn HB.out _⟩
    · have hjk : j = K := by omega
      subst hjk
      go_wp2
      go_loopg [26] Q (fun m i wr => ∃ q : Nat, i = .int .i64 (q : Int) ∧ q ≤ Q ∧ m = Q - q ∧ Below w10.heap.size w10 wr)
      case atStart => exact ⟨0, by first | rfl | trivial, Nat.zero_le _, by first | rfl | trivial, HB.out⟩
      case round =>
        obtain ⟨q, rfl, hq, hmk, hb⟩ := hrel
        have HMK2 := Lib.hid hmk
        have HBQ := Lib.hid hb
        clear hmk hb
        by_cases hqQ : q < Q
        · have hql : q < l.length := by rw [HQQ.out]; exact hqQ
          obtain ⟨r, hr⟩ : ∃ r, l[q]? = some r := ⟨_, List.getElem?_eq_getElem hql⟩
          have hrm := List.mem_of_getElem? hr
          have hwr' := HWF.out r hrm
          have hw3 : ∀ W, Below wr.heap.size wr W → Below w3.heap.size w3 W := fun W hW => HB10.out.trans ((gro HBQ.out hW).mono HB10.out.size)
          have hw0 : ∀ W, Below wr.heap.size wr W → Below w.heap.size w W := fun W hW => HB2.out.trans ((hw3 W hW).mono HB2.out.size)
          obtain ⟨g2, o2, k2, rfl, hg2, hcc2, ht2⟩ := HR2.out q r hr
          obtain ⟨A4, n4, c4, rfl⟩ := ht2.form
          have c2c := fun q' u hu => ((hw3 wr (Below.refl _ _)).cell (p := ⟨g2, o2 + q * 9 + q', none⟩) hg2).trans (hcc2 q' u hu)
          have x0 : wr.cell? ⟨g2, o2 + q * 9, none⟩ = some (.int .i64 r.1.op) := c2c 0 _ rfl
          have x1 := c2c 1 _ rfl
          have x2 := c2c 2 _ rfl
          have x3 := c2c 3 _ rfl
          have x4 := c2c 4 _ rfl
          have x5 := c2c 5 _ rfl
          have x6 := c2c 6 _ rfl
          have x7 := c2c 7 _ rfl
          have x8 := c2c 8 _ rfl
          obtain ⟨bv, hbv⟩ : ∃ bv : Bool, (bv = true ↔ Fit xs r 0 xs.length) := by
            by_cases hE : Fit xs r 0 xs.length
            · exact ⟨true, by simp [hE]⟩
            · exact ⟨false, by simp [hE]⟩
          have hfm : ∀ W, Below wr.heap.size wr W → Calls Tryd.prog 19 #[ruleP r (.slice A4 n4 c4), .slice X j cx] W fun e w' => e = .returned (.bool bv) ∧ Below wr.heap.size wr w' := fun W hW => by
            have h := mfits_p (w := W) (c := cx) (r := r) hwr' (ht2.stays (hw3 W hW)) ((HRX.out.below (hw0 W hW)).more (hw0 W hW).size) HBX.out (by rw [HKK.out]; omega) (HTB.out.below (hw0 W hW) HTB.out.1)
            rw [HKK.out] at h
            exact h.mono fun e w' ⟨b, h1, h2, h3⟩ => ⟨by rw [h1, show b = bv from Bool.eq_iff_iff.2 (h2.trans (by rw [hbv, HKK.out]))], gro hW h3⟩
          unfold ruleP at hfm
          have HFM := Lib.hid hfm
          have q0 : (0 : Int) ≤ (q : Int) := by omega
          have q1 : (q : Int) < (Q : Int) := by omega
          have hwh : ∀ wv : Bool, (wv = true → bv = true ∧ (j : Int) ≤ lam) → ∀ i, i < j → wv = true → Fb i = true := fun wv hwv i hi h => by
            obtain ⟨h1, h2⟩ := hwv h
            exact (FB.out i hi).2 (cov_whole hrm (hbv.1 h1) (by rw [HKK.out]; exact h2) (by rw [HKK.out]; exact hi))
          have HWH := Lib.hid hwh
          clear hr hrm hwr' hcc2 ht2 c2c hbv hfm hw3 hw0 hwh
          have hcase : (bv = false) ∨ (bv = true ∧ ¬ (1 : Int) ≤ (j : Int)) ∨ (bv = true ∧ (1 : Int) ≤ (j : Int) ∧ ¬ (j : Int) ≤ lam) ∨ (bv = true ∧ (1 : Int) ≤ (j : Int) ∧ (j : Int) ≤ lam) := by
            cases bv
            · exact .inl rfl
            · by_cases j1 : (1 : Int) ≤ (j : Int)
              · by_cases j2 : (j : Int) ≤ lam
                · exact .inr (.inr (.inr ⟨rfl, j1, j2⟩))
                · exact .inr (.inr (.inl ⟨rfl, j1, j2⟩))
              · exact .inr (.inl ⟨rfl, j1⟩)
          rcases hcase with rfl | ⟨rfl, j1⟩ | ⟨rfl, j1, j2⟩ | ⟨rfl, j1, j2⟩
          case' inl => go_wp2_with (first | (go_at_call 19; (with_reducible refine (HFM.out _ (Below.refl _ _)).mono ?_); rintro e w11 ⟨rfl, b11⟩; have HB11 := Lib.hid b11; clear b11) | fail)
          case' inr.inl => have d1 : decide ((1 : Int) ≤ (j : Int)) = false := decide_eq_false j1
          case' inr.inl => go_wp2_with (first | (go_at_call 19; (with_reducible refine (HFM.out _ (Below.refl _ _)).mono ?_); rintro e w11 ⟨rfl, b11⟩; have HB11 := Lib.hid b11; clear b11) | fail)
          case' inr.inr.inl => have d1 : decide ((1 : Int) ≤ (j : Int)) = true := decide_eq_true j1
          case' inr.inr.inl => have d2 : decide ((j : Int) ≤ lam) = false := decide_eq_false j2
          case' inr.inr.inl => go_wp2_with (first | (go_at_call 19; (with_reducible refine (HFM.out _ (Below.refl _ _)).mono ?_); rintro e w11 ⟨rfl, b11⟩; have HB11 := Lib.hid b11; clear b11) | fail)
          case' inr.inr.inr => have d1 : decide ((1 : Int) ≤ (j : Int)) = true := decide_eq_true j1
          case' inr.inr.inr => have d2 : decide ((j : Int) ≤ lam) = true := decide_eq_true j2
          case' inr.inr.inr => go_wp2_with (first | (go_at_call 19; (with_reducible refine (HFM.out _ (Below.refl _ _)).mono ?_); rintro e w11 ⟨rfl, b11⟩; have HB11 := Lib.hid b11; clear b11) | fail)
          all_goals
            go_loopg [28] j (fun m i wr => ∃ i' : Nat, i = .int .i64 (i' : Int) ∧ i' ≤ j ∧ m = j - i' ∧ Below w10.heap.size w10 wr)
            case atStart => exact ⟨0, by first | rfl | trivial, Nat.zero_le _, by first | rfl | trivial, gro HBQ.out HB11.out⟩
            case round =>
              obtain ⟨i', rfl, hi', hmk', hb'⟩ := hrel
              have HMK3 := Lib.hid hmk'
              have HBI := Lib.hid hb'
              clear hmk' hb'
              by_cases hij : i' < j
              · have b1 := (OB10.out.stays HBI.out).cell i' hij
                have i0 : (0 : Int) ≤ (i' : Int) := by omega
                have i1 : (i' : Int) < (j : Int) := by omega
                try rw [HWH.out true (fun _ => ⟨by first | rfl | simp, j2⟩) i' hij rfl] at b1
                go_wp2
                go_roundg (j - (i' + 1))
                case measure => have := HMK3.out; omega
                case rel => exact ⟨i' + 1, by go_num, by omega, rfl, HBI.out⟩
              · have hij' : i' = j := by omega
                subst hij'
                go_wp2
                go_roundg (Q - (q + 1))
                case measure => have := HMK2.out; omega
                case rel => exact ⟨q + 1, by go_num, by omega, rfl, HBI.out⟩
        · have hqq : q = Q := by omega
          subst hqq
          go_wp2
          go_ret
          exact ⟨rfl, (HB2.out.trans (HB10.out.mono HB2.out.size)).trans (HBQ.out.mono (HB2.out.trans (HB10.out.mono HB2.out.size)).size)⟩
end Go.Proofs.YtccbeimcggamiaaDoor
