/-
  WHAT IS PROVED: for all texts of rules, all truths, any numbers and any bytes the law MaskMore (layer 9, promise P9.3) returns true and leaves its arguments as they were: the tied card: the table of math/bits.TrailingZeros64 reads as the program's own text lays it. Conditions: none beside the card's own tie.
-/
import Derived.Test.YtccbeimcggamiaaDoorMmLaw9c
import Derived.Test.YtccbeimcggamiaaDoorMk1
import Derived.Test.YtccbeimcggamiaaDoorMk2
import Derived.Test.YtccbeimcggamiaaDoorMk3
import Derived.Test.YtccbeimcggamiaaDoorMk4
import Derived.Test.YtccbeimcggamiaaDoorMk5
import Derived.Test.YtccbeimcggamiaaDoorMk6
import Derived.Test.YtccbeimcggamiaaDoorMk7
import Derived.Test.YtccbeimcggamiaaDoorMk8
import Derived.Test.YtccbeimcggamiaaDoorMk9
import Derived.Test.YtccbeimcggamiaaDoorMk10
import Derived.Test.YtccbeimcggamiaaDoorMk11
import Derived.Test.YtccbeimcggamiaaDoorMk12
import Derived.Test.YtccbeimcggamiaaDoorMk13
import Derived.Test.YtccbeimcggamiaaDoorMk14
import Derived.Test.YtccbeimcggamiaaDoorMk15
import Derived.Test.YtccbeimcggamiaaDoorMk16
import Derived.Test.YtccbeimcggamiaaDoorMk17
import Derived.Test.YtccbeimcggamiaaDoorMk18
import Derived.Test.YtccbeimcggamiaaDoorMk19
import Derived.Test.YtccbeimcggamiaaDoorMk20
import Derived.Test.YtccbeimcggamiaaDoorMk21
import Derived.Test.YtccbeimcggamiaaDoorMk22
set_option linter.unusedVariables false
set_option linter.unusedSimpArgs false
namespace Go.Proofs.YtccbeimcggamiaaDoor
open Go Go.ChangeShapes Go.WideShapes Go.ChangeAt Go.RowKit

set_option maxRecDepth 100000 in
theorem maskMore_lifted (os : Os) (started : os.Started) (H : Type) (enc : TypeId × Value → H) :
    ReturnsInHanded {} Tryd.checked os 6 .any (fun w args => (Rows.maskMoreSpec.pre enc Tryd.prog Tryd.f6 [] false w args ∧ laidMetH Tryd.prog laidDe w) ∧ sizedMet enc Tryd.prog Tryd.f6 (OpenSpec.ofChange Rows.maskMoreSpec) false w args)
      (Rows.maskMoreSpec.post enc Tryd.prog Tryd.f6 false true false false) := by
  refine returnsInHanded_of_change_and (C := Tryd.checked) (X := fun w _ => laidMetH Tryd.prog laidDe w) (fun _ _ _ hh h => h.of_heap hh) Tryd.ownKnobNone started (by kernel_rfl) Tryd.func6
    (ChangeSpec.witness_shaped (enc := enc) (C := Tryd.checked) (os := os) (X := fun w _ => laidMetH Tryd.prog laidDe w) false (World.doorLaid Tryd.prog 14 os) #[.slice none 0 0, .slice none 0 0, .int .i64 0, .int .i64 0, .int .i64 0, .slice none 0 0, .slice none 0 0, .slice none 0 0] 8 rfl (World.shaped_of_RefB (by kernel_rfl) (by kernel_rfl)) (by kernel_rfl) (by kernel_rfl) (by kernel_rfl) (door_met os _)) ?_
  intro W base args ds gs before hval0 hW _ _ hL _
  have hval : ∀ (j : Nat) t v, Tryd.f6.params[j]? = some t → args[j]? = some v → Value.okWide Tryd.prog W .any base t v := hval0
  have hW' := hW
  obtain ⟨p, q, hA0, hV, rfl, hfz, hnd⟩ := hW
  have hA : DataW.TrodAll enc Tryd.prog W 0 (fun _ => true) true Tryd.f6.params.toList args.toList ds p := hA0
  rw [Tryd.params6] at hA hval
  obtain ⟨v0, vs0, d0, ds0, p0, q0, hargs, rfl, rfl, h0, r0⟩ := trodAll_cons hA
  obtain ⟨v1, vs1, d1, ds1, p1, q1, rfl, rfl, rfl, h1, r1⟩ := trodAll_cons r0
  obtain ⟨v2, vs2, d2, ds2, p2, q2, rfl, rfl, rfl, h2, r2⟩ := trodAll_cons r1
  obtain ⟨v3, vs3, d3, ds3, p3, q3, rfl, rfl, rfl, h3, r3⟩ := trodAll_cons r2
  obtain ⟨v4, vs4, d4, ds4, p4, q4, rfl, rfl, rfl, h4, r4⟩ := trodAll_cons r3
  obtain ⟨v5, vs5, d5, ds5, p5, q5, rfl, rfl, rfl, h5, r5⟩ := trodAll_cons r4
  obtain ⟨v6, vs6, d6, ds6, p6, q6, rfl, rfl, rfl, h6, r6⟩ := trodAll_cons r5
  obtain ⟨v7, vs7, d7, ds7, p7, q7, rfl, rfl, rfl, h7, r7⟩ := trodAll_cons r6
  obtain ⟨rfl, rfl, rfl⟩ := trodAll_nil r7
  obtain rfl : args = #[v0, v1, v2, v3, v4, v5, v6, v7] := by cases args; simp_all
  obtain ⟨rfl, rfl⟩ := trodVars_none hV
  have lt0 : ∀ x ∈ p0, x.block < W.heap.size := by obtain ⟨m, hm⟩ := h0; exact DataW.trod_lt m _ _ _ hm
  have lt1 : ∀ x ∈ p1, x.block < W.heap.size := by obtain ⟨m, hm⟩ := h1; exact DataW.trod_lt m _ _ _ hm
  have lt2 : ∀ x ∈ p2, x.block < W.heap.size := by obtain ⟨m, hm⟩ := h2; exact DataW.trod_lt m _ _ _ hm
  have lt3 : ∀ x ∈ p3, x.block < W.heap.size := by obtain ⟨m, hm⟩ := h3; exact DataW.trod_lt m _ _ _ hm
  have lt4 : ∀ x ∈ p4, x.block < W.heap.size := by obtain ⟨m, hm⟩ := h4; exact DataW.trod_lt m _ _ _ hm
  have lt5 : ∀ x ∈ p5, x.block < W.heap.size := by obtain ⟨m, hm⟩ := h5; exact DataW.trod_lt m _ _ _ hm
  have lt6 : ∀ x ∈ p6, x.block < W.heap.size := by obtain ⟨m, hm⟩ := h6; exact DataW.trod_lt m _ _ _ hm
  have lt7 : ∀ x ∈ p7, x.block < W.heap.size := by obtain ⟨m, hm⟩ := h7; exact DataW.trod_lt m _ _ _ hm
  obtain ⟨A0, n0, cp0, L, rfl, rfl, rs0, le0, cm0, sy0⟩ := open_texts (hval 0 45 v0 rfl rfl) h0
  have lm0 : L.length ≤ 9223372036854775807 := by unfold maxLen at cm0; omega
  have sz0 : ∀ s ∈ L, s.size ≤ 9223372036854775807 := fun s hs => by have := sy0 s hs; unfold maxLen at this; omega
  obtain ⟨A1, n1, cp1, bs, rfl, rfl, rb1, le1, cm1⟩ := open_truths (hval 1 34 v1 rfl rfl) h1
  have lm1 : bs.length ≤ 9223372036854775807 := by unfold maxLen at cm1; omega
  obtain ⟨kp, rfl, _, _, z2⟩ := open_int Tryd.underlying3 (hval 2 3 v2 rfl rfl) h2
  obtain ⟨c2, e2⟩ := bounds_i64 z2
  obtain ⟨lam, rfl, _, _, z3⟩ := open_int Tryd.underlying3 (hval 3 3 v3 rfl rfl) h3
  obtain ⟨c3, e3⟩ := bounds_i64 z3
  obtain ⟨more, rfl, _, _, z4⟩ := open_int Tryd.underlying3 (hval 4 3 v4 rfl rfl) h4
  obtain ⟨c4, e4⟩ := bounds_i64 z4
  obtain ⟨A5, n5, cp5, us, rfl, rfl, rd5, by5, le5, cm5⟩ := open_bytes (hval 5 22 v5 rfl rfl) h5
  obtain ⟨A6, n6, cp6, xs, rfl, rfl, rd6, by6, le6, cm6⟩ := open_bytes (hval 6 22 v6 rfl rfl) h6
  obtain ⟨A7, n7, cp7, vs, rfl, rfl, rd7, by7, le7, cm7⟩ := open_bytes (hval 7 22 v7 rfl rfl) h7
  have htab := tab_of_laid hL
  clear hA0 hval0
  refine (maskmore_p (w := W) (ca := cp0) (cb := cp1) (cx := cp6) (cy := cp5) (cz := cp7) rs0 rb1 lm0 lm1 sz0 ⟨c2, e2⟩ ⟨c3, e3⟩ ⟨c4, e4⟩ rd5 (fun k h => by5 k h) rd6 (fun k h => by6 k h) le6 rd7 (fun k h => by7 k h) htab).mono fun e W' ⟨he, bel⟩ => ?_
  subst he
  exact ⟨_, rfl, _, _, _, [], _, [], hW', trodAll_mk1 (shut_bool Tryd.underlying4 _),
    (trodAll_cons_mk (Below.trod Tryd.laidOutOk (by kernel_rfl) (of_decide_eq_true (by kernel_rfl)) h0 bel lt0) (trodAll_cons_mk (Below.trod Tryd.laidOutOk (by kernel_rfl) (of_decide_eq_true (by kernel_rfl)) h1 bel lt1) (trodAll_cons_mk (Below.trod Tryd.laidOutOk (by kernel_rfl) (of_decide_eq_true (by kernel_rfl)) h2 bel lt2) (trodAll_cons_mk (Below.trod Tryd.laidOutOk (by kernel_rfl) (of_decide_eq_true (by kernel_rfl)) h3 bel lt3) (trodAll_cons_mk (Below.trod Tryd.laidOutOk (by kernel_rfl) (of_decide_eq_true (by kernel_rfl)) h4 bel lt4) (trodAll_cons_mk (Below.trod Tryd.laidOutOk (by kernel_rfl) (of_decide_eq_true (by kernel_rfl)) h5 bel lt5) (trodAll_cons_mk (Below.trod Tryd.laidOutOk (by kernel_rfl) (of_decide_eq_true (by kernel_rfl)) h6 bel lt6) (trodAll_cons_mk (Below.trod Tryd.laidOutOk (by kernel_rfl) (of_decide_eq_true (by kernel_rfl)) h7 bel lt7) trodAll_mk0)))))))),
    rfl, bel.frame _, fun h => by cases h⟩

theorem maskMore_said : Rows.MaskMoreSaid :=
  OpenClaim.holds_of_wide 6 Tryd.f6 rfl rfl rfl rfl rfl rfl rfl ⟨rfl, rfl, rfl, rfl, rfl⟩ rfl rfl rfl rfl rfl (by kernel_rfl) Tryd.func6 (by kernel_rfl)
    (of_decide_eq_true (by kernel_rfl)) (by unfold Func.isWrapper; first | (rw [if_pos (by decide +kernel)]; kernel_rfl) | (rw [if_neg (by decide +kernel)]; exact ⟨rfl, rfl⟩))
    (fun os started H enc _ => maskMore_lifted os started H enc)

theorem maskMore_card : Rows.MaskMoreCardSaid :=
  Claim7.holds_tied_plain_at .later [] [.data] true (true, "88c6720a7611b3843353533191917c8dff4c9b3ea03dacb786474d27de57fbcd") true
    maskMore_said (fun _ h => by cases h) (by kernel_rfl) (fun _ h => by cases h) maskMore_row_tie rfl ⟨rfl, rfl⟩ (by kernel_rfl) rfl
    (fun f fn hf hfn => by
      obtain rfl : f = 6 := Option.some.inj ((show Tryd.prog.funcNamed "snaffle/snafflelaw09.MaskMore" = some 6 by kernel_rfl).symm.trans hf) |>.symm
      obtain rfl : fn = Tryd.f6 := (Option.some.inj (Tryd.func6.symm.trans hfn)).symm
      exact ⟨by kernel_rfl, fun j t ht => by
        rw [Tryd.params6] at ht
        have hm : t ∈ [45, 34, 3, 3, 3, 22, 22, 22] := by simpa using Array.mem_of_getElem? ht
        have hall : ([45, 34, 3, 3, 3, 22, 22, 22].all fun u => !Tryd.prog.wantsStandIn u) = true := by kernel_rfl
        exact (show Tryd.prog.wantsStandIn t = false by simpa using List.all_eq_true.1 hall t hm)⟩)
    (by kernel_rfl)

end Go.Proofs.YtccbeimcggamiaaDoor
