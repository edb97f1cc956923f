/-
  WHAT IS PROVED: for every list l of rules the law RulesShow (layer 14, promise P14.1) returns true and leaves its argument as it was: the tied card: two tables of unicode/utf8 read as the program's own text lays them. Conditions: none beside the card's own tie.
-/
import Derived.Test.YtgbcklnnbeimhaaDoorRulesShowQ
import Derived.Test.YtgbcklnnbeimhaaDoorRulTied
import Derived.Test.YtgbcklnnbeimhaaDoorRulOpen
set_option linter.unusedVariables false
set_option linter.unusedSimpArgs false
namespace Go.Proofs.YtgbcklnnbeimhaaDoor
open Go Go.ChangeShapes Go.WideShapes Go.ChangeAt Go.RowKit

set_option maxRecDepth 100000 in
theorem rulesShow_lifted (os : Os) (started : os.Started) (H : Type) (enc : TypeId × Value → H) :
    ReturnsInHanded {} Tryd.checked os 4 .any (fun w args => (Rows.rulesShowSpec.pre enc Tryd.prog Tryd.f4 [] false w args ∧ laidMetH Tryd.prog laidUtf w) ∧ sizedMet enc Tryd.prog Tryd.f4 (OpenSpec.ofChange Rows.rulesShowSpec) false w args)
      (Rows.rulesShowSpec.post enc Tryd.prog Tryd.f4 false true false false) := by
  refine handed_shaped_and (C := Tryd.checked) (X := fun w _ => laidMetH Tryd.prog laidUtf w) Tryd.ownKnobNone started (by kernel_rfl) Tryd.func4
    (ChangeSpec.witness_shaped (enc := enc) (C := Tryd.checked) (os := os) (X := fun w _ => laidMetH Tryd.prog laidUtf w) false (World.laidAll Tryd.prog os laidUtf) #[.slice none 0 0] 8 (World.laidAll_os _ _ _)
      (World.shaped_of_ZipB (by kernel_rfl) (by kernel_rfl)) (by kernel_rfl) (by kernel_rfl) (by kernel_rfl)
      (by rw [MakeChecks.laidMetH_plain _ _ _ (by kernel_rfl)]; exact laidMet_laidAll _ (by kernel_rfl) (by kernel_rfl))) ?_
  intro W base args ds gs before hval0 hW hsh hwg
  have hval : ∀ (j : Nat) t v, Tryd.f4.params[j]? = some t → args[j]? = some v → Value.okWide Tryd.prog W .any base t v := hval0
  have hW' := hW
  obtain ⟨p, q, hA0, hV, rfl, hfz, hnd⟩ := hW
  have hA : DataW.TrodAll enc Tryd.prog W 0 (fun _ => true) true Tryd.f4.params.toList args.toList ds p := hA0
  rw [Tryd.params4] at hA hval
  obtain ⟨v0, vs0, d0, ds0, p0, q0, hargs, rfl, rfl, h0, r0⟩ := trodAll_cons hA
  obtain ⟨rfl, rfl, rfl⟩ := trodAll_nil r0
  obtain rfl : args = #[v0] := by cases args; simp_all
  obtain ⟨rfl, rfl⟩ := trodVars_none hV
  have lt0 : ∀ x ∈ p0, x.block < W.heap.size := by obtain ⟨m, hm⟩ := h0; exact DataW.trod_lt m _ _ _ hm
  obtain ⟨A0, n0, cp0, l, rfl, rfl, rd0, by0, le0, cm0⟩ := open_rules14 (hval 0 23 v0 rfl rfl) h0
  have lm0 : l.length ≤ 9223372036854775807 := by unfold maxLen at cm0; omega
  have sz0 : ∀ (i : Nat) (x : Ru), l[i]? = some x → x.name.size ≤ 140737488351232 ∧ x.pat.size ≤ 140737488351232 := fun i x hx => by
    have hq : ∀ m, m = x.name.size ∨ m = x.pat.size → m ≤ 140737488351232 := fun m hm => by
      have hh := List.all_eq_true.1 hwg m (DataW.weights_mem_each (j := 0) (t := 23) (d := d0) (by rw [Tryd.params4]; rfl) (by rfl) m (by0 i x hx m hm))
      have e : reachBytes = 140737488351232 := rfl
      rw [e] at hh
      simpa using hh
    exact ⟨hq _ (.inl rfl), hq _ (.inr rfl)⟩
  clear hA0 hval0
  refine (rulesshow_q W A0 cp0 l rd0 sz0 lm0 (maxl_of_shaped hsh)).mono fun e W' ⟨he, bel⟩ => ?_
  subst he
  exact ⟨_, rfl, _, _, _, [], _, [], hW', trodAll_mk1 (shut_bool Tryd.underlying4 _),
    (trodAll_cons_mk (Below.trod Tryd.laidOutOk (by kernel_rfl) (of_decide_eq_true (by kernel_rfl)) h0 bel lt0) trodAll_mk0),
    rfl, bel.frame _, fun h => by cases h⟩

theorem rulesShow_said : Rows.RulesShowSaid :=
  OpenClaim.holds_of_wide 4 Tryd.f4 rfl rfl rfl rfl rfl rfl rfl ⟨rfl, rfl, rfl, rfl, rfl⟩ rfl rfl rfl rfl rfl (by kernel_rfl) Tryd.func4 (by kernel_rfl)
    (of_decide_eq_true (by kernel_rfl)) (by unfold Func.isWrapper; first | (rw [if_pos (by decide +kernel)]; kernel_rfl) | (rw [if_neg (by decide +kernel)]; exact ⟨rfl, rfl⟩))
    (fun os started H enc _ => rulesShow_lifted os started H enc)

theorem rulesShow_card : Rows.RulesShowCardSaid :=
  Claim7.holds_tied_plain_at .later [] [.data, .pinned] true (true, "881fa07a3dbff21f9c5cbc36d7b1a2fd224e126eb42ddd998b13a9a8fd36b562") true
    rulesShow_said (fun _ h => by cases h) (by kernel_rfl) (fun _ h => by cases h) rulesShow_row_tie rfl ⟨rfl, rfl⟩ (by kernel_rfl) rfl
    (fun f fn hf hfn => by
      obtain rfl : f = 4 := Option.some.inj ((show Tryd.prog.funcNamed "snaffle/snafflelaw14.RulesShow" = some 4 by kernel_rfl).symm.trans hf) |>.symm
      obtain rfl : fn = Tryd.f4 := (Option.some.inj (Tryd.func4.symm.trans hfn)).symm
      exact ⟨by kernel_rfl, fun j t ht => by
        rw [Tryd.params4] at ht
        have hm : t ∈ [23] := by simpa using Array.mem_of_getElem? ht
        have hall : ([23].all fun u => !Tryd.prog.wantsStandIn u) = true := by kernel_rfl
        exact (show Tryd.prog.wantsStandIn t = false by simpa using List.all_eq_true.1 hall t hm)⟩)
    (by kernel_rfl)

end Go.Proofs.YtgbcklnnbeimhaaDoor
