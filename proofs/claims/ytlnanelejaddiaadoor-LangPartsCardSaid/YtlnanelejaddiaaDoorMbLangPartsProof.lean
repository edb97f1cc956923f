/-
  WHAT IS PROVED: for every two texts s, t and all bytes v, w the law LangParts (layer 3, promise P3.3) returns true and leaves its arguments as they were: the tied card: the table of math/bits.TrailingZeros64 reads as the program's own text lays it. Conditions: none beside the card's own tie.
-/
import Derived.Test.YtlnanelejaddiaaDoorMbLaw3d
import Derived.Test.YtlnanelejaddiaaDoorMbLaw3e
import Derived.Test.YtlnanelejaddiaaDoorMbLaw3f
import Derived.Test.YtlnanelejaddiaaDoorMaLangTellsProof
set_option linter.unusedVariables false
set_option linter.unusedSimpArgs false
namespace Go.Proofs.YtlnanelejaddiaaDoor
open Go Go.ChangeShapes Go.WideShapes Go.ChangeAt Go.RowKit

theorem langparts_p {w : World} {s s' : ByteArray} {c c' : Nat} {xs ys : List Int} {A A' : Option Addr} (hs : s.size ≤ 9223372036854775807) (hs' : s'.size ≤ 9223372036854775807) (htab : Tab w)
    (hrd : RdB w w.heap.size A xs) (hby : ∀ k, k < xs.length → 0 ≤ xs.getD k 0 ∧ xs.getD k 0 ≤ 255) (hrd' : RdB w w.heap.size A' ys) (hby' : ∀ k, k < ys.length → 0 ≤ ys.getD k 0 ∧ ys.getD k 0 ≤ 255) :
    Calls Tryd.prog 4 #[.string s, .string s', .slice A xs.length c, .slice A' ys.length c'] w fun e w' => e = .returned (.bool true) ∧ Below w.heap.size w w' := by
  by_cases hp : ∃ t, parse s = .ok t ∧ plN t ≤ 60
  · by_cases hq : ∃ t, parse s' = .ok t ∧ plN t ≤ 60
    · by_cases hx : xs.length ≤ 40
      · by_cases hy : ys.length ≤ 40
        · obtain ⟨t, hp1, hp2⟩ := hp
          obtain ⟨u, hq1, hq2⟩ := hq
          by_cases h1 : E xs t 0 xs.length
          · by_cases h2 : E ys u 0 ys.length
            · exact langparts_11 hs hs' htab hrd hby hrd' hby' hp1 hp2 hq1 hq2 hx hy h1 h2
            · exact langparts_10 hs hs' htab hrd hby hrd' hby' hp1 hp2 hq1 hq2 hx hy h1 h2
          · by_cases h2 : E ys u 0 ys.length
            · exact langparts_01 hs hs' htab hrd hby hrd' hby' hp1 hp2 hq1 hq2 hx hy h1 h2
            · exact langparts_00 hs hs' htab hrd hby hrd' hby' hp1 hp2 hq1 hq2 hx hy h1 h2
        · exact langparts_out hs hs' htab (.inr (.inr (.inr (by omega))))
      · exact langparts_out hs hs' htab (.inr (.inr (.inl (by omega))))
    · exact langparts_out hs hs' htab (.inr (.inl hq))
  · exact langparts_out hs hs' htab (.inl hp)

set_option maxRecDepth 100000 in
theorem langParts_lifted (os : Os) (started : os.Started) (H : Type) (enc : TypeId × Value → H) :
    ReturnsInHanded {} Tryd.checked os 4 .any (fun w args => (Rows.langPartsSpec.pre enc Tryd.prog Tryd.f4 [] false w args ∧ laidMetH Tryd.prog laidDe w) ∧ sizedMet enc Tryd.prog Tryd.f4 (OpenSpec.ofChange Rows.langPartsSpec) false w args)
      (Rows.langPartsSpec.post enc Tryd.prog Tryd.f4 false true false false) := by
  refine returnsInHanded_of_change_and (C := Tryd.checked) (X := fun w _ => laidMetH Tryd.prog laidDe w) (fun _ _ _ hh h => h.of_heap hh) Tryd.ownKnobNone started (by kernel_rfl) Tryd.func4
    (ChangeSpec.witness_shaped (enc := enc) (C := Tryd.checked) (os := os) (X := fun w _ => laidMetH Tryd.prog laidDe w) false (World.doorLaid Tryd.prog 14 os) #[.string ⟨#[]⟩, .string ⟨#[]⟩, .slice none 0 0, .slice none 0 0] 8 rfl (World.shaped_of_RefB (by kernel_rfl) (by kernel_rfl)) (by kernel_rfl) (by kernel_rfl) (by kernel_rfl) (door_met os _)) ?_
  intro W base args ds gs before hval0 hW _ _ hL _
  have hval : ∀ (j : Nat) t v, Tryd.f4.params[j]? = some t → args[j]? = some v → Value.okWide Tryd.prog W .any base t v := hval0
  have hW' := hW
  obtain ⟨p, q, hA0, hV, rfl, hfz, hnd⟩ := hW
  have hA : DataW.TrodAll enc Tryd.prog W 0 (fun _ => true) true Tryd.f4.params.toList args.toList ds p := hA0
  rw [Tryd.params4] at hA hval
  obtain ⟨v0, vs0, d0, ds0, p0, q0, hargs, rfl, rfl, h0, r0⟩ := trodAll_cons hA
  obtain ⟨v1, vs1, d1, ds1, p1, q1, rfl, rfl, rfl, h1, r1⟩ := trodAll_cons r0
  obtain ⟨v2, vs2, d2, ds2, p2, q2, rfl, rfl, rfl, h2, r2⟩ := trodAll_cons r1
  obtain ⟨v3, vs3, d3, ds3, p3, q3, rfl, rfl, rfl, h3, r3⟩ := trodAll_cons r2
  obtain ⟨rfl, rfl, rfl⟩ := trodAll_nil r3
  obtain rfl : args = #[v0, v1, v2, v3] := by cases args; simp_all
  obtain ⟨rfl, rfl⟩ := trodVars_none hV
  have lt0 : ∀ x ∈ p0, x.block < W.heap.size := by obtain ⟨m, hm⟩ := h0; exact DataW.trod_lt m _ _ _ hm
  have lt1 : ∀ x ∈ p1, x.block < W.heap.size := by obtain ⟨m, hm⟩ := h1; exact DataW.trod_lt m _ _ _ hm
  have lt2 : ∀ x ∈ p2, x.block < W.heap.size := by obtain ⟨m, hm⟩ := h2; exact DataW.trod_lt m _ _ _ hm
  have lt3 : ∀ x ∈ p3, x.block < W.heap.size := by obtain ⟨m, hm⟩ := h3; exact DataW.trod_lt m _ _ _ hm
  obtain ⟨s, rfl, rfl, rfl, hs⟩ := Go.ChangeMaps.open_string Tryd.underlying9 (hval 0 9 v0 rfl rfl) h0
  obtain ⟨s', rfl, rfl, rfl, hs'⟩ := Go.ChangeMaps.open_string Tryd.underlying9 (hval 1 9 v1 rfl rfl) h1
  obtain ⟨A, n, cap, xs, rfl, rfl, hrd, hby, _, _⟩ := open_bytes (hval 2 22 v2 rfl rfl) h2
  obtain ⟨A', n', cap', ys, rfl, rfl, hrd', hby', _, _⟩ := open_bytes (hval 3 22 v3 rfl rfl) h3
  have hcap : s.size ≤ 9223372036854775807 := by unfold maxLen at hs; omega
  have hcap' : s'.size ≤ 9223372036854775807 := by unfold maxLen at hs'; omega
  have htab := tab_of_laid hL
  clear hA0 hval0
  refine (langparts_p (w := W) (c := cap) (c' := cap') hcap hcap' htab hrd hby hrd' hby').mono fun e W' ⟨he, bel⟩ => ?_
  subst he
  exact ⟨_, rfl, _, _, _, [], _, [], hW', trodAll_mk1 (shut_bool Tryd.underlying4 _),
    (trodAll_cons_mk (Below.trod Tryd.laidOutOk (by kernel_rfl) (of_decide_eq_true (by kernel_rfl)) h0 bel lt0) (trodAll_cons_mk (Below.trod Tryd.laidOutOk (by kernel_rfl) (of_decide_eq_true (by kernel_rfl)) h1 bel lt1) (trodAll_cons_mk (Below.trod Tryd.laidOutOk (by kernel_rfl) (of_decide_eq_true (by kernel_rfl)) h2 bel lt2) (trodAll_cons_mk (Below.trod Tryd.laidOutOk (by kernel_rfl) (of_decide_eq_true (by kernel_rfl)) h3 bel lt3) trodAll_mk0)))),
    rfl, bel.frame _, fun h => by cases h⟩

theorem langParts_said : Rows.LangPartsSaid :=
  OpenClaim.holds_of_wide 4 Tryd.f4 rfl rfl rfl rfl rfl rfl rfl ⟨rfl, rfl, rfl, rfl, rfl⟩ rfl rfl rfl rfl rfl (by kernel_rfl) Tryd.func4 (by kernel_rfl)
    (of_decide_eq_true (by kernel_rfl)) (by unfold Func.isWrapper; first | (rw [if_pos (by decide +kernel)]; kernel_rfl) | (rw [if_neg (by decide +kernel)]; exact ⟨rfl, rfl⟩))
    (fun os started H enc _ => langParts_lifted os started H enc)

theorem langParts_card : Rows.LangPartsCardSaid :=
  Claim7.holds_tied_plain_at .later [] [.data] true (true, "5f06e07ed34ada1c3f54aef3ca2f7c69a836ba489f8a19ae347ff3226e98f8de") false
    langParts_said (fun _ h => by cases h) (by kernel_rfl) (fun _ h => by cases h) langParts_row_tie rfl ⟨rfl, rfl⟩ (by kernel_rfl) rfl
    (fun f fn hf hfn => by
      obtain rfl : f = 4 := Option.some.inj ((show Tryd.prog.funcNamed "snaffle/snafflelaw03.LangParts" = some 4 by kernel_rfl).symm.trans hf) |>.symm
      obtain rfl : fn = Tryd.f4 := (Option.some.inj (Tryd.func4.symm.trans hfn)).symm
      exact ⟨by kernel_rfl, fun j t ht => by
        rw [Tryd.params4] at ht
        have hm : t ∈ [9, 9, 22, 22] := by simpa using Array.mem_of_getElem? ht
        have hall : ([9, 9, 22, 22].all fun u => !Tryd.prog.wantsStandIn u) = true := by kernel_rfl
        exact (show Tryd.prog.wantsStandIn t = false by simpa using List.all_eq_true.1 hall t hm)⟩)
    (by kernel_rfl)

end Go.Proofs.YtlnanelejaddiaaDoor
