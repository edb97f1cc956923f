/-
  Several texts of this proof in one file: NfaRep2. No statement of its own.
-/
import Derived.Test.YtfgppmipaahleaaMn7
set_option linter.unusedVariables false
set_option linter.unusedSimpArgs false

/-
  nfa: a repetition laid out. Contracts for other texts; no statement of its own.
-/
namespace Go.Proofs.Ytfgppmipaahleaa
open Go Go.RowKit
attribute [local go_sem ↓] Go.wp_at_zero Go.wp_at_succ

set_option maxRecDepth 20000 in
set_option maxHeartbeats 4000000 in
theorem rep_p {u : T} (hu : LayOne u) (hwf : WF u) {w : World} {B gl : Nat} {s : Lay} {Q : Nat → Prop} {g o M H : Nat} (hMH : M ≤ H) (hH : H ≤ 32) (hlay : LayAt w B gl s Q) (hnode : NodeIn w g o (.mk 4 noneP (M : Int) (H : Int) [u]) Q) (hB : B ≤ w.heap.size)
    (hl : LInv s) (h1000 : s.sets.length + H * plR u ≤ 1000) :
    Calls Try.prog 55 #[.pointer (some ⟨gl, 0, none⟩), .pointer (some ⟨g, o, none⟩)] w (RetLay w B gl w.heap.size (repX (layP u) M (H - M) s).1 (repX (layP u) M (H - M) s).2 Q Q) := by
  obtain ⟨kv, hna, htr⟩ := hnode.node
  obtain ⟨A, n, c, rfl⟩ := htr.form
  have hn := htr.bound.1
  have hn1 : n = 1 := by rw [hn]; rfl
  subst hn1
  obtain ⟨gn, rfl, hkid⟩ := node_kid htr 0 (by simp [T.kids])
  have hkid' : NodeIn w gn 0 u Q := by simpa [T.kids] using hkid
  have hcells : ∀ q v, (nodeC (.mk 4 noneP (M : Int) (H : Int) [u]) (.slice (some ⟨gn, 0, none⟩) 1 c))[q]? = some v → w.cell? ⟨g, o + q, none⟩ = some v := hna
  have c5 := hcells 5 _ rfl
  have c6 := hcells 6 _ rfl
  have c7 := hcells 7 _ rfl
  have b4 := BoxS.new w (.slice none 0 0) (.slice none 0 0) false
  have hB1 : Below w.heap.size w (w.alloc (.cells #[.slice none 0 0, .slice none 0 0, .bool false] 87)) := (Below.refl _ _).alloc (Nat.le_refl _) _
  have hgo := hnode.out
  have hmul : H * plR u = M * plR u + (H - M) * plR u := by rw [← Nat.add_mul]; congr 1; omega
  change w.cell? ⟨g, o + 5, none⟩ = some (.int .i64 (M : Int)) at c5
  change w.cell? ⟨g, o + 6, none⟩ = some (.int .i64 (H : Int)) at c6
  change w.cell? ⟨g, o + 7, none⟩ = some (.slice (some ⟨gn, 0, none⟩) 1 c) at c7
  obtain ⟨D, hD⟩ : ∃ D, H - M = D := ⟨_, rfl⟩
  rw [hD] at hmul ⊢
  have HU := Lib.hid hu
  have HWF := Lib.hid hwf
  have HLAY := Lib.hid hlay
  have HKID := Lib.hid hkid'
  have HC : Hid (w.cell? ⟨g, o + 5, none⟩ = some (.int .i64 (M : Int)) ∧ w.cell? ⟨g, o + 6, none⟩ = some (.int .i64 (H : Int)) ∧ w.cell? ⟨g, o + 7, none⟩ = some (.slice (some ⟨gn, 0, none⟩) 1 c)) := ⟨c5, c6, c7⟩
  have HGO := Lib.hid hgo
  have HL := Lib.hid hl
  have HBW := Lib.hid hB
  have HNUM := Lib.hid (And.intro hmul h1000)
  have hwr : IntKind.i64.wrap ((H : Int) - (M : Int)) = (D : Int) := by rw [IntWalk.i64_in _ (by omega)]; omega
  have hM32 : M ≤ 32 := by omega
  have hD32 : D ≤ 32 := by omega
  clear hu hwf hlay hnode hl hB h1000 hmul hcells hna htr hkid hkid' hgo hn c5 c6 c7 hD
  have d5 := cell_stays HC.out.1 hB1
  go_enter Try.func55, Try.ntmps55
  go_wp2_with (go_at_call 65; (with_reducible refine (nothing_p _).mono ?_); rintro e wa ⟨rfl, hb1⟩; have hs0 := Hold.start (x := .nothing) (gro1 (Below.refl _ _) hb1) (b4.stays hb1) (Nat.le_refl _) HLAY.out (fun w C Q => str_nothing w C Q); have d5' := cell_stays (cell_stays HC.out.1 (gro1 (Below.refl _ _) hb1)) ((Below.refl wa.heap.size wa).alloc (Nat.le_refl _) (.cells #[.slice none 0 0, .slice none 0 0, .bool true] 87)))
  have hs0' : Hold w (wa.alloc (.cells #[.slice none 0 0, .slice none 0 0, .bool true] 87)) B gl s .nothing Q Q w.heap.size wa.heap.size (.slice none 0 0) (.slice none 0 0) := hs0
  have HS := Lib.hid hs0'
  clear hs0 hs0' b4 hB1 hb1 d5 d5'
  go_loopg [11] M (fun m i wr => ∃ k : Nat, i = .int .i64 (k : Int) ∧ k ≤ M ∧ m = M - k ∧ ∃ v1 v2 Qr, Hold w wr B gl (copies (layP u) k s .nothing).1 (copies (layP u) k s .nothing).2 Q Qr w.heap.size wa.heap.size v1 v2)
  case atStart => exact ⟨0, rfl, Nat.zero_le _, rfl, _, _, _, HS.out⟩
  case round =>
    obtain ⟨k, rfl, hk, hmk, v1, v2, Qr, hh⟩ := hrel
    have HMK := Lib.hid hmk
    clear hmk
    obtain ⟨A1, m1, c1, rfl⟩ := hh.str.first.form3
    obtain ⟨A2, m2, c2, rfl⟩ := hh.str.last.form3
    have hf := copies_facts HWF.out k s HL.out
    have hhs := hh.kept.size
    have hng : ¬ Q g := HGO.out
    have e5 := hh.kept.cell HC.out.1 hng
    have e6 := hh.kept.cell HC.out.2.1 hng
    have e7 := hh.kept.cell HC.out.2.2 hng
    have hkn := HKID.out.kept hh.kept hh.new
    obtain ⟨c0, c1', c2'⟩ := hh.box.cell
    by_cases hkl : k < M
    · have hsn := copies_snoc (layP u) k s .nothing
      have hkM : (k + 1) * plR u ≤ M * plR u := Nat.mul_le_mul_right _ hkl
      rw [Nat.succ_mul] at hkM
      obtain ⟨sk, hsk⟩ : ∃ sk, (copies (layP u) k s .nothing).1 = sk := ⟨_, rfl⟩
      obtain ⟨xk, hxk⟩ : ∃ xk, (copies (layP u) k s .nothing).2 = xk := ⟨_, rfl⟩
      rw [hsk, hxk] at hh hf hsn
      rw [hxk] at c2'
      have hls := lay_size HWF.out sk
      have h1k := hf.size
      have hBw : B ≤ w.heap.size := HBW.out
      have hnum := HNUM.out
      have hcall := HU.out wr.drew B gl sk Qr gn 0 hh.lay.drew hkn.drew (show B ≤ wr.heap.size by omega) hf.inv (by omega)
      unfold RetLay at hcall
      have HCL := Lib.hid hcall
      have HH := Lib.hid hh.drew
      have HF := Lib.hid hf
      have HSN := Lib.hid hsn
      have HLS := Lib.hid (show (layP u sk).1.sets.length ≤ 1000 by omega)
      have k0 : (0 : Int) ≤ (k : Int) := by omega
      have k1 : (k : Int) < (M : Int) := by omega
      clear hcall hh hf hsn hkn hls h1k hkM hsk hxk hnum e5 e6
      go_upto_region 4 with fail
      go_region_law (first
        | (go_simp; go_at_call 26; (refine HCL.out.mono ?_); rintro e w5 ⟨u1, u2, Q5, rfl, l5, s5, k5, q5⟩; have h5 := HH.out.laid l5 k5 q5; obtain ⟨d0, d1, d2⟩ := h5.box.cell; have H5 := Lib.hid h5; have S5 := Lib.hid s5; have T5 := Lib.hid (HH.out.two s5); clear h5 s5 l5 k5 q5)
        | (go_simp; go_at_call 66; have hj := hold_join (t := u) (s0 := sk) (x := xk) HWF.out HF.out.inv HF.out.nice H5.out S5.out T5.out HH.out.kept.size HBW.out HLS.out; (refine hj.mono ?_); rintro e w6 ⟨z1, z2, Q6, rfl, -, b6, r6, h6⟩; clear hj; obtain ⟨Z1, zm1, zc1, rfl⟩ := h6.str.first.form3; obtain ⟨Z2, zm2, zc2, rfl⟩ := h6.str.last.form3; have H6 := Lib.hid h6; obtain ⟨f0, f1, f2⟩ := b6.cell; obtain ⟨y0, y1, y2⟩ := b6.frozen; clear h6 b6 r6)
        | fail)
      all_goals
        go_wp2
        go_roundg (M - (k + 1))
        case measure => have := HMK.out; omega
        case rel => exact ⟨k + 1, by go_num, by omega, rfl, _, _, Q6, by rw [HSN.out]; exact H6.out⟩
    · have hkM : k = M := by omega
      subst hkM
      obtain ⟨sk, xk, hsk⟩ : ∃ a b, copies (layP u) k s .nothing = (a, b) := ⟨_, _, rfl⟩
      rw [hsk] at hh hf c2'
      obtain ⟨s8', y2, e2⟩ : ∃ a b, within (layP u) D sk = (a, b) := ⟨_, _, rfl⟩
      have hW : repX (layP u) k D s = (joinL s8' xk y2, joinX xk y2) := by
        show (joinL (within (layP u) D (copies (layP u) k s .nothing).1).1 (copies (layP u) k s .nothing).2 (within (layP u) D (copies (layP u) k s .nothing).1).2, joinX (copies (layP u) k s .nothing).2 (within (layP u) D (copies (layP u) k s .nothing).1).2) = _
        rw [hsk]
        simp only [e2]
      simp only at hh hf c2'
      have hf2 := within_facts HWF.out D sk hf.inv
      have hn2 := nice_within HWF.out D hf.inv hf.nice
      rw [e2] at hf2 hn2
      simp only at hf2 hn2
      have h1k : sk.sets.length = s.sets.length + k * plR u := hf.size
      have h2k : s8'.sets.length = sk.sets.length + D * plR u := hf2.size
      have h3k : s8'.sets.length ≤ 1000 := by have h := HNUM.out; rw [h.1] at h; omega
      have hnum := HNUM.out
      have hBw : B ≤ w.heap.size := HBW.out
      have hcall := within_p HU.out HWF.out D wr.drew B gl sk Qr gn 0 (by omega) hh.lay.drew hkn.drew (show B ≤ wr.heap.size by omega) hf.inv (by omega)
      rw [e2] at hcall
      unfold RetLay at hcall
      have HCL := Lib.hid hcall
      have HH := Lib.hid hh.drew
      have HF2 := Lib.hid hf2
      have HN2 := Lib.hid hn2
      have HWW := Lib.hid hW
      have H1000 := Lib.hid h3k
      clear hcall hh hf hf2 hn2 hkn h1k h2k h3k hnum hW hsk e2
      go_upto_region 6 with fail
      go_region_law (first
        | (go_simp; go_at_call 67; (refine HCL.out.mono ?_); rintro e w8 ⟨p1, p2, Q8, rfl, l8, s8, k8, q8⟩; have h8 := HH.out.laid l8 k8 q8; obtain ⟨A5, m5, c5, rfl⟩ := s8.first.form3; obtain ⟨A6, m6, c6, rfl⟩ := s8.last.form3; obtain ⟨j0, j1, j2⟩ := h8.box.cell; have ee5 := h8.kept.cell HC.out.1 HGO.out; have ee6 := h8.kept.cell HC.out.2.1 HGO.out; have ee7 := h8.kept.cell HC.out.2.2 HGO.out; have H8 := Lib.hid h8; have S8 := Lib.hid (s8.low (C' := w.heap.size) HH.out.kept.size); have T8 := Lib.hid (HH.out.two s8); clear h8 s8 l8 k8 q8)
        | (go_simp; go_at_call 66; have hj := join_p (a := s.sets.length) (b := sk.sets.length) (c := s8'.sets.length) (C := w.heap.size) H8.out.lay H8.out.str S8.out T8.out (Nat.le_trans HBW.out H8.out.kept.size) H8.out.kept.size HF2.out.inv HN2.out HF2.out.nice (Nat.le_refl _) H1000.out; (refine hj.mono ?_); rintro e w9 ⟨z1, z2, Q9, rfl, l9, s9, k9, q9⟩; clear hj; obtain ⟨A7, m7, c7, rfl⟩ := s9.first.form3; obtain ⟨A8, m8, c8, rfl⟩ := s9.last.form3; have J9 := joined_of H8.out l9 s9 k9 q9 H8.out.box H8.out.n5 H8.out.h5 H8.out.ne; obtain ⟨yy0, yy1, yy2⟩ := J9.1.res.cell; obtain ⟨xx0, xx1, xx2⟩ := J9.1.res.frozen; have JJ := Lib.hid J9.1; clear J9 l9 s9 k9 q9)
        | fail)
      all_goals
        go_wp2
        refine ret_str (x := 4) rfl rfl rfl (JJ.out.res.put _ _ _) ?_
        rw [HWW.out]
        exact JJ.out.told ((((Kept.refl (fun b => b = w.heap.size ∨ b = wa.heap.size) w9).setCell (a := ⟨w.heap.size, 0, none⟩) (.inl (.inl rfl)) _).setCell (a := ⟨w.heap.size, 1, none⟩) (.inl (.inl rfl)) _).setCell (a := ⟨w.heap.size, 2, none⟩) (.inl (.inl rfl)) _) rfl rfl
end Go.Proofs.Ytfgppmipaahleaa
