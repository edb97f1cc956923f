/-
  The document's rule of a line. Contracts for other texts; no statement of its own.
-/
import Derived.Test.YtgbcklnnbeimhaaDoorRulRead
import Derived.Test.YtgbcklnnbeimhaaDoorOrdT
set_option linter.unusedVariables false
set_option linter.unusedSimpArgs false
namespace Go.Proofs.YtgbcklnnbeimhaaDoor
open Go Go.RowKit

set_option maxRecDepth 20000 in
set_option maxHeartbeats 2000000 in
theorem drule_p (w : World) (s : ByteArray) (hs : s.size ≤ 100000) : Calls Tryd.prog 18 #[.string s] w (RetRule w s) := by
  obtain ⟨N, hN⟩ : ∃ N, s.size = N := ⟨_, rfl⟩
  have h0 := RB.new w ⟨⟨#[]⟩, ⟨#[]⟩, false⟩
  have hb0 := (Below.refl w.heap.size w).alloc (Nat.le_refl _) (.cells #[.string ⟨#[]⟩, .string ⟨#[]⟩, .bool false] 35)
  have HBX0 := Lib.hid h0
  have HB0 := Lib.hid hb0
  obtain ⟨x0, x1, x2⟩ := h0.cell
  have y0 := h0.frozen 0
  have y1 := h0.frozen 1
  have y2 := h0.frozen 2
  clear h0 hb0
  go_enter Tryd.func18, Tryd.ntmps18
  go_wp2
  go_loopg [4, 5, 6] N (fun mm fi la i wr => ∃ k : Nat, i = .int .i64 (k : Int) ∧ k ≤ N ∧ mm = N - k ∧ fi = .int .i64 (firstI s 32 k) ∧ la = .int .i64 (lastI s 32 k) ∧ wr = w.alloc (.cells #[.string ⟨#[]⟩, .string ⟨#[]⟩, .bool false] 35))
  case atStart => exact ⟨0, rfl, Nat.zero_le _, rfl, rfl, rfl, rfl⟩
  case round =>
    obtain ⟨k, rfl, hk, hmk, rfl, rfl, rfl⟩ := hrel
    have HMK := Lib.hid hmk
    clear hmk
    by_cases hkN : k < N
    · have hkN' : (k : Int) < (N : Int) := by omega
      have hks : k < s.size := by omega
      have hbe : (s[k]'hks).toNat = bt s k := (bt_eq s k hks).symm
      obtain ⟨f', hf'⟩ : ∃ f', firstI s 32 (k + 1) = f' := ⟨_, rfl⟩
      obtain ⟨l', hl'⟩ : ∃ l', lastI s 32 (k + 1) = l' := ⟨_, rfl⟩
      have HF' := Lib.hid hf'
      have HL' := Lib.hid hl'
      rw [firstI] at hf'
      rw [lastI] at hl'
      obtain ⟨f, hf⟩ : ∃ f, firstI s 32 k = f := ⟨_, rfl⟩
      obtain ⟨l, hl⟩ : ∃ l, lastI s 32 k = l := ⟨_, rfl⟩
      obtain ⟨B, hB⟩ : ∃ B : Nat, bt s k = B := ⟨_, rfl⟩
      rw [hf, hB] at hf'
      rw [hl, hB] at hl'
      rw [hB] at hbe
      rw [hf, hl]
      clear hf hl hB
      rcases beq_two (B : Int) 32 with ⟨e5, h5⟩ | ⟨e5, h5⟩
      · have e6 : B = 32 := by omega
        rw [if_pos e6] at hl'
        by_cases hneg : f < 0
        · rw [if_pos ⟨hneg, e6⟩] at hf'
          have HFF := Lib.hid hf'
          have HLL := Lib.hid hl'
          clear hf' hl' e6 h5
          go_wp2
          go_roundg (N - (k + 1))
          case measure => have := HMK.out; omega
          case rel => exact ⟨k + 1, by go_num, by omega, rfl, by rw [HF'.out, ← HFF.out], by rw [HL'.out, ← HLL.out], rfl⟩
        · rw [if_neg fun h => hneg h.1] at hf'
          have HFF := Lib.hid hf'
          have HLL := Lib.hid hl'
          clear hf' hl' e6 h5
          go_wp2
          go_roundg (N - (k + 1))
          case measure => have := HMK.out; omega
          case rel => exact ⟨k + 1, by go_num, by omega, rfl, by rw [HF'.out, ← HFF.out], by rw [HL'.out, ← HLL.out], rfl⟩
      · have e6 : B ≠ 32 := by omega
        rw [if_neg e6] at hl'
        rw [if_neg fun h => e6 h.2] at hf'
        have HFF := Lib.hid hf'
        have HLL := Lib.hid hl'
        clear hf' hl' e6 h5
        go_wp2
        go_roundg (N - (k + 1))
        case measure => have := HMK.out; omega
        case rel => exact ⟨k + 1, by go_num, by omega, rfl, by rw [HF'.out, ← HFF.out], by rw [HL'.out, ← HLL.out], rfl⟩
    · have hkl : k = N := by omega
      rw [hkl]
      clear hk HMK hkl hkN
      by_cases hfew : lastI s 32 s.size < firstI s 32 s.size + 2
      · have HR := Lib.hid (ruleT_few s hfew)
        obtain ⟨h1, h2, h3, h4⟩ := first_last s 32 s.size
        rw [hN] at hfew h1 h2 h3 h4
        obtain ⟨F, hF⟩ : ∃ F, firstI s 32 N = F := ⟨_, rfl⟩
        obtain ⟨L, hL⟩ : ∃ L, lastI s 32 N = L := ⟨_, rfl⟩
        rw [hF, hL] at h1 h4 hfew
        rw [hF] at h2
        rw [hL] at h3
        rw [hF, hL]
        rw [hN] at hs
        have i1 : IntKind.i64.wrap (F + 2) = F + 2 := IntWalk.i64_in _ (by omega)
        clear hF hL h1 h2 h3 h4
        by_cases hneg : F < 0
        · go_wp2
          exact bodyPost_ret (results_ru Tryd.results18 rfl rfl HBX0.out) rfl ⟨⟨⟨⟨#[]⟩, ⟨#[]⟩, false⟩, by rw [HR.out]; rfl, fun x h => by rw [HR.out] at h; cases h⟩, HB0.out⟩
        · go_wp2
          exact bodyPost_ret (results_ru Tryd.results18 rfl rfl HBX0.out) rfl ⟨⟨⟨⟨#[]⟩, ⟨#[]⟩, false⟩, by rw [HR.out]; rfl, fun x h => by rw [HR.out] at h; cases h⟩, HB0.out⟩
      · obtain ⟨F, L, nm, pt, kd, hc⟩ := cutl s hfew
        clear hfew
        have HR := Lib.hid hc.rule
        obtain ⟨hz1, hz2, hz3⟩ := hc.small
        have HN := Lib.hid (fun W => named_p W nm (by omega))
        obtain ⟨h1, h2, h3, h4, h5, h6, h7⟩ := hc
        rw [hN] at h1 h2 h4 h7 hs
        rw [h1, h2]
        clear h1 h2 hz1 hz2 hz3
        have g1 : ¬ (F : Int) < 0 := by omega
        have i2 : IntKind.i64.wrap ((F : Int) + 2) = (F : Int) + 2 := IntWalk.i64_in _ (by omega)
        have i5 : ¬ (L : Int) < (F : Int) + 2 := by omega
        have i3 : IntKind.i64.wrap ((F : Int) + 1) = (F : Int) + 1 := IntWalk.i64_in _ (by omega)
        have i4 : IntKind.i64.wrap ((L : Int) + 1) = (L : Int) + 1 := IntWalk.i64_in _ (by omega)
        have k1 : (F : Int) ≤ (N : Int) := by omega
        have k2 : (F : Int) + 1 ≤ (L : Int) := by omega
        have k3 : (L : Int) ≤ (N : Int) := by omega
        have k4 : (L : Int) + 1 ≤ (N : Int) := by omega
        have q1 : (0 : Int) ≤ (F : Int) + 1 := by omega
        have q2 : (0 : Int) ≤ (L : Int) + 1 := by omega
        have t1 : ((F : Int) + 1).toNat = F + 1 := by omega
        have t2 : ((L : Int) + 1).toNat = L + 1 := by omega
        clear h3 h4 hs
        obtain ⟨lb, hlb⟩ : ∃ lb, decide (kd = luhnT) = lb := ⟨_, rfl⟩
        have e2 : (kd.toList == [108, 117, 104, 110]) = lb := (str_lit kd #[108, 117, 104, 110]).trans hlb
        have HLB := Lib.hid hlb
        clear hlb
        go_wp2
        go_region
        obtain ⟨W1, hW1⟩ : ∃ W1, (w.alloc (.cells #[.string ⟨#[]⟩, .string ⟨#[]⟩, .bool false] 35)) = W1 := ⟨_, rfl⟩
        rw [hW1] at HBX0 HB0 x0 x1 x2 y0 y1 y2 ⊢
        have hz : W1.heap.size = w.heap.size + 1 := by rw [← hW1]; simp
        clear hW1
        rw [← hz]
        obtain ⟨W2, hW2⟩ : ∃ W2, (W1.alloc (.cells #[.string nm, .string pt, .bool lb] 35)).drew = W2 := ⟨_, rfl⟩
        have hbn : RB W2 W1.heap.size ⟨nm, pt, lb⟩ := by rw [← hW2]; exact (RB.new W1 ⟨nm, pt, lb⟩)
        have hbo : RB W2 w.heap.size ⟨⟨#[]⟩, ⟨#[]⟩, false⟩ := by rw [← hW2]; exact (HBX0.out.stays ((Below.refl _ _).alloc (Nat.le_refl _) (.cells #[.string nm, .string pt, .bool lb] 35))).drewN 1
        have HB2 : Hid (Below w.heap.size w W2) := Lib.hid (by rw [← hW2]; exact (HB0.out.alloc HB0.out.size _).drew)
        rw [hW2]
        clear hW2 x0 x1 x2 y0 y1 y2
        obtain ⟨x0, x1, x2⟩ := hbn.cell
        obtain ⟨z0, z1, z2⟩ := hbo.cell
        have y0 := hbo.frozen 0
        have y1 := hbo.frozen 1
        have y2 := hbo.frozen 2
        have HBO := Lib.hid hbo
        have hne : w.heap.size ≠ W1.heap.size := by omega
        have hne' : W1.heap.size ≠ w.heap.size := by omega
        clear hbn hbo hz
        cases hn : nameOk nm with
        | false =>
          simp only [hn] at HN
          go_wp2_with (go_at_call 27; (with_reducible refine (HN.out _).mono ?_); rintro e w1 ⟨rfl, rfl⟩)
          go_region
          have HNO : Hid (¬ (nameOk nm = true ∧ (kd = luhnT ∨ kd = plainT))) := Lib.hid (by rw [hn]; simp)
          have hX := HBO.out.put nm pt lb
          have hY := ((HB2.out.setCell (p := ⟨w.heap.size, 0, none⟩) (Nat.le_refl _) (.string nm)).setCell (p := ⟨w.heap.size, 1, none⟩) (Nat.le_refl _) (.string pt)).setCell (p := ⟨w.heap.size, 2, none⟩) (Nat.le_refl _) (.bool lb)
          have HX := Lib.hid hX
          have HY := Lib.hid hY
          clear hX hY
          go_wp2
          exact bodyPost_ret (results_ru Tryd.results18 rfl rfl (HX.out.drewN 1)) rfl ⟨⟨_, by rw [HR.out, if_neg HNO.out]; rfl, fun x h => by rw [HR.out, if_neg HNO.out] at h; cases h⟩, below_drN HY.out 1⟩
        | true =>
          simp only [hn] at HN
          cases lb with
          | true =>
            have HNO : Hid (nameOk nm = true ∧ (kd = luhnT ∨ kd = plainT)) := Lib.hid ⟨hn, .inl (of_decide_eq_true HLB.out)⟩
            go_wp2_with (go_at_call 27; (with_reducible refine (HN.out _).mono ?_); rintro e w1 ⟨rfl, rfl⟩)
            go_region
            have hX := HBO.out.put nm pt true
            have hY := ((HB2.out.setCell (p := ⟨w.heap.size, 0, none⟩) (Nat.le_refl _) (.string nm)).setCell (p := ⟨w.heap.size, 1, none⟩) (Nat.le_refl _) (.string pt)).setCell (p := ⟨w.heap.size, 2, none⟩) (Nat.le_refl _) (.bool true)
            have HX := Lib.hid hX
            have HY := Lib.hid hY
            clear hX hY
            go_wp2
            exact bodyPost_ret (results_ru Tryd.results18 rfl rfl (HX.out.drewN 1)) rfl ⟨⟨_, by rw [HR.out, if_pos HNO.out]; rfl, fun x h => by rw [HR.out, if_pos HNO.out, HLB.out] at h; cases h; rfl⟩, below_drN HY.out 1⟩
          | false =>
            by_cases hp : kd = plainT
            · have e1 : (kd.toList == [112, 108, 97, 105, 110]) = true := (str_lit kd #[112, 108, 97, 105, 110]).trans (decide_eq_true hp)
              have HNO : Hid (nameOk nm = true ∧ (kd = luhnT ∨ kd = plainT)) := Lib.hid ⟨hn, .inr hp⟩
              clear hp
              go_wp2_with (go_at_call 27; (with_reducible refine (HN.out _).mono ?_); rintro e w1 ⟨rfl, rfl⟩)
              go_region
              have hX := HBO.out.put nm pt false
              have hY := ((HB2.out.setCell (p := ⟨w.heap.size, 0, none⟩) (Nat.le_refl _) (.string nm)).setCell (p := ⟨w.heap.size, 1, none⟩) (Nat.le_refl _) (.string pt)).setCell (p := ⟨w.heap.size, 2, none⟩) (Nat.le_refl _) (.bool false)
              have HX := Lib.hid hX
              have HY := Lib.hid hY
              clear hX hY
              go_wp2
              exact bodyPost_ret (results_ru Tryd.results18 rfl rfl (HX.out.drewN 1)) rfl ⟨⟨_, by rw [HR.out, if_pos HNO.out]; rfl, fun x h => by rw [HR.out, if_pos HNO.out, HLB.out] at h; cases h; rfl⟩, below_drN HY.out 1⟩
            · have e1 : (kd.toList == [112, 108, 97, 105, 110]) = false := (str_lit kd #[112, 108, 97, 105, 110]).trans (decide_eq_false hp)
              have HNO : Hid (¬ (nameOk nm = true ∧ (kd = luhnT ∨ kd = plainT))) := Lib.hid fun h => h.2.elim (of_decide_eq_false HLB.out) hp
              clear hp
              go_wp2_with (go_at_call 27; (with_reducible refine (HN.out _).mono ?_); rintro e w1 ⟨rfl, rfl⟩)
              go_region
              have hX := HBO.out.put nm pt false
              have hY := ((HB2.out.setCell (p := ⟨w.heap.size, 0, none⟩) (Nat.le_refl _) (.string nm)).setCell (p := ⟨w.heap.size, 1, none⟩) (Nat.le_refl _) (.string pt)).setCell (p := ⟨w.heap.size, 2, none⟩) (Nat.le_refl _) (.bool false)
              have HX := Lib.hid hX
              have HY := Lib.hid hY
              clear hX hY
              go_wp2
              exact bodyPost_ret (results_ru Tryd.results18 rfl rfl (HX.out.drewN 1)) rfl ⟨⟨_, by rw [HR.out, if_neg HNO.out]; rfl, fun x h => by rw [HR.out, if_neg HNO.out] at h; cases h⟩, below_drN HY.out 1⟩
end Go.Proofs.YtgbcklnnbeimhaaDoor
