/-
  Layer 14's law RulesShow. No statement of its own: the statement's proof is another text.
-/
import Derived.Test.YtgbcklnnbeimhaaDoorRulLaw
set_option linter.unusedVariables false
set_option linter.unusedSimpArgs false
namespace Go.Proofs.YtgbcklnnbeimhaaDoor
open Go Go.RowKit

theorem showL_small : ∀ (l : List Ru), (∀ x ∈ l, x.name.size + x.pat.size ≤ 1000) → (showL l).length ≤ 1010 * l.length
  | [], _ => Nat.le_refl _
  | x :: l, h => by
    have h1 := h x (by simp)
    have h2 := showL_small l fun y hy => h y (by simp [hy])
    have h3 := lineT_len x
    have h4 : (if x.luhn then luhnT else plainT).size ≤ 5 := by split <;> decide
    rw [showL, List.length_append, List.length_cons, List.length_cons]
    omega

set_option maxRecDepth 20000 in
set_option maxHeartbeats 2000000 in
theorem rulesshow_p (w : World) (A : Option Addr) (c : Nat) (l : List Ru) (h : RdRu w A l) (hy : ∀ (i : Nat) (x : Ru), l[i]? = some x → x.name.size ≤ 140737488351232 ∧ x.pat.size ≤ 140737488351232) (hl : l.length ≤ 9223372036854775807) (hm : MaxL w) :
    Calls Tryd.prog 4 #[.slice A l.length c] w fun e w' => e = .returned (.bool true) ∧ Below w.heap.size w w' := by
  have HU := Lib.hid (up14_p w hm)
  by_cases hbig : 20 < l.length
  · obtain ⟨N, hN⟩ : ∃ N, l.length = N := ⟨_, rfl⟩
    rw [hN] at hbig ⊢
    have hl' : (20 : Int) < (N : Int) := by omega
    clear hbig
    go_enter Tryd.func4, Tryd.ntmps4
    go_wp2_with (go_at_call 6; (with_reducible refine HU.out.mono ?_); rintro e w1 ⟨rfl, hb1⟩)
    go_ret
    exact ⟨rfl, hb1⟩
  have hS := Lib.hid (fun W z h => show_p W A c l (by omega) z h)
  have hD := Lib.hid (fun W z h => dshow_p W A c l (by omega) z h)
  have HSM := Lib.hid (showL_small l)
  obtain ⟨N, hN⟩ : ∃ N, l.length = N := ⟨_, rfl⟩
  have HNN := Lib.hid hN
  rw [hN] at hbig hS hD ⊢
  have hl' : ¬ (20 : Int) < (N : Int) := by omega
  have HN20 : Hid (N ≤ 20) := Lib.hid (by omega)
  have HR := Lib.hid h
  have HY := Lib.hid hy
  clear h hN hl hy hbig
  go_enter Tryd.func4, Tryd.ntmps4
  go_wp2_with (go_at_call 6; (with_reducible refine HU.out.mono ?_); rintro e w1 ⟨rfl, hb1⟩)
  have HB1 := Lib.hid hb1
  clear hb1
  go_loopg [4] N (fun mm i wr => ∃ k : Nat, i = .int .i64 (k : Int) ∧ k ≤ N ∧ mm = N - k ∧ (∀ j x, j < k → l[j]? = some x → x.name.size + x.pat.size ≤ 1000) ∧ Below w.heap.size w wr)
  case atStart => exact ⟨0, rfl, Nat.zero_le _, rfl, fun j x h => absurd h (Nat.not_lt_zero _), HB1.out⟩
  case round =>
    obtain ⟨k, rfl, hk, hmk, hno, hbw⟩ := hrel
    have HMK := Lib.hid hmk
    have HNO := Lib.hid hno
    have HBW := Lib.hid hbw
    clear hmk hno hbw
    by_cases hkN : k < N
    · have hkN' : (k : Int) < (N : Int) := by omega
      obtain ⟨x, hx⟩ : ∃ x, l[k]? = some x := ⟨_, List.getElem?_eq_getElem (by rw [HNN.out]; exact hkN)⟩
      have hsz := HY.out k x hx
      obtain ⟨g, off, rfl, hg, c0, c1, c2⟩ := (HR.out.stays HBW.out) k x hx
      have HX := Lib.hid hx
      clear hx
      obtain ⟨xn, xp, xl⟩ := x
      simp only at c0 c1 c2 hsz
      have i1 : IntKind.i64.wrap ((xn.size : Int) + (xp.size : Int)) = (xn.size : Int) + (xp.size : Int) := IntWalk.i64_in _ (by omega)
      by_cases h1000 : 1000 < xn.size + xp.size
      · have h1 : (1000 : Int) < (xn.size : Int) + (xp.size : Int) := by omega
        clear hsz h1000
        go_wp2
        go_quiet (fail)
        go_wp2
        go_ret
        exact ⟨rfl, below_drN HBW.out _⟩
      · have h1 : ¬ (1000 : Int) < (xn.size : Int) + (xp.size : Int) := by omega
        have HE : Hid (xn.size + xp.size ≤ 1000) := Lib.hid (by omega)
        clear hsz h1000
        go_wp2
        go_quiet (fail)
        go_wp2
        go_roundg (N - (k + 1))
        case measure => have := HMK.out; omega
        case rel => exact ⟨k + 1, by go_num, by omega, rfl, fun j y hj hy => (by rcases Nat.lt_succ_iff_lt_or_eq.1 hj with h' | rfl; exact HNO.out j y h' hy; rw [HX.out] at hy; cases hy; exact HE.out), below_drN HBW.out _⟩
    · have hkl : k = N := by omega
      subst hkl
      have HZ : Hid ((showL l).length ≤ 100000) := Lib.hid (by
        have h1 := HSM.out fun x hx => by
          obtain ⟨j, hj⟩ := List.getElem?_of_mem hx
          exact HNO.out j x (by have := (List.getElem?_eq_some_iff.1 hj).1; rw [HNN.out] at this; exact this) hj
        have h2 := HNN.out
        have h3 := HN20.out
        rw [h2] at h1
        omega)
      obtain ⟨ss, hss⟩ : ∃ ss, ByteArray.mk (showL l).toArray = ss := ⟨_, rfl⟩
      simp only [hss] at hS hD
      have hqq : (ss.toList == ss.toList) = true := by simp
      go_wp2_with (first
        | (go_at_call 11; (with_reducible refine (hS.out _ HZ.out (HR.out.stays HBW.out)).mono ?_); rintro e w2 ⟨rfl, hb2⟩; have HB2 := Lib.hid (gro HBW.out hb2); clear hb2)
        | (go_at_call 12; (with_reducible refine (hD.out _ HZ.out (HR.out.stays HB2.out)).mono ?_); rintro e w3 ⟨rfl, hb3⟩))
      go_ret
      exact ⟨rfl, gro HB2.out hb3⟩
end Go.Proofs.YtgbcklnnbeimhaaDoor
