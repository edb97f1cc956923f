/-
  luhn: Sum and Ok. Contracts for other texts; no statement of its own.
-/
import Derived.Test.YtoigllolilibhaaBase
import Derived.Test.YtoigllolilibhaaLuhMath
import Derived.Lib.Hide
import Derived.Deep.LoopGhost
set_option linter.unusedVariables false
set_option linter.unusedSimpArgs false
namespace Go.Proofs.Ytoigllolilibhaa
open Go Go.RowKit

theorem ret_i64 {a b : Int} (h : a = b) : Ending.returned (.int .i64 a) = .returned (.int .i64 b) := by rw [h]
theorem part_p (w : World) (d : Int) (k : Nat) (h0 : 0 ≤ d) (h9 : d ≤ 9) (hk : k ≤ 9000000000000000000) :
    Calls Try.prog 45 #[.int .i64 d, .int .i64 ((k : Int) + 1)] w fun e w' => e = .returned (.int .i64 (wt k d)) ∧ w = w' := by
  by_cases hodd : k % 2 = 1
  · have e : wt k d = if 9 < 2 * d then 2 * d - 9 else 2 * d := by simp [wt, hodd]
    have HE := Lib.hid e
    clear e
    have h1 : (((k : Int) + 1) % 2 == 1) = false := by simp; omega
    have h2 : ¬ ((k : Int) + 1) % 2 = 1 := by omega
    by_cases h4 : 4 < d
    · go_enter Try.func45, Try.ntmps45
      go_wp2
      go_ret
      exact ⟨ret_i64 (by rw [HE.out, if_pos (by omega)]), rfl⟩
    · go_enter Try.func45, Try.ntmps45
      go_wp2
      go_ret
      exact ⟨ret_i64 (by rw [HE.out, if_neg (by omega)]), rfl⟩
  · have e : wt k d = d := by simp [wt, hodd]
    have HE := Lib.hid e
    clear e
    have h1 : (((k : Int) + 1) % 2 == 1) = true := by simp; omega
    have h2 : ((k : Int) + 1) % 2 = 1 := by omega
    go_enter Try.func45, Try.ntmps45
    go_wp2
    go_ret
    exact ⟨ret_i64 HE.out.symm, rfl⟩

set_option maxHeartbeats 400000 in
theorem lsum_p (A : Option Addr) (n cap : Nat) (xs : List Int) (w : World) (B : Nat) (hn : n = xs.length) (hr : RdB w B A xs) (hxs : ∀ k, k < xs.length → 0 ≤ xs.getD k 0 ∧ xs.getD k 0 ≤ 255) (hm : n ≤ 9000000000000000000) :
    Calls Try.prog 24 #[.slice A n cap] w fun e w' => e = .returned (.tuple #[.int .i64 (lN xs : Nat), .int .i64 (lS xs)]) ∧ w = w' := by
  have HN := Lib.hid hn
  have HX := Lib.hid hxs
  have hlen := lN_le xs
  rw [← hn] at hlen
  have HL := Lib.hid hlen
  clear hn hxs hlen
  go_enter Try.func24, Try.ntmps24
  go_wp2
  go_loop [4, 5, 6] (fun s4 s5 s6 => ∃ k : Nat, k ≤ n ∧ s6 = .int .i64 ((k : Int) - 1) ∧ s4 = .int .i64 (lN (xs.drop k) : Nat) ∧ s5 = .int .i64 (lS (xs.drop k))) (fun _ _ s6 => (intOf s6 + 1).toNat)
  case atStart => exact ⟨n, Nat.le_refl _, by go_num, by rw [HN.out, List.drop_length]; rfl, by rw [HN.out, List.drop_length]; rfl⟩
  case round =>
    obtain ⟨k, hk, rfl, rfl, rfl⟩ := hrel
    by_cases hk0 : k = 0
    · subst hk0
      go_wp2
      go_ret2
      exact ⟨rfl, rfl⟩
    · obtain ⟨j, rfl⟩ : ∃ j, k = j + 1 := ⟨k - 1, by omega⟩
      have hjx : j < xs.length := by rw [← HN.out]; omega
      obtain ⟨b, off, rfl, hbB, hc⟩ := hr j hjx
      have hx := HX.out j hjx
      have HD := Lib.hid (drop_cons xs j hjx)
      obtain ⟨v, hv⟩ : ∃ v, v = xs.getD j 0 := ⟨_, rfl⟩
      rw [← hv] at hx hc HD
      have hbd := lS_bd (xs.drop (j + 1))
      have hl1 : lN (xs.drop (j + 1)) ≤ n := by have := lN_le (xs.drop (j + 1)); have hN' := HN.out; simp at this; omega
      obtain ⟨N, hN⟩ : ∃ N, lN (xs.drop (j + 1)) = N := ⟨_, rfl⟩
      obtain ⟨S, hS⟩ : ∃ S, lS (xs.drop (j + 1)) = S := ⟨_, rfl⟩
      rw [hN] at hl1 
      rw [hS] at hbd
      rw [hN, hS]
      have HNN := Lib.hid hN
      have HSS := Lib.hid hS
      have e1 : ((j + 1 : Nat) : Int) - 1 = (j : Int) := by omega
      rw [e1]
      clear hN hS hv hjx e1 hk0
      cases hd : isD v
      · have HNo := Lib.hid hd
        rcases isD_no hd with hlo | hhi
        · clear hd
          go_wp2
          go_round
          case rel => exact ⟨j, by omega, by go_num, by rw [HD.out, lN_no _ HNo.out, HNN.out], by rw [HD.out, lS_no _ HNo.out, HSS.out]⟩
          case measure => simp [intOf]
        · clear hd
          go_wp2
          go_round
          case rel => exact ⟨j, by omega, by go_num, by rw [HD.out, lN_no _ HNo.out, HNN.out], by rw [HD.out, lS_no _ HNo.out, HSS.out]⟩
          case measure => simp [intOf]
      · have HYes := Lib.hid hd
        obtain ⟨h48, h57⟩ := isD_yes hd
        have hw := wt_bd N (v - 48) (by omega) (by omega)
        have HW := part_p (w := w) (v - 48) N (by omega) (by omega) (by omega)
        clear hd
        obtain ⟨p, hp⟩ : ∃ p, wt N (v - 48) = p := ⟨_, rfl⟩
        rw [hp] at hw HW
        have HP := Lib.hid hp
        clear hp
        go_wp2_with (go_at_call 45; (with_reducible refine HW.mono ?_); rintro e w' ⟨rfl, rfl⟩)
        go_round
        case rel => exact ⟨j, by omega, by go_num, by rw [HD.out, lN_yes _ HYes.out, HNN.out]; go_num, by rw [HD.out, lS_yes _ HYes.out, HNN.out, HSS.out, HP.out]⟩
        case measure => simp [intOf]

set_option maxHeartbeats 400000 in
theorem lok_p (A : Option Addr) (n cap : Nat) (xs : List Int) (w : World) (B : Nat) (hn : n = xs.length) (hr : RdB w B A xs) (hxs : ∀ k, k < xs.length → 0 ≤ xs.getD k 0 ∧ xs.getD k 0 ≤ 255) (hm : n ≤ 9000000000000000000) :
    Calls Try.prog 26 #[.slice A n cap] w fun e w' => e = .returned (.bool (decide (2 ≤ lN xs) && decide (lS xs = 0))) ∧ w = w' := by
  have H := lsum_p A n cap xs w B hn hr hxs hm
  have hl := lN_le xs
  have hb := lS_bd xs
  rw [← hn] at hl
  clear hr hxs hn
  obtain ⟨N, hN⟩ : ∃ N, lN xs = N := ⟨_, rfl⟩
  obtain ⟨S, hS⟩ : ∃ S, lS xs = S := ⟨_, rfl⟩
  rw [hN, hS] at H
  rw [hN] at hl
  rw [hS] at hb
  rw [hN, hS]
  clear hN hS
  by_cases h2 : 2 ≤ N
  · by_cases h0 : S = 0
    · subst h0
      go_enter Try.func26, Try.ntmps26
      go_wp2_with (go_at_call 24; (with_reducible refine H.mono ?_); rintro e w' ⟨rfl, rfl⟩)
      go_ret
      simp [h2]
    · have h0' : (S == 0) = false := by simpa using h0
      go_enter Try.func26, Try.ntmps26
      go_wp2_with (go_at_call 24; (with_reducible refine H.mono ?_); rintro e w' ⟨rfl, rfl⟩)
      go_ret
      simp [h0]
  · go_enter Try.func26, Try.ntmps26
    go_wp2_with (go_at_call 24; (with_reducible refine H.mono ?_); rintro e w' ⟨rfl, rfl⟩)
    go_ret
    simp [h2]
end Go.Proofs.Ytoigllolilibhaa
