/-
  luhn: the document's own Sum and Ok. Contracts for other texts; no statement of its own.
-/
import Derived.Test.YtoigllolilibhaaIntsApp
import Derived.Test.YtoigllolilibhaaLuhMath
import Derived.Lib.Hide
import Derived.Deep.LoopGhost
set_option linter.unusedVariables false
set_option linter.unusedSimpArgs false
namespace Go.Proofs.Ytoigllolilibhaa
open Go Go.RowKit

theorem ints_new (w : World) (B : Nat) (hB : B ≤ w.heap.size) (x : Int) : Ints (w.alloc (.cells #[.int .i64 x] 3)) B (.slice (some ⟨w.heap.size, 0, none⟩) 1 1) [x] :=
  ⟨by simp, .inr ⟨w.heap.size, 1, #[.int .i64 x], rfl, hB, heap_alloc_new w _, Nat.le_refl _, by decide, by simp, rfl⟩⟩
theorem take_snocG (xs : List Int) (k : Nat) (h : k < xs.length) : xs.take (k + 1) = xs.take k ++ [xs.getD k 0] := by
  rw [List.take_succ_eq_append_getElem h]
  simp [h]
theorem digs_take_le (xs : List Int) (k : Nat) : (digs (xs.take k)).length ≤ k := by
  rw [digs_len]
  have := lN_le (xs.take k)
  simp at this
  omega

set_option maxHeartbeats 1000000 in
theorem rsum_p (A : Option Addr) (n cap : Nat) (xs : List Int) (w : World) (hn : n = xs.length) (hr : RdB w w.heap.size A xs) (hxs : ∀ k, k < xs.length → 0 ≤ xs.getD k 0 ∧ xs.getD k 0 ≤ 255) (hm : n ≤ 50000) :
    Calls Try.prog 25 #[.slice A n cap] w fun e w' => e = .returned (.tuple #[.int .i64 (lN xs : Nat), .int .i64 (lS xs)]) ∧ Below w.heap.size w w' := by
  have HN := Lib.hid hn
  have HX := Lib.hid hxs
  clear hn hxs
  go_enter Try.func25, Try.ntmps25
  go_wp2
  go_loopg [4, 5] n (fun m s4 s5 wr => ∃ k : Nat, k ≤ n ∧ m = n - k ∧ s5 = .int .i64 (k : Int) ∧ Ints wr w.heap.size s4 (digs (xs.take k)) ∧ Below w.heap.size w wr)
  case atStart => exact ⟨0, Nat.zero_le _, rfl, rfl, Ints.nil _ _, Below.refl _ _⟩
  case round =>
    obtain ⟨k, hk, hmk, rfl, hI, hnx⟩ := hrel
    have HMK := Lib.hid hmk
    have hs := hnx.size
    have hdl := digs_take_le xs k
    clear hmk
    by_cases hlt : k < n
    · have hkx : k < xs.length := by rw [← HN.out]; exact hlt
      obtain ⟨b, off, rfl, hbB, hc⟩ := hr k hkx
      have hc1 := (hnx.cell (p := ⟨b, off + k, none⟩) hbB).trans hc
      have hx := HX.out k hkx
      have HT := Lib.hid (digs_snoc (xs.take k) (xs.getD k 0))
      have HTK := Lib.hid (take_snocG xs k hkx)
      obtain ⟨v, hv⟩ : ∃ v, v = xs.getD k 0 := ⟨_, rfl⟩
      rw [← hv] at hx hc1 HT HTK
      clear hc hv hkx hr
      cases hd : isD v
      · have HNo := Lib.hid hd
        rcases isD_no hd with hlo | hhi
        all_goals
          clear hd
          go_wp2
          go_roundg (n - (k + 1))
          case measure => have := HMK.out; omega
          case rel => exact ⟨k + 1, by omega, rfl, by go_num, by rw [HTK.out, HT.out, if_neg (by rw [HNo.out]; decide)]; exact hI, hnx⟩
      · have HYes := Lib.hid hd
        obtain ⟨h48, h57⟩ := isD_yes hd
        clear hd
        have hN := ints_new wr w.heap.size hs (v - 48)
        have hI2 := hI.alloc (.cells #[.int .i64 (v - 48)] 3)
        go_wp2_with (refine wpList_ints (by rfl) _ _ (by rfl) (by rfl) (by rfl) hN hI2 (by simp; omega) (by simp; omega) ?_; intro v' w2 h2 hg hor; go_simp)
        have h3 := hnx.alloc hs (.cells #[.int .i64 (v - 48)] 3)
        have h4 := h3.grown hg (by simp; omega) (fun j e => by cases e; exact hs)
        have H2 := Lib.hid h2
        clear h2 hg hor h3 hN hI hI2 hnx
        go_wp2
        go_roundg (n - (k + 1))
        case measure => have := HMK.out; omega
        case rel => exact ⟨k + 1, by omega, rfl, by go_num, by rw [HTK.out, HT.out, if_pos HYes.out]; exact H2.out, h4⟩
    · have hkn : k = n := by omega
      have ht : xs.take k = xs := by rw [List.take_of_length_le]; have := HN.out; omega
      rw [ht] at hI hdl
      have hdb := digs_bd xs
      have htb := tot_bd (digs xs) hdb
      have hL := digs_len xs
      have hall := tot_all xs
      have HALL := Lib.hid hall
      have HDB := Lib.hid hdb
      have HTB := Lib.hid htb
      obtain ⟨L, hLL⟩ : ∃ L, lN xs = L := ⟨_, rfl⟩
      rw [hLL] at hL HALL
      have hL2 : L ≤ n := by rw [← hL]; omega
      obtain ⟨Av, cv, rfl⟩ := hI.form
      rw [hL] at hI
      have HI := Lib.hid hI
      have HLD := Lib.hid hL
      have HLN := Lib.hid hLL
      rw [hL]
      clear hI hall hdb htb hL hLL hdl ht hlt
      go_wp2
      go_loop [6, 7] (fun s6 s7 => ∃ j : Nat, j ≤ L ∧ s7 = .int .i64 (j : Int) ∧ s6 = .int .i64 (tot (digs xs) j)) (fun _ s7 => L - (intOf s7).toNat)
      case atStart => exact ⟨0, Nat.zero_le _, rfl, rfl⟩
      case round =>
        obtain ⟨j, hj, rfl, rfl⟩ := hrel
        have hb := HTB.out j
        by_cases hjl : j < L
        · have hd := HDB.out j
          obtain ⟨g, c, e, hg1, hg2, hcell⟩ := HI.out.at j (by rw [HLD.out]; exact hjl)
          have hw := wt_bd j _ hd.1 hd.2
          have HS : Hid (tot (digs xs) (j + 1) = tot (digs xs) j + wt j ((digs xs).getD j 0)) := Lib.hid rfl
          have e2 : (digs xs)[j]'(by rw [HLD.out]; exact hjl) = (digs xs).getD j 0 := by simp [HLD.out, hjl]
          rw [e2] at hcell
          clear e2
          injection e with e _ _
          subst e
          obtain ⟨d, hdd⟩ : ∃ d, (digs xs).getD j 0 = d := ⟨_, rfl⟩
          rw [hdd] at hd hcell hw HS
          obtain ⟨T, hT⟩ : ∃ T, tot (digs xs) j = T := ⟨_, rfl⟩
          rw [hT] at HS hb
          rw [hT]
          clear hdd hT
          by_cases hodd : j % 2 = 1
          · have ew : wt j d = if 9 < 2 * d then 2 * d - 9 else 2 * d := by simp [wt, hodd]
            have EW := Lib.hid ew
            have o1 : ((j : Int) % 2 == 1) = true := by simp; omega
            have o2 : ((j : Int) % 2 = 1) := by omega
            clear ew hw hodd
            by_cases h9 : 9 < 2 * d
            · go_wp2
              go_round
              case rel => exact ⟨j + 1, by omega, by go_num, by rw [HS.out, EW.out, if_pos h9]⟩
              case measure => simp [intOf]; omega
            · go_wp2
              go_round
              case rel => exact ⟨j + 1, by omega, by go_num, by rw [HS.out, EW.out, if_neg h9]⟩
              case measure => simp [intOf]; omega
          · have ew : wt j d = d := by simp [wt, hodd]
            have EW := Lib.hid ew
            have o1 : ((j : Int) % 2 == 1) = false := by simp; omega
            have o2 : ¬ ((j : Int) % 2 = 1) := by omega
            clear ew hw hodd
            go_wp2
            go_round
            case rel => exact ⟨j + 1, by omega, by go_num, by rw [HS.out, EW.out]⟩
            case measure => simp [intOf]; omega
        · have : j = L := by omega
          subst this
          go_wp2
          go_ret2
          exact ⟨by rw [HALL.out, ← HLN.out]; rfl, hnx⟩

set_option maxHeartbeats 400000 in
theorem rok_p (A : Option Addr) (n cap : Nat) (xs : List Int) (w : World) (hn : n = xs.length) (hr : RdB w w.heap.size A xs) (hxs : ∀ k, k < xs.length → 0 ≤ xs.getD k 0 ∧ xs.getD k 0 ≤ 255) (hm : n ≤ 50000) :
    Calls Try.prog 27 #[.slice A n cap] w fun e w' => e = .returned (.bool (decide (2 ≤ lN xs) && decide (lS xs = 0))) ∧ Below w.heap.size w w' := by
  have H := rsum_p A n cap xs w hn hr hxs hm
  have hl := lN_le xs
  have hb := lS_bd xs
  rw [← hn] at hl
  clear hr hxs hn
  obtain ⟨N, hN⟩ : ∃ N, lN xs = N := ⟨_, rfl⟩
  obtain ⟨S, hS⟩ : ∃ S, lS xs = S := ⟨_, rfl⟩
  rw [hN, hS] at H
  rw [hN] at hl
  rw [hS] at hb
  rw [hN, hS]
  clear hN hS
  by_cases h2 : 2 ≤ N
  · by_cases h0 : S = 0
    · subst h0
      go_enter Try.func27, Try.ntmps27
      go_wp2_with (go_at_call 25; (with_reducible refine H.mono ?_); rintro e w' ⟨rfl, hb1⟩)
      go_ret
      simp [h2, hb1]
    · have h0' : (S == 0) = false := by simpa using h0
      go_enter Try.func27, Try.ntmps27
      go_wp2_with (go_at_call 25; (with_reducible refine H.mono ?_); rintro e w' ⟨rfl, hb1⟩)
      go_ret
      simp [h0, hb1]
  · go_enter Try.func27, Try.ntmps27
    go_wp2_with (go_at_call 25; (with_reducible refine H.mono ?_); rintro e w' ⟨rfl, hb1⟩)
    go_ret
    simp [h2, hb1]
end Go.Proofs.Ytoigllolilibhaa
