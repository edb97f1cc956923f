/-
  What the document's own answers for sets do (package snaffleref01: Has, Of, Bytes, Range, Or, Not), whatever they are called with. Contracts for other texts; no statement of its own.
-/
import Derived.Test.YtammicfijnffaaaSetLists
import Derived.Deep.RegionHeld3
import Derived.Deep.DrawnRows
import Derived.StillTailTactics
set_option linter.unusedVariables false
set_option linter.unusedSimpArgs false
namespace Go.Proofs.Ytammicfijnffaaa
open Go Go.RowKit
attribute [local go_sem ↓] Go.wp_at_zero Go.wp_at_succ

set_option maxHeartbeats 400000 in
theorem rhas_p (p : Nat → Bool) (b : Int) (w : World) (hb : 0 ≤ b) (hb' : b ≤ 255) :
    Calls Try.prog 31 #[.agg #[.int .u64 (word p 0), .int .u64 (word p 1), .int .u64 (word p 2), .int .u64 (word p 3)], .int .u8 b] w fun e w' => e = .returned (.bool (p b.toNat)) ∧ Below w.heap.size w w' := by
  have hv := words_at p b hb hb'
  have H := has_mod p b hb hb'
  rw [← H]
  clear H
  go_enter Try.func31, Try.ntmps31
  go_wp2
  go_ret
  exact ⟨rfl, (Below.refl _ _).alloc (Nat.le_refl _) _⟩

set_option maxRecDepth 20000 in
set_option maxHeartbeats 1600000 in
theorem rof_p (A : Option Addr) (n cap : Nat) (xs : List Int) (w : World) (hn : n = xs.length) (hr : RdB w w.heap.size A xs) (hx : ∀ k, k < xs.length → 0 ≤ xs.getD k 0 ∧ xs.getD k 0 ≤ 255) (hm : xs.length ≤ 9223372036854775807) :
    Calls Try.prog 51 #[.slice A n cap] w fun e w' => e = .returned (setV (memP xs)) ∧ Below w.heap.size w w' := by
  have HN := Lib.hid hn
  have HX := Lib.hid hx
  rw [← hn] at hm
  clear hx hn
  have hnot : ∀ (x : Bool) (w : World), (Op.unary .not (.bool x)).run Try.prog w = .ok (.bool (!x)) w := fun _ _ => rfl
  go_enter Try.func51, Try.ntmps51
  go_wp2
  go_loopw [4] (fun i wr => ∃ k : Nat, ∃ p0, k ≤ n ∧ i = .int .i64 k ∧ Box4 wr w.heap.size p0 ∧ Box4 wr (w.heap.size + 1) (memP (xs.take k)) ∧ Below w.heap.size w wr) (fun i _ => n - (intOf i).toNat)
  case atStart =>
    refine ⟨0, noneP, Nat.zero_le _, rfl, (Box4.new0 w).alloc _, ?_, ((Below.refl _ _).alloc (Nat.le_refl _) _).alloc (by simp) _⟩
    have h := Box4.new0 (w.alloc (.cells #[.int .u64 0, .int .u64 0, .int .u64 0, .int .u64 0] 26))
    rw [World.size_alloc] at h
    exact h.congr fun x _ => by simp [memP, noneP]
  case round =>
    obtain ⟨k, p0, hk, rfl, b0, b1, hnx⟩ := hrel
    have hs := b1.lt
    obtain ⟨c0, c1, c2, c3⟩ := b1.cell
    by_cases hlt : k < n
    · have hkx : k < xs.length := by rw [← HN.out]; exact hlt
      obtain ⟨b, off, rfl, hbB, hc⟩ := hr k hkx
      have hx := HX.out k hkx
      have hc1 := (hnx.cell (p := ⟨b, off + k, none⟩) hbB).trans hc
      have HM := Lib.hid (mem_step xs k hkx hx.1)
      obtain ⟨v, hv⟩ : ∃ v, v = xs.getD k 0 := ⟨_, rfl⟩
      rw [← hv] at hx hc1 HM
      clear hc hv hkx hr
      have k0 : (0 : Int) ≤ (k : Int) := by omega
      have k1 : (k : Int) < (n : Int) := by omega
      generalize hp : memP (xs.take k) = p at *
      have HP := Lib.hid hp
      clear hp
      cases hpv : p v.toNat
      all_goals
        go_wp2_with fail
        refine wp_region_noPanic ?_
        go_region_held (fun w' => w'.cell? ⟨w.heap.size + 1, 0, none⟩ = some (.int .u64 (word p 0)) ∧ w'.cell? ⟨w.heap.size + 1, 1, none⟩ = some (.int .u64 (word p 1)) ∧ w'.cell? ⟨w.heap.size + 1, 2, none⟩ = some (.int .u64 (word p 2)) ∧ w'.cell? ⟨w.heap.size + 1, 3, none⟩ = some (.int .u64 (word p 3)) ∧ w'.cell? ⟨b, off + k, none⟩ = some (.int .u8 v))
          (first | exact ⟨c0, c1, c2, c3, hc1⟩ | (go_split_ands; refine ⟨?_, ?_, ?_, ?_, ?_⟩ <;> first | with_reducible assumption | with_reducible exact cell_stays ‹_› ‹_›))
          (first | (go_at_call 31; (with_reducible refine (rhas_p p v _ (by omega) (by omega)).mono ?_); rintro e w1 ⟨rfl, hb1⟩; rw [hpv]))
        refine NoPanic.normal ?_
        replace hb1 := undrew hb1
        replace b0 := b0.stays hb1
        replace b1 := b1.stays hb1
        replace hnx := gro hnx hb1
        have hs1 := b1.lt
        have hd1 := cell_stays hc1 hb1
        clear c0 c1 c2 c3 hc1 hb1
        obtain ⟨c0, c1, c2, c3⟩ := b1.cell
        obtain ⟨f0, f1, f2, f3⟩ := b1.frozen
        go_wp2
      · have HO := Lib.hid (add1_sum p v hx.1 hx.2 hpv)
        have HW := Lib.hid (add1_words p v.toNat)
        have hd : (v / 64).toNat = v.toNat / 64 := by omega
        have HD := Lib.hid hd
        clear hd
        rcases (show v / 64 = 0 ∨ v / 64 = 1 ∨ v / 64 = 2 ∨ v / 64 = 3 by omega) with h | h | h | h
        all_goals
          have e1 : IntKind.i64.wrap v = v := IntWalk.i64_in _ (by omega)
          have e2 : v.tdiv 64 = v / 64 := Int.tdiv_eq_ediv_of_nonneg hx.1
          have e4 : v.tmod 64 = v % 64 := Int.tmod_eq_emod_of_nonneg hx.1
          have e5 : IntKind.i64.wrap (v % 64) = v % 64 := IntWalk.i64_in _ (by omega)
          have e6 : IntKind.u64.wrap (v % 64) = v % 64 := wrap_u64_of (by omega) (by omega)
          have n0 : IntKind.i64.wrap 0 = 0 := rfl
          have n1 : IntKind.i64.wrap 1 = 1 := rfl
          have n2 : IntKind.i64.wrap 2 = 2 := rfl
          have n3 : IntKind.i64.wrap 3 = 3 := rfl
          have m0 : 0 ≤ v % 64 := by omega
          go_still_tail 24, (by kernel_rfl)
          clear e1 e2 e4 e5 e6 n0 n1 n2 n3 m0
          go_wp2
          have ho := HO.out
          have hw := HW.out
          have hd := HD.out
          rw [h] at ho hd
          simp only [show (0 : Int).toNat = 0 from rfl, show (1 : Int).toNat = 1 from rfl, show (2 : Int).toNat = 2 from rfl, show (3 : Int).toNat = 3 from rfl] at ho hd
          rw [ho]
          go_roundw
          case measure => simp [intOf]; omega
          case rel =>
            refine ⟨k + 1, p0, by omega, by go_num, (b0.far (by simp) _).drew, ?_, (hnx.setCell (by simp) _).drew⟩
            exact (b1.set1 _ (by decide) (fun j hj => hw j (by omega))).drew.congr fun x _ => HM.out x
      · go_roundw
        case rel =>
          refine ⟨k + 1, p0, by omega, by go_num, b0, b1.congr fun x _ => ?_, hnx⟩
          rw [← HM.out x]
          unfold add1
          by_cases e : x = v.toNat
          · subst e; rw [hpv]; simp
          · simp [e]
        case measure => simp [intOf]; omega
    · obtain ⟨d0, d1, d2, d3⟩ := b0.cell
      obtain ⟨g0, g1, g2, g3⟩ := b0.frozen
      go_wp2
      refine bodyPost_ret (v := setV (memP (xs.take k))) ?_ rfl ⟨congrArg Ending.returned (setV_congr fun x _ => ?_), below_put4 (g := w.heap.size) hnx (Nat.le_refl _) (memP (xs.take k))⟩
      · unfold setV
        simp [results, Try.results51, go_sem, d0, d1, d2, d3]
      · have := HN.out
        rw [List.take_of_length_le (by omega)]

end Go.Proofs.Ytammicfijnffaaa
