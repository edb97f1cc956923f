/-
  What the document's own Bytes, Range, Not and Or of sets do (package snaffleref01), whatever they are called with. Contracts for other texts; no statement of its own.
-/
import Derived.Test.YtpiieonlbfhbaaaRefSet
import Derived.Test.YtpiieonlbfhbaaaApp
set_option linter.unusedVariables false
set_option linter.unusedSimpArgs false
namespace Go.Proofs.Ytpiieonlbfhbaaa
open Go Go.RowKit
attribute [local go_sem ↓] Go.wp_at_zero Go.wp_at_succ

set_option maxRecDepth 20000 in
set_option maxHeartbeats 400000 in
theorem rbytes_p (p : Nat → Bool) (w : World) :
    Calls Try.prog 69 #[.agg #[.int .u64 (word p 0), .int .u64 (word p 1), .int .u64 (word p 2), .int .u64 (word p 3)]] w
      fun e w' => ∃ v, e = .returned v ∧ w'.ownsRow w.heap.size 5 1 v (allP p).length ((allP p).map (Value.int .u8)) ∧ Below w.heap.size w w' := by
  obtain ⟨i0, hi, hz0, hz1, hz2⟩ := info_parts Try.infoByte
  go_enter Try.func69, Try.ntmps69
  go_wp2
  go_loopw [3, 4] (fun v i wr => ∃ k : Nat, k ≤ 256 ∧ i = .int .i64 k ∧ wr.ownsRow (w.heap.size + 1) 5 1 v (listP p k).length ((listP p k).map (Value.int .u8)) ∧ Box4 wr w.heap.size p ∧ Below w.heap.size w wr)
    (fun _ i _ => 256 - (intOf i).toNat)
  case atStart => exact ⟨0, by omega, rfl, World.ownsRow_nil _ _ _ _, Box4.new w p, (Below.refl _ _).alloc (Nat.le_refl _) _⟩
  case round =>
    obtain ⟨k, hk, rfl, hown, b0, hnx⟩ := hrel
    have hs := b0.lt
    obtain ⟨c0, c1, c2, c3⟩ := b0.cell
    by_cases hlt : k < 256
    · have hle := listP_le p k
      cases hp : p k
      · have HE := Lib.hid (listP_miss p k hp)
        go_wp2_with (go_at_call 61; (with_reducible refine (rhas_p p k _ (by omega) (by omega)).mono ?_); rintro e w1 ⟨rfl, hb1⟩; rw [Int.toNat_natCast, hp])
        go_roundw
        case rel => exact ⟨k + 1, by omega, by go_num, by rw [HE.out]; exact own_stays hown hb1, b0.stays hb1, hnx.trans (hb1.mono (by omega))⟩
        case measure => simp [intOf]; omega
      · have HE := Lib.hid (listP_hit p k hp)
        go_wp2_with (first
          | (go_at_call 61; (with_reducible refine (rhas_p p k _ (by omega) (by omega)).mono ?_); rintro e w1 ⟨rfl, hb1⟩; rw [Int.toNat_natCast, hp]; have hown1 := own_stays hown hb1; have b1 := b0.stays hb1; have hs1 := hb1.size)
          | (at_builtin; refine wpList_append_own _ rfl _ _ 56 rfl (w.heap.size + 1) 5 i0 (.int .u8 0) 1 1 Try.underlying56 hi hz0 hz1 hz2 rfl (by decide) _ _ _ rfl (hown1.alloc _) ⟨w1.heap.size, 0, none⟩ 1 1 [.int .u8 (k : Int)] rfl rfl ?c1 ?c2 ?c3 ?c4 ?c5 ?_))
        case c1 =>
          intro j u hj
          match j, hj with
          | 0, hj => simp at hj; subst hj; simp [Addr.add]
        case c2 => intro u hu; simp at hu; subst hu; rfl
        case c3 => unfold maxLen; omega
        case c4 => omega
        case c5 => simp; omega
        · intro v' w2 hown' hgrow _
          have b2 : Box4 w2 w.heap.size p := (b1.alloc _).grown hgrow (fun e => by have := hown1.lt _ e.symm; omega)
          have hnx2 : Below w.heap.size w w2 := ((hnx.trans (hb1.mono (by omega))).alloc (by omega) _).grown hgrow (by simp; omega) (fun j e => by have := hown1.lt j e; omega)
          have HO := Lib.hid hown'
          clear hown' hgrow hown hown1 b0 b1 hb1 hnx
          go_wp2
          go_roundw
          case rel => exact ⟨k + 1, by omega, by go_num, by rw [HE.out]; simpa using HO.out, b2, hnx2⟩
          case measure => simp [intOf]; omega
    · have : k = 256 := by omega
      subst this
      go_wp2
      go_ret
      exact ⟨_, rfl, own_lower hown (by omega), hnx⟩

/-- The numbers from lo on, below k. -/
def fromL (lo k : Int) : List Int := (List.range (k - lo).toNat).map fun j : Nat => lo + (j : Int)
theorem fromL_step (lo k : Int) (h : lo ≤ k) : fromL lo (k + 1) = fromL lo k ++ [k] := by
  unfold fromL
  rw [show (k + 1 - lo).toNat = (k - lo).toNat + 1 by omega, List.range_succ, List.map_append]
  simp
  omega
theorem fromL_len (lo k : Int) : (fromL lo k).length = (k - lo).toNat := by simp [fromL]
theorem fromL_none (lo : Int) : fromL lo lo = [] := by simp [fromL]
theorem fromL_get (lo k : Int) (h0 : 0 ≤ lo) (h1 : k ≤ 256) : ∀ j, j < (fromL lo k).length → 0 ≤ (fromL lo k).getD j 0 ∧ (fromL lo k).getD j 0 ≤ 255 := by
  intro j hj
  have hl := fromL_len lo k
  rw [List.getD_eq_getElem?_getD, List.getElem?_eq_getElem hj]
  simp [fromL]
  omega
theorem fromL_mem (lo hi k : Int) (h0 : 0 ≤ lo) (hk : k = hi + 1 ∨ (k = lo ∧ hi < k)) (x : Nat) : memP (fromL lo k) x = rangeP lo hi x := by
  unfold memP rangeP fromL
  rw [Bool.eq_iff_iff, List.any_eq_true]
  simp
  constructor
  · rintro ⟨a, ha, e⟩
    omega
  · rintro ⟨a, b⟩
    exact ⟨(x - lo).toNat, by omega, by omega⟩

set_option maxRecDepth 20000 in
set_option maxHeartbeats 400000 in
theorem rrange_p (lo hi : Int) (w : World) (hl : 0 ≤ lo) (hl' : lo ≤ 255) (hh : 0 ≤ hi) (hh' : hi ≤ 255) :
    Calls Try.prog 68 #[.int .u8 lo, .int .u8 hi] w fun e w' => e = .returned (setV (rangeP lo hi)) ∧ Below w.heap.size w w' := by
  obtain ⟨i0, hi0, hz0, hz1, hz2⟩ := info_parts Try.infoByte
  go_enter Try.func68, Try.ntmps68
  go_wp2
  go_loopw [5, 6] (fun v i wr => ∃ k : Int, ∃ p0, lo ≤ k ∧ (k ≤ hi + 1 ∨ k = lo) ∧ i = .int .i64 k ∧ wr.ownsRow (w.heap.size + 1) 5 1 v (fromL lo k).length ((fromL lo k).map (Value.int .u8)) ∧ Box4 wr w.heap.size p0 ∧ Below w.heap.size w wr) (fun _ i _ => (hi + 1 - intOf i).toNat)
  case atStart => exact ⟨lo, noneP, by omega, by omega, rfl, by rw [fromL_none]; exact World.ownsRow_nil _ _ _ _, Box4.new0 w, (Below.refl _ _).alloc (Nat.le_refl _) _⟩
  case round =>
    obtain ⟨k, p0, hk, hk2, rfl, hown, b0, hnx⟩ := hrel
    have hs := b0.lt
    have hlen := fromL_len lo k
    by_cases hlt : k ≤ hi
    · have HE := Lib.hid (fromL_step lo k hk)
      have hle : (fromL lo k).length ≤ 256 := by omega
      clear hlen
      go_wp2_with (at_builtin; refine wpList_append_own _ rfl _ _ 56 rfl (w.heap.size + 1) 5 i0 (.int .u8 0) 1 1 Try.underlying56 hi0 hz0 hz1 hz2 rfl (by decide) _ _ _ rfl (hown.alloc _) ⟨wr.heap.size, 0, none⟩ 1 1 [.int .u8 k] rfl rfl ?c1 ?c2 ?c3 ?c4 ?c5 ?_)
      case c1 =>
        intro j u hj
        match j, hj with
        | 0, hj => simp at hj; subst hj; simp [Addr.add]
      case c2 => intro u hu; simp at hu; subst hu; rfl
      case c3 => unfold maxLen; omega
      case c4 => omega
      case c5 => simp; omega
      · intro v' w2 hown' hgrow _
        have b2 : Box4 w2 w.heap.size p0 := (b0.alloc _).grown hgrow (fun e => by have := hown.lt _ e.symm; omega)
        have hnx2 : Below w.heap.size w w2 := (hnx.alloc (by omega) _).grown hgrow (by simp; omega) (fun j e => by have := hown.lt j e; omega)
        have HO := Lib.hid hown'
        clear hown' hgrow hown b0 hnx
        go_wp2
        go_roundw
        case rel => exact ⟨k + 1, p0, by omega, by omega, rfl, by rw [HE.out]; simpa using HO.out, b2, hnx2⟩
        case measure => simp [intOf]; omega
    · obtain ⟨A, cap, rfl, hn, hr, hA⟩ := rd_own hown
      have hg := fromL_get lo k hl (by omega)
      have hle : (fromL lo k).length ≤ 9223372036854775807 := by omega
      have HG := Lib.hid hg
      have HE : Hid (∀ x, memP (fromL lo k) x = rangeP lo hi x) := fun x => fromL_mem lo hi k hl (by omega) x
      clear hg hn hlen
      go_wp2_with (go_at_call 49; (with_reducible refine (rof_p _ _ _ (fromL lo k) _ rfl hr HG.out hle).mono ?_); rintro e w1 ⟨rfl, hb1⟩; rw [setV_congr (fun x _ => HE.out x)]; unfold setV; obtain ⟨d0, d1, d2, d3⟩ := (b0.stays hb1).cell; obtain ⟨g0, g1, g2, g3⟩ := (b0.stays hb1).frozen)
      refine bodyPost_ret (v := setV (rangeP lo hi)) ?_ rfl ⟨rfl, below_put4 (g := w.heap.size) (hnx.trans (hb1.mono (by omega))) (Nat.le_refl _) (rangeP lo hi)⟩
      unfold setV
      simp [results, Try.results68, go_sem, d0, d1, d2, d3]

end Go.Proofs.Ytpiieonlbfhbaaa
