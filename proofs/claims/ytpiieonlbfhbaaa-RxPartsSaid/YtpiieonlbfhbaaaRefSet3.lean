/-
  What the document's own Not and Or of sets do (package snaffleref01), whatever they are called with. Contracts for other texts; no statement of its own.
-/
import Derived.Test.YtpiieonlbfhbaaaRefSet2
import Derived.Deep.RegionLaw
set_option linter.unusedVariables false
set_option linter.unusedSimpArgs false
namespace Go.Proofs.Ytpiieonlbfhbaaa
open Go Go.RowKit
attribute [local go_sem ↓] Go.wp_at_zero Go.wp_at_succ

set_option maxRecDepth 20000 in
set_option maxHeartbeats 400000 in
theorem rnot_p (p : Nat → Bool) (w : World) :
    Calls Try.prog 48 #[.agg #[.int .u64 (word p 0), .int .u64 (word p 1), .int .u64 (word p 2), .int .u64 (word p 3)]] w
      fun e w' => e = .returned (setV (notP p)) ∧ Below w.heap.size w w' := by
  obtain ⟨i0, hi, hz0, hz1, hz2⟩ := info_parts Try.infoByte
  have hnot : ∀ (x : Bool) (w : World), (Op.unary .not (.bool x)).run Try.prog w = .ok (.bool (!x)) w := fun _ _ => rfl
  go_enter Try.func48, Try.ntmps48
  go_wp2
  go_loopw [3, 4] (fun v i wr => ∃ k : Nat, ∃ p0, k ≤ 256 ∧ i = .int .i64 k ∧ wr.ownsRow (w.heap.size + 2) 5 1 v (listP (notP p) k).length ((listP (notP p) k).map (Value.int .u8)) ∧ Box4 wr w.heap.size p ∧ Box4 wr (w.heap.size + 1) p0 ∧ Below w.heap.size w wr)
    (fun _ i _ => 256 - (intOf i).toNat)
  case atStart =>
    refine ⟨0, noneP, by omega, rfl, World.ownsRow_nil _ _ _ _, (Box4.new w p).alloc _, ?_, ((Below.refl _ _).alloc (Nat.le_refl _) _).alloc (by simp) _⟩
    have h := Box4.new0 (w.alloc (.cells #[.int .u64 (word p 0), .int .u64 (word p 1), .int .u64 (word p 2), .int .u64 (word p 3)] 25))
    rwa [World.size_alloc] at h
  case round =>
    obtain ⟨k, p0, hk, rfl, hown, b0, b9, hnx⟩ := hrel
    have hs := b9.lt
    obtain ⟨c0, c1, c2, c3⟩ := b0.cell
    by_cases hlt : k < 256
    · have hle := listP_le (notP p) k
      cases hp : p k
      · have HE := Lib.hid (listP_hit (notP p) k (by simp [notP, hp]))
        go_wp2_with (first
          | (go_at_call 61; (with_reducible refine (rhas_p p k _ (by omega) (by omega)).mono ?_); rintro e w1 ⟨rfl, hb1⟩; rw [Int.toNat_natCast, hp]; have hown1 := own_stays hown hb1; have b1 := b0.stays hb1; have b8 := b9.stays hb1; have hs1 := hb1.size)
          | (at_builtin; refine wpList_append_own _ rfl _ _ 56 rfl (w.heap.size + 2) 5 i0 (.int .u8 0) 1 1 Try.underlying56 hi hz0 hz1 hz2 rfl (by decide) _ _ _ rfl (hown1.alloc _) ⟨w1.heap.size, 0, none⟩ 1 1 [.int .u8 (k : Int)] rfl rfl ?c1 ?c2 ?c3 ?c4 ?c5 ?_))
        case c1 =>
          intro j u hj
          match j, hj with
          | 0, hj => simp at hj; subst hj; simp [Addr.add]
        case c2 => intro u hu; simp at hu; subst hu; rfl
        case c3 => unfold maxLen; omega
        case c4 => omega
        case c5 => simp; omega
        · intro v' w2 hown' hgrow _
          have b2 : Box4 w2 w.heap.size p := (b1.alloc _).grown hgrow (fun e => by have := hown1.lt _ e.symm; omega)
          have b7 : Box4 w2 (w.heap.size + 1) p0 := (b8.alloc _).grown hgrow (fun e => by have := hown1.lt _ e.symm; omega)
          have hnx2 : Below w.heap.size w w2 := ((hnx.trans (hb1.mono (by omega))).alloc (by omega) _).grown hgrow (by simp; omega) (fun j e => by have := hown1.lt j e; omega)
          have HO := Lib.hid hown'
          clear hown' hgrow hown hown1 b0 b1 b8 b9 hb1 hnx
          go_wp2
          go_roundw
          case rel => exact ⟨k + 1, p0, by omega, by go_num, by rw [HE.out]; simpa using HO.out, b2, b7, hnx2⟩
          case measure => simp [intOf]; omega
      · have HE := Lib.hid (listP_miss (notP p) k (by simp [notP, hp]))
        go_wp2_with (go_at_call 61; (with_reducible refine (rhas_p p k _ (by omega) (by omega)).mono ?_); rintro e w1 ⟨rfl, hb1⟩; rw [Int.toNat_natCast, hp])
        go_roundw
        case rel => exact ⟨k + 1, p0, by omega, by go_num, by rw [HE.out]; exact own_stays hown hb1, b0.stays hb1, b9.stays hb1, hnx.trans (hb1.mono (by omega))⟩
        case measure => simp [intOf]; omega
    · have : k = 256 := by omega
      subst this
      change wr.ownsRow _ _ _ _ (allP (notP p)).length ((allP (notP p)).map _) at hown
      obtain ⟨A, cap, rfl, hn, hr, hA⟩ := rd_own hown
      have HG := Lib.hid (allP_get (notP p))
      have HL := Lib.hid (allP_le (notP p))
      have HE : Hid (∀ x, x < 256 → memP (allP (notP p)) x = notP p x) := memP_all (notP p)
      clear hn hlt hk
      go_wp2_with (go_at_call 49; (with_reducible refine (rof_p _ _ _ (allP (notP p)) _ rfl hr HG.out HL.out).mono ?_); rintro e w1 ⟨rfl, hb1⟩; rw [setV_congr HE.out]; unfold setV; obtain ⟨d0, d1, d2, d3⟩ := (b9.stays hb1).cell; obtain ⟨g0, g1, g2, g3⟩ := (b9.stays hb1).frozen)
      refine bodyPost_ret (v := setV (notP p)) ?_ rfl ⟨rfl, below_put4 (g := w.heap.size + 1) (hnx.trans (hb1.mono (by omega))) (by omega) (notP p)⟩
      unfold setV
      simp [results, Try.results48, go_sem, d0, d1, d2, d3]

theorem mem_app (p q : Nat → Bool) (x : Nat) (hx : x < 256) : memP (allP p ++ allP q) x = orP p q x := by
  have h1 := memP_all p x hx
  have h2 := memP_all q x hx
  unfold memP at *
  rw [List.any_append, h1, h2]
  rfl
theorem len_app (xs ys : List Int) : xs.length + ys.length = (xs ++ ys).length := List.length_append.symm
theorem get_app (p q : Nat → Bool) : ∀ j, j < (allP p ++ allP q).length → 0 ≤ (allP p ++ allP q).getD j 0 ∧ (allP p ++ allP q).getD j 0 ≤ 255 := by
  intro j hj
  have hm : (allP p ++ allP q).getD j 0 ∈ allP p ++ allP q := by
    rw [List.getD_eq_getElem?_getD, List.getElem?_eq_getElem hj]
    exact List.getElem_mem hj
  rw [List.mem_append] at hm
  rcases hm with h | h
  · have := (listP_mem p 256 _).1 h; omega
  · have := (listP_mem q 256 _).1 h; omega

set_option maxRecDepth 20000 in
set_option maxHeartbeats 2000000 in
theorem ror_p (p q : Nat → Bool) (w : World) :
    Calls Try.prog 60 #[.agg #[.int .u64 (word p 0), .int .u64 (word p 1), .int .u64 (word p 2), .int .u64 (word p 3)], .agg #[.int .u64 (word q 0), .int .u64 (word q 1), .int .u64 (word q 2), .int .u64 (word q 3)]] w
      fun e w' => e = .returned (setV (orP p q)) ∧ Below w.heap.size w w' := by
  obtain ⟨i0, hi, hz0, hz1, hz2⟩ := info_parts Try.infoByte
  have lp := listP_le p 256
  have lq := listP_le q 256
  change (allP p).length ≤ 256 at lp
  change (allP q).length ≤ 256 at lq
  obtain ⟨w0, hw0⟩ : ∃ w0, w0 = ((w.alloc (.cells #[.int .u64 (word p 0), .int .u64 (word p 1), .int .u64 (word p 2), .int .u64 (word p 3)] 25)).alloc (.cells #[.int .u64 (word q 0), .int .u64 (word q 1), .int .u64 (word q 2), .int .u64 (word q 3)] 25)).alloc (.cells #[.int .u64 0, .int .u64 0, .int .u64 0, .int .u64 0] 25) := ⟨_, rfl⟩
  have bp : Box4 w0 w.heap.size p := by rw [hw0]; exact ((Box4.new w p).alloc _).alloc _
  have bq : Box4 w0 (w.heap.size + 1) q := by
    rw [hw0]
    have h := Box4.new (w.alloc (.cells #[.int .u64 (word p 0), .int .u64 (word p 1), .int .u64 (word p 2), .int .u64 (word p 3)] 25)) q
    rw [World.size_alloc] at h
    exact h.alloc _
  have b9 : Box4 w0 (w.heap.size + 1 + 1) noneP := by
    rw [hw0]
    have h := Box4.new0 ((w.alloc (.cells #[.int .u64 (word p 0), .int .u64 (word p 1), .int .u64 (word p 2), .int .u64 (word p 3)] 25)).alloc (.cells #[.int .u64 (word q 0), .int .u64 (word q 1), .int .u64 (word q 2), .int .u64 (word q 3)] 25))
    rwa [World.size_alloc, World.size_alloc] at h
  have hB : Below w.heap.size w w0 := by rw [hw0]; exact (((Below.refl _ _).alloc (Nat.le_refl _) _).alloc (by simp) _).alloc (by simp; omega) _
  have HW := Lib.hid hw0
  clear hw0
  go_enter Try.func60, Try.ntmps60
  go_wp2_with fail
  rw [← HW.out]
  clear HW
  obtain ⟨c0, c1, c2, c3⟩ := bp.cell
  obtain ⟨d0, d1, d2, d3⟩ := bq.cell
  have hs0 := b9.lt
  go_region_law (first
    | (refine step_app _ (by rfl) _ _ 56 (by rfl) _ 5 i0 (.int .u8 0) 1 1 Try.underlying56 hi hz0 hz1 hz2 rfl (by decide) _ _ _ (by rfl) hown1' A2 _ cap2 _ (by rfl) (by simp) (fun h => (hA2 h).1) (news_rd hr2) (bytes_oneCell _) (by unfold maxLen; omega) (by omega) hs2 ?_; intro v3 w3 hown3 hgrow; have hB3 := hB2.grown hgrow hB2.size (fun j e => by have := hown1'.lt j e; omega); have b3 := ((b9.stays hb1).stays hb2).grown hgrow (fun e => by have := hown1'.lt _ e.symm; omega); rw [← List.map_append, ← List.length_append] at hown3; obtain ⟨A3, cap3, rfl, hn3, hr3, hA3⟩ := rd_own hown3)
    | (go_simp; go_at_call 69; (with_reducible refine (rbytes_p p _).mono ?_); rintro e w1 ⟨v1, rfl, hown1, hb1⟩; replace hb1 := undrew hb1; change w1.ownsRow w0.heap.size _ _ _ _ _ at hown1; have hB1 := gro hB hb1; obtain ⟨k0, k1, k2, k3⟩ := (bq.stays hb1).cell)
    | (go_simp; go_at_call 69; (with_reducible refine (rbytes_p q _).mono ?_); rintro e w2 ⟨v2, rfl, hown2, hb2⟩; have hB2 := gro hB1 hb2; have hown1' := own_stays hown1 hb2; have hs2 : w0.heap.size ≤ w2.heap.size := Nat.le_trans hb1.size hb2.size; obtain ⟨A2, cap2, rfl, hn2, hr2, hA2⟩ := rd_own hown2)
    | (go_simp; go_at_call 49; (with_reducible refine (rof_p _ _ _ (allP p ++ allP q) _ (len_app (allP p) (allP q)) hr3 (get_app p q) (by simp; omega)).mono ?_); rintro e w4 ⟨rfl, hb4⟩; have hB4 := gro hB3 hb4; rw [setV_congr (mem_app p q)]; unfold setV; obtain ⟨g0, g1, g2, g3⟩ := (b3.stays hb4).cell; obtain ⟨f0, f1, f2, f3⟩ := (b3.stays hb4).frozen))
  all_goals go_wp2
  all_goals
    refine bodyPost_ret (v := setV (orP p q)) ?_ rfl ⟨rfl, below_put4 (g := w.heap.size + 1 + 1) hB4 (by omega) (orP p q)⟩
    unfold setV
    simp [results, Try.results60, go_sem, g0, g1, g2, g3]

end Go.Proofs.Ytpiieonlbfhbaaa
