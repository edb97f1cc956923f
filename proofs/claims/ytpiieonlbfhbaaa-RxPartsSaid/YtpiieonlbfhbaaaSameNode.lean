/-
  The document's own SameNode: of two nodes that are the same tree it tells true. Contracts for other texts; no statement of its own.
-/
import Derived.Test.YtpiieonlbfhbaaaRefPat
import Derived.Test.YtpiieonlbfhbaaaEq4
import Derived.StillTailTactics
import Derived.Deep.LoopGhost
set_option linter.unusedVariables false
set_option linter.unusedSimpArgs false
namespace Go.Proofs.Ytpiieonlbfhbaaa
open Go Go.RowKit
attribute [local go_sem ↓] Go.wp_at_zero Go.wp_at_succ

/-- A kid's cells, read out of its row. -/
theorem Tree.kidAt {w : World} {ok : Nat → Prop} {t : T} {k : Value} (h : Tree w ok t k) (i : Nat) (hi : i < t.kids.length) :
    ∃ g cap k', k = .slice (some ⟨g, 0, none⟩) t.kids.length cap ∧ g < w.heap.size ∧ Tree w ok (t.kids[i]'hi) k' ∧ ∀ j u, (nodeC (t.kids[i]'hi) k')[j]? = some u → w.cell? ⟨g, 8 * i + j, none⟩ = some u := by
  cases h with
  | nil t h => rw [h] at hi; simp at hi
  | row t g cap cur ks hg hok hn h0 hcap hmax hsize hc hk =>
    have hi' : i < ks.length := by omega
    refine ⟨g, cap, ks[i], rfl, lt_of_some hg, hk i _ _ (List.getElem?_eq_getElem hi) (List.getElem?_eq_getElem hi'), fun j u hu => ?_⟩
    have hj : j < 8 := by
      have := List.getElem?_eq_some_iff.1 hu
      simpa [nodeC] using this.1
    have e := cellsOf_get t.kids ks i j _ _ (List.getElem?_eq_getElem hi) (List.getElem?_eq_getElem hi') hj
    rw [← hc, hu] at e
    rw [cell_of_row w g _ cur 28 (0, 0) hg, ← Array.getElem?_toList]
    rw [List.getElem?_take] at e
    split at e
    · exact e
    · cases e

def RetTrue (w : World) (e : Ending) (w' : World) : Prop := e = .returned (.bool true) ∧ Below w.heap.size w w'

theorem neq4 (a0 a1 a2 a3 : Int) (w : World) :
    (Op.equalIn 10000 25 (.agg #[.int .u64 a0, .int .u64 a1, .int .u64 a2, .int .u64 a3]) (.agg #[.int .u64 a0, .int .u64 a1, .int .u64 a2, .int .u64 a3])).run Try.prog w = .ok true w := by
  rw [eq4]
  simp

theorem Tree.bound {w : World} {ok : Nat → Prop} {t : T} {A : Option Addr} {n c : Nat} (h : Tree w ok t (.slice A n c)) : n = t.kids.length ∧ n ≤ maxLen := by
  cases h with
  | nil t h => exact ⟨by simp [h], by decide⟩
  | row t g cap cur ks hg hok hn h0 hcap hmax hsize hc hk => exact ⟨rfl, Nat.le_trans hcap hmax⟩
theorem kid_size (t : T) (i : Nat) (hi : i < t.kids.length) : SizeOf.sizeOf (t.kids[i]'hi) < SizeOf.sizeOf t := by
  obtain ⟨op, p, lo, hi', l⟩ := t
  have := List.sizeOf_lt_of_mem (List.getElem_mem hi)
  simp only [T.kids] at *
  simp
  omega

set_option maxRecDepth 20000 in
set_option maxHeartbeats 2000000 in
theorem same_n : ∀ (N : Nat) (t : T) (w : World) (ok ok' : Nat → Prop) (k k' : Value), SizeOf.sizeOf t ≤ N → Tree w ok t k → Tree w ok' t k' →
    Calls Try.prog 9 #[.agg #[.int .i64 t.op, .int .u64 (word t.set 0), .int .u64 (word t.set 1), .int .u64 (word t.set 2), .int .u64 (word t.set 3), .int .i64 t.lo, .int .i64 t.hi, k], .agg #[.int .i64 t.op, .int .u64 (word t.set 0), .int .u64 (word t.set 1), .int .u64 (word t.set 2), .int .u64 (word t.set 3), .int .i64 t.lo, .int .i64 t.hi, k']] w (RetTrue w) := by
  intro N
  induction N with
  | zero => intro t w ok ok' k k' h; obtain ⟨op, p, lo, hi, l⟩ := t; simp at h
  | succ N ih =>
  intro t w ok ok' k k' hN ht ht'
  have eq4 := neq4
  obtain ⟨A, n, c, rfl⟩ := ht.form
  obtain ⟨A', n', c', rfl⟩ := ht'.form
  obtain ⟨hn, hm⟩ := ht.bound
  obtain ⟨hn', _⟩ := ht'.bound
  rw [← hn] at hn'
  subst hn'
  unfold maxLen at hm
  have b1 := (Box8.new w t (.slice A n' c)).alloc (.cells #[.int .i64 t.op, .int .u64 (word t.set 0), .int .u64 (word t.set 1), .int .u64 (word t.set 2), .int .u64 (word t.set 3), .int .i64 t.lo, .int .i64 t.hi, .slice A' n' c'] 28)
  have b2 := Box8.new (w.alloc (.cells #[.int .i64 t.op, .int .u64 (word t.set 0), .int .u64 (word t.set 1), .int .u64 (word t.set 2), .int .u64 (word t.set 3), .int .i64 t.lo, .int .i64 t.hi, .slice A n' c] 28)) t (.slice A' n' c')
  rw [World.size_alloc] at b2
  have hB : Below w.heap.size w ((w.alloc (.cells #[.int .i64 t.op, .int .u64 (word t.set 0), .int .u64 (word t.set 1), .int .u64 (word t.set 2), .int .u64 (word t.set 3), .int .i64 t.lo, .int .i64 t.hi, .slice A n' c] 28)).alloc (.cells #[.int .i64 t.op, .int .u64 (word t.set 0), .int .u64 (word t.set 1), .int .u64 (word t.set 2), .int .u64 (word t.set 3), .int .i64 t.lo, .int .i64 t.hi, .slice A' n' c'] 28)) := ((Below.refl _ _).alloc (Nat.le_refl _) _).alloc (by simp) _
  have HN := Lib.hid hn
  have HT := Lib.hid ht
  have HT' := Lib.hid ht'
  have IH := Lib.hid ih
  have HB1 := Lib.hid b1
  have HB2 := Lib.hid b2
  clear hn ih
  go_enter Try.func9, Try.ntmps9
  go_wp2
  go_loopg [5] n' (fun m i wr => ∃ j : Nat, i = .int .i64 (j : Int) ∧ j ≤ n' ∧ m = n' - j ∧ Box8 wr w.heap.size t (.slice A n' c) ∧ Box8 wr (w.heap.size + 1) t (.slice A' n' c') ∧ Below w.heap.size w wr)
  case atStart => exact ⟨0, rfl, Nat.zero_le _, rfl, HB1.out, HB2.out, hB⟩
  case round =>
    obtain ⟨j, rfl, hj, hmj, x1, x2, hW⟩ := hrel
    have HM := Lib.hid hmj
    obtain ⟨c0, c1, c2, c3, c4, c5, c6, c7⟩ := x1.cell
    obtain ⟨d0, d1, d2, d3, d4, d5, d6, d7⟩ := x2.cell
    clear b1 b2 hmj
    by_cases hlt : j < n'
    · have hlt' : j < t.kids.length := by rw [← HN.out]; exact hlt
      obtain ⟨g, cap, kk, e1, hg1, htk, hcells⟩ := HT.out.kidAt j hlt'
      obtain ⟨g', cap', kk', e2, hg2, htk', hcells'⟩ := HT'.out.kidAt j hlt'
      obtain ⟨B, m1, m2, rfl⟩ := htk.form
      obtain ⟨B', m1', m2', rfl⟩ := htk'.form
      have a1 : A = some ⟨g, 0, none⟩ := by injection e1
      have a2 : c = cap := by injection e1
      have a3 : A' = some ⟨g', 0, none⟩ := by injection e2
      have a4 : c' = cap' := by injection e2
      clear e1 e2
      subst a1 a2 a3 a4
      have hks := kid_size t j hlt'
      generalize t.kids[j] = u at *
      have HC : ∀ q v, (nodeC u (.slice B m1 m2))[q]? = some v → wr.cell? ⟨g, j * 8 + q, none⟩ = some v := fun q v h => by rw [Nat.mul_comm j 8]; exact (hW.cell (p := ⟨g, 8 * j + q, none⟩) hg1).trans (hcells q v h)
      have HC' : ∀ q v, (nodeC u (.slice B' m1' m2'))[q]? = some v → wr.cell? ⟨g', j * 8 + q, none⟩ = some v := fun q v h => by rw [Nat.mul_comm j 8]; exact (hW.cell (p := ⟨g', 8 * j + q, none⟩) hg2).trans (hcells' q v h)
      have k0 : wr.cell? ⟨g, j * 8, none⟩ = _ := HC 0 _ rfl
      have k1 := HC 1 _ rfl
      have k2 := HC 2 _ rfl
      have k3 := HC 3 _ rfl
      have k4 := HC 4 _ rfl
      have k5 := HC 5 _ rfl
      have k6 := HC 6 _ rfl
      have k7 := HC 7 _ rfl
      have l0 : wr.cell? ⟨g', j * 8, none⟩ = _ := HC' 0 _ rfl
      have l1 := HC' 1 _ rfl
      have l2 := HC' 2 _ rfl
      have l3 := HC' 3 _ rfl
      have l4 := HC' 4 _ rfl
      have l5 := HC' 5 _ rfl
      have l6 := HC' 6 _ rfl
      have l7 := HC' 7 _ rfl
      have HK := Lib.hid (fun w' (hb : Below wr.heap.size wr w') => IH.out u w' ok ok' (.slice B m1 m2) (.slice B' m1' m2') (by omega) (((htk.mono (w' := wr) fun b h1 h2 _ => ⟨hW.block b h2, h1⟩)).stays hb) ((htk'.mono (w' := wr) fun b h1 h2 _ => ⟨hW.block b h2, h1⟩).stays hb))
      clear HC HC' hcells hcells' htk htk' hks
      have j0 : (0 : Int) ≤ (j : Int) := by omega
      have j1 : (j : Int) < (n' : Int) := by omega
      go_wp2_with fail
      go_still_tail 10, (by kernel_rfl)
      change wpList _ _ _ _ _ wr.drew
      go_wp2_with (go_at_call 9; (refine (HK.out wr.drew ((Below.refl _ _).drew)).mono ?_); rintro e w5 ⟨rfl, hb5⟩)
      have hb6 : Below wr.heap.size wr w5 := undrew hb5
      go_roundg (n' - (j + 1))
      case measure => have := HM.out; omega
      case rel => exact ⟨j + 1, by go_num, by omega, rfl, x1.stays hb6, x2.stays hb6, gro hW hb6⟩
    · go_wp2
      go_ret
      exact ⟨rfl, hW⟩

/-- Of two nodes that are one tree: true. -/
theorem same_p (t : T) (w : World) (ok ok' : Nat → Prop) (k k' : Value) (h : Tree w ok t k) (h' : Tree w ok' t k') :
    Calls Try.prog 9 #[.agg #[.int .i64 t.op, .int .u64 (word t.set 0), .int .u64 (word t.set 1), .int .u64 (word t.set 2), .int .u64 (word t.set 3), .int .i64 t.lo, .int .i64 t.hi, k], .agg #[.int .i64 t.op, .int .u64 (word t.set 0), .int .u64 (word t.set 1), .int .u64 (word t.set 2), .int .u64 (word t.set 3), .int .i64 t.lo, .int .i64 t.hi, k']] w (RetTrue w) :=
  same_n _ t w ok ok' k k' (Nat.le_refl _) h h'

end Go.Proofs.Ytpiieonlbfhbaaa
