/-
  The document's own reader of patterns: class, One: what they do, held against the grammar. Contracts for other texts; no statement of its own.
-/
import Derived.Test.YtpiieonlbfhbaaaRefRd6
import Derived.Test.YtpiieonlbfhbaaaRefGo
import Derived.Deep.LoopGhost
set_option linter.unusedVariables false
set_option linter.unusedSimpArgs false
namespace Go.Proofs.Ytpiieonlbfhbaaa
open Go Go.RowKit
attribute [local go_sem ↓] Go.wp_at_zero Go.wp_at_succ

/-- A set is told, and the reader is where the grammar says. -/
def RetSet (w : World) (g : Nat) (s : ByteArray) (o : R (Nat → Bool)) (st : St) (e : Ending) (w' : World) : Prop :=
  ∃ q st', e = .returned (setV q) ∧ Rdr w' g s st' ∧ w.grownBy w' (some g) ∧ Rel s o st q st'

/-- What is told behind the items. -/
theorem class_end (s : ByteArray) (st st2 : St) (T0 : R (Nat → Bool)) (q : Nat → Bool) (hr : Rel s T0 st q st2) (h93 : st2.bad = 0 → isB s st2.pos 93 = true) (neg : Bool) :
    Rel s (thenR T0 fun q p => .ok (if neg = true then notP q else q, p + 1)) st (if neg = true then notP q else q) (st2.next s).2 := by
  refine hr.then (fun h => ?_) fun _ h => ?_
  · rw [next_bad s st2 h]
    exact ⟨rfl, rfl, rfl, hr.pos⟩
  · have := isB_lt (h93 h)
    rw [next_ok s st2 h this.1]
    exact Rel.mk0 rfl (show st2.pos + 1 ≤ s.size by omega) (fun h' => absurd h h') fun _ => .inl ⟨h, rfl⟩

set_option maxRecDepth 20000 in
set_option maxHeartbeats 4000000 in
theorem class_p (w : World) (g : Nat) (s : ByteArray) (st : St) (h : Rdr w g s st) (hs : s.size ≤ 1000) (hpos : st.pos ≤ s.size) :
    Calls Try.prog 47 #[.pointer (some ⟨g, 0, none⟩)] w (RetSet w g s (cClass s st.pos) st) := by
  have b0 := Box4.new0 w
  have r0 := h.alloc (.cells #[.int .u64 0, .int .u64 0, .int .u64 0, .int .u64 0] 25)
  have hO : w.grownBy (w.alloc (.cells #[.int .u64 0, .int .u64 0, .int .u64 0, .int .u64 0] 25)) (some g) := only_alloc (only_refl _ _) _
  have hgw := h.lt
  have hgb : w.heap.size ≠ g := by omega
  generalize hw0 : w.alloc (.cells #[.int .u64 0, .int .u64 0, .int .u64 0, .int .u64 0] 25) = w0 at *
  have HW := Lib.hid hw0
  clear hw0
  obtain ⟨neg, hneg⟩ : ∃ neg, (st.peek s == 94) = neg := ⟨_, rfl⟩
  have HN : Hid (st.bad = 0 → neg = isB s st.pos 94) := by
    intro hb
    rw [← hneg, Bool.eq_iff_iff, ← peek_isB s st hb 94]
    simp
  obtain ⟨st1, hst1⟩ : ∃ st1, st1 = if neg = true then st.step 1 else st := ⟨_, rfl⟩
  have hp1 : st1.pos ≤ s.size := by
    rw [hst1]
    split
    · have := peek_pos s st (by simp_all)
      exact this.2
    · exact hpos
  have HS := Lib.hid hst1
  obtain ⟨c0, c1, c2, c3, c4⟩ := r0.cell
  obtain ⟨f0, f1, f2, f3, f4⟩ := r0.frozen
  go_enter Try.func47, Try.ntmps47
  go_wp2_with fail
  rw [HW.out]
  clear HW hst1
  go_upto_if 8 with (go_at_call 23; (with_reducible refine (peek_p _ g s st r0 hs).mono ?_); rintro e w1 ⟨rfl, n, rfl⟩)
  go_cut [3] (fun s3 wx => s3 = .bool neg ∧ Rdr wx g s st1 ∧ Box4 wx w.heap.size noneP ∧ w.grownBy wx (some g))
  case first =>
    cases neg
    · go_wp2_with fail
      go_meet
      exact ⟨rfl, by rw [HS.out, if_neg (by simp)]; exact r0.drewN _, b0, only_drewN hO _⟩
    · have hpk := (peek_pos s st (by simp at hneg; omega)).2
      go_wp2_with fail
      go_meet
      exact ⟨rfl, by rw [HS.out, if_pos (by simp)]; exact r0.setPos (st.pos + 1), b0.far hgb _, only_drewN (only_set hO _) _⟩
  case rest =>
  clear r0 b0 hO c0 c1 c2 c3 c4 f0 f1 f2 f3 f4 hneg
  obtain ⟨rfl, r0, b0, hO⟩ := hcut
  have hir := (item_rel s st1 hp1).from (st := st) (by rw [HS.out]; split <;> rfl) (by rw [HS.out]; split <;> rfl) (by rw [HS.out]; split <;> rfl)
  have HI := Lib.hid (item_p wc g s st1 r0 hs hp1)
  have HC : Hid (st.bad = 0 → thenR (thenR (cItem s st1.pos) fun b p => loopR (clsStep s) (s.size + 1) b p) (fun q p => .ok (if neg = true then notP q else q, p + 1)) = cClass s st.pos) := by
    intro hb
    have hn := HN.out hb
    rw [HS.out, hn]
    unfold cClass
    split <;> rfl
  generalize (st1.item s).1 = q1 at *
  generalize (st1.item s).2 = st2 at *
  have hgo := Lib.hid (Going.start (step := clsStep s) (f := id) hir)
  generalize hm0 : (if st2.bad = 0 then s.size + 1 else 0) = m0 at hgo
  clear hir hm0 HN HS
  simp only [id] at hgo
  go_wp2_with (go_at_call 59; (with_reducible refine (HI.out).mono ?_); rintro e w2 ⟨rfl, r2, o2⟩; unfold setV)
  have bk := Box4.new w2 q1
  replace r2 := r2.alloc (.cells #[.int .u64 (word q1 0), .int .u64 (word q1 1), .int .u64 (word q1 2), .int .u64 (word q1 3)] 25)
  have b2 := (b0.grown o2 (by simpa using hgb)).alloc (.cells #[.int .u64 (word q1 0), .int .u64 (word q1 1), .int .u64 (word q1 2), .int .u64 (word q1 3)] 25)
  have hO2 := only_alloc (only_trans hO o2) (.cells #[.int .u64 (word q1 0), .int .u64 (word q1 1), .int .u64 (word q1 2), .int .u64 (word q1 3)] 25)
  have hbx : w.heap.size ≠ w2.heap.size := by have := (b0.grown o2 (by simpa using hgb)).lt; omega
  have hgx : g ≠ w2.heap.size := by have := o2.size; have := r0.lt; omega
  have hnx : w.heap.size ≤ w2.heap.size := Nat.le_trans hO.size o2.size
  generalize w2.alloc (.cells #[.int .u64 (word q1 0), .int .u64 (word q1 1), .int .u64 (word q1 2), .int .u64 (word q1 3)] 25) = w3 at *
  generalize w2.heap.size = gx at *
  clear HI r0 b0 hO o2
  go_loopg [] m0 (fun m wr => ∃ q st2, Rdr wr g s st2 ∧ Box4 wr w.heap.size noneP ∧ Box4 wr gx q ∧ w.grownBy wr (some g) ∧ Going s (thenR (cItem s st1.pos) fun b p => loopR (clsStep s) (s.size + 1) b p) (clsStep s) st m q st2)
  case atStart => exact ⟨q1, st2, r2, b2, bk, hO2, hgo.out⟩
  case round =>
    clear r2 b2 bk hO2 hgo
    obtain ⟨q, st2, r2, b2, bk, hO2, hgo⟩ := hrel
    have hp2 := hgo.pos
    by_cases hround : st2.bad = 0 ∧ ¬ st2.peek s = 93
    · obtain ⟨hb, hpk⟩ := hround
      have h93 : ¬ isB s st2.pos 93 = true := fun h => hpk ((peek_isB s st2 hb 93).2 h)
      have hst : clsStep s q st2.pos = some (thenR (cItem s st2.pos) fun r p => .ok (orP q r, p)) := by unfold clsStep; rw [if_neg h93]
      have hi := item_rel s st2 hp2
      have HI := Lib.hid (fun w h => item_p w g s st2 h hs hp2)
      have HF := Lib.hid (clsStep_fwd s q st2.pos _ hst)
      generalize (st2.item s).1 = q3 at *
      generalize (st2.item s).2 = st3 at *
      have hre : Rel s (thenR (cItem s st2.pos) fun r p => .ok (orP q r, p)) st2 (orP q q3) st3 := hi.then (fun h => ⟨rfl, rfl, rfl, hi.pos⟩) fun _ h => Rel.mk0 rfl hi.pos (fun h' => absurd h h') fun _ => .inl ⟨h, rfl⟩
      have HG := Lib.hid (hgo.on hb hst hre HF.out)
      have hpk' : (st2.peek s != 93) = true := by simpa using hpk
      have hb' : (st2.bad == 0) = true := by simpa using hb
      clear hgo hst hi hre HF hpk h93 hb
      obtain ⟨c0, c1, c2, c3, c4⟩ := r2.cell
      obtain ⟨k0, k1, k2, k3⟩ := bk.cell
      go_wp2_with (go_at_call 23; (with_reducible refine (peek_p _ g s st2 r2 hs).mono ?_); rintro e w1 ⟨rfl, n, rfl⟩)
      replace r2 := r2.drewN n
      replace b2 : Box4 (wr.drewN n) w.heap.size noneP := b2
      replace bk : Box4 (wr.drewN n) gx q := bk
      replace hO2 := only_drewN hO2 n
      generalize wr.drewN n = w4 at *
      clear k0 k1 k2 k3 c0 c1 c2 c3 c4
      obtain ⟨k0, k1, k2, k3⟩ := bk.cell
      have hgx' : some gx ≠ some g := by simpa using Ne.symm hgx
      have hgb' : some w.heap.size ≠ some g := by simpa using hgb
      go_region_law (first
        | (go_simp; go_at_call 59; (with_reducible refine (HI.out _ (by first | exact r2.drew | exact r2)).mono ?_); rintro e w5 ⟨rfl, r5, o5⟩; unfold setV; have bk5 := (show Box4 w4.drew gx q from bk).grown o5 hgx'; have b5 := (show Box4 w4.drew w.heap.size noneP from b2).grown o5 hgb'; have hO5 := only_trans (only_drew hO2) o5; obtain ⟨l0, l1, l2, l3⟩ := bk5.cell)
        | (go_simp; go_at_call 60; (with_reducible refine (ror_p q q3 _).mono ?_); rintro e w6 ⟨rfl, hb6⟩; unfold setV; have r6 := r5.stays hb6; have bk6 := bk5.stays hb6; have b6 := b5.stays hb6; have hO6 := only_below hO5 hb6; obtain ⟨m0, m1, m2, m3⟩ := bk6.cell; obtain ⟨y0, y1, y2, y3⟩ := bk6.frozen))
      all_goals
        go_wp2
        go_roundg (if st3.bad = 0 then gk - 1 else 0)
        case measure => exact HG.out.1
        case rel => exact ⟨orP q q3, st3, r6.put4 hgx (orP q q3), b6.putFar hbx (orP q q3), bk6.put (orP q q3), only_put4 hO6 hnx (orP q q3), HG.out.2⟩
    · have hx : st2.bad = 0 → isB s st2.pos 93 = true := fun hb => (peek_isB s st2 hb 93).1 (Classical.not_not.1 fun h => hround ⟨hb, h⟩)
      have hre := class_end s st st2 _ q (hgo.stop fun hb => by unfold clsStep; rw [if_pos (hx hb)]) hx neg
      have HRE := Lib.hid (hre.swap HC.out)
      have HNX := Lib.hid (fun w h => next_p w g s st2 h hs)
      generalize (st2.next s).2 = st3 at *
      generalize (st2.next s).1 = c at *
      clear hre hx hgo HC
      obtain ⟨c0, c1, c2, c3, c4⟩ := r2.cell
      by_cases hb : st2.bad = 0
      · have hb' : (st2.bad == 0) = true := by simpa using hb
        have hpk' : (st2.peek s != 93) = false := by simpa using Classical.not_not.1 fun h => hround ⟨hb, h⟩
        clear hb hround
        cases neg
        · go_wp2_with (first
            | (go_at_call 23; (with_reducible refine (peek_p _ g s st2 r2 hs).mono ?_); rintro e w1 ⟨rfl, n, rfl⟩)
            | (go_at_call 33; (with_reducible refine (HNX.out _ (r2.drewN n)).mono ?_); rintro e w5 ⟨rfl, r5, o5⟩; have bk5 := (show Box4 (wr.drewN n) gx q from bk).grown o5 (by simpa using Ne.symm hgx); have b5 := (show Box4 (wr.drewN n) w.heap.size noneP from b2).grown o5 (by simpa using hgb); have hO5 := only_trans (only_drewN hO2 n) o5; obtain ⟨l0, l1, l2, l3⟩ := bk5.cell; obtain ⟨m0, m1, m2, m3⟩ := b5.cell; obtain ⟨y0, y1, y2, y3⟩ := b5.frozen))
          refine bodyPost_ret (v := setV q) ?_ rfl ⟨q, st3, rfl, ?_, ?_, ?_⟩
          · unfold setV
            simp [results, Try.results47, go_sem, m0, m1, m2, m3]
          · exact r5.put4 (Ne.symm hgb) q
          · exact only_put4 hO5 (Nat.le_refl _) q
          · simpa using HRE.out
        · go_wp2_with (first
            | (go_at_call 23; (with_reducible refine (peek_p _ g s st2 r2 hs).mono ?_); rintro e w1 ⟨rfl, n, rfl⟩)
            | (go_at_call 33; (with_reducible refine (HNX.out _ (r2.drewN n)).mono ?_); rintro e w5 ⟨rfl, r5, o5⟩; have bk5 := (show Box4 (wr.drewN n) gx q from bk).grown o5 (by simpa using Ne.symm hgx); have b5 := (show Box4 (wr.drewN n) w.heap.size noneP from b2).grown o5 (by simpa using hgb); have hO5 := only_trans (only_drewN hO2 n) o5; obtain ⟨l0, l1, l2, l3⟩ := bk5.cell)
            | (go_at_call 48; (with_reducible refine (rnot_p q _).mono ?_); rintro e w6 ⟨rfl, hb6⟩; unfold setV; have r6 := r5.stays hb6; have b6 := b5.stays hb6; have hO6 := only_below hO5 hb6; obtain ⟨m0, m1, m2, m3⟩ := b6.cell; obtain ⟨y0, y1, y2, y3⟩ := b6.frozen))
          refine bodyPost_ret (v := setV (notP q)) ?_ rfl ⟨notP q, st3, rfl, ?_, ?_, ?_⟩
          · unfold setV
            simp [results, Try.results47, go_sem, m0, m1, m2, m3]
          · exact r6.put4 (Ne.symm hgb) (notP q)
          · exact only_put4 hO6 (Nat.le_refl _) (notP q)
          · simpa using HRE.out
      · have hb' : (st2.bad == 0) = false := by simpa using hb
        clear hb hround
        cases neg
        · go_wp2_with (first
            | (go_at_call 33; (with_reducible refine (HNX.out _ r2).mono ?_); rintro e w5 ⟨rfl, r5, o5⟩; have bk5 := bk.grown o5 (by simpa using Ne.symm hgx); have b5 := b2.grown o5 (by simpa using hgb); have hO5 := only_trans hO2 o5; obtain ⟨l0, l1, l2, l3⟩ := bk5.cell; obtain ⟨m0, m1, m2, m3⟩ := b5.cell; obtain ⟨y0, y1, y2, y3⟩ := b5.frozen))
          refine bodyPost_ret (v := setV q) ?_ rfl ⟨q, st3, rfl, ?_, ?_, ?_⟩
          · unfold setV
            simp [results, Try.results47, go_sem, m0, m1, m2, m3]
          · exact r5.put4 (Ne.symm hgb) q
          · exact only_put4 hO5 (Nat.le_refl _) q
          · simpa using HRE.out
        · go_wp2_with (first
            | (go_at_call 33; (with_reducible refine (HNX.out _ r2).mono ?_); rintro e w5 ⟨rfl, r5, o5⟩; have bk5 := bk.grown o5 (by simpa using Ne.symm hgx); have b5 := b2.grown o5 (by simpa using hgb); have hO5 := only_trans hO2 o5; obtain ⟨l0, l1, l2, l3⟩ := bk5.cell)
            | (go_at_call 48; (with_reducible refine (rnot_p q _).mono ?_); rintro e w6 ⟨rfl, hb6⟩; unfold setV; have r6 := r5.stays hb6; have b6 := b5.stays hb6; have hO6 := only_below hO5 hb6; obtain ⟨m0, m1, m2, m3⟩ := b6.cell; obtain ⟨y0, y1, y2, y3⟩ := b6.frozen))
          refine bodyPost_ret (v := setV (notP q)) ?_ rfl ⟨notP q, st3, rfl, ?_, ?_, ?_⟩
          · unfold setV
            simp [results, Try.results47, go_sem, m0, m1, m2, m3]
          · exact r6.put4 (Ne.symm hgb) (notP q)
          · exact only_put4 hO6 (Nat.le_refl _) (notP q)
          · simpa using HRE.out

end Go.Proofs.Ytpiieonlbfhbaaa
