/-
  Several texts of this proof in one file: RefRd7, RefRd8, RefMid, RefAtom, RefAtom2, RefPiece. No statement of its own.
-/
import Derived.Test.YtammicfijnffaaaDoorMn10
import Derived.Deep.LoopGhost
import Derived.Test.YtammicfijnffaaaDoorMn3
set_option linter.unusedVariables false
set_option linter.unusedSimpArgs false

/-
  The document's own reader of patterns: class, One: what they do, held against the grammar. Contracts for other texts; no statement of its own.
-/
namespace Go.Proofs.YtammicfijnffaaaDoor
open Go Go.RowKit
attribute [local go_sem ↓] Go.wp_at_zero Go.wp_at_succ

/-- A set is told, and the reader is where the grammar says. -/
def RetSet (w : World) (g : Nat) (s : ByteArray) (o : R (Nat → Bool)) (st : St) (e : Ending) (w' : World) : Prop :=
  ∃ q st', e = .returned (setV q) ∧ Rdr w' g s st' ∧ w.grownBy w' (some g) ∧ Rel s o st q st'

/-- What is told behind the items. -/
theorem class_end (s : ByteArray) (st st2 : St) (T0 : R (Nat → Bool)) (q : Nat → Bool) (hr : Rel s T0 st q st2) (h93 : st2.bad = 0 → isB s st2.pos 93 = true) (neg : Bool) :
    Rel s (thenR T0 fun q p => .ok (if neg = true then notP q else q, p + 1)) st (if neg = true then notP q else q) (st2.next s).2 := by
  refine hr.then (fun h => ?_) fun _ h => ?_
  · rw [next_bad s st2 h]
    exact ⟨rfl, rfl, rfl, hr.pos⟩
  · have := isB_lt (h93 h)
    rw [next_ok s st2 h this.1]
    exact Rel.mk0 rfl (show st2.pos + 1 ≤ s.size by omega) (fun h' => absurd h h') fun _ => .inl ⟨h, rfl⟩

set_option maxRecDepth 20000 in
set_option maxHeartbeats 4000000 in
theorem class_p (w : World) (g : Nat) (s : ByteArray) (st : St) (h : Rdr w g s st) (hs : s.size ≤ 1000) (hpos : st.pos ≤ s.size) :
    Calls Tryd.prog 52 #[.pointer (some ⟨g, 0, none⟩)] w (RetSet w g s (cClass s st.pos) st) := by
  have b0 := Box4.new0 w
  have r0 := h.alloc (.cells #[.int .u64 0, .int .u64 0, .int .u64 0, .int .u64 0] 26)
  have hO : w.grownBy (w.alloc (.cells #[.int .u64 0, .int .u64 0, .int .u64 0, .int .u64 0] 26)) (some g) := only_alloc (only_refl _ _) _
  have hgw := h.lt
  have hgb : w.heap.size ≠ g := by omega
  generalize hw0 : w.alloc (.cells #[.int .u64 0, .int .u64 0, .int .u64 0, .int .u64 0] 26) = w0 at *
  have HW := Lib.hid hw0
  clear hw0
  obtain ⟨neg, hneg⟩ : ∃ neg, (st.peek s == 94) = neg := ⟨_, rfl⟩
  have HN : Hid (st.bad = 0 → neg = isB s st.pos 94) := by
    intro hb
    rw [← hneg, Bool.eq_iff_iff, ← peek_isB s st hb 94]
    simp
  obtain ⟨st1, hst1⟩ : ∃ st1, st1 = if neg = true then st.step 1 else st := ⟨_, rfl⟩
  have hp1 : st1.pos ≤ s.size := by
    rw [hst1]
    split
    · have := peek_pos s st (by simp_all)
      exact this.2
    · exact hpos
  have HS := Lib.hid hst1
  obtain ⟨c0, c1, c2, c3, c4⟩ := r0.cell
  obtain ⟨f0, f1, f2, f3, f4⟩ := r0.frozen
  go_enter Tryd.func52, Tryd.ntmps52
  go_wp2_with fail
  rw [HW.out]
  clear HW hst1
  go_upto_if 8 with (go_at_call 33; (with_reducible refine (peek_p _ g s st r0 hs).mono ?_); rintro e w1 ⟨rfl, n, rfl⟩)
  go_cut [3] (fun s3 wx => s3 = .bool neg ∧ Rdr wx g s st1 ∧ Box4 wx w.heap.size noneP ∧ w.grownBy wx (some g))
  case first =>
    cases neg
    · go_wp2_with fail
      go_meet
      exact ⟨rfl, by rw [HS.out, if_neg (by simp)]; exact r0.drewN _, b0, only_drewN hO _⟩
    · have hpk := (peek_pos s st (by simp at hneg; omega)).2
      go_wp2_with fail
      go_meet
      exact ⟨rfl, by rw [HS.out, if_pos (by simp)]; exact r0.setPos (st.pos + 1), b0.far hgb _, only_drewN (only_set hO _) _⟩
  case rest =>
  clear r0 b0 hO c0 c1 c2 c3 c4 f0 f1 f2 f3 f4 hneg
  obtain ⟨rfl, r0, b0, hO⟩ := hcut
  have hir := (item_rel s st1 hp1).from (st := st) (by rw [HS.out]; split <;> rfl) (by rw [HS.out]; split <;> rfl) (by rw [HS.out]; split <;> rfl)
  have HI := Lib.hid (item_p wc g s st1 r0 hs hp1)
  have HC : Hid (st.bad = 0 → thenR (thenR (cItem s st1.pos) fun b p => loopR (clsStep s) (s.size + 1) b p) (fun q p => .ok (if neg = true then notP q else q, p + 1)) = cClass s st.pos) := by
    intro hb
    have hn := HN.out hb
    rw [HS.out, hn]
    unfold cClass
    split <;> rfl
  generalize (st1.item s).1 = q1 at *
  generalize (st1.item s).2 = st2 at *
  have hgo := Lib.hid (Going.start (step := clsStep s) (f := id) hir)
  generalize hm0 : (if st2.bad = 0 then s.size + 1 else 0) = m0 at hgo
  clear hir hm0 HN HS
  simp only [id] at hgo
  go_wp2_with (go_at_call 58; (with_reducible refine (HI.out).mono ?_); rintro e w2 ⟨rfl, r2, o2⟩; unfold setV)
  have bk := Box4.new w2 q1
  replace r2 := r2.alloc (.cells #[.int .u64 (word q1 0), .int .u64 (word q1 1), .int .u64 (word q1 2), .int .u64 (word q1 3)] 26)
  have b2 := (b0.grown o2 (by simpa using hgb)).alloc (.cells #[.int .u64 (word q1 0), .int .u64 (word q1 1), .int .u64 (word q1 2), .int .u64 (word q1 3)] 26)
  have hO2 := only_alloc (only_trans hO o2) (.cells #[.int .u64 (word q1 0), .int .u64 (word q1 1), .int .u64 (word q1 2), .int .u64 (word q1 3)] 26)
  have hbx : w.heap.size ≠ w2.heap.size := by have := (b0.grown o2 (by simpa using hgb)).lt; omega
  have hgx : g ≠ w2.heap.size := by have := o2.size; have := r0.lt; omega
  have hnx : w.heap.size ≤ w2.heap.size := Nat.le_trans hO.size o2.size
  generalize w2.alloc (.cells #[.int .u64 (word q1 0), .int .u64 (word q1 1), .int .u64 (word q1 2), .int .u64 (word q1 3)] 26) = w3 at *
  generalize w2.heap.size = gx at *
  clear HI r0 b0 hO o2
  go_loopg [] m0 (fun m wr => ∃ q st2, Rdr wr g s st2 ∧ Box4 wr w.heap.size noneP ∧ Box4 wr gx q ∧ w.grownBy wr (some g) ∧ Going s (thenR (cItem s st1.pos) fun b p => loopR (clsStep s) (s.size + 1) b p) (clsStep s) st m q st2)
  case atStart => exact ⟨q1, st2, r2, b2, bk, hO2, hgo.out⟩
  case round =>
    clear r2 b2 bk hO2 hgo
    obtain ⟨q, st2, r2, b2, bk, hO2, hgo⟩ := hrel
    have hp2 := hgo.pos
    by_cases hround : st2.bad = 0 ∧ ¬ st2.peek s = 93
    · obtain ⟨hb, hpk⟩ := hround
      have h93 : ¬ isB s st2.pos 93 = true := fun h => hpk ((peek_isB s st2 hb 93).2 h)
      have hst : clsStep s q st2.pos = some (thenR (cItem s st2.pos) fun r p => .ok (orP q r, p)) := by unfold clsStep; rw [if_neg h93]
      have hi := item_rel s st2 hp2
      have HI := Lib.hid (fun w h => item_p w g s st2 h hs hp2)
      have HF := Lib.hid (clsStep_fwd s q st2.pos _ hst)
      generalize (st2.item s).1 = q3 at *
      generalize (st2.item s).2 = st3 at *
      have hre : Rel s (thenR (cItem s st2.pos) fun r p => .ok (orP q r, p)) st2 (orP q q3) st3 := hi.then (fun h => ⟨rfl, rfl, rfl, hi.pos⟩) fun _ h => Rel.mk0 rfl hi.pos (fun h' => absurd h h') fun _ => .inl ⟨h, rfl⟩
      have HG := Lib.hid (hgo.on hb hst hre HF.out)
      have hpk' : (st2.peek s != 93) = true := by simpa using hpk
      have hb' : (st2.bad == 0) = true := by simpa using hb
      clear hgo hst hi hre HF hpk h93 hb
      obtain ⟨c0, c1, c2, c3, c4⟩ := r2.cell
      obtain ⟨k0, k1, k2, k3⟩ := bk.cell
      go_wp2_with (go_at_call 33; (with_reducible refine (peek_p _ g s st2 r2 hs).mono ?_); rintro e w1 ⟨rfl, n, rfl⟩)
      replace r2 := r2.drewN n
      replace b2 : Box4 (wr.drewN n) w.heap.size noneP := b2
      replace bk : Box4 (wr.drewN n) gx q := bk
      replace hO2 := only_drewN hO2 n
      generalize wr.drewN n = w4 at *
      clear k0 k1 k2 k3 c0 c1 c2 c3 c4
      obtain ⟨k0, k1, k2, k3⟩ := bk.cell
      have hgx' : some gx ≠ some g := by simpa using Ne.symm hgx
      have hgb' : some w.heap.size ≠ some g := by simpa using hgb
      go_region_law (first
        | (go_simp; go_at_call 58; (with_reducible refine (HI.out _ (by first | exact r2.drew | exact r2)).mono ?_); rintro e w5 ⟨rfl, r5, o5⟩; unfold setV; have bk5 := (show Box4 w4.drew gx q from bk).grown o5 hgx'; have b5 := (show Box4 w4.drew w.heap.size noneP from b2).grown o5 hgb'; have hO5 := only_trans (only_drew hO2) o5; obtain ⟨l0, l1, l2, l3⟩ := bk5.cell)
        | (go_simp; go_at_call 59; (with_reducible refine (ror_p q q3 _).mono ?_); rintro e w6 ⟨rfl, hb6⟩; unfold setV; have r6 := r5.stays hb6; have bk6 := bk5.stays hb6; have b6 := b5.stays hb6; have hO6 := only_below hO5 hb6; obtain ⟨m0, m1, m2, m3⟩ := bk6.cell; obtain ⟨y0, y1, y2, y3⟩ := bk6.frozen))
      all_goals
        go_wp2
        go_roundg (if st3.bad = 0 then gk - 1 else 0)
        case measure => exact HG.out.1
        case rel => exact ⟨orP q q3, st3, r6.put4 hgx (orP q q3), b6.putFar hbx (orP q q3), bk6.put (orP q q3), only_put4 hO6 hnx (orP q q3), HG.out.2⟩
    · have hx : st2.bad = 0 → isB s st2.pos 93 = true := fun hb => (peek_isB s st2 hb 93).1 (Classical.not_not.1 fun h => hround ⟨hb, h⟩)
      have hre := class_end s st st2 _ q (hgo.stop fun hb => by unfold clsStep; rw [if_pos (hx hb)]) hx neg
      have HRE := Lib.hid (hre.swap HC.out)
      have HNX := Lib.hid (fun w h => next_p w g s st2 h hs)
      generalize (st2.next s).2 = st3 at *
      generalize (st2.next s).1 = c at *
      clear hre hx hgo HC
      obtain ⟨c0, c1, c2, c3, c4⟩ := r2.cell
      by_cases hb : st2.bad = 0
      · have hb' : (st2.bad == 0) = true := by simpa using hb
        have hpk' : (st2.peek s != 93) = false := by simpa using Classical.not_not.1 fun h => hround ⟨hb, h⟩
        clear hb hround
        cases neg
        · go_wp2_with (first
            | (go_at_call 33; (with_reducible refine (peek_p _ g s st2 r2 hs).mono ?_); rintro e w1 ⟨rfl, n, rfl⟩)
            | (go_at_call 48; (with_reducible refine (HNX.out _ (r2.drewN n)).mono ?_); rintro e w5 ⟨rfl, r5, o5⟩; have bk5 := (show Box4 (wr.drewN n) gx q from bk).grown o5 (by simpa using Ne.symm hgx); have b5 := (show Box4 (wr.drewN n) w.heap.size noneP from b2).grown o5 (by simpa using hgb); have hO5 := only_trans (only_drewN hO2 n) o5; obtain ⟨l0, l1, l2, l3⟩ := bk5.cell; obtain ⟨m0, m1, m2, m3⟩ := b5.cell; obtain ⟨y0, y1, y2, y3⟩ := b5.frozen))
          refine bodyPost_ret (v := setV q) ?_ rfl ⟨q, st3, rfl, ?_, ?_, ?_⟩
          · unfold setV
            simp [results, Tryd.results52, go_sem, m0, m1, m2, m3]
          · exact r5.put4 (Ne.symm hgb) q
          · exact only_put4 hO5 (Nat.le_refl _) q
          · simpa using HRE.out
        · go_wp2_with (first
            | (go_at_call 33; (with_reducible refine (peek_p _ g s st2 r2 hs).mono ?_); rintro e w1 ⟨rfl, n, rfl⟩)
            | (go_at_call 48; (with_reducible refine (HNX.out _ (r2.drewN n)).mono ?_); rintro e w5 ⟨rfl, r5, o5⟩; have bk5 := (show Box4 (wr.drewN n) gx q from bk).grown o5 (by simpa using Ne.symm hgx); have b5 := (show Box4 (wr.drewN n) w.heap.size noneP from b2).grown o5 (by simpa using hgb); have hO5 := only_trans (only_drewN hO2 n) o5; obtain ⟨l0, l1, l2, l3⟩ := bk5.cell)
            | (go_at_call 53; (with_reducible refine (rnot_p q _).mono ?_); rintro e w6 ⟨rfl, hb6⟩; unfold setV; have r6 := r5.stays hb6; have b6 := b5.stays hb6; have hO6 := only_below hO5 hb6; obtain ⟨m0, m1, m2, m3⟩ := b6.cell; obtain ⟨y0, y1, y2, y3⟩ := b6.frozen))
          refine bodyPost_ret (v := setV (notP q)) ?_ rfl ⟨notP q, st3, rfl, ?_, ?_, ?_⟩
          · unfold setV
            simp [results, Tryd.results52, go_sem, m0, m1, m2, m3]
          · exact r6.put4 (Ne.symm hgb) (notP q)
          · exact only_put4 hO6 (Nat.le_refl _) (notP q)
          · simpa using HRE.out
      · have hb' : (st2.bad == 0) = false := by simpa using hb
        clear hb hround
        cases neg
        · go_wp2_with (first
            | (go_at_call 48; (with_reducible refine (HNX.out _ r2).mono ?_); rintro e w5 ⟨rfl, r5, o5⟩; have bk5 := bk.grown o5 (by simpa using Ne.symm hgx); have b5 := b2.grown o5 (by simpa using hgb); have hO5 := only_trans hO2 o5; obtain ⟨l0, l1, l2, l3⟩ := bk5.cell; obtain ⟨m0, m1, m2, m3⟩ := b5.cell; obtain ⟨y0, y1, y2, y3⟩ := b5.frozen))
          refine bodyPost_ret (v := setV q) ?_ rfl ⟨q, st3, rfl, ?_, ?_, ?_⟩
          · unfold setV
            simp [results, Tryd.results52, go_sem, m0, m1, m2, m3]
          · exact r5.put4 (Ne.symm hgb) q
          · exact only_put4 hO5 (Nat.le_refl _) q
          · simpa using HRE.out
        · go_wp2_with (first
            | (go_at_call 48; (with_reducible refine (HNX.out _ r2).mono ?_); rintro e w5 ⟨rfl, r5, o5⟩; have bk5 := bk.grown o5 (by simpa using Ne.symm hgx); have b5 := b2.grown o5 (by simpa using hgb); have hO5 := only_trans hO2 o5; obtain ⟨l0, l1, l2, l3⟩ := bk5.cell)
            | (go_at_call 53; (with_reducible refine (rnot_p q _).mono ?_); rintro e w6 ⟨rfl, hb6⟩; unfold setV; have r6 := r5.stays hb6; have b6 := b5.stays hb6; have hO6 := only_below hO5 hb6; obtain ⟨m0, m1, m2, m3⟩ := b6.cell; obtain ⟨y0, y1, y2, y3⟩ := b6.frozen))
          refine bodyPost_ret (v := setV (notP q)) ?_ rfl ⟨notP q, st3, rfl, ?_, ?_, ?_⟩
          · unfold setV
            simp [results, Tryd.results52, go_sem, m0, m1, m2, m3]
          · exact r6.put4 (Ne.symm hgb) (notP q)
          · exact only_put4 hO6 (Nat.le_refl _) (notP q)
          · simpa using HRE.out

end Go.Proofs.YtammicfijnffaaaDoor

/-
  The document's own reader of patterns: One, many; one kid more in a row. Contracts for other texts; no statement of its own.
-/
namespace Go.Proofs.YtammicfijnffaaaDoor
open Go Go.RowKit
attribute [local go_sem ↓] Go.wp_at_zero Go.wp_at_succ

/-- One kid more. -/
theorem row_push {w : World} {B : Nat} {v : Value} {l : List T} (h : Row w B v l) (hB : B ≤ w.heap.size) (hl : l.length ≤ 100000) (t : T) (k : Value) (ht : Tree w (fun b => B ≤ b ∧ some b ≠ v.ownBlock) t k)
    (ty : TypeId) (ad : Addr) (c : Nat) (hc : ∀ (j : Nat) u, (nodeC t k)[j]? = some u → w.cell? (ad.add j) = some u) :
    ∃ v' w', (Builtin.append_ #[27, 27] ty #[v, .slice (some ad) 1 c]).run Tryd.prog w = .ok v' w' ∧ Row w' B v' (l ++ [t]) ∧ w.grownBy w' v.ownBlock ∧ B ≤ w'.heap.size := by
  obtain ⟨ks, h1, h2, h3⟩ := h
  obtain ⟨i0, hi, hz0, hz1, hz2⟩ := info_parts Tryd.infoNode
  obtain ⟨v', w', hr, h4, h5, _, h6⟩ := run_append_own_at (P := Tryd.prog) w B 27 ty 29 i0 _ 8 80 Tryd.underlying27 hi hz0 hz1 hz2 rfl (by decide) v l.length (cellsOf l ks) h2 ad 1 c (nodeC t k) rfl hc
    (by
      intro u hu
      simp [nodeC] at hu
      rcases hu with rfl | rfl | rfl | rfl | rfl | rfl | rfl | rfl
      all_goals first | rfl | exact ht.one) (by unfold maxLen; omega) (by omega) hB
  refine ⟨v', w', hr, ⟨ks ++ [k], by simp [h1], ?_, fun i t' k' e1 e2 => ?_⟩, h5, Nat.le_trans hB h5.size⟩
  · rw [cellsOf_app l ks t k h1]
    simpa using h4
  · have hkeep : ∀ t' k', Tree w (fun b => B ≤ b ∧ some b ≠ v.ownBlock) t' k' → Tree w' (fun b => B ≤ b ∧ some b ≠ v'.ownBlock) t' k' := by
      intro t' k' h
      refine h.mono fun b hb hlt _ => ⟨h5.block b hlt hb.2, hb.1, ?_⟩
      rcases h6 with h6 | h6
      · rw [h6]; exact hb.2
      · rw [h6]; simp; omega
    by_cases hi : i < l.length
    · rw [List.getElem?_append_left hi] at e1
      rw [List.getElem?_append_left (by omega)] at e2
      exact hkeep _ _ (h3 i t' k' e1 e2)
    · rw [List.getElem?_append_right (by omega)] at e1
      rw [List.getElem?_append_right (by omega)] at e2
      have hi' : i = l.length := by
        have := List.getElem?_eq_some_iff.1 e1
        simp at this
        omega
      subst hi'
      simp [h1] at e1 e2
      subst e1 e2
      exact hkeep _ _ ht

/-- At the list of a plain region's operations. -/
theorem wpList_push {w : World} {ops : Array Oper} {rest : List Oper} {o : Oper} {a : Act} {Q : Exit → Act → World → Prop} (hgd : o.guard = none) (s x : Operand)
    (ho : o.op = .call { callee := .builtin .append, args := #[s, x], argTypes := #[27, 27] })
    {B : Nat} {v : Value} {l : List T} (hs : a.eval s = v) (h : Row w B v l) (hB : B ≤ w.heap.size) (hl : l.length ≤ 100000) (t : T) (k : Value) (ht : Tree w (fun b => B ≤ b ∧ some b ≠ v.ownBlock) t k)
    (ad : Addr) (c : Nat) (hx : a.eval x = .slice (some ad) 1 c) (hc : ∀ (j : Nat) u, (nodeC t k)[j]? = some u → w.cell? (ad.add j) = some u)
    (hk : ∀ v' w', Row w' B v' (l ++ [t]) → w.grownBy w' v.ownBlock → B ≤ w'.heap.size → wpList Tryd.prog ops Q rest (a.put o.dst v') w') : wpList Tryd.prog ops Q (o :: rest) a w := by
  obtain ⟨v', w', hr, h2, h3, h4⟩ := row_push h hB hl t k ht o.type ad c hc
  refine wpList_plain hgd fun _ hK => ?_
  unfold Oper.wp execOp
  simp only [ho, resolve, invoke, builtin, Sem.run_bind, Sem.run_pure, Result.andThen_ok, List.map_toArray, List.map_cons, List.map_nil, hs, hx, hr]
  exact hK _ _ (hk v' w' h2 h3 h4)

set_option maxHeartbeats 400000 in
theorem one_p (p : Nat → Bool) (w : World) :
    Calls Tryd.prog 51 #[.agg #[.int .u64 (word p 0), .int .u64 (word p 1), .int .u64 (word p 2), .int .u64 (word p 3)]] w fun e w' => e = .returned (nodeV (.one p) (.slice none 0 0)) ∧ Below w.heap.size w w' := by
  go_enter Tryd.func51, Tryd.ntmps51
  go_wp2
  refine bodyPost_ret (v := nodeV (.one p) (.slice none 0 0)) ?_ rfl ⟨rfl, ((Below.refl _ _).alloc (Nat.le_refl _) _).alloc (by simp) _⟩
  simp [nodeV, T.one, T.op, T.set, T.lo, T.hi, results, Tryd.results51, go_sem]

/-- A node is told, in new memory. -/
def RetMany (w : World) (B : Nat) (t : T) (e : Ending) (w' : World) : Prop := ∃ k, e = .returned (nodeV t k) ∧ Tree w' (fun b => B ≤ b) t k ∧ Below w.heap.size w w'

set_option maxHeartbeats 1000000 in
theorem many_p (w : World) (B : Nat) (op : Int) (v : Value) (l : List T) (h : Row w B v l) (h0 : 0 < l.length) :
    Calls Tryd.prog 34 #[.int .i64 op, v] w (RetMany w B (T.many op l)) := by
  have ht := h.tree h0 op noneP 0 0
  have hh := h
  obtain ⟨ks, h1, h2, h3⟩ := h
  obtain ⟨g, cap, rfl, hB, hg⟩ := h2.form h0
  by_cases hl : l.length = 1
  · obtain ⟨t, rfl⟩ : ∃ t, l = [t] := by
      match l, hl with
      | [t], _ => exact ⟨t, rfl⟩
    obtain ⟨k, rfl⟩ : ∃ k, ks = [k] := by
      match ks, h1 with
      | [k], _ => exact ⟨k, rfl⟩
    have hk := h3 0 t k rfl rfl
    obtain ⟨A, m, c, rfl⟩ := hk.form
    have c0 : w.cell? ⟨g, 0, none⟩ = some (.int .i64 t.op) := h2.cellAt 0 (by simp)
    have c1 : w.cell? ⟨g, 1, none⟩ = some (.int .u64 (word t.set 0)) := h2.cellAt 1 (by simp)
    have c2 : w.cell? ⟨g, 2, none⟩ = some (.int .u64 (word t.set 1)) := h2.cellAt 2 (by simp)
    have c3 : w.cell? ⟨g, 3, none⟩ = some (.int .u64 (word t.set 2)) := h2.cellAt 3 (by simp)
    have c4 : w.cell? ⟨g, 4, none⟩ = some (.int .u64 (word t.set 3)) := h2.cellAt 4 (by simp)
    have c5 : w.cell? ⟨g, 5, none⟩ = some (.int .i64 t.lo) := h2.cellAt 5 (by simp)
    have c6 : w.cell? ⟨g, 6, none⟩ = some (.int .i64 t.hi) := h2.cellAt 6 (by simp)
    have c7 : w.cell? ⟨g, 7, none⟩ = some (.slice A m c) := h2.cellAt 7 (by simp)
    clear h1 h2 h3 hh hl h0 ht
    show Calls Tryd.prog 34 #[.int .i64 op, .slice (some ⟨g, 0, none⟩) 1 cap] w (RetMany w B t)
    go_enter Tryd.func34, Tryd.ntmps34
    go_wp2
    refine bodyPost_ret (v := nodeV t (.slice A m c)) ?_ rfl ⟨_, rfl, ?_, ?_⟩
    · simp [nodeV, results, Tryd.results34, go_sem]
    · exact (hk.weak fun b hb _ => hb.1).stays ((Below.refl _ _).alloc (Nat.le_refl _) _)
    · exact (Below.refl _ _).alloc (Nat.le_refl _) _
  · have e : T.many op l = .mk op noneP 0 0 l := by
      unfold T.many
      match l, hl with
      | [], _ => rfl
      | _ :: _ :: _, _ => rfl
    rw [e]
    clear e
    have hl' : ((l.length : Int) == 1) = false := by simp; omega
    have hl2 : (l.length == 1) = false := by simp [hl]
    generalize l.length = n at *
    clear h1 h2 h3 hh hl h0
    go_enter Tryd.func34, Tryd.ntmps34
    go_wp2
    refine bodyPost_ret (v := nodeV (.mk op noneP 0 0 l) (.slice (some ⟨g, 0, none⟩) n cap)) ?_ rfl ⟨_, rfl, ?_, ?_⟩
    · simp [nodeV, T.op, T.set, T.lo, T.hi, word_none, results, Tryd.results34, go_sem]
    · exact ht.stays ((Below.refl _ _).alloc (Nat.le_refl _) _)
    · exact (Below.refl _ _).alloc (Nat.le_refl _) _

end Go.Proofs.YtammicfijnffaaaDoor

/-
  The document's own reader of patterns, amid a call that tells a node: what holds of memory, and what is told in the end. Laws for other texts; no statement of its own.
-/
namespace Go.Proofs.YtammicfijnffaaaDoor
open Go Go.RowKit

/-- A node is told, in new memory, and the reader is where the grammar says. -/
def RetNode (w : World) (g : Nat) (s : ByteArray) (o : R T) (st : St) (e : Ending) (w' : World) : Prop :=
  ∃ t k st', e = .returned (nodeV t k) ∧ Tree w' (fun b => w.heap.size ≤ b) t k ∧ Rdr w' g s st' ∧ w.grownBy w' (some g) ∧ Rel s o st t st'

/-- Amid the call: the reader; the box of what will be told; what has turned. -/
structure Mid (w : World) (g : Nat) (s : ByteArray) (st : St) (wx : World) : Prop where
  lt : g < w.heap.size
  rdr : Rdr wx g s st
  box : Box8 wx w.heap.size T.zero (.slice none 0 0)
  only : w.grownBy wx (some g)

section
variable {w wx wy : World} {g : Nat} {s : ByteArray} {st st' : St}
theorem Mid.start (h : Rdr w g s st) : Mid w g s st (w.alloc (.cells #[.int .i64 0, .int .u64 0, .int .u64 0, .int .u64 0, .int .u64 0, .int .i64 0, .int .i64 0, .slice none 0 0] 29)) :=
  ⟨h.lt, h.alloc _, Box8.new0 w, only_alloc (only_refl _ _) _⟩
theorem Mid.next (h : Mid w g s st wx) (o : wx.grownBy wy (some g)) (r : Rdr wy g s st') : Mid w g s st' wy :=
  ⟨h.lt, r, h.box.grown o (by have := h.lt; simp; omega), only_trans h.only o⟩
theorem Mid.below (h : Mid w g s st wx) (hb : Below wx.heap.size wx wy) : Mid w g s st wy := ⟨h.lt, h.rdr.stays hb, h.box.stays hb, only_below h.only hb⟩
theorem Mid.drewN (h : Mid w g s st wx) (n : Nat) : Mid w g s st (wx.drewN n) := ⟨h.lt, h.rdr.drewN n, h.box, only_drewN h.only n⟩
theorem Mid.alloc (h : Mid w g s st wx) (o : Obj) : Mid w g s st (wx.alloc o) := ⟨h.lt, h.rdr.alloc o, h.box.alloc o, only_alloc h.only o⟩
theorem Mid.setPos (h : Mid w g s st wx) (k : Nat) : Mid w g s { st with pos := k } (wx.setCell ⟨g, 1, none⟩ (.int .i64 (k : Int))) := h.next (only_set (only_refl _ _) _) (h.rdr.setPos k)
theorem Mid.setOpn (h : Mid w g s st wx) (k : Int) : Mid w g s { st with opn := k } (wx.setCell ⟨g, 2, none⟩ (.int .i64 k)) := h.next (only_set (only_refl _ _) _) (h.rdr.setOpn k)
theorem Mid.new (h : Mid w g s st wx) : w.heap.size < wx.heap.size := h.box.lt
theorem Mid.put8 (h : Mid w g s st wx) {b : Nat} (hb : w.heap.size < b) (t : T) (k : Value) : Mid w g s st (put8 wx b t k) :=
  ⟨h.lt, h.rdr.put8 (by have := h.lt; omega) t k, h.box.putFar (by omega), only_put8 h.only (by omega) t k⟩
theorem Mid.ret {o : R T} {st0 : St} {t : T} {k : Value} (h : Mid w g s st wx) (ht : Tree wx (fun b => w.heap.size < b) t k) (hr : Rel s o st0 t st) : RetNode w g s o st0 (.returned (nodeV t k)) (Go.Proofs.YtammicfijnffaaaDoor.put8 wx w.heap.size t k) := by
  have := h.lt
  exact ⟨t, k, st, rfl, (ht.put8 fun b hb => by omega).weak fun b hb _ => Nat.le_of_lt hb, h.rdr.put8 (by omega) t k, only_put8 h.only (Nat.le_refl _) t k, hr⟩
/-- Nothing is stored: the node is nothing. -/
theorem Mid.ret0 {o : R T} {st0 : St} (h : Mid w g s st wx) (hr : Rel s o st0 T.zero st) : RetNode w g s o st0 (.returned (nodeV T.zero (.slice none 0 0))) wx :=
  ⟨T.zero, _, st, rfl, .nil _ rfl, h.rdr, h.only, hr⟩
end

theorem memP_one (c : Int) : memP [c] = rangeP c c := by
  funext x
  unfold memP rangeP
  rw [Bool.eq_iff_iff]
  simp
  omega
theorem max_nonneg (c : Int) (h : 0 ≤ c) : max c 0 = c := by omega

end Go.Proofs.YtammicfijnffaaaDoor

/-
  The document's own reader of patterns: atom: what it does, held against the grammar. Contracts for other texts; no statement of its own.
-/
namespace Go.Proofs.YtammicfijnffaaaDoor
open Go Go.RowKit
attribute [local go_sem ↓] Go.wp_at_zero Go.wp_at_succ

/-- The set of one byte. -/
theorem of1_p (c : Int) (w : World) (h0 : 0 ≤ c) (h1 : c ≤ 255) :
    Calls Tryd.prog 54 #[.slice (some ⟨w.heap.size, 0, none⟩) 1 1] (w.alloc (.cells #[.int .u8 c] 5)) fun e w' => e = .returned (setV (rangeP c c)) ∧ Below w.heap.size w w' := by
  refine (rof_p _ 1 1 [c] _ rfl (rd_new1 w c) (by intro k hk; simp at hk; subst hk; exact ⟨h0, h1⟩) (by simp)).mono ?_
  rintro e w' ⟨rfl, hb⟩
  rw [memP_one]
  exact ⟨rfl, gro1 (Below.refl _ _) hb⟩

theorem escaped_bd (s : ByteArray) (st' : St) : 0 ≤ (st'.escaped s).1 ∧ (st'.escaped s).1 ≤ 255 := by
  have h := next_bd s st'
  unfold St.escaped
  simp only
  split
  · simp
  · split
    · simp
    · split
      · rename_i h3
        have := inT_nonneg _ _ h3
        simp only
        omega
      · simp
theorem next_opn {s : ByteArray} {st st' : St} {c n : Int} (h : st.next s = (c, st')) (hn : st.opn = n) : st'.opn = n := by
  have e : ∀ (x : St) a b, (x.fail a b).opn = x.opn := fun x a b => by unfold St.fail; split <;> rfl
  unfold St.next at h
  split at h
  · injection h with h1 h2; rw [← h2, e]; exact hn
  · injection h with h1 h2; rw [← h2]; exact hn
theorem fail_opn (st : St) (a b : Int) : (st.fail a b).opn = st.opn := by unfold St.fail; split <;> rfl
set_option maxRecDepth 20000 in
set_option maxHeartbeats 2000000 in
theorem atom_else (w : World) (g : Nat) (s : ByteArray) (st : St) (h : Rdr w g s st) (hs : s.size ≤ 1000) (hpos : st.pos ≤ s.size) (o : R T) (c : Int) (st1 : St) (hc : st.next s = (c, st1)) (h1 : c ≠ 40) (h2 : c ≠ 91) (h3 : c ≠ 46) (h4 : c ≠ 92) (h5 : c ≠ 42) (h6 : c ≠ 43) (hi : inT c stopT = false) (hb : -1 ≤ c ∧ c ≤ 255) (hr : Rel s o st (.one (rangeP (max c 0) (max c 0))) st1) :
    Calls Tryd.prog 47 #[.pointer (some ⟨g, 0, none⟩)] w (RetNode w g s o st) := by
  have mid := Mid.start h
  have HN := Lib.hid (fun w h => next_p w g s st h hs)
  simp only [hc] at HN
  generalize hw0 : w.alloc (.cells #[.int .i64 0, .int .u64 0, .int .u64 0, .int .u64 0, .int .u64 0, .int .i64 0, .int .i64 0, .slice none 0 0] 29) = w0 at mid
  have HW := Lib.hid hw0
  have HR := Lib.hid hr
  clear hw0 hr hc
  have e1 : (c == 40) = false := by simpa using h1
  have e2 : (c == 91) = false := by simpa using h2
  have e3 : (c == 46) = false := by simpa using h3
  have e4 : (c == 92) = false := by simpa using h4
  have e5 : (c == 42) = false := by simpa using h5
  have e6 : (c == 43) = false := by simpa using h6
  clear h1 h2 h3 h4 h5 h6
  unfold stopT at hi
  obtain ⟨m, hm⟩ : ∃ m, max c 0 = m := ⟨_, rfl⟩
  have hm0 : 0 ≤ m ∧ m ≤ 255 := by omega
  rw [hm] at HR
  have hif : (if c < 0 then 0 else c) = m := by split <;> omega
  clear hm
  go_enter Tryd.func47, Tryd.ntmps47
  go_wp2_with fail
  rw [HW.out]
  clear HW
  go_wp2_with (first
    | (go_at_call 48; (with_reducible refine (HN.out _ mid.rdr).mono ?_); rintro e w1 ⟨rfl, r1, o1⟩; have mid1 := mid.next o1 r1; obtain ⟨c0, c1, c2, c3, c4⟩ := r1.cell; obtain ⟨f0, f1, f2, f3, f4⟩ := r1.frozen)
    | (go_at_call 57; (with_reducible refine (in_p _ c ⟨#[93, 41, 125, 123, 124, 63, 94, 36]⟩ (by decide)).mono ?_); rintro e w2 ⟨rfl, rfl⟩; rw [hi])
    | (go_at_call 54; (with_reducible refine (of1_p m _ (by omega) (by omega)).mono ?_); rintro e w3 ⟨rfl, hb3⟩; unfold setV; have mid3 := mid1.below hb3)
    | (go_at_call 51; (with_reducible refine (one_p (rangeP m m) _).mono ?_); rintro e w4 ⟨rfl, hb4⟩; unfold nodeV; have mid4 := mid3.below hb4; obtain ⟨m0, m1, m2, m3, m4, m5, m6, m7⟩ := mid4.box.cell; obtain ⟨y0, y1, y2, y3, y4, y5, y6, y7⟩ := mid4.box.frozen))
  refine bodyPost_ret (v := nodeV (.one (rangeP m m)) (.slice none 0 0)) ?_ rfl (mid4.ret (.nil _ rfl) HR.out)
  simp [nodeV, T.one, T.zero, T.op, T.set, T.lo, T.hi, word_none, results, Tryd.results47, go_sem, m0, m1, m2, m3, m4, m5, m6, m7]

set_option maxRecDepth 20000 in
set_option maxHeartbeats 2000000 in
theorem atom_stop (w : World) (g : Nat) (s : ByteArray) (st : St) (h : Rdr w g s st) (hs : s.size ≤ 1000) (hpos : st.pos ≤ s.size) (o : R T) (c : Int) (st1 : St) (hc : st.next s = (c, st1)) (h1 : c ≠ 40) (h2 : c ≠ 91) (h3 : c ≠ 46) (h4 : c ≠ 92) (h5 : c ≠ 42) (h6 : c ≠ 43) (hi : inT c stopT = true) (hb : 0 ≤ c ∧ c ≤ 255) (hr : Rel s o st (.one (rangeP c c)) (st1.fail ((st1.pos : Int) - 1) 2)) (hp1 : st1.pos ≤ s.size) :
    Calls Tryd.prog 47 #[.pointer (some ⟨g, 0, none⟩)] w (RetNode w g s o st) := by
  have mid := Mid.start h
  have HN := Lib.hid (fun w h => next_p w g s st h hs)
  simp only [hc] at HN
  generalize hw0 : w.alloc (.cells #[.int .i64 0, .int .u64 0, .int .u64 0, .int .u64 0, .int .u64 0, .int .i64 0, .int .i64 0, .slice none 0 0] 29) = w0 at mid
  have HW := Lib.hid hw0
  have HR := Lib.hid hr
  clear hw0 hr hc
  have e1 : (c == 40) = false := by simpa using h1
  have e2 : (c == 91) = false := by simpa using h2
  have e3 : (c == 46) = false := by simpa using h3
  have e4 : (c == 92) = false := by simpa using h4
  have e5 : (c == 42) = false := by simpa using h5
  have e6 : (c == 43) = false := by simpa using h6
  clear h1 h2 h3 h4 h5 h6
  unfold stopT at hi
  go_enter Tryd.func47, Tryd.ntmps47
  go_wp2_with fail
  rw [HW.out]
  clear HW
  go_wp2_with (first
    | (go_at_call 48; (with_reducible refine (HN.out _ mid.rdr).mono ?_); rintro e w1 ⟨rfl, r1, o1⟩; have mid1 := mid.next o1 r1; obtain ⟨c0, c1, c2, c3, c4⟩ := r1.cell; obtain ⟨f0, f1, f2, f3, f4⟩ := r1.frozen)
    | (go_at_call 57; (with_reducible refine (in_p _ c ⟨#[93, 41, 125, 123, 124, 63, 94, 36]⟩ (by decide)).mono ?_); rintro e w2 ⟨rfl, rfl⟩; rw [hi])
    | (go_at_call 50; (with_reducible refine (fail_p _ g s st1 _ _ r1).mono ?_); rintro e w5 ⟨rfl, r5, o5⟩; have mid5 := mid1.next o5 r5)
    | (go_at_call 54; (with_reducible refine (of1_p c _ (by omega) (by omega)).mono ?_); rintro e w3 ⟨rfl, hb3⟩; unfold setV; have mid3 := mid5.below hb3)
    | (go_at_call 51; (with_reducible refine (one_p (rangeP c c) _).mono ?_); rintro e w4 ⟨rfl, hb4⟩; unfold nodeV; have mid4 := mid3.below hb4; obtain ⟨m0, m1, m2, m3, m4, m5, m6, m7⟩ := mid4.box.cell; obtain ⟨y0, y1, y2, y3, y4, y5, y6, y7⟩ := mid4.box.frozen))
  refine bodyPost_ret (v := nodeV (.one (rangeP c c)) (.slice none 0 0)) ?_ rfl (mid4.ret (.nil _ rfl) HR.out)
  simp [nodeV, T.one, T.zero, T.op, T.set, T.lo, T.hi, word_none, results, Tryd.results47, go_sem, m0, m1, m2, m3, m4, m5, m6, m7]

set_option maxRecDepth 20000 in
set_option maxHeartbeats 2000000 in
theorem atom_star (w : World) (g : Nat) (s : ByteArray) (st : St) (h : Rdr w g s st) (hs : s.size ≤ 1000) (hpos : st.pos ≤ s.size) (o : R T) (c : Int) (st1 : St) (hc : st.next s = (c, st1)) (h5 : c = 42 ∨ c = 43) (hr : Rel s o st (.one (rangeP c c)) (st1.fail ((st1.pos : Int) - 1) 3)) (hp1 : st1.pos ≤ s.size) :
    Calls Tryd.prog 47 #[.pointer (some ⟨g, 0, none⟩)] w (RetNode w g s o st) := by
  have mid := Mid.start h
  have HN := Lib.hid (fun w h => next_p w g s st h hs)
  simp only [hc] at HN
  generalize hw0 : w.alloc (.cells #[.int .i64 0, .int .u64 0, .int .u64 0, .int .u64 0, .int .u64 0, .int .i64 0, .int .i64 0, .slice none 0 0] 29) = w0 at mid
  have HW := Lib.hid hw0
  have HR := Lib.hid hr
  clear hw0 hr hc
  have hi : inT c ⟨#[93, 41, 125, 123, 124, 63, 94, 36]⟩ = false := by rcases h5 with rfl | rfl <;> decide
  rcases h5 with rfl | rfl
  all_goals
    go_enter Tryd.func47, Tryd.ntmps47
    go_wp2_with fail
    rw [HW.out]
    clear HW
    go_wp2_with (first
      | (go_at_call 48; (with_reducible refine (HN.out _ mid.rdr).mono ?_); rintro e w1 ⟨rfl, r1, o1⟩; have mid1 := mid.next o1 r1; obtain ⟨c0, c1, c2, c3, c4⟩ := r1.cell; obtain ⟨f0, f1, f2, f3, f4⟩ := r1.frozen)
      | (go_at_call 57; (with_reducible refine (in_p _ _ ⟨#[93, 41, 125, 123, 124, 63, 94, 36]⟩ (by decide)).mono ?_); rintro e w2 ⟨rfl, rfl⟩; rw [hi])
      | (go_at_call 50; (with_reducible refine (fail_p _ g s st1 _ _ r1).mono ?_); rintro e w5 ⟨rfl, r5, o5⟩; have mid5 := mid1.next o5 r5)
      | (go_at_call 54; (with_reducible refine (of1_p _ _ (by omega) (by omega)).mono ?_); rintro e w3 ⟨rfl, hb3⟩; unfold setV; have mid3 := mid5.below hb3)
      | (go_at_call 51; (with_reducible refine (one_p _ _).mono ?_); rintro e w4 ⟨rfl, hb4⟩; unfold nodeV; have mid4 := mid3.below hb4; obtain ⟨m0, m1, m2, m3, m4, m5, m6, m7⟩ := mid4.box.cell; obtain ⟨y0, y1, y2, y3, y4, y5, y6, y7⟩ := mid4.box.frozen))
    refine bodyPost_ret (v := nodeV (.one (rangeP _ _)) (.slice none 0 0)) ?_ rfl (mid4.ret (.nil _ rfl) HR.out)
    simp [nodeV, T.one, T.zero, T.op, T.set, T.lo, T.hi, word_none, results, Tryd.results47, go_sem, m0, m1, m2, m3, m4, m5, m6, m7]

set_option maxRecDepth 20000 in
set_option maxHeartbeats 2000000 in
theorem atom_dot (w : World) (g : Nat) (s : ByteArray) (st : St) (h : Rdr w g s st) (hs : s.size ≤ 1000) (hpos : st.pos ≤ s.size) (o : R T) (st1 : St) (hc : st.next s = (46, st1)) (hr : Rel s o st (.one (notP (rangeP 10 10))) st1) :
    Calls Tryd.prog 47 #[.pointer (some ⟨g, 0, none⟩)] w (RetNode w g s o st) := by
  have mid := Mid.start h
  have HN := Lib.hid (fun w h => next_p w g s st h hs)
  simp only [hc] at HN
  generalize hw0 : w.alloc (.cells #[.int .i64 0, .int .u64 0, .int .u64 0, .int .u64 0, .int .u64 0, .int .i64 0, .int .i64 0, .slice none 0 0] 29) = w0 at mid
  have HW := Lib.hid hw0
  have HR := Lib.hid hr
  clear hw0 hr hc
  go_enter Tryd.func47, Tryd.ntmps47
  go_wp2_with fail
  rw [HW.out]
  clear HW
  go_wp2_with (first
    | (go_at_call 48; (with_reducible refine (HN.out _ mid.rdr).mono ?_); rintro e w1 ⟨rfl, r1, o1⟩; have mid1 := mid.next o1 r1; obtain ⟨c0, c1, c2, c3, c4⟩ := r1.cell; obtain ⟨f0, f1, f2, f3, f4⟩ := r1.frozen)
    | (go_at_call 54; (with_reducible refine (of1_p 10 _ (by omega) (by omega)).mono ?_); rintro e w3 ⟨rfl, hb3⟩; unfold setV; have mid3 := mid1.below hb3)
    | (go_at_call 53; (with_reducible refine (rnot_p (rangeP 10 10) _).mono ?_); rintro e w5 ⟨rfl, hb5⟩; unfold setV; have mid5 := mid3.below hb5)
    | (go_at_call 51; (with_reducible refine (one_p (notP (rangeP 10 10)) _).mono ?_); rintro e w4 ⟨rfl, hb4⟩; unfold nodeV; have mid4 := mid5.below hb4; obtain ⟨m0, m1, m2, m3, m4, m5, m6, m7⟩ := mid4.box.cell; obtain ⟨y0, y1, y2, y3, y4, y5, y6, y7⟩ := mid4.box.frozen))
  refine bodyPost_ret (v := nodeV (.one (notP (rangeP 10 10))) (.slice none 0 0)) ?_ rfl (mid4.ret (.nil _ rfl) HR.out)
  simp [nodeV, T.one, T.zero, T.op, T.set, T.lo, T.hi, word_none, results, Tryd.results47, go_sem, m0, m1, m2, m3, m4, m5, m6, m7]

set_option maxRecDepth 20000 in
set_option maxHeartbeats 2000000 in
theorem atom_class (w : World) (g : Nat) (s : ByteArray) (st : St) (h : Rdr w g s st) (hs : s.size ≤ 1000) (hpos : st.pos ≤ s.size) (o : R T) (st1 : St) (hc : st.next s = (91, st1)) (hr : ∀ q st2, Rel s (cClass s st1.pos) st1 q st2 → Rel s o st (.one q) st2) (hp1 : st1.pos ≤ s.size) :
    Calls Tryd.prog 47 #[.pointer (some ⟨g, 0, none⟩)] w (RetNode w g s o st) := by
  have mid := Mid.start h
  have HN := Lib.hid (fun w h => next_p w g s st h hs)
  simp only [hc] at HN
  generalize hw0 : w.alloc (.cells #[.int .i64 0, .int .u64 0, .int .u64 0, .int .u64 0, .int .u64 0, .int .i64 0, .int .i64 0, .slice none 0 0] 29) = w0 at mid
  have HW := Lib.hid hw0
  have HR := Lib.hid hr
  clear hw0 hr hc
  go_enter Tryd.func47, Tryd.ntmps47
  go_wp2_with fail
  rw [HW.out]
  clear HW
  go_wp2_with (first
    | (go_at_call 48; (with_reducible refine (HN.out _ mid.rdr).mono ?_); rintro e w1 ⟨rfl, r1, o1⟩; have mid1 := mid.next o1 r1; obtain ⟨c0, c1, c2, c3, c4⟩ := r1.cell; obtain ⟨f0, f1, f2, f3, f4⟩ := r1.frozen)
    | (go_at_call 52; (with_reducible refine (class_p _ g s st1 mid1.rdr hs hp1).mono ?_); rintro e w3 ⟨q, st2, rfl, r3, o3, hq⟩; replace HR := Lib.hid (HR.out q st2 hq); unfold setV; have mid3 := mid1.next o3 r3)
    | (go_at_call 51; (with_reducible refine (one_p q _).mono ?_); rintro e w4 ⟨rfl, hb4⟩; unfold nodeV; have mid4 := mid3.below hb4; obtain ⟨m0, m1, m2, m3, m4, m5, m6, m7⟩ := mid4.box.cell; obtain ⟨y0, y1, y2, y3, y4, y5, y6, y7⟩ := mid4.box.frozen))
  refine bodyPost_ret (v := nodeV (.one q) (.slice none 0 0)) ?_ rfl (mid4.ret (.nil _ rfl) HR.out)
  simp [nodeV, T.one, T.zero, T.op, T.set, T.lo, T.hi, word_none, results, Tryd.results47, go_sem, m0, m1, m2, m3, m4, m5, m6, m7]

set_option maxRecDepth 20000 in
set_option maxHeartbeats 2000000 in
theorem atom_esc (w : World) (g : Nat) (s : ByteArray) (st : St) (h : Rdr w g s st) (hs : s.size ≤ 1000) (hpos : st.pos ≤ s.size) (o : R T) (st1 : St) (hc : st.next s = (92, st1)) (hw : isWide (st1.peek s) = false) (hr : Rel s o st (.one (rangeP (st1.escaped s).1 (st1.escaped s).1)) (st1.escaped s).2) (hp1 : st1.pos ≤ s.size) :
    Calls Tryd.prog 47 #[.pointer (some ⟨g, 0, none⟩)] w (RetNode w g s o st) := by
  have mid := Mid.start h
  have HN := Lib.hid (fun w h => next_p w g s st h hs)
  simp only [hc] at HN
  generalize hw0 : w.alloc (.cells #[.int .i64 0, .int .u64 0, .int .u64 0, .int .u64 0, .int .u64 0, .int .i64 0, .int .i64 0, .slice none 0 0] 29) = w0 at mid
  have HW := Lib.hid hw0
  have HR := Lib.hid hr
  clear hw0 hr hc
  have hbd : 0 ≤ (st1.escaped s).1 ∧ (st1.escaped s).1 ≤ 255 := escaped_bd s st1
  have HE := Lib.hid (fun w h => escaped_p w g s st1 h hs hp1)
  generalize (st1.escaped s).1 = b at *
  generalize (st1.escaped s).2 = st2 at *
  go_enter Tryd.func47, Tryd.ntmps47
  go_wp2_with fail
  rw [HW.out]
  clear HW
  go_wp2_with (first
    | (go_at_call 48; (with_reducible refine (HN.out _ mid.rdr).mono ?_); rintro e w1 ⟨rfl, r1, o1⟩; have mid1 := mid.next o1 r1; obtain ⟨c0, c1, c2, c3, c4⟩ := r1.cell; obtain ⟨f0, f1, f2, f3, f4⟩ := r1.frozen)
    | (go_at_call 33; (with_reducible refine (peek_p _ g s st1 r1 hs).mono ?_); rintro e w2 ⟨rfl, n, rfl⟩; have mid2 := mid1.drewN n)
    | (go_at_call 55; (with_reducible refine (wide_p _ _).mono ?_); rintro e w3 ⟨rfl, hb3⟩; rw [hw]; unfold setV; have mid3 := mid2.below hb3)
    | (go_at_call 56; (with_reducible refine (HE.out _ (mid3.alloc _).rdr).mono ?_); rintro e w5 ⟨rfl, r5, o5⟩; have mid5 := (mid3.alloc _).next o5 r5)
    | (go_at_call 54; (with_reducible refine (of1_p b _ (by omega) (by omega)).mono ?_); rintro e w6 ⟨rfl, hb6⟩; unfold setV; have mid6 := mid5.below hb6)
    | (go_at_call 51; (with_reducible refine (one_p (rangeP b b) _).mono ?_); rintro e w4 ⟨rfl, hb4⟩; unfold nodeV; have mid4 := mid6.below hb4; obtain ⟨m0, m1, m2, m3, m4, m5, m6, m7⟩ := mid4.box.cell; obtain ⟨y0, y1, y2, y3, y4, y5, y6, y7⟩ := mid4.box.frozen))
  refine bodyPost_ret (v := nodeV (.one (rangeP b b)) (.slice none 0 0)) ?_ rfl (mid4.ret (.nil _ rfl) HR.out)
  simp [nodeV, T.one, T.zero, T.op, T.set, T.lo, T.hi, word_none, results, Tryd.results47, go_sem, m0, m1, m2, m3, m4, m5, m6, m7]

set_option maxRecDepth 20000 in
set_option maxHeartbeats 2000000 in
theorem atom_wide (w : World) (g : Nat) (s : ByteArray) (st : St) (h : Rdr w g s st) (hs : s.size ≤ 1000) (hpos : st.pos ≤ s.size) (o : R T) (st1 : St) (hc : st.next s = (92, st1)) (hw : isWide (st1.peek s) = true) (hr : Rel s o st (.one (wideP (st1.peek s))) (st1.step 1)) (hp1 : st1.pos < s.size) :
    Calls Tryd.prog 47 #[.pointer (some ⟨g, 0, none⟩)] w (RetNode w g s o st) := by
  have mid := Mid.start h
  have HN := Lib.hid (fun w h => next_p w g s st h hs)
  simp only [hc] at HN
  generalize hw0 : w.alloc (.cells #[.int .i64 0, .int .u64 0, .int .u64 0, .int .u64 0, .int .u64 0, .int .i64 0, .int .i64 0, .slice none 0 0] 29) = w0 at mid
  have HW := Lib.hid hw0
  have HR := Lib.hid hr
  clear hw0 hr hc
  go_enter Tryd.func47, Tryd.ntmps47
  go_wp2_with fail
  rw [HW.out]
  clear HW
  go_wp2_with (first
    | (go_at_call 48; (with_reducible refine (HN.out _ mid.rdr).mono ?_); rintro e w1 ⟨rfl, r1, o1⟩; have mid1 := mid.next o1 r1; obtain ⟨c0, c1, c2, c3, c4⟩ := r1.cell; obtain ⟨f0, f1, f2, f3, f4⟩ := r1.frozen)
    | (go_at_call 33; (with_reducible refine (peek_p _ g s st1 r1 hs).mono ?_); rintro e w2 ⟨rfl, n, rfl⟩; have mid2 := mid1.drewN n)
    | (go_at_call 55; (with_reducible refine (wide_p _ _).mono ?_); rintro e w3 ⟨rfl, hb3⟩; rw [hw]; unfold setV; have mid3 := mid2.below hb3; obtain ⟨k0, k1, k2, k3, k4⟩ := mid3.rdr.cell; obtain ⟨l0, l1, l2, l3, l4⟩ := mid3.rdr.frozen; have hg3 := mid3.rdr.lt; have hg4 : g ≠ w3.heap.size := by omega)
    | (go_at_call 51; (with_reducible refine (one_p (wideP (st1.peek s)) _).mono ?_); rintro e w4 ⟨rfl, hb4⟩; unfold nodeV; have mid4 := ((mid3.setPos (st1.pos + 1)).alloc _).below hb4; obtain ⟨m0, m1, m2, m3, m4, m5, m6, m7⟩ := mid4.box.cell; obtain ⟨y0, y1, y2, y3, y4, y5, y6, y7⟩ := mid4.box.frozen))
  refine bodyPost_ret (v := nodeV (.one (wideP (st1.peek s))) (.slice none 0 0)) ?_ rfl (mid4.ret (.nil _ rfl) HR.out)
  simp [nodeV, T.one, T.zero, T.op, T.set, T.lo, T.hi, word_none, results, Tryd.results47, go_sem, m0, m1, m2, m3, m4, m5, m6, m7]

set_option maxRecDepth 20000 in
set_option maxHeartbeats 2000000 in
theorem atom_full (w : World) (g : Nat) (s : ByteArray) (st : St) (h : Rdr w g s st) (hs : s.size ≤ 1000) (hpos : st.pos ≤ s.size) (o : R T) (st1 : St) (hc : st.next s = (40, st1)) (h20 : st1.opn = 20) (hr : Rel s o st T.zero (st1.fail ((st1.pos : Int) - 1) 4)) (hp1 : st1.pos ≤ s.size) :
    Calls Tryd.prog 47 #[.pointer (some ⟨g, 0, none⟩)] w (RetNode w g s o st) := by
  have mid := Mid.start h
  have HN := Lib.hid (fun w h => next_p w g s st h hs)
  simp only [hc] at HN
  generalize hw0 : w.alloc (.cells #[.int .i64 0, .int .u64 0, .int .u64 0, .int .u64 0, .int .u64 0, .int .i64 0, .int .i64 0, .slice none 0 0] 29) = w0 at mid
  have HW := Lib.hid hw0
  have HR := Lib.hid hr
  clear hw0 hr hc
  have h20' : (st1.opn == 20) = true := by simpa using h20
  clear h20
  go_enter Tryd.func47, Tryd.ntmps47
  go_wp2_with fail
  rw [HW.out]
  clear HW
  go_wp2_with (first
    | (go_at_call 48; (with_reducible refine (HN.out _ mid.rdr).mono ?_); rintro e w1 ⟨rfl, r1, o1⟩; have mid1 := mid.next o1 r1; obtain ⟨c0, c1, c2, c3, c4⟩ := r1.cell; obtain ⟨f0, f1, f2, f3, f4⟩ := r1.frozen)
    | (go_at_call 50; (with_reducible refine (fail_p _ g s st1 _ _ r1).mono ?_); rintro e w5 ⟨rfl, r5, o5⟩; have mid5 := mid1.next o5 r5; obtain ⟨m0, m1, m2, m3, m4, m5, m6, m7⟩ := mid5.box.cell; obtain ⟨y0, y1, y2, y3, y4, y5, y6, y7⟩ := mid5.box.frozen))
  refine bodyPost_ret (v := nodeV T.zero (.slice none 0 0)) ?_ rfl (mid5.ret (.nil _ rfl) HR.out)
  simp [nodeV, T.one, T.zero, T.op, T.set, T.lo, T.hi, word_none, results, Tryd.results47, go_sem, m0, m1, m2, m3, m4, m5, m6, m7]

end Go.Proofs.YtammicfijnffaaaDoor

/-
  The document's own reader of patterns: atom, a pattern in brackets; atom, whole: held against the grammar. Contracts for other texts; no statement of its own.
-/
namespace Go.Proofs.YtammicfijnffaaaDoor
open Go Go.RowKit
attribute [local go_sem ↓] Go.wp_at_zero Go.wp_at_succ

set_option maxRecDepth 20000 in
set_option maxHeartbeats 2000000 in
theorem atom_group (w : World) (g : Nat) (s : ByteArray) (st : St) (h : Rdr w g s st) (hs : s.size ≤ 1000) (hpos : st.pos ≤ s.size) (o : R T) (st1 : St) (hc : st.next s = (40, st1)) (h20 : 0 ≤ st1.opn ∧ st1.opn < 20) (f : R T)
    (hp : ∀ w, Rdr w g s { st1 with opn := st1.opn + 1 } → Calls Tryd.prog 20 #[.pointer (some ⟨g, 0, none⟩)] w (RetNode w g s f { st1 with opn := st1.opn + 1 }))
    (hr : ∀ t st2 c st3, Rel s f { st1 with opn := st1.opn + 1 } t st2 → st2.next s = (c, st3) → Rel s o st t { (if c = 41 then st3 else st3.fail ((st3.pos : Int) - 1) 2) with opn := st1.opn }) (hp1 : st1.pos ≤ s.size) :
    Calls Tryd.prog 47 #[.pointer (some ⟨g, 0, none⟩)] w (RetNode w g s o st) := by
  have mid := Mid.start h
  have HN := Lib.hid (fun w h => next_p w g s st h hs)
  simp only [hc] at HN
  generalize hw0 : w.alloc (.cells #[.int .i64 0, .int .u64 0, .int .u64 0, .int .u64 0, .int .u64 0, .int .i64 0, .int .i64 0, .slice none 0 0] 29) = w0 at mid
  have HW := Lib.hid hw0
  have HR := Lib.hid hr
  clear hw0 hr hc
  have h20' : (st1.opn == 20) = false := by simp; omega
  have HP := Lib.hid hp
  clear hp
  have hgw := h.lt
  have hgb : g ≠ w.heap.size := by omega
  have hgb' : w.heap.size ≠ g := by omega
  go_enter Tryd.func47, Tryd.ntmps47
  go_wp2_with fail
  rw [HW.out]
  clear HW
  go_wp2_with (first
    | (go_at_call 48; (with_reducible refine (HN.out _ mid.rdr).mono ?_); rintro e w1 ⟨rfl, r1, o1⟩; have mid1 := mid.next o1 r1; obtain ⟨c0, c1, c2, c3, c4⟩ := r1.cell; obtain ⟨f0, f1, f2, f3, f4⟩ := r1.frozen)
    | (go_at_call 20; (with_reducible refine (HP.out _ (mid1.setOpn (st1.opn + 1)).rdr).mono ?_); rintro e w2 ⟨t, k, st2, rfl, ht, r2, o2, hf⟩; obtain ⟨A, tn, tc, rfl⟩ := ht.form; unfold nodeV; have mid2 := (mid1.setOpn (st1.opn + 1)).next o2 r2; have hw2 := mid2.new; obtain ⟨c, st3, hn2⟩ : ∃ c st3, st2.next s = (c, st3) := ⟨_, _, rfl⟩; have HN2 := Lib.hid (fun w h => next_p w g s st2 h hs); simp only [hn2] at HN2; have HR2 := Lib.hid (HR.out t st2 c st3 hf hn2); have hop := Lib.hid (show st3.opn = st1.opn + 1 from next_opn hn2 hf.opn); have hps := next_pos s st2 hf.pos; simp only [hn2] at hps; have hpp := hps.1; clear hps hn2 hf HR; have hop1 : 1 ≤ st3.opn := (by rw [hop.out]; omega); have hop2 : st3.opn ≤ 20 := (by rw [hop.out]; omega))
    | (go_at_call 48; (with_reducible refine (HN2.out _ (mid2.alloc _).rdr).mono ?_); rintro e w3 ⟨rfl, r3, o3⟩; have mid3 := (mid2.alloc _).next o3 r3; have hg2 := mid2.rdr.lt; have hx1 : g ≠ w2.heap.size := (by omega); have hx2 : w2.heap.size ≠ g := (by omega); have hx3 : w.heap.size ≠ w2.heap.size := (by omega); have hx4 : w2.heap.size ≠ w.heap.size := (by omega); have b3 := (Box8.new w2 t (.slice A tn tc)).grown o3 (by simp; omega); have ht3 := ((ht.weak (ok' := fun b => w.heap.size < b ∧ b ≠ w2.heap.size) (fun b hb hlt => by simp at hb; have := mid1.new; exact ⟨by omega, by omega⟩)).alloc _).only o3 (mid2.alloc _).rdr; obtain ⟨k0, k1, k2, k3, k4⟩ := r3.cell; obtain ⟨l0, l1, l2, l3, l4⟩ := r3.frozen; obtain ⟨n0, n1, n2, n3, n4, n5, n6, n7⟩ := b3.cell; obtain ⟨m0, m1, m2, m3, m4, m5, m6, m7⟩ := mid3.box.cell; obtain ⟨y0, y1, y2, y3, y4, y5, y6, y7⟩ := mid3.box.frozen)
    | (go_at_call 50; (with_reducible refine (fail_p _ g s st3 _ _ r3).mono ?_); rintro e w5 ⟨rfl, r5, o5⟩; have mid5 := mid3.next o5 r5; have b5 := b3.grown o5 (by simp; omega); have ht5 := ht3.only o5 r3; obtain ⟨p0, p1, p2, p3, p4⟩ := r5.cell; rw [fail_opn] at p2; obtain ⟨q0, q1, q2, q3, q4⟩ := r5.frozen; obtain ⟨z0, z1, z2, z3, z4, z5, z6, z7⟩ := b5.cell; obtain ⟨m0, m1, m2, m3, m4, m5, m6, m7⟩ := mid5.box.cell; obtain ⟨y0, y1, y2, y3, y4, y5, y6, y7⟩ := mid5.box.frozen))
  · have hc : ¬ c = 41 := by simpa using ‹(c != 41) = true›
    have hr := HR2.out
    rw [if_neg hc, ← show st3.opn - 1 = st1.opn by rw [hop.out]; omega] at hr
    refine bodyPost_ret (v := nodeV t (.slice A tn tc)) ?_ rfl ((mid5.setOpn (st3.opn - 1)).ret ((ht5.far (a := ⟨g, 2, none⟩) (fun b hb => by show b ≠ g; omega) _).weak fun b hb _ => hb.1) hr)
    simp [nodeV, T.one, T.zero, T.op, T.set, T.lo, T.hi, word_none, results, Tryd.results47, go_sem, m0, m1, m2, m3, m4, m5, m6, m7, hgb, hgb']
  · have hc : c = 41 := by simpa using ‹(c != 41) = false›
    have hr := HR2.out
    rw [if_pos hc, ← show st3.opn - 1 = st1.opn by rw [hop.out]; omega] at hr
    refine bodyPost_ret (v := nodeV t (.slice A tn tc)) ?_ rfl ((mid3.setOpn (st3.opn - 1)).ret ((ht3.far (a := ⟨g, 2, none⟩) (fun b hb => by show b ≠ g; omega) _).weak fun b hb _ => hb.1) hr)
    simp [nodeV, T.one, T.zero, T.op, T.set, T.lo, T.hi, word_none, results, Tryd.results47, go_sem, m0, m1, m2, m3, m4, m5, m6, m7, hgb, hgb']

/-- What a deeper pattern tells: there is none, or it tells what f says. -/
def Deep (g : Nat) (s : ByteArray) (deep : Option (Nat → R T)) (n : Int) : Prop :=
  (deep = none ∧ n = 20) ∨ ∃ f, deep = some f ∧ 0 ≤ n ∧ n < 20 ∧ ∀ w st', Rdr w g s st' → st'.opn = n + 1 → st'.pos ≤ s.size →
    Calls Tryd.prog 20 #[.pointer (some ⟨g, 0, none⟩)] w (RetNode w g s (f st'.pos) st')

theorem atom_p (w : World) (g : Nat) (s : ByteArray) (st : St) (h : Rdr w g s st) (hs : s.size ≤ 1000) (hpos : st.pos ≤ s.size) (deep : Option (Nat → R T)) (hd : Deep g s deep st.opn) : Calls Tryd.prog 47 #[.pointer (some ⟨g, 0, none⟩)] w (RetNode w g s (cAtom s deep st.pos) st) := by
  by_cases hb : st.bad = 0
  · by_cases hp : st.pos < s.size
    · have hn := next_ok s st hb hp
      have hlt := bt_lt s st.pos
      have hstep : ∀ {t : T} {o : R T}, o = .ok (t, st.pos + 1) → Rel s o st t (st.step 1) := fun e => Rel.mk0 rfl (by show st.pos + 1 ≤ s.size; omega) (fun h => absurd hb h) fun _ => .inl ⟨hb, e⟩
      have hfail : ∀ {t : T} {o : R T} {c : Int}, c ≠ 0 → o = .error (c, (st.pos : Int)) → Rel s o st t ((st.step 1).fail (((st.step 1).pos : Int) - 1) c) := fun hc e => by
        rw [fail_new _ (by exact hb)]
        refine Rel.mk0 rfl (by show st.pos + 1 ≤ s.size; omega) (fun h => absurd hb h) fun _ => .inr ⟨hc, ?_⟩
        rw [e]
        simp [St.step]
      have hp1 : (st.step 1).pos ≤ s.size := by show st.pos + 1 ≤ s.size; omega
      unfold cAtom
      rw [if_pos hp]
      by_cases h1 : bt s st.pos = 40
      · rw [if_pos h1]
        rw [h1] at hn
        rcases hd with ⟨rfl, h20⟩ | ⟨f, rfl, h0, h20, hf⟩
        · exact atom_full w g s st h hs hpos _ _ hn h20 (hfail (by omega) rfl) hp1
        · refine atom_group w g s st h hs hpos _ _ hn ⟨h0, h20⟩ (f (st.pos + 1)) (fun w hr => hf w _ hr rfl hp1) (fun t st2 c st3 h2 h3 => ?_) hp1
          have hz : st2.bad ≠ 0 → st3 = st2 ∧ c = -1 := fun hz => by rw [next_bad s st2 hz] at h3; injection h3 with e1 e2; exact ⟨e2.symm, e1.symm⟩
          have hh : Rel s (thenR (f (st.pos + 1)) fun t p => if isB s p 41 = true then .ok (t, p + 1) else .error (2, (p : Int))) { st.step 1 with opn := st.opn + 1 } t { (if c = 41 then st3 else st3.fail ((st3.pos : Int) - 1) 2) with opn := st.opn + 1 } := by
            refine h2.then (fun hz2 => ?_) (fun hb0 hb2 => ?_)
            · obtain ⟨rfl, rfl⟩ := hz hz2
              rw [if_neg (by omega), fail_keep _ hz2]
              exact ⟨rfl, rfl, h2.opn.symm, h2.pos⟩
            · have hop := h2.opn
              by_cases hp2 : st2.pos < s.size
              · rw [next_ok s st2 hb2 hp2] at h3
                injection h3 with e1 e2
                subst e1 e2
                by_cases h41 : bt s st2.pos = 41
                · rw [if_pos (show isB s st2.pos 41 = true by simp [isB, hp2, h41]), if_pos (show (bt s st2.pos : Int) = 41 by omega)]
                  exact Rel.mk0 hop.symm (by show st2.pos + 1 ≤ s.size; omega) (fun h => absurd hb2 h) fun _ => .inl ⟨hb2, rfl⟩
                · rw [if_neg (show ¬ isB s st2.pos 41 = true by simp [isB, h41]), if_neg (show ¬ (bt s st2.pos : Int) = 41 by omega), fail_new _ (by exact hb2)]
                  exact Rel.mk0 hop.symm (by show st2.pos + 1 ≤ s.size; omega) (fun h => absurd hb2 h) fun _ => .inr ⟨by simp, by simp [St.step]⟩
              · rw [next_end s st2 hb2 (by omega)] at h3
                injection h3 with e1 e2
                subst e1 e2
                have := h2.pos
                rw [if_neg (show ¬ isB s st2.pos 41 = true by simp [isB, hp2]), if_neg (show ¬ (-1 : Int) = 41 by omega), fail_keep _ (by simp)]
                refine Rel.mk0 hop.symm h2.pos (fun h => absurd hb2 h) fun _ => .inr ⟨by simp, ?_⟩
                simp
                omega
          exact Rel.mk0 rfl hh.pos (fun h => absurd hb h) fun _ => hh.cases hb
      · rw [if_neg h1]
        by_cases h2 : bt s st.pos = 91
        · rw [if_pos h2]
          rw [h2] at hn
          refine atom_class w g s st h hs hpos _ _ hn (fun q st2 hq => ?_) hp1
          exact (hq.from (st := st) rfl rfl rfl).then (fun hz => ⟨rfl, rfl, rfl, hq.pos⟩) fun _ hz => Rel.mk0 rfl hq.pos (fun h => absurd hz h) fun _ => .inl ⟨hz, rfl⟩
        · rw [if_neg h2]
          by_cases h3 : bt s st.pos = 46
          · rw [if_pos h3]
            rw [h3] at hn
            exact atom_dot w g s st h hs hpos _ _ hn (hstep rfl)
          · rw [if_neg h3]
            by_cases h4 : bt s st.pos = 92
            · rw [if_pos h4]
              rw [h4] at hn
              have hwd : cWide s st.pos = isWide ((st.step 1).peek s) := by
                unfold cWide
                by_cases hq : st.pos + 1 < s.size
                · rw [peek_ok s (st.step 1) hb hq]
                  simp [isB, hp, h4, hq, St.step]
                · rw [peek_end s (st.step 1) hb (by show s.size ≤ st.pos + 1; omega)]
                  simp [hq, isWide]
              by_cases h5 : cWide s st.pos = true
              · rw [if_pos h5]
                have hq : st.pos + 1 < s.size := by simp [cWide] at h5; omega
                have e := peek_ok s (st.step 1) hb hq
                refine atom_wide w g s st h hs hpos _ _ hn (by rw [← hwd]; exact h5) ?_ hq
                rw [e]
                exact Rel.mk0 rfl (by show st.pos + 1 + 1 ≤ s.size; omega) (fun h => absurd hb h) fun _ => .inl ⟨hb, rfl⟩
              · rw [if_neg h5]
                refine atom_esc w g s st h hs hpos _ _ hn (by rw [← hwd]; simpa using h5) ?_ hp1
                have he := (escaped_rel s (st.step 1) hp1).from (st := st) rfl rfl rfl
                exact he.then (fun hz => ⟨rfl, rfl, rfl, he.pos⟩) fun _ hz => Rel.mk0 rfl he.pos (fun h => absurd hz h) fun _ => .inl ⟨hz, rfl⟩
            · rw [if_neg h4]
              by_cases h5 : bt s st.pos = 42 ∨ bt s st.pos = 43
              · rw [if_pos h5]
                exact atom_star w g s st h hs hpos _ _ _ hn (by omega) (hfail (by omega) rfl) hp1
              · rw [if_neg h5]
                by_cases h6 : inT (bt s st.pos : Int) stopT = true
                · rw [if_pos h6]
                  exact atom_stop w g s st h hs hpos _ _ _ hn (by omega) (by omega) (by omega) (by omega) (by omega) (by omega) h6 (by omega) (hfail (by omega) rfl) hp1
                · rw [if_neg h6]
                  refine atom_else w g s st h hs hpos _ _ _ hn (by omega) (by omega) (by omega) (by omega) (by omega) (by omega) (by simpa using h6) (by omega) ?_
                  rw [max_nonneg _ (by omega)]
                  exact hstep rfl
    · refine atom_else w g s st h hs hpos _ _ _ (next_end s st hb (by omega)) (by omega) (by omega) (by omega) (by omega) (by omega) (by omega) (inT_neg _) (by omega) ?_
      refine Rel.mk0 rfl hpos (fun h => absurd hb h) fun _ => .inr ⟨by simp, ?_⟩
      unfold cAtom
      rw [if_neg hp]
      simp
      omega
  · exact atom_else w g s st h hs hpos _ _ _ (next_bad s st hb) (by omega) (by omega) (by omega) (by omega) (by omega) (by omega) (inT_neg _) (by omega) (Rel.mk0 rfl hpos (fun _ => ⟨rfl, rfl⟩) (fun h => absurd h hb))

end Go.Proofs.YtammicfijnffaaaDoor

/-
  The document's own reader of patterns: piece: what it does, held against the grammar. Contracts for other texts; no statement of its own.
-/
namespace Go.Proofs.YtammicfijnffaaaDoor
open Go Go.RowKit
attribute [local go_sem ↓] Go.wp_at_zero Go.wp_at_succ

/-- One kid in a new row. -/
theorem Tree.kid {w : World} {ok : Nat → Prop} {t : T} {k : Value} (h : Tree w ok t k) (hok : ok w.heap.size) (op : Int) (p : Nat → Bool) (lo hi : Int) :
    Tree (w.alloc (.cells #[.int .i64 t.op, .int .u64 (word t.set 0), .int .u64 (word t.set 1), .int .u64 (word t.set 2), .int .u64 (word t.set 3), .int .i64 t.lo, .int .i64 t.hi, k] 29)) ok (.mk op p lo hi [t]) (.slice (some ⟨w.heap.size, 0, none⟩) 1 1) := by
  refine .row (.mk op p lo hi [t]) w.heap.size 1 _ [k] (heap_alloc_new w _) hok rfl (by simp) (Nat.le_refl _) (by decide) rfl rfl fun i t' k' e1 e2 => ?_
  match i, e1, e2 with
  | 0, e1, e2 =>
    have e1 : t = t' := by simpa [T.kids] using e1
    have e2 : k = k' := by simpa using e2
    subst e1 e2
    exact h.alloc _

/-- The numbers of a repetition, behind the bracket that opens them. -/
def St.times (s : ByteArray) (st : St) : (Int × Int) × St :=
  let lo := (st.number s).1
  let st1 := (st.number s).2
  let hi := if st1.peek s = 44 then ((st1.step 1).number s).1 else lo
  let st2 := if st1.peek s = 44 then ((st1.step 1).number s).2 else st1
  let d := (st2.next s).1
  let st3 := (st2.next s).2
  ((lo, hi), if d = 125 ∧ 1 ≤ hi ∧ hi ≤ 32 ∧ lo ≤ hi then st3 else st3.fail ((st3.pos : Int) - 1) 2)

theorem times_rel (s : ByteArray) (st : St) (hpos : st.pos ≤ s.size) : Rel s (cTimes s st.pos) st (st.times s).1 (st.times s).2 := by
  have h1 := number_rel s st hpos
  unfold St.times cTimes
  simp only
  revert h1
  generalize (st.number s).1 = lo
  generalize (st.number s).2 = st1
  intro h1
  -- the second number
  have h2 : Rel s (if st.bad = 0 ∧ st1.bad = 0 then (if isB s st1.pos 44 = true then cNum s (st1.pos + 1) else .ok (lo, st1.pos)) else .ok (lo, st1.pos)) st1 (if st1.peek s = 44 then ((st1.step 1).number s).1 else lo) (if st1.peek s = 44 then ((st1.step 1).number s).2 else st1) := by
    by_cases hb1 : st1.bad = 0
    · by_cases h44 : isB s st1.pos 44 = true
      · have hp := (peek_isB s st1 hb1 44).2 h44
        have hlt := isB_lt h44
        rw [if_pos (show st1.peek s = 44 from hp), if_pos (show st1.peek s = 44 from hp)]
        have := (number_rel s (st1.step 1) (by show st1.pos + 1 ≤ s.size; omega)).from (st := st1) rfl rfl rfl
        refine this.swap fun _ => ?_
        have hb : st.bad = 0 := Classical.not_not.1 fun hb => h1.bad hb hb1
        rw [if_pos ⟨hb, hb1⟩, if_pos h44]
        rfl
      · have hp : ¬ (st1.peek s = 44) := fun h => h44 ((peek_isB s st1 hb1 44).1 h)
        rw [if_neg hp, if_neg hp, if_neg h44]
        refine Rel.mk0 rfl h1.pos (fun h => absurd hb1 h) fun _ => .inl ⟨hb1, by split <;> rfl⟩
    · have hp : ¬ (st1.peek s = 44) := by rw [peek_bad s st1 hb1]; omega
      rw [if_neg hp, if_neg hp]
      exact Rel.mk0 rfl h1.pos (fun _ => ⟨rfl, rfl⟩) fun h => absurd h hb1
  revert h2
  generalize (if st1.peek s = 44 then ((st1.step 1).number s).1 else lo) = hi
  generalize (if st1.peek s = 44 then ((st1.step 1).number s).2 else st1) = st2
  intro h2
  have hend : st2.bad ≠ 0 → (if (st2.next s).1 = 125 ∧ 1 ≤ hi ∧ hi ≤ 32 ∧ lo ≤ hi then (st2.next s).2 else (st2.next s).2.fail (((st2.next s).2.pos : Int) - 1) 2) = st2 := by
    intro hz
    rw [next_bad s st2 hz]
    rw [if_neg (by simp), fail_keep _ hz]
  refine h1.then (fun hz => ?_) fun hb hb1 => ?_
  · have := h2.2.2.1 hz
    rw [hend (h2.bad hz)]
    exact ⟨this.1, this.2, h2.opn, h2.pos⟩
  · refine (h2.swap (r' := if isB s st1.pos 44 = true then cNum s (st1.pos + 1) else .ok (lo, st1.pos)) fun _ => by rw [if_pos ⟨hb, hb1⟩]).then (fun hz => ?_) fun _ hb2 => ?_
    · rw [hend hz]
      exact ⟨rfl, rfl, rfl, h2.pos⟩
    · by_cases hp : st2.pos < s.size
      · rw [next_ok s st2 hb2 hp]
        by_cases hc : isB s st2.pos 125 = true ∧ 1 ≤ hi ∧ hi ≤ 32 ∧ lo ≤ hi
        · have := isB_lt hc.1
          rw [if_pos hc, if_pos ⟨by simp only; omega, hc.2⟩]
          exact Rel.mk0 rfl (by show st2.pos + 1 ≤ s.size; omega) (fun h => absurd hb2 h) fun _ => .inl ⟨hb2, rfl⟩
        · rw [if_neg hc, if_neg (fun h => hc ⟨by have := h.1; simp only at this; simp [isB, hp]; omega, h.2⟩), fail_new _ (by exact hb2)]
          exact Rel.mk0 rfl (by show st2.pos + 1 ≤ s.size; omega) (fun h => absurd hb2 h) fun _ => .inr ⟨by simp, by simp [St.step]⟩
      · rw [next_end s st2 hb2 (by omega)]
        have := h2.pos
        rw [if_neg (by simp [isB, hp]), if_neg (by simp), fail_keep _ (by simp)]
        refine Rel.mk0 rfl h2.pos (fun h => absurd hb2 h) fun _ => .inr ⟨by simp, ?_⟩
        simp
        omega

theorem put8_size (w : World) (g : Nat) (t : T) (k : Value) : (put8 w g t k).heap.size = w.heap.size := by simp [put8, World.setCell]

/-- Behind a round: the node that repeats what was read. -/
theorem rep_round {w wx : World} {g : Nat} {s : ByteArray} {st : St} {gx : Nat} {t : T} {k : Value} (mid : Mid w g s st wx) (hgx : w.heap.size < gx) (bx : Box8 wx gx t k) (ht : Tree wx (fun b => w.heap.size < b ∧ b ≠ gx) t k) (lo hi : Int) {W : World}
    (hW : W = ((((((((wx.setCell ⟨gx, 0, none⟩ (.int .i64 4)).setCell ⟨gx, 1, none⟩ (.int .u64 0)).setCell ⟨gx, 2, none⟩ (.int .u64 0)).setCell ⟨gx, 3, none⟩ (.int .u64 0)).setCell ⟨gx, 4, none⟩ (.int .u64 0)).setCell ⟨gx, 5, none⟩ (.int .i64 lo)).setCell ⟨gx, 6, none⟩ (.int .i64 hi)).setCell ⟨gx, 7, none⟩ (.slice (some ⟨wx.heap.size, 0, none⟩) 1 1)).alloc
      (.cells #[.int .i64 t.op, .int .u64 (word t.set 0), .int .u64 (word t.set 1), .int .u64 (word t.set 2), .int .u64 (word t.set 3), .int .i64 t.lo, .int .i64 t.hi, k] 29)) :
    Mid w g s st W ∧ Box8 W gx (T.rep lo hi t) (.slice (some ⟨wx.heap.size, 0, none⟩) 1 1) ∧ Tree W (fun b => w.heap.size < b ∧ b ≠ gx) (T.rep lo hi t) (.slice (some ⟨wx.heap.size, 0, none⟩) 1 1) := by
  have e : W = (put8 wx gx (T.rep lo hi t) (.slice (some ⟨wx.heap.size, 0, none⟩) 1 1)).alloc (.cells #[.int .i64 t.op, .int .u64 (word t.set 0), .int .u64 (word t.set 1), .int .u64 (word t.set 2), .int .u64 (word t.set 3), .int .i64 t.lo, .int .i64 t.hi, k] 29) := by
    rw [hW]
    simp only [put8, T.rep, T.op, T.set, T.lo, T.hi, word_none]
  rw [e]
  have hx := bx.lt
  refine ⟨(mid.put8 hgx _ _).alloc _, (bx.put (t' := t) (k' := k) _ _).alloc _, ?_⟩
  have h := (ht.put8 (t' := T.rep lo hi t) (k' := .slice (some ⟨wx.heap.size, 0, none⟩) 1 1) fun b hb => hb.2).kid (by rw [put8_size]; exact ⟨mid.new, by omega⟩) 4 noneP lo hi
  rw [put8_size] at h
  exact h

theorem number_pos (s : ByteArray) (st : St) (h : st.pos ≤ s.size) : (st.number s).2.pos ≤ s.size := (number_rel s st h).pos

set_option maxRecDepth 20000 in
set_option maxHeartbeats 4000000 in
theorem piece_p (w : World) (g : Nat) (s : ByteArray) (st : St) (h : Rdr w g s st) (hs : s.size ≤ 1000) (hpos : st.pos ≤ s.size) (deep : Option (Nat → R T)) (hd : Deep g s deep st.opn) :
    Calls Tryd.prog 41 #[.pointer (some ⟨g, 0, none⟩)] w (RetNode w g s (cPiece s deep st.pos) st) := by
  have mid := Mid.start h
  have HA := Lib.hid (fun w h => atom_p w g s st h hs hpos deep hd)
  have hgw := h.lt
  have hgb : g ≠ w.heap.size := by omega
  have hgb' : w.heap.size ≠ g := by omega
  generalize hw0 : w.alloc (.cells #[.int .i64 0, .int .u64 0, .int .u64 0, .int .u64 0, .int .u64 0, .int .i64 0, .int .i64 0, .slice none 0 0] 29) = w0 at mid
  have HW := Lib.hid hw0
  clear hw0 hd
  go_enter Tryd.func41, Tryd.ntmps41
  go_wp2_with fail
  rw [HW.out]
  clear HW
  go_wp2_with (go_at_call 47; (with_reducible refine (HA.out _ mid.rdr).mono ?_); rintro e w1 ⟨t1, k1, st1, rfl, ht1, r1, o1, hr1⟩; obtain ⟨A, tn, tc, rfl⟩ := ht1.form; unfold nodeV; have mid1 := mid.next o1 r1; have hw1 := mid1.new)
  have bx := Box8.new w1 t1 (.slice A tn tc)
  have hgo := Lib.hid (Going.start (step := repStep s) (f := id) hr1)
  generalize hm0 : (if st1.bad = 0 then s.size + 1 else 0) = m0 at hgo
  simp only [id] at hgo
  have ht2 : Tree (w1.alloc (.cells #[.int .i64 t1.op, .int .u64 (word t1.set 0), .int .u64 (word t1.set 1), .int .u64 (word t1.set 2), .int .u64 (word t1.set 3), .int .i64 t1.lo, .int .i64 t1.hi, (.slice A tn tc)] 29)) (fun b => w.heap.size < b ∧ b ≠ w1.heap.size) t1 (.slice A tn tc) :=
    (ht1.weak fun b hb hlt => ⟨by have := mid.new; omega, by omega⟩).alloc _
  have mid2 := mid1.alloc (.cells #[.int .i64 t1.op, .int .u64 (word t1.set 0), .int .u64 (word t1.set 1), .int .u64 (word t1.set 2), .int .u64 (word t1.set 3), .int .i64 t1.lo, .int .i64 t1.hi, (.slice A tn tc)] 29)
  have hgx : g ≠ w1.heap.size := by have := mid1.rdr.lt; omega
  generalize w1.alloc (.cells #[.int .i64 t1.op, .int .u64 (word t1.set 0), .int .u64 (word t1.set 1), .int .u64 (word t1.set 2), .int .u64 (word t1.set 3), .int .i64 t1.lo, .int .i64 t1.hi, (.slice A tn tc)] 29) = w2 at *
  generalize w1.heap.size = gx at *
  have hgx' : gx ≠ g := by omega
  have hbx : w.heap.size ≠ gx := by omega
  have hbx' : gx ≠ w.heap.size := by omega
  clear hm0 mid mid1 HA r1 o1 hr1 ht1
  go_loopg [] m0 (fun m wr => ∃ t k st2, Mid w g s st2 wr ∧ Box8 wr gx t k ∧ Tree wr (fun b => w.heap.size < b ∧ b ≠ gx) t k ∧ Going s (thenR (cAtom s deep st.pos) fun b p => loopR (repStep s) (s.size + 1) b p) (repStep s) st m t st2)
  case atStart => exact ⟨t1, _, st1, mid2, bx, ht2, hgo.out⟩
  case round =>
    clear mid2 bx ht2 hgo
    obtain ⟨t, k, st2, mid, bx, ht, hgo⟩ := hrel
    obtain ⟨A, tn, tc, rfl⟩ := ht.form
    have hp2 := hgo.pos
    obtain ⟨c0, c1, c2, c3, c4⟩ := mid.rdr.cell
    obtain ⟨f0, f1, f2, f3, f4⟩ := mid.rdr.frozen
    by_cases h63 : st2.peek s = 63
    · have hb2 := (peek_pos s st2 (by omega)).1
      have hlt := (peek_pos s st2 (by omega)).2
      have hst : repStep s t st2.pos = some (.ok (.rep 0 1 t, st2.pos + 1)) := by unfold repStep; rw [if_pos ((peek_isB s st2 hb2 63).1 h63)]
      have HG := Lib.hid (hgo.on (a' := T.rep 0 1 t) (st3 := st2.step 1) hb2 hst (Rel.mk0 rfl (by show st2.pos + 1 ≤ s.size; omega) (fun h => absurd hb2 h) fun _ => .inl ⟨hb2, rfl⟩) (repStep_fwd s t _ _ hst))
      have e1 : (st2.peek s == 63) = true := by simpa using h63
      have HN := Lib.hid (fun w h => next_p w g s st2 h hs)
      simp only [next_ok s st2 hb2 hlt] at HN
      have hbt : (bt s st2.pos : Int) = 63 := by rw [← peek_ok s st2 hb2 hlt]; exact h63
      rw [hbt] at HN
      clear hgo hst h63 hbt hb2 c0 c1 c2 c3 c4 f0 f1 f2 f3 f4
      go_wp2_with (first
        | (go_at_call 33; (with_reducible refine (peek_p _ g s st2 mid.rdr hs).mono ?_); rintro e w3 ⟨rfl, n, rfl⟩)
        | (go_at_call 48; (with_reducible refine (HN.out _ (mid.rdr.drewN n)).mono ?_); rintro e w4 ⟨rfl, r4, o4⟩; have mid4 := (mid.drewN n).next o4 r4; have b4 := (bx.drewN n).grown o4 (by simpa using hgx'); have ht4 := (ht.drewN n).only o4 (mid.rdr.drewN n); obtain ⟨n0, n1, n2, n3, n4, n5, n6, n7⟩ := b4.cell; obtain ⟨z0, z1, z2, z3, z4, z5, z6, z7⟩ := b4.frozen; have hx4 := b4.lt; have hx5 : gx ≠ w4.heap.size := (by omega); have hx6 : w4.heap.size ≠ gx := (by omega)))
      go_roundg (if (st2.step 1).bad = 0 then gk - 1 else 0)
      case measure => exact HG.out.1
      case rel =>
        have hq := rep_round mid4 hw1 b4 ht4 0 1 rfl
        exact ⟨T.rep 0 1 t, _, st2.step 1, hq.1, hq.2.1, hq.2.2, HG.out.2⟩
    · by_cases h123 : st2.peek s = 123
      · have hb2 := (peek_pos s st2 (by omega)).1
        have hlt := (peek_pos s st2 (by omega)).2
        have hst : repStep s t st2.pos = some (thenR (cTimes s (st2.pos + 1)) fun m p => .ok (.rep m.1 m.2 t, p)) := by
          unfold repStep
          rw [if_neg fun h => h63 ((peek_isB s st2 hb2 63).2 h), if_pos ((peek_isB s st2 hb2 123).1 h123)]
        have hfw := repStep_fwd s t _ _ hst
        have hp3 : (st2.step 1).pos ≤ s.size := by show st2.pos + 1 ≤ s.size; omega
        have hti := (times_rel s (st2.step 1) hp3).from (st := st2) rfl rfl rfl
        have hre := hti.then (f := fun m p => .ok (T.rep m.1 m.2 t, p)) (a := T.rep ((st2.step 1).times s).1.1 ((st2.step 1).times s).1.2 t) (fun hz => ⟨rfl, rfl, rfl, hti.pos⟩) fun _ hz => Rel.mk0 rfl hti.pos (fun h => absurd hz h) fun _ => .inl ⟨hz, rfl⟩
        have hg := hgo.on hb2 hst hre hfw
        clear hgo hst hfw hti hre
        have e1 : (st2.peek s == 63) = false := by simpa using h63
        have e2 : (st2.peek s == 123) = true := by simpa using h123
        have HN := Lib.hid (fun w h => next_p w g s st2 h hs)
        simp only [next_ok s st2 hb2 hlt] at HN
        have hbt : (bt s st2.pos : Int) = 123 := by rw [← peek_ok s st2 hb2 hlt]; exact h123
        rw [hbt] at HN
        clear hbt h63 h123 hb2 c0 c1 c2 c3 c4 f0 f1 f2 f3 f4
        have HM := Lib.hid (fun w h => number_p w g s (st2.step 1) h hs hp3)
        have hp4 := number_pos s (st2.step 1) hp3
        unfold St.times at hg
        simp only at hg
        generalize ((st2.step 1).number s).1 = lo at *
        generalize ((st2.step 1).number s).2 = st4 at *
        generalize st2.step 1 = st3 at *
        by_cases h44 : st4.peek s = 44
        · have hlt4 := (peek_pos s st4 (by omega)).2
          simp only [h44, if_true] at hg
          have e44 : (st4.peek s == 44) = true := by simpa using h44
          have hp4' : (st4.step 1).pos ≤ s.size := by show st4.pos + 1 ≤ s.size; omega
          have HM2 := Lib.hid (fun w h => number_p w g s (st4.step 1) h hs hp4')
          have hp5 := number_pos s (st4.step 1) hp4'
          clear h44
          generalize ((st4.step 1).number s).1 = hi at *
          generalize ((st4.step 1).number s).2 = st5 at *
          have HN2 := Lib.hid (fun w h => next_p w g s st5 h hs)
          have hp6 := (next_pos s st5 hp5).1
          generalize (st5.next s).1 = d at *
          generalize (st5.next s).2 = st6 at *
          by_cases hcond : d = 125 ∧ 1 ≤ hi ∧ hi ≤ 32 ∧ lo ≤ hi
          · rw [if_pos hcond] at hg
            have HG := Lib.hid hg
            obtain ⟨q1, q2, q3, q4⟩ := hcond
            have i1 : (d != 125) = false := by simpa using q1
            have i2 : decide (hi < 1) = false := by simpa using q2
            have i3 : decide (32 < hi) = false := by simpa using q3
            have i4 : decide (hi < lo) = false := by simpa using q4
            clear hg q1
            go_wp2_with (first
              | (go_at_call 33; (with_reducible refine (peek_p _ g s st2 (by first | with_reducible exact mid.rdr | with_reducible exact mid.rdr.drewN _) hs).mono ?_); rintro e w3 ⟨rfl, n, rfl⟩)
              | (go_at_call 48; (with_reducible refine (HN.out _ (mid.rdr.drewN _)).mono ?_); rintro e w4 ⟨rfl, r4, o4⟩; have mid4 := (mid.drewN _).next o4 r4; have b4 := (bx.drewN _).grown o4 (by simpa using hgx'); have ht4 := (ht.drewN _).only o4 (mid.rdr.drewN _))
              | (go_at_call 49; (with_reducible refine (HM.out _ r4).mono ?_); rintro e w5 ⟨rfl, r5, o5⟩; have mid5 := mid4.next o5 r5; have b5 := b4.grown o5 (by simpa using hgx'); have ht5 := ht4.only o5 r4; obtain ⟨n0, n1, n2, n3, n4, n5, n6, n7⟩ := b5.cell; obtain ⟨z0, z1, z2, z3, z4, z5, z6, z7⟩ := b5.frozen; have hx4 := b5.lt; have hx5 : gx ≠ w5.heap.size := (by omega); have hx6 : w5.heap.size ≠ gx := (by omega); obtain ⟨c0, c1, c2, c3, c4⟩ := r5.cell)
              | (go_at_call 33; (with_reducible refine (peek_p _ g s st4 r5 hs).mono ?_); rintro e wp ⟨rfl, np, rfl⟩; obtain ⟨c0, c1, c2, c3, c4⟩ := r5.cell; obtain ⟨f0, f1, f2, f3, f4⟩ := r5.frozen)
              | (go_at_call 49; (with_reducible refine (HM2.out _ ((r5.drewN np).setPos (st4.pos + 1))).mono ?_); rintro e w6 ⟨rfl, r6, o6⟩; have mid6 := ((mid5.drewN np).setPos (st4.pos + 1)).next o6 r6; have b6 := (((b5.drewN np).far (a := ⟨g, 1, none⟩) hgx' _).grown o6 (by simpa using hgx')); have ht6 := ((ht5.drewN np).far (a := ⟨g, 1, none⟩) (fun b hb => by show b ≠ g; omega) _).only o6 ((r5.drewN np).setPos (st4.pos + 1)))
              | (go_at_call 48; (with_reducible refine (HN2.out _ r6).mono ?_); rintro e w7 ⟨rfl, r7, o7⟩; have mid7 := mid6.next o7 r7; have b7 := b6.grown o7 (by simpa using hgx'); have ht7 := ht6.only o7 r6; obtain ⟨n0, n1, n2, n3, n4, n5, n6, n7⟩ := b7.cell; obtain ⟨z0, z1, z2, z3, z4, z5, z6, z7⟩ := b7.frozen; have hx4 := b7.lt; have hx5 : gx ≠ w7.heap.size := (by omega); have hx6 : w7.heap.size ≠ gx := (by omega); obtain ⟨c0, c1, c2, c3, c4⟩ := r7.cell))
            go_roundg (if (st6).bad = 0 then gk - 1 else 0)
            case measure => exact HG.out.1
            case rel =>
              have hq := rep_round mid7 hw1 b7 ht7 lo hi rfl
              exact ⟨T.rep lo hi t, _, _, hq.1, hq.2.1, hq.2.2, HG.out.2⟩
          · rw [if_neg hcond] at hg
            have HG := Lib.hid hg
            have HC := Lib.hid hcond
            clear hg hcond
            go_wp2_with (first
              | (go_at_call 33; (with_reducible refine (peek_p _ g s st2 (by first | with_reducible exact mid.rdr | with_reducible exact mid.rdr.drewN _) hs).mono ?_); rintro e w3 ⟨rfl, n, rfl⟩)
              | (go_at_call 48; (with_reducible refine (HN.out _ (mid.rdr.drewN _)).mono ?_); rintro e w4 ⟨rfl, r4, o4⟩; have mid4 := (mid.drewN _).next o4 r4; have b4 := (bx.drewN _).grown o4 (by simpa using hgx'); have ht4 := (ht.drewN _).only o4 (mid.rdr.drewN _))
              | (go_at_call 49; (with_reducible refine (HM.out _ r4).mono ?_); rintro e w5 ⟨rfl, r5, o5⟩; have mid5 := mid4.next o5 r5; have b5 := b4.grown o5 (by simpa using hgx'); have ht5 := ht4.only o5 r4; obtain ⟨n0, n1, n2, n3, n4, n5, n6, n7⟩ := b5.cell; obtain ⟨z0, z1, z2, z3, z4, z5, z6, z7⟩ := b5.frozen; have hx4 := b5.lt; have hx5 : gx ≠ w5.heap.size := (by omega); have hx6 : w5.heap.size ≠ gx := (by omega); obtain ⟨c0, c1, c2, c3, c4⟩ := r5.cell)
              | (go_at_call 33; (with_reducible refine (peek_p _ g s st4 r5 hs).mono ?_); rintro e wp ⟨rfl, np, rfl⟩; obtain ⟨c0, c1, c2, c3, c4⟩ := r5.cell; obtain ⟨f0, f1, f2, f3, f4⟩ := r5.frozen)
              | (go_at_call 49; (with_reducible refine (HM2.out _ ((r5.drewN np).setPos (st4.pos + 1))).mono ?_); rintro e w6 ⟨rfl, r6, o6⟩; have mid6 := ((mid5.drewN np).setPos (st4.pos + 1)).next o6 r6; have b6 := (((b5.drewN np).far (a := ⟨g, 1, none⟩) hgx' _).grown o6 (by simpa using hgx')); have ht6 := ((ht5.drewN np).far (a := ⟨g, 1, none⟩) (fun b hb => by show b ≠ g; omega) _).only o6 ((r5.drewN np).setPos (st4.pos + 1)))
              | (go_at_call 48; (with_reducible refine (HN2.out _ r6).mono ?_); rintro e w7 ⟨rfl, r7, o7⟩; have mid7 := mid6.next o7 r7; have b7 := b6.grown o7 (by simpa using hgx'); have ht7 := ht6.only o7 r6; obtain ⟨n0, n1, n2, n3, n4, n5, n6, n7⟩ := b7.cell; obtain ⟨z0, z1, z2, z3, z4, z5, z6, z7⟩ := b7.frozen; have hx4 := b7.lt; have hx5 : gx ≠ w7.heap.size := (by omega); have hx6 : w7.heap.size ≠ gx := (by omega); obtain ⟨c0, c1, c2, c3, c4⟩ := r7.cell)
              | (go_at_call 50; (with_reducible refine (fail_p _ g s st6 _ _ r7).mono ?_); rintro e w8 ⟨rfl, r8, o8⟩; have mid8 := mid7.next o8 r8; have b8 := b7.grown o8 (by simpa using hgx'); have ht8 := ht7.only o8 r7; obtain ⟨n0, n1, n2, n3, n4, n5, n6, n7⟩ := b8.cell; obtain ⟨z0, z1, z2, z3, z4, z5, z6, z7⟩ := b8.frozen; have hx4 := b8.lt; have hx5 : gx ≠ w8.heap.size := (by omega); have hx6 : w8.heap.size ≠ gx := (by omega); obtain ⟨c0, c1, c2, c3, c4⟩ := r8.cell))
            all_goals try (exfalso; exact HC.out ⟨by omega, by omega, by omega, by omega⟩)
            all_goals
              go_roundg (if (st6.fail ((st6.pos : Int) - 1) 2).bad = 0 then gk - 1 else 0)
              case measure => exact HG.out.1
              case rel =>
                have hq := rep_round mid8 hw1 b8 ht8 lo hi rfl
                exact ⟨T.rep lo hi t, _, _, hq.1, hq.2.1, hq.2.2, HG.out.2⟩
        · simp only [h44, if_false] at hg
          have e44 : (st4.peek s == 44) = false := by simpa using h44
          clear h44
          have HN2 := Lib.hid (fun w h => next_p w g s st4 h hs)
          have hp6 := (next_pos s st4 hp4).1
          generalize (st4.next s).1 = d at *
          generalize (st4.next s).2 = st6 at *
          obtain ⟨hi, hhi⟩ : ∃ hi, hi = lo := ⟨_, rfl⟩
          by_cases hcond : d = 125 ∧ 1 ≤ lo ∧ lo ≤ 32 ∧ lo ≤ lo
          · rw [if_pos hcond] at hg
            have HG := Lib.hid hg
            obtain ⟨q1, q2, q3, q4⟩ := hcond
            have i1 : (d != 125) = false := by simpa using q1
            have i2 : decide (lo < 1) = false := by simpa using q2
            have i3 : decide (32 < lo) = false := by simpa using q3
            clear hg q1 hhi
            go_wp2_with (first
              | (go_at_call 33; (with_reducible refine (peek_p _ g s st2 (by first | with_reducible exact mid.rdr | with_reducible exact mid.rdr.drewN _) hs).mono ?_); rintro e w3 ⟨rfl, n, rfl⟩)
              | (go_at_call 48; (with_reducible refine (HN.out _ (mid.rdr.drewN _)).mono ?_); rintro e w4 ⟨rfl, r4, o4⟩; have mid4 := (mid.drewN _).next o4 r4; have b4 := (bx.drewN _).grown o4 (by simpa using hgx'); have ht4 := (ht.drewN _).only o4 (mid.rdr.drewN _))
              | (go_at_call 49; (with_reducible refine (HM.out _ r4).mono ?_); rintro e w5 ⟨rfl, r5, o5⟩; have mid5 := mid4.next o5 r5; have b5 := b4.grown o5 (by simpa using hgx'); have ht5 := ht4.only o5 r4; obtain ⟨n0, n1, n2, n3, n4, n5, n6, n7⟩ := b5.cell; obtain ⟨z0, z1, z2, z3, z4, z5, z6, z7⟩ := b5.frozen; have hx4 := b5.lt; have hx5 : gx ≠ w5.heap.size := (by omega); have hx6 : w5.heap.size ≠ gx := (by omega); obtain ⟨c0, c1, c2, c3, c4⟩ := r5.cell)
              | (go_at_call 33; (with_reducible refine (peek_p _ g s st4 r5 hs).mono ?_); rintro e wp ⟨rfl, np, rfl⟩; obtain ⟨c0, c1, c2, c3, c4⟩ := r5.cell; obtain ⟨f0, f1, f2, f3, f4⟩ := r5.frozen)
              | (go_at_call 48; (with_reducible refine (HN2.out _ (r5.drewN np)).mono ?_); rintro e w7 ⟨rfl, r7, o7⟩; have mid7 := (mid5.drewN np).next o7 r7; have b7 := (b5.drewN np).grown o7 (by simpa using hgx'); have ht7 := (ht5.drewN np).only o7 (r5.drewN np); obtain ⟨n0, n1, n2, n3, n4, n5, n6, n7⟩ := b7.cell; obtain ⟨z0, z1, z2, z3, z4, z5, z6, z7⟩ := b7.frozen; have hx4 := b7.lt; have hx5 : gx ≠ w7.heap.size := (by omega); have hx6 : w7.heap.size ≠ gx := (by omega); obtain ⟨c0, c1, c2, c3, c4⟩ := r7.cell))
            go_roundg (if (st6).bad = 0 then gk - 1 else 0)
            case measure => exact HG.out.1
            case rel =>
              have hq := rep_round mid7 hw1 b7 ht7 lo lo rfl
              exact ⟨T.rep lo lo t, _, _, hq.1, hq.2.1, hq.2.2, HG.out.2⟩
          · rw [if_neg hcond] at hg
            have HG := Lib.hid hg
            have HC := Lib.hid hcond
            clear hg hcond hhi
            go_wp2_with (first
              | (go_at_call 33; (with_reducible refine (peek_p _ g s st2 (by first | with_reducible exact mid.rdr | with_reducible exact mid.rdr.drewN _) hs).mono ?_); rintro e w3 ⟨rfl, n, rfl⟩)
              | (go_at_call 48; (with_reducible refine (HN.out _ (mid.rdr.drewN _)).mono ?_); rintro e w4 ⟨rfl, r4, o4⟩; have mid4 := (mid.drewN _).next o4 r4; have b4 := (bx.drewN _).grown o4 (by simpa using hgx'); have ht4 := (ht.drewN _).only o4 (mid.rdr.drewN _))
              | (go_at_call 49; (with_reducible refine (HM.out _ r4).mono ?_); rintro e w5 ⟨rfl, r5, o5⟩; have mid5 := mid4.next o5 r5; have b5 := b4.grown o5 (by simpa using hgx'); have ht5 := ht4.only o5 r4; obtain ⟨n0, n1, n2, n3, n4, n5, n6, n7⟩ := b5.cell; obtain ⟨z0, z1, z2, z3, z4, z5, z6, z7⟩ := b5.frozen; have hx4 := b5.lt; have hx5 : gx ≠ w5.heap.size := (by omega); have hx6 : w5.heap.size ≠ gx := (by omega); obtain ⟨c0, c1, c2, c3, c4⟩ := r5.cell)
              | (go_at_call 33; (with_reducible refine (peek_p _ g s st4 r5 hs).mono ?_); rintro e wp ⟨rfl, np, rfl⟩; obtain ⟨c0, c1, c2, c3, c4⟩ := r5.cell; obtain ⟨f0, f1, f2, f3, f4⟩ := r5.frozen)
              | (go_at_call 48; (with_reducible refine (HN2.out _ (r5.drewN np)).mono ?_); rintro e w7 ⟨rfl, r7, o7⟩; have mid7 := (mid5.drewN np).next o7 r7; have b7 := (b5.drewN np).grown o7 (by simpa using hgx'); have ht7 := (ht5.drewN np).only o7 (r5.drewN np); obtain ⟨n0, n1, n2, n3, n4, n5, n6, n7⟩ := b7.cell; obtain ⟨z0, z1, z2, z3, z4, z5, z6, z7⟩ := b7.frozen; have hx4 := b7.lt; have hx5 : gx ≠ w7.heap.size := (by omega); have hx6 : w7.heap.size ≠ gx := (by omega); obtain ⟨c0, c1, c2, c3, c4⟩ := r7.cell)
              | (go_at_call 50; (with_reducible refine (fail_p _ g s st6 _ _ r7).mono ?_); rintro e w8 ⟨rfl, r8, o8⟩; have mid8 := mid7.next o8 r8; have b8 := b7.grown o8 (by simpa using hgx'); have ht8 := ht7.only o8 r7; obtain ⟨n0, n1, n2, n3, n4, n5, n6, n7⟩ := b8.cell; obtain ⟨z0, z1, z2, z3, z4, z5, z6, z7⟩ := b8.frozen; have hx4 := b8.lt; have hx5 : gx ≠ w8.heap.size := (by omega); have hx6 : w8.heap.size ≠ gx := (by omega); obtain ⟨c0, c1, c2, c3, c4⟩ := r8.cell))
            all_goals try (exfalso; exact HC.out ⟨by omega, by omega, by omega, by omega⟩)
            all_goals
              go_roundg (if (st6.fail ((st6.pos : Int) - 1) 2).bad = 0 then gk - 1 else 0)
              case measure => exact HG.out.1
              case rel =>
                have hq := rep_round mid8 hw1 b8 ht8 lo lo rfl
                exact ⟨T.rep lo lo t, _, _, hq.1, hq.2.1, hq.2.2, HG.out.2⟩
      · have hre := hgo.stop fun hb => by
          unfold repStep
          rw [if_neg fun h => h63 ((peek_isB s st2 hb 63).2 h), if_neg fun h => h123 ((peek_isB s st2 hb 123).2 h)]
        have HRE := Lib.hid hre
        have e1 : (st2.peek s == 63) = false := by simpa using h63
        have e2 : (st2.peek s == 123) = false := by simpa using h123
        clear hre hgo h63 h123
        obtain ⟨n0, n1, n2, n3, n4, n5, n6, n7⟩ := bx.cell
        obtain ⟨m0, m1, m2, m3, m4, m5, m6, m7⟩ := mid.box.cell; obtain ⟨y0, y1, y2, y3, y4, y5, y6, y7⟩ := mid.box.frozen
        go_wp2_with (go_at_call 33; (with_reducible refine (peek_p _ g s st2 (by first | with_reducible exact mid.rdr | with_reducible exact mid.rdr.drewN _) hs).mono ?_); rintro e w3 ⟨rfl, n, rfl⟩)
        refine bodyPost_ret (v := nodeV t (.slice A tn tc)) ?_ rfl ((mid.drewN _).ret ((ht.drewN _).weak fun b hb _ => hb.1) HRE.out)
        simp [nodeV, T.zero, T.op, T.set, T.lo, T.hi, word_none, results, Tryd.results41, go_sem, m0, m1, m2, m3, m4, m5, m6, m7]

end Go.Proofs.YtammicfijnffaaaDoor
