/-
  Several texts of this proof in one file: RefAtom2, RefPiece, RefPart, RefPat, Pattern0, PatOk. No statement of its own.
-/
import Derived.Test.YtnkopcmkanibhaaMo14
import Derived.Test.YtnkopcmkanibhaaMo13
import Derived.Lib.BufferMore
import Derived.RangeFuncRecord
set_option linter.unusedVariables false
set_option linter.unusedSimpArgs false

/-
  The document's own reader of patterns: atom, a pattern in brackets; atom, whole: held against the grammar. Contracts for other texts; no statement of its own.
-/
namespace Go.Proofs.Ytnkopcmkanibhaa
open Go Go.RowKit
attribute [local go_sem ↓] Go.wp_at_zero Go.wp_at_succ

set_option maxRecDepth 20000 in
set_option maxHeartbeats 2000000 in
theorem atom_group (w : World) (g : Nat) (s : ByteArray) (st : St) (h : Rdr w g s st) (hs : s.size ≤ 1000) (hpos : st.pos ≤ s.size) (o : R T) (st1 : St) (hc : st.next s = (40, st1)) (h20 : 0 ≤ st1.opn ∧ st1.opn < 20) (f : R T)
    (hp : ∀ w, Rdr w g s { st1 with opn := st1.opn + 1 } → Calls Try.prog 72 #[.pointer (some ⟨g, 0, none⟩)] w (RetNode w g s f { st1 with opn := st1.opn + 1 }))
    (hr : ∀ t st2 c st3, Rel s f { st1 with opn := st1.opn + 1 } t st2 → st2.next s = (c, st3) → Rel s o st t { (if c = 41 then st3 else st3.fail ((st3.pos : Int) - 1) 2) with opn := st1.opn }) (hp1 : st1.pos ≤ s.size) :
    Calls Try.prog 86 #[.pointer (some ⟨g, 0, none⟩)] w (RetNode w g s o st) := by
  have mid := Mid.start h
  have HN := Lib.hid (fun w h => next_p w g s st h hs)
  simp only [hc] at HN
  generalize hw0 : w.alloc (.cells #[.int .i64 0, .int .u64 0, .int .u64 0, .int .u64 0, .int .u64 0, .int .i64 0, .int .i64 0, .slice none 0 0] 75) = w0 at mid
  have HW := Lib.hid hw0
  have HR := Lib.hid hr
  clear hw0 hr hc
  have h20' : (st1.opn == 20) = false := by simp; omega
  have HP := Lib.hid hp
  clear hp
  have hgw := h.lt
  have hgb : g ≠ w.heap.size := by omega
  have hgb' : w.heap.size ≠ g := by omega
  go_enter Try.func86, Try.ntmps86
  go_wp2_with fail
  rw [HW.out]
  clear HW
  go_wp2_with (first
    | (go_at_call 87; (with_reducible refine (HN.out _ mid.rdr).mono ?_); rintro e w1 ⟨rfl, r1, o1⟩; have mid1 := mid.next o1 r1; obtain ⟨c0, c1, c2, c3, c4⟩ := r1.cell; obtain ⟨f0, f1, f2, f3, f4⟩ := r1.frozen)
    | (go_at_call 72; (with_reducible refine (HP.out _ (mid1.setOpn (st1.opn + 1)).rdr).mono ?_); rintro e w2 ⟨t, k, st2, rfl, ht, r2, o2, hf⟩; obtain ⟨A, tn, tc, rfl⟩ := ht.form; unfold nodeV; have mid2 := (mid1.setOpn (st1.opn + 1)).next o2 r2; have hw2 := mid2.new; obtain ⟨c, st3, hn2⟩ : ∃ c st3, st2.next s = (c, st3) := ⟨_, _, rfl⟩; have HN2 := Lib.hid (fun w h => next_p w g s st2 h hs); simp only [hn2] at HN2; have HR2 := Lib.hid (HR.out t st2 c st3 hf hn2); have hop := Lib.hid (show st3.opn = st1.opn + 1 from next_opn hn2 hf.opn); have hps := next_pos s st2 hf.pos; simp only [hn2] at hps; have hpp := hps.1; clear hps hn2 hf HR; have hop1 : 1 ≤ st3.opn := (by rw [hop.out]; omega); have hop2 : st3.opn ≤ 20 := (by rw [hop.out]; omega))
    | (go_at_call 87; (with_reducible refine (HN2.out _ (mid2.alloc _).rdr).mono ?_); rintro e w3 ⟨rfl, r3, o3⟩; have mid3 := (mid2.alloc _).next o3 r3; have hg2 := mid2.rdr.lt; have hx1 : g ≠ w2.heap.size := (by omega); have hx2 : w2.heap.size ≠ g := (by omega); have hx3 : w.heap.size ≠ w2.heap.size := (by omega); have hx4 : w2.heap.size ≠ w.heap.size := (by omega); have b3 := (Box8.new w2 t (.slice A tn tc)).grown o3 (by simp; omega); have ht3 := ((ht.weak (ok' := fun b => w.heap.size < b ∧ b ≠ w2.heap.size) (fun b hb hlt => by simp at hb; have := mid1.new; exact ⟨by omega, by omega⟩)).alloc _).only o3 (mid2.alloc _).rdr; obtain ⟨k0, k1, k2, k3, k4⟩ := r3.cell; obtain ⟨l0, l1, l2, l3, l4⟩ := r3.frozen; obtain ⟨n0, n1, n2, n3, n4, n5, n6, n7⟩ := b3.cell; obtain ⟨m0, m1, m2, m3, m4, m5, m6, m7⟩ := mid3.box.cell; obtain ⟨y0, y1, y2, y3, y4, y5, y6, y7⟩ := mid3.box.frozen)
    | (go_at_call 89; (with_reducible refine (fail_p _ g s st3 _ _ r3).mono ?_); rintro e w5 ⟨rfl, r5, o5⟩; have mid5 := mid3.next o5 r5; have b5 := b3.grown o5 (by simp; omega); have ht5 := ht3.only o5 r3; obtain ⟨p0, p1, p2, p3, p4⟩ := r5.cell; rw [fail_opn] at p2; obtain ⟨q0, q1, q2, q3, q4⟩ := r5.frozen; obtain ⟨z0, z1, z2, z3, z4, z5, z6, z7⟩ := b5.cell; obtain ⟨m0, m1, m2, m3, m4, m5, m6, m7⟩ := mid5.box.cell; obtain ⟨y0, y1, y2, y3, y4, y5, y6, y7⟩ := mid5.box.frozen))
  · have hc : ¬ c = 41 := by simpa using ‹(c != 41) = true›
    have hr := HR2.out
    rw [if_neg hc, ← show st3.opn - 1 = st1.opn by rw [hop.out]; omega] at hr
    refine bodyPost_ret (v := nodeV t (.slice A tn tc)) ?_ rfl ((mid5.setOpn (st3.opn - 1)).ret ((ht5.far (a := ⟨g, 2, none⟩) (fun b hb => by show b ≠ g; omega) _).weak fun b hb _ => hb.1) hr)
    simp [nodeV, T.one, T.zero, T.op, T.set, T.lo, T.hi, word_none, results, Try.results86, go_sem, m0, m1, m2, m3, m4, m5, m6, m7, hgb, hgb']
  · have hc : c = 41 := by simpa using ‹(c != 41) = false›
    have hr := HR2.out
    rw [if_pos hc, ← show st3.opn - 1 = st1.opn by rw [hop.out]; omega] at hr
    refine bodyPost_ret (v := nodeV t (.slice A tn tc)) ?_ rfl ((mid3.setOpn (st3.opn - 1)).ret ((ht3.far (a := ⟨g, 2, none⟩) (fun b hb => by show b ≠ g; omega) _).weak fun b hb _ => hb.1) hr)
    simp [nodeV, T.one, T.zero, T.op, T.set, T.lo, T.hi, word_none, results, Try.results86, go_sem, m0, m1, m2, m3, m4, m5, m6, m7, hgb, hgb']

/-- What a deeper pattern tells: there is none, or it tells what f says. -/
def Deep (g : Nat) (s : ByteArray) (deep : Option (Nat → R T)) (n : Int) : Prop :=
  (deep = none ∧ n = 20) ∨ ∃ f, deep = some f ∧ 0 ≤ n ∧ n < 20 ∧ ∀ w st', Rdr w g s st' → st'.opn = n + 1 → st'.pos ≤ s.size →
    Calls Try.prog 72 #[.pointer (some ⟨g, 0, none⟩)] w (RetNode w g s (f st'.pos) st')

theorem atom_p (w : World) (g : Nat) (s : ByteArray) (st : St) (h : Rdr w g s st) (hs : s.size ≤ 1000) (hpos : st.pos ≤ s.size) (deep : Option (Nat → R T)) (hd : Deep g s deep st.opn) : Calls Try.prog 86 #[.pointer (some ⟨g, 0, none⟩)] w (RetNode w g s (cAtom s deep st.pos) st) := by
  by_cases hb : st.bad = 0
  · by_cases hp : st.pos < s.size
    · have hn := next_ok s st hb hp
      have hlt := bt_lt s st.pos
      have hstep : ∀ {t : T} {o : R T}, o = .ok (t, st.pos + 1) → Rel s o st t (st.step 1) := fun e => Rel.mk0 rfl (by show st.pos + 1 ≤ s.size; omega) (fun h => absurd hb h) fun _ => .inl ⟨hb, e⟩
      have hfail : ∀ {t : T} {o : R T} {c : Int}, c ≠ 0 → o = .error (c, (st.pos : Int)) → Rel s o st t ((st.step 1).fail (((st.step 1).pos : Int) - 1) c) := fun hc e => by
        rw [fail_new _ (by exact hb)]
        refine Rel.mk0 rfl (by show st.pos + 1 ≤ s.size; omega) (fun h => absurd hb h) fun _ => .inr ⟨hc, ?_⟩
        rw [e]
        simp [St.step]
      have hp1 : (st.step 1).pos ≤ s.size := by show st.pos + 1 ≤ s.size; omega
      unfold cAtom
      rw [if_pos hp]
      by_cases h1 : bt s st.pos = 40
      · rw [if_pos h1]
        rw [h1] at hn
        rcases hd with ⟨rfl, h20⟩ | ⟨f, rfl, h0, h20, hf⟩
        · exact atom_full w g s st h hs hpos _ _ hn h20 (hfail (by omega) rfl) hp1
        · refine atom_group w g s st h hs hpos _ _ hn ⟨h0, h20⟩ (f (st.pos + 1)) (fun w hr => hf w _ hr rfl hp1) (fun t st2 c st3 h2 h3 => ?_) hp1
          have hz : st2.bad ≠ 0 → st3 = st2 ∧ c = -1 := fun hz => by rw [next_bad s st2 hz] at h3; injection h3 with e1 e2; exact ⟨e2.symm, e1.symm⟩
          have hh : Rel s (thenR (f (st.pos + 1)) fun t p => if isB s p 41 = true then .ok (t, p + 1) else .error (2, (p : Int))) { st.step 1 with opn := st.opn + 1 } t { (if c = 41 then st3 else st3.fail ((st3.pos : Int) - 1) 2) with opn := st.opn + 1 } := by
            refine h2.then (fun hz2 => ?_) (fun hb0 hb2 => ?_)
            · obtain ⟨rfl, rfl⟩ := hz hz2
              rw [if_neg (by omega), fail_keep _ hz2]
              exact ⟨rfl, rfl, h2.opn.symm, h2.pos⟩
            · have hop := h2.opn
              by_cases hp2 : st2.pos < s.size
              · rw [next_ok s st2 hb2 hp2] at h3
                injection h3 with e1 e2
                subst e1 e2
                by_cases h41 : bt s st2.pos = 41
                · rw [if_pos (show isB s st2.pos 41 = true by simp [isB, hp2, h41]), if_pos (show (bt s st2.pos : Int) = 41 by omega)]
                  exact Rel.mk0 hop.symm (by show st2.pos + 1 ≤ s.size; omega) (fun h => absurd hb2 h) fun _ => .inl ⟨hb2, rfl⟩
                · rw [if_neg (show ¬ isB s st2.pos 41 = true by simp [isB, h41]), if_neg (show ¬ (bt s st2.pos : Int) = 41 by omega), fail_new _ (by exact hb2)]
                  exact Rel.mk0 hop.symm (by show st2.pos + 1 ≤ s.size; omega) (fun h => absurd hb2 h) fun _ => .inr ⟨by simp, by simp [St.step]⟩
              · rw [next_end s st2 hb2 (by omega)] at h3
                injection h3 with e1 e2
                subst e1 e2
                have := h2.pos
                rw [if_neg (show ¬ isB s st2.pos 41 = true by simp [isB, hp2]), if_neg (show ¬ (-1 : Int) = 41 by omega), fail_keep _ (by simp)]
                refine Rel.mk0 hop.symm h2.pos (fun h => absurd hb2 h) fun _ => .inr ⟨by simp, ?_⟩
                simp
                omega
          exact Rel.mk0 rfl hh.pos (fun h => absurd hb h) fun _ => hh.cases hb
      · rw [if_neg h1]
        by_cases h2 : bt s st.pos = 91
        · rw [if_pos h2]
          rw [h2] at hn
          refine atom_class w g s st h hs hpos _ _ hn (fun q st2 hq => ?_) hp1
          exact (hq.from (st := st) rfl rfl rfl).then (fun hz => ⟨rfl, rfl, rfl, hq.pos⟩) fun _ hz => Rel.mk0 rfl hq.pos (fun h => absurd hz h) fun _ => .inl ⟨hz, rfl⟩
        · rw [if_neg h2]
          by_cases h3 : bt s st.pos = 46
          · rw [if_pos h3]
            rw [h3] at hn
            exact atom_dot w g s st h hs hpos _ _ hn (hstep rfl)
          · rw [if_neg h3]
            by_cases h4 : bt s st.pos = 92
            · rw [if_pos h4]
              rw [h4] at hn
              have hwd : cWide s st.pos = isWide ((st.step 1).peek s) := by
                unfold cWide
                by_cases hq : st.pos + 1 < s.size
                · rw [peek_ok s (st.step 1) hb hq]
                  simp [isB, hp, h4, hq, St.step]
                · rw [peek_end s (st.step 1) hb (by show s.size ≤ st.pos + 1; omega)]
                  simp [hq, isWide]
              by_cases h5 : cWide s st.pos = true
              · rw [if_pos h5]
                have hq : st.pos + 1 < s.size := by simp [cWide] at h5; omega
                have e := peek_ok s (st.step 1) hb hq
                refine atom_wide w g s st h hs hpos _ _ hn (by rw [← hwd]; exact h5) ?_ hq
                rw [e]
                exact Rel.mk0 rfl (by show st.pos + 1 + 1 ≤ s.size; omega) (fun h => absurd hb h) fun _ => .inl ⟨hb, rfl⟩
              · rw [if_neg h5]
                refine atom_esc w g s st h hs hpos _ _ hn (by rw [← hwd]; simpa using h5) ?_ hp1
                have he := (escaped_rel s (st.step 1) hp1).from (st := st) rfl rfl rfl
                exact he.then (fun hz => ⟨rfl, rfl, rfl, he.pos⟩) fun _ hz => Rel.mk0 rfl he.pos (fun h => absurd hz h) fun _ => .inl ⟨hz, rfl⟩
            · rw [if_neg h4]
              by_cases h5 : bt s st.pos = 42 ∨ bt s st.pos = 43
              · rw [if_pos h5]
                exact atom_star w g s st h hs hpos _ _ _ hn (by omega) (hfail (by omega) rfl) hp1
              · rw [if_neg h5]
                by_cases h6 : inT (bt s st.pos : Int) stopT = true
                · rw [if_pos h6]
                  exact atom_stop w g s st h hs hpos _ _ _ hn (by omega) (by omega) (by omega) (by omega) (by omega) (by omega) h6 (by omega) (hfail (by omega) rfl) hp1
                · rw [if_neg h6]
                  refine atom_else w g s st h hs hpos _ _ _ hn (by omega) (by omega) (by omega) (by omega) (by omega) (by omega) (by simpa using h6) (by omega) ?_
                  rw [max_nonneg _ (by omega)]
                  exact hstep rfl
    · refine atom_else w g s st h hs hpos _ _ _ (next_end s st hb (by omega)) (by omega) (by omega) (by omega) (by omega) (by omega) (by omega) (inT_neg _) (by omega) ?_
      refine Rel.mk0 rfl hpos (fun h => absurd hb h) fun _ => .inr ⟨by simp, ?_⟩
      unfold cAtom
      rw [if_neg hp]
      simp
      omega
  · exact atom_else w g s st h hs hpos _ _ _ (next_bad s st hb) (by omega) (by omega) (by omega) (by omega) (by omega) (by omega) (inT_neg _) (by omega) (Rel.mk0 rfl hpos (fun _ => ⟨rfl, rfl⟩) (fun h => absurd h hb))

end Go.Proofs.Ytnkopcmkanibhaa

/-
  The document's own reader of patterns: piece: what it does, held against the grammar. Contracts for other texts; no statement of its own.
-/
namespace Go.Proofs.Ytnkopcmkanibhaa
open Go Go.RowKit
attribute [local go_sem ↓] Go.wp_at_zero Go.wp_at_succ

/-- One kid in a new row. -/
theorem Tree.kid {w : World} {ok : Nat → Prop} {t : T} {k : Value} (h : Tree w ok t k) (hok : ok w.heap.size) (op : Int) (p : Nat → Bool) (lo hi : Int) :
    Tree (w.alloc (.cells #[.int .i64 t.op, .int .u64 (word t.set 0), .int .u64 (word t.set 1), .int .u64 (word t.set 2), .int .u64 (word t.set 3), .int .i64 t.lo, .int .i64 t.hi, k] 75)) ok (.mk op p lo hi [t]) (.slice (some ⟨w.heap.size, 0, none⟩) 1 1) := by
  refine .row (.mk op p lo hi [t]) w.heap.size 1 _ [k] (heap_alloc_new w _) hok rfl (by simp) (Nat.le_refl _) (by decide) rfl rfl fun i t' k' e1 e2 => ?_
  match i, e1, e2 with
  | 0, e1, e2 =>
    have e1 : t = t' := by simpa [T.kids] using e1
    have e2 : k = k' := by simpa using e2
    subst e1 e2
    exact h.alloc _

/-- The numbers of a repetition, behind the bracket that opens them. -/
def St.times (s : ByteArray) (st : St) : (Int × Int) × St :=
  let lo := (st.number s).1
  let st1 := (st.number s).2
  let hi := if st1.peek s = 44 then ((st1.step 1).number s).1 else lo
  let st2 := if st1.peek s = 44 then ((st1.step 1).number s).2 else st1
  let d := (st2.next s).1
  let st3 := (st2.next s).2
  ((lo, hi), if d = 125 ∧ 1 ≤ hi ∧ hi ≤ 32 ∧ lo ≤ hi then st3 else st3.fail ((st3.pos : Int) - 1) 2)

theorem times_rel (s : ByteArray) (st : St) (hpos : st.pos ≤ s.size) : Rel s (cTimes s st.pos) st (st.times s).1 (st.times s).2 := by
  have h1 := number_rel s st hpos
  unfold St.times cTimes
  simp only
  revert h1
  generalize (st.number s).1 = lo
  generalize (st.number s).2 = st1
  intro h1
  -- the second number
  have h2 : Rel s (if st.bad = 0 ∧ st1.bad = 0 then (if isB s st1.pos 44 = true then cNum s (st1.pos + 1) else .ok (lo, st1.pos)) else .ok (lo, st1.pos)) st1 (if st1.peek s = 44 then ((st1.step 1).number s).1 else lo) (if st1.peek s = 44 then ((st1.step 1).number s).2 else st1) := by
    by_cases hb1 : st1.bad = 0
    · by_cases h44 : isB s st1.pos 44 = true
      · have hp := (peek_isB s st1 hb1 44).2 h44
        have hlt := isB_lt h44
        rw [if_pos (show st1.peek s = 44 from hp), if_pos (show st1.peek s = 44 from hp)]
        have := (number_rel s (st1.step 1) (by show st1.pos + 1 ≤ s.size; omega)).from (st := st1) rfl rfl rfl
        refine this.swap fun _ => ?_
        have hb : st.bad = 0 := Classical.not_not.1 fun hb => h1.bad hb hb1
        rw [if_pos ⟨hb, hb1⟩, if_pos h44]
        rfl
      · have hp : ¬ (st1.peek s = 44) := fun h => h44 ((peek_isB s st1 hb1 44).1 h)
        rw [if_neg hp, if_neg hp, if_neg h44]
        refine Rel.mk0 rfl h1.pos (fun h => absurd hb1 h) fun _ => .inl ⟨hb1, by split <;> rfl⟩
    · have hp : ¬ (st1.peek s = 44) := by rw [peek_bad s st1 hb1]; omega
      rw [if_neg hp, if_neg hp]
      exact Rel.mk0 rfl h1.pos (fun _ => ⟨rfl, rfl⟩) fun h => absurd h hb1
  revert h2
  generalize (if st1.peek s = 44 then ((st1.step 1).number s).1 else lo) = hi
  generalize (if st1.peek s = 44 then ((st1.step 1).number s).2 else st1) = st2
  intro h2
  have hend : st2.bad ≠ 0 → (if (st2.next s).1 = 125 ∧ 1 ≤ hi ∧ hi ≤ 32 ∧ lo ≤ hi then (st2.next s).2 else (st2.next s).2.fail (((st2.next s).2.pos : Int) - 1) 2) = st2 := by
    intro hz
    rw [next_bad s st2 hz]
    rw [if_neg (by simp), fail_keep _ hz]
  refine h1.then (fun hz => ?_) fun hb hb1 => ?_
  · have := h2.2.2.1 hz
    rw [hend (h2.bad hz)]
    exact ⟨this.1, this.2, h2.opn, h2.pos⟩
  · refine (h2.swap (r' := if isB s st1.pos 44 = true then cNum s (st1.pos + 1) else .ok (lo, st1.pos)) fun _ => by rw [if_pos ⟨hb, hb1⟩]).then (fun hz => ?_) fun _ hb2 => ?_
    · rw [hend hz]
      exact ⟨rfl, rfl, rfl, h2.pos⟩
    · by_cases hp : st2.pos < s.size
      · rw [next_ok s st2 hb2 hp]
        by_cases hc : isB s st2.pos 125 = true ∧ 1 ≤ hi ∧ hi ≤ 32 ∧ lo ≤ hi
        · have := isB_lt hc.1
          rw [if_pos hc, if_pos ⟨by simp only; omega, hc.2⟩]
          exact Rel.mk0 rfl (by show st2.pos + 1 ≤ s.size; omega) (fun h => absurd hb2 h) fun _ => .inl ⟨hb2, rfl⟩
        · rw [if_neg hc, if_neg (fun h => hc ⟨by have := h.1; simp only at this; simp [isB, hp]; omega, h.2⟩), fail_new _ (by exact hb2)]
          exact Rel.mk0 rfl (by show st2.pos + 1 ≤ s.size; omega) (fun h => absurd hb2 h) fun _ => .inr ⟨by simp, by simp [St.step]⟩
      · rw [next_end s st2 hb2 (by omega)]
        have := h2.pos
        rw [if_neg (by simp [isB, hp]), if_neg (by simp), fail_keep _ (by simp)]
        refine Rel.mk0 rfl h2.pos (fun h => absurd hb2 h) fun _ => .inr ⟨by simp, ?_⟩
        simp
        omega

theorem put8_size (w : World) (g : Nat) (t : T) (k : Value) : (put8 w g t k).heap.size = w.heap.size := by simp [put8, World.setCell]

/-- Behind a round: the node that repeats what was read. -/
theorem rep_round {w wx : World} {g : Nat} {s : ByteArray} {st : St} {gx : Nat} {t : T} {k : Value} (mid : Mid w g s st wx) (hgx : w.heap.size < gx) (bx : Box8 wx gx t k) (ht : Tree wx (fun b => w.heap.size < b ∧ b ≠ gx) t k) (lo hi : Int) {W : World}
    (hW : W = ((((((((wx.setCell ⟨gx, 0, none⟩ (.int .i64 4)).setCell ⟨gx, 1, none⟩ (.int .u64 0)).setCell ⟨gx, 2, none⟩ (.int .u64 0)).setCell ⟨gx, 3, none⟩ (.int .u64 0)).setCell ⟨gx, 4, none⟩ (.int .u64 0)).setCell ⟨gx, 5, none⟩ (.int .i64 lo)).setCell ⟨gx, 6, none⟩ (.int .i64 hi)).setCell ⟨gx, 7, none⟩ (.slice (some ⟨wx.heap.size, 0, none⟩) 1 1)).alloc
      (.cells #[.int .i64 t.op, .int .u64 (word t.set 0), .int .u64 (word t.set 1), .int .u64 (word t.set 2), .int .u64 (word t.set 3), .int .i64 t.lo, .int .i64 t.hi, k] 75)) :
    Mid w g s st W ∧ Box8 W gx (T.rep lo hi t) (.slice (some ⟨wx.heap.size, 0, none⟩) 1 1) ∧ Tree W (fun b => w.heap.size < b ∧ b ≠ gx) (T.rep lo hi t) (.slice (some ⟨wx.heap.size, 0, none⟩) 1 1) := by
  have e : W = (put8 wx gx (T.rep lo hi t) (.slice (some ⟨wx.heap.size, 0, none⟩) 1 1)).alloc (.cells #[.int .i64 t.op, .int .u64 (word t.set 0), .int .u64 (word t.set 1), .int .u64 (word t.set 2), .int .u64 (word t.set 3), .int .i64 t.lo, .int .i64 t.hi, k] 75) := by
    rw [hW]
    simp only [put8, T.rep, T.op, T.set, T.lo, T.hi, word_none]
  rw [e]
  have hx := bx.lt
  refine ⟨(mid.put8 hgx _ _).alloc _, (bx.put (t' := t) (k' := k) _ _).alloc _, ?_⟩
  have h := (ht.put8 (t' := T.rep lo hi t) (k' := .slice (some ⟨wx.heap.size, 0, none⟩) 1 1) fun b hb => hb.2).kid (by rw [put8_size]; exact ⟨mid.new, by omega⟩) 4 noneP lo hi
  rw [put8_size] at h
  exact h

theorem number_pos (s : ByteArray) (st : St) (h : st.pos ≤ s.size) : (st.number s).2.pos ≤ s.size := (number_rel s st h).pos

set_option maxRecDepth 20000 in
set_option maxHeartbeats 4000000 in
theorem piece_p (w : World) (g : Nat) (s : ByteArray) (st : St) (h : Rdr w g s st) (hs : s.size ≤ 1000) (hpos : st.pos ≤ s.size) (deep : Option (Nat → R T)) (hd : Deep g s deep st.opn) :
    Calls Try.prog 85 #[.pointer (some ⟨g, 0, none⟩)] w (RetNode w g s (cPiece s deep st.pos) st) := by
  have mid := Mid.start h
  have HA := Lib.hid (fun w h => atom_p w g s st h hs hpos deep hd)
  have hgw := h.lt
  have hgb : g ≠ w.heap.size := by omega
  have hgb' : w.heap.size ≠ g := by omega
  generalize hw0 : w.alloc (.cells #[.int .i64 0, .int .u64 0, .int .u64 0, .int .u64 0, .int .u64 0, .int .i64 0, .int .i64 0, .slice none 0 0] 75) = w0 at mid
  have HW := Lib.hid hw0
  clear hw0 hd
  go_enter Try.func85, Try.ntmps85
  go_wp2_with fail
  rw [HW.out]
  clear HW
  go_wp2_with (go_at_call 86; (with_reducible refine (HA.out _ mid.rdr).mono ?_); rintro e w1 ⟨t1, k1, st1, rfl, ht1, r1, o1, hr1⟩; obtain ⟨A, tn, tc, rfl⟩ := ht1.form; unfold nodeV; have mid1 := mid.next o1 r1; have hw1 := mid1.new)
  have bx := Box8.new w1 t1 (.slice A tn tc)
  have hgo := Lib.hid (Going.start (step := repStep s) (f := id) hr1)
  generalize hm0 : (if st1.bad = 0 then s.size + 1 else 0) = m0 at hgo
  simp only [id] at hgo
  have ht2 : Tree (w1.alloc (.cells #[.int .i64 t1.op, .int .u64 (word t1.set 0), .int .u64 (word t1.set 1), .int .u64 (word t1.set 2), .int .u64 (word t1.set 3), .int .i64 t1.lo, .int .i64 t1.hi, (.slice A tn tc)] 75)) (fun b => w.heap.size < b ∧ b ≠ w1.heap.size) t1 (.slice A tn tc) :=
    (ht1.weak fun b hb hlt => ⟨by have := mid.new; omega, by omega⟩).alloc _
  have mid2 := mid1.alloc (.cells #[.int .i64 t1.op, .int .u64 (word t1.set 0), .int .u64 (word t1.set 1), .int .u64 (word t1.set 2), .int .u64 (word t1.set 3), .int .i64 t1.lo, .int .i64 t1.hi, (.slice A tn tc)] 75)
  have hgx : g ≠ w1.heap.size := by have := mid1.rdr.lt; omega
  generalize w1.alloc (.cells #[.int .i64 t1.op, .int .u64 (word t1.set 0), .int .u64 (word t1.set 1), .int .u64 (word t1.set 2), .int .u64 (word t1.set 3), .int .i64 t1.lo, .int .i64 t1.hi, (.slice A tn tc)] 75) = w2 at *
  generalize w1.heap.size = gx at *
  have hgx' : gx ≠ g := by omega
  have hbx : w.heap.size ≠ gx := by omega
  have hbx' : gx ≠ w.heap.size := by omega
  clear hm0 mid mid1 HA r1 o1 hr1 ht1
  go_loopg [] m0 (fun m wr => ∃ t k st2, Mid w g s st2 wr ∧ Box8 wr gx t k ∧ Tree wr (fun b => w.heap.size < b ∧ b ≠ gx) t k ∧ Going s (thenR (cAtom s deep st.pos) fun b p => loopR (repStep s) (s.size + 1) b p) (repStep s) st m t st2)
  case atStart => exact ⟨t1, _, st1, mid2, bx, ht2, hgo.out⟩
  case round =>
    clear mid2 bx ht2 hgo
    obtain ⟨t, k, st2, mid, bx, ht, hgo⟩ := hrel
    obtain ⟨A, tn, tc, rfl⟩ := ht.form
    have hp2 := hgo.pos
    obtain ⟨c0, c1, c2, c3, c4⟩ := mid.rdr.cell
    obtain ⟨f0, f1, f2, f3, f4⟩ := mid.rdr.frozen
    by_cases h63 : st2.peek s = 63
    · have hb2 := (peek_pos s st2 (by omega)).1
      have hlt := (peek_pos s st2 (by omega)).2
      have hst : repStep s t st2.pos = some (.ok (.rep 0 1 t, st2.pos + 1)) := by unfold repStep; rw [if_pos ((peek_isB s st2 hb2 63).1 h63)]
      have HG := Lib.hid (hgo.on (a' := T.rep 0 1 t) (st3 := st2.step 1) hb2 hst (Rel.mk0 rfl (by show st2.pos + 1 ≤ s.size; omega) (fun h => absurd hb2 h) fun _ => .inl ⟨hb2, rfl⟩) (repStep_fwd s t _ _ hst))
      have e1 : (st2.peek s == 63) = true := by simpa using h63
      have HN := Lib.hid (fun w h => next_p w g s st2 h hs)
      simp only [next_ok s st2 hb2 hlt] at HN
      have hbt : (bt s st2.pos : Int) = 63 := by rw [← peek_ok s st2 hb2 hlt]; exact h63
      rw [hbt] at HN
      clear hgo hst h63 hbt hb2 c0 c1 c2 c3 c4 f0 f1 f2 f3 f4
      go_wp2_with (first
        | (go_at_call 83; (with_reducible refine (peek_p _ g s st2 mid.rdr hs).mono ?_); rintro e w3 ⟨rfl, n, rfl⟩)
        | (go_at_call 87; (with_reducible refine (HN.out _ (mid.rdr.drewN n)).mono ?_); rintro e w4 ⟨rfl, r4, o4⟩; have mid4 := (mid.drewN n).next o4 r4; have b4 := (bx.drewN n).grown o4 (by simpa using hgx'); have ht4 := (ht.drewN n).only o4 (mid.rdr.drewN n); obtain ⟨n0, n1, n2, n3, n4, n5, n6, n7⟩ := b4.cell; obtain ⟨z0, z1, z2, z3, z4, z5, z6, z7⟩ := b4.frozen; have hx4 := b4.lt; have hx5 : gx ≠ w4.heap.size := (by omega); have hx6 : w4.heap.size ≠ gx := (by omega)))
      go_roundg (if (st2.step 1).bad = 0 then gk - 1 else 0)
      case measure => exact HG.out.1
      case rel =>
        have hq := rep_round mid4 hw1 b4 ht4 0 1 rfl
        exact ⟨T.rep 0 1 t, _, st2.step 1, hq.1, hq.2.1, hq.2.2, HG.out.2⟩
    · by_cases h123 : st2.peek s = 123
      · have hb2 := (peek_pos s st2 (by omega)).1
        have hlt := (peek_pos s st2 (by omega)).2
        have hst : repStep s t st2.pos = some (thenR (cTimes s (st2.pos + 1)) fun m p => .ok (.rep m.1 m.2 t, p)) := by
          unfold repStep
          rw [if_neg fun h => h63 ((peek_isB s st2 hb2 63).2 h), if_pos ((peek_isB s st2 hb2 123).1 h123)]
        have hfw := repStep_fwd s t _ _ hst
        have hp3 : (st2.step 1).pos ≤ s.size := by show st2.pos + 1 ≤ s.size; omega
        have hti := (times_rel s (st2.step 1) hp3).from (st := st2) rfl rfl rfl
        have hre := hti.then (f := fun m p => .ok (T.rep m.1 m.2 t, p)) (a := T.rep ((st2.step 1).times s).1.1 ((st2.step 1).times s).1.2 t) (fun hz => ⟨rfl, rfl, rfl, hti.pos⟩) fun _ hz => Rel.mk0 rfl hti.pos (fun h => absurd hz h) fun _ => .inl ⟨hz, rfl⟩
        have hg := hgo.on hb2 hst hre hfw
        clear hgo hst hfw hti hre
        have e1 : (st2.peek s == 63) = false := by simpa using h63
        have e2 : (st2.peek s == 123) = true := by simpa using h123
        have HN := Lib.hid (fun w h => next_p w g s st2 h hs)
        simp only [next_ok s st2 hb2 hlt] at HN
        have hbt : (bt s st2.pos : Int) = 123 := by rw [← peek_ok s st2 hb2 hlt]; exact h123
        rw [hbt] at HN
        clear hbt h63 h123 hb2 c0 c1 c2 c3 c4 f0 f1 f2 f3 f4
        have HM := Lib.hid (fun w h => number_p w g s (st2.step 1) h hs hp3)
        have hp4 := number_pos s (st2.step 1) hp3
        unfold St.times at hg
        simp only at hg
        generalize ((st2.step 1).number s).1 = lo at *
        generalize ((st2.step 1).number s).2 = st4 at *
        generalize st2.step 1 = st3 at *
        by_cases h44 : st4.peek s = 44
        · have hlt4 := (peek_pos s st4 (by omega)).2
          simp only [h44, if_true] at hg
          have e44 : (st4.peek s == 44) = true := by simpa using h44
          have hp4' : (st4.step 1).pos ≤ s.size := by show st4.pos + 1 ≤ s.size; omega
          have HM2 := Lib.hid (fun w h => number_p w g s (st4.step 1) h hs hp4')
          have hp5 := number_pos s (st4.step 1) hp4'
          clear h44
          generalize ((st4.step 1).number s).1 = hi at *
          generalize ((st4.step 1).number s).2 = st5 at *
          have HN2 := Lib.hid (fun w h => next_p w g s st5 h hs)
          have hp6 := (next_pos s st5 hp5).1
          generalize (st5.next s).1 = d at *
          generalize (st5.next s).2 = st6 at *
          by_cases hcond : d = 125 ∧ 1 ≤ hi ∧ hi ≤ 32 ∧ lo ≤ hi
          · rw [if_pos hcond] at hg
            have HG := Lib.hid hg
            obtain ⟨q1, q2, q3, q4⟩ := hcond
            have i1 : (d != 125) = false := by simpa using q1
            have i2 : decide (hi < 1) = false := by simpa using q2
            have i3 : decide (32 < hi) = false := by simpa using q3
            have i4 : decide (hi < lo) = false := by simpa using q4
            clear hg q1
            go_wp2_with (first
              | (go_at_call 83; (with_reducible refine (peek_p _ g s st2 (by first | with_reducible exact mid.rdr | with_reducible exact mid.rdr.drewN _) hs).mono ?_); rintro e w3 ⟨rfl, n, rfl⟩)
              | (go_at_call 87; (with_reducible refine (HN.out _ (mid.rdr.drewN _)).mono ?_); rintro e w4 ⟨rfl, r4, o4⟩; have mid4 := (mid.drewN _).next o4 r4; have b4 := (bx.drewN _).grown o4 (by simpa using hgx'); have ht4 := (ht.drewN _).only o4 (mid.rdr.drewN _))
              | (go_at_call 88; (with_reducible refine (HM.out _ r4).mono ?_); rintro e w5 ⟨rfl, r5, o5⟩; have mid5 := mid4.next o5 r5; have b5 := b4.grown o5 (by simpa using hgx'); have ht5 := ht4.only o5 r4; obtain ⟨n0, n1, n2, n3, n4, n5, n6, n7⟩ := b5.cell; obtain ⟨z0, z1, z2, z3, z4, z5, z6, z7⟩ := b5.frozen; have hx4 := b5.lt; have hx5 : gx ≠ w5.heap.size := (by omega); have hx6 : w5.heap.size ≠ gx := (by omega); obtain ⟨c0, c1, c2, c3, c4⟩ := r5.cell)
              | (go_at_call 83; (with_reducible refine (peek_p _ g s st4 r5 hs).mono ?_); rintro e wp ⟨rfl, np, rfl⟩; obtain ⟨c0, c1, c2, c3, c4⟩ := r5.cell; obtain ⟨f0, f1, f2, f3, f4⟩ := r5.frozen)
              | (go_at_call 88; (with_reducible refine (HM2.out _ ((r5.drewN np).setPos (st4.pos + 1))).mono ?_); rintro e w6 ⟨rfl, r6, o6⟩; have mid6 := ((mid5.drewN np).setPos (st4.pos + 1)).next o6 r6; have b6 := (((b5.drewN np).far (a := ⟨g, 1, none⟩) hgx' _).grown o6 (by simpa using hgx')); have ht6 := ((ht5.drewN np).far (a := ⟨g, 1, none⟩) (fun b hb => by show b ≠ g; omega) _).only o6 ((r5.drewN np).setPos (st4.pos + 1)))
              | (go_at_call 87; (with_reducible refine (HN2.out _ r6).mono ?_); rintro e w7 ⟨rfl, r7, o7⟩; have mid7 := mid6.next o7 r7; have b7 := b6.grown o7 (by simpa using hgx'); have ht7 := ht6.only o7 r6; obtain ⟨n0, n1, n2, n3, n4, n5, n6, n7⟩ := b7.cell; obtain ⟨z0, z1, z2, z3, z4, z5, z6, z7⟩ := b7.frozen; have hx4 := b7.lt; have hx5 : gx ≠ w7.heap.size := (by omega); have hx6 : w7.heap.size ≠ gx := (by omega); obtain ⟨c0, c1, c2, c3, c4⟩ := r7.cell))
            go_roundg (if (st6).bad = 0 then gk - 1 else 0)
            case measure => exact HG.out.1
            case rel =>
              have hq := rep_round mid7 hw1 b7 ht7 lo hi rfl
              exact ⟨T.rep lo hi t, _, _, hq.1, hq.2.1, hq.2.2, HG.out.2⟩
          · rw [if_neg hcond] at hg
            have HG := Lib.hid hg
            have HC := Lib.hid hcond
            clear hg hcond
            go_wp2_with (first
              | (go_at_call 83; (with_reducible refine (peek_p _ g s st2 (by first | with_reducible exact mid.rdr | with_reducible exact mid.rdr.drewN _) hs).mono ?_); rintro e w3 ⟨rfl, n, rfl⟩)
              | (go_at_call 87; (with_reducible refine (HN.out _ (mid.rdr.drewN _)).mono ?_); rintro e w4 ⟨rfl, r4, o4⟩; have mid4 := (mid.drewN _).next o4 r4; have b4 := (bx.drewN _).grown o4 (by simpa using hgx'); have ht4 := (ht.drewN _).only o4 (mid.rdr.drewN _))
              | (go_at_call 88; (with_reducible refine (HM.out _ r4).mono ?_); rintro e w5 ⟨rfl, r5, o5⟩; have mid5 := mid4.next o5 r5; have b5 := b4.grown o5 (by simpa using hgx'); have ht5 := ht4.only o5 r4; obtain ⟨n0, n1, n2, n3, n4, n5, n6, n7⟩ := b5.cell; obtain ⟨z0, z1, z2, z3, z4, z5, z6, z7⟩ := b5.frozen; have hx4 := b5.lt; have hx5 : gx ≠ w5.heap.size := (by omega); have hx6 : w5.heap.size ≠ gx := (by omega); obtain ⟨c0, c1, c2, c3, c4⟩ := r5.cell)
              | (go_at_call 83; (with_reducible refine (peek_p _ g s st4 r5 hs).mono ?_); rintro e wp ⟨rfl, np, rfl⟩; obtain ⟨c0, c1, c2, c3, c4⟩ := r5.cell; obtain ⟨f0, f1, f2, f3, f4⟩ := r5.frozen)
              | (go_at_call 88; (with_reducible refine (HM2.out _ ((r5.drewN np).setPos (st4.pos + 1))).mono ?_); rintro e w6 ⟨rfl, r6, o6⟩; have mid6 := ((mid5.drewN np).setPos (st4.pos + 1)).next o6 r6; have b6 := (((b5.drewN np).far (a := ⟨g, 1, none⟩) hgx' _).grown o6 (by simpa using hgx')); have ht6 := ((ht5.drewN np).far (a := ⟨g, 1, none⟩) (fun b hb => by show b ≠ g; omega) _).only o6 ((r5.drewN np).setPos (st4.pos + 1)))
              | (go_at_call 87; (with_reducible refine (HN2.out _ r6).mono ?_); rintro e w7 ⟨rfl, r7, o7⟩; have mid7 := mid6.next o7 r7; have b7 := b6.grown o7 (by simpa using hgx'); have ht7 := ht6.only o7 r6; obtain ⟨n0, n1, n2, n3, n4, n5, n6, n7⟩ := b7.cell; obtain ⟨z0, z1, z2, z3, z4, z5, z6, z7⟩ := b7.frozen; have hx4 := b7.lt; have hx5 : gx ≠ w7.heap.size := (by omega); have hx6 : w7.heap.size ≠ gx := (by omega); obtain ⟨c0, c1, c2, c3, c4⟩ := r7.cell)
              | (go_at_call 89; (with_reducible refine (fail_p _ g s st6 _ _ r7).mono ?_); rintro e w8 ⟨rfl, r8, o8⟩; have mid8 := mid7.next o8 r8; have b8 := b7.grown o8 (by simpa using hgx'); have ht8 := ht7.only o8 r7; obtain ⟨n0, n1, n2, n3, n4, n5, n6, n7⟩ := b8.cell; obtain ⟨z0, z1, z2, z3, z4, z5, z6, z7⟩ := b8.frozen; have hx4 := b8.lt; have hx5 : gx ≠ w8.heap.size := (by omega); have hx6 : w8.heap.size ≠ gx := (by omega); obtain ⟨c0, c1, c2, c3, c4⟩ := r8.cell))
            all_goals try (exfalso; exact HC.out ⟨by omega, by omega, by omega, by omega⟩)
            all_goals
              go_roundg (if (st6.fail ((st6.pos : Int) - 1) 2).bad = 0 then gk - 1 else 0)
              case measure => exact HG.out.1
              case rel =>
                have hq := rep_round mid8 hw1 b8 ht8 lo hi rfl
                exact ⟨T.rep lo hi t, _, _, hq.1, hq.2.1, hq.2.2, HG.out.2⟩
        · simp only [h44, if_false] at hg
          have e44 : (st4.peek s == 44) = false := by simpa using h44
          clear h44
          have HN2 := Lib.hid (fun w h => next_p w g s st4 h hs)
          have hp6 := (next_pos s st4 hp4).1
          generalize (st4.next s).1 = d at *
          generalize (st4.next s).2 = st6 at *
          obtain ⟨hi, hhi⟩ : ∃ hi, hi = lo := ⟨_, rfl⟩
          by_cases hcond : d = 125 ∧ 1 ≤ lo ∧ lo ≤ 32 ∧ lo ≤ lo
          · rw [if_pos hcond] at hg
            have HG := Lib.hid hg
            obtain ⟨q1, q2, q3, q4⟩ := hcond
            have i1 : (d != 125) = false := by simpa using q1
            have i2 : decide (lo < 1) = false := by simpa using q2
            have i3 : decide (32 < lo) = false := by simpa using q3
            clear hg q1 hhi
            go_wp2_with (first
              | (go_at_call 83; (with_reducible refine (peek_p _ g s st2 (by first | with_reducible exact mid.rdr | with_reducible exact mid.rdr.drewN _) hs).mono ?_); rintro e w3 ⟨rfl, n, rfl⟩)
              | (go_at_call 87; (with_reducible refine (HN.out _ (mid.rdr.drewN _)).mono ?_); rintro e w4 ⟨rfl, r4, o4⟩; have mid4 := (mid.drewN _).next o4 r4; have b4 := (bx.drewN _).grown o4 (by simpa using hgx'); have ht4 := (ht.drewN _).only o4 (mid.rdr.drewN _))
              | (go_at_call 88; (with_reducible refine (HM.out _ r4).mono ?_); rintro e w5 ⟨rfl, r5, o5⟩; have mid5 := mid4.next o5 r5; have b5 := b4.grown o5 (by simpa using hgx'); have ht5 := ht4.only o5 r4; obtain ⟨n0, n1, n2, n3, n4, n5, n6, n7⟩ := b5.cell; obtain ⟨z0, z1, z2, z3, z4, z5, z6, z7⟩ := b5.frozen; have hx4 := b5.lt; have hx5 : gx ≠ w5.heap.size := (by omega); have hx6 : w5.heap.size ≠ gx := (by omega); obtain ⟨c0, c1, c2, c3, c4⟩ := r5.cell)
              | (go_at_call 83; (with_reducible refine (peek_p _ g s st4 r5 hs).mono ?_); rintro e wp ⟨rfl, np, rfl⟩; obtain ⟨c0, c1, c2, c3, c4⟩ := r5.cell; obtain ⟨f0, f1, f2, f3, f4⟩ := r5.frozen)
              | (go_at_call 87; (with_reducible refine (HN2.out _ (r5.drewN np)).mono ?_); rintro e w7 ⟨rfl, r7, o7⟩; have mid7 := (mid5.drewN np).next o7 r7; have b7 := (b5.drewN np).grown o7 (by simpa using hgx'); have ht7 := (ht5.drewN np).only o7 (r5.drewN np); obtain ⟨n0, n1, n2, n3, n4, n5, n6, n7⟩ := b7.cell; obtain ⟨z0, z1, z2, z3, z4, z5, z6, z7⟩ := b7.frozen; have hx4 := b7.lt; have hx5 : gx ≠ w7.heap.size := (by omega); have hx6 : w7.heap.size ≠ gx := (by omega); obtain ⟨c0, c1, c2, c3, c4⟩ := r7.cell))
            go_roundg (if (st6).bad = 0 then gk - 1 else 0)
            case measure => exact HG.out.1
            case rel =>
              have hq := rep_round mid7 hw1 b7 ht7 lo lo rfl
              exact ⟨T.rep lo lo t, _, _, hq.1, hq.2.1, hq.2.2, HG.out.2⟩
          · rw [if_neg hcond] at hg
            have HG := Lib.hid hg
            have HC := Lib.hid hcond
            clear hg hcond hhi
            go_wp2_with (first
              | (go_at_call 83; (with_reducible refine (peek_p _ g s st2 (by first | with_reducible exact mid.rdr | with_reducible exact mid.rdr.drewN _) hs).mono ?_); rintro e w3 ⟨rfl, n, rfl⟩)
              | (go_at_call 87; (with_reducible refine (HN.out _ (mid.rdr.drewN _)).mono ?_); rintro e w4 ⟨rfl, r4, o4⟩; have mid4 := (mid.drewN _).next o4 r4; have b4 := (bx.drewN _).grown o4 (by simpa using hgx'); have ht4 := (ht.drewN _).only o4 (mid.rdr.drewN _))
              | (go_at_call 88; (with_reducible refine (HM.out _ r4).mono ?_); rintro e w5 ⟨rfl, r5, o5⟩; have mid5 := mid4.next o5 r5; have b5 := b4.grown o5 (by simpa using hgx'); have ht5 := ht4.only o5 r4; obtain ⟨n0, n1, n2, n3, n4, n5, n6, n7⟩ := b5.cell; obtain ⟨z0, z1, z2, z3, z4, z5, z6, z7⟩ := b5.frozen; have hx4 := b5.lt; have hx5 : gx ≠ w5.heap.size := (by omega); have hx6 : w5.heap.size ≠ gx := (by omega); obtain ⟨c0, c1, c2, c3, c4⟩ := r5.cell)
              | (go_at_call 83; (with_reducible refine (peek_p _ g s st4 r5 hs).mono ?_); rintro e wp ⟨rfl, np, rfl⟩; obtain ⟨c0, c1, c2, c3, c4⟩ := r5.cell; obtain ⟨f0, f1, f2, f3, f4⟩ := r5.frozen)
              | (go_at_call 87; (with_reducible refine (HN2.out _ (r5.drewN np)).mono ?_); rintro e w7 ⟨rfl, r7, o7⟩; have mid7 := (mid5.drewN np).next o7 r7; have b7 := (b5.drewN np).grown o7 (by simpa using hgx'); have ht7 := (ht5.drewN np).only o7 (r5.drewN np); obtain ⟨n0, n1, n2, n3, n4, n5, n6, n7⟩ := b7.cell; obtain ⟨z0, z1, z2, z3, z4, z5, z6, z7⟩ := b7.frozen; have hx4 := b7.lt; have hx5 : gx ≠ w7.heap.size := (by omega); have hx6 : w7.heap.size ≠ gx := (by omega); obtain ⟨c0, c1, c2, c3, c4⟩ := r7.cell)
              | (go_at_call 89; (with_reducible refine (fail_p _ g s st6 _ _ r7).mono ?_); rintro e w8 ⟨rfl, r8, o8⟩; have mid8 := mid7.next o8 r8; have b8 := b7.grown o8 (by simpa using hgx'); have ht8 := ht7.only o8 r7; obtain ⟨n0, n1, n2, n3, n4, n5, n6, n7⟩ := b8.cell; obtain ⟨z0, z1, z2, z3, z4, z5, z6, z7⟩ := b8.frozen; have hx4 := b8.lt; have hx5 : gx ≠ w8.heap.size := (by omega); have hx6 : w8.heap.size ≠ gx := (by omega); obtain ⟨c0, c1, c2, c3, c4⟩ := r8.cell))
            all_goals try (exfalso; exact HC.out ⟨by omega, by omega, by omega, by omega⟩)
            all_goals
              go_roundg (if (st6.fail ((st6.pos : Int) - 1) 2).bad = 0 then gk - 1 else 0)
              case measure => exact HG.out.1
              case rel =>
                have hq := rep_round mid8 hw1 b8 ht8 lo lo rfl
                exact ⟨T.rep lo lo t, _, _, hq.1, hq.2.1, hq.2.2, HG.out.2⟩
      · have hre := hgo.stop fun hb => by
          unfold repStep
          rw [if_neg fun h => h63 ((peek_isB s st2 hb 63).2 h), if_neg fun h => h123 ((peek_isB s st2 hb 123).2 h)]
        have HRE := Lib.hid hre
        have e1 : (st2.peek s == 63) = false := by simpa using h63
        have e2 : (st2.peek s == 123) = false := by simpa using h123
        clear hre hgo h63 h123
        obtain ⟨n0, n1, n2, n3, n4, n5, n6, n7⟩ := bx.cell
        obtain ⟨m0, m1, m2, m3, m4, m5, m6, m7⟩ := mid.box.cell; obtain ⟨y0, y1, y2, y3, y4, y5, y6, y7⟩ := mid.box.frozen
        go_wp2_with (go_at_call 83; (with_reducible refine (peek_p _ g s st2 (by first | with_reducible exact mid.rdr | with_reducible exact mid.rdr.drewN _) hs).mono ?_); rintro e w3 ⟨rfl, n, rfl⟩)
        refine bodyPost_ret (v := nodeV t (.slice A tn tc)) ?_ rfl ((mid.drewN _).ret ((ht.drewN _).weak fun b hb _ => hb.1) HRE.out)
        simp [nodeV, T.zero, T.op, T.set, T.lo, T.hi, word_none, results, Try.results85, go_sem, m0, m1, m2, m3, m4, m5, m6, m7]

end Go.Proofs.Ytnkopcmkanibhaa

/-
  The document's own reader of patterns: part: what it does, held against the grammar. Contracts for other texts; no statement of its own.
-/
namespace Go.Proofs.Ytnkopcmkanibhaa
open Go Go.RowKit
attribute [local go_sem ↓] Go.wp_at_zero Go.wp_at_succ

section
variable {w wx wy : World} {g : Nat} {s : ByteArray} {st : St} {B : Nat} {v : Value} {l : List T}
theorem Row.lt (h : Row w B v l) : ∀ b, v.ownBlock = some b → B ≤ b ∧ b < w.heap.size := by
  obtain ⟨ks, h1, h2, h3⟩ := h
  exact h2.lt
theorem Mid.row {row : Option Nat} (h : Mid w g s st wx) (hg : wx.grownBy wy row) (hr : ∀ b, row = some b → w.heap.size < b) : Mid w g s st wy := by
  have hlt := h.lt
  refine ⟨h.lt, ?_, h.box.grown hg fun e => by have := hr _ e.symm; omega, ⟨hg.os.trans h.only.os, hg.tape.trans h.only.tape, hg.output.trans h.only.output, Nat.le_trans h.only.size hg.size, fun b hb hne => (hg.block b (Nat.lt_of_lt_of_le hb h.only.size) fun e => by have := hr _ e.symm; omega).trans (h.only.block b hb hne)⟩⟩
  have hb := hg.block g h.rdr.lt fun e => by have := hr _ e.symm; omega
  exact hb.trans h.rdr
/-- A new kid's cells. -/
theorem kid_cells (w : World) (t : T) (k : Value) : ∀ (j : Nat) u, (nodeC t k)[j]? = some u → (w.alloc (.cells #[.int .i64 t.op, .int .u64 (word t.set 0), .int .u64 (word t.set 1), .int .u64 (word t.set 2), .int .u64 (word t.set 3), .int .i64 t.lo, .int .i64 t.hi, k] 75)).cell? ((⟨w.heap.size, 0, none⟩ : Addr).add j) = some u := by
  intro j u hu
  have hj : j < 8 := by
    have := List.getElem?_eq_some_iff.1 hu
    simpa [nodeC] using this.1
  have hadd : (⟨w.heap.size, 0, none⟩ : Addr).add j = ⟨w.heap.size, j, none⟩ := by unfold Addr.add; split <;> simp_all
  rw [hadd, cell_of_row _ _ j _ 75 (0, 0) (heap_alloc_new w _), ← hu]
  simp [nodeC]
/-- A kid that was read behind the row. -/
theorem kid_tree {t : T} {k : Value} (hrow : Row wx B v l) (hB : B ≤ wx.heap.size) (ht : Tree w (fun b => wx.heap.size ≤ b) t k) : Tree w (fun b => B ≤ b ∧ some b ≠ v.ownBlock) t k :=
  ht.weak fun b hb _ => ⟨by omega, fun e => by have := hrow.lt b e.symm; omega⟩
end

/-- What a piece tells, wherever the reader is. -/
def Pieces (g : Nat) (s : ByteArray) (deep : Option (Nat → R T)) (n : Int) : Prop := ∀ w st', Rdr w g s st' → st'.opn = n → st'.pos ≤ s.size →
  Calls Try.prog 85 #[.pointer (some ⟨g, 0, none⟩)] w (RetNode w g s (cPiece s deep st'.pos) st')
theorem pieces_of {g : Nat} {s : ByteArray} {deep : Option (Nat → R T)} {n : Int} (hs : s.size ≤ 1000) (hd : Deep g s deep n) : Pieces g s deep n :=
  fun w st' h1 h2 h3 => piece_p w g s st' h1 hs h3 deep (h2 ▸ hd)

set_option maxRecDepth 20000 in
set_option maxHeartbeats 4000000 in
theorem part_p (w : World) (g : Nat) (s : ByteArray) (st : St) (h : Rdr w g s st) (hs : s.size ≤ 1000) (hpos : st.pos ≤ s.size) (hopn : 0 ≤ st.opn ∧ st.opn ≤ 20) (deep : Option (Nat → R T)) (hd : Deep g s deep st.opn) (hfw : ∀ f, deep = some f → ∀ p, p ≤ s.size → Fwd s p (f p)) :
    Calls Try.prog 82 #[.pointer (some ⟨g, 0, none⟩)] w (RetNode w g s (cPart s deep (st.opn == 0) st.pos) st) := by
  have mid := Mid.start h
  have HA := pieces_of hs hd
  unfold Pieces at HA
  replace HA := Lib.hid HA
  have HF := Lib.hid (partStep_fwd s deep hfw (st.opn == 0))
  have hgw := h.lt
  have hgb : g ≠ w.heap.size := by omega
  have hgb' : w.heap.size ≠ g := by omega
  generalize hw0 : w.alloc (.cells #[.int .i64 0, .int .u64 0, .int .u64 0, .int .u64 0, .int .u64 0, .int .i64 0, .int .i64 0, .slice none 0 0] 75) = w0 at mid
  have HW := Lib.hid hw0
  clear hw0 hd hfw
  go_enter Try.func82, Try.ntmps82
  go_wp2_with fail
  rw [HW.out]
  clear HW
  go_wp2_with (go_at_call 85; (with_reducible refine (HA.out _ _ mid.rdr rfl hpos).mono ?_); rintro e w1 ⟨t1, k1, st1, rfl, ht1, r1, o1, hr1⟩; obtain ⟨A, tn, tc, rfl⟩ := ht1.form; unfold nodeV; have mid1 := mid.next o1 r1; have hw1 := mid1.new)
  have hrow := Row.new w1 (w.heap.size + 1) t1 (.slice A tn tc) hw1 (ht1.weak fun b hb _ => by have := mid.new; omega)
  have hgo := Lib.hid (Going.start (step := partStep s deep (st.opn == 0)) (f := fun t => [t]) hr1)
  generalize hm0 : (if st1.bad = 0 then s.size + 1 else 0) = m0 at hgo
  have hm1 : m0 ≤ s.size + 1 := by rw [← hm0]; split <;> omega
  have mid2 := mid1.alloc (.cells #[.int .i64 t1.op, .int .u64 (word t1.set 0), .int .u64 (word t1.set 1), .int .u64 (word t1.set 2), .int .u64 (word t1.set 3), .int .i64 t1.lo, .int .i64 t1.hi, (.slice A tn tc)] 75)
  generalize w1.alloc (.cells #[.int .i64 t1.op, .int .u64 (word t1.set 0), .int .u64 (word t1.set 1), .int .u64 (word t1.set 2), .int .u64 (word t1.set 3), .int .i64 t1.lo, .int .i64 t1.hi, (.slice A tn tc)] 75) = w2 at *
  clear hm0 mid mid1 r1 o1 hr1 ht1
  go_loopg [3] m0 (fun m v wr => ∃ l st2, Mid w g s st2 wr ∧ Row wr (w.heap.size + 1) v l ∧ 0 < l.length ∧ l.length + m ≤ s.size + 2 ∧ Going s (thenR (cPiece s deep st.pos) fun b p => loopR (partStep s deep (st.opn == 0)) (s.size + 1) [b] p) (partStep s deep (st.opn == 0)) st m l st2)
  case atStart => exact ⟨[t1], st1, mid2, hrow, by simp, by simp; omega, hgo.out⟩
  case round =>
    clear mid2 hrow hgo hm1
    obtain ⟨l, st2, mid, hrow, hl0, hlm, hgo⟩ := hrel
    have hp2 := hgo.pos
    have ho2 := hgo.opn
    by_cases hgoes : 0 ≤ st2.peek s ∧ st2.peek s ≠ 124 ∧ (st2.peek s ≠ 41 ∨ st2.opn = 0)
    · obtain ⟨h1, h2, h3⟩ := hgoes
      have hb2 := (peek_pos s st2 h1).1
      have hlt := (peek_pos s st2 h1).2
      have hpk := peek_ok s st2 hb2 hlt
      have hst : partStep s deep (st.opn == 0) l st2.pos = some (thenR (cPiece s deep st2.pos) fun t p => .ok (l ++ [t], p)) := by
        unfold partStep
        rw [if_pos ⟨hlt, by omega, by rcases h3 with h3 | h3; exact .inl (by omega); exact .inr (by simpa [ho2] using h3)⟩]
      have HST := Lib.hid hst
      have HGO := Lib.hid hgo
      have HO2 := Lib.hid ho2
      have HB2 := Lib.hid hb2
      have e1 : decide (0 ≤ st2.peek s) = true := by simpa using h1
      have e2 : (st2.peek s != 124) = true := by simpa using h2
      have hll : l.length ≤ 100000 := by omega
      have hBw : w.heap.size + 1 ≤ wr.heap.size := mid.new
      obtain ⟨l0, l1, l2, l3, l4⟩ := mid.rdr.cell
      clear hst hgo ho2 hb2 hpk h2
      by_cases h41 : st2.peek s = 41
      · have e3 : (st2.peek s != 41) = false := by simpa using h41
        have e4 : (st2.opn == 0) = true := by simpa using h3.resolve_left (fun h => h h41)
        clear h3 h41
        go_wp2_with (first
          | (go_at_call 83; (with_reducible refine (peek_p _ g s st2 (by first | with_reducible exact mid.rdr | with_reducible exact mid.rdr.drewN _) hs).mono ?_); rintro e w3 ⟨rfl, n, rfl⟩)
          | (go_at_call 85; (with_reducible refine (HA.out _ _ (mid.rdr.drewN _) HO2.out hp2).mono ?_); rintro e w4 ⟨t, k, st4, rfl, ht4, r4, o4, hr4⟩; obtain ⟨A, tn, tc, rfl⟩ := ht4.form; unfold nodeV; have mid4 := (mid.drewN _).next o4 r4; have row4 := (hrow.drewN _).only o4 (mid.rdr.drewN _); have ht5 := kid_tree (hrow.drewN _) hBw ht4; have hw4 : w.heap.size + 1 ≤ w4.heap.size := mid4.new)
          | (at_builtin; refine wpList_push (by rfl) _ _ (by rfl) (by rfl) (row4.alloc _) (by simp; omega) hll t (.slice A tn tc) (ht5.alloc _) ⟨w4.heap.size, 0, none⟩ 1 (by rfl) (kid_cells w4 t (.slice A tn tc)) ?_; intro v6 w6 row6 o6 hB6; have mid6 := (mid4.alloc _).row o6 (fun b hb => by have := (row4.lt b hb).1; omega)))
        have hre : Rel s (thenR (cPiece s deep st2.pos) fun t p => .ok (l ++ [t], p)) st2 (l ++ [t]) st4 := hr4.then (fun hz => ⟨rfl, rfl, rfl, hr4.pos⟩) fun _ hz => Rel.mk0 rfl hr4.pos (fun h => absurd hz h) fun _ => .inl ⟨hz, rfl⟩
        have HG := HGO.out.on HB2.out HST.out hre (HF.out l st2.pos _ HST.out)
        go_roundg (if st4.bad = 0 then gk - 1 else 0)
        case measure => exact HG.1
        case rel => exact ⟨l ++ [t], st4, mid6, row6, by simp, by have := HG.1; simp; omega, HG.2⟩
      · have e3 : (st2.peek s != 41) = true := by simpa using h41
        clear h3 h41
        go_wp2_with (first
          | (go_at_call 83; (with_reducible refine (peek_p _ g s st2 (by first | with_reducible exact mid.rdr | with_reducible exact mid.rdr.drewN _) hs).mono ?_); rintro e w3 ⟨rfl, n, rfl⟩)
          | (go_at_call 85; (with_reducible refine (HA.out _ _ (mid.rdr.drewN _) HO2.out hp2).mono ?_); rintro e w4 ⟨t, k, st4, rfl, ht4, r4, o4, hr4⟩; obtain ⟨A, tn, tc, rfl⟩ := ht4.form; unfold nodeV; have mid4 := (mid.drewN _).next o4 r4; have row4 := (hrow.drewN _).only o4 (mid.rdr.drewN _); have ht5 := kid_tree (hrow.drewN _) hBw ht4; have hw4 : w.heap.size + 1 ≤ w4.heap.size := mid4.new)
          | (at_builtin; refine wpList_push (by rfl) _ _ (by rfl) (by rfl) (row4.alloc _) (by simp; omega) hll t (.slice A tn tc) (ht5.alloc _) ⟨w4.heap.size, 0, none⟩ 1 (by rfl) (kid_cells w4 t (.slice A tn tc)) ?_; intro v6 w6 row6 o6 hB6; have mid6 := (mid4.alloc _).row o6 (fun b hb => by have := (row4.lt b hb).1; omega)))
        have hre : Rel s (thenR (cPiece s deep st2.pos) fun t p => .ok (l ++ [t], p)) st2 (l ++ [t]) st4 := hr4.then (fun hz => ⟨rfl, rfl, rfl, hr4.pos⟩) fun _ hz => Rel.mk0 rfl hr4.pos (fun h => absurd hz h) fun _ => .inl ⟨hz, rfl⟩
        have HG := HGO.out.on HB2.out HST.out hre (HF.out l st2.pos _ HST.out)
        go_roundg (if st4.bad = 0 then gk - 1 else 0)
        case measure => exact HG.1
        case rel => exact ⟨l ++ [t], st4, mid6, row6, by simp, by have := HG.1; simp; omega, HG.2⟩
    · have hre := hgo.stop fun hb => by
        unfold partStep
        rw [if_neg]
        rintro ⟨h1, h2, h3⟩
        have := peek_ok s st2 hb h1
        exact hgoes ⟨by omega, by omega, by rcases h3 with h3 | h3; exact .inl (by omega); exact .inr (by rw [ho2]; simpa using h3)⟩
      have HRE : Hid (Rel s (cPart s deep (st.opn == 0) st.pos) st (T.many 2 l) st2) := by
        show Rel s (cPart s deep (st.opn == 0) st.pos) st (T.many 2 l) st2
        exact hre.then (fun hz => ⟨rfl, rfl, rfl, hp2⟩) fun _ hz => Rel.mk0 rfl hp2 (fun h => absurd hz h) fun _ => .inl ⟨hz, rfl⟩
      clear hre hgo
      have hbd := peek_bd s st2
      rcases (show st2.peek s < 0 ∨ (0 ≤ st2.peek s ∧ st2.peek s = 124) ∨ (0 ≤ st2.peek s ∧ st2.peek s = 41 ∧ st2.opn ≠ 0) by omega) with h1 | ⟨h1, h2⟩ | ⟨h1, h2, h3⟩
      · have e1 : decide (0 ≤ st2.peek s) = false := by simp; omega
        clear hgoes
        obtain ⟨l0, l1, l2, l3, l4⟩ := mid.rdr.cell
        go_wp2_with (first
          | (go_at_call 83; (with_reducible refine (peek_p _ g s st2 (by first | with_reducible exact mid.rdr | with_reducible exact mid.rdr.drewN _) hs).mono ?_); rintro e w3 ⟨rfl, n, rfl⟩)
          | (go_at_call 84; (with_reducible refine (many_p _ _ _ _ _ (hrow.drewN _) hl0).mono ?_); rintro e w4 ⟨k, rfl, ht4, hb4⟩; obtain ⟨A, tn, tc, rfl⟩ := ht4.form; unfold nodeV; have mid4 := (mid.drewN _).below hb4; obtain ⟨m0, m1, m2, m3, m4, m5, m6, m7⟩ := mid4.box.cell; obtain ⟨y0, y1, y2, y3, y4, y5, y6, y7⟩ := mid4.box.frozen))
        refine bodyPost_ret (v := nodeV (T.many 2 l) (.slice A tn tc)) ?_ rfl (mid4.ret (ht4.weak fun b hb _ => hb) HRE.out)
        simp [nodeV, T.zero, T.op, T.set, T.lo, T.hi, word_none, results, Try.results82, go_sem, m0, m1, m2, m3, m4, m5, m6, m7]
      · have e2 : (st2.peek s != 124) = false := by simpa using h2
        have e1 : decide (0 ≤ st2.peek s) = true := by simpa using h1
        clear hgoes h2
        obtain ⟨l0, l1, l2, l3, l4⟩ := mid.rdr.cell
        go_wp2_with (first
          | (go_at_call 83; (with_reducible refine (peek_p _ g s st2 (by first | with_reducible exact mid.rdr | with_reducible exact mid.rdr.drewN _) hs).mono ?_); rintro e w3 ⟨rfl, n, rfl⟩)
          | (go_at_call 84; (with_reducible refine (many_p _ _ _ _ _ (hrow.drewN _) hl0).mono ?_); rintro e w4 ⟨k, rfl, ht4, hb4⟩; obtain ⟨A, tn, tc, rfl⟩ := ht4.form; unfold nodeV; have mid4 := (mid.drewN _).below hb4; obtain ⟨m0, m1, m2, m3, m4, m5, m6, m7⟩ := mid4.box.cell; obtain ⟨y0, y1, y2, y3, y4, y5, y6, y7⟩ := mid4.box.frozen))
        refine bodyPost_ret (v := nodeV (T.many 2 l) (.slice A tn tc)) ?_ rfl (mid4.ret (ht4.weak fun b hb _ => hb) HRE.out)
        simp [nodeV, T.zero, T.op, T.set, T.lo, T.hi, word_none, results, Try.results82, go_sem, m0, m1, m2, m3, m4, m5, m6, m7]
      · have e2 : (st2.peek s != 124) = true := by simp; omega
        have e1 : decide (0 ≤ st2.peek s) = true := by simpa using h1
        have e3 : (st2.peek s != 41) = false := by simpa using h2
        have e4 : (st2.opn == 0) = false := by simpa using h3
        clear hgoes h2 h3 ho2
        obtain ⟨l0, l1, l2, l3, l4⟩ := mid.rdr.cell
        go_wp2_with (first
          | (go_at_call 83; (with_reducible refine (peek_p _ g s st2 (by first | with_reducible exact mid.rdr | with_reducible exact mid.rdr.drewN _) hs).mono ?_); rintro e w3 ⟨rfl, n, rfl⟩)
          | (go_at_call 84; (with_reducible refine (many_p _ _ _ _ _ (hrow.drewN _) hl0).mono ?_); rintro e w4 ⟨k, rfl, ht4, hb4⟩; obtain ⟨A, tn, tc, rfl⟩ := ht4.form; unfold nodeV; have mid4 := (mid.drewN _).below hb4; obtain ⟨m0, m1, m2, m3, m4, m5, m6, m7⟩ := mid4.box.cell; obtain ⟨y0, y1, y2, y3, y4, y5, y6, y7⟩ := mid4.box.frozen))
        refine bodyPost_ret (v := nodeV (T.many 2 l) (.slice A tn tc)) ?_ rfl (mid4.ret (ht4.weak fun b hb _ => hb) HRE.out)
        simp [nodeV, T.zero, T.op, T.set, T.lo, T.hi, word_none, results, Try.results82, go_sem, m0, m1, m2, m3, m4, m5, m6, m7]

end Go.Proofs.Ytnkopcmkanibhaa

/-
  The document's own reader of patterns: pattern, Parse: what they do, held against the grammar. Contracts for other texts; no statement of its own.
-/
namespace Go.Proofs.Ytnkopcmkanibhaa
open Go Go.RowKit
attribute [local go_sem ↓] Go.wp_at_zero Go.wp_at_succ

/-- What a part tells, wherever the reader is. -/
theorem parts_of {g : Nat} {s : ByteArray} {deep : Option (Nat → R T)} {n : Int} (hs : s.size ≤ 1000) (hn : 0 ≤ n ∧ n ≤ 20) (hd : Deep g s deep n) (hfw : ∀ f, deep = some f → ∀ p, p ≤ s.size → Fwd s p (f p)) : ∀ w st', Rdr w g s st' → st'.opn = n → st'.pos ≤ s.size →
    Calls Try.prog 82 #[.pointer (some ⟨g, 0, none⟩)] w (RetNode w g s (cPart s deep (n == 0) st'.pos) st') := by
  intro w st' h1 h2 h3
  subst h2
  exact part_p w g s st' h1 hs h3 hn deep hd hfw

set_option maxRecDepth 20000 in
set_option maxHeartbeats 4000000 in
theorem pattern_p (w : World) (g : Nat) (s : ByteArray) (st : St) (h : Rdr w g s st) (hs : s.size ≤ 1000) (hpos : st.pos ≤ s.size) (hopn : 0 ≤ st.opn ∧ st.opn ≤ 20) (deep : Option (Nat → R T)) (hd : Deep g s deep st.opn) (hfw : ∀ f, deep = some f → ∀ p, p ≤ s.size → Fwd s p (f p)) :
    Calls Try.prog 72 #[.pointer (some ⟨g, 0, none⟩)] w (RetNode w g s (cPat s deep (st.opn == 0) st.pos) st) := by
  have mid := Mid.start h
  have HA := Lib.hid (parts_of hs hopn hd hfw)
  have HF := Lib.hid (patStep_fwd s deep hfw (st.opn == 0))
  have hgw := h.lt
  have hgb : g ≠ w.heap.size := by omega
  have hgb' : w.heap.size ≠ g := by omega
  generalize hw0 : w.alloc (.cells #[.int .i64 0, .int .u64 0, .int .u64 0, .int .u64 0, .int .u64 0, .int .i64 0, .int .i64 0, .slice none 0 0] 75) = w0 at mid
  have HW := Lib.hid hw0
  clear hw0 hd hfw
  go_enter Try.func72, Try.ntmps72
  go_wp2_with fail
  rw [HW.out]
  clear HW
  go_wp2_with (go_at_call 82; (with_reducible refine (HA.out _ _ mid.rdr rfl hpos).mono ?_); rintro e w1 ⟨t1, k1, st1, rfl, ht1, r1, o1, hr1⟩; obtain ⟨A, tn, tc, rfl⟩ := ht1.form; unfold nodeV; have mid1 := mid.next o1 r1; have hw1 := mid1.new)
  have hrow := Row.new w1 (w.heap.size + 1) t1 (.slice A tn tc) hw1 (ht1.weak fun b hb _ => by have := mid.new; omega)
  have hgo := Lib.hid (Going.start (step := patStep s deep (st.opn == 0)) (f := fun t => [t]) hr1)
  generalize hm0 : (if st1.bad = 0 then s.size + 1 else 0) = m0 at hgo
  have hm1 : m0 ≤ s.size + 1 := by rw [← hm0]; split <;> omega
  have mid2 := mid1.alloc (.cells #[.int .i64 t1.op, .int .u64 (word t1.set 0), .int .u64 (word t1.set 1), .int .u64 (word t1.set 2), .int .u64 (word t1.set 3), .int .i64 t1.lo, .int .i64 t1.hi, (.slice A tn tc)] 75)
  generalize w1.alloc (.cells #[.int .i64 t1.op, .int .u64 (word t1.set 0), .int .u64 (word t1.set 1), .int .u64 (word t1.set 2), .int .u64 (word t1.set 3), .int .i64 t1.lo, .int .i64 t1.hi, (.slice A tn tc)] 75) = w2 at *
  clear hm0 mid mid1 r1 o1 hr1 ht1
  go_loopg [3] m0 (fun m v wr => ∃ l st2, Mid w g s st2 wr ∧ Row wr (w.heap.size + 1) v l ∧ 0 < l.length ∧ l.length + m ≤ s.size + 2 ∧ Going s (thenR (cPart s deep (st.opn == 0) st.pos) fun b p => loopR (patStep s deep (st.opn == 0)) (s.size + 1) [b] p) (patStep s deep (st.opn == 0)) st m l st2)
  case atStart => exact ⟨[t1], st1, mid2, hrow, by simp, by simp; omega, hgo.out⟩
  case round =>
    clear mid2 hrow hgo hm1
    obtain ⟨l, st2, mid, hrow, hl0, hlm, hgo⟩ := hrel
    have hp2 := hgo.pos
    have ho2 := hgo.opn
    by_cases h124 : st2.peek s = 124
    · have hb2 := (peek_pos s st2 (by omega)).1
      have hlt := (peek_pos s st2 (by omega)).2
      have hst : patStep s deep (st.opn == 0) l st2.pos = some (thenR (cPart s deep (st.opn == 0) (st2.pos + 1)) fun t p => .ok (l ++ [t], p)) := by
        unfold patStep
        rw [if_pos ((peek_isB s st2 hb2 124).1 h124)]
      have HST := Lib.hid hst
      have HGO := Lib.hid hgo
      have HO2 := Lib.hid ho2
      have HB2 := Lib.hid hb2
      have e1 : (st2.peek s == 124) = true := by simpa using h124
      have hll : l.length ≤ 100000 := by omega
      have hBw : w.heap.size + 1 ≤ wr.heap.size := mid.new
      have hp3 : st2.pos + 1 ≤ s.size := by omega
      obtain ⟨l0, l1, l2, l3, l4⟩ := mid.rdr.cell
      obtain ⟨f0, f1, f2, f3, f4⟩ := mid.rdr.frozen
      clear hst hgo ho2 hb2 h124
      go_wp2_with (first
        | (go_at_call 83; (with_reducible refine (peek_p _ g s st2 (by first | with_reducible exact mid.rdr | with_reducible exact mid.rdr.drewN _) hs).mono ?_); rintro e w3 ⟨rfl, n, rfl⟩)
        | (go_at_call 82; refine (HA.out _ _ ((mid.drewN n).setPos (st2.pos + 1)).rdr HO2.out hp3).mono ?_; rintro e w4 ⟨t, k, st4, rfl, ht4, r4, o4, hr4⟩; obtain ⟨A, tn, tc, rfl⟩ := ht4.form; unfold nodeV; have mid4 := ((mid.drewN n).setPos (st2.pos + 1)).next o4 r4; have row4 := ((hrow.drewN n).far (g := g) (by omega) (i := 1) (.int .i64 ((st2.pos + 1 : Nat) : Int))).only o4 ((mid.drewN n).setPos (st2.pos + 1)).rdr; have ht5 := kid_tree ((hrow.drewN n).far (g := g) (by omega) (i := 1) (.int .i64 ((st2.pos + 1 : Nat) : Int))) (by simpa [World.setCell] using hBw) ht4; have hw4 : w.heap.size + 1 ≤ w4.heap.size := mid4.new)
        | (at_builtin; refine wpList_push (by rfl) _ _ (by rfl) (by rfl) (row4.alloc _) (by simp; omega) hll t (.slice A tn tc) (ht5.alloc _) ⟨w4.heap.size, 0, none⟩ 1 (by rfl) (kid_cells w4 t (.slice A tn tc)) ?_; intro v6 w6 row6 o6 hB6; have mid6 := (mid4.alloc _).row o6 (fun b hb => by have := (row4.lt b hb).1; omega)))
      have hre : Rel s (thenR (cPart s deep (st.opn == 0) (st2.pos + 1)) fun t p => .ok (l ++ [t], p)) st2 (l ++ [t]) st4 := (hr4.from (st := st2) rfl rfl rfl).then (fun hz => ⟨rfl, rfl, rfl, hr4.pos⟩) fun _ hz => Rel.mk0 rfl hr4.pos (fun h => absurd hz h) fun _ => .inl ⟨hz, rfl⟩
      have HG := HGO.out.on HB2.out HST.out hre (HF.out l st2.pos _ HST.out)
      go_roundg (if st4.bad = 0 then gk - 1 else 0)
      case measure => exact HG.1
      case rel => exact ⟨l ++ [t], st4, mid6, row6, by simp, by have := HG.1; simp; omega, HG.2⟩
    · have hre := hgo.stop fun hb => by
        unfold patStep
        rw [if_neg fun h => h124 ((peek_isB s st2 hb 124).2 h)]
      have HRE : Hid (Rel s (cPat s deep (st.opn == 0) st.pos) st (T.many 3 l) st2) := by
        show Rel s (cPat s deep (st.opn == 0) st.pos) st (T.many 3 l) st2
        exact hre.then (fun hz => ⟨rfl, rfl, rfl, hp2⟩) fun _ hz => Rel.mk0 rfl hp2 (fun h => absurd hz h) fun _ => .inl ⟨hz, rfl⟩
      have e1 : (st2.peek s == 124) = false := by simpa using h124
      clear hre hgo h124
      obtain ⟨l0, l1, l2, l3, l4⟩ := mid.rdr.cell
      go_wp2_with (first
        | (go_at_call 83; (with_reducible refine (peek_p _ g s st2 (by first | with_reducible exact mid.rdr | with_reducible exact mid.rdr.drewN _) hs).mono ?_); rintro e w3 ⟨rfl, n, rfl⟩)
        | (go_at_call 84; (with_reducible refine (many_p _ _ _ _ _ (hrow.drewN _) hl0).mono ?_); rintro e w4 ⟨k, rfl, ht4, hb4⟩; obtain ⟨A, tn, tc, rfl⟩ := ht4.form; unfold nodeV; have mid4 := (mid.drewN _).below hb4; obtain ⟨m0, m1, m2, m3, m4, m5, m6, m7⟩ := mid4.box.cell; obtain ⟨y0, y1, y2, y3, y4, y5, y6, y7⟩ := mid4.box.frozen))
      refine bodyPost_ret (v := nodeV (T.many 3 l) (.slice A tn tc)) ?_ rfl (mid4.ret (ht4.weak fun b hb _ => hb) HRE.out)
      simp [nodeV, T.zero, T.op, T.set, T.lo, T.hi, word_none, results, Try.results72, go_sem, m0, m1, m2, m3, m4, m5, m6, m7]

theorem pat_p : ∀ (d : Nat), d ≤ 20 → ∀ (w : World) (g : Nat) (s : ByteArray) (st : St), Rdr w g s st → s.size ≤ 1000 → st.pos ≤ s.size → st.opn = 20 - (d : Int) →
    Calls Try.prog 72 #[.pointer (some ⟨g, 0, none⟩)] w (RetNode w g s (pat s d (st.opn == 0) st.pos) st)
  | 0, _, w, g, s, st, h, hs, hpos, ho => pattern_p w g s st h hs hpos (by omega) none (.inl ⟨rfl, by omega⟩) (fun f h => by cases h)
  | d + 1, hd, w, g, s, st, h, hs, hpos, ho => by
    refine pattern_p w g s st h hs hpos (by omega) (some (pat s d false)) (.inr ⟨_, rfl, by omega, by omega, fun w' st' h1 h2 h3 => ?_⟩) (fun f h p _ => by cases h; exact pat_fwd s d false p)
    have e : (st'.opn == 0) = false := by simp; omega
    rw [← e]
    exact pat_p d (by omega) w' g s st' h1 hs h3 (by omega)

theorem Rdr.new (w : World) (s : ByteArray) : Rdr (w.alloc (.cells #[.string s, .int .i64 0, .int .i64 0, .int .i64 0, .int .i64 0] 160)) w.heap.size s ⟨0, 0, 0, 0⟩ := heap_alloc_new w _
theorem below_new {w w0 w2 : World} {o : Obj} (h : Below w.heap.size w w0) (o2 : (w0.alloc o).grownBy w2 (some w0.heap.size)) : Below w.heap.size w w2 :=
  (h.alloc h.size o).grown o2 (Nat.le_trans h.size (by simp)) (fun j e => by injection e with e; rw [← e]; exact h.size)

/-- All eight cells are nothing. -/
def put80 (w : World) (g : Nat) : World :=
  (((((((w.setCell ⟨g, 0, none⟩ (.int .i64 0)).setCell ⟨g, 1, none⟩ (.int .u64 0)).setCell ⟨g, 2, none⟩ (.int .u64 0)).setCell ⟨g, 3, none⟩ (.int .u64 0)).setCell ⟨g, 4, none⟩ (.int .u64 0)).setCell ⟨g, 5, none⟩ (.int .i64 0)).setCell ⟨g, 6, none⟩ (.int .i64 0)).setCell ⟨g, 7, none⟩ (.slice none 0 0)
theorem put80_eq (w : World) (g : Nat) : put80 w g = put8 w g T.zero (.slice none 0 0) := by
  simp only [put80, put8, T.zero, T.op, T.set, T.lo, T.hi, word_none]

/-- What Parse tells. -/
def RetParse (w : World) (s : ByteArray) (e : Ending) (w' : World) : Prop :=
  ∃ t k bad at_, e = .returned (.tuple #[nodeV t k, .int .i64 bad, .int .i64 at_]) ∧ Tree w' (fun b => w.heap.size ≤ b) t k ∧ Below w.heap.size w w' ∧
    (match parse s with
      | .ok t' => t = t' ∧ bad = 0 ∧ at_ = 0
      | .error (c, a) => t = T.zero ∧ k = .slice none 0 0 ∧ bad = c ∧ at_ = a ∧ c ≠ 0)

set_option maxRecDepth 20000 in
set_option maxHeartbeats 2000000 in
theorem rparse_p (w : World) (s : ByteArray) (hs : s.size ≤ 9223372036854775807) : Calls Try.prog 53 #[.string s] w (RetParse w s) := by
  by_cases hl : 200 < s.size
  · have e : parse s = .error (4, 0) := by unfold parse; rw [if_pos hl]
    have HE := Lib.hid e
    clear e
    go_enter Try.func53, Try.ntmps53
    go_wp2
    refine bodyPost_ret (v := .tuple #[nodeV T.zero (.slice none 0 0), .int .i64 4, .int .i64 0]) ?_ rfl ⟨T.zero, _, 4, 0, rfl, .nil _ rfl, (Below.refl _ _).alloc (Nat.le_refl _) _, ?_⟩
    · simp [nodeV, T.zero, T.op, T.set, T.lo, T.hi, word_none, results, Try.results53, go_sem]
    · rw [HE.out]
      simp
  · have HP : Hid (∀ w g st, Rdr w g s st → st = (⟨0, 0, 0, 0⟩ : St) → Calls Try.prog 72 #[.pointer (some ⟨g, 0, none⟩)] w (RetNode w g s (pat s 20 true 0) ⟨0, 0, 0, 0⟩)) := by
      intro w g st h1 h2
      subst h2
      exact pat_p 20 (by omega) w g s ⟨0, 0, 0, 0⟩ h1 (by omega) (by simp) (by simp)
    go_enter Try.func53, Try.ntmps53
    go_upto_region 3 with fail
    have b0 := Box8.new0 w
    have hB0 : Below w.heap.size w (w.alloc (.cells #[.int .i64 0, .int .u64 0, .int .u64 0, .int .u64 0, .int .u64 0, .int .i64 0, .int .i64 0, .slice none 0 0] 75)) := (Below.refl _ _).alloc (Nat.le_refl _) _
    generalize w.alloc (.cells #[.int .i64 0, .int .u64 0, .int .u64 0, .int .u64 0, .int .u64 0, .int .i64 0, .int .i64 0, .slice none 0 0] 75) = w0 at *
    have hw0 := b0.lt
    go_wp2_with (go_at_call 72; refine (HP.out _ w0.heap.size _ (Rdr.new w0 s) rfl).mono ?_; rintro e w2 ⟨t, k, st2, rfl, ht, r2, o2, hr⟩; obtain ⟨A, tn, tc, rfl⟩ := ht.form; unfold nodeV; have b2 := (b0.alloc _).grown o2 (by simp; omega); have hB2 := below_new hB0 o2; obtain ⟨m0, m1, m2, m3, m4, m5, m6, m7⟩ := b2.cell; obtain ⟨y0, y1, y2, y3, y4, y5, y6, y7⟩ := b2.frozen; obtain ⟨k0, k1, k2, k3, k4⟩ := r2.cell; have hg2 := r2.lt; have hw2 := b2.lt; have hx1 : w.heap.size ≠ w2.heap.size := (by omega); have hx2 : w0.heap.size ≠ w2.heap.size := (by omega); have HR := Lib.hid hr; clear hr)
    · have hb : st2.bad ≠ 0 := by simpa using ‹(st2.bad != 0) = true›
      have hp : parse s = .error (st2.bad, st2.spot) := by
        unfold parse
        rw [if_neg hl]
        rcases HR.out.cases rfl with ⟨h1, _⟩ | ⟨_, h2⟩
        · exact absurd h1 hb
        · rw [h2]
      have HPP := Lib.hid hp
      have HB := Lib.hid hb
      clear hp hb
      go_region
      all_goals
        go_wp2
        have bF := (b2.put (t' := T.zero) (k' := .slice none 0 0) T.zero (.slice none 0 0)).alloc (.cells #[.int .i64 t.op, .int .u64 (word t.set 0), .int .u64 (word t.set 1), .int .u64 (word t.set 2), .int .u64 (word t.set 3), .int .i64 t.lo, .int .i64 t.hi, .slice A tn tc] 75)
        have hF := (below_put8 hB2 (Nat.le_refl _) T.zero (.slice none 0 0)).alloc (by rw [put8_size]; omega) (.cells #[.int .i64 t.op, .int .u64 (word t.set 0), .int .u64 (word t.set 1), .int .u64 (word t.set 2), .int .u64 (word t.set 3), .int .i64 t.lo, .int .i64 t.hi, .slice A tn tc] 75)
        rw [← put80_eq] at bF hF
        change bodyPost _ _ _ _ _ (World.drew ((put80 w2 w.heap.size).alloc (.cells #[.int .i64 t.op, .int .u64 (word t.set 0), .int .u64 (word t.set 1), .int .u64 (word t.set 2), .int .u64 (word t.set 3), .int .i64 t.lo, .int .i64 t.hi, .slice A tn tc] 75)))
        generalize (put80 w2 w.heap.size).alloc (.cells #[.int .i64 t.op, .int .u64 (word t.set 0), .int .u64 (word t.set 1), .int .u64 (word t.set 2), .int .u64 (word t.set 3), .int .i64 t.lo, .int .i64 t.hi, .slice A tn tc] 75) = wF at *
        obtain ⟨F0, F1, F2, F3, F4, F5, F6, F7⟩ := bF.cell
        replace hF := hF.drew
        refine bodyPost_ret (v := .tuple #[nodeV T.zero (.slice none 0 0), .int .i64 st2.bad, .int .i64 st2.spot]) ?_ rfl ⟨T.zero, _, st2.bad, st2.spot, rfl, .nil _ rfl, hF, ?_⟩
        · simp [nodeV, results, Try.results53, go_sem, F0, F1, F2, F3, F4, F5, F6, F7]
        · rw [HPP.out]
          exact ⟨rfl, rfl, rfl, rfl, HB.out⟩
    · have hb : st2.bad = 0 := by simpa using ‹(st2.bad != 0) = false›
      have hp : parse s = .ok t := by
        unfold parse
        rw [if_neg hl]
        rcases HR.out.cases rfl with ⟨_, h2⟩ | ⟨h1, _⟩
        · rw [h2]
        · exact absurd hb h1
      have bF := (b2.put (t' := t) (k' := .slice A tn tc) t (.slice A tn tc)).alloc (.cells #[.int .i64 t.op, .int .u64 (word t.set 0), .int .u64 (word t.set 1), .int .u64 (word t.set 2), .int .u64 (word t.set 3), .int .i64 t.lo, .int .i64 t.hi, .slice A tn tc] 75)
      have tF := (((ht.weak (ok' := fun b => w.heap.size ≤ b ∧ b ≠ w.heap.size) fun b hb _ => by simp at hb; omega).put8 (g' := w.heap.size) (t' := t) (k' := .slice A tn tc) fun b hb => hb.2).alloc (.cells #[.int .i64 t.op, .int .u64 (word t.set 0), .int .u64 (word t.set 1), .int .u64 (word t.set 2), .int .u64 (word t.set 3), .int .i64 t.lo, .int .i64 t.hi, .slice A tn tc] 75)).weak (ok' := fun b => w.heap.size ≤ b) fun b hb _ => hb.1
      have hF := (below_put8 hB2 (Nat.le_refl _) t (.slice A tn tc)).alloc (by rw [put8_size]; omega) (.cells #[.int .i64 t.op, .int .u64 (word t.set 0), .int .u64 (word t.set 1), .int .u64 (word t.set 2), .int .u64 (word t.set 3), .int .i64 t.lo, .int .i64 t.hi, .slice A tn tc] 75)
      change bodyPost _ _ _ _ _ ((put8 w2 w.heap.size t (.slice A tn tc)).alloc (.cells #[.int .i64 t.op, .int .u64 (word t.set 0), .int .u64 (word t.set 1), .int .u64 (word t.set 2), .int .u64 (word t.set 3), .int .i64 t.lo, .int .i64 t.hi, .slice A tn tc] 75))
      generalize (put8 w2 w.heap.size t (.slice A tn tc)).alloc (.cells #[.int .i64 t.op, .int .u64 (word t.set 0), .int .u64 (word t.set 1), .int .u64 (word t.set 2), .int .u64 (word t.set 3), .int .i64 t.lo, .int .i64 t.hi, .slice A tn tc] 75) = wF at *
      obtain ⟨F0, F1, F2, F3, F4, F5, F6, F7⟩ := bF.cell
      refine bodyPost_ret (v := .tuple #[nodeV t (.slice A tn tc), .int .i64 0, .int .i64 0]) ?_ rfl ⟨t, _, 0, 0, rfl, tF, hF, ?_⟩
      · simp [nodeV, results, Try.results53, go_sem, F0, F1, F2, F3, F4, F5, F6, F7]
      · rw [hp]
        exact ⟨rfl, rfl, rfl⟩

end Go.Proofs.Ytnkopcmkanibhaa

/-
  The laws' own Pattern. Contracts for other texts; no statement of its own.
-/
namespace Go.Proofs.Ytnkopcmkanibhaa
open Go Go.RowKit
attribute [local go_sem ↓] Go.wp_at_zero Go.wp_at_succ

/-- What Pattern tells: a pattern as the grammar makes it, or none. -/
def RetPattern (w : World) (s : ByteArray) (e : Ending) (w' : World) : Prop :=
  ∃ t k ok, e = .returned (.tuple #[nodeV t k, .int .i64 ok]) ∧ Tree w' (fun b => w.heap.size ≤ b) t k ∧ Below w.heap.size w w' ∧
    ((ok = 1 ∧ parse s = .ok t ∧ WF t ∧ plN t ≤ 60) ∨ (ok = 0 ∧ t = T.zero ∧ k = .slice none 0 0 ∧ ∀ t', parse s = .ok t' → ¬ plN t' ≤ 60))

set_option maxRecDepth 20000 in
set_option maxHeartbeats 2000000 in
theorem pattern0_p (w : World) (s : ByteArray) (hs : s.size ≤ 9223372036854775807) : Calls Try.prog 32 #[.string s] w (RetPattern w s) := by
  have HR := Lib.hid (fun w => rparse_p w s hs)
  unfold RetParse at HR
  have b0 := Box8.new0 w
  have hB0 : Below w.heap.size w (w.alloc (.cells #[.int .i64 0, .int .u64 0, .int .u64 0, .int .u64 0, .int .u64 0, .int .i64 0, .int .i64 0, .slice none 0 0] 75)) := (Below.refl _ _).alloc (Nat.le_refl _) _
  have hw0 := b0.lt
  cases hp : parse s with
  | error x =>
    obtain ⟨cc, aa⟩ := x
    simp only [hp] at HR
    have HP := Lib.hid hp
    clear hp
    go_enter Try.func32, Try.ntmps32
    go_wp2_with (go_at_call 53; (with_reducible refine (HR.out _).mono ?_); rintro e w3 ⟨t', k', bad, at_, rfl, ht', hb3, a1, a2, a3, a4, a5⟩; subst a1 a2 a3 a4; have a6 : (bad != 0) = true := (by simpa using a5); clear a5 ht'; unfold nodeV; have b3 := b0.stays hb3; have hl3 := b3.lt; obtain ⟨f0, f1, f2, f3, f4, f5, f6, f7⟩ := b3.frozen; obtain ⟨r0, r1, r2, r3, r4, r5, r6, r7⟩ := b3.cell)
    have hB3 := gro1 (Below.refl _ _) hb3
    have bF := (b3.put (t' := T.zero) (k' := .slice none 0 0) T.zero (.slice none 0 0)).alloc (.cells #[.int .i64 (T.zero).op, .int .u64 (word (T.zero).set 0), .int .u64 (word (T.zero).set 1), .int .u64 (word (T.zero).set 2), .int .u64 (word (T.zero).set 3), .int .i64 (T.zero).lo, .int .i64 (T.zero).hi, .slice none 0 0] 75)
    have hF := (below_put8 hB3 (Nat.le_refl w.heap.size) T.zero (.slice none 0 0)).alloc (by rw [put8_size]; omega) (.cells #[.int .i64 (T.zero).op, .int .u64 (word (T.zero).set 0), .int .u64 (word (T.zero).set 1), .int .u64 (word (T.zero).set 2), .int .u64 (word (T.zero).set 3), .int .i64 (T.zero).lo, .int .i64 (T.zero).hi, .slice none 0 0] 75)
    rw [← put80_eq] at bF hF
    change bodyPost _ _ _ _ _ ((put80 w3 w.heap.size).alloc (.cells #[.int .i64 (T.zero).op, .int .u64 (word (T.zero).set 0), .int .u64 (word (T.zero).set 1), .int .u64 (word (T.zero).set 2), .int .u64 (word (T.zero).set 3), .int .i64 (T.zero).lo, .int .i64 (T.zero).hi, .slice none 0 0] 75))
    generalize (put80 w3 w.heap.size).alloc (.cells #[.int .i64 (T.zero).op, .int .u64 (word (T.zero).set 0), .int .u64 (word (T.zero).set 1), .int .u64 (word (T.zero).set 2), .int .u64 (word (T.zero).set 3), .int .i64 (T.zero).lo, .int .i64 (T.zero).hi, .slice none 0 0] 75) = wF at *
    obtain ⟨F0, F1, F2, F3, F4, F5, F6, F7⟩ := bF.cell
    refine bodyPost_ret (v := .tuple #[nodeV T.zero (.slice none 0 0), .int .i64 0]) ?_ rfl ⟨T.zero, _, 0, rfl, .nil _ rfl, hF, .inr ⟨rfl, rfl, rfl, fun t' e => ?_⟩⟩
    · simp [nodeV, results, Try.results32, go_sem, F0, F1, F2, F3, F4, F5, F6, F7]
    · rw [HP.out] at e; cases e
  | ok t =>
    simp only [hp] at HR
    have hwf := wf_parse hp
    have HP := Lib.hid hp
    have HWF := Lib.hid hwf
    clear hp hwf
    by_cases hpl : plN t ≤ 60
    · have HPL : Hid (∀ W k ok, Tree W ok t k → Calls Try.prog 54 #[nodeP t k] W fun e w' => ∃ n : Nat, e = .returned (.int .i64 n) ∧ n ≤ 60 ∧ Below W.heap.size W w') := fun W k ok ht => (places_p W HWF.out ht).mono fun e w' h => ⟨plN t, h.1, hpl, h.2⟩
      unfold nodeP at HPL
      have HPL2 := Lib.hid hpl
      clear hpl
      go_enter Try.func32, Try.ntmps32
      go_wp2_with (first
        | (go_at_call 53; (with_reducible refine (HR.out _).mono ?_); rintro e w3 ⟨t', k', bad, at_, rfl, ht', hb3, a1, a2, a3⟩; have a1' := a1.symm; subst a1' a2 a3; obtain ⟨A, tn, tc, rfl⟩ := ht'.form; unfold nodeV; have ht3 := ht'.alloc (.cells #[.int .i64 (t).op, .int .u64 (word (t).set 0), .int .u64 (word (t).set 1), .int .u64 (word (t).set 2), .int .u64 (word (t).set 3), .int .i64 (t).lo, .int .i64 (t).hi, .slice A tn tc] 75); have hb3' := (gro1 (Below.refl _ _) hb3).alloc (gro1 (Below.refl _ _) hb3).size (.cells #[.int .i64 (t).op, .int .u64 (word (t).set 0), .int .u64 (word (t).set 1), .int .u64 (word (t).set 2), .int .u64 (word (t).set 3), .int .i64 (t).lo, .int .i64 (t).hi, .slice A tn tc] 75); have b3 := b0.stays hb3; have hl3 := b3.lt)
        | (go_at_call 54; (with_reducible refine (HPL.out _ _ _ ht3).mono ?_); rintro e w4 ⟨pn, rfl, hpn, hb4⟩; have ht4 := ht3.stays hb4; have b4 := (b3.alloc _).stays hb4; have x4 := (Box8.new w3 t (.slice A tn tc)).stays hb4; obtain ⟨f0, f1, f2, f3, f4, f5, f6, f7⟩ := b4.frozen; obtain ⟨r0, r1, r2, r3, r4, r5, r6, r7⟩ := b4.cell; obtain ⟨x0, x1, x2, x3, x40, x5, x6, x7⟩ := x4.cell))
      have hB4 := gro hb3' hb4
      have bF := b4.put (t' := t) (k' := .slice A tn tc) t (.slice A tn tc)
      have tF := ((ht4.weak (ok' := fun b => w.heap.size ≤ b ∧ b ≠ w.heap.size) fun b hb _ => by simp at hb; omega).put8 (g' := w.heap.size) (t' := t) (k' := .slice A tn tc) fun b hb => hb.2).weak (ok' := fun b => w.heap.size ≤ b) fun b hb _ => hb.1
      have hF := below_put8 hB4 (Nat.le_refl w.heap.size) t (.slice A tn tc)
      change bodyPost _ _ _ _ _ (put8 w4 w.heap.size t (.slice A tn tc))
      generalize put8 w4 w.heap.size t (.slice A tn tc) = wF at *
      obtain ⟨F0, F1, F2, F3, F4, F5, F6, F7⟩ := bF.cell
      refine bodyPost_ret (v := .tuple #[nodeV t (.slice A tn tc), .int .i64 1]) ?_ rfl ⟨t, _, 1, rfl, tF, hF, .inl ⟨rfl, HP.out, HWF.out, HPL2.out⟩⟩
      simp [nodeV, results, Try.results32, go_sem, F0, F1, F2, F3, F4, F5, F6, F7]
    · have HPL : Hid (∀ W k ok, Tree W ok t k → Calls Try.prog 54 #[nodeP t k] W fun e w' => ∃ n : Nat, e = .returned (.int .i64 n) ∧ 60 < n ∧ Below W.heap.size W w') := fun W k ok ht => (places_p W HWF.out ht).mono fun e w' h => ⟨plN t, h.1, by omega, h.2⟩
      unfold nodeP at HPL
      have HPL2 := Lib.hid hpl
      clear hpl
      go_enter Try.func32, Try.ntmps32
      go_wp2_with (first
        | (go_at_call 53; (with_reducible refine (HR.out _).mono ?_); rintro e w3 ⟨t', k', bad, at_, rfl, ht', hb3, a1, a2, a3⟩; have a1' := a1.symm; subst a1' a2 a3; obtain ⟨A, tn, tc, rfl⟩ := ht'.form; unfold nodeV; have ht3 := ht'.alloc (.cells #[.int .i64 (t).op, .int .u64 (word (t).set 0), .int .u64 (word (t).set 1), .int .u64 (word (t).set 2), .int .u64 (word (t).set 3), .int .i64 (t).lo, .int .i64 (t).hi, .slice A tn tc] 75); have hb3' := (gro1 (Below.refl _ _) hb3).alloc (gro1 (Below.refl _ _) hb3).size (.cells #[.int .i64 (t).op, .int .u64 (word (t).set 0), .int .u64 (word (t).set 1), .int .u64 (word (t).set 2), .int .u64 (word (t).set 3), .int .i64 (t).lo, .int .i64 (t).hi, .slice A tn tc] 75); have b3 := b0.stays hb3; have hl3 := b3.lt)
        | (go_at_call 54; (with_reducible refine (HPL.out _ _ _ ht3).mono ?_); rintro e w4 ⟨pn, rfl, hpn, hb4⟩; have ht4 := ht3.stays hb4; have b4 := (b3.alloc _).stays hb4; have x4 := (Box8.new w3 t (.slice A tn tc)).stays hb4; obtain ⟨f0, f1, f2, f3, f4, f5, f6, f7⟩ := b4.frozen; obtain ⟨r0, r1, r2, r3, r4, r5, r6, r7⟩ := b4.cell; obtain ⟨x0, x1, x2, x3, x40, x5, x6, x7⟩ := x4.cell))
      have hB4 := gro hb3' hb4
      have bF := b4.put (t' := T.zero) (k' := .slice none 0 0) T.zero (.slice none 0 0)
      have hF := below_put8 hB4 (Nat.le_refl w.heap.size) T.zero (.slice none 0 0)
      rw [← put80_eq] at bF hF
      change bodyPost _ _ _ _ _ (put80 w4 w.heap.size)
      generalize put80 w4 w.heap.size = wF at *
      obtain ⟨F0, F1, F2, F3, F4, F5, F6, F7⟩ := bF.cell
      refine bodyPost_ret (v := .tuple #[nodeV T.zero (.slice none 0 0), .int .i64 0]) ?_ rfl ⟨T.zero, _, 0, rfl, .nil _ rfl, hF, .inr ⟨rfl, rfl, rfl, fun t' e => ?_⟩⟩
      · simp [nodeV, results, Try.results32, go_sem, F0, F1, F2, F3, F4, F5, F6, F7]
      · rw [HP.out] at e
        injection e with e
        rw [← e]
        exact HPL2.out

end Go.Proofs.Ytnkopcmkanibhaa

/-
  The laws' own Pattern, told or not; bytes that were just laid. Contracts for other texts; no statement of its own.
-/
namespace Go.Proofs.Ytnkopcmkanibhaa
open Go Go.RowKit

theorem cell_mark (w : World) (C : Array Value) (ty : TypeId) (fr : Nat × Nat) (k : Nat) : (w.alloc (.cells C ty fr)).cell? ⟨w.heap.size, k, none⟩ = C[k]? := by
  have h := World.alloc_heap_new w (.cells C ty fr)
  unfold World.cell?
  dsimp only
  rw [h]
  rfl
theorem rd_mark2 (w : World) (g : Nat) (hg : g = w.heap.size) (v u : Int) (fr : Nat × Nat) : RdB (w.alloc (.cells #[.int .u8 v, .int .u8 u] 5 fr)) (w.alloc (.cells #[.int .u8 v, .int .u8 u] 5 fr)).heap.size (some ⟨g, 0, none⟩) [v, u] := by
  subst hg
  intro k hk
  refine ⟨w.heap.size, 0, rfl, by simp, ?_⟩
  rw [cell_mark]
  simp at hk
  match k, hk with
  | 0, _ => rfl
  | 1, _ => rfl
theorem rd_mark1 (w : World) (g : Nat) (hg : g = w.heap.size) (v : Int) (fr : Nat × Nat) : RdB (w.alloc (.cells #[.int .u8 v] 5 fr)) (w.alloc (.cells #[.int .u8 v] 5 fr)).heap.size (some ⟨g, 0, none⟩) [v] := by
  subst hg
  intro k hk
  refine ⟨w.heap.size, 0, rfl, by simp, ?_⟩
  rw [cell_mark]
  have hk0 : k = 0 := by have h1 : k < 1 := hk; omega
  subst hk0
  rfl
theorem pattern_ok {w : World} {s : ByteArray} {t : T} (hs : s.size ≤ 9223372036854775807) (hp : parse s = .ok t) (hpl : plN t ≤ 60) : Calls Try.prog 32 #[.string s] w fun e w' => ∃ A n c, e = .returned (.tuple #[nodeV t (.slice A n c), .int .i64 1]) ∧ Tree w' (fun b => w.heap.size ≤ b) t (.slice A n c) ∧ Below w.heap.size w w' := by
  refine (pattern0_p w s hs).mono fun e w' h => ?_
  obtain ⟨t', k, ok, rfl, ht, hb, h⟩ := h
  rcases h with ⟨rfl, h1, h2, h3⟩ | ⟨rfl, h1, h2, h3⟩
  · rw [hp] at h1
    injection h1 with h1
    subst h1
    obtain ⟨A, n, c, rfl⟩ := ht.form
    exact ⟨A, n, c, rfl, ht, hb⟩
  · exact absurd hpl (h3 t hp)
theorem pattern_no {w : World} {s : ByteArray} (hs : s.size ≤ 9223372036854775807) (hp : ¬ ∃ t, parse s = .ok t ∧ plN t ≤ 60) : Calls Try.prog 32 #[.string s] w fun e w' => e = .returned (.tuple #[nodeV T.zero (.slice none 0 0), .int .i64 0]) ∧ Below w.heap.size w w' := by
  refine (pattern0_p w s hs).mono fun e w' h => ?_
  obtain ⟨t', k, ok, rfl, ht, hb, h⟩ := h
  rcases h with ⟨rfl, h1, h2, h3⟩ | ⟨rfl, rfl, rfl, h3⟩
  · exact absurd ⟨t', h1, h3⟩ hp
  · exact ⟨rfl, hb⟩
end Go.Proofs.Ytnkopcmkanibhaa
