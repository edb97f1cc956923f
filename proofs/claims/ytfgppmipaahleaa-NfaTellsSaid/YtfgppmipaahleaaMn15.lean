/-
  Several texts of this proof in one file: RefPart, RefPat, Pattern0, PatOk, Law4, NfaFlat. No statement of its own.
-/
import Derived.Test.YtfgppmipaahleaaMn14
import Derived.Test.YtfgppmipaahleaaMn9
import Derived.Lib.BufferMore
import Derived.RangeFuncRecord
import Derived.Test.YtfgppmipaahleaaMn10
import Derived.Lib.SlBytesConst
import Derived.Test.YtfgppmipaahleaaMn4
set_option linter.unusedVariables false
set_option linter.unusedSimpArgs false

/-
  The document's own reader of patterns: part: what it does, held against the grammar. Contracts for other texts; no statement of its own.
-/
namespace Go.Proofs.Ytfgppmipaahleaa
open Go Go.RowKit
attribute [local go_sem ↓] Go.wp_at_zero Go.wp_at_succ

section
variable {w wx wy : World} {g : Nat} {s : ByteArray} {st : St} {B : Nat} {v : Value} {l : List T}
theorem Row.lt (h : Row w B v l) : ∀ b, v.ownBlock = some b → B ≤ b ∧ b < w.heap.size := by
  obtain ⟨ks, h1, h2, h3⟩ := h
  exact h2.lt
theorem Mid.row {row : Option Nat} (h : Mid w g s st wx) (hg : wx.grownBy wy row) (hr : ∀ b, row = some b → w.heap.size < b) : Mid w g s st wy := by
  have hlt := h.lt
  refine ⟨h.lt, ?_, h.box.grown hg fun e => by have := hr _ e.symm; omega, ⟨hg.os.trans h.only.os, hg.tape.trans h.only.tape, hg.output.trans h.only.output, Nat.le_trans h.only.size hg.size, fun b hb hne => (hg.block b (Nat.lt_of_lt_of_le hb h.only.size) fun e => by have := hr _ e.symm; omega).trans (h.only.block b hb hne)⟩⟩
  have hb := hg.block g h.rdr.lt fun e => by have := hr _ e.symm; omega
  exact hb.trans h.rdr
/-- A new kid's cells. -/
theorem kid_cells (w : World) (t : T) (k : Value) : ∀ (j : Nat) u, (nodeC t k)[j]? = some u → (w.alloc (.cells #[.int .i64 t.op, .int .u64 (word t.set 0), .int .u64 (word t.set 1), .int .u64 (word t.set 2), .int .u64 (word t.set 3), .int .i64 t.lo, .int .i64 t.hi, k] 29)).cell? ((⟨w.heap.size, 0, none⟩ : Addr).add j) = some u := by
  intro j u hu
  have hj : j < 8 := by
    have := List.getElem?_eq_some_iff.1 hu
    simpa [nodeC] using this.1
  have hadd : (⟨w.heap.size, 0, none⟩ : Addr).add j = ⟨w.heap.size, j, none⟩ := by unfold Addr.add; split <;> simp_all
  rw [hadd, cell_of_row _ _ j _ 29 (0, 0) (heap_alloc_new w _), ← hu]
  simp [nodeC]
/-- A kid that was read behind the row. -/
theorem kid_tree {t : T} {k : Value} (hrow : Row wx B v l) (hB : B ≤ wx.heap.size) (ht : Tree w (fun b => wx.heap.size ≤ b) t k) : Tree w (fun b => B ≤ b ∧ some b ≠ v.ownBlock) t k :=
  ht.weak fun b hb _ => ⟨by omega, fun e => by have := hrow.lt b e.symm; omega⟩
end

/-- What a piece tells, wherever the reader is. -/
def Pieces (g : Nat) (s : ByteArray) (deep : Option (Nat → R T)) (n : Int) : Prop := ∀ w st', Rdr w g s st' → st'.opn = n → st'.pos ≤ s.size →
  Calls Try.prog 64 #[.pointer (some ⟨g, 0, none⟩)] w (RetNode w g s (cPiece s deep st'.pos) st')
theorem pieces_of {g : Nat} {s : ByteArray} {deep : Option (Nat → R T)} {n : Int} (hs : s.size ≤ 1000) (hd : Deep g s deep n) : Pieces g s deep n :=
  fun w st' h1 h2 h3 => piece_p w g s st' h1 hs h3 deep (h2 ▸ hd)

set_option maxRecDepth 20000 in
set_option maxHeartbeats 4000000 in
theorem part_p (w : World) (g : Nat) (s : ByteArray) (st : St) (h : Rdr w g s st) (hs : s.size ≤ 1000) (hpos : st.pos ≤ s.size) (hopn : 0 ≤ st.opn ∧ st.opn ≤ 20) (deep : Option (Nat → R T)) (hd : Deep g s deep st.opn) (hfw : ∀ f, deep = some f → ∀ p, p ≤ s.size → Fwd s p (f p)) :
    Calls Try.prog 49 #[.pointer (some ⟨g, 0, none⟩)] w (RetNode w g s (cPart s deep (st.opn == 0) st.pos) st) := by
  have mid := Mid.start h
  have HA := pieces_of hs hd
  unfold Pieces at HA
  replace HA := Lib.hid HA
  have HF := Lib.hid (partStep_fwd s deep hfw (st.opn == 0))
  have hgw := h.lt
  have hgb : g ≠ w.heap.size := by omega
  have hgb' : w.heap.size ≠ g := by omega
  generalize hw0 : w.alloc (.cells #[.int .i64 0, .int .u64 0, .int .u64 0, .int .u64 0, .int .u64 0, .int .i64 0, .int .i64 0, .slice none 0 0] 29) = w0 at mid
  have HW := Lib.hid hw0
  clear hw0 hd hfw
  go_enter Try.func49, Try.ntmps49
  go_wp2_with fail
  rw [HW.out]
  clear HW
  go_wp2_with (go_at_call 64; (with_reducible refine (HA.out _ _ mid.rdr rfl hpos).mono ?_); rintro e w1 ⟨t1, k1, st1, rfl, ht1, r1, o1, hr1⟩; obtain ⟨A, tn, tc, rfl⟩ := ht1.form; unfold nodeV; have mid1 := mid.next o1 r1; have hw1 := mid1.new)
  have hrow := Row.new w1 (w.heap.size + 1) t1 (.slice A tn tc) hw1 (ht1.weak fun b hb _ => by have := mid.new; omega)
  have hgo := Lib.hid (Going.start (step := partStep s deep (st.opn == 0)) (f := fun t => [t]) hr1)
  generalize hm0 : (if st1.bad = 0 then s.size + 1 else 0) = m0 at hgo
  have hm1 : m0 ≤ s.size + 1 := by rw [← hm0]; split <;> omega
  have mid2 := mid1.alloc (.cells #[.int .i64 t1.op, .int .u64 (word t1.set 0), .int .u64 (word t1.set 1), .int .u64 (word t1.set 2), .int .u64 (word t1.set 3), .int .i64 t1.lo, .int .i64 t1.hi, (.slice A tn tc)] 29)
  generalize w1.alloc (.cells #[.int .i64 t1.op, .int .u64 (word t1.set 0), .int .u64 (word t1.set 1), .int .u64 (word t1.set 2), .int .u64 (word t1.set 3), .int .i64 t1.lo, .int .i64 t1.hi, (.slice A tn tc)] 29) = w2 at *
  clear hm0 mid mid1 r1 o1 hr1 ht1
  go_loopg [3] m0 (fun m v wr => ∃ l st2, Mid w g s st2 wr ∧ Row wr (w.heap.size + 1) v l ∧ 0 < l.length ∧ l.length + m ≤ s.size + 2 ∧ Going s (thenR (cPiece s deep st.pos) fun b p => loopR (partStep s deep (st.opn == 0)) (s.size + 1) [b] p) (partStep s deep (st.opn == 0)) st m l st2)
  case atStart => exact ⟨[t1], st1, mid2, hrow, by simp, by simp; omega, hgo.out⟩
  case round =>
    clear mid2 hrow hgo hm1
    obtain ⟨l, st2, mid, hrow, hl0, hlm, hgo⟩ := hrel
    have hp2 := hgo.pos
    have ho2 := hgo.opn
    by_cases hgoes : 0 ≤ st2.peek s ∧ st2.peek s ≠ 124 ∧ (st2.peek s ≠ 41 ∨ st2.opn = 0)
    · obtain ⟨h1, h2, h3⟩ := hgoes
      have hb2 := (peek_pos s st2 h1).1
      have hlt := (peek_pos s st2 h1).2
      have hpk := peek_ok s st2 hb2 hlt
      have hst : partStep s deep (st.opn == 0) l st2.pos = some (thenR (cPiece s deep st2.pos) fun t p => .ok (l ++ [t], p)) := by
        unfold partStep
        rw [if_pos ⟨hlt, by omega, by rcases h3 with h3 | h3; exact .inl (by omega); exact .inr (by simpa [ho2] using h3)⟩]
      have HST := Lib.hid hst
      have HGO := Lib.hid hgo
      have HO2 := Lib.hid ho2
      have HB2 := Lib.hid hb2
      have e1 : decide (0 ≤ st2.peek s) = true := by simpa using h1
      have e2 : (st2.peek s != 124) = true := by simpa using h2
      have hll : l.length ≤ 100000 := by omega
      have hBw : w.heap.size + 1 ≤ wr.heap.size := mid.new
      obtain ⟨l0, l1, l2, l3, l4⟩ := mid.rdr.cell
      clear hst hgo ho2 hb2 hpk h2
      by_cases h41 : st2.peek s = 41
      · have e3 : (st2.peek s != 41) = false := by simpa using h41
        have e4 : (st2.opn == 0) = true := by simpa using h3.resolve_left (fun h => h h41)
        clear h3 h41
        go_wp2_with (first
          | (go_at_call 50; (with_reducible refine (peek_p _ g s st2 (by first | with_reducible exact mid.rdr | with_reducible exact mid.rdr.drewN _) hs).mono ?_); rintro e w3 ⟨rfl, n, rfl⟩)
          | (go_at_call 64; (with_reducible refine (HA.out _ _ (mid.rdr.drewN _) HO2.out hp2).mono ?_); rintro e w4 ⟨t, k, st4, rfl, ht4, r4, o4, hr4⟩; obtain ⟨A, tn, tc, rfl⟩ := ht4.form; unfold nodeV; have mid4 := (mid.drewN _).next o4 r4; have row4 := (hrow.drewN _).only o4 (mid.rdr.drewN _); have ht5 := kid_tree (hrow.drewN _) hBw ht4; have hw4 : w.heap.size + 1 ≤ w4.heap.size := mid4.new)
          | (at_builtin; refine wpList_push (by rfl) _ _ (by rfl) (by rfl) (row4.alloc _) (by simp; omega) hll t (.slice A tn tc) (ht5.alloc _) ⟨w4.heap.size, 0, none⟩ 1 (by rfl) (kid_cells w4 t (.slice A tn tc)) ?_; intro v6 w6 row6 o6 hB6; have mid6 := (mid4.alloc _).row o6 (fun b hb => by have := (row4.lt b hb).1; omega)))
        have hre : Rel s (thenR (cPiece s deep st2.pos) fun t p => .ok (l ++ [t], p)) st2 (l ++ [t]) st4 := hr4.then (fun hz => ⟨rfl, rfl, rfl, hr4.pos⟩) fun _ hz => Rel.mk0 rfl hr4.pos (fun h => absurd hz h) fun _ => .inl ⟨hz, rfl⟩
        have HG := HGO.out.on HB2.out HST.out hre (HF.out l st2.pos _ HST.out)
        go_roundg (if st4.bad = 0 then gk - 1 else 0)
        case measure => exact HG.1
        case rel => exact ⟨l ++ [t], st4, mid6, row6, by simp, by have := HG.1; simp; omega, HG.2⟩
      · have e3 : (st2.peek s != 41) = true := by simpa using h41
        clear h3 h41
        go_wp2_with (first
          | (go_at_call 50; (with_reducible refine (peek_p _ g s st2 (by first | with_reducible exact mid.rdr | with_reducible exact mid.rdr.drewN _) hs).mono ?_); rintro e w3 ⟨rfl, n, rfl⟩)
          | (go_at_call 64; (with_reducible refine (HA.out _ _ (mid.rdr.drewN _) HO2.out hp2).mono ?_); rintro e w4 ⟨t, k, st4, rfl, ht4, r4, o4, hr4⟩; obtain ⟨A, tn, tc, rfl⟩ := ht4.form; unfold nodeV; have mid4 := (mid.drewN _).next o4 r4; have row4 := (hrow.drewN _).only o4 (mid.rdr.drewN _); have ht5 := kid_tree (hrow.drewN _) hBw ht4; have hw4 : w.heap.size + 1 ≤ w4.heap.size := mid4.new)
          | (at_builtin; refine wpList_push (by rfl) _ _ (by rfl) (by rfl) (row4.alloc _) (by simp; omega) hll t (.slice A tn tc) (ht5.alloc _) ⟨w4.heap.size, 0, none⟩ 1 (by rfl) (kid_cells w4 t (.slice A tn tc)) ?_; intro v6 w6 row6 o6 hB6; have mid6 := (mid4.alloc _).row o6 (fun b hb => by have := (row4.lt b hb).1; omega)))
        have hre : Rel s (thenR (cPiece s deep st2.pos) fun t p => .ok (l ++ [t], p)) st2 (l ++ [t]) st4 := hr4.then (fun hz => ⟨rfl, rfl, rfl, hr4.pos⟩) fun _ hz => Rel.mk0 rfl hr4.pos (fun h => absurd hz h) fun _ => .inl ⟨hz, rfl⟩
        have HG := HGO.out.on HB2.out HST.out hre (HF.out l st2.pos _ HST.out)
        go_roundg (if st4.bad = 0 then gk - 1 else 0)
        case measure => exact HG.1
        case rel => exact ⟨l ++ [t], st4, mid6, row6, by simp, by have := HG.1; simp; omega, HG.2⟩
    · have hre := hgo.stop fun hb => by
        unfold partStep
        rw [if_neg]
        rintro ⟨h1, h2, h3⟩
        have := peek_ok s st2 hb h1
        exact hgoes ⟨by omega, by omega, by rcases h3 with h3 | h3; exact .inl (by omega); exact .inr (by rw [ho2]; simpa using h3)⟩
      have HRE : Hid (Rel s (cPart s deep (st.opn == 0) st.pos) st (T.many 2 l) st2) := by
        show Rel s (cPart s deep (st.opn == 0) st.pos) st (T.many 2 l) st2
        exact hre.then (fun hz => ⟨rfl, rfl, rfl, hp2⟩) fun _ hz => Rel.mk0 rfl hp2 (fun h => absurd hz h) fun _ => .inl ⟨hz, rfl⟩
      clear hre hgo
      have hbd := peek_bd s st2
      rcases (show st2.peek s < 0 ∨ (0 ≤ st2.peek s ∧ st2.peek s = 124) ∨ (0 ≤ st2.peek s ∧ st2.peek s = 41 ∧ st2.opn ≠ 0) by omega) with h1 | ⟨h1, h2⟩ | ⟨h1, h2, h3⟩
      · have e1 : decide (0 ≤ st2.peek s) = false := by simp; omega
        clear hgoes
        obtain ⟨l0, l1, l2, l3, l4⟩ := mid.rdr.cell
        go_wp2_with (first
          | (go_at_call 50; (with_reducible refine (peek_p _ g s st2 (by first | with_reducible exact mid.rdr | with_reducible exact mid.rdr.drewN _) hs).mono ?_); rintro e w3 ⟨rfl, n, rfl⟩)
          | (go_at_call 51; (with_reducible refine (many_p _ _ _ _ _ (hrow.drewN _) hl0).mono ?_); rintro e w4 ⟨k, rfl, ht4, hb4⟩; obtain ⟨A, tn, tc, rfl⟩ := ht4.form; unfold nodeV; have mid4 := (mid.drewN _).below hb4; obtain ⟨m0, m1, m2, m3, m4, m5, m6, m7⟩ := mid4.box.cell; obtain ⟨y0, y1, y2, y3, y4, y5, y6, y7⟩ := mid4.box.frozen))
        refine bodyPost_ret (v := nodeV (T.many 2 l) (.slice A tn tc)) ?_ rfl (mid4.ret (ht4.weak fun b hb _ => hb) HRE.out)
        simp [nodeV, T.zero, T.op, T.set, T.lo, T.hi, word_none, results, Try.results49, go_sem, m0, m1, m2, m3, m4, m5, m6, m7]
      · have e2 : (st2.peek s != 124) = false := by simpa using h2
        have e1 : decide (0 ≤ st2.peek s) = true := by simpa using h1
        clear hgoes h2
        obtain ⟨l0, l1, l2, l3, l4⟩ := mid.rdr.cell
        go_wp2_with (first
          | (go_at_call 50; (with_reducible refine (peek_p _ g s st2 (by first | with_reducible exact mid.rdr | with_reducible exact mid.rdr.drewN _) hs).mono ?_); rintro e w3 ⟨rfl, n, rfl⟩)
          | (go_at_call 51; (with_reducible refine (many_p _ _ _ _ _ (hrow.drewN _) hl0).mono ?_); rintro e w4 ⟨k, rfl, ht4, hb4⟩; obtain ⟨A, tn, tc, rfl⟩ := ht4.form; unfold nodeV; have mid4 := (mid.drewN _).below hb4; obtain ⟨m0, m1, m2, m3, m4, m5, m6, m7⟩ := mid4.box.cell; obtain ⟨y0, y1, y2, y3, y4, y5, y6, y7⟩ := mid4.box.frozen))
        refine bodyPost_ret (v := nodeV (T.many 2 l) (.slice A tn tc)) ?_ rfl (mid4.ret (ht4.weak fun b hb _ => hb) HRE.out)
        simp [nodeV, T.zero, T.op, T.set, T.lo, T.hi, word_none, results, Try.results49, go_sem, m0, m1, m2, m3, m4, m5, m6, m7]
      · have e2 : (st2.peek s != 124) = true := by simp; omega
        have e1 : decide (0 ≤ st2.peek s) = true := by simpa using h1
        have e3 : (st2.peek s != 41) = false := by simpa using h2
        have e4 : (st2.opn == 0) = false := by simpa using h3
        clear hgoes h2 h3 ho2
        obtain ⟨l0, l1, l2, l3, l4⟩ := mid.rdr.cell
        go_wp2_with (first
          | (go_at_call 50; (with_reducible refine (peek_p _ g s st2 (by first | with_reducible exact mid.rdr | with_reducible exact mid.rdr.drewN _) hs).mono ?_); rintro e w3 ⟨rfl, n, rfl⟩)
          | (go_at_call 51; (with_reducible refine (many_p _ _ _ _ _ (hrow.drewN _) hl0).mono ?_); rintro e w4 ⟨k, rfl, ht4, hb4⟩; obtain ⟨A, tn, tc, rfl⟩ := ht4.form; unfold nodeV; have mid4 := (mid.drewN _).below hb4; obtain ⟨m0, m1, m2, m3, m4, m5, m6, m7⟩ := mid4.box.cell; obtain ⟨y0, y1, y2, y3, y4, y5, y6, y7⟩ := mid4.box.frozen))
        refine bodyPost_ret (v := nodeV (T.many 2 l) (.slice A tn tc)) ?_ rfl (mid4.ret (ht4.weak fun b hb _ => hb) HRE.out)
        simp [nodeV, T.zero, T.op, T.set, T.lo, T.hi, word_none, results, Try.results49, go_sem, m0, m1, m2, m3, m4, m5, m6, m7]

end Go.Proofs.Ytfgppmipaahleaa

/-
  The document's own reader of patterns: pattern, Parse: what they do, held against the grammar. Contracts for other texts; no statement of its own.
-/
namespace Go.Proofs.Ytfgppmipaahleaa
open Go Go.RowKit
attribute [local go_sem ↓] Go.wp_at_zero Go.wp_at_succ

/-- What a part tells, wherever the reader is. -/
theorem parts_of {g : Nat} {s : ByteArray} {deep : Option (Nat → R T)} {n : Int} (hs : s.size ≤ 1000) (hn : 0 ≤ n ∧ n ≤ 20) (hd : Deep g s deep n) (hfw : ∀ f, deep = some f → ∀ p, p ≤ s.size → Fwd s p (f p)) : ∀ w st', Rdr w g s st' → st'.opn = n → st'.pos ≤ s.size →
    Calls Try.prog 49 #[.pointer (some ⟨g, 0, none⟩)] w (RetNode w g s (cPart s deep (n == 0) st'.pos) st') := by
  intro w st' h1 h2 h3
  subst h2
  exact part_p w g s st' h1 hs h3 hn deep hd hfw

set_option maxRecDepth 20000 in
set_option maxHeartbeats 4000000 in
theorem pattern_p (w : World) (g : Nat) (s : ByteArray) (st : St) (h : Rdr w g s st) (hs : s.size ≤ 1000) (hpos : st.pos ≤ s.size) (hopn : 0 ≤ st.opn ∧ st.opn ≤ 20) (deep : Option (Nat → R T)) (hd : Deep g s deep st.opn) (hfw : ∀ f, deep = some f → ∀ p, p ≤ s.size → Fwd s p (f p)) :
    Calls Try.prog 24 #[.pointer (some ⟨g, 0, none⟩)] w (RetNode w g s (cPat s deep (st.opn == 0) st.pos) st) := by
  have mid := Mid.start h
  have HA := Lib.hid (parts_of hs hopn hd hfw)
  have HF := Lib.hid (patStep_fwd s deep hfw (st.opn == 0))
  have hgw := h.lt
  have hgb : g ≠ w.heap.size := by omega
  have hgb' : w.heap.size ≠ g := by omega
  generalize hw0 : w.alloc (.cells #[.int .i64 0, .int .u64 0, .int .u64 0, .int .u64 0, .int .u64 0, .int .i64 0, .int .i64 0, .slice none 0 0] 29) = w0 at mid
  have HW := Lib.hid hw0
  clear hw0 hd hfw
  go_enter Try.func24, Try.ntmps24
  go_wp2_with fail
  rw [HW.out]
  clear HW
  go_wp2_with (go_at_call 49; (with_reducible refine (HA.out _ _ mid.rdr rfl hpos).mono ?_); rintro e w1 ⟨t1, k1, st1, rfl, ht1, r1, o1, hr1⟩; obtain ⟨A, tn, tc, rfl⟩ := ht1.form; unfold nodeV; have mid1 := mid.next o1 r1; have hw1 := mid1.new)
  have hrow := Row.new w1 (w.heap.size + 1) t1 (.slice A tn tc) hw1 (ht1.weak fun b hb _ => by have := mid.new; omega)
  have hgo := Lib.hid (Going.start (step := patStep s deep (st.opn == 0)) (f := fun t => [t]) hr1)
  generalize hm0 : (if st1.bad = 0 then s.size + 1 else 0) = m0 at hgo
  have hm1 : m0 ≤ s.size + 1 := by rw [← hm0]; split <;> omega
  have mid2 := mid1.alloc (.cells #[.int .i64 t1.op, .int .u64 (word t1.set 0), .int .u64 (word t1.set 1), .int .u64 (word t1.set 2), .int .u64 (word t1.set 3), .int .i64 t1.lo, .int .i64 t1.hi, (.slice A tn tc)] 29)
  generalize w1.alloc (.cells #[.int .i64 t1.op, .int .u64 (word t1.set 0), .int .u64 (word t1.set 1), .int .u64 (word t1.set 2), .int .u64 (word t1.set 3), .int .i64 t1.lo, .int .i64 t1.hi, (.slice A tn tc)] 29) = w2 at *
  clear hm0 mid mid1 r1 o1 hr1 ht1
  go_loopg [3] m0 (fun m v wr => ∃ l st2, Mid w g s st2 wr ∧ Row wr (w.heap.size + 1) v l ∧ 0 < l.length ∧ l.length + m ≤ s.size + 2 ∧ Going s (thenR (cPart s deep (st.opn == 0) st.pos) fun b p => loopR (patStep s deep (st.opn == 0)) (s.size + 1) [b] p) (patStep s deep (st.opn == 0)) st m l st2)
  case atStart => exact ⟨[t1], st1, mid2, hrow, by simp, by simp; omega, hgo.out⟩
  case round =>
    clear mid2 hrow hgo hm1
    obtain ⟨l, st2, mid, hrow, hl0, hlm, hgo⟩ := hrel
    have hp2 := hgo.pos
    have ho2 := hgo.opn
    by_cases h124 : st2.peek s = 124
    · have hb2 := (peek_pos s st2 (by omega)).1
      have hlt := (peek_pos s st2 (by omega)).2
      have hst : patStep s deep (st.opn == 0) l st2.pos = some (thenR (cPart s deep (st.opn == 0) (st2.pos + 1)) fun t p => .ok (l ++ [t], p)) := by
        unfold patStep
        rw [if_pos ((peek_isB s st2 hb2 124).1 h124)]
      have HST := Lib.hid hst
      have HGO := Lib.hid hgo
      have HO2 := Lib.hid ho2
      have HB2 := Lib.hid hb2
      have e1 : (st2.peek s == 124) = true := by simpa using h124
      have hll : l.length ≤ 100000 := by omega
      have hBw : w.heap.size + 1 ≤ wr.heap.size := mid.new
      have hp3 : st2.pos + 1 ≤ s.size := by omega
      obtain ⟨l0, l1, l2, l3, l4⟩ := mid.rdr.cell
      obtain ⟨f0, f1, f2, f3, f4⟩ := mid.rdr.frozen
      clear hst hgo ho2 hb2 h124
      go_wp2_with (first
        | (go_at_call 50; (with_reducible refine (peek_p _ g s st2 (by first | with_reducible exact mid.rdr | with_reducible exact mid.rdr.drewN _) hs).mono ?_); rintro e w3 ⟨rfl, n, rfl⟩)
        | (go_at_call 49; refine (HA.out _ _ ((mid.drewN n).setPos (st2.pos + 1)).rdr HO2.out hp3).mono ?_; rintro e w4 ⟨t, k, st4, rfl, ht4, r4, o4, hr4⟩; obtain ⟨A, tn, tc, rfl⟩ := ht4.form; unfold nodeV; have mid4 := ((mid.drewN n).setPos (st2.pos + 1)).next o4 r4; have row4 := ((hrow.drewN n).far (g := g) (by omega) (i := 1) (.int .i64 ((st2.pos + 1 : Nat) : Int))).only o4 ((mid.drewN n).setPos (st2.pos + 1)).rdr; have ht5 := kid_tree ((hrow.drewN n).far (g := g) (by omega) (i := 1) (.int .i64 ((st2.pos + 1 : Nat) : Int))) (by simpa [World.setCell] using hBw) ht4; have hw4 : w.heap.size + 1 ≤ w4.heap.size := mid4.new)
        | (at_builtin; refine wpList_push (by rfl) _ _ (by rfl) (by rfl) (row4.alloc _) (by simp; omega) hll t (.slice A tn tc) (ht5.alloc _) ⟨w4.heap.size, 0, none⟩ 1 (by rfl) (kid_cells w4 t (.slice A tn tc)) ?_; intro v6 w6 row6 o6 hB6; have mid6 := (mid4.alloc _).row o6 (fun b hb => by have := (row4.lt b hb).1; omega)))
      have hre : Rel s (thenR (cPart s deep (st.opn == 0) (st2.pos + 1)) fun t p => .ok (l ++ [t], p)) st2 (l ++ [t]) st4 := (hr4.from (st := st2) rfl rfl rfl).then (fun hz => ⟨rfl, rfl, rfl, hr4.pos⟩) fun _ hz => Rel.mk0 rfl hr4.pos (fun h => absurd hz h) fun _ => .inl ⟨hz, rfl⟩
      have HG := HGO.out.on HB2.out HST.out hre (HF.out l st2.pos _ HST.out)
      go_roundg (if st4.bad = 0 then gk - 1 else 0)
      case measure => exact HG.1
      case rel => exact ⟨l ++ [t], st4, mid6, row6, by simp, by have := HG.1; simp; omega, HG.2⟩
    · have hre := hgo.stop fun hb => by
        unfold patStep
        rw [if_neg fun h => h124 ((peek_isB s st2 hb 124).2 h)]
      have HRE : Hid (Rel s (cPat s deep (st.opn == 0) st.pos) st (T.many 3 l) st2) := by
        show Rel s (cPat s deep (st.opn == 0) st.pos) st (T.many 3 l) st2
        exact hre.then (fun hz => ⟨rfl, rfl, rfl, hp2⟩) fun _ hz => Rel.mk0 rfl hp2 (fun h => absurd hz h) fun _ => .inl ⟨hz, rfl⟩
      have e1 : (st2.peek s == 124) = false := by simpa using h124
      clear hre hgo h124
      obtain ⟨l0, l1, l2, l3, l4⟩ := mid.rdr.cell
      go_wp2_with (first
        | (go_at_call 50; (with_reducible refine (peek_p _ g s st2 (by first | with_reducible exact mid.rdr | with_reducible exact mid.rdr.drewN _) hs).mono ?_); rintro e w3 ⟨rfl, n, rfl⟩)
        | (go_at_call 51; (with_reducible refine (many_p _ _ _ _ _ (hrow.drewN _) hl0).mono ?_); rintro e w4 ⟨k, rfl, ht4, hb4⟩; obtain ⟨A, tn, tc, rfl⟩ := ht4.form; unfold nodeV; have mid4 := (mid.drewN _).below hb4; obtain ⟨m0, m1, m2, m3, m4, m5, m6, m7⟩ := mid4.box.cell; obtain ⟨y0, y1, y2, y3, y4, y5, y6, y7⟩ := mid4.box.frozen))
      refine bodyPost_ret (v := nodeV (T.many 3 l) (.slice A tn tc)) ?_ rfl (mid4.ret (ht4.weak fun b hb _ => hb) HRE.out)
      simp [nodeV, T.zero, T.op, T.set, T.lo, T.hi, word_none, results, Try.results24, go_sem, m0, m1, m2, m3, m4, m5, m6, m7]

theorem pat_p : ∀ (d : Nat), d ≤ 20 → ∀ (w : World) (g : Nat) (s : ByteArray) (st : St), Rdr w g s st → s.size ≤ 1000 → st.pos ≤ s.size → st.opn = 20 - (d : Int) →
    Calls Try.prog 24 #[.pointer (some ⟨g, 0, none⟩)] w (RetNode w g s (pat s d (st.opn == 0) st.pos) st)
  | 0, _, w, g, s, st, h, hs, hpos, ho => pattern_p w g s st h hs hpos (by omega) none (.inl ⟨rfl, by omega⟩) (fun f h => by cases h)
  | d + 1, hd, w, g, s, st, h, hs, hpos, ho => by
    refine pattern_p w g s st h hs hpos (by omega) (some (pat s d false)) (.inr ⟨_, rfl, by omega, by omega, fun w' st' h1 h2 h3 => ?_⟩) (fun f h p _ => by cases h; exact pat_fwd s d false p)
    have e : (st'.opn == 0) = false := by simp; omega
    rw [← e]
    exact pat_p d (by omega) w' g s st' h1 hs h3 (by omega)

theorem Rdr.new (w : World) (s : ByteArray) : Rdr (w.alloc (.cells #[.string s, .int .i64 0, .int .i64 0, .int .i64 0, .int .i64 0] 79)) w.heap.size s ⟨0, 0, 0, 0⟩ := heap_alloc_new w _
theorem below_new {w w0 w2 : World} {o : Obj} (h : Below w.heap.size w w0) (o2 : (w0.alloc o).grownBy w2 (some w0.heap.size)) : Below w.heap.size w w2 :=
  (h.alloc h.size o).grown o2 (Nat.le_trans h.size (by simp)) (fun j e => by injection e with e; rw [← e]; exact h.size)

/-- All eight cells are nothing. -/
def put80 (w : World) (g : Nat) : World :=
  (((((((w.setCell ⟨g, 0, none⟩ (.int .i64 0)).setCell ⟨g, 1, none⟩ (.int .u64 0)).setCell ⟨g, 2, none⟩ (.int .u64 0)).setCell ⟨g, 3, none⟩ (.int .u64 0)).setCell ⟨g, 4, none⟩ (.int .u64 0)).setCell ⟨g, 5, none⟩ (.int .i64 0)).setCell ⟨g, 6, none⟩ (.int .i64 0)).setCell ⟨g, 7, none⟩ (.slice none 0 0)
theorem put80_eq (w : World) (g : Nat) : put80 w g = put8 w g T.zero (.slice none 0 0) := by
  simp only [put80, put8, T.zero, T.op, T.set, T.lo, T.hi, word_none]

/-- What Parse tells. -/
def RetParse (w : World) (s : ByteArray) (e : Ending) (w' : World) : Prop :=
  ∃ t k bad at_, e = .returned (.tuple #[nodeV t k, .int .i64 bad, .int .i64 at_]) ∧ Tree w' (fun b => w.heap.size ≤ b) t k ∧ Below w.heap.size w w' ∧
    (match parse s with
      | .ok t' => t = t' ∧ bad = 0 ∧ at_ = 0
      | .error (c, a) => t = T.zero ∧ k = .slice none 0 0 ∧ bad = c ∧ at_ = a ∧ c ≠ 0)

set_option maxRecDepth 20000 in
set_option maxHeartbeats 2000000 in
theorem rparse_p (w : World) (s : ByteArray) (hs : s.size ≤ 9223372036854775807) : Calls Try.prog 6 #[.string s] w (RetParse w s) := by
  by_cases hl : 200 < s.size
  · have e : parse s = .error (4, 0) := by unfold parse; rw [if_pos hl]
    have HE := Lib.hid e
    clear e
    go_enter Try.func6, Try.ntmps6
    go_wp2
    refine bodyPost_ret (v := .tuple #[nodeV T.zero (.slice none 0 0), .int .i64 4, .int .i64 0]) ?_ rfl ⟨T.zero, _, 4, 0, rfl, .nil _ rfl, (Below.refl _ _).alloc (Nat.le_refl _) _, ?_⟩
    · simp [nodeV, T.zero, T.op, T.set, T.lo, T.hi, word_none, results, Try.results6, go_sem]
    · rw [HE.out]
      simp
  · have HP : Hid (∀ w g st, Rdr w g s st → st = (⟨0, 0, 0, 0⟩ : St) → Calls Try.prog 24 #[.pointer (some ⟨g, 0, none⟩)] w (RetNode w g s (pat s 20 true 0) ⟨0, 0, 0, 0⟩)) := by
      intro w g st h1 h2
      subst h2
      exact pat_p 20 (by omega) w g s ⟨0, 0, 0, 0⟩ h1 (by omega) (by simp) (by simp)
    go_enter Try.func6, Try.ntmps6
    go_upto_region 3 with fail
    have b0 := Box8.new0 w
    have hB0 : Below w.heap.size w (w.alloc (.cells #[.int .i64 0, .int .u64 0, .int .u64 0, .int .u64 0, .int .u64 0, .int .i64 0, .int .i64 0, .slice none 0 0] 29)) := (Below.refl _ _).alloc (Nat.le_refl _) _
    generalize w.alloc (.cells #[.int .i64 0, .int .u64 0, .int .u64 0, .int .u64 0, .int .u64 0, .int .i64 0, .int .i64 0, .slice none 0 0] 29) = w0 at *
    have hw0 := b0.lt
    go_wp2_with (go_at_call 24; refine (HP.out _ w0.heap.size _ (Rdr.new w0 s) rfl).mono ?_; rintro e w2 ⟨t, k, st2, rfl, ht, r2, o2, hr⟩; obtain ⟨A, tn, tc, rfl⟩ := ht.form; unfold nodeV; have b2 := (b0.alloc _).grown o2 (by simp; omega); have hB2 := below_new hB0 o2; obtain ⟨m0, m1, m2, m3, m4, m5, m6, m7⟩ := b2.cell; obtain ⟨y0, y1, y2, y3, y4, y5, y6, y7⟩ := b2.frozen; obtain ⟨k0, k1, k2, k3, k4⟩ := r2.cell; have hg2 := r2.lt; have hw2 := b2.lt; have hx1 : w.heap.size ≠ w2.heap.size := (by omega); have hx2 : w0.heap.size ≠ w2.heap.size := (by omega); have HR := Lib.hid hr; clear hr)
    · have hb : st2.bad ≠ 0 := by simpa using ‹(st2.bad != 0) = true›
      have hp : parse s = .error (st2.bad, st2.spot) := by
        unfold parse
        rw [if_neg hl]
        rcases HR.out.cases rfl with ⟨h1, _⟩ | ⟨_, h2⟩
        · exact absurd h1 hb
        · rw [h2]
      have HPP := Lib.hid hp
      have HB := Lib.hid hb
      clear hp hb
      go_region
      all_goals
        go_wp2
        have bF := (b2.put (t' := T.zero) (k' := .slice none 0 0) T.zero (.slice none 0 0)).alloc (.cells #[.int .i64 t.op, .int .u64 (word t.set 0), .int .u64 (word t.set 1), .int .u64 (word t.set 2), .int .u64 (word t.set 3), .int .i64 t.lo, .int .i64 t.hi, .slice A tn tc] 29)
        have hF := (below_put8 hB2 (Nat.le_refl _) T.zero (.slice none 0 0)).alloc (by rw [put8_size]; omega) (.cells #[.int .i64 t.op, .int .u64 (word t.set 0), .int .u64 (word t.set 1), .int .u64 (word t.set 2), .int .u64 (word t.set 3), .int .i64 t.lo, .int .i64 t.hi, .slice A tn tc] 29)
        rw [← put80_eq] at bF hF
        change bodyPost _ _ _ _ _ (World.drew ((put80 w2 w.heap.size).alloc (.cells #[.int .i64 t.op, .int .u64 (word t.set 0), .int .u64 (word t.set 1), .int .u64 (word t.set 2), .int .u64 (word t.set 3), .int .i64 t.lo, .int .i64 t.hi, .slice A tn tc] 29)))
        generalize (put80 w2 w.heap.size).alloc (.cells #[.int .i64 t.op, .int .u64 (word t.set 0), .int .u64 (word t.set 1), .int .u64 (word t.set 2), .int .u64 (word t.set 3), .int .i64 t.lo, .int .i64 t.hi, .slice A tn tc] 29) = wF at *
        obtain ⟨F0, F1, F2, F3, F4, F5, F6, F7⟩ := bF.cell
        replace hF := hF.drew
        refine bodyPost_ret (v := .tuple #[nodeV T.zero (.slice none 0 0), .int .i64 st2.bad, .int .i64 st2.spot]) ?_ rfl ⟨T.zero, _, st2.bad, st2.spot, rfl, .nil _ rfl, hF, ?_⟩
        · simp [nodeV, results, Try.results6, go_sem, F0, F1, F2, F3, F4, F5, F6, F7]
        · rw [HPP.out]
          exact ⟨rfl, rfl, rfl, rfl, HB.out⟩
    · have hb : st2.bad = 0 := by simpa using ‹(st2.bad != 0) = false›
      have hp : parse s = .ok t := by
        unfold parse
        rw [if_neg hl]
        rcases HR.out.cases rfl with ⟨_, h2⟩ | ⟨h1, _⟩
        · rw [h2]
        · exact absurd hb h1
      have bF := (b2.put (t' := t) (k' := .slice A tn tc) t (.slice A tn tc)).alloc (.cells #[.int .i64 t.op, .int .u64 (word t.set 0), .int .u64 (word t.set 1), .int .u64 (word t.set 2), .int .u64 (word t.set 3), .int .i64 t.lo, .int .i64 t.hi, .slice A tn tc] 29)
      have tF := (((ht.weak (ok' := fun b => w.heap.size ≤ b ∧ b ≠ w.heap.size) fun b hb _ => by simp at hb; omega).put8 (g' := w.heap.size) (t' := t) (k' := .slice A tn tc) fun b hb => hb.2).alloc (.cells #[.int .i64 t.op, .int .u64 (word t.set 0), .int .u64 (word t.set 1), .int .u64 (word t.set 2), .int .u64 (word t.set 3), .int .i64 t.lo, .int .i64 t.hi, .slice A tn tc] 29)).weak (ok' := fun b => w.heap.size ≤ b) fun b hb _ => hb.1
      have hF := (below_put8 hB2 (Nat.le_refl _) t (.slice A tn tc)).alloc (by rw [put8_size]; omega) (.cells #[.int .i64 t.op, .int .u64 (word t.set 0), .int .u64 (word t.set 1), .int .u64 (word t.set 2), .int .u64 (word t.set 3), .int .i64 t.lo, .int .i64 t.hi, .slice A tn tc] 29)
      change bodyPost _ _ _ _ _ ((put8 w2 w.heap.size t (.slice A tn tc)).alloc (.cells #[.int .i64 t.op, .int .u64 (word t.set 0), .int .u64 (word t.set 1), .int .u64 (word t.set 2), .int .u64 (word t.set 3), .int .i64 t.lo, .int .i64 t.hi, .slice A tn tc] 29))
      generalize (put8 w2 w.heap.size t (.slice A tn tc)).alloc (.cells #[.int .i64 t.op, .int .u64 (word t.set 0), .int .u64 (word t.set 1), .int .u64 (word t.set 2), .int .u64 (word t.set 3), .int .i64 t.lo, .int .i64 t.hi, .slice A tn tc] 29) = wF at *
      obtain ⟨F0, F1, F2, F3, F4, F5, F6, F7⟩ := bF.cell
      refine bodyPost_ret (v := .tuple #[nodeV t (.slice A tn tc), .int .i64 0, .int .i64 0]) ?_ rfl ⟨t, _, 0, 0, rfl, tF, hF, ?_⟩
      · simp [nodeV, results, Try.results6, go_sem, F0, F1, F2, F3, F4, F5, F6, F7]
      · rw [hp]
        exact ⟨rfl, rfl, rfl⟩

end Go.Proofs.Ytfgppmipaahleaa

/-
  The laws' own Pattern. Contracts for other texts; no statement of its own.
-/
namespace Go.Proofs.Ytfgppmipaahleaa
open Go Go.RowKit
attribute [local go_sem ↓] Go.wp_at_zero Go.wp_at_succ

/-- What Pattern tells: a pattern as the grammar makes it, or none. -/
def RetPattern (w : World) (s : ByteArray) (e : Ending) (w' : World) : Prop :=
  ∃ t k ok, e = .returned (.tuple #[nodeV t k, .int .i64 ok]) ∧ Tree w' (fun b => w.heap.size ≤ b) t k ∧ Below w.heap.size w w' ∧
    ((ok = 1 ∧ parse s = .ok t ∧ WF t ∧ plN t ≤ 60) ∨ (ok = 0 ∧ t = T.zero ∧ k = .slice none 0 0 ∧ ∀ t', parse s = .ok t' → ¬ plN t' ≤ 60))

set_option maxRecDepth 20000 in
set_option maxHeartbeats 2000000 in
theorem pattern0_p (w : World) (s : ByteArray) (hs : s.size ≤ 9223372036854775807) : Calls Try.prog 35 #[.string s] w (RetPattern w s) := by
  have HR := Lib.hid (fun w => rparse_p w s hs)
  unfold RetParse at HR
  have b0 := Box8.new0 w
  have hB0 : Below w.heap.size w (w.alloc (.cells #[.int .i64 0, .int .u64 0, .int .u64 0, .int .u64 0, .int .u64 0, .int .i64 0, .int .i64 0, .slice none 0 0] 29)) := (Below.refl _ _).alloc (Nat.le_refl _) _
  have hw0 := b0.lt
  cases hp : parse s with
  | error x =>
    obtain ⟨cc, aa⟩ := x
    simp only [hp] at HR
    have HP := Lib.hid hp
    clear hp
    go_enter Try.func35, Try.ntmps35
    go_wp2_with (go_at_call 6; (with_reducible refine (HR.out _).mono ?_); rintro e w3 ⟨t', k', bad, at_, rfl, ht', hb3, a1, a2, a3, a4, a5⟩; subst a1 a2 a3 a4; have a6 : (bad != 0) = true := (by simpa using a5); clear a5 ht'; unfold nodeV; have b3 := b0.stays hb3; have hl3 := b3.lt; obtain ⟨f0, f1, f2, f3, f4, f5, f6, f7⟩ := b3.frozen; obtain ⟨r0, r1, r2, r3, r4, r5, r6, r7⟩ := b3.cell)
    have hB3 := gro1 (Below.refl _ _) hb3
    have bF := (b3.put (t' := T.zero) (k' := .slice none 0 0) T.zero (.slice none 0 0)).alloc (.cells #[.int .i64 (T.zero).op, .int .u64 (word (T.zero).set 0), .int .u64 (word (T.zero).set 1), .int .u64 (word (T.zero).set 2), .int .u64 (word (T.zero).set 3), .int .i64 (T.zero).lo, .int .i64 (T.zero).hi, .slice none 0 0] 29)
    have hF := (below_put8 hB3 (Nat.le_refl w.heap.size) T.zero (.slice none 0 0)).alloc (by rw [put8_size]; omega) (.cells #[.int .i64 (T.zero).op, .int .u64 (word (T.zero).set 0), .int .u64 (word (T.zero).set 1), .int .u64 (word (T.zero).set 2), .int .u64 (word (T.zero).set 3), .int .i64 (T.zero).lo, .int .i64 (T.zero).hi, .slice none 0 0] 29)
    rw [← put80_eq] at bF hF
    change bodyPost _ _ _ _ _ ((put80 w3 w.heap.size).alloc (.cells #[.int .i64 (T.zero).op, .int .u64 (word (T.zero).set 0), .int .u64 (word (T.zero).set 1), .int .u64 (word (T.zero).set 2), .int .u64 (word (T.zero).set 3), .int .i64 (T.zero).lo, .int .i64 (T.zero).hi, .slice none 0 0] 29))
    generalize (put80 w3 w.heap.size).alloc (.cells #[.int .i64 (T.zero).op, .int .u64 (word (T.zero).set 0), .int .u64 (word (T.zero).set 1), .int .u64 (word (T.zero).set 2), .int .u64 (word (T.zero).set 3), .int .i64 (T.zero).lo, .int .i64 (T.zero).hi, .slice none 0 0] 29) = wF at *
    obtain ⟨F0, F1, F2, F3, F4, F5, F6, F7⟩ := bF.cell
    refine bodyPost_ret (v := .tuple #[nodeV T.zero (.slice none 0 0), .int .i64 0]) ?_ rfl ⟨T.zero, _, 0, rfl, .nil _ rfl, hF, .inr ⟨rfl, rfl, rfl, fun t' e => ?_⟩⟩
    · simp [nodeV, results, Try.results35, go_sem, F0, F1, F2, F3, F4, F5, F6, F7]
    · rw [HP.out] at e; cases e
  | ok t =>
    simp only [hp] at HR
    have hwf := wf_parse hp
    have HP := Lib.hid hp
    have HWF := Lib.hid hwf
    clear hp hwf
    by_cases hpl : plN t ≤ 60
    · have HPL : Hid (∀ W k ok, Tree W ok t k → Calls Try.prog 12 #[nodeP t k] W fun e w' => ∃ n : Nat, e = .returned (.int .i64 n) ∧ n ≤ 60 ∧ Below W.heap.size W w') := fun W k ok ht => (places_p W HWF.out ht).mono fun e w' h => ⟨plN t, h.1, hpl, h.2⟩
      unfold nodeP at HPL
      have HPL2 := Lib.hid hpl
      clear hpl
      go_enter Try.func35, Try.ntmps35
      go_wp2_with (first
        | (go_at_call 6; (with_reducible refine (HR.out _).mono ?_); rintro e w3 ⟨t', k', bad, at_, rfl, ht', hb3, a1, a2, a3⟩; have a1' := a1.symm; subst a1' a2 a3; obtain ⟨A, tn, tc, rfl⟩ := ht'.form; unfold nodeV; have ht3 := ht'.alloc (.cells #[.int .i64 (t).op, .int .u64 (word (t).set 0), .int .u64 (word (t).set 1), .int .u64 (word (t).set 2), .int .u64 (word (t).set 3), .int .i64 (t).lo, .int .i64 (t).hi, .slice A tn tc] 29); have hb3' := (gro1 (Below.refl _ _) hb3).alloc (gro1 (Below.refl _ _) hb3).size (.cells #[.int .i64 (t).op, .int .u64 (word (t).set 0), .int .u64 (word (t).set 1), .int .u64 (word (t).set 2), .int .u64 (word (t).set 3), .int .i64 (t).lo, .int .i64 (t).hi, .slice A tn tc] 29); have b3 := b0.stays hb3; have hl3 := b3.lt)
        | (go_at_call 12; (with_reducible refine (HPL.out _ _ _ ht3).mono ?_); rintro e w4 ⟨pn, rfl, hpn, hb4⟩; have ht4 := ht3.stays hb4; have b4 := (b3.alloc _).stays hb4; have x4 := (Box8.new w3 t (.slice A tn tc)).stays hb4; obtain ⟨f0, f1, f2, f3, f4, f5, f6, f7⟩ := b4.frozen; obtain ⟨r0, r1, r2, r3, r4, r5, r6, r7⟩ := b4.cell; obtain ⟨x0, x1, x2, x3, x40, x5, x6, x7⟩ := x4.cell))
      have hB4 := gro hb3' hb4
      have bF := b4.put (t' := t) (k' := .slice A tn tc) t (.slice A tn tc)
      have tF := ((ht4.weak (ok' := fun b => w.heap.size ≤ b ∧ b ≠ w.heap.size) fun b hb _ => by simp at hb; omega).put8 (g' := w.heap.size) (t' := t) (k' := .slice A tn tc) fun b hb => hb.2).weak (ok' := fun b => w.heap.size ≤ b) fun b hb _ => hb.1
      have hF := below_put8 hB4 (Nat.le_refl w.heap.size) t (.slice A tn tc)
      change bodyPost _ _ _ _ _ (put8 w4 w.heap.size t (.slice A tn tc))
      generalize put8 w4 w.heap.size t (.slice A tn tc) = wF at *
      obtain ⟨F0, F1, F2, F3, F4, F5, F6, F7⟩ := bF.cell
      refine bodyPost_ret (v := .tuple #[nodeV t (.slice A tn tc), .int .i64 1]) ?_ rfl ⟨t, _, 1, rfl, tF, hF, .inl ⟨rfl, HP.out, HWF.out, HPL2.out⟩⟩
      simp [nodeV, results, Try.results35, go_sem, F0, F1, F2, F3, F4, F5, F6, F7]
    · have HPL : Hid (∀ W k ok, Tree W ok t k → Calls Try.prog 12 #[nodeP t k] W fun e w' => ∃ n : Nat, e = .returned (.int .i64 n) ∧ 60 < n ∧ Below W.heap.size W w') := fun W k ok ht => (places_p W HWF.out ht).mono fun e w' h => ⟨plN t, h.1, by omega, h.2⟩
      unfold nodeP at HPL
      have HPL2 := Lib.hid hpl
      clear hpl
      go_enter Try.func35, Try.ntmps35
      go_wp2_with (first
        | (go_at_call 6; (with_reducible refine (HR.out _).mono ?_); rintro e w3 ⟨t', k', bad, at_, rfl, ht', hb3, a1, a2, a3⟩; have a1' := a1.symm; subst a1' a2 a3; obtain ⟨A, tn, tc, rfl⟩ := ht'.form; unfold nodeV; have ht3 := ht'.alloc (.cells #[.int .i64 (t).op, .int .u64 (word (t).set 0), .int .u64 (word (t).set 1), .int .u64 (word (t).set 2), .int .u64 (word (t).set 3), .int .i64 (t).lo, .int .i64 (t).hi, .slice A tn tc] 29); have hb3' := (gro1 (Below.refl _ _) hb3).alloc (gro1 (Below.refl _ _) hb3).size (.cells #[.int .i64 (t).op, .int .u64 (word (t).set 0), .int .u64 (word (t).set 1), .int .u64 (word (t).set 2), .int .u64 (word (t).set 3), .int .i64 (t).lo, .int .i64 (t).hi, .slice A tn tc] 29); have b3 := b0.stays hb3; have hl3 := b3.lt)
        | (go_at_call 12; (with_reducible refine (HPL.out _ _ _ ht3).mono ?_); rintro e w4 ⟨pn, rfl, hpn, hb4⟩; have ht4 := ht3.stays hb4; have b4 := (b3.alloc _).stays hb4; have x4 := (Box8.new w3 t (.slice A tn tc)).stays hb4; obtain ⟨f0, f1, f2, f3, f4, f5, f6, f7⟩ := b4.frozen; obtain ⟨r0, r1, r2, r3, r4, r5, r6, r7⟩ := b4.cell; obtain ⟨x0, x1, x2, x3, x40, x5, x6, x7⟩ := x4.cell))
      have hB4 := gro hb3' hb4
      have bF := b4.put (t' := T.zero) (k' := .slice none 0 0) T.zero (.slice none 0 0)
      have hF := below_put8 hB4 (Nat.le_refl w.heap.size) T.zero (.slice none 0 0)
      rw [← put80_eq] at bF hF
      change bodyPost _ _ _ _ _ (put80 w4 w.heap.size)
      generalize put80 w4 w.heap.size = wF at *
      obtain ⟨F0, F1, F2, F3, F4, F5, F6, F7⟩ := bF.cell
      refine bodyPost_ret (v := .tuple #[nodeV T.zero (.slice none 0 0), .int .i64 0]) ?_ rfl ⟨T.zero, _, 0, rfl, .nil _ rfl, hF, .inr ⟨rfl, rfl, rfl, fun t' e => ?_⟩⟩
      · simp [nodeV, results, Try.results35, go_sem, F0, F1, F2, F3, F4, F5, F6, F7]
      · rw [HP.out] at e
        injection e with e
        rw [← e]
        exact HPL2.out

end Go.Proofs.Ytfgppmipaahleaa

/-
  The laws' own Pattern, told or not; bytes that were just laid. Contracts for other texts; no statement of its own.
-/
namespace Go.Proofs.Ytfgppmipaahleaa
open Go Go.RowKit

theorem cell_mark (w : World) (C : Array Value) (ty : TypeId) (fr : Nat × Nat) (k : Nat) : (w.alloc (.cells C ty fr)).cell? ⟨w.heap.size, k, none⟩ = C[k]? := by
  have h := World.alloc_heap_new w (.cells C ty fr)
  unfold World.cell?
  dsimp only
  rw [h]
  rfl
theorem rd_mark2 (w : World) (g : Nat) (hg : g = w.heap.size) (v u : Int) (fr : Nat × Nat) : RdB (w.alloc (.cells #[.int .u8 v, .int .u8 u] 5 fr)) (w.alloc (.cells #[.int .u8 v, .int .u8 u] 5 fr)).heap.size (some ⟨g, 0, none⟩) [v, u] := by
  subst hg
  intro k hk
  refine ⟨w.heap.size, 0, rfl, by simp, ?_⟩
  rw [cell_mark]
  simp at hk
  match k, hk with
  | 0, _ => rfl
  | 1, _ => rfl
theorem rd_mark1 (w : World) (g : Nat) (hg : g = w.heap.size) (v : Int) (fr : Nat × Nat) : RdB (w.alloc (.cells #[.int .u8 v] 5 fr)) (w.alloc (.cells #[.int .u8 v] 5 fr)).heap.size (some ⟨g, 0, none⟩) [v] := by
  subst hg
  intro k hk
  refine ⟨w.heap.size, 0, rfl, by simp, ?_⟩
  rw [cell_mark]
  have hk0 : k = 0 := by have h1 : k < 1 := hk; omega
  subst hk0
  rfl
theorem pattern_ok {w : World} {s : ByteArray} {t : T} (hs : s.size ≤ 9223372036854775807) (hp : parse s = .ok t) (hpl : plN t ≤ 60) : Calls Try.prog 35 #[.string s] w fun e w' => ∃ A n c, e = .returned (.tuple #[nodeV t (.slice A n c), .int .i64 1]) ∧ Tree w' (fun b => w.heap.size ≤ b) t (.slice A n c) ∧ Below w.heap.size w w' := by
  refine (pattern0_p w s hs).mono fun e w' h => ?_
  obtain ⟨t', k, ok, rfl, ht, hb, h⟩ := h
  rcases h with ⟨rfl, h1, h2, h3⟩ | ⟨rfl, h1, h2, h3⟩
  · rw [hp] at h1
    injection h1 with h1
    subst h1
    obtain ⟨A, n, c, rfl⟩ := ht.form
    exact ⟨A, n, c, rfl, ht, hb⟩
  · exact absurd hpl (h3 t hp)
theorem pattern_no {w : World} {s : ByteArray} (hs : s.size ≤ 9223372036854775807) (hp : ¬ ∃ t, parse s = .ok t ∧ plN t ≤ 60) : Calls Try.prog 35 #[.string s] w fun e w' => e = .returned (.tuple #[nodeV T.zero (.slice none 0 0), .int .i64 0]) ∧ Below w.heap.size w w' := by
  refine (pattern0_p w s hs).mono fun e w' h => ?_
  obtain ⟨t', k, ok, rfl, ht, hb, h⟩ := h
  rcases h with ⟨rfl, h1, h2, h3⟩ | ⟨rfl, rfl, rfl, h3⟩
  · exact absurd ⟨t', h1, h3⟩ hp
  · exact ⟨rfl, hb⟩
end Go.Proofs.Ytfgppmipaahleaa

/-
  The head of the laws of layer 4; two lists of numbers that are one. Contracts for other texts; no statement of its own.
-/
namespace Go.Proofs.Ytfgppmipaahleaa
open Go Go.RowKit
attribute [local go_sem ↓] Go.wp_at_zero Go.wp_at_succ

set_option maxRecDepth 20000 in
set_option maxHeartbeats 2000000 in
theorem ints_p {w : World} {C D : Nat} {v u : Value} {l : List Int} (hv : Ints w C v l) (hu : Ints w D u l) (hl : l.length ≤ 100000) : Calls Try.prog 10 #[v, u] w fun e w' => e = .returned (.int .i64 1) ∧ Below w.heap.size w w' := by
  obtain ⟨A, c, rfl, -, -⟩ := hv.news
  obtain ⟨A', c', rfl, -, -⟩ := hu.news
  obtain ⟨L, hL⟩ : ∃ L, l.length = L := ⟨_, rfl⟩
  rw [hL] at hv hu hl ⊢
  have HV := Lib.hid hv
  have HU := Lib.hid hu
  have HL := Lib.hid hL
  clear hv hu hL
  go_enter Try.func10, Try.ntmps10
  go_wp2
  go_loopg [5] L (fun m i wr => ∃ k : Nat, i = .int .i64 (k : Int) ∧ k ≤ L ∧ m = L - k ∧ Below w.heap.size w wr)
  case atStart => exact ⟨0, by first | rfl | trivial, Nat.zero_le _, by first | rfl | trivial, Below.refl _ _⟩
  case round =>
    obtain ⟨k, rfl, hk, hmk, hW⟩ := hrel
    have HMK := Lib.hid hmk
    clear hmk
    by_cases hkl : k < L
    · have hkl' : k < l.length := by rw [HL.out]; exact hkl
      obtain ⟨g1, c1, e1, _, _, h1⟩ := (HV.out.stays hW).at k hkl'
      obtain ⟨g2, c2, e2, _, _, h2⟩ := (HU.out.stays hW).at k hkl'
      rw [HL.out] at e1 e2
      simp only [Value.slice.injEq] at e1 e2
      obtain ⟨rfl, -, rfl⟩ := e1
      obtain ⟨rfl, -, rfl⟩ := e2
      obtain ⟨y, hy⟩ : ∃ y, l[k]'hkl' = y := ⟨_, rfl⟩
      rw [hy] at h1 h2
      have k0 : (0 : Int) ≤ (k : Int) := by omega
      have k1 : (k : Int) < (L : Int) := by omega
      have HW := Lib.hid hW
      clear hW hy
      go_wp2
      go_quiet (fail)
      go_wp2
      go_roundg (L - (k + 1))
      case measure => have := HMK.out; omega
      case rel => exact ⟨k + 1, by go_num, by omega, rfl, below_dn HW.out _⟩
    · have hkL : k = L := by omega
      subst hkL
      go_wp2
      go_ret
      exact ⟨rfl, hW⟩

/-- The pattern of the head's example. -/
def upT4 : T := .mk 4 noneP 1 2 [.one (rangeP 97 97)]
theorem up4_tree : parse ⟨#[97, 123, 49, 44, 50, 125]⟩ = .ok upT4 := by kernel_rfl
theorem up4_wf : WF upT4 := wf_parse up4_tree
theorem up4_lay : lay0 upT4 = (⟨[rangeP 97 97, rangeP 97 97], [[1], []]⟩, ⟨[0], [0, 1], false⟩) := by kernel_rfl
theorem r97' : rangeP 97 97 97 = true := by decide +kernel
theorem up4_aa : E [97, 97] upT4 0 2 := by
  unfold upT4
  rw [E_rep]
  refine ⟨2, by omega, by omega, ?_⟩
  rw [EAny_one]
  refine ⟨1, ⟨0, rfl, ?_⟩, ?_⟩
  · unfold T.one
    rw [E_one]
    exact ⟨by simp, r97', rfl⟩
  · unfold T.one
    rw [E_one]
    exact ⟨by simp, r97', rfl⟩
theorem rec_E {t : T} (hwf : WF t) (xs : List Int) (j : Nat) : Rec (eats xs (lay0 t).1) (fol (lay0 t).1) (lay0 t).2 0 j ↔ E xs t 0 j := (lay0_good hwf).2.has 0 j
/-- Has of what Build told, of the pattern's words. -/
theorem nhas_p {t : T} (hwf : WF t) (h256 : plR t ≤ 256) {w : World} {A1 A2 A3 : Option Addr} {m1 c1 m2 c2 gm m3 c3 : Nat} {xs : List Int} {A : Option Addr} {c : Nat} (h : NfaIn w w.heap.size (.slice A1 m1 c1) (.slice A2 m2 c2) gm (.slice A3 m3 c3) (lay0 t).1 (lay0 t).2) (hm1 : m1 = (lay0 t).1.sets.length)
    (hrd : RdB w w.heap.size A xs) (hby : ∀ k, k < xs.length → 0 ≤ xs.getD k 0 ∧ xs.getD k 0 ≤ 255) (hlen : xs.length ≤ 100000) :
    Calls Try.prog 13 #[.agg #[.slice A1 m1 c1, .slice A2 m2 c2, .slice (some ⟨gm, 0, none⟩) (lay0 t).1.sets.length (lay0 t).1.sets.length, .slice A3 m3 c3, .bool (lay0 t).2.empty], .slice A xs.length c] w (RetRun w (E xs t 0 xs.length)) := by
  have hsz : (lay0 t).1.sets.length = plR t := by have := lay_size hwf ⟨[], []⟩; simpa [lay0] using this
  obtain ⟨hl, hg⟩ := lay0_good (xs := xs) hwf
  have hfo : ∀ q p, p ∈ (lay0 t).1.follow.getD q [] → p < (lay0 t).1.sets.length := hl.lt
  have hff : ∀ q, q < (lay0 t).1.sets.length → ((lay0 t).1.follow.getD q []).length ≤ 1000 := fun q hq => by
    have := rise_len _ 0 (lay0 t).1.sets.length (hg.st q (Nat.zero_le _) hq) fun p hp => ⟨Nat.zero_le _, hfo q p hp⟩
    omega
  have hfn : (lay0 t).2.first.length ≤ 1000 := by have := rise_len _ 0 _ hg.sf hg.first; omega
  refine (nfahas_p (n := (lay0 t).1.sets.length) rfl h hm1 (fun p hp => (hg.first p hp).2) hfo hfn hff (by omega) hrd hby hlen).mono fun e w' ⟨b, h1, h2, h3⟩ => ⟨b, h1, ?_, h3⟩
  rw [h2, hg.has]
theorem up4parse_p (w : World) : Calls Try.prog 6 #[.string ⟨#[97, 123, 49, 44, 50, 125]⟩] w fun e w' => ∃ A n c, e = .returned (.tuple #[nodeV upT4 (.slice A n c), .int .i64 0, .int .i64 0]) ∧ Tree w' (fun b => w.heap.size ≤ b) upT4 (.slice A n c) ∧ Below w.heap.size w w' := by
  refine (rparse_p w _ (by simp [ByteArray.size])).mono fun e w' h => ?_
  obtain ⟨t, k, bad, at_, rfl, ht, hb, hm⟩ := h
  rw [up4_tree] at hm
  obtain ⟨rfl, rfl, rfl⟩ := hm
  obtain ⟨A, n, c, rfl⟩ := ht.form
  exact ⟨A, n, c, rfl, ht, hb⟩
theorem up4build_p {w : World} {ok : Nat → Prop} {k : Value} (ht : Tree w ok upT4 k) : Calls Try.prog 7 #[nodeP upT4 k] w fun e w' => ∃ g1 c1 A2 m2 c2 gm g3 c3 v3, e = .returned (.tuple #[.agg #[.slice (some ⟨g1, 0, none⟩) 2 c1, .slice A2 m2 c2, .slice (some ⟨gm, 0, none⟩) 2 2, .slice (some ⟨g3, 0, none⟩) 2 c3, .bool false], .nilIface]) ∧
    NfaIn w' w'.heap.size (.slice (some ⟨g1, 0, none⟩) 2 c1) (.slice A2 m2 c2) gm (.slice (some ⟨g3, 0, none⟩) 2 c3) (lay0 upT4).1 (lay0 upT4).2 ∧ Below w.heap.size w w' ∧ Ints w' 0 (.slice A2 m2 c2) [0] ∧ w'.cell? ⟨g3, 0, none⟩ = some v3 ∧ Ints w' 0 v3 [1] ∧ w'.cell? ⟨gm, 0, none⟩ = some (.bool true) ∧ w'.cell? ⟨gm, 1, none⟩ = some (.bool true) ∧ gm < w'.heap.size ∧ g3 < w'.heap.size := by
  refine (build_p up4_wf ht (by decide +kernel)).mono fun e w' h => ?_
  obtain ⟨A1, m1, c1, A2, m2, c2, gm, A3, m3, c3, rfl, hn, hb⟩ := h
  have hi := hn.rest (lay0_good (xs := []) up4_wf).1
  have h2 : (lay0 upT4).1.sets.length = 2 := by rw [up4_lay]; rfl
  obtain ⟨g1, c1', e1, _, _⟩ := hi.sets 0 (by rw [h2]; omega)
  obtain ⟨g3, c3', v3, e3, hg3, hc3, hi3, _⟩ := hi.fols 0 (by rw [h2]; omega)
  have l0 := hi.last 0 (by rw [h2]; omega)
  have l1 := hi.last 1 (by rw [h2]; omega)
  rw [h2] at e1 e3
  simp only [Value.slice.injEq] at e1 e3
  obtain ⟨rfl, rfl, rfl⟩ := e1
  obtain ⟨rfl, rfl, rfl⟩ := e3
  have hf := hi.first
  have he : (lay0 upT4).2.empty = false := by rw [up4_lay]
  have e4 : (lay0 upT4).2.last.contains 0 = true := by rw [up4_lay]; rfl
  have e5 : (lay0 upT4).2.last.contains 1 = true := by rw [up4_lay]; rfl
  have e6 : ns (lay0 upT4).2.first = [0] := by rw [up4_lay]; rfl
  have e7 : ns ((lay0 upT4).1.follow.getD 0 []) = [1] := by rw [up4_lay]; rfl
  rw [e4] at l0
  rw [e5] at l1
  rw [e6] at hf
  rw [e7] at hi3
  exact ⟨g1, c1, A2, m2, c2, gm, g3, c3, v3, by rw [h2, he], hi, hb, hf, hc3, hi3, l0, l1, hi.lastB, hg3⟩
theorem ints_new (w : World) (v : Int) : Ints (w.alloc (.cells #[.int .i64 v] 3)) 0 (.slice (some ⟨w.heap.size, 0, none⟩) 1 1) [v] :=
  ⟨rfl, .inr ⟨w.heap.size, 1, _, rfl, Nat.zero_le _, heap_alloc_new w _, Nat.le_refl _, by decide, rfl, rfl⟩⟩

theorem NfaIn.more {w : World} {B B' gm : Nat} {vs v1 vf : Value} {s : Lay} {x : Str} (h : NfaIn w B vs v1 gm vf s x) (hB : B ≤ B') : NfaIn w B' vs v1 gm vf s x :=
  ⟨fun p hp => by obtain ⟨g, c, e, hg, hc⟩ := h.sets p hp; exact ⟨g, c, e, by omega, hc⟩, h.first, fun b e => by have := h.firstB b e; omega, h.last, by have := h.lastB; omega, fun p hp => by obtain ⟨g, c, v, e, hg, hc, hi, hv⟩ := h.fols p hp; exact ⟨g, c, v, e, by omega, hc, hi, fun b e => by have := hv b e; omega⟩⟩
theorem NfaIn.alloc {w : World} {gm : Nat} {vs v1 vf : Value} {s : Lay} {x : Str} (h : NfaIn w w.heap.size vs v1 gm vf s x) (o : Obj) : NfaIn (w.alloc o) (w.alloc o).heap.size vs v1 gm vf s x :=
  (h.below ((Below.refl _ _).alloc (Nat.le_refl _) o)).more (by simp)

set_option maxRecDepth 20000 in
set_option maxHeartbeats 2000000 in
theorem up4_p (w : World) : Calls Try.prog 5 #[] w fun e w' => e = .returned (.bool true) ∧ Below w.heap.size w w' := by
  have HUP := Lib.hid (up4parse_p w)
  have HBU : Hid (∀ (W : World) (ok : Nat → Prop) (k : Value), Tree W ok upT4 k → _) := fun W ok k ht => up4build_p (w := W) (ok := ok) (k := k) ht
  unfold nodeP at HBU
  have hsz : (lay0 upT4).1.sets.length = 2 := by rw [up4_lay]; rfl
  have he : (lay0 upT4).2.empty = false := by rw [up4_lay]
  have HHAS : Hid (∀ (W : World) (g1 c1 : Nat) (A2 : Option Addr) (m2 c2 gm g3 c3 : Nat) (A : Option Addr) (c : Nat), NfaIn W W.heap.size (.slice (some ⟨g1, 0, none⟩) 2 c1) (.slice A2 m2 c2) gm (.slice (some ⟨g3, 0, none⟩) 2 c3) (lay0 upT4).1 (lay0 upT4).2 → RdB W W.heap.size A [97, 97] →
      Calls Try.prog 13 #[.agg #[.slice (some ⟨g1, 0, none⟩) 2 c1, .slice A2 m2 c2, .slice (some ⟨gm, 0, none⟩) 2 2, .slice (some ⟨g3, 0, none⟩) 2 c3, .bool false], .slice A 2 c] W fun e w' => e = .returned (.bool true) ∧ Below W.heap.size W w') := fun W g1 c1 A2 m2 c2 gm g3 c3 A c h hr => by
    have := nhas_p (xs := [97, 97]) (c := c) up4_wf (by decide +kernel) h (by rw [hsz]) hr (fun k hk => by match k, hk with | 0, _ => simp | 1, _ => simp) (by simp)
    rw [hsz, he] at this
    exact this.mono fun e w' ⟨b, h1, h2, h3⟩ => ⟨by rw [h1, h2.2 up4_aa], h3⟩
  clear hsz he
  go_enter Try.func5, Try.ntmps5
  go_wp2_with (first
    | (go_at_call 6; (with_reducible refine HUP.out.mono ?_); rintro e w1 ⟨A, n, c, rfl, ht, hb1⟩; have HT := Lib.hid (ht.alloc (.cells #[.int .i64 upT4.op, .int .u64 (word upT4.set 0), .int .u64 (word upT4.set 1), .int .u64 (word upT4.set 2), .int .u64 (word upT4.set 3), .int .i64 upT4.lo, .int .i64 upT4.hi, .slice A n c] 29)); have HB1 := Lib.hid (hb1.alloc hb1.size (.cells #[.int .i64 upT4.op, .int .u64 (word upT4.set 0), .int .u64 (word upT4.set 1), .int .u64 (word upT4.set 2), .int .u64 (word upT4.set 3), .int .i64 upT4.lo, .int .i64 upT4.hi, .slice A n c] 29)); have BX := Lib.hid (Box8.new w1 upT4 (.slice A n c)); obtain ⟨r0, r1, r2, r3, r4, r5, r6, r7⟩ := BX.out.cell; clear ht hb1; unfold nodeV)
    | (go_at_call 7; (with_reducible refine (HBU.out _ _ _ HT.out).mono ?_); rintro e w2 ⟨g1, c1, A2, m2, c2, gm, g3, c3, v3, rfl, hn, hb2, i0, x3, i3, l0, l1, hgm, hg3⟩; obtain ⟨A4, m4, c4, rfl⟩ := i3.form3; have HB2 := Lib.hid (gro HB1.out hb2); have bx := BoxF.new w2 (.slice (some ⟨g1, 0, none⟩) 2 c1) (.slice A2 m2 c2) (.slice (some ⟨gm, 0, none⟩) 2 2) (.slice (some ⟨g3, 0, none⟩) 2 c3) false; obtain ⟨f0, f1, f2, f3, f4⟩ := bx.cell; have hbb : Below w2.heap.size w2 ((w2.alloc (.cells #[.slice (some ⟨g1, 0, none⟩) 2 c1, .slice A2 m2 c2, .slice (some ⟨gm, 0, none⟩) 2 2, .slice (some ⟨g3, 0, none⟩) 2 c3, .bool false] 37)).alloc (.cells #[.int .i64 0] 3)) := (((Below.refl _ _).alloc (Nat.le_refl _) _).alloc (by simp) _); have n0 : Ints ((w2.alloc (.cells #[.slice (some ⟨g1, 0, none⟩) 2 c1, .slice A2 m2 c2, .slice (some ⟨gm, 0, none⟩) 2 2, .slice (some ⟨g3, 0, none⟩) 2 c3, .bool false] 37)).alloc (.cells #[.int .i64 0] 3)) 0 (.slice (some ⟨w2.heap.size + 1, 0, none⟩) 1 1) [0] := (by have := ints_new (w2.alloc (.cells #[.slice (some ⟨g1, 0, none⟩) 2 c1, .slice A2 m2 c2, .slice (some ⟨gm, 0, none⟩) 2 2, .slice (some ⟨g3, 0, none⟩) 2 c3, .bool false] 37)) 0; rwa [World.size_alloc] at this); have HN := Lib.hid hn; have I0' := Lib.hid (i0.stays hbb); have N0 := Lib.hid n0; have HBB := Lib.hid hbb; have BX4 := Lib.hid (bx.alloc (.cells #[.int .i64 0] 3)); have X3 := Lib.hid x3; have I3 := Lib.hid i3; have LL0 := Lib.hid l0; have LL1 := Lib.hid l1; clear bx hbb n0 hn i0 x3 i3 l0 l1 hb2)
    | (go_at_call 10; (with_reducible refine (ints_p I0'.out N0.out (by simp)).mono ?_); rintro e w4 ⟨rfl, hb4⟩; have b24 := gro HBB.out hb4; obtain ⟨f0, f1, f2, f3, f4⟩ := (BX4.out.stays hb4).cell; have x4 := cell_stays X3.out b24; have hs4 := b24.size; have hbb : Below w2.heap.size w2 (w4.alloc (.cells #[.int .i64 1] 3)) := b24.alloc b24.size _; have I1' := Lib.hid (I3.out.stays hbb); have N1 := Lib.hid (ints_new w4 1); have HBB4 := Lib.hid hbb; have BX5 := Lib.hid ((BX4.out.stays hb4).alloc (.cells #[.int .i64 1] 3)); clear hb4 b24 hbb)
    | (go_at_call 10; (with_reducible refine (ints_p I1'.out N1.out (by simp)).mono ?_); rintro e w5 ⟨rfl, hb5⟩; have b25 := gro HBB4.out hb5; obtain ⟨f0, f1, f2, f3, f4⟩ := (BX5.out.stays hb5).cell; have y0 := cell_stays LL0.out b25; have y1 := cell_stays LL1.out b25; have hcv2 := Lib.run_convert_bytes_const (P := Try.prog) w5 22 5 #[.int .u8 97, .int .u8 97] 2 2 Try.underlying22 Try.underlying5; have HB25 := Lib.hid b25; clear hb5 b25)
    | (go_at_call 13; (refine (HHAS.out _ _ _ _ _ _ _ _ _ _ _ (((HN.out.below HB25.out).more HB25.out.size).alloc _) (rd_mark2 _ _ (by simp) _ _ _)).mono ?_); rintro e w6 ⟨rfl, hb6⟩; have HB6 := Lib.hid (gro1 HB25.out hb6); clear hb6))
  go_ret
  exact ⟨rfl, HB2.out.trans (HB6.out.mono HB2.out.size)⟩
end Go.Proofs.Ytfgppmipaahleaa

/-
  A pattern laid out as the document says it: flat, first, last, follow by form; that the program's layout has the same. Plain mathematics; no statement of its own.
-/
namespace Go.Proofs.Ytfgppmipaahleaa
open Go

def restT (k : T) : Nat → T
  | 0 => .mk 2 noneP 0 0 []
  | d + 1 => .mk 5 noneP 0 0 [.mk 2 noneP 0 0 [k, restT k d]]
mutual
/-- Laid out: copies written out; 5: what may be left out. -/
def flatT : T → T
  | .mk op p lo hi l => if op = 4 then .mk 2 noneP 0 0 (List.replicate lo.toNat (flatHead l) ++ [restT (flatHead l) (hi - lo).toNat]) else .mk op p 0 0 (flatL l)
def flatL : List T → List T
  | [] => []
  | t :: ts => flatT t :: flatL ts
def flatHead : List T → T
  | [] => .mk 0 noneP 0 0 []
  | t :: _ => flatT t
end
mutual
def emptyT : T → Bool
  | .mk op p lo hi l => if op = 1 ∨ op = 5 then decide (op = 5) else if op = 2 then allE l else anyE l
def allE : List T → Bool
  | [] => true
  | t :: ts => emptyT t && allE ts
def anyE : List T → Bool
  | [] => false
  | t :: ts => emptyT t || anyE ts
end
mutual
def plT : T → Nat
  | .mk op p lo hi l => (if op = 1 then 1 else 0) + plTL l
def plTL : List T → Nat
  | [] => 0
  | t :: ts => plT t + plTL ts
end
mutual
/-- First. -/
def fstT : T → Nat → List Nat
  | .mk op p lo hi l => fun at_ => if op = 1 then [at_] else if op = 2 then catF l at_ else altF l at_
def catF : List T → Nat → List Nat
  | [] => fun _ => []
  | t :: ts => fun at_ => fstT t at_ ++ (if emptyT t then catF ts (at_ + plT t) else [])
def altF : List T → Nat → List Nat
  | [] => fun _ => []
  | t :: ts => fun at_ => fstT t at_ ++ altF ts (at_ + plT t)
end
mutual
/-- Last. -/
def lstT : T → Nat → List Nat
  | .mk op p lo hi l => fun at_ => if op = 1 then [at_] else if op = 2 then catB l at_ else altB l at_
def catB : List T → Nat → List Nat
  | [] => fun _ => []
  | t :: ts => fun at_ => catB ts (at_ + plT t) ++ (if allE ts then lstT t at_ else [])
def altB : List T → Nat → List Nat
  | [] => fun _ => []
  | t :: ts => fun at_ => altB ts (at_ + plT t) ++ lstT t at_
end
mutual
/-- Who follows whom. -/
def folT : T → Nat → Nat → Nat → Prop
  | .mk op p lo hi l => fun at_ q r => op ≠ 1 ∧ if op = 2 then catFol l at_ q r else altFol l at_ q r
def catFol : List T → Nat → Nat → Nat → Prop
  | [] => fun _ _ _ => False
  | t :: ts => fun at_ q r => folT t at_ q r ∨ catFol ts (at_ + plT t) q r ∨ (q ∈ lstT t at_ ∧ r ∈ catF ts (at_ + plT t))
def altFol : List T → Nat → Nat → Nat → Prop
  | [] => fun _ _ _ => False
  | t :: ts => fun at_ q r => folT t at_ q r ∨ altFol ts (at_ + plT t) q r
end
mutual
/-- The sets of its places. -/
def setT : T → List (Nat → Bool)
  | .mk op p lo hi l => (if op = 1 then [p] else []) ++ setTL l
def setTL : List T → List (Nat → Bool)
  | [] => []
  | t :: ts => setT t ++ setTL ts
end

/-- What f lays out behind s is the flat pattern k. -/
def Same (f : Lay → Lay × Str) (k : T) : Prop := ∀ s, LInv s →
  (f s).1.sets = s.sets ++ setT k ∧ (f s).2.empty = emptyT k ∧ (∀ p, p ∈ (f s).2.first ↔ p ∈ fstT k s.sets.length) ∧ (∀ p, p ∈ (f s).2.last ↔ p ∈ lstT k s.sets.length) ∧
    (∀ q r, fol (f s).1 q r ↔ fol s q r ∨ folT k s.sets.length q r)
theorem setT_len_of {f : Lay → Lay × Str} {k : T} (h : Same f k) (hk : plT k = (setT k).length) (s : Lay) (hs : LInv s) : (f s).1.sets.length = s.sets.length + plT k := by
  rw [(h s hs).1, List.length_append, hk]
mutual
theorem plT_len : ∀ t : T, plT t = (setT t).length
  | .mk op p lo hi l => by
    simp only [plT, setT, List.length_append, plTL_len l]
    split <;> simp
theorem plTL_len : ∀ l : List T, plTL l = (setTL l).length
  | [] => rfl
  | t :: ts => by simp only [plTL, setTL, List.length_append, plT_len t, plTL_len ts]
end

theorem joinX_first (x y : Str) (p : Nat) : p ∈ (joinX x y).first ↔ p ∈ x.first ∨ (x.empty = true ∧ p ∈ y.first) := by
  unfold joinX
  cases x.empty <;> simp
theorem joinX_last (x y : Str) (p : Nat) : p ∈ (joinX x y).last ↔ p ∈ y.last ∨ (y.empty = true ∧ p ∈ x.last) := by
  unfold joinX
  cases y.empty <;> simp [or_comm]
/-- What a layout is beside s and x, when l is laid out behind. -/
structure CatSame (s s' : Lay) (x x' : Str) (l : List T) : Prop where
  inv : LInv s'
  sets : s'.sets = s.sets ++ setTL l
  empty : x'.empty = (x.empty && allE l)
  first : ∀ p, p ∈ x'.first ↔ p ∈ x.first ∨ (x.empty = true ∧ p ∈ catF l s.sets.length)
  last : ∀ p, p ∈ x'.last ↔ p ∈ catB l s.sets.length ∨ (allE l = true ∧ p ∈ x.last)
  fols : ∀ q r, fol s' q r ↔ fol s q r ∨ catFol l s.sets.length q r ∨ (q ∈ x.last ∧ r ∈ catF l s.sets.length)
theorem CatSame.nil {s : Lay} {x : Str} (h : LInv s) : CatSame s s x x [] :=
  ⟨h, by simp [setTL], by simp [allE], fun p => by simp [catF], fun p => by simp [catB, allE], fun q r => by simp [catFol, catF]⟩
/-- One more, joined ahead of the rest. -/
theorem CatSame.cons {s s' : Lay} {x x' y : Str} {s1 : Lay} {k : T} {l : List T} (hl : LInv s1) (hx : ∀ p ∈ x.last, p < s1.sets.length)
    (h1 : s1.sets = s.sets ++ setT k) (h2 : y.empty = emptyT k) (h3 : ∀ p, p ∈ y.first ↔ p ∈ fstT k s.sets.length) (h4 : ∀ p, p ∈ y.last ↔ p ∈ lstT k s.sets.length) (h5 : ∀ q r, fol s1 q r ↔ fol s q r ∨ folT k s.sets.length q r)
    (h : CatSame (joinL s1 x y) s' (joinX x y) x' l) : CatSame s s' x x' (k :: l) := by
  have hat : (joinL s1 x y).sets.length = s.sets.length + plT k := by show s1.sets.length = _; rw [h1, List.length_append, plT_len]
  have he : (joinX x y).empty = (x.empty && emptyT k) := by rw [← h2]; rfl
  refine ⟨h.inv, ?_, ?_, fun p => ?_, fun p => ?_, fun q r => ?_⟩
  · rw [h.sets]
    show s1.sets ++ setTL l = _
    rw [h1, setTL, List.append_assoc]
  · rw [h.empty, he, allE, Bool.and_assoc]
  · rw [h.first, joinX_first, h3, he, hat, catF]
    cases x.empty <;> cases emptyT k <;> simp [or_assoc]
  · rw [h.last, joinX_last, h4, h2, hat, catB, allE]
    cases allE l <;> cases emptyT k <;> simp [or_assoc]
  · rw [h.fols, joinL_fol hl hx, h5, joinX_last, h2, h3, h4, hat, catFol, catF]
    cases emptyT k <;> simp [or_assoc, or_left_comm, or_comm, and_or_left, or_and_right]

/-- What is known of any f that lays out a pattern. -/
structure Laid (f : Lay → Lay × Str) (k : T) : Prop where
  same : Same f k
  inv : ∀ s, LInv s → LInv (f s).1
  le : ∀ s, LInv s → s.sets.length ≤ (f s).1.sets.length
  first : ∀ s, LInv s → ∀ p ∈ (f s).2.first, p < (f s).1.sets.length
  last : ∀ s, LInv s → ∀ p ∈ (f s).2.last, p < (f s).1.sets.length
theorem laid_of {f : Lay → Lay × Str} {k : T} {R : Nat → Nat → Prop} (h : Same f k) (hl : Lays [] f R) : Laid f k :=
  ⟨h, fun s hs => (hl s hs).1.inv, fun s hs => (hl s hs).1.le, fun s hs p hp => ((hl s hs).2.first p hp).2, fun s hs p hp => ((hl s hs).2.last p hp).2⟩
section
variable {f g : Lay → Lay × Str} {k r : T} {s s' : Lay} {x x' : Str} {l : List T}
theorem Laid.join (h : Laid f k) (hs : LInv s) (hx : ∀ p ∈ x.last, p < s.sets.length) : LInv (joinL (f s).1 x (f s).2) ∧ (∀ p ∈ (joinX x (f s).2).last, p < (joinL (f s).1 x (f s).2).sets.length) ∧ ∀ p ∈ x.last, p < (f s).1.sets.length := by
  have hle := h.le s hs
  have h3 : ∀ p ∈ x.last, p < (f s).1.sets.length := fun p hp => by have := hx p hp; omega
  refine ⟨(joinL_more (n := 0) (h.inv s hs) (fun p hp => ⟨Nat.zero_le _, h3 p hp⟩) (h.first s hs)).1, fun p hp => ?_, h3⟩
  show p < (f s).1.sets.length
  rcases (joinX_last _ _ _).1 hp with h' | ⟨_, h'⟩
  · exact h.last s hs p h'
  · exact h3 p h'
theorem Laid.cons (h : Laid f k) (hs : LInv s) (hx : ∀ p ∈ x.last, p < s.sets.length) (hc : CatSame (joinL (f s).1 x (f s).2) s' (joinX x (f s).2) x' l) : CatSame s s' x x' (k :: l) := by
  obtain ⟨h1, h2, h3, h4, h5⟩ := h.same s hs
  exact hc.cons (h.inv s hs) (h.join hs hx).2.2 h1 h2 h3 h4 h5
/-- So many copies, and then one more of another kind. -/
theorem copies_same (h : Laid f k) (hg : Laid g r) : ∀ (m : Nat) (s : Lay) (x : Str), LInv s → (∀ p ∈ x.last, p < s.sets.length) →
    CatSame s (joinL (g (copies f m s x).1).1 (copies f m s x).2 (g (copies f m s x).1).2) x (joinX (copies f m s x).2 (g (copies f m s x).1).2) (List.replicate m k ++ [r])
  | 0, s, x, hs, hx => hg.cons hs hx (CatSame.nil (hg.join hs hx).1)
  | m + 1, s, x, hs, hx => by
    have hj := h.join hs hx
    exact h.cons hs hx (copies_same h hg m _ _ hj.1 hj.2.1)
theorem join_nothing (s : Lay) (y : Str) : joinL s .nothing y = s ∧ joinX .nothing y = y := by
  constructor
  · rfl
  · unfold joinX Str.nothing
    cases y with
    | mk a b e => cases e <;> simp
/-- A Cat that was laid out from nothing. -/
theorem same_cat (p : Nat → Bool) (lo hi : Int) (h : ∀ s, LInv s → CatSame s (f s).1 .nothing (f s).2 l) : Same f (.mk 2 p lo hi l) := fun s hs => by
  have hc := h s hs
  refine ⟨by rw [hc.sets]; simp [setT], by rw [hc.empty]; simp [emptyT, Str.nothing], fun q => ?_, fun q => ?_, fun q r => ?_⟩
  · rw [hc.first]; simp [fstT, Str.nothing]
  · rw [hc.last]; simp [lstT, Str.nothing]
  · rw [hc.fols]; simp [folT, Str.nothing]
end
theorem within_same {u : T} (hwf : WF u) (h : Same (layP u) (flatT u)) : ∀ d, Same (within (layP u) d) (restT (flatT u) d)
  | 0 => fun s hs => ⟨by simp [within, restT, setT, setTL], by simp [within, restT, emptyT, allE, Str.nothing], fun p => by simp [within, restT, fstT, catF, Str.nothing], fun p => by simp [within, restT, lstT, catB, Str.nothing], fun q r => by simp [within, restT, folT, catFol]⟩
  | d + 1 => fun s hs => by
    have hf := laid_of h (lays_wf (xs := []) hwf)
    have hw := laid_of (within_same hwf h d) (lays_within (xs := []) (lays_wf hwf) d)
    have hj := hf.join (x := .nothing) hs (fun p hp => by simp [Str.nothing] at hp)
    obtain ⟨e1, e2⟩ := join_nothing (layP u s).1 (layP u s).2
    rw [e1, e2] at hj
    have hc : CatSame s (joinL (within (layP u) d (layP u s).1).1 (layP u s).2 (within (layP u) d (layP u s).1).2) .nothing (joinX (layP u s).2 (within (layP u) d (layP u s).1).2) [flatT u, restT (flatT u) d] := by
      refine hf.cons hs (fun p hp => by simp [Str.nothing] at hp) ?_
      rw [e1, e2]
      exact hw.cons hj.1 hj.2.1 (CatSame.nil (hw.join hj.1 hj.2.1).1)
    refine ⟨?_, ?_, fun p => ?_, fun p => ?_, fun q r => ?_⟩
    · show (joinL (within (layP u) d (layP u s).1).1 (layP u s).2 (within (layP u) d (layP u s).1).2).sets = _
      rw [hc.sets]; simp [restT, setT, setTL]
    · show true = _
      simp [restT, emptyT]
    · show p ∈ (joinX (layP u s).2 (within (layP u) d (layP u s).1).2).first ↔ _
      rw [hc.first]; simp [restT, fstT, altF, Str.nothing]
    · show p ∈ (joinX (layP u s).2 (within (layP u) d (layP u s).1).2).last ↔ _
      rw [hc.last]; simp [restT, lstT, altB, Str.nothing]
    · show fol (joinL (within (layP u) d (layP u s).1).1 (layP u s).2 (within (layP u) d (layP u s).1).2) q r ↔ _
      rw [hc.fols]; simp [restT, folT, altFol, Str.nothing]
theorem cat_same : ∀ (l : List T), (∀ t ∈ l, WF t ∧ Same (layP t) (flatT t)) → ∀ (s : Lay) (x : Str), LInv s → (∀ p ∈ x.last, p < s.sets.length) → CatSame s (catP l s x).1 x (catP l s x).2 (flatL l)
  | [], _, s, x, hs, _ => by simp only [catP, flatL]; exact CatSame.nil hs
  | t :: ts, h, s, x, hs, hx => by
    have hf := laid_of (h t (by simp)).2 (lays_wf (xs := []) (h t (by simp)).1)
    have hj := hf.join hs hx
    simp only [catP, flatL]
    exact hf.cons hs hx (cat_same ts (fun u hu => h u (by simp [hu])) _ _ hj.1 hj.2.1)
/-- Alternatives beside each other. -/
theorem alt_same : ∀ (l : List T), (∀ t ∈ l, WF t ∧ Same (layP t) (flatT t)) → ∀ (s : Lay) (x : Str), LInv s →
    LInv (altP l s x).1 ∧ (altP l s x).1.sets = s.sets ++ setTL (flatL l) ∧ (altP l s x).2.empty = (x.empty || anyE (flatL l)) ∧ (∀ p, p ∈ (altP l s x).2.first ↔ p ∈ x.first ∨ p ∈ altF (flatL l) s.sets.length) ∧
      (∀ p, p ∈ (altP l s x).2.last ↔ p ∈ x.last ∨ p ∈ altB (flatL l) s.sets.length) ∧ ∀ q r, fol (altP l s x).1 q r ↔ fol s q r ∨ altFol (flatL l) s.sets.length q r
  | [], _, s, x, hs => by simp [altP, flatL, setTL, anyE, altF, altB, altFol, hs]
  | t :: ts, h, s, x, hs => by
    have hf := laid_of (h t (by simp)).2 (lays_wf (xs := []) (h t (by simp)).1)
    obtain ⟨h1, h2, h3, h4, h5⟩ := hf.same s hs
    obtain ⟨i1, i2, i3, i4, i5, i6⟩ := alt_same ts (fun u hu => h u (by simp [hu])) (layP t s).1 (altX x (layP t s).2) (hf.inv s hs)
    have hat : (layP t s).1.sets.length = s.sets.length + plT (flatT t) := by rw [h1, List.length_append, plT_len]
    simp only [altP, flatL]
    refine ⟨i1, ?_, ?_, fun p => ?_, fun p => ?_, fun q r => ?_⟩
    · rw [i2, h1, setTL, List.append_assoc]
    · rw [i3, anyE, ← h2]
      show ((x.empty || (layP t s).2.empty) || _) = _
      rw [Bool.or_assoc]
    · rw [i4, hat, altF, List.mem_append, ← h3]
      show p ∈ x.first ++ (layP t s).2.first ∨ _ ↔ _
      rw [List.mem_append, or_assoc]
    · rw [i5, hat, altB, List.mem_append, ← h4]
      show p ∈ x.last ++ (layP t s).2.last ∨ _ ↔ _
      rw [List.mem_append, or_assoc, or_comm (a := p ∈ (layP t s).2.last)]
    · rw [i6, h5, hat, altFol, or_assoc]
/-- The program's layout is the document's, flat. -/
theorem flat_same {t : T} (hwf : WF t) : Same (layP t) (flatT t) := by
  induction hwf with
  | one p =>
    intro s hs
    have e : flatT (.mk 1 p 0 0 []) = .mk 1 p 0 0 [] := by simp [flatT, flatL]
    have e2 : layP (.mk 1 p 0 0 []) s = (oneL s p, oneX s) := by simp [layP]
    rw [e, e2]
    refine ⟨by simp [oneL, setT, setTL], by simp [oneX, emptyT], fun q => by simp [oneX, fstT], fun q => by simp [oneX, lstT], fun q r => ?_⟩
    simp only [folT]
    simp only [ne_eq, not_true_eq_false, false_and, or_false]
    unfold fol oneL
    simp only [List.getD_eq_getElem?_getD]
    rcases Nat.lt_or_ge q s.follow.length with hq | hq
    · rw [List.getElem?_append_left hq]
    · rw [List.getElem?_append_right hq, List.getElem?_eq_none hq]
      rcases Nat.eq_zero_or_pos (q - s.follow.length) with e | e
      · rw [e]; simp
      · rw [List.getElem?_eq_none (by simp; omega)]
  | cat l h2 hN h ih =>
    have e : flatT (.mk 2 noneP 0 0 l) = .mk 2 noneP 0 0 (flatL l) := by simp [flatT]
    rw [e]
    refine same_cat _ _ _ fun s hs => ?_
    have e2 : layP (.mk 2 noneP 0 0 l) s = catP l s .nothing := by simp [layP]
    rw [e2]
    exact cat_same l (fun t ht => ⟨h t ht, ih t ht⟩) s .nothing hs (fun p hp => by simp [Str.nothing] at hp)
  | alt l h2 hN h ih =>
    intro s hs
    have e : flatT (.mk 3 noneP 0 0 l) = .mk 3 noneP 0 0 (flatL l) := by simp [flatT]
    have e2 : layP (.mk 3 noneP 0 0 l) s = altP l s .void := by simp [layP]
    obtain ⟨i1, i2, i3, i4, i5, i6⟩ := alt_same l (fun t ht => ⟨h t ht, ih t ht⟩) s .void hs
    rw [e, e2]
    refine ⟨by rw [i2]; simp [setT], by rw [i3]; simp [emptyT, Str.void], fun p => by rw [i4]; simp [fstT, Str.void], fun p => by rw [i5]; simp [lstT, Str.void], fun q r => by rw [i6]; simp [folT]⟩
  | rep m n u h0 h1 h2 h3 hu ih =>
    have e : flatT (.mk 4 noneP m n [u]) = .mk 2 noneP 0 0 (List.replicate m.toNat (flatT u) ++ [restT (flatT u) (n - m).toNat]) := by simp [flatT, flatHead]
    rw [e]
    refine same_cat _ _ _ fun s hs => ?_
    have hh : headP [u] = layP u := by funext s; simp [headP]
    have e2 : layP (.mk 4 noneP m n [u]) s = repX (layP u) m.toNat (n - m).toNat s := by simp [layP, hh]
    rw [e2]
    exact copies_same (laid_of ih (lays_wf (xs := []) hu)) (laid_of (within_same hu ih _) (lays_within (xs := []) (lays_wf hu) _)) m.toNat s .nothing hs (fun p hp => by simp [Str.nothing] at hp)
end Go.Proofs.Ytfgppmipaahleaa
