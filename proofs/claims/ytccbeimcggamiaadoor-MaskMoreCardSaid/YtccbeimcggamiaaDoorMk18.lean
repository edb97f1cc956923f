/-
  Several texts of this proof in one file: RefPart, RefPat, Pattern0, PatOk, Law9, Ints. No statement of its own.
-/
import Derived.Test.YtccbeimcggamiaaDoorMk17
import Derived.Test.YtccbeimcggamiaaDoorMk6
import Derived.Lib.BufferMore
import Derived.RangeFuncRecord
import Derived.Test.YtccbeimcggamiaaDoorMk13
import Derived.Test.YtccbeimcggamiaaDoorMk11
import Derived.Laws.BytesArg
import Derived.Lib.SlBytesConst
import Derived.Deep.Cut
import Derived.Deep.CutRange
import Derived.Deep.DeepCutAuto
import Derived.Test.YtccbeimcggamiaaDoorMk1
import Derived.Laws.OwnMore
import Derived.Maps.AppendAt
import Derived.Deep.LoopGhost
set_option linter.unusedVariables false
set_option linter.unusedSimpArgs false

/-
  The document's own reader of patterns: part: what it does, held against the grammar. Contracts for other texts; no statement of its own.
-/
namespace Go.Proofs.YtccbeimcggamiaaDoor
open Go Go.RowKit
attribute [local go_sem ↓] Go.wp_at_zero Go.wp_at_succ

section
variable {w wx wy : World} {g : Nat} {s : ByteArray} {st : St} {B : Nat} {v : Value} {l : List T}
theorem Row.lt (h : Row w B v l) : ∀ b, v.ownBlock = some b → B ≤ b ∧ b < w.heap.size := by
  obtain ⟨ks, h1, h2, h3⟩ := h
  exact h2.lt
theorem Mid.row {row : Option Nat} (h : Mid w g s st wx) (hg : wx.grownBy wy row) (hr : ∀ b, row = some b → w.heap.size < b) : Mid w g s st wy := by
  have hlt := h.lt
  refine ⟨h.lt, ?_, h.box.grown hg fun e => by have := hr _ e.symm; omega, ⟨hg.os.trans h.only.os, hg.tape.trans h.only.tape, hg.output.trans h.only.output, Nat.le_trans h.only.size hg.size, fun b hb hne => (hg.block b (Nat.lt_of_lt_of_le hb h.only.size) fun e => by have := hr _ e.symm; omega).trans (h.only.block b hb hne)⟩⟩
  have hb := hg.block g h.rdr.lt fun e => by have := hr _ e.symm; omega
  exact hb.trans h.rdr
/-- A new kid's cells. -/
theorem kid_cells (w : World) (t : T) (k : Value) : ∀ (j : Nat) u, (nodeC t k)[j]? = some u → (w.alloc (.cells #[.int .i64 t.op, .int .u64 (word t.set 0), .int .u64 (word t.set 1), .int .u64 (word t.set 2), .int .u64 (word t.set 3), .int .i64 t.lo, .int .i64 t.hi, k] 29)).cell? ((⟨w.heap.size, 0, none⟩ : Addr).add j) = some u := by
  intro j u hu
  have hj : j < 8 := by
    have := List.getElem?_eq_some_iff.1 hu
    simpa [nodeC] using this.1
  have hadd : (⟨w.heap.size, 0, none⟩ : Addr).add j = ⟨w.heap.size, j, none⟩ := by unfold Addr.add; split <;> simp_all
  rw [hadd, cell_of_row _ _ j _ 29 (0, 0) (heap_alloc_new w _), ← hu]
  simp [nodeC]
/-- A kid that was read behind the row. -/
theorem kid_tree {t : T} {k : Value} (hrow : Row wx B v l) (hB : B ≤ wx.heap.size) (ht : Tree w (fun b => wx.heap.size ≤ b) t k) : Tree w (fun b => B ≤ b ∧ some b ≠ v.ownBlock) t k :=
  ht.weak fun b hb _ => ⟨by omega, fun e => by have := hrow.lt b e.symm; omega⟩
end

/-- What a piece tells, wherever the reader is. -/
def Pieces (g : Nat) (s : ByteArray) (deep : Option (Nat → R T)) (n : Int) : Prop := ∀ w st', Rdr w g s st' → st'.opn = n → st'.pos ≤ s.size →
  Calls Tryd.prog 97 #[.pointer (some ⟨g, 0, none⟩)] w (RetNode w g s (cPiece s deep st'.pos) st')
theorem pieces_of {g : Nat} {s : ByteArray} {deep : Option (Nat → R T)} {n : Int} (hs : s.size ≤ 1000) (hd : Deep g s deep n) : Pieces g s deep n :=
  fun w st' h1 h2 h3 => piece_p w g s st' h1 hs h3 deep (h2 ▸ hd)

set_option maxRecDepth 20000 in
set_option maxHeartbeats 4000000 in
theorem part_p (w : World) (g : Nat) (s : ByteArray) (st : St) (h : Rdr w g s st) (hs : s.size ≤ 1000) (hpos : st.pos ≤ s.size) (hopn : 0 ≤ st.opn ∧ st.opn ≤ 20) (deep : Option (Nat → R T)) (hd : Deep g s deep st.opn) (hfw : ∀ f, deep = some f → ∀ p, p ≤ s.size → Fwd s p (f p)) :
    Calls Tryd.prog 85 #[.pointer (some ⟨g, 0, none⟩)] w (RetNode w g s (cPart s deep (st.opn == 0) st.pos) st) := by
  have mid := Mid.start h
  have HA := pieces_of hs hd
  unfold Pieces at HA
  replace HA := Lib.hid HA
  have HF := Lib.hid (partStep_fwd s deep hfw (st.opn == 0))
  have hgw := h.lt
  have hgb : g ≠ w.heap.size := by omega
  have hgb' : w.heap.size ≠ g := by omega
  generalize hw0 : w.alloc (.cells #[.int .i64 0, .int .u64 0, .int .u64 0, .int .u64 0, .int .u64 0, .int .i64 0, .int .i64 0, .slice none 0 0] 29) = w0 at mid
  have HW := Lib.hid hw0
  clear hw0 hd hfw
  go_enter Tryd.func85, Tryd.ntmps85
  go_wp2_with fail
  rw [HW.out]
  clear HW
  go_wp2_with (go_at_call 97; (with_reducible refine (HA.out _ _ mid.rdr rfl hpos).mono ?_); rintro e w1 ⟨t1, k1, st1, rfl, ht1, r1, o1, hr1⟩; obtain ⟨A, tn, tc, rfl⟩ := ht1.form; unfold nodeV; have mid1 := mid.next o1 r1; have hw1 := mid1.new)
  have hrow := Row.new w1 (w.heap.size + 1) t1 (.slice A tn tc) hw1 (ht1.weak fun b hb _ => by have := mid.new; omega)
  have hgo := Lib.hid (Going.start (step := partStep s deep (st.opn == 0)) (f := fun t => [t]) hr1)
  generalize hm0 : (if st1.bad = 0 then s.size + 1 else 0) = m0 at hgo
  have hm1 : m0 ≤ s.size + 1 := by rw [← hm0]; split <;> omega
  have mid2 := mid1.alloc (.cells #[.int .i64 t1.op, .int .u64 (word t1.set 0), .int .u64 (word t1.set 1), .int .u64 (word t1.set 2), .int .u64 (word t1.set 3), .int .i64 t1.lo, .int .i64 t1.hi, (.slice A tn tc)] 29)
  generalize w1.alloc (.cells #[.int .i64 t1.op, .int .u64 (word t1.set 0), .int .u64 (word t1.set 1), .int .u64 (word t1.set 2), .int .u64 (word t1.set 3), .int .i64 t1.lo, .int .i64 t1.hi, (.slice A tn tc)] 29) = w2 at *
  clear hm0 mid mid1 r1 o1 hr1 ht1
  go_loopg [3] m0 (fun m v wr => ∃ l st2, Mid w g s st2 wr ∧ Row wr (w.heap.size + 1) v l ∧ 0 < l.length ∧ l.length + m ≤ s.size + 2 ∧ Going s (thenR (cPiece s deep st.pos) fun b p => loopR (partStep s deep (st.opn == 0)) (s.size + 1) [b] p) (partStep s deep (st.opn == 0)) st m l st2)
  case atStart => exact ⟨[t1], st1, mid2, hrow, by simp, by simp; omega, hgo.out⟩
  case round =>
    clear mid2 hrow hgo hm1
    obtain ⟨l, st2, mid, hrow, hl0, hlm, hgo⟩ := hrel
    have hp2 := hgo.pos
    have ho2 := hgo.opn
    by_cases hgoes : 0 ≤ st2.peek s ∧ st2.peek s ≠ 124 ∧ (st2.peek s ≠ 41 ∨ st2.opn = 0)
    · obtain ⟨h1, h2, h3⟩ := hgoes
      have hb2 := (peek_pos s st2 h1).1
      have hlt := (peek_pos s st2 h1).2
      have hpk := peek_ok s st2 hb2 hlt
      have hst : partStep s deep (st.opn == 0) l st2.pos = some (thenR (cPiece s deep st2.pos) fun t p => .ok (l ++ [t], p)) := by
        unfold partStep
        rw [if_pos ⟨hlt, by omega, by rcases h3 with h3 | h3; exact .inl (by omega); exact .inr (by simpa [ho2] using h3)⟩]
      have HST := Lib.hid hst
      have HGO := Lib.hid hgo
      have HO2 := Lib.hid ho2
      have HB2 := Lib.hid hb2
      have e1 : decide (0 ≤ st2.peek s) = true := by simpa using h1
      have e2 : (st2.peek s != 124) = true := by simpa using h2
      have hll : l.length ≤ 100000 := by omega
      have hBw : w.heap.size + 1 ≤ wr.heap.size := mid.new
      obtain ⟨l0, l1, l2, l3, l4⟩ := mid.rdr.cell
      clear hst hgo ho2 hb2 hpk h2
      by_cases h41 : st2.peek s = 41
      · have e3 : (st2.peek s != 41) = false := by simpa using h41
        have e4 : (st2.opn == 0) = true := by simpa using h3.resolve_left (fun h => h h41)
        clear h3 h41
        go_wp2_with (first
          | (go_at_call 86; (with_reducible refine (peek_p _ g s st2 (by first | with_reducible exact mid.rdr | with_reducible exact mid.rdr.drewN _) hs).mono ?_); rintro e w3 ⟨rfl, n, rfl⟩)
          | (go_at_call 97; (with_reducible refine (HA.out _ _ (mid.rdr.drewN _) HO2.out hp2).mono ?_); rintro e w4 ⟨t, k, st4, rfl, ht4, r4, o4, hr4⟩; obtain ⟨A, tn, tc, rfl⟩ := ht4.form; unfold nodeV; have mid4 := (mid.drewN _).next o4 r4; have row4 := (hrow.drewN _).only o4 (mid.rdr.drewN _); have ht5 := kid_tree (hrow.drewN _) hBw ht4; have hw4 : w.heap.size + 1 ≤ w4.heap.size := mid4.new)
          | (at_builtin; refine wpList_push (by rfl) _ _ (by rfl) (by rfl) (row4.alloc _) (by simp; omega) hll t (.slice A tn tc) (ht5.alloc _) ⟨w4.heap.size, 0, none⟩ 1 (by rfl) (kid_cells w4 t (.slice A tn tc)) ?_; intro v6 w6 row6 o6 hB6; have mid6 := (mid4.alloc _).row o6 (fun b hb => by have := (row4.lt b hb).1; omega)))
        have hre : Rel s (thenR (cPiece s deep st2.pos) fun t p => .ok (l ++ [t], p)) st2 (l ++ [t]) st4 := hr4.then (fun hz => ⟨rfl, rfl, rfl, hr4.pos⟩) fun _ hz => Rel.mk0 rfl hr4.pos (fun h => absurd hz h) fun _ => .inl ⟨hz, rfl⟩
        have HG := HGO.out.on HB2.out HST.out hre (HF.out l st2.pos _ HST.out)
        go_roundg (if st4.bad = 0 then gk - 1 else 0)
        case measure => exact HG.1
        case rel => exact ⟨l ++ [t], st4, mid6, row6, by simp, by have := HG.1; simp; omega, HG.2⟩
      · have e3 : (st2.peek s != 41) = true := by simpa using h41
        clear h3 h41
        go_wp2_with (first
          | (go_at_call 86; (with_reducible refine (peek_p _ g s st2 (by first | with_reducible exact mid.rdr | with_reducible exact mid.rdr.drewN _) hs).mono ?_); rintro e w3 ⟨rfl, n, rfl⟩)
          | (go_at_call 97; (with_reducible refine (HA.out _ _ (mid.rdr.drewN _) HO2.out hp2).mono ?_); rintro e w4 ⟨t, k, st4, rfl, ht4, r4, o4, hr4⟩; obtain ⟨A, tn, tc, rfl⟩ := ht4.form; unfold nodeV; have mid4 := (mid.drewN _).next o4 r4; have row4 := (hrow.drewN _).only o4 (mid.rdr.drewN _); have ht5 := kid_tree (hrow.drewN _) hBw ht4; have hw4 : w.heap.size + 1 ≤ w4.heap.size := mid4.new)
          | (at_builtin; refine wpList_push (by rfl) _ _ (by rfl) (by rfl) (row4.alloc _) (by simp; omega) hll t (.slice A tn tc) (ht5.alloc _) ⟨w4.heap.size, 0, none⟩ 1 (by rfl) (kid_cells w4 t (.slice A tn tc)) ?_; intro v6 w6 row6 o6 hB6; have mid6 := (mid4.alloc _).row o6 (fun b hb => by have := (row4.lt b hb).1; omega)))
        have hre : Rel s (thenR (cPiece s deep st2.pos) fun t p => .ok (l ++ [t], p)) st2 (l ++ [t]) st4 := hr4.then (fun hz => ⟨rfl, rfl, rfl, hr4.pos⟩) fun _ hz => Rel.mk0 rfl hr4.pos (fun h => absurd hz h) fun _ => .inl ⟨hz, rfl⟩
        have HG := HGO.out.on HB2.out HST.out hre (HF.out l st2.pos _ HST.out)
        go_roundg (if st4.bad = 0 then gk - 1 else 0)
        case measure => exact HG.1
        case rel => exact ⟨l ++ [t], st4, mid6, row6, by simp, by have := HG.1; simp; omega, HG.2⟩
    · have hre := hgo.stop fun hb => by
        unfold partStep
        rw [if_neg]
        rintro ⟨h1, h2, h3⟩
        have := peek_ok s st2 hb h1
        exact hgoes ⟨by omega, by omega, by rcases h3 with h3 | h3; exact .inl (by omega); exact .inr (by rw [ho2]; simpa using h3)⟩
      have HRE : Hid (Rel s (cPart s deep (st.opn == 0) st.pos) st (T.many 2 l) st2) := by
        show Rel s (cPart s deep (st.opn == 0) st.pos) st (T.many 2 l) st2
        exact hre.then (fun hz => ⟨rfl, rfl, rfl, hp2⟩) fun _ hz => Rel.mk0 rfl hp2 (fun h => absurd hz h) fun _ => .inl ⟨hz, rfl⟩
      clear hre hgo
      have hbd := peek_bd s st2
      rcases (show st2.peek s < 0 ∨ (0 ≤ st2.peek s ∧ st2.peek s = 124) ∨ (0 ≤ st2.peek s ∧ st2.peek s = 41 ∧ st2.opn ≠ 0) by omega) with h1 | ⟨h1, h2⟩ | ⟨h1, h2, h3⟩
      · have e1 : decide (0 ≤ st2.peek s) = false := by simp; omega
        clear hgoes
        obtain ⟨l0, l1, l2, l3, l4⟩ := mid.rdr.cell
        go_wp2_with (first
          | (go_at_call 86; (with_reducible refine (peek_p _ g s st2 (by first | with_reducible exact mid.rdr | with_reducible exact mid.rdr.drewN _) hs).mono ?_); rintro e w3 ⟨rfl, n, rfl⟩)
          | (go_at_call 87; (with_reducible refine (many_p _ _ _ _ _ (hrow.drewN _) hl0).mono ?_); rintro e w4 ⟨k, rfl, ht4, hb4⟩; obtain ⟨A, tn, tc, rfl⟩ := ht4.form; unfold nodeV; have mid4 := (mid.drewN _).below hb4; obtain ⟨m0, m1, m2, m3, m4, m5, m6, m7⟩ := mid4.box.cell; obtain ⟨y0, y1, y2, y3, y4, y5, y6, y7⟩ := mid4.box.frozen))
        refine bodyPost_ret (v := nodeV (T.many 2 l) (.slice A tn tc)) ?_ rfl (mid4.ret (ht4.weak fun b hb _ => hb) HRE.out)
        simp [nodeV, T.zero, T.op, T.set, T.lo, T.hi, word_none, results, Tryd.results85, go_sem, m0, m1, m2, m3, m4, m5, m6, m7]
      · have e2 : (st2.peek s != 124) = false := by simpa using h2
        have e1 : decide (0 ≤ st2.peek s) = true := by simpa using h1
        clear hgoes h2
        obtain ⟨l0, l1, l2, l3, l4⟩ := mid.rdr.cell
        go_wp2_with (first
          | (go_at_call 86; (with_reducible refine (peek_p _ g s st2 (by first | with_reducible exact mid.rdr | with_reducible exact mid.rdr.drewN _) hs).mono ?_); rintro e w3 ⟨rfl, n, rfl⟩)
          | (go_at_call 87; (with_reducible refine (many_p _ _ _ _ _ (hrow.drewN _) hl0).mono ?_); rintro e w4 ⟨k, rfl, ht4, hb4⟩; obtain ⟨A, tn, tc, rfl⟩ := ht4.form; unfold nodeV; have mid4 := (mid.drewN _).below hb4; obtain ⟨m0, m1, m2, m3, m4, m5, m6, m7⟩ := mid4.box.cell; obtain ⟨y0, y1, y2, y3, y4, y5, y6, y7⟩ := mid4.box.frozen))
        refine bodyPost_ret (v := nodeV (T.many 2 l) (.slice A tn tc)) ?_ rfl (mid4.ret (ht4.weak fun b hb _ => hb) HRE.out)
        simp [nodeV, T.zero, T.op, T.set, T.lo, T.hi, word_none, results, Tryd.results85, go_sem, m0, m1, m2, m3, m4, m5, m6, m7]
      · have e2 : (st2.peek s != 124) = true := by simp; omega
        have e1 : decide (0 ≤ st2.peek s) = true := by simpa using h1
        have e3 : (st2.peek s != 41) = false := by simpa using h2
        have e4 : (st2.opn == 0) = false := by simpa using h3
        clear hgoes h2 h3 ho2
        obtain ⟨l0, l1, l2, l3, l4⟩ := mid.rdr.cell
        go_wp2_with (first
          | (go_at_call 86; (with_reducible refine (peek_p _ g s st2 (by first | with_reducible exact mid.rdr | with_reducible exact mid.rdr.drewN _) hs).mono ?_); rintro e w3 ⟨rfl, n, rfl⟩)
          | (go_at_call 87; (with_reducible refine (many_p _ _ _ _ _ (hrow.drewN _) hl0).mono ?_); rintro e w4 ⟨k, rfl, ht4, hb4⟩; obtain ⟨A, tn, tc, rfl⟩ := ht4.form; unfold nodeV; have mid4 := (mid.drewN _).below hb4; obtain ⟨m0, m1, m2, m3, m4, m5, m6, m7⟩ := mid4.box.cell; obtain ⟨y0, y1, y2, y3, y4, y5, y6, y7⟩ := mid4.box.frozen))
        refine bodyPost_ret (v := nodeV (T.many 2 l) (.slice A tn tc)) ?_ rfl (mid4.ret (ht4.weak fun b hb _ => hb) HRE.out)
        simp [nodeV, T.zero, T.op, T.set, T.lo, T.hi, word_none, results, Tryd.results85, go_sem, m0, m1, m2, m3, m4, m5, m6, m7]

end Go.Proofs.YtccbeimcggamiaaDoor

/-
  The document's own reader of patterns: pattern, Parse: what they do, held against the grammar. Contracts for other texts; no statement of its own.
-/
namespace Go.Proofs.YtccbeimcggamiaaDoor
open Go Go.RowKit
attribute [local go_sem ↓] Go.wp_at_zero Go.wp_at_succ

/-- What a part tells, wherever the reader is. -/
theorem parts_of {g : Nat} {s : ByteArray} {deep : Option (Nat → R T)} {n : Int} (hs : s.size ≤ 1000) (hn : 0 ≤ n ∧ n ≤ 20) (hd : Deep g s deep n) (hfw : ∀ f, deep = some f → ∀ p, p ≤ s.size → Fwd s p (f p)) : ∀ w st', Rdr w g s st' → st'.opn = n → st'.pos ≤ s.size →
    Calls Tryd.prog 85 #[.pointer (some ⟨g, 0, none⟩)] w (RetNode w g s (cPart s deep (n == 0) st'.pos) st') := by
  intro w st' h1 h2 h3
  subst h2
  exact part_p w g s st' h1 hs h3 hn deep hd hfw

set_option maxRecDepth 20000 in
set_option maxHeartbeats 4000000 in
theorem pattern_p (w : World) (g : Nat) (s : ByteArray) (st : St) (h : Rdr w g s st) (hs : s.size ≤ 1000) (hpos : st.pos ≤ s.size) (hopn : 0 ≤ st.opn ∧ st.opn ≤ 20) (deep : Option (Nat → R T)) (hd : Deep g s deep st.opn) (hfw : ∀ f, deep = some f → ∀ p, p ≤ s.size → Fwd s p (f p)) :
    Calls Tryd.prog 56 #[.pointer (some ⟨g, 0, none⟩)] w (RetNode w g s (cPat s deep (st.opn == 0) st.pos) st) := by
  have mid := Mid.start h
  have HA := Lib.hid (parts_of hs hopn hd hfw)
  have HF := Lib.hid (patStep_fwd s deep hfw (st.opn == 0))
  have hgw := h.lt
  have hgb : g ≠ w.heap.size := by omega
  have hgb' : w.heap.size ≠ g := by omega
  generalize hw0 : w.alloc (.cells #[.int .i64 0, .int .u64 0, .int .u64 0, .int .u64 0, .int .u64 0, .int .i64 0, .int .i64 0, .slice none 0 0] 29) = w0 at mid
  have HW := Lib.hid hw0
  clear hw0 hd hfw
  go_enter Tryd.func56, Tryd.ntmps56
  go_wp2_with fail
  rw [HW.out]
  clear HW
  go_wp2_with (go_at_call 85; (with_reducible refine (HA.out _ _ mid.rdr rfl hpos).mono ?_); rintro e w1 ⟨t1, k1, st1, rfl, ht1, r1, o1, hr1⟩; obtain ⟨A, tn, tc, rfl⟩ := ht1.form; unfold nodeV; have mid1 := mid.next o1 r1; have hw1 := mid1.new)
  have hrow := Row.new w1 (w.heap.size + 1) t1 (.slice A tn tc) hw1 (ht1.weak fun b hb _ => by have := mid.new; omega)
  have hgo := Lib.hid (Going.start (step := patStep s deep (st.opn == 0)) (f := fun t => [t]) hr1)
  generalize hm0 : (if st1.bad = 0 then s.size + 1 else 0) = m0 at hgo
  have hm1 : m0 ≤ s.size + 1 := by rw [← hm0]; split <;> omega
  have mid2 := mid1.alloc (.cells #[.int .i64 t1.op, .int .u64 (word t1.set 0), .int .u64 (word t1.set 1), .int .u64 (word t1.set 2), .int .u64 (word t1.set 3), .int .i64 t1.lo, .int .i64 t1.hi, (.slice A tn tc)] 29)
  generalize w1.alloc (.cells #[.int .i64 t1.op, .int .u64 (word t1.set 0), .int .u64 (word t1.set 1), .int .u64 (word t1.set 2), .int .u64 (word t1.set 3), .int .i64 t1.lo, .int .i64 t1.hi, (.slice A tn tc)] 29) = w2 at *
  clear hm0 mid mid1 r1 o1 hr1 ht1
  go_loopg [3] m0 (fun m v wr => ∃ l st2, Mid w g s st2 wr ∧ Row wr (w.heap.size + 1) v l ∧ 0 < l.length ∧ l.length + m ≤ s.size + 2 ∧ Going s (thenR (cPart s deep (st.opn == 0) st.pos) fun b p => loopR (patStep s deep (st.opn == 0)) (s.size + 1) [b] p) (patStep s deep (st.opn == 0)) st m l st2)
  case atStart => exact ⟨[t1], st1, mid2, hrow, by simp, by simp; omega, hgo.out⟩
  case round =>
    clear mid2 hrow hgo hm1
    obtain ⟨l, st2, mid, hrow, hl0, hlm, hgo⟩ := hrel
    have hp2 := hgo.pos
    have ho2 := hgo.opn
    by_cases h124 : st2.peek s = 124
    · have hb2 := (peek_pos s st2 (by omega)).1
      have hlt := (peek_pos s st2 (by omega)).2
      have hst : patStep s deep (st.opn == 0) l st2.pos = some (thenR (cPart s deep (st.opn == 0) (st2.pos + 1)) fun t p => .ok (l ++ [t], p)) := by
        unfold patStep
        rw [if_pos ((peek_isB s st2 hb2 124).1 h124)]
      have HST := Lib.hid hst
      have HGO := Lib.hid hgo
      have HO2 := Lib.hid ho2
      have HB2 := Lib.hid hb2
      have e1 : (st2.peek s == 124) = true := by simpa using h124
      have hll : l.length ≤ 100000 := by omega
      have hBw : w.heap.size + 1 ≤ wr.heap.size := mid.new
      have hp3 : st2.pos + 1 ≤ s.size := by omega
      obtain ⟨l0, l1, l2, l3, l4⟩ := mid.rdr.cell
      obtain ⟨f0, f1, f2, f3, f4⟩ := mid.rdr.frozen
      clear hst hgo ho2 hb2 h124
      go_wp2_with (first
        | (go_at_call 86; (with_reducible refine (peek_p _ g s st2 (by first | with_reducible exact mid.rdr | with_reducible exact mid.rdr.drewN _) hs).mono ?_); rintro e w3 ⟨rfl, n, rfl⟩)
        | (go_at_call 85; refine (HA.out _ _ ((mid.drewN n).setPos (st2.pos + 1)).rdr HO2.out hp3).mono ?_; rintro e w4 ⟨t, k, st4, rfl, ht4, r4, o4, hr4⟩; obtain ⟨A, tn, tc, rfl⟩ := ht4.form; unfold nodeV; have mid4 := ((mid.drewN n).setPos (st2.pos + 1)).next o4 r4; have row4 := ((hrow.drewN n).far (g := g) (by omega) (i := 1) (.int .i64 ((st2.pos + 1 : Nat) : Int))).only o4 ((mid.drewN n).setPos (st2.pos + 1)).rdr; have ht5 := kid_tree ((hrow.drewN n).far (g := g) (by omega) (i := 1) (.int .i64 ((st2.pos + 1 : Nat) : Int))) (by simpa [World.setCell] using hBw) ht4; have hw4 : w.heap.size + 1 ≤ w4.heap.size := mid4.new)
        | (at_builtin; refine wpList_push (by rfl) _ _ (by rfl) (by rfl) (row4.alloc _) (by simp; omega) hll t (.slice A tn tc) (ht5.alloc _) ⟨w4.heap.size, 0, none⟩ 1 (by rfl) (kid_cells w4 t (.slice A tn tc)) ?_; intro v6 w6 row6 o6 hB6; have mid6 := (mid4.alloc _).row o6 (fun b hb => by have := (row4.lt b hb).1; omega)))
      have hre : Rel s (thenR (cPart s deep (st.opn == 0) (st2.pos + 1)) fun t p => .ok (l ++ [t], p)) st2 (l ++ [t]) st4 := (hr4.from (st := st2) rfl rfl rfl).then (fun hz => ⟨rfl, rfl, rfl, hr4.pos⟩) fun _ hz => Rel.mk0 rfl hr4.pos (fun h => absurd hz h) fun _ => .inl ⟨hz, rfl⟩
      have HG := HGO.out.on HB2.out HST.out hre (HF.out l st2.pos _ HST.out)
      go_roundg (if st4.bad = 0 then gk - 1 else 0)
      case measure => exact HG.1
      case rel => exact ⟨l ++ [t], st4, mid6, row6, by simp, by have := HG.1; simp; omega, HG.2⟩
    · have hre := hgo.stop fun hb => by
        unfold patStep
        rw [if_neg fun h => h124 ((peek_isB s st2 hb 124).2 h)]
      have HRE : Hid (Rel s (cPat s deep (st.opn == 0) st.pos) st (T.many 3 l) st2) := by
        show Rel s (cPat s deep (st.opn == 0) st.pos) st (T.many 3 l) st2
        exact hre.then (fun hz => ⟨rfl, rfl, rfl, hp2⟩) fun _ hz => Rel.mk0 rfl hp2 (fun h => absurd hz h) fun _ => .inl ⟨hz, rfl⟩
      have e1 : (st2.peek s == 124) = false := by simpa using h124
      clear hre hgo h124
      obtain ⟨l0, l1, l2, l3, l4⟩ := mid.rdr.cell
      go_wp2_with (first
        | (go_at_call 86; (with_reducible refine (peek_p _ g s st2 (by first | with_reducible exact mid.rdr | with_reducible exact mid.rdr.drewN _) hs).mono ?_); rintro e w3 ⟨rfl, n, rfl⟩)
        | (go_at_call 87; (with_reducible refine (many_p _ _ _ _ _ (hrow.drewN _) hl0).mono ?_); rintro e w4 ⟨k, rfl, ht4, hb4⟩; obtain ⟨A, tn, tc, rfl⟩ := ht4.form; unfold nodeV; have mid4 := (mid.drewN _).below hb4; obtain ⟨m0, m1, m2, m3, m4, m5, m6, m7⟩ := mid4.box.cell; obtain ⟨y0, y1, y2, y3, y4, y5, y6, y7⟩ := mid4.box.frozen))
      refine bodyPost_ret (v := nodeV (T.many 3 l) (.slice A tn tc)) ?_ rfl (mid4.ret (ht4.weak fun b hb _ => hb) HRE.out)
      simp [nodeV, T.zero, T.op, T.set, T.lo, T.hi, word_none, results, Tryd.results56, go_sem, m0, m1, m2, m3, m4, m5, m6, m7]

theorem pat_p : ∀ (d : Nat), d ≤ 20 → ∀ (w : World) (g : Nat) (s : ByteArray) (st : St), Rdr w g s st → s.size ≤ 1000 → st.pos ≤ s.size → st.opn = 20 - (d : Int) →
    Calls Tryd.prog 56 #[.pointer (some ⟨g, 0, none⟩)] w (RetNode w g s (pat s d (st.opn == 0) st.pos) st)
  | 0, _, w, g, s, st, h, hs, hpos, ho => pattern_p w g s st h hs hpos (by omega) none (.inl ⟨rfl, by omega⟩) (fun f h => by cases h)
  | d + 1, hd, w, g, s, st, h, hs, hpos, ho => by
    refine pattern_p w g s st h hs hpos (by omega) (some (pat s d false)) (.inr ⟨_, rfl, by omega, by omega, fun w' st' h1 h2 h3 => ?_⟩) (fun f h p _ => by cases h; exact pat_fwd s d false p)
    have e : (st'.opn == 0) = false := by simp; omega
    rw [← e]
    exact pat_p d (by omega) w' g s st' h1 hs h3 (by omega)

theorem Rdr.new (w : World) (s : ByteArray) : Rdr (w.alloc (.cells #[.string s, .int .i64 0, .int .i64 0, .int .i64 0, .int .i64 0] 136)) w.heap.size s ⟨0, 0, 0, 0⟩ := heap_alloc_new w _
theorem below_new {w w0 w2 : World} {o : Obj} (h : Below w.heap.size w w0) (o2 : (w0.alloc o).grownBy w2 (some w0.heap.size)) : Below w.heap.size w w2 :=
  (h.alloc h.size o).grown o2 (Nat.le_trans h.size (by simp)) (fun j e => by injection e with e; rw [← e]; exact h.size)

/-- All eight cells are nothing. -/
def put80 (w : World) (g : Nat) : World :=
  (((((((w.setCell ⟨g, 0, none⟩ (.int .i64 0)).setCell ⟨g, 1, none⟩ (.int .u64 0)).setCell ⟨g, 2, none⟩ (.int .u64 0)).setCell ⟨g, 3, none⟩ (.int .u64 0)).setCell ⟨g, 4, none⟩ (.int .u64 0)).setCell ⟨g, 5, none⟩ (.int .i64 0)).setCell ⟨g, 6, none⟩ (.int .i64 0)).setCell ⟨g, 7, none⟩ (.slice none 0 0)
theorem put80_eq (w : World) (g : Nat) : put80 w g = put8 w g T.zero (.slice none 0 0) := by
  simp only [put80, put8, T.zero, T.op, T.set, T.lo, T.hi, word_none]

/-- What Parse tells. -/
def RetParse (w : World) (s : ByteArray) (e : Ending) (w' : World) : Prop :=
  ∃ t k bad at_, e = .returned (.tuple #[nodeV t k, .int .i64 bad, .int .i64 at_]) ∧ Tree w' (fun b => w.heap.size ≤ b) t k ∧ Below w.heap.size w w' ∧
    (match parse s with
      | .ok t' => t = t' ∧ bad = 0 ∧ at_ = 0
      | .error (c, a) => t = T.zero ∧ k = .slice none 0 0 ∧ bad = c ∧ at_ = a ∧ c ≠ 0)

set_option maxRecDepth 20000 in
set_option maxHeartbeats 2000000 in
theorem rparse_p (w : World) (s : ByteArray) (hs : s.size ≤ 9223372036854775807) : Calls Tryd.prog 27 #[.string s] w (RetParse w s) := by
  by_cases hl : 200 < s.size
  · have e : parse s = .error (4, 0) := by unfold parse; rw [if_pos hl]
    have HE := Lib.hid e
    clear e
    go_enter Tryd.func27, Tryd.ntmps27
    go_wp2
    refine bodyPost_ret (v := .tuple #[nodeV T.zero (.slice none 0 0), .int .i64 4, .int .i64 0]) ?_ rfl ⟨T.zero, _, 4, 0, rfl, .nil _ rfl, (Below.refl _ _).alloc (Nat.le_refl _) _, ?_⟩
    · simp [nodeV, T.zero, T.op, T.set, T.lo, T.hi, word_none, results, Tryd.results27, go_sem]
    · rw [HE.out]
      simp
  · have HP : Hid (∀ w g st, Rdr w g s st → st = (⟨0, 0, 0, 0⟩ : St) → Calls Tryd.prog 56 #[.pointer (some ⟨g, 0, none⟩)] w (RetNode w g s (pat s 20 true 0) ⟨0, 0, 0, 0⟩)) := by
      intro w g st h1 h2
      subst h2
      exact pat_p 20 (by omega) w g s ⟨0, 0, 0, 0⟩ h1 (by omega) (by simp) (by simp)
    go_enter Tryd.func27, Tryd.ntmps27
    go_upto_region 3 with fail
    have b0 := Box8.new0 w
    have hB0 : Below w.heap.size w (w.alloc (.cells #[.int .i64 0, .int .u64 0, .int .u64 0, .int .u64 0, .int .u64 0, .int .i64 0, .int .i64 0, .slice none 0 0] 29)) := (Below.refl _ _).alloc (Nat.le_refl _) _
    generalize w.alloc (.cells #[.int .i64 0, .int .u64 0, .int .u64 0, .int .u64 0, .int .u64 0, .int .i64 0, .int .i64 0, .slice none 0 0] 29) = w0 at *
    have hw0 := b0.lt
    go_wp2_with (go_at_call 56; refine (HP.out _ w0.heap.size _ (Rdr.new w0 s) rfl).mono ?_; rintro e w2 ⟨t, k, st2, rfl, ht, r2, o2, hr⟩; obtain ⟨A, tn, tc, rfl⟩ := ht.form; unfold nodeV; have b2 := (b0.alloc _).grown o2 (by simp; omega); have hB2 := below_new hB0 o2; obtain ⟨m0, m1, m2, m3, m4, m5, m6, m7⟩ := b2.cell; obtain ⟨y0, y1, y2, y3, y4, y5, y6, y7⟩ := b2.frozen; obtain ⟨k0, k1, k2, k3, k4⟩ := r2.cell; have hg2 := r2.lt; have hw2 := b2.lt; have hx1 : w.heap.size ≠ w2.heap.size := (by omega); have hx2 : w0.heap.size ≠ w2.heap.size := (by omega); have HR := Lib.hid hr; clear hr)
    · have hb : st2.bad ≠ 0 := by simpa using ‹(st2.bad != 0) = true›
      have hp : parse s = .error (st2.bad, st2.spot) := by
        unfold parse
        rw [if_neg hl]
        rcases HR.out.cases rfl with ⟨h1, _⟩ | ⟨_, h2⟩
        · exact absurd h1 hb
        · rw [h2]
      have HPP := Lib.hid hp
      have HB := Lib.hid hb
      clear hp hb
      go_region
      all_goals
        go_wp2
        have bF := (b2.put (t' := T.zero) (k' := .slice none 0 0) T.zero (.slice none 0 0)).alloc (.cells #[.int .i64 t.op, .int .u64 (word t.set 0), .int .u64 (word t.set 1), .int .u64 (word t.set 2), .int .u64 (word t.set 3), .int .i64 t.lo, .int .i64 t.hi, .slice A tn tc] 29)
        have hF := (below_put8 hB2 (Nat.le_refl _) T.zero (.slice none 0 0)).alloc (by rw [put8_size]; omega) (.cells #[.int .i64 t.op, .int .u64 (word t.set 0), .int .u64 (word t.set 1), .int .u64 (word t.set 2), .int .u64 (word t.set 3), .int .i64 t.lo, .int .i64 t.hi, .slice A tn tc] 29)
        rw [← put80_eq] at bF hF
        change bodyPost _ _ _ _ _ (World.drew ((put80 w2 w.heap.size).alloc (.cells #[.int .i64 t.op, .int .u64 (word t.set 0), .int .u64 (word t.set 1), .int .u64 (word t.set 2), .int .u64 (word t.set 3), .int .i64 t.lo, .int .i64 t.hi, .slice A tn tc] 29)))
        generalize (put80 w2 w.heap.size).alloc (.cells #[.int .i64 t.op, .int .u64 (word t.set 0), .int .u64 (word t.set 1), .int .u64 (word t.set 2), .int .u64 (word t.set 3), .int .i64 t.lo, .int .i64 t.hi, .slice A tn tc] 29) = wF at *
        obtain ⟨F0, F1, F2, F3, F4, F5, F6, F7⟩ := bF.cell
        replace hF := hF.drew
        refine bodyPost_ret (v := .tuple #[nodeV T.zero (.slice none 0 0), .int .i64 st2.bad, .int .i64 st2.spot]) ?_ rfl ⟨T.zero, _, st2.bad, st2.spot, rfl, .nil _ rfl, hF, ?_⟩
        · simp [nodeV, results, Tryd.results27, go_sem, F0, F1, F2, F3, F4, F5, F6, F7]
        · rw [HPP.out]
          exact ⟨rfl, rfl, rfl, rfl, HB.out⟩
    · have hb : st2.bad = 0 := by simpa using ‹(st2.bad != 0) = false›
      have hp : parse s = .ok t := by
        unfold parse
        rw [if_neg hl]
        rcases HR.out.cases rfl with ⟨_, h2⟩ | ⟨h1, _⟩
        · rw [h2]
        · exact absurd hb h1
      have bF := (b2.put (t' := t) (k' := .slice A tn tc) t (.slice A tn tc)).alloc (.cells #[.int .i64 t.op, .int .u64 (word t.set 0), .int .u64 (word t.set 1), .int .u64 (word t.set 2), .int .u64 (word t.set 3), .int .i64 t.lo, .int .i64 t.hi, .slice A tn tc] 29)
      have tF := (((ht.weak (ok' := fun b => w.heap.size ≤ b ∧ b ≠ w.heap.size) fun b hb _ => by simp at hb; omega).put8 (g' := w.heap.size) (t' := t) (k' := .slice A tn tc) fun b hb => hb.2).alloc (.cells #[.int .i64 t.op, .int .u64 (word t.set 0), .int .u64 (word t.set 1), .int .u64 (word t.set 2), .int .u64 (word t.set 3), .int .i64 t.lo, .int .i64 t.hi, .slice A tn tc] 29)).weak (ok' := fun b => w.heap.size ≤ b) fun b hb _ => hb.1
      have hF := (below_put8 hB2 (Nat.le_refl _) t (.slice A tn tc)).alloc (by rw [put8_size]; omega) (.cells #[.int .i64 t.op, .int .u64 (word t.set 0), .int .u64 (word t.set 1), .int .u64 (word t.set 2), .int .u64 (word t.set 3), .int .i64 t.lo, .int .i64 t.hi, .slice A tn tc] 29)
      change bodyPost _ _ _ _ _ ((put8 w2 w.heap.size t (.slice A tn tc)).alloc (.cells #[.int .i64 t.op, .int .u64 (word t.set 0), .int .u64 (word t.set 1), .int .u64 (word t.set 2), .int .u64 (word t.set 3), .int .i64 t.lo, .int .i64 t.hi, .slice A tn tc] 29))
      generalize (put8 w2 w.heap.size t (.slice A tn tc)).alloc (.cells #[.int .i64 t.op, .int .u64 (word t.set 0), .int .u64 (word t.set 1), .int .u64 (word t.set 2), .int .u64 (word t.set 3), .int .i64 t.lo, .int .i64 t.hi, .slice A tn tc] 29) = wF at *
      obtain ⟨F0, F1, F2, F3, F4, F5, F6, F7⟩ := bF.cell
      refine bodyPost_ret (v := .tuple #[nodeV t (.slice A tn tc), .int .i64 0, .int .i64 0]) ?_ rfl ⟨t, _, 0, 0, rfl, tF, hF, ?_⟩
      · simp [nodeV, results, Tryd.results27, go_sem, F0, F1, F2, F3, F4, F5, F6, F7]
      · rw [hp]
        exact ⟨rfl, rfl, rfl⟩

end Go.Proofs.YtccbeimcggamiaaDoor

/-
  The laws' own Pattern. Contracts for other texts; no statement of its own.
-/
namespace Go.Proofs.YtccbeimcggamiaaDoor
open Go Go.RowKit
attribute [local go_sem ↓] Go.wp_at_zero Go.wp_at_succ

/-- What Pattern tells: a pattern as the grammar makes it, or none. -/
def RetPattern (w : World) (s : ByteArray) (e : Ending) (w' : World) : Prop :=
  ∃ t k ok, e = .returned (.tuple #[nodeV t k, .int .i64 ok]) ∧ Tree w' (fun b => w.heap.size ≤ b) t k ∧ Below w.heap.size w w' ∧
    ((ok = 1 ∧ parse s = .ok t ∧ WF t ∧ plN t ≤ 60) ∨ (ok = 0 ∧ t = T.zero ∧ k = .slice none 0 0 ∧ ∀ t', parse s = .ok t' → ¬ plN t' ≤ 60))

set_option maxRecDepth 20000 in
set_option maxHeartbeats 2000000 in
theorem pattern0_p (w : World) (s : ByteArray) (hs : s.size ≤ 9223372036854775807) : Calls Tryd.prog 8 #[.string s] w (RetPattern w s) := by
  have HR := Lib.hid (fun w => rparse_p w s hs)
  unfold RetParse at HR
  have b0 := Box8.new0 w
  have hB0 : Below w.heap.size w (w.alloc (.cells #[.int .i64 0, .int .u64 0, .int .u64 0, .int .u64 0, .int .u64 0, .int .i64 0, .int .i64 0, .slice none 0 0] 29)) := (Below.refl _ _).alloc (Nat.le_refl _) _
  have hw0 := b0.lt
  cases hp : parse s with
  | error x =>
    obtain ⟨cc, aa⟩ := x
    simp only [hp] at HR
    have HP := Lib.hid hp
    clear hp
    go_enter Tryd.func8, Tryd.ntmps8
    go_wp2_with (go_at_call 27; (with_reducible refine (HR.out _).mono ?_); rintro e w3 ⟨t', k', bad, at_, rfl, ht', hb3, a1, a2, a3, a4, a5⟩; subst a1 a2 a3 a4; have a6 : (bad != 0) = true := (by simpa using a5); clear a5 ht'; unfold nodeV; have b3 := b0.stays hb3; have hl3 := b3.lt; obtain ⟨f0, f1, f2, f3, f4, f5, f6, f7⟩ := b3.frozen; obtain ⟨r0, r1, r2, r3, r4, r5, r6, r7⟩ := b3.cell)
    have hB3 := gro1 (Below.refl _ _) hb3
    have bF := (b3.put (t' := T.zero) (k' := .slice none 0 0) T.zero (.slice none 0 0)).alloc (.cells #[.int .i64 (T.zero).op, .int .u64 (word (T.zero).set 0), .int .u64 (word (T.zero).set 1), .int .u64 (word (T.zero).set 2), .int .u64 (word (T.zero).set 3), .int .i64 (T.zero).lo, .int .i64 (T.zero).hi, .slice none 0 0] 29)
    have hF := (below_put8 hB3 (Nat.le_refl w.heap.size) T.zero (.slice none 0 0)).alloc (by rw [put8_size]; omega) (.cells #[.int .i64 (T.zero).op, .int .u64 (word (T.zero).set 0), .int .u64 (word (T.zero).set 1), .int .u64 (word (T.zero).set 2), .int .u64 (word (T.zero).set 3), .int .i64 (T.zero).lo, .int .i64 (T.zero).hi, .slice none 0 0] 29)
    rw [← put80_eq] at bF hF
    change bodyPost _ _ _ _ _ ((put80 w3 w.heap.size).alloc (.cells #[.int .i64 (T.zero).op, .int .u64 (word (T.zero).set 0), .int .u64 (word (T.zero).set 1), .int .u64 (word (T.zero).set 2), .int .u64 (word (T.zero).set 3), .int .i64 (T.zero).lo, .int .i64 (T.zero).hi, .slice none 0 0] 29))
    generalize (put80 w3 w.heap.size).alloc (.cells #[.int .i64 (T.zero).op, .int .u64 (word (T.zero).set 0), .int .u64 (word (T.zero).set 1), .int .u64 (word (T.zero).set 2), .int .u64 (word (T.zero).set 3), .int .i64 (T.zero).lo, .int .i64 (T.zero).hi, .slice none 0 0] 29) = wF at *
    obtain ⟨F0, F1, F2, F3, F4, F5, F6, F7⟩ := bF.cell
    refine bodyPost_ret (v := .tuple #[nodeV T.zero (.slice none 0 0), .int .i64 0]) ?_ rfl ⟨T.zero, _, 0, rfl, .nil _ rfl, hF, .inr ⟨rfl, rfl, rfl, fun t' e => ?_⟩⟩
    · simp [nodeV, results, Tryd.results8, go_sem, F0, F1, F2, F3, F4, F5, F6, F7]
    · rw [HP.out] at e; cases e
  | ok t =>
    simp only [hp] at HR
    have hwf := wf_parse hp
    have HP := Lib.hid hp
    have HWF := Lib.hid hwf
    clear hp hwf
    by_cases hpl : plN t ≤ 60
    · have HPL : Hid (∀ W k ok, Tree W ok t k → Calls Tryd.prog 29 #[nodeP t k] W fun e w' => ∃ n : Nat, e = .returned (.int .i64 n) ∧ n ≤ 60 ∧ Below W.heap.size W w') := fun W k ok ht => (places_p W HWF.out ht).mono fun e w' h => ⟨plN t, h.1, hpl, h.2⟩
      unfold nodeP at HPL
      have HPL2 := Lib.hid hpl
      clear hpl
      go_enter Tryd.func8, Tryd.ntmps8
      go_wp2_with (first
        | (go_at_call 27; (with_reducible refine (HR.out _).mono ?_); rintro e w3 ⟨t', k', bad, at_, rfl, ht', hb3, a1, a2, a3⟩; have a1' := a1.symm; subst a1' a2 a3; obtain ⟨A, tn, tc, rfl⟩ := ht'.form; unfold nodeV; have ht3 := ht'.alloc (.cells #[.int .i64 (t).op, .int .u64 (word (t).set 0), .int .u64 (word (t).set 1), .int .u64 (word (t).set 2), .int .u64 (word (t).set 3), .int .i64 (t).lo, .int .i64 (t).hi, .slice A tn tc] 29); have hb3' := (gro1 (Below.refl _ _) hb3).alloc (gro1 (Below.refl _ _) hb3).size (.cells #[.int .i64 (t).op, .int .u64 (word (t).set 0), .int .u64 (word (t).set 1), .int .u64 (word (t).set 2), .int .u64 (word (t).set 3), .int .i64 (t).lo, .int .i64 (t).hi, .slice A tn tc] 29); have b3 := b0.stays hb3; have hl3 := b3.lt)
        | (go_at_call 29; (with_reducible refine (HPL.out _ _ _ ht3).mono ?_); rintro e w4 ⟨pn, rfl, hpn, hb4⟩; have ht4 := ht3.stays hb4; have b4 := (b3.alloc _).stays hb4; have x4 := (Box8.new w3 t (.slice A tn tc)).stays hb4; obtain ⟨f0, f1, f2, f3, f4, f5, f6, f7⟩ := b4.frozen; obtain ⟨r0, r1, r2, r3, r4, r5, r6, r7⟩ := b4.cell; obtain ⟨x0, x1, x2, x3, x40, x5, x6, x7⟩ := x4.cell))
      have hB4 := gro hb3' hb4
      have bF := b4.put (t' := t) (k' := .slice A tn tc) t (.slice A tn tc)
      have tF := ((ht4.weak (ok' := fun b => w.heap.size ≤ b ∧ b ≠ w.heap.size) fun b hb _ => by simp at hb; omega).put8 (g' := w.heap.size) (t' := t) (k' := .slice A tn tc) fun b hb => hb.2).weak (ok' := fun b => w.heap.size ≤ b) fun b hb _ => hb.1
      have hF := below_put8 hB4 (Nat.le_refl w.heap.size) t (.slice A tn tc)
      change bodyPost _ _ _ _ _ (put8 w4 w.heap.size t (.slice A tn tc))
      generalize put8 w4 w.heap.size t (.slice A tn tc) = wF at *
      obtain ⟨F0, F1, F2, F3, F4, F5, F6, F7⟩ := bF.cell
      refine bodyPost_ret (v := .tuple #[nodeV t (.slice A tn tc), .int .i64 1]) ?_ rfl ⟨t, _, 1, rfl, tF, hF, .inl ⟨rfl, HP.out, HWF.out, HPL2.out⟩⟩
      simp [nodeV, results, Tryd.results8, go_sem, F0, F1, F2, F3, F4, F5, F6, F7]
    · have HPL : Hid (∀ W k ok, Tree W ok t k → Calls Tryd.prog 29 #[nodeP t k] W fun e w' => ∃ n : Nat, e = .returned (.int .i64 n) ∧ 60 < n ∧ Below W.heap.size W w') := fun W k ok ht => (places_p W HWF.out ht).mono fun e w' h => ⟨plN t, h.1, by omega, h.2⟩
      unfold nodeP at HPL
      have HPL2 := Lib.hid hpl
      clear hpl
      go_enter Tryd.func8, Tryd.ntmps8
      go_wp2_with (first
        | (go_at_call 27; (with_reducible refine (HR.out _).mono ?_); rintro e w3 ⟨t', k', bad, at_, rfl, ht', hb3, a1, a2, a3⟩; have a1' := a1.symm; subst a1' a2 a3; obtain ⟨A, tn, tc, rfl⟩ := ht'.form; unfold nodeV; have ht3 := ht'.alloc (.cells #[.int .i64 (t).op, .int .u64 (word (t).set 0), .int .u64 (word (t).set 1), .int .u64 (word (t).set 2), .int .u64 (word (t).set 3), .int .i64 (t).lo, .int .i64 (t).hi, .slice A tn tc] 29); have hb3' := (gro1 (Below.refl _ _) hb3).alloc (gro1 (Below.refl _ _) hb3).size (.cells #[.int .i64 (t).op, .int .u64 (word (t).set 0), .int .u64 (word (t).set 1), .int .u64 (word (t).set 2), .int .u64 (word (t).set 3), .int .i64 (t).lo, .int .i64 (t).hi, .slice A tn tc] 29); have b3 := b0.stays hb3; have hl3 := b3.lt)
        | (go_at_call 29; (with_reducible refine (HPL.out _ _ _ ht3).mono ?_); rintro e w4 ⟨pn, rfl, hpn, hb4⟩; have ht4 := ht3.stays hb4; have b4 := (b3.alloc _).stays hb4; have x4 := (Box8.new w3 t (.slice A tn tc)).stays hb4; obtain ⟨f0, f1, f2, f3, f4, f5, f6, f7⟩ := b4.frozen; obtain ⟨r0, r1, r2, r3, r4, r5, r6, r7⟩ := b4.cell; obtain ⟨x0, x1, x2, x3, x40, x5, x6, x7⟩ := x4.cell))
      have hB4 := gro hb3' hb4
      have bF := b4.put (t' := T.zero) (k' := .slice none 0 0) T.zero (.slice none 0 0)
      have hF := below_put8 hB4 (Nat.le_refl w.heap.size) T.zero (.slice none 0 0)
      rw [← put80_eq] at bF hF
      change bodyPost _ _ _ _ _ (put80 w4 w.heap.size)
      generalize put80 w4 w.heap.size = wF at *
      obtain ⟨F0, F1, F2, F3, F4, F5, F6, F7⟩ := bF.cell
      refine bodyPost_ret (v := .tuple #[nodeV T.zero (.slice none 0 0), .int .i64 0]) ?_ rfl ⟨T.zero, _, 0, rfl, .nil _ rfl, hF, .inr ⟨rfl, rfl, rfl, fun t' e => ?_⟩⟩
      · simp [nodeV, results, Tryd.results8, go_sem, F0, F1, F2, F3, F4, F5, F6, F7]
      · rw [HP.out] at e
        injection e with e
        rw [← e]
        exact HPL2.out

end Go.Proofs.YtccbeimcggamiaaDoor

/-
  The laws' own Pattern, told or not; bytes that were just laid. Contracts for other texts; no statement of its own.
-/
namespace Go.Proofs.YtccbeimcggamiaaDoor
open Go Go.RowKit

theorem cell_mark (w : World) (C : Array Value) (ty : TypeId) (fr : Nat × Nat) (k : Nat) : (w.alloc (.cells C ty fr)).cell? ⟨w.heap.size, k, none⟩ = C[k]? := by
  have h := World.alloc_heap_new w (.cells C ty fr)
  unfold World.cell?
  dsimp only
  rw [h]
  rfl
theorem rd_mark2 (w : World) (g : Nat) (hg : g = w.heap.size) (v u : Int) (fr : Nat × Nat) : RdB (w.alloc (.cells #[.int .u8 v, .int .u8 u] 5 fr)) (w.alloc (.cells #[.int .u8 v, .int .u8 u] 5 fr)).heap.size (some ⟨g, 0, none⟩) [v, u] := by
  subst hg
  intro k hk
  refine ⟨w.heap.size, 0, rfl, by simp, ?_⟩
  rw [cell_mark]
  simp at hk
  match k, hk with
  | 0, _ => rfl
  | 1, _ => rfl
theorem rd_mark1 (w : World) (g : Nat) (hg : g = w.heap.size) (v : Int) (fr : Nat × Nat) : RdB (w.alloc (.cells #[.int .u8 v] 5 fr)) (w.alloc (.cells #[.int .u8 v] 5 fr)).heap.size (some ⟨g, 0, none⟩) [v] := by
  subst hg
  intro k hk
  refine ⟨w.heap.size, 0, rfl, by simp, ?_⟩
  rw [cell_mark]
  have hk0 : k = 0 := by have h1 : k < 1 := hk; omega
  subst hk0
  rfl
theorem pattern_ok {w : World} {s : ByteArray} {t : T} (hs : s.size ≤ 9223372036854775807) (hp : parse s = .ok t) (hpl : plN t ≤ 60) : Calls Tryd.prog 8 #[.string s] w fun e w' => ∃ A n c, e = .returned (.tuple #[nodeV t (.slice A n c), .int .i64 1]) ∧ Tree w' (fun b => w.heap.size ≤ b) t (.slice A n c) ∧ Below w.heap.size w w' := by
  refine (pattern0_p w s hs).mono fun e w' h => ?_
  obtain ⟨t', k, ok, rfl, ht, hb, h⟩ := h
  rcases h with ⟨rfl, h1, h2, h3⟩ | ⟨rfl, h1, h2, h3⟩
  · rw [hp] at h1
    injection h1 with h1
    subst h1
    obtain ⟨A, n, c, rfl⟩ := ht.form
    exact ⟨A, n, c, rfl, ht, hb⟩
  · exact absurd hpl (h3 t hp)
theorem pattern_no {w : World} {s : ByteArray} (hs : s.size ≤ 9223372036854775807) (hp : ¬ ∃ t, parse s = .ok t ∧ plN t ≤ 60) : Calls Tryd.prog 8 #[.string s] w fun e w' => e = .returned (.tuple #[nodeV T.zero (.slice none 0 0), .int .i64 0]) ∧ Below w.heap.size w w' := by
  refine (pattern0_p w s hs).mono fun e w' h => ?_
  obtain ⟨t', k, ok, rfl, ht, hb, h⟩ := h
  rcases h with ⟨rfl, h1, h2, h3⟩ | ⟨rfl, rfl, rfl, h3⟩
  · exact absurd ⟨t', h1, h3⟩ hp
  · exact ⟨rfl, hb⟩
end Go.Proofs.YtccbeimcggamiaaDoor

/-
  The head of the laws of layer 9. Contracts for other texts; no statement of its own.
-/
namespace Go.Proofs.YtccbeimcggamiaaDoor
open Go Go.RowKit
attribute [local go_sem ↓] Go.wp_at_zero Go.wp_at_succ

set_option maxRecDepth 20000 in
theorem bys_conv {w : World} {B n c : Nat} {A : Option Addr} {l : List Int} (h : Bys w B (.slice A n c) l) : (convert 22 9 (.slice A n c)).run Tryd.prog w = .ok (.string (strOfNums l)) w := by
  obtain ⟨A', c', e, hr⟩ := h.rd
  injection e with e1 e2 e3
  subst e1 e2 e3
  cases A with
  | none =>
    have h0 := hr.nil0 rfl
    have hx : l = [] := List.length_eq_zero_iff.1 h0
    subst hx
    exact run_convert_bytes_nil w 22 5 Tryd.underlying22 Tryd.underlying5 _ _ _ Tryd.underlying9
  | some ad =>
    by_cases h0 : 0 < l.length
    · obtain ⟨b, off, e, hb, _⟩ := hr 0 h0
      injection e with e
      subst e
      refine run_convert_bytes_arg w 22 5 Tryd.underlying22 Tryd.underlying5 b off _ _ l rfl (fun i hi => ?_) _ Tryd.underlying9
      obtain ⟨b', off', e, hb', hc⟩ := hr i hi
      injection e with e
      injection e with e1 e2
      subst e1 e2
      exact hc
    · have hx : l = [] := List.length_eq_zero_iff.1 (by omega)
      subst hx
      rcases h.2 with ⟨e, _⟩ | ⟨g, cap, cur, e, _⟩
      · cases e
      · injection e with e1 e2 e3
        injection e1 with e1
        subst e1
        exact run_convert_bytes_arg w 22 5 Tryd.underlying22 Tryd.underlying5 g 0 _ _ [] rfl (fun i hi => by simp at hi) _ Tryd.underlying9

def up9T : T := .mk 2 noneP 0 0 [.one (rangeP 97 97), .one (rangeP 98 98)]
theorem up9_tree : parse ⟨#[97, 98]⟩ = .ok up9T := by kernel_rfl
theorem up9_wf : WF up9T := wf_parse up9_tree
theorem up9E (xs : List Int) (i j : Nat) : E xs up9T i j ↔ (i < xs.length ∧ rangeP 97 97 (xs.getD i 0).toNat = true) ∧ (i + 1 < xs.length ∧ rangeP 98 98 (xs.getD (i + 1) 0).toNat = true) ∧ j = i + 2 := by
  unfold up9T
  rw [E_cat]
  unfold ECat ECat ECat
  constructor
  · rintro ⟨k, h1, k2, h2, h3⟩
    unfold T.one at h1 h2
    rw [E_one] at h1 h2
    obtain ⟨a1, a2, a3⟩ := h1
    obtain ⟨b1, b2, b3⟩ := h2
    subst a3
    exact ⟨⟨a1, a2⟩, ⟨b1, b2⟩, by omega⟩
  · rintro ⟨⟨a1, a2⟩, ⟨b1, b2⟩, h3⟩
    refine ⟨i + 1, ?_, i + 2, ?_, h3.symm⟩
    · unfold T.one; rw [E_one]; exact ⟨a1, a2, rfl⟩
    · unfold T.one; rw [E_one]; exact ⟨b1, b2, rfl⟩
def up9X : List Int := [120, 97, 98, 120]
theorem up9_at (a b : Nat) : E up9X up9T a b ↔ a = 1 ∧ b = 3 := by
  rw [up9E]
  constructor
  · rintro ⟨⟨h1, h2⟩, ⟨h3, h4⟩, h5⟩
    have hl : a < 4 := h1
    match a, hl with
    | 0, _ => exact absurd h2 (by decide)
    | 1, _ => exact ⟨rfl, h5⟩
    | 2, _ => exact absurd h2 (by decide)
    | 3, _ => exact absurd h2 (by decide)
  · rintro ⟨rfl, rfl⟩
    exact ⟨⟨by decide, by decide⟩, ⟨by decide, by decide⟩, rfl⟩
theorem up9_cov2 (j : Nat) (hj : j < 4) : Cov [(up9T, false)] 2 up9X j ↔ (j == 1 || j == 2) = true := by
  unfold Cov CovR Fit
  constructor
  · rintro ⟨r, hr, a, b, h1, h2, h3, h4, h5, h6⟩
    rw [List.mem_singleton] at hr
    subst hr
    rw [up9_at] at h5
    obtain ⟨rfl, rfl⟩ := h5
    have : j = 1 ∨ j = 2 := by omega
    rcases this with rfl | rfl <;> rfl
  · intro h
    have hj' : j = 1 ∨ j = 2 := by simpa using h
    exact ⟨_, List.mem_singleton.2 rfl, 1, 3, by omega, by omega, by decide, by decide, (up9_at 1 3).2 ⟨rfl, rfl⟩, fun h => by cases h⟩
theorem up9_cov1 (j : Nat) (hj : j < 4) : Cov [(up9T, false)] 1 up9X j ↔ (false = true) := by
  unfold Cov CovR Fit
  constructor
  · rintro ⟨r, hr, a, b, h1, h2, h3, h4, h5, h6⟩
    rw [List.mem_singleton] at hr
    subst hr
    rw [up9_at] at h5
    obtain ⟨rfl, rfl⟩ := h5
    omega
  · intro h; cases h
theorem up9_fit : Fit [97, 98] (up9T, false) 0 2 := ⟨(up9E _ _ _).2 ⟨⟨by decide, by decide⟩, ⟨by decide, by decide⟩, rfl⟩, fun h => by cases h⟩
theorem up9_b : byteOk up9X := byteOk_of (by decide +kernel)
/-- What Mask tells of the example's bytes. -/
theorem up9mask {w : World} {A B : Option Addr} {cx : Nat} {lam : Int} {G : Nat → Bool} {out : List Int} (hl : RdRules w A [(up9T, false)]) (hrd : RdB w w.heap.size B up9X) (hcx : 4 ≤ cx) (htab : Tab w) (hlam : -9223372036854775808 ≤ lam ∧ lam ≤ 9223372036854775807)
    (hG : ∀ j, j < 4 → (Cov [(up9T, false)] lam up9X j ↔ G j = true)) (hout : mskL G 42 up9X 4 = out) :
    Calls Tryd.prog 24 #[.slice A 1 1, .int .i64 lam, .int .u8 42, .slice B 4 cx] w fun e w' => ∃ A' n c', e = .returned (.slice A' n c') ∧ (convert 22 9 (.slice A' n c')).run Tryd.prog w' = .ok (.string (strOfNums out)) w' ∧ Below w.heap.size w w' := by
  refine (mmask_p (cl := 1) (cx := cx) (m := 42) hl (fun r hr => by rw [List.mem_singleton] at hr; subst hr; exact up9_wf) (by simp) hrd up9_b (by simp [up9X]) hcx htab hlam).mono fun e w' h => ?_
  obtain ⟨v, F, rfl, hb, hF, hbw⟩ := h
  obtain ⟨A', c', rfl⟩ := hb.form
  refine ⟨A', _, c', rfl, ?_, hbw⟩
  have e : mskL F 42 up9X up9X.length = out := by
    rw [← hout]
    exact mskL_ext fun j hj => Bool.eq_iff_iff.2 ((hF j hj).trans (hG j hj))
  rw [e] at hb ⊢
  exact bys_conv hb
theorem up9_str2 : mskL (fun j => j == 1 || j == 2) 42 up9X 4 = [120, 42, 42, 120] := by decide
theorem up9_str1 : mskL (fun _ => false) 42 up9X 4 = [120, 97, 98, 120] := by decide
theorem up9_s2 : strOfNums [120, 42, 42, 120] = ⟨#[120, 42, 42, 120]⟩ := rfl
theorem up9_s1 : strOfNums [120, 97, 98, 120] = ⟨#[120, 97, 98, 120]⟩ := rfl
theorem up9parse_p (w : World) : Calls Tryd.prog 27 #[.string ⟨#[97, 98]⟩] w fun e w' => ∃ A n c, e = .returned (.tuple #[nodeV up9T (.slice A n c), .int .i64 0, .int .i64 0]) ∧ Tree w' (fun b => w.heap.size ≤ b) up9T (.slice A n c) ∧ Below w.heap.size w w' := by
  refine (rparse_p w _ (by simp [ByteArray.size])).mono fun e w' h => ?_
  obtain ⟨t, k, bad, at_, rfl, ht, hb, hm⟩ := h
  rw [up9_tree] at hm
  obtain ⟨rfl, rfl, rfl⟩ := hm
  obtain ⟨A, n, c, rfl⟩ := ht.form
  exact ⟨A, n, c, rfl, ht, hb⟩

set_option maxRecDepth 20000 in
set_option maxHeartbeats 2000000 in
theorem up9_p (w : World) (htab : Tab w) : Calls Tryd.prog 18 #[] w fun e w' => e = .returned (.bool true) ∧ Below w.heap.size w w' := by
  have HUP := Lib.hid (up9parse_p w)
  have HTB := Lib.hid htab
  clear htab
  go_enter Tryd.func18, Tryd.ntmps18
  go_upto_region 3 with (first
    | (go_at_call 27; (with_reducible refine HUP.out.mono ?_); rintro e w1 ⟨A, n, c, rfl, ht, hb1⟩; have HT := Lib.hid (ht.alloc (.cells #[.int .i64 up9T.op, .int .u64 (word up9T.set 0), .int .u64 (word up9T.set 1), .int .u64 (word up9T.set 2), .int .u64 (word up9T.set 3), .int .i64 up9T.lo, .int .i64 up9T.hi, .slice A n c] 29)); have HB1 := Lib.hid (hb1.alloc hb1.size (.cells #[.int .i64 up9T.op, .int .u64 (word up9T.set 0), .int .u64 (word up9T.set 1), .int .u64 (word up9T.set 2), .int .u64 (word up9T.set 3), .int .i64 up9T.lo, .int .i64 up9T.hi, .slice A n c] 29)); have BX := Lib.hid (Box8.new w1 up9T (.slice A n c)); obtain ⟨r0, r1, r2, r3, r4, r5, r6, r7⟩ := BX.out.cell; clear ht hb1; unfold nodeV)
    | fail)
  have hb2 : Below w.heap.size w ((w1.alloc (.cells #[.int .i64 up9T.op, .int .u64 (word up9T.set 0), .int .u64 (word up9T.set 1), .int .u64 (word up9T.set 2), .int .u64 (word up9T.set 3), .int .i64 up9T.lo, .int .i64 up9T.hi, .slice A n c] 29)).alloc (.cells #[.int .i64 up9T.op, .int .u64 (word up9T.set 0), .int .u64 (word up9T.set 1), .int .u64 (word up9T.set 2), .int .u64 (word up9T.set 3), .int .i64 up9T.lo, .int .i64 up9T.hi, .slice A n c, .bool false] 65)) := HB1.out.alloc HB1.out.size _
  have hr2 : RuleBox 65 ((w1.alloc (.cells #[.int .i64 up9T.op, .int .u64 (word up9T.set 0), .int .u64 (word up9T.set 1), .int .u64 (word up9T.set 2), .int .u64 (word up9T.set 3), .int .i64 up9T.lo, .int .i64 up9T.hi, .slice A n c] 29)).alloc (.cells #[.int .i64 up9T.op, .int .u64 (word up9T.set 0), .int .u64 (word up9T.set 1), .int .u64 (word up9T.set 2), .int .u64 (word up9T.set 3), .int .i64 up9T.lo, .int .i64 up9T.hi, .slice A n c, .bool false] 65)) (w1.heap.size + 1) (up9T, false) (.slice A n c) := by
    have := RuleBox.new 65 (w1.alloc (.cells #[.int .i64 up9T.op, .int .u64 (word up9T.set 0), .int .u64 (word up9T.set 1), .int .u64 (word up9T.set 2), .int .u64 (word up9T.set 3), .int .i64 up9T.lo, .int .i64 up9T.hi, .slice A n c] 29)) (up9T, false) (.slice A n c)
    rwa [World.size_alloc] at this
  have ht2 := HT.out.alloc (.cells #[.int .i64 up9T.op, .int .u64 (word up9T.set 0), .int .u64 (word up9T.set 1), .int .u64 (word up9T.set 2), .int .u64 (word up9T.set 3), .int .i64 up9T.lo, .int .i64 up9T.hi, .slice A n c, .bool false] 65)
  clear HT HB1 BX r0 r1 r2 r3 r4 r5 r6 r7
  generalize (w1.alloc (.cells #[.int .i64 up9T.op, .int .u64 (word up9T.set 0), .int .u64 (word up9T.set 1), .int .u64 (word up9T.set 2), .int .u64 (word up9T.set 3), .int .i64 up9T.lo, .int .i64 up9T.hi, .slice A n c] 29)).alloc (.cells #[.int .i64 up9T.op, .int .u64 (word up9T.set 0), .int .u64 (word up9T.set 1), .int .u64 (word up9T.set 2), .int .u64 (word up9T.set 3), .int .i64 up9T.lo, .int .i64 up9T.hi, .slice A n c, .bool false] 65) = w2 at *
  generalize w1.heap.size + 1 = g0 at *
  have hrl : ∀ W, Below w2.heap.size w2 W → RdRules W (some ⟨g0, 0, none⟩) [(up9T, false)] := fun W hW i r hi => by
    have h0 : i = 0 := by
      have := (List.getElem?_eq_some_iff.1 hi).1
      simp at this
      exact this
    subst h0
    simp at hi
    subst hi
    refine ⟨g0, 0, .slice A n c, rfl, (hr2.stays hW).lt, fun q u hu => ?_, (ht2.stays hW).mono fun b _ _ _ => ⟨rfl, trivial⟩⟩
    have hq : q < 9 := by
      have := (List.getElem?_eq_some_iff.1 hu).1
      rw [ruleC_len] at this
      exact this
    rw [show 0 + 0 * 9 + q = q by omega, cell_of_row W g0 q _ 65 (0, 0) (hr2.stays hW)]
    simpa [ruleC] using hu
  have hmask : ∀ (W : World) (lam : Int) (G : Nat → Bool) (out : List Int), Below w2.heap.size w2 W → -9223372036854775808 ≤ lam ∧ lam ≤ 9223372036854775807 → (∀ j, j < 4 → (Cov [(up9T, false)] lam up9X j ↔ G j = true)) → mskL G 42 up9X 4 = out →
      Calls Tryd.prog 24 #[.slice (some ⟨g0, 0, none⟩) 1 1, .int .i64 lam, .int .u8 42, .slice (some ⟨W.heap.size, 0, none⟩) 4 4] (W.alloc (.cells #[.int .u8 120, .int .u8 97, .int .u8 98, .int .u8 120] 5 (4, 5))) fun e w' => ∃ A' n c', e = .returned (.slice A' n c') ∧ (convert 22 9 (.slice A' n c')).run Tryd.prog w' = .ok (.string (strOfNums out)) w' ∧ Below w2.heap.size w2 w' := fun W lam G out hW hlam hG hout => by
    have hal : Below W.heap.size W (W.alloc (.cells #[.int .u8 120, .int .u8 97, .int .u8 98, .int .u8 120] 5 (4, 5))) := (Below.refl _ _).alloc (Nat.le_refl _) _
    have hWa := gro hW hal
    refine (up9mask (cx := 4) (hrl _ hWa) (fun k hk => ⟨W.heap.size, 0, rfl, by simp, ?_⟩) (Nat.le_refl _) (HTB.out.below (hb2.trans (hWa.mono hb2.size)) HTB.out.1) hlam hG hout).mono fun e w' ⟨A', n', c', h1, h2, h3⟩ => ⟨A', n', c', h1, h2, gro hWa h3⟩
    rw [cell_mark]
    have hk4 : k < 4 := hk
    match k, hk4 with
    | 0, _ => rfl
    | 1, _ => rfl
    | 2, _ => rfl
    | 3, _ => rfl
  have hm2 := fun W hW => hmask W 2 _ _ hW (by omega) up9_cov2 up9_str2
  have hm1 := fun W hW => hmask W 1 _ _ hW (by omega) up9_cov1 up9_str1
  rw [up9_s2] at hm2
  rw [up9_s1] at hm1
  have hfit : ∀ (W : World), Below w2.heap.size w2 W → Calls Tryd.prog 19 #[.agg #[.int .i64 up9T.op, .int .u64 (word up9T.set 0), .int .u64 (word up9T.set 1), .int .u64 (word up9T.set 2), .int .u64 (word up9T.set 3), .int .i64 up9T.lo, .int .i64 up9T.hi, .slice A n c, .bool false], .slice (some ⟨W.heap.size, 0, none⟩) 2 2] (W.alloc (.cells #[.int .u8 97, .int .u8 98] 5 (2, 3))) fun e w' => e = .returned (.bool true) ∧ Below w2.heap.size w2 w' := fun W hW => by
    have hal : Below W.heap.size W (W.alloc (.cells #[.int .u8 97, .int .u8 98] 5 (2, 3))) := (Below.refl _ _).alloc (Nat.le_refl _) _
    have hWa := gro hW hal
    refine (mfits_p (xs := [97, 98]) (r := (up9T, false)) (k := .slice A n c) up9_wf (ht2.stays hWa) (rd_mark2 W _ rfl _ _ _) (byteOk_of (by decide +kernel)) (by simp) (HTB.out.below (hb2.trans (hWa.mono hb2.size)) HTB.out.1)).mono fun e w' ⟨b, h1, h2, h3⟩ => ⟨by rw [h1, h2.2 up9_fit], gro hWa h3⟩
  have hcv := fun W => Lib.run_convert_bytes_const (P := Tryd.prog) W 22 5 #[.int .u8 120, .int .u8 97, .int .u8 98, .int .u8 120] 4 4 Tryd.underlying22 Tryd.underlying5
  have hcv2 := fun W => Lib.run_convert_bytes_const (P := Tryd.prog) W 22 5 #[.int .u8 97, .int .u8 98] 2 2 Tryd.underlying22 Tryd.underlying5
  have HM2 := Lib.hid hm2
  have HM1 := Lib.hid hm1
  have HFI := Lib.hid hfit
  have HB2 := Lib.hid hb2
  have HR2 := Lib.hid hr2
  clear hm2 hm1 hfit hmask hrl hr2 ht2 hb2
  go_wp2_with (first
    | (go_at_call 24; (with_reducible refine (HM2.out _ (Below.refl _ _)).mono ?_); rintro e w4 ⟨A4, n4, c4, rfl, e4, b4⟩; have HB4 := Lib.hid b4; clear b4)
    | (go_at_call 24; (with_reducible refine (HM1.out _ HB4.out).mono ?_); rintro e w5 ⟨A5, n5, c5, rfl, e5, b5⟩; obtain ⟨r0, r1, r2, r3, r4, r5, r6, r7, r8⟩ := (HR2.out.stays b5).cell; have HB5 := Lib.hid b5; clear b5)
    | (go_at_call 19; (with_reducible refine (HFI.out _ HB5.out).mono ?_); rintro e w6 ⟨rfl, b6⟩; have HB6 := Lib.hid b6; clear b6)
    | fail)
  go_ret
  exact ⟨rfl, HB2.out.trans (HB6.out.mono HB2.out.size)⟩
end Go.Proofs.YtccbeimcggamiaaDoor

/-
  Lists of numbers in memory of one's own. Laws for other texts; no statement of its own.
-/
namespace Go.Proofs.YtccbeimcggamiaaDoor
open Go Go.RowKit

theorem Tryd.infoInt : (Tryd.prog.info? 3).map (fun i => (i.zero, i.size, i.bytes)) = some (some (.int .i64 0), 1, 8) := by kernel_rfl

/-- A list of numbers in memory of one's own. -/
def Ints (w : World) (B : Nat) (v : Value) (l : List Int) : Prop := w.ownsRow B 3 1 v l.length (l.map (Value.int .i64))
section
variable {w w' : World} {B : Nat} {v : Value} {l : List Int}
theorem Ints.nil (w : World) (B : Nat) : Ints w B (.slice none 0 0) [] := World.ownsRow_nil w B _ 1
theorem Ints.stays (h : Ints w B v l) (hb : Below w.heap.size w w') : Ints w' B v l := own_stays h hb
theorem Ints.alloc (h : Ints w B v l) (o : Obj) : Ints (w.alloc o) B v l := h.stays ((Below.refl _ _).alloc (Nat.le_refl _) _)
theorem Ints.kept {row : Option Nat} (h : Ints w B v l) (hg : w.grownBy w' row) (hr : ∀ g, v.ownBlock = some g → row ≠ some g) : Ints w' B v l := by
  refine World.ownsRow.kept h hg ?_
  cases e : v.ownBlock with
  | none => exact .inl rfl
  | some g => exact .inr fun e' => hr g e e'.symm
theorem Ints.form (h : Ints w B v l) : ∃ A c, v = .slice A l.length c := by
  rcases h.2 with ⟨rfl, h0⟩ | ⟨g, cap, cur, rfl, _⟩
  · exact ⟨none, 0, by rw [h0]⟩
  · exact ⟨_, _, rfl⟩
theorem Ints.at (h : Ints w B v l) (j : Nat) (hj : j < l.length) : ∃ g c, v = .slice (some ⟨g, 0, none⟩) l.length c ∧ B ≤ g ∧ g < w.heap.size ∧ w.cell? ⟨g, j, none⟩ = some (.int .i64 (l[j]'hj)) := by
  rcases h.2 with ⟨rfl, h0⟩ | ⟨g, cap, cur, rfl, hB, hg, _⟩
  · omega
  · refine ⟨g, cap, rfl, hB, lt_of_some hg, ?_⟩
    rw [World.ownsRow.cellAt h j (by omega)]
    simp [hj]
end
end Go.Proofs.YtccbeimcggamiaaDoor
