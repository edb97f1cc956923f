/-
  The document's machine: its list grows, a word is laid. Laws for other texts; no statement of its own.
-/
import Derived.Test.YthhgagghdeocoaaCtRefM
import Derived.Test.YthhgagghdeocoaaCtNext
import Derived.Test.YthhgagghdeocoaaCtKeep
set_option linter.unusedVariables false
set_option linter.unusedSimpArgs false
namespace Go.Proofs.Ythhgagghdeocoaa
open Go Go.RowKit

section
variable {w w' W W' : World} {F : Nat → Prop} {q m mb : Nat} {f : Int → Int} {tr : List Ins} {lv lv' : Value} {D : MapD} {y : Ins}
theorem DocE.told (h : DocE w F q m f tr mb lv D) (hb : Below w.heap.size w W) (hr : W'.ownsRow 0 68 6 lv' (tr.length + 1) (insL (tr ++ [y]))) (hgr : W.grownBy W' lv.ownBlock) (hv : lv'.ownBlock = lv.ownBlock ∨ lv'.ownBlock = some W.heap.size) :
    DocE (W'.setCell ⟨q, 2, none⟩ lv') (wider F w.heap.size W'.heap.size) q m f (tr ++ [y]) mb lv' D ∧ Kept F w (W'.setCell ⟨q, 2, none⟩ lv') := by
  have hbs := hb.size
  have hgs := hgr.size
  have hW : ∀ b, F b → lv.ownBlock ≠ some b → W'.heap[b]? = w.heap[b]? := fun b hF e => (hgr.block b (Nat.lt_of_lt_of_le (h.fl b hF) hbs) fun e' => e e'.symm).trans (hb.block b (h.fl b hF))
  have hset : ∀ b, b ≠ q → (W'.setCell ⟨q, 2, none⟩ lv').heap[b]? = W'.heap[b]? := fun b e => Below.heap_setCell _ _ _ _ e
  have hsz : (W'.setCell ⟨q, 2, none⟩ lv').heap.size = W'.heap.size := by simp [World.setCell]
  have hql := h.fl q h.fq
  have hv'q : ∀ b, lv'.ownBlock = some b → b ≠ q := fun b e => by
    rcases hv with e' | e'
    · exact (h.nlv b (e'.symm.trans e)).1
    · have : b = W.heap.size := by rw [e'] at e; injection e with e; exact e.symm
      omega
  refine ⟨⟨?_, ?_, h.rd, h.fu, ?_, .inl h.fq, .inl h.fm, fun b e => ?_, fun b e => ?_⟩, ((Kept.of_below F hb).grown hgr fun b e => .inl (h.fr b e)).setCell (a := ⟨q, 2, none⟩) (.inl h.fq) _⟩
  · exact heap_setCell_same W' q 2 _ _ lv' ((hW q h.fq fun e => (h.nlv q e).1 rfl).trans h.hd)
  · rw [List.length_append]
    exact (map_same h.mp ((hset mb h.nmb.symm).trans (hW mb h.fm fun e => (h.nlv mb e).2 rfl))).mono (Nat.le_add_right _ _)
  · rw [List.length_append]
    exact own_block hr fun b e _ => hset b (hv'q b e)
  · rcases hv with e' | e'
    · exact .inl (h.fr b (e'.symm.trans e))
    · have hb' : b = W.heap.size := by rw [e'] at e; injection e with e; exact e.symm
      subst hb'
      exact .inr ⟨hbs, (World.ownsRow.lt hr W.heap.size e).2⟩
  · rw [hsz]
    rcases e with e | e
    · have := h.fl b e; omega
    · exact e.2
theorem own_formR {w : World} {B e size n : Nat} {v : Value} {xs : List Value} (h : w.ownsRow B e size v n xs) : ∃ A c, v = .slice A n c := by
  rcases h.2 with ⟨e, e0⟩ | ⟨g, cap, cur, e, _⟩
  · subst e0
    exact ⟨_, _, e⟩
  · exact ⟨_, _, e⟩
theorem own_has1 {w : World} {B e size n g : Nat} {v : Value} {xs : List Value} (h : w.ownsRow B e size v n xs) (hg : v.ownBlock = some g) : ∃ cur, w.heap[g]? = some (.cells cur e (0, 0)) := own_kind h hg
/-- A word has been laid into the map. -/
theorem DocE.laid (h : DocE w F q m f (tr ++ [y]) mb lv D) {d v : Int} (hv : U64 v) (hm : w'.ownsMap Try.prog 3 (plainElem Try.prog 49) mb (tr.length + 1) (D.put (.int .i64 d) (.lit (.int .u64 v)))) (hg : w.grownBy w' (some mb)) :
    DocE w' F q m (put f d v) (tr ++ [y]) mb lv (D.put (.int .i64 d) (.lit (.int .u64 v))) ∧ Kept F w w' := by
  refine ⟨⟨(hg.block q (h.fl q h.fq) fun e => h.nmb (by injection e)).trans h.hd, by rw [List.length_append]; exact hm, reads_put h.rd ?_, fun z => ?_, own_block h.row fun b e hb => hg.block b hb fun e' => (h.nlv b e).2 (by injection e'), h.fq, h.fm, h.fr, fun b e => Nat.lt_of_lt_of_le (h.fl b e) hg.size⟩, (Kept.refl F w).grown hg fun b e => .inl (by injection e with e; subst e; exact h.fm)⟩
  · obtain ⟨es, clock, hb, F, hs, hD⟩ := h.mp
    exact ⟨_, hD⟩
  · unfold put
    split
    · exact hv
    · exact h.fu z
end
/-- What stands in memory where the list of the document's machine is to grow. -/
structure Mid (w W : World) (F : Nat → Prop) (q m : Nat) (f : Int → Int) (tr : List Ins) (mb : Nat) (lv : Value) (D : MapD) (x y : Ins) (yb : Nat) : Prop where
  doc : DocE W F q m f tr mb lv D
  bx : BoxI W w.heap.size x
  by' : BoxI W yb y
  bel : Below w.heap.size w W
section
variable {w W W' : World} {F : Nat → Prop} {q m mb yb : Nat} {f : Int → Int} {tr : List Ins} {lv lv' : Value} {D : MapD} {x y : Ins}
/-- What stands there behind it. -/
structure Lft (w W : World) (F : Nat → Prop) (q m : Nat) (f : Int → Int) (tr : List Ins) (mb : Nat) (lv : Value) (D : MapD) (x : Ins) : Prop where
  doc : ∃ F', DocE W F' q m f tr mb lv D ∧ (∀ b, F' b → F b ∨ w.heap.size ≤ b)
  bx : BoxI W w.heap.size x
  kept : Kept F w W
  mp : W.ownsMap Try.prog 3 (plainElem Try.prog 49) mb (tr.length - 1) D
theorem Lft.stays (h : Lft w W F q m f tr mb lv D x) (hb : Below W.heap.size W W') : Lft w W' F q m f tr mb lv D x := by
  obtain ⟨F', h1, h2⟩ := h.doc
  exact ⟨⟨F', h1.stays hb, h2⟩, h.bx.stays hb, h.kept.trans (Kept.of_below (fun _ => False) hb) fun b e => e.elim, map_same h.mp (hb.block mb (h1.fl mb h1.fm))⟩
theorem Lft.look (h : Lft w W F q m f tr mb lv D x) {a : Int} (ha : I64 a) (n : Nat) : (Instr.lookup 79 (.map (some mb)) (.int .i64 a) false).run Try.prog (W.drewN n) = .ok (.int .u64 (f a)) (W.drewN n) := by
  obtain ⟨F', h1, _⟩ := h.doc
  exact (h1.stays (below_dn (Below.refl _ _) n)).look ha
theorem Lft.c1 (h : Lft w W F q m f tr mb lv D x) : W.cell? ⟨q, 1, none⟩ = some (.map (some mb)) := by
  obtain ⟨F', h1, _⟩ := h.doc
  exact h1.c1
theorem Mid.grew {W2 : World} (h : Mid w W F q m f tr mb lv D x y yb) (hF : ∀ b, F b → b < w.heap.size) (hb : Below W.heap.size W W2) (hr : W'.ownsRow 0 68 6 lv' (tr.length + 1) (insL (tr ++ [y]))) (hgr : W2.grownBy W' lv.ownBlock) (hv : lv'.ownBlock = lv.ownBlock ∨ lv'.ownBlock = some W2.heap.size) :
    Lft w (W'.setCell ⟨q, 2, none⟩ lv') F q m f (tr ++ [y]) mb lv' D x := by
  obtain ⟨h1, h2⟩ := h.doc.told hb hr hgr hv
  have hs := h.bel.size
  refine ⟨⟨_, h1, fun b e => ?_⟩, ?_, (Kept.of_below F h.bel).trans h2 fun b e => .inl e, ?_⟩
  · rcases e with e | e
    · exact .inl e
    · exact .inr (by omega)
  · exact (h2.block _ (lt_of_some h.bx) fun e => by have := hF _ e; omega).trans h.bx
  · rw [List.length_append, List.length_singleton, Nat.add_sub_cancel]
    have hd := h.doc
    have hmb : some mb ≠ lv.ownBlock := fun e => (hd.nlv mb e.symm).2 rfl
    exact map_same hd.mp ((Below.heap_setCell W' ⟨q, 2, none⟩ lv' mb hd.nmb.symm).trans ((hgr.block mb (Nat.lt_of_lt_of_le (hd.fl mb hd.fm) hb.size) hmb).trans (hb.block mb (hd.fl mb hd.fm))))
theorem Lft.upd (h : Lft w W F q m f (tr ++ [y]) mb lv D x) (hn : tr.length ≤ 100000) {d v : Int} (hd : I64 d) (hv : U64 v) :
    ∃ w', (Instr.mapUpdate 79 (.map (some mb)) (.int .i64 d) (.int .u64 v)).run Try.prog W = .ok () w' ∧ ∃ F', DocE w' F' q m (put f d v) (tr ++ [y]) mb lv (D.put (.int .i64 d) (.lit (.int .u64 v))) ∧ (∀ b, F' b → F b ∨ w.heap.size ≤ b) ∧ Kept F w w' := by
  obtain ⟨F', h1, h2⟩ := h.doc
  have hmp := h.mp
  rw [List.length_append, List.length_singleton, Nat.add_sub_cancel] at hmp
  obtain ⟨w', hr, h3, h4⟩ := hmp.update (t := 79) kInt Try.underlying79 (by unfold maxLen; omega) (key_int hd) (plainElem_int Try.underlying49 (wf_u64 hv))
  obtain ⟨h5, h6⟩ := h1.laid hv h3 h4
  exact ⟨w', hr, F', h5, h2, h.kept.trans h6 h2⟩
theorem Lft.done (h : Lft w W F q m f tr mb lv D x) : ∃ F', DocE W F' q m f tr mb lv D ∧ (∀ b, F' b → F b ∨ w.heap.size ≤ b) ∧ Kept F w W := by
  obtain ⟨F', h1, h2⟩ := h.doc
  exact ⟨F', h1, h2, h.kept⟩
end
theorem shl_step (va : Int) (k : Nat) (h : 0 ≤ va ∧ va ≤ 18446744073709551615) : IntKind.u64.wrap (2 * ((va * 2 ^ k) % 18446744073709551616)) = (va * 2 ^ (k + 1)) % 18446744073709551616 := by
  rw [IntKind.wrap_u64, Int.pow_succ, ← Int.mul_assoc]
  generalize va * 2 ^ k = p
  omega
theorem shl_stepu (va : Int) (k : Nat) (h : 0 ≤ va ∧ va ≤ 18446744073709551615) : U64 ((va * 2 ^ k) % 18446744073709551616) := ⟨by omega, by omega⟩
theorem shr_step (va : Int) (k : Nat) (h : 0 ≤ va ∧ va ≤ 18446744073709551615) : (va / 2 ^ k) / 2 = va / 2 ^ (k + 1) := by
  rw [Int.pow_succ, Int.ediv_ediv_of_nonneg (Int.le_of_lt (Int.pow_pos (by decide)))]
theorem shr_stepu (va : Int) (k : Nat) (h : 0 ≤ va ∧ va ≤ 18446744073709551615) : U64 (va / 2 ^ k) := by
  have hp : (0 : Int) < 2 ^ k := Int.pow_pos (by decide)
  exact ⟨Int.ediv_nonneg h.1 (Int.le_of_lt hp), Int.le_trans (Int.ediv_le_self _ h.1) h.2⟩
end Go.Proofs.Ythhgagghdeocoaa
