/-
  Several texts of this proof in one file: Parts, From, Own, Ask, Kid, Repeat. No statement of its own.
-/
import Derived.Test.YtccbeimcggamiaaDoorMk8
import Derived.Lib.BufferMore
import Derived.RangeFuncNested
set_option linter.unusedVariables false
set_option linter.unusedSimpArgs false

/-
  Package lang, type part: what is known of all parts in memory, as of typed memory; kid. Contracts for other texts; no statement of its own.
-/
namespace Go.Proofs.YtccbeimcggamiaaDoor
open Go Go.RowKit
attribute [local go_sem ↓] Go.wp_at_zero Go.wp_at_succ

/-- Which pattern a part's cells, and a list of places by starts, are of; which blocks of places stand in such a list. -/
structure Ghost where
  F : Nat → Nat → Option T
  G : Nat → Option T
  M : Nat → Prop

section
variable (w : World) (B : Nat) (xs : List Int) (Γ : Ghost)
/-- A part's four cells. -/
structure PartOk (g o : Nat) (t : T) : Prop where
  four : o % 4 = 0
  block : ∃ cur, w.heap[g]? = some (.cells cur 95 (0, 0))
  wf : WF t
  node : ∃ gn on kn, w.cell? ⟨g, o, none⟩ = some (.pointer (some ⟨gn, on, none⟩)) ∧ NodeAt w gn on t kn ∧ Tree w (fun _ => True) t kn ∧ ∃ cur, w.heap[gn]? = some (.cells cur 29 (0, 0))
  kids : w.cell? ⟨g, o + 1, none⟩ = some (.slice none 0 0) ∨ ∃ gk, w.cell? ⟨g, o + 1, none⟩ = some (.slice (some ⟨gk, 0, none⟩) t.kids.length t.kids.length) ∧ ∀ (i : Nat) (hi : i < t.kids.length), Γ.F gk (i * 4) = some (t.kids[i]'hi)
  asked : ∃ a : Nat, w.cell? ⟨g, o + 2, none⟩ = some (.int .i64 a) ∧ a ≤ xs.length + 1
  starts : w.cell? ⟨g, o + 3, none⟩ = some (.slice none 0 0) ∨ ∃ gf, w.cell? ⟨g, o + 3, none⟩ = some (.slice (some ⟨gf, 0, none⟩) (xs.length + 1) (xs.length + 1)) ∧ Γ.G gf = some t
/-- A list of places by starts. -/
structure FromOk (gf : Nat) (t : T) : Prop where
  block : ∃ cur, w.heap[gf]? = some (.cells cur 97 (0, 0))
  cells : ∀ i, i ≤ xs.length → ∃ v, w.cell? ⟨gf, i, none⟩ = some v ∧ (v = .slice none 0 0 ∨ ∃ q : Nat → Bool, Pl w B v (xs.length / 64 + 1) q ∧ (∀ g, v.ownBlock = some g → Γ.M g) ∧ ∀ j, q j = true ↔ E xs t i j)
structure Inv : Prop where
  part : ∀ g o t, Γ.F g o = some t → B ≤ g ∧ PartOk w xs Γ g o t
  starts : ∀ gf t, Γ.G gf = some t → B ≤ gf ∧ FromOk w B xs Γ gf t
end

/-- Not of the two kinds of blocks that change. -/
def Still (w : World) (b : Nat) : Prop := b < w.heap.size ∧ (∀ cur, w.heap[b]? ≠ some (.cells cur 95 (0, 0))) ∧ ∀ cur, w.heap[b]? ≠ some (.cells cur 97 (0, 0))
theorem still_of {w : World} {b : Nat} {cur : Array Value} {ty : TypeId} (h : w.heap[b]? = some (.cells cur ty (0, 0))) (h1 : ty ≠ 95) (h2 : ty ≠ 97) : Still w b :=
  ⟨lt_of_some h, fun c e => by rw [h] at e; injection e with e; injection e with _ e _; exact h1 e, fun c e => by rw [h] at e; injection e with e; injection e with _ e _; exact h2 e⟩
/-- What a call on parts leaves. -/
structure Ext (B : Nat) (w w' : World) (Γ Γ' : Ghost) : Prop where
  below : Below B w w'
  F : ∀ g o t, Γ.F g o = some t → Γ'.F g o = some t
  G : ∀ g t, Γ.G g = some t → Γ'.G g = some t
  M : ∀ g, Γ.M g → Γ'.M g
  new : ∀ g, Γ'.M g → Γ.M g ∨ w.heap.size ≤ g
  still : ∀ b, Still w b → w'.heap[b]? = w.heap[b]?
  stay : ∀ g o t, Γ.F g o = some t → ∀ j, j = 1 ∨ j = 3 → ∀ v, w.cell? ⟨g, o + j, none⟩ = some v → v ≠ .slice none 0 0 → w'.cell? ⟨g, o + j, none⟩ = some v
  box : ∀ (b : Nat) (cur : Array Value), w.heap[b]? = some (.cells cur 97 (0, 0)) → (∀ t, Γ.G b ≠ some t) → w'.heap[b]? = w.heap[b]?
  newG : ∀ g t, Γ'.G g = some t → Γ.G g = some t ∨ w.heap.size ≤ g
theorem Ext.refl (B : Nat) (w : World) (Γ : Ghost) : Ext B w w Γ Γ := ⟨Below.refl _ _, fun _ _ _ h => h, fun _ _ h => h, fun _ h => h, fun _ h => .inl h, fun _ _ => rfl, fun _ _ _ _ _ _ _ h _ => h, fun _ _ _ _ => rfl, fun _ _ e => .inl e⟩
theorem Still.ext {B : Nat} {w w' : World} {Γ Γ' : Ghost} {b : Nat} (h : Ext B w w' Γ Γ') (hs : Still w b) : Still w' b := by
  have e := h.still b hs
  exact ⟨Nat.lt_of_lt_of_le hs.1 h.below.size, fun c => by rw [e]; exact hs.2.1 c, fun c => by rw [e]; exact hs.2.2 c⟩
theorem Ext.trans {B : Nat} {w w' w'' : World} {Γ Γ' Γ'' : Ghost} (h : Ext B w w' Γ Γ') (k : Ext B w' w'' Γ' Γ'') : Ext B w w'' Γ Γ'' :=
  ⟨h.below.trans k.below, fun g o t e => k.F g o t (h.F g o t e), fun g t e => k.G g t (h.G g t e), fun g e => k.M g (h.M g e), fun g e => by
    rcases k.new g e with e | e
    · exact h.new g e
    · exact .inr (Nat.le_trans h.below.size e), fun b hs => (k.still b (hs.ext h)).trans (h.still b hs), fun g o t e j hj v hv hn => k.stay g o t (h.F g o t e) j hj v (h.stay g o t e j hj v hv hn) hn, fun b cur e hG => by
    have e1 := h.box b cur e hG
    refine (k.box b cur (e1.trans e) fun t e2 => ?_).trans e1
    rcases h.newG b t e2 with e2 | e2
    · exact hG t e2
    · have := lt_of_some e
      omega, fun g t e => by
    rcases k.newG g t e with e | e
    · exact h.newG g t e
    · exact .inr (Nat.le_trans h.below.size e)⟩
theorem Tree.ext {B : Nat} {w w' : World} {Γ Γ' : Ghost} {t : T} {k : Value} (ht : Tree w (fun _ => True) t k) (h : Ext B w w' Γ Γ') : Tree w' (fun _ => True) t k :=
  ht.mono fun b _ _ ⟨cur, e⟩ => ⟨h.still b (still_of e (by decide) (by decide)), trivial⟩
theorem Pl.ext {B C m : Nat} {w w' : World} {Γ Γ' : Ghost} {v : Value} {q : Nat → Bool} (hp : Pl w C v m q) (h : Ext B w w' Γ Γ') : Pl w' C v m q := by
  refine ⟨hp.1, ?_⟩
  rcases hp.2 with hn | ⟨g, cap, cur, rfl, hb, hg, rest⟩
  · exact .inl hn
  · exact .inr ⟨g, cap, cur, rfl, hb, (h.still g (still_of hg (by decide) (by decide))).trans hg, rest⟩

section
variable {w w' : World} {B : Nat} {xs : List Int} {Γ Γ' : Ghost} {g o : Nat} {t : T}
theorem tree_still {k : Value} (ht : Tree w (fun _ => True) t k) (hs : ∀ b, Still w b → w'.heap[b]? = w.heap[b]?) : Tree w' (fun _ => True) t k :=
  ht.mono fun b _ _ ⟨cur, e⟩ => ⟨hs b (still_of e (by decide) (by decide)), trivial⟩
theorem pl_still {C m : Nat} {v : Value} {q : Nat → Bool} (hp : Pl w C v m q) (hs : ∀ b, Still w b → w'.heap[b]? = w.heap[b]?) : Pl w' C v m q := by
  refine ⟨hp.1, ?_⟩
  rcases hp.2 with hn | ⟨g, cap, cur, rfl, hb, hg, rest⟩
  · exact .inl hn
  · exact .inr ⟨g, cap, cur, rfl, hb, (hs g (still_of hg (by decide) (by decide))).trans hg, rest⟩
/-- A part is one still, if its cells are, and nothing of another kind has changed. -/
theorem PartOk.kept (h : PartOk w xs Γ g o t) (hs : ∀ b, Still w b → w'.heap[b]? = w.heap[b]?) (hF : ∀ g o t, Γ.F g o = some t → Γ'.F g o = some t) (hG : ∀ g t, Γ.G g = some t → Γ'.G g = some t)
    (hb : ∃ cur, w'.heap[g]? = some (.cells cur 95 (0, 0))) (hc : ∀ j, j < 4 → w'.cell? ⟨g, o + j, none⟩ = w.cell? ⟨g, o + j, none⟩) : PartOk w' xs Γ' g o t := by
  obtain ⟨gn, on, kn, h1, h2, h3, cur, h4⟩ := h.node
  have e := hs gn (still_of h4 (by decide) (by decide))
  refine ⟨h.four, hb, h.wf, ⟨gn, on, kn, (hc 0 (by omega)).trans h1, h2.block e, tree_still h3 hs, cur, e.trans h4⟩, ?_, ?_, ?_⟩
  · rcases h.kids with k | ⟨gk, k1, k2⟩
    · exact .inl ((hc 1 (by omega)).trans k)
    · exact .inr ⟨gk, (hc 1 (by omega)).trans k1, fun i hi => hF _ _ _ (k2 i hi)⟩
  · obtain ⟨a, a1, a2⟩ := h.asked
    exact ⟨a, (hc 2 (by omega)).trans a1, a2⟩
  · rcases h.starts with k | ⟨gf, k1, k2⟩
    · exact .inl ((hc 3 (by omega)).trans k)
    · exact .inr ⟨gf, (hc 3 (by omega)).trans k1, hG _ _ k2⟩
theorem FromOk.kept (h : FromOk w B xs Γ g t) (hs : ∀ b, Still w b → w'.heap[b]? = w.heap[b]?) (hM : ∀ g, Γ.M g → Γ'.M g)
    (hb : ∃ cur, w'.heap[g]? = some (.cells cur 97 (0, 0))) (hc : ∀ i, i ≤ xs.length → w'.cell? ⟨g, i, none⟩ = w.cell? ⟨g, i, none⟩) : FromOk w' B xs Γ' g t := by
  refine ⟨hb, fun i hi => ?_⟩
  obtain ⟨v, h1, h2⟩ := h.cells i hi
  refine ⟨v, (hc i hi).trans h1, ?_⟩
  rcases h2 with h2 | ⟨q, h3, h4, h5⟩
  · exact .inl h2
  · exact .inr ⟨q, pl_still h3 hs, fun g e => hM g (h4 g e), h5⟩
/-- All old blocks are as they were. -/
theorem Inv.stays (h : Inv w B xs Γ) (hb : Below w.heap.size w w') : Inv w' B xs Γ := by
  have hs : ∀ b, Still w b → w'.heap[b]? = w.heap[b]? := fun b hb' => hb.block b hb'.1
  refine ⟨fun g o t e => ?_, fun gf t e => ?_⟩
  · obtain ⟨h1, h2⟩ := h.part g o t e
    obtain ⟨cur, hc⟩ := h2.block
    have hg := lt_of_some hc
    exact ⟨h1, h2.kept hs (fun _ _ _ h => h) (fun _ _ h => h) ⟨cur, (hb.block g hg).trans hc⟩ fun j _ => hb.cell (p := ⟨g, o + j, none⟩) hg⟩
  · obtain ⟨h1, h2⟩ := h.starts gf t e
    obtain ⟨cur, hc⟩ := h2.block
    have hg := lt_of_some hc
    exact ⟨h1, h2.kept hs (fun _ h => h) ⟨cur, (hb.block gf hg).trans hc⟩ fun i _ => hb.cell (p := ⟨gf, i, none⟩) hg⟩
theorem Ext.stays (Γ : Ghost) (hb : Below w.heap.size w w') (hB : B ≤ w.heap.size) : Ext B w w' Γ Γ :=
  ⟨hb.mono hB, fun _ _ _ h => h, fun _ _ h => h, fun _ h => h, fun _ h => .inl h, fun b hs => hb.block b hs.1, fun g o t _ j _ v hv _ => cell_stays hv hb, fun b cur e _ => hb.block b (lt_of_some e), fun _ _ e => .inl e⟩
theorem part_set {g' o' j k : Nat} (h : o % 4 = 0) (h' : o' % 4 = 0) (hj : j < 4) (hk : k < 4) (e : (⟨g, o + j, none⟩ : Addr) = ⟨g', o' + k, none⟩) : g = g' ∧ o = o' ∧ j = k := by
  injection e with e1 e2
  omega
/-- A block of one kind is none of another. -/
theorem kind_ne {b c : Nat} {cur cur' : Array Value} {ty ty' : TypeId} (h : w.heap[b]? = some (.cells cur ty (0, 0))) (h' : w.heap[c]? = some (.cells cur' ty' (0, 0))) (hne : ty ≠ ty') : b ≠ c := by
  intro e
  subst e
  rw [h] at h'
  injection h' with h'
  injection h' with _ e _
  exact hne e
theorem set_block {b i : Nat} {cur : Array Value} {ty : TypeId} (h : w.heap[b]? = some (.cells cur ty (0, 0))) (p : Addr) (v : Value) : ∃ cur', (w.setCell p v).heap[b]? = some (.cells cur' ty (0, 0)) := by
  by_cases e : b = p.block
  · subst e
    exact ⟨_, by simp [World.setCell, Array.getElem?_modify, h]; rfl⟩
  · exact ⟨cur, (Below.heap_setCell w p v b e).trans h⟩
theorem cell_other {a b : Addr} {v : Value} (h : a ≠ b) : (w.setCell a v).cell? b = w.cell? b := by
  rw [World.cell?_setCell_other]
  exact h
theorem set_still (h : Inv w B xs Γ) (e : Γ.F g o = some t) (j : Nat) (v : Value) (b : Nat) (hs : Still w b) : (w.setCell ⟨g, j, none⟩ v).heap[b]? = w.heap[b]? := by
  obtain ⟨cur, hc⟩ := (h.part g o t e).2.block
  exact Below.heap_setCell w _ v b (fun e' => hs.2.1 cur (by rw [e']; exact hc))
theorem set_from {gf : Nat} (h : Inv w B xs Γ) (e : Γ.G gf = some t) (j : Nat) (v : Value) (b : Nat) (hs : Still w b) : (w.setCell ⟨gf, j, none⟩ v).heap[b]? = w.heap[b]? := by
  obtain ⟨cur, hc⟩ := (h.starts gf t e).2.block
  exact Below.heap_setCell w _ v b (fun e' => hs.2.2 cur (by rw [e']; exact hc))
/-- The other parts, when one cell of one part is stored anew. -/
theorem other_part {g' o' j : Nat} {t' : T} (h : Inv w B xs Γ) (e : Γ.F g o = some t) (e' : Γ.F g' o' = some t') (hne : ¬ (g' = g ∧ o' = o)) (hj : j < 4) (v : Value) (hF : ∀ g o t, Γ.F g o = some t → Γ'.F g o = some t) (hG : ∀ g t, Γ.G g = some t → Γ'.G g = some t) :
    PartOk (w.setCell ⟨g, o + j, none⟩ v) xs Γ' g' o' t' := by
  have k := (h.part g o t e).2
  have k' := (h.part g' o' t' e').2
  obtain ⟨cur, hc⟩ := k'.block
  refine k'.kept (set_still h e _ v) hF hG (set_block (i := 0) hc _ v) fun i hi => cell_other fun ea => hne ?_
  have := part_set k.four k'.four hj hi ea
  exact ⟨this.1.symm, this.2.1.symm⟩
theorem other_from {gf j : Nat} {t' : T} (h : Inv w B xs Γ) (e : Γ.F g o = some t) (e' : Γ.G gf = some t') (v : Value) (hM : ∀ g, Γ.M g → Γ'.M g) : FromOk (w.setCell ⟨g, j, none⟩ v) B xs Γ' gf t' := by
  have k := (h.part g o t e).2
  have k' := (h.starts gf t' e').2
  obtain ⟨cur, hc⟩ := k.block
  obtain ⟨cur', hc'⟩ := k'.block
  have hne := kind_ne hc hc' (by decide)
  exact k'.kept (set_still h e _ v) hM (set_block (i := 0) hc' _ v) fun i hi => cell_other fun ea => hne (by injection ea)
/-- How often it was asked is stored anew. -/
theorem Inv.ask (h : Inv w B xs Γ) (e : Γ.F g o = some t) (a : Nat) (ha : a ≤ xs.length + 1) : Inv (w.setCell ⟨g, o + 2, none⟩ (.int .i64 a)) B xs Γ ∧ Ext B w (w.setCell ⟨g, o + 2, none⟩ (.int .i64 a)) Γ Γ := by
  have k := (h.part g o t e).2
  have kB := (h.part g o t e).1
  have hid : ∀ g o t, Γ.F g o = some t → Γ.F g o = some t := fun _ _ _ h => h
  have hid2 : ∀ g t, Γ.G g = some t → Γ.G g = some t := fun _ _ h => h
  refine ⟨⟨fun g' o' t' e' => ?_, fun gf t' e' => ⟨(h.starts gf t' e').1, other_from h e e' _ fun _ h => h⟩⟩, ?_⟩
  · refine ⟨(h.part g' o' t' e').1, ?_⟩
    by_cases hne : g' = g ∧ o' = o
    · obtain ⟨rfl, rfl⟩ := hne
      rw [e] at e'
      injection e' with e'
      subst e'
      obtain ⟨cur, hc⟩ := k.block
      have hs := set_still h e (o' + 2) (.int .i64 a)
      have hcell : ∀ j, j < 4 → j ≠ 2 → (w.setCell ⟨g', o' + 2, none⟩ (.int .i64 a)).cell? ⟨g', o' + j, none⟩ = w.cell? ⟨g', o' + j, none⟩ := fun j hj hj2 => cell_other fun ea => by injection ea; omega
      obtain ⟨gn, on, kn, h1, h2, h3, cur2, h4⟩ := k.node
      have en := hs gn (still_of h4 (by decide) (by decide))
      obtain ⟨a0, h5, _⟩ := k.asked
      refine ⟨k.four, set_block (i := 0) hc _ _, k.wf, ⟨gn, on, kn, (hcell 0 (by omega) (by omega)).trans h1, h2.block en, tree_still h3 hs, cur2, en.trans h4⟩, ?_, ⟨a, World.cell?_setCell_same _ _ _ h5, ha⟩, ?_⟩
      · rcases k.kids with k1 | ⟨gk, k1, k2⟩
        · exact .inl ((hcell 1 (by omega) (by omega)).trans k1)
        · exact .inr ⟨gk, (hcell 1 (by omega) (by omega)).trans k1, k2⟩
      · rcases k.starts with k1 | ⟨gf, k1, k2⟩
        · exact .inl ((hcell 3 (by omega) (by omega)).trans k1)
        · exact .inr ⟨gf, (hcell 3 (by omega) (by omega)).trans k1, k2⟩
    · exact other_part h e e' hne (by omega) _ hid hid2
  · refine ⟨(Below.refl _ _).setCell (p := ⟨g, o + 2, none⟩) kB _, hid, hid2, fun _ h => h, fun _ h => .inl h, set_still h e _ _, fun g' o' t' e' j hj v hv hn => ?_, fun b cur eb _ => Below.heap_setCell w _ _ b (kind_ne eb k.block.choose_spec (by decide)), fun _ _ e => .inl e⟩
    rw [cell_other]
    · exact hv
    · intro ea
      have := part_set k.four (h.part g' o' t' e').2.four (by omega) (show j < 4 by omega) ea
      omega
/-- The ghost with a new row of kids. -/
def Ghost.row (Γ : Ghost) (gk : Nat) (t : T) : Ghost := { Γ with F := fun g o => if g = gk then (if o % 4 = 0 then t.kids[o / 4]? else none) else Γ.F g o }
theorem row_at' (Γ : Ghost) (gk i : Nat) (t : T) (hi : i < t.kids.length) : (Γ.row gk t).F gk (i * 4) = some (t.kids[i]'hi) := by
  simp [Ghost.row, hi]
theorem Inv.old (h : Inv w B xs Γ) (e : Γ.F g o = some t) : g < w.heap.size := by
  obtain ⟨cur, hc⟩ := (h.part g o t e).2.block
  exact lt_of_some hc
/-- A part's kids are laid. -/
theorem Inv.layKids (h : Inv w B xs Γ) (e : Γ.F g o = some t) (gk : Nat) (hgk : w.heap.size ≤ gk) (hB : B ≤ w.heap.size)
    (hblk : ∀ b, b < w.heap.size → b ≠ g → w'.heap[b]? = w.heap[b]?) (hg : ∃ cur, w'.heap[g]? = some (.cells cur 95 (0, 0)))
    (hc : ∀ j, j ≠ o + 1 → w'.cell? ⟨g, j, none⟩ = w.cell? ⟨g, j, none⟩) (hc1 : w'.cell? ⟨g, o + 1, none⟩ = some (.slice (some ⟨gk, 0, none⟩) t.kids.length t.kids.length))
    (hold : w.cell? ⟨g, o + 1, none⟩ = some (.slice none 0 0)) (hk : ∀ (i : Nat) (hi : i < t.kids.length), PartOk w' xs Γ gk (i * 4) (t.kids[i]'hi)) (hb : Below B w w') :
    Inv w' B xs (Γ.row gk t) ∧ Ext B w w' Γ (Γ.row gk t) := by
  have k := (h.part g o t e).2
  obtain ⟨curg, hcg⟩ := k.block
  have hF : ∀ g o t', Γ.F g o = some t' → (Γ.row gk t).F g o = some t' := fun g' o' t' e' => by
    have := h.old e'
    unfold Ghost.row
    simp only
    rw [if_neg (by omega)]
    exact e'
  have hs : ∀ b, Still w b → w'.heap[b]? = w.heap[b]? := fun b hb' => hblk b hb'.1 (fun e' => hb'.2.1 curg (by rw [e']; exact hcg))
  have hcells : ∀ g' o' t', Γ.F g' o' = some t' → ¬ (g' = g ∧ o' = o) → ∀ j, j < 4 → w'.cell? ⟨g', o' + j, none⟩ = w.cell? ⟨g', o' + j, none⟩ := fun g' o' t' e' hne j hj => by
    by_cases hgg : g' = g
    · subst hgg
      refine hc _ ?_
      have h1 := (h.part g' o' t' e').2.four
      have h2 := k.four
      intro e2
      exact hne ⟨rfl, by omega⟩
    · exact World.cell?_of_block (w := w) (a := ⟨g', o' + j, none⟩) (hblk g' (h.old e') hgg)
  refine ⟨⟨fun g' o' t' e' => ?_, fun gf t' e' => ?_⟩, ⟨hb, hF, fun _ _ h => h, fun _ h => h, fun _ h => .inl h, hs, fun g' o' t' e' j hj v hv hn => ?_, fun b cur eb _ => hblk b (lt_of_some eb) (kind_ne eb hcg (by decide)), fun _ _ e => .inl e⟩⟩
  · by_cases hgk' : g' = gk
    · subst hgk'
      unfold Ghost.row at e'
      simp only [if_true] at e'
      by_cases h4 : o' % 4 = 0
      · rw [if_pos h4] at e'
        obtain ⟨hi, e2⟩ := List.getElem?_eq_some_iff.1 e'
        have hp := hk (o' / 4) hi
        rw [e2, show o' / 4 * 4 = o' by omega] at hp
        obtain ⟨cur, hcur⟩ := hp.block
        exact ⟨by omega, hp.kept (fun _ _ => rfl) hF (fun _ _ h => h) ⟨cur, hcur⟩ fun _ _ => rfl⟩
      · rw [if_neg h4] at e'; cases e'
    · have e2 : Γ.F g' o' = some t' := by
        unfold Ghost.row at e'
        simp only at e'
        rwa [if_neg hgk'] at e'
      refine ⟨(h.part g' o' t' e2).1, ?_⟩
      have hp := (h.part g' o' t' e2).2
      by_cases hne : g' = g ∧ o' = o
      · obtain ⟨rfl, rfl⟩ := hne
        rw [e] at e2
        injection e2 with e2
        subst e2
        obtain ⟨gn, on, kn, h1, h2, h3, cur2, h4⟩ := k.node
        have en := hs gn (still_of h4 (by decide) (by decide))
        obtain ⟨a, a1, a2⟩ := k.asked
        refine ⟨k.four, hg, k.wf, ⟨gn, on, kn, (hc _ (by omega)).trans h1, h2.block en, tree_still h3 hs, cur2, en.trans h4⟩, .inr ⟨gk, hc1, fun i hi => row_at' Γ gk i t hi⟩, ⟨a, (hc _ (by omega)).trans a1, a2⟩, ?_⟩
        rcases k.starts with k1 | ⟨gf, k1, k2⟩
        · exact .inl ((hc _ (by omega)).trans k1)
        · exact .inr ⟨gf, (hc _ (by omega)).trans k1, k2⟩
      · refine hp.kept hs hF (fun _ _ h => h) ?_ (hcells g' o' t' e2 hne)
        obtain ⟨cur, hcur⟩ := hp.block
        by_cases hgg : g' = g
        · rw [hgg]; exact hg
        · exact ⟨cur, (hblk g' (h.old e2) hgg).trans hcur⟩
  · have hp := h.starts gf t' e'
    obtain ⟨cur, hcur⟩ := hp.2.block
    have hne := kind_ne hcur hcg (by decide)
    have heq := hblk gf (lt_of_some hcur) hne
    exact ⟨hp.1, hp.2.kept hs (fun _ h => h) ⟨cur, heq.trans hcur⟩ fun i _ => World.cell?_of_block (w := w) (a := ⟨gf, i, none⟩) heq⟩
  · by_cases hne : g' = g ∧ o' = o
    · obtain ⟨rfl, rfl⟩ := hne
      rcases hj with rfl | rfl
      · rw [hold] at hv
        injection hv with hv
        exact absurd hv.symm hn
      · exact (hc _ (by omega)).trans hv
    · exact (hcells g' o' t' e' hne j (by omega)).trans hv
end

end Go.Proofs.YtccbeimcggamiaaDoor

/-
  A list of places by starts is laid. Contracts for other texts; no statement of its own.
-/
namespace Go.Proofs.YtccbeimcggamiaaDoor
open Go Go.RowKit

/-- The ghost with a new list. -/
def Ghost.list (Γ : Ghost) (gf : Nat) (t : T) : Ghost := { Γ with G := fun g => if g = gf then some t else Γ.G g }

section
variable {w w' : World} {B : Nat} {xs : List Int} {Γ : Ghost} {g o : Nat} {t : T}
theorem Inv.oldG {gf : Nat} (h : Inv w B xs Γ) (e : Γ.G gf = some t) : gf < w.heap.size := by
  obtain ⟨cur, hc⟩ := (h.starts gf t e).2.block
  exact lt_of_some hc
theorem Inv.layFrom (h : Inv w B xs Γ) (e : Γ.F g o = some t) (gf : Nat) (hgf : w.heap.size ≤ gf) (hB : B ≤ w.heap.size)
    (hblk : ∀ b, b < w.heap.size → b ≠ g → w'.heap[b]? = w.heap[b]?) (hg : ∃ cur, w'.heap[g]? = some (.cells cur 95 (0, 0)))
    (hc : ∀ j, j ≠ o + 3 → w'.cell? ⟨g, j, none⟩ = w.cell? ⟨g, j, none⟩) (hc1 : w'.cell? ⟨g, o + 3, none⟩ = some (.slice (some ⟨gf, 0, none⟩) (xs.length + 1) (xs.length + 1)))
    (hold : w.cell? ⟨g, o + 3, none⟩ = some (.slice none 0 0)) (hk : FromOk w' B xs Γ gf t) (hb : Below B w w') :
    Inv w' B xs (Γ.list gf t) ∧ Ext B w w' Γ (Γ.list gf t) := by
  have k := (h.part g o t e).2
  obtain ⟨curg, hcg⟩ := k.block
  have hG : ∀ g' t', Γ.G g' = some t' → (Γ.list gf t).G g' = some t' := fun g' t' e' => by
    have := h.oldG e'
    unfold Ghost.list
    simp only
    rw [if_neg (by omega)]
    exact e'
  have hs : ∀ b, Still w b → w'.heap[b]? = w.heap[b]? := fun b hb' => hblk b hb'.1 (fun e' => hb'.2.1 curg (by rw [e']; exact hcg))
  have hcells : ∀ g' o' t', Γ.F g' o' = some t' → ¬ (g' = g ∧ o' = o) → ∀ j, j < 4 → w'.cell? ⟨g', o' + j, none⟩ = w.cell? ⟨g', o' + j, none⟩ := fun g' o' t' e' hne j hj => by
    by_cases hgg : g' = g
    · subst hgg
      refine hc _ ?_
      have h1 := (h.part g' o' t' e').2.four
      have h2 := k.four
      intro e2
      exact hne ⟨rfl, by omega⟩
    · exact World.cell?_of_block (w := w) (a := ⟨g', o' + j, none⟩) (hblk g' (h.old e') hgg)
  refine ⟨⟨fun g' o' t' e2 => ?_, fun gf' t' e' => ?_⟩, ⟨hb, fun _ _ _ h => h, hG, fun _ h => h, fun _ h => .inl h, hs, fun g' o' t' e' j hj v hv hn => ?_, fun b cur eb _ => hblk b (lt_of_some eb) (kind_ne eb hcg (by decide)), fun g' t' e' => by
    by_cases hgg : g' = gf
    · exact .inr (by omega)
    · exact .inl (by simpa [Ghost.list, hgg] using e')⟩⟩
  · refine ⟨(h.part g' o' t' e2).1, ?_⟩
    have hp := (h.part g' o' t' e2).2
    by_cases hne : g' = g ∧ o' = o
    · obtain ⟨rfl, rfl⟩ := hne
      have e3 : t = t' := by
        have e4 : Γ.F g' o' = some t' := e2
        rw [e] at e4
        injection e4
      subst e3
      obtain ⟨gn, on, kn, h1, h2, h3, cur2, h4⟩ := k.node
      have en := hs gn (still_of h4 (by decide) (by decide))
      obtain ⟨a, a1, a2⟩ := k.asked
      refine ⟨k.four, hg, k.wf, ⟨gn, on, kn, (hc _ (by omega)).trans h1, h2.block en, tree_still h3 hs, cur2, en.trans h4⟩, ?_, ⟨a, (hc _ (by omega)).trans a1, a2⟩, .inr ⟨gf, hc1, by simp [Ghost.list]⟩⟩
      rcases k.kids with k1 | ⟨gk, k1, k2⟩
      · exact .inl ((hc _ (by omega)).trans k1)
      · exact .inr ⟨gk, (hc _ (by omega)).trans k1, k2⟩
    · refine hp.kept hs (fun _ _ _ h => h) hG ?_ (hcells g' o' t' e2 hne)
      obtain ⟨cur, hcur⟩ := hp.block
      by_cases hgg : g' = g
      · rw [hgg]; exact hg
      · exact ⟨cur, (hblk g' (h.old e2) hgg).trans hcur⟩
  · by_cases hgg : gf' = gf
    · subst hgg
      simp only [Ghost.list, if_true] at e'
      injection e' with e'
      subst e'
      exact ⟨by omega, hk.kept (fun _ _ => rfl) (fun _ h => h) hk.block fun _ _ => rfl⟩
    · have e2 : Γ.G gf' = some t' := by
        unfold Ghost.list at e'
        simp only at e'
        rwa [if_neg hgg] at e'
      have hp := h.starts gf' t' e2
      obtain ⟨cur, hcur⟩ := hp.2.block
      have hne := kind_ne hcur hcg (by decide)
      have heq := hblk gf' (lt_of_some hcur) hne
      exact ⟨hp.1, hp.2.kept hs (fun _ h => h) ⟨cur, heq.trans hcur⟩ fun i _ => World.cell?_of_block (w := w) (a := ⟨gf', i, none⟩) heq⟩
  · by_cases hne : g' = g ∧ o' = o
    · obtain ⟨rfl, rfl⟩ := hne
      rcases hj with rfl | rfl
      · exact (hc _ (by omega)).trans hv
      · rw [hold] at hv
        injection hv with hv
        exact absurd hv.symm hn
    · exact (hcells g' o' t' e' hne j (by omega)).trans hv
end

/-- The ghost with a list's words. -/
def Ghost.mark (Γ : Ghost) (v : Value) : Ghost := { Γ with M := fun g => Γ.M g ∨ v.ownBlock = some g }

section
variable {w w0 : World} {B : Nat} {xs : List Int} {Γ Γ0 : Ghost} {gf i : Nat} {t : T} {v : Value} {q : Nat → Bool}
theorem Inv.putFrom (h : Inv w B xs Γ) (e : Γ.G gf = some t) (hi : i ≤ xs.length) (hv : Pl w B v (xs.length / 64 + 1) q) (hq : ∀ j, q j = true ↔ E xs t i j) :
    Inv (w.setCell ⟨gf, i, none⟩ v) B xs (Γ.mark v) := by
  have k := (h.starts gf t e).2
  obtain ⟨curg, hcg⟩ := k.block
  have hs : ∀ b, Still w b → (w.setCell ⟨gf, i, none⟩ v).heap[b]? = w.heap[b]? := fun b hb' => Below.heap_setCell w _ v b (fun e' => hb'.2.2 curg (by rw [e']; exact hcg))
  refine ⟨fun g' o' t' e' => ?_, fun gf' t' e' => ?_⟩
  · have hp := h.part g' o' t' e'
    obtain ⟨cur, hcur⟩ := hp.2.block
    have hne := kind_ne hcur hcg (by decide)
    refine ⟨hp.1, hp.2.kept hs (fun _ _ _ h => h) (fun _ _ h => h) (set_block (i := 0) hcur _ v) fun j _ => cell_other fun ea => hne ?_⟩
    injection ea with ea _
    exact ea.symm
  · have e2 : Γ.G gf' = some t' := e'
    have hp := h.starts gf' t' e2
    obtain ⟨cur, hcur⟩ := hp.2.block
    refine ⟨hp.1, set_block (i := 0) hcur _ v, fun j hj => ?_⟩
    by_cases hji : gf' = gf ∧ j = i
    · obtain ⟨rfl, rfl⟩ := hji
      rw [e] at e2
      injection e2 with e2
      subst e2
      obtain ⟨v0, h0, _⟩ := k.cells j hj
      exact ⟨v, World.cell?_setCell_same _ _ _ h0, .inr ⟨q, pl_still hv hs, fun g eg => .inr eg, hq⟩⟩
    · obtain ⟨v0, h0, h1⟩ := hp.2.cells j hj
      refine ⟨v0, (cell_other fun ea => hji ?_).trans h0, ?_⟩
      · injection ea with e3 e4
        exact ⟨e3.symm, e4.symm⟩
      · rcases h1 with h1 | ⟨q0, h3, h4, h5⟩
        · exact .inl h1
        · exact .inr ⟨q0, pl_still h3 hs, fun g eg => .inl (h4 g eg), h5⟩
/-- What the store leaves, seen from the call's begin: the words' block is newer than that. -/
theorem Ext.put (h : Inv w B xs Γ) (x : Ext B w0 w Γ0 Γ) (e : Γ.G gf = some t) (hn : ∀ g, v.ownBlock = some g → w0.heap.size ≤ g) : Ext B w0 (w.setCell ⟨gf, i, none⟩ v) Γ0 (Γ.mark v) := by
  have k := h.starts gf t e
  obtain ⟨curg, hcg⟩ := k.2.block
  refine ⟨x.below.setCell (p := ⟨gf, i, none⟩) k.1 _, x.F, x.G, fun g hg => .inl (x.M g hg), fun g hg => ?_, fun b hs => ?_, fun g o t' e' j hj u hu hun => ?_, fun b cur eb hG => ?_, x.newG⟩
  · rcases hg with hg | hg
    · exact x.new g hg
    · exact .inr (hn g hg)
  · have hs' := hs.ext x
    exact (Below.heap_setCell w _ v b (fun e' => hs'.2.2 curg (by rw [e']; exact hcg))).trans (x.still b hs)
  · have hp := h.part g o t' (x.F g o t' e')
    obtain ⟨cur, hcur⟩ := hp.2.block
    have hne := kind_ne hcur hcg (by decide)
    refine (cell_other fun ea => hne ?_).trans (x.stay g o t' e' j hj u hu hun)
    injection ea with ea _
    exact ea.symm
  · refine (Below.heap_setCell w _ v b fun e' => ?_).trans (x.box b cur eb hG)
    have e2 : b = gf := e'
    subst e2
    rcases x.newG _ _ e with e3 | e3
    · exact hG _ e3
    · have := lt_of_some eb
      omega
end

end Go.Proofs.YtccbeimcggamiaaDoor

/-
  What a store into words of one's own leaves of all parts. Contracts for other texts; no statement of its own.
-/
namespace Go.Proofs.YtccbeimcggamiaaDoor
open Go Go.RowKit

section
variable {w w' : World} {B : Nat} {xs : List Int} {Γ : Ghost} {g o gr : Nat} {t : T} {curr : Array Value}
theorem PartOk.own (h : PartOk w xs Γ g o t) (hb : ∀ b, b < w.heap.size → b ≠ gr → w'.heap[b]? = w.heap[b]?) (hc : w.heap[gr]? = some (.cells curr 24 (0, 0))) : PartOk w' xs Γ g o t := by
  obtain ⟨gn, on, kn, h1, h2, h3, curn, h4⟩ := h.node
  obtain ⟨curp, hp⟩ := h.block
  have eg := hb g (lt_of_some hp) (kind_ne hp hc (by decide))
  have en := hb gn (lt_of_some h4) (kind_ne h4 hc (by decide))
  have hcell : ∀ j, w'.cell? ⟨g, j, none⟩ = w.cell? ⟨g, j, none⟩ := fun j => World.cell?_of_block (w := w) (a := ⟨g, j, none⟩) eg
  refine ⟨h.four, ⟨curp, eg.trans hp⟩, h.wf, ⟨gn, on, kn, (hcell _).trans h1, h2.block en, h3.mono fun b _ _ ⟨cur, e⟩ => ⟨hb b (lt_of_some e) (kind_ne e hc (by decide)), trivial⟩, curn, en.trans h4⟩, ?_, ?_, ?_⟩
  · rcases h.kids with k | ⟨gk, k1, k2⟩
    · exact .inl ((hcell _).trans k)
    · exact .inr ⟨gk, (hcell _).trans k1, k2⟩
  · obtain ⟨a, a1, a2⟩ := h.asked
    exact ⟨a, (hcell _).trans a1, a2⟩
  · rcases h.starts with k | ⟨gf, k1, k2⟩
    · exact .inl ((hcell _).trans k)
    · exact .inr ⟨gf, (hcell _).trans k1, k2⟩
theorem Pl.other {C m : Nat} {v : Value} {q : Nat → Bool} (hp : Pl w C v m q) (hb : ∀ b, b < w.heap.size → b ≠ gr → w'.heap[b]? = w.heap[b]?) (hne : v.ownBlock ≠ some gr) : Pl w' C v m q := by
  refine ⟨hp.1, ?_⟩
  rcases hp.2 with hn | ⟨g, cap, cur, rfl, hB, hg, rest⟩
  · exact .inl hn
  · exact .inr ⟨g, cap, cur, rfl, hB, (hb g (lt_of_some hg) (fun e => hne (by rw [← e]; rfl))).trans hg, rest⟩
theorem FromOk.own (h : FromOk w B xs Γ g t) (hb : ∀ b, b < w.heap.size → b ≠ gr → w'.heap[b]? = w.heap[b]?) (hc : w.heap[gr]? = some (.cells curr 24 (0, 0))) (hM : ¬ Γ.M gr) : FromOk w' B xs Γ g t := by
  obtain ⟨curp, hp⟩ := h.block
  have eg := hb g (lt_of_some hp) (kind_ne hp hc (by decide))
  refine ⟨⟨curp, eg.trans hp⟩, fun i hi => ?_⟩
  obtain ⟨v, h1, h2⟩ := h.cells i hi
  refine ⟨v, (World.cell?_of_block (w := w) (a := ⟨g, i, none⟩) eg).trans h1, ?_⟩
  rcases h2 with h2 | ⟨q, h3, h4, h5⟩
  · exact .inl h2
  · exact .inr ⟨q, h3.other hb (fun e => hM (h4 _ e)), h4, h5⟩
theorem Inv.ownSet (h : Inv w B xs Γ) (hb : ∀ b, b < w.heap.size → b ≠ gr → w'.heap[b]? = w.heap[b]?) (hc : w.heap[gr]? = some (.cells curr 24 (0, 0))) (hM : ¬ Γ.M gr) : Inv w' B xs Γ :=
  ⟨fun g o t e => ⟨(h.part g o t e).1, (h.part g o t e).2.own hb hc⟩, fun gf t e => ⟨(h.starts gf t e).1, (h.starts gf t e).2.own hb hc hM⟩⟩
end

/-- All parts, and: what stands in a list is old. -/
structure InvM (w : World) (B : Nat) (xs : List Int) (Γ : Ghost) : Prop where
  inv : Inv w B xs Γ
  old : ∀ g, Γ.M g → g < w.heap.size

section
variable {w w' w0 : World} {B : Nat} {xs : List Int} {Γ Γ' Γ0 : Ghost} {m : Nat} {v : Value} {q : Nat → Bool}
theorem InvM.stays (h : InvM w B xs Γ) (hb : Below w.heap.size w w') : InvM w' B xs Γ := ⟨h.inv.stays hb, fun g e => Nat.lt_of_lt_of_le (h.old g e) hb.size⟩
/-- What a call has made and handed back does not stand in a list of older blocks. -/
theorem InvM.apart (h : InvM w B xs Γ) (x : Ext B w w' Γ Γ') {g : Nat} (h1 : ¬ Γ.M g) (h2 : g < w.heap.size) : ¬ Γ'.M g := fun e => by
  rcases x.new g e with e | e
  · exact h1 e
  · omega
/-- Words of one's own, newer than the call. -/
structure Mine (w0 w : World) (B : Nat) (Γ : Ghost) (v : Value) (m : Nat) (q : Nat → Bool) : Prop where
  pl : Pl w w0.heap.size v m q
  free : ∀ g, v.ownBlock = some g → ¬ Γ.M g
theorem Mine.new {w1 : World} (h : InvM w1 B xs Γ) (hp : Pl w w1.heap.size v m q) (hs : w0.heap.size ≤ w1.heap.size) : Mine w0 w B Γ v m q :=
  ⟨hp.lower hs, fun g e hg => by have := h.old g hg; have := (World.ownsRow.lt hp g e).1; omega⟩
theorem Mine.ext (h : Mine w0 w B Γ v m q) (x : Ext B w w' Γ Γ') : Mine w0 w' B Γ' v m q := ⟨h.pl.ext x, fun g e hg => by
  have := (World.ownsRow.lt h.pl g e).2
  rcases x.new g hg with hg | hg
  · exact h.free g e hg
  · omega⟩
theorem Mine.kept (h : Mine w0 w B Γ v m q) (hb : Below w.heap.size w w') : Mine w0 w' B Γ v m q := ⟨h.pl.stays hb, h.free⟩
/-- A store into them. -/
theorem Mine.set {q' : Nat → Bool} (h : Mine w0 w B Γ v m q) (hm : 0 < m) (hi : InvM w B xs Γ) (x : Ext B w0 w Γ0 Γ) (hp : Pl w' w0.heap.size v m q') (hg : w.grownBy w' v.ownBlock) (hB : B ≤ w0.heap.size) :
    InvM w' B xs Γ ∧ Ext B w0 w' Γ0 Γ ∧ Mine w0 w' B Γ v m q' := by
  have hpl := h.pl
  rcases hpl.2 with ⟨rfl, h0⟩ | ⟨g, cap, cur, rfl, hB1, hg1, _⟩
  · omega
  have hb : ∀ b, b < w.heap.size → b ≠ g → w'.heap[b]? = w.heap[b]? := fun b h1 h2 => hg.block b h1 (fun e => h2 (by cases e; rfl))
  have hM : ¬ Γ.M g := h.free g rfl
  refine ⟨⟨hi.inv.ownSet hb hg1 hM, fun g e => Nat.lt_of_lt_of_le (hi.old g e) hg.size⟩, ⟨x.below.grown hg (Nat.le_trans hB x.below.size) (fun k e => by cases e; exact Nat.le_trans hB hB1), x.F, x.G, x.M, x.new, fun b hs => ?_, fun g' o t e j hj u hu hn => ?_, fun b cur2 eb hG => ?_, x.newG⟩, ⟨hp, h.free⟩⟩
  · have := hs.1
    exact (hb b (Nat.lt_of_lt_of_le hs.1 x.below.size) (by omega)).trans (x.still b hs)
  · obtain ⟨cur', hc'⟩ := (hi.inv.part g' o t (x.F g' o t e)).2.block
    refine (World.cell?_of_block (w := w) (a := ⟨g', o + j, none⟩) (hb g' (lt_of_some hc') (kind_ne hc' hg1 (by decide)))).trans (x.stay g' o t e j hj u hu hn)
  · have e1 := x.box b cur2 eb hG
    exact (hb b (lt_of_some (e1.trans eb)) (kind_ne (e1.trans eb) hg1 (by decide))).trans e1
end

section
variable {w w' w0 : World} {B : Nat} {xs : List Int} {Γ Γ' Γ0 : Ghost} {g o m C : Nat} {t : T} {v : Value} {q : Nat → Bool}
/-- What is no cells may turn. -/
theorem PartOk.turn (h : PartOk w xs Γ g o t) (hb : ∀ (b : Nat) (cur : Array Value) (ty : TypeId), w.heap[b]? = some (.cells cur ty (0, 0)) → w'.heap[b]? = w.heap[b]?) : PartOk w' xs Γ g o t := by
  obtain ⟨gn, on, kn, h1, h2, h3, curn, h4⟩ := h.node
  obtain ⟨curp, hp⟩ := h.block
  have eg := hb g _ _ hp
  have en := hb gn _ _ h4
  have hcell : ∀ j, w'.cell? ⟨g, j, none⟩ = w.cell? ⟨g, j, none⟩ := fun j => World.cell?_of_block (w := w) (a := ⟨g, j, none⟩) eg
  refine ⟨h.four, ⟨curp, eg.trans hp⟩, h.wf, ⟨gn, on, kn, (hcell _).trans h1, h2.block en, h3.mono fun b _ _ ⟨cur, e⟩ => ⟨hb b _ _ e, trivial⟩, curn, en.trans h4⟩, ?_, ?_, ?_⟩
  · rcases h.kids with k | ⟨gk, k1, k2⟩
    · exact .inl ((hcell _).trans k)
    · exact .inr ⟨gk, (hcell _).trans k1, k2⟩
  · obtain ⟨a, a1, a2⟩ := h.asked
    exact ⟨a, (hcell _).trans a1, a2⟩
  · rcases h.starts with k | ⟨gf, k1, k2⟩
    · exact .inl ((hcell _).trans k)
    · exact .inr ⟨gf, (hcell _).trans k1, k2⟩
theorem Pl.turn (hp : Pl w C v m q) (hb : ∀ (b : Nat) (cur : Array Value) (ty : TypeId), w.heap[b]? = some (.cells cur ty (0, 0)) → w'.heap[b]? = w.heap[b]?) : Pl w' C v m q := by
  refine ⟨hp.1, ?_⟩
  rcases hp.2 with hn | ⟨g, cap, cur, rfl, hB, hg, rest⟩
  · exact .inl hn
  · exact .inr ⟨g, cap, cur, rfl, hB, (hb g _ _ hg).trans hg, rest⟩
theorem FromOk.turn (h : FromOk w B xs Γ g t) (hb : ∀ (b : Nat) (cur : Array Value) (ty : TypeId), w.heap[b]? = some (.cells cur ty (0, 0)) → w'.heap[b]? = w.heap[b]?) : FromOk w' B xs Γ g t := by
  obtain ⟨curp, hp⟩ := h.block
  have eg := hb g _ _ hp
  refine ⟨⟨curp, eg.trans hp⟩, fun i hi => ?_⟩
  obtain ⟨v, h1, h2⟩ := h.cells i hi
  refine ⟨v, (World.cell?_of_block (w := w) (a := ⟨g, i, none⟩) eg).trans h1, ?_⟩
  rcases h2 with h2 | ⟨q, h3, h4, h5⟩
  · exact .inl h2
  · exact .inr ⟨q, h3.turn hb, h4, h5⟩
theorem turn_cells {row : Option Nat} (hg : w.grownBy w' row) (hr : ∀ r, row = some r → ∃ o : Obj, w.heap[r]? = some o ∧ o.isCells = false) : ∀ (b : Nat) (cur : Array Value) (ty : TypeId), w.heap[b]? = some (.cells cur ty (0, 0)) → w'.heap[b]? = w.heap[b]? := fun b cur ty e => hg.block b (lt_of_some e) fun er => by
  obtain ⟨o, ho, hc⟩ := hr b er.symm
  rw [e] at ho
  injection ho with ho
  rw [← ho] at hc
  cases hc
theorem InvM.turn {row : Option Nat} (h : InvM w B xs Γ) (hg : w.grownBy w' row) (hr : ∀ r, row = some r → ∃ o : Obj, w.heap[r]? = some o ∧ o.isCells = false) : InvM w' B xs Γ :=
  ⟨⟨fun g o t e => ⟨(h.inv.part g o t e).1, (h.inv.part g o t e).2.turn (turn_cells hg hr)⟩, fun gf t e => ⟨(h.inv.starts gf t e).1, (h.inv.starts gf t e).2.turn (turn_cells hg hr)⟩⟩, fun g e => Nat.lt_of_lt_of_le (h.old g e) hg.size⟩
theorem Ext.turn {row : Option Nat} (hi : InvM w B xs Γ) (x : Ext B w0 w Γ0 Γ) (hg : w.grownBy w' row) (hB : B ≤ w0.heap.size) (hr : ∀ r, row = some r → w0.heap.size ≤ r ∧ ∃ o : Obj, w.heap[r]? = some o ∧ o.isCells = false) : Ext B w0 w' Γ0 Γ := by
  refine ⟨x.below.grown hg (Nat.le_trans hB x.below.size) (fun k e => Nat.le_trans hB (hr k e).1), x.F, x.G, x.M, x.new, fun b hs => ?_, fun g' o t e j hj u hu hn => ?_, fun b cur2 eb hG => ?_, x.newG⟩
  · refine (hg.block b (Nat.lt_of_lt_of_le hs.1 x.below.size) fun er => ?_).trans (x.still b hs)
    have := (hr b er.symm).1
    have := hs.1
    omega
  · obtain ⟨cur', hc'⟩ := (hi.inv.part g' o t (x.F g' o t e)).2.block
    exact (World.cell?_of_block (w := w) (a := ⟨g', o + j, none⟩) (turn_cells hg (fun r er => (hr r er).2) g' _ _ hc')).trans (x.stay g' o t e j hj u hu hn)
  · have e1 := x.box b cur2 eb hG
    exact (turn_cells hg (fun r er => (hr r er).2) b _ _ (e1.trans eb)).trans e1
theorem Mine.turn {row : Option Nat} (h : Mine w0 w B Γ v m q) (hg : w.grownBy w' row) (hr : ∀ r, row = some r → ∃ o : Obj, w.heap[r]? = some o ∧ o.isCells = false) : Mine w0 w' B Γ v m q := ⟨h.pl.turn (turn_cells hg hr), h.free⟩
end

end Go.Proofs.YtccbeimcggamiaaDoor

/-
  What is known when a call on parts begins, and what such a call tells. Contracts for other texts; no statement of its own.
-/
namespace Go.Proofs.YtccbeimcggamiaaDoor
open Go Go.RowKit

/-- What is known when a call on parts begins. -/
structure Ask (w : World) (B : Nat) (xs : List Int) (A : Option Addr) (Γ : Ghost) : Prop where
  inv : InvM w B xs Γ
  rd : RdB w B A xs
  byte : ∀ k, k < xs.length → 0 ≤ xs.getD k 0 ∧ xs.getD k 0 ≤ 255
  len : xs.length ≤ 100000
  tab : Tab w
  tabB : 0 < B
  le : B ≤ w.heap.size
/-- Places in the word. -/
structure InW (w : World) (xs : List Int) (v : Value) (q : Nat → Bool) : Prop where
  pl : Pl w 0 v (xs.length / 64 + 1) q
  le : ∀ x, q x = true → x ≤ xs.length
section
variable {w w' : World} {B : Nat} {xs : List Int} {A : Option Addr} {Γ Γ' : Ghost} {v : Value} {q : Nat → Bool} {P : Nat → Prop}
theorem Ask.ext (h : Ask w B xs A Γ) (x : Ext B w w' Γ Γ') (hi : InvM w' B xs Γ') : Ask w' B xs A Γ' :=
  ⟨hi, h.rd.below x.below, h.byte, h.len, h.tab.below x.below h.tabB, h.tabB, Nat.le_trans h.le x.below.size⟩
theorem Ask.stays (h : Ask w B xs A Γ) (hb : Below w.heap.size w w') : Ask w' B xs A Γ := h.ext (Ext.stays Γ hb h.le) (h.inv.stays hb)
theorem InW.ext (h : InW w xs v q) (x : Ext B w w' Γ Γ') : InW w' xs v q := ⟨h.pl.ext x, h.le⟩
theorem InW.stays (h : InW w xs v q) (hb : Below w.heap.size w w') : InW w' xs v q := ⟨h.pl.stays hb, h.le⟩
end
/-- What a call tells: the places of which P holds. -/
def RetEndsP (B : Nat) (w : World) (xs : List Int) (Γ : Ghost) (P : Nat → Prop) (e : Ending) (w' : World) : Prop :=
  ∃ v q Γ', e = .returned v ∧ InvM w' B xs Γ' ∧ Ext B w w' Γ Γ' ∧ InW w' xs v q ∧ ∀ j, q j = true ↔ P j
/-- The same in words of its own. -/
def RetMine (B : Nat) (w : World) (xs : List Int) (Γ : Ghost) (P : Nat → Prop) (e : Ending) (w' : World) : Prop :=
  ∃ v q Γ', e = .returned v ∧ InvM w' B xs Γ' ∧ Ext B w w' Γ Γ' ∧ Mine w w' B Γ' v (xs.length / 64 + 1) q ∧ (∀ x, q x = true → x ≤ xs.length) ∧ ∀ j, q j = true ↔ P j
theorem RetMine.plain {B : Nat} {w w' : World} {xs : List Int} {Γ : Ghost} {P : Nat → Prop} {e : Ending} (h : RetMine B w xs Γ P e w') : RetEndsP B w xs Γ P e w' := by
  obtain ⟨v, q, Γ', h1, h2, h3, h4, h5, h6⟩ := h
  exact ⟨v, q, Γ', h1, h2, h3, ⟨h4.pl.lower (Nat.zero_le _), h5⟩, h6⟩

/-- What has come so far, added up. -/
def foldP {α : Type} (f : α → Nat → Bool) (pre : List α) : Nat → Bool := fun x => pre.any fun y => f y x
theorem foldP_nil {α : Type} (f : α → Nat → Bool) : foldP f [] = noneP := rfl
theorem foldP_snoc {α : Type} (f : α → Nat → Bool) (pre : List α) (y : α) (x : Nat) : foldP f (pre ++ [y]) x = (foldP f pre x || f y x) := by simp [foldP]
theorem Pl.same {w : World} {B m : Nat} {v : Value} {q r : Nat → Bool} (h : Pl w B v m q) (e : ∀ x, q x = r x) : Pl w B v m r := by
  have : q = r := funext e
  rwa [← this]
theorem foldP_up {q : Nat → Bool} {M : Nat} {f : Nat → Nat → Bool} (ys : List (UpAt q M)) (h : ys.map (·.1) = upP q M) (j : Nat) : foldP (fun y : UpAt q M => f y.1) ys j = true ↔ ∃ i, i < M ∧ q i = true ∧ f i j = true := by
  unfold foldP
  rw [List.any_eq_true]
  constructor
  · rintro ⟨y, hy, hf⟩
    exact ⟨y.1, y.2.1, y.2.2, hf⟩
  · rintro ⟨i, h1, h2, h3⟩
    have hi : i ∈ ys.map (·.1) := by rw [h]; exact upP_mem.2 ⟨h1, h2⟩
    obtain ⟨y, hy, rfl⟩ := List.mem_map.1 hi
    exact ⟨y, hy, h3⟩
theorem keeps_below {B : Nat} {W W' : World} (h : Below W.heap.size W W') : KeepsFrom B W W' := ⟨h.size, fun k o _ hk _ => (h.block k (lt_of_some hk)).trans hk⟩

end Go.Proofs.YtccbeimcggamiaaDoor

/-
  lang.part.kid. Contracts for other texts; no statement of its own.
-/
namespace Go.Proofs.YtccbeimcggamiaaDoor
open Go Go.RowKit
attribute [local go_sem ↓] Go.wp_at_zero Go.wp_at_succ

theorem Tryd.infoPart : (Tryd.prog.info? 95).map (fun i => (i.zero, i.size, i.bytes)) = some (some (.agg #[.pointer none, .slice none 0 0, .int .i64 0, .slice none 0 0]), 4, 64) := by kernel_rfl

/-- What kid tells: where the kid's part lies. -/
def RetKid (B : Nat) (w : World) (xs : List Int) (Γ : Ghost) (u : T) (e : Ending) (w' : World) : Prop :=
  ∃ g o Γ', e = .returned (.pointer (some ⟨g, o, none⟩)) ∧ Γ'.F g o = some u ∧ Inv w' B xs Γ' ∧ Ext B w w' Γ Γ' ∧ ∀ g, Γ'.M g → Γ.M g

set_option maxHeartbeats 1000000 in
theorem kid_has {w : World} {B : Nat} {xs : List Int} {Γ : Ghost} {g o gk : Nat} {t : T} (h : Inv w B xs Γ) (e : Γ.F g o = some t) (i : Nat) (hi : i < t.kids.length)
    (hc : w.cell? ⟨g, o + 1, none⟩ = some (.slice (some ⟨gk, 0, none⟩) t.kids.length t.kids.length)) (hF : Γ.F gk (i * 4) = some (t.kids[i]'hi)) :
    Calls Tryd.prog 63 #[.pointer (some ⟨g, o, none⟩), .int .i64 i] w (RetKid B w xs Γ (t.kids[i]'hi)) := by
  have hn : ∀ W, (binOp .eql 92 (.slice (some ⟨gk, 0, none⟩) t.kids.length t.kids.length) (.slice none 0 0)).run Tryd.prog W = .ok (.bool false) W := fun W => Lib.run_eql_slice_some_nil W _ _ _ Tryd.underlying92
  have HH := Lib.hid h
  have HF := Lib.hid hF
  have hlen := (h.part g o t e).2.wf.len
  clear h e hF
  have i1 : (i : Int) < (t.kids.length : Int) := by omega
  go_enter Tryd.func63, Tryd.ntmps63
  go_wp2
  go_ret
  exact ⟨gk, i * 4, Γ, rfl, HF.out, HH.out, Ext.refl _ _ _, fun _ h => h⟩

/-- The cells of a new row of kids' parts, of which k point at their nodes. -/
def cellsK (ga n k : Nat) : List Value := (List.range (n * 4)).map fun j => if j % 4 = 0 then (if j / 4 < k then Value.pointer (some ⟨ga, j / 4 * 8, none⟩) else Value.pointer none) else if j % 4 = 2 then Value.int .i64 0 else Value.slice none 0 0
theorem cellsK_len (ga n k : Nat) : (cellsK ga n k).length = n * 4 := by simp [cellsK]
theorem cellsK_at (ga n k j : Nat) (h : j < n * 4) : (cellsK ga n k)[j]? = some (if j % 4 = 0 then (if j / 4 < k then Value.pointer (some ⟨ga, j / 4 * 8, none⟩) else Value.pointer none) else if j % 4 = 2 then Value.int .i64 0 else Value.slice none 0 0) := by simp [cellsK, h]
theorem cellsK_set (ga n k : Nat) (h : k < n) : (cellsK ga n k).set (k * 4) (.pointer (some ⟨ga, k * 8, none⟩)) = cellsK ga n (k + 1) := by
  apply List.ext_getElem?
  intro j
  rw [List.getElem?_set, cellsK_len]
  by_cases hj : j < n * 4
  · rw [cellsK_at _ _ _ _ hj, cellsK_at _ _ _ _ hj]
    by_cases hk : k * 4 = j
    · subst hk
      rw [if_pos rfl, if_pos hj, if_pos (by omega), if_pos (by omega), show k * 4 / 4 = k by omega]
    · rw [if_neg hk]
      by_cases h4 : j % 4 = 0
      · rw [if_pos h4, if_pos h4]
        by_cases hjk : j / 4 < k
        · rw [if_pos hjk, if_pos (by omega)]
        · rw [if_neg hjk, if_neg (by omega)]
      · rw [if_neg h4, if_neg h4]
  · rw [List.getElem?_eq_none (by rw [cellsK_len]; omega), List.getElem?_eq_none (by rw [cellsK_len]; omega)]
    by_cases hk : k * 4 = j
    · omega
    · rw [if_neg hk]
theorem cellsK_made (ga n : Nat) : (madeCells (Value.agg #[.pointer none, .slice none 0 0, .int .i64 0, .slice none 0 0]).cells (n * 4)).toList = cellsK ga n 0 := by
  apply List.ext_getElem?
  intro j
  by_cases hj : j < n * 4
  · rw [cellsK_at _ _ _ _ hj]
    have h4 : j % 4 = 0 ∨ j % 4 = 1 ∨ j % 4 = 2 ∨ j % 4 = 3 := by omega
    rcases h4 with h4 | h4 | h4 | h4 <;> simp [madeCells, Value.cells, hj, h4]
  · rw [List.getElem?_eq_none (l := cellsK ga n 0) (by rw [cellsK_len]; omega)]
    simp [madeCells, hj]

theorem tree_row {w : World} {t : T} {ga n c : Nat} (h : Tree w (fun _ => True) t (.slice (some ⟨ga, 0, none⟩) n c)) (hn : 0 < n) : ∃ cur, w.heap[ga]? = some (.cells cur 29 (0, 0)) := by
  cases h with
  | row t g cap cur ks hg hok hn h0 hcap hmax hsize hc hk => exact ⟨cur, hg⟩

set_option maxRecDepth 20000 in
set_option maxHeartbeats 2000000 in
theorem kid_new {w : World} {B : Nat} {xs : List Int} {Γ : Ghost} {g o : Nat} {t : T} (h : Inv w B xs Γ) (hB : B ≤ w.heap.size) (e : Γ.F g o = some t) (i : Nat) (hi : i < t.kids.length)
    (hc : w.cell? ⟨g, o + 1, none⟩ = some (.slice none 0 0)) :
    Calls Tryd.prog 63 #[.pointer (some ⟨g, o, none⟩), .int .i64 i] w (RetKid B w xs Γ (t.kids[i]'hi)) := by
  have hn : ∀ W, (binOp .eql 92 (.slice none 0 0) (.slice none 0 0)).run Tryd.prog W = .ok (.bool true) W := fun W => Lib.run_eql_slice_nil_nil W _ _ Tryd.underlying92
  have hp := (h.part g o t e).2
  have hlen := hp.wf.len
  have hwf := hp.wf
  obtain ⟨gn, on, kn, n1, n2, n3, n4⟩ := hp.node
  obtain ⟨A, nk, ck, rfl⟩ := n3.form
  obtain ⟨hnk, _⟩ := n3.bound
  have hn0 : 0 < nk := by omega
  have n7 := n2 7 _ rfl
  obtain ⟨ga, rfl⟩ : ∃ ga, A = some ⟨ga, 0, none⟩ := by
    obtain ⟨ga, _, _, _, e1, _⟩ := NodeAt.kid n3 0 (by omega)
    exact ⟨ga, e1⟩
  have hgn := n2.lt
  obtain ⟨i0, hi0, hz0, hz1, hz2⟩ := info_parts Tryd.infoPart
  obtain ⟨w1, hr, hown, hg⟩ := run_make_full (P := Tryd.prog) w w.heap.size 92 95 i0 _ 4 Tryd.underlying92 hi0 hz0 hz1 .i64 .i64 nk (by rw [hz2]; omega) (by unfold maxLen; omega) (Nat.le_refl _)
  obtain ⟨curp, hblk⟩ := hp.block
  have hgw := lt_of_some hblk
  have hb1 : Below w.heap.size w w1 := (Below.refl _ _).grown hg (Nat.le_refl _) (fun j e => by cases e)
  have c1 := cell_stays hc hb1
  have c0 := cell_stays n1 hb1
  have hfz : ∀ j, w1.frozen? ⟨g, j, none⟩ = false := fun j => by
    have hb := (hb1.block g hgw).trans hblk
    simp [World.frozen?, hb]
  have f1 := hfz (o + 1)
  have c7 := cell_stays n7 hb1
  have hne : g ≠ gn := by
    rintro rfl
    obtain ⟨cn, hcn⟩ := n4
    rw [hblk] at hcn
    injection hcn with hcn
    injection hcn with _ hcn
    exact absurd hcn (by decide)
  have hsz : w.heap.size < w1.heap.size := (World.ownsRow.lt hown _ rfl).2
  have HOWN := Lib.hid hown
  have HN3 := Lib.hid n3
  have HN2 := Lib.hid n2
  have HN4 := Lib.hid n4
  have HHH := Lib.hid h
  have HE := Lib.hid e
  have HNK := Lib.hid hnk
  clear hfz hown h e hp n2 n3 n4 hnk hi0 hz0 hz1 hz2 hg
  go_enter Tryd.func63, Tryd.ntmps63
  go_wp2
  have b12 : w1.grownBy (w1.setCell ⟨g, o + 1, none⟩ (.slice (some ⟨w.heap.size, 0, none⟩) nk nk)) (some g) := ⟨rfl, rfl, rfl, by simp [World.setCell], fun k _ hk => Below.heap_setCell _ _ _ _ (fun e => hk (by rw [e]))⟩
  have own2 := World.ownsRow.kept HOWN.out b12 (.inr (by simp [Value.ownBlock]; omega))
  rw [cellsK_made ga nk] at own2
  have d0 : (w1.setCell ⟨g, o + 1, none⟩ (.slice (some ⟨w.heap.size, 0, none⟩) nk nk)).cell? ⟨g, o, none⟩ = some (.pointer (some ⟨gn, on, none⟩)) := (cell_other (by intro e; injection e with _ e; omega)).trans c0
  have d7 : (w1.setCell ⟨g, o + 1, none⟩ (.slice (some ⟨w.heap.size, 0, none⟩) nk nk)).cell? ⟨gn, on + 7, none⟩ = some (.slice (some ⟨ga, 0, none⟩) nk ck) := (cell_other (by intro e; injection e with e _; exact hne e)).trans c7
  have d1 : (w1.setCell ⟨g, o + 1, none⟩ (.slice (some ⟨w.heap.size, 0, none⟩) nk nk)).cell? ⟨g, o + 1, none⟩ = some (.slice (some ⟨w.heap.size, 0, none⟩) nk nk) := World.cell?_setCell_same _ _ _ c1
  have dg := set_block (i := 0) ((hb1.block g hgw).trans hblk) ⟨g, o + 1, none⟩ (.slice (some ⟨w.heap.size, 0, none⟩) nk nk)
  have dc : ∀ q, q ≠ o + 1 → (w1.setCell ⟨g, o + 1, none⟩ (.slice (some ⟨w.heap.size, 0, none⟩) nk nk)).cell? ⟨g, q, none⟩ = w.cell? ⟨g, q, none⟩ := fun q hq => (cell_other (by intro e; injection e with _ e; omega)).trans (hb1.cell hgw)
  have HOWN2 := Lib.hid own2
  have HB12 := Lib.hid b12
  clear own2 b12
  generalize hw2 : w1.setCell ⟨g, o + 1, none⟩ (.slice (some ⟨w.heap.size, 0, none⟩) nk nk) = w2 at *
  go_loopg [28] nk (fun m' i wr => ∃ j : Nat, i = .int .i64 (j : Int) ∧ j ≤ nk ∧ m' = nk - j ∧ wr.ownsRow w.heap.size 95 4 (.slice (some ⟨w.heap.size, 0, none⟩) nk nk) nk (cellsK ga nk j) ∧ Below w.heap.size w2 wr)
  case atStart => exact ⟨0, rfl, Nat.zero_le _, rfl, HOWN2.out, Below.refl _ _⟩
  case round =>
    obtain ⟨j, rfl, hj, hmj, hor, hbr⟩ := hrel
    have e0 := (hbr.cell (p := ⟨g, o, none⟩) hgw).trans d0
    have e1 := (hbr.cell (p := ⟨g, o + 1, none⟩) hgw).trans d1
    have e7 := (hbr.cell (p := ⟨gn, on + 7, none⟩) hgn).trans d7
    have hs2 := (World.ownsRow.lt hor _ rfl).2
    have HOR := Lib.hid hor
    have HBR := Lib.hid hbr
    have HMJ := Lib.hid hmj
    clear hor hbr hmj
    have hnk2 : nk ≤ 202 := by have := HNK.out; omega
    by_cases hlt : j < nk
    · have hcell := HOR.out.cellAt (j * 4) (by omega)
      rw [cellsK_at _ _ _ _ (by omega), if_pos (by omega)] at hcell
      have hf := HOR.out.frozenAt (j * 4)
      have hst := HOR.out.stored (j * 4) (.pointer (some ⟨ga, j * 8, none⟩))
      rw [cellsK_set _ _ _ hlt] at hst
      have HST := Lib.hid hst
      clear hst
      go_wp2
      go_region
      all_goals
        go_wp2
        go_roundg (nk - (j + 1))
        case measure => have := HMJ.out; omega
        case rel =>
          refine ⟨j + 1, by go_num, by omega, rfl, ?_, ?_⟩
          · exact HST.out.1
          · exact (HBR.out.setCell (Nat.le_refl _) _).drew
    · have hjn : j = nk := by omega
      have hin : (i : Int) < (nk : Int) := by have := HNK.out; omega
      go_wp2
      go_ret
      subst hjn
      have hblkr : ∀ b, b < w.heap.size → b ≠ g → wr.heap[b]? = w.heap[b]? := fun b h1 h2 => (HBR.out.block b h1).trans ((HB12.out.block b (Nat.lt_of_lt_of_le h1 hb1.size) (fun e => h2 (by injection e))).trans (hb1.block b h1))
      have hst : ∀ b, Still w b → wr.heap[b]? = w.heap[b]? := fun b hs => hblkr b hs.1 (fun e => hs.2.1 curp (by rw [e]; exact hblk))
      have hgr : wr.heap[g]? = w2.heap[g]? := HBR.out.block g hgw
      have hbe : Below B w wr := ((hb1.mono hB).trans (Below.grown (Below.refl _ _) HB12.out (Nat.le_trans hB (Nat.le_of_lt hsz)) (fun k e => by injection e with e; rw [← e]; exact (HHH.out.part g o t HE.out).1))).trans (HBR.out.mono hB)
      have hrow : ∃ cur, wr.heap[w.heap.size]? = some (.cells cur 95 (0, 0)) := by
        rcases HOR.out.2 with ⟨e, _⟩ | ⟨g', cap', cur, e, _, hg', _⟩
        · cases e
        · injection e with e
          injection e with e
          injection e with e
          exact ⟨cur, by rw [e]; exact hg'⟩
      have hcl := fun k (hk : k < j * 4) => (HOR.out.cellAt k hk).trans (cellsK_at ga j j k hk)
      obtain ⟨curn, hgan⟩ := tree_row HN3.out hn0
      have hga : wr.heap[ga]? = w.heap[ga]? := hst ga (still_of hgan (by decide) (by decide))
      have hnk := HNK.out
      have hlay := HHH.out.layKids HE.out w.heap.size (Nat.le_refl _) hB hblkr (by obtain ⟨c, h⟩ := dg; exact ⟨c, hgr.trans h⟩) (fun q hq => (HBR.out.cell (p := ⟨g, q, none⟩) hgw).trans (dc q hq)) (by rw [← hnk]; exact e1) hc (fun k hk => ?_) hbe
      · exact ⟨w.heap.size, i * 4, Γ.row w.heap.size t, rfl, row_at' Γ w.heap.size i t hi, hlay.1, hlay.2, fun _ h => h⟩
      · obtain ⟨ga', Bk, mk, dk, ek, tk, nk'⟩ := NodeAt.kid HN3.out k hk
        injection ek with ek
        injection ek with ek
        subst ek
        refine ⟨by omega, hrow, hwf.kid (List.getElem_mem hk), ⟨ga, k * 8, _, ?_, nk'.block hga, tree_still tk hst, curn, hga.trans hgan⟩, .inl ?_, ⟨0, ?_, by omega⟩, .inl ?_⟩
        · rw [hcl (k * 4) (by omega), if_pos (by omega), if_pos (by omega), show k * 4 / 4 = k by omega]
        · rw [hcl (k * 4 + 1) (by omega), if_neg (by omega), if_neg (by omega)]
        · rw [hcl (k * 4 + 2) (by omega), if_neg (by omega), if_pos (by omega)]; rfl
        · rw [hcl (k * 4 + 3) (by omega), if_neg (by omega), if_neg (by omega)]

theorem kid_p {w : World} {B : Nat} {xs : List Int} {Γ : Ghost} {g o : Nat} {t : T} (h : Inv w B xs Γ) (hB : B ≤ w.heap.size) (e : Γ.F g o = some t) (i : Nat) (hi : i < t.kids.length) :
    Calls Tryd.prog 63 #[.pointer (some ⟨g, o, none⟩), .int .i64 i] w (RetKid B w xs Γ (t.kids[i]'hi)) := by
  rcases (h.part g o t e).2.kids with hc | ⟨gk, hc, hF⟩
  · exact kid_new h hB e i hi hc
  · exact kid_has h e i hi hc (hF i hi)

end Go.Proofs.YtccbeimcggamiaaDoor

/-
  lang.part.repeat. Contracts for other texts; no statement of its own.
-/
namespace Go.Proofs.YtccbeimcggamiaaDoor
open Go Go.RowKit
attribute [local go_sem ↓] Go.wp_at_zero Go.wp_at_succ

/-- What ends tells of a pattern's part. -/
def EndsP (u : T) : Prop := ∀ (w : World) (B c : Nat) (xs : List Int) (A : Option Addr) (Γ : Ghost) (g o : Nat) (v : Value) (q : Nat → Bool), Ask w B xs A Γ → Γ.F g o = some u → InW w xs v q →
  Calls Tryd.prog 35 #[.pointer (some ⟨g, o, none⟩), .slice A xs.length c, v] w (RetEndsP B w xs Γ (img (E xs u) fun i => q i = true))

theorem ask_kid {w w' : World} {B : Nat} {xs : List Int} {A : Option Addr} {Γ Γ' : Ghost} (h : Ask w B xs A Γ) (hi : Inv w' B xs Γ') (x : Ext B w w' Γ Γ') (hM : ∀ g, Γ'.M g → Γ.M g) : Ask w' B xs A Γ' :=
  h.ext x ⟨hi, fun g e => Nat.lt_of_lt_of_le (h.inv.old g (hM g e)) x.below.size⟩
theorem word_eq {m : Nat} {q r : Nat → Bool} (h : ∀ i, i < m → word q i = word r i) (x : Nat) (hx : x < 64 * m) : q x = r x := by
  have e := h (x / 64) (by omega)
  have e2 : wordN q (x / 64) = wordN r (x / 64) := by unfold word at e; omega
  have t1 := wordN_test q (x / 64) (x % 64)
  have t2 := wordN_test r (x / 64) (x % 64)
  rw [e2] at t1
  rw [t1] at t2
  have h64 : x % 64 < 64 := Nat.mod_lt _ (by omega)
  rw [show 64 * (x / 64) + x % 64 = x by omega] at t2
  simpa [h64] using t2
theorem word_same {w w2 : World} {xs : List Int} {v v2 : Value} {q r : Nat → Bool} (h1 : InW w xs v q) (h2 : InW w2 xs v2 r) (h : ∀ i, i < xs.length / 64 + 1 → word q i = word r i) (x : Nat) : q x = true ↔ r x = true := by
  by_cases hx : x < 64 * (xs.length / 64 + 1)
  · rw [word_eq h x hx]
  · constructor
    · intro e; have := h1.le x e; omega
    · intro e; have := h2.le x e; omega

theorem Pl.apart {w2 w5 w6 : World} {C D m m' : Nat} {v5 v : Value} {q5 q : Nat → Bool} (h5 : Pl w5 C v5 m' q5) (hv : Pl w2 D v m q) (hC : w2.heap.size ≤ C) (hg : w5.grownBy w6 v.ownBlock) : Pl w6 C v5 m' q5 := by
  refine ⟨h5.1, ?_⟩
  rcases h5.2 with hn | ⟨g, cap, cur, rfl, hB, hg1, rest⟩
  · exact .inl hn
  · refine .inr ⟨g, cap, cur, rfl, hB, (hg.block g (lt_of_some hg1) fun er => ?_).trans hg1, rest⟩
    have := (World.ownsRow.lt hv g er.symm).2
    omega

set_option maxRecDepth 20000 in
set_option maxHeartbeats 4000000 in
theorem repeat_p {w : World} {B c : Nat} {xs : List Int} {A : Option Addr} {Γ : Ghost} {g o ln hn : Nat} {u : T} {v : Value} {q : Nat → Bool} (ih : EndsP u) (h : Ask w B xs A Γ) (e : Γ.F g o = some (.mk 4 noneP ln hn [u])) (hv : InW w xs v q) :
    Calls Tryd.prog 92 #[.pointer (some ⟨g, o, none⟩), .slice A xs.length c, v] w (RetMine B w xs Γ (img (E xs (.mk 4 noneP ln hn [u])) fun i => q i = true)) := by
  obtain ⟨hb1, hb2⟩ : ln ≤ hn ∧ hn ≤ 32 := by
    have hwf := (h.inv.inv.part g o _ e).2.wf
    cases hwf with
    | rep _ _ _ h0 h1 h2 h3 _ => exact ⟨by omega, by omega⟩
  have hm : xs.length / 64 + 1 ≤ 1000000 := by have := h.len; omega
  have hm0 : 0 < xs.length / 64 + 1 := by omega
  have hkid : ∀ W Γ', Ask W B xs A Γ' → Γ'.F g o = some (.mk 4 noneP ln hn [u]) → Calls Tryd.prog 63 #[.pointer (some ⟨g, o, none⟩), .int .i64 0] W (RetKid B W xs Γ' u) := fun W Γ' ha he => kid_p ha.inv.inv ha.le he 0 (by simp [T.kids])
  unfold RetKid at hkid
  have hend : ∀ W Γ' g' o' v' q', Ask W B xs A Γ' → Γ'.F g' o' = some u → InW W xs v' q' → Calls Tryd.prog 35 #[.pointer (some ⟨g', o', none⟩), .slice A xs.length c, v'] W (RetEndsP B W xs Γ' (img (E xs u) fun i => q' i = true)) := fun W Γ' g' o' v' q' ha he hv => ih W B c xs A Γ' g' o' v' q' ha he hv
  unfold RetEndsP at hend
  have HKID := Lib.hid hkid
  have HEND := Lib.hid hend
  have HH := Lib.hid h
  have HE := Lib.hid e
  have HV := Lib.hid hv
  obtain ⟨gn, on, kn, n1, n2, n3, curn, n4⟩ := (h.inv.inv.part g o _ e).2.node
  have n5 : w.cell? ⟨gn, on + 5, none⟩ = some (.int .i64 (ln : Int)) := n2 5 _ rfl
  generalize hM : xs.length / 64 + 1 = m at *
  have HM := Lib.hid (fun _ : Unit => hM)
  clear hkid hend h e hv n2 n3 n4 hM ih
  go_enter Tryd.func92, Tryd.ntmps92
  go_wp2
  go_loopg [7, 19] ln (fun m' now i wr => ∃ (j : Nat) (q' : Nat → Bool) (Γ' : Ghost), i = .int .i64 (j : Int) ∧ j ≤ ln ∧ m' = ln - j ∧ Ask wr B xs A Γ' ∧ Ext B w wr Γ Γ' ∧ InW wr xs now q' ∧ ∀ x, q' x = true ↔ imgN (E xs u) (fun i => q i = true) j x)
  case atStart => exact ⟨0, q, Γ, rfl, Nat.zero_le _, rfl, HH.out, Ext.refl _ _ _, HV.out, fun _ => Iff.rfl⟩
  case round =>
    obtain ⟨j, q1, Γ1, rfl, hj, hmj, ha1, hx1, hv1, hq1⟩ := hrel
    have HMJ := Lib.hid hmj
    have HA1 := Lib.hid ha1
    have HX1 := Lib.hid hx1
    have HV1 := Lib.hid hv1
    have HQ1 := Lib.hid hq1
    clear hmj ha1 hx1 hv1 hq1
    by_cases hlt : j < ln
    · have hji : (j : Int) < (ln : Int) := by omega
      go_wp2_with (first
        | (go_at_call 63; (with_reducible refine (HKID.out _ _ HA1.out (HX1.out.F _ _ _ HE.out)).mono ?_); rintro e1 w1 ⟨g1, o1, Γ2, rfl, hf1, hi1, hx2, hM2⟩; have HA2 := Lib.hid (ask_kid HA1.out hi1 hx2 hM2); have HX2 := Lib.hid hx2; have HF1 := Lib.hid hf1; clear hf1 hi1 hx2 hM2)
        | (go_at_call 35; (with_reducible refine (HEND.out _ _ _ _ _ _ HA2.out HF1.out (HV1.out.ext HX2.out)).mono ?_); rintro e2 w2 ⟨v2, q2, Γ3, rfl, hi3, hx3, hv3, hq3⟩; have HA3 := Lib.hid (HA2.out.ext hx3 hi3); have HX3 := Lib.hid hx3; have HV3 := Lib.hid hv3; have HQ3 := Lib.hid hq3; clear hi3 hx3 hv3 hq3))
      have HEQ := Lib.hid (equal_p w2 0 0 m v2 u7 q2 q1 (by have h1 := HV3.out.pl; rwa [HM.out ()] at h1) (by have h1 := ((HV1.out.ext HX2.out).ext HX3.out).pl; rwa [HM.out ()] at h1) hm0 hm)
      go_at_call 100
      with_reducible refine HEQ.out.mono ?_
      rintro e3 w3 ⟨b, rfl, hb, hbl⟩
      have HB := Lib.hid hb
      have HA4 := Lib.hid (HA3.out.stays hbl)
      have HX4 := Lib.hid (((HX1.out.trans HX2.out).trans HX3.out).trans (Ext.stays Γ3 hbl HA3.out.le))
      have HV4 := Lib.hid (HV3.out.stays hbl)
      have HV5 := Lib.hid (((HV1.out.ext HX2.out).ext HX3.out).stays hbl)
      clear hb hbl HEQ
      have hstep : ∀ x, q2 x = true ↔ imgN (E xs u) (fun i => q i = true) (j + 1) x := fun x => (HQ3.out x).trans (img_congr HQ1.out x)
      have HST := Lib.hid hstep
      clear hstep
      cases b
      · go_wp2
        go_roundg (ln - (j + 1))
        case measure => have := HMJ.out; omega
        case rel => exact ⟨j + 1, q2, Γ3, by go_num, by omega, rfl, HA4.out, HX4.out, HV4.out, HST.out⟩
      · have hfix : ∀ x, q1 x = true ↔ imgN (E xs u) (fun i => q i = true) ln x := by
          have hsame : ∀ x, q2 x = true ↔ q1 x = true := fun x => word_same HV4.out HV5.out (fun i hi => HB.out.1 rfl i (by have := HM.out (); omega)) x
          have hf : ∀ x, img (E xs u) (imgN (E xs u) (fun i => q i = true) j) x ↔ imgN (E xs u) (fun i => q i = true) j x := fun x => ((HST.out x).symm.trans (hsame x)).trans (HQ1.out x)
          intro x
          rw [HQ1.out x, show ln = j + (ln - j) by omega, ← imgN_add]
          exact (imgN_fix hf (ln - j) x).symm
        have HAT := HA4
        have HXT := HX4
        have HVT := HV5
        have HQT := Lib.hid hfix
        clear hfix HB HST
        obtain ⟨gn2, on2, kn2, m1, m2, m3, curm, m4⟩ := (HAT.out.inv.inv.part g o _ (HXT.out.F _ _ _ HE.out)).2.node
        have m5 := m2 5 _ rfl
        have m6 := m2 6 _ rfl
        rw [show (T.mk 4 noneP (ln : Int) hn [u]).lo = (ln : Int) from rfl] at m5
        rw [show (T.mk 4 noneP (ln : Int) hn [u]).hi = (hn : Int) from rfl] at m6
        have HCL := Lib.hid (clone_p _ 0 m _ _ (by have h1 := HVT.out.pl; rwa [HM.out ()] at h1) hm0 hm)
        unfold RetPl at HCL
        have M1 := Lib.hid m1
        have M5 := Lib.hid m5
        have M6 := Lib.hid m6
        have HL1 := Lib.hid (HAT.out.inv.inv.old (HXT.out.F _ _ _ HE.out))
        have HL2 := Lib.hid (lt_of_some m4)
        clear m1 m2 m3 m4 m5 m6
        go_wp2_with (go_at_call 101; (with_reducible refine HCL.out.mono ?_); rintro e4 w4 ⟨vg, rfl, hvg, hb4⟩; have k1 := (hb4.cell (p := ⟨g, o, none⟩) HL1.out).trans M1.out; have k5 := (hb4.cell (p := ⟨gn2, on2 + 5, none⟩) HL2.out).trans M5.out; have k6 := (hb4.cell (p := ⟨gn2, on2 + 6, none⟩) HL2.out).trans M6.out; have HVG := Lib.hid hvg; have HB4 := Lib.hid hb4; clear hvg hb4)
        go_quiet (fail)
        go_wp2
        have hbq := below_drewN HB4.out nq
        have HA6 := Lib.hid (HAT.out.stays hbq)
        have HX6 := Lib.hid (HXT.out.trans (Ext.stays _ hbq HAT.out.le))
        have HV6 := Lib.hid (HVT.out.stays hbq)
        have HG6 := Lib.hid (Mine.new (w0 := w) HAT.out.inv (HVG.out.stays (below_drewN (Below.refl _ _) nq)) HXT.out.below.size)
        have HD := Lib.hid (fun _ : Unit => hb1)
        obtain ⟨d, hd⟩ : ∃ d : Nat, d = hn - ln := ⟨_, rfl⟩
        rw [show (hn : Int) - (ln : Int) = (d : Int) by omega]
        have HDD := Lib.hid (fun _ : Unit => hd)
        have hd32 : d ≤ 32 := by omega
        clear hbq k1 k5 k6 hd
        generalize w4.drewN nq = w9 at *
        go_loopg [10, 49] d (fun m' fr i wr2 => ∃ (j2 : Nat) (qf qg : Nat → Bool) (Γ2 : Ghost), i = .int .i64 (j2 : Int) ∧ j2 ≤ d ∧ m' = d - j2 ∧ Ask wr2 B xs A Γ2 ∧ Ext B w wr2 Γ Γ2 ∧ InW wr2 xs fr qf ∧ Mine w wr2 B Γ2 vg m qg ∧ (∀ x, qg x = true → x ≤ xs.length) ∧ Found (E xs u) (imgN (E xs u) (fun i => q i = true) ln) j2 (fun x => qg x = true) (fun x => qf x = true))
        case atStart =>
          refine ⟨0, _, _, _, rfl, Nat.zero_le _, rfl, HA6.out, HX6.out, HV6.out, HG6.out, HV6.out.le, ?_⟩
          have hs := Found.start (E xs u) (imgN (E xs u) (fun i => q i = true) ln)
          have hfe := funext fun x => propext (HQT.out x)
          rw [← hfe] at hs
          rw [← hfe]
          exact hs
        case round =>
          obtain ⟨j2, qf, qg, Γ7, rfl, hj2, hmj2, ha7, hx7, hv7, hg7, hle7, hf7⟩ := hrel
          have HMJ2 := Lib.hid hmj2
          have HA7 := Lib.hid ha7
          have HX7 := Lib.hid hx7
          have HV7 := Lib.hid hv7
          have HG7 := Lib.hid hg7
          have HLE7 := Lib.hid hle7
          have HF7 := Lib.hid hf7
          clear hmj2 ha7 hx7 hv7 hg7 hle7 hf7
          by_cases hlt2 : j2 < d
          · have hji2 : (j2 : Int) < (d : Int) := by omega
            go_wp2_with (first
              | (go_at_call 63; (with_reducible refine (HKID.out _ _ HA7.out (HX7.out.F _ _ _ HE.out)).mono ?_); rintro e1 w1 ⟨g1, o1, Γ8, rfl, hf1, hi1, hx2, hM2⟩; have HA8 := Lib.hid (ask_kid HA7.out hi1 hx2 hM2); have HX8 := Lib.hid hx2; have HF1 := Lib.hid hf1; clear hf1 hi1 hx2 hM2)
              | (go_at_call 35; (with_reducible refine (HEND.out _ _ _ _ _ _ HA8.out HF1.out (HV7.out.ext HX8.out)).mono ?_); rintro e2 w2 ⟨v2, q2, Γ9, rfl, hi3, hx3, hv3, hq3⟩; have HA9 := Lib.hid (HA8.out.ext hx3 hi3); have HX9 := Lib.hid hx3; have HV9 := Lib.hid hv3; have HQ9 := Lib.hid hq3; have HG9 := Lib.hid ((HG7.out.ext HX8.out).ext HX9.out); have hwi := without_p w2 0 w.heap.size m v2 vg q2 qg (by have h1 := HV9.out.pl; rwa [HM.out ()] at h1) HG9.out.pl hm0 hm; unfold RetPl at hwi; have HWI := Lib.hid hwi; clear hi3 hx3 hv3 hq3 hwi)
              | (go_at_call 102; (with_reducible refine HWI.out.mono ?_); rintro e5 w5 ⟨v5, rfl, hv5, hb5⟩; have HV5 := Lib.hid hv5; have HB5 := Lib.hid hb5; clear hv5 hb5))
            have hno := none_p w5 w2.heap.size m v5 (minusP q2 qg) HV5.out hm0 hm
            have HNO := Lib.hid hno
            clear hno
            go_at_call 62
            with_reducible refine HNO.out.mono ?_
            rintro e6 w6 ⟨b6, rfl, hb6, rfl⟩
            have HB6 := Lib.hid hb6
            have HA10 := Lib.hid (HA9.out.stays HB5.out)
            have HX10 := Lib.hid (((HX7.out.trans HX8.out).trans HX9.out).trans (Ext.stays _ HB5.out HA9.out.le))
            have HG10 := Lib.hid (HG9.out.kept HB5.out)
            have hq9 := HQ9.out
            have hle9 : ∀ x, q2 x = true → x ≤ xs.length := HV9.out.le
            have HLE9 := Lib.hid hle9
            clear hb6 hq9 hle9 HNO HWI
            cases b6
            · have hjo := pljoin_p w5 w.heap.size w2.heap.size m vg v5 qg (minusP q2 qg) HG10.out.pl HV5.out HX10.out.below.size hm0 hm
              unfold RetOwn at hjo
              have HJO := Lib.hid hjo
              clear hjo
              go_wp2_with (go_at_call 65; (with_reducible refine HJO.out.mono ?_); rintro e7 w7 ⟨rfl, hv7, hg7⟩; have HV7' := Lib.hid hv7; have HG7' := Lib.hid hg7; clear hv7 hg7)
              go_roundg (d - (j2 + 1))
              case measure => have := HMJ2.out; omega
              case rel =>
                obtain ⟨z1, z2, z3⟩ := HG10.out.set hm0 HA10.out.inv HX10.out HV7'.out HG7'.out HH.out.le
                have hleo : ∀ x, orP qg (minusP q2 qg) x = true → x ≤ xs.length := fun x hx => by
                  simp only [orP, minusP, Bool.or_eq_true, Bool.and_eq_true] at hx
                  rcases hx with hx | hx
                  · exact HLE7.out x hx
                  · exact HLE9.out x hx.1
                refine ⟨j2 + 1, minusP q2 qg, orP qg (minusP q2 qg), _, by go_num, by omega, rfl, HH.out.ext z2 z1, z2, ⟨?_, fun x hx => ?_⟩, z3, hleo, HF7.out.step (fun x => ?_) (fun x => ?_)⟩
                · have := Pl.apart HV5.out HG9.out.pl (Nat.le_refl _) HG7'.out
                  rw [HM.out ()]
                  exact this.lower (Nat.zero_le _)
                · simp only [minusP, Bool.and_eq_true] at hx
                  exact HLE9.out x hx.1
                · rw [← HQ9.out x]
                  simp [minusP]
                · simp [orP]
            · go_wp2
              go_ret
              have hz : ∀ x, img (E xs u) (fun i => qf i = true) x → qg x = true := fun x hx => by
                have h1 := (HQ9.out x).2 hx
                have h2 := HLE9.out x h1
                have h3 := HB6.out.1 (by trivial) x (by have := HM.out (); omega)
                simp only [minusP, h1, Bool.true_and] at h3
                simpa using h3
              refine ⟨vg, qg, _, rfl, HA10.out.inv, HX10.out, by rw [HM.out ()]; exact HG10.out, HLE7.out, fun x => ?_⟩
              rw [E_rep_img (by omega) (by have := HD.out (); omega)]
              have := HF7.out.stop hz (d - j2) x
              rw [show j2 + (d - j2) = d by omega] at this
              rw [this, show (ln : Int).toNat = ln by omega, show ((hn : Int) - (ln : Int)).toNat = d by have := HDD.out (); omega]
          · have hjd : j2 = d := by omega
            have hji2 : ¬ ((j2 : Int) < (d : Int)) := by omega
            have HJD := Lib.hid (fun _ : Unit => hjd)
            clear hlt2 hjd
            go_wp2
            go_ret
            refine ⟨vg, qg, _, rfl, HA7.out.inv, HX7.out, by rw [HM.out ()]; exact HG7.out, HLE7.out, fun x => ?_⟩
            rw [E_rep_img (by omega) (by have := HD.out (); omega)]
            have := HF7.out.all x
            rw [HJD.out ()] at this
            rw [this, show (ln : Int).toNat = ln by omega, show ((hn : Int) - (ln : Int)).toNat = d by have := HDD.out (); omega]
    ·   have hjn : j = ln := by omega
        have HAT := HA1
        have HXT := HX1
        have HVT := HV1
        have HQT := Lib.hid (fun x => (HQ1.out x).trans (by rw [hjn]))
        have hji : ¬ ((j : Int) < (ln : Int)) := by omega
        clear hlt hjn
        obtain ⟨gn2, on2, kn2, m1, m2, m3, curm, m4⟩ := (HAT.out.inv.inv.part g o _ (HXT.out.F _ _ _ HE.out)).2.node
        have m5 := m2 5 _ rfl
        have m6 := m2 6 _ rfl
        rw [show (T.mk 4 noneP (ln : Int) hn [u]).lo = (ln : Int) from rfl] at m5
        rw [show (T.mk 4 noneP (ln : Int) hn [u]).hi = (hn : Int) from rfl] at m6
        have HCL := Lib.hid (clone_p _ 0 m _ _ (by have h1 := HVT.out.pl; rwa [HM.out ()] at h1) hm0 hm)
        unfold RetPl at HCL
        have M1 := Lib.hid m1
        have M5 := Lib.hid m5
        have M6 := Lib.hid m6
        have HL1 := Lib.hid (HAT.out.inv.inv.old (HXT.out.F _ _ _ HE.out))
        have HL2 := Lib.hid (lt_of_some m4)
        clear m1 m2 m3 m4 m5 m6
        go_wp2_with (go_at_call 101; (with_reducible refine HCL.out.mono ?_); rintro e4 w4 ⟨vg, rfl, hvg, hb4⟩; have k1 := (hb4.cell (p := ⟨g, o, none⟩) HL1.out).trans M1.out; have k5 := (hb4.cell (p := ⟨gn2, on2 + 5, none⟩) HL2.out).trans M5.out; have k6 := (hb4.cell (p := ⟨gn2, on2 + 6, none⟩) HL2.out).trans M6.out; have HVG := Lib.hid hvg; have HB4 := Lib.hid hb4; clear hvg hb4)
        go_quiet (fail)
        go_wp2
        have hbq := below_drewN HB4.out nq
        have HA6 := Lib.hid (HAT.out.stays hbq)
        have HX6 := Lib.hid (HXT.out.trans (Ext.stays _ hbq HAT.out.le))
        have HV6 := Lib.hid (HVT.out.stays hbq)
        have HG6 := Lib.hid (Mine.new (w0 := w) HAT.out.inv (HVG.out.stays (below_drewN (Below.refl _ _) nq)) HXT.out.below.size)
        have HD := Lib.hid (fun _ : Unit => hb1)
        obtain ⟨d, hd⟩ : ∃ d : Nat, d = hn - ln := ⟨_, rfl⟩
        rw [show (hn : Int) - (ln : Int) = (d : Int) by omega]
        have HDD := Lib.hid (fun _ : Unit => hd)
        have hd32 : d ≤ 32 := by omega
        clear hbq k1 k5 k6 hd
        generalize w4.drewN nq = w9 at *
        go_loopg [10, 49] d (fun m' fr i wr2 => ∃ (j2 : Nat) (qf qg : Nat → Bool) (Γ2 : Ghost), i = .int .i64 (j2 : Int) ∧ j2 ≤ d ∧ m' = d - j2 ∧ Ask wr2 B xs A Γ2 ∧ Ext B w wr2 Γ Γ2 ∧ InW wr2 xs fr qf ∧ Mine w wr2 B Γ2 vg m qg ∧ (∀ x, qg x = true → x ≤ xs.length) ∧ Found (E xs u) (imgN (E xs u) (fun i => q i = true) ln) j2 (fun x => qg x = true) (fun x => qf x = true))
        case atStart =>
          refine ⟨0, _, _, _, rfl, Nat.zero_le _, rfl, HA6.out, HX6.out, HV6.out, HG6.out, HV6.out.le, ?_⟩
          have hs := Found.start (E xs u) (imgN (E xs u) (fun i => q i = true) ln)
          have hfe := funext fun x => propext (HQT.out x)
          rw [← hfe] at hs
          rw [← hfe]
          exact hs
        case round =>
          obtain ⟨j2, qf, qg, Γ7, rfl, hj2, hmj2, ha7, hx7, hv7, hg7, hle7, hf7⟩ := hrel
          have HMJ2 := Lib.hid hmj2
          have HA7 := Lib.hid ha7
          have HX7 := Lib.hid hx7
          have HV7 := Lib.hid hv7
          have HG7 := Lib.hid hg7
          have HLE7 := Lib.hid hle7
          have HF7 := Lib.hid hf7
          clear hmj2 ha7 hx7 hv7 hg7 hle7 hf7
          by_cases hlt2 : j2 < d
          · have hji2 : (j2 : Int) < (d : Int) := by omega
            go_wp2_with (first
              | (go_at_call 63; (with_reducible refine (HKID.out _ _ HA7.out (HX7.out.F _ _ _ HE.out)).mono ?_); rintro e1 w1 ⟨g1, o1, Γ8, rfl, hf1, hi1, hx2, hM2⟩; have HA8 := Lib.hid (ask_kid HA7.out hi1 hx2 hM2); have HX8 := Lib.hid hx2; have HF1 := Lib.hid hf1; clear hf1 hi1 hx2 hM2)
              | (go_at_call 35; (with_reducible refine (HEND.out _ _ _ _ _ _ HA8.out HF1.out (HV7.out.ext HX8.out)).mono ?_); rintro e2 w2 ⟨v2, q2, Γ9, rfl, hi3, hx3, hv3, hq3⟩; have HA9 := Lib.hid (HA8.out.ext hx3 hi3); have HX9 := Lib.hid hx3; have HV9 := Lib.hid hv3; have HQ9 := Lib.hid hq3; have HG9 := Lib.hid ((HG7.out.ext HX8.out).ext HX9.out); have hwi := without_p w2 0 w.heap.size m v2 vg q2 qg (by have h1 := HV9.out.pl; rwa [HM.out ()] at h1) HG9.out.pl hm0 hm; unfold RetPl at hwi; have HWI := Lib.hid hwi; clear hi3 hx3 hv3 hq3 hwi)
              | (go_at_call 102; (with_reducible refine HWI.out.mono ?_); rintro e5 w5 ⟨v5, rfl, hv5, hb5⟩; have HV5 := Lib.hid hv5; have HB5 := Lib.hid hb5; clear hv5 hb5))
            have hno := none_p w5 w2.heap.size m v5 (minusP q2 qg) HV5.out hm0 hm
            have HNO := Lib.hid hno
            clear hno
            go_at_call 62
            with_reducible refine HNO.out.mono ?_
            rintro e6 w6 ⟨b6, rfl, hb6, rfl⟩
            have HB6 := Lib.hid hb6
            have HA10 := Lib.hid (HA9.out.stays HB5.out)
            have HX10 := Lib.hid (((HX7.out.trans HX8.out).trans HX9.out).trans (Ext.stays _ HB5.out HA9.out.le))
            have HG10 := Lib.hid (HG9.out.kept HB5.out)
            have hq9 := HQ9.out
            have hle9 : ∀ x, q2 x = true → x ≤ xs.length := HV9.out.le
            have HLE9 := Lib.hid hle9
            clear hb6 hq9 hle9 HNO HWI
            cases b6
            · have hjo := pljoin_p w5 w.heap.size w2.heap.size m vg v5 qg (minusP q2 qg) HG10.out.pl HV5.out HX10.out.below.size hm0 hm
              unfold RetOwn at hjo
              have HJO := Lib.hid hjo
              clear hjo
              go_wp2_with (go_at_call 65; (with_reducible refine HJO.out.mono ?_); rintro e7 w7 ⟨rfl, hv7, hg7⟩; have HV7' := Lib.hid hv7; have HG7' := Lib.hid hg7; clear hv7 hg7)
              go_roundg (d - (j2 + 1))
              case measure => have := HMJ2.out; omega
              case rel =>
                obtain ⟨z1, z2, z3⟩ := HG10.out.set hm0 HA10.out.inv HX10.out HV7'.out HG7'.out HH.out.le
                have hleo : ∀ x, orP qg (minusP q2 qg) x = true → x ≤ xs.length := fun x hx => by
                  simp only [orP, minusP, Bool.or_eq_true, Bool.and_eq_true] at hx
                  rcases hx with hx | hx
                  · exact HLE7.out x hx
                  · exact HLE9.out x hx.1
                refine ⟨j2 + 1, minusP q2 qg, orP qg (minusP q2 qg), _, by go_num, by omega, rfl, HH.out.ext z2 z1, z2, ⟨?_, fun x hx => ?_⟩, z3, hleo, HF7.out.step (fun x => ?_) (fun x => ?_)⟩
                · have := Pl.apart HV5.out HG9.out.pl (Nat.le_refl _) HG7'.out
                  rw [HM.out ()]
                  exact this.lower (Nat.zero_le _)
                · simp only [minusP, Bool.and_eq_true] at hx
                  exact HLE9.out x hx.1
                · rw [← HQ9.out x]
                  simp [minusP]
                · simp [orP]
            · go_wp2
              go_ret
              have hz : ∀ x, img (E xs u) (fun i => qf i = true) x → qg x = true := fun x hx => by
                have h1 := (HQ9.out x).2 hx
                have h2 := HLE9.out x h1
                have h3 := HB6.out.1 (by trivial) x (by have := HM.out (); omega)
                simp only [minusP, h1, Bool.true_and] at h3
                simpa using h3
              refine ⟨vg, qg, _, rfl, HA10.out.inv, HX10.out, by rw [HM.out ()]; exact HG10.out, HLE7.out, fun x => ?_⟩
              rw [E_rep_img (by omega) (by have := HD.out (); omega)]
              have := HF7.out.stop hz (d - j2) x
              rw [show j2 + (d - j2) = d by omega] at this
              rw [this, show (ln : Int).toNat = ln by omega, show ((hn : Int) - (ln : Int)).toNat = d by have := HDD.out (); omega]
          · have hjd : j2 = d := by omega
            have hji2 : ¬ ((j2 : Int) < (d : Int)) := by omega
            have HJD := Lib.hid (fun _ : Unit => hjd)
            clear hlt2 hjd
            go_wp2
            go_ret
            refine ⟨vg, qg, _, rfl, HA7.out.inv, HX7.out, by rw [HM.out ()]; exact HG7.out, HLE7.out, fun x => ?_⟩
            rw [E_rep_img (by omega) (by have := HD.out (); omega)]
            have := HF7.out.all x
            rw [HJD.out ()] at this
            rw [this, show (ln : Int).toNat = ln by omega, show ((hn : Int) - (ln : Int)).toNat = d by have := HDD.out (); omega]

end Go.Proofs.YtccbeimcggamiaaDoor
