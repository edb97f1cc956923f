/-
  Several texts of this proof in one file: Kids, NodeAt, Kept, RuleMem, RxAll, LangMath. No statement of its own.
-/
import Derived.Test.YtccbeimcggamiaaDoorMk4
import Derived.Deep.LoopGhost
import Derived.Test.YtccbeimcggamiaaDoorMk1
set_option linter.unusedVariables false
set_option linter.unusedSimpArgs false

/-
  A pattern's kids in memory. Laws for other texts; no statement of its own.
-/
namespace Go.Proofs.YtccbeimcggamiaaDoor
open Go Go.RowKit

/-- A kid's cells, read out of its row. -/
theorem Tree.kidAt {w : World} {ok : Nat → Prop} {t : T} {k : Value} (h : Tree w ok t k) (i : Nat) (hi : i < t.kids.length) :
    ∃ g cap k', k = .slice (some ⟨g, 0, none⟩) t.kids.length cap ∧ g < w.heap.size ∧ Tree w ok (t.kids[i]'hi) k' ∧ ∀ j u, (nodeC (t.kids[i]'hi) k')[j]? = some u → w.cell? ⟨g, 8 * i + j, none⟩ = some u := by
  cases h with
  | nil t h => rw [h] at hi; simp at hi
  | row t g cap cur ks hg hok hn h0 hcap hmax hsize hc hk =>
    have hi' : i < ks.length := by omega
    refine ⟨g, cap, ks[i], rfl, lt_of_some hg, hk i _ _ (List.getElem?_eq_getElem hi) (List.getElem?_eq_getElem hi'), fun j u hu => ?_⟩
    have hj : j < 8 := by
      have := List.getElem?_eq_some_iff.1 hu
      simpa [nodeC] using this.1
    have e := cellsOf_get t.kids ks i j _ _ (List.getElem?_eq_getElem hi) (List.getElem?_eq_getElem hi') hj
    rw [← hc, hu] at e
    rw [cell_of_row w g _ cur 29 (0, 0) hg, ← Array.getElem?_toList]
    rw [List.getElem?_take] at e
    split at e
    · exact e
    · cases e

theorem Tree.bound {w : World} {ok : Nat → Prop} {t : T} {A : Option Addr} {n c : Nat} (h : Tree w ok t (.slice A n c)) : n = t.kids.length ∧ n ≤ maxLen := by
  cases h with
  | nil t h => exact ⟨by simp [h], by decide⟩
  | row t g cap cur ks hg hok hn h0 hcap hmax hsize hc hk => exact ⟨rfl, Nat.le_trans hcap hmax⟩
theorem kid_size (t : T) (i : Nat) (hi : i < t.kids.length) : SizeOf.sizeOf (t.kids[i]'hi) < SizeOf.sizeOf t := by
  obtain ⟨op, p, lo, hi', l⟩ := t
  have := List.sizeOf_lt_of_mem (List.getElem_mem hi)
  simp only [T.kids] at *
  simp
  omega

theorem kid8 {w : World} {ok : Nat → Prop} {t u : T} {A : Option Addr} {n c : Nat} (h : Tree w ok t (.slice A n c)) (i : Nat) (hu : t.kids[i]? = some u) :
    ∃ g B m d, A = some ⟨g, 0, none⟩ ∧ g < w.heap.size ∧ Tree w ok u (.slice B m d) ∧ ∀ q v, (nodeC u (.slice B m d))[q]? = some v → w.cell? ⟨g, 8 * i + q, none⟩ = some v := by
  obtain ⟨hi, e⟩ := List.getElem?_eq_some_iff.1 hu
  obtain ⟨g, cap, kk, e1, hg1, htk, hcells⟩ := h.kidAt i hi
  rw [e] at htk hcells
  obtain ⟨B, m, d, rfl⟩ := htk.form
  exact ⟨g, B, m, d, by injection e1, hg1, htk, hcells⟩

end Go.Proofs.YtccbeimcggamiaaDoor

/-
  A pattern in a box of its own. Laws for other texts; no statement of its own.
-/
namespace Go.Proofs.YtccbeimcggamiaaDoor
open Go Go.RowKit

/-- The cells of a node lie at that place. -/
def NodeAt (w : World) (g o : Nat) (t : T) (k : Value) : Prop := ∀ q v, (nodeC t k)[q]? = some v → w.cell? ⟨g, o + q, none⟩ = some v
theorem NodeAt.lt {w : World} {g o : Nat} {t : T} {k : Value} (h : NodeAt w g o t k) : g < w.heap.size := World.block_lt_of_cell? w ⟨g, o + 0, none⟩ (h 0 _ rfl)
theorem NodeAt.stays {w w' : World} {g o : Nat} {t : T} {k : Value} (h : NodeAt w g o t k) (hb : Below w.heap.size w w') : NodeAt w' g o t k := fun q v e => cell_stays (h q v e) hb
theorem NodeAt.kid {w : World} {ok : Nat → Prop} {t : T} {A : Option Addr} {n c : Nat} (h : Tree w ok t (.slice A n c)) (i : Nat) (hi : i < t.kids.length) :
    ∃ g B m d, A = some ⟨g, 0, none⟩ ∧ Tree w ok (t.kids[i]'hi) (.slice B m d) ∧ NodeAt w g (i * 8) (t.kids[i]'hi) (.slice B m d) := by
  obtain ⟨g, B, m1, m2, e1, hg1, htk, hcells⟩ := kid8 h i (List.getElem?_eq_getElem hi)
  exact ⟨g, B, m1, m2, e1, htk, fun q v e => by rw [Nat.mul_comm i 8]; exact hcells q v e⟩

theorem NodeAt.block {w w' : World} {t : T} {g o : Nat} {k : Value} (h : NodeAt w g o t k) (hb : w'.heap[g]? = w.heap[g]?) : NodeAt w' g o t k := fun q v e => (World.cell?_of_block (w := w) (a := ⟨g, o + q, none⟩) hb).trans (h q v e)
theorem Box8.nodeAt {w : World} {g : Nat} {t : T} {k : Value} (h : Box8 w g t k) : NodeAt w g 0 t k := by
  obtain ⟨c0, c1, c2, c3, c4, c5, c6, c7⟩ := h.cell
  intro q v e
  rw [Nat.zero_add]
  match q, e with
  | 0, e => injection e with e; rw [← e]; exact c0
  | 1, e => injection e with e; rw [← e]; exact c1
  | 2, e => injection e with e; rw [← e]; exact c2
  | 3, e => injection e with e; rw [← e]; exact c3
  | 4, e => injection e with e; rw [← e]; exact c4
  | 5, e => injection e with e; rw [← e]; exact c5
  | 6, e => injection e with e; rw [← e]; exact c6
  | 7, e => injection e with e; rw [← e]; exact c7
  | q + 8, e => simp [nodeC] at e
end Go.Proofs.YtccbeimcggamiaaDoor

/-
  But for some blocks all is as it was; what that keeps. Laws for other texts; no statement of its own.
-/
namespace Go.Proofs.YtccbeimcggamiaaDoor
open Go Go.RowKit

/-- But for the blocks of Q all is as it was. -/
structure Kept (Q : Nat → Prop) (w w' : World) : Prop where
  os : w'.os = w.os
  tape : w'.tape = w.tape
  output : w'.output = w.output
  size : w.heap.size ≤ w'.heap.size
  block : ∀ b, b < w.heap.size → ¬ Q b → w'.heap[b]? = w.heap[b]?
section
variable {Q Q' : Nat → Prop} {w w' w'' : World}
theorem Kept.refl (Q : Nat → Prop) (w : World) : Kept Q w w := ⟨rfl, rfl, rfl, Nat.le_refl _, fun _ _ _ => rfl⟩
theorem Kept.trans (h : Kept Q w w') (k : Kept Q' w' w'') (hq : ∀ b, Q' b → Q b ∨ w.heap.size ≤ b) : Kept Q w w'' :=
  ⟨k.os.trans h.os, k.tape.trans h.tape, k.output.trans h.output, Nat.le_trans h.size k.size, fun b hb hn => (k.block b (Nat.lt_of_lt_of_le hb h.size) fun e => (hq b e).elim hn (fun e => by omega)).trans (h.block b hb hn)⟩
theorem Kept.mono (h : Kept Q w w') (hq : ∀ b, Q b → Q' b ∨ w.heap.size ≤ b) : Kept Q' w w' := ⟨h.os, h.tape, h.output, h.size, fun b hb hn => h.block b hb fun e => (hq b e).elim hn (fun e => by omega)⟩
theorem Kept.of_below (Q : Nat → Prop) (h : Below w.heap.size w w') : Kept Q w w' := ⟨h.os, h.tape, h.output, h.size, fun b hb _ => h.block b hb⟩
theorem Kept.below {B : Nat} (h : Kept Q w w') (hB : B ≤ w.heap.size) (hq : ∀ b, Q b → B ≤ b) : Below B w w' := ⟨h.os, h.tape, h.output, h.size, fun b hb => h.block b (by omega) fun e => by have := hq b e; omega⟩
theorem Kept.alloc (h : Kept Q w w') (o : Obj) : Kept Q w (w'.alloc o) := ⟨h.os, h.tape, h.output, by have := h.size; simp; omega, fun b hb hn => by rw [Below.heap_alloc _ _ _ (Nat.lt_of_lt_of_le hb h.size)]; exact h.block b hb hn⟩
theorem Kept.drew (h : Kept Q w w') : Kept Q w w'.drew := ⟨h.os, h.tape, h.output, h.size, h.block⟩
theorem Kept.grown {row : Option Nat} (h : Kept Q w w') (hg : w'.grownBy w'' row) (hr : ∀ b, row = some b → Q b ∨ w.heap.size ≤ b) : Kept Q w w'' :=
  ⟨hg.os.trans h.os, hg.tape.trans h.tape, hg.output.trans h.output, Nat.le_trans h.size hg.size, fun b hb hn => (hg.block b (Nat.lt_of_lt_of_le hb h.size) fun e => (hr b e.symm).elim hn (fun e => by omega)).trans (h.block b hb hn)⟩
theorem Kept.setCell (h : Kept Q w w') {a : Addr} (ha : Q a.block ∨ w.heap.size ≤ a.block) (u : Value) : Kept Q w (w'.setCell a u) :=
  ⟨h.os, h.tape, h.output, by have := h.size; simpa [World.setCell] using this, fun b hb hn => (Below.heap_setCell _ _ _ _ (by intro e; subst e; exact ha.elim hn (fun e' => by omega))).trans (h.block b hb hn)⟩
theorem Kept.cell {a : Addr} {v : Value} (h : Kept Q w w') (hc : w.cell? a = some v) (hn : ¬ Q a.block) : w'.cell? a = some v :=
  (World.cell?_of_block (w := w) (h.block a.block (World.block_lt_of_cell? w a hc) hn)).trans hc
end

theorem own_block {w w' : World} {B e size n : Nat} {v : Value} {xs : List Value} (h : w.ownsRow B e size v n xs) (hb : ∀ b, v.ownBlock = some b → b < w.heap.size → w'.heap[b]? = w.heap[b]?) : w'.ownsRow B e size v n xs := by
  refine ⟨h.1, ?_⟩
  rcases h.2 with h0 | ⟨g, cap, cur, rfl, hB, hh, r⟩
  · exact Or.inl h0
  · exact Or.inr ⟨g, cap, cur, rfl, hB, (hb g rfl (lt_of_some hh)).trans hh, r⟩
theorem own_raise {w : World} {B B' e size n : Nat} {v : Value} {xs : List Value} (h : w.ownsRow B e size v n xs) (hb : ∀ b, v.ownBlock = some b → B' ≤ b) : w.ownsRow B' e size v n xs := by
  refine ⟨h.1, ?_⟩
  rcases h.2 with h0 | ⟨g, cap, cur, rfl, hB, r⟩
  · exact Or.inl h0
  · exact Or.inr ⟨g, cap, cur, rfl, hb g rfl, r⟩
theorem own_kind {w : World} {B e size n : Nat} {v : Value} {xs : List Value} (h : w.ownsRow B e size v n xs) {b : Nat} (hb : v.ownBlock = some b) : ∃ cur, w.heap[b]? = some (.cells cur e (0, 0)) := by
  rcases h.2 with ⟨rfl, _⟩ | ⟨g, cap, cur, rfl, hB, hh, r⟩
  · cases hb
  · cases hb
    exact ⟨cur, hh⟩
theorem kind_apart {w : World} {b c : Nat} {cur cur' : Array Value} {ty ty' : TypeId} (h : w.heap[b]? = some (.cells cur ty (0, 0))) (h' : w.heap[c]? = some (.cells cur' ty' (0, 0))) (hne : ty ≠ ty') : b ≠ c := by
  intro e
  subst e
  rw [h] at h'
  injection h' with h'
  injection h' with _ e _
  exact hne e

end Go.Proofs.YtccbeimcggamiaaDoor

/-
  Rules in memory: patterns with or without the check, one behind the other. Laws for other texts; no statement of its own.
-/
namespace Go.Proofs.YtccbeimcggamiaaDoor
open Go Go.RowKit

/-- A rule's cells. -/
def ruleC (r : T × Bool) (k : Value) : List Value := [.int .i64 r.1.op, .int .u64 (word r.1.set 0), .int .u64 (word r.1.set 1), .int .u64 (word r.1.set 2), .int .u64 (word r.1.set 3), .int .i64 r.1.lo, .int .i64 r.1.hi, k, .bool r.2]
theorem ruleC_len (r : T × Bool) (k : Value) : (ruleC r k).length = 9 := rfl
def rulesC : List (T × Bool) → List Value → List Value
  | r :: rs, k :: ks => ruleC r k ++ rulesC rs ks
  | _, _ => []
theorem rulesC_app : ∀ (l : List (T × Bool)) (ks : List Value) (r : T × Bool) (k : Value), ks.length = l.length → rulesC (l ++ [r]) (ks ++ [k]) = rulesC l ks ++ ruleC r k
  | [], [], r, k, _ => by simp [rulesC]
  | q :: l, u :: ks, r, k, h => by simp only [List.cons_append, rulesC]; rw [rulesC_app l ks r k (by simpa using h), List.append_assoc]
  | [], _ :: _, r, k, h => by simp at h
  | _ :: _, [], r, k, h => by simp at h
theorem rulesC_get : ∀ (l : List (T × Bool)) (ks : List Value) (i q : Nat) (r : T × Bool) (k : Value), l[i]? = some r → ks[i]? = some k → q < 9 → (rulesC l ks)[i * 9 + q]? = (ruleC r k)[q]?
  | [], ks, i, q, r, k, h1, h2, hq => by simp at h1
  | r' :: l, [], i, q, r, k, h1, h2, hq => by simp at h2
  | r' :: l, k' :: ks, 0, q, r, k, h1, h2, hq => by
    simp at h1 h2
    subst h1 h2
    rw [rulesC, List.getElem?_append_left (by rw [ruleC_len]; omega)]
    simp
  | r' :: l, k' :: ks, i + 1, q, r, k, h1, h2, hq => by
    rw [rulesC, List.getElem?_append_right (by rw [ruleC_len]; omega), ruleC_len, show (i + 1) * 9 + q - 9 = i * 9 + q by omega]
    exact rulesC_get l ks i q r k (by simpa using h1) (by simpa using h2) hq

/-- A row of rules that grows; its trees lie from B on. -/
def RuleRow (ty : TypeId) (w : World) (B : Nat) (v : Value) (l : List (T × Bool)) : Prop :=
  ∃ ks, ks.length = l.length ∧ w.ownsRow B ty 9 v l.length (rulesC l ks) ∧ ∀ (i : Nat) r k, l[i]? = some r → ks[i]? = some k → Tree w (fun b => B ≤ b) r.1 k
/-- Rules that are read, whatever their type is. -/
def RdRules (w : World) (A : Option Addr) (l : List (T × Bool)) : Prop :=
  ∀ i r, l[i]? = some r → ∃ g off k, A = some ⟨g, off, none⟩ ∧ g < w.heap.size ∧ (∀ q u, (ruleC r k)[q]? = some u → w.cell? ⟨g, off + i * 9 + q, none⟩ = some u) ∧ Tree w (fun _ => True) r.1 k
section
variable {w w' : World} {B : Nat} {v : Value} {l : List (T × Bool)} {ty ty' : TypeId} {A : Option Addr}
theorem RdRules.stays (h : RdRules w A l) (hb : Below w.heap.size w w') : RdRules w' A l := fun i r hi => by
  obtain ⟨g, off, k, e, hg, hc, ht⟩ := h i r hi
  exact ⟨g, off, k, e, Nat.lt_of_lt_of_le hg hb.size, fun q u hu => (hb.cell (p := ⟨g, off + i * 9 + q, none⟩) hg).trans (hc q u hu), ht.stays hb⟩
theorem RdRules.take (h : RdRules w A l) (n : Nat) : RdRules w A (l.take n) := fun i r hi => h i r (by
  rw [List.getElem?_take] at hi
  split at hi
  · exact hi
  · cases hi)
theorem RdRules.nil (w : World) (A : Option Addr) : RdRules w A [] := fun i r hi => by simp at hi
theorem RuleRow.nil (ty : TypeId) (w : World) (B : Nat) : RuleRow ty w B (.slice none 0 0) [] := ⟨[], rfl, World.ownsRow_nil w B _ 9, fun i r k h => by simp at h⟩
theorem RuleRow.form (h : RuleRow ty w B v l) : ∃ A c, v = .slice A l.length c ∧ l.length ≤ c := by
  obtain ⟨ks, h1, h2, h3⟩ := h
  rcases h2.2 with ⟨rfl, h0⟩ | ⟨g, cap, cur, rfl, _, _, hc, _⟩
  · exact ⟨none, 0, by rw [h0], by omega⟩
  · exact ⟨_, _, rfl, hc⟩
theorem RuleRow.lt (h : RuleRow ty w B v l) {b : Nat} (hb : v.ownBlock = some b) : B ≤ b ∧ b < w.heap.size := by
  obtain ⟨ks, h1, h2, h3⟩ := h
  exact World.ownsRow.lt h2 b hb
theorem RuleRow.kind (h : RuleRow ty w B v l) {b : Nat} (hb : v.ownBlock = some b) : ∃ cur, w.heap[b]? = some (.cells cur ty (0, 0)) := by
  obtain ⟨ks, h1, h2, h3⟩ := h
  exact own_kind h2 hb
theorem RuleRow.stays (h : RuleRow ty w B v l) (hb : Below w.heap.size w w') : RuleRow ty w' B v l := by
  obtain ⟨ks, h1, h2, h3⟩ := h
  exact ⟨ks, h1, own_stays h2 hb, fun i r k e1 e2 => (h3 i r k e1 e2).stays hb⟩
/-- Where a row of another type grows, this one stays. -/
theorem RuleRow.grown {v' : Value} {l' : List (T × Bool)} {B' : Nat} (h : RuleRow ty w B v l) (h' : RuleRow ty' w B' v' l') (hne : ty ≠ ty') (hn : ty' ≠ 29) (hg : w.grownBy w' v'.ownBlock) : RuleRow ty w' B v l := by
  obtain ⟨ks, h1, h2, h3⟩ := h
  refine ⟨ks, h1, own_block h2 fun b e hb => hg.block b hb fun e' => ?_, fun i r k e1 e2 => (h3 i r k e1 e2).mono fun b hb hlt ⟨cur, hc⟩ => ⟨hg.block b hlt fun e' => ?_, hb⟩⟩
  · obtain ⟨c1, k1⟩ := own_kind h2 e
    obtain ⟨c2, k2⟩ := h'.kind e'.symm
    exact kind_apart k1 k2 hne rfl
  · obtain ⟨c2, k2⟩ := h'.kind e'.symm
    exact kind_apart k2 hc hn rfl
theorem RuleRow.rd (h : RuleRow ty w B v l) {n c : Nat} (hv : v = .slice A n c) : RdRules w A l := fun i r hi => by
  obtain ⟨ks, h1, h2, h3⟩ := h
  have hl : i < l.length := (List.getElem?_eq_some_iff.1 hi).1
  obtain ⟨k, hk⟩ : ∃ k, ks[i]? = some k := ⟨_, List.getElem?_eq_getElem (by omega)⟩
  have ht := h3 i r k hi hk
  rcases h2.2 with ⟨_, h0⟩ | ⟨g, cap, cur, e, hB, hg, _⟩
  · omega
  · rw [e] at hv h2
    injection hv with e1 e2 e3
    refine ⟨g, 0, k, e1.symm, lt_of_some hg, fun q u hu => ?_, ht.mono fun b _ _ _ => ⟨rfl, trivial⟩⟩
    have hq : q < 9 := by
      have := (List.getElem?_eq_some_iff.1 hu).1
      rw [ruleC_len] at this
      exact this
    rw [Nat.zero_add, World.ownsRow.cellAt h2 (i * 9 + q) (by omega), rulesC_get l ks i q r k hi hk hq]
    exact hu
end
/-- A rule in a block of its own. -/
def RuleBox (ty : TypeId) (w : World) (b : Nat) (r : T × Bool) (k : Value) : Prop := w.heap[b]? = some (.cells #[.int .i64 r.1.op, .int .u64 (word r.1.set 0), .int .u64 (word r.1.set 1), .int .u64 (word r.1.set 2), .int .u64 (word r.1.set 3), .int .i64 r.1.lo, .int .i64 r.1.hi, k, .bool r.2] ty (0, 0))
section
variable {w w' : World} {b : Nat} {r : T × Bool} {k : Value} {ty : TypeId}
theorem RuleBox.lt (h : RuleBox ty w b r k) : b < w.heap.size := lt_of_some h
theorem RuleBox.stays (h : RuleBox ty w b r k) (hb : Below w.heap.size w w') : RuleBox ty w' b r k := (hb.block b h.lt).trans h
theorem RuleBox.drew (h : RuleBox ty w b r k) : RuleBox ty w.drew b r k := h
theorem RuleBox.alloc (h : RuleBox ty w b r k) (o : Obj) : RuleBox ty (w.alloc o) b r k := (Below.heap_alloc w o b h.lt).trans h
theorem RuleBox.cell (h : RuleBox ty w b r k) : w.cell? ⟨b, 0, none⟩ = some (.int .i64 r.1.op) ∧ w.cell? ⟨b, 1, none⟩ = some (.int .u64 (word r.1.set 0)) ∧ w.cell? ⟨b, 2, none⟩ = some (.int .u64 (word r.1.set 1)) ∧ w.cell? ⟨b, 3, none⟩ = some (.int .u64 (word r.1.set 2)) ∧ w.cell? ⟨b, 4, none⟩ = some (.int .u64 (word r.1.set 3)) ∧ w.cell? ⟨b, 5, none⟩ = some (.int .i64 r.1.lo) ∧ w.cell? ⟨b, 6, none⟩ = some (.int .i64 r.1.hi) ∧ w.cell? ⟨b, 7, none⟩ = some (k) ∧ w.cell? ⟨b, 8, none⟩ = some (.bool r.2) :=
  ⟨cell_of_row w b 0 _ _ (0, 0) h, cell_of_row w b 1 _ _ (0, 0) h, cell_of_row w b 2 _ _ (0, 0) h, cell_of_row w b 3 _ _ (0, 0) h, cell_of_row w b 4 _ _ (0, 0) h, cell_of_row w b 5 _ _ (0, 0) h, cell_of_row w b 6 _ _ (0, 0) h, cell_of_row w b 7 _ _ (0, 0) h, cell_of_row w b 8 _ _ (0, 0) h⟩
theorem RuleBox.new (ty : TypeId) (w : World) (r : T × Bool) (k : Value) : RuleBox ty (w.alloc (.cells #[.int .i64 r.1.op, .int .u64 (word r.1.set 0), .int .u64 (word r.1.set 1), .int .u64 (word r.1.set 2), .int .u64 (word r.1.set 3), .int .i64 r.1.lo, .int .i64 r.1.hi, k, .bool r.2] ty)) w.heap.size r k := heap_alloc_new w _
end
/-- A type of rules: nine cells. -/
structure RuleTy (ty tys : TypeId) : Prop where
  und : Tryd.prog.underlying tys = some (.slice ty)
  info : (Tryd.prog.info? ty).map (fun i => (i.zero, i.size, i.bytes)) = some (some (.agg #[.int .i64 0, .int .u64 0, .int .u64 0, .int .u64 0, .int .u64 0, .int .i64 0, .int .i64 0, .slice none 0 0, .bool false]), 9, 88)
  node : ty ≠ 29
theorem rule_push {ty tys : TypeId} (hT : RuleTy ty tys) {w : World} {B : Nat} {v : Value} {l : List (T × Bool)} (h : RuleRow ty w B v l) (hB : B ≤ w.heap.size) (hl : l.length ≤ 100000) (r : T × Bool) (k : Value) (hk : Tree w (fun b => B ≤ b) r.1 k) (td : TypeId) (ad : Addr) (c : Nat)
    (hc : ∀ (j : Nat) u, (ruleC r k)[j]? = some u → w.cell? (ad.add j) = some u) :
    ∃ v' w', (Builtin.append_ #[tys, tys] td #[v, .slice (some ad) 1 c]).run Tryd.prog w = .ok v' w' ∧ RuleRow ty w' B v' (l ++ [r]) ∧ w.grownBy w' v.ownBlock ∧ (v'.ownBlock = v.ownBlock ∨ v'.ownBlock = some w.heap.size) := by
  have h0 := h
  obtain ⟨ks, h1, h2, h3⟩ := h
  obtain ⟨i0, hi, hz0, hz1, hz2⟩ := info_parts hT.info
  have hone := hk.one
  obtain ⟨v', w', hr, h4, h5, _, h6⟩ := run_append_own_at (P := Tryd.prog) w B tys td ty i0 _ 9 88 hT.und hi hz0 hz1 hz2 rfl (by decide) v l.length (rulesC l ks) h2 ad 1 c (ruleC r k) rfl hc
    (by
      intro u hu
      simp only [ruleC, List.mem_cons, List.not_mem_nil, or_false] at hu
      rcases hu with rfl | rfl | rfl | rfl | rfl | rfl | rfl | rfl | rfl
      all_goals first | rfl | exact hone) (by unfold maxLen; omega) (by omega) hB
  have key : ∀ (t' : T) (k' : Value), Tree w (fun b => B ≤ b) t' k' → Tree w' (fun b => B ≤ b) t' k' := fun t' k' ht => ht.mono fun b hb hlt ⟨cur, hcu⟩ => ⟨h5.block b hlt fun e => by
    obtain ⟨c2, k2⟩ := h0.kind e.symm
    exact kind_apart k2 hcu hT.node rfl, hb⟩
  refine ⟨v', w', hr, ⟨ks ++ [k], by simp [h1], ?_, fun i r' k' e1 e2 => ?_⟩, h5, h6⟩
  · rw [rulesC_app l ks r k h1]
    simpa using h4
  · by_cases hi' : i < l.length
    · rw [List.getElem?_append_left hi'] at e1
      rw [List.getElem?_append_left (by omega)] at e2
      exact key _ _ (h3 i r' k' e1 e2)
    · have e0 : i = l.length := by
        have := (List.getElem?_eq_some_iff.1 e1).1
        simp at this
        omega
      subst e0
      rw [List.getElem?_append_right (Nat.le_refl _)] at e1
      rw [List.getElem?_append_right (by omega)] at e2
      simp [h1] at e1 e2
      subst e1 e2
      exact key _ _ hk
theorem wpList_rule {ty tys : TypeId} (hT : RuleTy ty tys) {w : World} {ops : Array Oper} {rest : List Oper} {o : Oper} {a : Act} {Q : Exit → Act → World → Prop} (hgd : o.guard = none) (s x : Operand)
    (ho : o.op = .call { callee := .builtin .append, args := #[s, x], argTypes := #[tys, tys] })
    {B : Nat} {v : Value} {l : List (T × Bool)} (hs : a.eval s = v) (h : RuleRow ty w B v l) (hB : B ≤ w.heap.size) (hl : l.length ≤ 100000) (r : T × Bool) (k : Value) (hkt : Tree w (fun b => B ≤ b) r.1 k)
    (ad : Addr) (c : Nat) (hx : a.eval x = .slice (some ad) 1 c) (hc : ∀ (j : Nat) u, (ruleC r k)[j]? = some u → w.cell? (ad.add j) = some u)
    (hk : ∀ v' w', RuleRow ty w' B v' (l ++ [r]) → w.grownBy w' v.ownBlock → (v'.ownBlock = v.ownBlock ∨ v'.ownBlock = some w.heap.size) → wpList Tryd.prog ops Q rest (a.put o.dst v') w') : wpList Tryd.prog ops Q (o :: rest) a w := by
  obtain ⟨v', w', hr, h2, h3, h4⟩ := rule_push hT h hB hl r k hkt o.type ad c hc
  refine wpList_plain hgd fun _ hK => ?_
  unfold Oper.wp execOp
  simp only [ho, resolve, invoke, builtin, Sem.run_bind, Sem.run_pure, Result.andThen_ok, List.map_toArray, List.map_cons, List.map_nil, hs, hx, hr]
  exact hK _ _ (hk v' w' h2 h3 h4)
theorem rule_new {ty : TypeId} (w : World) (r : T × Bool) (k : Value) : ∀ (j : Nat) u, (ruleC r k)[j]? = some u → (w.alloc (.cells #[.int .i64 r.1.op, .int .u64 (word r.1.set 0), .int .u64 (word r.1.set 1), .int .u64 (word r.1.set 2), .int .u64 (word r.1.set 3), .int .i64 r.1.lo, .int .i64 r.1.hi, k, .bool r.2] ty)).cell? ((⟨w.heap.size, 0, none⟩ : Addr).add j) = some u := by
  intro j u hu
  rw [Addr.add_lit, Nat.zero_add, cell_of_row _ _ j _ ty (0, 0) (heap_alloc_new w _)]
  simpa [ruleC] using hu
/-- Where a row of rules grows, nodes stay. -/
theorem block_ruleGrown {ty : TypeId} {w w' : World} {B b : Nat} {v : Value} {l : List (T × Bool)} {cur : Array Value} (h' : RuleRow ty w B v l) (hn : ty ≠ 29) (hg : w.grownBy w' v.ownBlock) (hb : w.heap[b]? = some (.cells cur 29 (0, 0))) : w'.heap[b]? = w.heap[b]? :=
  hg.block b (lt_of_some hb) fun e => by
    obtain ⟨c2, k2⟩ := h'.kind e.symm
    exact kind_apart k2 hb hn rfl
theorem Tree.ruleGrown {ty : TypeId} {w w' : World} {B : Nat} {v : Value} {l : List (T × Bool)} {ok : Nat → Prop} {t : T} {k : Value} (h : Tree w ok t k) (h' : RuleRow ty w B v l) (hn : ty ≠ 29) (hg : w.grownBy w' v.ownBlock) : Tree w' ok t k :=
  h.mono fun b hb _ ⟨cur, hc⟩ => ⟨block_ruleGrown h' hn hg hc, hb⟩
theorem Box8.ruleGrown {ty : TypeId} {w w' : World} {B g : Nat} {v : Value} {l : List (T × Bool)} {t : T} {k : Value} (h : Box8 w g t k) (h' : RuleRow ty w B v l) (hn : ty ≠ 29) (hg : w.grownBy w' v.ownBlock) : Box8 w' g t k := (block_ruleGrown h' hn hg h).trans h
theorem below_ruleGrown {ty : TypeId} {w0 w w' : World} {B : Nat} {v : Value} {l : List (T × Bool)} (hb : Below B w0 w) (hB : B ≤ w.heap.size) (h' : RuleRow ty w B v l) (hg : w.grownBy w' v.ownBlock) : Below B w0 w' := hb.grown hg hB fun q e => (h'.lt e).1
theorem rule_after {ty ty2 : TypeId} {w0 w w' : World} {B g : Nat} {va vb : Value} {l l2 : List (T × Bool)} {t : T} {k : Value} {ok : Nat → Prop} {o : Obj} (hA : RuleRow ty w B va l) (hB : RuleRow ty2 w B vb l2) (hne : ty2 ≠ ty) (hn : ty ≠ 29) (hb : Below B w0 w) (hBw : B ≤ w.heap.size) (ht : Tree w ok t k) (hx : Box8 w g t k)
    (hg : (w.alloc o).grownBy w' va.ownBlock) : Below B w0 w' ∧ RuleRow ty2 w' B vb l2 ∧ Tree w' ok t k ∧ Box8 w' g t k := by
  have hal : Below w.heap.size w (w.alloc o) := (Below.refl _ _).alloc (Nat.le_refl _) _
  have hA' := hA.stays hal
  exact ⟨below_ruleGrown (hb.alloc hBw o) (by simp; omega) hA' hg, (hB.stays hal).grown hA' hne hn hg, (ht.alloc o).ruleGrown hA' hn hg, (hx.alloc o).ruleGrown hA' hn hg⟩
end Go.Proofs.YtccbeimcggamiaaDoor

/-
  What holds of all nodes that the grammar makes holds of a pattern. Plain mathematics; no statement of its own.
-/
namespace Go.Proofs.YtccbeimcggamiaaDoor
open Go

/-- A property that each node has which the grammar makes, whatever its kids. -/
structure Made (N : Nat) (Q : T → Prop) : Prop where
  one : ∀ p, Q (.one p)
  rep : ∀ m n t, 0 ≤ m → m ≤ n → 1 ≤ n → n ≤ 32 → Q t → Q (.rep m n t)
  cat : ∀ l, 2 ≤ l.length → l.length ≤ N → (∀ x ∈ l, Q x) → Q (.mk 2 noneP 0 0 l)
  alt : ∀ l, 2 ≤ l.length → l.length ≤ N → (∀ x ∈ l, Q x) → Q (.mk 3 noneP 0 0 l)

theorem num_pos {s : ByteArray} {p q : Nat} {m : Int} (h : cNum s p = .ok (m, q)) : 0 ≤ m := by
  unfold cNum at h
  by_cases h1 : isD s p = true
  · rw [if_pos h1] at h
    simp [isD] at h1
    by_cases h2 : isD s (p + 1) = true
    · rw [if_pos h2] at h
      simp [isD] at h2
      injection h with h; injection h with h _
      omega
    · rw [if_neg h2] at h
      injection h with h; injection h with h _
      omega
  · rw [if_neg h1] at h; cases h
theorem times_good {s : ByteArray} {p q : Nat} {m n : Int} (h : cTimes s p = .ok ((m, n), q)) : 0 ≤ m ∧ m ≤ n ∧ 1 ≤ n ∧ n ≤ 32 := by
  unfold cTimes at h
  cases hc : cNum s p with
  | error e => rw [hc] at h; cases h
  | ok x =>
    rw [hc] at h
    simp only [thenR] at h
    have h0 := num_pos (m := x.1) (q := x.2) hc
    cases hd : (if isB s x.2 44 = true then cNum s (x.2 + 1) else (.ok (x.1, x.2) : R Int)) with
    | error e => rw [hd] at h; cases h
    | ok y =>
      rw [hd] at h
      simp only at h
      by_cases hk : isB s y.2 125 = true ∧ 1 ≤ y.1 ∧ y.1 ≤ 32 ∧ x.1 ≤ y.1
      · rw [if_pos hk] at h
        injection h with h; injection h with h _; injection h with h1 h2
        subst h1 h2
        exact ⟨h0, hk.2.2.2, hk.2.1, hk.2.2.1⟩
      · rw [if_neg hk] at h; cases h
theorem many_two {op : Int} {l : List T} {Q : T → Prop} (h1 : 1 ≤ l.length) (hl : ∀ x ∈ l, Q x) (hm : 2 ≤ l.length → Q (.mk op noneP 0 0 l)) : Q (T.many op l) := by
  unfold T.many
  split
  · rename_i z
    exact hl z (by simp)
  · rename_i hne
    refine hm ?_
    match l, h1, hne with
    | [x], _, hne => exact absurd rfl (hne x)
    | _ :: _ :: _, _, _ => simp

section
variable {s : ByteArray} {Q : T → Prop} (hQ : Made (s.size + 2) Q) {d : Option (Nat → R T)} {top : Bool} (hd : ∀ f, d = some f → ∀ p t q, f p = .ok (t, q) → Q t)
include hQ hd
theorem Made.atom {p q : Nat} {t : T} (h : cAtom s d p = .ok (t, q)) : Q t := by
  unfold cAtom at h
  by_cases hlt : p < s.size
  · rw [if_pos hlt] at h
    split at h
    · cases d with
      | none => cases h
      | some f =>
        simp only at h
        cases hc : f (p + 1) with
        | error e => rw [hc] at h; cases h
        | ok x =>
          rw [hc] at h
          simp only [thenR] at h
          split at h
          · injection h with h; injection h with h _; rw [← h]; exact hd f rfl (p + 1) x.1 x.2 hc
          · cases h
    · split at h
      · cases hc : cClass s (p + 1) with
        | error e => rw [hc] at h; cases h
        | ok x => rw [hc] at h; injection h with h; injection h with h _; rw [← h]; exact hQ.one _
      · split at h
        · injection h with h; injection h with h _; rw [← h]; exact hQ.one _
        · split at h
          · split at h
            · injection h with h; injection h with h _; rw [← h]; exact hQ.one _
            · cases hc : cEsc s (p + 1) with
              | error e => rw [hc] at h; cases h
              | ok x => rw [hc] at h; injection h with h; injection h with h _; rw [← h]; exact hQ.one _
          · split at h
            · cases h
            · split at h
              · cases h
              · injection h with h; injection h with h _; rw [← h]; exact hQ.one _
  · rw [if_neg hlt] at h; cases h
omit hd in
theorem Made.rloop : ∀ (n : Nat) (t : T) (p : Nat) (t' : T) (q : Nat), Q t → loopR (repStep s) n t p = .ok (t', q) → Q t'
  | 0, t, p, t', q, h0, h => by unfold loopR at h; injection h with h; injection h with h _; rw [← h]; exact h0
  | n + 1, t, p, t', q, h0, h => by
    unfold loopR repStep at h
    by_cases h63 : isB s p 63 = true
    · rw [if_pos h63] at h
      exact Made.rloop n _ _ t' q (hQ.rep _ _ _ (by omega) (by omega) (by omega) (by omega) h0) h
    · rw [if_neg h63] at h
      by_cases h123 : isB s p 123 = true
      · rw [if_pos h123] at h
        cases hc : cTimes s (p + 1) with
        | error e => rw [hc] at h; cases h
        | ok x =>
          rw [hc] at h
          obtain ⟨g1, g2, g3, g4⟩ := times_good (m := x.1.1) (n := x.1.2) (q := x.2) hc
          exact Made.rloop n _ _ t' q (hQ.rep _ _ _ g1 g2 g3 g4 h0) h
      · rw [if_neg h123] at h
        injection h with h; injection h with h _; rw [← h]; exact h0
theorem Made.piece {p q : Nat} {t : T} (h : cPiece s d p = .ok (t, q)) : Q t := by
  unfold cPiece at h
  cases hc : cAtom s d p with
  | error e => rw [hc] at h; cases h
  | ok x =>
    rw [hc] at h
    exact hQ.rloop _ x.1 x.2 t q (hQ.atom hd hc) h
theorem Made.ploop : ∀ (n : Nat) (l : List T) (p : Nat) (l' : List T) (q : Nat), 1 ≤ l.length → (∀ x ∈ l, Q x) → loopR (partStep s d top) n l p = .ok (l', q) → (∀ x ∈ l', Q x) ∧ 1 ≤ l'.length ∧ l'.length ≤ l.length + n
  | 0, l, p, l', q, hl, h0, h => by unfold loopR at h; injection h with h; injection h with h _; rw [← h]; exact ⟨h0, hl, by omega⟩
  | n + 1, l, p, l', q, hl, h0, h => by
    unfold loopR partStep at h
    split at h
    · injection h with h; injection h with h _; rw [← h]; exact ⟨h0, hl, by omega⟩
    · cases h
    · rename_i a' p' e
      split at e
      · cases hc : cPiece s d p with
        | error e' => rw [hc] at e; injection e with e; cases e
        | ok x =>
          rw [hc] at e
          injection e with e
          injection e with e
          injection e with e1 e2
          have k := Made.ploop n a' p' l' q (by rw [← e1]; simp) (fun y hy => ?_) h
          · refine ⟨k.1, k.2.1, ?_⟩
            have := k.2.2
            rw [← e1] at this
            simp at this
            omega
          rw [← e1] at hy
          rcases List.mem_append.1 hy with hy | hy
          · exact h0 y hy
          · simp at hy
            rw [hy]
            exact hQ.piece hd (q := x.2) hc
      · cases e
theorem Made.part {p q : Nat} {t : T} (h : cPart s d top p = .ok (t, q)) : Q t := by
  unfold cPart at h
  cases hc : cPiece s d p with
  | error e => rw [hc] at h; cases h
  | ok x =>
    rw [hc] at h
    simp only [thenR] at h
    cases hl : loopR (partStep s d top) (s.size + 1) [x.1] x.2 with
    | error e => rw [hl] at h; cases h
    | ok y =>
      rw [hl] at h
      have k := hQ.ploop hd _ [x.1] x.2 y.1 y.2 (by simp) (fun z hz => by simp at hz; rw [hz]; exact hQ.piece hd (q := x.2) hc) hl
      injection h with h
      injection h with h _
      rw [← h]
      exact many_two k.2.1 k.1 fun h2 => hQ.cat _ h2 (by have := k.2.2; simp at this; omega) k.1
theorem Made.loop : ∀ (n : Nat) (l : List T) (p : Nat) (l' : List T) (q : Nat), 1 ≤ l.length → (∀ x ∈ l, Q x) → loopR (patStep s d top) n l p = .ok (l', q) → (∀ x ∈ l', Q x) ∧ 1 ≤ l'.length ∧ l'.length ≤ l.length + n
  | 0, l, p, l', q, hl, h0, h => by unfold loopR at h; injection h with h; injection h with h _; rw [← h]; exact ⟨h0, hl, by omega⟩
  | n + 1, l, p, l', q, hl, h0, h => by
    unfold loopR patStep at h
    split at h
    · injection h with h; injection h with h _; rw [← h]; exact ⟨h0, hl, by omega⟩
    · cases h
    · rename_i a' p' e
      split at e
      · cases hc : cPart s d top (p + 1) with
        | error e' => rw [hc] at e; injection e with e; cases e
        | ok x =>
          rw [hc] at e
          injection e with e
          injection e with e
          injection e with e1 e2
          have k := Made.loop n a' p' l' q (by rw [← e1]; simp) (fun y hy => ?_) h
          · refine ⟨k.1, k.2.1, ?_⟩
            have := k.2.2
            rw [← e1] at this
            simp at this
            omega
          rw [← e1] at hy
          rcases List.mem_append.1 hy with hy | hy
          · exact h0 y hy
          · simp at hy
            rw [hy]
            exact hQ.part hd (q := x.2) hc
      · cases e
theorem Made.cpat {p q : Nat} {t : T} (h : cPat s d top p = .ok (t, q)) : Q t := by
  unfold cPat at h
  cases hc : cPart s d top p with
  | error e => rw [hc] at h; cases h
  | ok x =>
    rw [hc] at h
    simp only [thenR] at h
    cases hl : loopR (patStep s d top) (s.size + 1) [x.1] x.2 with
    | error e => rw [hl] at h; cases h
    | ok y =>
      rw [hl] at h
      have k := hQ.loop hd _ [x.1] x.2 y.1 y.2 (by simp) (fun z hz => by simp at hz; rw [hz]; exact hQ.part hd (q := x.2) hc) hl
      injection h with h
      injection h with h _
      rw [← h]
      exact many_two k.2.1 k.1 fun h2 => hQ.alt _ h2 (by have := k.2.2; simp at this; omega) k.1
omit hd
theorem Made.pat : ∀ (k : Nat) (top : Bool) (p : Nat) (t : T) (q : Nat), pat s k top p = .ok (t, q) → Q t
  | 0, top, p, t, q, h => hQ.cpat (d := none) (fun f e => by cases e) h
  | k + 1, top, p, t, q, h => hQ.cpat (d := some (Go.Proofs.YtccbeimcggamiaaDoor.pat s k false)) (fun f e p t q h => by cases e; exact Made.pat k false p t q h) h
theorem Made.parse {t : T} (h : Go.Proofs.YtccbeimcggamiaaDoor.parse s = .ok t) : Q t := by
  unfold Go.Proofs.YtccbeimcggamiaaDoor.parse at h
  by_cases hl : 200 < s.size
  · rw [if_pos hl] at h; cases h
  · rw [if_neg hl] at h
    cases hp : Go.Proofs.YtccbeimcggamiaaDoor.pat s 20 true 0 with
    | error e => rw [hp] at h; cases h
    | ok x =>
      rw [hp] at h
      injection h with h
      rw [← h]
      exact hQ.pat 20 true 0 x.1 x.2 hp
end
theorem parse_size {s : ByteArray} {t : T} (h : parse s = .ok t) : s.size ≤ 200 := by
  unfold parse at h
  by_cases hl : 200 < s.size
  · rw [if_pos hl] at h; cases h
  · omega

end Go.Proofs.YtccbeimcggamiaaDoor

/-
  Which words a pattern has: from where to where one goes, as a relation; repetitions as growing sets. Plain mathematics; no statement of its own.
-/
namespace Go.Proofs.YtccbeimcggamiaaDoor
open Go

/-- A pattern as the grammar makes it. -/
inductive WF : T → Prop where
  | one (p : Nat → Bool) : WF (.mk 1 p 0 0 [])
  | cat (l : List T) (h2 : 2 ≤ l.length) (hN : l.length ≤ 202) (h : ∀ x ∈ l, WF x) : WF (.mk 2 noneP 0 0 l)
  | alt (l : List T) (h2 : 2 ≤ l.length) (hN : l.length ≤ 202) (h : ∀ x ∈ l, WF x) : WF (.mk 3 noneP 0 0 l)
  | rep (m n : Int) (t : T) (h0 : 0 ≤ m) (h1 : m ≤ n) (h2 : 1 ≤ n) (h3 : n ≤ 32) (h : WF t) : WF (.mk 4 noneP m n [t])
theorem wf_made {N : Nat} (hN : N ≤ 202) : Made N WF := ⟨.one, .rep, fun l h1 h2 => .cat l h1 (by omega), fun l h1 h2 => .alt l h1 (by omega)⟩
theorem wf_parse {s : ByteArray} {t : T} (h : parse s = .ok t) : WF t := (wf_made (by have := parse_size h; omega)).parse h

/-- So many times, one behind the other. -/
def iter (Rl : Nat → Nat → Prop) : Nat → Nat → Nat → Prop
  | 0, i, j => i = j
  | m + 1, i, j => ∃ k, iter Rl m i k ∧ Rl k j

mutual
/-- From where to where a word of t goes in xs. -/
def E (xs : List Int) : T → Nat → Nat → Prop
  | .mk op p lo hi l => fun i j =>
    (op = 1 ∧ i < xs.length ∧ p (xs.getD i 0).toNat = true ∧ j = i + 1) ∨ (op = 2 ∧ ECat xs l i j) ∨ (op = 3 ∧ EAny xs l i j) ∨
    (op = 4 ∧ ∃ m : Nat, lo ≤ m ∧ (m : Int) ≤ hi ∧ iter (EAny xs l) m i j)
/-- Words of the kids, one behind the other. -/
def ECat (xs : List Int) : List T → Nat → Nat → Prop
  | [] => fun i j => i = j
  | t :: ts => fun i j => ∃ k, E xs t i k ∧ ECat xs ts k j
/-- A word of one of the kids. -/
def EAny (xs : List Int) : List T → Nat → Nat → Prop
  | [] => fun _ _ => False
  | t :: ts => fun i j => E xs t i j ∨ EAny xs ts i j
end

section
variable {xs : List Int}
theorem E_one {p : Nat → Bool} {lo hi : Int} {l : List T} {i j : Nat} : E xs (.mk 1 p lo hi l) i j ↔ i < xs.length ∧ p (xs.getD i 0).toNat = true ∧ j = i + 1 := by
  simp [E]
theorem E_cat {p : Nat → Bool} {lo hi : Int} {l : List T} {i j : Nat} : E xs (.mk 2 p lo hi l) i j ↔ ECat xs l i j := by
  simp [E]
theorem E_alt {p : Nat → Bool} {lo hi : Int} {l : List T} {i j : Nat} : E xs (.mk 3 p lo hi l) i j ↔ EAny xs l i j := by
  simp [E]
theorem E_rep {p : Nat → Bool} {lo hi : Int} {l : List T} {i j : Nat} : E xs (.mk 4 p lo hi l) i j ↔ ∃ m : Nat, lo ≤ m ∧ (m : Int) ≤ hi ∧ iter (EAny xs l) m i j := by
  simp [E]
theorem EAny_iff {l : List T} {i j : Nat} : EAny xs l i j ↔ ∃ t ∈ l, E xs t i j := by
  induction l with
  | nil => simp [EAny]
  | cons t ts ih => simp [EAny, ih]
theorem EAny_one {t : T} : EAny xs [t] = E xs t := by
  funext i j
  simp [EAny]
theorem ECat_app {l l' : List T} {i j : Nat} : ECat xs (l ++ l') i j ↔ ∃ k, ECat xs l i k ∧ ECat xs l' k j := by
  induction l generalizing i with
  | nil => simp [ECat]
  | cons t ts ih =>
    simp only [List.cons_append, ECat, ih]
    constructor
    · rintro ⟨a, h1, b, h2, h3⟩; exact ⟨b, ⟨a, h1, h2⟩, h3⟩
    · rintro ⟨b, ⟨a, h1, h2⟩, h3⟩; exact ⟨a, h1, b, h2, h3⟩

theorem iter_bd {Rl : Nat → Nat → Prop} {n : Nat} (h : ∀ i j, i ≤ n → Rl i j → i ≤ j ∧ j ≤ n) : ∀ (m i j : Nat), i ≤ n → iter Rl m i j → i ≤ j ∧ j ≤ n
  | 0, i, j, hi, e => by have e' : i = j := e; omega
  | m + 1, i, j, hi, ⟨k, h1, h2⟩ => by
    have a := iter_bd h m i k hi h1
    have b := h k j a.2 h2
    omega
theorem E_bd {t : T} (ht : WF t) : ∀ i j, i ≤ xs.length → E xs t i j → i ≤ j ∧ j ≤ xs.length := by
  induction ht with
  | one p => intro i j hi h; rw [E_one] at h; omega
  | cat l h2 hN h ih =>
    intro i j hi hE
    rw [E_cat] at hE
    clear h2 hN h
    induction l generalizing i with
    | nil => have e : i = j := hE; omega
    | cons t ts ih' =>
      obtain ⟨k, h1, h3⟩ := hE
      have a := ih t (by simp) i k hi h1
      have b := ih' (fun x hx => ih x (by simp [hx])) k a.2 h3
      omega
  | alt l h2 hN h ih =>
    intro i j hi hE
    rw [E_alt, EAny_iff] at hE
    obtain ⟨t, ht, hE⟩ := hE
    exact ih t ht i j hi hE
  | rep m n t h0 h1 h2 h3 h ih =>
    intro i j hi hE
    rw [E_rep] at hE
    obtain ⟨k, _, _, hE⟩ := hE
    rw [EAny_one] at hE
    exact iter_bd ih k i j hi hE

/-! Sets of places. -/
/-- Where one comes to from places of S. -/
def img (Rl : Nat → Nat → Prop) (S : Nat → Prop) : Nat → Prop := fun j => ∃ i, S i ∧ Rl i j
def imgN (Rl : Nat → Nat → Prop) (S : Nat → Prop) : Nat → Nat → Prop
  | 0 => S
  | m + 1 => img Rl (imgN Rl S m)
/-- Where one comes to within so many times. -/
def upTo (Rl : Nat → Nat → Prop) (S : Nat → Prop) (m : Nat) : Nat → Prop := fun j => ∃ k, k ≤ m ∧ imgN Rl S k j
theorem imgN_iter {Rl : Nat → Nat → Prop} {S : Nat → Prop} : ∀ (m j : Nat), imgN Rl S m j ↔ ∃ i, S i ∧ iter Rl m i j
  | 0, j => by
    constructor
    · intro h; exact ⟨j, h, rfl⟩
    · rintro ⟨i, h, e⟩
      have e' : i = j := e
      exact e' ▸ h
  | m + 1, j => by
    constructor
    · rintro ⟨k, h1, h2⟩
      obtain ⟨i, h3, h4⟩ := (imgN_iter m k).1 h1
      exact ⟨i, h3, k, h4, h2⟩
    · rintro ⟨i, h3, k, h4, h2⟩
      exact ⟨k, (imgN_iter m k).2 ⟨i, h3, h4⟩, h2⟩
theorem imgN_add {Rl : Nat → Nat → Prop} {S : Nat → Prop} (a : Nat) : ∀ (b j : Nat), imgN Rl (imgN Rl S a) b j ↔ imgN Rl S (a + b) j
  | 0, j => Iff.rfl
  | b + 1, j => by
    constructor
    · rintro ⟨k, h1, h2⟩; exact ⟨k, (imgN_add a b k).1 h1, h2⟩
    · rintro ⟨k, h1, h2⟩; exact ⟨k, (imgN_add a b k).2 h1, h2⟩
theorem imgN_fix {Rl : Nat → Nat → Prop} {S : Nat → Prop} (h : ∀ j, img Rl S j ↔ S j) : ∀ (m j : Nat), imgN Rl S m j ↔ S j
  | 0, j => Iff.rfl
  | m + 1, j => by
    constructor
    · rintro ⟨k, h1, h2⟩; exact (h j).1 ⟨k, (imgN_fix h m k).1 h1, h2⟩
    · intro hj
      obtain ⟨k, h1, h2⟩ := (h j).2 hj
      exact ⟨k, (imgN_fix h m k).2 h1, h2⟩
theorem upTo_succ {Rl : Nat → Nat → Prop} {S : Nat → Prop} (m j : Nat) : upTo Rl S (m + 1) j ↔ upTo Rl S m j ∨ img Rl (upTo Rl S m) j := by
  constructor
  · rintro ⟨k, hk, h⟩
    cases k with
    | zero => exact .inl ⟨0, Nat.zero_le _, h⟩
    | succ k =>
      obtain ⟨i, h1, h2⟩ := h
      exact .inr ⟨i, ⟨k, by omega, h1⟩, h2⟩
  · rintro (⟨k, hk, h⟩ | ⟨i, ⟨k, hk, h1⟩, h2⟩)
    · exact ⟨k, by omega, h⟩
    · exact ⟨k + 1, by omega, i, h1, h2⟩
theorem upTo_zero {Rl : Nat → Nat → Prop} {S : Nat → Prop} (j : Nat) : upTo Rl S 0 j ↔ S j := by
  constructor
  · rintro ⟨k, hk, h⟩
    obtain rfl : k = 0 := by omega
    exact h
  · intro h; exact ⟨0, Nat.le_refl _, h⟩
theorem upTo_stop {Rl : Nat → Nat → Prop} {S : Nat → Prop} {m : Nat} (h : ∀ j, img Rl (upTo Rl S m) j → upTo Rl S m j) : ∀ (d j : Nat), upTo Rl S (m + d) j ↔ upTo Rl S m j
  | 0, j => Iff.rfl
  | d + 1, j => by
    rw [← Nat.add_assoc, upTo_succ, upTo_stop h d j]
    constructor
    · rintro (h1 | ⟨i, h1, h2⟩)
      · exact h1
      · exact h j ⟨i, (upTo_stop h d i).1 h1, h2⟩
    · exact .inl
theorem img_congr {Rl : Nat → Nat → Prop} {S S' : Nat → Prop} (h : ∀ j, S j ↔ S' j) (j : Nat) : img Rl S j ↔ img Rl S' j := by
  constructor
  · rintro ⟨i, h1, h2⟩; exact ⟨i, (h i).1 h1, h2⟩
  · rintro ⟨i, h1, h2⟩; exact ⟨i, (h i).2 h1, h2⟩
theorem imgN_congr {Rl : Nat → Nat → Prop} {S S' : Nat → Prop} (h : ∀ j, S j ↔ S' j) : ∀ (m j : Nat), imgN Rl S m j ↔ imgN Rl S' m j
  | 0, j => h j
  | m + 1, j => img_congr (imgN_congr h m) j
theorem upTo_congr {Rl : Nat → Nat → Prop} {S S' : Nat → Prop} (h : ∀ j, S j ↔ S' j) (m j : Nat) : upTo Rl S m j ↔ upTo Rl S' m j := by
  constructor
  · rintro ⟨k, hk, h1⟩; exact ⟨k, hk, (imgN_congr h k j).1 h1⟩
  · rintro ⟨k, hk, h1⟩; exact ⟨k, hk, (imgN_congr h k j).2 h1⟩

/-- A repetition, as its least number of times, and then up to its greatest. -/
theorem E_rep_img {m n : Int} {t : T} {S : Nat → Prop} (h0 : 0 ≤ m) (h1 : m ≤ n) (j : Nat) :
    img (E xs (.mk 4 noneP m n [t])) S j ↔ upTo (E xs t) (imgN (E xs t) S m.toNat) (n - m).toNat j := by
  constructor
  · rintro ⟨i, hi, hE⟩
    rw [E_rep] at hE
    obtain ⟨k, h2, h3, hE⟩ := hE
    rw [EAny_one] at hE
    refine ⟨k - m.toNat, by omega, ?_⟩
    rw [imgN_add, show m.toNat + (k - m.toNat) = k by omega, imgN_iter]
    exact ⟨i, hi, hE⟩
  · rintro ⟨k, hk, h⟩
    rw [imgN_add, imgN_iter] at h
    obtain ⟨i, hi, hE⟩ := h
    refine ⟨i, hi, ?_⟩
    rw [E_rep]
    exact ⟨m.toNat + k, by omega, by omega, by rw [EAny_one]; exact hE⟩
/-- The same for several kids one behind the other. -/
theorem ECat_img {t : T} {ts : List T} {S : Nat → Prop} (j : Nat) : img (ECat xs (t :: ts)) S j ↔ img (ECat xs ts) (img (E xs t) S) j := by
  constructor
  · rintro ⟨i, hi, k, h1, h2⟩; exact ⟨k, ⟨i, hi, h1⟩, h2⟩
  · rintro ⟨k, ⟨i, hi, h1⟩, h2⟩; exact ⟨i, hi, k, h1, h2⟩
end

/-- The search by what is fresh: what is found so far, and what of it is new. -/
structure Found (Rl : Nat → Nat → Prop) (S : Nat → Prop) (r : Nat) (found fresh : Nat → Prop) : Prop where
  all : ∀ j, found j ↔ upTo Rl S r j
  sub : ∀ j, fresh j → found j
  old : ∀ i j, found i → ¬ fresh i → Rl i j → found j
theorem Found.start (Rl : Nat → Nat → Prop) (S : Nat → Prop) : Found Rl S 0 S S :=
  ⟨fun j => (upTo_zero j).symm, fun _ h => h, fun i j h1 h2 _ => absurd h1 h2⟩
open Classical in
theorem Found.step {Rl : Nat → Nat → Prop} {S found fresh found' fresh' : Nat → Prop} {r : Nat} (h : Found Rl S r found fresh) (hf : ∀ j, fresh' j ↔ img Rl fresh j ∧ ¬ found j) (hg : ∀ j, found' j ↔ found j ∨ fresh' j) : Found Rl S (r + 1) found' fresh' := by
  have key : ∀ j, img Rl found j → found j ∨ img Rl fresh j := by
    rintro j ⟨i, h1, h2⟩
    by_cases hi : fresh i
    · exact .inr ⟨i, hi, h2⟩
    · exact .inl (h.old i j h1 hi h2)
  refine ⟨fun j => ?_, fun j hj => (hg j).2 (.inr hj), fun i j h1 h2 h3 => ?_⟩
  · rw [hg, hf, upTo_succ, ← h.all j, img_congr (fun j => (h.all j).symm)]
    constructor
    · rintro (h1 | ⟨⟨i, h1, h2⟩, _⟩)
      · exact .inl h1
      · exact .inr ⟨i, h.sub i h1, h2⟩
    · rintro (h1 | h1)
      · exact .inl h1
      · by_cases hj : found j
        · exact .inl hj
        · exact .inr ⟨(key j h1).resolve_left hj, hj⟩
  · have hi : found i := ((hg i).1 h1).resolve_right h2
    rw [hg, hf]
    by_cases hj : found j
    · exact .inl hj
    · exact .inr ⟨(key j ⟨i, hi, h3⟩).resolve_left hj, hj⟩
theorem Found.stop {Rl : Nat → Nat → Prop} {S found fresh : Nat → Prop} {r : Nat} (h : Found Rl S r found fresh) (hf : ∀ j, img Rl fresh j → found j) (d j : Nat) : found j ↔ upTo Rl S (r + d) j := by
  rw [h.all, upTo_stop]
  rintro k ⟨i, h1, h2⟩
  have hi := (h.all i).2 h1
  by_cases hi' : fresh i
  · exact (h.all k).1 (hf k ⟨i, hi', h2⟩)
  · exact (h.all k).1 (h.old i k hi hi' h2)

end Go.Proofs.YtccbeimcggamiaaDoor
