/-
  The parts of a pattern as the law RxParts of layer 2 takes them, and two rows put together. Contracts for other texts; no statement of its own.
-/
import Derived.Test.YtpiieonlbfhbaaaLaw2b
set_option linter.unusedVariables false
set_option linter.unusedSimpArgs false
namespace Go.Proofs.Ytpiieonlbfhbaaa
open Go Go.RowKit
attribute [local go_sem ↓] Go.wp_at_zero Go.wp_at_succ

theorem add_at (g j : Nat) : (⟨g, 0, none⟩ : Addr).add j = ⟨g, j, none⟩ := by unfold Addr.add; split <;> simp_all
/-- What alts tells of t: a row that holds the parts' cells. -/
def RetAlts (t : T) (ks : List Value) (w : World) (e : Ending) (w' : World) : Prop :=
  ∃ ad c, e = .returned (.slice (some ad) (altsT t).length c) ∧ (∀ j u, (cellsOf (altsT t) ks)[j]? = some u → w'.cell? (ad.add j) = some u) ∧ Below w.heap.size w w'
def nodeA (t : T) (k : Value) : Value := .agg #[.int .i64 t.op, .int .u64 (word t.set 0), .int .u64 (word t.set 1), .int .u64 (word t.set 2), .int .u64 (word t.set 3), .int .i64 t.lo, .int .i64 t.hi, k]
theorem alts_q {w : World} {ok : Nat → Prop} {t : T} {k : Value} (ht : Tree w ok t k) (h1 : 1 ≤ (altsT t).length) :
    ∃ ks : List Value, ks.length = (altsT t).length ∧ (∀ (i : Nat) t' k', (altsT t)[i]? = some t' → ks[i]? = some k' → Tree w ok t' k') ∧
      (∀ u ∈ cellsOf (altsT t) ks, u.oneCell' = true) ∧ ∀ w', Below w.heap.size w w' → Calls Try.prog 11 #[nodeA t k] w' (RetAlts t ks w') := by
  have hone : ∀ (l : List T) (ks : List Value), (∀ (i : Nat) t' k', l[i]? = some t' → ks[i]? = some k' → k'.oneCell' = true) → ∀ u ∈ cellsOf l ks, u.oneCell' = true := by
    intro l
    induction l with
    | nil => intro ks _ u hu; simp [cellsOf] at hu
    | cons a l ih =>
      intro ks h u hu
      cases ks with
      | nil => simp [cellsOf] at hu
      | cons b ks =>
        simp only [cellsOf, List.mem_append] at hu
        rcases hu with hu | hu
        · have hb := h 0 a b rfl rfl
          simp [nodeC] at hu
          rcases hu with rfl | rfl | rfl | rfl | rfl | rfl | rfl | rfl
          all_goals first | rfl | exact hb
        · exact ih ks (fun i t' k' h1 h2 => h (i + 1) t' k' (by simpa using h1) (by simpa using h2)) u hu
  by_cases h3 : t.op = 3
  · have e : altsT t = t.kids := by unfold altsT; rw [if_pos h3]
    have h3b : (t.op == 3) = true := by simp [h3]
    rw [e] at h1 ⊢
    cases ht with
    | nil t h => rw [h] at h1; simp at h1
    | row t g cap cur ks hg hok hn h0 hcap hmax hsize hc hk =>
      refine ⟨ks, hn, hk, hone _ _ fun i t' k' a b => (hk i t' k' a b).one, fun w' hb => ?_⟩
      have hcells : ∀ w'', Below w'.heap.size w' w'' → ∀ j u, (cellsOf t.kids ks)[j]? = some u → w''.cell? ((⟨g, 0, none⟩ : Addr).add j) = some u := by
        intro w'' hb2 j u hu
        rw [add_at]
        have hlt := lt_of_some hg
        refine ((hb2.mono (Nat.le_refl _)).cell (p := ⟨g, j, none⟩) (Nat.lt_of_lt_of_le hlt hb.size)).trans ((hb.cell (p := ⟨g, j, none⟩) hlt).trans ?_)
        rw [cell_of_row w g _ cur 28 (0, 0) hg, ← Array.getElem?_toList]
        rw [← hc, List.getElem?_take] at hu
        split at hu
        · exact hu
        · cases hu
      have HC := Lib.hid hcells
      have HE := Lib.hid e
      clear hcells e h1 hc hk hb hn h0 hcap hsize h3 hone hg
      unfold nodeA
      generalize hl : t.kids.length = n at *
      have HL := Lib.hid hl
      clear hl
      go_enter Try.func11, Try.ntmps11
      go_wp2
      go_ret
      refine ⟨⟨g, 0, none⟩, cap, by rw [HE.out, HL.out]; rfl, ?_, (Below.refl _ _).alloc (Nat.le_refl _) _⟩
      rw [HE.out]
      exact HC.out _ ((Below.refl _ _).alloc (Nat.le_refl _) _)
  · have e : altsT t = [t] := by unfold altsT; rw [if_neg h3]
    have h3b : (t.op == 3) = false := by simp [h3]
    rw [e]
    refine ⟨[k], rfl, fun i t' k' a b => ?_, hone _ _ fun i t' k' a b => ?_, fun w' hb => ?_⟩
    · match i, a, b with
      | 0, a, b =>
        have a' : t = t' := by simpa using a
        have b' : k = k' := by simpa using b
        subst a' b'
        exact ht
      | i + 1, a, b => simp at a
    · match i, a, b with
      | 0, a, b =>
        have b' : k = k' := by simpa using b
        subst b'
        exact ht.one
      | i + 1, a, b => simp at a
    · have HE := Lib.hid e
      obtain ⟨A, n, c, rfl⟩ := ht.form
      clear e h1 h3 hone ht hb
      have bx := Box8.new w' t (.slice A n c)
      obtain ⟨c0, c1, c2, c3, c4, c5, c6, c7⟩ := bx.cell
      unfold nodeA
      go_enter Try.func11, Try.ntmps11
      go_wp2
      go_ret
      refine ⟨⟨w'.heap.size + 1, 0, none⟩, 1, by rw [HE.out]; rfl, ?_, ((Below.refl _ _).alloc (Nat.le_refl _) _).alloc (by simp) _⟩
      rw [HE.out]
      intro j u hu
      rw [add_at]
      have h := heap_alloc_new (w'.alloc (.cells #[.int .i64 t.op, .int .u64 (word t.set 0), .int .u64 (word t.set 1), .int .u64 (word t.set 2), .int .u64 (word t.set 3), .int .i64 t.lo, .int .i64 t.hi, .slice A n c] 28)) (.cells #[.int .i64 t.op, .int .u64 (word t.set 0), .int .u64 (word t.set 1), .int .u64 (word t.set 2), .int .u64 (word t.set 3), .int .i64 t.lo, .int .i64 t.hi, .slice A n c] 28)
      rw [World.size_alloc] at h
      rw [cell_of_row _ (w'.heap.size + 1) _ _ 28 (0, 0) h, ← Array.getElem?_toList]
      simpa [cellsOf, nodeC] using hu

theorem cellsOf_cat : ∀ (l : List T) (ks : List Value) (l' : List T) (ks' : List Value), ks.length = l.length → cellsOf l ks ++ cellsOf l' ks' = cellsOf (l ++ l') (ks ++ ks')
  | [], [], l', ks', _ => rfl
  | t :: ts, k :: ks, l', ks', h => by
    have := cellsOf_cat ts ks l' ks' (by simpa using h)
    simp [cellsOf, this]

end Go.Proofs.Ytpiieonlbfhbaaa
