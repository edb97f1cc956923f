/-
  The document's own reader of patterns: One, many; one kid more in a row. Contracts for other texts; no statement of its own.
-/
import Derived.Test.YtpiieonlbfhbaaaRefRd7
import Derived.Test.YtpiieonlbfhbaaaTree
set_option linter.unusedVariables false
set_option linter.unusedSimpArgs false
namespace Go.Proofs.Ytpiieonlbfhbaaa
open Go Go.RowKit
attribute [local go_sem ↓] Go.wp_at_zero Go.wp_at_succ

/-- One kid more. -/
theorem row_push {w : World} {B : Nat} {v : Value} {l : List T} (h : Row w B v l) (hB : B ≤ w.heap.size) (hl : l.length ≤ 100000) (t : T) (k : Value) (ht : Tree w (fun b => B ≤ b ∧ some b ≠ v.ownBlock) t k)
    (ty : TypeId) (ad : Addr) (c : Nat) (hc : ∀ (j : Nat) u, (nodeC t k)[j]? = some u → w.cell? (ad.add j) = some u) :
    ∃ v' w', (Builtin.append_ #[26, 26] ty #[v, .slice (some ad) 1 c]).run Try.prog w = .ok v' w' ∧ Row w' B v' (l ++ [t]) ∧ w.grownBy w' v.ownBlock ∧ B ≤ w'.heap.size := by
  obtain ⟨ks, h1, h2, h3⟩ := h
  obtain ⟨i0, hi, hz0, hz1, hz2⟩ := info_parts Try.infoNode
  obtain ⟨v', w', hr, h4, h5, _, h6⟩ := run_append_own_at (P := Try.prog) w B 26 ty 28 i0 _ 8 80 Try.underlying26 hi hz0 hz1 hz2 rfl (by decide) v l.length (cellsOf l ks) h2 ad 1 c (nodeC t k) rfl hc
    (by
      intro u hu
      simp [nodeC] at hu
      rcases hu with rfl | rfl | rfl | rfl | rfl | rfl | rfl | rfl
      all_goals first | rfl | exact ht.one) (by unfold maxLen; omega) (by omega) hB
  refine ⟨v', w', hr, ⟨ks ++ [k], by simp [h1], ?_, fun i t' k' e1 e2 => ?_⟩, h5, Nat.le_trans hB h5.size⟩
  · rw [cellsOf_app l ks t k h1]
    simpa using h4
  · have hkeep : ∀ t' k', Tree w (fun b => B ≤ b ∧ some b ≠ v.ownBlock) t' k' → Tree w' (fun b => B ≤ b ∧ some b ≠ v'.ownBlock) t' k' := by
      intro t' k' h
      refine h.mono fun b hb hlt _ => ⟨h5.block b hlt hb.2, hb.1, ?_⟩
      rcases h6 with h6 | h6
      · rw [h6]; exact hb.2
      · rw [h6]; simp; omega
    by_cases hi : i < l.length
    · rw [List.getElem?_append_left hi] at e1
      rw [List.getElem?_append_left (by omega)] at e2
      exact hkeep _ _ (h3 i t' k' e1 e2)
    · rw [List.getElem?_append_right (by omega)] at e1
      rw [List.getElem?_append_right (by omega)] at e2
      have hi' : i = l.length := by
        have := List.getElem?_eq_some_iff.1 e1
        simp at this
        omega
      subst hi'
      simp [h1] at e1 e2
      subst e1 e2
      exact hkeep _ _ ht

/-- At the list of a plain region's operations. -/
theorem wpList_push {w : World} {ops : Array Oper} {rest : List Oper} {o : Oper} {a : Act} {Q : Exit → Act → World → Prop} (hgd : o.guard = none) (s x : Operand)
    (ho : o.op = .call { callee := .builtin .append, args := #[s, x], argTypes := #[26, 26] })
    {B : Nat} {v : Value} {l : List T} (hs : a.eval s = v) (h : Row w B v l) (hB : B ≤ w.heap.size) (hl : l.length ≤ 100000) (t : T) (k : Value) (ht : Tree w (fun b => B ≤ b ∧ some b ≠ v.ownBlock) t k)
    (ad : Addr) (c : Nat) (hx : a.eval x = .slice (some ad) 1 c) (hc : ∀ (j : Nat) u, (nodeC t k)[j]? = some u → w.cell? (ad.add j) = some u)
    (hk : ∀ v' w', Row w' B v' (l ++ [t]) → w.grownBy w' v.ownBlock → B ≤ w'.heap.size → wpList Try.prog ops Q rest (a.put o.dst v') w') : wpList Try.prog ops Q (o :: rest) a w := by
  obtain ⟨v', w', hr, h2, h3, h4⟩ := row_push h hB hl t k ht o.type ad c hc
  refine wpList_plain hgd fun _ hK => ?_
  unfold Oper.wp execOp
  simp only [ho, resolve, invoke, builtin, Sem.run_bind, Sem.run_pure, Result.andThen_ok, List.map_toArray, List.map_cons, List.map_nil, hs, hx, hr]
  exact hK _ _ (hk v' w' h2 h3 h4)

set_option maxHeartbeats 400000 in
theorem one_p (p : Nat → Bool) (w : World) :
    Calls Try.prog 46 #[.agg #[.int .u64 (word p 0), .int .u64 (word p 1), .int .u64 (word p 2), .int .u64 (word p 3)]] w fun e w' => e = .returned (nodeV (.one p) (.slice none 0 0)) ∧ Below w.heap.size w w' := by
  go_enter Try.func46, Try.ntmps46
  go_wp2
  refine bodyPost_ret (v := nodeV (.one p) (.slice none 0 0)) ?_ rfl ⟨rfl, ((Below.refl _ _).alloc (Nat.le_refl _) _).alloc (by simp) _⟩
  simp [nodeV, T.one, T.op, T.set, T.lo, T.hi, results, Try.results46, go_sem]

/-- A node is told, in new memory. -/
def RetMany (w : World) (B : Nat) (t : T) (e : Ending) (w' : World) : Prop := ∃ k, e = .returned (nodeV t k) ∧ Tree w' (fun b => B ≤ b) t k ∧ Below w.heap.size w w'

set_option maxHeartbeats 1000000 in
theorem many_p (w : World) (B : Nat) (op : Int) (v : Value) (l : List T) (h : Row w B v l) (h0 : 0 < l.length) :
    Calls Try.prog 24 #[.int .i64 op, v] w (RetMany w B (T.many op l)) := by
  have ht := h.tree h0 op noneP 0 0
  have hh := h
  obtain ⟨ks, h1, h2, h3⟩ := h
  obtain ⟨g, cap, rfl, hB, hg⟩ := h2.form h0
  by_cases hl : l.length = 1
  · obtain ⟨t, rfl⟩ : ∃ t, l = [t] := by
      match l, hl with
      | [t], _ => exact ⟨t, rfl⟩
    obtain ⟨k, rfl⟩ : ∃ k, ks = [k] := by
      match ks, h1 with
      | [k], _ => exact ⟨k, rfl⟩
    have hk := h3 0 t k rfl rfl
    obtain ⟨A, m, c, rfl⟩ := hk.form
    have c0 : w.cell? ⟨g, 0, none⟩ = some (.int .i64 t.op) := h2.cellAt 0 (by simp)
    have c1 : w.cell? ⟨g, 1, none⟩ = some (.int .u64 (word t.set 0)) := h2.cellAt 1 (by simp)
    have c2 : w.cell? ⟨g, 2, none⟩ = some (.int .u64 (word t.set 1)) := h2.cellAt 2 (by simp)
    have c3 : w.cell? ⟨g, 3, none⟩ = some (.int .u64 (word t.set 2)) := h2.cellAt 3 (by simp)
    have c4 : w.cell? ⟨g, 4, none⟩ = some (.int .u64 (word t.set 3)) := h2.cellAt 4 (by simp)
    have c5 : w.cell? ⟨g, 5, none⟩ = some (.int .i64 t.lo) := h2.cellAt 5 (by simp)
    have c6 : w.cell? ⟨g, 6, none⟩ = some (.int .i64 t.hi) := h2.cellAt 6 (by simp)
    have c7 : w.cell? ⟨g, 7, none⟩ = some (.slice A m c) := h2.cellAt 7 (by simp)
    clear h1 h2 h3 hh hl h0 ht
    show Calls Try.prog 24 #[.int .i64 op, .slice (some ⟨g, 0, none⟩) 1 cap] w (RetMany w B t)
    go_enter Try.func24, Try.ntmps24
    go_wp2
    refine bodyPost_ret (v := nodeV t (.slice A m c)) ?_ rfl ⟨_, rfl, ?_, ?_⟩
    · simp [nodeV, results, Try.results24, go_sem]
    · exact (hk.weak fun b hb _ => hb.1).stays ((Below.refl _ _).alloc (Nat.le_refl _) _)
    · exact (Below.refl _ _).alloc (Nat.le_refl _) _
  · have e : T.many op l = .mk op noneP 0 0 l := by
      unfold T.many
      match l, hl with
      | [], _ => rfl
      | _ :: _ :: _, _ => rfl
    rw [e]
    clear e
    have hl' : ((l.length : Int) == 1) = false := by simp; omega
    have hl2 : (l.length == 1) = false := by simp [hl]
    generalize l.length = n at *
    clear h1 h2 h3 hh hl h0
    go_enter Try.func24, Try.ntmps24
    go_wp2
    refine bodyPost_ret (v := nodeV (.mk op noneP 0 0 l) (.slice (some ⟨g, 0, none⟩) n cap)) ?_ rfl ⟨_, rfl, ?_, ?_⟩
    · simp [nodeV, T.op, T.set, T.lo, T.hi, word_none, results, Try.results24, go_sem]
    · exact ht.stays ((Below.refl _ _).alloc (Nat.le_refl _) _)
    · exact (Below.refl _ _).alloc (Nat.le_refl _) _

end Go.Proofs.Ytpiieonlbfhbaaa
