/-
  append of one list of numbers onto another one. Laws for other texts; no statement of its own.
-/
import Derived.Test.YtoigllolilibhaaInts
import Derived.Test.YtoigllolilibhaaKept
set_option linter.unusedVariables false
set_option linter.unusedSimpArgs false
namespace Go.Proofs.Ytoigllolilibhaa
open Go Go.RowKit

section
variable {w w' : World} {B C : Nat} {v u : Value} {l m : List Int}
theorem Ints.form3 (h : Ints w B v l) : ∃ A n c, v = .slice A n c := by obtain ⟨A, c, e⟩ := h.form; exact ⟨A, _, c, e⟩
theorem Ints.block (h : Ints w B v l) (hb : ∀ b, v.ownBlock = some b → b < w.heap.size → w'.heap[b]? = w.heap[b]?) : Ints w' B v l := own_block h hb
theorem Ints.off {Q : Nat → Prop} (h : Ints w B v l) (hk : Kept Q w w') (hq : ∀ b, v.ownBlock = some b → ¬ Q b) : Ints w' B v l := h.block fun b e hb => hk.block b hb (hq b e)
theorem Ints.low (h : Ints w B v l) (hC : C ≤ B) : Ints w C v l := own_lower h hC
theorem Ints.high (h : Ints w B v l) (hb : ∀ b, v.ownBlock = some b → C ≤ b) : Ints w C v l := own_raise h hb
theorem Ints.in (h : Ints w B v l) {b : Nat} (hb : v.ownBlock = some b) : B ≤ b ∧ b < w.heap.size := World.ownsRow.lt h b hb
theorem Ints.kind (h : Ints w B v l) {b : Nat} (hb : v.ownBlock = some b) : ∃ cur, w.heap[b]? = some (.cells cur 3 (0, 0)) := own_kind h hb
/-- As append asks for what it appends. -/
theorem Ints.news (h : Ints w B v l) : ∃ A c, v = .slice A l.length c ∧ (A = none → l.length = 0) ∧ ∀ ad, A = some ad → ∀ j u, (l.map (Value.int .i64))[j]? = some u → w.cell? (ad.add j) = some u := by
  rcases h.2 with ⟨rfl, h0⟩ | ⟨g, cap, cur, rfl, hB, hg, _⟩
  · exact ⟨none, 0, by rw [h0], fun _ => h0, fun ad e => by cases e⟩
  · refine ⟨_, cap, rfl, (fun e => by cases e), fun ad e j u hu => ?_⟩
    injection e with e
    subst e
    exact World.ownsRow.cells h rfl j u hu
theorem ints_one (l : List Int) : ∀ u ∈ l.map (Value.int .i64), u.oneCell' = true := by
  intro u hu
  simp only [List.mem_map] at hu
  obtain ⟨x, _, rfl⟩ := hu
  rfl
/-- append of one list onto another one. -/
theorem run_ints (ty : TypeId) (h : Ints w B v l) (hu : Ints w C u m) (hl : l.length + m.length ≤ 100000) (hB : B ≤ w.heap.size) :
    ∃ v' w', (Builtin.append_ #[59, 59] ty #[v, u]).run Try.prog w = .ok v' w' ∧ Ints w' B v' (l ++ m) ∧ w.grownBy w' v.ownBlock ∧ (v'.ownBlock = v.ownBlock ∨ v'.ownBlock = some w.heap.size) := by
  obtain ⟨i0, hi, hz0, hz1, hz2⟩ := info_parts Try.infoInt
  obtain ⟨A, c, rfl, hn, hc⟩ := hu.news
  unfold Ints at h ⊢
  rw [List.length_append, List.map_append]
  cases A with
  | none =>
    have hm := hn rfl
    have hm' : m = [] := List.eq_nil_of_length_eq_zero hm
    subst hm'
    refine ⟨v, w, ?_, by simpa using h, ⟨rfl, rfl, rfl, Nat.le_refl _, fun _ _ _ => rfl⟩, .inl rfl⟩
    rcases h.2 with ⟨rfl, h0⟩ | ⟨g, cap, cur, rfl, _, _, hnc, _⟩
    · simp [Builtin.append_, run_underlying Try.underlying59, sizeOf, typeInfo, hi, Builtin.lenOf, Builtin.firstCells]
    · simp [Builtin.append_, run_underlying Try.underlying59, sizeOf, typeInfo, hi, Builtin.lenOf, Builtin.firstCells, hnc, storeCells]
  | some ad =>
    obtain ⟨v', w', hr, h2, h3, _, h5⟩ := run_append_own_at (P := Try.prog) w B 59 ty 3 i0 (.int .i64 0) 1 8 Try.underlying59 hi hz0 hz1 hz2 rfl (by decide) v l.length _ h ad m.length c (m.map (Value.int .i64)) (by simp) (hc ad rfl) (ints_one m) (by unfold maxLen; omega) (by omega) hB
    exact ⟨v', w', hr, h2, h3, h5⟩
variable {o : Oper} {a : Act}
theorem wp_ints {K : Act → World → Prop} {Q : Exit → Act → World → Prop} (s x : Operand) (ho : o.op = .call { callee := .builtin .append, args := #[s, x], argTypes := #[59, 59] })
    (hs : a.eval s = v) (hx : a.eval x = u) (h : Ints w B v l) (hu : Ints w C u m) (hl : l.length + m.length ≤ 100000) (hB : B ≤ w.heap.size)
    (hK : ∀ v' w', Ints w' B v' (l ++ m) → w.grownBy w' v.ownBlock → (v'.ownBlock = v.ownBlock ∨ v'.ownBlock = some w.heap.size) → K (a.put o.dst v') w') : o.wp Try.prog a w K Q := by
  obtain ⟨v', w', hr, h2, h3, h4⟩ := run_ints o.type h hu hl hB
  unfold Oper.wp execOp
  simp only [ho, resolve, invoke, builtin, Sem.run_bind, Sem.run_pure, Result.andThen_ok, List.map_toArray, List.map_cons, List.map_nil, hs, hx, hr]
  exact hK v' w' h2 h3 h4
theorem wpList_ints {ops : Array Oper} {rest : List Oper} {Q : Exit → Act → World → Prop} (hgd : o.guard = none) (s x : Operand) (ho : o.op = .call { callee := .builtin .append, args := #[s, x], argTypes := #[59, 59] })
    (hs : a.eval s = v) (hx : a.eval x = u) (h : Ints w B v l) (hu : Ints w C u m) (hl : l.length + m.length ≤ 100000) (hB : B ≤ w.heap.size)
    (hK : ∀ v' w', Ints w' B v' (l ++ m) → w.grownBy w' v.ownBlock → (v'.ownBlock = v.ownBlock ∨ v'.ownBlock = some w.heap.size) → wpList Try.prog ops Q rest (a.put o.dst v') w') : wpList Try.prog ops Q (o :: rest) a w :=
  wpList_plain hgd fun _ hK' => wp_ints s x ho hs hx h hu hl hB fun v' w' h2 h3 h4 => hK' _ _ (hK v' w' h2 h3 h4)
theorem step_ints {ops : Array Oper} {K : Act → World → Prop} {Q : Exit → Act → World → Prop} {E : Prop} (hgd : o.guard = none) (s x : Operand) (ho : o.op = .call { callee := .builtin .append, args := #[s, x], argTypes := #[59, 59] })
    (hs : a.eval s = v) (hx : a.eval x = u) (h : Ints w B v l) (hu : Ints w C u m) (hl : l.length + m.length ≤ 100000) (hB : B ≤ w.heap.size)
    (hK : ∀ v' w', Ints w' B v' (l ++ m) → w.grownBy w' v.ownBlock → (v'.ownBlock = v.ownBlock ∨ v'.ownBlock = some w.heap.size) → K (a.put o.dst v') w') : if Region.wanted o (yielded ops a.tmps) = true then Oper.wp Try.prog o a w K Q else E := by
  have hw : Region.wanted o (yielded ops a.tmps) = true := by simp [Region.wanted, hgd]
  rw [if_pos hw]
  exact wp_ints s x ho hs hx h hu hl hB hK
end

end Go.Proofs.Ytoigllolilibhaa
