/-
  Rows of bytes of one's own, and append onto them. Laws for other texts; no statement of its own.
-/
import Derived.Test.YtoigllolilibhaaKept
import Derived.Maps.AppendAt
import Derived.Laws.OwnMore
set_option linter.unusedVariables false
set_option linter.unusedSimpArgs false
namespace Go.Proofs.Ytoigllolilibhaa
open Go Go.RowKit

theorem Try.infoB : (Try.prog.info? 5).map (fun i => (i.zero, i.size, i.bytes)) = some (some (.int .u8 0), 1, 1) := by kernel_rfl
/-- A row of bytes in memory of one's own. -/
def Bys (w : World) (B : Nat) (v : Value) (l : List Int) : Prop := w.ownsRow B 5 1 v l.length (l.map (Value.int .u8))
section
variable {w w' : World} {B C D : Nat} {v : Value} {l m : List Int} {A : Option Addr}
theorem Bys.stays (h : Bys w B v l) (hb : Below w.heap.size w w') : Bys w' B v l := own_stays h hb
theorem Bys.alloc (h : Bys w B v l) (o : Obj) : Bys (w.alloc o) B v l := h.stays ((Below.refl _ _).alloc (Nat.le_refl _) _)
theorem Bys.drew (h : Bys w B v l) : Bys w.drew B v l := h
theorem Bys.kept {row : Option Nat} (h : Bys w B v l) (hg : w.grownBy w' row) (hr : ∀ g, v.ownBlock = some g → row = some g → False) : Bys w' B v l := by
  refine World.ownsRow.kept h hg ?_
  cases e : v.ownBlock with
  | none => exact .inl rfl
  | some g => exact .inr fun e' => hr g e e'.symm
theorem Bys.low (h : Bys w B v l) (hC : C ≤ B) : Bys w C v l := own_lower h hC
theorem Bys.form (h : Bys w B v l) : ∃ A c, v = .slice A l.length c := by
  rcases h.2 with ⟨rfl, h0⟩ | ⟨g, cap, cur, rfl, _⟩
  · exact ⟨none, 0, by rw [h0]⟩
  · exact ⟨_, _, rfl⟩
theorem Bys.in (h : Bys w B v l) {b : Nat} (hb : v.ownBlock = some b) : B ≤ b ∧ b < w.heap.size := World.ownsRow.lt h b hb
theorem Bys.rd (h : Bys w B v l) : ∃ A c, v = .slice A l.length c ∧ RdB w w.heap.size A l := by
  obtain ⟨A, c, e, _, hr, _⟩ := rd_own h
  exact ⟨A, c, e, hr⟩
theorem Bys.pos (h : Bys w B v l) (h0 : 0 < l.length) : ∃ g c, v = .slice (some ⟨g, 0, none⟩) l.length c ∧ B ≤ g ∧ g < w.heap.size := by
  rcases h.2 with ⟨rfl, h1⟩ | ⟨g, cap, cur, rfl, hB, hg, _⟩
  · omega
  · exact ⟨g, cap, rfl, hB, lt_of_some hg⟩
theorem Bys.store {g n c : Nat} (h : Bys w B (.slice (some ⟨g, 0, none⟩) n c) l) (j : Nat) (y : Int) : Bys (w.setCell ⟨g, j, none⟩ (.int .u8 y)) B (.slice (some ⟨g, 0, none⟩) n c) (l.set j y) := by
  have hn : n = l.length := by obtain ⟨A, c', e⟩ := h.form; injection e
  subst hn
  have h1 := (World.ownsRow.stored h j (.int .u8 y)).1
  unfold Bys
  rw [List.length_set, List.map_set]
  exact h1
theorem Bys.frozen {g n c : Nat} (h : Bys w B (.slice (some ⟨g, 0, none⟩) n c) l) (j : Nat) : w.frozen? ⟨g, j, none⟩ = false := by
  have hn : n = l.length := by obtain ⟨A, c', e⟩ := h.form; injection e
  subst hn
  exact World.ownsRow.frozenAt h j
theorem Bys.rdAt {n c : Nat} (h : Bys w B (.slice A n c) l) : RdB w w.heap.size A l := by
  obtain ⟨A', c', e, hr⟩ := h.rd
  injection e with e
  subst e
  exact hr
theorem Bys.cell {g n c : Nat} (h : Bys w B (.slice (some ⟨g, 0, none⟩) n c) l) (j : Nat) (hj : j < l.length) : w.cell? ⟨g, j, none⟩ = some (.int .u8 (l.getD j 0)) := by
  obtain ⟨b, off, e, _, hc⟩ := h.rdAt j hj
  injection e with e
  injection e with e1 e2
  subst e1 e2
  rwa [Nat.zero_add] at hc
theorem Bys.empty (w : World) (hB : B ≤ w.heap.size) : Bys (w.alloc (.cells #[] 5)) B (.slice (some ⟨w.heap.size, 0, none⟩) 0 0) [] :=
  ⟨by simp, .inr ⟨w.heap.size, 0, #[], rfl, hB, heap_alloc_new w _, Nat.le_refl _, by decide, by simp, rfl⟩⟩
theorem Bys.one (w : World) (hB : B ≤ w.heap.size) (x : Int) : Bys (w.alloc (.cells #[.int .u8 x] 5)) B (.slice (some ⟨w.heap.size, 0, none⟩) 1 1) [x] :=
  ⟨by simp, .inr ⟨w.heap.size, 1, #[.int .u8 x], rfl, hB, heap_alloc_new w _, Nat.le_refl _, by decide, by simp, rfl⟩⟩
theorem Bys.emptyAt {g : Nat} (hg : w.heap.size = g) (hB : B ≤ g) : Bys (w.alloc (.cells #[] 5)) B (.slice (some ⟨g, 0, none⟩) 0 0) [] := by
  subst hg
  exact Bys.empty w hB
theorem Bys.oneAt {g : Nat} (x : Int) (hg : w.heap.size = g) (hB : B ≤ g) : Bys (w.alloc (.cells #[.int .u8 x] 5)) B (.slice (some ⟨g, 0, none⟩) 1 1) [x] := by
  subst hg
  exact Bys.one w hB x
theorem bys_one (l : List Int) : ∀ u ∈ l.map (Value.int .u8), u.oneCell' = true := by
  intro u hu
  simp only [List.mem_map] at hu
  obtain ⟨x, _, rfl⟩ := hu
  rfl
theorem RdB.news (h : RdB w C A m) : ∀ ad, A = some ad → ∀ j u, (m.map (Value.int .u8))[j]? = some u → w.cell? (ad.add j) = some u := by
  intro ad hA j u hu
  rcases Nat.lt_or_ge j m.length with hj | hj
  · obtain ⟨b, off, e, _, hc⟩ := h j hj
    rw [hA] at e
    injection e with e
    subst e
    rw [Addr.add_lit, hc, ← hu]
    simp [hj]
  · rw [List.getElem?_eq_none (by simpa using hj)] at hu
    cases hu
theorem RdB.nil0 (h : RdB w C A m) (hA : A = none) : m.length = 0 := by
  rcases Nat.eq_zero_or_pos m.length with h0 | h0
  · exact h0
  · obtain ⟨b, off, e, _⟩ := h 0 h0
    rw [hA] at e
    cases e
/-- append of bytes onto a row. -/
theorem run_bys (ty : TypeId) (cap : Nat) {k : Nat} (hk : k = m.length) (h : Bys w B v l) (hr : RdB w C A m) (hl : l.length + m.length ≤ 1000000) (hB : B ≤ w.heap.size) :
    ∃ v' w', (Builtin.append_ #[24, 24] ty #[v, .slice A k cap]).run Try.prog w = .ok v' w' ∧ Bys w' B v' (l ++ m) ∧ w.grownBy w' v.ownBlock ∧ (v'.ownBlock = v.ownBlock ∨ v'.ownBlock = some w.heap.size) := by
  subst hk
  obtain ⟨i0, hi, hz0, hz1, hz2⟩ := info_parts Try.infoB
  unfold Bys at h ⊢
  rw [List.length_append, List.map_append]
  cases A with
  | none =>
    have hm := hr.nil0 rfl
    have hm' : m = [] := List.eq_nil_of_length_eq_zero hm
    subst hm'
    refine ⟨v, w, ?_, by simpa using h, ⟨rfl, rfl, rfl, Nat.le_refl _, fun _ _ _ => rfl⟩, .inl rfl⟩
    rcases h.2 with ⟨rfl, h0⟩ | ⟨g, cap, cur, rfl, _, _, hnc, _⟩
    · simp [Builtin.append_, run_underlying Try.underlying24, sizeOf, typeInfo, hi, Builtin.lenOf, Builtin.firstCells]
    · simp [Builtin.append_, run_underlying Try.underlying24, sizeOf, typeInfo, hi, Builtin.lenOf, Builtin.firstCells, hnc, storeCells]
  | some ad =>
    obtain ⟨v', w', hr', h2, h3, _, h5⟩ := run_append_own_at (P := Try.prog) w B 24 ty 5 i0 (.int .u8 0) 1 1 Try.underlying24 hi hz0 hz1 hz2 rfl (by decide) v l.length _ h ad m.length cap (m.map (Value.int .u8)) (by simp) (hr.news ad rfl) (bys_one m) (by unfold maxLen; omega) (by omega) hB
    exact ⟨v', w', hr', h2, h3, h5⟩
variable {o : Oper} {a : Act} {cap k : Nat}
theorem wp_bys {K : Act → World → Prop} {Q : Exit → Act → World → Prop} (s x : Operand) (ho : o.op = .call { callee := .builtin .append, args := #[s, x], argTypes := #[24, 24] })
    (hs : a.eval s = v) (hx : a.eval x = .slice A k cap) (hk : k = m.length) (h : Bys w B v l) (hr : RdB w C A m) (hl : l.length + m.length ≤ 1000000) (hB : B ≤ w.heap.size)
    (hK : ∀ v' w', Bys w' B v' (l ++ m) → w.grownBy w' v.ownBlock → (v'.ownBlock = v.ownBlock ∨ v'.ownBlock = some w.heap.size) → K (a.put o.dst v') w') : o.wp Try.prog a w K Q := by
  obtain ⟨v', w', hr, h2, h3, h4⟩ := run_bys o.type cap hk h hr hl hB
  unfold Oper.wp execOp
  simp only [ho, resolve, invoke, builtin, Sem.run_bind, Sem.run_pure, Result.andThen_ok, List.map_toArray, List.map_cons, List.map_nil, hs, hx, hr]
  exact hK v' w' h2 h3 h4
theorem wpList_bys {ops : Array Oper} {rest : List Oper} {Q : Exit → Act → World → Prop} (hgd : o.guard = none) (s x : Operand) (ho : o.op = .call { callee := .builtin .append, args := #[s, x], argTypes := #[24, 24] })
    (hs : a.eval s = v) (hx : a.eval x = .slice A k cap) (hk : k = m.length) (h : Bys w B v l) (hr : RdB w C A m) (hl : l.length + m.length ≤ 1000000) (hB : B ≤ w.heap.size)
    (hK : ∀ v' w', Bys w' B v' (l ++ m) → w.grownBy w' v.ownBlock → (v'.ownBlock = v.ownBlock ∨ v'.ownBlock = some w.heap.size) → wpList Try.prog ops Q rest (a.put o.dst v') w') : wpList Try.prog ops Q (o :: rest) a w :=
  wpList_plain hgd fun _ hK' => wp_bys s x ho hs hx hk h hr hl hB fun v' w' h2 h3 h4 => hK' _ _ (hK v' w' h2 h3 h4)
theorem step_bys {ops : Array Oper} {K : Act → World → Prop} {Q : Exit → Act → World → Prop} {E : Prop} (hgd : o.guard = none) (s x : Operand) (ho : o.op = .call { callee := .builtin .append, args := #[s, x], argTypes := #[24, 24] })
    (hs : a.eval s = v) (hx : a.eval x = .slice A k cap) (hk : k = m.length) (h : Bys w B v l) (hr : RdB w C A m) (hl : l.length + m.length ≤ 1000000) (hB : B ≤ w.heap.size)
    (hK : ∀ v' w', Bys w' B v' (l ++ m) → w.grownBy w' v.ownBlock → (v'.ownBlock = v.ownBlock ∨ v'.ownBlock = some w.heap.size) → K (a.put o.dst v') w') : if Region.wanted o (yielded ops a.tmps) = true then Oper.wp Try.prog o a w K Q else E := by
  have hw : Region.wanted o (yielded ops a.tmps) = true := by simp [Region.wanted, hgd]
  rw [if_pos hw]
  exact wp_bys s x ho hs hx hk h hr hl hB hK
theorem RdB.take (h : RdB w C A m) (k : Nat) : RdB w C A (m.take k) := by
  intro j hj
  simp at hj
  obtain ⟨b, off, e, hb, hc⟩ := h j (by omega)
  refine ⟨b, off, e, hb, ?_⟩
  rw [hc]
  simp [List.getD_eq_getElem?_getD, List.getElem?_take_of_lt (show j < k by omega)]
theorem RdB.drop {b off : Nat} (h : RdB w C (some ⟨b, off, none⟩) m) (k : Nat) : RdB w C (some ⟨b, off + k, none⟩) (m.drop k) := by
  intro j hj
  simp at hj
  obtain ⟨b', off', e, hb, hc⟩ := h (k + j) (by omega)
  injection e with e
  injection e with e1 e2
  subst e1 e2
  refine ⟨b, off + k, rfl, hb, ?_⟩
  rw [show off + k + j = off + (k + j) by omega, hc]
  simp [List.getD_eq_getElem?_getD, List.getElem?_drop]
end
end Go.Proofs.Ytoigllolilibhaa
