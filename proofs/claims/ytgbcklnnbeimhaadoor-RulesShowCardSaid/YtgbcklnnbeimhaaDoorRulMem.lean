/-
  Rules as text in memory: rows of them that are read, and that grow; rows of texts that grow. Laws for other texts; no statement of its own.
-/
import Derived.Test.YtgbcklnnbeimhaaDoorRulMath
import Derived.Test.YtgbcklnnbeimhaaDoorRdStr
import Derived.Test.YtgbcklnnbeimhaaDoorKept
import Derived.Laws.OwnMore
import Derived.Maps.AppendAt
import Derived.Deep.LoopGhost
import Derived.Deep.MidRow
set_option linter.unusedVariables false
set_option linter.unusedSimpArgs false
namespace Go.Proofs.YtgbcklnnbeimhaaDoor
open Go Go.RowKit

def ruC (x : Ru) : List Value := [.string x.name, .string x.pat, .bool x.luhn]
def ruV (x : Ru) : Value := .agg #[.string x.name, .string x.pat, .bool x.luhn]
def ruL : List Ru → List Value
  | [] => []
  | x :: l => ruC x ++ ruL l
theorem ruL_app : ∀ (a b : List Ru), ruL (a ++ b) = ruL a ++ ruL b
  | [], b => rfl
  | x :: a, b => by rw [List.cons_append, ruL, ruL, ruL_app a b, List.append_assoc]
theorem ruL_len : ∀ l : List Ru, (ruL l).length = 3 * l.length
  | [] => rfl
  | x :: l => by rw [ruL, List.length_append, ruL_len l, List.length_cons]; simp [ruC]; omega
theorem ruL_get : ∀ (l : List Ru) (i q : Nat) (x : Ru), l[i]? = some x → q < 3 → (ruL l)[i * 3 + q]? = (ruC x)[q]?
  | [], i, q, x, h, hq => by simp at h
  | y :: l, 0, q, x, h, hq => by
    simp at h
    subst h
    rw [ruL, List.getElem?_append_left (by simp [ruC]; omega)]
    simp
  | y :: l, i + 1, q, x, h, hq => by
    rw [ruL, List.getElem?_append_right (by simp [ruC]; omega), show (i + 1) * 3 + q - (ruC y).length = i * 3 + q by simp [ruC]; omega]
    exact ruL_get l i q x (by simpa using h) hq

/-- Rules that are read. -/
def RdRu (w : World) (A : Option Addr) (l : List Ru) : Prop :=
  ∀ i x, l[i]? = some x → ∃ g off, A = some ⟨g, off, none⟩ ∧ g < w.heap.size ∧ w.cell? ⟨g, off + i * 3, none⟩ = some (.string x.name) ∧ w.cell? ⟨g, off + i * 3 + 1, none⟩ = some (.string x.pat) ∧ w.cell? ⟨g, off + i * 3 + 2, none⟩ = some (.bool x.luhn)
/-- A row of rules of one's own, that grows. -/
def RuRow (w : World) (B : Nat) (v : Value) (l : List Ru) : Prop := w.ownsRow B 35 3 v l.length (ruL l)
/-- A row of texts of one's own, that grows. -/
def StrRow (w : World) (B : Nat) (v : Value) (l : List ByteArray) : Prop := w.ownsRow B 9 1 v l.length (l.map Value.string)
section
variable {w w' : World} {B : Nat} {v : Value} {l : List Ru} {s : List ByteArray} {A : Option Addr}
theorem RdRu.stays (h : RdRu w A l) (hb : Below w.heap.size w w') : RdRu w' A l := fun i x e => by
  obtain ⟨g, off, h1, h2, h3, h4, h5⟩ := h i x e
  exact ⟨g, off, h1, Nat.lt_of_lt_of_le h2 hb.size, cell_stays h3 hb, cell_stays h4 hb, cell_stays h5 hb⟩
theorem RdRu.drewN (h : RdRu w A l) (n : Nat) : RdRu (w.drewN n) A l := h
theorem RdRu.nil (w : World) (A : Option Addr) : RdRu w A [] := fun i x h => by simp at h
theorem RuRow.nil (w : World) (B : Nat) : RuRow w B (.slice none 0 0) [] := World.ownsRow_nil w B _ 3
theorem RuRow.form (h : RuRow w B v l) : ∃ A c, v = .slice A l.length c := by
  rcases h.2 with ⟨rfl, h0⟩ | ⟨g, cap, cur, rfl, _⟩
  · exact ⟨none, 0, by rw [h0]⟩
  · exact ⟨_, _, rfl⟩
theorem RuRow.stays (h : RuRow w B v l) (hb : Below w.heap.size w w') : RuRow w' B v l := own_stays h hb
theorem RuRow.low {C : Nat} (h : RuRow w B v l) (hC : C ≤ B) : RuRow w C v l := own_lower h hC
theorem RuRow.in (h : RuRow w B v l) : ∀ b, v.ownBlock = some b → B ≤ b ∧ b < w.heap.size := fun b e => World.ownsRow.lt h b e
theorem RuRow.rd {n c : Nat} (h : RuRow w B (.slice A n c) l) : RdRu w A l := fun i x hi => by
  have hl : i < l.length := (List.getElem?_eq_some_iff.1 hi).1
  rcases h.2 with ⟨e, e0⟩ | ⟨g, cap', cur, e, hB, hg, _⟩
  · injection e with e1 e2 e3
    have : l.length = 0 := e0
    omega
  · have e' := e
    injection e with e1 e2 e3
    subst e1 e2
    have key : ∀ q, q < 3 → w.cell? ⟨g, i * 3 + q, none⟩ = (ruC x)[q]? := fun q hq => by
      rw [World.ownsRow.cellAt h (i * 3 + q) (by omega), ruL_get l i q x hi hq]
    refine ⟨g, 0, rfl, lt_of_some hg, ?_, ?_, ?_⟩
    · rw [show 0 + i * 3 = i * 3 + 0 by omega]; exact key 0 (by omega)
    · rw [show 0 + i * 3 + 1 = i * 3 + 1 by omega]; exact key 1 (by omega)
    · rw [show 0 + i * 3 + 2 = i * 3 + 2 by omega]; exact key 2 (by omega)
theorem StrRow.nil (w : World) (B : Nat) : StrRow w B (.slice none 0 0) [] := World.ownsRow_nil w B _ 1
theorem StrRow.form (h : StrRow w B v s) : ∃ A c, v = .slice A s.length c := by
  rcases h.2 with ⟨rfl, h0⟩ | ⟨g, cap, cur, rfl, _⟩
  · exact ⟨none, 0, by rw [h0]⟩
  · exact ⟨_, _, rfl⟩
theorem StrRow.stays (h : StrRow w B v s) (hb : Below w.heap.size w w') : StrRow w' B v s := own_stays h hb
theorem StrRow.in (h : StrRow w B v s) : ∀ b, v.ownBlock = some b → B ≤ b ∧ b < w.heap.size := fun b e => World.ownsRow.lt h b e
theorem StrRow.rd {n c : Nat} (h : StrRow w B (.slice A n c) s) : RdStr w A s := fun i x hi => by
  have hl : i < s.length := (List.getElem?_eq_some_iff.1 hi).1
  rcases h.2 with ⟨e, e0⟩ | ⟨g, cap', cur, e, hB, hg, _⟩
  · injection e with e1 e2 e3
    have : s.length = 0 := e0
    omega
  · injection e with e1 e2 e3
    subst e1 e2
    refine ⟨g, 0, rfl, lt_of_some hg, ?_⟩
    rw [Nat.zero_add, World.ownsRow.cellAt h i (by omega), List.getElem?_map, hi]
    rfl
end
/-- What Split lays is read. -/
theorem rd_laid (w : World) (l : List ByteArray) : RdStr (w.alloc (.cells (l.map Value.string).toArray 9)) (some ⟨w.heap.size, 0, none⟩) l := fun i s hi => by
  refine ⟨w.heap.size, 0, rfl, by simp, ?_⟩
  rw [cell_of_row _ w.heap.size (0 + i) _ 9 (0, 0) (heap_alloc_new w _)]
  simp [hi]
theorem infoRu : (Tryd.prog.info? 35).map (fun i => (i.zero, i.size, i.bytes)) = some (some (.agg #[.string ⟨#[]⟩, .string ⟨#[]⟩, .bool false]), 3, 40) := by kernel_rfl
theorem infoStr : (Tryd.prog.info? 9).map (fun i => (i.zero, i.size, i.bytes)) = some (some (.string ⟨#[]⟩), 1, 16) := by kernel_rfl
theorem ru_push {w : World} {B : Nat} {v : Value} {l : List Ru} (h : RuRow w B v l) (hB : B ≤ w.heap.size) (hl : l.length ≤ 100000) (x : Ru) (td : TypeId) (ad : Addr) (c : Nat)
    (hc : ∀ (j : Nat) u, (ruC x)[j]? = some u → w.cell? (ad.add j) = some u) :
    ∃ v' w', (Builtin.append_ #[23, 23] td #[v, .slice (some ad) 1 c]).run Tryd.prog w = .ok v' w' ∧ RuRow w' B v' (l ++ [x]) ∧ w.grownBy w' v.ownBlock ∧ (v'.ownBlock = v.ownBlock ∨ v'.ownBlock = some w.heap.size) := by
  obtain ⟨i0, hi, hz0, hz1, hz2⟩ := info_parts infoRu
  obtain ⟨v', w', hr, h4, h5, _, h6⟩ := run_append_own_at (P := Tryd.prog) w B 23 td 35 i0 _ 3 40 Tryd.underlying23 hi hz0 hz1 hz2 rfl (by decide) v l.length (ruL l) h ad 1 c (ruC x) rfl hc
    (by
      intro u hu
      simp only [ruC, List.mem_cons, List.not_mem_nil, or_false] at hu
      rcases hu with rfl | rfl | rfl <;> rfl) (by unfold maxLen; omega) (by omega) hB
  refine ⟨v', w', hr, ?_, h5, h6⟩
  unfold RuRow
  rw [ruL_app, show ruL [x] = ruC x from by simp [ruL]]
  simpa using h4
theorem str_push {w : World} {B : Nat} {v : Value} {l : List ByteArray} (h : StrRow w B v l) (hB : B ≤ w.heap.size) (hl : l.length ≤ 100000) (x : ByteArray) (td : TypeId) (ad : Addr) (c : Nat)
    (hc : w.cell? ad = some (.string x)) :
    ∃ v' w', (Builtin.append_ #[44, 44] td #[v, .slice (some ad) 1 c]).run Tryd.prog w = .ok v' w' ∧ StrRow w' B v' (l ++ [x]) ∧ w.grownBy w' v.ownBlock ∧ (v'.ownBlock = v.ownBlock ∨ v'.ownBlock = some w.heap.size) := by
  obtain ⟨i0, hi, hz0, hz1, hz2⟩ := info_parts infoStr
  obtain ⟨v', w', hr, h4, h5, _, h6⟩ := run_append_own_at (P := Tryd.prog) w B 44 td 9 i0 _ 1 16 Tryd.underlying44 hi hz0 hz1 hz2 rfl (by decide) v l.length (l.map Value.string) h ad 1 c [.string x] rfl
    (by
      intro j u hu
      cases j with
      | zero => simp at hu; subst hu; have e : ad.add 0 = ad := (by unfold Addr.add; split <;> simp_all); rw [e]; exact hc
      | succ j => simp at hu)
    (by
      intro u hu
      simp at hu
      subst hu
      rfl) (by unfold maxLen; omega) (by omega) hB
  refine ⟨v', w', hr, ?_, h5, h6⟩
  unfold StrRow
  rw [List.map_append]
  simpa using h4
theorem wpList_ru {w : World} {ops : Array Oper} {rest : List Oper} {o : Oper} {a : Act} {Q : Exit → Act → World → Prop} (hgd : o.guard = none) (s x : Operand)
    (ho : o.op = .call { callee := .builtin .append, args := #[s, x], argTypes := #[23, 23] })
    {B : Nat} {v : Value} {l : List Ru} (hs : a.eval s = v) (h : RuRow w B v l) (hB : B ≤ w.heap.size) (hl : l.length ≤ 100000) (y : Ru)
    (ad : Addr) (c : Nat) (hx : a.eval x = .slice (some ad) 1 c) (hc : ∀ (j : Nat) u, (ruC y)[j]? = some u → w.cell? (ad.add j) = some u)
    (hk : ∀ v' w', RuRow w' B v' (l ++ [y]) → w.grownBy w' v.ownBlock → (v'.ownBlock = v.ownBlock ∨ v'.ownBlock = some w.heap.size) → wpList Tryd.prog ops Q rest (a.put o.dst v') w') : wpList Tryd.prog ops Q (o :: rest) a w := by
  obtain ⟨v', w', hr, h2, h3, h4⟩ := ru_push h hB hl y o.type ad c hc
  refine wpList_plain hgd fun _ hK => ?_
  unfold Oper.wp execOp
  simp only [ho, resolve, invoke, builtin, Sem.run_bind, Sem.run_pure, Result.andThen_ok, List.map_toArray, List.map_cons, List.map_nil, hs, hx, hr]
  exact hK _ _ (hk v' w' h2 h3 h4)
theorem wpList_str {w : World} {ops : Array Oper} {rest : List Oper} {o : Oper} {a : Act} {Q : Exit → Act → World → Prop} (hgd : o.guard = none) (s x : Operand)
    (ho : o.op = .call { callee := .builtin .append, args := #[s, x], argTypes := #[44, 44] })
    {B : Nat} {v : Value} {l : List ByteArray} (hs : a.eval s = v) (h : StrRow w B v l) (hB : B ≤ w.heap.size) (hl : l.length ≤ 100000) (y : ByteArray)
    (ad : Addr) (c : Nat) (hx : a.eval x = .slice (some ad) 1 c) (hc : w.cell? ad = some (.string y))
    (hk : ∀ v' w', StrRow w' B v' (l ++ [y]) → w.grownBy w' v.ownBlock → (v'.ownBlock = v.ownBlock ∨ v'.ownBlock = some w.heap.size) → wpList Tryd.prog ops Q rest (a.put o.dst v') w') : wpList Tryd.prog ops Q (o :: rest) a w := by
  obtain ⟨v', w', hr, h2, h3, h4⟩ := str_push h hB hl y o.type ad c hc
  refine wpList_plain hgd fun _ hK => ?_
  unfold Oper.wp execOp
  simp only [ho, resolve, invoke, builtin, Sem.run_bind, Sem.run_pure, Result.andThen_ok, List.map_toArray, List.map_cons, List.map_nil, hs, hx, hr]
  exact hK _ _ (hk v' w' h2 h3 h4)

theorem below_drN {B : Nat} {a w : World} (h : Below B a w) (n : Nat) : Below B a (w.drewN n) := ⟨h.os, h.tape, h.output, h.size, h.block⟩
def ruA (x : Ru) : Array Value := #[.string x.name, .string x.pat, .bool x.luhn]
/-- A variable that is a rule. -/
def RB (w : World) (g : Nat) (x : Ru) : Prop := w.heap[g]? = some (.cells #[.string x.name, .string x.pat, .bool x.luhn] 35 (0, 0))
section
variable {w w' : World} {g : Nat} {x : Ru}
theorem RB.lt (h : RB w g x) : g < w.heap.size := lt_of_some h
theorem RB.stays (h : RB w g x) (hb : Below w.heap.size w w') : RB w' g x := (hb.block g h.lt).trans h
theorem RB.drewN (h : RB w g x) (n : Nat) : RB (w.drewN n) g x := h
theorem RB.new (w : World) (x : Ru) : RB (w.alloc (.cells #[.string x.name, .string x.pat, .bool x.luhn] 35)) w.heap.size x := heap_alloc_new w _
theorem RB.cell (h : RB w g x) : w.cell? ⟨g, 0, none⟩ = some (.string x.name) ∧ w.cell? ⟨g, 1, none⟩ = some (.string x.pat) ∧ w.cell? ⟨g, 2, none⟩ = some (.bool x.luhn) :=
  ⟨cell_of_row w g 0 _ _ (0, 0) h, cell_of_row w g 1 _ _ (0, 0) h, cell_of_row w g 2 _ _ (0, 0) h⟩
theorem RB.frozen (h : RB w g x) (j : Nat) : w.frozen? ⟨g, j, none⟩ = false := by
  unfold RB at h
  simp [World.frozen?, h]
theorem RB.put (h : RB w g x) (a b : ByteArray) (c : Bool) : RB (((w.setCell ⟨g, 0, none⟩ (.string a)).setCell ⟨g, 1, none⟩ (.string b)).setCell ⟨g, 2, none⟩ (.bool c)) g ⟨a, b, c⟩ :=
  heap_setCell_same _ g 2 _ 35 _ (heap_setCell_same _ g 1 _ 35 _ (heap_setCell_same w g 0 _ 35 _ h))
theorem run_loadRu (h : RB w g x) : (loadVar 35 ⟨g, 0, none⟩).run Tryd.prog w = .ok (ruV x) w := by
  have := run_loadVar_mid (P := Tryd.prog) w g 0 35 (ruC x) _ (fun j v hv => by
    rw [Nat.zero_add, cell_of_row w g j _ 35 (0, 0) h]
    simpa [ruC] using hv) Tryd.underlying35 rfl (by kernel_rfl)
  simpa [ruC, ruV] using this
theorem results_ru {fn : Func} {tmps : Array Value} {y z : Nat} {v : Value} (hr : fn.results = #[.cell y 35, .tmp z]) (hy : tmps.getD y undef = .pointer (some ⟨g, 0, none⟩)) (hz : tmps.getD z undef = v) (h : RB w g x) :
    (results fn tmps).run Tryd.prog w = .ok (.tuple #[ruV x, v]) w := by
  have e : (#[ResultVar.cell y 35, .tmp z] : Array ResultVar) = [ResultVar.cell y 35, .tmp z].toArray := rfl
  rw [Array.getD_eq_getD_getElem?] at hy hz
  unfold results
  rw [hr, e]
  simp [Sem.run_bind, hy, hz, run_loadRu h, asAddr]
end
end Go.Proofs.YtgbcklnnbeimhaaDoor
