/-
  Rows of instructions, of words of 64 bits, that are one's own and grow. Laws for other texts; no statement of its own.
-/
import Derived.Test.YthhgagghdeocoaaCtNew
import Derived.Test.YthhgagghdeocoaaCtRd
import Derived.Test.YthhgagghdeocoaaMacMath
set_option linter.unusedVariables false
set_option linter.unusedSimpArgs false
namespace Go.Proofs.Ythhgagghdeocoaa
open Go Go.RowKit

/-- Instructions of one's own. -/
def Inss (w : World) (B : Nat) (v : Value) (l : List Ins) : Prop := w.ownsRow B 68 6 v l.length (insL l)
/-- Words of 64 bits of one's own. -/
def W64 (w : World) (B : Nat) (v : Value) (l : List Int) : Prop := w.ownsRow B 49 1 v l.length (l.map (Value.int .u64))
section
variable {w w' : World} {B : Nat} {v : Value} {l m : List Ins} {o : List Int}
theorem Inss.form (h : Inss w B v l) : ∃ A c, v = .slice A l.length c := own_form h
theorem Inss.stays (h : Inss w B v l) (hb : Below w.heap.size w w') : Inss w' B v l := own_stays h hb
theorem Inss.low {C : Nat} (h : Inss w B v l) (hC : C ≤ B) : Inss w C v l := own_lower h hC
theorem Inss.in (h : Inss w B v l) : ∀ b, v.ownBlock = some b → B ≤ b ∧ b < w.heap.size := fun b e => World.ownsRow.lt h b e
theorem Inss.rd {A : Option Addr} {n c : Nat} (h : Inss w B (.slice A n c) l) : RdI w A l := by
  obtain ⟨A', c', e⟩ := h.form
  injection e with e1 e2 e3
  subst e1 e2 e3
  exact RdI.of_row h rfl
theorem inss_new (w : World) (cs : Array Value) (n C : Nat) (l : List Ins) (hcs : cs.toList = insL l) (hn : l.length = n) (hm : n ≤ 1000000) (hC : C ≤ w.heap.size) :
    Inss (w.alloc (.cells cs 68)) C (.slice (some ⟨w.heap.size, 0, none⟩) n n) l := by
  have h := World.ownsRow_lit (e := 68) (size := 6) w cs n hC (by unfold maxLen; omega) (by rw [← Array.length_toList, hcs, insL_len, hn])
  rw [hcs] at h
  subst hn
  exact h
theorem wpList_inss {w : World} {ops : Array Oper} {rest : List Oper} {o : Oper} {a : Act} {Q : Exit → Act → World → Prop} (hgd : o.guard = none) (s x : Operand)
    (ho : o.op = .call { callee := .builtin .append, args := #[s, x], argTypes := #[63, 63] }) {B B' : Nat} {v u : Value} {l m : List Ins} (hs : a.eval s = v) (h : Inss w B v l) (hx : a.eval x = u)
    (hm : Inss w B' u m) (hlen : l.length + m.length ≤ 1000000) (hB : B ≤ w.heap.size)
    (hk : ∀ v' w', Inss w' B v' (l ++ m) → w.grownBy w' v.ownBlock → wpList Try.prog ops Q rest (a.put o.dst v') w') : wpList Try.prog ops Q (o :: rest) a w := by
  obtain ⟨A, c, rfl⟩ := hm.form
  exact wpList_ins hgd s x ho hs h hx hm hlen hB hk
theorem W64.form (h : W64 w B v o) : ∃ A c, v = .slice A o.length c := own_form h
theorem W64.stays (h : W64 w B v o) (hb : Below w.heap.size w w') : W64 w' B v o := own_stays h hb
theorem W64.in (h : W64 w B v o) : ∀ b, v.ownBlock = some b → B ≤ b ∧ b < w.heap.size := fun b e => World.ownsRow.lt h b e
theorem W64.rd {A : Option Addr} {n c : Nat} (h : W64 w B (.slice A n c) o) : RdZ .u64 w A o := fun i hi => by
  rcases h.2 with ⟨e, e0⟩ | ⟨g, cap', cur, e, hB, hg, _⟩
  · injection e with e1 e2 e3
    have : o.length = 0 := e0
    omega
  · injection e with e1 e2 e3
    subst e1 e2
    refine ⟨g, 0, rfl, lt_of_some hg, ?_⟩
    rw [Nat.zero_add, World.ownsRow.cellAt h i (by omega)]
    simp [List.getD_eq_getElem?_getD, List.getElem?_eq_getElem hi]
end
theorem w64_push {w : World} {B : Nat} {v : Value} {l : List Int} (h : W64 w B v l) (hB : B ≤ w.heap.size) (hl : l.length ≤ 100000) (x : Int) (ty : TypeId) (ad : Addr) (c : Nat)
    (hc : w.cell? ad = some (.int .u64 x)) :
    ∃ v' w', (Builtin.append_ #[73, 73] ty #[v, .slice (some ad) 1 c]).run Try.prog w = .ok v' w' ∧ W64 w' B v' (l ++ [x]) ∧ w.grownBy w' v.ownBlock ∧ (v'.ownBlock = v.ownBlock ∨ v'.ownBlock = some w.heap.size) := by
  obtain ⟨i0, hi, hz0, hz1, hz2⟩ := infoWord
  obtain ⟨v', w', hr, h4, h5, _, h6⟩ := run_append_own_at (P := Try.prog) w B 73 ty 49 i0 _ 1 8 Try.underlying73 hi hz0 hz1 hz2 rfl (by decide) v l.length (l.map (Value.int .u64)) h ad 1 c [.int .u64 x] rfl
    (by
      intro j u hu
      cases j with
      | zero => simp at hu; subst hu; have e : ad.add 0 = ad := (by unfold Addr.add; split <;> simp_all); rw [e]; exact hc
      | succ j => simp at hu)
    (by
      intro u hu
      simp at hu
      subst hu
      rfl) (by unfold maxLen; omega) (by omega) hB
  refine ⟨v', w', hr, ?_, h5, h6⟩
  unfold W64
  rw [List.map_append]
  simpa using h4
theorem wpList_w64 {w : World} {ops : Array Oper} {rest : List Oper} {o : Oper} {a : Act} {Q : Exit → Act → World → Prop} (hgd : o.guard = none) (s x : Operand)
    (ho : o.op = .call { callee := .builtin .append, args := #[s, x], argTypes := #[73, 73] })
    {B : Nat} {v : Value} {l : List Int} (hs : a.eval s = v) (h : W64 w B v l) (hB : B ≤ w.heap.size) (hl : l.length ≤ 100000) (y : Int)
    (ad : Addr) (c : Nat) (hx : a.eval x = .slice (some ad) 1 c) (hc : w.cell? ad = some (.int .u64 y))
    (hk : ∀ v' w', W64 w' B v' (l ++ [y]) → w.grownBy w' v.ownBlock → (v'.ownBlock = v.ownBlock ∨ v'.ownBlock = some w.heap.size) → wpList Try.prog ops Q rest (a.put o.dst v') w') : wpList Try.prog ops Q (o :: rest) a w := by
  obtain ⟨v', w', hr, h2, h3, h4⟩ := w64_push h hB hl y o.type ad c hc
  refine wpList_plain hgd fun _ hK => ?_
  unfold Oper.wp execOp
  simp only [ho, resolve, invoke, builtin, Sem.run_bind, Sem.run_pure, Result.andThen_ok, List.map_toArray, List.map_cons, List.map_nil, hs, hx, hr]
  exact hK _ _ (hk v' w' h2 h3 h4)
end Go.Proofs.Ythhgagghdeocoaa
