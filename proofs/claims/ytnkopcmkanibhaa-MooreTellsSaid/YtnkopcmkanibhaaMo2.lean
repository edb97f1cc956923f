/-
  Several texts of this proof in one file: App2, StoRow, MooBox, Ints, IntsApp, RowsC. No statement of its own.
-/
import Derived.Test.YtnkopcmkanibhaaMo1
import Derived.Laws.Tables
import Derived.Laws.CopyOwn
import Derived.Deep.MidRow
import Derived.Laws.OwnMore
import Derived.Maps.AppendAt
import Derived.Deep.LoopGhost
set_option linter.unusedVariables false
set_option linter.unusedSimpArgs false

/-
  append onto a row that is there: where the new one lies, at a step of a region that draws its order; what blocks hold, through such a region. Laws for other texts; no statement of its own.
-/
namespace Go.Proofs.Ytnkopcmkanibhaa
open Go Go.RowKit

section
variable {P : Program} (w : World)
/-- As run_app, for a row that is there (its address some): where the new one lies. -/
theorem run_app2 (t ty : TypeId) (base : Nat) (e : TypeId) (i : TypeInfo) (z : Value) (size bytes : Nat) (ht : P.underlying t = some (.slice e)) (hi : P.info? e = some i) (hz : i.zero = some z)
    (hsize : i.size = size) (hby : i.bytes = bytes) (hzs : z.cells.size = size) (hsz : 0 < size)
    (g0 cap0 : Nat) (n : Nat) (xs : List Value) (hown : w.ownsRow base e size (.slice (some ⟨g0, 0, none⟩) n cap0) n xs)
    (A : Option Addr) (m c : Nat) (news : List Value) (hl : news.length = m * size) (hnil : A = none → m = 0) (hnews : ∀ ad, A = some ad → ∀ j u, news[j]? = some u → w.cell? (ad.add j) = some u) (h1 : ∀ u ∈ news, u.oneCell' = true)
    (h63 : n + m ≤ maxLen) (hbytes : (n + m) * bytes ≤ 140737488355328) (hbase : base ≤ w.heap.size) :
    ∃ g cap w', (Builtin.append_ #[t, t] ty #[.slice (some ⟨g0, 0, none⟩) n cap0, .slice A m c]).run P w = .ok (.slice (some ⟨g, 0, none⟩) (n + m) cap) w' ∧ w'.ownsRow base e size (.slice (some ⟨g, 0, none⟩) (n + m) cap) (n + m) (xs ++ news) ∧ w.grownBy w' (some g0) ∧ (g = g0 ∨ g = w.heap.size) ∧ g < w'.heap.size := by
  cases A with
  | none =>
    have hm := hnil rfl
    subst hm
    have hn : news = [] := List.eq_nil_of_length_eq_zero (by simpa using hl)
    subst hn
    have hlt := (hown.lt g0 rfl).2
    refine ⟨g0, cap0, w, ?_, by simpa using hown, ⟨rfl, rfl, rfl, Nat.le_refl _, fun _ _ _ => rfl⟩, .inl rfl, hlt⟩
    rcases hown.2 with ⟨h, _⟩ | ⟨g, cap, cur, h, _, _, hnc, _⟩
    · cases h
    · cases h
      simp [Builtin.append_, run_underlying ht, sizeOf, typeInfo, hi, Builtin.lenOf, Builtin.firstCells, hnc, storeCells]
  | some ad =>
    obtain ⟨v', w', hr, h2, h3, h4, h5⟩ := run_append_own_at (P := P) w base t ty e i z size bytes ht hi hz hsize hby hzs hsz _ n xs hown ad m c news hl (hnews ad rfl) h1 h63 hbytes hbase
    rcases h2.2 with ⟨rfl, _⟩ | ⟨g, cap, cur, rfl, _, _, hnc, _⟩
    · have := (h4.1 rfl).1
      cases this
    · exact ⟨g, cap, w', hr, h2, h3, by simpa [Value.ownBlock] using h5, (h2.lt g rfl).2⟩
theorem step_app2 {ops : Array Oper} {o : Oper} {a : Act} {K : Act → World → Prop} {Q : Exit → Act → World → Prop} {E : Prop} (hgd : o.guard = none) (s x : Operand) (t : TypeId)
    (ho : o.op = .call { callee := .builtin .append, args := #[s, x], argTypes := #[t, t] })
    (base : Nat) (e : TypeId) (i : TypeInfo) (z : Value) (size bytes : Nat) (ht : P.underlying t = some (.slice e)) (hi : P.info? e = some i) (hz : i.zero = some z)
    (hsize : i.size = size) (hby : i.bytes = bytes) (hzs : z.cells.size = size) (hsz : 0 < size)
    (g0 cap0 : Nat) (n : Nat) (xs : List Value) (hs : a.eval s = .slice (some ⟨g0, 0, none⟩) n cap0) (hown : w.ownsRow base e size (.slice (some ⟨g0, 0, none⟩) n cap0) n xs)
    (A : Option Addr) (m c : Nat) (news : List Value) (hx : a.eval x = .slice A m c) (hl : news.length = m * size) (hnil : A = none → m = 0) (hnews : ∀ ad, A = some ad → ∀ j u, news[j]? = some u → w.cell? (ad.add j) = some u) (h1 : ∀ u ∈ news, u.oneCell' = true)
    (h63 : n + m ≤ maxLen) (hbytes : (n + m) * bytes ≤ 140737488355328) (hbase : base ≤ w.heap.size)
    (h : ∀ g cap w', w'.ownsRow base e size (.slice (some ⟨g, 0, none⟩) (n + m) cap) (n + m) (xs ++ news) → w.grownBy w' (some g0) → (g = g0 ∨ g = w.heap.size) → g < w'.heap.size → K (a.put o.dst (.slice (some ⟨g, 0, none⟩) (n + m) cap)) w') :
    if Region.wanted o (yielded ops a.tmps) = true then Oper.wp P o a w K Q else E := by
  have hw : Region.wanted o (yielded ops a.tmps) = true := by simp [Region.wanted, hgd]
  rw [if_pos hw]
  obtain ⟨g, cap, w', hr, h2, h3, h4, h5⟩ := run_app2 (P := P) w t o.type base e i z size bytes ht hi hz hsize hby hzs hsz g0 cap0 n xs hown A m c news hl hnil hnews h1 h63 hbytes hbase
  unfold Oper.wp execOp
  simp only [ho, resolve, invoke, builtin, Sem.run_bind, Sem.run_pure, Result.andThen_ok, List.map_toArray, List.map_cons, List.map_nil, hs, hx, hr]
  exact h g cap w' h2 h3 h4 h5
end

/-- Block g holds o. -/
def HasO (w : World) (g : Nat) (o : Obj) : Prop := w.heap[g]? = some o
theorem has_new (w : World) (cs : Array Value) (t : TypeId) (g : Nat) (h : w.heap.size = g) : HasO (w.alloc (.cells cs t)) g (.cells cs t (0, 0)) := by
  subst h
  exact heap_alloc_new w _
theorem has_alloc {w : World} {g : Nat} {o : Obj} (o' : Obj) (h : HasO w g o) : HasO (w.alloc o') g o := (Below.heap_alloc w o' g (lt_of_some h)).trans h
theorem has_drew {w : World} {g : Nat} {o : Obj} (h : HasO w g o) : HasO w.drew g o := h
theorem has_grown {w w' : World} {g : Nat} {o : Obj} {row : Option Nat} (hg : w.grownBy w' row) (h : HasO w g o) (hne : some g ≠ row) : HasO w' g o := (hg.block g (lt_of_some h) hne).trans h
theorem has_below {w w' : World} {g : Nat} {o : Obj} (hb : Below w.heap.size w w') (h : HasO w g o) : HasO w' g o := (hb.block g (lt_of_some h)).trans h
theorem own_drew {w : World} {base e size n : Nat} {v : Value} {xs : List Value} (h : w.ownsRow base e size v n xs) : w.drew.ownsRow base e size v n xs := h

theorem has_stays {w w' : World} {g : Nat} {o : Obj} (h : HasO w g o) (hb : Below w.heap.size w w') : HasO w' g o := (hb.block g (lt_of_some h)).trans h
theorem below_al {B : Nat} {a w : World} (h : Below B a w) (hB : B = a.heap.size) (o : Obj) : Below B a (w.alloc o) := h.alloc (hB ▸ h.size) o
theorem cell_al {w : World} {a : Addr} {v : Value} (h : w.cell? a = some v) (o : Obj) : (w.alloc o).cell? a = some v := (World.cell?_of_block (Below.heap_alloc w o a.block (World.block_lt_of_cell? w a h))).trans h
theorem cell_dr {w : World} {a : Addr} {v : Value} (h : w.cell? a = some v) : w.drew.cell? a = some v := h
theorem below_dn {B : Nat} {a w : World} (h : Below B a w) (n : Nat) : Below B a (w.drewN n) := ⟨h.os, h.tape, h.output, h.size, h.block⟩
theorem has_setCell {w : World} {g : Nat} {o : Obj} {a : Addr} (u : Value) (h : HasO w g o) (hne : g = a.block → False) : HasO (w.setCell a u) g o := (Below.heap_setCell w a u g hne).trans h
theorem cell_st {w : World} {g o g' o' : Nat} {v : Value} (u : Value) (h : w.cell? ⟨g, o, none⟩ = some v) (hne : g ≠ g') : (w.setCell ⟨g', o', none⟩ u).cell? ⟨g, o, none⟩ = some v :=
  (World.cell?_of_block (w := w) (a := ⟨g, o, none⟩) (Below.heap_setCell w ⟨g', o', none⟩ u g hne)).trans h
end Go.Proofs.Ytnkopcmkanibhaa

/-
  A struct's whole value stored at once into its block, as one step of a walk: what is stored is named, no cell is opened. Laws for other texts; no statement of its own.
  In a walk: 'attribute [local go_sem ↓] run_stoE' ahead of it; a fact 'Sto ty w p v' for each world w in which the store may come up (sto_of); behind it the world reads 'stoW w p v' (cell_sto, below_sto, has_sto).
-/
namespace Go.Proofs.Ytnkopcmkanibhaa
open Go Go.RowKit

def stoW (w : World) (p v : Value) : World := match p, v with
  | .pointer (some a), .agg cs => w.setRow a.block cs
  | _, _ => w
def Sto (ty : TypeId) (w : World) (p v : Value) : Prop := (Instr.storeAt ty p v).run Try.prog w = .ok () (stoW w p v)
theorem sto_of {ty : TypeId} {w : World} {b : Nat} {cur cs : Array Value} {t : TypeId} (h : w.heap[b]? = some (.cells cur t (0, 0))) (hi : (Try.prog.info? ty).map (·.size) = some cs.size) (ho : cur.size = cs.size) (h1 : cs.all (·.oneCell') = true) :
    Sto ty w (.pointer (some ⟨b, 0, none⟩)) (.agg cs) := by
  unfold Sto stoW
  simp only [Instr.storeAt, Instr.sureAddr, Sem.run_bind, Sem.run_pure, Result.andThen_ok, run_storeVar_row w b t ty cur cs h hi ho h1]
theorem run_stoE {ρ : Operand → Value} {dst : Option Tmp} {x y : Operand} {t ty : TypeId} {pos : String} {after : Array Edge} {guard : Option (Nat × Bool)} {w : World} (h : Sto t w (ρ x) (ρ y)) :
    Sem.run Try.prog (execOp ρ { dst := dst, op := .store t x y, type := ty, pos := pos, after := after, guard := guard }) w = .ok .skip (stoW w (ρ x) (ρ y)) := by
  unfold Sto at h
  unfold execOp
  simp only [Sem.run_bind, Sem.run_pure, Result.andThen_ok, h]
theorem has_sto {w : World} {b : Nat} {old cs : Array Value} {t : TypeId} (h : w.heap[b]? = some (.cells old t (0, 0))) : (stoW w (.pointer (some ⟨b, 0, none⟩)) (.agg cs)).heap[b]? = some (.cells cs t (0, 0)) := setRow_heap w b old cs t (0, 0) h
theorem cell_sto {w : World} {g o b : Nat} {cs : Array Value} {v : Value} (h : w.cell? ⟨g, o, none⟩ = some v) (hne : g ≠ b) : (stoW w (.pointer (some ⟨b, 0, none⟩)) (.agg cs)).cell? ⟨g, o, none⟩ = some v := (cell_setRow_other w b cs ⟨g, o, none⟩ hne).trans h
theorem block_sto {w : World} {g b : Nat} {cs : Array Value} (hne : g ≠ b) : (stoW w (.pointer (some ⟨b, 0, none⟩)) (.agg cs)).heap[g]? = w.heap[g]? := setRow_other w b g cs hne
theorem below_sto {B : Nat} {w0 w : World} {b : Nat} {cs : Array Value} (h : Below B w0 w) (hb : B ≤ b) : Below B w0 (stoW w (.pointer (some ⟨b, 0, none⟩)) (.agg cs)) := below_setRow h hb cs
theorem size_sto {w : World} {b : Nat} {cs : Array Value} : (stoW w (.pointer (some ⟨b, 0, none⟩)) (.agg cs)).heap.size = w.heap.size := setRow_size w b cs
/-- .. into the middle of a row. -/
def stoM (w : World) (p v : Value) : World := match p, v with
  | .pointer (some a), .agg cs => w.setCells a.block a.off cs.toList
  | _, _ => w
def StoM (ty : TypeId) (w : World) (p v : Value) : Prop := (Instr.storeAt ty p v).run Try.prog w = .ok () (stoM w p v)
theorem stoM_of {ty : TypeId} {w : World} {b o : Nat} {cs : Array Value} (ht : w.there b o cs.size) (hi : (Try.prog.info? ty).map (·.size) = some cs.size) (h1 : cs.all (·.oneCell') = true) : StoM ty w (.pointer (some ⟨b, o, none⟩)) (.agg cs) := run_storeAt_mid w b o ty cs ht hi h1
theorem run_stoM {ρ : Operand → Value} {dst : Option Tmp} {x y : Operand} {t ty : TypeId} {pos : String} {after : Array Edge} {guard : Option (Nat × Bool)} {w : World} (h : StoM t w (ρ x) (ρ y)) :
    Sem.run Try.prog (execOp ρ { dst := dst, op := .store t x y, type := ty, pos := pos, after := after, guard := guard }) w = .ok .skip (stoM w (ρ x) (ρ y)) := by
  unfold StoM at h
  unfold execOp
  simp only [Sem.run_bind, Sem.run_pure, Result.andThen_ok, h]
/-- At the list of a plain region's operations. -/
theorem wpList_stoM {ops : Array Oper} {rest : List Oper} {o : Oper} {a : Act} {w : World} {Q : Exit → Act → World → Prop} (hgd : o.guard = none) {ty : TypeId} (x y : Operand) (ho : o.op = .store ty x y) {p v : Value} (h : StoM ty w p v)
    (hx : a.eval x = p) (hy : a.eval y = v) (hk : wpList Try.prog ops Q rest (a.put o.dst undef) (stoM w p v)) : wpList Try.prog ops Q (o :: rest) a w := by
  unfold StoM at h
  refine wpList_plain hgd fun _ hK => ?_
  unfold Oper.wp execOp
  simp only [ho, hx, hy, Sem.run_bind, Sem.run_pure, Result.andThen_ok, h]
  exact hK _ _ hk
end Go.Proofs.Ytnkopcmkanibhaa

/-
  A variable that is a machine of states (classes, how many, rows, what is told), in memory. Laws for other texts; no statement of its own.
-/
namespace Go.Proofs.Ytnkopcmkanibhaa
open Go Go.RowKit

/-- A machine's cells. -/
def machC (F : Nat → Nat) (n : Int) (vN vO : Value) : Array Value := arrV 256 F ++ #[.int .i64 n, vN, vO]
theorem machC_size (F : Nat → Nat) (n : Int) (vN vO : Value) : (machC F n vN vO).size = 259 := by simp [machC, arrV_size]
theorem machC_cls (F : Nat → Nat) (n : Int) (vN vO : Value) (j : Nat) (h : j < 256) : (machC F n vN vO)[j]? = some (.int .i64 (F j : Int)) := by
  unfold machC
  rw [Array.getElem?_append_left (by rw [arrV_size]; exact h), arrV_get 256 F j h]
theorem machC_rest (F : Nat → Nat) (n : Int) (vN vO : Value) (j : Nat) : (machC F n vN vO)[256 + j]? = (#[.int .i64 n, vN, vO] : Array Value)[j]? := by
  unfold machC
  rw [Array.getElem?_append_right (by rw [arrV_size]; omega), arrV_size, Nat.add_sub_cancel_left]
theorem machC_one {F : Nat → Nat} {n : Int} {vN vO : Value} (h1 : vN.oneCell' = true) (h2 : vO.oneCell' = true) : (machC F n vN vO).all (·.oneCell') = true := by
  rw [Array.all_eq_true_iff_forall_mem]
  intro v hv
  unfold machC at hv
  rw [Array.mem_append] at hv
  rcases hv with hv | hv
  · exact arrV_one 256 F v (by simpa using hv)
  · simp at hv
    rcases hv with rfl | rfl | rfl
    · rfl
    · exact h1
    · exact h2
/-- Block g is a variable of a machine, of type t. -/
def BoxM (w : World) (g : Nat) (t : TypeId) (F : Nat → Nat) (n : Int) (vN vO : Value) : Prop := w.heap[g]? = some (.cells (machC F n vN vO) t (0, 0))
theorem heap_setCells (b : Nat) (t : TypeId) : ∀ (vs : List Value) (o : Nat) (w : World) (cur : Array Value), w.heap[b]? = some (.cells cur t (0, 0)) → ∃ cur', (w.setCells b o vs).heap[b]? = some (.cells cur' t (0, 0)) ∧ cur'.size = cur.size ∧ ∀ j, j < cur.size → cur'[j]? = if o ≤ j ∧ j < o + vs.length then vs[j - o]? else cur[j]?
  | [], o, w, cur, h => ⟨cur, h, rfl, fun j hj => by rw [if_neg (by simp)]⟩
  | v :: vs, o, w, cur, h => by
    have h1 := heap_setCell_same w b o cur t v h
    obtain ⟨cur', h2, h3, h4⟩ := heap_setCells b t vs (o + 1) (w.setCell ⟨b, o, none⟩ v) _ h1
    refine ⟨cur', h2, by rw [h3]; simp, fun j hj => ?_⟩
    rw [h4 j (by simpa using hj)]
    by_cases e : j = o
    · subst e
      rw [if_neg (by omega), if_pos (by simp), Nat.sub_self]
      simp [hj]
    · by_cases e2 : o + 1 ≤ j ∧ j < o + 1 + vs.length
      · rw [if_pos e2, if_pos (by simp; omega)]
        obtain ⟨k, rfl⟩ : ∃ k, j = o + 1 + k := ⟨j - (o + 1), by omega⟩
        rw [show o + 1 + k - (o + 1) = k by omega, show o + 1 + k - o = k + 1 by omega]
        rfl
      · rw [if_neg e2, if_neg (by simp; omega), Array.getElem?_setIfInBounds_ne (fun e' => e e'.symm)]
theorem block_setCells (b : Nat) : ∀ (vs : List Value) (o : Nat) (w : World) (k : Nat), k ≠ b → (w.setCells b o vs).heap[k]? = w.heap[k]?
  | [], o, w, k, h => rfl
  | v :: vs, o, w, k, h => (block_setCells b vs (o + 1) _ k h).trans (Below.heap_setCell w ⟨b, o, none⟩ v k h)
theorem rest_setCells (b : Nat) : ∀ (vs : List Value) (o : Nat) (w : World), (w.setCells b o vs).os = w.os ∧ (w.setCells b o vs).tape = w.tape ∧ (w.setCells b o vs).output = w.output ∧ (w.setCells b o vs).heap.size = w.heap.size
  | [], o, w => ⟨rfl, rfl, rfl, rfl⟩
  | v :: vs, o, w => by
    obtain ⟨h1, h2, h3, h4⟩ := rest_setCells b vs (o + 1) (w.setCell ⟨b, o, none⟩ v)
    exact ⟨h1, h2, h3, by rw [show w.setCells b o (v :: vs) = (w.setCell ⟨b, o, none⟩ v).setCells b (o + 1) vs from rfl, h4]; simp [World.setCell]⟩
theorem kept_setCells {Q : Nat → Prop} {w w' : World} (h : Kept Q w w') {b : Nat} (hb : Q b ∨ w.heap.size ≤ b) (vs : List Value) (o : Nat) : Kept Q w (w'.setCells b o vs) := by
  obtain ⟨h1, h2, h3, h4⟩ := rest_setCells b vs o w'
  refine ⟨h1.trans h.os, h2.trans h.tape, h3.trans h.output, by rw [h4]; exact h.size, fun k hk hn => ?_⟩
  rw [block_setCells b vs o w' k fun e => by subst e; exact hb.elim hn fun x => by omega]
  exact h.block k hk hn
section
variable {w w' : World} {g B : Nat} {t : TypeId} {F G : Nat → Nat} {n m : Int} {vN vO v : Value}
theorem BoxM.lt (h : BoxM w g t F n vN vO) : g < w.heap.size := lt_of_some h
theorem BoxM.stays (h : BoxM w g t F n vN vO) (hb : Below w.heap.size w w') : BoxM w' g t F n vN vO := (hb.block g h.lt).trans h
theorem BoxM.kept {Q : Nat → Prop} (h : BoxM w g t F n vN vO) (hk : Kept Q w w') (hq : ¬ Q g) : BoxM w' g t F n vN vO := (hk.block g h.lt hq).trans h
theorem BoxM.new (w : World) (t : TypeId) (F : Nat → Nat) (n : Int) (vN vO : Value) : BoxM (w.alloc (.cells (machC F n vN vO) t)) w.heap.size t F n vN vO := heap_alloc_new w _
theorem BoxM.cls (h : BoxM w g t F n vN vO) (j : Nat) (hj : j < 256) : w.cell? ⟨g, j, none⟩ = some (.int .i64 (F j : Int)) := by rw [cell_of_row w g j _ t (0, 0) h]; exact machC_cls F n vN vO j hj
theorem BoxM.num (h : BoxM w g t F n vN vO) : w.cell? ⟨g, 256, none⟩ = some (.int .i64 n) := by rw [cell_of_row w g 256 _ t (0, 0) h]; exact machC_rest F n vN vO 0
theorem BoxM.nxt (h : BoxM w g t F n vN vO) : w.cell? ⟨g, 257, none⟩ = some vN := by rw [cell_of_row w g 257 _ t (0, 0) h]; exact machC_rest F n vN vO 1
theorem BoxM.out (h : BoxM w g t F n vN vO) : w.cell? ⟨g, 258, none⟩ = some vO := by rw [cell_of_row w g 258 _ t (0, 0) h]; exact machC_rest F n vN vO 2
theorem BoxM.frozen (h : BoxM w g t F n vN vO) (j : Nat) : w.frozen? ⟨g, j, none⟩ = false := by
  unfold BoxM at h
  simp [World.frozen?, h]
theorem BoxM.there (h : BoxM w g t F n vN vO) (o k : Nat) (hk : o + k ≤ 259) : w.there g o k := fun j hj => by
  refine ⟨?_, h.frozen _⟩
  rw [cell_of_row w g (o + j) _ t (0, 0) h, Array.getElem?_eq_getElem (by rw [machC_size]; omega)]
  rfl
theorem BoxM.whole (h : BoxM w g t F n vN vO) : w.rangeAt g 0 (machC F n vN vO).toList := fun j v hv => by
  rw [Nat.zero_add, cell_of_row w g j _ t (0, 0) h]
  simpa using hv
theorem BoxM.range (h : BoxM w g t F n vN vO) : w.rangeAt g 0 (arrV 256 F).toList := fun j v hv => by
  have hj : j < 256 := by have := (List.getElem?_eq_some_iff.1 hv).1; simpa [arrV_size] using this
  rw [Nat.zero_add, h.cls j hj, ← hv, Array.getElem?_toList, arrV_get 256 F j hj]
/-- Two rows of cells that read alike are one. -/
theorem mach_ext {cur : Array Value} (hs : cur.size = 259) (h : ∀ j, j < 259 → cur[j]? = (machC F n vN vO)[j]?) : cur = machC F n vN vO := by
  apply Array.ext_getElem?
  intro j
  by_cases e : j < 259
  · exact h j e
  · rw [Array.getElem?_eq_none (by omega), Array.getElem?_eq_none (by rw [machC_size]; omega)]
theorem mach_cases {j : Nat} (h : j < 259) : j < 256 ∨ j = 256 ∨ j = 257 ∨ j = 258 := by omega
theorem BoxM.laid (h : BoxM w g t F n vN vO) (G : Nat → Nat) : BoxM (w.setCells g 0 (arrV 256 G).toList) g t G n vN vO := by
  obtain ⟨cur', h1, h2, h3⟩ := heap_setCells g t (arrV 256 G).toList 0 w _ h
  rw [machC_size] at h2 h3
  have : cur' = machC G n vN vO := mach_ext h2 fun j hj => by
    rw [h3 j hj]
    rcases mach_cases hj with e | rfl | rfl | rfl
    · rw [if_pos (by simp [arrV_size]; exact e), Nat.sub_zero, Array.getElem?_toList, arrV_get 256 G j e, machC_cls G n vN vO j e]
    · rw [if_neg (by simp [arrV_size])]
      exact (machC_rest F n vN vO 0).trans (machC_rest G n vN vO 0).symm
    · rw [if_neg (by simp [arrV_size])]
      exact (machC_rest F n vN vO 1).trans (machC_rest G n vN vO 1).symm
    · rw [if_neg (by simp [arrV_size])]
      exact (machC_rest F n vN vO 2).trans (machC_rest G n vN vO 2).symm
  subst this
  exact h1
theorem BoxM.one (h : BoxM w g t F n vN vO) (j : Nat) (v : Value) {n' : Int} {vN' vO' : Value} (hc : ∀ i, i < 259 → (if i = j then some v else (machC F n vN vO)[i]?) = (machC F n' vN' vO')[i]?) (hj : j < 259) : BoxM (w.setCell ⟨g, j, none⟩ v) g t F n' vN' vO' := by
  have h1 := heap_setCell_same w g j _ t v h
  have : (machC F n vN vO).setIfInBounds j v = machC F n' vN' vO' := mach_ext (by simp [machC_size]) fun i hi => by
    rw [← hc i hi]
    by_cases e : i = j
    · subst e
      rw [if_pos rfl, Array.getElem?_setIfInBounds_self]
      simp [machC_size, hi]
    · rw [if_neg e, Array.getElem?_setIfInBounds_ne (fun e' => e e'.symm)]
  rw [this] at h1
  exact h1
theorem BoxM.setNum (h : BoxM w g t F n vN vO) (m : Int) : BoxM (w.setCell ⟨g, 256, none⟩ (.int .i64 m)) g t F m vN vO := h.one 256 _ (fun i hi => by
  rcases mach_cases hi with e | rfl | rfl | rfl
  · rw [if_neg (by omega), machC_cls _ _ _ _ i e, machC_cls _ _ _ _ i e]
  · rw [if_pos rfl]; exact (machC_rest F m vN vO 0).symm
  · rw [if_neg (by omega)]; exact (machC_rest F n vN vO 1).trans (machC_rest F m vN vO 1).symm
  · rw [if_neg (by omega)]; exact (machC_rest F n vN vO 2).trans (machC_rest F m vN vO 2).symm) (by omega)
theorem BoxM.setNxt (h : BoxM w g t F n vN vO) (v : Value) : BoxM (w.setCell ⟨g, 257, none⟩ v) g t F n v vO := h.one 257 _ (fun i hi => by
  rcases mach_cases hi with e | rfl | rfl | rfl
  · rw [if_neg (by omega), machC_cls _ _ _ _ i e, machC_cls _ _ _ _ i e]
  · rw [if_neg (by omega)]; exact (machC_rest F n vN vO 0).trans (machC_rest F n v vO 0).symm
  · rw [if_pos rfl]; exact (machC_rest F n v vO 1).symm
  · rw [if_neg (by omega)]; exact (machC_rest F n vN vO 2).trans (machC_rest F n v vO 2).symm) (by omega)
theorem BoxM.setOut (h : BoxM w g t F n vN vO) (v : Value) : BoxM (w.setCell ⟨g, 258, none⟩ v) g t F n vN v := h.one 258 _ (fun i hi => by
  rcases mach_cases hi with e | rfl | rfl | rfl
  · rw [if_neg (by omega), machC_cls _ _ _ _ i e, machC_cls _ _ _ _ i e]
  · rw [if_neg (by omega)]; exact (machC_rest F n vN vO 0).trans (machC_rest F n vN v 0).symm
  · rw [if_neg (by omega)]; exact (machC_rest F n vN vO 1).trans (machC_rest F n vN v 1).symm
  · rw [if_pos rfl]; exact (machC_rest F n vN v 2).symm) (by omega)
end
end Go.Proofs.Ytnkopcmkanibhaa

/-
  Lists of numbers in memory of one's own. Laws for other texts; no statement of its own.
-/
namespace Go.Proofs.Ytnkopcmkanibhaa
open Go Go.RowKit

theorem Try.infoInt : (Try.prog.info? 3).map (fun i => (i.zero, i.size, i.bytes)) = some (some (.int .i64 0), 1, 8) := by kernel_rfl

/-- A list of numbers in memory of one's own. -/
def Ints (w : World) (B : Nat) (v : Value) (l : List Int) : Prop := w.ownsRow B 3 1 v l.length (l.map (Value.int .i64))
section
variable {w w' : World} {B : Nat} {v : Value} {l : List Int}
theorem Ints.nil (w : World) (B : Nat) : Ints w B (.slice none 0 0) [] := World.ownsRow_nil w B _ 1
theorem Ints.stays (h : Ints w B v l) (hb : Below w.heap.size w w') : Ints w' B v l := own_stays h hb
theorem Ints.alloc (h : Ints w B v l) (o : Obj) : Ints (w.alloc o) B v l := h.stays ((Below.refl _ _).alloc (Nat.le_refl _) _)
theorem Ints.kept {row : Option Nat} (h : Ints w B v l) (hg : w.grownBy w' row) (hr : ∀ g, v.ownBlock = some g → row ≠ some g) : Ints w' B v l := by
  refine World.ownsRow.kept h hg ?_
  cases e : v.ownBlock with
  | none => exact .inl rfl
  | some g => exact .inr fun e' => hr g e e'.symm
theorem Ints.form (h : Ints w B v l) : ∃ A c, v = .slice A l.length c := by
  rcases h.2 with ⟨rfl, h0⟩ | ⟨g, cap, cur, rfl, _⟩
  · exact ⟨none, 0, by rw [h0]⟩
  · exact ⟨_, _, rfl⟩
theorem Ints.at (h : Ints w B v l) (j : Nat) (hj : j < l.length) : ∃ g c, v = .slice (some ⟨g, 0, none⟩) l.length c ∧ B ≤ g ∧ g < w.heap.size ∧ w.cell? ⟨g, j, none⟩ = some (.int .i64 (l[j]'hj)) := by
  rcases h.2 with ⟨rfl, h0⟩ | ⟨g, cap, cur, rfl, hB, hg, _⟩
  · omega
  · refine ⟨g, cap, rfl, hB, lt_of_some hg, ?_⟩
    rw [World.ownsRow.cellAt h j (by omega)]
    simp [hj]
end
end Go.Proofs.Ytnkopcmkanibhaa

/-
  append of one list of numbers onto another one. Laws for other texts; no statement of its own.
-/
namespace Go.Proofs.Ytnkopcmkanibhaa
open Go Go.RowKit

section
variable {w w' : World} {B C : Nat} {v u : Value} {l m : List Int}
theorem Ints.form3 (h : Ints w B v l) : ∃ A n c, v = .slice A n c := by obtain ⟨A, c, e⟩ := h.form; exact ⟨A, _, c, e⟩
theorem Ints.block (h : Ints w B v l) (hb : ∀ b, v.ownBlock = some b → b < w.heap.size → w'.heap[b]? = w.heap[b]?) : Ints w' B v l := own_block h hb
theorem Ints.off {Q : Nat → Prop} (h : Ints w B v l) (hk : Kept Q w w') (hq : ∀ b, v.ownBlock = some b → ¬ Q b) : Ints w' B v l := h.block fun b e hb => hk.block b hb (hq b e)
theorem Ints.low (h : Ints w B v l) (hC : C ≤ B) : Ints w C v l := own_lower h hC
theorem Ints.high (h : Ints w B v l) (hb : ∀ b, v.ownBlock = some b → C ≤ b) : Ints w C v l := own_raise h hb
theorem Ints.in (h : Ints w B v l) {b : Nat} (hb : v.ownBlock = some b) : B ≤ b ∧ b < w.heap.size := World.ownsRow.lt h b hb
theorem Ints.kind (h : Ints w B v l) {b : Nat} (hb : v.ownBlock = some b) : ∃ cur, w.heap[b]? = some (.cells cur 3 (0, 0)) := own_kind h hb
/-- As append asks for what it appends. -/
theorem Ints.news (h : Ints w B v l) : ∃ A c, v = .slice A l.length c ∧ (A = none → l.length = 0) ∧ ∀ ad, A = some ad → ∀ j u, (l.map (Value.int .i64))[j]? = some u → w.cell? (ad.add j) = some u := by
  rcases h.2 with ⟨rfl, h0⟩ | ⟨g, cap, cur, rfl, hB, hg, _⟩
  · exact ⟨none, 0, by rw [h0], fun _ => h0, fun ad e => by cases e⟩
  · refine ⟨_, cap, rfl, (fun e => by cases e), fun ad e j u hu => ?_⟩
    injection e with e
    subst e
    exact World.ownsRow.cells h rfl j u hu
theorem ints_one (l : List Int) : ∀ u ∈ l.map (Value.int .i64), u.oneCell' = true := by
  intro u hu
  simp only [List.mem_map] at hu
  obtain ⟨x, _, rfl⟩ := hu
  rfl
/-- append of one list onto another one. -/
theorem run_ints (ty : TypeId) (h : Ints w B v l) (hu : Ints w C u m) (hl : l.length + m.length ≤ 100000) (hB : B ≤ w.heap.size) :
    ∃ v' w', (Builtin.append_ #[59, 59] ty #[v, u]).run Try.prog w = .ok v' w' ∧ Ints w' B v' (l ++ m) ∧ w.grownBy w' v.ownBlock ∧ (v'.ownBlock = v.ownBlock ∨ v'.ownBlock = some w.heap.size) := by
  obtain ⟨i0, hi, hz0, hz1, hz2⟩ := info_parts Try.infoInt
  obtain ⟨A, c, rfl, hn, hc⟩ := hu.news
  unfold Ints at h ⊢
  rw [List.length_append, List.map_append]
  cases A with
  | none =>
    have hm := hn rfl
    have hm' : m = [] := List.eq_nil_of_length_eq_zero hm
    subst hm'
    refine ⟨v, w, ?_, by simpa using h, ⟨rfl, rfl, rfl, Nat.le_refl _, fun _ _ _ => rfl⟩, .inl rfl⟩
    rcases h.2 with ⟨rfl, h0⟩ | ⟨g, cap, cur, rfl, _, _, hnc, _⟩
    · simp [Builtin.append_, run_underlying Try.underlying59, sizeOf, typeInfo, hi, Builtin.lenOf, Builtin.firstCells]
    · simp [Builtin.append_, run_underlying Try.underlying59, sizeOf, typeInfo, hi, Builtin.lenOf, Builtin.firstCells, hnc, storeCells]
  | some ad =>
    obtain ⟨v', w', hr, h2, h3, _, h5⟩ := run_append_own_at (P := Try.prog) w B 59 ty 3 i0 (.int .i64 0) 1 8 Try.underlying59 hi hz0 hz1 hz2 rfl (by decide) v l.length _ h ad m.length c (m.map (Value.int .i64)) (by simp) (hc ad rfl) (ints_one m) (by unfold maxLen; omega) (by omega) hB
    exact ⟨v', w', hr, h2, h3, h5⟩
variable {o : Oper} {a : Act}
theorem wp_ints {K : Act → World → Prop} {Q : Exit → Act → World → Prop} (s x : Operand) (ho : o.op = .call { callee := .builtin .append, args := #[s, x], argTypes := #[59, 59] })
    (hs : a.eval s = v) (hx : a.eval x = u) (h : Ints w B v l) (hu : Ints w C u m) (hl : l.length + m.length ≤ 100000) (hB : B ≤ w.heap.size)
    (hK : ∀ v' w', Ints w' B v' (l ++ m) → w.grownBy w' v.ownBlock → (v'.ownBlock = v.ownBlock ∨ v'.ownBlock = some w.heap.size) → K (a.put o.dst v') w') : o.wp Try.prog a w K Q := by
  obtain ⟨v', w', hr, h2, h3, h4⟩ := run_ints o.type h hu hl hB
  unfold Oper.wp execOp
  simp only [ho, resolve, invoke, builtin, Sem.run_bind, Sem.run_pure, Result.andThen_ok, List.map_toArray, List.map_cons, List.map_nil, hs, hx, hr]
  exact hK v' w' h2 h3 h4
theorem wpList_ints {ops : Array Oper} {rest : List Oper} {Q : Exit → Act → World → Prop} (hgd : o.guard = none) (s x : Operand) (ho : o.op = .call { callee := .builtin .append, args := #[s, x], argTypes := #[59, 59] })
    (hs : a.eval s = v) (hx : a.eval x = u) (h : Ints w B v l) (hu : Ints w C u m) (hl : l.length + m.length ≤ 100000) (hB : B ≤ w.heap.size)
    (hK : ∀ v' w', Ints w' B v' (l ++ m) → w.grownBy w' v.ownBlock → (v'.ownBlock = v.ownBlock ∨ v'.ownBlock = some w.heap.size) → wpList Try.prog ops Q rest (a.put o.dst v') w') : wpList Try.prog ops Q (o :: rest) a w :=
  wpList_plain hgd fun _ hK' => wp_ints s x ho hs hx h hu hl hB fun v' w' h2 h3 h4 => hK' _ _ (hK v' w' h2 h3 h4)
theorem step_ints {ops : Array Oper} {K : Act → World → Prop} {Q : Exit → Act → World → Prop} {E : Prop} (hgd : o.guard = none) (s x : Operand) (ho : o.op = .call { callee := .builtin .append, args := #[s, x], argTypes := #[59, 59] })
    (hs : a.eval s = v) (hx : a.eval x = u) (h : Ints w B v l) (hu : Ints w C u m) (hl : l.length + m.length ≤ 100000) (hB : B ≤ w.heap.size)
    (hK : ∀ v' w', Ints w' B v' (l ++ m) → w.grownBy w' v.ownBlock → (v'.ownBlock = v.ownBlock ∨ v'.ownBlock = some w.heap.size) → K (a.put o.dst v') w') : if Region.wanted o (yielded ops a.tmps) = true then Oper.wp Try.prog o a w K Q else E := by
  have hw : Region.wanted o (yielded ops a.tmps) = true := by simp [Region.wanted, hgd]
  rw [if_pos hw]
  exact wp_ints s x ho hs hx h hu hl hB hK
end

end Go.Proofs.Ytnkopcmkanibhaa

/-
  Lists of places, rows of such lists, the cells of a row of sets. Laws for other texts; no statement of its own.
-/
namespace Go.Proofs.Ytnkopcmkanibhaa
open Go Go.RowKit

def ns (l : List Nat) : List Int := l.map Int.ofNat
theorem ns_len (l : List Nat) : (ns l).length = l.length := by simp [ns]
theorem ns_app (l m : List Nat) : ns (l ++ m) = ns l ++ ns m := by simp [ns]

/-- Lists of places, each in memory of its own, in blocks of Q. -/
structure FolAt (w : World) (B : Nat) (fs : List Value) (ls : List (List Nat)) (Q : Nat → Prop) : Prop where
  len : fs.length = ls.length
  get : ∀ (i : Nat) v l, fs[i]? = some v → ls[i]? = some l → Ints w B v (ns l)
  inQ : ∀ (i : Nat) v b, fs[i]? = some v → v.ownBlock = some b → Q b
  apart : ∀ (i j : Nat) v v' b, fs[i]? = some v → fs[j]? = some v' → v.ownBlock = some b → v'.ownBlock = some b → i = j
/-- The cells of a row of sets. -/
def setsC (l : List (Nat → Bool)) : List Value := l.flatMap fun p => [.int .u64 (word p 0), .int .u64 (word p 1), .int .u64 (word p 2), .int .u64 (word p 3)]
theorem setsC_len (l : List (Nat → Bool)) : (setsC l).length = l.length * 4 := by
  induction l with
  | nil => rfl
  | cons p l ih => simp only [setsC, List.flatMap_cons, List.length_append, List.length_cons, List.length_nil] at ih ⊢; omega
theorem setsC_snoc (l : List (Nat → Bool)) (q : Nat → Bool) : setsC l ++ [.int .u64 (word q 0), .int .u64 (word q 1), .int .u64 (word q 2), .int .u64 (word q 3)] = setsC (l ++ [q]) := by simp [setsC]
theorem setsC_get : ∀ (l : List (Nat → Bool)) (k q : Nat) (hk : k < l.length), q < 4 → (setsC l)[k * 4 + q]? = some (.int .u64 (word (l[k]'hk) q))
  | [], k, q, hk, _ => by simp at hk
  | p :: l, 0, q, _, hq => by
    match q, hq with
    | 0, _ => rfl
    | 1, _ => rfl
    | 2, _ => rfl
    | 3, _ => rfl
  | p :: l, k + 1, q, hk, hq => by
    have ih := setsC_get l k q (by simpa using hk) hq
    have e : (k + 1) * 4 + q = 4 + (k * 4 + q) := by omega
    rw [e]
    show ([.int .u64 (word p 0), .int .u64 (word p 1), .int .u64 (word p 2), .int .u64 (word p 3)] ++ setsC l)[4 + (k * 4 + q)]? = _
    rw [List.getElem?_append_right (by simp)]
    simpa using ih
end Go.Proofs.Ytnkopcmkanibhaa
