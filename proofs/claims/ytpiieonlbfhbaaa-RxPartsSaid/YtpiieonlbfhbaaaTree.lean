/-
  Patterns in memory: a node as a value, and as eight cells; its kids; a row of kids that grows. Laws for other texts; no statement of its own.
-/
import Derived.Test.YtpiieonlbfhbaaaRxPure
import Derived.Test.YtpiieonlbfhbaaaApp
import Derived.Laws.OwnMore
set_option linter.unusedVariables false
set_option linter.unusedSimpArgs false
namespace Go.Proofs.Ytpiieonlbfhbaaa
open Go Go.RowKit

def T.op : T → Int | .mk op _ _ _ _ => op
def T.set : T → Nat → Bool | .mk _ p _ _ _ => p
def T.lo : T → Int | .mk _ _ lo _ _ => lo
def T.hi : T → Int | .mk _ _ _ hi _ => hi
def T.kids : T → List T | .mk _ _ _ _ l => l

/-- A node as a value, its kids' slice being k. -/
def nodeV (t : T) (k : Value) : Value := .agg #[.int .i64 t.op, .int .u64 (word t.set 0), .int .u64 (word t.set 1), .int .u64 (word t.set 2), .int .u64 (word t.set 3), .int .i64 t.lo, .int .i64 t.hi, k]
/-- Its cells. -/
def nodeC (t : T) (k : Value) : List Value := [.int .i64 t.op, .int .u64 (word t.set 0), .int .u64 (word t.set 1), .int .u64 (word t.set 2), .int .u64 (word t.set 3), .int .i64 t.lo, .int .i64 t.hi, k]
theorem nodeC_len (t : T) (k : Value) : (nodeC t k).length = 8 := rfl

def cellsOf : List T → List Value → List Value
  | t :: ts, k :: ks => nodeC t k ++ cellsOf ts ks
  | _, _ => []
theorem cellsOf_len : ∀ (l : List T) (ks : List Value), ks.length = l.length → (cellsOf l ks).length = l.length * 8
  | [], [], _ => rfl
  | t :: ts, k :: ks, h => by
    have := cellsOf_len ts ks (by simpa using h)
    simp [cellsOf, nodeC_len, this]
    omega
theorem cellsOf_app : ∀ (l : List T) (ks : List Value) (t : T) (k : Value), ks.length = l.length → cellsOf (l ++ [t]) (ks ++ [k]) = cellsOf l ks ++ nodeC t k
  | [], [], t, k, _ => by simp [cellsOf]
  | t :: ts, k :: ks, t', k', h => by
    have := cellsOf_app ts ks t' k' (by simpa using h)
    simp [cellsOf, this]
theorem cellsOf_get : ∀ (l : List T) (ks : List Value) (i j : Nat) (t : T) (k : Value), l[i]? = some t → ks[i]? = some k → j < 8 → (cellsOf l ks)[8 * i + j]? = (nodeC t k)[j]?
  | [], _, i, j, t, k, h1, _, _ => by simp at h1
  | _ :: _, [], i, j, t, k, _, h2, _ => by simp at h2
  | t' :: ts, k' :: ks, 0, j, t, k, h1, h2, hj => by
    simp at h1 h2
    subst h1 h2
    rw [cellsOf, List.getElem?_append_left (by rw [nodeC_len]; omega)]
    simp
  | t' :: ts, k' :: ks, i + 1, j, t, k, h1, h2, hj => by
    rw [cellsOf, List.getElem?_append_right (by rw [nodeC_len]; omega), nodeC_len]
    rw [show 8 * (i + 1) + j - 8 = 8 * i + j by omega]
    exact cellsOf_get ts ks i j t k (by simpa using h1) (by simpa using h2) hj

/-- The kids of t lie in memory, as k tells, and theirs; in blocks that are ok. -/
inductive Tree (w : World) (ok : Nat → Prop) : T → Value → Prop
  | nil (t : T) (h : t.kids = []) : Tree w ok t (.slice none 0 0)
  | row (t : T) (g cap : Nat) (cur : Array Value) (ks : List Value) (hg : w.heap[g]? = some (.cells cur 28 (0, 0))) (hok : ok g) (hn : ks.length = t.kids.length) (h0 : 0 < ks.length)
      (hcap : t.kids.length ≤ cap) (hmax : cap ≤ maxLen) (hsize : cur.size = cap * 8) (hc : cur.toList.take (t.kids.length * 8) = cellsOf t.kids ks)
      (hk : ∀ (i : Nat) t' k', t.kids[i]? = some t' → ks[i]? = some k' → Tree w ok t' k') : Tree w ok t (.slice (some ⟨g, 0, none⟩) t.kids.length cap)

section
variable {w w' : World} {ok ok' : Nat → Prop} {t : T} {k : Value}
theorem Tree.mono (h : Tree w ok t k) (hh : ∀ b, ok b → b < w.heap.size → (∃ cur, w.heap[b]? = some (.cells cur 28 (0, 0))) → w'.heap[b]? = w.heap[b]? ∧ ok' b) : Tree w' ok' t k := by
  induction h with
  | nil t h => exact .nil t h
  | row t g cap cur ks hg hok hn h0 hcap hmax hsize hc hk ih =>
    have := hh g hok (lt_of_some hg) ⟨cur, hg⟩
    exact .row t g cap cur ks (this.1.trans hg) this.2 hn h0 hcap hmax hsize hc fun i t' k' h1 h2 => ih i t' k' h1 h2
theorem Tree.weak (h : Tree w ok t k) (hh : ∀ b, ok b → b < w.heap.size → ok' b) : Tree w ok' t k := h.mono fun b h1 h2 _ => ⟨rfl, hh b h1 h2⟩
theorem Tree.stays (h : Tree w ok t k) (hb : Below w.heap.size w w') : Tree w' ok t k := h.mono fun b h1 h2 _ => ⟨hb.block b h2, h1⟩
theorem Tree.alloc (h : Tree w ok t k) (o : Obj) : Tree (w.alloc o) ok t k := h.mono fun b h1 h2 _ => ⟨Below.heap_alloc w o b h2, h1⟩
theorem Tree.grown {row : Option Nat} (h : Tree w ok t k) (hg : w.grownBy w' row) (hr : ∀ b, ok b → some b ≠ row) : Tree w' ok t k := h.mono fun b h1 h2 _ => ⟨hg.block b h2 (hr b h1), h1⟩
theorem Tree.far (h : Tree w ok t k) {a : Addr} (ha : ∀ b, ok b → b ≠ a.block) (u : Value) : Tree (w.setCell a u) ok t k := h.mono fun b h1 h2 _ => ⟨Below.heap_setCell w a u b (ha b h1), h1⟩
theorem Tree.drewN (h : Tree w ok t k) (n : Nat) : Tree (w.drewN n) ok t k := h.mono fun b h1 h2 _ => ⟨rfl, h1⟩
theorem Tree.drew (h : Tree w ok t k) : Tree w.drew ok t k := h.mono fun b h1 h2 _ => ⟨rfl, h1⟩
theorem Tree.only {g : Nat} {s : ByteArray} {st : St} (h : Tree w ok t k) (hg : w.grownBy w' (some g)) (hr : Rdr w g s st) : Tree w' ok t k := h.mono fun b h1 h2 ⟨cur, h3⟩ => ⟨hg.block b h2 fun e => by
  injection e with e
  subst e
  unfold Rdr at hr
  rw [hr] at h3
  injection h3 with h3
  injection h3 with _ h4 _
  exact absurd h4 (by decide), h1⟩
theorem Tree.form (h : Tree w ok t k) : ∃ A n c, k = .slice A n c := by cases h <;> exact ⟨_, _, _, rfl⟩
theorem Tree.one (h : Tree w ok t k) : k.oneCell' = true := by cases h <;> rfl
end

/-- Block g holds a node's eight cells. -/
def Box8 (w : World) (g : Nat) (t : T) (k : Value) : Prop :=
  w.heap[g]? = some (.cells #[.int .i64 t.op, .int .u64 (word t.set 0), .int .u64 (word t.set 1), .int .u64 (word t.set 2), .int .u64 (word t.set 3), .int .i64 t.lo, .int .i64 t.hi, k] 28 (0, 0))

section
variable {w w' : World} {g : Nat} {t : T} {k : Value}
theorem Box8.cell (h : Box8 w g t k) : w.cell? ⟨g, 0, none⟩ = some (.int .i64 t.op) ∧ w.cell? ⟨g, 1, none⟩ = some (.int .u64 (word t.set 0)) ∧ w.cell? ⟨g, 2, none⟩ = some (.int .u64 (word t.set 1)) ∧ w.cell? ⟨g, 3, none⟩ = some (.int .u64 (word t.set 2)) ∧
    w.cell? ⟨g, 4, none⟩ = some (.int .u64 (word t.set 3)) ∧ w.cell? ⟨g, 5, none⟩ = some (.int .i64 t.lo) ∧ w.cell? ⟨g, 6, none⟩ = some (.int .i64 t.hi) ∧ w.cell? ⟨g, 7, none⟩ = some k := by
  unfold Box8 at h
  refine ⟨?_, ?_, ?_, ?_, ?_, ?_, ?_, ?_⟩ <;> exact cell_of_row w g _ _ 28 (0, 0) h
theorem Box8.frozen (h : Box8 w g t k) : w.frozen? ⟨g, 0, none⟩ = false ∧ w.frozen? ⟨g, 1, none⟩ = false ∧ w.frozen? ⟨g, 2, none⟩ = false ∧ w.frozen? ⟨g, 3, none⟩ = false ∧
    w.frozen? ⟨g, 4, none⟩ = false ∧ w.frozen? ⟨g, 5, none⟩ = false ∧ w.frozen? ⟨g, 6, none⟩ = false ∧ w.frozen? ⟨g, 7, none⟩ = false := by
  unfold Box8 at h
  refine ⟨?_, ?_, ?_, ?_, ?_, ?_, ?_, ?_⟩ <;> simp [World.frozen?, h]
theorem Box8.lt (h : Box8 w g t k) : g < w.heap.size := lt_of_some h
theorem Box8.stays (h : Box8 w g t k) (hb : Below w.heap.size w w') : Box8 w' g t k := (hb.block g h.lt).trans h
theorem Box8.alloc (h : Box8 w g t k) (o : Obj) : Box8 (w.alloc o) g t k := (Below.heap_alloc w o g h.lt).trans h
theorem Box8.grown {row : Option Nat} (h : Box8 w g t k) (hb : w.grownBy w' row) (hg : some g ≠ row) : Box8 w' g t k := (hb.block g h.lt hg).trans h
theorem Box8.far (h : Box8 w g t k) {a : Addr} (ha : g ≠ a.block) (u : Value) : Box8 (w.setCell a u) g t k := (Below.heap_setCell w a u g ha).trans h
theorem Box8.drewN (h : Box8 w g t k) (n : Nat) : Box8 (w.drewN n) g t k := h
theorem Box8.new (w : World) (t : T) (k : Value) : Box8 (w.alloc (.cells #[.int .i64 t.op, .int .u64 (word t.set 0), .int .u64 (word t.set 1), .int .u64 (word t.set 2), .int .u64 (word t.set 3), .int .i64 t.lo, .int .i64 t.hi, k] 28)) w.heap.size t k := heap_alloc_new w _
theorem Box8.new0 (w : World) : Box8 (w.alloc (.cells #[.int .i64 0, .int .u64 0, .int .u64 0, .int .u64 0, .int .u64 0, .int .i64 0, .int .i64 0, .slice none 0 0] 28)) w.heap.size T.zero (.slice none 0 0) := by
  have h := Box8.new w T.zero (.slice none 0 0)
  simpa only [T.zero, T.op, T.set, T.lo, T.hi, word_none] using h
/-- The world with all eight cells stored anew. -/
def put8 (w : World) (g : Nat) (t : T) (k : Value) : World :=
  (((((((w.setCell ⟨g, 0, none⟩ (.int .i64 t.op)).setCell ⟨g, 1, none⟩ (.int .u64 (word t.set 0))).setCell ⟨g, 2, none⟩ (.int .u64 (word t.set 1))).setCell ⟨g, 3, none⟩ (.int .u64 (word t.set 2))).setCell ⟨g, 4, none⟩ (.int .u64 (word t.set 3))).setCell ⟨g, 5, none⟩ (.int .i64 t.lo)).setCell ⟨g, 6, none⟩ (.int .i64 t.hi)).setCell ⟨g, 7, none⟩ k
theorem put8_block (w : World) (g : Nat) (t : T) (k : Value) (b : Nat) (hb : b ≠ g) : (put8 w g t k).heap[b]? = w.heap[b]? := by
  unfold put8
  rw [Below.heap_setCell _ _ _ _ hb, Below.heap_setCell _ _ _ _ hb, Below.heap_setCell _ _ _ _ hb, Below.heap_setCell _ _ _ _ hb, Below.heap_setCell _ _ _ _ hb, Below.heap_setCell _ _ _ _ hb, Below.heap_setCell _ _ _ _ hb, Below.heap_setCell _ _ _ _ hb]
theorem Box8.put {t' : T} {k' : Value} (h : Box8 w g t k) (t' : T) (k' : Value) : Box8 (put8 w g t' k') g t' k' := by
  unfold Box8 put8 at *
  simp [World.setCell, Array.getElem?_modify, h]
theorem Box8.putFar {g' : Nat} {t' : T} {k' : Value} (h : Box8 w g t k) (hg : g ≠ g') : Box8 (put8 w g' t' k') g t k := (put8_block w g' t' k' g hg).trans h
theorem Rdr.put8 {g' : Nat} {s : ByteArray} {st : St} (h : Rdr w g s st) (hg : g ≠ g') (t : T) (k : Value) : Rdr (put8 w g' t k) g s st := (put8_block w g' t k g hg).trans h
theorem Tree.put8 {ok : Nat → Prop} {g' : Nat} {t' : T} {k' : Value} (h : Tree w ok t k) (hg : ∀ b, ok b → b ≠ g') : Tree (put8 w g' t' k') ok t k := h.mono fun b h1 h2 _ => ⟨put8_block w g' t' k' b (hg b h1), h1⟩
theorem only_put8 {a b : World} {g g' : Nat} (h : a.grownBy b (some g)) (hg : a.heap.size ≤ g') (t : T) (k : Value) : a.grownBy (Go.Proofs.Ytpiieonlbfhbaaa.put8 b g' t k) (some g) :=
  only_setNew (only_setNew (only_setNew (only_setNew (only_setNew (only_setNew (only_setNew (only_setNew h hg _) hg _) hg _) hg _) hg _) hg _) hg _) hg _
theorem below_put8 {a : World} {B : Nat} (h : Below B a w) (hg : B ≤ g) (t : T) (k : Value) : Below B a (Go.Proofs.Ytpiieonlbfhbaaa.put8 w g t k) :=
  (((((((h.setCell (p := ⟨g, 0, none⟩) hg _).setCell (p := ⟨g, 1, none⟩) hg _).setCell (p := ⟨g, 2, none⟩) hg _).setCell (p := ⟨g, 3, none⟩) hg _).setCell (p := ⟨g, 4, none⟩) hg _).setCell (p := ⟨g, 5, none⟩) hg _).setCell (p := ⟨g, 6, none⟩) hg _).setCell (p := ⟨g, 7, none⟩) hg _
end

/-- A row of kids that grows. -/
def Row (w : World) (B : Nat) (v : Value) (l : List T) : Prop :=
  ∃ ks, ks.length = l.length ∧ w.ownsRow B 28 8 v l.length (cellsOf l ks) ∧ ∀ (i : Nat) t' k', l[i]? = some t' → ks[i]? = some k' → Tree w (fun b => B ≤ b ∧ some b ≠ v.ownBlock) t' k'

section
variable {w w' : World} {B : Nat} {v : Value} {l : List T}
theorem Row.stays (h : Row w B v l) (hb : Below w.heap.size w w') : Row w' B v l := by
  obtain ⟨ks, h1, h2, h3⟩ := h
  exact ⟨ks, h1, own_stays h2 hb, fun i t' k' e1 e2 => (h3 i t' k' e1 e2).stays hb⟩
theorem Row.alloc (h : Row w B v l) (o : Obj) : Row (w.alloc o) B v l := h.stays ((Below.refl _ _).alloc (Nat.le_refl _) _)
theorem Row.drewN (h : Row w B v l) (n : Nat) : Row (w.drewN n) B v l := by
  obtain ⟨ks, h1, h2, h3⟩ := h
  exact ⟨ks, h1, h2, fun i t' k' e1 e2 => (h3 i t' k' e1 e2).drewN n⟩
theorem own_type {e : TypeId} {size n : Nat} {xs : List Value} {g : Nat} (h : w.ownsRow B e size v n xs) (hv : v.ownBlock = some g) : ∃ cur, w.heap[g]? = some (.cells cur e (0, 0)) := by
  rcases h.2 with ⟨rfl, _⟩ | ⟨g', cap, cur, rfl, _, hh, _⟩
  · cases hv
  · have : g' = g := by simpa [Value.ownBlock] using hv
    subst this
    exact ⟨cur, hh⟩
theorem Row.only {g : Nat} {s : ByteArray} {st : St} (h : Row w B v l) (hg : w.grownBy w' (some g)) (hr : Rdr w g s st) : Row w' B v l := by
  obtain ⟨ks, h1, h2, h3⟩ := h
  refine ⟨ks, h1, h2.kept hg (.inr fun e => ?_), fun i t' k' e1 e2 => (h3 i t' k' e1 e2).only hg hr⟩
  obtain ⟨cur, hc⟩ := own_type h2 e
  unfold Rdr at hr
  rw [hr] at hc
  injection hc with hc
  injection hc with _ h4 _
  exact absurd h4 (by decide)
theorem Row.far {g : Nat} (h : Row w B v l) (hg : g < B) {i : Nat} (u : Value) : Row (w.setCell ⟨g, i, none⟩ u) B v l := by
  obtain ⟨ks, h1, h2, h3⟩ := h
  have hb : w.grownBy (w.setCell ⟨g, i, none⟩ u) (some g) := only_set (only_refl _ _) _
  refine ⟨ks, h1, h2.kept hb (.inr fun e => ?_), fun i t' k' e1 e2 => (h3 i t' k' e1 e2).far (fun b hb => by show b ≠ g; omega) u⟩
  have := h2.lt _ e
  omega
/-- A row of one. -/
theorem Row.new (w : World) (B : Nat) (t : T) (k : Value) (hB : B ≤ w.heap.size) (ht : Tree w (fun b => B ≤ b) t k) :
    Row (w.alloc (.cells #[.int .i64 t.op, .int .u64 (word t.set 0), .int .u64 (word t.set 1), .int .u64 (word t.set 2), .int .u64 (word t.set 3), .int .i64 t.lo, .int .i64 t.hi, k] 28)) B (.slice (some ⟨w.heap.size, 0, none⟩) 1 1) [t] := by
  refine ⟨[k], rfl, World.ownsRow_lit w _ 1 hB (by decide) rfl, fun i t' k' e1 e2 => ?_⟩
  match i, e1, e2 with
  | 0, e1, e2 =>
    simp at e1 e2
    subst e1 e2
    refine (ht.weak (ok' := fun b => B ≤ b ∧ some b ≠ some w.heap.size) fun b h1 h2 => ⟨h1, by simp; omega⟩).alloc _
/-- A row is a node's kids. -/
theorem Row.tree (h : Row w B v l) (h0 : 0 < l.length) (op : Int) (p : Nat → Bool) (lo hi : Int) : Tree w (fun b => B ≤ b) (.mk op p lo hi l) v := by
  obtain ⟨ks, h1, h2, h3⟩ := h
  rcases h2.2 with ⟨rfl, h⟩ | ⟨g, cap, cur, rfl, hB, hh, hc, hm, hs, ht⟩
  · omega
  · exact .row (.mk op p lo hi l) g cap cur ks hh hB h1 (by omega) hc hm hs ht fun i t' k' e1 e2 => (h3 i t' k' e1 e2).weak fun b hb _ => hb.1
end

theorem Try.infoNode : (Try.prog.info? 28).map (fun i => (i.zero, i.size, i.bytes)) = some (some (.agg #[.int .i64 0, .int .u64 0, .int .u64 0, .int .u64 0, .int .u64 0, .int .i64 0, .int .i64 0, .slice none 0 0]), 8, 80) := by kernel_rfl

end Go.Proofs.Ytpiieonlbfhbaaa
