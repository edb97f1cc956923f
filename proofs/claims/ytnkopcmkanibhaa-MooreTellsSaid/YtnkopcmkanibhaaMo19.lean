/-
  Several texts of this proof in one file: FlatRep, AddTo, Sorted, BuildMath, PlMin, BuildD. No statement of its own.
-/
import Derived.Test.YtnkopcmkanibhaaMo18
import Derived.Test.YtnkopcmkanibhaaMo2
import Derived.Test.YtnkopcmkanibhaaMo1
import Derived.Test.YtnkopcmkanibhaaMo10
import Derived.Maps.AppendAt
import Derived.Deep.LoopGhost
import Derived.Test.YtnkopcmkanibhaaMo8
import Derived.Test.YtnkopcmkanibhaaMo13
import Derived.Test.YtnkopcmkanibhaaMo9
import Derived.Deep.RegionHeld3
set_option linter.unusedVariables false
set_option linter.unusedSimpArgs false

/-
  The document's own Flat: of a repetition, and of any pattern. Contracts for other texts; no statement of its own.
-/
namespace Go.Proofs.Ytnkopcmkanibhaa
open Go Go.RowKit
attribute [local go_sem ↓] Go.wp_at_zero Go.wp_at_succ

theorem pairG (w : World) (ok : Nat → Prop) (t u : T) (k k' : Value) (hB : ok w.heap.size) (ht : Tree w ok t k) (hu : Tree w ok u k') (op : Int) (p : Nat → Bool) (lo hi : Int) :
    Tree (w.alloc (.cells (nodeC t k ++ nodeC u k').toArray 75)) ok (.mk op p lo hi [t, u]) (.slice (some ⟨w.heap.size, 0, none⟩) 2 2) := by
  refine .row (.mk op p lo hi [t, u]) w.heap.size 2 (nodeC t k ++ nodeC u k').toArray [k, k'] (heap_alloc_new w _) hB rfl (by simp) (Nat.le_refl _) (by decide) rfl ?_ fun i t' k'' e1 e2 => ?_
  · simp [T.kids, cellsOf, nodeC]
  · match i, e1, e2 with
    | 0, e1, e2 =>
      simp [T.kids] at e1 e2
      subst e1 e2
      exact ht.alloc _
    | 1, e1, e2 =>
      simp [T.kids] at e1 e2
      subst e1 e2
      exact hu.alloc _
theorem oneG (w : World) (ok : Nat → Prop) (t : T) (k : Value) (hB : ok w.heap.size) (ht : Tree w ok t k) (op : Int) (p : Nat → Bool) (lo hi : Int) :
    Tree (w.alloc (.cells (nodeC t k).toArray 75)) ok (.mk op p lo hi [t]) (.slice (some ⟨w.heap.size, 0, none⟩) 1 1) := by
  refine .row (.mk op p lo hi [t]) w.heap.size 1 (nodeC t k).toArray [k] (heap_alloc_new w _) hB rfl (by simp) (Nat.le_refl _) (by decide) rfl ?_ fun i t' k'' e1 e2 => ?_
  · simp [T.kids, cellsOf, nodeC]
  · match i, e1, e2 with
    | 0, e1, e2 =>
      simp [T.kids] at e1 e2
      subst e1 e2
      exact ht.alloc _

/-- A row of kids that grows, its kids' blocks being ok. -/
def RowK (w : World) (ok : Nat → Prop) (B : Nat) (v : Value) (l : List T) : Prop :=
  ∃ ks, ks.length = l.length ∧ w.ownsRow B 75 8 v l.length (cellsOf l ks) ∧ ∀ (i : Nat) t' k', l[i]? = some t' → ks[i]? = some k' → Tree w (fun b => ok b ∧ some b ≠ v.ownBlock) t' k'
section
variable {w w' : World} {ok : Nat → Prop} {B : Nat} {v : Value} {l : List T}
theorem RowK.nil (w : World) (ok : Nat → Prop) (B : Nat) : RowK w ok B (.slice none 0 0) [] := ⟨[], rfl, World.ownsRow_nil w B _ 8, fun i t' k' e _ => by simp at e⟩
theorem RowK.stays (h : RowK w ok B v l) (hb : Below w.heap.size w w') : RowK w' ok B v l := by
  obtain ⟨ks, h1, h2, h3⟩ := h
  exact ⟨ks, h1, own_stays h2 hb, fun i t' k' e1 e2 => (h3 i t' k' e1 e2).stays hb⟩
theorem RowK.alloc (h : RowK w ok B v l) (o : Obj) : RowK (w.alloc o) ok B v l := h.stays ((Below.refl _ _).alloc (Nat.le_refl _) _)
theorem RowK.lt (h : RowK w ok B v l) : ∀ b, v.ownBlock = some b → B ≤ b ∧ b < w.heap.size := by
  obtain ⟨ks, h1, h2, h3⟩ := h
  exact h2.lt
theorem RowK.form (h : RowK w ok B v l) : ∃ A n c, v = .slice A n c := by
  obtain ⟨ks, h1, h2, h3⟩ := h
  rcases h2.2 with ⟨rfl, _⟩ | ⟨g, cap, cur, rfl, _⟩ <;> exact ⟨_, _, _, rfl⟩
theorem RowK.tree (h : RowK w ok B v l) (hok : ∀ b, B ≤ b → ok b) (h0 : 0 < l.length) (op : Int) (p : Nat → Bool) (lo hi : Int) : Tree w ok (.mk op p lo hi l) v := by
  obtain ⟨ks, h1, h2, h3⟩ := h
  rcases h2.2 with ⟨rfl, h⟩ | ⟨g, cap, cur, rfl, hB, hh, hc, hm, hs, ht⟩
  · omega
  · exact .row (.mk op p lo hi l) g cap cur ks hh (hok _ hB) h1 (by omega) hc hm hs ht fun i t' k' e1 e2 => (h3 i t' k' e1 e2).weak fun b hb _ => hb.1
theorem rowK_push (h : RowK w ok B v l) (hB : B ≤ w.heap.size) (hl : l.length ≤ 100000) (t : T) (k : Value) (ht : Tree w (fun b => ok b ∧ some b ≠ v.ownBlock) t k)
    (ty : TypeId) (ad : Addr) (c : Nat) (hc : ∀ (j : Nat) u, (nodeC t k)[j]? = some u → w.cell? (ad.add j) = some u) :
    ∃ v' w', (Builtin.append_ #[73, 73] ty #[v, .slice (some ad) 1 c]).run Try.prog w = .ok v' w' ∧ RowK w' ok B v' (l ++ [t]) ∧ w.grownBy w' v.ownBlock ∧ B ≤ w'.heap.size := by
  obtain ⟨ks, h1, h2, h3⟩ := h
  obtain ⟨i0, hi, hz0, hz1, hz2⟩ := info_parts Try.infoNode
  obtain ⟨v', w', hr, h4, h5, _, h6⟩ := run_append_own_at (P := Try.prog) w B 73 ty 75 i0 _ 8 80 Try.underlying73 hi hz0 hz1 hz2 rfl (by decide) v l.length (cellsOf l ks) h2 ad 1 c (nodeC t k) rfl hc
    (by
      intro u hu
      simp [nodeC] at hu
      rcases hu with rfl | rfl | rfl | rfl | rfl | rfl | rfl | rfl
      all_goals first | rfl | exact ht.one) (by unfold maxLen; omega) (by omega) hB
  refine ⟨v', w', hr, ⟨ks ++ [k], by simp [h1], ?_, fun i t' k' e1 e2 => ?_⟩, h5, Nat.le_trans hB h5.size⟩
  · rw [cellsOf_app l ks t k h1]
    simpa using h4
  · have hkeep : ∀ t' k', Tree w (fun b => ok b ∧ some b ≠ v.ownBlock) t' k' → Tree w' (fun b => ok b ∧ some b ≠ v'.ownBlock) t' k' := by
      intro t' k' h
      refine h.mono fun b hb hlt _ => ⟨h5.block b hlt hb.2, hb.1, ?_⟩
      rcases h6 with h6 | h6
      · rw [h6]; exact hb.2
      · rw [h6]; simp; omega
    by_cases hi : i < l.length
    · rw [List.getElem?_append_left hi] at e1
      rw [List.getElem?_append_left (by omega)] at e2
      exact hkeep _ _ (h3 i t' k' e1 e2)
    · rw [List.getElem?_append_right (by omega)] at e1
      rw [List.getElem?_append_right (by omega)] at e2
      have hi' : i = l.length := by
        have := List.getElem?_eq_some_iff.1 e1
        simp at this
        omega
      subst hi'
      simp [h1] at e1 e2
      subst e1 e2
      exact hkeep _ _ ht
theorem wpList_pushK {ops : Array Oper} {rest : List Oper} {o : Oper} {a : Act} {Q : Exit → Act → World → Prop} (hgd : o.guard = none) (s x : Operand)
    (ho : o.op = .call { callee := .builtin .append, args := #[s, x], argTypes := #[73, 73] })
    (hs : a.eval s = v) (h : RowK w ok B v l) (hB : B ≤ w.heap.size) (hl : l.length ≤ 100000) (t : T) (k : Value) (ht : Tree w (fun b => ok b ∧ some b ≠ v.ownBlock) t k)
    (ad : Addr) (c : Nat) (hx : a.eval x = .slice (some ad) 1 c) (hc : ∀ (j : Nat) u, (nodeC t k)[j]? = some u → w.cell? (ad.add j) = some u)
    (hk : ∀ v' w', RowK w' ok B v' (l ++ [t]) → w.grownBy w' v.ownBlock → B ≤ w'.heap.size → wpList Try.prog ops Q rest (a.put o.dst v') w') : wpList Try.prog ops Q (o :: rest) a w := by
  obtain ⟨v', w', hr, h2, h3, h4⟩ := rowK_push h hB hl t k ht o.type ad c hc
  refine wpList_plain hgd fun _ hK => ?_
  unfold Oper.wp execOp
  simp only [ho, resolve, invoke, builtin, Sem.run_bind, Sem.run_pure, Result.andThen_ok, List.map_toArray, List.map_cons, List.map_nil, hs, hx, hr]
  exact hK _ _ (hk v' w' h2 h3 h4)
end
/-- What a round finds: n's box, the result's, k's, rest's. -/
structure RepIn (w : World) (g4 : Nat) (t fu r : T) (ka kf kr : Value) (wr : World) : Prop where
  n : Box8 wr w.heap.size t ka
  res : Box8 wr (w.heap.size + 1) T.zero (.slice none 0 0)
  k : Box8 wr g4 fu kf
  rest : Box8 wr (g4 + 1) r kr
  kt : Tree wr (fun b => w.heap.size + 2 ≤ b ∧ b < g4) fu kf
  rt : Tree wr (fun b => w.heap.size + 2 ≤ b ∧ b ≠ g4 ∧ b ≠ g4 + 1) r kr
  g : w.heap.size + 2 ≤ g4
  out : Below w.heap.size w wr
theorem sizeF (w : World) (g : Nat) (t : T) (k : Value) : (put8 w g t k).heap.size = w.heap.size := by simp [put8, World.setCell]
/-- One copy more that may be left out. -/
theorem RepIn.more {w wr : World} {g4 : Nat} {t fu r : T} {ka kf kr : Value} (h : RepIn w g4 t fu r ka kf kr wr) :
    RepIn w g4 t fu (.mk 5 noneP 0 0 [.mk 2 noneP 0 0 [fu, r]]) ka kf (.slice (some ⟨wr.heap.size + 1, 0, none⟩) 1 1)
      (((put8 wr (g4 + 1) (.mk 5 noneP 0 0 [.mk 2 noneP 0 0 [fu, r]]) (.slice (some ⟨wr.heap.size + 1, 0, none⟩) 1 1)).alloc (.cells (nodeC fu kf ++ nodeC r kr).toArray 75)).alloc
        (.cells (nodeC (.mk 2 noneP 0 0 [fu, r]) (.slice (some ⟨wr.heap.size, 0, none⟩) 2 2)).toArray 75)) := by
  have hg := h.g
  have hl := h.rest.lt
  have hk : Tree wr (fun b => w.heap.size + 2 ≤ b ∧ b ≠ g4 ∧ b ≠ g4 + 1) fu kf := h.kt.weak fun b hb _ => by omega
  obtain ⟨W, hW⟩ : ∃ W, put8 wr (g4 + 1) (.mk 5 noneP 0 0 [.mk 2 noneP 0 0 [fu, r]]) (.slice (some ⟨wr.heap.size + 1, 0, none⟩) 1 1) = W := ⟨_, rfl⟩
  have hs : W.heap.size = wr.heap.size := by rw [← hW]; exact sizeF _ _ _ _
  have n1 : Box8 W w.heap.size t ka := by rw [← hW]; exact h.n.putFar (by omega)
  have n2 : Box8 W (w.heap.size + 1) T.zero (.slice none 0 0) := by rw [← hW]; exact h.res.putFar (by omega)
  have n3 : Box8 W g4 fu kf := by rw [← hW]; exact h.k.putFar (by omega)
  have n4 : Box8 W (g4 + 1) (.mk 5 noneP 0 0 [.mk 2 noneP 0 0 [fu, r]]) (.slice (some ⟨wr.heap.size + 1, 0, none⟩) 1 1) := by rw [← hW]; exact h.rest.put (t' := T.zero) (k' := .slice none 0 0) _ _
  have n5 : Tree W (fun b => w.heap.size + 2 ≤ b ∧ b < g4) fu kf := by rw [← hW]; exact h.kt.put8 (fun b hb => by omega)
  have n6 : Tree W (fun b => w.heap.size + 2 ≤ b ∧ b ≠ g4 ∧ b ≠ g4 + 1) fu kf := by rw [← hW]; exact hk.put8 (fun b hb => by omega)
  have n7 : Tree W (fun b => w.heap.size + 2 ≤ b ∧ b ≠ g4 ∧ b ≠ g4 + 1) r kr := by rw [← hW]; exact h.rt.put8 (fun b hb => by omega)
  have n8 : Below w.heap.size w W := by rw [← hW]; exact below_put8 h.out (by omega) _ _
  rw [hW]
  have h1 := pairG W _ fu r kf kr (show _ by omega) n6 n7 2 noneP 0 0
  have h2 := oneG _ _ (.mk 2 noneP 0 0 [fu, r]) _ (show _ by simp only [World.size_alloc]; omega) h1 5 noneP 0 0
  rw [World.size_alloc, hs] at h2
  exact ⟨(n1.alloc _).alloc _, (n2.alloc _).alloc _, (n3.alloc _).alloc _, (n4.alloc _).alloc _, (n5.alloc _).alloc _, h2, hg,
    (n8.alloc n8.size _).alloc (by simp; exact Nat.le_succ_of_le n8.size) _⟩

/-- What a round of the second loop finds, besides: the row so far; its own block lies at G or behind. -/
structure RepJn (w : World) (G g4 : Nat) (t fu r : T) (ka kf kr v : Value) (l : List T) (wr : World) : Prop where
  n : Box8 wr w.heap.size t ka
  res : Box8 wr (w.heap.size + 1) T.zero (.slice none 0 0)
  k : Box8 wr g4 fu kf
  rest : Box8 wr (g4 + 1) r kr
  kt : Tree wr (fun b => w.heap.size + 2 ≤ b ∧ b < G) fu kf
  rt : Tree wr (fun b => w.heap.size + 2 ≤ b ∧ b < G) r kr
  g : w.heap.size + 2 ≤ g4 ∧ g4 + 2 ≤ G
  row : RowK wr (fun b => w.heap.size + 2 ≤ b) G v l
  gw : G ≤ wr.heap.size
  out : Below w.heap.size w wr
theorem RepIn.jn {w wr : World} {g4 : Nat} {t fu r : T} {ka kf kr : Value} (h : RepIn w g4 t fu r ka kf kr wr) : RepJn w wr.heap.size g4 t fu r ka kf kr (.slice none 0 0) [] wr := by
  have hg := h.g
  have hl := h.rest.lt
  exact ⟨h.n, h.res, h.k, h.rest, h.kt.weak fun b hb _ => by omega, h.rt.weak fun b hb hb2 => by omega, ⟨hg, by omega⟩, .nil _ _ _, Nat.le_refl _, h.out⟩
theorem RepJn.push {w wr w6 : World} {G g4 : Nat} {t fu r : T} {ka kf kr v v6 : Value} {l l6 : List T} {o : Obj} (h : RepJn w G g4 t fu r ka kf kr v l wr)
    (hrow : RowK w6 (fun b => w.heap.size + 2 ≤ b) G v6 l6) (h6 : (wr.alloc o).grownBy w6 v.ownBlock) : RepJn w G g4 t fu r ka kf kr v6 l6 w6 := by
  have hg := h.g
  have hgw := h.gw
  have hl := h.row.lt
  have ho : ∀ b, v.ownBlock = some b → G ≤ b := fun b e => (hl b e).1
  have hne : ∀ b, b < G → some b ≠ v.ownBlock := fun b hb e => by have := ho b e.symm; omega
  refine ⟨(h.n.alloc o).grown h6 (hne _ (by omega)), (h.res.alloc o).grown h6 (hne _ (by omega)), (h.k.alloc o).grown h6 (hne _ (by omega)), (h.rest.alloc o).grown h6 (hne _ (by omega)),
    (h.kt.alloc o).grown h6 (fun b hb => hne b hb.2), (h.rt.alloc o).grown h6 (fun b hb => hne b hb.2), hg, hrow, ?_, ?_⟩
  · have := h6.size
    rw [World.size_alloc] at this
    omega
  · exact (h.out.alloc h.out.size o).grown h6 (by rw [World.size_alloc]; exact Nat.le_succ_of_le h.out.size) (fun q e => by have := ho q e; omega)

set_option maxRecDepth 20000 in
set_option maxHeartbeats 4000000 in
theorem flat_rep {N : Nat} (ih : FlatF N) {t u : T} {w : World} {ok : Nat → Prop} {k : Value} (hN : SizeOf.sizeOf t ≤ N + 1) (hwk : WF u) (ht : Tree w ok t k) (h4 : t.op = 4) (hku : t.kids = [u]) (hlo : 0 ≤ t.lo) (hlh : t.lo ≤ t.hi) (hhi : t.hi ≤ 32) :
    Calls Try.prog 55 #[nodeP t k] w (RetFlat w (.mk 2 noneP 0 0 (List.replicate t.lo.toNat (flatT u) ++ [restT (flatT u) (t.hi - t.lo).toNat]))) := by
  obtain ⟨A, n', c, rfl⟩ := ht.form
  have b1 := Box8.new w t (.slice A n' c)
  have hB : Below w.heap.size w (w.alloc (.cells #[.int .i64 t.op, .int .u64 (word t.set 0), .int .u64 (word t.set 1), .int .u64 (word t.set 2), .int .u64 (word t.set 3), .int .i64 t.lo, .int .i64 t.hi, .slice A n' c] 75)) := (Below.refl _ _).alloc (Nat.le_refl _) _
  have b2 := Box8.new0 (w.alloc (.cells #[.int .i64 t.op, .int .u64 (word t.set 0), .int .u64 (word t.set 1), .int .u64 (word t.set 2), .int .u64 (word t.set 3), .int .i64 t.lo, .int .i64 t.hi, .slice A n' c] 75))
  have b3 := b1.alloc (.cells #[.int .i64 0, .int .u64 0, .int .u64 0, .int .u64 0, .int .u64 0, .int .i64 0, .int .i64 0, .slice none 0 0] 75)
  have hB2 := hB.alloc hB.size (.cells #[.int .i64 0, .int .u64 0, .int .u64 0, .int .u64 0, .int .u64 0, .int .i64 0, .int .i64 0, .slice none 0 0] 75)
  obtain ⟨hn, hm⟩ := ht.bound
  have hn1 : n' = 1 := by rw [hn, hku]; rfl
  obtain ⟨g, B, m1, m2, e1, hg1, htk, hcells⟩ := kid8 ht 0 (u := u) (by rw [hku]; rfl)
  subst e1 hn1
  have hks : SizeOf.sizeOf u < SizeOf.sizeOf t := by have h := kid_size t 0 (by rw [hku]; simp); simpa [hku] using h
  obtain ⟨c0, c1, c2, c3, c4, c5, c6, c7⟩ := b3.cell
  have hb4 : (t.op == 4) = true := by simp [h4]
  have hd4 : (t.op != 4) = false := by simp [h4]
  have HC : ∀ q v, (nodeC u (.slice B m1 m2))[q]? = some v → ((w.alloc (.cells #[.int .i64 t.op, .int .u64 (word t.set 0), .int .u64 (word t.set 1), .int .u64 (word t.set 2), .int .u64 (word t.set 3), .int .i64 t.lo, .int .i64 t.hi, .slice (some ⟨g, 0, none⟩) 1 c] 75)).alloc (.cells #[.int .i64 0, .int .u64 0, .int .u64 0, .int .u64 0, .int .u64 0, .int .i64 0, .int .i64 0, .slice none 0 0] 75)).cell? ⟨g, q, none⟩ = some v := fun q v h => by
    have := (hB2.cell (p := ⟨g, 8 * 0 + q, none⟩) hg1).trans (hcells q v h)
    simpa using this
  have k0 : ((w.alloc (.cells #[.int .i64 t.op, .int .u64 (word t.set 0), .int .u64 (word t.set 1), .int .u64 (word t.set 2), .int .u64 (word t.set 3), .int .i64 t.lo, .int .i64 t.hi, .slice (some ⟨g, 0, none⟩) 1 c] 75)).alloc (.cells #[.int .i64 0, .int .u64 0, .int .u64 0, .int .u64 0, .int .u64 0, .int .i64 0, .int .i64 0, .slice none 0 0] 75)).cell? ⟨g, 0, none⟩ = _ := HC 0 _ rfl
  have k1 := HC 1 _ rfl
  have k2 := HC 2 _ rfl
  have k3 := HC 3 _ rfl
  have k4 := HC 4 _ rfl
  have k5 := HC 5 _ rfl
  have k6 := HC 6 _ rfl
  have k7 := HC 7 _ rfl
  have HK := Lib.hid (ih u ((w.alloc (.cells #[.int .i64 t.op, .int .u64 (word t.set 0), .int .u64 (word t.set 1), .int .u64 (word t.set 2), .int .u64 (word t.set 3), .int .i64 t.lo, .int .i64 t.hi, .slice (some ⟨g, 0, none⟩) 1 c] 75)).alloc (.cells #[.int .i64 0, .int .u64 0, .int .u64 0, .int .u64 0, .int .u64 0, .int .i64 0, .int .i64 0, .slice none 0 0] 75)) ok (.slice B m1 m2) (by omega) hwk (htk.stays hB2))
  have HX := Lib.hid b3
  have HZ := Lib.hid b2
  have HB2 := Lib.hid hB2
  generalize flatT u = fu at *
  unfold RetFlat nodeP at HK
  have H4 := Lib.hid h4
  clear HC hcells htk hwk b1 b2 b3 hB hB2 ht hN hm hn ih h4
  unfold nodeP
  go_enter Try.func55, Try.ntmps55
  go_wp2_with (first
    | (go_at_call 55; (with_reducible refine HK.out.mono ?_); rintro e w4 ⟨kf, rfl, htf, hb4'⟩; obtain ⟨Ak, nk, ck, rfl⟩ := htf.form; have hx4 := HX.out.stays hb4'; have hz4 := HZ.out.stays hb4'; obtain ⟨d0, d1, d2, d3, d4, d5, d6, d7⟩ := hx4.cell; have hs4 := hb4'.size; have lx4 : w.heap.size < w4.heap.size := hx4.lt; have lz4 : w.heap.size + 1 < w4.heap.size := by simpa using hz4.lt)
    | fail)
  have hs4' : w.heap.size + 2 ≤ w4.heap.size := by omega
  have HX4 := Lib.hid hx4
  have HZ4 := Lib.hid hz4
  have HTF := Lib.hid (htf.weak (ok' := fun b => w.heap.size + 2 ≤ b ∧ b < w4.heap.size) fun b hb hl => by simp at hb; omega)
  have HB4 := Lib.hid (gro HB2.out hb4')
  have hd2 : ((t.hi - t.lo).toNat : Int) = t.hi - t.lo := by omega
  generalize (t.hi - t.lo).toNat = d at *
  obtain ⟨L, hL⟩ : ∃ L : Nat, t.lo = L := ⟨t.lo.toNat, by omega⟩
  have hH : t.hi = ((L + d : Nat) : Int) := by omega
  have HL := Lib.hid hL
  have HH := Lib.hid hH
  have hLd : L + d ≤ 32 := by omega
  have hLn : t.lo.toNat = L := by omega
  have HLN := Lib.hid hLn
  clear hx4 hz4 htf hb4' HX HZ HB2 HK hd2 hhi hlo hlh hL hH hLn c0 c1 c2 c3 c4 c5 c6 c7 k0 k1 k2 k3 k4 k5 k6 k7 d0 d1 d2 d3 d4 d5 d6 d7 hb4 hd4
  go_loopg [7] d (fun m i wr => ∃ j A3 n3 c3, i = .int .i64 ((L + j : Nat) : Int) ∧ j ≤ d ∧ m = d - j ∧ RepIn w w4.heap.size t fu (restT fu j) (.slice (some ⟨g, 0, none⟩) 1 c) (.slice Ak nk ck) (.slice A3 n3 c3) wr)
  case atStart =>
    have h1 := Box8.new w4 fu (.slice Ak nk ck)
    have h2 := Box8.new (w4.alloc (.cells #[.int .i64 fu.op, .int .u64 (word fu.set 0), .int .u64 (word fu.set 1), .int .u64 (word fu.set 2), .int .u64 (word fu.set 3), .int .i64 fu.lo, .int .i64 fu.hi, .slice Ak nk ck] 75)) (.mk 2 noneP 0 0 []) (.slice none 0 0)
    simp only [T.op, T.set, T.lo, T.hi, word_none, World.size_alloc] at h2
    exact ⟨0, none, 0, 0, by first | rfl | simp [HL.out], Nat.zero_le _, rfl, (HX4.out.alloc _).alloc _, by simpa using (HZ4.out.alloc _).alloc _, h1.alloc _, h2, (HTF.out.alloc _).alloc _, .nil _ rfl, hs4', (HB4.out.alloc HB4.out.size _).alloc (by simp; exact Nat.le_succ_of_le HB4.out.size) _⟩
  case round =>
    obtain ⟨j, A3, n3, c3, rfl, hj, hmj, hin⟩ := hrel
    have HMJ := Lib.hid hmj
    obtain ⟨c0, c1, c2, c3', c4, c5, c6, c7⟩ := hin.n.cell
    rw [HH.out] at c6
    clear hmj c0 c1 c2 c3' c4 c5 c7
    have HIN := Lib.hid hin
    have hk4 : w4.heap.size < wr.heap.size := hin.k.lt
    have hr4 : w4.heap.size + 1 < wr.heap.size := hin.rest.lt
    by_cases hlt : j < d
    · obtain ⟨k0, k1, k2, k3, k4, k5, k6, k7⟩ := hin.k.cell
      obtain ⟨r0, r1, r2, r3, r4, r5, r6, r7⟩ := hin.rest.cell
      obtain ⟨f0, f1, f2, f3, f4, f5, f6, f7⟩ := hin.rest.frozen
      have hmore := hin.more
      have e : (.mk 5 noneP 0 0 [.mk 2 noneP 0 0 [fu, restT fu j]] : T) = restT fu (j + 1) := rfl
      have hne : w4.heap.size ≠ w4.heap.size + 1 := by omega
      generalize hr : restT fu j = r at *
      have HM := Lib.hid hmore
      have HE := Lib.hid e
      clear hin hmore e hr
      go_wp2
      go_roundg (d - (j + 1))
      case measure => have := HMJ.out; omega
      case rel =>
        have h := HM.out
        unfold put8 nodeC at h
        simp only [T.op, T.set, T.lo, T.hi, word_none] at h
        exact ⟨j + 1, some ⟨wr.heap.size + 1, 0, none⟩, 1, 1, by go_num, by omega, rfl, by rw [← HE.out]; exact h⟩
    · have hjd : j = d := by omega
      subst hjd
      have hjn := hin.jn
      have HJ := Lib.hid hjn
      obtain ⟨G, hG⟩ : ∃ G, wr.heap.size = G := ⟨_, rfl⟩
      rw [hG] at HJ
      generalize hr : restT fu j = r at *
      have HR := Lib.hid hr
      clear hin hjn HMJ HX4 HZ4 HTF HB4 HIN hr hG hlt hj
      go_wp2
      go_loopg [3, 8] L (fun m v i wr => ∃ q : Nat, i = .int .i64 (q : Int) ∧ q ≤ L ∧ m = L - q ∧ RepJn w G w4.heap.size t fu r (.slice (some ⟨g, 0, none⟩) 1 c) (.slice Ak nk ck) (.slice A3 n3 c3) v (List.replicate q fu) wr)
      case atStart => exact ⟨0, rfl, Nat.zero_le _, rfl, HJ.out⟩
      case round =>
        obtain ⟨q, rfl, hq, hmq, hjn⟩ := hrel
        have HMQ := Lib.hid hmq
        obtain ⟨A5, n5, m5, hf⟩ := hjn.row.form
        subst hf
        obtain ⟨c0, c1, c2, c3', c4, c5, c6, c7⟩ := hjn.n.cell
        rw [HL.out] at c5
        clear hmq c0 c1 c2 c3' c4 c6 c7
        have hk4 : w4.heap.size < wr.heap.size := hjn.k.lt
        have hr4 : w4.heap.size + 1 < wr.heap.size := hjn.rest.lt
        have hz1 : w.heap.size + 1 < wr.heap.size := hjn.res.lt
        have hgw := hjn.gw
        have hg2 := hjn.g.1
        have hg3 := hjn.g.2
        have hw1 := hjn.row.lt
        have hkt : Tree wr (fun b => w.heap.size + 2 ≤ b ∧ some b ≠ (Value.slice A5 n5 m5).ownBlock) fu (.slice Ak nk ck) := hjn.kt.weak fun b hb _ => ⟨hb.1, fun e => by have := hw1 b e.symm; omega⟩
        have hrt : Tree wr (fun b => w.heap.size + 2 ≤ b ∧ some b ≠ (Value.slice A5 n5 m5).ownBlock) r (.slice A3 n3 c3) := hjn.rt.weak fun b hb _ => ⟨hb.1, fun e => by have := hw1 b e.symm; omega⟩
        have HJ2 := Lib.hid hjn
        have HKT := Lib.hid hkt
        have HRT := Lib.hid hrt
        obtain ⟨k0, k1, k2, k3, k4, k5, k6, k7⟩ := hjn.k.cell
        obtain ⟨r0, r1, r2, r3, r4, r5, r6, r7⟩ := hjn.rest.cell
        clear hjn hkt hrt hw1 hg2 hg3 hgw
        by_cases hlt : q < L
        · clear r0 r1 r2 r3 r4 r5 r6 r7
          go_wp2_with (first
            | (at_builtin; refine wpList_pushK (by rfl) _ _ (by rfl) (by rfl) (HJ2.out.row.alloc _) (by have := HJ2.out.gw; simp; omega) (by simp; omega) fu (.slice Ak nk ck) (HKT.out.alloc _) ⟨wr.heap.size, 0, none⟩ 1 (by rfl) (kidF_cells wr fu (.slice Ak nk ck)) ?_; intro v6 w6 row6 o6 hB6)
            | fail)
          have hp := HJ2.out.push row6 o6
          go_roundg (L - (q + 1))
          case measure => have := HMQ.out; omega
          case rel => exact ⟨q + 1, by go_num, by omega, rfl, by rw [List.replicate_succ']; exact hp⟩
        · have hqL : q = L := by omega
          subst hqL
          clear k0 k1 k2 k3 k4 k5 k6 k7
          go_wp2_with (first
            | (at_builtin; refine wpList_pushK (by rfl) _ _ (by rfl) (by rfl) (HJ2.out.row.alloc _) (by have := HJ2.out.gw; simp; omega) (by simp; omega) r (.slice A3 n3 c3) (HRT.out.alloc _) ⟨wr.heap.size, 0, none⟩ 1 (by rfl) (kidF_cells wr r (.slice A3 n3 c3)) ?_; intro v6 w6 row6 o6 hB6; obtain ⟨A6, n6, m6, hf6⟩ := row6.form; subst hf6; have hp := HJ2.out.push row6 o6; have HP := Lib.hid hp; obtain ⟨z0, z1, z2, z3, z4, z5, z6, z7⟩ := hp.res.cell; obtain ⟨f0, f1, f2, f3, f4, f5, f6, f7⟩ := hp.res.frozen; have hz6 := hp.res.lt; clear hp)
            | fail)
          have hp := HP.out
          have hz8 := hp.res.put (t' := T.zero) (k' := .slice none 0 0) (.mk 2 noneP 0 0 (List.replicate q fu ++ [r])) (.slice A6 n6 m6)
          have htr := hp.row.tree (fun b hb => by have := hp.g; omega) (by simp) 2 noneP 0 0
          have htree : Tree (put8 w6 (w.heap.size + 1) (.mk 2 noneP 0 0 (List.replicate q fu ++ [r])) (.slice A6 n6 m6)) (fun b => w.heap.size ≤ b) (.mk 2 noneP 0 0 (List.replicate q fu ++ [r])) (.slice A6 n6 m6) := (htr.put8 (fun b hb => by omega)).weak fun b hb _ => by omega
          have hbel := below_put8 hp.out (g := w.heap.size + 1) (by omega) (.mk 2 noneP 0 0 (List.replicate q fu ++ [r])) (.slice A6 n6 m6)
          obtain ⟨y0, y1, y2, y3, y4, y5, y6, y7⟩ := hz8.cell
          unfold put8 at htree hbel y0 y1 y2 y3 y4 y5 y6 y7
          simp only [T.op, T.set, T.lo, T.hi, word_none] at htree hbel y0 y1 y2 y3 y4 y5 y6 y7
          rw [← HLN.out] at htree
          refine bodyPost_ret (v := nodeP (T.mk 2 noneP 0 0 (List.replicate q fu ++ [r])) (.slice A6 n6 m6)) ?_ rfl ⟨_, rfl, htree, ?_⟩
          · simp [nodeP, T.op, T.set, T.lo, T.hi, word_none, results, Try.results55, go_sem, y0, y1, y2, y3, y4, y5, y6, y7]
          · exact hbel
theorem flat_all : ∀ N, FlatF N := by
  intro N
  induction N with
  | zero => intro t w ok k h; obtain ⟨op, p, lo, hi, l⟩ := t; simp at h
  | succ N ih =>
    intro t w ok k hN hwf ht
    by_cases h4 : t.op = 4
    · cases hwf with
      | one p => cases h4
      | cat l h2 hNl h => cases h4
      | alt l h2 hNl h => cases h4
      | rep m n u h0 h1 h2 h3 hu =>
        have e : flatT (.mk 4 noneP m n [u]) = .mk 2 noneP 0 0 (List.replicate m.toNat (flatT u) ++ [restT (flatT u) (n - m).toNat]) := by simp [flatT, flatHead]
        rw [e]
        exact flat_rep (t := .mk 4 noneP m n [u]) (u := u) ih hN hu ht rfl rfl (by simp only [T.lo]; omega) (by simp only [T.lo, T.hi]; omega) (by simp only [T.hi]; omega)
    · exact flat_row ih hN hwf ht h4
theorem flat_p {t : T} {w : World} {ok : Nat → Prop} {k : Value} (hwf : WF t) (ht : Tree w ok t k) : Calls Try.prog 55 #[nodeP t k] w (RetFlat w (flatT t)) :=
  flat_all _ t w ok k (Nat.le_refl _) hwf ht
end Go.Proofs.Ytnkopcmkanibhaa

/-
  The document's own lists of numbers that grow: add. Contracts for other texts; no statement of its own.
-/
namespace Go.Proofs.Ytnkopcmkanibhaa
open Go Go.RowKit
attribute [local go_sem ↓] Go.wp_at_zero Go.wp_at_succ

def addL (l : List Int) (n : Int) : List Int := if l.contains n then l else l ++ [n]
theorem addL_mem (l : List Int) (n x : Int) : x ∈ addL l n ↔ x ∈ l ∨ x = n := by
  unfold addL
  split
  · rename_i h
    have h' : n ∈ l := by simpa using h
    exact ⟨.inl, fun k => k.elim id fun e => e ▸ h'⟩
  · simp
theorem addL_nodup (l : List Int) (n : Int) (h : l.Nodup) : (addL l n).Nodup := by
  unfold addL
  split
  · exact h
  · rename_i hn
    have hn' : n ∉ l := by simpa using hn
    rw [List.nodup_append]
    refine ⟨h, by simp, ?_⟩
    intro a ha b hb e
    simp at hb
    subst hb e
    exact hn' ha
theorem addL_len (l : List Int) (n : Int) : (addL l n).length ≤ l.length + 1 := by unfold addL; split <;> simp

/-- What add tells. -/
def RetAdd (w : World) (B : Nat) (v : Value) (l : List Int) (n : Int) (e : Ending) (w' : World) : Prop :=
  ∃ v', e = .returned v' ∧ Ints w' B v' (addL l n) ∧ w.grownBy w' v.ownBlock ∧ (v'.ownBlock = v.ownBlock ∨ ∃ g, v'.ownBlock = some g ∧ w.heap.size ≤ g)

set_option maxRecDepth 20000 in
set_option maxHeartbeats 2000000 in
theorem add_p (w : World) (B : Nat) (v : Value) (l : List Int) (n : Int) (h : Ints w B v l) (hB : B ≤ w.heap.size) (hl : l.length ≤ 1000000) :
    Calls Try.prog 73 #[v, .int .i64 n] w (RetAdd w B v l n) := by
  obtain ⟨i0, hi, hz0, hz1, hz2⟩ := info_parts Try.infoInt
  obtain ⟨A, c, rfl⟩ := h.form
  generalize hlen : l.length = L at *
  have HLEN := Lib.hid hlen
  have HH := Lib.hid h
  clear h hlen
  go_enter Try.func73, Try.ntmps73
  go_wp2
  go_loopg [5] L (fun m i wr => ∃ j : Nat, i = .int .i64 (j : Int) ∧ j ≤ L ∧ m = L - j ∧ (∀ k, k < j → ∀ x, l[k]? = some x → x ≠ n) ∧ wr = w)
  case atStart => exact ⟨0, rfl, Nat.zero_le _, rfl, fun k hk => by omega, rfl⟩
  case round =>
    obtain ⟨j, rfl, hj, hmj, hne, rfl⟩ := hrel
    have HMJ := Lib.hid hmj
    have HNE := Lib.hid hne
    clear hmj hne
    by_cases hlt : j < L
    · have hlt' : j < l.length := by rw [HLEN.out]; exact hlt
      obtain ⟨g, c', e1, _, _, hc⟩ := HH.out.at j hlt'
      injection e1 with e1 e2 e3
      subst e1 e3
      clear e2
      have hx : ∃ x, l[j]'hlt' = x := ⟨_, rfl⟩
      obtain ⟨x, hx⟩ := hx
      rw [hx] at hc
      have HX := Lib.hid hx
      clear hx
      cases hxn : (x == n)
      · go_wp2
        go_roundg (L - (j + 1))
        case measure => have := HMJ.out; omega
        case rel =>
          refine ⟨j + 1, by go_num, by omega, rfl, fun k hk y hy => ?_, rfl⟩
          by_cases hkj : k = j
          · subst hkj
            rw [List.getElem?_eq_getElem hlt', HX.out] at hy
            injection hy with hy
            subst hy
            simpa using hxn
          · exact HNE.out k (by omega) y hy
      · go_wp2
        go_ret
        have hm : n ∈ l := by
          have e : x = n := by simpa using hxn
          rw [← e, ← HX.out]
          exact List.getElem_mem hlt'
        have ea : addL l n = l := by unfold addL; rw [if_pos (by simpa using hm)]
        exact ⟨_, rfl, by rw [ea]; exact HH.out, ⟨rfl, rfl, rfl, Nat.le_refl _, fun _ _ _ => rfl⟩, .inl rfl⟩
    · have hn : n ∉ l := by
        intro hm
        obtain ⟨k, hk, e⟩ := List.getElem_of_mem hm
        exact HNE.out k (by rw [HLEN.out] at hk; omega) n (by rw [List.getElem?_eq_getElem hk, e]) rfl
      have ea : addL l n = l ++ [n] := by unfold addL; rw [if_neg (by simpa using hn)]
      have HEA := Lib.hid ea
      have hown := HH.out
      unfold Ints at hown
      rw [HLEN.out] at hown
      have HO := Lib.hid hown
      clear hn ea hown
      go_wp2_with (at_builtin; refine wpList_append_own_at _ rfl _ _ 59 rfl B 3 i0 (.int .i64 0) 1 8 Try.underlying59 hi hz0 hz1 hz2 rfl (by decide) _ _ _ rfl (own_stays HO.out ((Below.refl _ _).alloc (Nat.le_refl _) _)) ⟨wr.heap.size, 0, none⟩ 1 1 [.int .i64 n] rfl rfl (cell_one_new _ _ _) ?c2 ?c3 ?c4 ?c5 ?_)
      case c2 => intro u hu; simp at hu; subst hu; rfl
      case c3 => unfold maxLen; omega
      case c4 => omega
      case c5 => simp; omega
      · intro v' w2 hown' hgrow _ hat
        go_wp2
        go_ret
        have ho := hown'
        have hgB : wr.grownBy w2 (Value.ownBlock (.slice A L c)) := (World.grownBy_alloc wr _ _).trans hgrow
        refine ⟨v', rfl, ?_, hgB, ?_⟩
        · rw [HEA.out]
          unfold Ints
          rw [List.length_append, HLEN.out, List.map_append]
          exact ho
        · rcases hat with hat | hat
          · exact .inl hat
          · exact .inr ⟨_, hat, by simp⟩

end Go.Proofs.Ytnkopcmkanibhaa

/-
  The document's own Sorted. Contracts for other texts; no statement of its own.
-/
namespace Go.Proofs.Ytnkopcmkanibhaa
open Go Go.RowKit
attribute [local go_sem ↓] Go.wp_at_zero Go.wp_at_succ

/-- Of l, what is below n, rising, each once. -/
def sortN (l : List Nat) (n : Nat) : List Nat := (List.range n).filter fun x => l.contains x
theorem sortN_lt (l : List Nat) (n x : Nat) (h : x ∈ sortN l n) : x < n := by
  unfold sortN at h
  simp at h
  exact h.1
theorem sortN_mem (l : List Nat) (n x : Nat) : x ∈ sortN l n ↔ x < n ∧ x ∈ l := by simp [sortN]
theorem sortN_len (l : List Nat) (n : Nat) : (sortN l n).length ≤ n := by
  have := List.length_filter_le (fun x => l.contains x) (List.range n)
  simpa [sortN] using this
theorem sortN_succ (l : List Nat) (n : Nat) : sortN l (n + 1) = sortN l n ++ (if l.contains n then [n] else []) := by
  simp only [sortN, List.range_succ, List.filter_append]
  cases hc : l.contains n
  · rw [List.filter_cons_of_neg (by rw [hc]; decide)]; simp
  · rw [List.filter_cons_of_pos hc]; simp
theorem sortN_add (l : List Nat) (n : Nat) (c : Bool) : addL (ns (sortN l n ++ (if c = true then [n] else []))) (n : Int) = ns (sortN l n ++ [n]) := by
  unfold addL
  cases c
  · have hn : ¬ (n : Int) ∈ ns (sortN l n) := by
      intro h
      simp only [ns, List.mem_map] at h
      obtain ⟨x, hx, e⟩ := h
      have := sortN_lt l n x hx
      have e' : (x : Int) = (n : Int) := e
      omega
    simp only [Bool.false_eq_true, if_false, List.append_nil, List.contains_iff_mem]
    rw [if_neg hn]
    simp [ns]
  · simp only [if_true, List.contains_iff_mem]
    rw [if_pos]
    simp [ns]
theorem has_take (l : List Nat) (i n : Nat) (h : i < l.length) : (l.take (i + 1)).contains n = ((l.take i).contains n || l[i]'h == n) := by
  rw [List.take_succ_eq_append_getElem h, Bool.eq_iff_iff]
  simp only [List.contains_iff_mem, List.mem_append, List.mem_singleton, Bool.or_eq_true, beq_iff_eq]
  exact or_congr Iff.rfl ⟨fun e => e.symm, fun e => e.symm⟩

set_option maxRecDepth 20000 in
set_option maxHeartbeats 4000000 in
theorem sorted_p {w : World} {B : Nat} {v : Value} {l : List Nat} (h : Ints w B v (ns l)) (hl : l.length ≤ 100000) :
    Calls Try.prog 58 #[v] w (RetEndF w (sortN l 300)) := by
  obtain ⟨A, c, rfl⟩ := h.form
  have hA : ∀ (j : Nat) (hj : j < l.length), ∃ g, A = some ⟨g, 0, none⟩ ∧ g < w.heap.size ∧ w.cell? ⟨g, j, none⟩ = some (.int .i64 ((l[j] : Nat) : Int)) := by
    intro j hj
    obtain ⟨g, c', e, _, hg, hc⟩ := h.at j (by rw [ns_len]; exact hj)
    injection e with e
    exact ⟨g, e, hg, by rw [hc]; simp [ns]⟩
  generalize hlen : (ns l).length = L at *
  have hlL : l.length = L := by rw [← hlen, ns_len]
  rw [hlL] at hl
  have HL := Lib.hid hlL
  have HA := Lib.hid hA
  clear h hA hlen hlL
  go_enter Try.func58, Try.ntmps58
  go_wp2
  go_loopg [3, 4] 300 (fun m out n wr => ∃ q : Nat, n = .int .i64 (q : Int) ∧ q ≤ 300 ∧ m = 300 - q ∧ Ints wr w.heap.size out (ns (sortN l q)) ∧ Below w.heap.size w wr)
  case atStart => exact ⟨0, rfl, by omega, rfl, Ints.nil _ _, Below.refl _ _⟩
  case round =>
    obtain ⟨q, rfl, hq, hmq, hout, hW⟩ := hrel
    have HMQ := Lib.hid hmq
    have HOUT := Lib.hid hout
    have HW := Lib.hid hW
    clear hmq hout hW
    by_cases hqt : q < 300
    · go_wp2
      have hd : decide ((q : Int) < 300) = true := by simp; omega
      rw [hd]
      clear hd
      go_loopg [3, 5] L (fun m out i wq => ∃ j : Nat, i = .int .i64 (j : Int) ∧ j ≤ L ∧ m = L - j ∧ Ints wq w.heap.size out (ns (sortN l q ++ (if (l.take j).contains q = true then [q] else []))) ∧ Below w.heap.size w wq)
      case atStart => exact ⟨0, rfl, by omega, rfl, by simpa using HOUT.out, HW.out⟩
      case round =>
        obtain ⟨j, rfl, hj, hmj, hout2, hW2⟩ := hrel
        have HMJ := Lib.hid hmj
        have HOUT2 := Lib.hid hout2
        have HW2 := Lib.hid hW2
        clear hmj hout2 hW2
        by_cases hjt : j < L
        · have hjt' : j < l.length := by rw [HL.out]; exact hjt
          obtain ⟨g, e1, hg, hc⟩ := HA.out j hjt'
          subst e1
          have hht := has_take l j q hjt'
          generalize l[j]'hjt' = x at *
          have hcell : wr.cell? ⟨g, j, none⟩ = some (.int .i64 (x : Int)) := (HW2.out.cell (p := ⟨g, j, none⟩) hg).trans hc
          have hbl : (ns (sortN l q ++ (if (l.take j).contains q = true then [q] else []))).length ≤ 1000000 := by
            have := sortN_len l q
            rw [ns_len, List.length_append]
            split <;> simp <;> omega
          have HADD := Lib.hid (add_p wr w.heap.size _ (ns (sortN l q ++ (if (l.take j).contains q = true then [q] else []))) (q : Int) HOUT2.out HW2.out.size hbl)
          have hadd := sortN_add l q ((l.take j).contains q)
          have HHT := Lib.hid hht
          unfold RetAdd at HADD
          rw [hadd] at HADD
          clear hht hadd hbl hc
          cases hxq : ((x : Int) == (q : Int))
          · go_wp2
            go_roundg (L - (j + 1))
            case measure => have := HMJ.out; omega
            case rel =>
              have e : (x == q) = false := by
                have : ¬ (x : Int) = (q : Int) := by simpa using hxq
                simp
                omega
              exact ⟨j + 1, by go_num, by omega, rfl, by rw [HHT.out, e, Bool.or_false]; exact HOUT2.out, HW2.out⟩
          · go_wp2_with (first
              | (go_at_call 73; (with_reducible refine HADD.out.mono ?_); rintro e w6 ⟨v6, rfl, hi6, hg6, hv6⟩)
              | fail)
            go_roundg (L - (j + 1))
            case measure => have := HMJ.out; omega
            case rel =>
              have e : (x == q) = true := by
                have : (x : Int) = (q : Int) := by simpa using hxq
                simp
                omega
              exact ⟨j + 1, by go_num, by omega, rfl, by rw [HHT.out, e, Bool.or_true]; exact hi6, HW2.out.grown hg6 HW2.out.size (own_at HOUT2.out)⟩
        · have hjn : l.take j = l := List.take_of_length_le (by rw [HL.out]; omega)
          rw [hjn, ← sortN_succ] at HOUT2
          clear hjn
          go_wp2
          go_roundg (300 - (q + 1))
          case measure => have := HMQ.out; omega
          case rel => exact ⟨q + 1, by go_num, by omega, rfl, HOUT2.out, HW2.out⟩
    · have hqn : q = 300 := by omega
      subst hqn
      go_wp2
      go_ret
      exact ⟨_, rfl, HOUT.out, HW.out⟩
end Go.Proofs.Ytnkopcmkanibhaa

/-
  What the document's Build finds is what the program lays out. Plain mathematics; no statement of its own.
-/
namespace Go.Proofs.Ytnkopcmkanibhaa
open Go

theorem rise_eq : ∀ (l m : List Nat), l.Pairwise (· < ·) → m.Pairwise (· < ·) → (∀ x, x ∈ l ↔ x ∈ m) → l = m
  | [], [], _, _, _ => rfl
  | [], y :: m, _, _, h => by have := (h y).2 (by simp); simp at this
  | x :: l, [], _, _, h => by have := (h x).1 (by simp); simp at this
  | x :: l, y :: m, hl, hm, h => by
    rw [List.pairwise_cons] at hl hm
    have e : x = y := by
      have h1 := (h x).1 (by simp)
      have h2 := (h y).2 (by simp)
      simp only [List.mem_cons] at h1 h2
      rcases h1 with h1 | h1
      · exact h1
      · rcases h2 with h2 | h2
        · exact h2.symm
        · have := hm.1 x h1
          have := hl.1 y h2
          omega
    subst e
    refine congrArg _ (rise_eq l m hl.2 hm.2 fun z => ⟨fun hz => ?_, fun hz => ?_⟩)
    · have h1 := (h z).1 (by simp [hz])
      simp only [List.mem_cons] at h1
      rcases h1 with h1 | h1
      · have := hl.1 z hz; omega
      · exact h1
    · have h1 := (h z).2 (by simp [hz])
      simp only [List.mem_cons] at h1
      rcases h1 with h1 | h1
      · have := hm.1 z hz; omega
      · exact h1
theorem sortN_rise (l : List Nat) (n : Nat) : (sortN l n).Pairwise (· < ·) := by
  unfold sortN
  exact List.pairwise_lt_range.filter _
/-- Sorted, a list is the rising one of the same numbers. -/
theorem sortN_is {l m : List Nat} {n : Nat} (hm : m.Pairwise (· < ·)) (h : ∀ x, x ∈ l ↔ x ∈ m) (hlt : ∀ x ∈ m, x < n) : sortN l n = m :=
  rise_eq _ _ (sortN_rise _ _) hm fun x => by
    rw [sortN_mem, h]
    exact ⟨fun h => h.2, fun hx => ⟨hlt x hx, hx⟩⟩
/-- What follow begins with. -/
def start (z : Nat) : Lay := ⟨List.replicate z noneP, List.replicate z []⟩
theorem build_same {t : T} (hwf : WF t) (h256 : plR t ≤ 256) :
    plT (flatT t) = plR t ∧ (folL (flatT t) 0 (start (plR t))).sets = (lay0 t).1.sets ∧ (folL (flatT t) 0 (start (plR t))).follow.map (fun l => sortN l 300) = (lay0 t).1.follow ∧
    sortN (fstT (flatT t) 0) 300 = (lay0 t).2.first ∧ (∀ j, (lstT (flatT t) 0).contains j = (lay0 t).2.last.contains j) ∧ emptyT (flatT t) = (lay0 t).2.empty := by
  have hl0 : LInv ⟨[], []⟩ := ⟨rfl, fun q p h => by simp at h⟩
  obtain ⟨h1, h2, h3, h4, h5⟩ := flat_same hwf ⟨[], []⟩ hl0
  obtain ⟨hi, hg⟩ := lay0_good (xs := []) hwf
  have hsz : (lay0 t).1.sets.length = plR t := by have := lay_size hwf ⟨[], []⟩; simpa [lay0] using this
  change (lay0 t).1.sets = _ at h1
  change (lay0 t).2.empty = _ at h2
  change ∀ p, p ∈ (lay0 t).2.first ↔ _ at h3
  change ∀ p, p ∈ (lay0 t).2.last ↔ _ at h4
  change ∀ q r, fol (lay0 t).1 q r ↔ _ at h5
  simp only [List.nil_append, List.length_nil] at h1 h3 h4 h5
  have hpl : plT (flatT t) = plR t := by rw [plT_len, ← h1]; exact hsz
  have hlf : (folL (flatT t) 0 (start (plR t))).follow.length = plR t := by rw [(folL_len _ _ _).2]; simp [start]
  refine ⟨hpl, ?_, ?_, ?_, fun j => ?_, h2.symm⟩
  · rw [folL_sets _ (ft_flat hwf) 0 _ (by simp [start]; omega), h1]
    simp [start, hpl]
  · have hlen2 : (lay0 t).1.follow.length = plR t := by rw [hi.len]; exact hsz
    apply List.ext_getElem
    · rw [List.length_map, hlf, hlen2]
    · intro q hq1 hq2
      rw [List.length_map, hlf] at hq1
      rw [List.getElem_map]
      have e1 : (folL (flatT t) 0 (start (plR t))).follow[q]'(by omega) = (folL (flatT t) 0 (start (plR t))).follow.getD q [] := by simp [List.getD_eq_getElem?_getD, List.getElem?_eq_getElem (show q < (folL (flatT t) 0 (start (plR t))).follow.length by omega)]
      have e2 : (lay0 t).1.follow[q] = (lay0 t).1.follow.getD q [] := by simp [List.getD_eq_getElem?_getD, List.getElem?_eq_getElem hq2]
      rw [e1, e2]
      refine sortN_is (hg.st q (Nat.zero_le _) (by omega)) (fun x => ?_) fun x hx => ?_
      · rw [folL_mem _ _ _ (by simp [start]; omega)]
        have h0 : ¬ x ∈ (start (plR t)).follow.getD q [] := by simp [start, List.getD_eq_getElem?_getD, List.getElem?_replicate]; split <;> simp
        have h5' := h5 q x
        unfold fol at h5'
        rw [h5']
        exact ⟨fun h => h.elim (fun h => absurd h h0) .inr, fun h => h.elim (fun h => (by simp at h)) .inr⟩
      · have := hi.lt q x hx
        omega
  · refine sortN_is hg.sf (fun x => (h3 x).symm) fun x hx => ?_
    have := (hg.first x hx).2
    omega
  · rw [Bool.eq_iff_iff]
    simp only [List.contains_iff_mem]
    exact (h4 j).symm
end Go.Proofs.Ytnkopcmkanibhaa

/-
  How many places, cut at 1000, as the document counts, and not cut. Plain mathematics; no statement of its own.
-/
namespace Go.Proofs.Ytnkopcmkanibhaa
open Go

theorem plSum_min : ∀ (l : List T), (∀ t ∈ l, plN t = min (plR t) 1000) → min (plSum l) 1000 = min (plRL l) 1000
  | [], _ => rfl
  | t :: ts, h => by
    have h1 := h t (by simp)
    have h2 := plSum_min ts fun u hu => h u (by simp [hu])
    simp only [plSum, plRL]
    omega
theorem plN_min {t : T} (hwf : WF t) : plN t = min (plR t) 1000 := by
  induction hwf with
  | one p => simp [plN, plR, plSum]
  | cat l h2 hN h ih =>
    have := plSum_min l ih
    simp only [plN, plR]
    simpa using this
  | alt l h2 hN h ih =>
    have := plSum_min l ih
    simp only [plN, plR]
    simpa using this
  | rep m n u h0 h1 h2 h3 hu ih =>
    have e1 : plN (.mk 4 noneP m n [u]) = min (plN u * n.toNat) 1000 := by simp [plN, plSum]
    have e2 : plR (.mk 4 noneP m n [u]) = n.toNat * plR u := by simp [plR, plRL]
    rw [e1, e2, ih]
    have hn : 1 ≤ n.toNat := by omega
    rcases Nat.le_total (plR u) 1000 with h | h
    · rw [Nat.min_eq_left h, Nat.mul_comm]
    · rw [Nat.min_eq_right h]
      have a1 : 1000 ≤ 1000 * n.toNat := Nat.le_mul_of_pos_right _ hn
      have a2 : plR u ≤ n.toNat * plR u := Nat.le_mul_of_pos_left _ hn
      omega
end Go.Proofs.Ytnkopcmkanibhaa

/-
  The document's own Build. Contracts for other texts; no statement of its own.
-/
namespace Go.Proofs.Ytnkopcmkanibhaa
open Go Go.RowKit
attribute [local go_sem ↓] Go.wp_at_zero Go.wp_at_succ
attribute [local go_sem ↓] run_appE

theorem sets_made (z : Nat) : (madeCells (Value.agg #[.int .u64 0, .int .u64 0, .int .u64 0, .int .u64 0]).cells (z * 4)).toList = setsC (List.replicate z noneP) := by
  apply List.ext_getElem?
  intro j
  by_cases hj : j < z * 4
  · have hd : j = j / 4 * 4 + j % 4 := by omega
    have hlt : j / 4 < (List.replicate z noneP).length := by rw [List.length_replicate]; omega
    have h1 := setsC_get (List.replicate z noneP) (j / 4) (j % 4) hlt (by omega)
    rw [← hd] at h1
    rw [h1, List.getElem_replicate, word_none]
    have h4 : j % 4 = 0 ∨ j % 4 = 1 ∨ j % 4 = 2 ∨ j % 4 = 3 := by omega
    simp only [madeCells, Value.cells, Array.toList_map, Array.toList_range, List.getElem?_map, List.getElem?_range hj, Option.map_some]
    have hs : (#[Value.int .u64 0, .int .u64 0, .int .u64 0, .int .u64 0] : Array Value).size = 4 := rfl
    rcases h4 with h | h | h | h <;> simp [h]
  · rw [List.getElem?_eq_none (by simp [madeCells]; omega), List.getElem?_eq_none (by rw [setsC_len, List.length_replicate]; omega)]
theorem lists_made (z : Nat) : (madeCells (Value.slice none 0 0).cells (z * 1)).toList = List.replicate z (Value.slice none 0 0) := by
  have := toList_madeCells_one (Value.slice none 0 0) z
  rw [Nat.mul_one]
  exact this
theorem foldAt_nil (w : World) (B z : Nat) (Q : Nat → Prop) : FolAt w B (List.replicate z (.slice none 0 0)) (List.replicate z []) Q := by
  have hg : ∀ (i : Nat) (v : Value), (List.replicate z (Value.slice none 0 0))[i]? = some v → v = .slice none 0 0 := fun i v h => by
    rw [List.getElem?_replicate] at h
    split at h
    · injection h with h; exact h.symm
    · cases h
  refine ⟨by simp, fun i v l h1 h2 => ?_, fun i v b h1 h2 => ?_, fun i j v v' b h1 h2 h3 h4 => ?_⟩
  · have := hg i v h1
    subst this
    rw [List.getElem?_replicate] at h2
    split at h2
    · injection h2 with h2
      subst h2
      exact Ints.nil _ _
    · cases h2
  · have := hg i v h1
    subst this
    cases h2
  · have := hg i v h1
    subst this
    cases h3
/-- What Build makes, as follow begins with it. -/
theorem nfaD_new {W : World} {C ga gs gm gf z : Nat} {e : Bool} {M4 M1 MB : Array Value} (hz : z ≤ 256) (hs : HasO W gs (.cells M4 72 (0, 0))) (hM4 : M4.toList = setsC (List.replicate z noneP)) (hf : HasO W gf (.cells M1 59 (0, 0))) (hM1 : M1.toList = List.replicate z (.slice none 0 0))
    (hm : HasO W gm (.cells MB 4 (0, 0))) (hMB : MB.toList = boolsV z fun _ => false) (ha : HasO W ga (.cells #[.slice (some ⟨gs, 0, none⟩) z z, .slice none 0 0, .slice (some ⟨gm, 0, none⟩) z z, .slice (some ⟨gf, 0, none⟩) z z, .bool e] 84 (0, 0)))
    (g1 : C ≤ gs) (g2 : C ≤ gf) (g3 : C ≤ gm) (g4 : C ≤ ga) :
    NfaD W C ga gs gf z (.slice (some ⟨gm, 0, none⟩) z z) e (start z) (fun b => b = ga ∨ b = gs ∨ b = gf) ∧ Bools W C gm z (fun _ => false) ∧ ¬ (gm = ga ∨ gm = gs ∨ gm = gf) := by
  have s4 : M4.size = z * 4 := by rw [← Array.length_toList, hM4, setsC_len, List.length_replicate]
  have s1 : M1.size = z * 1 := by rw [← Array.length_toList, hM1, List.length_replicate, Nat.mul_one]
  have sB : MB.size = z * 1 := by rw [← Array.length_toList, hMB]; simp [boolsV]
  have hmax : z ≤ maxLen := by unfold maxLen; omega
  refine ⟨⟨fun b q => ?_, .inl rfl, ha, ⟨?_, fun b e => ?_, ⟨_, ?_, foldAt_nil _ _ _ _⟩, fun b e => ?_⟩, by simp [start], by simp [start]⟩, ?_, ?_⟩
  · have a1 := lt_of_some hs
    have a2 := lt_of_some hf
    have a3 := lt_of_some ha
    rcases q with q | q | q <;> subst q <;> omega
  · simp only [start, List.length_replicate]
    exact ⟨by simp [setsC_len], .inr ⟨gs, z, M4, rfl, g1, hs, Nat.le_refl _, hmax, s4, by rw [← hM4]; exact List.take_of_length_le (by rw [Array.length_toList]; omega)⟩⟩
  · injection e with e; exact .inr (.inl e.symm)
  · simp only [start, List.length_replicate]
    exact ⟨by simp, .inr ⟨gf, z, M1, rfl, g2, hf, Nat.le_refl _, hmax, s1, by rw [← hM1]; exact List.take_of_length_le (by rw [Array.length_toList]; omega)⟩⟩
  · injection e with e; exact .inr (.inr e.symm)
  · exact ⟨by simp [boolsV], .inr ⟨gm, z, MB, rfl, g3, hm, Nat.le_refl _, hmax, sB, by rw [← hMB]; exact List.take_of_length_le (by rw [Array.length_toList]; omega)⟩⟩
  · rintro (q | q | q)
    · exact kind_apart hm ha (by decide) q
    · exact kind_apart hm hs (by decide) q
    · exact kind_apart hm hf (by decide) q

theorem Try.infoSetD : (Try.prog.info? 72).map (fun i => (i.zero, i.size, i.bytes)) = some (some (.agg #[.int .u64 0, .int .u64 0, .int .u64 0, .int .u64 0]), 4, 32) := by kernel_rfl
theorem Try.infoListD : (Try.prog.info? 59).map (fun i => (i.zero, i.size, i.bytes)) = some (some (.slice none 0 0), 1, 24) := by kernel_rfl
theorem makes_are (z : Nat) (hz : z ≤ 256) : ∃ M4 M1 MB : Array Value, M4.toList = setsC (List.replicate z noneP) ∧ M1.toList = List.replicate z (.slice none 0 0) ∧ MB.toList = boolsV z (fun _ => false) ∧
    (∀ W : World, (Instr.makeSlice 82 (.int .i64 (z : Int)) (.int .i64 (z : Int))).run Try.prog W = .ok (.slice (some ⟨W.heap.size, 0, none⟩) z z) (W.alloc (.cells M4 72))) ∧
    (∀ W : World, (Instr.makeSlice 23 (.int .i64 (z : Int)) (.int .i64 (z : Int))).run Try.prog W = .ok (.slice (some ⟨W.heap.size, 0, none⟩) z z) (W.alloc (.cells MB 4))) ∧
    (∀ W : World, (Instr.makeSlice 35 (.int .i64 (z : Int)) (.int .i64 (z : Int))).run Try.prog W = .ok (.slice (some ⟨W.heap.size, 0, none⟩) z z) (W.alloc (.cells M1 59))) := by
  obtain ⟨i1, a1, a2, a3, a4⟩ := info_parts Try.infoSetD
  obtain ⟨i2, b1, b2, b3, b4⟩ := info_parts Try.infoBool
  obtain ⟨i3, d1, d2, d3, d4⟩ := info_parts Try.infoListD
  refine ⟨_, _, _, sets_made z, lists_made z, bools_made z, fun W => ?_, fun W => ?_, fun W => ?_⟩
  · have := run_make (P := Try.prog) (w := W) 82 72 i1 _ Try.underlying82 a1 a2 .i64 .i64 (z : Int) (z : Int) (by omega) (Int.le_refl _) (by rw [a4]; omega) (by omega)
    rw [a3] at this
    simpa using this
  · have := run_make (P := Try.prog) (w := W) 23 4 i2 _ Try.underlying23 b1 b2 .i64 .i64 (z : Int) (z : Int) (by omega) (Int.le_refl _) (by rw [b4]; omega) (by omega)
    rw [b3] at this
    simpa using this
  · have := run_make (P := Try.prog) (w := W) 35 59 i3 _ Try.underlying35 d1 d2 .i64 .i64 (z : Int) (z : Int) (by omega) (Int.le_refl _) (by rw [d4]; omega) (by omega)
    rw [d3] at this
    simpa using this
theorem leafD {w4 wx : World} {ga gs gm gf z : Nat} {e : Bool} {M4 M1 MB : Array Value}
    (h0 : HasO wx ga (.cells #[.slice (some ⟨gs, 0, none⟩) z z, .slice none 0 0, .slice (some ⟨gm, 0, none⟩) z z, .slice (some ⟨gf, 0, none⟩) z z, .bool e] 84 (0, 0)))
    (h1 : HasO wx gs (.cells M4 72 (0, 0))) (h2 : HasO wx gf (.cells M1 59 (0, 0))) (h3 : HasO wx gm (.cells MB 4 (0, 0))) (h4 : Below w4.heap.size w4 wx) (h5 : w4.heap.size ≤ gs ∧ w4.heap.size ≤ gf ∧ w4.heap.size ≤ gm ∧ w4.heap.size ≤ ga) :
    ∃ ga' gs gm gf, Value.pointer (some ⟨ga, 0, none⟩) = .pointer (some ⟨ga', 0, none⟩) ∧ HasO wx ga' (.cells #[.slice (some ⟨gs, 0, none⟩) z z, .slice none 0 0, .slice (some ⟨gm, 0, none⟩) z z, .slice (some ⟨gf, 0, none⟩) z z, .bool e] 84 (0, 0)) ∧
      HasO wx gs (.cells M4 72 (0, 0)) ∧ HasO wx gf (.cells M1 59 (0, 0)) ∧ HasO wx gm (.cells MB 4 (0, 0)) ∧ Below w4.heap.size w4 wx ∧ (w4.heap.size ≤ gs ∧ w4.heap.size ≤ gf ∧ w4.heap.size ≤ gm ∧ w4.heap.size ≤ ga') :=
  ⟨ga, gs, gm, gf, rfl, h0, h1, h2, h3, h4, h5⟩
/-- Rows stay when blocks of other kinds change. -/
theorem rows_kept {w w' : World} {C : Nat} {vs vf : Value} {s : Lay} {Q Q' : Nat → Prop} (h : RowsAt w C vs vf s Q) (hk : Kept Q' w w')
    (hq : ∀ b, Q' b → b < w.heap.size → ∃ cur ty, w.heap[b]? = some (.cells cur ty (0, 0)) ∧ ty ≠ 72 ∧ ty ≠ 59 ∧ ty ≠ 3) : RowsAt w' C vs vf s Q := by
  have key : ∀ (b : Nat) (cur : Array Value) (ty : TypeId), w.heap[b]? = some (.cells cur ty (0, 0)) → (ty = 72 ∨ ty = 59 ∨ ty = 3) → w'.heap[b]? = w.heap[b]? := fun b cur ty hb ht => by
    refine hk.block b (lt_of_some hb) fun q => ?_
    obtain ⟨cur', ty', hb', n1, n2, n3⟩ := hq b q (lt_of_some hb)
    have hne : ty' ≠ ty := fun e => by
      rcases ht with h | h | h
      · exact n1 (e.trans h)
      · exact n2 (e.trans h)
      · exact n3 (e.trans h)
    exact kind_apart hb' hb hne rfl
  obtain ⟨fs, h1, h2⟩ := h.fols
  refine ⟨own_block h.sets fun b e hb => ?_, h.setsQ, ⟨fs, own_block h1 fun b e hb => ?_, ⟨h2.len, fun i v l e1 e2 => (h2.get i v l e1 e2).block fun b e3 hb => ?_, h2.inQ, h2.apart⟩⟩, h.folsQ⟩
  · obtain ⟨cur, hc⟩ := own_kind h.sets e
    exact key b cur _ hc (.inl rfl)
  · obtain ⟨cur, hc⟩ := own_kind h1 e
    exact key b cur _ hc (.inr (.inl rfl))
  · obtain ⟨cur, hc⟩ := (h2.get i v l e1 e2).kind e3
    exact key b cur _ hc (.inr (.inr rfl))
/-- A box of the document's places. -/
def BoxG (w : World) (g : Nat) (a b c d : Value) (e : Bool) : Prop := w.heap[g]? = some (.cells #[a, b, c, d, .bool e] 84 (0, 0))
section
variable {w w' : World} {g x y : Nat} {a b c d v : Value} {e : Bool}
theorem BoxG.cell (h : BoxG w g a b c d e) : w.cell? ⟨g, 0, none⟩ = some a ∧ w.cell? ⟨g, 1, none⟩ = some b ∧ w.cell? ⟨g, 2, none⟩ = some c ∧ w.cell? ⟨g, 3, none⟩ = some d ∧ w.cell? ⟨g, 4, none⟩ = some (.bool e) := by
  unfold BoxG at h
  refine ⟨?_, ?_, ?_, ?_, ?_⟩ <;> exact cell_of_row w g _ _ 84 (0, 0) h
theorem BoxG.frozen (h : BoxG w g a b c d e) : w.frozen? ⟨g, 0, none⟩ = false ∧ w.frozen? ⟨g, 1, none⟩ = false ∧ w.frozen? ⟨g, 2, none⟩ = false ∧ w.frozen? ⟨g, 3, none⟩ = false ∧ w.frozen? ⟨g, 4, none⟩ = false := by
  unfold BoxG at h
  refine ⟨?_, ?_, ?_, ?_, ?_⟩ <;> simp [World.frozen?, h]
theorem BoxG.off {Q : Nat → Prop} (h : BoxG w g a b c d e) (hk : Kept Q w w') (hq : ¬ Q g) : BoxG w' g a b c d e := (hk.block g (lt_of_some h) hq).trans h
theorem BoxG.stays (h : BoxG w g a b c d e) (hb : Below w.heap.size w w') : BoxG w' g a b c d e := (hb.block g (lt_of_some h)).trans h
theorem BoxG.put1 (h : BoxG w g a b c d e) (b' : Value) : BoxG (w.setCell ⟨g, 1, none⟩ b') g a b' c d e := by
  unfold BoxG at h ⊢
  rw [heap_setCell_same w g 1 _ _ b' h]
  rfl
theorem BoxG.put (h : BoxG w g a b c d e) (a' b' c' d' : Value) (e' : Bool) : BoxG (((((w.setCell ⟨g, 0, none⟩ a').setCell ⟨g, 1, none⟩ b').setCell ⟨g, 2, none⟩ c').setCell ⟨g, 3, none⟩ d').setCell ⟨g, 4, none⟩ (.bool e')) g a' b' c' d' e' := by
  unfold BoxG at h ⊢
  have h0 := heap_setCell_same w g 0 _ _ a' h
  have h1 := heap_setCell_same _ g 1 _ _ b' h0
  have h2 := heap_setCell_same _ g 2 _ _ c' h1
  have h3 := heap_setCell_same _ g 3 _ _ d' h2
  rw [heap_setCell_same _ g 4 _ _ (.bool e') h3]
  rfl
theorem loadVarG (h : BoxG w g a b c d e) : (loadVar 84 ⟨g, 0, none⟩).run Try.prog w = .ok (.agg #[a, b, c, d, .bool e]) w := by
  obtain ⟨c0, c1, c2, c3, c4⟩ := h.cell
  have h1 : (loadCells ⟨g, 0, none⟩ 5).run Try.prog w = .ok #[a, b, c, d, .bool e] w := run_loadCells w ⟨g, 0, none⟩ 5 (fun j => if j = 0 then a else if j = 1 then b else if j = 2 then c else if j = 3 then d else .bool e) (fun j hj => by
    rw [Addr.add_lit, Nat.zero_add]
    match j, hj with
    | 0, _ => exact c0
    | 1, _ => exact c1
    | 2, _ => exact c2
    | 3, _ => exact c3
    | 4, _ => exact c4)
  have h2 : (isAgg 84).run Try.prog w = .ok true w := by kernel_rfl
  have h3 : (sizeOf 84).run Try.prog w = .ok 5 w := by kernel_rfl
  simp [loadVar, Sem.run_bind, h1, h2, h3]
theorem ret_nfaD {fn : Func} {R : Ending → World → Prop} {a0 : Act} (hr : fn.results = #[.cell x 84, .tmp y]) (hx : a0.tmps.getD x undef = .pointer (some ⟨g, 0, none⟩)) (hy : a0.tmps.getD y undef = v) (hd : a0.defers = []) (h : BoxG w g a b c d e)
    (hR : R (.returned (.tuple #[.agg #[a, b, c, d, .bool e], v])) w) : bodyPost Try.prog fn R .ret a0 w := by
  refine bodyPost_ret ?_ hd hR
  have e0 : (#[ResultVar.cell x 84, .tmp y] : Array ResultVar) = [ResultVar.cell x 84, .tmp y].toArray := rfl
  rw [Array.getD_eq_getD_getElem?] at hx hy
  unfold results
  rw [hr, e0]
  simp [Sem.run_bind, hx, hy, loadVarG h, asAddr]
end
/-- What Build tells. -/
def RetBuildD (w : World) (s : Lay) (x : Str) (e : Ending) (w' : World) : Prop :=
  ∃ A1 m1 c1 A2 m2 c2 gm A3 m3 c3, e = .returned (.tuple #[.agg #[.slice A1 m1 c1, .slice A2 m2 c2, .slice (some ⟨gm, 0, none⟩) s.sets.length s.sets.length, .slice A3 m3 c3, .bool x.empty], .bool true]) ∧
    NfaAt w' w.heap.size (.slice A1 m1 c1) (.slice A2 m2 c2) gm (.slice A3 m3 c3) s x ∧ Below w.heap.size w w'

set_option maxRecDepth 20000 in
set_option maxHeartbeats 4000000 in
theorem buildD_p {t : T} {w : World} {ok : Nat → Prop} {k : Value} (hwf : WF t) (ht : Tree w ok t k) (h256 : plR t ≤ 256) : Calls Try.prog 34 #[nodeP t k] w (RetBuildD w (lay0 t).1 (lay0 t).2) := by
  obtain ⟨A, n, c, rfl⟩ := ht.form
  obtain ⟨hpl, hsets, hfol, hfst, hlst, hemp⟩ := build_same hwf h256
  obtain ⟨z, hz⟩ : ∃ z, plR t = z := ⟨_, rfl⟩
  have hzN : plN t = z := by have := plN_min hwf; omega
  have hsz : (lay0 t).1.sets.length = z := by rw [← hsets, (folL_len _ _ _).1, ← hz]; simp [start]
  have b1 := (Box8.new w t (.slice A n c)).alloc (.cells #[.slice none 0 0, .slice none 0 0, .slice none 0 0, .slice none 0 0, .bool false] 84)
  have hB : Below w.heap.size w ((w.alloc (.cells #[.int .i64 t.op, .int .u64 (word t.set 0), .int .u64 (word t.set 1), .int .u64 (word t.set 2), .int .u64 (word t.set 3), .int .i64 t.lo, .int .i64 t.hi, .slice A n c] 75)).alloc (.cells #[.slice none 0 0, .slice none 0 0, .slice none 0 0, .slice none 0 0, .bool false] 84)) :=
    ((Below.refl _ _).alloc (Nat.le_refl _) _).alloc (by simp) _
  have hR : HasO ((w.alloc (.cells #[.int .i64 t.op, .int .u64 (word t.set 0), .int .u64 (word t.set 1), .int .u64 (word t.set 2), .int .u64 (word t.set 3), .int .i64 t.lo, .int .i64 t.hi, .slice A n c] 75)).alloc (.cells #[.slice none 0 0, .slice none 0 0, .slice none 0 0, .slice none 0 0, .bool false] 84)) (w.heap.size + 1) (.cells #[.slice none 0 0, .slice none 0 0, .slice none 0 0, .slice none 0 0, .bool false] 84 (0, 0)) := has_new _ _ _ _ (by simp)
  have HP := Lib.hid (places_p _ hwf (ht.stays hB))
  have HFL := Lib.hid (fun w' (hb : Below w.heap.size w w') => flat_p (w := w') hwf (ht.stays hb))
  have hft := ft_flat hwf
  rw [hz] at hpl hsets hfol h256
  generalize flatT t = fl at *
  unfold nodeP RetInt at HP
  unfold RetFlat at HFL
  unfold nodeP
  unfold nodeP at HFL
  rw [hzN] at HP
  obtain ⟨s0, x0, e0⟩ : ∃ a b, lay0 t = (a, b) := ⟨_, _, rfl⟩
  rw [e0] at hsets hfol hfst hlst hemp hsz ⊢
  simp only at hsets hfol hfst hlst hemp hsz ⊢
  have HSAME := Lib.hid (And.intro hpl (And.intro hsets (And.intro hfol (And.intro hfst (And.intro hlst hsz)))))
  have HEMP := Lib.hid hemp
  have HB := Lib.hid hB
  have HR := Lib.hid hR
  have HB1 := Lib.hid b1
  have HFT := Lib.hid hft
  obtain ⟨c0, c1, c2, c3, c4, c5, c6, c7⟩ := b1.cell
  have hzl : ¬ (256 : Int) < (z : Int) := by omega
  obtain ⟨M4, M1, MB, hM4, hM1, hMB, mk4, mkB, mk1⟩ := makes_are z h256
  have HM := Lib.hid (And.intro hM4 (And.intro hM1 hMB))
  clear hB hR b1 hft ht hwf hz hpl hsets hfol hfst hlst hemp hsz e0 hzN hM4 hM1 hMB
  go_enter Try.func34, Try.ntmps34
  go_wp2_with (first
    | (go_at_call 54; (with_reducible refine HP.out.mono ?_); rintro e2 w2 ⟨rfl, b2⟩; have hb2 := gro HB.out b2; have HB2 := Lib.hid hb2; have hx2 := HB1.out.stays b2; obtain ⟨d0, d1, d2, d3, d4, d5, d6, d7⟩ := hx2.cell; have HR2 := Lib.hid (has_stays HR.out b2); clear hx2 b2 hb2)
    | (go_at_call 55; (with_reducible refine (HFL.out w2 HB2.out).mono ?_); rintro e3 w3 ⟨k3, rfl, t3, b3⟩; obtain ⟨A3, n3, m3, rfl⟩ := t3.form; have HT3 := Lib.hid t3; have HB3 := Lib.hid (gro HB2.out b3); have HR3 := Lib.hid (has_stays HR2.out b3); have hs3 := b3.size; clear t3 b3)
    | fail)
  have hbf := Box8.new w3 fl (.slice A3 n3 m3)
  generalize hw4 : w3.alloc (.cells #[.int .i64 fl.op, .int .u64 (word fl.set 0), .int .u64 (word fl.set 1), .int .u64 (word fl.set 2), .int .u64 (word fl.set 3), .int .i64 fl.lo, .int .i64 fl.hi, .slice A3 n3 m3] 75) = w4 at *
  have hs4 : w4.heap.size = w3.heap.size + 1 := by rw [← hw4]; simp
  have hB34 : Below w3.heap.size w3 w4 := by rw [← hw4]; exact (Below.refl _ _).alloc (Nat.le_refl _) _
  have HBF := Lib.hid hbf
  have HB4 := Lib.hid (gro HB3.out hB34)
  have HR4 := Lib.hid (has_stays HR3.out hB34)
  have HT4 := Lib.hid (HT3.out.stays hB34)
  have HKE := Lib.hid (fun w' (hb : Below w4.heap.size w4 w') => (empty_p (w := w') HFT.out (HT4.out.stays hb)).mono fun e w'' ⟨h1, h2⟩ => (show _ ∧ Below w'.heap.size w' w'' ∧ Box8 w'' w3.heap.size fl (.slice A3 n3 m3) from ⟨h1, h2, HBF.out.stays (gro hb h2)⟩))
  unfold nodeP at HKE
  obtain ⟨c0', c1', c2', c3', c4', c5', c6', c7'⟩ := hbf.cell
  have hfl4 : w3.heap.size < w4.heap.size := by omega
  clear hw4 hbf hB34 HT3 HR3 HB3 HB2 HR2 HFL HP HB HR HB1 hs3 c0 c1 c2 c3 c4 c5 c6 c7 d0 d1 d2 d3 d4 d5 d6 d7
  go_upto_region 5 with fail
  go_cut [6] from 17 to 26 (fun s6 wx => ∃ ga gs gm gf, s6 = .pointer (some ⟨ga, 0, none⟩) ∧ HasO wx ga (.cells #[.slice (some ⟨gs, 0, none⟩) z z, .slice none 0 0, .slice (some ⟨gm, 0, none⟩) z z, .slice (some ⟨gf, 0, none⟩) z z, .bool (emptyT fl)] 84 (0, 0)) ∧
    HasO wx gs (.cells M4 72 (0, 0)) ∧ HasO wx gf (.cells M1 59 (0, 0)) ∧ HasO wx gm (.cells MB 4 (0, 0)) ∧ Below w4.heap.size w4 wx ∧ (w4.heap.size ≤ gs ∧ w4.heap.size ≤ gf ∧ w4.heap.size ≤ gm ∧ w4.heap.size ≤ ga))
  case first =>
    go_region_held3 (fun w' => w'.cell? ⟨w3.heap.size, 0, none⟩ = some (.int .i64 fl.op) ∧ w'.cell? ⟨w3.heap.size, 1, none⟩ = some (.int .u64 (word fl.set 0)) ∧ w'.cell? ⟨w3.heap.size, 2, none⟩ = some (.int .u64 (word fl.set 1)) ∧ w'.cell? ⟨w3.heap.size, 3, none⟩ = some (.int .u64 (word fl.set 2)) ∧ w'.cell? ⟨w3.heap.size, 4, none⟩ = some (.int .u64 (word fl.set 3)) ∧ w'.cell? ⟨w3.heap.size, 5, none⟩ = some (.int .i64 fl.lo) ∧ w'.cell? ⟨w3.heap.size, 6, none⟩ = some (.int .i64 fl.hi) ∧ w'.cell? ⟨w3.heap.size, 7, none⟩ = some (.slice A3 n3 m3))
      (refine ⟨?_, ?_, ?_, ?_, ?_, ?_, ?_, ?_⟩ <;> (repeat (first | with_reducible assumption | with_reducible refine cell_dr ?_ | with_reducible refine cell_al ?_ _))) (first
      | (go_at_call 56; (with_reducible refine (HKE.out _ (by repeat (first | with_reducible exact Below.refl _ _ | with_reducible refine below_al ?_ rfl _ | with_reducible refine Below.drew ?_))).mono ?_); rintro e5 w5 ⟨rfl, b5, x5⟩; obtain ⟨r0, r1, r2, r3, r4, r5, r6, r7⟩ := x5.cell; have hl5 : w3.heap.size < w5.heap.size := x5.lt; clear x5))
    all_goals
      go_wp2
      go_meet
      have hs5 := b5.size
      simp only [World.size_alloc, World.size_drew] at hs5
      apply leafD
      case h0 => repeat (first | with_reducible exact has_new _ _ _ _ (by first | omega | (simp only [World.size_alloc, World.size_drew] <;> omega)) | with_reducible refine has_alloc _ ?_ | with_reducible refine has_drew ?_ | with_reducible refine has_below b5 ?_)
      case h1 => repeat (first | with_reducible exact has_new _ _ _ _ (by first | omega | (simp only [World.size_alloc, World.size_drew] <;> omega)) | with_reducible refine has_alloc _ ?_ | with_reducible refine has_drew ?_ | with_reducible refine has_below b5 ?_)
      case h2 => repeat (first | with_reducible exact has_new _ _ _ _ (by first | omega | (simp only [World.size_alloc, World.size_drew] <;> omega)) | with_reducible refine has_alloc _ ?_ | with_reducible refine has_drew ?_ | with_reducible refine has_below b5 ?_)
      case h3 => repeat (first | with_reducible exact has_new _ _ _ _ (by first | omega | (simp only [World.size_alloc, World.size_drew] <;> omega)) | with_reducible refine has_alloc _ ?_ | with_reducible refine has_drew ?_ | with_reducible refine has_below b5 ?_)
      case h4 => repeat (first | with_reducible exact Below.refl _ _ | with_reducible refine below_al ?_ rfl _ | with_reducible refine Below.drew ?_ | with_reducible refine gro ?_ b5)
      case h5 =>
        try simp only [World.size_alloc, World.size_drew]
        refine ⟨?_, ?_, ?_, ?_⟩ <;> omega
  case rest =>
    obtain ⟨ga, gs, gm, gf, rfl, o0, o1, o2, o3, bc, hle⟩ := hcut
    have hww := HB4.out.size
    obtain ⟨hD, hBo, hnQ⟩ := nfaD_new (C := w.heap.size) h256 o1 HM.out.1 o2 HM.out.2.1 o3 HM.out.2.2 o0 (by omega) (by omega) (by omega) (by omega)
    have hbf := HBF.out.stays bc
    have HD := Lib.hid hD
    have HBO := Lib.hid hBo
    have HNQ := Lib.hid hnQ
    have HBC := Lib.hid bc
    have HBF2 := Lib.hid hbf
    have HTC := Lib.hid ((HT4.out.weak (ok' := fun b => b < w4.heap.size) fun b _ hb => hb).stays bc)
    have HLE := Lib.hid hle
    have HPL := Lib.hid HSAME.out.1
    obtain ⟨c0, c1, c2, c3, c4, c5, c6, c7⟩ := hbf.cell
    have hFW := follow_p (a := 0) HFT.out HTC.out (fun b hb q => by rcases q with q | q | q <;> omega) (by have := HSAME.out.1; omega) h256 HD.out (by have := bc.size; omega) (fun q => by
      have : (start z).follow.getD q [] = [] := by simp [start, List.getD_eq_getElem?_getD, List.getElem?_replicate]; split <;> rfl
      rw [this, HSAME.out.1]
      have := Nat.mul_le_mul h256 h256
      simp
      omega)
    unfold nodeP RetFol at hFW
    rw [show ((0 : Nat) : Int) = 0 from rfl] at hFW
    have HFW := Lib.hid hFW
    clear o0 o1 o2 o3 hD hBo hnQ bc hle hbf hFW c0' c1' c2' c3' c4' c5' c6' c7'
    go_wp2_with (first
      | (go_at_call 57; (with_reducible refine HFW.out.mono ?_); rintro e6 w6 ⟨rfl, Q6, D6, K6, q6⟩; have HD6 := Lib.hid D6; have HK6 := Lib.hid K6; have HQ6 := Lib.hid q6; clear D6 K6 q6)
      | fail)
    have hgrow : ∀ q, ((folL fl 0 (start z)).follow.getD q []).length ≤ 70000 := fun q => by
      have h1 := folL_gr fl 0 (start z) q
      have h2 : (start z).follow.getD q [] = [] := by simp [start, List.getD_eq_getElem?_getD, List.getElem?_replicate]; split <;> rfl
      rw [h2, HPL.out] at h1
      have := Nat.mul_le_mul h256 h256
      rw [List.length_nil] at h1
      omega
    have hflen : (folL fl 0 (start z)).follow.length = z := HD6.out.nf
    have HSETS := Lib.hid HSAME.out.2.1
    have HFOL := Lib.hid HSAME.out.2.2.1
    generalize folL fl 0 (start z) = s1 at *
    have HGR := Lib.hid hgrow
    have HFLN := Lib.hid hflen
    have hs6 := HK6.out.size
    have hfa : ga ≠ gf := by obtain ⟨-, ⟨c2, k2⟩⟩ := HD6.out.kinds; exact kind_apart HD6.out.box k2 (by decide)
    clear hgrow hflen c0 c1 c2 c3 c4 c5 c6 c7
    go_loopg [7] z (fun m i wr => ∃ (p : Nat) (Qp : Nat → Prop), i = .int .i64 (p : Int) ∧ p ≤ z ∧ m = z - p ∧ NfaD wr w.heap.size ga gs gf z (.slice (some ⟨gm, 0, none⟩) z z) (emptyT fl) ⟨s1.sets, (s1.follow.take p).map (fun l => sortN l 300) ++ s1.follow.drop p⟩ Qp ∧ Kept Q6 w6 wr ∧ ∀ b, Qp b → Q6 b ∨ w6.heap.size ≤ b)
    case atStart => exact ⟨0, Q6, by first | rfl | trivial, Nat.zero_le _, rfl, by simpa using HD6.out, Kept.refl _ _, fun b h => .inl h⟩
    case round =>
      obtain ⟨p, Qp, rfl, hp, hmp, hDp, hKp, hQp⟩ := hrel
      have HMP := Lib.hid hmp
      have HDP := Lib.hid hDp
      have HKP := Lib.hid hKp
      have HQP := Lib.hid hQp
      clear hmp hDp hKp hQp
      by_cases hpz : p < z
      · have cga := HDP.out.cell.2
        obtain ⟨vp, cgf, fgf, hlist, hvp, -⟩ := HDP.out.open p hpz
        have hpl : p < s1.follow.length := by rw [HFLN.out]; exact hpz
        have hget : ((s1.follow.take p).map (fun l => sortN l 300) ++ s1.follow.drop p).getD p [] = s1.follow.getD p [] := by
          rw [List.getD_eq_getElem?_getD, List.getD_eq_getElem?_getD, List.getElem?_append_right (by simp; omega)]
          simp [Nat.min_eq_left (Nat.le_of_lt hpl)]
        rw [hget] at hlist
        have hset : ((s1.follow.take p).map (fun l => sortN l 300) ++ s1.follow.drop p).set p (sortN (s1.follow.getD p []) 300) = (s1.follow.take (p + 1)).map (fun l => sortN l 300) ++ s1.follow.drop (p + 1) := by
          have e1 : s1.follow.drop p = s1.follow[p]'hpl :: s1.follow.drop (p + 1) := List.drop_eq_getElem_cons hpl
          have e2 : s1.follow.getD p [] = s1.follow[p]'hpl := by simp [List.getD_eq_getElem?_getD, List.getElem?_eq_getElem hpl]
          have e3 : ((s1.follow.take p).map (fun l => sortN l 300)).length = p := by simp; omega
          rw [e2, e1, List.set_append_right _ _ (by omega), e3, Nat.sub_self, List.set_cons_zero, List.take_succ_eq_append_getElem hpl, List.map_append]
          simp
        obtain ⟨Av, nv, mv, hfv⟩ := hlist.form3
        subst hfv
        have HK := Lib.hid (sorted_p (w := wr.drew) hlist (Nat.le_trans (HGR.out p) (by omega)))
        unfold RetEndF at HK
        have hgal := (HDP.out.ge _ HDP.out.aQ).2
        have hgfl := (HDP.out.ge _ HDP.out.fQ).2
        have p1' : p + 1 ≤ z := hpz
        have p0 : (0 : Int) ≤ (p : Int) := by omega
        have p1 : (p : Int) < (z : Int) := by omega
        have HSET := Lib.hid hset
        clear hlist hvp hget hset
        go_upto_region 10 with fail
        go_region_law (first
          | (go_simp; go_at_call 58; (with_reducible refine HK.out.mono ?_); rintro e7 w7 ⟨v7, rfl, i7, b7⟩; obtain ⟨A7, n7, m7, rfl⟩ := i7.form3; have D7 := HDP.out.stays (undrew b7); have cga7 := D7.cell.2; have fgf7 : w7.frozen? ⟨gf, p, none⟩ = false := (World.frozen?_of_block ((undrew b7).block gf hgfl)).trans fgf; have cgf7 : w7.cell? ⟨gf, p, none⟩ = some (.slice Av nv mv) := (World.cell?_of_block ((undrew b7).block gf hgfl)).trans cgf; have HD7 := Lib.hid D7; have HI7 := Lib.hid i7; have HB7 := Lib.hid (undrew b7); clear D7 i7 b7)
          | fail)
        all_goals
          go_wp2
          go_roundg (z - (p + 1))
          case measure => have := HMP.out; omega
          case rel =>
            have hwr : w.heap.size ≤ wr.heap.size := by have := HKP.out.size; have := hs6; have := HBC.out.size; have := HB4.out.size; omega
            have hi : Ints w7 w.heap.size (.slice A7 n7 m7) (ns (sortN (s1.follow.getD p []) 300)) := HI7.out.low hwr
            have hn : ∀ b, (Value.slice A7 n7 m7).ownBlock = some b → ¬ Qp b := fun b e q => by have h1 := (HI7.out.in e).1; have h2 := (HDP.out.ge b q).2; simp only [World.size_drew] at h1; omega
            have hD := HD7.out.setF p p1' hi hn
            have hlow : ∀ b, (Value.slice A7 n7 m7).ownBlock = some b → wr.heap.size ≤ b := fun b e => by have h1 := (HI7.out.in e).1; simpa only [World.size_drew] using h1
            have hk := (HKP.out.trans (Kept.of_below Qp HB7.out) HQP.out).setCell (a := ⟨gf, p, none⟩) ((HQP.out gf HDP.out.fQ).imp id fun h => h) (.slice A7 n7 m7)
            refine ⟨p + 1, fun b => Qp b ∨ (Value.slice A7 n7 m7).ownBlock = some b, by go_num, p1', rfl, ?_, hk, fun b h => h.elim (HQP.out b) fun e => .inr (Nat.le_trans HKP.out.size (hlow b e))⟩
            rw [← HSET.out]
            exact hD
      · have hpz' : p = z := by omega
        subst hpz'
        have hD := HDP.out
        have e1 : s1.follow.take p = s1.follow := List.take_of_length_le (by rw [HFLN.out]; exact Nat.le_refl _)
        have e2 : s1.follow.drop p = [] := List.drop_of_length_le (by rw [HFLN.out]; exact Nat.le_refl _)
        rw [e1, e2, List.append_nil, HFOL.out, HSETS.out] at hD
        have HDD := Lib.hid hD
        clear hD e1 e2
        have hbox : BoxG wr ga (.slice (some ⟨gs, 0, none⟩) p p) (.slice none 0 0) (.slice (some ⟨gm, 0, none⟩) p p) (.slice (some ⟨gf, 0, none⟩) p p) (emptyT fl) := HDD.out.box
        have hnotQ : ∀ b, b < w4.heap.size ∨ b = gm → ¬ Q6 b := fun b hb q => by
          rcases HQ6.out b q with q | q
          · rcases hb with hb | hb
            · have := HLE.out; rcases q with q | q | q <;> omega
            · subst hb; exact HNQ.out q
          · have h1 := HBC.out.size
            rcases hb with hb | hb
            · omega
            · have := HBO.out.in.2; omega
        have kw : Kept (fun b => b = ga ∨ b = gs ∨ b = gf) wc wr := HK6.out.trans HKP.out HQ6.out
        have hq4 : ∀ b, b < w4.heap.size → ¬ (b = ga ∨ b = gs ∨ b = gf) := fun b hb q => by have := HLE.out; rcases q with q | q | q <;> omega
        have hbf : Box8 wr w3.heap.size fl (.slice A3 n3 m3) := (kw.block _ HBF2.out.lt (hq4 _ hfl4)).trans HBF2.out
        have hbo : Bools wr w.heap.size gm p (fun _ => false) := HBO.out.off kw HNQ.out
        have htc : Tree wr (fun b => b < w4.heap.size) fl (.slice A3 n3 m3) := HTC.out.mono fun b h1 h2 _ => ⟨kw.block b h2 (hq4 b h1), h1⟩
        have hrl : w.heap.size + 1 < w4.heap.size := lt_of_some HR4.out
        have hr4 : BoxG wr (w.heap.size + 1) (.slice none 0 0) (.slice none 0 0) (.slice none 0 0) (.slice none 0 0) false := (kw.block _ (by have := HBC.out.size; omega) (hq4 _ hrl)).trans (has_below HBC.out HR4.out)
        have hbw : Below w.heap.size w wr := (gro HB4.out HBC.out).trans (kw.below (by have := HBC.out.size; omega) (fun b q => by have := HLE.out; rcases q with q | q | q <;> omega))
        have hpl0 : 0 + plT fl ≤ 256 := by have := HPL.out; omega
        have HE1 := Lib.hid (fun w' (hb : Below wr.heap.size wr w') => endsF_p (w := w') (b := false) HFT.out (htc.stays hb) hpl0)
        have HE2 := Lib.hid (fun w' (hk : Kept (fun b => b = ga) wr w') => endsF_p (w := w') (b := true) (a := 0) HFT.out (htc.mono (w' := w') (ok' := fun b => b < w4.heap.size) fun b h1 h2 _ => ⟨hk.block b h2 (fun e => by have := HLE.out; omega), h1⟩) hpl0)
        unfold nodeP RetEndF lasts at HE1 HE2
        rw [show ((0 : Nat) : Int) = 0 from rfl] at HE1 HE2
        simp only [Bool.false_eq_true, if_false] at HE1
        simp only [if_true] at HE2
        have HBOX := Lib.hid hbox
        have HBF3 := Lib.hid hbf
        have HBO3 := Lib.hid hbo
        have HTC3 := Lib.hid htc
        have HR5 := Lib.hid hr4
        have HBW := Lib.hid hbw
        have HNQ4 := Lib.hid hnotQ
        obtain ⟨c0, c1, c2, c3, c4, c5, c6, c7⟩ := hbf.cell
        obtain ⟨b0, b1, b2, b3, b4⟩ := hbox.cell
        have hgal : ga < wr.heap.size := lt_of_some hbox
        have hfl5 : w3.heap.size < wr.heap.size := hbf.lt
        clear hbox hbf hbo htc hr4 hbw hnotQ kw hq4
        have hne3 : w3.heap.size ≠ ga := by have := HLE.out; omega
        have hne3' : ga ≠ w3.heap.size := fun e => hne3 e.symm
        have hlf : (fstT fl 0).length ≤ 100000 := by have := fst_len fl 0; omega
        go_wp2_with (first
          | (go_at_call 59; (with_reducible refine (HE1.out wr (Below.refl _ _)).mono ?_); rintro e7 w7 ⟨v7, rfl, i7, b7⟩; have HI7 := Lib.hid i7; have HB7 := Lib.hid b7; clear i7 b7)
          | (go_at_call 58; (with_reducible refine (sorted_p HI7.out hlf).mono ?_); rintro e8 w8 ⟨v8, rfl, i8, b8⟩; obtain ⟨A8, n8, m8, rfl⟩ := i8.form3; have HI8 := Lib.hid i8; have hb8 := gro HB7.out b8; have HB8 := Lib.hid hb8; have hbx := HBOX.out.stays hb8; obtain ⟨x0, x1, x2, x3, x4⟩ := hbx.cell; obtain ⟨y0, y1, y2, y3, y4⟩ := hbx.frozen; obtain ⟨d0, d1, d2, d3, d4, d5, d6, d7⟩ := (HBF3.out.stays hb8).cell; have HBX8 := Lib.hid hbx; have HK8 := Lib.hid (((Kept.of_below (fun b => b = ga) hb8)).setCell (a := ⟨ga, 1, none⟩) (.inl rfl) (.slice A8 n8 m8)); clear i8 b8 hb8 hbx)
          | (go_at_call 59; (with_reducible refine (HE2.out _ HK8.out).mono ?_); rintro e9 w9 ⟨v9, rfl, i9, b9⟩; have HI9 := Lib.hid i9; have HB9 := Lib.hid b9; obtain ⟨A9, m9, hf9, -, -⟩ := i9.news; rw [ns_len] at hf9; subst hf9; clear i9 b9)
          | fail)
        have K9 : Kept (fun b => b = ga) wr w9 := HK8.out.trans (Kept.of_below (fun _ => False) HB9.out) fun b h => h.elim
        have hgm : gm ≠ ga := fun e => HNQ.out (.inl e)
        have hbx9 : BoxG w9 ga (.slice (some ⟨gs, 0, none⟩) p p) (.slice A8 n8 m8) (.slice (some ⟨gm, 0, none⟩) p p) (.slice (some ⟨gf, 0, none⟩) p p) (emptyT fl) := (HBX8.out.put1 _).stays HB9.out
        have hbo9 : Bools w9 w.heap.size gm p (fun _ => false) := HBO3.out.off K9 hgm
        have HK9 := Lib.hid K9
        have HBX9 := Lib.hid hbx9
        have HBO9 := Lib.hid hbo9
        have hlin := fun q (h : q ∈ lstT fl 0) => (lst_in fl 0 q h).2
        rw [HPL.out, Nat.zero_add] at hlin
        have hll := lst_len fl 0
        rw [HPL.out] at hll
        have hlst := HSAME.out.2.2.2.2.1
        have hfst := HSAME.out.2.2.2.1
        generalize hls : lstT fl 0 = ls at *
        rw [hfst] at HI8
        have HLIN := Lib.hid hlin
        have HLST := Lib.hid hlst
        obtain ⟨L, hL⟩ : ∃ L, ls.length = L := ⟨_, rfl⟩
        have HL := Lib.hid hL
        rw [hL] at hll
        rw [hL]
        clear K9 hbx9 hbo9 hlin hlst hfst hL hls c0 c1 c2 c3 c4 c5 c6 c7 d0 d1 d2 d3 d4 d5 d6 d7 b0 b1 b2 b3 b4 x0 x1 x2 x3 x4 y0 y1 y2 y3 y4
        go_loopg [9] L (fun m i wq => ∃ q : Nat, i = .int .i64 (q : Int) ∧ q ≤ L ∧ m = L - q ∧ Bools wq w.heap.size gm p (fun j => (ls.take q).contains j) ∧ Kept (fun b => b = gm) w9 wq)
        case atStart => exact ⟨0, by first | rfl | trivial, Nat.zero_le _, rfl, HBO9.out.congr fun j _ => by simp, Kept.refl _ _⟩
        case round =>
          obtain ⟨q, rfl, hq, hmq, hbq, hkq⟩ := hrel
          have HMQ := Lib.hid hmq
          have HBQ := Lib.hid hbq
          have HKQ := Lib.hid hkq
          have hbx := HBX9.out.off hkq (fun e => hgm e.symm)
          clear hmq hbq hkq
          by_cases hqL : q < L
          · have hql : q < ls.length := by rw [HL.out]; exact hqL
            have hva : ∀ b, (Value.slice A9 ls.length m9).ownBlock = some b → ¬ b = gm := fun b e => by
              obtain ⟨cur, hc⟩ := HI9.out.kind e
              obtain ⟨cur', hc'⟩ := HBO9.out.kind
              exact kind_apart hc hc' (by decide)
            obtain ⟨g2, c2', e2, hC2, hg2, hcell⟩ := (HI9.out.off HKQ.out hva).at q (by rw [ns_len]; exact hql)
            have hxn := HLIN.out _ (List.getElem_mem hql)
            have hce : (ns ls)[q]'(by rw [ns_len]; exact hql) = ((ls[q]'hql : Nat) : Int) := by simp [ns]
            rw [hce] at hcell
            have htk := List.take_succ_eq_append_getElem hql
            obtain ⟨x, hx⟩ : ∃ x, ls[q]'hql = x := ⟨_, rfl⟩
            rw [hx] at hxn htk hcell
            rw [ns_len] at e2
            injection e2 with f1 f2 f3
            subst f1 f3
            clear f2
            have hcb := HBQ.out.cell x hxn
            have hfb := HBQ.out.frozen x
            have cga2 := hbx.cell.2.2.1
            have p0 : (0 : Int) ≤ (x : Int) := by omega
            have p1 : (x : Int) < (p : Int) := by omega
            have k0 : (0 : Int) ≤ (q : Int) := by omega
            have k1 : (q : Int) < (L : Int) := by omega
            have HTK := Lib.hid htk
            have HXN := Lib.hid hxn
            have hql1 : q + 1 ≤ L := hqL
            clear hva hce htk hx hbx hxn
            go_upto_region 16 with fail
            go_region
            all_goals
              go_wp2
              go_roundg (L - (q + 1))
              case measure => have := HMQ.out; omega
              case rel =>
                refine ⟨q + 1, by go_num, hql1, rfl, (HBQ.out.set x HXN.out true).congr fun j hj => ?_, (HKQ.out.setCell (a := ⟨gm, x, none⟩) (.inl rfl) _).drew⟩
                rw [HTK.out]
                by_cases e : j = x <;> simp [e]
          · have hqL' : q = ls.length := by rw [HL.out]; omega
            have hba : Bools wr w.heap.size gm p (fun j => x0.last.contains j) := HBQ.out.congr fun j _ => by
              rw [hqL', List.take_length]
              exact HLST.out j
            have hR : BoxG wr (w.heap.size + 1) (.slice none 0 0) (.slice none 0 0) (.slice none 0 0) (.slice none 0 0) false := by
              have h1 := HR5.out.off HK9.out (fun e => by have := HLE.out; omega)
              exact h1.off HKQ.out (fun e => by have := HLE.out; omega)
            obtain ⟨c0, c1, c2, c3, c4⟩ := hbx.cell
            obtain ⟨r0, r1, r2, r3, r4⟩ := hR.cell
            obtain ⟨f0, f1, f2, f3, f4⟩ := hR.frozen
            have hrl2 : w.heap.size + 1 < wr.heap.size := lt_of_some hR
            have hgl2 : ga < wr.heap.size := lt_of_some hbx
            have hne4 : w.heap.size + 1 ≠ ga := by have := HLE.out; omega
            have HBA := Lib.hid hba
            have HRR := Lib.hid hR
            have HQL := Lib.hid hqL'
            clear hba hR hbx hqL'
            go_wp2
            have KF : Kept (fun b => b = ga ∨ b = gm ∨ b = w.heap.size + 1) w8 (((((wr.setCell ⟨w.heap.size + 1, 0, none⟩ (.slice (some ⟨gs, 0, none⟩) p p)).setCell ⟨w.heap.size + 1, 1, none⟩ (.slice A8 n8 m8)).setCell ⟨w.heap.size + 1, 2, none⟩ (.slice (some ⟨gm, 0, none⟩) p p)).setCell ⟨w.heap.size + 1, 3, none⟩ (.slice (some ⟨gf, 0, none⟩) p p)).setCell ⟨w.heap.size + 1, 4, none⟩ (.bool (emptyT fl))) :=
              (((((((((Kept.refl (fun b => b = ga ∨ b = gm ∨ b = w.heap.size + 1) w8).setCell (a := ⟨ga, 1, none⟩) (.inl (.inl rfl)) (.slice A8 n8 m8)).trans (Kept.of_below (fun _ => False) HB9.out) fun b h => h.elim).trans HKQ.out fun b h => .inl (.inr (.inl h))).setCell (a := ⟨w.heap.size + 1, 0, none⟩) (.inl (.inr (.inr rfl))) _).setCell (a := ⟨w.heap.size + 1, 1, none⟩) (.inl (.inr (.inr rfl))) _).setCell (a := ⟨w.heap.size + 1, 2, none⟩) (.inl (.inr (.inr rfl))) _).setCell (a := ⟨w.heap.size + 1, 3, none⟩) (.inl (.inr (.inr rfl))) _).setCell (a := ⟨w.heap.size + 1, 4, none⟩) (.inl (.inr (.inr rfl))) _)
            have KR : Kept (fun b => b = w.heap.size + 1) wr (((((wr.setCell ⟨w.heap.size + 1, 0, none⟩ (.slice (some ⟨gs, 0, none⟩) p p)).setCell ⟨w.heap.size + 1, 1, none⟩ (.slice A8 n8 m8)).setCell ⟨w.heap.size + 1, 2, none⟩ (.slice (some ⟨gm, 0, none⟩) p p)).setCell ⟨w.heap.size + 1, 3, none⟩ (.slice (some ⟨gf, 0, none⟩) p p)).setCell ⟨w.heap.size + 1, 4, none⟩ (.bool (emptyT fl))) :=
              ((((((Kept.refl (fun b => b = w.heap.size + 1) wr).setCell (a := ⟨w.heap.size + 1, 0, none⟩) (.inl rfl) _).setCell (a := ⟨w.heap.size + 1, 1, none⟩) (.inl rfl) _).setCell (a := ⟨w.heap.size + 1, 2, none⟩) (.inl rfl) _).setCell (a := ⟨w.heap.size + 1, 3, none⟩) (.inl rfl) _).setCell (a := ⟨w.heap.size + 1, 4, none⟩) (.inl rfl) _)
            have hbox8 := HBX8.out
            have hbm8 := HBO3.out.stays HB8.out
            have hrs8 := HR5.out.stays HB8.out
            have hrow8 := HDD.out.rows.block fun b _ hb => HB8.out.block b hb
            have hw8 : w.heap.size ≤ w8.heap.size := Nat.le_trans HBW.out.size HB8.out.size
            have hk8 : ∀ b, (b = ga ∨ b = gm ∨ b = w.heap.size + 1) → b < w8.heap.size → ∃ cur ty, w8.heap[b]? = some (.cells cur ty (0, 0)) ∧ ty ≠ 72 ∧ ty ≠ 59 ∧ ty ≠ 3 := fun b hb _ => by
              rcases hb with hb | hb | hb
              · subst hb; exact ⟨_, _, hbox8, by decide, by decide, by decide⟩
              · subst hb
                obtain ⟨cur, hc⟩ := hbm8.kind
                exact ⟨_, _, hc, by decide, by decide, by decide⟩
              · subst hb; exact ⟨_, _, hrs8, by decide, by decide, by decide⟩
            have hrowF := rows_kept hrow8 KF hk8
            have hfirst : Ints _ w.heap.size (.slice A8 n8 m8) (ns x0.first) := (HI8.out.off KF fun b e q => by
              obtain ⟨cur, hc⟩ := HI8.out.kind e
              obtain ⟨cur', ty, hc', -, -, n3⟩ := hk8 b q (HI8.out.in e).2
              exact kind_apart hc' hc n3 rfl).low (Nat.le_trans HBW.out.size HB7.out.size)
            have hlastF := HBA.out.off KR (fun e => by have := HLE.out; omega)
            have hszF := HSAME.out.2.2.2.2.2
            have hbelF : Below w.heap.size w _ := ((Kept.of_below (fun b => b = ga ∨ b = gm ∨ b = w.heap.size + 1) (gro HBW.out HB8.out)).trans KF fun b h => .inl h).below (Nat.le_refl _) fun b h => by
              have := HLE.out
              have := HB4.out.size
              rcases h with h | h | h <;> omega
            refine ret_nfaD (x := 2) (y := 3) (v := .bool true) rfl rfl rfl rfl (HRR.out.put _ _ _ _ _) ?_
            refine ⟨some ⟨gs, 0, none⟩, p, p, A8, n8, m8, gm, some ⟨gf, 0, none⟩, p, p, ?_, ⟨⟨_, hrowF⟩, hfirst, ?_⟩, hbelF⟩
            · rw [hszF, HEMP.out]
            · rw [hszF]; exact hlastF
end Go.Proofs.Ytnkopcmkanibhaa
