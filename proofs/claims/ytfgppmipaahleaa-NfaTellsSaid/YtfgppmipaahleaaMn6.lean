/-
  Several texts of this proof in one file: NfaOneA, NfaOne, Kids, NodeAt, NfaHold, NfaCat. No statement of its own.
-/
import Derived.Test.YtfgppmipaahleaaMn5
import Derived.BigRegion
import Derived.Test.YtfgppmipaahleaaMn4
import Derived.Deep.LoopGhost
set_option linter.unusedVariables false
set_option linter.unusedSimpArgs false

/-
  nfa: nothing, one place. Contracts for other texts; no statement of its own.
-/
namespace Go.Proofs.Ytfgppmipaahleaa
open Go Go.RowKit
attribute [local go_sem ↓] Go.wp_at_zero Go.wp_at_succ

theorem nothing_p (w : World) : Calls Try.prog 65 #[] w fun e w' => e = .returned (.agg #[.slice none 0 0, .slice none 0 0, .bool true]) ∧ Below w.heap.size w w' := by
  go_enter Try.func65, Try.ntmps65
  go_wp2
  refine ret_str (x := 0) rfl rfl rfl (BoxS.new w _ _ _) ?_
  exact ⟨rfl, (Below.refl _ _).alloc (Nat.le_refl _) _⟩
theorem str_nothing (w : World) (C : Nat) (Q : Nat → Prop) : StrAt w C (.slice none 0 0) (.slice none 0 0) .nothing Q :=
  ⟨Ints.nil _ _, Ints.nil _ _, fun b e => (by cases e), fun b e => (by cases e), fun b e => (by cases e)⟩
theorem str_void (w : World) (C : Nat) (Q : Nat → Prop) : StrAt w C (.slice none 0 0) (.slice none 0 0) .void Q :=
  ⟨Ints.nil _ _, Ints.nil _ _, fun b e => (by cases e), fun b e => (by cases e), fun b e => (by cases e)⟩
theorem nice_nothing (s : Lay) (a : Nat) : Nice s a a .nothing := ⟨_, good_nothing a⟩
theorem nice_void (s : Lay) (a : Nat) : Nice s a a .void := ⟨_, good_void a⟩

theorem Try.infoSetN : (Try.prog.info? 26).map (fun i => (i.zero, i.size, i.bytes)) = some (some (.agg #[.int .u64 0, .int .u64 0, .int .u64 0, .int .u64 0]), 4, 32) := by kernel_rfl
theorem Try.infoList : (Try.prog.info? 33).map (fun i => (i.zero, i.size, i.bytes)) = some (some (.slice none 0 0), 1, 24) := by kernel_rfl
section
variable {P : Program} (w : World)
theorem step_app3 {ops : Array Oper} {o : Oper} {a : Act} {K : Act → World → Prop} {Q : Exit → Act → World → Prop} {E : Prop} (hgd : o.guard = none) (s x : Operand) (t : TypeId)
    (ho : o.op = .call { callee := .builtin .append, args := #[s, x], argTypes := #[t, t] })
    (base : Nat) (e : TypeId) (i : TypeInfo) (z : Value) (size bytes : Nat) (ht : P.underlying t = some (.slice e)) (hi : P.info? e = some i) (hz : i.zero = some z)
    (hsize : i.size = size) (hby : i.bytes = bytes) (hzs : z.cells.size = size) (hsz : 0 < size)
    (v : Value) (n : Nat) (xs : List Value) (hs : a.eval s = v) (hown : w.ownsRow base e size v n xs)
    (ad : Addr) (m c : Nat) (news : List Value) (hx : a.eval x = .slice (some ad) m c) (hl : news.length = m * size) (hnews : ∀ j u, news[j]? = some u → w.cell? (ad.add j) = some u) (h1 : ∀ u ∈ news, u.oneCell' = true)
    (h63 : n + m ≤ maxLen) (hbytes : (n + m) * bytes ≤ 140737488355328) (hbase : base ≤ w.heap.size)
    (h : ∀ v' w', w'.ownsRow base e size v' (n + m) (xs ++ news) → w.grownBy w' v.ownBlock → (v'.ownBlock = v.ownBlock ∨ v'.ownBlock = some w.heap.size) → K (a.put o.dst v') w') :
    if Region.wanted o (yielded ops a.tmps) = true then Oper.wp P o a w K Q else E := by
  have hw : Region.wanted o (yielded ops a.tmps) = true := by simp [Region.wanted, hgd]
  rw [if_pos hw]
  obtain ⟨v', w', hr, h2, h3, _, h5⟩ := run_append_own_at (P := P) w base t o.type e i z size bytes ht hi hz hsize hby hzs hsz v n xs hown ad m c news hl hnews h1 h63 hbytes hbase
  unfold Oper.wp execOp
  simp only [ho, resolve, invoke, builtin, Sem.run_bind, Sem.run_pure, Result.andThen_ok, List.map_toArray, List.map_cons, List.map_nil, hs, hx, hr]
  exact h v' w' h2 h3 h5
end
theorem own_form3 {w : World} {B e size n : Nat} {v : Value} {xs : List Value} (h : w.ownsRow B e size v n xs) : ∃ A c, v = .slice A n c := by
  rcases h.2 with ⟨rfl, h0⟩ | ⟨g, cap, cur, rfl, _⟩
  · exact ⟨none, 0, by rw [h0]⟩
  · exact ⟨_, _, rfl⟩
theorem news_has {w : World} {g : Nat} {e : TypeId} {cs : Array Value} (h : HasO w g (.cells cs e (0, 0))) : ∀ j u, cs.toList[j]? = some u → w.cell? ((⟨g, 0, none⟩ : Addr).add j) = some u := by
  intro j u hu
  rw [Addr.add_lit, Nat.zero_add, cell_of_row w g j _ e (0, 0) h]
  simpa using hu
theorem one4N (q : Nat → Bool) : ∀ u ∈ (#[.int .u64 (word q 0), .int .u64 (word q 1), .int .u64 (word q 2), .int .u64 (word q 3)] : Array Value).toList, u.oneCell' = true := by
  intro u hu
  simp at hu
  rcases hu with rfl | rfl | rfl | rfl <;> rfl
theorem one1N : ∀ u ∈ (#[.slice none 0 0] : Array Value).toList, u.oneCell' = true := by
  intro u hu
  simp at hu
  rcases hu with rfl <;> rfl
theorem has_setCell {w : World} {g : Nat} {o : Obj} {a : Addr} (u : Value) (h : HasO w g o) (hne : g = a.block → False) : HasO (w.setCell a u) g o := (Below.heap_setCell w a u g hne).trans h
theorem has_grownN {w w' : World} {g : Nat} {o : Obj} {row : Option Nat} (hg : w.grownBy w' row) (h : HasO w g o) (hne : some g = row → False) : HasO w' g o := has_grown hg h hne
theorem own_grownN {w w' : World} {B e size n : Nat} {v : Value} {xs : List Value} {row : Option Nat} (hg : w.grownBy w' row) (h : w.ownsRow B e size v n xs) (hne : ∀ b, v.ownBlock = some b → some b = row → False) : w'.ownsRow B e size v n xs := own_block h fun b e hb => hg.block b hb (hne b e)
theorem ints_has {w : World} {C a n : Nat} (h : HasO w a (.cells #[.int .i64 (n : Int)] 3 (0, 0))) (hC : C ≤ a) : Ints w C (.slice (some ⟨a, 0, none⟩) 1 1) (ns [n]) :=
  ⟨rfl, .inr ⟨a, 1, _, rfl, hC, h, Nat.le_refl _, by decide, rfl, rfl⟩⟩
theorem FolAt.push {w : World} {B : Nat} {fs : List Value} {ls : List (List Nat)} {Q : Nat → Prop} (h : FolAt w B fs ls Q) : FolAt w B (fs ++ [.slice none 0 0]) (ls ++ [[]]) Q := by
  have hget : ∀ (i : Nat) v, (fs ++ [.slice none 0 0])[i]? = some v → fs[i]? = some v ∨ (i = fs.length ∧ v = .slice none 0 0) := fun i v hv => by
    rcases Nat.lt_or_ge i fs.length with hi | hi
    · rw [List.getElem?_append_left hi] at hv; exact .inl hv
    · rw [List.getElem?_append_right hi] at hv
      rcases Nat.eq_zero_or_pos (i - fs.length) with e | e
      · rw [e] at hv
        simp at hv
        exact .inr ⟨by omega, hv.symm⟩
      · rw [List.getElem?_eq_none (by simp; omega)] at hv; cases hv
  refine ⟨by simp [h.len], fun i v l h1 h2 => ?_, fun i v b h1 h2 => ?_, fun i j v v' b h1 h2 h3 h4 => ?_⟩
  · rcases hget i v h1 with h1 | ⟨rfl, rfl⟩
    · have hi : i < ls.length := by
        rw [← h.len]
        rcases Nat.lt_or_ge i fs.length with hi | hi
        · exact hi
        · rw [List.getElem?_eq_none hi] at h1; cases h1
      rw [List.getElem?_append_left hi] at h2
      exact h.get i v l h1 h2
    · rw [List.getElem?_append_right (by rw [h.len]; exact Nat.le_refl _), h.len, Nat.sub_self] at h2
      simp at h2
      subst h2
      exact Ints.nil _ _
  · rcases hget i v h1 with h1 | ⟨rfl, rfl⟩
    · exact h.inQ i v b h1 h2
    · cases h2
  · rcases hget i v h1 with h1 | ⟨_, rfl⟩
    · rcases hget j v' h2 with h2 | ⟨_, rfl⟩
      · exact h.apart i j v v' b h1 h2 h3 h4
      · cases h4
    · cases h3

def NoB : Nat → Prop := fun _ => False
theorem HasO.of_kept {w w' : World} {b : Nat} {o : Obj} {Q : Nat → Prop} (h : HasO w b o) (hk : Kept Q w w') (hq : ¬ Q b) : HasO w' b o := (hk.block b (lt_of_some h) hq).trans h
/-- One place more has been laid out. -/
theorem one_close {w w3 W19 w19 W25 w25 : World} {B gl n : Nat} {s : Lay} {Q : Nat → Prop} {p : Nat → Bool} {vs vf v19 v25 : Value} {fs : List Value} (hl : LInv s) (hn : s.sets.length = n) (hB0 : Below w.heap.size w w3)
    (hge : ∀ b, Q b → B ≤ b ∧ b < w.heap.size) (hglQ : Q gl) (hgl : HasO w3 gl (.cells #[vs, vf] 85 (0, 0))) (hrows : RowsAt w3 B vs vf s Q) (hfs : FolAt w3 B fs s.follow Q) (hB : B ≤ w.heap.size)
    (vsl : ∀ b, vs.ownBlock = some b → b < w.heap.size ∧ b ≠ gl) (vfl : ∀ b, vf.ownBlock = some b → b < w.heap.size ∧ b ≠ gl) (vsf : ∀ b, vs.ownBlock = some b → vf.ownBlock ≠ some b)
    (Ka : Kept NoB w3 W19) (own19 : w19.ownsRow B 26 4 v19 (n + 1) (setsC s.sets ++ [.int .u64 (word p 0), .int .u64 (word p 1), .int .u64 (word p 2), .int .u64 (word p 3)])) (g19 : W19.grownBy w19 vs.ownBlock) (o19 : v19.ownBlock = vs.ownBlock ∨ v19.ownBlock = some W19.heap.size)
    (Kb : Kept NoB w19 W25) (own25 : w25.ownsRow B 33 1 v25 (n + 1) (fs ++ [.slice none 0 0])) (g25 : W25.grownBy w25 vf.ownBlock) (o25 : v25.ownBlock = vf.ownBlock ∨ v25.ownBlock = some W25.heap.size) :
    ∃ Q', LayAt ((w25.setCell ⟨gl, 0, none⟩ v19).setCell ⟨gl, 1, none⟩ v25) B gl (oneL s p) Q' ∧ (∀ b, Q' b → Q b ∨ w3.heap.size ≤ b) ∧ Kept Q w3 ((w25.setCell ⟨gl, 0, none⟩ v19).setCell ⟨gl, 1, none⟩ v25) := by
  have hsz := hB0.size
  have h1 := Ka.size
  have h2 := g19.size
  have h3 := Kb.size
  have h4 := g25.size
  have hgl3 := (hge gl hglQ).2
  have K19 : Kept (fun b => vs.ownBlock = some b ∨ vf.ownBlock = some b ∨ b = gl) w3 w19 := (Ka.mono fun b h => h.elim).grown g19 fun b e => .inl (.inl e)
  have K25 : Kept (fun b => vs.ownBlock = some b ∨ vf.ownBlock = some b ∨ b = gl) w3 w25 := (K19.trans Kb fun b h => h.elim).grown g25 fun b e => .inl (.inr (.inl e))
  have K3 : Kept (fun b => vs.ownBlock = some b ∨ vf.ownBlock = some b ∨ b = gl) w3 ((w25.setCell ⟨gl, 0, none⟩ v19).setCell ⟨gl, 1, none⟩ v25) := (K25.setCell (.inl (.inr (.inr rfl))) _).setCell (.inl (.inr (.inr rfl))) _
  have Kx : Kept Q w3 ((w25.setCell ⟨gl, 0, none⟩ v19).setCell ⟨gl, 1, none⟩ v25) := K3.mono fun b h => by
    rcases h with h | h | h
    · exact .inl (hrows.setsQ b h)
    · exact .inl (hrows.folsQ b h)
    · exact .inl (h ▸ hglQ)
  have Kf : Kept (fun b => vf.ownBlock = some b) w19 w25 := (Kb.mono fun b h => h.elim).grown g25 fun b e => .inl e
  have gl19 : HasO w19 gl (.cells #[vs, vf] 85 (0, 0)) := has_grown g19 (hgl.of_kept Ka fun h => h) fun e => (vsl gl e.symm).2 rfl
  have gl25 : HasO w25 gl (.cells #[vs, vf] 85 (0, 0)) := has_grown g25 (gl19.of_kept Kb fun h => h) fun e => (vfl gl e.symm).2 rfl
  have hset : ∀ b, b ≠ gl → ((w25.setCell ⟨gl, 0, none⟩ v19).setCell ⟨gl, 1, none⟩ v25).heap[b]? = w25.heap[b]? := fun b hb => (Below.heap_setCell _ _ _ _ hb).trans (Below.heap_setCell _ _ _ _ hb)
  have hsx : ((w25.setCell ⟨gl, 0, none⟩ v19).setCell ⟨gl, 1, none⟩ v25).heap.size = w25.heap.size := by simp [World.setCell]
  have n19 : ∀ b, v19.ownBlock = some b → b ≠ gl ∧ vf.ownBlock ≠ some b := fun b e => by
    obtain ⟨cur, hc⟩ := own_kind own19 e
    refine ⟨kind_apart hc gl19 (by decide), fun e2 => ?_⟩
    rcases o19 with o | o
    · exact vsf b (o.symm.trans e) e2
    · rw [e] at o
      injection o with o
      have := (vfl b e2).1
      omega
  have n25 : ∀ b, v25.ownBlock = some b → b ≠ gl := fun b e => by
    obtain ⟨cur, hc⟩ := own_kind own25 e
    exact kind_apart hc gl25 (by decide)
  have hlen : (oneL s p).sets.length = n + 1 := by simp [oneL, hn]
  have hlen2 : (oneL s p).follow.length = n + 1 := by simp [oneL, hl.len, hn]
  have hsf : setsC (oneL s p).sets = setsC s.sets ++ [.int .u64 (word p 0), .int .u64 (word p 1), .int .u64 (word p 2), .int .u64 (word p 3)] := (setsC_snoc _ _).symm
  have q25 : ∀ b, (Q b ∨ v19.ownBlock = some b ∨ v25.ownBlock = some b) → Q b ∨ w3.heap.size ≤ b := by
    rintro b (e | e | e)
    · exact .inl e
    · rcases o19 with o | o
      · exact .inl (hrows.setsQ b (o.symm.trans e))
      · rw [e] at o
        injection o with o
        exact .inr (by omega)
    · rcases o25 with o | o
      · exact .inl (hrows.folsQ b (o.symm.trans e))
      · rw [e] at o
        injection o with o
        exact .inr (by omega)
  refine ⟨fun b => Q b ∨ v19.ownBlock = some b ∨ v25.ownBlock = some b, ⟨?_, .inl hglQ, v19, v25, ?_, ⟨?_, fun b e => .inr (.inl e), ⟨fs ++ [.slice none 0 0], ?_, ?_⟩, fun b e => .inr (.inr e)⟩⟩, q25, Kx⟩
  · rintro b (e | e | e)
    · have := hge b e
      rw [hsx]
      exact ⟨this.1, by omega⟩
    · have := World.ownsRow.lt own19 b e
      rw [hsx]
      exact ⟨this.1, by omega⟩
    · have := World.ownsRow.lt own25 b e
      rw [hsx]
      exact this
  · have h0 := heap_setCell_same w25 gl 0 _ _ v19 gl25
    rw [heap_setCell_same _ gl 1 _ _ v25 h0]
    rfl
  · rw [hlen, hsf]
    refine own_block own19 fun b e hb => ?_
    rw [hset b (n19 b e).1]
    exact Kf.block b hb (n19 b e).2
  · rw [hlen2]
    exact own_block own25 fun b e hb => hset b (n25 b e)
  · have hp := hfs.push
    refine ⟨hp.len, fun i v l h1 h2 => (hp.get i v l h1 h2).off K3 fun b e hq => ?_, fun i v b h1 h2 => .inl (hp.inQ i v b h1 h2), hp.apart⟩
    obtain ⟨cur, hc⟩ := (hp.get i v l h1 h2).kind e
    rcases hq with hq | hq | hq
    · obtain ⟨cur', hc'⟩ := own_kind hrows.sets hq
      exact kind_apart hc hc' (by decide) rfl
    · obtain ⟨fs', h3', _⟩ := hrows.fols
      obtain ⟨cur', hc'⟩ := own_kind h3' hq
      exact kind_apart hc hc' (by decide) rfl
    · exact kind_apart hc hgl (by decide) hq
/-- What the walk reads. -/
structure OneFacts (w w3 : World) (gl : Nat) (p : Nat → Bool) (vs vf : Value) : Prop where
  a : w3.cell? ⟨gl, 0, none⟩ = some vs
  b : w3.cell? ⟨gl, 1, none⟩ = some vf
  c : w3.cell? ⟨w.heap.size, 0, none⟩ = some (.int .u64 (word p 0))
  d : w3.cell? ⟨w.heap.size, 1, none⟩ = some (.int .u64 (word p 1))
  e : w3.cell? ⟨w.heap.size, 2, none⟩ = some (.int .u64 (word p 2))
  f : w3.cell? ⟨w.heap.size, 3, none⟩ = some (.int .u64 (word p 3))
  y : w3.frozen? ⟨gl, 0, none⟩ = false
  z : w3.frozen? ⟨gl, 1, none⟩ = false
  lg : gl < w3.heap.size
  l3 : w.heap.size < w3.heap.size
  hb : w.heap.size + 2 ≤ w3.heap.size
theorem one_after {w w3 W w' : World} {gl : Nat} {p : Nat → Bool} {vs vf : Value} {row : Option Nat} (h : OneFacts w w3 gl p vs vf) (hk : Kept NoB w3 W) (g : W.grownBy w' row) (h1 : ∀ b, row = some b → b < w.heap.size ∧ b ≠ gl) : OneFacts w w' gl p vs vf := by
  have K : Kept (fun b => row = some b) w3 w' := (hk.mono fun b h => h.elim).grown g fun b e => .inl e
  have hs := K.size
  have n1 : ¬ row = some gl := fun e => (h1 gl e).2 rfl
  have n2 : ¬ row = some w.heap.size := fun e => by have := (h1 _ e).1; omega
  have hz : ∀ j, w'.frozen? ⟨gl, j, none⟩ = w3.frozen? ⟨gl, j, none⟩ := fun j => World.frozen?_of_block (a := ⟨gl, j, none⟩) (K.block gl h.lg n1)
  exact ⟨K.cell h.a n1, K.cell h.b n1, K.cell h.c n2, K.cell h.d n2, K.cell h.e n2, K.cell h.f n2, (hz 0).trans h.y, (hz 1).trans h.z, by have := h.lg; omega, by have := h.l3; omega, by have := h.hb; omega⟩
theorem own_kept {w w' : World} {B e size n : Nat} {v : Value} {xs : List Value} (h : w.ownsRow B e size v n xs) (hk : Kept NoB w w') : w'.ownsRow B e size v n xs := own_block h fun b _ hb => hk.block b hb fun h => h
end Go.Proofs.Ytfgppmipaahleaa

/-
  nfa: one place. Contracts for other texts; no statement of its own.
-/
namespace Go.Proofs.Ytfgppmipaahleaa
open Go Go.RowKit
attribute [local go_sem ↓] Go.wp_at_zero Go.wp_at_succ

/-- What append tells, and what world it leaves. -/
def resV : Result Value → Value
  | .ok r _ => r
  | _ => undef
def resW (w : World) : Result Value → World
  | .ok _ r => r
  | _ => w
noncomputable def appV (t ty : TypeId) (w : World) (v s : Value) : Value := resV ((Builtin.append_ #[t, t] ty #[v, s]).run Try.prog w)
noncomputable def appW (t ty : TypeId) (w : World) (v s : Value) : World := resW w ((Builtin.append_ #[t, t] ty #[v, s]).run Try.prog w)
def App (t ty : TypeId) (w : World) (v s : Value) : Prop := (Builtin.append_ #[t, t] ty #[v, s]).run Try.prog w = .ok (appV t ty w v s) (appW t ty w v s)
theorem app_is {t ty : TypeId} {w w' : World} {v s v' : Value} (h : (Builtin.append_ #[t, t] ty #[v, s]).run Try.prog w = .ok v' w') : App t ty w v s ∧ appV t ty w v s = v' ∧ appW t ty w v s = w' := by
  unfold App appV appW
  rw [h]
  exact ⟨rfl, rfl, rfl⟩
@[local go_sem ↓] theorem run_appE {ρ : Operand → Value} {dst : Option Tmp} {s x : Operand} {t ty : TypeId} {pos : String} {after : Array Edge} {guard : Option (Nat × Bool)} {w : World} (h : App t ty w (ρ s) (ρ x)) :
    Sem.run Try.prog (execOp ρ { dst := dst, op := .call { callee := .builtin .append, args := #[s, x], argTypes := #[t, t] }, type := ty, pos := pos, after := after, guard := guard }) w = .ok (.value (appV t ty w (ρ s) (ρ x))) (appW t ty w (ρ s) (ρ x)) := by
  unfold App at h
  unfold execOp
  simp only [resolve, invoke, builtin, Sem.run_bind, Sem.run_pure, Result.andThen_ok, List.map_toArray, List.map_cons, List.map_nil, h]
set_option maxRecDepth 20000 in
set_option maxHeartbeats 4000000 in
theorem oneplace_p {w : World} {B gl : Nat} {s : Lay} {Q : Nat → Prop} (p : Nat → Bool) (hlay : LayAt w B gl s Q) (hB : B ≤ w.heap.size) (hl : LInv s) (h1000 : s.sets.length ≤ 1000) :
    Calls Try.prog 52 #[.pointer (some ⟨gl, 0, none⟩), .agg #[.int .u64 (word p 0), .int .u64 (word p 1), .int .u64 (word p 2), .int .u64 (word p 3)]] w
      (RetLay w B gl w.heap.size (oneL s p) (oneX s) Q Q) := by
  have b3 := (Box4.new w p).alloc (.cells #[.slice none 0 0, .slice none 0 0, .bool false] 87)
  have b4 := BoxS.new (w.alloc (.cells #[.int .u64 (word p 0), .int .u64 (word p 1), .int .u64 (word p 2), .int .u64 (word p 3)] 26)) (.slice none 0 0) (.slice none 0 0) false
  have hB0 : Below w.heap.size w ((w.alloc (.cells #[.int .u64 (word p 0), .int .u64 (word p 1), .int .u64 (word p 2), .int .u64 (word p 3)] 26)).alloc (.cells #[.slice none 0 0, .slice none 0 0, .bool false] 87)) :=
    ((Below.refl _ _).alloc (Nat.le_refl _) _).alloc (by simp) _
  simp only [World.size_alloc] at b4
  obtain ⟨vs, vf, hgl, hrows⟩ := (hlay.stays hB0).box
  obtain ⟨fs, hfo, hfs⟩ := hrows.fols
  obtain ⟨As, cs, rfl⟩ := own_form3 hrows.sets
  obtain ⟨Af, cf, rfl⟩ := own_form3 hfo
  rw [hl.len] at hfo hrows hgl
  have hge := hlay.ge
  have hglQ := hlay.glQ
  generalize hw3 : ((w.alloc (.cells #[.int .u64 (word p 0), .int .u64 (word p 1), .int .u64 (word p 2), .int .u64 (word p 3)] 26)).alloc (.cells #[.slice none 0 0, .slice none 0 0, .bool false] 87)) = w3 at b3 b4 hB0 hgl hrows hfo hfs
  obtain ⟨n, hn⟩ : ∃ n, s.sets.length = n := ⟨_, rfl⟩
  rw [hn] at hfo hgl h1000
  have hsets := hrows.sets
  rw [hn] at hsets
  have g0 : w3.cell? ⟨gl, 0, none⟩ = some (.slice As n cs) := cell_of_row w3 gl 0 _ _ (0, 0) hgl
  have g1 : w3.cell? ⟨gl, 1, none⟩ = some (.slice Af n cf) := cell_of_row w3 gl 1 _ _ (0, 0) hgl
  have z0 : w3.frozen? ⟨gl, 0, none⟩ = false := by simp [World.frozen?, hgl]
  have z1 : w3.frozen? ⟨gl, 1, none⟩ = false := by simp [World.frozen?, hgl]
  obtain ⟨s0, s1, s2, s3⟩ := b3.cell
  obtain ⟨r0, r1, r2⟩ := b4.cell
  obtain ⟨q0, q1, q2⟩ := b4.frozen
  have hsz := hB0.size
  have hl3 := b4.lt
  have hgl3 : gl < w.heap.size := (hge gl hglQ).2
  obtain ⟨i0, hi, hi0, hi1, hi2⟩ := info_parts Try.infoSetN
  obtain ⟨j0, hj, hj0, hj1, hj2⟩ := info_parts Try.infoList
  have vsl : ∀ b, (Value.slice As n cs).ownBlock = some b → b < w.heap.size ∧ b ≠ gl := fun b e => by
    obtain ⟨cur, hc⟩ := own_kind hsets e
    exact ⟨(hge b (by rw [← hn] at e; exact hrows.setsQ b e)).2, kind_apart hc hgl (by decide)⟩
  have vfl : ∀ b, (Value.slice Af n cf).ownBlock = some b → b < w.heap.size ∧ b ≠ gl := fun b e => by
    obtain ⟨cur, hc⟩ := own_kind hfo e
    exact ⟨(hge b (by rw [← hn] at e; exact hrows.folsQ b e)).2, kind_apart hc hgl (by decide)⟩
  have vsf : ∀ b, (Value.slice As n cs).ownBlock = some b → (Value.slice Af n cf).ownBlock ≠ some b := fun b e e2 => by
    obtain ⟨cur, hc⟩ := own_kind hsets e
    obtain ⟨cur', hc'⟩ := own_kind hfo e2
    exact kind_apart hc hc' (by decide) rfl
  have HSETS := Lib.hid hsets
  have HFO := Lib.hid hfo
  have HFS := Lib.hid hfs
  have HB3 : Hid (HasO w3 w.heap.size (.cells #[.int .u64 (word p 0), .int .u64 (word p 1), .int .u64 (word p 2), .int .u64 (word p 3)] 26 (0, 0))) := b3
  have HB4 : Hid (HasO w3 (w.heap.size + 1) (.cells #[.slice none 0 0, .slice none 0 0, .bool false] 87 (0, 0))) := b4
  have HGL : Hid (HasO w3 gl (.cells #[.slice As n cs, .slice Af n cf] 85 (0, 0))) := hgl
  have hrows' : RowsAt w3 B (.slice As n cs) (.slice Af n cf) s Q := by rw [← hn]; exact hrows
  have HROWS := Lib.hid hrows'
  have HB0 := Lib.hid hB0
  have HGE := Lib.hid hge
  have HGQ := Lib.hid hglQ
  have VS := Lib.hid vsl
  have VF := Lib.hid vfl
  have VSF := Lib.hid vsf
  have HLI := Lib.hid hl
  have HN := Lib.hid hn
  have HBW := Lib.hid hB
  have hw3s : w.heap.size + 1 + 1 = w3.heap.size := by rw [← hw3]; simp
  clear hsets hfo hfs b3 b4 hgl hrows hrows' hB0 hge hglQ vsl vfl vsf hl hn hlay
  go_enter Try.func52, Try.ntmps52
  go_upto_region 2 with fail
  have HFACTS : Hid (OneFacts w w3 gl p (.slice As n cs) (.slice Af n cf)) := ⟨g0, g1, s0, s1, s2, s3, z0, z1, by omega, by omega, by omega⟩
  have hgl4 : gl < w3.heap.size := by omega
  have hl4 : w.heap.size < w3.heap.size := by omega
  have q191 : ∃ A c u, App 32 32 ((w3.alloc (.cells #[.int .u64 (word p 0), .int .u64 (word p 1), .int .u64 (word p 2), .int .u64 (word p 3)] 26)).drew) (.slice As n cs) (.slice (some ⟨w3.heap.size, 0, none⟩) 1 1) ∧ appV 32 32 ((w3.alloc (.cells #[.int .u64 (word p 0), .int .u64 (word p 1), .int .u64 (word p 2), .int .u64 (word p 3)] 26)).drew) (.slice As n cs) (.slice (some ⟨w3.heap.size, 0, none⟩) 1 1) = .slice A (n + 1) c ∧ appW 32 32 ((w3.alloc (.cells #[.int .u64 (word p 0), .int .u64 (word p 1), .int .u64 (word p 2), .int .u64 (word p 3)] 26)).drew) (.slice As n cs) (.slice (some ⟨w3.heap.size, 0, none⟩) 1 1) = u ∧
      Hid (u.ownsRow B 26 4 (.slice A (n + 1) c) (n + 1) (setsC s.sets ++ (#[.int .u64 (word p 0), .int .u64 (word p 1), .int .u64 (word p 2), .int .u64 (word p 3)] : Array Value).toList) ∧ ((w3.alloc (.cells #[.int .u64 (word p 0), .int .u64 (word p 1), .int .u64 (word p 2), .int .u64 (word p 3)] 26)).drew).grownBy u (Value.slice As n cs).ownBlock ∧ ((Value.slice A (n + 1) c).ownBlock = (Value.slice As n cs).ownBlock ∨ (Value.slice A (n + 1) c).ownBlock = some ((w3.alloc (.cells #[.int .u64 (word p 0), .int .u64 (word p 1), .int .u64 (word p 2), .int .u64 (word p 3)] 26)).drew).heap.size)) := by
    obtain ⟨v', u, hr, h2, h3, _, h5⟩ := run_append_own_at (P := Try.prog) ((w3.alloc (.cells #[.int .u64 (word p 0), .int .u64 (word p 1), .int .u64 (word p 2), .int .u64 (word p 3)] 26)).drew) B 32 32 26 i0 _ 4 32 Try.underlying32 hi hi0 hi1 hi2 rfl (by decide) (.slice As n cs) n (setsC s.sets) (own_kept HSETS.out (((Kept.refl NoB w3).alloc _).drew)) ⟨w3.heap.size, 0, none⟩ 1 1 _ (by rfl) (news_has (has_drew (has_new w3 _ _ _ rfl))) (one4N p) (by unfold maxLen; omega) (by omega) (by simp; omega)
    obtain ⟨A, c, rfl⟩ := own_form3 h2
    obtain ⟨a1, a2, a3⟩ := app_is hr
    exact ⟨A, c, u, a1, a2, a3, h2, h3, h5⟩
  obtain ⟨A191, c191, u1, ha1, hv1, hw1, hh1⟩ := q191
  have F1 := one_after HFACTS.out (((Kept.refl NoB w3).alloc _).drew) hh1.out.2.1 VS.out
  have O1 := own_grownN hh1.out.2.1 (own_kept HFO.out (((Kept.refl NoB w3).alloc _).drew)) (fun b e e2 => absurd e (VSF.out b e2.symm))
  obtain ⟨xa1, xb1, xc1, xd1, xe1, xf1, xy1, xz1, xl1, xm1, xn1⟩ := F1
  have q192 : ∃ A c u, App 32 32 (((w3.alloc (.cells #[.int .u64 (word p 0), .int .u64 (word p 1), .int .u64 (word p 2), .int .u64 (word p 3)] 26)).alloc (.cells #[.slice none 0 0] 33)).drew) (.slice As n cs) (.slice (some ⟨w3.heap.size, 0, none⟩) 1 1) ∧ appV 32 32 (((w3.alloc (.cells #[.int .u64 (word p 0), .int .u64 (word p 1), .int .u64 (word p 2), .int .u64 (word p 3)] 26)).alloc (.cells #[.slice none 0 0] 33)).drew) (.slice As n cs) (.slice (some ⟨w3.heap.size, 0, none⟩) 1 1) = .slice A (n + 1) c ∧ appW 32 32 (((w3.alloc (.cells #[.int .u64 (word p 0), .int .u64 (word p 1), .int .u64 (word p 2), .int .u64 (word p 3)] 26)).alloc (.cells #[.slice none 0 0] 33)).drew) (.slice As n cs) (.slice (some ⟨w3.heap.size, 0, none⟩) 1 1) = u ∧
      Hid (u.ownsRow B 26 4 (.slice A (n + 1) c) (n + 1) (setsC s.sets ++ (#[.int .u64 (word p 0), .int .u64 (word p 1), .int .u64 (word p 2), .int .u64 (word p 3)] : Array Value).toList) ∧ (((w3.alloc (.cells #[.int .u64 (word p 0), .int .u64 (word p 1), .int .u64 (word p 2), .int .u64 (word p 3)] 26)).alloc (.cells #[.slice none 0 0] 33)).drew).grownBy u (Value.slice As n cs).ownBlock ∧ ((Value.slice A (n + 1) c).ownBlock = (Value.slice As n cs).ownBlock ∨ (Value.slice A (n + 1) c).ownBlock = some (((w3.alloc (.cells #[.int .u64 (word p 0), .int .u64 (word p 1), .int .u64 (word p 2), .int .u64 (word p 3)] 26)).alloc (.cells #[.slice none 0 0] 33)).drew).heap.size)) := by
    obtain ⟨v', u, hr, h2, h3, _, h5⟩ := run_append_own_at (P := Try.prog) (((w3.alloc (.cells #[.int .u64 (word p 0), .int .u64 (word p 1), .int .u64 (word p 2), .int .u64 (word p 3)] 26)).alloc (.cells #[.slice none 0 0] 33)).drew) B 32 32 26 i0 _ 4 32 Try.underlying32 hi hi0 hi1 hi2 rfl (by decide) (.slice As n cs) n (setsC s.sets) (own_kept HSETS.out ((((Kept.refl NoB w3).alloc _).alloc _).drew)) ⟨w3.heap.size, 0, none⟩ 1 1 _ (by rfl) (news_has (has_drew (has_alloc _ (has_new w3 _ _ _ rfl)))) (one4N p) (by unfold maxLen; omega) (by omega) (by simp; omega)
    obtain ⟨A, c, rfl⟩ := own_form3 h2
    obtain ⟨a1, a2, a3⟩ := app_is hr
    exact ⟨A, c, u, a1, a2, a3, h2, h3, h5⟩
  obtain ⟨A192, c192, u2, ha2, hv2, hw2, hh2⟩ := q192
  have F2 := one_after HFACTS.out ((((Kept.refl NoB w3).alloc _).alloc _).drew) hh2.out.2.1 VS.out
  have O2 := own_grownN hh2.out.2.1 (own_kept HFO.out ((((Kept.refl NoB w3).alloc _).alloc _).drew)) (fun b e e2 => absurd e (VSF.out b e2.symm))
  obtain ⟨xa2, xb2, xc2, xd2, xe2, xf2, xy2, xz2, xl2, xm2, xn2⟩ := F2
  have q193 : ∃ A c u, App 32 32 (((w3.alloc (.cells #[.slice none 0 0] 33)).alloc (.cells #[.int .u64 (word p 0), .int .u64 (word p 1), .int .u64 (word p 2), .int .u64 (word p 3)] 26)).drew) (.slice As n cs) (.slice (some ⟨w3.heap.size + 1, 0, none⟩) 1 1) ∧ appV 32 32 (((w3.alloc (.cells #[.slice none 0 0] 33)).alloc (.cells #[.int .u64 (word p 0), .int .u64 (word p 1), .int .u64 (word p 2), .int .u64 (word p 3)] 26)).drew) (.slice As n cs) (.slice (some ⟨w3.heap.size + 1, 0, none⟩) 1 1) = .slice A (n + 1) c ∧ appW 32 32 (((w3.alloc (.cells #[.slice none 0 0] 33)).alloc (.cells #[.int .u64 (word p 0), .int .u64 (word p 1), .int .u64 (word p 2), .int .u64 (word p 3)] 26)).drew) (.slice As n cs) (.slice (some ⟨w3.heap.size + 1, 0, none⟩) 1 1) = u ∧
      Hid (u.ownsRow B 26 4 (.slice A (n + 1) c) (n + 1) (setsC s.sets ++ (#[.int .u64 (word p 0), .int .u64 (word p 1), .int .u64 (word p 2), .int .u64 (word p 3)] : Array Value).toList) ∧ (((w3.alloc (.cells #[.slice none 0 0] 33)).alloc (.cells #[.int .u64 (word p 0), .int .u64 (word p 1), .int .u64 (word p 2), .int .u64 (word p 3)] 26)).drew).grownBy u (Value.slice As n cs).ownBlock ∧ ((Value.slice A (n + 1) c).ownBlock = (Value.slice As n cs).ownBlock ∨ (Value.slice A (n + 1) c).ownBlock = some (((w3.alloc (.cells #[.slice none 0 0] 33)).alloc (.cells #[.int .u64 (word p 0), .int .u64 (word p 1), .int .u64 (word p 2), .int .u64 (word p 3)] 26)).drew).heap.size)) := by
    obtain ⟨v', u, hr, h2, h3, _, h5⟩ := run_append_own_at (P := Try.prog) (((w3.alloc (.cells #[.slice none 0 0] 33)).alloc (.cells #[.int .u64 (word p 0), .int .u64 (word p 1), .int .u64 (word p 2), .int .u64 (word p 3)] 26)).drew) B 32 32 26 i0 _ 4 32 Try.underlying32 hi hi0 hi1 hi2 rfl (by decide) (.slice As n cs) n (setsC s.sets) (own_kept HSETS.out ((((Kept.refl NoB w3).alloc _).alloc _).drew)) ⟨w3.heap.size + 1, 0, none⟩ 1 1 _ (by rfl) (news_has (has_drew (has_new _ _ _ _ (by simp)))) (one4N p) (by unfold maxLen; omega) (by omega) (by simp; omega)
    obtain ⟨A, c, rfl⟩ := own_form3 h2
    obtain ⟨a1, a2, a3⟩ := app_is hr
    exact ⟨A, c, u, a1, a2, a3, h2, h3, h5⟩
  obtain ⟨A193, c193, u3, ha3, hv3, hw3, hh3⟩ := q193
  have F3 := one_after HFACTS.out ((((Kept.refl NoB w3).alloc _).alloc _).drew) hh3.out.2.1 VS.out
  have O3 := own_grownN hh3.out.2.1 (own_kept HFO.out ((((Kept.refl NoB w3).alloc _).alloc _).drew)) (fun b e e2 => absurd e (VSF.out b e2.symm))
  obtain ⟨xa3, xb3, xc3, xd3, xe3, xf3, xy3, xz3, xl3, xm3, xn3⟩ := F3
  have q251 : ∃ A c u, App 35 35 (u1.alloc (.cells #[.slice none 0 0] 33)) (.slice Af n cf) (.slice (some ⟨u1.heap.size, 0, none⟩) 1 1) ∧ appV 35 35 (u1.alloc (.cells #[.slice none 0 0] 33)) (.slice Af n cf) (.slice (some ⟨u1.heap.size, 0, none⟩) 1 1) = .slice A (n + 1) c ∧ appW 35 35 (u1.alloc (.cells #[.slice none 0 0] 33)) (.slice Af n cf) (.slice (some ⟨u1.heap.size, 0, none⟩) 1 1) = u ∧
      Hid (u.ownsRow B 33 1 (.slice A (n + 1) c) (n + 1) (fs ++ (#[.slice none 0 0] : Array Value).toList) ∧ ((u1.alloc (.cells #[.slice none 0 0] 33))).grownBy u (Value.slice Af n cf).ownBlock ∧ ((Value.slice A (n + 1) c).ownBlock = (Value.slice Af n cf).ownBlock ∨ (Value.slice A (n + 1) c).ownBlock = some ((u1.alloc (.cells #[.slice none 0 0] 33))).heap.size)) := by
    obtain ⟨v', u, hr, h2, h3, _, h5⟩ := run_append_own_at (P := Try.prog) (u1.alloc (.cells #[.slice none 0 0] 33)) B 35 35 33 j0 _ 1 24 Try.underlying35 hj hj0 hj1 hj2 rfl (by decide) (.slice Af n cf) n fs (own_kept O1 ((Kept.refl NoB u1).alloc _)) ⟨u1.heap.size, 0, none⟩ 1 1 _ (by rfl) (news_has (has_new u1 _ _ _ rfl)) one1N (by unfold maxLen; omega) (by omega) (by first | omega | (simp; omega))
    obtain ⟨A, c, rfl⟩ := own_form3 h2
    obtain ⟨a1, a2, a3⟩ := app_is hr
    exact ⟨A, c, u, a1, a2, a3, h2, h3, h5⟩
  obtain ⟨A251, c251, x1, hA1, hV1, hX1, hH1⟩ := q251
  have G1 := one_after ⟨xa1, xb1, xc1, xd1, xe1, xf1, xy1, xz1, xl1, xm1, xn1⟩ ((Kept.refl NoB u1).alloc _) hH1.out.2.1 VF.out
  obtain ⟨ya1, yb1, yc1, yd1, ye1, yf1, yy1, yz1, yl1, ym1, yn1⟩ := G1
  have q252 : ∃ A c u, App 35 35 u2 (.slice Af n cf) (.slice (some ⟨w3.heap.size + 1, 0, none⟩) 1 1) ∧ appV 35 35 u2 (.slice Af n cf) (.slice (some ⟨w3.heap.size + 1, 0, none⟩) 1 1) = .slice A (n + 1) c ∧ appW 35 35 u2 (.slice Af n cf) (.slice (some ⟨w3.heap.size + 1, 0, none⟩) 1 1) = u ∧
      Hid (u.ownsRow B 33 1 (.slice A (n + 1) c) (n + 1) (fs ++ (#[.slice none 0 0] : Array Value).toList) ∧ (u2).grownBy u (Value.slice Af n cf).ownBlock ∧ ((Value.slice A (n + 1) c).ownBlock = (Value.slice Af n cf).ownBlock ∨ (Value.slice A (n + 1) c).ownBlock = some (u2).heap.size)) := by
    obtain ⟨v', u, hr, h2, h3, _, h5⟩ := run_append_own_at (P := Try.prog) u2 B 35 35 33 j0 _ 1 24 Try.underlying35 hj hj0 hj1 hj2 rfl (by decide) (.slice Af n cf) n fs (own_kept O2 (Kept.refl NoB u2)) ⟨w3.heap.size + 1, 0, none⟩ 1 1 _ (by rfl) (news_has (has_grownN hh2.out.2.1 (has_drew (has_new _ _ _ _ (by simp))) (by intro h; have h2 := (VS.out _ h.symm).1; omega))) one1N (by unfold maxLen; omega) (by omega) (by first | omega | (simp; omega))
    obtain ⟨A, c, rfl⟩ := own_form3 h2
    obtain ⟨a1, a2, a3⟩ := app_is hr
    exact ⟨A, c, u, a1, a2, a3, h2, h3, h5⟩
  obtain ⟨A252, c252, x2, hA2, hV2, hX2, hH2⟩ := q252
  have G2 := one_after ⟨xa2, xb2, xc2, xd2, xe2, xf2, xy2, xz2, xl2, xm2, xn2⟩ (Kept.refl NoB u2) hH2.out.2.1 VF.out
  obtain ⟨ya2, yb2, yc2, yd2, ye2, yf2, yy2, yz2, yl2, ym2, yn2⟩ := G2
  have q253 : ∃ A c u, App 35 35 u3 (.slice Af n cf) (.slice (some ⟨w3.heap.size, 0, none⟩) 1 1) ∧ appV 35 35 u3 (.slice Af n cf) (.slice (some ⟨w3.heap.size, 0, none⟩) 1 1) = .slice A (n + 1) c ∧ appW 35 35 u3 (.slice Af n cf) (.slice (some ⟨w3.heap.size, 0, none⟩) 1 1) = u ∧
      Hid (u.ownsRow B 33 1 (.slice A (n + 1) c) (n + 1) (fs ++ (#[.slice none 0 0] : Array Value).toList) ∧ (u3).grownBy u (Value.slice Af n cf).ownBlock ∧ ((Value.slice A (n + 1) c).ownBlock = (Value.slice Af n cf).ownBlock ∨ (Value.slice A (n + 1) c).ownBlock = some (u3).heap.size)) := by
    obtain ⟨v', u, hr, h2, h3, _, h5⟩ := run_append_own_at (P := Try.prog) u3 B 35 35 33 j0 _ 1 24 Try.underlying35 hj hj0 hj1 hj2 rfl (by decide) (.slice Af n cf) n fs (own_kept O3 (Kept.refl NoB u3)) ⟨w3.heap.size, 0, none⟩ 1 1 _ (by rfl) (news_has (has_grownN hh3.out.2.1 (has_drew (has_alloc _ (has_new w3 _ _ _ rfl))) (by intro h; have h2 := (VS.out _ h.symm).1; omega))) one1N (by unfold maxLen; omega) (by omega) (by first | omega | (simp; omega))
    obtain ⟨A, c, rfl⟩ := own_form3 h2
    obtain ⟨a1, a2, a3⟩ := app_is hr
    exact ⟨A, c, u, a1, a2, a3, h2, h3, h5⟩
  obtain ⟨A253, c253, x3, hA3, hV3, hX3, hH3⟩ := q253
  have G3 := one_after ⟨xa3, xb3, xc3, xd3, xe3, xf3, xy3, xz3, xl3, xm3, xn3⟩ (Kept.refl NoB u3) hH3.out.2.1 VF.out
  obtain ⟨ya3, yb3, yc3, yd3, ye3, yf3, yy3, yz3, yl3, ym3, yn3⟩ := G3
  have hz1 : w3.heap.size < u2.heap.size := by have := hh2.out.2.1.size; simp at this; omega
  have hz2 : w3.heap.size < u3.heap.size := by have := hh3.out.2.1.size; simp at this; omega
  go_cut [29] from 11 to 29 (fun s29 wx => ∃ Q', LayAt wx B gl (oneL s p) Q' ∧ (∀ b, Q' b → Q b ∨ w3.heap.size ≤ b) ∧ Kept Q w3 wx)
  case first =>
    go_region
    all_goals
      go_wp2
      go_meet
      first
        | exact one_close HLI.out HN.out HB0.out HGE.out HGQ.out HGL.out HROWS.out HFS.out hB VS.out VF.out VSF.out (((Kept.refl NoB w3).alloc _).drew) hh1.out.1 hh1.out.2.1 hh1.out.2.2 ((Kept.refl NoB u1).alloc _) hH1.out.1 hH1.out.2.1 hH1.out.2.2
        | exact one_close HLI.out HN.out HB0.out HGE.out HGQ.out HGL.out HROWS.out HFS.out hB VS.out VF.out VSF.out ((((Kept.refl NoB w3).alloc _).alloc _).drew) hh2.out.1 hh2.out.2.1 hh2.out.2.2 (Kept.refl NoB u2) hH2.out.1 hH2.out.2.1 hH2.out.2.2
        | exact one_close HLI.out HN.out HB0.out HGE.out HGQ.out HGL.out HROWS.out HFS.out hB VS.out VF.out VSF.out ((((Kept.refl NoB w3).alloc _).alloc _).drew) hh3.out.1 hh3.out.2.1 hh3.out.2.2 (Kept.refl NoB u3) hH3.out.1 hH3.out.2.1 hH3.out.2.2
  case rest =>
    obtain ⟨Q', hlw, hqw, hkw⟩ := hcut
    have n4 : ¬ Q (w.heap.size + 1) := fun e => by have := (HGE.out _ e).2; omega
    have n4' : ¬ Q' (w.heap.size + 1) := fun e => (hqw _ e).elim n4 fun e' => by omega
    have b4 : BoxS wc (w.heap.size + 1) (.slice none 0 0) (.slice none 0 0) false := HB4.out.of_kept hkw n4
    obtain ⟨t0, t1, t2⟩ := ((b4.alloc (.cells #[.int .i64 (n : Int)] 3)).alloc (.cells #[.int .i64 (n : Int)] 3)).cell
    obtain ⟨v0, v1, v2⟩ := ((b4.alloc (.cells #[.int .i64 (n : Int)] 3)).alloc (.cells #[.int .i64 (n : Int)] 3)).frozen
    have hlc := b4.lt
    have hzs := hkw.size
    have HLW := Lib.hid hlw
    have HQW := Lib.hid hqw
    have HKW := Lib.hid hkw
    have HB := Lib.hid b4
    have HHN := Lib.hid (And.intro n4 n4')
    clear hlw hqw hkw b4 n4 n4' HFACTS g0 g1 z0 z1 s0 s1 s2 s3 r0 r1 r2 q0 q1 q2 hi hi0 hi1 hi2 hj hj0 hj1 hj2
    go_wp2
    refine ret_str (x := 4) rfl rfl rfl (((HB.out.alloc _).alloc _).put _ _ _) ?_
    have A1 : HasO (((((wc.alloc (.cells #[.int .i64 (n : Int)] 3)).alloc (.cells #[.int .i64 (n : Int)] 3)).setCell ⟨w.heap.size + 1, 0, none⟩ (.slice (some ⟨wc.heap.size, 0, none⟩) 1 1)).setCell ⟨w.heap.size + 1, 1, none⟩ (.slice (some ⟨wc.heap.size + 1, 0, none⟩) 1 1)).setCell ⟨w.heap.size + 1, 2, none⟩ (.bool false)) wc.heap.size (.cells #[.int .i64 (n : Int)] 3 (0, 0)) :=
      has_setCell _ (has_setCell _ (has_setCell _ (has_alloc _ (has_new wc _ _ _ rfl)) (by intro h; have : wc.heap.size = w.heap.size + 1 := h; omega)) (by intro h; have : wc.heap.size = w.heap.size + 1 := h; omega)) (by intro h; have : wc.heap.size = w.heap.size + 1 := h; omega)
    have A2 : HasO (((((wc.alloc (.cells #[.int .i64 (n : Int)] 3)).alloc (.cells #[.int .i64 (n : Int)] 3)).setCell ⟨w.heap.size + 1, 0, none⟩ (.slice (some ⟨wc.heap.size, 0, none⟩) 1 1)).setCell ⟨w.heap.size + 1, 1, none⟩ (.slice (some ⟨wc.heap.size + 1, 0, none⟩) 1 1)).setCell ⟨w.heap.size + 1, 2, none⟩ (.bool false)) (wc.heap.size + 1) (.cells #[.int .i64 (n : Int)] 3 (0, 0)) :=
      has_setCell _ (has_setCell _ (has_setCell _ (has_new _ _ _ _ (by simp)) (by intro h; have : wc.heap.size + 1 = w.heap.size + 1 := h; omega)) (by intro h; have : wc.heap.size + 1 = w.heap.size + 1 := h; omega)) (by intro h; have : wc.heap.size + 1 = w.heap.size + 1 := h; omega)
    have K : Kept (fun b => b = w.heap.size + 1) wc (((((wc.alloc (.cells #[.int .i64 (n : Int)] 3)).alloc (.cells #[.int .i64 (n : Int)] 3)).setCell ⟨w.heap.size + 1, 0, none⟩ (.slice (some ⟨wc.heap.size, 0, none⟩) 1 1)).setCell ⟨w.heap.size + 1, 1, none⟩ (.slice (some ⟨wc.heap.size + 1, 0, none⟩) 1 1)).setCell ⟨w.heap.size + 1, 2, none⟩ (.bool false)) :=
      ((((((Kept.refl (fun b => b = w.heap.size + 1) wc).alloc _).alloc _).setCell (a := ⟨w.heap.size + 1, 0, none⟩) (.inl rfl) _).setCell (a := ⟨w.heap.size + 1, 1, none⟩) (.inl rfl) _).setCell (a := ⟨w.heap.size + 1, 2, none⟩) (.inl rfl) _)
    have hf : (oneX s).first = [n] := by rw [← HN.out]; rfl
    have hla : (oneX s).last = [n] := by rw [← HN.out]; rfl
    have hQ : ∀ b, wc.heap.size ≤ b → ¬ Q' b := fun b h e => by have := (HLW.out.ge b e).2; omega
    refine ⟨_, _, Q', rfl, HLW.out.off K fun b e e2 => HHN.out.2 (e2 ▸ e), ⟨by rw [hf]; exact ints_has A1 (by omega), by rw [hla]; exact ints_has A2 (by omega), fun b e e2 => ?_, fun b e => ?_, fun b e => ?_⟩,
      ((Kept.of_below Q HB0.out).trans HKW.out fun b h => .inl h).trans K fun b e => .inr (by omega), fun b e => (HQW.out b e).imp id fun e => by omega⟩
    · injection e with e
      injection e2 with e2
      have e' : wc.heap.size = b := e
      have e2' : wc.heap.size + 1 = b := e2
      omega
    · injection e with e
      have e' : wc.heap.size = b := e
      exact hQ b (by omega)
    · injection e with e
      have e' : wc.heap.size + 1 = b := e
      exact hQ b (by omega)
end Go.Proofs.Ytfgppmipaahleaa

/-
  A pattern's kids in memory. Laws for other texts; no statement of its own.
-/
namespace Go.Proofs.Ytfgppmipaahleaa
open Go Go.RowKit

/-- A kid's cells, read out of its row. -/
theorem Tree.kidAt {w : World} {ok : Nat → Prop} {t : T} {k : Value} (h : Tree w ok t k) (i : Nat) (hi : i < t.kids.length) :
    ∃ g cap k', k = .slice (some ⟨g, 0, none⟩) t.kids.length cap ∧ g < w.heap.size ∧ Tree w ok (t.kids[i]'hi) k' ∧ ∀ j u, (nodeC (t.kids[i]'hi) k')[j]? = some u → w.cell? ⟨g, 8 * i + j, none⟩ = some u := by
  cases h with
  | nil t h => rw [h] at hi; simp at hi
  | row t g cap cur ks hg hok hn h0 hcap hmax hsize hc hk =>
    have hi' : i < ks.length := by omega
    refine ⟨g, cap, ks[i], rfl, lt_of_some hg, hk i _ _ (List.getElem?_eq_getElem hi) (List.getElem?_eq_getElem hi'), fun j u hu => ?_⟩
    have hj : j < 8 := by
      have := List.getElem?_eq_some_iff.1 hu
      simpa [nodeC] using this.1
    have e := cellsOf_get t.kids ks i j _ _ (List.getElem?_eq_getElem hi) (List.getElem?_eq_getElem hi') hj
    rw [← hc, hu] at e
    rw [cell_of_row w g _ cur 29 (0, 0) hg, ← Array.getElem?_toList]
    rw [List.getElem?_take] at e
    split at e
    · exact e
    · cases e

theorem Tree.bound {w : World} {ok : Nat → Prop} {t : T} {A : Option Addr} {n c : Nat} (h : Tree w ok t (.slice A n c)) : n = t.kids.length ∧ n ≤ maxLen := by
  cases h with
  | nil t h => exact ⟨by simp [h], by decide⟩
  | row t g cap cur ks hg hok hn h0 hcap hmax hsize hc hk => exact ⟨rfl, Nat.le_trans hcap hmax⟩
theorem kid_size (t : T) (i : Nat) (hi : i < t.kids.length) : SizeOf.sizeOf (t.kids[i]'hi) < SizeOf.sizeOf t := by
  obtain ⟨op, p, lo, hi', l⟩ := t
  have := List.sizeOf_lt_of_mem (List.getElem_mem hi)
  simp only [T.kids] at *
  simp
  omega

theorem kid8 {w : World} {ok : Nat → Prop} {t u : T} {A : Option Addr} {n c : Nat} (h : Tree w ok t (.slice A n c)) (i : Nat) (hu : t.kids[i]? = some u) :
    ∃ g B m d, A = some ⟨g, 0, none⟩ ∧ g < w.heap.size ∧ Tree w ok u (.slice B m d) ∧ ∀ q v, (nodeC u (.slice B m d))[q]? = some v → w.cell? ⟨g, 8 * i + q, none⟩ = some v := by
  obtain ⟨hi, e⟩ := List.getElem?_eq_some_iff.1 hu
  obtain ⟨g, cap, kk, e1, hg1, htk, hcells⟩ := h.kidAt i hi
  rw [e] at htk hcells
  obtain ⟨B, m, d, rfl⟩ := htk.form
  exact ⟨g, B, m, d, by injection e1, hg1, htk, hcells⟩

end Go.Proofs.Ytfgppmipaahleaa

/-
  A pattern in a box of its own. Laws for other texts; no statement of its own.
-/
namespace Go.Proofs.Ytfgppmipaahleaa
open Go Go.RowKit

/-- The cells of a node lie at that place. -/
def NodeAt (w : World) (g o : Nat) (t : T) (k : Value) : Prop := ∀ q v, (nodeC t k)[q]? = some v → w.cell? ⟨g, o + q, none⟩ = some v
theorem NodeAt.lt {w : World} {g o : Nat} {t : T} {k : Value} (h : NodeAt w g o t k) : g < w.heap.size := World.block_lt_of_cell? w ⟨g, o + 0, none⟩ (h 0 _ rfl)
theorem NodeAt.stays {w w' : World} {g o : Nat} {t : T} {k : Value} (h : NodeAt w g o t k) (hb : Below w.heap.size w w') : NodeAt w' g o t k := fun q v e => cell_stays (h q v e) hb
theorem NodeAt.kid {w : World} {ok : Nat → Prop} {t : T} {A : Option Addr} {n c : Nat} (h : Tree w ok t (.slice A n c)) (i : Nat) (hi : i < t.kids.length) :
    ∃ g B m d, A = some ⟨g, 0, none⟩ ∧ Tree w ok (t.kids[i]'hi) (.slice B m d) ∧ NodeAt w g (i * 8) (t.kids[i]'hi) (.slice B m d) := by
  obtain ⟨g, B, m1, m2, e1, hg1, htk, hcells⟩ := kid8 h i (List.getElem?_eq_getElem hi)
  exact ⟨g, B, m1, m2, e1, htk, fun q v e => by rw [Nat.mul_comm i 8]; exact hcells q v e⟩

theorem NodeAt.block {w w' : World} {t : T} {g o : Nat} {k : Value} (h : NodeAt w g o t k) (hb : w'.heap[g]? = w.heap[g]?) : NodeAt w' g o t k := fun q v e => (World.cell?_of_block (w := w) (a := ⟨g, o + q, none⟩) hb).trans (h q v e)
theorem Box8.nodeAt {w : World} {g : Nat} {t : T} {k : Value} (h : Box8 w g t k) : NodeAt w g 0 t k := by
  obtain ⟨c0, c1, c2, c3, c4, c5, c6, c7⟩ := h.cell
  intro q v e
  rw [Nat.zero_add]
  match q, e with
  | 0, e => injection e with e; rw [← e]; exact c0
  | 1, e => injection e with e; rw [← e]; exact c1
  | 2, e => injection e with e; rw [← e]; exact c2
  | 3, e => injection e with e; rw [← e]; exact c3
  | 4, e => injection e with e; rw [← e]; exact c4
  | 5, e => injection e with e; rw [← e]; exact c5
  | 6, e => injection e with e; rw [← e]; exact c6
  | 7, e => injection e with e; rw [← e]; exact c7
  | q + 8, e => simp [nodeC] at e
end Go.Proofs.Ytfgppmipaahleaa

/-
  nfa: a layout and the stretch under way, through the calls that lay out a part and join it. Laws for other texts; no statement of its own.
-/
namespace Go.Proofs.Ytfgppmipaahleaa
open Go Go.RowKit

/-- A node somewhere in memory, and its kids, out of Q. -/
structure NodeIn (w : World) (g o : Nat) (t : T) (Q : Nat → Prop) : Prop where
  node : ∃ k, NodeAt w g o t k ∧ Tree w (fun b => ¬ Q b) t k
  out : ¬ Q g
  lt : g < w.heap.size
/-- lay, for all patterns up to a size. -/
def LayFor (N : Nat) : Prop := ∀ (t : T) (w : World) (B gl : Nat) (s : Lay) (Q : Nat → Prop) (g o : Nat), SizeOf.sizeOf t ≤ N → WF t → LayAt w B gl s Q → NodeIn w g o t Q → B ≤ w.heap.size → LInv s →
  s.sets.length + plR t ≤ 1000 → Calls Try.prog 26 #[.pointer (some ⟨gl, 0, none⟩), .pointer (some ⟨g, o, none⟩)] w (RetLay w B gl w.heap.size (layP t s).1 (layP t s).2 Q Q)

theorem tree_kept {w w' : World} {Q Qr : Nat → Prop} {t : T} {k : Value} (h : Tree w (fun b => ¬ Q b) t k) (hk : Kept Q w w') (hq : ∀ b, Qr b → Q b ∨ w.heap.size ≤ b) : Tree w' (fun b => ¬ Qr b) t k :=
  h.mono fun b hb hlt _ => ⟨hk.block b hlt hb, fun e => (hq b e).elim hb fun e' => by omega⟩
theorem NodeIn.kept {w w' : World} {Q Qr : Nat → Prop} {g o : Nat} {t : T} (h : NodeIn w g o t Q) (hk : Kept Q w w') (hq : ∀ b, Qr b → Q b ∨ w.heap.size ≤ b) : NodeIn w' g o t Qr := by
  obtain ⟨k, h1, h2⟩ := h.node
  exact ⟨⟨k, h1.block (hk.block g h.lt h.out), tree_kept h2 hk hq⟩, fun e => (hq g e).elim h.out fun e' => by have := h.lt; omega, Nat.lt_of_lt_of_le h.lt hk.size⟩
/-- The i-th kid. -/
theorem node_kid {w : World} {Q : Nat → Prop} {t : T} {A : Option Addr} {n c : Nat} (h : Tree w (fun b => ¬ Q b) t (.slice A n c)) (i : Nat) (hi : i < t.kids.length) :
    ∃ g, A = some ⟨g, 0, none⟩ ∧ NodeIn w g (i * 8) (t.kids[i]'hi) Q := by
  obtain ⟨g, B, m, d, rfl, h1, h2⟩ := NodeAt.kid h i hi
  refine ⟨g, rfl, ⟨⟨_, h2, h1⟩, ?_, h2.lt⟩⟩
  cases h with
  | row _ g' cap cur ks hg hok => exact hok

/-- Since w: a layout, and a stretch in the box g5; the box g4 waits. -/
structure Hold (w wr : World) (B gl : Nat) (s : Lay) (x : Str) (Q Qr : Nat → Prop) (g4 g5 : Nat) (v1 v2 : Value) : Prop where
  box : BoxS wr g5 v1 v2 x.empty
  res : BoxS wr g4 (.slice none 0 0) (.slice none 0 0) false
  lay : LayAt wr B gl s Qr
  str : StrAt wr w.heap.size v1 v2 x Qr
  kept : Kept Q w wr
  new : ∀ b, Qr b → Q b ∨ w.heap.size ≤ b
  n4 : ¬ Qr g4
  n5 : ¬ Qr g5
  h4 : w.heap.size ≤ g4
  h5 : w.heap.size ≤ g5
  ne : g4 ≠ g5
section
variable {w wr w5 w6 : World} {B gl g4 g5 : Nat} {s s5 s6 : Lay} {x y z : Str} {Q Qr Q5 Q6 : Nat → Prop} {v1 v2 u1 u2 z1 z2 : Value}
theorem Hold.start {wa : World} (hb : Below w.heap.size w wa) (b4 : BoxS wa g4 (.slice none 0 0) (.slice none 0 0) false) (h4 : w.heap.size ≤ g4) (hlay : LayAt w B gl s Q) (hs : ∀ w C Q, StrAt w C (.slice none 0 0) (.slice none 0 0) x Q) :
    Hold w (wa.alloc (.cells #[.slice none 0 0, .slice none 0 0, .bool x.empty] 87)) B gl s x Q Q g4 wa.heap.size (.slice none 0 0) (.slice none 0 0) := by
  have b5 := BoxS.new wa (.slice none 0 0) (.slice none 0 0) x.empty
  have hsz := hb.size
  exact ⟨b5, b4.alloc _, (hlay.stays hb).alloc _, hs _ _ _, (Kept.of_below Q hb).alloc _, fun b h => .inl h, fun e => by have := (hlay.ge _ e).2; omega, fun e => by have := (hlay.ge _ e).2; omega, h4, by omega, by have := b4.lt; omega⟩
theorem LayAt.drew (h : LayAt w B gl s Q) : LayAt w.drew B gl s Q := h.block (Nat.le_refl _) fun _ _ => rfl
theorem Hold.drew (h : Hold w wr B gl s x Q Qr g4 g5 v1 v2) : Hold w wr.drew B gl s x Q Qr g4 g5 v1 v2 :=
  ⟨h.box, h.res, h.lay.drew, ⟨h.str.first, h.str.last, h.str.apart, h.str.out1, h.str.out2⟩, h.kept.drew, h.new, h.n4, h.n5, h.h4, h.h5, h.ne⟩
theorem NodeIn.drew {g o : Nat} {t : T} (h : NodeIn w g o t Q) : NodeIn w.drew g o t Q := h.kept ((Kept.refl Q w).drew) fun b h => .inl h
/-- Behind a call that laid out more. -/
theorem Hold.laid (h : Hold w wr B gl s x Q Qr g4 g5 v1 v2) (hl : LayAt w5 B gl s5 Q5) (hk : Kept Qr wr w5) (hq : ∀ b, Q5 b → Qr b ∨ wr.heap.size ≤ b) : Hold w w5 B gl s5 x Q Q5 g4 g5 v1 v2 := by
  have hs := h.kept.size
  have l5 := h.box.lt
  have l4 := h.res.lt
  exact ⟨h.box.off hk h.n5, h.res.off hk h.n4, hl, h.str.off hk hq, h.kept.trans hk h.new, fun b e => (hq b e).elim (h.new b) fun e' => .inr (by omega),
    fun e => (hq _ e).elim h.n4 fun e' => by omega, fun e => (hq _ e).elim h.n5 fun e' => by omega, h.h4, h.h5, h.ne⟩
/-- The lists under way and those of a new stretch lie apart. -/
theorem Hold.two (h : Hold w wr B gl s x Q Qr g4 g5 v1 v2) (hy : StrAt w5 wr.heap.size u1 u2 y Q5) : TwoS v1 v2 u1 u2 :=
  ⟨fun b e e' => by have := (h.str.first.in e).2; have := (hy.first.in e').1; omega, fun b e e' => by have := (h.str.first.in e).2; have := (hy.last.in e').1; omega,
   fun b e e' => by have := (h.str.last.in e).2; have := (hy.first.in e').1; omega, fun b e e' => by have := (h.str.last.in e).2; have := (hy.last.in e').1; omega⟩
/-- Behind the join, with the new stretch put into the box. -/
theorem Hold.joined (h : Hold w w5 B gl s x Q Q5 g4 g5 v1 v2) (hl : LayAt w6 B gl s6 Q6) (hz : StrAt w6 w.heap.size z1 z2 z Q6) (hk : Kept (fun b => Q5 b ∨ v1.ownBlock = some b ∨ v2.ownBlock = some b) w5 w6) (hq : ∀ b, Q6 b → Q5 b ∨ w5.heap.size ≤ b) :
    Hold w (((w6.setCell ⟨g5, 0, none⟩ z1).setCell ⟨g5, 1, none⟩ z2).setCell ⟨g5, 2, none⟩ (.bool z.empty)) B gl s6 z Q Q6 g4 g5 z1 z2 := by
  have hs := h.kept.size
  have l5 := h.box.lt
  have l4 := h.res.lt
  have m5 : ¬ (Q5 g5 ∨ v1.ownBlock = some g5 ∨ v2.ownBlock = some g5) := by
    rintro (e | e | e)
    · exact h.n5 e
    · obtain ⟨cur, hc⟩ := h.str.first.kind e; exact kind_apart hc h.box (by decide) rfl
    · obtain ⟨cur, hc⟩ := h.str.last.kind e; exact kind_apart hc h.box (by decide) rfl
  have m4 : ¬ (Q5 g4 ∨ v1.ownBlock = some g4 ∨ v2.ownBlock = some g4) := by
    rintro (e | e | e)
    · exact h.n4 e
    · obtain ⟨cur, hc⟩ := h.str.first.kind e; exact kind_apart hc h.res (by decide) rfl
    · obtain ⟨cur, hc⟩ := h.str.last.kind e; exact kind_apart hc h.res (by decide) rfl
  have n6 : ¬ Q6 g5 := fun e => (hq _ e).elim h.n5 fun e' => by omega
  have n64 : ¬ Q6 g4 := fun e => (hq _ e).elim h.n4 fun e' => by omega
  have b6 := h.box.off hk m5
  have r6 := h.res.off hk m4
  have K : Kept (fun b => b = g5) w6 (((w6.setCell ⟨g5, 0, none⟩ z1).setCell ⟨g5, 1, none⟩ z2).setCell ⟨g5, 2, none⟩ (.bool z.empty)) := (((Kept.refl (fun b => b = g5) w6).setCell (a := ⟨g5, 0, none⟩) (.inl rfl) _).setCell (a := ⟨g5, 1, none⟩) (.inl rfl) _).setCell (a := ⟨g5, 2, none⟩) (.inl rfl) _
  have zk : ∀ {v : Value} {l : List Int} {C : Nat}, Ints w6 C v l → ∀ b, v.ownBlock = some b → ¬ b = g5 := fun hi b e => by
    obtain ⟨cur, hc⟩ := hi.kind e
    exact kind_apart hc b6 (by decide)
  refine ⟨b6.put _ _ _, r6.off K h.ne, hl.off K fun b e e2 => n6 (e2 ▸ e), ⟨hz.first.off K (zk hz.first), hz.last.off K (zk hz.last), hz.apart, hz.out1, hz.out2⟩,
    (h.kept.trans hk fun b e => ?_).trans K fun b e => .inr (by have := h.h5; omega), fun b e => (hq b e).elim (h.new b) fun e' => .inr (by omega), n64, n6, h.h4, h.h5, h.ne⟩
  rcases e with e | e | e
  · exact h.new b e
  · exact .inr (h.str.first.in e).1
  · exact .inr (h.str.last.in e).1
/-- What is told in the end: the box g5's, put into g4. -/
theorem Hold.told (h : Hold w wr B gl s x Q Qr g4 g5 v1 v2) : RetLay w B gl w.heap.size s x Q Q (.returned (.agg #[v1, v2, .bool x.empty])) (((wr.setCell ⟨g4, 0, none⟩ v1).setCell ⟨g4, 1, none⟩ v2).setCell ⟨g4, 2, none⟩ (.bool x.empty)) := by
  have K : Kept (fun b => b = g4) wr (((wr.setCell ⟨g4, 0, none⟩ v1).setCell ⟨g4, 1, none⟩ v2).setCell ⟨g4, 2, none⟩ (.bool x.empty)) := (((Kept.refl (fun b => b = g4) wr).setCell (a := ⟨g4, 0, none⟩) (.inl rfl) _).setCell (a := ⟨g4, 1, none⟩) (.inl rfl) _).setCell (a := ⟨g4, 2, none⟩) (.inl rfl) _
  have zk : ∀ {v : Value} {l : List Int} {C : Nat}, Ints wr C v l → ∀ b, v.ownBlock = some b → ¬ b = g4 := fun hi b e => by
    obtain ⟨cur, hc⟩ := hi.kind e
    exact kind_apart hc h.res (by decide)
  exact ⟨v1, v2, Qr, rfl, h.lay.off K fun b e e2 => h.n4 (e2 ▸ e), ⟨h.str.first.off K (zk h.str.first), h.str.last.off K (zk h.str.last), h.str.apart, h.str.out1, h.str.out2⟩, h.kept.trans K fun b e => .inr (by have := h.h4; omega), h.new⟩
end
end Go.Proofs.Ytfgppmipaahleaa

/-
  nfa: parts one behind the other. Contracts for other texts; no statement of its own.
-/
namespace Go.Proofs.Ytfgppmipaahleaa
open Go Go.RowKit
attribute [local go_sem ↓] Go.wp_at_zero Go.wp_at_succ

theorem catP_snoc (t : T) : ∀ (l : List T) (s : Lay) (x : Str), catP (l ++ [t]) s x = (joinL (layP t (catP l s x).1).1 (catP l s x).2 (layP t (catP l s x).1).2, joinX (catP l s x).2 (layP t (catP l s x).1).2)
  | [], s, x => by simp [catP]
  | u :: l, s, x => by
    simp only [List.cons_append, catP]
    exact catP_snoc t l _ _
theorem altP_snoc (t : T) : ∀ (l : List T) (s : Lay) (x : Str), altP (l ++ [t]) s x = ((layP t (altP l s x).1).1, altX (altP l s x).2 (layP t (altP l s x).1).2)
  | [], s, x => by simp [altP]
  | u :: l, s, x => by
    simp only [List.cons_append, altP]
    exact altP_snoc t l _ _
theorem plRL_app : ∀ (l m : List T), plRL (l ++ m) = plRL l + plRL m
  | [], m => by simp [plRL]
  | t :: l, m => by simp only [List.cons_append, plRL]; rw [plRL_app l m]; omega
theorem plRL_take (l : List T) (k : Nat) (h : k < l.length) : plRL (l.take (k + 1)) = plRL (l.take k) + plR (l[k]'h) := by
  rw [List.take_succ_eq_append_getElem h, plRL_app]
  simp [plRL]
theorem plRL_le (l : List T) (k : Nat) : plRL (l.take k) ≤ plRL l := by
  have h := List.take_append_drop k l
  have := plRL_app (l.take k) (l.drop k)
  rw [h] at this
  omega
/-- What is known of parts laid out. -/
structure Facts (s0 s : Lay) (x : Str) (k : Nat) : Prop where
  inv : LInv s
  nice : Nice s s0.sets.length s.sets.length x
  size : s.sets.length = s0.sets.length + k
theorem cat_facts (l : List T) (hwf : ∀ t ∈ l, WF t) (s : Lay) (hl : LInv s) : Facts s (catP l s .nothing).1 (catP l s .nothing).2 (plRL l) := by
  obtain ⟨h1, _, _, h4⟩ := lays_cat (xs := []) l (fun t ht => lays_wf (hwf t ht)) s .nothing s.sets.length _ hl (good_nothing _)
  exact ⟨h1, ⟨_, h4⟩, cat_size l (fun t ht => lay_size (hwf t ht)) s _⟩
theorem alt_facts (l : List T) (hwf : ∀ t ∈ l, WF t) (s : Lay) (hl : LInv s) : Facts s (altP l s .void).1 (altP l s .void).2 (plRL l) := by
  obtain ⟨h1, h4⟩ := lays_alt (xs := []) l (fun t ht => lays_wf (hwf t ht)) s .void s.sets.length _ hl (good_void _)
  exact ⟨h1.inv, ⟨_, h4⟩, alt_size l (fun t ht => lay_size (hwf t ht)) s _⟩
theorem lay_facts {t : T} (hwf : WF t) (s : Lay) (hl : LInv s) : Facts s (layP t s).1 (layP t s).2 (plR t) := by
  obtain ⟨h1, h4⟩ := lays_wf (xs := []) hwf s hl
  exact ⟨h1.inv, ⟨_, h4⟩, lay_size hwf s⟩
theorem nice_more {t : T} (hwf : WF t) {s : Lay} (hl : LInv s) {a : Nat} {x : Str} (h : Nice s a s.sets.length x) : Nice (layP t s).1 a s.sets.length x := by
  obtain ⟨R, h⟩ := h
  exact ⟨R, h.more (lays_wf (xs := []) hwf s hl).1 (Nat.le_refl _)⟩
/-- The join, behind a part that was laid out. -/
theorem hold_join {w w5 : World} {B gl g4 g5 W a : Nat} {s0 : Lay} {x : Str} {t : T} {Q Q5 : Nat → Prop} {v1 v2 u1 u2 : Value} (hwf : WF t) (hl : LInv s0) (n1 : Nice s0 a s0.sets.length x)
    (h : Hold w w5 B gl (layP t s0).1 x Q Q5 g4 g5 v1 v2) (hy : StrAt w5 W u1 u2 (layP t s0).2 Q5) (h2 : TwoS v1 v2 u1 u2) (hW : w.heap.size ≤ W) (hB : B ≤ w.heap.size) (h1000 : (layP t s0).1.sets.length ≤ 1000) :
    Calls Try.prog 66 #[.pointer (some ⟨gl, 0, none⟩), .agg #[v1, v2, .bool x.empty], .agg #[u1, u2, .bool (layP t s0).2.empty]] w5 fun e w6 => ∃ z1 z2 Q6, e = .returned (.agg #[z1, z2, .bool (joinX x (layP t s0).2).empty]) ∧ w6.heap[g5]?.isSome ∧
      BoxS w6 g5 v1 v2 x.empty ∧ BoxS w6 g4 (.slice none 0 0) (.slice none 0 0) false ∧
      Hold w (((w6.setCell ⟨g5, 0, none⟩ z1).setCell ⟨g5, 1, none⟩ z2).setCell ⟨g5, 2, none⟩ (.bool (joinX x (layP t s0).2).empty)) B gl (joinL (layP t s0).1 x (layP t s0).2) (joinX x (layP t s0).2) Q Q6 g4 g5 z1 z2 := by
  have hf := lay_facts hwf s0 hl
  have hs := h.kept.size
  refine (join_p h.lay h.str (hy.low hW) h2 (Nat.le_trans hB hs) hs hf.inv (nice_more hwf hl n1) hf.nice (Nat.le_refl _) h1000).mono ?_
  rintro e w6 ⟨z1, z2, Q6, rfl, l6, s6, k6, q6⟩
  have m5 : ¬ (Q5 g5 ∨ v1.ownBlock = some g5 ∨ v2.ownBlock = some g5) := by
    rintro (e | e | e)
    · exact h.n5 e
    · obtain ⟨cur, hc⟩ := h.str.first.kind e; exact kind_apart hc h.box (by decide) rfl
    · obtain ⟨cur, hc⟩ := h.str.last.kind e; exact kind_apart hc h.box (by decide) rfl
  have m4 : ¬ (Q5 g4 ∨ v1.ownBlock = some g4 ∨ v2.ownBlock = some g4) := by
    rintro (e | e | e)
    · exact h.n4 e
    · obtain ⟨cur, hc⟩ := h.str.first.kind e; exact kind_apart hc h.res (by decide) rfl
    · obtain ⟨cur, hc⟩ := h.str.last.kind e; exact kind_apart hc h.res (by decide) rfl
  have b6 := h.box.off k6 m5
  exact ⟨z1, z2, Q6, rfl, by rw [show w6.heap[g5]? = _ from b6]; rfl, b6, h.res.off k6 m4, h.joined l6 s6 k6 q6⟩

set_option maxRecDepth 20000 in
set_option maxHeartbeats 4000000 in
theorem cat_p {N : Nat} (ih : LayFor N) {w : World} {B gl : Nat} {s : Lay} {Q : Nat → Prop} {t : T} {A : Option Addr} {n c : Nat} (hk : ∀ u ∈ t.kids, SizeOf.sizeOf u ≤ N ∧ WF u) (hlay : LayAt w B gl s Q) (ht : Tree w (fun b => ¬ Q b) t (.slice A n c)) (hB : B ≤ w.heap.size)
    (hl : LInv s) (h1000 : s.sets.length + plRL t.kids ≤ 1000) (hn100 : n ≤ 1000) :
    Calls Try.prog 53 #[.pointer (some ⟨gl, 0, none⟩), .slice A n c] w (RetLay w B gl w.heap.size (catP t.kids s .nothing).1 (catP t.kids s .nothing).2 Q Q) := by
  have hn := ht.bound.1
  have b4 := BoxS.new w (.slice none 0 0) (.slice none 0 0) false
  have hB1 : Below w.heap.size w (w.alloc (.cells #[.slice none 0 0, .slice none 0 0, .bool false] 87)) := (Below.refl _ _).alloc (Nat.le_refl _) _
  have HK := Lib.hid hk
  have HLAY := Lib.hid hlay
  have HT := Lib.hid ht
  have HL := Lib.hid hl
  have H1000 := Lib.hid h1000
  have HN := Lib.hid hn
  have HBW := Lib.hid hB
  clear hk hlay ht hl h1000 hn hB
  go_enter Try.func53, Try.ntmps53
  go_wp2_with (go_at_call 65; (with_reducible refine (nothing_p _).mono ?_); rintro e wa ⟨rfl, hb1⟩; have hs0 := Hold.start (x := .nothing) (gro1 (Below.refl _ _) hb1) (b4.stays hb1) (Nat.le_refl _) HLAY.out (fun w C Q => str_nothing w C Q))
  have hs0' : Hold w (wa.alloc (.cells #[.slice none 0 0, .slice none 0 0, .bool true] 87)) B gl s .nothing Q Q w.heap.size wa.heap.size (.slice none 0 0) (.slice none 0 0) := hs0
  have HS := Lib.hid hs0'
  clear hs0 hs0' b4 hB1 hb1
  go_loopg [10] n (fun m i wr => ∃ k : Nat, i = .int .i64 (k : Int) ∧ k ≤ n ∧ m = n - k ∧ ∃ v1 v2 Qr, Hold w wr B gl (catP (t.kids.take k) s .nothing).1 (catP (t.kids.take k) s .nothing).2 Q Qr w.heap.size wa.heap.size v1 v2)
  case atStart => exact ⟨0, rfl, Nat.zero_le _, rfl, _, _, _, by simpa [catP] using HS.out⟩
  case round =>
    obtain ⟨k, rfl, hk, hmk, v1, v2, Qr, hh⟩ := hrel
    have HMK := Lib.hid hmk
    clear hmk
    by_cases hkl : k < n
    · have hkl' : k < t.kids.length := by rw [← HN.out]; exact hkl
      have hmem := List.getElem_mem hkl'
      have hku := HK.out _ hmem
      have htk := plRL_take t.kids k hkl'
      have hle := plRL_le t.kids (k + 1)
      have hf := cat_facts (t.kids.take k) (fun u hu => (HK.out u (List.mem_of_mem_take hu)).2) s HL.out
      have hsn : catP (t.kids.take (k + 1)) s .nothing = _ := (congrArg (fun l => catP l s .nothing) (List.take_succ_eq_append_getElem hkl')).trans (catP_snoc _ _ _ _)
      obtain ⟨gk, rfl, hnode⟩ := node_kid (tree_kept HT.out hh.kept hh.new) k hkl'
      generalize t.kids[k]'hkl' = u at *
      obtain ⟨sk, hsk⟩ : ∃ sk, (catP (t.kids.take k) s .nothing).1 = sk := ⟨_, rfl⟩
      obtain ⟨xk, hxk⟩ : ∃ xk, (catP (t.kids.take k) s .nothing).2 = xk := ⟨_, rfl⟩
      rw [hsk, hxk] at hh hf hsn
      have hls := lay_size hku.2 sk
      have hhs := hh.kept.size
      have h1k := hf.size
      have hBw : B ≤ w.heap.size := HBW.out
      have h1000 := H1000.out
      have hcall := ih u wr.drew B gl sk Qr gk (k * 8) hku.1 hku.2 hh.lay.drew hnode.drew (show B ≤ wr.heap.size by omega) hf.inv (by omega)
      unfold RetLay at hcall
      have HC := Lib.hid hcall
      have HH := Lib.hid hh.drew
      have HF := Lib.hid hf
      have HSN := Lib.hid hsn
      have HKU := Lib.hid hku.2
      have HLS := Lib.hid (show (layP u sk).1.sets.length ≤ 1000 by omega)
      obtain ⟨c0, c1, c2⟩ := hh.box.cell
      have k0 : (0 : Int) ≤ (k : Int) := by omega
      have k1 : (k : Int) < (n : Int) := by omega
      clear hcall hh hf hsn hku hnode htk hle hsk hxk hls h1k hmem
      go_upto_region 5 with fail
      go_region_law (first
        | (go_simp; go_at_call 26; (refine HC.out.mono ?_); rintro e w5 ⟨u1, u2, Q5, rfl, l5, s5, k5, q5⟩; have h5 := HH.out.laid l5 k5 q5; obtain ⟨d0, d1, d2⟩ := h5.box.cell; have H5 := Lib.hid h5; have S5 := Lib.hid s5; have T5 := Lib.hid (HH.out.two s5); clear h5 s5 l5 k5 q5)
        | (go_simp; go_at_call 66; have hj := hold_join (t := u) (s0 := sk) (x := xk) HKU.out HF.out.inv HF.out.nice H5.out S5.out T5.out HH.out.kept.size HBW.out HLS.out; (refine hj.mono ?_); rintro e w6 ⟨z1, z2, Q6, rfl, -, b6, r6, h6⟩; clear hj; obtain ⟨Z1, zm1, zc1, rfl⟩ := h6.str.first.form3; obtain ⟨Z2, zm2, zc2, rfl⟩ := h6.str.last.form3; have H6 := Lib.hid h6; obtain ⟨f0, f1, f2⟩ := b6.cell; obtain ⟨y0, y1, y2⟩ := b6.frozen; clear h6 b6 r6)
        | fail)
      all_goals
        go_wp2
        go_roundg (n - (k + 1))
        case measure => have := HMK.out; omega
        case rel => exact ⟨k + 1, by go_num, by omega, rfl, _, _, Q6, by rw [HSN.out]; exact H6.out⟩
    · have hkn : k = t.kids.length := by rw [← HN.out]; omega
      rw [hkn, List.take_length] at hh
      obtain ⟨A1, m1, c1, rfl⟩ := hh.str.first.form3
      obtain ⟨A2, m2, c2, rfl⟩ := hh.str.last.form3
      obtain ⟨c0, c1, c2⟩ := hh.box.cell
      obtain ⟨r0, r1, r2⟩ := hh.res.cell
      obtain ⟨q0, q1, q2⟩ := hh.res.frozen
      have HH := Lib.hid hh
      clear hh
      go_wp2
      refine ret_str (x := 4) rfl rfl rfl (HH.out.res.put _ _ _) ?_
      exact HH.out.told
end Go.Proofs.Ytfgppmipaahleaa
