/-
  Several texts of this proof in one file: NfaIn, MooTogM, Tree, Kids, NodeAt, RuleMem. No statement of its own.
-/
import Derived.Test.YtnkopcmkanibhaaMo9
import Derived.Test.YtnkopcmkanibhaaMo3
import Derived.Test.YtnkopcmkanibhaaMo8
import Derived.Test.YtnkopcmkanibhaaMo1
import Derived.Laws.OwnMore
import Derived.Deep.LoopGhost
set_option linter.unusedVariables false
set_option linter.unusedSimpArgs false

/-
  A rule's places in memory, at rest. Laws for other texts; no statement of its own.
-/
namespace Go.Proofs.Ytnkopcmkanibhaa
open Go Go.RowKit

/-- Places in memory, at rest. -/
structure NfaIn (w : World) (B : Nat) (vs v1 : Value) (gm : Nat) (vf : Value) (s : Lay) (x : Str) : Prop where
  sets : ∀ p, p < s.sets.length → ∃ g c, vs = .slice (some ⟨g, 0, none⟩) s.sets.length c ∧ g < B ∧ ∀ r, r < 4 → w.cell? ⟨g, p * 4 + r, none⟩ = some (.int .u64 (word (s.sets.getD p noneP) r))
  first : Ints w 0 v1 (ns x.first)
  firstB : ∀ b, v1.ownBlock = some b → b < B
  last : ∀ p, p < s.sets.length → w.cell? ⟨gm, p, none⟩ = some (.bool (x.last.contains p))
  lastB : gm < B
  fols : ∀ p, p < s.sets.length → ∃ g c v, vf = .slice (some ⟨g, 0, none⟩) s.sets.length c ∧ g < B ∧ w.cell? ⟨g, p, none⟩ = some v ∧ Ints w 0 v (ns (s.follow.getD p [])) ∧ ∀ b, v.ownBlock = some b → b < B
theorem NfaAt.rest {w : World} {C gm : Nat} {vs v1 vf : Value} {s : Lay} {x : Str} (h : NfaAt w C vs v1 gm vf s x) (hl : LInv s) : NfaIn w w.heap.size vs v1 gm vf s x := by
  obtain ⟨Q, hr⟩ := h.rows
  obtain ⟨fs, hfo, hfs⟩ := hr.fols
  refine ⟨fun p hp => ?_, h.first.low (Nat.zero_le _), fun b e => (h.first.in e).2, fun p hp => h.last.cell p hp, h.last.in.2, fun p hp => ?_⟩
  · have hs := hr.sets
    rcases hs.2 with ⟨_, h0⟩ | ⟨g, c, cur, rfl, _, hg, _⟩
    · omega
    · refine ⟨g, c, rfl, lt_of_some hg, fun r hr => ?_⟩
      rw [World.ownsRow.cellAt hs (p * 4 + r) (by omega), setsC_get _ _ _ hp hr, List.getD_eq_getElem?_getD, List.getElem?_eq_getElem hp]
      rfl
  · have hp' : p < s.follow.length := by rw [hl.len]; exact hp
    rcases hfo.2 with ⟨_, h0⟩ | ⟨g, c, cur, rfl, _, hg, _⟩
    · omega
    · have hpf : p < fs.length := by rw [hfs.len]; exact hp'
      refine ⟨g, c, fs[p]'hpf, by rw [hl.len], lt_of_some hg, ?_, (hfs.get p _ _ (List.getElem?_eq_getElem hpf) (getD_get s.follow p [] hp')).low (Nat.zero_le _), fun b e => ?_⟩
      · rw [World.ownsRow.cellAt hfo p (by omega)]; exact List.getElem?_eq_getElem hpf
      · exact ((hfs.get p _ _ (List.getElem?_eq_getElem hpf) (getD_get s.follow p [] hp')).in e).2
theorem NfaIn.below {w w' : World} {B gm : Nat} {vs v1 vf : Value} {s : Lay} {x : Str} (h : NfaIn w B vs v1 gm vf s x) (hb : Below B w w') : NfaIn w' B vs v1 gm vf s x := by
  refine ⟨fun p hp => ?_, h.first.block fun b e _ => hb.block b (h.firstB b e), h.firstB, fun p hp => (hb.cell (p := ⟨gm, p, none⟩) h.lastB).trans (h.last p hp), h.lastB, fun p hp => ?_⟩
  · obtain ⟨g, c, e, hg, hc⟩ := h.sets p hp
    exact ⟨g, c, e, hg, fun r hr => (hb.cell (p := ⟨g, p * 4 + r, none⟩) hg).trans (hc r hr)⟩
  · obtain ⟨g, c, v, e, hg, hc, hi, hv⟩ := h.fols p hp
    exact ⟨g, c, v, e, hg, (hb.cell (p := ⟨g, p, none⟩) hg).trans hc, hi.block fun b e _ => hb.block b (hv b e), hv⟩

end Go.Proofs.Ytnkopcmkanibhaa

/-
  moore: the places of all rules as a row that grows, and rules' places that are read. Laws for other texts; no statement of its own.
-/
namespace Go.Proofs.Ytnkopcmkanibhaa
open Go Go.RowKit

theorem Try.infoPlc : (Try.prog.info? 130).map (fun i => (i.zero, i.size, i.bytes)) = some (some (.agg #[.int .u64 0, .int .u64 0, .int .u64 0, .int .u64 0, .slice none 0 0, .int .i64 0, .bool false, .bool false]), 8, 72) := by kernel_rfl
/-- Places that grow, from B on; who follows them lies below. -/
def PlcRow (w : World) (B : Nat) (v : Value) (ps : List Plc) : Prop :=
  ∃ vs, vs.length = ps.length ∧ w.ownsRow B 130 8 v ps.length (plcsC ps vs) ∧ ∀ (i : Nat) u p, vs[i]? = some u → ps[i]? = some p → Ints w 0 u (ns p.fol) ∧ ∀ b, u.ownBlock = some b → b < B
section
variable {w w' : World} {B : Nat} {v : Value} {ps : List Plc}
theorem PlcRow.nil (w : World) (B : Nat) : PlcRow w B (.slice none 0 0) [] := ⟨[], rfl, World.ownsRow_nil w B _ 8, fun i u p h => by simp at h⟩
theorem PlcRow.form (h : PlcRow w B v ps) : ∃ A c, v = .slice A ps.length c ∧ ps.length ≤ c := by
  obtain ⟨vs, h1, h2, h3⟩ := h
  rcases h2.2 with ⟨rfl, h0⟩ | ⟨g, cap, cur, rfl, _, _, hc, _⟩
  · exact ⟨none, 0, by rw [h0], by omega⟩
  · exact ⟨_, _, rfl, hc⟩
theorem PlcRow.in (h : PlcRow w B v ps) {b : Nat} (hb : v.ownBlock = some b) : B ≤ b ∧ b < w.heap.size := by
  obtain ⟨vs, h1, h2, h3⟩ := h
  exact World.ownsRow.lt h2 b hb
theorem PlcRow.kind (h : PlcRow w B v ps) {b : Nat} (hb : v.ownBlock = some b) : ∃ cur, w.heap[b]? = some (.cells cur 130 (0, 0)) := by
  obtain ⟨vs, h1, h2, h3⟩ := h
  exact own_kind h2 hb
theorem PlcRow.block (h : PlcRow w B v ps) (hB : B ≤ w.heap.size) (hb : Below B w w') (ho : ∀ b, v.ownBlock = some b → w'.heap[b]? = w.heap[b]?) : PlcRow w' B v ps := by
  obtain ⟨vs, h1, h2, h3⟩ := h
  exact ⟨vs, h1, own_block h2 fun b e _ => ho b e, fun i u p e1 e2 => ⟨(h3 i u p e1 e2).1.block fun b e _ => hb.block b ((h3 i u p e1 e2).2 b e), (h3 i u p e1 e2).2⟩⟩
theorem PlcRow.stays (h : PlcRow w B v ps) (hB : B ≤ w.heap.size) (hb : Below w.heap.size w w') : PlcRow w' B v ps :=
  h.block hB (hb.mono hB) fun b e => hb.block b (h.in e).2
/-- A cell of a block below the row's, of no list of those that follow. -/
theorem PlcRow.cellSet (h : PlcRow w B v ps) (hB : B ≤ w.heap.size) {a : Addr} (ha : a.block < B) (hk : ∃ cur ty, w.heap[a.block]? = some (.cells cur ty (0, 0)) ∧ ty ≠ 3) (u : Value) : PlcRow (w.setCell a u) B v ps := by
  obtain ⟨vs, h1, h2, h3⟩ := h
  obtain ⟨cur, ty, hc, hty⟩ := hk
  exact ⟨vs, h1, own_block h2 fun b e _ => Below.heap_setCell _ _ _ _ (by have := (World.ownsRow.lt h2 b e).1; omega), fun i x p e1 e2 => ⟨(h3 i x p e1 e2).1.block fun b e _ => Below.heap_setCell _ _ _ _ (by
    intro e'
    obtain ⟨c2, k2⟩ := (h3 i x p e1 e2).1.kind e
    subst e'
    exact kind_apart hc k2 hty rfl), (h3 i x p e1 e2).2⟩⟩
theorem PlcRow.rules (h : PlcRow w B v ps) {v1 : Value} {fs : List Nat} (hf : Ints w B v1 (ns fs)) {gr lam : Nat} (hr : HasO w gr (.cells #[v, v1, .int .i64 lam] 91 (0, 0))) : RulesIn w gr ⟨ps, fs, lam⟩ := by
  obtain ⟨vs, h1, h2, h3⟩ := h
  exact ⟨v, vs, v1, hr, h1, own_lower h2 (Nat.zero_le _), fun i u p e1 e2 => (h3 i u p e1 e2).1, hf.low (Nat.zero_le _)⟩
end
theorem plc_push {w : World} {B : Nat} {v : Value} {ps : List Plc} (h : PlcRow w B v ps) (hB : B ≤ w.heap.size) (hl : ps.length ≤ 100000) (p : Plc) (u : Value) (hu : Ints w 0 u (ns p.fol)) (hub : ∀ b, u.ownBlock = some b → b < B) (td : TypeId) (ad : Addr) (c : Nat)
    (hc : ∀ (j : Nat) x, (plcC p u)[j]? = some x → w.cell? (ad.add j) = some x) :
    ∃ v' w', (Builtin.append_ #[89, 89] td #[v, .slice (some ad) 1 c]).run Try.prog w = .ok v' w' ∧ PlcRow w' B v' (ps ++ [p]) ∧ w.grownBy w' v.ownBlock ∧ (v'.ownBlock = v.ownBlock ∨ v'.ownBlock = some w.heap.size) := by
  have h0 := h
  obtain ⟨vs, h1, h2, h3⟩ := h
  obtain ⟨i0, hi, hz0, hz1, hz2⟩ := info_parts Try.infoPlc
  have hone : u.oneCell' = true := by
    obtain ⟨A, c', e⟩ := hu.form
    rw [e]
    rfl
  obtain ⟨v', w', hr, h4, h5, _, h6⟩ := run_append_own_at (P := Try.prog) w B 89 td 130 i0 _ 8 72 Try.underlying89 hi hz0 hz1 hz2 rfl (by decide) v ps.length (plcsC ps vs) h2 ad 1 c (plcC p u) rfl hc
    (by
      intro x hx
      simp only [plcC, List.mem_cons, List.not_mem_nil, or_false] at hx
      rcases hx with rfl | rfl | rfl | rfl | rfl | rfl | rfl | rfl
      all_goals first | rfl | exact hone) (by unfold maxLen; omega) (by omega) hB
  have key : ∀ (u' : Value) (l : List Int), Ints w 0 u' l → (∀ b, u'.ownBlock = some b → b < B) → Ints w' 0 u' l := fun u' l hu' hb' => hu'.block fun b e hb => h5.block b hb fun e' => by
    have h7 := (World.ownsRow.lt h2 b e'.symm).1
    have h8 := hb' b e
    omega
  refine ⟨v', w', hr, ⟨vs ++ [u], by simp [h1], ?_, fun i u' p' e1 e2 => ?_⟩, h5, h6⟩
  · rw [plcsC_app ps vs p u h1]
    simpa using h4
  · by_cases hi' : i < ps.length
    · rw [List.getElem?_append_left hi'] at e2
      rw [List.getElem?_append_left (by omega)] at e1
      exact ⟨key _ _ (h3 i u' p' e1 e2).1 (h3 i u' p' e1 e2).2, (h3 i u' p' e1 e2).2⟩
    · have e0 : i = ps.length := by
        have := (List.getElem?_eq_some_iff.1 e2).1
        simp at this
        omega
      subst e0
      rw [List.getElem?_append_right (Nat.le_refl _)] at e2
      rw [List.getElem?_append_right (by omega)] at e1
      simp [h1] at e1 e2
      subst e1 e2
      exact ⟨key _ _ hu hub, hub⟩
theorem wpList_plc {w : World} {ops : Array Oper} {rest : List Oper} {o : Oper} {a : Act} {Q : Exit → Act → World → Prop} (hgd : o.guard = none) (s x : Operand)
    (ho : o.op = .call { callee := .builtin .append, args := #[s, x], argTypes := #[89, 89] })
    {B : Nat} {v : Value} {ps : List Plc} (hs : a.eval s = v) (h : PlcRow w B v ps) (hB : B ≤ w.heap.size) (hl : ps.length ≤ 100000) (p : Plc) (u : Value) (hu : Ints w 0 u (ns p.fol)) (hub : ∀ b, u.ownBlock = some b → b < B)
    (ad : Addr) (c : Nat) (hx : a.eval x = .slice (some ad) 1 c) (hc : ∀ (j : Nat) x, (plcC p u)[j]? = some x → w.cell? (ad.add j) = some x)
    (hk : ∀ v' w', PlcRow w' B v' (ps ++ [p]) → w.grownBy w' v.ownBlock → (v'.ownBlock = v.ownBlock ∨ v'.ownBlock = some w.heap.size) → wpList Try.prog ops Q rest (a.put o.dst v') w') : wpList Try.prog ops Q (o :: rest) a w := by
  obtain ⟨v', w', hr, h2, h3, h4⟩ := plc_push h hB hl p u hu hub o.type ad c hc
  refine wpList_plain hgd fun _ hK => ?_
  unfold Oper.wp execOp
  simp only [ho, resolve, invoke, builtin, Sem.run_bind, Sem.run_pure, Result.andThen_ok, List.map_toArray, List.map_cons, List.map_nil, hs, hx, hr]
  exact hK _ _ (hk v' w' h2 h3 h4)

/-- Rules' places that are read: each in memory below B, the truths of the last ones in a row of their own. -/
def nfaC (vs v1 vm vf : Value) (e : Bool) : List Value := [vs, v1, vm, vf, .bool e]
def RdNfas (w : World) (B : Nat) (A : Option Addr) (L : List (Lay × Str)) : Prop :=
  ∀ i s x, L[i]? = some (s, x) → ∃ g off A1 m1 c1 A2 m2 c2 gm A3 m3 c3, A = some ⟨g, off, none⟩ ∧ g < B ∧ (∀ q u, (nfaC (.slice A1 m1 c1) (.slice A2 m2 c2) (.slice (some ⟨gm, 0, none⟩) s.sets.length s.sets.length) (.slice A3 m3 c3) x.empty)[q]? = some u → w.cell? ⟨g, off + i * 5 + q, none⟩ = some u) ∧
    m1 = s.sets.length ∧ m2 = x.first.length ∧ m3 = s.sets.length ∧ NfaIn w B (.slice A1 m1 c1) (.slice A2 m2 c2) gm (.slice A3 m3 c3) s x
theorem RdNfas.below {w w' : World} {B : Nat} {A : Option Addr} {L : List (Lay × Str)} (h : RdNfas w B A L) (hb : Below B w w') : RdNfas w' B A L := fun i s x e => by
  obtain ⟨g, off, A1, m1, c1, A2, m2, c2, gm, A3, m3, c3, h1, h2, h3, h4, h5, h6, h7⟩ := h i s x e
  exact ⟨g, off, A1, m1, c1, A2, m2, c2, gm, A3, m3, c3, h1, h2, fun q u hu => (hb.cell (p := ⟨g, off + i * 5 + q, none⟩) h2).trans (h3 q u hu), h4, h5, h6, h7.below hb⟩
/-- What together makes: all rules' places, and the first ones of all. -/
def plcOf (s : Lay) (x : Str) (base : Nat) (b : Bool) (p : Nat) : Plc := ⟨s.sets.getD p noneP, s.follow.getD p [], base, x.last.contains p, b⟩
def plcsOf (s : Lay) (x : Str) (base : Nat) (b : Bool) : Nat → List Plc
  | 0 => []
  | k + 1 => plcsOf s x base b k ++ [plcOf s x base b k]
theorem plcsOf_len (s : Lay) (x : Str) (base : Nat) (b : Bool) : ∀ k, (plcsOf s x base b k).length = k
  | 0 => rfl
  | k + 1 => by simp [plcsOf, plcsOf_len s x base b k]
def lx0 : Lay × Str := (⟨[], []⟩, ⟨[], [], false⟩)
def togP (L : List (Lay × Str)) (bs : List Bool) : Nat → List Plc
  | 0 => []
  | k + 1 => togP L bs k ++ plcsOf (L.getD k lx0).1 (L.getD k lx0).2 (togP L bs k).length (bs.getD k false) (L.getD k lx0).1.sets.length
def togF (L : List (Lay × Str)) (bs : List Bool) : Nat → List Nat
  | 0 => []
  | k + 1 => togF L bs k ++ (L.getD k lx0).2.first.map ((togP L bs k).length + ·)
theorem togP_len (L : List (Lay × Str)) (bs : List Bool) (P : Nat) (hP : ∀ s x, (s, x) ∈ L → s.sets.length ≤ P) : ∀ k, k ≤ L.length → (togP L bs k).length ≤ k * P
  | 0, _ => by simp [togP]
  | k + 1, h => by
    have ih := togP_len L bs P hP k (by omega)
    have hm : L.getD k lx0 ∈ L := by rw [List.getD_eq_getElem?_getD, List.getElem?_eq_getElem (by omega)]; exact List.getElem_mem _
    have := hP (L.getD k lx0).1 (L.getD k lx0).2 hm
    simp only [togP, List.length_append, plcsOf_len]
    rw [Nat.succ_mul]
    omega
theorem togF_len (L : List (Lay × Str)) (bs : List Bool) (P : Nat) (hP : ∀ s x, (s, x) ∈ L → x.first.length ≤ P) : ∀ k, k ≤ L.length → (togF L bs k).length ≤ k * P
  | 0, _ => by simp [togF]
  | k + 1, h => by
    have ih := togF_len L bs P hP k (by omega)
    have hm : L.getD k lx0 ∈ L := by rw [List.getD_eq_getElem?_getD, List.getElem?_eq_getElem (by omega)]; exact List.getElem_mem _
    have := hP (L.getD k lx0).1 (L.getD k lx0).2 hm
    simp only [togF, List.length_append, List.length_map]
    rw [Nat.succ_mul]
    omega
end Go.Proofs.Ytnkopcmkanibhaa

/-
  Patterns in memory: a node as a value, and as eight cells; its kids; a row of kids that grows. Laws for other texts; no statement of its own.
-/
namespace Go.Proofs.Ytnkopcmkanibhaa
open Go Go.RowKit

def T.op : T → Int | .mk op _ _ _ _ => op
def T.set : T → Nat → Bool | .mk _ p _ _ _ => p
def T.lo : T → Int | .mk _ _ lo _ _ => lo
def T.hi : T → Int | .mk _ _ _ hi _ => hi
def T.kids : T → List T | .mk _ _ _ _ l => l

/-- A node as a value, its kids' slice being k. -/
def nodeV (t : T) (k : Value) : Value := .agg #[.int .i64 t.op, .int .u64 (word t.set 0), .int .u64 (word t.set 1), .int .u64 (word t.set 2), .int .u64 (word t.set 3), .int .i64 t.lo, .int .i64 t.hi, k]
/-- Its cells. -/
def nodeC (t : T) (k : Value) : List Value := [.int .i64 t.op, .int .u64 (word t.set 0), .int .u64 (word t.set 1), .int .u64 (word t.set 2), .int .u64 (word t.set 3), .int .i64 t.lo, .int .i64 t.hi, k]
theorem nodeC_len (t : T) (k : Value) : (nodeC t k).length = 8 := rfl

def cellsOf : List T → List Value → List Value
  | t :: ts, k :: ks => nodeC t k ++ cellsOf ts ks
  | _, _ => []
theorem cellsOf_len : ∀ (l : List T) (ks : List Value), ks.length = l.length → (cellsOf l ks).length = l.length * 8
  | [], [], _ => rfl
  | t :: ts, k :: ks, h => by
    have := cellsOf_len ts ks (by simpa using h)
    simp [cellsOf, nodeC_len, this]
    omega
theorem cellsOf_app : ∀ (l : List T) (ks : List Value) (t : T) (k : Value), ks.length = l.length → cellsOf (l ++ [t]) (ks ++ [k]) = cellsOf l ks ++ nodeC t k
  | [], [], t, k, _ => by simp [cellsOf]
  | t :: ts, k :: ks, t', k', h => by
    have := cellsOf_app ts ks t' k' (by simpa using h)
    simp [cellsOf, this]
theorem cellsOf_get : ∀ (l : List T) (ks : List Value) (i j : Nat) (t : T) (k : Value), l[i]? = some t → ks[i]? = some k → j < 8 → (cellsOf l ks)[8 * i + j]? = (nodeC t k)[j]?
  | [], _, i, j, t, k, h1, _, _ => by simp at h1
  | _ :: _, [], i, j, t, k, _, h2, _ => by simp at h2
  | t' :: ts, k' :: ks, 0, j, t, k, h1, h2, hj => by
    simp at h1 h2
    subst h1 h2
    rw [cellsOf, List.getElem?_append_left (by rw [nodeC_len]; omega)]
    simp
  | t' :: ts, k' :: ks, i + 1, j, t, k, h1, h2, hj => by
    rw [cellsOf, List.getElem?_append_right (by rw [nodeC_len]; omega), nodeC_len]
    rw [show 8 * (i + 1) + j - 8 = 8 * i + j by omega]
    exact cellsOf_get ts ks i j t k (by simpa using h1) (by simpa using h2) hj

/-- The kids of t lie in memory, as k tells, and theirs; in blocks that are ok. -/
inductive Tree (w : World) (ok : Nat → Prop) : T → Value → Prop
  | nil (t : T) (h : t.kids = []) : Tree w ok t (.slice none 0 0)
  | row (t : T) (g cap : Nat) (cur : Array Value) (ks : List Value) (hg : w.heap[g]? = some (.cells cur 75 (0, 0))) (hok : ok g) (hn : ks.length = t.kids.length) (h0 : 0 < ks.length)
      (hcap : t.kids.length ≤ cap) (hmax : cap ≤ maxLen) (hsize : cur.size = cap * 8) (hc : cur.toList.take (t.kids.length * 8) = cellsOf t.kids ks)
      (hk : ∀ (i : Nat) t' k', t.kids[i]? = some t' → ks[i]? = some k' → Tree w ok t' k') : Tree w ok t (.slice (some ⟨g, 0, none⟩) t.kids.length cap)

section
variable {w w' : World} {ok ok' : Nat → Prop} {t : T} {k : Value}
theorem Tree.mono (h : Tree w ok t k) (hh : ∀ b, ok b → b < w.heap.size → (∃ cur, w.heap[b]? = some (.cells cur 75 (0, 0))) → w'.heap[b]? = w.heap[b]? ∧ ok' b) : Tree w' ok' t k := by
  induction h with
  | nil t h => exact .nil t h
  | row t g cap cur ks hg hok hn h0 hcap hmax hsize hc hk ih =>
    have := hh g hok (lt_of_some hg) ⟨cur, hg⟩
    exact .row t g cap cur ks (this.1.trans hg) this.2 hn h0 hcap hmax hsize hc fun i t' k' h1 h2 => ih i t' k' h1 h2
theorem Tree.weak (h : Tree w ok t k) (hh : ∀ b, ok b → b < w.heap.size → ok' b) : Tree w ok' t k := h.mono fun b h1 h2 _ => ⟨rfl, hh b h1 h2⟩
theorem Tree.stays (h : Tree w ok t k) (hb : Below w.heap.size w w') : Tree w' ok t k := h.mono fun b h1 h2 _ => ⟨hb.block b h2, h1⟩
theorem Tree.alloc (h : Tree w ok t k) (o : Obj) : Tree (w.alloc o) ok t k := h.mono fun b h1 h2 _ => ⟨Below.heap_alloc w o b h2, h1⟩
theorem Tree.grown {row : Option Nat} (h : Tree w ok t k) (hg : w.grownBy w' row) (hr : ∀ b, ok b → some b ≠ row) : Tree w' ok t k := h.mono fun b h1 h2 _ => ⟨hg.block b h2 (hr b h1), h1⟩
theorem Tree.far (h : Tree w ok t k) {a : Addr} (ha : ∀ b, ok b → b ≠ a.block) (u : Value) : Tree (w.setCell a u) ok t k := h.mono fun b h1 h2 _ => ⟨Below.heap_setCell w a u b (ha b h1), h1⟩
theorem Tree.drewN (h : Tree w ok t k) (n : Nat) : Tree (w.drewN n) ok t k := h.mono fun b h1 h2 _ => ⟨rfl, h1⟩
theorem Tree.drew (h : Tree w ok t k) : Tree w.drew ok t k := h.mono fun b h1 h2 _ => ⟨rfl, h1⟩
theorem Tree.only {g : Nat} {s : ByteArray} {st : St} (h : Tree w ok t k) (hg : w.grownBy w' (some g)) (hr : Rdr w g s st) : Tree w' ok t k := h.mono fun b h1 h2 ⟨cur, h3⟩ => ⟨hg.block b h2 fun e => by
  injection e with e
  subst e
  unfold Rdr at hr
  rw [hr] at h3
  injection h3 with h3
  injection h3 with _ h4 _
  exact absurd h4 (by decide), h1⟩
theorem Tree.form (h : Tree w ok t k) : ∃ A n c, k = .slice A n c := by cases h <;> exact ⟨_, _, _, rfl⟩
theorem Tree.one (h : Tree w ok t k) : k.oneCell' = true := by cases h <;> rfl
end

/-- Block g holds a node's eight cells. -/
def Box8 (w : World) (g : Nat) (t : T) (k : Value) : Prop :=
  w.heap[g]? = some (.cells #[.int .i64 t.op, .int .u64 (word t.set 0), .int .u64 (word t.set 1), .int .u64 (word t.set 2), .int .u64 (word t.set 3), .int .i64 t.lo, .int .i64 t.hi, k] 75 (0, 0))

section
variable {w w' : World} {g : Nat} {t : T} {k : Value}
theorem Box8.cell (h : Box8 w g t k) : w.cell? ⟨g, 0, none⟩ = some (.int .i64 t.op) ∧ w.cell? ⟨g, 1, none⟩ = some (.int .u64 (word t.set 0)) ∧ w.cell? ⟨g, 2, none⟩ = some (.int .u64 (word t.set 1)) ∧ w.cell? ⟨g, 3, none⟩ = some (.int .u64 (word t.set 2)) ∧
    w.cell? ⟨g, 4, none⟩ = some (.int .u64 (word t.set 3)) ∧ w.cell? ⟨g, 5, none⟩ = some (.int .i64 t.lo) ∧ w.cell? ⟨g, 6, none⟩ = some (.int .i64 t.hi) ∧ w.cell? ⟨g, 7, none⟩ = some k := by
  unfold Box8 at h
  refine ⟨?_, ?_, ?_, ?_, ?_, ?_, ?_, ?_⟩ <;> exact cell_of_row w g _ _ 75 (0, 0) h
theorem Box8.frozen (h : Box8 w g t k) : w.frozen? ⟨g, 0, none⟩ = false ∧ w.frozen? ⟨g, 1, none⟩ = false ∧ w.frozen? ⟨g, 2, none⟩ = false ∧ w.frozen? ⟨g, 3, none⟩ = false ∧
    w.frozen? ⟨g, 4, none⟩ = false ∧ w.frozen? ⟨g, 5, none⟩ = false ∧ w.frozen? ⟨g, 6, none⟩ = false ∧ w.frozen? ⟨g, 7, none⟩ = false := by
  unfold Box8 at h
  refine ⟨?_, ?_, ?_, ?_, ?_, ?_, ?_, ?_⟩ <;> simp [World.frozen?, h]
theorem Box8.lt (h : Box8 w g t k) : g < w.heap.size := lt_of_some h
theorem Box8.stays (h : Box8 w g t k) (hb : Below w.heap.size w w') : Box8 w' g t k := (hb.block g h.lt).trans h
theorem Box8.alloc (h : Box8 w g t k) (o : Obj) : Box8 (w.alloc o) g t k := (Below.heap_alloc w o g h.lt).trans h
theorem Box8.grown {row : Option Nat} (h : Box8 w g t k) (hb : w.grownBy w' row) (hg : some g ≠ row) : Box8 w' g t k := (hb.block g h.lt hg).trans h
theorem Box8.far (h : Box8 w g t k) {a : Addr} (ha : g ≠ a.block) (u : Value) : Box8 (w.setCell a u) g t k := (Below.heap_setCell w a u g ha).trans h
theorem Box8.drewN (h : Box8 w g t k) (n : Nat) : Box8 (w.drewN n) g t k := h
theorem Box8.new (w : World) (t : T) (k : Value) : Box8 (w.alloc (.cells #[.int .i64 t.op, .int .u64 (word t.set 0), .int .u64 (word t.set 1), .int .u64 (word t.set 2), .int .u64 (word t.set 3), .int .i64 t.lo, .int .i64 t.hi, k] 75)) w.heap.size t k := heap_alloc_new w _
theorem Box8.new0 (w : World) : Box8 (w.alloc (.cells #[.int .i64 0, .int .u64 0, .int .u64 0, .int .u64 0, .int .u64 0, .int .i64 0, .int .i64 0, .slice none 0 0] 75)) w.heap.size T.zero (.slice none 0 0) := by
  have h := Box8.new w T.zero (.slice none 0 0)
  simpa only [T.zero, T.op, T.set, T.lo, T.hi, word_none] using h
/-- The world with all eight cells stored anew. -/
def put8 (w : World) (g : Nat) (t : T) (k : Value) : World :=
  (((((((w.setCell ⟨g, 0, none⟩ (.int .i64 t.op)).setCell ⟨g, 1, none⟩ (.int .u64 (word t.set 0))).setCell ⟨g, 2, none⟩ (.int .u64 (word t.set 1))).setCell ⟨g, 3, none⟩ (.int .u64 (word t.set 2))).setCell ⟨g, 4, none⟩ (.int .u64 (word t.set 3))).setCell ⟨g, 5, none⟩ (.int .i64 t.lo)).setCell ⟨g, 6, none⟩ (.int .i64 t.hi)).setCell ⟨g, 7, none⟩ k
theorem put8_block (w : World) (g : Nat) (t : T) (k : Value) (b : Nat) (hb : b ≠ g) : (put8 w g t k).heap[b]? = w.heap[b]? := by
  unfold put8
  rw [Below.heap_setCell _ _ _ _ hb, Below.heap_setCell _ _ _ _ hb, Below.heap_setCell _ _ _ _ hb, Below.heap_setCell _ _ _ _ hb, Below.heap_setCell _ _ _ _ hb, Below.heap_setCell _ _ _ _ hb, Below.heap_setCell _ _ _ _ hb, Below.heap_setCell _ _ _ _ hb]
theorem Box8.put {t' : T} {k' : Value} (h : Box8 w g t k) (t' : T) (k' : Value) : Box8 (put8 w g t' k') g t' k' := by
  unfold Box8 put8 at *
  simp [World.setCell, Array.getElem?_modify, h]
theorem Box8.putFar {g' : Nat} {t' : T} {k' : Value} (h : Box8 w g t k) (hg : g ≠ g') : Box8 (put8 w g' t' k') g t k := (put8_block w g' t' k' g hg).trans h
theorem Rdr.put8 {g' : Nat} {s : ByteArray} {st : St} (h : Rdr w g s st) (hg : g ≠ g') (t : T) (k : Value) : Rdr (put8 w g' t k) g s st := (put8_block w g' t k g hg).trans h
theorem Tree.put8 {ok : Nat → Prop} {g' : Nat} {t' : T} {k' : Value} (h : Tree w ok t k) (hg : ∀ b, ok b → b ≠ g') : Tree (put8 w g' t' k') ok t k := h.mono fun b h1 h2 _ => ⟨put8_block w g' t' k' b (hg b h1), h1⟩
theorem only_put8 {a b : World} {g g' : Nat} (h : a.grownBy b (some g)) (hg : a.heap.size ≤ g') (t : T) (k : Value) : a.grownBy (Go.Proofs.Ytnkopcmkanibhaa.put8 b g' t k) (some g) :=
  only_setNew (only_setNew (only_setNew (only_setNew (only_setNew (only_setNew (only_setNew (only_setNew h hg _) hg _) hg _) hg _) hg _) hg _) hg _) hg _
theorem below_put8 {a : World} {B : Nat} (h : Below B a w) (hg : B ≤ g) (t : T) (k : Value) : Below B a (Go.Proofs.Ytnkopcmkanibhaa.put8 w g t k) :=
  (((((((h.setCell (p := ⟨g, 0, none⟩) hg _).setCell (p := ⟨g, 1, none⟩) hg _).setCell (p := ⟨g, 2, none⟩) hg _).setCell (p := ⟨g, 3, none⟩) hg _).setCell (p := ⟨g, 4, none⟩) hg _).setCell (p := ⟨g, 5, none⟩) hg _).setCell (p := ⟨g, 6, none⟩) hg _).setCell (p := ⟨g, 7, none⟩) hg _
end

/-- A row of kids that grows. -/
def Row (w : World) (B : Nat) (v : Value) (l : List T) : Prop :=
  ∃ ks, ks.length = l.length ∧ w.ownsRow B 75 8 v l.length (cellsOf l ks) ∧ ∀ (i : Nat) t' k', l[i]? = some t' → ks[i]? = some k' → Tree w (fun b => B ≤ b ∧ some b ≠ v.ownBlock) t' k'

section
variable {w w' : World} {B : Nat} {v : Value} {l : List T}
theorem Row.stays (h : Row w B v l) (hb : Below w.heap.size w w') : Row w' B v l := by
  obtain ⟨ks, h1, h2, h3⟩ := h
  exact ⟨ks, h1, own_stays h2 hb, fun i t' k' e1 e2 => (h3 i t' k' e1 e2).stays hb⟩
theorem Row.alloc (h : Row w B v l) (o : Obj) : Row (w.alloc o) B v l := h.stays ((Below.refl _ _).alloc (Nat.le_refl _) _)
theorem Row.drewN (h : Row w B v l) (n : Nat) : Row (w.drewN n) B v l := by
  obtain ⟨ks, h1, h2, h3⟩ := h
  exact ⟨ks, h1, h2, fun i t' k' e1 e2 => (h3 i t' k' e1 e2).drewN n⟩
theorem own_type {e : TypeId} {size n : Nat} {xs : List Value} {g : Nat} (h : w.ownsRow B e size v n xs) (hv : v.ownBlock = some g) : ∃ cur, w.heap[g]? = some (.cells cur e (0, 0)) := by
  rcases h.2 with ⟨rfl, _⟩ | ⟨g', cap, cur, rfl, _, hh, _⟩
  · cases hv
  · have : g' = g := by simpa [Value.ownBlock] using hv
    subst this
    exact ⟨cur, hh⟩
theorem Row.only {g : Nat} {s : ByteArray} {st : St} (h : Row w B v l) (hg : w.grownBy w' (some g)) (hr : Rdr w g s st) : Row w' B v l := by
  obtain ⟨ks, h1, h2, h3⟩ := h
  refine ⟨ks, h1, h2.kept hg (.inr fun e => ?_), fun i t' k' e1 e2 => (h3 i t' k' e1 e2).only hg hr⟩
  obtain ⟨cur, hc⟩ := own_type h2 e
  unfold Rdr at hr
  rw [hr] at hc
  injection hc with hc
  injection hc with _ h4 _
  exact absurd h4 (by decide)
theorem Row.far {g : Nat} (h : Row w B v l) (hg : g < B) {i : Nat} (u : Value) : Row (w.setCell ⟨g, i, none⟩ u) B v l := by
  obtain ⟨ks, h1, h2, h3⟩ := h
  have hb : w.grownBy (w.setCell ⟨g, i, none⟩ u) (some g) := only_set (only_refl _ _) _
  refine ⟨ks, h1, h2.kept hb (.inr fun e => ?_), fun i t' k' e1 e2 => (h3 i t' k' e1 e2).far (fun b hb => by show b ≠ g; omega) u⟩
  have := h2.lt _ e
  omega
/-- A row of one. -/
theorem Row.new (w : World) (B : Nat) (t : T) (k : Value) (hB : B ≤ w.heap.size) (ht : Tree w (fun b => B ≤ b) t k) :
    Row (w.alloc (.cells #[.int .i64 t.op, .int .u64 (word t.set 0), .int .u64 (word t.set 1), .int .u64 (word t.set 2), .int .u64 (word t.set 3), .int .i64 t.lo, .int .i64 t.hi, k] 75)) B (.slice (some ⟨w.heap.size, 0, none⟩) 1 1) [t] := by
  refine ⟨[k], rfl, World.ownsRow_lit w _ 1 hB (by decide) rfl, fun i t' k' e1 e2 => ?_⟩
  match i, e1, e2 with
  | 0, e1, e2 =>
    simp at e1 e2
    subst e1 e2
    refine (ht.weak (ok' := fun b => B ≤ b ∧ some b ≠ some w.heap.size) fun b h1 h2 => ⟨h1, by simp; omega⟩).alloc _
/-- A row is a node's kids. -/
theorem Row.tree (h : Row w B v l) (h0 : 0 < l.length) (op : Int) (p : Nat → Bool) (lo hi : Int) : Tree w (fun b => B ≤ b) (.mk op p lo hi l) v := by
  obtain ⟨ks, h1, h2, h3⟩ := h
  rcases h2.2 with ⟨rfl, h⟩ | ⟨g, cap, cur, rfl, hB, hh, hc, hm, hs, ht⟩
  · omega
  · exact .row (.mk op p lo hi l) g cap cur ks hh hB h1 (by omega) hc hm hs ht fun i t' k' e1 e2 => (h3 i t' k' e1 e2).weak fun b hb _ => hb.1
end

theorem Try.infoNode : (Try.prog.info? 75).map (fun i => (i.zero, i.size, i.bytes)) = some (some (.agg #[.int .i64 0, .int .u64 0, .int .u64 0, .int .u64 0, .int .u64 0, .int .i64 0, .int .i64 0, .slice none 0 0]), 8, 80) := by kernel_rfl

end Go.Proofs.Ytnkopcmkanibhaa

/-
  A pattern's kids in memory. Laws for other texts; no statement of its own.
-/
namespace Go.Proofs.Ytnkopcmkanibhaa
open Go Go.RowKit

/-- A kid's cells, read out of its row. -/
theorem Tree.kidAt {w : World} {ok : Nat → Prop} {t : T} {k : Value} (h : Tree w ok t k) (i : Nat) (hi : i < t.kids.length) :
    ∃ g cap k', k = .slice (some ⟨g, 0, none⟩) t.kids.length cap ∧ g < w.heap.size ∧ Tree w ok (t.kids[i]'hi) k' ∧ ∀ j u, (nodeC (t.kids[i]'hi) k')[j]? = some u → w.cell? ⟨g, 8 * i + j, none⟩ = some u := by
  cases h with
  | nil t h => rw [h] at hi; simp at hi
  | row t g cap cur ks hg hok hn h0 hcap hmax hsize hc hk =>
    have hi' : i < ks.length := by omega
    refine ⟨g, cap, ks[i], rfl, lt_of_some hg, hk i _ _ (List.getElem?_eq_getElem hi) (List.getElem?_eq_getElem hi'), fun j u hu => ?_⟩
    have hj : j < 8 := by
      have := List.getElem?_eq_some_iff.1 hu
      simpa [nodeC] using this.1
    have e := cellsOf_get t.kids ks i j _ _ (List.getElem?_eq_getElem hi) (List.getElem?_eq_getElem hi') hj
    rw [← hc, hu] at e
    rw [cell_of_row w g _ cur 75 (0, 0) hg, ← Array.getElem?_toList]
    rw [List.getElem?_take] at e
    split at e
    · exact e
    · cases e

theorem Tree.bound {w : World} {ok : Nat → Prop} {t : T} {A : Option Addr} {n c : Nat} (h : Tree w ok t (.slice A n c)) : n = t.kids.length ∧ n ≤ maxLen := by
  cases h with
  | nil t h => exact ⟨by simp [h], by decide⟩
  | row t g cap cur ks hg hok hn h0 hcap hmax hsize hc hk => exact ⟨rfl, Nat.le_trans hcap hmax⟩
theorem kid_size (t : T) (i : Nat) (hi : i < t.kids.length) : SizeOf.sizeOf (t.kids[i]'hi) < SizeOf.sizeOf t := by
  obtain ⟨op, p, lo, hi', l⟩ := t
  have := List.sizeOf_lt_of_mem (List.getElem_mem hi)
  simp only [T.kids] at *
  simp
  omega

theorem kid8 {w : World} {ok : Nat → Prop} {t u : T} {A : Option Addr} {n c : Nat} (h : Tree w ok t (.slice A n c)) (i : Nat) (hu : t.kids[i]? = some u) :
    ∃ g B m d, A = some ⟨g, 0, none⟩ ∧ g < w.heap.size ∧ Tree w ok u (.slice B m d) ∧ ∀ q v, (nodeC u (.slice B m d))[q]? = some v → w.cell? ⟨g, 8 * i + q, none⟩ = some v := by
  obtain ⟨hi, e⟩ := List.getElem?_eq_some_iff.1 hu
  obtain ⟨g, cap, kk, e1, hg1, htk, hcells⟩ := h.kidAt i hi
  rw [e] at htk hcells
  obtain ⟨B, m, d, rfl⟩ := htk.form
  exact ⟨g, B, m, d, by injection e1, hg1, htk, hcells⟩

end Go.Proofs.Ytnkopcmkanibhaa

/-
  A pattern in a box of its own. Laws for other texts; no statement of its own.
-/
namespace Go.Proofs.Ytnkopcmkanibhaa
open Go Go.RowKit

/-- The cells of a node lie at that place. -/
def NodeAt (w : World) (g o : Nat) (t : T) (k : Value) : Prop := ∀ q v, (nodeC t k)[q]? = some v → w.cell? ⟨g, o + q, none⟩ = some v
theorem NodeAt.lt {w : World} {g o : Nat} {t : T} {k : Value} (h : NodeAt w g o t k) : g < w.heap.size := World.block_lt_of_cell? w ⟨g, o + 0, none⟩ (h 0 _ rfl)
theorem NodeAt.stays {w w' : World} {g o : Nat} {t : T} {k : Value} (h : NodeAt w g o t k) (hb : Below w.heap.size w w') : NodeAt w' g o t k := fun q v e => cell_stays (h q v e) hb
theorem NodeAt.kid {w : World} {ok : Nat → Prop} {t : T} {A : Option Addr} {n c : Nat} (h : Tree w ok t (.slice A n c)) (i : Nat) (hi : i < t.kids.length) :
    ∃ g B m d, A = some ⟨g, 0, none⟩ ∧ Tree w ok (t.kids[i]'hi) (.slice B m d) ∧ NodeAt w g (i * 8) (t.kids[i]'hi) (.slice B m d) := by
  obtain ⟨g, B, m1, m2, e1, hg1, htk, hcells⟩ := kid8 h i (List.getElem?_eq_getElem hi)
  exact ⟨g, B, m1, m2, e1, htk, fun q v e => by rw [Nat.mul_comm i 8]; exact hcells q v e⟩

theorem NodeAt.block {w w' : World} {t : T} {g o : Nat} {k : Value} (h : NodeAt w g o t k) (hb : w'.heap[g]? = w.heap[g]?) : NodeAt w' g o t k := fun q v e => (World.cell?_of_block (w := w) (a := ⟨g, o + q, none⟩) hb).trans (h q v e)
theorem Box8.nodeAt {w : World} {g : Nat} {t : T} {k : Value} (h : Box8 w g t k) : NodeAt w g 0 t k := by
  obtain ⟨c0, c1, c2, c3, c4, c5, c6, c7⟩ := h.cell
  intro q v e
  rw [Nat.zero_add]
  match q, e with
  | 0, e => injection e with e; rw [← e]; exact c0
  | 1, e => injection e with e; rw [← e]; exact c1
  | 2, e => injection e with e; rw [← e]; exact c2
  | 3, e => injection e with e; rw [← e]; exact c3
  | 4, e => injection e with e; rw [← e]; exact c4
  | 5, e => injection e with e; rw [← e]; exact c5
  | 6, e => injection e with e; rw [← e]; exact c6
  | 7, e => injection e with e; rw [← e]; exact c7
  | q + 8, e => simp [nodeC] at e
end Go.Proofs.Ytnkopcmkanibhaa

/-
  Rules in memory: patterns with or without the check, one behind the other. Laws for other texts; no statement of its own.
-/
namespace Go.Proofs.Ytnkopcmkanibhaa
open Go Go.RowKit

/-- A rule's cells. -/
def ruleC (r : T × Bool) (k : Value) : List Value := [.int .i64 r.1.op, .int .u64 (word r.1.set 0), .int .u64 (word r.1.set 1), .int .u64 (word r.1.set 2), .int .u64 (word r.1.set 3), .int .i64 r.1.lo, .int .i64 r.1.hi, k, .bool r.2]
theorem ruleC_len (r : T × Bool) (k : Value) : (ruleC r k).length = 9 := rfl
def rulesC : List (T × Bool) → List Value → List Value
  | r :: rs, k :: ks => ruleC r k ++ rulesC rs ks
  | _, _ => []
theorem rulesC_app : ∀ (l : List (T × Bool)) (ks : List Value) (r : T × Bool) (k : Value), ks.length = l.length → rulesC (l ++ [r]) (ks ++ [k]) = rulesC l ks ++ ruleC r k
  | [], [], r, k, _ => by simp [rulesC]
  | q :: l, u :: ks, r, k, h => by simp only [List.cons_append, rulesC]; rw [rulesC_app l ks r k (by simpa using h), List.append_assoc]
  | [], _ :: _, r, k, h => by simp at h
  | _ :: _, [], r, k, h => by simp at h
theorem rulesC_get : ∀ (l : List (T × Bool)) (ks : List Value) (i q : Nat) (r : T × Bool) (k : Value), l[i]? = some r → ks[i]? = some k → q < 9 → (rulesC l ks)[i * 9 + q]? = (ruleC r k)[q]?
  | [], ks, i, q, r, k, h1, h2, hq => by simp at h1
  | r' :: l, [], i, q, r, k, h1, h2, hq => by simp at h2
  | r' :: l, k' :: ks, 0, q, r, k, h1, h2, hq => by
    simp at h1 h2
    subst h1 h2
    rw [rulesC, List.getElem?_append_left (by rw [ruleC_len]; omega)]
    simp
  | r' :: l, k' :: ks, i + 1, q, r, k, h1, h2, hq => by
    rw [rulesC, List.getElem?_append_right (by rw [ruleC_len]; omega), ruleC_len, show (i + 1) * 9 + q - 9 = i * 9 + q by omega]
    exact rulesC_get l ks i q r k (by simpa using h1) (by simpa using h2) hq

/-- A row of rules that grows; its trees lie from B on. -/
def RuleRow (ty : TypeId) (w : World) (B : Nat) (v : Value) (l : List (T × Bool)) : Prop :=
  ∃ ks, ks.length = l.length ∧ w.ownsRow B ty 9 v l.length (rulesC l ks) ∧ ∀ (i : Nat) r k, l[i]? = some r → ks[i]? = some k → Tree w (fun b => B ≤ b) r.1 k
/-- Rules that are read, whatever their type is. -/
def RdRules (w : World) (A : Option Addr) (l : List (T × Bool)) : Prop :=
  ∀ i r, l[i]? = some r → ∃ g off k, A = some ⟨g, off, none⟩ ∧ g < w.heap.size ∧ (∀ q u, (ruleC r k)[q]? = some u → w.cell? ⟨g, off + i * 9 + q, none⟩ = some u) ∧ Tree w (fun _ => True) r.1 k
section
variable {w w' : World} {B : Nat} {v : Value} {l : List (T × Bool)} {ty ty' : TypeId} {A : Option Addr}
theorem RdRules.stays (h : RdRules w A l) (hb : Below w.heap.size w w') : RdRules w' A l := fun i r hi => by
  obtain ⟨g, off, k, e, hg, hc, ht⟩ := h i r hi
  exact ⟨g, off, k, e, Nat.lt_of_lt_of_le hg hb.size, fun q u hu => (hb.cell (p := ⟨g, off + i * 9 + q, none⟩) hg).trans (hc q u hu), ht.stays hb⟩
theorem RdRules.take (h : RdRules w A l) (n : Nat) : RdRules w A (l.take n) := fun i r hi => h i r (by
  rw [List.getElem?_take] at hi
  split at hi
  · exact hi
  · cases hi)
theorem RdRules.nil (w : World) (A : Option Addr) : RdRules w A [] := fun i r hi => by simp at hi
theorem RuleRow.nil (ty : TypeId) (w : World) (B : Nat) : RuleRow ty w B (.slice none 0 0) [] := ⟨[], rfl, World.ownsRow_nil w B _ 9, fun i r k h => by simp at h⟩
theorem RuleRow.form (h : RuleRow ty w B v l) : ∃ A c, v = .slice A l.length c ∧ l.length ≤ c := by
  obtain ⟨ks, h1, h2, h3⟩ := h
  rcases h2.2 with ⟨rfl, h0⟩ | ⟨g, cap, cur, rfl, _, _, hc, _⟩
  · exact ⟨none, 0, by rw [h0], by omega⟩
  · exact ⟨_, _, rfl, hc⟩
theorem RuleRow.lt (h : RuleRow ty w B v l) {b : Nat} (hb : v.ownBlock = some b) : B ≤ b ∧ b < w.heap.size := by
  obtain ⟨ks, h1, h2, h3⟩ := h
  exact World.ownsRow.lt h2 b hb
theorem RuleRow.kind (h : RuleRow ty w B v l) {b : Nat} (hb : v.ownBlock = some b) : ∃ cur, w.heap[b]? = some (.cells cur ty (0, 0)) := by
  obtain ⟨ks, h1, h2, h3⟩ := h
  exact own_kind h2 hb
theorem RuleRow.stays (h : RuleRow ty w B v l) (hb : Below w.heap.size w w') : RuleRow ty w' B v l := by
  obtain ⟨ks, h1, h2, h3⟩ := h
  exact ⟨ks, h1, own_stays h2 hb, fun i r k e1 e2 => (h3 i r k e1 e2).stays hb⟩
/-- Where a row of another type grows, this one stays. -/
theorem RuleRow.grown {v' : Value} {l' : List (T × Bool)} {B' : Nat} (h : RuleRow ty w B v l) (h' : RuleRow ty' w B' v' l') (hne : ty ≠ ty') (hn : ty' ≠ 75) (hg : w.grownBy w' v'.ownBlock) : RuleRow ty w' B v l := by
  obtain ⟨ks, h1, h2, h3⟩ := h
  refine ⟨ks, h1, own_block h2 fun b e hb => hg.block b hb fun e' => ?_, fun i r k e1 e2 => (h3 i r k e1 e2).mono fun b hb hlt ⟨cur, hc⟩ => ⟨hg.block b hlt fun e' => ?_, hb⟩⟩
  · obtain ⟨c1, k1⟩ := own_kind h2 e
    obtain ⟨c2, k2⟩ := h'.kind e'.symm
    exact kind_apart k1 k2 hne rfl
  · obtain ⟨c2, k2⟩ := h'.kind e'.symm
    exact kind_apart k2 hc hn rfl
theorem RuleRow.rd (h : RuleRow ty w B v l) {n c : Nat} (hv : v = .slice A n c) : RdRules w A l := fun i r hi => by
  obtain ⟨ks, h1, h2, h3⟩ := h
  have hl : i < l.length := (List.getElem?_eq_some_iff.1 hi).1
  obtain ⟨k, hk⟩ : ∃ k, ks[i]? = some k := ⟨_, List.getElem?_eq_getElem (by omega)⟩
  have ht := h3 i r k hi hk
  rcases h2.2 with ⟨_, h0⟩ | ⟨g, cap, cur, e, hB, hg, _⟩
  · omega
  · rw [e] at hv h2
    injection hv with e1 e2 e3
    refine ⟨g, 0, k, e1.symm, lt_of_some hg, fun q u hu => ?_, ht.mono fun b _ _ _ => ⟨rfl, trivial⟩⟩
    have hq : q < 9 := by
      have := (List.getElem?_eq_some_iff.1 hu).1
      rw [ruleC_len] at this
      exact this
    rw [Nat.zero_add, World.ownsRow.cellAt h2 (i * 9 + q) (by omega), rulesC_get l ks i q r k hi hk hq]
    exact hu
end
/-- A rule in a block of its own. -/
def RuleBox (ty : TypeId) (w : World) (b : Nat) (r : T × Bool) (k : Value) : Prop := w.heap[b]? = some (.cells #[.int .i64 r.1.op, .int .u64 (word r.1.set 0), .int .u64 (word r.1.set 1), .int .u64 (word r.1.set 2), .int .u64 (word r.1.set 3), .int .i64 r.1.lo, .int .i64 r.1.hi, k, .bool r.2] ty (0, 0))
section
variable {w w' : World} {b : Nat} {r : T × Bool} {k : Value} {ty : TypeId}
theorem RuleBox.lt (h : RuleBox ty w b r k) : b < w.heap.size := lt_of_some h
theorem RuleBox.stays (h : RuleBox ty w b r k) (hb : Below w.heap.size w w') : RuleBox ty w' b r k := (hb.block b h.lt).trans h
theorem RuleBox.drew (h : RuleBox ty w b r k) : RuleBox ty w.drew b r k := h
theorem RuleBox.alloc (h : RuleBox ty w b r k) (o : Obj) : RuleBox ty (w.alloc o) b r k := (Below.heap_alloc w o b h.lt).trans h
theorem RuleBox.cell (h : RuleBox ty w b r k) : w.cell? ⟨b, 0, none⟩ = some (.int .i64 r.1.op) ∧ w.cell? ⟨b, 1, none⟩ = some (.int .u64 (word r.1.set 0)) ∧ w.cell? ⟨b, 2, none⟩ = some (.int .u64 (word r.1.set 1)) ∧ w.cell? ⟨b, 3, none⟩ = some (.int .u64 (word r.1.set 2)) ∧ w.cell? ⟨b, 4, none⟩ = some (.int .u64 (word r.1.set 3)) ∧ w.cell? ⟨b, 5, none⟩ = some (.int .i64 r.1.lo) ∧ w.cell? ⟨b, 6, none⟩ = some (.int .i64 r.1.hi) ∧ w.cell? ⟨b, 7, none⟩ = some (k) ∧ w.cell? ⟨b, 8, none⟩ = some (.bool r.2) :=
  ⟨cell_of_row w b 0 _ _ (0, 0) h, cell_of_row w b 1 _ _ (0, 0) h, cell_of_row w b 2 _ _ (0, 0) h, cell_of_row w b 3 _ _ (0, 0) h, cell_of_row w b 4 _ _ (0, 0) h, cell_of_row w b 5 _ _ (0, 0) h, cell_of_row w b 6 _ _ (0, 0) h, cell_of_row w b 7 _ _ (0, 0) h, cell_of_row w b 8 _ _ (0, 0) h⟩
theorem RuleBox.new (ty : TypeId) (w : World) (r : T × Bool) (k : Value) : RuleBox ty (w.alloc (.cells #[.int .i64 r.1.op, .int .u64 (word r.1.set 0), .int .u64 (word r.1.set 1), .int .u64 (word r.1.set 2), .int .u64 (word r.1.set 3), .int .i64 r.1.lo, .int .i64 r.1.hi, k, .bool r.2] ty)) w.heap.size r k := heap_alloc_new w _
end
/-- A type of rules: nine cells. -/
structure RuleTy (ty tys : TypeId) : Prop where
  und : Try.prog.underlying tys = some (.slice ty)
  info : (Try.prog.info? ty).map (fun i => (i.zero, i.size, i.bytes)) = some (some (.agg #[.int .i64 0, .int .u64 0, .int .u64 0, .int .u64 0, .int .u64 0, .int .i64 0, .int .i64 0, .slice none 0 0, .bool false]), 9, 88)
  node : ty ≠ 75
theorem rule_push {ty tys : TypeId} (hT : RuleTy ty tys) {w : World} {B : Nat} {v : Value} {l : List (T × Bool)} (h : RuleRow ty w B v l) (hB : B ≤ w.heap.size) (hl : l.length ≤ 100000) (r : T × Bool) (k : Value) (hk : Tree w (fun b => B ≤ b) r.1 k) (td : TypeId) (ad : Addr) (c : Nat)
    (hc : ∀ (j : Nat) u, (ruleC r k)[j]? = some u → w.cell? (ad.add j) = some u) :
    ∃ v' w', (Builtin.append_ #[tys, tys] td #[v, .slice (some ad) 1 c]).run Try.prog w = .ok v' w' ∧ RuleRow ty w' B v' (l ++ [r]) ∧ w.grownBy w' v.ownBlock ∧ (v'.ownBlock = v.ownBlock ∨ v'.ownBlock = some w.heap.size) := by
  have h0 := h
  obtain ⟨ks, h1, h2, h3⟩ := h
  obtain ⟨i0, hi, hz0, hz1, hz2⟩ := info_parts hT.info
  have hone := hk.one
  obtain ⟨v', w', hr, h4, h5, _, h6⟩ := run_append_own_at (P := Try.prog) w B tys td ty i0 _ 9 88 hT.und hi hz0 hz1 hz2 rfl (by decide) v l.length (rulesC l ks) h2 ad 1 c (ruleC r k) rfl hc
    (by
      intro u hu
      simp only [ruleC, List.mem_cons, List.not_mem_nil, or_false] at hu
      rcases hu with rfl | rfl | rfl | rfl | rfl | rfl | rfl | rfl | rfl
      all_goals first | rfl | exact hone) (by unfold maxLen; omega) (by omega) hB
  have key : ∀ (t' : T) (k' : Value), Tree w (fun b => B ≤ b) t' k' → Tree w' (fun b => B ≤ b) t' k' := fun t' k' ht => ht.mono fun b hb hlt ⟨cur, hcu⟩ => ⟨h5.block b hlt fun e => by
    obtain ⟨c2, k2⟩ := h0.kind e.symm
    exact kind_apart k2 hcu hT.node rfl, hb⟩
  refine ⟨v', w', hr, ⟨ks ++ [k], by simp [h1], ?_, fun i r' k' e1 e2 => ?_⟩, h5, h6⟩
  · rw [rulesC_app l ks r k h1]
    simpa using h4
  · by_cases hi' : i < l.length
    · rw [List.getElem?_append_left hi'] at e1
      rw [List.getElem?_append_left (by omega)] at e2
      exact key _ _ (h3 i r' k' e1 e2)
    · have e0 : i = l.length := by
        have := (List.getElem?_eq_some_iff.1 e1).1
        simp at this
        omega
      subst e0
      rw [List.getElem?_append_right (Nat.le_refl _)] at e1
      rw [List.getElem?_append_right (by omega)] at e2
      simp [h1] at e1 e2
      subst e1 e2
      exact key _ _ hk
theorem wpList_rule {ty tys : TypeId} (hT : RuleTy ty tys) {w : World} {ops : Array Oper} {rest : List Oper} {o : Oper} {a : Act} {Q : Exit → Act → World → Prop} (hgd : o.guard = none) (s x : Operand)
    (ho : o.op = .call { callee := .builtin .append, args := #[s, x], argTypes := #[tys, tys] })
    {B : Nat} {v : Value} {l : List (T × Bool)} (hs : a.eval s = v) (h : RuleRow ty w B v l) (hB : B ≤ w.heap.size) (hl : l.length ≤ 100000) (r : T × Bool) (k : Value) (hkt : Tree w (fun b => B ≤ b) r.1 k)
    (ad : Addr) (c : Nat) (hx : a.eval x = .slice (some ad) 1 c) (hc : ∀ (j : Nat) u, (ruleC r k)[j]? = some u → w.cell? (ad.add j) = some u)
    (hk : ∀ v' w', RuleRow ty w' B v' (l ++ [r]) → w.grownBy w' v.ownBlock → (v'.ownBlock = v.ownBlock ∨ v'.ownBlock = some w.heap.size) → wpList Try.prog ops Q rest (a.put o.dst v') w') : wpList Try.prog ops Q (o :: rest) a w := by
  obtain ⟨v', w', hr, h2, h3, h4⟩ := rule_push hT h hB hl r k hkt o.type ad c hc
  refine wpList_plain hgd fun _ hK => ?_
  unfold Oper.wp execOp
  simp only [ho, resolve, invoke, builtin, Sem.run_bind, Sem.run_pure, Result.andThen_ok, List.map_toArray, List.map_cons, List.map_nil, hs, hx, hr]
  exact hK _ _ (hk v' w' h2 h3 h4)
theorem rule_new {ty : TypeId} (w : World) (r : T × Bool) (k : Value) : ∀ (j : Nat) u, (ruleC r k)[j]? = some u → (w.alloc (.cells #[.int .i64 r.1.op, .int .u64 (word r.1.set 0), .int .u64 (word r.1.set 1), .int .u64 (word r.1.set 2), .int .u64 (word r.1.set 3), .int .i64 r.1.lo, .int .i64 r.1.hi, k, .bool r.2] ty)).cell? ((⟨w.heap.size, 0, none⟩ : Addr).add j) = some u := by
  intro j u hu
  rw [Addr.add_lit, Nat.zero_add, cell_of_row _ _ j _ ty (0, 0) (heap_alloc_new w _)]
  simpa [ruleC] using hu
/-- Where a row of rules grows, nodes stay. -/
theorem block_ruleGrown {ty : TypeId} {w w' : World} {B b : Nat} {v : Value} {l : List (T × Bool)} {cur : Array Value} (h' : RuleRow ty w B v l) (hn : ty ≠ 75) (hg : w.grownBy w' v.ownBlock) (hb : w.heap[b]? = some (.cells cur 75 (0, 0))) : w'.heap[b]? = w.heap[b]? :=
  hg.block b (lt_of_some hb) fun e => by
    obtain ⟨c2, k2⟩ := h'.kind e.symm
    exact kind_apart k2 hb hn rfl
theorem Tree.ruleGrown {ty : TypeId} {w w' : World} {B : Nat} {v : Value} {l : List (T × Bool)} {ok : Nat → Prop} {t : T} {k : Value} (h : Tree w ok t k) (h' : RuleRow ty w B v l) (hn : ty ≠ 75) (hg : w.grownBy w' v.ownBlock) : Tree w' ok t k :=
  h.mono fun b hb _ ⟨cur, hc⟩ => ⟨block_ruleGrown h' hn hg hc, hb⟩
theorem Box8.ruleGrown {ty : TypeId} {w w' : World} {B g : Nat} {v : Value} {l : List (T × Bool)} {t : T} {k : Value} (h : Box8 w g t k) (h' : RuleRow ty w B v l) (hn : ty ≠ 75) (hg : w.grownBy w' v.ownBlock) : Box8 w' g t k := (block_ruleGrown h' hn hg h).trans h
theorem below_ruleGrown {ty : TypeId} {w0 w w' : World} {B : Nat} {v : Value} {l : List (T × Bool)} (hb : Below B w0 w) (hB : B ≤ w.heap.size) (h' : RuleRow ty w B v l) (hg : w.grownBy w' v.ownBlock) : Below B w0 w' := hb.grown hg hB fun q e => (h'.lt e).1
theorem rule_after {ty ty2 : TypeId} {w0 w w' : World} {B g : Nat} {va vb : Value} {l l2 : List (T × Bool)} {t : T} {k : Value} {ok : Nat → Prop} {o : Obj} (hA : RuleRow ty w B va l) (hB : RuleRow ty2 w B vb l2) (hne : ty2 ≠ ty) (hn : ty ≠ 75) (hb : Below B w0 w) (hBw : B ≤ w.heap.size) (ht : Tree w ok t k) (hx : Box8 w g t k)
    (hg : (w.alloc o).grownBy w' va.ownBlock) : Below B w0 w' ∧ RuleRow ty2 w' B vb l2 ∧ Tree w' ok t k ∧ Box8 w' g t k := by
  have hal : Below w.heap.size w (w.alloc o) := (Below.refl _ _).alloc (Nat.le_refl _) _
  have hA' := hA.stays hal
  exact ⟨below_ruleGrown (hb.alloc hBw o) (by simp; omega) hA' hg, (hB.stays hal).grown hA' hne hn hg, (ht.alloc o).ruleGrown hA' hn hg, (hx.alloc o).ruleGrown hA' hn hg⟩
end Go.Proofs.Ytnkopcmkanibhaa
