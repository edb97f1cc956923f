/-
  Several texts of this proof in one file: MooMem, MooOut, SetPop, SetLists, MooHas, MooBy. No statement of its own.
-/
import Derived.Test.YtnkopcmkanibhaaMo2
import Derived.Lib.Hide
import Derived.BigQuiet
import Derived.Deep.DeepCutAuto
import Derived.Deep.DrawnRows
import Derived.Deep.LoopGhost
import Derived.Deep.QuietTactic
import Derived.Deep.RegionHeld3
import Derived.Deep.RegionLaw
import Derived.Deep.CutRange
import Derived.StillTailTactics
import Derived.Laws.Bits64b
import Derived.BigRegion
import Derived.Test.YtnkopcmkanibhaaMo1
import Derived.RowKit
import Derived.Laws.BitsLemmas
set_option linter.unusedVariables false
set_option linter.unusedSimpArgs false

/-
  moore: all rules' places, words under way, in memory. Laws for other texts; no statement of its own.
-/
namespace Go.Proofs.Ytnkopcmkanibhaa
open Go Go.RowKit

/-- A place of a rule: its set, who follows it (counted in the rule), where the rule's first one stands, whether it is last, whether the rule has the check. -/
structure Plc where
  set : Nat → Bool
  fol : List Nat
  base : Nat
  last : Bool
  luhn : Bool
structure RSt where
  places : List Plc
  first : List Nat
  lam : Nat
def plcC (p : Plc) (v : Value) : List Value := [.int .u64 (word p.set 0), .int .u64 (word p.set 1), .int .u64 (word p.set 2), .int .u64 (word p.set 3), v, .int .i64 p.base, .bool p.last, .bool p.luhn]
theorem plcC_len (p : Plc) (v : Value) : (plcC p v).length = 8 := rfl
def plcsC : List Plc → List Value → List Value
  | p :: ps, v :: vs => plcC p v ++ plcsC ps vs
  | _, _ => []
theorem plcsC_app : ∀ (ps : List Plc) (vs : List Value) (p : Plc) (v : Value), vs.length = ps.length → plcsC (ps ++ [p]) (vs ++ [v]) = plcsC ps vs ++ plcC p v
  | [], [], p, v, _ => by simp [plcsC]
  | q :: ps, u :: vs, p, v, h => by simp only [List.cons_append, plcsC]; rw [plcsC_app ps vs p v (by simpa using h), List.append_assoc]
  | [], _ :: _, p, v, h => by simp at h
  | _ :: _, [], p, v, h => by simp at h
theorem plcsC_get : ∀ (ps : List Plc) (vs : List Value) (i q : Nat) (p : Plc) (v : Value), ps[i]? = some p → vs[i]? = some v → q < 8 → (plcsC ps vs)[i * 8 + q]? = (plcC p v)[q]?
  | [], vs, i, q, p, v, h1, h2, hq => by simp at h1
  | p' :: ps, [], i, q, p, v, h1, h2, hq => by simp at h2
  | p' :: ps, v' :: vs, 0, q, p, v, h1, h2, hq => by
    simp at h1 h2
    subst h1 h2
    rw [plcsC, List.getElem?_append_left (by rw [plcC_len]; omega)]
    simp
  | p' :: ps, v' :: vs, i + 1, q, p, v, h1, h2, hq => by
    rw [plcsC, List.getElem?_append_right (by rw [plcC_len]; omega), plcC_len, show (i + 1) * 8 + q - 8 = i * 8 + q by omega]
    exact plcsC_get ps vs i q p v (by simpa using h1) (by simpa using h2) hq
/-- All rules' places at gr. -/
def RulesIn (w : World) (gr : Nat) (R : RSt) : Prop :=
  ∃ vp vs v1, HasO w gr (.cells #[vp, v1, .int .i64 R.lam] 91 (0, 0)) ∧ vs.length = R.places.length ∧ w.ownsRow 0 130 8 vp R.places.length (plcsC R.places vs) ∧
    (∀ (i : Nat) v p, vs[i]? = some v → R.places[i]? = some p → Ints w 0 v (ns p.fol)) ∧ Ints w 0 v1 (ns R.first)
section
variable {w w' : World} {gr : Nat} {R : RSt} {Q : Nat → Prop}
theorem RulesIn.kept (h : RulesIn w gr R) (hk : Kept Q w w') (hq : ∀ b, Q b → b < w.heap.size → ∃ cur ty, w.heap[b]? = some (.cells cur ty (0, 0)) ∧ ty ≠ 91 ∧ ty ≠ 130 ∧ ty ≠ 3) : RulesIn w' gr R := by
  obtain ⟨vp, vs, v1, h1, h2, h3, h4, h5⟩ := h
  have key : ∀ (b : Nat) (cur : Array Value) (ty : TypeId), w.heap[b]? = some (.cells cur ty (0, 0)) → (ty = 91 ∨ ty = 130 ∨ ty = 3) → w'.heap[b]? = w.heap[b]? := fun b cur ty hb ht => by
    refine hk.block b (lt_of_some hb) fun q => ?_
    obtain ⟨cur', ty', hb', n1, n2, n3⟩ := hq b q (lt_of_some hb)
    have hne : ty' ≠ ty := fun e => by
      rcases ht with h | h | h
      · exact n1 (e.trans h)
      · exact n2 (e.trans h)
      · exact n3 (e.trans h)
    exact kind_apart hb' hb hne rfl
  refine ⟨vp, vs, v1, (key gr _ _ h1 (.inl rfl)).trans h1, h2, own_block h3 fun b e hb => ?_, fun i v p e1 e2 => (h4 i v p e1 e2).block fun b e hb => ?_, h5.block fun b e hb => ?_⟩
  · obtain ⟨cur, hc⟩ := own_kind h3 e
    exact key b cur _ hc (.inr (.inl rfl))
  · obtain ⟨cur, hc⟩ := (h4 i v p e1 e2).kind e
    exact key b cur _ hc (.inr (.inr rfl))
  · obtain ⟨cur, hc⟩ := h5.kind e
    exact key b cur _ hc (.inr (.inr rfl))
theorem RulesIn.stays (h : RulesIn w gr R) (hb : Below w.heap.size w w') : RulesIn w' gr R := h.kept (Kept.of_below (fun _ => False) hb) fun b q => q.elim
/-- One place, as it stands there. -/
theorem RulesIn.at (h : RulesIn w gr R) {i : Nat} {p : Plc} (hi : R.places[i]? = some p) : ∃ gp cp v, w.cell? ⟨gr, 0, none⟩ = some (.slice (some ⟨gp, 0, none⟩) R.places.length cp) ∧ (∀ q u, (plcC p v)[q]? = some u → w.cell? ⟨gp, i * 8 + q, none⟩ = some u) ∧ Ints w 0 v (ns p.fol) ∧ gp < w.heap.size ∧ ∃ cur, w.heap[gp]? = some (.cells cur 130 (0, 0)) := by
  obtain ⟨vp, vs, v1, h1, h2, h3, h4, h5⟩ := h
  have hl : i < R.places.length := (List.getElem?_eq_some_iff.1 hi).1
  obtain ⟨v, hv⟩ : ∃ v, vs[i]? = some v := ⟨_, List.getElem?_eq_getElem (by omega)⟩
  rcases h3.2 with ⟨_, h0⟩ | ⟨gp, cp, cur, rfl, hB, hg, _⟩
  · omega
  refine ⟨gp, cp, v, cell_of_row w gr 0 _ _ (0, 0) h1, fun q u hu => ?_, h4 i v p hv hi, lt_of_some hg, cur, hg⟩
  have hq : q < 8 := by
    have := (List.getElem?_eq_some_iff.1 hu).1
    rw [plcC_len] at this
    exact this
  rw [World.ownsRow.cellAt h3 (i * 8 + q) (by omega), plcsC_get R.places vs i q p v hi hv hq]
  exact hu
end

/-- Words under way: at which place, of which lengths. -/
def wdsC (l : List (Nat × Nat)) : List Value := l.flatMap fun x => [.int .i64 x.1, .int .u64 x.2]
theorem wdsC_len (l : List (Nat × Nat)) : (wdsC l).length = l.length * 2 := by
  induction l with
  | nil => rfl
  | cons p l ih => simp only [wdsC, List.flatMap_cons, List.length_append, List.length_cons, List.length_nil] at ih ⊢; omega
theorem wdsC_snoc (l : List (Nat × Nat)) (x : Nat × Nat) : wdsC l ++ [.int .i64 x.1, .int .u64 x.2] = wdsC (l ++ [x]) := by simp [wdsC]
theorem wdsC_get : ∀ (l : List (Nat × Nat)) (i : Nat) (x : Nat × Nat), l[i]? = some x → (wdsC l)[i * 2]? = some (.int .i64 x.1) ∧ (wdsC l)[i * 2 + 1]? = some (.int .u64 x.2)
  | [], i, x, h => by simp at h
  | y :: l, 0, x, h => by
    simp at h
    subst h
    exact ⟨rfl, rfl⟩
  | y :: l, i + 1, x, h => by
    have ih := wdsC_get l i x (by simpa using h)
    have e : wdsC (y :: l) = .int .i64 y.1 :: .int .u64 y.2 :: wdsC l := rfl
    rw [e, show (i + 1) * 2 = i * 2 + 1 + 1 by omega]
    simpa using ih
def Wds (w : World) (B : Nat) (v : Value) (l : List (Nat × Nat)) : Prop := w.ownsRow B 136 2 v l.length (wdsC l)
section
variable {w w' : World} {B : Nat} {v : Value} {l : List (Nat × Nat)}
theorem Wds.form (h : Wds w B v l) : ∃ A c, v = .slice A l.length c := by
  rcases h.2 with ⟨rfl, h0⟩ | ⟨g, cap, cur, rfl, _⟩
  · exact ⟨none, 0, by rw [h0]⟩
  · exact ⟨_, _, rfl⟩
theorem Wds.block (h : Wds w B v l) (hb : ∀ b, v.ownBlock = some b → b < w.heap.size → w'.heap[b]? = w.heap[b]?) : Wds w' B v l := own_block h hb
theorem Wds.off {Q : Nat → Prop} (h : Wds w B v l) (hk : Kept Q w w') (hq : ∀ b, v.ownBlock = some b → ¬ Q b) : Wds w' B v l := h.block fun b e hb => hk.block b hb (hq b e)
theorem Wds.stays (h : Wds w B v l) (hb : Below w.heap.size w w') : Wds w' B v l := own_stays h hb
theorem Wds.in (h : Wds w B v l) {b : Nat} (hb : v.ownBlock = some b) : B ≤ b ∧ b < w.heap.size := World.ownsRow.lt h b hb
theorem Wds.kind (h : Wds w B v l) {b : Nat} (hb : v.ownBlock = some b) : ∃ cur, w.heap[b]? = some (.cells cur 136 (0, 0)) := own_kind h hb
theorem Wds.at (h : Wds w B v l) {i : Nat} {x : Nat × Nat} (hi : l[i]? = some x) : ∃ g c, v = .slice (some ⟨g, 0, none⟩) l.length c ∧ B ≤ g ∧ g < w.heap.size ∧ w.cell? ⟨g, i * 2, none⟩ = some (.int .i64 x.1) ∧ w.cell? ⟨g, i * 2 + 1, none⟩ = some (.int .u64 x.2) := by
  have hl : i < l.length := (List.getElem?_eq_some_iff.1 hi).1
  rcases h.2 with ⟨_, h0⟩ | ⟨g, cap, cur, rfl, hB, hg, _⟩
  · omega
  have hx := wdsC_get l i x hi
  exact ⟨g, cap, rfl, hB, lt_of_some hg, by rw [World.ownsRow.cellAt h (i * 2) (by omega)]; exact hx.1, by rw [World.ownsRow.cellAt h (i * 2 + 1) (by omega)]; exact hx.2⟩
end
end Go.Proofs.Ytnkopcmkanibhaa

/-
  moore: what a state tells. Contracts for other texts; no statement of its own.
-/
namespace Go.Proofs.Ytnkopcmkanibhaa
open Go Go.RowKit
attribute [local go_sem ↓] Go.wp_at_zero Go.wp_at_succ

/-- What words under way add to what is told. -/
def outStep (R : RSt) (x : Nat × Nat) (o : Nat × Nat) : Nat × Nat := match R.places[x.1]? with
  | some q => if q.last = true then (if q.luhn = true then (o.1, o.2 ||| x.2) else (o.1 ||| x.2, o.2)) else o
  | none => o
def mOutP (R : RSt) : List (Nat × Nat) → Nat × Nat → Nat × Nat
  | [], o => o
  | x :: l, o => mOutP R l (outStep R x o)
def Fits (R : RSt) (st : List (Nat × Nat)) : Prop := ∀ x ∈ st, x.1 < R.places.length ∧ x.2 < 2 ^ 64

theorem outP_drop (R : RSt) (st : List (Nat × Nat)) (k : Nat) (h : k < st.length) (o : Nat × Nat) : mOutP R (st.drop k) o = mOutP R (st.drop (k + 1)) (outStep R (st[k]'h) o) := by
  rw [List.drop_eq_getElem_cons h, mOutP]
theorem below_dnO {B : Nat} {w w' : World} (h : Below B w w') (n : Nat) : Below B w (w'.drewN n) := ⟨h.os, h.tape, h.output, h.size, h.block⟩
/-- A box of what is told. -/
def BoxO (w : World) (g : Nat) (a b : Value) : Prop := w.heap[g]? = some (.cells #[a, b] 51 (0, 0))
section
variable {w w' : World} {g : Nat} {a b v : Value}
theorem BoxO.new (w : World) (a b : Value) (g : Nat) (h : w.heap.size = g) : BoxO (w.alloc (.cells #[a, b] 51)) g a b := by
  subst h
  exact heap_alloc_new w _
theorem BoxO.cell (h : BoxO w g a b) : w.cell? ⟨g, 0, none⟩ = some a ∧ w.cell? ⟨g, 1, none⟩ = some b := by
  unfold BoxO at h
  constructor <;> exact cell_of_row w g _ _ 51 (0, 0) h
theorem BoxO.frozen (h : BoxO w g a b) : w.frozen? ⟨g, 0, none⟩ = false ∧ w.frozen? ⟨g, 1, none⟩ = false := by
  unfold BoxO at h
  constructor <;> simp [World.frozen?, h]
theorem BoxO.lt (h : BoxO w g a b) : g < w.heap.size := lt_of_some h
theorem BoxO.stays (h : BoxO w g a b) (hb : Below w.heap.size w w') : BoxO w' g a b := (hb.block g h.lt).trans h
theorem BoxO.alloc (h : BoxO w g a b) (o : Obj) : BoxO (w.alloc o) g a b := (Below.heap_alloc w o g h.lt).trans h
theorem BoxO.put0 (h : BoxO w g a b) (v : Value) : BoxO (w.setCell ⟨g, 0, none⟩ v) g v b := by
  unfold BoxO at h ⊢
  rw [heap_setCell_same w g 0 _ _ v h]
  rfl
theorem BoxO.put1 (h : BoxO w g a b) (v : Value) : BoxO (w.setCell ⟨g, 1, none⟩ v) g a v := by
  unfold BoxO at h ⊢
  rw [heap_setCell_same w g 1 _ _ v h]
  rfl
theorem BoxO.far (h : BoxO w g a b) {ad : Addr} (ha : g ≠ ad.block) (u : Value) : BoxO (w.setCell ad u) g a b := (Below.heap_setCell w ad u g ha).trans h
end

set_option maxRecDepth 20000 in
set_option maxHeartbeats 2000000 in
theorem mout_p {w : World} {gr D : Nat} {R : RSt} {va : Value} {st : List (Nat × Nat)} (hR : RulesIn w gr R) (ha : Wds w D va st) (hf : Fits R st) (hl : st.length ≤ 100000) (hP : R.places.length ≤ 100000) :
    Calls Try.prog 42 #[.pointer (some ⟨gr, 0, none⟩), va] w fun e w' => e = .returned (.agg #[.int .u64 (mOutP R st (0, 0)).1, .int .u64 (mOutP R st (0, 0)).2]) ∧ Below w.heap.size w w' := by
  obtain ⟨A, c, rfl⟩ := ha.form
  have HR := Lib.hid hR
  have HA := Lib.hid ha
  have HF := Lib.hid hf
  obtain ⟨L, hL⟩ : ∃ L, st.length = L := ⟨_, rfl⟩
  rw [hL] at HA hl ⊢
  have HL := Lib.hid hL
  clear hR ha hf hL
  go_enter Try.func42, Try.ntmps42
  go_wp2
  go_loopg [11] L (fun m i wr => ∃ (k a b : Nat), i = .int .i64 (k : Int) ∧ k ≤ L ∧ m = L - k ∧ a < 18446744073709551616 ∧ b < 18446744073709551616 ∧ mOutP R (st.drop k) (a, b) = mOutP R st (0, 0) ∧ BoxO wr w.heap.size (.int .u64 0) (.int .u64 0) ∧ BoxO wr (w.heap.size + 1) (.int .u64 a) (.int .u64 b) ∧ Below w.heap.size w wr)
  case atStart => exact ⟨0, 0, 0, rfl, Nat.zero_le _, rfl, by omega, by omega, rfl, (BoxO.new w _ _ _ rfl).alloc _, BoxO.new _ _ _ _ (by simp), ((Below.refl _ _).alloc (Nat.le_refl _) _).alloc (by simp) _⟩
  case round =>
    obtain ⟨k, a, b, rfl, hk, hmk, ha64, hb64, ho, bR, bO, hW⟩ := hrel
    have HMK := Lib.hid hmk
    have HO := Lib.hid ho
    have BR := Lib.hid bR
    have BO := Lib.hid bO
    have HW := Lib.hid hW
    have hl0 := bR.lt
    have hl1 := bO.lt
    obtain ⟨o0, o1⟩ := bO.cell
    obtain ⟨f0, f1⟩ := bO.frozen
    clear hmk ho bR bO hW
    by_cases hkL : k < L
    · have hks : k < st.length := by rw [HL.out]; exact hkL
      obtain ⟨x, hx⟩ : ∃ x, st[k]? = some x := ⟨_, List.getElem?_eq_getElem hks⟩
      obtain ⟨g, cc, e1, _, hg, h0, h1⟩ := (HA.out.stays HW.out).at hx
      rw [HL.out] at e1
      simp only [Value.slice.injEq] at e1
      obtain ⟨rfl, -, rfl⟩ := e1
      have hgx : st[k]'hks = x := by have := List.getElem?_eq_getElem hks; rw [hx] at this; injection this with this; exact this.symm
      obtain ⟨x1, x2⟩ := x
      have hfx := HF.out (x1, x2) (by rw [← hgx]; exact List.getElem_mem hks)
      obtain ⟨p, hp⟩ : ∃ p, R.places[x1]? = some p := ⟨_, List.getElem?_eq_getElem hfx.1⟩
      obtain ⟨gp, cp, v, r0, hpc, -, hgp, -⟩ := (HR.out.stays HW.out).at hp
      have hst := outP_drop R st k hks (a, b)
      have hx264 : x2 < 18446744073709551616 := hfx.2
      rw [hgx, HO.out] at hst
      have hos : outStep R (x1, x2) (a, b) = if p.last = true then (if p.luhn = true then (a, b ||| x2) else (a ||| x2, b)) else (a, b) := by unfold outStep; rw [hp]
      rw [hos] at hst
      have hc6 := hpc 6 _ rfl
      have hc7 := hpc 7 _ rfl
      have hgr : gr < wr.heap.size := by obtain ⟨_, _, _, h1, _⟩ := HR.out.stays HW.out; exact lt_of_some h1
      obtain ⟨P, hP'⟩ : ∃ P, R.places.length = P := ⟨_, rfl⟩
      have hxP : (x1 : Int) < (P : Int) := by have := hfx.1; omega
      rw [hP'] at r0
      have i0 : (0 : Int) ≤ (x1 : Int) := by omega
      have k0 : (0 : Int) ≤ (k : Int) := by omega
      have k1 : (k : Int) < (L : Int) := by omega
      have hb1 := bits_or_u64_nat a x2 ha64 hx264
      have hb2 := bits_or_u64_nat b x2 hb64 hx264
      have HST := Lib.hid hst
      simp only at h0 h1
      clear hst hos hpc hp hgx hfx hx hks HO
      cases hlast : p.last <;> cases hluhn : p.luhn <;> rw [hlast, hluhn] at HST <;> rw [hlast] at hc6 <;> rw [hluhn] at hc7
      all_goals
        go_wp2
        go_quiet (fail)
        go_wp2
        go_roundg (L - (k + 1))
        case measure => have := HMK.out; omega
        case rel =>
          have hs := HST.out
          simp only [if_true, if_false, Bool.false_eq_true] at hs
          have ho1 : a ||| x2 < 18446744073709551616 := Nat.or_lt_two_pow (n := 64) ha64 hx264
          have ho2 : b ||| x2 < 18446744073709551616 := Nat.or_lt_two_pow (n := 64) hb64 hx264
          first
            | exact ⟨k + 1, a, b, by go_num, by omega, rfl, ha64, hb64, hs.symm, BR.out.alloc _, BO.out.alloc _, below_dnO (HW.out.alloc HW.out.size _) _⟩
            | exact ⟨k + 1, a ||| x2, b, by go_num, by omega, rfl, ho1, hb64, hs.symm, BoxO.far (w := (wr.alloc _).drewN _) (BR.out.alloc _) (ad := ⟨w.heap.size + 1, 0, none⟩) (by show w.heap.size ≠ w.heap.size + 1; omega) _, BoxO.put0 (w := (wr.alloc _).drewN _) (BO.out.alloc _) _, (below_dnO (HW.out.alloc HW.out.size _) _).setCell (p := ⟨w.heap.size + 1, 0, none⟩) (by show w.heap.size ≤ w.heap.size + 1; omega) _⟩
            | exact ⟨k + 1, a, b ||| x2, by go_num, by omega, rfl, ha64, ho2, hs.symm, BoxO.far (w := (wr.alloc _).drewN _) (BR.out.alloc _) (ad := ⟨w.heap.size + 1, 1, none⟩) (by show w.heap.size ≠ w.heap.size + 1; omega) _, BoxO.put1 (w := (wr.alloc _).drewN _) (BO.out.alloc _) _, (below_dnO (HW.out.alloc HW.out.size _) _).setCell (p := ⟨w.heap.size + 1, 1, none⟩) (by show w.heap.size ≤ w.heap.size + 1; omega) _⟩
    · have hkl : k = st.length := by rw [HL.out]; omega
      have ho := HO.out
      rw [hkl, List.drop_length, mOutP] at ho
      have HOO := Lib.hid ho
      obtain ⟨q0, q1⟩ := BR.out.cell
      obtain ⟨f2, f3⟩ := BR.out.frozen
      clear ho hkl
      go_wp2
      have bF := (BR.out.put0 (.int .u64 (a : Int))).put1 (.int .u64 (b : Int))
      obtain ⟨y0, y1⟩ := bF.cell
      refine bodyPost_ret (v := .agg #[.int .u64 (a : Int), .int .u64 (b : Int)]) ?_ rfl ⟨by rw [← HOO.out], (HW.out.setCell (p := ⟨w.heap.size, 0, none⟩) (Nat.le_refl _) _).setCell (p := ⟨w.heap.size, 1, none⟩) (Nat.le_refl _) _⟩
      simp [results, Try.results42, go_sem, y0, y1]
end Go.Proofs.Ytnkopcmkanibhaa

/-
  The count of ones of a word of 64 bits, by sums within the word, as the library's OnesCount64 reckons it: what it comes to is how many bits are 1. Plain mathematics, no program.
-/
namespace Go.Proofs.Ytnkopcmkanibhaa
open Go Go.RowKit

/-- How many j below n have q j. -/
def cntN (q : Nat → Bool) : Nat → Nat
  | 0 => 0
  | n + 1 => (q 0).toNat + cntN (fun j => q (j + 1)) n

theorem land_split (a b c d : Nat) (ha : a < 256) (hc : c < 256) : (a + 256 * b) &&& (c + 256 * d) = (a &&& c) + 256 * (b &&& d) := by
  have hac : a &&& c < 2 ^ 8 := Nat.and_lt_two_pow _ hc
  apply Nat.eq_of_testBit_eq
  intro j
  rw [show a + 256 * b = 2 ^ 8 * b + a by omega, show c + 256 * d = 2 ^ 8 * d + c by omega, show (a &&& c) + 256 * (b &&& d) = 2 ^ 8 * (b &&& d) + (a &&& c) by omega]
  rw [Nat.testBit_and, Nat.testBit_two_pow_mul_add _ ha, Nat.testBit_two_pow_mul_add _ hc, Nat.testBit_two_pow_mul_add _ hac]
  by_cases h : j < 8 <;> simp [h]

theorem land_byte (x c d : Nat) (hc : c < 256) : x &&& (c + 256 * d) = (x % 256 &&& c) + 256 * (x / 256 &&& d) := by
  have h := land_split (x % 256) (x / 256) c d (by omega) hc
  rwa [show x % 256 + 256 * (x / 256) = x by omega] at h

/-- n bytes c. -/
def msk (c : Nat) : Nat → Nat
  | 0 => 0
  | n + 1 => c + 256 * msk c n

def sumA (n x : Nat) : Nat := (x / 2 &&& msk 85 n) + (x &&& msk 85 n)
def sumB (n x : Nat) : Nat := (x / 4 &&& msk 51 n) + (x &&& msk 51 n)
def sumC (n x : Nat) : Nat := (x / 16 + x) &&& msk 15 n
def a8 (b : Nat) : Nat := (b / 2 &&& 85) + (b &&& 85)
def b8 (b : Nat) : Nat := (b / 4 &&& 51) + (b &&& 51)
def c8 (b : Nat) : Nat := (b / 16 + b) &&& 15

theorem a8_cross : ∀ b : Fin 256, ∀ c : Fin 2, ((b.val / 2 + 128 * c.val) &&& 85) = (b.val / 2 &&& 85) := by decide +kernel
theorem b8_cross : ∀ b : Fin 256, ∀ c : Fin 4, ((b.val / 4 + 64 * c.val) &&& 51) = (b.val / 4 &&& 51) := by decide +kernel
theorem c8_cross : ∀ b : Fin 69, ∀ c : Fin 5, ((b.val / 16 + b.val + 16 * c.val) &&& 15) = c8 b.val := by decide +kernel
theorem a8_lt : ∀ b : Fin 256, a8 b.val < 256 := by decide +kernel
theorem b8_le : ∀ b : Fin 256, b8 b.val ≤ 102 := by decide +kernel
theorem ba8_le : ∀ b : Fin 256, b8 (a8 b.val) ≤ 68 ∧ b8 (a8 b.val) % 16 ≤ 4 := by decide +kernel
theorem cba8 : ∀ b : Fin 256, c8 (b8 (a8 b.val)) = cntN b.val.testBit 8 := by decide +kernel

theorem sumA_succ (n x : Nat) : sumA (n + 1) x = a8 (x % 256) + 256 * sumA n (x / 256) := by
  have hc := a8_cross ⟨x % 256, by omega⟩ ⟨x / 256 % 2, by omega⟩
  simp only at hc
  unfold sumA a8
  rw [show msk 85 (n + 1) = 85 + 256 * msk 85 n from rfl, land_byte (x / 2) 85 _ (by omega), land_byte x 85 _ (by omega), show x / 2 % 256 = x % 256 / 2 + 128 * (x / 256 % 2) by omega, hc, show x / 2 / 256 = x / 256 / 2 by omega]
  omega

theorem sumB_succ (n x : Nat) : sumB (n + 1) x = b8 (x % 256) + 256 * sumB n (x / 256) := by
  have hc := b8_cross ⟨x % 256, by omega⟩ ⟨x / 256 % 4, by omega⟩
  simp only at hc
  unfold sumB b8
  rw [show msk 51 (n + 1) = 51 + 256 * msk 51 n from rfl, land_byte (x / 4) 51 _ (by omega), land_byte x 51 _ (by omega), show x / 4 % 256 = x % 256 / 4 + 64 * (x / 256 % 4) by omega, hc, show x / 4 / 256 = x / 256 / 4 by omega]
  omega

theorem sumC_succ (n x : Nat) (h0 : x % 256 ≤ 68) (h1 : x / 256 % 16 ≤ 4) : sumC (n + 1) x = c8 (x % 256) + 256 * sumC n (x / 256) := by
  have hc := c8_cross ⟨x % 256, by omega⟩ ⟨x / 256 % 16, by omega⟩
  simp only at hc
  unfold sumC
  rw [show msk 15 (n + 1) = 15 + 256 * msk 15 n from rfl, land_byte (x / 16 + x) 15 _ (by omega), show (x / 16 + x) % 256 = x % 256 / 16 + x % 256 + 16 * (x / 256 % 16) by omega, hc, show (x / 16 + x) / 256 = x / 256 / 16 + x / 256 by omega]

theorem sumBA_succ (n x : Nat) : sumB (n + 1) (sumA (n + 1) x) = b8 (a8 (x % 256)) + 256 * sumB n (sumA n (x / 256)) := by
  have l := a8_lt ⟨x % 256, by omega⟩
  simp only at l
  rw [sumB_succ, sumA_succ, show (a8 (x % 256) + 256 * sumA n (x / 256)) % 256 = a8 (x % 256) by omega, show (a8 (x % 256) + 256 * sumA n (x / 256)) / 256 = sumA n (x / 256) by omega]

theorem sumBA_mod : ∀ (n x : Nat), sumB n (sumA n x) % 16 ≤ 4
  | 0, x => by simp [sumB, msk]
  | n + 1, x => by
    have l := ba8_le ⟨x % 256, by omega⟩
    simp only at l
    rw [sumBA_succ]
    omega

theorem sumBA_le : ∀ (n x : Nat), sumB n (sumA n x) ≤ msk 68 n
  | 0, x => by simp [sumB, msk]
  | n + 1, x => by
    have l := ba8_le ⟨x % 256, by omega⟩
    simp only at l
    have h := sumBA_le n (x / 256)
    rw [sumBA_succ, msk]
    omega

theorem sumCBA_succ (n x : Nat) : sumC (n + 1) (sumB (n + 1) (sumA (n + 1) x)) = cntN (x % 256).testBit 8 + 256 * sumC n (sumB n (sumA n (x / 256))) := by
  have l := ba8_le ⟨x % 256, by omega⟩
  have e := cba8 ⟨x % 256, by omega⟩
  simp only at l e
  have m := sumBA_mod n (x / 256)
  have s := sumBA_succ n x
  rw [sumC_succ n _ (by rw [s]; omega) (by rw [s]; omega), s, show (b8 (a8 (x % 256)) + 256 * sumB n (sumA n (x / 256))) % 256 = b8 (a8 (x % 256)) by omega, show (b8 (a8 (x % 256)) + 256 * sumB n (sumA n (x / 256))) / 256 = sumB n (sumA n (x / 256)) by omega, e]

theorem cntN_le : ∀ (n : Nat) (q : Nat → Bool), cntN q n ≤ n
  | 0, _ => by simp [cntN]
  | n + 1, q => by
    have h := cntN_le n (fun j => q (j + 1))
    have : (q 0).toNat ≤ 1 := by cases q 0 <;> simp
    rw [cntN]
    omega
theorem cntN_congr : ∀ (n : Nat) (q r : Nat → Bool), (∀ j, j < n → q j = r j) → cntN q n = cntN r n
  | 0, _, _, _ => rfl
  | n + 1, q, r, h => by rw [cntN, cntN, h 0 (by omega), cntN_congr n _ _ fun j hj => h (j + 1) (by omega)]
theorem cntN_add : ∀ (m n : Nat) (q : Nat → Bool), cntN q (m + n) = cntN q m + cntN (fun j => q (m + j)) n
  | 0, n, q => by simp [cntN]
  | m + 1, n, q => by
    have e : cntN (fun j => q (m + j + 1)) n = cntN (fun j => q (m + 1 + j)) n := cntN_congr _ _ _ fun j _ => by congr 1; omega
    rw [show m + 1 + n = (m + n) + 1 by omega, cntN, cntN, cntN_add m n, e]
    omega
theorem cntN_not : ∀ (n : Nat) (q : Nat → Bool), cntN q n + cntN (fun j => !q j) n = n
  | 0, _ => rfl
  | n + 1, q => by
    have h := cntN_not n (fun j => q (j + 1))
    rw [cntN, cntN]
    cases q 0 <;> simp <;> omega

theorem test_byte (x k : Nat) : cntN (x / 256 ^ k % 256).testBit 8 = cntN (fun j => x.testBit (8 * k + j)) 8 := by
  apply cntN_congr
  intro j hj
  rw [show (256 : Nat) = 2 ^ 8 from rfl, ← Nat.pow_mul, Nat.testBit_mod_two_pow, Nat.testBit_div_two_pow]
  simp [hj, Nat.add_comm]

/-- The three steps within bytes: eight counts, one a byte. -/
theorem bytes_of (x : Nat) : ∃ c0 c1 c2 c3 c4 c5 c6 c7 : Nat, (c0 ≤ 8 ∧ c1 ≤ 8 ∧ c2 ≤ 8 ∧ c3 ≤ 8 ∧ c4 ≤ 8 ∧ c5 ≤ 8 ∧ c6 ≤ 8 ∧ c7 ≤ 8) ∧ c0 + c1 + c2 + c3 + c4 + c5 + c6 + c7 = cntN x.testBit 64 ∧
    sumC 8 (sumB 8 (sumA 8 x)) = c0 + 256 * (c1 + 256 * (c2 + 256 * (c3 + 256 * (c4 + 256 * (c5 + 256 * (c6 + 256 * c7)))))) := by
  have f : ∀ k, cntN (x / 256 ^ k % 256).testBit 8 ≤ 8 := fun k => cntN_le _ _
  refine ⟨_, _, _, _, _, _, _, _, ⟨f 0, f 1, f 2, f 3, f 4, f 5, f 6, f 7⟩, ?_, ?_⟩
  · simp only [test_byte]
    rw [show (64 : Nat) = 8 + (8 + (8 + (8 + (8 + (8 + (8 + 8)))))) from rfl]
    simp only [cntN_add]
    simp only [← Nat.add_assoc, Nat.mul_zero, Nat.zero_add, Nat.mul_one, Nat.reduceMul, Nat.reduceAdd]
  · simp only [sumCBA_succ]
    rw [show sumC 0 (sumB 0 (sumA 0 (x / 256 / 256 / 256 / 256 / 256 / 256 / 256 / 256))) = 0 by simp [sumC, msk]]
    simp only [Nat.div_div_eq_div_mul, Nat.pow_zero, Nat.div_one, Nat.pow_one, Nat.mul_zero, Nat.add_zero]

def st1 (a : Int) : Int := IntKind.u64.wrap (bits .and .u64 (a / 2) 6148914691236517205 + bits .and .u64 a 6148914691236517205)
def st2 (a : Int) : Int := IntKind.u64.wrap (bits .and .u64 (a / 4) 3689348814741910323 + bits .and .u64 a 3689348814741910323)
def st3 (a : Int) : Int := bits .and .u64 (IntKind.u64.wrap (a / 16 + a)) 1085102592571150095
def st4 (a : Int) : Int := IntKind.u64.wrap (a + a / 256)
def st5 (a : Int) : Int := IntKind.u64.wrap (a + a / 65536)
def st6 (a : Int) : Int := IntKind.u64.wrap (a + a / 4294967296)
def st7 (a : Int) : Int := bits .and .i64 (wrap64 a) 127

theorem and_le_mask (x m : Nat) : x &&& m ≤ m := Nat.and_le_right

theorem st1_eq (x : Nat) (h : x < 18446744073709551616) : st1 x = (sumA 8 x : Nat) := by
  have e1 := bits_and_u64_nat (x / 2) 6148914691236517205 (by omega) (by omega)
  have e2 := bits_and_u64_nat x 6148914691236517205 h (by omega)
  have m : msk 85 8 = 6148914691236517205 := rfl
  have l1 : x / 2 &&& 6148914691236517205 ≤ 6148914691236517205 := and_le_mask _ _
  have l2 : x &&& 6148914691236517205 ≤ 6148914691236517205 := and_le_mask _ _
  unfold st1 sumA
  rw [m, show ((x : Int) / 2) = ((x / 2 : Nat) : Int) by omega]
  rw [show (6148914691236517205 : Int) = ((6148914691236517205 : Nat) : Int) from rfl, e1, e2, wrap_u64_of (by omega) (by omega)]
  omega

theorem sumA_le (x : Nat) : sumA 8 x ≤ 12297829382473034410 := by
  have m : msk 85 8 = 6148914691236517205 := rfl
  unfold sumA
  rw [m]
  have l1 : x / 2 &&& 6148914691236517205 ≤ 6148914691236517205 := and_le_mask _ _
  have l2 : x &&& 6148914691236517205 ≤ 6148914691236517205 := and_le_mask _ _
  omega

theorem st2_eq (x : Nat) (h : x < 18446744073709551616) : st2 x = (sumB 8 x : Nat) := by
  have e1 := bits_and_u64_nat (x / 4) 3689348814741910323 (by omega) (by omega)
  have e2 := bits_and_u64_nat x 3689348814741910323 h (by omega)
  have m : msk 51 8 = 3689348814741910323 := rfl
  have l1 : x / 4 &&& 3689348814741910323 ≤ 3689348814741910323 := and_le_mask _ _
  have l2 : x &&& 3689348814741910323 ≤ 3689348814741910323 := and_le_mask _ _
  unfold st2 sumB
  rw [m, show ((x : Int) / 4) = ((x / 4 : Nat) : Int) by omega]
  rw [show (3689348814741910323 : Int) = ((3689348814741910323 : Nat) : Int) from rfl, e1, e2, wrap_u64_of (by omega) (by omega)]
  omega

theorem st3_eq (x : Nat) (h : x ≤ 4919131752989213764) : st3 x = (sumC 8 x : Nat) := by
  have e1 := bits_and_u64_nat (x / 16 + x) 1085102592571150095 (by omega) (by omega)
  have m : msk 15 8 = 1085102592571150095 := rfl
  unfold st3 sumC
  rw [m, wrap_u64_of (by omega) (by omega), show ((x : Int) / 16 + x) = ((x / 16 + x : Nat) : Int) by omega]
  rw [show (1085102592571150095 : Int) = ((1085102592571150095 : Nat) : Int) from rfl, e1]

theorem wraps_i64 (n : Int) (h₀ : 0 ≤ n) (h₁ : n < 2 ^ 63) : IntKind.i64.wrap n = n := by rw [IntKind.wrap_i64]; omega

theorem st7_eq (a : Int) (h0 : 0 ≤ a) (h1 : a < 9223372036854775808) : st7 a = a % 128 := by
  unfold st7
  have e : wrap64 a = a := by unfold wrap64; omega
  rw [e]
  exact bits_mask .i64 63 (by decide) wraps_i64 7 (by omega) a h0 (by omega)

theorem wrap_nat (n : Nat) (h : n ≤ 9223372036854775807) : IntKind.u64.wrap (n : Int) = n := wrap_u64_of (by omega) (by omega)

/-- The sums come to the count. -/
theorem ones_eq (x : Nat) (h : x < 18446744073709551616) : st7 (st6 (st5 (st4 (st3 (st2 (st1 x)))))) = (cntN x.testBit 64 : Nat) := by
  have lA := sumA_le x
  have lB := sumBA_le 8 x
  rw [show msk 68 8 = 4919131752989213764 from rfl] at lB
  rw [st1_eq x h, st2_eq _ (by omega), st3_eq _ lB]
  obtain ⟨c0, c1, c2, c3, c4, c5, c6, c7, ⟨h0, h1, h2, h3, h4, h5, h6, h7⟩, hs, e⟩ := bytes_of x
  rw [e, ← hs]
  clear e hs lA lB h
  obtain ⟨u7, q7⟩ : ∃ u, u = c7 := ⟨_, rfl⟩
  obtain ⟨u6, q6⟩ : ∃ u, u = c6 + 256 * u7 := ⟨_, rfl⟩
  obtain ⟨u5, q5⟩ : ∃ u, u = c5 + 256 * u6 := ⟨_, rfl⟩
  obtain ⟨u4, q4⟩ : ∃ u, u = c4 + 256 * u5 := ⟨_, rfl⟩
  obtain ⟨u3, q3⟩ : ∃ u, u = c3 + 256 * u4 := ⟨_, rfl⟩
  obtain ⟨u2, q2⟩ : ∃ u, u = c2 + 256 * u3 := ⟨_, rfl⟩
  obtain ⟨u1, q1⟩ : ∃ u, u = c1 + 256 * u2 := ⟨_, rfl⟩
  obtain ⟨u0, q0⟩ : ∃ u, u = c0 + 256 * u1 := ⟨_, rfl⟩
  rw [← q7, ← q6, ← q5, ← q4, ← q3, ← q2, ← q1, ← q0]
  have b7 : u7 ≤ 8 := by omega
  have b6 : u6 ≤ 2056 := by omega
  have b5 : u5 ≤ 526344 := by omega
  have b4 : u4 ≤ 134744072 := by omega
  have b3 : u3 ≤ 34494482440 := by omega
  have b2 : u2 ≤ 8830587504648 := by omega
  have b1 : u1 ≤ 2260630401189896 := by omega
  have b0 : u0 ≤ 578721382704613384 := by omega
  have d4 : (u0 : Int) / 256 = u1 := by omega
  have e4 : st4 (u0 : Int) = ((u0 + u1 : Nat) : Int) := by unfold st4; rw [d4, wrap_u64_of (by omega) (by omega)]; omega
  rw [e4]
  have d5 : u0 + u1 = (c0 + c1 + 256 * (c1 + c2)) + 65536 * (u2 + u3) := by omega
  have d5' : ((u0 + u1 : Nat) : Int) / 65536 = ((u2 + u3 : Nat) : Int) := by rw [d5]; clear q0 q1 q2 q3 q4 q5 q6 d4 d5 e4; omega
  have e5 : st5 ((u0 + u1 : Nat) : Int) = ((u0 + u1 + (u2 + u3) : Nat) : Int) := by unfold st5; rw [d5', wrap_u64_of (by omega) (by omega)]; omega
  rw [e5]
  have d6 : u0 + u1 + (u2 + u3) = ((c0 + c1 + c2 + c3) + 256 * (c1 + c2 + c3 + c4) + 65536 * (c2 + c3 + c4 + c5) + 16777216 * (c3 + c4 + c5 + c6)) + 4294967296 * (u4 + u5 + u6 + u7) := by clear d5 d5' e4 e5 d4; omega
  have d6' : ((u0 + u1 + (u2 + u3) : Nat) : Int) / 4294967296 = ((u4 + u5 + u6 + u7 : Nat) : Int) := by rw [d6]; clear q0 q1 q2 q3 q4 q5 q6 d4 d5 d5' d6 e4 e5; omega
  have hb : u0 + u1 + (u2 + u3) + (u4 + u5 + u6 + u7) ≤ 9223372036854775807 := by clear d6 d6' d5 d5' e4 e5 d4 q0 q1 q2 q3 q4 q5 q6 q7; omega
  have e6 : st6 ((u0 + u1 + (u2 + u3) : Nat) : Int) = ((u0 + u1 + (u2 + u3) + (u4 + u5 + u6 + u7) : Nat) : Int) := by unfold st6; rw [d6', ← Int.natCast_add, wrap_nat _ hb]
  rw [e6, st7_eq _ (Int.natCast_nonneg _) (by clear d6 d6' d5 d5' e4 e5 e6 d4 q0 q1 q2 q3 q4 q5 q6 q7; omega), d6]
  clear d6 d6' d5 d5' e4 e5 e6 d4 q0 q1 q2 q3 b0 b1 b2 b3 b4 b5 b6 hb
  omega

end Go.Proofs.Ytnkopcmkanibhaa

/-
  Sets of bytes, and lists of bytes: what the sets of lists have, the list of a set's bytes; the row of the type byte. No function of the program; no statement of its own.
-/
namespace Go.Proofs.Ytnkopcmkanibhaa
open Go Go.RowKit

theorem words_at (p : Nat → Bool) (b : Int) (h0 : 0 ≤ b) (h1 : b ≤ 255) :
    [Value.int .u64 (word p 0), .int .u64 (word p 1), .int .u64 (word p 2), .int .u64 (word p 3)][(b / 64).toNat]? = some (.int .u64 (word p (b / 64).toNat)) := by
  have : (b / 64).toNat < 4 := by omega
  match h : (b / 64).toNat, this with
  | 0, _ => rfl
  | 1, _ => rfl
  | 2, _ => rfl
  | 3, _ => rfl

theorem mem_step (xs : List Int) (k : Nat) (hk : k < xs.length) (h0 : 0 ≤ xs.getD k 0) (x : Nat) : add1 (memP (xs.take k)) (xs.getD k 0).toNat x = memP (xs.take (k + 1)) x := by
  unfold add1 memP
  rw [List.take_succ_eq_append_getElem hk, List.any_append]
  rw [List.getD_eq_getElem?_getD, List.getElem?_eq_getElem hk] at *
  simp only [List.any_cons, List.any_nil, Bool.or_false, Option.getD_some] at *
  congr 1
  rw [Bool.eq_iff_iff]
  simp
  omega

/-- The numbers below k that the set p has, by size. -/
def listP (p : Nat → Bool) (k : Nat) : List Int := ((List.range k).filter p).map fun x : Nat => (x : Int)
theorem listP_hit (p : Nat → Bool) (k : Nat) (h : p k = true) : listP p (k + 1) = listP p k ++ [(k : Int)] := by
  unfold listP
  rw [List.range_succ, List.filter_append, List.map_append]
  simp [h]
theorem listP_miss (p : Nat → Bool) (k : Nat) (h : p k = false) : listP p (k + 1) = listP p k := by
  unfold listP
  rw [List.range_succ, List.filter_append, List.map_append]
  simp [h]
theorem listP_len : ∀ (p : Nat → Bool) (k : Nat), (listP p k).length = cntN p k
  | p, 0 => rfl
  | p, k + 1 => by
    rw [cntN_add k 1]
    cases h : p k
    · rw [listP_miss p k h, listP_len p k]; simp [cntN, h]
    · rw [listP_hit p k h, List.length_append, listP_len p k]; simp [cntN, h]
theorem listP_le (p : Nat → Bool) (k : Nat) : (listP p k).length ≤ k := by rw [listP_len]; exact cntN_le _ _
theorem listP_mem (p : Nat → Bool) (k : Nat) (v : Int) : v ∈ listP p k ↔ 0 ≤ v ∧ v < k ∧ p v.toNat = true := by
  unfold listP
  simp only [List.mem_map, List.mem_filter, List.mem_range]
  constructor
  · rintro ⟨x, ⟨h1, h2⟩, rfl⟩
    exact ⟨by omega, by omega, by simpa using h2⟩
  · rintro ⟨h0, h1, h2⟩
    exact ⟨v.toNat, ⟨by omega, h2⟩, by omega⟩
theorem listP_get (p : Nat → Bool) (k : Nat) (hk : k ≤ 256) : ∀ j, j < (listP p k).length → 0 ≤ (listP p k).getD j 0 ∧ (listP p k).getD j 0 ≤ 255 := by
  intro j hj
  have : (listP p k).getD j 0 ∈ listP p k := by
    rw [List.getD_eq_getElem?_getD, List.getElem?_eq_getElem hj]
    exact List.getElem_mem hj
  have := (listP_mem p k _).1 this
  omega
theorem memP_list (p : Nat → Bool) (k x : Nat) (hx : x < k) : memP (listP p k) x = p x := by
  unfold memP
  rw [Bool.eq_iff_iff, List.any_eq_true]
  constructor
  · rintro ⟨v, hv, e⟩
    have := (listP_mem p k v).1 hv
    have e' : v = (x : Int) := by simpa using e
    subst e'
    simpa using this.2.2
  · intro h
    exact ⟨(x : Int), (listP_mem p k _).2 ⟨by omega, by omega, by simpa using h⟩, by simp⟩

/-- All bytes of the set p, by size. -/
def allP (p : Nat → Bool) : List Int := listP p 256

theorem allP_get (p : Nat → Bool) : ∀ j, j < (allP p).length → 0 ≤ (allP p).getD j 0 ∧ (allP p).getD j 0 ≤ 255 := listP_get p 256 (by omega)
theorem allP_le (p : Nat → Bool) : (allP p).length ≤ 9223372036854775807 := by have := listP_le p 256; unfold allP; omega
theorem memP_all (p : Nat → Bool) (x : Nat) (hx : x < 256) : memP (allP p) x = p x := memP_list p 256 x hx

theorem Try.infoByte : (Try.prog.info? 5).map (fun i => (i.zero, i.size, i.bytes)) = some (some (.int .u8 0), 1, 1) := by kernel_rfl

theorem rd_new1 (w : World) (v : Int) : RdB (w.alloc (.cells #[.int .u8 v] 5)) (w.alloc (.cells #[.int .u8 v] 5)).heap.size (some ⟨w.heap.size, 0, none⟩) [v] := by
  intro k hk
  have : k = 0 := by simp at hk; omega
  subst this
  exact ⟨w.heap.size, 0, rfl, by simp, by simp⟩

end Go.Proofs.Ytnkopcmkanibhaa

/-
  moore: has a set a byte? Contracts for other texts; no statement of its own.
-/
namespace Go.Proofs.Ytnkopcmkanibhaa
open Go Go.RowKit
attribute [local go_sem ↓] Go.wp_at_zero Go.wp_at_succ

set_option maxHeartbeats 1000000 in
theorem mhas_p (p : Nat → Bool) (b : Int) (w : World) (g o : Nat) (hc : ∀ q, q < 4 → w.cell? ⟨g, o + q, none⟩ = some (.int .u64 (word p q))) (hb : 0 ≤ b) (hb' : b ≤ 255) :
    Calls Try.prog 63 #[.pointer (some ⟨g, o, none⟩), .int .u8 b] w fun e w' => e = .returned (.bool (p b.toNat)) ∧ Below w.heap.size w w' := by
  have hq : (b / 64).toNat < 4 := by omega
  have hv := hc (b / 64).toNat hq
  have H := has_bits p b hb hb'
  rw [← H]
  clear H
  have i0 : (0 : Int) ≤ b / 64 := by omega
  have i1 : b / 64 < 4 := by omega
  go_enter Try.func63, Try.ntmps63
  go_wp2
  go_ret
  exact ⟨rfl, Below.refl _ _⟩
end Go.Proofs.Ytnkopcmkanibhaa

/-
  moore: which words there are by a byte. Contracts for other texts; no statement of its own.
-/
namespace Go.Proofs.Ytnkopcmkanibhaa
open Go Go.RowKit
attribute [local go_sem ↓] Go.wp_at_zero Go.wp_at_succ

theorem Try.infoWords : (Try.prog.info? 136).map (fun i => (i.zero, i.size, i.bytes)) = some (some (.agg #[.int .i64 0, .int .u64 0]), 2, 16) := by kernel_rfl
def hasAt (R : RSt) (b : Nat) (x : Nat × Nat) : Bool := match R.places[x.1]? with
  | some p => p.set b
  | none => false
theorem Wds.nil (w : World) (B : Nat) : Wds w B (.slice none 0 0) [] := World.ownsRow_nil w B _ 2
theorem Wds.cut {w : World} {B n c : Nat} {A : Option Addr} {l : List (Nat × Nat)} (h : Wds w B (.slice A n c) l) : Wds w B (.slice A 0 c) [] := by
  rcases h.2 with ⟨e, h0⟩ | ⟨g, cap, cur, e, hB, hg, hnc, hcm, hcs, _⟩
  · injection e with e1 e2 e3
    subst e1 e3
    exact Wds.nil _ _
  · injection e with e1 e2 e3
    subst e1 e3
    exact ⟨rfl, .inr ⟨g, c, cur, rfl, hB, hg, Nat.zero_le _, hcm, hcs, by simp [wdsC]⟩⟩
theorem wds_push {w : World} {B : Nat} {v : Value} {l : List (Nat × Nat)} (h : Wds w B v l) (hB : B ≤ w.heap.size) (hl : l.length ≤ 100000) (x : Nat × Nat) (ty : TypeId) (ad : Addr) (c : Nat)
    (hc : ∀ (j : Nat) u, [Value.int .i64 x.1, .int .u64 x.2][j]? = some u → w.cell? (ad.add j) = some u) :
    ∃ v' w', (Builtin.append_ #[102, 102] ty #[v, .slice (some ad) 1 c]).run Try.prog w = .ok v' w' ∧ Wds w' B v' (l ++ [x]) ∧ w.grownBy w' v.ownBlock ∧ (v'.ownBlock = v.ownBlock ∨ v'.ownBlock = some w.heap.size) := by
  obtain ⟨i0, hi, hz0, hz1, hz2⟩ := info_parts Try.infoWords
  obtain ⟨v', w', hr, h4, h5, _, h6⟩ := run_append_own_at (P := Try.prog) w B 102 ty 136 i0 _ 2 16 Try.underlying102 hi hz0 hz1 hz2 rfl (by decide) v l.length (wdsC l) h ad 1 c [.int .i64 x.1, .int .u64 x.2] rfl hc
    (by
      intro u hu
      simp at hu
      rcases hu with rfl | rfl
      all_goals rfl) (by unfold maxLen; omega) (by omega) hB
  refine ⟨v', w', hr, ?_, h5, h6⟩
  unfold Wds
  rw [← wdsC_snoc]
  simpa using h4
theorem wpList_wds {w : World} {ops : Array Oper} {rest : List Oper} {o : Oper} {a : Act} {Q : Exit → Act → World → Prop} (hgd : o.guard = none) (s x : Operand)
    (ho : o.op = .call { callee := .builtin .append, args := #[s, x], argTypes := #[102, 102] })
    {B : Nat} {v : Value} {l : List (Nat × Nat)} (hs : a.eval s = v) (h : Wds w B v l) (hB : B ≤ w.heap.size) (hl : l.length ≤ 100000) (y : Nat × Nat)
    (ad : Addr) (c : Nat) (hx : a.eval x = .slice (some ad) 1 c) (hc : ∀ (j : Nat) u, [Value.int .i64 y.1, .int .u64 y.2][j]? = some u → w.cell? (ad.add j) = some u)
    (hk : ∀ v' w', Wds w' B v' (l ++ [y]) → w.grownBy w' v.ownBlock → (v'.ownBlock = v.ownBlock ∨ v'.ownBlock = some w.heap.size) → wpList Try.prog ops Q rest (a.put o.dst v') w') : wpList Try.prog ops Q (o :: rest) a w := by
  obtain ⟨v', w', hr, h2, h3, h4⟩ := wds_push h hB hl y o.type ad c hc
  refine wpList_plain hgd fun _ hK => ?_
  unfold Oper.wp execOp
  simp only [ho, resolve, invoke, builtin, Sem.run_bind, Sem.run_pure, Result.andThen_ok, List.map_toArray, List.map_cons, List.map_nil, hs, hx, hr]
  exact hK _ _ (hk v' w' h2 h3 h4)
theorem words_new (w : World) (x y : Nat) : ∀ (j : Nat) u, [Value.int .i64 x, .int .u64 y][j]? = some u → (w.alloc (.cells #[.int .i64 (x : Int), .int .u64 (y : Int)] 136)).cell? ((⟨w.heap.size, 0, none⟩ : Addr).add j) = some u := by
  intro j u hu
  rw [Addr.add_lit, Nat.zero_add, cell_of_row _ _ j _ 136 (0, 0) (heap_alloc_new w _)]
  simpa using hu

set_option maxRecDepth 20000 in
set_option maxHeartbeats 2000000 in
theorem mby_p {w : World} {gr D B : Nat} {R : RSt} {va vr : Value} {st l0 : List (Nat × Nat)} {b : Int} (hR : RulesIn w gr R) (ha : Wds w D va st) (hr : Wds w B vr l0) (hap : ∀ x, va.ownBlock = some x → vr.ownBlock ≠ some x) (hB : B ≤ w.heap.size)
    (hf : Fits R st) (hl : st.length ≤ 100000) (hP : R.places.length ≤ 100000) (hb : 0 ≤ b) (hb' : b ≤ 255) :
    Calls Try.prog 41 #[.pointer (some ⟨gr, 0, none⟩), va, .int .u8 b, vr] w fun e w' => ∃ v', e = .returned v' ∧ Wds w' B v' (st.filter (hasAt R b.toNat)) ∧ Kept (fun x => vr.ownBlock = some x) w w' ∧ ∀ x, v'.ownBlock = some x → vr.ownBlock = some x ∨ w.heap.size ≤ x := by
  obtain ⟨A, c, rfl⟩ := ha.form
  obtain ⟨Ar, cr, rfl⟩ := hr.form
  have HR := Lib.hid hR
  have HA := Lib.hid ha
  have HF := Lib.hid hf
  have HRM := Lib.hid hr.cut
  have HAP := Lib.hid hap
  have hcut : (Value.slice Ar 0 cr).ownBlock = (Value.slice Ar l0.length cr).ownBlock := by cases Ar <;> rfl
  have HCUT := Lib.hid hcut
  obtain ⟨L, hL⟩ : ∃ L, st.length = L := ⟨_, rfl⟩
  rw [hL] at HA hl HAP ⊢
  have HL := Lib.hid hL
  clear hR ha hf hL hr hap hcut
  go_enter Try.func41, Try.ntmps41
  go_wp2
  go_loopg [3, 15] L (fun m v i wr => ∃ k : Nat, i = .int .i64 (k : Int) ∧ k ≤ L ∧ m = L - k ∧ Wds wr B v ((st.take k).filter (hasAt R b.toNat)) ∧ Kept (fun x => (Value.slice Ar l0.length cr).ownBlock = some x) w wr ∧ ∀ x, v.ownBlock = some x → (Value.slice Ar l0.length cr).ownBlock = some x ∨ w.heap.size ≤ x)
  case atStart => exact ⟨0, by first | rfl | trivial, Nat.zero_le _, rfl, by simpa using HRM.out, Kept.refl _ _, fun x e => .inl (by rw [← HCUT.out]; exact e)⟩
  case round =>
    obtain ⟨k, rfl, hk, hmk, hwd, hkp, hown⟩ := hrel
    have HMK := Lib.hid hmk
    have HWD := Lib.hid hwd
    have HKP := Lib.hid hkp
    have HOWN := Lib.hid hown
    obtain ⟨Av, cv, hfv⟩ := hwd.form
    subst hfv
    clear hmk hwd hkp hown
    by_cases hkL : k < L
    · have hks : k < st.length := by rw [HL.out]; exact hkL
      obtain ⟨x, hx⟩ : ∃ x, st[k]? = some x := ⟨_, List.getElem?_eq_getElem hks⟩
      have hRw : RulesIn wr gr R := HR.out.kept HKP.out fun x q _ => by
        obtain ⟨cur, hc⟩ := HRM.out.kind (b := x) (by rw [HCUT.out]; exact q)
        exact ⟨_, _, hc, by decide, by decide, by decide⟩
      have hAw := HA.out.off HKP.out fun x e q => HAP.out x e q
      obtain ⟨g, cc, e1, _, hg, h0, h1⟩ := hAw.at hx
      rw [HL.out] at e1
      simp only [Value.slice.injEq] at e1
      obtain ⟨rfl, -, rfl⟩ := e1
      have hgx : st[k]'hks = x := by have := List.getElem?_eq_getElem hks; rw [hx] at this; injection this with this; exact this.symm
      obtain ⟨x1, x2⟩ := x
      have hfx := HF.out (x1, x2) (by rw [← hgx]; exact List.getElem_mem hks)
      obtain ⟨p, hp⟩ : ∃ p, R.places[x1]? = some p := ⟨_, List.getElem?_eq_getElem hfx.1⟩
      obtain ⟨gp, cp, v, r0, hpc, -, hgp, -⟩ := hRw.at hp
      have hha : hasAt R b.toNat (x1, x2) = p.set b.toNat := by unfold hasAt; rw [hp]
      have htk : (st.take (k + 1)).filter (hasAt R b.toNat) = (st.take k).filter (hasAt R b.toNat) ++ (if p.set b.toNat = true then [(x1, x2)] else []) := by
        rw [List.take_succ_eq_append_getElem hks, List.filter_append, hgx]
        cases hs : p.set b.toNat
        · rw [List.filter_cons_of_neg (by rw [hha, hs]; decide)]; simp
        · rw [List.filter_cons_of_pos (by rw [hha, hs])]; simp
      have hll : ((st.take k).filter (hasAt R b.toNat)).length ≤ 100000 := by
        have := List.length_filter_le (hasAt R b.toNat) (st.take k)
        rw [List.length_take] at this
        omega
      have hgr : gr < wr.heap.size := by obtain ⟨_, _, _, h1, _⟩ := hRw; exact lt_of_some h1
      obtain ⟨P, hP'⟩ : ∃ P, R.places.length = P := ⟨_, rfl⟩
      have hxP : (x1 : Int) < (P : Int) := by have := hfx.1; omega
      rw [hP'] at r0
      have i0 : (0 : Int) ≤ (x1 : Int) := by omega
      have k0 : (0 : Int) ≤ (k : Int) := by omega
      have k1 : (k : Int) < (L : Int) := by omega
      have hbw : B ≤ wr.heap.size := Nat.le_trans hB HKP.out.size
      have HH := Lib.hid (fun (W : World) (hb2 : Below wr.heap.size wr W) => mhas_p p.set b W gp (x1 * 8) (fun q hq => (hb2.cell (p := ⟨gp, x1 * 8 + q, none⟩) hgp).trans (hpc q _ (by match q, hq with | 0, _ => rfl | 1, _ => rfl | 2, _ => rfl | 3, _ => rfl))) hb hb')
      have HTK := Lib.hid htk
      obtain ⟨bb, hbb⟩ : ∃ bb, p.set b.toNat = bb := ⟨_, rfl⟩
      rw [hbb] at HH HTK
      simp only at h0 h1
      clear hRw hAw htk hha hp hgx hfx hx hks hpc hbb
      have hal : Below wr.heap.size wr (wr.alloc (.cells #[.int .i64 (x1 : Int), .int .u64 (x2 : Int)] 136)) := (Below.refl _ _).alloc (Nat.le_refl _) _
      have n0 : (wr.alloc (.cells #[.int .i64 (x1 : Int), .int .u64 (x2 : Int)] 136)).cell? ⟨wr.heap.size, 0, none⟩ = some (.int .i64 (x1 : Int)) := cell_of_row _ _ 0 _ _ (0, 0) (heap_alloc_new wr _)
      have n1 : (wr.alloc (.cells #[.int .i64 (x1 : Int), .int .u64 (x2 : Int)] 136)).cell? ⟨wr.heap.size, 1, none⟩ = some (.int .u64 (x2 : Int)) := cell_of_row _ _ 1 _ _ (0, 0) (heap_alloc_new wr _)
      have r0' := (hal.cell (p := ⟨gr, 0, none⟩) hgr).trans r0
      have HAL := Lib.hid hal
      have HN0 := Lib.hid n0
      have HN1 := Lib.hid n1
      go_wp2
      clear hal
      generalize wr.alloc (.cells #[.int .i64 (x1 : Int), .int .u64 (x2 : Int)] 136) = w1 at *
      go_still_tail 9, (by kernel_rfl)
      change wpList _ _ _ _ _ (World.drew _)
      cases bb
      all_goals
        go_wp2_with (first
          | (go_at_call 63; (refine (HH.out w1.drew HAL.out.drew).mono ?_); rintro e w5 ⟨rfl, hb5⟩; have h5 : Below wr.heap.size wr w5 := gro HAL.out (undrew hb5); have m0 : w5.cell? ⟨wr.heap.size, 0, none⟩ = some (.int .i64 (x1 : Int)) := cell_stays HN0.out (undrew hb5); have m1 : w5.cell? ⟨wr.heap.size, 1, none⟩ = some (.int .u64 (x2 : Int)) := cell_stays HN1.out (undrew hb5); have H5 := Lib.hid h5; have HW5 := Lib.hid (HWD.out.stays h5); have hs5 := h5.size; clear hb5 h5)
          | (at_builtin; refine wpList_wds (by rfl) _ _ (by rfl) (by rfl) (HW5.out.stays ((Below.refl _ _).alloc (Nat.le_refl _) _)) (by simp; omega) hll (x1, x2) ⟨w5.heap.size, 0, none⟩ 1 (by rfl) (words_new w5 x1 x2) ?_; intro v6 w6 i6 g6 o6; have I6 := Lib.hid i6; have G6 := Lib.hid g6; have O6 := Lib.hid o6; clear i6 g6 o6)
          | fail)
      · go_roundg (L - (k + 1))
        case measure => have := HMK.out; omega
        case rel =>
          have ht := HTK.out
          rw [if_neg (by decide), List.append_nil] at ht
          exact ⟨k + 1, by go_num, by omega, rfl, by rw [ht]; exact HW5.out, HKP.out.trans (Kept.of_below (fun _ => False) H5.out) fun x q => q.elim, HOWN.out⟩
      · go_roundg (L - (k + 1))
        case measure => have := HMK.out; omega
        case rel =>
          have ht := HTK.out
          simp only [if_true] at ht
          have hk6 := ((HKP.out.trans (Kept.of_below (fun _ => False) H5.out) fun x q => q.elim).alloc (.cells #[.int .i64 (x1 : Int), .int .u64 (x2 : Int)] 136)).grown G6.out HOWN.out
          refine ⟨k + 1, by go_num, by omega, rfl, by rw [ht]; exact I6.out, hk6, fun x e => ?_⟩
          rcases O6.out with h | h
          · exact HOWN.out x (h.symm.trans e)
          · rw [e] at h
            injection h with h
            have := HKP.out.size
            rw [World.size_alloc] at h
            exact .inr (by omega)
    · have hkl : k = st.length := by rw [HL.out]; omega
      have hw := HWD.out
      have ho := HOWN.out
      rw [hkl, List.take_length] at hw ho ⊢
      have HW := Lib.hid hw
      have HO := Lib.hid ho
      clear hw ho HWD HOWN
      go_wp2
      go_ret
      exact ⟨_, rfl, HW.out, HKP.out, HO.out⟩
end Go.Proofs.Ytnkopcmkanibhaa
