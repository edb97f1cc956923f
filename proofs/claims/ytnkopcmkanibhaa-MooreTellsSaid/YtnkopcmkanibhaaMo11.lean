/-
  Several texts of this proof in one file: MooTell, MooStM, MooDoc, MooTogV, MooCan, MooCan2. No statement of its own.
-/
import Derived.Test.YtnkopcmkanibhaaMo9
import Derived.Test.YtnkopcmkanibhaaMo10
import Derived.Test.YtnkopcmkanibhaaMo3
import Derived.Deep.RegionHeld3
import Derived.Deep.RegionLaw
import Derived.Test.YtnkopcmkanibhaaMo6
import Derived.Test.YtnkopcmkanibhaaMo4
set_option linter.unusedVariables false
set_option linter.unusedSimpArgs false

/-
  The document's own Tells: what a state tells. Contracts for other texts; no statement of its own.
-/
namespace Go.Proofs.Ytnkopcmkanibhaa
open Go Go.RowKit
attribute [local go_sem ↓] Go.wp_at_zero Go.wp_at_succ

def RdTr (w : World) (A : Option Addr) (L : List Bool) : Prop := ∀ (i : Nat) x, L[i]? = some x → ∃ b off, A = some ⟨b, off, none⟩ ∧ b < w.heap.size ∧ w.cell? ⟨b, off + i, none⟩ = some (.bool x)
/-- A word under way that may be. -/
def okWd (L : List (Lay × Str)) (bs : List Bool) (x : Wd) : Prop := ∃ s t b, L[x.rule]? = some (s, t) ∧ bs[x.rule]? = some b ∧ x.place < s.sets.length ∧ x.age ≤ 63
def tellStep (L : List (Lay × Str)) (bs : List Bool) (x : Wd) (o : Nat × Nat) : Nat × Nat := match L[x.rule]?, bs[x.rule]? with
  | some (_, t), some b => if t.last.contains x.place = true then (if b = true then (o.1, o.2 ||| 2 ^ x.age) else (o.1 ||| 2 ^ x.age, o.2)) else o
  | _, _ => o
def tellW (L : List (Lay × Str)) (bs : List Bool) : List Wd → Nat × Nat → Nat × Nat
  | [], o => o
  | x :: l, o => tellW L bs l (tellStep L bs x o)
theorem tellW_drop (L : List (Lay × Str)) (bs : List Bool) (st : List Wd) (k : Nat) (x : Wd) (h : st[k]? = some x) (o : Nat × Nat) : tellW L bs (st.drop k) o = tellW L bs (st.drop (k + 1)) (tellStep L bs x o) := by
  obtain ⟨hk, e⟩ := List.getElem?_eq_some_iff.1 h
  rw [List.drop_eq_getElem_cons hk, tellW, e]

set_option maxRecDepth 20000 in
set_option maxHeartbeats 4000000 in
theorem tells05_p {w : World} {A B C : Option Addr} {ca cb cc : Nat} {L : List (Lay × Str)} {bs : List Bool} {st : List Wd} (hL : RdNfas w w.heap.size A L) (hbs : RdTr w B bs) (hs : RdW w C st) (hok : ∀ x ∈ st, okWd L bs x) (hl : st.length ≤ 100000) (hLl : L.length ≤ 64) (hbl : bs.length ≤ 65) :
    Calls Try.prog 46 #[.slice A L.length ca, .slice B bs.length cb, .slice C st.length cc] w fun e w' => e = .returned (.agg #[.int .u64 ((tellW L bs st (0, 0)).1 : Nat), .int .u64 ((tellW L bs st (0, 0)).2 : Nat)]) ∧ Below w.heap.size w w' := by
  obtain ⟨N, hN⟩ : ∃ N, st.length = N := ⟨_, rfl⟩
  obtain ⟨K, hK⟩ : ∃ K, L.length = K := ⟨_, rfl⟩
  obtain ⟨M, hM⟩ : ∃ M, bs.length = M := ⟨_, rfl⟩
  rw [hN] at hl ⊢
  rw [hK] at hLl ⊢
  rw [hM] at hbl ⊢
  have HN := Lib.hid hN
  have HK := Lib.hid hK
  have HM := Lib.hid hM
  have HL := Lib.hid hL
  have HBS := Lib.hid hbs
  have HS := Lib.hid hs
  have HOK := Lib.hid hok
  clear hN hK hM hL hbs hs hok
  go_enter Try.func46, Try.ntmps46
  go_wp2
  go_loopg [8] N (fun mm i wr => ∃ (k a b : Nat), i = .int .i64 (k : Int) ∧ k ≤ N ∧ mm = N - k ∧ a < 18446744073709551616 ∧ b < 18446744073709551616 ∧ tellW L bs (st.drop k) (a, b) = tellW L bs st (0, 0) ∧ BoxO wr w.heap.size (.int .u64 0) (.int .u64 0) ∧ BoxO wr (w.heap.size + 1) (.int .u64 (a : Int)) (.int .u64 (b : Int)) ∧ Below w.heap.size w wr)
  case atStart => exact ⟨0, 0, 0, rfl, Nat.zero_le _, rfl, by omega, by omega, rfl, (BoxO.new w _ _ _ rfl).alloc _, BoxO.new _ _ _ _ (by simp), ((Below.refl _ _).alloc (Nat.le_refl _) _).alloc (by simp) _⟩
  case round =>
    obtain ⟨k, a, b, rfl, hk, hmk, ha64, hb64, ho, bR, bO, hW⟩ := hrel
    have HMK := Lib.hid hmk
    have HO := Lib.hid ho
    have BR := Lib.hid bR
    have BO := Lib.hid bO
    have HW := Lib.hid hW
    clear hmk ho
    by_cases hkN : k < N
    · obtain ⟨x, hx⟩ : ∃ x, st[k]? = some x := ⟨_, List.getElem?_eq_getElem (by rw [HN.out]; omega)⟩
      obtain ⟨s, t, bb, e1, e2, e3, e4⟩ := HOK.out x (List.mem_of_getElem? hx)
      obtain ⟨gs, os, rfl, hgs, z0, z1, z2⟩ := (HS.out.stays hW) k x hx
      obtain ⟨g, off, A1, m1, c1, A2, m2, c2, gm, A3, m3, c3, rfl, hg, hc, q1, q2, q3, hin⟩ := HL.out x.rule s t e1
      have y2 := (hW.cell (p := ⟨g, off + x.rule * 5 + 2, none⟩) hg).trans (hc 2 _ rfl)
      have y3 := (hin.below hW).last x.place e3
      obtain ⟨gb, ob, rfl, hgb, y4'⟩ := HBS.out x.rule bb e2
      have y4 := cell_stays y4' hW
      have hxr : x.rule < K := by have := (List.getElem?_eq_some_iff.1 e1).1; have := HK.out; omega
      have hxm : x.rule < M := by have := (List.getElem?_eq_some_iff.1 e2).1; have := HM.out; omega
      have hst := tellW_drop L bs st k x hx (a, b)
      rw [HO.out] at hst
      have hts : tellStep L bs x (a, b) = if t.last.contains x.place = true then (if bb = true then (a, b ||| 2 ^ x.age) else (a ||| 2 ^ x.age, b)) else (a, b) := by unfold tellStep; rw [e1, e2]
      rw [hts] at hst
      have hbit := fun W => bit_p W x.age e4
      obtain ⟨z, hz⟩ : ∃ z, s.sets.length = z := ⟨_, rfl⟩
      rw [hz] at y2 e3
      have h264 : 2 ^ x.age < 18446744073709551616 := by
        have h1 := Nat.pow_le_pow_right (n := 2) (by omega) e4
        have h2 : (2 : Nat) ^ 63 = 9223372036854775808 := by decide
        omega
      have hp2 : ((2 : Int) ^ x.age) = ((2 ^ x.age : Nat) : Int) := by push_cast; rfl
      have hb1 := bits_or_u64_nat a (2 ^ x.age) ha64 h264
      have hb2 := bits_or_u64_nat b (2 ^ x.age) hb64 h264
      have ho1 : a ||| 2 ^ x.age < 18446744073709551616 := Nat.or_lt_two_pow (n := 64) ha64 h264
      have ho2 : b ||| 2 ^ x.age < 18446744073709551616 := Nat.or_lt_two_pow (n := 64) hb64 h264
      obtain ⟨xr, xp, xa⟩ := x
      simp only at z0 z1 z2 y2 y3 y4 hbit hxr hxm e3 hst hb1 hb2 ho1 ho2 hp2
      obtain ⟨v, hv⟩ : ∃ v : Int, (2 : Int) ^ xa = v := ⟨_, rfl⟩
      obtain ⟨V, hV⟩ : ∃ V : Nat, (2 : Nat) ^ xa = V := ⟨_, rfl⟩
      rw [hv, hV] at hp2
      rw [hv] at hbit
      rw [hV] at hst hb1 hb2 ho1 ho2
      subst hp2
      obtain ⟨lb, hlb⟩ : ∃ lb, t.last.contains xp = lb := ⟨_, rfl⟩
      rw [hlb] at y3 hst
      have HBIT := Lib.hid hbit
      have HST := Lib.hid hst
      obtain ⟨w0, w1⟩ := bO.cell
      obtain ⟨f0, f1⟩ := bO.frozen
      have i0 : (0 : Int) ≤ (k : Int) := by omega
      have i1 : (k : Int) < (N : Int) := by omega
      have i2 : (0 : Int) ≤ (xr : Int) := by omega
      have i3 : (xr : Int) < (K : Int) := by omega
      have i4 : (xr : Int) < (M : Int) := by omega
      have i5 : (0 : Int) ≤ (xp : Int) := by omega
      have i6 : (xp : Int) < (z : Int) := by omega
      clear hx e1 e2 hgs hg hc hin hgb y4' hts hbit hst hv hV hlb bR bO hW q1 q2 q3 hz
      cases lb
      · go_wp2
        go_quiet (fail)
        go_wp2
        go_roundg (N - (k + 1))
        case measure => have := HMK.out; omega
        case rel => exact ⟨k + 1, a, b, by go_num, by omega, rfl, ha64, hb64, by simpa using HST.out.symm, BR.out, BO.out, below_dnO HW.out _⟩
      · cases bb
        · go_wp2
          go_quiet (fail)
          go_wp2
          go_region_law (first
            | (go_simp; go_at_call 66; (with_reducible refine (HBIT.out _).mono ?_); rintro e w5 ⟨rfl, rfl⟩)
            | fail)
          all_goals
            go_wp2
            go_roundg (N - (k + 1))
            case measure => have := HMK.out; omega
            case rel => exact ⟨k + 1, a ||| V, b, by go_num, by omega, rfl, ho1, hb64, by simpa using HST.out.symm, BoxO.far (w := wr.drewN _) BR.out (ad := ⟨w.heap.size + 1, 0, none⟩) (by show w.heap.size ≠ w.heap.size + 1; omega) _, BoxO.put0 (w := wr.drewN _) BO.out _, (below_dnO HW.out _).setCell (p := ⟨w.heap.size + 1, 0, none⟩) (by show w.heap.size ≤ w.heap.size + 1; omega) _⟩
        · go_wp2
          go_quiet (fail)
          go_wp2
          go_region_law (first
            | (go_simp; go_at_call 66; (with_reducible refine (HBIT.out _).mono ?_); rintro e w5 ⟨rfl, rfl⟩)
            | fail)
          all_goals
            go_wp2
            go_roundg (N - (k + 1))
            case measure => have := HMK.out; omega
            case rel => exact ⟨k + 1, a, b ||| V, by go_num, by omega, rfl, ha64, ho2, by simpa using HST.out.symm, BoxO.far (w := wr.drewN _) BR.out (ad := ⟨w.heap.size + 1, 1, none⟩) (by show w.heap.size ≠ w.heap.size + 1; omega) _, BoxO.put1 (w := wr.drewN _) BO.out _, (below_dnO HW.out _).setCell (p := ⟨w.heap.size + 1, 1, none⟩) (by show w.heap.size ≤ w.heap.size + 1; omega) _⟩
    · have hkl : k = st.length := by rw [HN.out]; omega
      have ho := HO.out
      rw [hkl, List.drop_length, tellW] at ho
      have HOO := Lib.hid ho
      obtain ⟨q0, q1⟩ := BR.out.cell
      obtain ⟨f2, f3⟩ := BR.out.frozen
      obtain ⟨w0, w1⟩ := BO.out.cell
      clear ho hkl bR bO hW
      go_wp2
      have bF := (BR.out.put0 (.int .u64 (a : Int))).put1 (.int .u64 (b : Int))
      obtain ⟨y0, y1⟩ := bF.cell
      refine bodyPost_ret (v := .agg #[.int .u64 (a : Int), .int .u64 (b : Int)]) ?_ rfl ⟨by rw [← HOO.out], (HW.out.setCell (p := ⟨w.heap.size, 0, none⟩) (Nat.le_refl _) _).setCell (p := ⟨w.heap.size, 1, none⟩) (Nat.le_refl _) _⟩
      simp [results, Try.results46, go_sem, y0, y1]
end Go.Proofs.Ytnkopcmkanibhaa

/-
  The document's own Step, as a plain function; a row of its words. Laws for other texts; no statement of its own.
-/
namespace Go.Proofs.Ytnkopcmkanibhaa
open Go Go.RowKit

theorem Try.infoWd : (Try.prog.info? 144).map (fun i => (i.zero, i.size, i.bytes)) = some (some (.agg #[.int .i64 0, .int .i64 0, .int .i64 0]), 3, 24) := by kernel_rfl
/-- A row of words under way that grows. -/
def Ws (w : World) (B : Nat) (v : Value) (l : List Wd) : Prop := w.ownsRow B 144 3 v l.length (wdL l)
theorem Ws.nil (w : World) (B : Nat) : Ws w B (.slice none 0 0) [] := World.ownsRow_nil w B _ 3
theorem Ws.stays {w w' : World} {B : Nat} {v : Value} {l : List Wd} (h : Ws w B v l) (hb : Below w.heap.size w w') : Ws w' B v l := own_block h fun b e hl => hb.block b hl
theorem Ws.form {w : World} {B : Nat} {v : Value} {l : List Wd} (h : Ws w B v l) : ∃ A c, v = .slice A l.length c := by
  rcases h.2 with ⟨rfl, h0⟩ | ⟨g, cap, cur, rfl, _⟩
  · exact ⟨none, 0, by rw [h0]⟩
  · exact ⟨_, _, rfl⟩
theorem Ws.rd {w : World} {B n c : Nat} {A : Option Addr} {l : List Wd} (h : Ws w B (.slice A n c) l) : RdW w A l := by
  obtain ⟨A', c', e⟩ := h.form
  injection e with e1 e2 e3
  subst e1 e2 e3
  exact RdW.of_row h rfl
theorem ws_push {w : World} {B : Nat} {v : Value} {l : List Wd} (h : Ws w B v l) (hB : B ≤ w.heap.size) (hl : l.length ≤ 100000) (x : Wd) (ty : TypeId) (ad : Addr) (c : Nat)
    (hc : ∀ (j : Nat) u, (wdC x)[j]? = some u → w.cell? (ad.add j) = some u) :
    ∃ v' w', (Builtin.append_ #[107, 107] ty #[v, .slice (some ad) 1 c]).run Try.prog w = .ok v' w' ∧ Ws w' B v' (l ++ [x]) ∧ w.grownBy w' v.ownBlock ∧ (v'.ownBlock = v.ownBlock ∨ v'.ownBlock = some w.heap.size) := by
  obtain ⟨i0, hi, hz0, hz1, hz2⟩ := info_parts Try.infoWd
  obtain ⟨v', w', hr, h4, h5, _, h6⟩ := run_append_own_at (P := Try.prog) w B 107 ty 144 i0 _ 3 24 Try.underlying107 hi hz0 hz1 hz2 rfl (by decide) v l.length (wdL l) h ad 1 c (wdC x) rfl hc
    (by
      intro u hu
      simp [wdC] at hu
      rcases hu with rfl | rfl | rfl
      all_goals rfl) (by unfold maxLen; omega) (by omega) hB
  refine ⟨v', w', hr, ?_, h5, h6⟩
  have e : wdL l ++ wdC x = wdL (l ++ [x]) := by rw [wdL_app]; simp [wdL]
  unfold Ws
  rw [← e]
  simpa using h4
theorem wpList_ws {w : World} {ops : Array Oper} {rest : List Oper} {o : Oper} {a : Act} {Q : Exit → Act → World → Prop} (hgd : o.guard = none) (s x : Operand)
    (ho : o.op = .call { callee := .builtin .append, args := #[s, x], argTypes := #[107, 107] })
    {B : Nat} {v : Value} {l : List Wd} (hs : a.eval s = v) (h : Ws w B v l) (hB : B ≤ w.heap.size) (hl : l.length ≤ 100000) (y : Wd)
    (ad : Addr) (c : Nat) (hx : a.eval x = .slice (some ad) 1 c) (hc : ∀ (j : Nat) u, (wdC y)[j]? = some u → w.cell? (ad.add j) = some u)
    (hk : ∀ v' w', Ws w' B v' (l ++ [y]) → w.grownBy w' v.ownBlock → (v'.ownBlock = v.ownBlock ∨ v'.ownBlock = some w.heap.size) → wpList Try.prog ops Q rest (a.put o.dst v') w') : wpList Try.prog ops Q (o :: rest) a w := by
  obtain ⟨v', w', hr, h2, h3, h4⟩ := ws_push h hB hl y o.type ad c hc
  refine wpList_plain hgd fun _ hK => ?_
  unfold Oper.wp execOp
  simp only [ho, resolve, invoke, builtin, Sem.run_bind, Sem.run_pure, Result.andThen_ok, List.map_toArray, List.map_cons, List.map_nil, hs, hx, hr]
  exact hK _ _ (hk v' w' h2 h3 h4)
theorem wd_new (w : World) (x : Wd) : ∀ (j : Nat) u, (wdC x)[j]? = some u → (w.alloc (.cells #[.int .i64 (x.rule : Int), .int .i64 (x.place : Int), .int .i64 (x.age : Int)] 144)).cell? ((⟨w.heap.size, 0, none⟩ : Addr).add j) = some u := by
  intro j u hu
  rw [Addr.add_lit, Nat.zero_add, cell_of_row _ _ j _ 144 (0, 0) (heap_alloc_new w _)]
  simpa [wdC] using hu
theorem Ws.in {w : World} {B : Nat} {v : Value} {l : List Wd} (h : Ws w B v l) : ∀ b, v.ownBlock = some b → B ≤ b ∧ b < w.heap.size := fun b e => World.ownsRow.lt h b e
/-- Words of a rule's first places that a byte fits. -/
def fstOne (r : Nat) (s : Lay) (b : Nat) (l : List Nat) : List Wd := (l.filter fun p => s.sets.getD p noneP b).map fun p => ⟨r, p, 1⟩
theorem fstOne_succ (r : Nat) (s : Lay) (b : Nat) (l : List Nat) (k p : Nat) (h : l[k]? = some p) : fstOne r s b (l.take (k + 1)) = fstOne r s b (l.take k) ++ (if s.sets.getD p noneP b = true then [⟨r, p, 1⟩] else []) := by
  unfold fstOne
  rw [List.take_add_one, h, Option.toList_some, List.filter_append, List.map_append]
  cases hs : s.sets.getD p noneP b
  · rw [List.filter_cons_of_neg (by rw [hs]; decide)]; simp
  · rw [List.filter_cons_of_pos (by rw [hs])]; simp
def fstN (L : List (Lay × Str)) (b : Nat) : Nat → List Wd
  | 0 => []
  | k + 1 => fstN L b k ++ (match L[k]? with | some (s, x) => fstOne k s b x.first | none => [])
theorem fstN_mono (L : List (Lay × Str)) (b : Nat) {k m : Nat} (h : k ≤ m) : (fstN L b k).length ≤ (fstN L b m).length := by
  induction m with
  | zero => have : k = 0 := by omega
            subst this; exact Nat.le_refl _
  | succ m ih =>
    by_cases e : k = m + 1
    · subst e; exact Nat.le_refl _
    · exact Nat.le_trans (ih (by omega)) (by rw [fstN, List.length_append]; omega)
theorem fstN_part (L : List (Lay × Str)) (b k : Nat) (s : Lay) (x : Str) (h : L[k]? = some (s, x)) (q : Nat) : (fstN L b k ++ fstOne k s b (x.first.take q)).length ≤ (fstN L b L.length).length := by
  have h1 := (List.getElem?_eq_some_iff.1 h).1
  refine Nat.le_trans ?_ (fstN_mono L b (k := k + 1) h1)
  rw [fstN, h, List.length_append, List.length_append]
  have : (fstOne k s b (x.first.take q)).length ≤ (fstOne k s b x.first).length := by
    unfold fstOne
    rw [List.length_map, List.length_map]
    exact ((List.take_sublist q x.first).filter _).length_le
  simp only
  omega
/-- The words that come of one. -/
def folPut (s : Lay) (b : Nat) (x : Wd) (q : Nat) (o : List Wd) : List Wd := if s.sets.getD q noneP b = true ∧ ¬ (⟨x.rule, q, x.age + 1⟩ : Wd) ∈ o then o ++ [⟨x.rule, q, x.age + 1⟩] else o
def folOne (s : Lay) (b : Nat) (x : Wd) : List Nat → List Wd → List Wd
  | [], o => o
  | q :: l, o => folOne s b x l (folPut s b x q o)
def stepOne (L : List (Lay × Str)) (lam b : Nat) (x : Wd) (o : List Wd) : List Wd := match L[x.rule]? with
  | some (s, _) => if x.age < lam then folOne s b x (s.follow.getD x.place []) o else o
  | none => o
def stepW (L : List (Lay × Str)) (lam b : Nat) : List Wd → List Wd → List Wd
  | [], o => o
  | x :: st, o => stepW L lam b st (stepOne L lam b x o)
theorem folPut_le (s : Lay) (b : Nat) (x : Wd) (q : Nat) (o : List Wd) : o.length ≤ (folPut s b x q o).length := by
  unfold folPut
  by_cases h : s.sets.getD q noneP b = true ∧ ¬ (⟨x.rule, q, x.age + 1⟩ : Wd) ∈ o
  · rw [if_pos h, List.length_append]; omega
  · rw [if_neg h]; exact Nat.le_refl _
theorem folOne_le (s : Lay) (b : Nat) (x : Wd) : ∀ (l : List Nat) (o : List Wd), o.length ≤ (folOne s b x l o).length
  | [], o => Nat.le_refl _
  | q :: l, o => Nat.le_trans (folPut_le s b x q o) (folOne_le s b x l _)
theorem stepOne_le (L : List (Lay × Str)) (lam b : Nat) (x : Wd) (o : List Wd) : o.length ≤ (stepOne L lam b x o).length := by
  unfold stepOne
  rcases L[x.rule]? with _ | ⟨s, t⟩
  · exact Nat.le_refl _
  · simp only
    by_cases h : x.age < lam
    · rw [if_pos h]; exact folOne_le _ _ _ _ _
    · rw [if_neg h]; exact Nat.le_refl _
theorem stepW_le (L : List (Lay × Str)) (lam b : Nat) : ∀ (st o : List Wd), o.length ≤ (stepW L lam b st o).length
  | [], o => Nat.le_refl _
  | x :: st, o => Nat.le_trans (stepOne_le L lam b x o) (stepW_le L lam b st _)
theorem folOne_drop (s : Lay) (b : Nat) (x : Wd) (l : List Nat) (k q : Nat) (h : l[k]? = some q) (o : List Wd) : folOne s b x (l.drop k) o = folOne s b x (l.drop (k + 1)) (folPut s b x q o) := by
  obtain ⟨hk, e⟩ := List.getElem?_eq_some_iff.1 h
  rw [List.drop_eq_getElem_cons hk, folOne, e]
theorem stepW_drop (L : List (Lay × Str)) (lam b : Nat) (st : List Wd) (k : Nat) (x : Wd) (h : st[k]? = some x) (o : List Wd) : stepW L lam b (st.drop k) o = stepW L lam b (st.drop (k + 1)) (stepOne L lam b x o) := by
  obtain ⟨hk, e⟩ := List.getElem?_eq_some_iff.1 h
  rw [List.drop_eq_getElem_cons hk, stepW, e]
/-- Rules whose places may be. -/
def OkRef (L : List (Lay × Str)) : Prop := ∀ (i : Nat) s x, L[i]? = some (s, x) → (∀ p ∈ x.first, p < s.sets.length) ∧ x.first.length ≤ 100000 ∧ ∀ p, p < s.sets.length → (∀ q ∈ s.follow.getD p [], q < s.sets.length) ∧ (s.follow.getD p []).length ≤ 100000
/-- Words whose rule and place are there. -/
def OkSt (L : List (Lay × Str)) (st : List Wd) : Prop := ∀ x ∈ st, ∃ s t, L[x.rule]? = some (s, t) ∧ x.place < s.sets.length ∧ x.age ≤ 63
end Go.Proofs.Ytnkopcmkanibhaa

/-
  What stands in memory while the document builds a machine: its variable, its rows, what is told, its states, the row under way. Laws for other texts; no statement of its own.
-/
namespace Go.Proofs.Ytnkopcmkanibhaa
open Go Go.RowKit

theorem Try.infoStsD : (Try.prog.info? 107).map (fun i => (i.zero, i.size, i.bytes)) = some (some (.slice none 0 0), 1, 24) := by kernel_rfl
/-- The document's states: a row of rows of words. -/
def Sts (w : World) (B : Nat) (vS : Value) (ts : List (List Wd)) : Prop :=
  ∃ us, us.length = ts.length ∧ w.ownsRow B 107 1 vS ts.length us ∧ ∀ (i : Nat) u t, us[i]? = some u → ts[i]? = some t → Ws w B u t
section
variable {w w' W : World} {B gm : Nat} {O Q : Nat → Prop} {F : Nat → Nat} {n : Int} {vS vN vO vr v v' u : Value} {ts : List (List Wd)} {rows : List (List Nat)} {outs : List (Nat × Nat)} {row : List Nat} {t : List Wd}
theorem Sts.form (h : Sts w B vS ts) : ∃ A c, vS = .slice A ts.length c := by obtain ⟨us, h1, h2, h3⟩ := h; exact own_formM h2
theorem Sts.at (h : Sts w B vS ts) {i : Nat} (hi : ts[i]? = some t) : ∃ g c A m, vS = .slice (some ⟨g, 0, none⟩) ts.length c ∧ w.cell? ⟨g, i, none⟩ = some (.slice A t.length m) ∧ Ws w B (.slice A t.length m) t := by
  obtain ⟨us, h1, h2, h3⟩ := h
  have hl : i < us.length := by rw [h1]; exact (List.getElem?_eq_some_iff.1 hi).1
  obtain ⟨u, hu⟩ : ∃ u, us[i]? = some u := ⟨_, List.getElem?_eq_getElem hl⟩
  have hw := h3 i u t hu hi
  obtain ⟨A, m, rfl⟩ := hw.form
  rcases h2.2 with ⟨_, h0⟩ | ⟨g, cap, cur, rfl, hB, hg, _⟩
  · omega
  · exact ⟨g, cap, A, m, rfl, (World.ownsRow.cellAt h2 i (by omega)).trans hu, hw⟩
/-- Other kinds of blocks. -/
def Oth (w : World) (Q : Nat → Prop) (l : List TypeId) : Prop := ∀ b, Q b → b < w.heap.size → ∃ cur ty, w.heap[b]? = some (.cells cur ty (0, 0)) ∧ ty ∉ l
theorem own_oth {B e size k : Nat} {xs : List Value} {l : List TypeId} (h : w.ownsRow B e size v k xs) (hk : Kept Q w w') (hq : Oth w Q l) (he : e ∈ l) : w'.ownsRow B e size v k xs := own_block h fun b eb hb => hk.block b hb fun q => by
  obtain ⟨cu, hc⟩ := own_kind h eb
  obtain ⟨cur, ty, h1, h2⟩ := hq b q hb
  exact kind_apart hc h1 (fun e' => h2 (e' ▸ he)) rfl
theorem Nxt.oth (h : Nxt w B O vN rows) (hk : Kept Q w w') (hq : Oth w Q [59, 3]) : Nxt w' B O vN rows := by
  obtain ⟨vs, h1, h2, h3, h4⟩ := h.mem
  exact ⟨⟨vs, h1, own_oth h2 hk hq (by simp), fun i u r e1 e2 => own_oth (h3 i u r e1 e2) hk hq (by simp), h4⟩, h.inO⟩
theorem Sts.oth (h : Sts w B vS ts) (hk : Kept Q w w') (hq : Oth w Q [107, 144]) : Sts w' B vS ts := by
  obtain ⟨us, h1, h2, h3⟩ := h
  exact ⟨us, h1, own_oth h2 hk hq (by simp), fun i u t e1 e2 => own_oth (h3 i u t e1 e2) hk hq (by simp)⟩
theorem BoxM.oth {ty : TypeId} {l : List TypeId} (h : BoxM w gm ty F n vN vO) (hk : Kept Q w w') (hq : Oth w Q l) (he : ty ∈ l) : BoxM w' gm ty F n vN vO := h.kept hk fun q => by
  obtain ⟨cur, ty', h1, h2⟩ := hq gm q h.lt
  exact kind_apart h h1 (fun e' => h2 (e' ▸ he)) rfl
theorem oth_own {B e size k : Nat} {xs : List Value} {l : List TypeId} (h : w.ownsRow B e size v k xs) (he : e ∉ l) : Oth w (fun b => v.ownBlock = some b) l := fun b eb _ => by
  obtain ⟨cu, hc⟩ := own_kind h eb
  exact ⟨cu, e, hc, he⟩
theorem oth_or {Q' : Nat → Prop} {l : List TypeId} (h : Oth w Q l) (h' : Oth w Q' l) : Oth w (fun b => Q b ∨ Q' b) l := fun b e hb => e.elim (fun e => h b e hb) fun e => h' b e hb
theorem oth_box {ty : TypeId} {l : List TypeId} (h : BoxM w gm ty F n vN vO) (he : ty ∉ l) : Oth w (fun b => b = gm) l := fun b e _ => by
  subst e
  exact ⟨_, ty, h, he⟩
theorem oth_none {l : List TypeId} : Oth w (fun _ => False) l := fun b e => e.elim

/-- What stands in memory. -/
structure DS (B : Nat) (w : World) (gm : Nat) (O : Nat → Prop) (F : Nat → Nat) (n : Int) (vS vN vO vr : Value) (ts : List (List Wd)) (rows : List (List Nat)) (outs : List (Nat × Nat)) (row : List Nat) : Prop where
  gB : B ≤ gm
  box : BoxM w gm 43 F n vN vO
  nxt : Nxt w B O vN rows
  ots : w.ownsRow B 51 2 vO outs.length (outC outs)
  olt : ∀ b, O b → b < w.heap.size
  sts : Sts w B vS ts
  row : Ints w B vr (ns row)
  rO : ∀ b, vr.ownBlock = some b → ¬ O b
theorem DS.hB (h : DS B w gm O F n vS vN vO vr ts rows outs row) : B ≤ w.heap.size := by
  have := h.box.lt
  have := h.gB
  omega
theorem DS.stays (h : DS B w gm O F n vS vN vO vr ts rows outs row) (hb : Below w.heap.size w w') : DS B w' gm O F n vS vN vO vr ts rows outs row := by
  have hk := Kept.of_below (fun _ => False) hb
  exact ⟨h.gB, h.box.oth hk (oth_none (l := [43])) (by simp), h.nxt.oth hk oth_none, own_oth h.ots hk (oth_none (l := [51])) (by simp), fun b e => Nat.lt_of_lt_of_le (h.olt b e) hk.size, h.sts.oth hk oth_none, own_oth h.row hk (oth_none (l := [3])) (by simp), h.rO⟩
/-- A row begins. -/
theorem DS.fresh (h : DS B w gm O F n vS vN vO vr ts rows outs row) : DS B w gm O F n vS vN vO (.slice none 0 0) ts rows outs [] :=
  ⟨h.gB, h.box, h.nxt, h.ots, h.olt, h.sts, World.ownsRow_nil _ _ _ 1, fun b e => by cases e⟩
/-- One more state. -/
theorem DS.pushS (h : DS B w gm O F n vS vN vO vr ts rows outs row) {us : List Value} (h1 : us.length = ts.length) (h2 : w.ownsRow B 107 1 vS ts.length us) (h3 : ∀ (i : Nat) u t, us[i]? = some u → ts[i]? = some t → Ws w B u t) (hu : Ws w B u t)
    (hk : Kept (fun b => vS.ownBlock = some b) w w') (hr : w'.ownsRow B 107 1 v' (ts.length + 1) (us ++ [u])) : DS B w' gm O F n v' vN vO vr (ts ++ [t]) rows outs row := by
  have hq : ∀ l, 107 ∉ l → Oth w (fun b => vS.ownBlock = some b) l := fun l e => oth_own h2 e
  refine ⟨h.gB, h.box.oth hk (hq [43] (by decide)) (by simp), h.nxt.oth hk (hq _ (by decide)), own_oth h.ots hk (hq [51] (by decide)) (by simp), fun b e => Nat.lt_of_lt_of_le (h.olt b e) hk.size, ⟨us ++ [u], by simp [h1], by rw [List.length_append]; exact hr, fun i x y e1 e2 => ?_⟩, own_oth h.row hk (hq [3] (by decide)) (by simp), h.rO⟩
  have hw : ∀ x y, Ws w B x y → Ws w' B x y := fun x y hx => own_oth hx hk (hq [144] (by decide)) (by simp)
  by_cases hi : i < us.length
  · rw [List.getElem?_append_left hi] at e1
    rw [List.getElem?_append_left (by omega)] at e2
    exact hw _ _ (h3 i x y e1 e2)
  · have hi' : i = us.length := by
      have := (List.getElem?_eq_some_iff.1 e1).1
      simp at this
      omega
    subst hi'
    rw [List.getElem?_append_right (Nat.le_refl _), Nat.sub_self] at e1
    rw [h1, List.getElem?_append_right (Nat.le_refl _), Nat.sub_self] at e2
    simp at e1 e2
    subst e1 e2
    exact hw _ _ hu
/-- One more that is told. -/
theorem DS.pushO (h : DS B w gm O F n vS vN vO vr ts rows outs row) {o : Nat × Nat} (hk : Kept (fun b => vO.ownBlock = some b ∨ b = gm) w w') (hb : BoxM w' gm 43 F n vN v') (hr : w'.ownsRow B 51 2 v' (outs.length + 1) (outC outs ++ [.int .u64 (o.1 : Int), .int .u64 (o.2 : Int)])) :
    DS B w' gm O F n vS vN v' vr ts rows (outs ++ [o]) row := by
  have hq : ∀ l, 51 ∉ l → 43 ∉ l → Oth w (fun b => vO.ownBlock = some b ∨ b = gm) l := fun l e e' => oth_or (oth_own h.ots e) (oth_box h.box e')
  exact ⟨h.gB, hb, h.nxt.oth hk (hq _ (by decide) (by decide)), by rw [List.length_append, outC_snoc]; exact hr, fun b e => Nat.lt_of_lt_of_le (h.olt b e) hk.size, h.sts.oth hk (hq _ (by decide) (by decide)), own_oth h.row hk (hq [3] (by decide) (by decide)) (by simp), h.rO⟩
/-- One number more in the row. -/
theorem DS.pushR (h : DS B w gm O F n vS vN vO vr ts rows outs row) {k : Nat} (hk : Kept (fun b => vr.ownBlock = some b) w w') (hr : Ints w' B v' (ns (row ++ [k]))) (hv : v'.ownBlock = vr.ownBlock ∨ ∃ c, v'.ownBlock = some c ∧ w.heap.size ≤ c) : DS B w' gm O F n vS vN vO v' ts rows outs (row ++ [k]) := by
  have hq : ∀ l, 3 ∉ l → Oth w (fun b => vr.ownBlock = some b) l := fun l e => oth_own h.row e
  refine ⟨h.gB, h.box.oth hk (hq [43] (by decide)) (by simp), h.nxt.kept hk fun b e e' => h.rO b e' e, own_oth h.ots hk (hq [51] (by decide)) (by simp), fun b e => Nat.lt_of_lt_of_le (h.olt b e) hk.size, h.sts.oth hk (hq _ (by decide)), hr, fun b e k => ?_⟩
  rcases hv with e' | ⟨c, e', hc⟩
  · exact h.rO b (e'.symm.trans e) k
  · have : c = b := by rw [e'] at e; injection e
    have := h.olt b k
    omega
/-- The row is laid into the machine. -/
theorem DS.pushN (h : DS B w gm O F n vS vN vO vr ts rows outs row) {vs : List Value} (n1 : vs.length = rows.length) (n2 : w.ownsRow B 59 1 vN rows.length vs) (n3 : ∀ (i : Nat) u r, vs[i]? = some u → rows[i]? = some r → Ints w B u (ns r)) (n4 : ∀ u ∈ vs, ∀ b, u.ownBlock = some b → O b)
    (hk : Kept (fun b => vN.ownBlock = some b ∨ b = gm) w w') (hb : BoxM w' gm 43 F n v' vO) (hr : w'.ownsRow B 59 1 v' (rows.length + 1) (vs ++ [vr])) :
    ∃ O', DS B w' gm O' F n vS v' vO (.slice none 0 0) ts (rows ++ [row]) outs [] := by
  have hq : ∀ l, 59 ∉ l → 43 ∉ l → Oth w (fun b => vN.ownBlock = some b ∨ b = gm) l := fun l e e' => oth_or (oth_own n2 e) (oth_box h.box e')
  have hi : ∀ x y, Ints w B x y → Ints w' B x y := fun x y hx => own_oth hx hk (hq [3] (by decide) (by decide)) (by simp)
  have hrow := hi _ _ h.row
  refine ⟨fun b => O b ∨ vr.ownBlock = some b ∨ v'.ownBlock = some b, h.gB, hb, ⟨⟨vs ++ [vr], by simp [n1], by rw [List.length_append]; exact hr, fun i x y e1 e2 => ?_, fun x hx b e => ?_⟩, fun b e => .inr (.inr e)⟩, own_oth h.ots hk (hq [51] (by decide) (by decide)) (by simp), fun b e => ?_, h.sts.oth hk (hq _ (by decide) (by decide)), World.ownsRow_nil _ _ _ 1, fun b e => by cases e⟩
  · by_cases hi' : i < vs.length
    · rw [List.getElem?_append_left hi'] at e1
      rw [List.getElem?_append_left (by omega)] at e2
      exact hi _ _ (n3 i x y e1 e2)
    · have hi2 : i = vs.length := by
        have := (List.getElem?_eq_some_iff.1 e1).1
        simp at this
        omega
      subst hi2
      rw [List.getElem?_append_right (Nat.le_refl _), Nat.sub_self] at e1
      rw [n1, List.getElem?_append_right (Nat.le_refl _), Nat.sub_self] at e2
      simp at e1 e2
      subst e1 e2
      exact hrow
  · rw [List.mem_append, List.mem_singleton] at hx
    rcases hx with hx | rfl
    · exact .inl (n4 x hx b e)
    · exact .inr (.inl e)
  · rcases e with e | e | e
    · exact Nat.lt_of_lt_of_le (h.olt b e) hk.size
    · exact (World.ownsRow.lt hrow b e).2
    · exact (World.ownsRow.lt hr b e).2
/-- append of one more thing onto a row of one's own, at the list of a plain region's operations. -/
theorem wpList_one {e tl : TypeId} {size bytes : Nat} {z : Value} (hinfo : (Try.prog.info? e).map (fun i => (i.zero, i.size, i.bytes)) = some (some z, size, bytes)) (hund : Try.prog.underlying tl = some (.slice e)) (hzs : z.cells.size = size) (hsz : 0 < size) (hby : bytes ≤ 1000)
    {ops : Array Oper} {rest : List Oper} {o : Oper} {a : Act} {Q : Exit → Act → World → Prop} (hgd : o.guard = none) (s x : Operand) (ho : o.op = .call { callee := .builtin .append, args := #[s, x], argTypes := #[tl, tl] })
    {k g c : Nat} {vs : List Value} {cs : Array Value} (hs : a.eval s = v) (hr : w.ownsRow B e size v k vs) (hx : a.eval x = .slice (some ⟨g, 0, none⟩) 1 c) (hc : HasO w g (.cells cs e (0, 0))) (hcs : cs.size = size) (h1 : cs.all (·.oneCell') = true) (hn : k ≤ 100000) (hB : B ≤ w.heap.size)
    (hk : ∀ v' w', w'.ownsRow B e size v' (k + 1) (vs ++ cs.toList) → w.grownBy w' v.ownBlock → (v'.ownBlock = v.ownBlock ∨ v'.ownBlock = some w.heap.size) → wpList Try.prog ops Q rest (a.put o.dst v') w') : wpList Try.prog ops Q (o :: rest) a w := by
  obtain ⟨i0, hi, hz0, hz1, hz2⟩ := info_parts hinfo
  have hm : (k + 1) * bytes ≤ 100001 * 1000 := Nat.mul_le_mul (by omega) hby
  obtain ⟨v', w', hrun, h4, h5, _, h6⟩ := run_append_own_at (P := Try.prog) w B tl o.type e i0 z size bytes hund hi hz0 hz1 hz2 hzs hsz v k vs hr ⟨g, 0, none⟩ 1 c cs.toList (by simp [hcs]) (news_has hc) (by
    intro y hy
    exact (Array.all_eq_true_iff_forall_mem.1 h1) y (by simpa using hy)) (by unfold maxLen; omega) (by omega) hB
  refine wpList_plain hgd fun _ hK => ?_
  unfold Oper.wp execOp
  simp only [ho, resolve, invoke, builtin, Sem.run_bind, Sem.run_pure, Result.andThen_ok, List.map_toArray, List.map_cons, List.map_nil, hs, hx, hrun]
  exact hK _ _ (hk v' w' h4 h5 h6)
end
end Go.Proofs.Ytnkopcmkanibhaa

/-
  moore: rules' places together are rules that may be. Laws for other texts; no statement of its own.
-/
namespace Go.Proofs.Ytnkopcmkanibhaa
open Go Go.RowKit

/-- A rule's places that may be: not too many, none out of its rule. -/
structure OkLay (s : Lay) (x : Str) : Prop where
  sets : s.sets.length ≤ 256
  firstN : x.first.length ≤ 256
  first : ∀ p ∈ x.first, p < s.sets.length
  fol : ∀ q p, p ∈ s.follow.getD q [] → p < s.sets.length
  folN : ∀ q, (s.follow.getD q []).length ≤ 100000
theorem lay0_ok {t : T} (hwf : WF t) (h256 : plR t ≤ 256) : OkLay (lay0 t).1 (lay0 t).2 := by
  have hsz : (lay0 t).1.sets.length = plR t := by have := lay_size hwf ⟨[], []⟩; simpa [lay0] using this
  obtain ⟨hl, hg⟩ := lay0_good (xs := []) hwf
  have hfo : ∀ q p, p ∈ (lay0 t).1.follow.getD q [] → p < (lay0 t).1.sets.length := hl.lt
  refine ⟨by omega, ?_, fun p hp => (hg.first p hp).2, hfo, fun q => ?_⟩
  · have := rise_len _ 0 _ hg.sf hg.first
    omega
  · by_cases hq : q < (lay0 t).1.sets.length
    · have := rise_len _ 0 (lay0 t).1.sets.length (hg.st q (Nat.zero_le _) hq) fun p hp => ⟨Nat.zero_le _, hfo q p hp⟩
      omega
    · rw [List.getD_eq_getElem?_getD, List.getElem?_eq_none (by rw [hl.len]; omega)]
      simp
theorem plcsOf_mem {s : Lay} {x : Str} {base : Nat} {b : Bool} {p : Plc} : ∀ k, p ∈ plcsOf s x base b k → ∃ j, j < k ∧ p = plcOf s x base b j
  | 0, h => by simp [plcsOf] at h
  | k + 1, h => by
    rw [plcsOf, List.mem_append, List.mem_singleton] at h
    rcases h with h | h
    · obtain ⟨j, hj, e⟩ := plcsOf_mem k h
      exact ⟨j, by omega, e⟩
    · exact ⟨k, by omega, h⟩
theorem plcsOf_get {s : Lay} {x : Str} {base : Nat} {b : Bool} : ∀ (k j : Nat), j < k → (plcsOf s x base b k)[j]? = some (plcOf s x base b j)
  | 0, j, h => by omega
  | k + 1, j, h => by
    rw [plcsOf]
    by_cases hj : j < k
    · rw [List.getElem?_append_left (by rw [plcsOf_len]; exact hj)]
      exact plcsOf_get k j hj
    · have : j = k := by omega
      subst this
      rw [List.getElem?_append_right (by rw [plcsOf_len]; exact Nat.le_refl _), plcsOf_len, Nat.sub_self]
      rfl
theorem getD_ok {L : List (Lay × Str)} (hL : ∀ s x, (s, x) ∈ L → OkLay s x) {k : Nat} (hk : k < L.length) : OkLay (L.getD k lx0).1 (L.getD k lx0).2 := by
  have hm : L.getD k lx0 ∈ L := by rw [List.getD_eq_getElem?_getD, List.getElem?_eq_getElem hk]; exact List.getElem_mem _
  exact hL _ _ hm
theorem togP_mem {L : List (Lay × Str)} {bs : List Bool} (hL : ∀ s x, (s, x) ∈ L → OkLay s x) : ∀ k, k ≤ L.length → ∀ p ∈ togP L bs k, (∀ q ∈ p.fol, p.base + q < (togP L bs k).length) ∧ p.fol.length ≤ 100000 ∧ p.base ≤ k * 256
  | 0, _ => fun p h => by simp [togP] at h
  | k + 1, hk => fun p h => by
    have hlen := togP_len L bs 256 (fun s x h => (hL s x h).sets) k (by omega)
    have ho := getD_ok hL (k := k) (by omega)
    rw [togP, List.mem_append] at h
    rw [togP, List.length_append, plcsOf_len]
    have hm : k * 256 ≤ (k + 1) * 256 := Nat.mul_le_mul_right _ (Nat.le_succ _)
    rcases h with h | h
    · obtain ⟨h1, h2, h3⟩ := togP_mem hL k (by omega) p h
      exact ⟨fun q hq => Nat.lt_of_lt_of_le (h1 q hq) (Nat.le_add_right _ _), h2, Nat.le_trans h3 hm⟩
    · obtain ⟨j, hj, rfl⟩ := plcsOf_mem _ h
      refine ⟨fun q hq => ?_, ho.folN j, ?_⟩
      · have h4 := ho.fol j q hq
        exact Nat.add_lt_add_left h4 _
      · exact Nat.le_trans hlen hm
theorem togF_mem {L : List (Lay × Str)} {bs : List Bool} (hL : ∀ s x, (s, x) ∈ L → OkLay s x) : ∀ k, k ≤ L.length → ∀ p ∈ togF L bs k, p < (togP L bs k).length
  | 0, _ => fun p h => by simp [togF] at h
  | k + 1, hk => fun p h => by
    have ho := getD_ok hL (k := k) (by omega)
    rw [togF, List.mem_append, List.mem_map] at h
    rw [togP, List.length_append, plcsOf_len]
    rcases h with h | ⟨q, hq, rfl⟩
    · have := togF_mem hL k (by omega) p h
      omega
    · have := ho.first q hq
      omega
theorem tog_valid {L : List (Lay × Str)} {bs : List Bool} {lam : Nat} (hL : ∀ s x, (s, x) ∈ L → OkLay s x) (hn : L.length ≤ 64) (hlam : 1 ≤ lam ∧ lam ≤ 32) : Valid ⟨togP L bs L.length, togF L bs L.length, lam⟩ := by
  have hP := togP_len L bs 256 (fun s x h => (hL s x h).sets) L.length (Nat.le_refl _)
  have hF := togF_len L bs 256 (fun s x h => (hL s x h).firstN) L.length (Nat.le_refl _)
  have hm : L.length * 256 ≤ 64 * 256 := Nat.mul_le_mul_right _ hn
  refine ⟨hlam, by show (togP L bs L.length).length ≤ _; omega, togF_mem hL L.length (Nat.le_refl _), by show (togF L bs L.length).length ≤ _; omega, fun i p hp => ?_⟩
  obtain ⟨h1, h2, h3⟩ := togP_mem hL L.length (Nat.le_refl _) p (List.mem_of_getElem? hp)
  exact ⟨h1, h2, by omega⟩
end Go.Proofs.Ytnkopcmkanibhaa

/-
  The states of a machine as lists of places with lengths, and as lists of words under way: one canon of both. Mathematics for other texts; no statement of its own.
-/
namespace Go.Proofs.Ytnkopcmkanibhaa
open Go

def RR (L : List (Lay × Str)) (bs : List Bool) (lam : Nat) : RSt := ⟨togP L bs L.length, togF L bs L.length, lam⟩
def baseOf (L : List (Lay × Str)) (bs : List Bool) (k : Nat) : Nat := (togP L bs k).length
def szOf (L : List (Lay × Str)) (k : Nat) : Nat := (L.getD k lx0).1.sets.length
theorem base_succ (L : List (Lay × Str)) (bs : List Bool) (k : Nat) : baseOf L bs (k + 1) = baseOf L bs k + szOf L k := by
  unfold baseOf szOf
  rw [togP, List.length_append, plcsOf_len]
theorem base_mono (L : List (Lay × Str)) (bs : List Bool) {a b : Nat} (h : a ≤ b) : baseOf L bs a ≤ baseOf L bs b := by
  induction b with
  | zero => have : a = 0 := by omega
            subst this; exact Nat.le_refl _
  | succ b ih =>
    by_cases e : a = b + 1
    · subst e; exact Nat.le_refl _
    · have := ih (by omega)
      rw [base_succ]
      omega
/-- A place's number among all. -/
def gpl (L : List (Lay × Str)) (bs : List Bool) (r p : Nat) : Nat := baseOf L bs r + p
theorem gpl_lt {L : List (Lay × Str)} {bs : List Bool} {r p n : Nat} (hr : r < n) (hp : p < szOf L r) : gpl L bs r p < baseOf L bs n := by
  have h1 := base_mono L bs (a := r + 1) (b := n) hr
  rw [base_succ] at h1
  unfold gpl
  omega
theorem gpl_inj {L : List (Lay × Str)} {bs : List Bool} {r p r' p' : Nat} (hp : p < szOf L r) (hp' : p' < szOf L r') (h : gpl L bs r p = gpl L bs r' p') : r = r' ∧ p = p' := by
  rcases Nat.lt_trichotomy r r' with h1 | h1 | h1
  · have := gpl_lt (bs := bs) h1 hp
    unfold gpl at h this
    omega
  · subst h1
    unfold gpl at h
    exact ⟨rfl, by omega⟩
  · have := gpl_lt (bs := bs) h1 hp'
    unfold gpl at h this
    omega
theorem gpl_sur (L : List (Lay × Str)) (bs : List Bool) : ∀ n q, q < baseOf L bs n → ∃ r p, r < n ∧ p < szOf L r ∧ q = gpl L bs r p
  | 0, q, h => by simp [baseOf, togP] at h
  | n + 1, q, h => by
    by_cases e : q < baseOf L bs n
    · obtain ⟨r, p, h1, h2, h3⟩ := gpl_sur L bs n q e
      exact ⟨r, p, by omega, h2, h3⟩
    · rw [base_succ] at h
      exact ⟨n, q - baseOf L bs n, by omega, by omega, by unfold gpl; omega⟩
theorem togP_get {L : List (Lay × Str)} {bs : List Bool} : ∀ (n r p : Nat), r < n → p < szOf L r → (togP L bs n)[gpl L bs r p]? = some (plcOf (L.getD r lx0).1 (L.getD r lx0).2 (baseOf L bs r) (bs.getD r false) p)
  | 0, r, p, h, hp => by omega
  | n + 1, r, p, h, hp => by
    rw [togP]
    by_cases e : r < n
    · rw [List.getElem?_append_left (gpl_lt e hp)]
      exact togP_get n r p e hp
    · have : r = n := by omega
      subst this
      rw [List.getElem?_append_right (show (togP L bs r).length ≤ gpl L bs r p from Nat.le_add_right _ _)]
      have e2 : gpl L bs r p - (togP L bs r).length = p := by unfold gpl baseOf; omega
      rw [e2]
      exact plcsOf_get _ _ hp
theorem getD_some {L : List (Lay × Str)} {r : Nat} {s : Lay} {t : Str} (h : L[r]? = some (s, t)) : L.getD r lx0 = (s, t) := by rw [List.getD_eq_getElem?_getD, h]; rfl
theorem some_getD {L : List (Lay × Str)} {r : Nat} (h : r < L.length) : L[r]? = some ((L.getD r lx0).1, (L.getD r lx0).2) := by rw [List.getD_eq_getElem?_getD, List.getElem?_eq_getElem h]; rfl
theorem togF_iff {L : List (Lay × Str)} {bs : List Bool} {q : Nat} : ∀ n, q ∈ togF L bs n ↔ ∃ r p, r < n ∧ p ∈ (L.getD r lx0).2.first ∧ q = gpl L bs r p
  | 0 => by simp [togF]
  | n + 1 => by
    rw [togF, List.mem_append, togF_iff n, List.mem_map]
    constructor
    · rintro (⟨r, p, h1, h2, h3⟩ | ⟨p, h1, h2⟩)
      · exact ⟨r, p, by omega, h2, h3⟩
      · exact ⟨n, p, by omega, h1, h2.symm⟩
    · rintro ⟨r, p, h1, h2, h3⟩
      by_cases e : r < n
      · exact .inl ⟨r, p, e, h2, h3⟩
      · have : r = n := by omega
        subst this
        exact .inr ⟨p, h2, h3.symm⟩
/-- The lengths of a state's words at a place. -/
def bitsOf (L : List (Lay × Str)) (bs : List Bool) : List Wd → Nat → Nat
  | [], _ => 0
  | x :: s, q => if gpl L bs x.rule x.place = q then bitsOf L bs s q ||| 2 ^ x.age else bitsOf L bs s q
theorem bits_iff (L : List (Lay × Str)) (bs : List Bool) (q a : Nat) : ∀ s : List Wd, (bitsOf L bs s q).testBit a = true ↔ ∃ x ∈ s, gpl L bs x.rule x.place = q ∧ x.age = a
  | [] => by simp [bitsOf]
  | x :: s => by
    have ih := bits_iff L bs q a s
    unfold bitsOf
    by_cases e : gpl L bs x.rule x.place = q
    · rw [if_pos e, Nat.testBit_or, Bool.or_eq_true, ih, Nat.testBit_two_pow, decide_eq_true_iff]
      constructor
      · rintro (⟨y, hy, h⟩ | h)
        · exact ⟨y, List.mem_cons_of_mem _ hy, h⟩
        · exact ⟨x, List.mem_cons_self, e, h⟩
      · rintro ⟨y, hy, h1, h2⟩
        rcases List.mem_cons.1 hy with rfl | hy
        · exact .inr h2
        · exact .inl ⟨y, hy, h1, h2⟩
    · rw [if_neg e, ih]
      constructor
      · rintro ⟨y, hy, h⟩
        exact ⟨y, List.mem_cons_of_mem _ hy, h⟩
      · rintro ⟨y, hy, h1, h2⟩
        rcases List.mem_cons.1 hy with rfl | hy
        · exact absurd h1 e
        · exact ⟨y, hy, h1, h2⟩
theorem eq_of_bits {m n : Nat} (h : ∀ a, m.testBit a = true ↔ n.testBit a = true) : m = n := Nat.eq_of_testBit_eq fun a => by
  have := h a
  cases h1 : m.testBit a <;> cases h2 : n.testBit a <;> simp_all
theorem ne_zero_bit {n : Nat} (h : n ≠ 0) : ∃ a, n.testBit a = true := by
  apply Classical.byContradiction
  intro hc
  apply h
  apply eq_of_bits
  intro a
  simp
  cases e : n.testBit a
  · rfl
  · exact absurd ⟨a, e⟩ hc
theorem bit_ne_zero {n a : Nat} (h : n.testBit a = true) : n ≠ 0 := by rintro rfl; simp at h
/-- What is picked. -/
theorem picked_iff (M : List Nat) (k : Nat) (x : Nat × Nat) : x ∈ picked M k ↔ x.1 < k ∧ x.2 = M.getD x.1 0 ∧ x.2 ≠ 0 := by
  unfold picked
  rw [List.mem_filterMap]
  constructor
  · rintro ⟨p, hp, h⟩
    have hp' := List.mem_range.1 hp
    by_cases e : M.getD p 0 = 0
    · rw [if_pos e] at h; cases h
    · rw [if_neg e] at h
      injection h with h
      subst h
      exact ⟨hp', rfl, e⟩
  · rintro ⟨h1, h2, h3⟩
    refine ⟨x.1, List.mem_range.2 h1, ?_⟩
    rw [if_neg (by rw [← h2]; exact h3), ← h2]
theorem picked_eq {M M' : List Nat} : ∀ {k : Nat} (h : ∀ p, p < k → M.getD p 0 = M'.getD p 0), picked M k = picked M' k
  | 0, h => rfl
  | k + 1, h => by rw [picked_succ, picked_succ, picked_eq fun p hp => h p (by omega), h k (by omega)]
theorem picked_inj {M M' : List Nat} {k : Nat} (h : picked M k = picked M' k) : ∀ p, p < k → M.getD p 0 = M'.getD p 0 := fun p hp => by
  by_cases e : M.getD p 0 = 0
  · by_cases e' : M'.getD p 0 = 0
    · rw [e, e']
    · have h1 : ((p, M'.getD p 0) : Nat × Nat) ∈ picked M' k := (picked_iff M' k _).2 ⟨hp, rfl, e'⟩
      rw [← h] at h1
      exact ((picked_iff M k _).1 h1).2.1.symm
  · have h1 : ((p, M.getD p 0) : Nat × Nat) ∈ picked M k := (picked_iff M k _).2 ⟨hp, rfl, e⟩
    rw [h] at h1
    exact ((picked_iff M' k _).1 h1).2.1
theorem picked_filter (M : List Nat) (f : Nat × Nat → Bool) (g : Nat → Bool) (hf : ∀ p n, f (p, n) = g p) : ∀ k, (picked M k).filter f = picked ((List.range k).map fun p => if g p = true then M.getD p 0 else 0) k := fun k => by
  have key : ∀ j, j ≤ k → (picked M j).filter f = picked ((List.range k).map fun p => if g p = true then M.getD p 0 else 0) j := by
    intro j
    induction j with
    | zero => intro _; rfl
    | succ j ih =>
      intro hj
      rw [picked_succ, picked_succ, List.filter_append, ih (by omega)]
      have e : ((List.range k).map fun p => if g p = true then M.getD p 0 else 0).getD j 0 = if g j = true then M.getD j 0 else 0 := by
        rw [List.getD_eq_getElem?_getD, List.getElem?_map, List.getElem?_range (by omega)]
        rfl
      rw [e]
      congr 1
      obtain ⟨v, hv⟩ : ∃ v, M.getD j 0 = v := ⟨_, rfl⟩
      have hfj := hf j v
      rw [hv]
      by_cases h0 : v = 0
      · subst h0
        cases g j <;> simp
      · rw [if_neg h0]
        cases hg : g j
        · rw [hg] at hfj
          simp [hfj]
        · rw [hg] at hfj
          rw [if_pos rfl, if_neg h0, List.filter_cons_of_pos hfj]
          rfl
  exact key k (Nat.le_refl _)
end Go.Proofs.Ytnkopcmkanibhaa

/-
  What is ahead of a state, length by length; the words of a step; both have one canon. Mathematics for other texts; no statement of its own.
-/
namespace Go.Proofs.Ytnkopcmkanibhaa
open Go

theorem getD_setC (M : List Nat) (i v p : Nat) : (M.set i v).getD p 0 = if i = p ∧ i < M.length then v else M.getD p 0 := by
  rw [List.getD_eq_getElem?_getD, List.getD_eq_getElem?_getD, List.getElem?_set]
  by_cases e : i = p
  · subst e
    by_cases h : i < M.length
    · simp [h]
    · simp [h, List.getElem?_eq_none (Nat.le_of_not_lt h)]
  · simp [e]
theorem aheadF_at : ∀ (ps M : List Nat) (p : Nat), (aheadF M ps).getD p 0 = if p ∈ ps ∧ p < M.length then 2 else M.getD p 0
  | [], M, p => by simp [aheadF]
  | q :: ps, M, p => by
    rw [aheadF, aheadF_at ps, getD_setC, List.length_set]
    by_cases h1 : p ∈ ps ∧ p < M.length
    · rw [if_pos h1, if_pos ⟨List.mem_cons_of_mem _ h1.1, h1.2⟩]
    · rw [if_neg h1]
      by_cases h2 : q = p ∧ q < M.length
      · obtain ⟨rfl, h3⟩ := h2
        rw [if_pos ⟨rfl, h3⟩, if_pos ⟨List.mem_cons_self, h3⟩]
      · rw [if_neg h2, if_neg]
        rintro ⟨h3, h4⟩
        rcases List.mem_cons.1 h3 with rfl | h3
        · exact h2 ⟨rfl, h4⟩
        · exact h1 ⟨h3, h4⟩
theorem addAll_bit (base n p a : Nat) : ∀ (qs M : List Nat), ((mAddAll M base n qs).getD p 0).testBit a = true ↔ (M.getD p 0).testBit a = true ∨ (p < M.length ∧ (∃ q ∈ qs, base + q = p) ∧ n.testBit a = true)
  | [], M => by simp [mAddAll]
  | q :: qs, M => by
    rw [mAddAll, addAll_bit base n p a qs, addTo_len]
    unfold addTo
    rw [getD_setC]
    by_cases h : base + q = p ∧ base + q < M.length
    · rw [if_pos h]
      obtain ⟨rfl, h2⟩ := h
      rw [Nat.testBit_or, Bool.or_eq_true]
      constructor
      · rintro ((h | h) | ⟨h1, ⟨q', h3, h4⟩, h5⟩)
        · exact .inl h
        · exact .inr ⟨h2, ⟨q, List.mem_cons_self, rfl⟩, h⟩
        · exact .inr ⟨h1, ⟨q', List.mem_cons_of_mem _ h3, h4⟩, h5⟩
      · rintro (h | ⟨h1, h3, h5⟩)
        · exact .inl (.inl h)
        · exact .inl (.inr h5)
    · rw [if_neg h]
      constructor
      · rintro (h | ⟨h1, ⟨q', h3, h4⟩, h5⟩)
        · exact .inl h
        · exact .inr ⟨h1, ⟨q', List.mem_cons_of_mem _ h3, h4⟩, h5⟩
      · rintro (h' | ⟨h1, ⟨q', h3, h4⟩, h5⟩)
        · exact .inl h'
        · rcases List.mem_cons.1 h3 with rfl | h3
          · exact absurd ⟨h4, h4 ▸ h1⟩ h
          · exact .inr ⟨h1, ⟨q', h3, h4⟩, h5⟩
theorem aheadS_bit (R : RSt) (p a : Nat) : ∀ (st : List (Nat × Nat)) (M : List Nat), ((aheadS R M st).getD p 0).testBit a = true ↔ (M.getD p 0).testBit a = true ∨ (p < M.length ∧ ∃ x ∈ st, ∃ pl, R.places[x.1]? = some pl ∧ (∃ q ∈ pl.fol, pl.base + q = p) ∧ (lon R.lam x.2).testBit a = true)
  | [], M => by simp [aheadS]
  | x :: st, M => by
    rw [aheadS, aheadS_bit R p a st]
    cases e : R.places[x.1]? with
    | none =>
      simp only
      constructor
      · rintro (h | ⟨h1, y, hy, h⟩)
        · exact .inl h
        · exact .inr ⟨h1, y, List.mem_cons_of_mem _ hy, h⟩
      · rintro (h | ⟨h1, y, hy, pl, h2, h3⟩)
        · exact .inl h
        · rcases List.mem_cons.1 hy with rfl | hy
          · rw [e] at h2; cases h2
          · exact .inr ⟨h1, y, hy, pl, h2, h3⟩
    | some pl =>
      simp only
      rw [mAddAll_len, addAll_bit]
      constructor
      · rintro ((h | ⟨h1, h2, h3⟩) | ⟨h1, y, hy, h⟩)
        · exact .inl h
        · exact .inr ⟨h1, x, List.mem_cons_self, pl, e, h2, h3⟩
        · exact .inr ⟨h1, y, List.mem_cons_of_mem _ hy, h⟩
      · rintro (h | ⟨h1, y, hy, pl', h2, h3⟩)
        · exact .inl (.inl h)
        · rcases List.mem_cons.1 hy with rfl | hy
          · rw [e] at h2
            injection h2 with h2
            subst h2
            exact .inl (.inr ⟨h1, h3⟩)
          · exact .inr ⟨h1, y, hy, pl', h2, h3⟩
theorem lon_bit (lam x a : Nat) : (lon lam x).testBit a = true ↔ 1 ≤ a ∧ a - 1 < lam ∧ x.testBit (a - 1) = true := by
  unfold lon
  cases a with
  | zero => simp
  | succ a =>
    have e : (x % 2 ^ lam * 2).testBit (a + 1) = (x % 2 ^ lam).testBit a := by
      rw [Nat.testBit_succ]
      congr 1
      omega
    rw [e, Nat.testBit_mod_two_pow]
    simp
/-- What is ahead at a place. -/
theorem ahead_bit (R : RSt) (st : List (Nat × Nat)) (hV : ∀ p ∈ R.first, p < R.places.length) (p a : Nat) (hp : p < R.places.length) : ((aheadN R st).getD p 0).testBit a = true ↔ (p ∈ R.first ∧ a = 1) ∨ ∃ x ∈ st, ∃ pl, R.places[x.1]? = some pl ∧ (∃ q ∈ pl.fol, pl.base + q = p) ∧ 1 ≤ a ∧ a - 1 < R.lam ∧ x.2.testBit (a - 1) = true := by
  unfold aheadN
  rw [aheadS_bit, aheadF_len, List.length_replicate, aheadF_at, List.length_replicate]
  have h0 : (List.replicate R.places.length 0).getD p 0 = 0 := by
    rw [List.getD_eq_getElem?_getD, List.getElem?_replicate]
    split <;> rfl
  rw [h0]
  have h2 : ((if p ∈ R.first ∧ p < R.places.length then 2 else 0 : Nat).testBit a = true) ↔ (p ∈ R.first ∧ a = 1) := by
    by_cases h : p ∈ R.first
    · rw [if_pos ⟨h, hp⟩, show (2 : Nat) = 2 ^ 1 from rfl, Nat.testBit_two_pow, decide_eq_true_iff]
      exact ⟨fun e => ⟨h, e.symm⟩, fun e => e.2.symm⟩
    · rw [if_neg fun e => h e.1]
      simp [h]
  rw [h2]
  constructor
  · rintro (h | ⟨_, x, hx, pl, h3, h4, h5⟩)
    · exact .inl h
    · exact .inr ⟨x, hx, pl, h3, h4, (lon_bit _ _ _).1 h5⟩
  · rintro (h | ⟨x, hx, pl, h3, h4, h5⟩)
    · exact .inl h
    · exact .inr ⟨hp, x, hx, pl, h3, h4, (lon_bit _ _ _).2 h5⟩

/-- The words of a step. -/
theorem folOne_iff (s : Lay) (b : Nat) (x y : Wd) : ∀ (l : List Nat) (o : List Wd), y ∈ folOne s b x l o ↔ y ∈ o ∨ ∃ q ∈ l, s.sets.getD q noneP b = true ∧ y = ⟨x.rule, q, x.age + 1⟩
  | [], o => by simp [folOne]
  | q :: l, o => by
    rw [folOne, folOne_iff s b x y l]
    unfold folPut
    by_cases h : s.sets.getD q noneP b = true ∧ ¬ (⟨x.rule, q, x.age + 1⟩ : Wd) ∈ o
    · rw [if_pos h, List.mem_append, List.mem_singleton]
      constructor
      · rintro ((h1 | h1) | ⟨q', h2, h3⟩)
        · exact .inl h1
        · exact .inr ⟨q, List.mem_cons_self, h.1, h1⟩
        · exact .inr ⟨q', List.mem_cons_of_mem _ h2, h3⟩
      · rintro (h1 | ⟨q', h2, h3, h4⟩)
        · exact .inl (.inl h1)
        · rcases List.mem_cons.1 h2 with rfl | h2
          · exact .inl (.inr h4)
          · exact .inr ⟨q', h2, h3, h4⟩
    · rw [if_neg h]
      constructor
      · rintro (h1 | ⟨q', h2, h3⟩)
        · exact .inl h1
        · exact .inr ⟨q', List.mem_cons_of_mem _ h2, h3⟩
      · rintro (h1 | ⟨q', h2, h3, h4⟩)
        · exact .inl h1
        · rcases List.mem_cons.1 h2 with rfl | h2
          · refine .inl ?_
            apply Classical.byContradiction
            intro hn
            exact h ⟨h3, by rw [← h4]; exact hn⟩
          · exact .inr ⟨q', h2, h3, h4⟩
theorem stepOne_iff (L : List (Lay × Str)) (lam b : Nat) (x y : Wd) (o : List Wd) : y ∈ stepOne L lam b x o ↔ y ∈ o ∨ (x.rule < L.length ∧ x.age < lam ∧ ∃ q ∈ (L.getD x.rule lx0).1.follow.getD x.place [], (L.getD x.rule lx0).1.sets.getD q noneP b = true ∧ y = ⟨x.rule, q, x.age + 1⟩) := by
  unfold stepOne
  by_cases hr : x.rule < L.length
  · rw [some_getD hr]
    simp only
    by_cases ha : x.age < lam
    · rw [if_pos ha, folOne_iff]
      simp [hr, ha]
    · rw [if_neg ha]
      simp [ha]
  · rw [List.getElem?_eq_none (by omega)]
    simp [hr]
theorem stepW_iff (L : List (Lay × Str)) (lam b : Nat) (y : Wd) : ∀ (st o : List Wd), y ∈ stepW L lam b st o ↔ y ∈ o ∨ ∃ x ∈ st, x.rule < L.length ∧ x.age < lam ∧ ∃ q ∈ (L.getD x.rule lx0).1.follow.getD x.place [], (L.getD x.rule lx0).1.sets.getD q noneP b = true ∧ y = ⟨x.rule, q, x.age + 1⟩
  | [], o => by simp [stepW]
  | x :: st, o => by
    rw [stepW, stepW_iff L lam b y st, stepOne_iff]
    constructor
    · rintro ((h | h) | ⟨z, hz, h⟩)
      · exact .inl h
      · exact .inr ⟨x, List.mem_cons_self, h⟩
      · exact .inr ⟨z, List.mem_cons_of_mem _ hz, h⟩
    · rintro (h | ⟨z, hz, h⟩)
      · exact .inl (.inl h)
      · rcases List.mem_cons.1 hz with rfl | hz
        · exact .inl (.inr h)
        · exact .inr ⟨z, hz, h⟩
theorem fst_iff (L : List (Lay × Str)) (b : Nat) (y : Wd) : ∀ k, k ≤ L.length → (y ∈ fstN L b k ↔ y.rule < k ∧ y.age = 1 ∧ y.place ∈ (L.getD y.rule lx0).2.first ∧ (L.getD y.rule lx0).1.sets.getD y.place noneP b = true)
  | 0, h => by simp [fstN]
  | k + 1, h => by
    rw [fstN, List.mem_append, fst_iff L b y k (by omega), some_getD (r := k) (by omega)]
    simp only
    unfold fstOne
    rw [List.mem_map]
    constructor
    · rintro (⟨h1, h2⟩ | ⟨p, hp, rfl⟩)
      · exact ⟨by omega, h2⟩
      · rw [List.mem_filter] at hp
        exact ⟨by simp, rfl, hp.1, hp.2⟩
    · rintro ⟨h1, h2, h3, h4⟩
      by_cases e : y.rule < k
      · exact .inl ⟨e, h2, h3, h4⟩
      · have e' : y.rule = k := by omega
        refine .inr ⟨y.place, List.mem_filter.2 ⟨by rw [← e']; exact h3, by rw [← e']; exact h4⟩, ?_⟩
        cases y
        simp at e' h2
        simp [e', h2]
/-- A step of a state of the document's. -/
def stepD (L : List (Lay × Str)) (lam b : Nat) (s : List Wd) : List Wd := stepW L lam b s (fstN L b L.length)
theorem stepD_iff (L : List (Lay × Str)) (lam b : Nat) (s : List Wd) (y : Wd) : y ∈ stepD L lam b s ↔ y.rule < L.length ∧ (L.getD y.rule lx0).1.sets.getD y.place noneP b = true ∧ ((y.age = 1 ∧ y.place ∈ (L.getD y.rule lx0).2.first) ∨ ∃ x ∈ s, x.rule = y.rule ∧ x.age < lam ∧ y.age = x.age + 1 ∧ y.place ∈ (L.getD y.rule lx0).1.follow.getD x.place []) := by
  unfold stepD
  rw [stepW_iff, fst_iff L b y _ (Nat.le_refl _)]
  constructor
  · rintro (⟨h1, h2, h3, h4⟩ | ⟨x, hx, h1, h2, q, h3, h4, rfl⟩)
    · exact ⟨h1, h4, .inl ⟨h2, h3⟩⟩
    · exact ⟨h1, h4, .inr ⟨x, hx, rfl, h2, rfl, h3⟩⟩
  · rintro ⟨h1, h2, (⟨h3, h4⟩ | ⟨x, hx, h3, h4, h5, h6⟩)⟩
    · exact .inl ⟨h1, h3, h4, h2⟩
    · refine .inr ⟨x, hx, by omega, h4, y.place, by rw [h3]; exact h6, by rw [h3]; exact h2, ?_⟩
      cases y
      simp at h3 h5
      simp [h3, h5]
end Go.Proofs.Ytnkopcmkanibhaa
