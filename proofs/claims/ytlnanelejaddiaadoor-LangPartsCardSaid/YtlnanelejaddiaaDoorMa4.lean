/-
  Several texts of this proof in one file: All, Pl2, Kids, RxAll, LangMath, Places. No statement of its own.
-/
import Derived.Test.YtlnanelejaddiaaDoorMa3
import Derived.RangeFuncNested
import Derived.RangeFuncBound
import Derived.RangeFuncCalls
import Derived.RangeFuncLeaves
import Derived.Shelf.Abstract
import Derived.Shelf.RegionOpen
import Derived.WalkKit
import Derived.OwnWalkIn
import Derived.TacticsInMore
import Derived.LoopNIn
import Derived.LoopIn
import Derived.Sort.LoopGhostIn
import Derived.Deep.QuietTactic
import Derived.BigQuiet
import Derived.Lib.BufferMore
import Derived.Test.YtlnanelejaddiaaDoorMa1
import Derived.Deep.LoopGhost
set_option linter.unusedVariables false
set_option linter.unusedSimpArgs false

/-
  lang.places.all: the iterator's contract. Contracts for other texts; no statement of its own.
-/
namespace Go.Proofs.YtlnanelejaddiaaDoor
open Go Go.RowKit Go.Shelf
attribute [local go_sem] Oper.semAt_some

/-- A place of q, of so many. -/
abbrev UpAt (q : Nat → Bool) (M : Nat) := { x : Nat // x < M ∧ q x = true }
theorem upP_length (q : Nat → Bool) (m : Nat) : (upP q m).length ≤ m := by
  unfold upP
  exact Nat.le_trans (List.length_filter_le _ _) (by simp)
/-- What a round must keep: the words that are gone through, and the table. -/
def KpW (g : Nat) (W W' : World) : Prop := W.heap.size ≤ W'.heap.size ∧ W'.heap[g]? = W.heap[g]? ∧ W'.heap[0]? = W.heap[0]?
theorem KpW.refl (g : Nat) (W : World) : KpW g W W := ⟨Nat.le_refl _, rfl, rfl⟩
theorem KpW.trans {g : Nat} {A B C : World} (h : KpW g A B) (k : KpW g B C) : KpW g A C := ⟨Nat.le_trans h.1 k.1, k.2.1.trans h.2.1, k.2.2.trans h.2.2⟩
theorem KpW.tab {g : Nat} {W W' : World} (h : KpW g W W') (ht : Tab W) : Tab W' := ⟨Nat.lt_of_lt_of_le ht.1 h.1, fun k hk => (World.cell?_of_block (w := W) (a := ⟨0, k, none⟩) h.2.2).trans (ht.2 k hk)⟩
theorem KpW.cell {g i : Nat} {W W' : World} (h : KpW g W W') : W'.cell? ⟨g, i, none⟩ = W.cell? ⟨g, i, none⟩ := World.cell?_of_block (w := W) (a := ⟨g, i, none⟩) h.2.1
theorem kpw_b {w : World} {g : Nat} (hg : g < w.heap.size) (ht : 0 < w.heap.size) (W : World) (l : Nat) (o o' : Obj) (hl : w.heap.size ≤ l) (h : W.heap[l]? = some o) (_ : o.isCells = false) (_ : o.isWalk = false) : KpW g W (W.putObj l o') :=
  ⟨by simp [World.putObj], World.putObj_heap_other (by omega), World.putObj_heap_other (by omega)⟩

set_option maxRecDepth 20000 in
set_option maxHeartbeats 1000000 in
theorem all1_in (n : Nat) (hn : 1 ≤ n) (l Bn g m c : Nat) (q : Nat → Bool) (hm : m ≤ 1000000) (J Jx : List (UpAt q (64 * m)) → World → Prop)
    (hY : ∀ pre x W, J pre W → pre.length < 64 * m + 1 → YieldAt Fence.wide (n - 1) Tryd.prog l #[.int .i64 (x.1 : Int)] W fun e W' =>
      (e = .returned (.bool true) ∧ J (pre ++ [x]) W' ∧ KpW g W W') ∨ (e = .returned (.bool false) ∧ Jx (pre ++ [x]) W'))
    (W : World) (hBn : W.cell? ⟨Bn, 0, none⟩ = some (.slice (some ⟨g, 0, none⟩) m c)) (hc : ∀ i, i < m → W.cell? ⟨g, i, none⟩ = some (.int .u64 (word q i))) (ht : Tab W) (h0 : J [] W) :
    CallsIn Fence.wide n Tryd.prog 58 #[.func (.yield l) #[] #[], .pointer (some ⟨Bn, 0, none⟩)] W fun e W' => (∃ v, e = .returned v) ∧
      ((∃ ys, ys.map (·.1) = upP q (64 * m) ∧ J ys W') ∨ (∃ pre, True ∧ Jx pre W')) := by
  refine callsIn_of_wp Tryd.func58 rfl trivial ?_ rfl
  simp only [Tryd.ntmps58, List.size_toArray, List.length_cons, List.length_nil, Nat.reduceAdd, Nat.reduceSub, Array.replicate_succ, Array.replicate_zero, List.push_toArray, List.append_toArray, List.nil_append, List.cons_append]
  have HC := Lib.hid hc
  have HY := Lib.hid hY
  clear hc hY
  gi_wp2
  gi_loopg [7] m (fun m' i wr => ∃ (k : Nat) (pre : List (UpAt q (64 * m))), i = .int .i64 (k : Int) ∧ k ≤ m ∧ m' = m - k ∧ pre.map (·.1) = upP q (64 * k) ∧ KpW g W wr ∧ J pre wr)
  case atStart => exact ⟨0, [], rfl, Nat.zero_le _, rfl, rfl, KpW.refl _ _, h0⟩
  case round =>
    obtain ⟨k, pre, rfl, hk, hmk, hpre, hkp, hJ⟩ := hrel
    have HMK := Lib.hid hmk
    have HPRE := Lib.hid hpre
    have HKP := Lib.hid hkp
    have HJ := Lib.hid hJ
    clear hmk hpre hkp hJ
    by_cases hlt : k < m
    · have hcx := HKP.out.cell.trans (HC.out k hlt)
      gi_wp2
      gi_loopg [4] 65 (fun m' x wr2 => ∃ (p : Nat) (pre : List (UpAt q (64 * m))), x = .int .u64 (fromP q k p : Int) ∧ p ≤ 64 ∧ m' = 65 - p ∧ pre.map (·.1) = upP q (64 * k + p) ∧ KpW g W wr2 ∧ J pre wr2)
      case atStart =>
        refine ⟨0, pre, ?_, by omega, rfl, HPRE.out, HKP.out, HJ.out⟩
        rw [fromP_start]
        rfl
      case round =>
        obtain ⟨p, pre2, rfl, hp, hmp, hpre2, hkp2, hJ2⟩ := hrel
        have HMP := Lib.hid hmp
        have HPRE2 := Lib.hid hpre2
        have HKP2 := Lib.hid hkp2
        have HTAB := Lib.hid (hkp2.tab ht)
        clear hmp hpre2 hkp2
        by_cases hx : fromP q k p = 0
        · have hxi : ((fromP q k p : Nat) : Int) = 0 := by omega
          have HX := Lib.hid (fun _ : Unit => hx)
          clear hx
          gi_wp2
          gi_roundg (m - (k + 1))
          case measure => have := HMK.out; omega
          case rel =>
            have h64 : upP q (64 * k + 64) = upP q (64 * k + p) := by
              have := upP_skip (q := q) (a := 64 * k + p) (64 - p) fun j h1 h2 => by
                have := fromP_none (HX.out ()) (j - 64 * k) (by omega) (by omega)
                rwa [show 64 * k + (j - 64 * k) = j by omega] at this
              rwa [show 64 * k + p + (64 - p) = 64 * k + 64 by omega] at this
            exact ⟨k + 1, pre2, by go_num, by omega, rfl, by rw [show 64 * (k + 1) = 64 * k + 64 by omega, h64]; exact HPRE2.out, HKP2.out, hJ2⟩
        · obtain ⟨j, hj1, hj2, hj3, hj4, hj5, hj6⟩ := fromP_next hx
          have hxl := fromP_lt q k p
          have e1 : IntKind.u64.wrap (((fromP q k p : Nat) : Int) - 1) = ((fromP q k p - 1 : Nat) : Int) := by
            rw [IntKind.wrap_u64]; omega
          have e2 : bits .and .u64 ((fromP q k p : Nat) : Int) ((fromP q k p - 1 : Nat) : Int) = ((fromP q k (j + 1) : Nat) : Int) := by
            rw [bits_and_u64_nat _ _ hxl (by omega), hj5]
          have hxi : ¬ ((fromP q k p : Nat) : Int) = 0 := by omega
          have hlen : pre2.length < 64 * m + 1 := by
            have h1 := congrArg List.length HPRE2.out
            have h2 := upP_length q (64 * k + p)
            rw [List.length_map] at h1
            omega
          obtain ⟨xx, hxx⟩ : ∃ xx : UpAt q (64 * m), xx.1 = 64 * k + j := ⟨⟨64 * k + j, by omega, hj3⟩, rfl⟩
          obtain ⟨fn, tmps, assign, body, hy, hR⟩ := HY.out pre2 xx wr hJ2 hlen
          rw [hxx] at hy
          push_cast at hy
          have HXX := Lib.hid hxx
          have HTZ := Lib.hid (fun N => (callsIn_wide (n := N)).2 (tz_p wr (fromP q k p) j hxl hj2 hj6 HTAB.out))
          have HJ3 := Lib.hid hj3
          have HJ4 := Lib.hid hj4
          generalize hgx : fromP q k p = x at *
          generalize hgy : fromP q k (j + 1) = y at *
          have HGX := Lib.hid (fun _ : Unit => hgx)
          have HGY := Lib.hid (fun _ : Unit => hgy)
          have HR := Lib.hid hR
          have HXL := Lib.hid hxl
          have HJ1 := Lib.hid hj1
          clear hgx hgy hj3 hj4 hj5 hj6 hJ2 hx HTAB hxx hR hxl hj1 hlen
          gi_wp2_with (refine ⟨trivial, ?_⟩; gi_at_call 59; refine (HTZ.out _).mono ?_; rintro e w1 ⟨rfl, rfl⟩)
          refine HR.out.mono ?_
          have hup : (pre2 ++ [xx]).map (·.1) = upP q (64 * k + (j + 1)) := by
            rw [List.map_append, HPRE2.out, show 64 * k + (j + 1) = 64 * k + j + 1 by omega, upP_hit HJ3.out]
            have := upP_skip (q := q) (a := 64 * k + p) (j - p) fun i h1 h2 => by
              have := HJ4.out (i - 64 * k) (by omega) (by omega)
              rwa [show 64 * k + (i - 64 * k) = i by omega] at this
            rw [show 64 * k + p + (j - p) = 64 * k + j by have := HJ1.out; omega] at this
            rw [this]
            simp [HXX.out]
          have HUP := Lib.hid hup
          clear hup
          rintro e W3 (⟨rfl, hJ3, hk3⟩ | ⟨rfl, hJx3⟩)
          · have HJ3' := Lib.hid hJ3
            have HK3 := Lib.hid hk3
            clear hJ3 hk3
            gi_wp2
            gi_roundg (65 - (j + 1))
            case measure => have := HMP.out; have := HJ1.out; omega
            case rel =>
              have hy' := HGY.out ()
              exact ⟨j + 1, pre2 ++ [xx], by rw [hy'], by omega, rfl, HUP.out, HKP2.out.trans HK3.out, HJ3'.out⟩
          · have HJX3 := Lib.hid hJx3
            clear hJx3
            gi_wp2
            refine bodyPost_ret (results_none rfl _ _ _) rfl ?_
            exact ⟨⟨_, rfl⟩, .inr ⟨_, trivial, HJX3.out⟩⟩
    · have hkm : k = m := by omega
      have HKM := Lib.hid hkm
      clear hkm
      gi_wp2
      go_end0
      exact ⟨⟨_, rfl⟩, .inl ⟨pre, by rw [HPRE.out, HKM.out], HJ.out⟩⟩

set_option maxHeartbeats 1000000 in
theorem all_in (n : Nat) (a : Option Addr) (len cap : Nat) (w : World) :
    CallsIn Fence.wide n Tryd.prog 51 #[.slice a len cap] w fun e w' => e = .returned (.func (.func 58) #[] #[.pointer (some ⟨w.heap.size, 0, none⟩)]) ∧ w' = w.alloc (.cells #[.slice a len cap] 60) := by
  refine callsIn_of_wp Tryd.func51 rfl trivial ?_ rfl
  simp only [Tryd.ntmps51, List.size_toArray, List.length_cons, List.length_nil, Nat.reduceAdd, Nat.reduceSub, Array.replicate_succ, Array.replicate_zero, List.push_toArray, List.append_toArray, List.nil_append, List.cons_append]
  gi_wp2
  go_ret
  exact ⟨rfl, rfl⟩

/-- What all hands back gives the places, rising. -/
theorem all_stops (n : Nat) (hn : 1 ≤ n) (Bn g m c C : Nat) (q : Nat → Bool) (hm : m ≤ 1000000) (w : World) (hBn : Bn < w.heap.size) (hcb : w.cell? ⟨Bn, 0, none⟩ = some (.slice (some ⟨g, 0, none⟩) m c)) (hp : Pl w C (.slice (some ⟨g, 0, none⟩) m c) m q) (hg : g < w.heap.size) (ht : Tab w) :
    SeqStopsK Fence.wide n Tryd.prog 58 #[.pointer (some ⟨Bn, 0, none⟩)] (fun x : UpAt q (64 * m) => #[Value.int .i64 (x.1 : Int)]) (KpW g) (fun ys => ys.map (·.1) = upP q (64 * m)) (fun _ => True) (64 * m + 1) w := fun l J Jx W hW _ _ hY h0 =>
  all1_in n hn l Bn g m c q hm J Jx hY W ((hW.cell (p := ⟨Bn, 0, none⟩) hBn).trans hcb) (fun i hi => (hW.cell (p := ⟨g, i, none⟩) hg).trans (hp.cell i hi)) (ht.below hW ht.1) h0

end Go.Proofs.YtlnanelejaddiaaDoor

/-
  Places in memory: slices.Clone, slices.Equal, without. Contracts for other texts; no statement of its own.
-/
namespace Go.Proofs.YtlnanelejaddiaaDoor
open Go Go.RowKit
attribute [local go_sem ↓] Go.wp_at_zero Go.wp_at_succ

theorem wordsOf_one (q : Nat → Bool) (m : Nat) : ∀ u ∈ wordsOf q m, u.oneCell' = true := by
  intro u hu
  simp only [wordsOf, List.mem_map] at hu
  obtain ⟨i, _, rfl⟩ := hu
  rfl
set_option maxHeartbeats 1000000 in
theorem clone_p (w : World) (C m : Nat) (v : Value) (q : Nat → Bool) (h : Pl w C v m q) (hm0 : 0 < m) (hm : m ≤ 1000000) :
    Calls Tryd.prog 61 #[v] w (RetPl w m q) := by
  obtain ⟨i0, hi, hz0, hz1, hz2⟩ := info_parts Tryd.infoWord
  obtain ⟨g, c, rfl, _, hg⟩ := h.form hm0
  have hown : (w.alloc (.cells #[] 24)).ownsRow w.heap.size 24 1 (.slice (some ⟨w.heap.size, 0, none⟩) 0 0) 0 [] := World.ownsRow_lit w #[] 0 (Nat.le_refl _) (by decide) rfl
  have hnews : ∀ j u, (wordsOf q m)[j]? = some u → (w.alloc (.cells #[] 24)).cell? ((⟨g, 0, none⟩ : Addr).add j) = some u := by
    intro j u hu
    have hj : j < m := by
      rcases Nat.lt_or_ge j m with h' | h'
      · exact h'
      · rw [List.getElem?_eq_none (by rw [wordsOf_len]; exact h')] at hu; cases hu
    rw [wordsOf_at q m j hj] at hu
    have hu' := Option.some.inj hu
    rw [← hu']
    have e : (⟨g, 0, none⟩ : Addr).add j = ⟨g, j, none⟩ := by unfold Addr.add; split <;> simp_all
    rw [e]
    exact cell_stays (h.cell j hj) ((Below.refl _ _).alloc (Nat.le_refl _) _)
  have HO := Lib.hid hown
  have HN := Lib.hid hnews
  have hnil : ∀ W, (binOp .eql 60 (.slice (some ⟨g, 0, none⟩) m c) (.slice none 0 0)).run Tryd.prog W = .ok (.bool false) W := fun W => Lib.run_eql_slice_some_nil W _ _ _ Tryd.underlying60
  clear hown hnews h
  go_enter Tryd.func61, Tryd.ntmps61
  go_wp2_with (at_builtin; refine wpList_append_own _ rfl _ _ 60 rfl w.heap.size 24 i0 (.int .u64 0) 1 8 Tryd.underlying60 hi hz0 hz1 hz2 rfl (by decide) _ _ _ rfl HO.out ⟨g, 0, none⟩ m c (wordsOf q m) rfl (by rw [wordsOf_len, Nat.mul_one]) HN.out (wordsOf_one q m) ?c3 ?c4 ?c5 ?_)
  case c3 => unfold maxLen; omega
  case c4 => omega
  case c5 => simp
  · intro v' w2 hown' hgrow _
    have HO2 := Lib.hid hown'
    have hB2 : Below w.heap.size w w2 := ((Below.refl _ _).alloc (Nat.le_refl _) _).grown hgrow (by simp) (fun j e => ((HO.out).lt j e).1)
    clear hgrow hown'
    go_wp2
    go_ret
    refine ⟨v', rfl, ?_, hB2⟩
    exact HO2.out

set_option maxHeartbeats 1000000 in
theorem equal_p (w : World) (B C m : Nat) (v v2 : Value) (q r : Nat → Bool) (h : Pl w B v m q) (h2 : Pl w C v2 m r) (hm0 : 0 < m) (hm : m ≤ 1000000) :
    Calls Tryd.prog 60 #[v, v2] w fun e w' => ∃ b : Bool, e = .returned (.bool b) ∧ (b = true ↔ ∀ i, i < m → word q i = word r i) ∧ Below w.heap.size w w' := by
  obtain ⟨g, c, rfl, _, _⟩ := h.form hm0
  obtain ⟨g2, c2, rfl, _, _⟩ := h2.form hm0
  have H1 := Lib.hid h
  have H2 := Lib.hid h2
  clear h h2
  go_enter Tryd.func60, Tryd.ntmps60
  go_wp2
  go_loopg [13] m (fun m' i wr => ∃ j : Nat, i = .int .i64 (j : Int) ∧ j ≤ m ∧ m' = m - j ∧ (∀ k, k < j → word q k = word r k) ∧ Below w.heap.size w wr)
  case atStart => exact ⟨0, rfl, Nat.zero_le _, rfl, fun k hk => by omega, Below.refl _ _⟩
  case round =>
    obtain ⟨j, rfl, hj, hmj, hz, hW⟩ := hrel
    have HMJ := Lib.hid hmj
    have HZ := Lib.hid hz
    clear hmj hz
    by_cases hlt : j < m
    · have hc := (H1.out.stays hW).cell j hlt
      have hc2 := (H2.out.stays hW).cell j hlt
      have j0 : (0 : Int) ≤ (j : Int) := by omega
      have j1 : (j : Int) < (m : Int) := by omega
      cases hb : (word q j != word r j)
      · go_wp2_with fail
        go_quiet (fail)
        go_wp2
        go_roundg (m - (j + 1))
        case measure => have := HMJ.out; omega
        case rel =>
          refine ⟨j + 1, by go_num, by omega, rfl, fun k hk => ?_, below_drewN hW _⟩
          by_cases hk2 : k < j
          · exact HZ.out k hk2
          · have : k = j := by omega
            subst this
            simpa using hb
      · go_wp2_with fail
        go_quiet (fail)
        go_wp2
        go_ret
        refine ⟨false, rfl, ⟨fun h => (by cases h), fun h => ?_⟩, below_drewN hW _⟩
        rw [h j hlt] at hb
        simp at hb
    · go_wp2
      go_ret
      exact ⟨true, rfl, ⟨fun _ k hk => HZ.out k (by omega), fun _ => rfl⟩, hW⟩

set_option maxHeartbeats 1000000 in
theorem without_p (w : World) (B C m : Nat) (v v2 : Value) (q r : Nat → Bool) (h : Pl w B v m q) (h2 : Pl w C v2 m r) (hm0 : 0 < m) (hm : m ≤ 1000000) :
    Calls Tryd.prog 62 #[v, v2] w (RetPl w m (minusP q r)) := by
  obtain ⟨g2, c2, rfl, _, hg4⟩ := h2.form hm0
  have H2 := Lib.hid h2
  have HC := Lib.hid (clone_p w B m v q h hm0 hm)
  unfold RetPl at HC
  clear h h2
  go_enter Tryd.func62, Tryd.ntmps62
  go_wp2_with (go_at_call 61; (with_reducible refine HC.out.mono ?_); rintro e w1 ⟨v1, rfl, hv1, hb1⟩; obtain ⟨g, c, rfl, hg1, hg2⟩ := hv1.form hm0; have HV := Lib.hid hv1; clear hv1)
  obtain ⟨w4, hw4⟩ : ∃ w4, w4 = w1 := ⟨_, rfl⟩
  rw [← hw4] at HV hb1 hg2 ⊢
  clear hw4
  go_loopg [12] m (fun m' i wr => ∃ j : Nat, i = .int .i64 (j : Int) ∧ j ≤ m ∧ m' = m - j ∧ Pl wr w.heap.size (.slice (some ⟨g, 0, none⟩) m c) m (mixP q (minusP q r) j) ∧ Below w.heap.size w wr)
  case atStart => exact ⟨0, rfl, Nat.zero_le _, rfl, HV.out.congr fun i hi => (mix_ge _ _ _ _ (Nat.zero_le _)).symm, hb1⟩
  case round =>
    obtain ⟨j, rfl, hj, hmj, hpl, hW⟩ := hrel
    have HMJ := Lib.hid hmj
    have HPL := Lib.hid hpl
    clear hmj hpl
    by_cases hlt : j < m
    · have hc := HPL.out.cell j hlt
      have hf := HPL.out.frozen j
      rw [mix_ge _ _ _ _ (Nat.le_refl _)] at hc
      have hc2 := (H2.out.stays hW).cell j hlt
      have HO := Lib.hid (minus_words q r j)
      have hst := HPL.out.set (q' := mixP q (minusP q r) (j + 1)) j hlt (fun i hi => mix_step _ _ j i hi)
      rw [mix_lt _ _ _ _ (Nat.lt_succ_self j)] at hst
      have HST := Lib.hid hst
      clear hst
      go_wp2
      go_roundg (m - (j + 1))
      case measure => have := HMJ.out; omega
      case rel =>
        rw [HO.out]
        exact ⟨j + 1, by go_num, by omega, rfl, HST.out.1, hW.grown HST.out.2 hW.size (fun k e => by injection e with e; omega)⟩
    · have hjm : j = m := by omega
      go_wp2
      go_ret
      exact ⟨_, rfl, HPL.out.congr fun i hi => mix_lt _ _ _ _ (by omega), hW⟩

end Go.Proofs.YtlnanelejaddiaaDoor

/-
  A pattern's kids in memory. Laws for other texts; no statement of its own.
-/
namespace Go.Proofs.YtlnanelejaddiaaDoor
open Go Go.RowKit

/-- A kid's cells, read out of its row. -/
theorem Tree.kidAt {w : World} {ok : Nat → Prop} {t : T} {k : Value} (h : Tree w ok t k) (i : Nat) (hi : i < t.kids.length) :
    ∃ g cap k', k = .slice (some ⟨g, 0, none⟩) t.kids.length cap ∧ g < w.heap.size ∧ Tree w ok (t.kids[i]'hi) k' ∧ ∀ j u, (nodeC (t.kids[i]'hi) k')[j]? = some u → w.cell? ⟨g, 8 * i + j, none⟩ = some u := by
  cases h with
  | nil t h => rw [h] at hi; simp at hi
  | row t g cap cur ks hg hok hn h0 hcap hmax hsize hc hk =>
    have hi' : i < ks.length := by omega
    refine ⟨g, cap, ks[i], rfl, lt_of_some hg, hk i _ _ (List.getElem?_eq_getElem hi) (List.getElem?_eq_getElem hi'), fun j u hu => ?_⟩
    have hj : j < 8 := by
      have := List.getElem?_eq_some_iff.1 hu
      simpa [nodeC] using this.1
    have e := cellsOf_get t.kids ks i j _ _ (List.getElem?_eq_getElem hi) (List.getElem?_eq_getElem hi') hj
    rw [← hc, hu] at e
    rw [cell_of_row w g _ cur 29 (0, 0) hg, ← Array.getElem?_toList]
    rw [List.getElem?_take] at e
    split at e
    · exact e
    · cases e

theorem Tree.bound {w : World} {ok : Nat → Prop} {t : T} {A : Option Addr} {n c : Nat} (h : Tree w ok t (.slice A n c)) : n = t.kids.length ∧ n ≤ maxLen := by
  cases h with
  | nil t h => exact ⟨by simp [h], by decide⟩
  | row t g cap cur ks hg hok hn h0 hcap hmax hsize hc hk => exact ⟨rfl, Nat.le_trans hcap hmax⟩
theorem kid_size (t : T) (i : Nat) (hi : i < t.kids.length) : SizeOf.sizeOf (t.kids[i]'hi) < SizeOf.sizeOf t := by
  obtain ⟨op, p, lo, hi', l⟩ := t
  have := List.sizeOf_lt_of_mem (List.getElem_mem hi)
  simp only [T.kids] at *
  simp
  omega

theorem kid8 {w : World} {ok : Nat → Prop} {t u : T} {A : Option Addr} {n c : Nat} (h : Tree w ok t (.slice A n c)) (i : Nat) (hu : t.kids[i]? = some u) :
    ∃ g B m d, A = some ⟨g, 0, none⟩ ∧ g < w.heap.size ∧ Tree w ok u (.slice B m d) ∧ ∀ q v, (nodeC u (.slice B m d))[q]? = some v → w.cell? ⟨g, 8 * i + q, none⟩ = some v := by
  obtain ⟨hi, e⟩ := List.getElem?_eq_some_iff.1 hu
  obtain ⟨g, cap, kk, e1, hg1, htk, hcells⟩ := h.kidAt i hi
  rw [e] at htk hcells
  obtain ⟨B, m, d, rfl⟩ := htk.form
  exact ⟨g, B, m, d, by injection e1, hg1, htk, hcells⟩

end Go.Proofs.YtlnanelejaddiaaDoor

/-
  What holds of all nodes that the grammar makes holds of a pattern. Plain mathematics; no statement of its own.
-/
namespace Go.Proofs.YtlnanelejaddiaaDoor
open Go

/-- A property that each node has which the grammar makes, whatever its kids. -/
structure Made (N : Nat) (Q : T → Prop) : Prop where
  one : ∀ p, Q (.one p)
  rep : ∀ m n t, 0 ≤ m → m ≤ n → 1 ≤ n → n ≤ 32 → Q t → Q (.rep m n t)
  cat : ∀ l, 2 ≤ l.length → l.length ≤ N → (∀ x ∈ l, Q x) → Q (.mk 2 noneP 0 0 l)
  alt : ∀ l, 2 ≤ l.length → l.length ≤ N → (∀ x ∈ l, Q x) → Q (.mk 3 noneP 0 0 l)

theorem num_pos {s : ByteArray} {p q : Nat} {m : Int} (h : cNum s p = .ok (m, q)) : 0 ≤ m := by
  unfold cNum at h
  by_cases h1 : isD s p = true
  · rw [if_pos h1] at h
    simp [isD] at h1
    by_cases h2 : isD s (p + 1) = true
    · rw [if_pos h2] at h
      simp [isD] at h2
      injection h with h; injection h with h _
      omega
    · rw [if_neg h2] at h
      injection h with h; injection h with h _
      omega
  · rw [if_neg h1] at h; cases h
theorem times_good {s : ByteArray} {p q : Nat} {m n : Int} (h : cTimes s p = .ok ((m, n), q)) : 0 ≤ m ∧ m ≤ n ∧ 1 ≤ n ∧ n ≤ 32 := by
  unfold cTimes at h
  cases hc : cNum s p with
  | error e => rw [hc] at h; cases h
  | ok x =>
    rw [hc] at h
    simp only [thenR] at h
    have h0 := num_pos (m := x.1) (q := x.2) hc
    cases hd : (if isB s x.2 44 = true then cNum s (x.2 + 1) else (.ok (x.1, x.2) : R Int)) with
    | error e => rw [hd] at h; cases h
    | ok y =>
      rw [hd] at h
      simp only at h
      by_cases hk : isB s y.2 125 = true ∧ 1 ≤ y.1 ∧ y.1 ≤ 32 ∧ x.1 ≤ y.1
      · rw [if_pos hk] at h
        injection h with h; injection h with h _; injection h with h1 h2
        subst h1 h2
        exact ⟨h0, hk.2.2.2, hk.2.1, hk.2.2.1⟩
      · rw [if_neg hk] at h; cases h
theorem many_two {op : Int} {l : List T} {Q : T → Prop} (h1 : 1 ≤ l.length) (hl : ∀ x ∈ l, Q x) (hm : 2 ≤ l.length → Q (.mk op noneP 0 0 l)) : Q (T.many op l) := by
  unfold T.many
  split
  · rename_i z
    exact hl z (by simp)
  · rename_i hne
    refine hm ?_
    match l, h1, hne with
    | [x], _, hne => exact absurd rfl (hne x)
    | _ :: _ :: _, _, _ => simp

section
variable {s : ByteArray} {Q : T → Prop} (hQ : Made (s.size + 2) Q) {d : Option (Nat → R T)} {top : Bool} (hd : ∀ f, d = some f → ∀ p t q, f p = .ok (t, q) → Q t)
include hQ hd
theorem Made.atom {p q : Nat} {t : T} (h : cAtom s d p = .ok (t, q)) : Q t := by
  unfold cAtom at h
  by_cases hlt : p < s.size
  · rw [if_pos hlt] at h
    split at h
    · cases d with
      | none => cases h
      | some f =>
        simp only at h
        cases hc : f (p + 1) with
        | error e => rw [hc] at h; cases h
        | ok x =>
          rw [hc] at h
          simp only [thenR] at h
          split at h
          · injection h with h; injection h with h _; rw [← h]; exact hd f rfl (p + 1) x.1 x.2 hc
          · cases h
    · split at h
      · cases hc : cClass s (p + 1) with
        | error e => rw [hc] at h; cases h
        | ok x => rw [hc] at h; injection h with h; injection h with h _; rw [← h]; exact hQ.one _
      · split at h
        · injection h with h; injection h with h _; rw [← h]; exact hQ.one _
        · split at h
          · split at h
            · injection h with h; injection h with h _; rw [← h]; exact hQ.one _
            · cases hc : cEsc s (p + 1) with
              | error e => rw [hc] at h; cases h
              | ok x => rw [hc] at h; injection h with h; injection h with h _; rw [← h]; exact hQ.one _
          · split at h
            · cases h
            · split at h
              · cases h
              · injection h with h; injection h with h _; rw [← h]; exact hQ.one _
  · rw [if_neg hlt] at h; cases h
omit hd in
theorem Made.rloop : ∀ (n : Nat) (t : T) (p : Nat) (t' : T) (q : Nat), Q t → loopR (repStep s) n t p = .ok (t', q) → Q t'
  | 0, t, p, t', q, h0, h => by unfold loopR at h; injection h with h; injection h with h _; rw [← h]; exact h0
  | n + 1, t, p, t', q, h0, h => by
    unfold loopR repStep at h
    by_cases h63 : isB s p 63 = true
    · rw [if_pos h63] at h
      exact Made.rloop n _ _ t' q (hQ.rep _ _ _ (by omega) (by omega) (by omega) (by omega) h0) h
    · rw [if_neg h63] at h
      by_cases h123 : isB s p 123 = true
      · rw [if_pos h123] at h
        cases hc : cTimes s (p + 1) with
        | error e => rw [hc] at h; cases h
        | ok x =>
          rw [hc] at h
          obtain ⟨g1, g2, g3, g4⟩ := times_good (m := x.1.1) (n := x.1.2) (q := x.2) hc
          exact Made.rloop n _ _ t' q (hQ.rep _ _ _ g1 g2 g3 g4 h0) h
      · rw [if_neg h123] at h
        injection h with h; injection h with h _; rw [← h]; exact h0
theorem Made.piece {p q : Nat} {t : T} (h : cPiece s d p = .ok (t, q)) : Q t := by
  unfold cPiece at h
  cases hc : cAtom s d p with
  | error e => rw [hc] at h; cases h
  | ok x =>
    rw [hc] at h
    exact hQ.rloop _ x.1 x.2 t q (hQ.atom hd hc) h
theorem Made.ploop : ∀ (n : Nat) (l : List T) (p : Nat) (l' : List T) (q : Nat), 1 ≤ l.length → (∀ x ∈ l, Q x) → loopR (partStep s d top) n l p = .ok (l', q) → (∀ x ∈ l', Q x) ∧ 1 ≤ l'.length ∧ l'.length ≤ l.length + n
  | 0, l, p, l', q, hl, h0, h => by unfold loopR at h; injection h with h; injection h with h _; rw [← h]; exact ⟨h0, hl, by omega⟩
  | n + 1, l, p, l', q, hl, h0, h => by
    unfold loopR partStep at h
    split at h
    · injection h with h; injection h with h _; rw [← h]; exact ⟨h0, hl, by omega⟩
    · cases h
    · rename_i a' p' e
      split at e
      · cases hc : cPiece s d p with
        | error e' => rw [hc] at e; injection e with e; cases e
        | ok x =>
          rw [hc] at e
          injection e with e
          injection e with e
          injection e with e1 e2
          have k := Made.ploop n a' p' l' q (by rw [← e1]; simp) (fun y hy => ?_) h
          · refine ⟨k.1, k.2.1, ?_⟩
            have := k.2.2
            rw [← e1] at this
            simp at this
            omega
          rw [← e1] at hy
          rcases List.mem_append.1 hy with hy | hy
          · exact h0 y hy
          · simp at hy
            rw [hy]
            exact hQ.piece hd (q := x.2) hc
      · cases e
theorem Made.part {p q : Nat} {t : T} (h : cPart s d top p = .ok (t, q)) : Q t := by
  unfold cPart at h
  cases hc : cPiece s d p with
  | error e => rw [hc] at h; cases h
  | ok x =>
    rw [hc] at h
    simp only [thenR] at h
    cases hl : loopR (partStep s d top) (s.size + 1) [x.1] x.2 with
    | error e => rw [hl] at h; cases h
    | ok y =>
      rw [hl] at h
      have k := hQ.ploop hd _ [x.1] x.2 y.1 y.2 (by simp) (fun z hz => by simp at hz; rw [hz]; exact hQ.piece hd (q := x.2) hc) hl
      injection h with h
      injection h with h _
      rw [← h]
      exact many_two k.2.1 k.1 fun h2 => hQ.cat _ h2 (by have := k.2.2; simp at this; omega) k.1
theorem Made.loop : ∀ (n : Nat) (l : List T) (p : Nat) (l' : List T) (q : Nat), 1 ≤ l.length → (∀ x ∈ l, Q x) → loopR (patStep s d top) n l p = .ok (l', q) → (∀ x ∈ l', Q x) ∧ 1 ≤ l'.length ∧ l'.length ≤ l.length + n
  | 0, l, p, l', q, hl, h0, h => by unfold loopR at h; injection h with h; injection h with h _; rw [← h]; exact ⟨h0, hl, by omega⟩
  | n + 1, l, p, l', q, hl, h0, h => by
    unfold loopR patStep at h
    split at h
    · injection h with h; injection h with h _; rw [← h]; exact ⟨h0, hl, by omega⟩
    · cases h
    · rename_i a' p' e
      split at e
      · cases hc : cPart s d top (p + 1) with
        | error e' => rw [hc] at e; injection e with e; cases e
        | ok x =>
          rw [hc] at e
          injection e with e
          injection e with e
          injection e with e1 e2
          have k := Made.loop n a' p' l' q (by rw [← e1]; simp) (fun y hy => ?_) h
          · refine ⟨k.1, k.2.1, ?_⟩
            have := k.2.2
            rw [← e1] at this
            simp at this
            omega
          rw [← e1] at hy
          rcases List.mem_append.1 hy with hy | hy
          · exact h0 y hy
          · simp at hy
            rw [hy]
            exact hQ.part hd (q := x.2) hc
      · cases e
theorem Made.cpat {p q : Nat} {t : T} (h : cPat s d top p = .ok (t, q)) : Q t := by
  unfold cPat at h
  cases hc : cPart s d top p with
  | error e => rw [hc] at h; cases h
  | ok x =>
    rw [hc] at h
    simp only [thenR] at h
    cases hl : loopR (patStep s d top) (s.size + 1) [x.1] x.2 with
    | error e => rw [hl] at h; cases h
    | ok y =>
      rw [hl] at h
      have k := hQ.loop hd _ [x.1] x.2 y.1 y.2 (by simp) (fun z hz => by simp at hz; rw [hz]; exact hQ.part hd (q := x.2) hc) hl
      injection h with h
      injection h with h _
      rw [← h]
      exact many_two k.2.1 k.1 fun h2 => hQ.alt _ h2 (by have := k.2.2; simp at this; omega) k.1
omit hd
theorem Made.pat : ∀ (k : Nat) (top : Bool) (p : Nat) (t : T) (q : Nat), pat s k top p = .ok (t, q) → Q t
  | 0, top, p, t, q, h => hQ.cpat (d := none) (fun f e => by cases e) h
  | k + 1, top, p, t, q, h => hQ.cpat (d := some (Go.Proofs.YtlnanelejaddiaaDoor.pat s k false)) (fun f e p t q h => by cases e; exact Made.pat k false p t q h) h
theorem Made.parse {t : T} (h : Go.Proofs.YtlnanelejaddiaaDoor.parse s = .ok t) : Q t := by
  unfold Go.Proofs.YtlnanelejaddiaaDoor.parse at h
  by_cases hl : 200 < s.size
  · rw [if_pos hl] at h; cases h
  · rw [if_neg hl] at h
    cases hp : Go.Proofs.YtlnanelejaddiaaDoor.pat s 20 true 0 with
    | error e => rw [hp] at h; cases h
    | ok x =>
      rw [hp] at h
      injection h with h
      rw [← h]
      exact hQ.pat 20 true 0 x.1 x.2 hp
end
theorem parse_size {s : ByteArray} {t : T} (h : parse s = .ok t) : s.size ≤ 200 := by
  unfold parse at h
  by_cases hl : 200 < s.size
  · rw [if_pos hl] at h; cases h
  · omega

end Go.Proofs.YtlnanelejaddiaaDoor

/-
  Which words a pattern has: from where to where one goes, as a relation; repetitions as growing sets. Plain mathematics; no statement of its own.
-/
namespace Go.Proofs.YtlnanelejaddiaaDoor
open Go

/-- A pattern as the grammar makes it. -/
inductive WF : T → Prop where
  | one (p : Nat → Bool) : WF (.mk 1 p 0 0 [])
  | cat (l : List T) (h2 : 2 ≤ l.length) (hN : l.length ≤ 202) (h : ∀ x ∈ l, WF x) : WF (.mk 2 noneP 0 0 l)
  | alt (l : List T) (h2 : 2 ≤ l.length) (hN : l.length ≤ 202) (h : ∀ x ∈ l, WF x) : WF (.mk 3 noneP 0 0 l)
  | rep (m n : Int) (t : T) (h0 : 0 ≤ m) (h1 : m ≤ n) (h2 : 1 ≤ n) (h3 : n ≤ 32) (h : WF t) : WF (.mk 4 noneP m n [t])
theorem wf_made {N : Nat} (hN : N ≤ 202) : Made N WF := ⟨.one, .rep, fun l h1 h2 => .cat l h1 (by omega), fun l h1 h2 => .alt l h1 (by omega)⟩
theorem wf_parse {s : ByteArray} {t : T} (h : parse s = .ok t) : WF t := (wf_made (by have := parse_size h; omega)).parse h

/-- So many times, one behind the other. -/
def iter (Rl : Nat → Nat → Prop) : Nat → Nat → Nat → Prop
  | 0, i, j => i = j
  | m + 1, i, j => ∃ k, iter Rl m i k ∧ Rl k j

mutual
/-- From where to where a word of t goes in xs. -/
def E (xs : List Int) : T → Nat → Nat → Prop
  | .mk op p lo hi l => fun i j =>
    (op = 1 ∧ i < xs.length ∧ p (xs.getD i 0).toNat = true ∧ j = i + 1) ∨ (op = 2 ∧ ECat xs l i j) ∨ (op = 3 ∧ EAny xs l i j) ∨
    (op = 4 ∧ ∃ m : Nat, lo ≤ m ∧ (m : Int) ≤ hi ∧ iter (EAny xs l) m i j)
/-- Words of the kids, one behind the other. -/
def ECat (xs : List Int) : List T → Nat → Nat → Prop
  | [] => fun i j => i = j
  | t :: ts => fun i j => ∃ k, E xs t i k ∧ ECat xs ts k j
/-- A word of one of the kids. -/
def EAny (xs : List Int) : List T → Nat → Nat → Prop
  | [] => fun _ _ => False
  | t :: ts => fun i j => E xs t i j ∨ EAny xs ts i j
end

section
variable {xs : List Int}
theorem E_one {p : Nat → Bool} {lo hi : Int} {l : List T} {i j : Nat} : E xs (.mk 1 p lo hi l) i j ↔ i < xs.length ∧ p (xs.getD i 0).toNat = true ∧ j = i + 1 := by
  simp [E]
theorem E_cat {p : Nat → Bool} {lo hi : Int} {l : List T} {i j : Nat} : E xs (.mk 2 p lo hi l) i j ↔ ECat xs l i j := by
  simp [E]
theorem E_alt {p : Nat → Bool} {lo hi : Int} {l : List T} {i j : Nat} : E xs (.mk 3 p lo hi l) i j ↔ EAny xs l i j := by
  simp [E]
theorem E_rep {p : Nat → Bool} {lo hi : Int} {l : List T} {i j : Nat} : E xs (.mk 4 p lo hi l) i j ↔ ∃ m : Nat, lo ≤ m ∧ (m : Int) ≤ hi ∧ iter (EAny xs l) m i j := by
  simp [E]
theorem EAny_iff {l : List T} {i j : Nat} : EAny xs l i j ↔ ∃ t ∈ l, E xs t i j := by
  induction l with
  | nil => simp [EAny]
  | cons t ts ih => simp [EAny, ih]
theorem EAny_one {t : T} : EAny xs [t] = E xs t := by
  funext i j
  simp [EAny]
theorem ECat_app {l l' : List T} {i j : Nat} : ECat xs (l ++ l') i j ↔ ∃ k, ECat xs l i k ∧ ECat xs l' k j := by
  induction l generalizing i with
  | nil => simp [ECat]
  | cons t ts ih =>
    simp only [List.cons_append, ECat, ih]
    constructor
    · rintro ⟨a, h1, b, h2, h3⟩; exact ⟨b, ⟨a, h1, h2⟩, h3⟩
    · rintro ⟨b, ⟨a, h1, h2⟩, h3⟩; exact ⟨a, h1, b, h2, h3⟩

theorem iter_bd {Rl : Nat → Nat → Prop} {n : Nat} (h : ∀ i j, i ≤ n → Rl i j → i ≤ j ∧ j ≤ n) : ∀ (m i j : Nat), i ≤ n → iter Rl m i j → i ≤ j ∧ j ≤ n
  | 0, i, j, hi, e => by have e' : i = j := e; omega
  | m + 1, i, j, hi, ⟨k, h1, h2⟩ => by
    have a := iter_bd h m i k hi h1
    have b := h k j a.2 h2
    omega
theorem E_bd {t : T} (ht : WF t) : ∀ i j, i ≤ xs.length → E xs t i j → i ≤ j ∧ j ≤ xs.length := by
  induction ht with
  | one p => intro i j hi h; rw [E_one] at h; omega
  | cat l h2 hN h ih =>
    intro i j hi hE
    rw [E_cat] at hE
    clear h2 hN h
    induction l generalizing i with
    | nil => have e : i = j := hE; omega
    | cons t ts ih' =>
      obtain ⟨k, h1, h3⟩ := hE
      have a := ih t (by simp) i k hi h1
      have b := ih' (fun x hx => ih x (by simp [hx])) k a.2 h3
      omega
  | alt l h2 hN h ih =>
    intro i j hi hE
    rw [E_alt, EAny_iff] at hE
    obtain ⟨t, ht, hE⟩ := hE
    exact ih t ht i j hi hE
  | rep m n t h0 h1 h2 h3 h ih =>
    intro i j hi hE
    rw [E_rep] at hE
    obtain ⟨k, _, _, hE⟩ := hE
    rw [EAny_one] at hE
    exact iter_bd ih k i j hi hE

/-! Sets of places. -/
/-- Where one comes to from places of S. -/
def img (Rl : Nat → Nat → Prop) (S : Nat → Prop) : Nat → Prop := fun j => ∃ i, S i ∧ Rl i j
def imgN (Rl : Nat → Nat → Prop) (S : Nat → Prop) : Nat → Nat → Prop
  | 0 => S
  | m + 1 => img Rl (imgN Rl S m)
/-- Where one comes to within so many times. -/
def upTo (Rl : Nat → Nat → Prop) (S : Nat → Prop) (m : Nat) : Nat → Prop := fun j => ∃ k, k ≤ m ∧ imgN Rl S k j
theorem imgN_iter {Rl : Nat → Nat → Prop} {S : Nat → Prop} : ∀ (m j : Nat), imgN Rl S m j ↔ ∃ i, S i ∧ iter Rl m i j
  | 0, j => by
    constructor
    · intro h; exact ⟨j, h, rfl⟩
    · rintro ⟨i, h, e⟩
      have e' : i = j := e
      exact e' ▸ h
  | m + 1, j => by
    constructor
    · rintro ⟨k, h1, h2⟩
      obtain ⟨i, h3, h4⟩ := (imgN_iter m k).1 h1
      exact ⟨i, h3, k, h4, h2⟩
    · rintro ⟨i, h3, k, h4, h2⟩
      exact ⟨k, (imgN_iter m k).2 ⟨i, h3, h4⟩, h2⟩
theorem imgN_add {Rl : Nat → Nat → Prop} {S : Nat → Prop} (a : Nat) : ∀ (b j : Nat), imgN Rl (imgN Rl S a) b j ↔ imgN Rl S (a + b) j
  | 0, j => Iff.rfl
  | b + 1, j => by
    constructor
    · rintro ⟨k, h1, h2⟩; exact ⟨k, (imgN_add a b k).1 h1, h2⟩
    · rintro ⟨k, h1, h2⟩; exact ⟨k, (imgN_add a b k).2 h1, h2⟩
theorem imgN_fix {Rl : Nat → Nat → Prop} {S : Nat → Prop} (h : ∀ j, img Rl S j ↔ S j) : ∀ (m j : Nat), imgN Rl S m j ↔ S j
  | 0, j => Iff.rfl
  | m + 1, j => by
    constructor
    · rintro ⟨k, h1, h2⟩; exact (h j).1 ⟨k, (imgN_fix h m k).1 h1, h2⟩
    · intro hj
      obtain ⟨k, h1, h2⟩ := (h j).2 hj
      exact ⟨k, (imgN_fix h m k).2 h1, h2⟩
theorem upTo_succ {Rl : Nat → Nat → Prop} {S : Nat → Prop} (m j : Nat) : upTo Rl S (m + 1) j ↔ upTo Rl S m j ∨ img Rl (upTo Rl S m) j := by
  constructor
  · rintro ⟨k, hk, h⟩
    cases k with
    | zero => exact .inl ⟨0, Nat.zero_le _, h⟩
    | succ k =>
      obtain ⟨i, h1, h2⟩ := h
      exact .inr ⟨i, ⟨k, by omega, h1⟩, h2⟩
  · rintro (⟨k, hk, h⟩ | ⟨i, ⟨k, hk, h1⟩, h2⟩)
    · exact ⟨k, by omega, h⟩
    · exact ⟨k + 1, by omega, i, h1, h2⟩
theorem upTo_zero {Rl : Nat → Nat → Prop} {S : Nat → Prop} (j : Nat) : upTo Rl S 0 j ↔ S j := by
  constructor
  · rintro ⟨k, hk, h⟩
    obtain rfl : k = 0 := by omega
    exact h
  · intro h; exact ⟨0, Nat.le_refl _, h⟩
theorem upTo_stop {Rl : Nat → Nat → Prop} {S : Nat → Prop} {m : Nat} (h : ∀ j, img Rl (upTo Rl S m) j → upTo Rl S m j) : ∀ (d j : Nat), upTo Rl S (m + d) j ↔ upTo Rl S m j
  | 0, j => Iff.rfl
  | d + 1, j => by
    rw [← Nat.add_assoc, upTo_succ, upTo_stop h d j]
    constructor
    · rintro (h1 | ⟨i, h1, h2⟩)
      · exact h1
      · exact h j ⟨i, (upTo_stop h d i).1 h1, h2⟩
    · exact .inl
theorem img_congr {Rl : Nat → Nat → Prop} {S S' : Nat → Prop} (h : ∀ j, S j ↔ S' j) (j : Nat) : img Rl S j ↔ img Rl S' j := by
  constructor
  · rintro ⟨i, h1, h2⟩; exact ⟨i, (h i).1 h1, h2⟩
  · rintro ⟨i, h1, h2⟩; exact ⟨i, (h i).2 h1, h2⟩
theorem imgN_congr {Rl : Nat → Nat → Prop} {S S' : Nat → Prop} (h : ∀ j, S j ↔ S' j) : ∀ (m j : Nat), imgN Rl S m j ↔ imgN Rl S' m j
  | 0, j => h j
  | m + 1, j => img_congr (imgN_congr h m) j
theorem upTo_congr {Rl : Nat → Nat → Prop} {S S' : Nat → Prop} (h : ∀ j, S j ↔ S' j) (m j : Nat) : upTo Rl S m j ↔ upTo Rl S' m j := by
  constructor
  · rintro ⟨k, hk, h1⟩; exact ⟨k, hk, (imgN_congr h k j).1 h1⟩
  · rintro ⟨k, hk, h1⟩; exact ⟨k, hk, (imgN_congr h k j).2 h1⟩

/-- A repetition, as its least number of times, and then up to its greatest. -/
theorem E_rep_img {m n : Int} {t : T} {S : Nat → Prop} (h0 : 0 ≤ m) (h1 : m ≤ n) (j : Nat) :
    img (E xs (.mk 4 noneP m n [t])) S j ↔ upTo (E xs t) (imgN (E xs t) S m.toNat) (n - m).toNat j := by
  constructor
  · rintro ⟨i, hi, hE⟩
    rw [E_rep] at hE
    obtain ⟨k, h2, h3, hE⟩ := hE
    rw [EAny_one] at hE
    refine ⟨k - m.toNat, by omega, ?_⟩
    rw [imgN_add, show m.toNat + (k - m.toNat) = k by omega, imgN_iter]
    exact ⟨i, hi, hE⟩
  · rintro ⟨k, hk, h⟩
    rw [imgN_add, imgN_iter] at h
    obtain ⟨i, hi, hE⟩ := h
    refine ⟨i, hi, ?_⟩
    rw [E_rep]
    exact ⟨m.toNat + k, by omega, by omega, by rw [EAny_one]; exact hE⟩
/-- The same for several kids one behind the other. -/
theorem ECat_img {t : T} {ts : List T} {S : Nat → Prop} (j : Nat) : img (ECat xs (t :: ts)) S j ↔ img (ECat xs ts) (img (E xs t) S) j := by
  constructor
  · rintro ⟨i, hi, k, h1, h2⟩; exact ⟨k, ⟨i, hi, h1⟩, h2⟩
  · rintro ⟨k, ⟨i, hi, h1⟩, h2⟩; exact ⟨i, hi, k, h1, h2⟩
end

/-- The search by what is fresh: what is found so far, and what of it is new. -/
structure Found (Rl : Nat → Nat → Prop) (S : Nat → Prop) (r : Nat) (found fresh : Nat → Prop) : Prop where
  all : ∀ j, found j ↔ upTo Rl S r j
  sub : ∀ j, fresh j → found j
  old : ∀ i j, found i → ¬ fresh i → Rl i j → found j
theorem Found.start (Rl : Nat → Nat → Prop) (S : Nat → Prop) : Found Rl S 0 S S :=
  ⟨fun j => (upTo_zero j).symm, fun _ h => h, fun i j h1 h2 _ => absurd h1 h2⟩
open Classical in
theorem Found.step {Rl : Nat → Nat → Prop} {S found fresh found' fresh' : Nat → Prop} {r : Nat} (h : Found Rl S r found fresh) (hf : ∀ j, fresh' j ↔ img Rl fresh j ∧ ¬ found j) (hg : ∀ j, found' j ↔ found j ∨ fresh' j) : Found Rl S (r + 1) found' fresh' := by
  have key : ∀ j, img Rl found j → found j ∨ img Rl fresh j := by
    rintro j ⟨i, h1, h2⟩
    by_cases hi : fresh i
    · exact .inr ⟨i, hi, h2⟩
    · exact .inl (h.old i j h1 hi h2)
  refine ⟨fun j => ?_, fun j hj => (hg j).2 (.inr hj), fun i j h1 h2 h3 => ?_⟩
  · rw [hg, hf, upTo_succ, ← h.all j, img_congr (fun j => (h.all j).symm)]
    constructor
    · rintro (h1 | ⟨⟨i, h1, h2⟩, _⟩)
      · exact .inl h1
      · exact .inr ⟨i, h.sub i h1, h2⟩
    · rintro (h1 | h1)
      · exact .inl h1
      · by_cases hj : found j
        · exact .inl hj
        · exact .inr ⟨(key j h1).resolve_left hj, hj⟩
  · have hi : found i := ((hg i).1 h1).resolve_right h2
    rw [hg, hf]
    by_cases hj : found j
    · exact .inl hj
    · exact .inr ⟨(key j ⟨i, hi, h3⟩).resolve_left hj, hj⟩
theorem Found.stop {Rl : Nat → Nat → Prop} {S found fresh : Nat → Prop} {r : Nat} (h : Found Rl S r found fresh) (hf : ∀ j, img Rl fresh j → found j) (d j : Nat) : found j ↔ upTo Rl S (r + d) j := by
  rw [h.all, upTo_stop]
  rintro k ⟨i, h1, h2⟩
  have hi := (h.all i).2 h1
  by_cases hi' : fresh i
  · exact (h.all k).1 (hf k ⟨i, hi', h2⟩)
  · exact (h.all k).1 (h.old i k hi hi' h2)

end Go.Proofs.YtlnanelejaddiaaDoor

/-
  The document's own Places. Contracts for other texts; no statement of its own.
-/
namespace Go.Proofs.YtlnanelejaddiaaDoor
open Go Go.RowKit
attribute [local go_sem ↓] Go.wp_at_zero Go.wp_at_succ

mutual
/-- How many places a pattern has, up to 1000. -/
def plN : T → Nat
  | .mk op p lo hi l => min (((if op = 1 then 1 else 0) + plSum l) * (if op = 4 then hi.toNat else 1)) 1000
def plSum : List T → Nat
  | [] => 0
  | t :: ts => plN t + plSum ts
end
theorem plN_le (t : T) : plN t ≤ 1000 := by cases t; unfold plN; omega
theorem plSum_app : ∀ (l l' : List T), plSum (l ++ l') = plSum l + plSum l'
  | [], l' => by simp [plSum]
  | t :: ts, l' => by simp [plSum, plSum_app ts l']; omega
theorem plSum_take (l : List T) (j : Nat) (h : j < l.length) : plSum (l.take (j + 1)) = plSum (l.take j) + plN (l[j]'h) := by
  rw [List.take_succ_eq_append_getElem h, plSum_app]
  simp [plSum]
theorem plSum_le : ∀ (l : List T), plSum l ≤ 1000 * l.length
  | [] => by simp [plSum]
  | t :: ts => by
    have := plSum_le ts
    have := plN_le t
    simp [plSum]
    omega

/-- A node as an argument. -/
def nodeP (t : T) (k : Value) : Value := .agg #[.int .i64 t.op, .int .u64 (word t.set 0), .int .u64 (word t.set 1), .int .u64 (word t.set 2), .int .u64 (word t.set 3), .int .i64 t.lo, .int .i64 t.hi, k]
theorem WF.op_cases {t : T} (h : WF t) : (t.op = 1 ∧ t.kids = [] ∧ t.lo = 0 ∧ t.hi = 0) ∨ (t.op = 2 ∧ 2 ≤ t.kids.length ∧ t.kids.length ≤ 202 ∧ t.lo = 0 ∧ t.hi = 0) ∨ (t.op = 3 ∧ 2 ≤ t.kids.length ∧ t.kids.length ≤ 202 ∧ t.lo = 0 ∧ t.hi = 0) ∨
    (t.op = 4 ∧ t.kids.length = 1 ∧ 0 ≤ t.lo ∧ t.lo ≤ t.hi ∧ 1 ≤ t.hi ∧ t.hi ≤ 32) := by
  cases h with
  | one p => exact .inl ⟨rfl, rfl, rfl, rfl⟩
  | cat l h2 hN h => exact .inr (.inl ⟨rfl, h2, hN, rfl, rfl⟩)
  | alt l h2 hN h => exact .inr (.inr (.inl ⟨rfl, h2, hN, rfl, rfl⟩))
  | rep m n t h0 h1 h2 h3 h => exact .inr (.inr (.inr ⟨rfl, rfl, h0, h1, h2, h3⟩))
theorem WF.len {t : T} (h : WF t) : t.kids.length ≤ 202 := by
  rcases h.op_cases with h | h | h | h
  · rw [h.2.1]; decide
  · exact h.2.2.1
  · exact h.2.2.1
  · rw [h.2.1]; decide
theorem WF.kid {t : T} (h : WF t) {u : T} (hu : u ∈ t.kids) : WF u := by
  cases h with
  | one p => simp [T.kids] at hu
  | cat l h2 hN h => exact h u hu
  | alt l h2 hN h => exact h u hu
  | rep m n t h0 h1 h2 h3 h => simp [T.kids] at hu; rw [hu]; exact h
theorem WF.at {t : T} (h : WF t) (j : Nat) (hj : j < t.kids.length) : WF (t.kids[j]'hj) := h.kid (List.getElem_mem hj)

def RetInt (w : World) (n : Int) (e : Ending) (w' : World) : Prop := e = .returned (.int .i64 n) ∧ Below w.heap.size w w'
set_option maxRecDepth 20000 in
set_option maxHeartbeats 2000000 in
theorem places_n : ∀ (N : Nat) (t : T) (w : World) (ok : Nat → Prop) (k : Value), SizeOf.sizeOf t ≤ N → WF t → Tree w ok t k →
    Calls Tryd.prog 21 #[nodeP t k] w (RetInt w (plN t)) := by
  intro N
  induction N with
  | zero => intro t w ok k h; obtain ⟨op, p, lo, hi, l⟩ := t; simp at h
  | succ N ih =>
  intro t w ok k hN hwf ht
  obtain ⟨A, n', c, rfl⟩ := ht.form
  obtain ⟨hn, hm⟩ := ht.bound
  have hlen := hwf.len
  rw [← hn] at hlen
  unfold maxLen at hm
  have hop := hwf.op_cases
  have b1 := Box8.new w t (.slice A n' c)
  have hB : Below w.heap.size w (w.alloc (.cells #[.int .i64 t.op, .int .u64 (word t.set 0), .int .u64 (word t.set 1), .int .u64 (word t.set 2), .int .u64 (word t.set 3), .int .i64 t.lo, .int .i64 t.hi, .slice A n' c] 29)) := (Below.refl _ _).alloc (Nat.le_refl _) _
  have hpl : plN t = min (((if t.op = 1 then 1 else 0) + plSum t.kids) * (if t.op = 4 then t.hi.toNat else 1)) 1000 := by cases t; rfl
  have hsum := plSum_le t.kids
  have HPL := Lib.hid hpl
  have HSUM := Lib.hid hsum
  have HWF := Lib.hid hwf
  have HOP := Lib.hid hop
  have HN := Lib.hid hn
  have HT := Lib.hid ht
  have IH := Lib.hid ih
  have HB1 := Lib.hid b1
  have HM := Lib.hid hm
  clear hn ih hpl hsum hwf hop
  unfold nodeP
  cases hb1 : (t.op == 1)
  all_goals
    cases hb4 : (t.op == 4)
    all_goals
      go_enter Tryd.func21, Tryd.ntmps21
      go_wp2
      go_loopg [3, 4] n' (fun m k i wr => ∃ j : Nat, i = .int .i64 (j : Int) ∧ j ≤ n' ∧ m = n' - j ∧ k = .int .i64 (((if t.op = 1 then 1 else 0) + plSum (t.kids.take j) : Nat) : Int) ∧ Box8 wr w.heap.size t (.slice A n' c) ∧ Below w.heap.size w wr)
      case atStart => exact ⟨0, rfl, Nat.zero_le _, rfl, by first | (rw [if_pos (by simpa using hb1)]; rfl) | (rw [if_neg (by simpa using hb1)]; rfl), HB1.out, hB⟩
      case round =>
        obtain ⟨j, rfl, hj, hmj, rfl, x1, hW⟩ := hrel
        have HMJ := Lib.hid hmj
        obtain ⟨c0, c1, c2, c3, c4, c5, c6, c7⟩ := x1.cell
        clear b1 hmj
        by_cases hlt : j < n'
        · have hlt' : j < t.kids.length := by rw [← HN.out]; exact hlt
          obtain ⟨g, B, m1, m2, e1, hg1, htk, hcells⟩ := kid8 HT.out j (List.getElem?_eq_getElem hlt')
          subst e1
          have hks := kid_size t j hlt'
          have hwk := HWF.out.at j hlt'
          have hst := plSum_take t.kids j hlt'
          have hsl := plSum_le (t.kids.take j)
          rw [List.length_take] at hsl
          have hpu := plN_le (t.kids[j]'hlt')
          generalize t.kids[j] = u at *
          have HC : ∀ q v, (nodeC u (.slice B m1 m2))[q]? = some v → wr.cell? ⟨g, j * 8 + q, none⟩ = some v := fun q v h => by rw [Nat.mul_comm j 8]; exact (hW.cell (p := ⟨g, 8 * j + q, none⟩) hg1).trans (hcells q v h)
          have k0 : wr.cell? ⟨g, j * 8, none⟩ = _ := HC 0 _ rfl
          have k1 := HC 1 _ rfl
          have k2 := HC 2 _ rfl
          have k3 := HC 3 _ rfl
          have k4 := HC 4 _ rfl
          have k5 := HC 5 _ rfl
          have k6 := HC 6 _ rfl
          have k7 := HC 7 _ rfl
          have HK := Lib.hid (fun w' (hb : Below wr.heap.size wr w') => IH.out u w' ok (.slice B m1 m2) (by omega) hwk ((htk.stays hW).stays hb))
          have HST := Lib.hid hst
          clear HC hcells htk hks hwk hst
          unfold nodeP RetInt at HK
          have ha : ((if t.op = 1 then 1 else 0 : Nat)) ≤ 1 := by split <;> omega
          generalize hS : (if t.op = 1 then 1 else 0 : Nat) = a0 at *
          generalize plSum (t.kids.take j) = S at *
          have hS2 : S ≤ 202000 := by omega
          clear hS
          go_wp2_with (go_at_call 21; (with_reducible refine (HK.out _ (Below.refl _ _)).mono ?_); rintro e w5 ⟨rfl, hb5⟩)
          go_roundg (n' - (j + 1))
          case measure => have := HMJ.out; omega
          case rel => exact ⟨j + 1, by go_num, by omega, rfl, by rw [HST.out]; go_num, x1.stays hb5, gro hW hb5⟩
        · have hjn : j = t.kids.length := by rw [← HN.out]; omega
          have hwhole : t.kids.take j = t.kids := by rw [hjn]; exact List.take_length
          rw [hwhole]
          have hS2 := HSUM.out
          have ha : ((if t.op = 1 then 1 else 0 : Nat)) ≤ 1 := by split <;> omega
          have hpl' := HPL.out
          rw [show t.kids.length = n' from HN.out.symm] at hS2
          generalize hS : (if t.op = 1 then 1 else 0 : Nat) = a0 at *
          generalize plSum t.kids = S at *
          by_cases h4 : t.op = 4
          · first
              | (exfalso; simp [h4] at hb4; done)
              | skip
            all_goals
              rw [if_pos h4] at hpl'
              have hh := HOP.out
              have hh2 : 1 ≤ t.hi ∧ t.hi ≤ 32 := by omega
              obtain ⟨hi0, hi1⟩ := hh2
              obtain ⟨hN, hNe⟩ : ∃ hN : Nat, t.hi = hN := ⟨t.hi.toNat, by omega⟩
              have hpr : (a0 + S) * hN ≤ 202001 * 32 := Nat.mul_le_mul (by omega) (by omega)
              rw [hNe, Int.toNat_natCast] at hpl'
              have hprod : ((a0 : Int) + (S : Int)) * (hN : Int) = (((a0 + S) * hN : Nat) : Int) := by simp
              generalize (a0 + S) * hN = Pr at hpl' hpr hprod
              have HPL2 := Lib.hid hpl'
              have HPR := Lib.hid hprod
              rw [hNe] at c6
              have p0 : (0 : Int) ≤ ((a0 : Int) + (S : Int)) * (hN : Int) := by rw [hprod]; omega
              have p1 : ((a0 : Int) + (S : Int)) * (hN : Int) ≤ 9223372036854775807 := by rw [hprod]; omega
              clear hpl' hNe hh h4 hS hprod hi0 hi1
              go_wp2
              all_goals
                go_ret
                refine ⟨congrArg Ending.returned (congrArg (Value.int .i64) ?_), hW⟩
                have e1 := HPL2.out
                have e2 := HPR.out
                rw [e1]
                omega
          · first
              | (exfalso; simp at hb4; exact h4 hb4)
              | skip
            all_goals
              rw [if_neg h4, Nat.mul_one] at hpl'
              have HPL2 := Lib.hid hpl'
              clear hpl' h4 hS
              go_wp2
              all_goals
                go_ret
                refine ⟨congrArg Ending.returned (congrArg (Value.int .i64) ?_), hW⟩
                rw [HPL2.out]
                omega

theorem places_p {t : T} {k : Value} {ok : Nat → Prop} (w : World) (hwf : WF t) (ht : Tree w ok t k) : Calls Tryd.prog 21 #[nodeP t k] w (RetInt w (plN t)) :=
  places_n _ t w ok k (Nat.le_refl _) hwf ht

end Go.Proofs.YtlnanelejaddiaaDoor
