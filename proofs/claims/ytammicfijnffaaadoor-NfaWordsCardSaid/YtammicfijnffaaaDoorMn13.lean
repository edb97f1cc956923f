/-
  Several texts of this proof in one file: Pl, Tz, All, Pl2, LenMath, LangLen. No statement of its own.
-/
import Derived.Test.YtammicfijnffaaaDoorMn12
import Derived.Test.YtammicfijnffaaaDoorMn1
import Derived.Test.YtammicfijnffaaaDoorMn3
import Derived.Maps.AppendAt
import Derived.Laws.OwnMore
import Derived.Deep.LoopGhost
import Derived.Deep.DrawnRows
import Derived.RangeFuncNested
import Derived.RangeFuncBound
import Derived.RangeFuncCalls
import Derived.RangeFuncLeaves
import Derived.Shelf.Abstract
import Derived.Shelf.RegionOpen
import Derived.WalkKit
import Derived.OwnWalkIn
import Derived.TacticsInMore
import Derived.LoopNIn
import Derived.LoopIn
import Derived.Sort.LoopGhostIn
import Derived.Deep.QuietTactic
import Derived.BigQuiet
import Derived.Lib.BufferMore
import Derived.Test.YtammicfijnffaaaDoorMn9
import Derived.Test.YtammicfijnffaaaDoorMn2
set_option linter.unusedVariables false
set_option linter.unusedSimpArgs false

/-
  Places in memory (package lang, type places): words of a test of numbers; nowhere, add, only, has, none, join, without, and slices.Equal, slices.Clone. Contracts for other texts; no statement of its own.
-/
namespace Go.Proofs.YtammicfijnffaaaDoor
open Go Go.RowKit
attribute [local go_sem ↓] Go.wp_at_zero Go.wp_at_succ

theorem Tryd.infoWord : (Tryd.prog.info? 24).map (fun i => (i.zero, i.size, i.bytes)) = some (some (.int .u64 0), 1, 8) := by kernel_rfl

def wordsOf (q : Nat → Bool) (m : Nat) : List Value := (List.range m).map fun i => Value.int .u64 (word q i)
theorem wordsOf_len (q : Nat → Bool) (m : Nat) : (wordsOf q m).length = m := by simp [wordsOf]
theorem wordsOf_at (q : Nat → Bool) (m i : Nat) (h : i < m) : (wordsOf q m)[i]? = some (.int .u64 (word q i)) := by simp [wordsOf, h]
/-- Places in memory: m words of q. -/
def Pl (w : World) (B : Nat) (v : Value) (m : Nat) (q : Nat → Bool) : Prop := w.ownsRow B 24 1 v m (wordsOf q m)
section
variable {w w' : World} {B : Nat} {v : Value} {m : Nat} {q : Nat → Bool}
theorem Pl.stays (h : Pl w B v m q) (hb : Below w.heap.size w w') : Pl w' B v m q := own_stays h hb
theorem Pl.lower {B' : Nat} (h : Pl w B v m q) (hB : B' ≤ B) : Pl w B' v m q := own_lower h hB
theorem Pl.form (h : Pl w B v m q) (hm : 0 < m) : ∃ g c, v = .slice (some ⟨g, 0, none⟩) m c ∧ B ≤ g ∧ g < w.heap.size := by
  rcases h.2 with ⟨rfl, h0⟩ | ⟨g, cap, cur, rfl, hB, hg, _⟩
  · omega
  · exact ⟨g, cap, rfl, hB, lt_of_some hg⟩
theorem Pl.cell {g c : Nat} (h : Pl w B (.slice (some ⟨g, 0, none⟩) m c) m q) (i : Nat) (hi : i < m) : w.cell? ⟨g, i, none⟩ = some (.int .u64 (word q i)) := by
  rw [World.ownsRow.cellAt h i (by omega), wordsOf_at q m i hi]
theorem Pl.frozen {g c : Nat} (h : Pl w B (.slice (some ⟨g, 0, none⟩) m c) m q) (i : Nat) : w.frozen? ⟨g, i, none⟩ = false := World.ownsRow.frozenAt h i
theorem Pl.congr {q' : Nat → Bool} (h : Pl w B v m q) (hq : ∀ i, i < m → word q i = word q' i) : Pl w B v m q' := by
  unfold Pl at *
  have e : wordsOf q m = wordsOf q' m := by
    unfold wordsOf
    apply List.map_congr_left
    intro i hi
    rw [hq i (by simpa using hi)]
  rwa [← e]
/-- One word is stored anew. -/
theorem Pl.set {g c : Nat} {q' : Nat → Bool} (h : Pl w B (.slice (some ⟨g, 0, none⟩) m c) m q) (i : Nat) (hi : i < m) (hq : ∀ j, j ≠ i → word q' j = word q j) :
    Pl (w.setCell ⟨g, i, none⟩ (.int .u64 (word q' i))) B (.slice (some ⟨g, 0, none⟩) m c) m q' ∧ w.grownBy (w.setCell ⟨g, i, none⟩ (.int .u64 (word q' i))) (some g) := by
  have k := World.ownsRow.stored h i (.int .u64 (word q' i))
  refine ⟨?_, k.2⟩
  unfold Pl
  have e : (wordsOf q m).set i (.int .u64 (word q' i)) = wordsOf q' m := by
    apply List.ext_getElem?
    intro j
    rw [List.getElem?_set]
    by_cases hj : j < m
    · rw [wordsOf_at q' m j hj, wordsOf_at q m j hj, wordsOf_len]
      by_cases hij : i = j
      · subst hij; simp [hi]
      · rw [if_neg hij, hq j (fun e => hij e.symm)]
    · rw [List.getElem?_eq_none (by rw [wordsOf_len]; omega), List.getElem?_eq_none (by rw [wordsOf_len]; omega)]
      by_cases hij : i = j
      · omega
      · rw [if_neg hij]
  rw [← e]
  exact k.1
end
theorem wordsOf_none (m : Nat) : wordsOf noneP m = List.replicate m (.int .u64 0) := by
  apply List.ext_getElem?
  intro j
  by_cases hj : j < m
  · rw [wordsOf_at _ m j hj, word_none]; simp [hj]
  · rw [List.getElem?_eq_none (by rw [wordsOf_len]; omega), List.getElem?_eq_none (by simpa using hj)]

def RetPl (w : World) (m : Nat) (q : Nat → Bool) (e : Ending) (w' : World) : Prop := ∃ v, e = .returned v ∧ Pl w' w.heap.size v m q ∧ Below w.heap.size w w'

theorem nowhere_p (w : World) (n : Nat) (hn : n ≤ 1000000) : Calls Tryd.prog 28 #[.int .i64 n] w (RetPl w (n / 64 + 1) noneP) := by
  obtain ⟨i0, hi, hz0, hz1, hz2⟩ := info_parts Tryd.infoWord
  obtain ⟨w', hr, hown, hg⟩ := run_make_full (P := Tryd.prog) w w.heap.size 66 24 i0 _ 1 Tryd.underlying66 hi hz0 hz1 .i64 .i64 (n / 64 + 1) (by rw [hz2]; omega) (by unfold maxLen; omega) (Nat.le_refl _)
  rw [show (((n / 64 + 1 : Nat)) : Int) = (n : Int) / 64 + 1 by omega] at hr
  rw [show (madeCells (Value.int IntKind.u64 0).cells ((n / 64 + 1) * 1)).toList = wordsOf noneP (n / 64 + 1) by rw [wordsOf_none, Nat.mul_one]; exact toList_madeCells_one _ _] at hown
  have HO := Lib.hid hown
  have HG := Lib.hid hg
  clear hown hg hi hz0 hz1 hz2
  go_enter Tryd.func28, Tryd.ntmps28
  go_wp2
  go_ret
  exact ⟨_, rfl, HO.out, (Below.refl _ _).grown HG.out (Nat.le_refl _) (fun j e => by cases e)⟩

/-- A look-up. -/
theorem plhas_p (w : World) (B m i : Nat) (v : Value) (q : Nat → Bool) (h : Pl w B v m q) (hi : i < 64 * m) (hm : m ≤ 1000000) : Calls Tryd.prog 19 #[v, .int .i64 i] w fun e w' => e = .returned (.bool (q i)) ∧ w = w' := by
  obtain ⟨g, c, rfl, _, _⟩ := h.form (by omega)
  have hc := h.cell (i / 64) (by omega)
  have H := has_any q i
  rw [← H]
  have e1 : ((i : Int) / 64).toNat = i / 64 := by omega
  have e2 : ((i : Int) % 64).toNat = i % 64 := by omega
  have e3 : (i : Int) / 64 < (m : Int) := by omega
  have e4 : (0 : Int) ≤ (i : Int) / 64 := by omega
  have w0 := word_nonneg q (i / 64)
  have w1 := word_lt q (i / 64)
  clear H h
  go_enter Tryd.func19, Tryd.ntmps19
  go_wp2
  go_ret
  exact ⟨rfl, rfl⟩

theorem grown_drew {a b : World} {row : Option Nat} (h : a.grownBy b row) : a.grownBy b.drew row := ⟨h.os, h.tape, h.output, h.size, h.block⟩
theorem Pl.drew {w : World} {B m : Nat} {v : Value} {q : Nat → Bool} (h : Pl w B v m q) : Pl w.drew B v m q := h
/-- What a call on places of one's own leaves. -/
def RetOwn (w : World) (B m : Nat) (v : Value) (q : Nat → Bool) (e : Ending) (w' : World) : Prop := e = .returned (.tuple #[]) ∧ Pl w' B v m q ∧ w.grownBy w' v.ownBlock

theorem pladd_p (w : World) (B m i : Nat) (v : Value) (q : Nat → Bool) (h : Pl w B v m q) (hi : i < 64 * m) (hm : m ≤ 1000000) : Calls Tryd.prog 31 #[v, .int .i64 i] w (RetOwn w B m v (add1 q i)) := by
  obtain ⟨g, c, rfl, _, _⟩ := h.form (by omega)
  have hc := h.cell (i / 64) (by omega)
  have hf := h.frozen (i / 64)
  have HA := Lib.hid (add_any q i)
  have HS := Lib.hid (h.set (q' := add1 q i) (i / 64) (by omega) (fun j hj => add1_words q i j hj))
  have e1 : ((i : Int) / 64).toNat = i / 64 := by omega
  have e2 : ((i : Int) % 64).toNat = i % 64 := by omega
  have e3 : (i : Int) / 64 < (m : Int) := by omega
  have e4 : (0 : Int) ≤ (i : Int) / 64 := by omega
  have w0 := word_nonneg q (i / 64)
  have w1 := word_lt q (i / 64)
  clear h
  go_enter Tryd.func31, Tryd.ntmps31
  go_region
  all_goals
    go_wp2
    go_end0
    rw [HA.out]
    exact ⟨rfl, HS.out.1.drew, grown_drew HS.out.2⟩

set_option maxHeartbeats 1000000 in
theorem only_p (w : World) (i n : Nat) (hn : n ≤ 1000000) (hi : i ≤ n) : Calls Tryd.prog 18 #[.int .i64 i, .int .i64 n] w (RetPl w (n / 64 + 1) (fun x => x == i)) := by
  have HN := Lib.hid (nowhere_p w n hn)
  unfold RetPl at HN
  have HA := Lib.hid (fun W v (h : Pl W w.heap.size v (n / 64 + 1) noneP) => pladd_p W w.heap.size (n / 64 + 1) i v noneP h (by omega) (by omega))
  unfold RetOwn at HA
  go_enter Tryd.func18, Tryd.ntmps18
  go_wp2_with (first
    | (go_at_call 28; (with_reducible refine HN.out.mono ?_); rintro e w1 ⟨v, rfl, hv, hb⟩)
    | (go_at_call 31; (with_reducible refine (HA.out _ _ hv).mono ?_); rintro e w2 ⟨rfl, hv2, hg2⟩))
  go_ret
  refine ⟨v, rfl, hv2.congr fun i' _ => ?_, hb.grown hg2 hb.size (fun j e => (World.ownsRow.lt hv j e).1)⟩
  have e : wordN (add1 noneP i) i' = wordN (fun x => x == i) i' := wordN_congr _ _ i' fun j _ => by simp [add1, noneP]
  unfold word
  rw [e]

theorem word_zero {q : Nat → Bool} {i : Nat} (h : word q i = 0) (j : Nat) (hj : j < 64) : q (64 * i + j) = false := by
  have h0 : wordN q i = 0 := by unfold word at h; omega
  have t := wordN_test q i j
  rw [h0] at t
  simpa [hj] using t.symm
theorem word_nonzero {q : Nat → Bool} {i : Nat} (h : word q i ≠ 0) : ∃ j, j < 64 ∧ q (64 * i + j) = true := by
  by_cases hx : ∃ j, j < 64 ∧ q (64 * i + j) = true
  · exact hx
  · exfalso
    apply h
    have : wordN q i = 0 := by
      apply Nat.eq_of_testBit_eq
      intro j
      rw [wordN_test]
      by_cases hj : j < 64
      · have : ¬ q (64 * i + j) = true := fun e => hx ⟨j, hj, e⟩
        simp [this]
      · simp [hj]
    simp [word, this]
/-- Are there none? -/
theorem none_p (w : World) (B m : Nat) (v : Value) (q : Nat → Bool) (h : Pl w B v m q) (hm0 : 0 < m) (hm : m ≤ 1000000) :
    Calls Tryd.prog 26 #[v] w fun e w' => ∃ b : Bool, e = .returned (.bool b) ∧ (b = true ↔ ∀ x, x < 64 * m → q x = false) ∧ w = w' := by
  obtain ⟨g, c, rfl, _, _⟩ := h.form hm0
  have HH := Lib.hid h
  clear h
  go_enter Tryd.func26, Tryd.ntmps26
  go_wp2
  go_loopg [7] m (fun m' i wr => ∃ j : Nat, i = .int .i64 (j : Int) ∧ j ≤ m ∧ m' = m - j ∧ (∀ x, x < 64 * j → q x = false) ∧ wr = w)
  case atStart => exact ⟨0, rfl, Nat.zero_le _, rfl, fun x hx => by omega, rfl⟩
  case round =>
    obtain ⟨j, rfl, hj, hmj, hz, rfl⟩ := hrel
    have HMJ := Lib.hid hmj
    have HZ := Lib.hid hz
    clear hmj hz
    by_cases hlt : j < m
    · have hc := HH.out.cell j hlt
      cases hb : (word q j != 0)
      · have hw0 : word q j = 0 := by simpa using hb
        have HW0 := Lib.hid hw0
        clear hw0
        go_wp2
        go_roundg (m - (j + 1))
        case measure => have := HMJ.out; omega
        case rel =>
          refine ⟨j + 1, by go_num, by omega, rfl, fun x hx => ?_, rfl⟩
          by_cases hx2 : x < 64 * j
          · exact HZ.out x hx2
          · have := word_zero HW0.out (x - 64 * j) (by omega)
            rwa [show 64 * j + (x - 64 * j) = x by omega] at this
      · have hw0 : word q j ≠ 0 := by simpa using hb
        have HW0 := Lib.hid (word_nonzero hw0)
        clear hw0
        go_wp2
        go_ret
        refine ⟨false, rfl, ⟨fun h => (by cases h), fun h => ?_⟩, rfl⟩
        obtain ⟨k, hk, hq⟩ := HW0.out
        rw [h (64 * j + k) (by omega)] at hq
        cases hq
    · go_wp2
      go_ret
      exact ⟨true, rfl, ⟨fun _ x hx => HZ.out x (by omega), fun _ => rfl⟩, rfl⟩

/-- Up to word j as f, from there on as q. -/
def mixP (q f : Nat → Bool) (j : Nat) : Nat → Bool := fun x => if x < 64 * j then f x else q x
theorem mix_lt (q f : Nat → Bool) (j i : Nat) (h : i < j) : word (mixP q f j) i = word f i := by
  unfold word
  rw [wordN_congr _ f i fun b hb => by unfold mixP; rw [if_pos (by omega)]]
theorem mix_ge (q f : Nat → Bool) (j i : Nat) (h : j ≤ i) : word (mixP q f j) i = word q i := by
  unfold word
  rw [wordN_congr _ q i fun b hb => by unfold mixP; rw [if_neg (by omega)]]
theorem mix_step (q f : Nat → Bool) (j i : Nat) (h : i ≠ j) : word (mixP q f (j + 1)) i = word (mixP q f j) i := by
  by_cases hi : i < j
  · rw [mix_lt _ _ _ _ hi, mix_lt _ _ _ _ (by omega)]
  · rw [mix_ge _ _ _ _ (by omega), mix_ge _ _ _ _ (by omega)]

theorem pljoin_p (w : World) (B C m : Nat) (v v2 : Value) (q r : Nat → Bool) (h : Pl w B v m q) (h2 : Pl w C v2 m r) (hB : B ≤ w.heap.size) (hm0 : 0 < m) (hm : m ≤ 1000000) :
    Calls Tryd.prog 29 #[v, v2] w (RetOwn w B m v (orP q r)) := by
  obtain ⟨g, c, rfl, hg1, hg2⟩ := h.form hm0
  obtain ⟨g2, c2, rfl, _, hg4⟩ := h2.form hm0
  have hcell : ∀ i, i < m → w.cell? ⟨g2, i, none⟩ = some (.int .u64 (word r i)) := fun i hi => h2.cell i hi
  have HH := Lib.hid h
  have HC := Lib.hid hcell
  clear h h2 hcell
  go_enter Tryd.func29, Tryd.ntmps29
  go_wp2
  go_loopg [8] m (fun m' i wr => ∃ j : Nat, i = .int .i64 (j : Int) ∧ j ≤ m ∧ m' = m - j ∧ Pl wr B (.slice (some ⟨g, 0, none⟩) m c) m (mixP q (orP q r) j) ∧ (∀ k, j ≤ k → k < m → wr.cell? ⟨g2, k, none⟩ = some (.int .u64 (word r k))) ∧ w.grownBy wr (some g))
  case atStart => exact ⟨0, rfl, Nat.zero_le _, rfl, HH.out.congr fun i hi => (mix_ge _ _ _ _ (Nat.zero_le _)).symm, fun k _ hk => HC.out k hk, ⟨rfl, rfl, rfl, Nat.le_refl _, fun _ _ _ => rfl⟩⟩
  case round =>
    obtain ⟨j, rfl, hj, hmj, hpl, hr, hgw⟩ := hrel
    have HMJ := Lib.hid hmj
    have HPL := Lib.hid hpl
    have HR := Lib.hid hr
    clear hmj hpl hr
    by_cases hlt : j < m
    · have hc := HPL.out.cell j hlt
      have hf := HPL.out.frozen j
      rw [mix_ge _ _ _ _ (Nat.le_refl _)] at hc
      have hc2 := HR.out j (Nat.le_refl _) hlt
      have HO := Lib.hid (or_words q r j)
      have hst := HPL.out.set (q' := mixP q (orP q r) (j + 1)) j hlt (fun i hi => mix_step _ _ j i hi)
      rw [mix_lt _ _ _ _ (Nat.lt_succ_self j)] at hst
      have HST := Lib.hid hst
      clear hst
      go_wp2
      go_roundg (m - (j + 1))
      case measure => have := HMJ.out; omega
      case rel =>
        rw [HO.out]
        refine ⟨j + 1, by go_num, by omega, rfl, HST.out.1, fun k hk hkm => ?_, World.grownBy.trans hgw HST.out.2⟩
        have := HR.out k (by omega) hkm
        rw [World.cell?_setCell_other]
        · exact this
        · intro e
          injection e with e1 e2
          omega
    · have hjm : j = m := by omega
      go_wp2
      go_end0
      exact ⟨rfl, HPL.out.congr fun i hi => mix_lt _ _ _ _ (by omega), hgw⟩

end Go.Proofs.YtammicfijnffaaaDoor

/-
  math/bits.TrailingZeros64, by its table. Contracts for other texts; no statement of its own.
-/
namespace Go.Proofs.YtammicfijnffaaaDoor
open Go Go.RowKit
attribute [local go_sem ↓] Go.wp_at_zero Go.wp_at_succ

/-- The table lies where the program's text lays it. -/
def Tab (w : World) : Prop := 0 < w.heap.size ∧ ∀ k, k < 64 → w.cell? ⟨0, k, none⟩ = some (.int .u8 (deBr.getD k 0))
theorem Tab.below {w w' : World} {B : Nat} (h : Tab w) (hb : Below B w w') (hB : 0 < B) : Tab w' := ⟨Nat.lt_of_lt_of_le h.1 hb.size, fun k hk => (hb.cell (p := ⟨0, k, none⟩) hB).trans (h.2 k hk)⟩

set_option maxHeartbeats 1000000 in
theorem tz_p (w : World) (x k : Nat) (hx : x < 18446744073709551616) (hk : k < 64) (h : x &&& (2 ^ 64 - x) = 2 ^ k) (ht : Tab w) : Calls Tryd.prog 43 #[.int .u64 x] w fun e w' => e = .returned (.int .i64 k) ∧ w = w' := by
  have hx0 : x ≠ 0 := by
    rintro rfl
    have := Nat.two_pow_pos k
    simp at h
    omega
  have hb0 : ((x : Int) == 0) = false := by simp; omega
  have e1 : IntKind.u64.wrap (-(x : Int)) = ((2 ^ 64 - x : Nat) : Int) := by
    rw [IntKind.wrap_u64]
    have : (2 : Nat) ^ 64 = 18446744073709551616 := by decide
    omega
  have e2 : bits .and .u64 (x : Int) ((2 ^ 64 - x : Nat) : Int) = ((2 ^ k : Nat) : Int) := by
    rw [bits_and_u64_nat _ _ hx (by have : (2 : Nat) ^ 64 = 18446744073709551616 := (by decide); omega), h]
  obtain ⟨d1, d2⟩ := deBr_at ⟨k, hk⟩
  simp only at d1 d2
  have e3 : IntKind.u64.wrap (((2 ^ k : Nat) : Int) * 285870213051353865) = ((2 ^ k * 285870213051353865 % 18446744073709551616 : Nat) : Int) := by
    rw [IntKind.wrap_u64]; omega
  generalize 2 ^ k * 285870213051353865 % 18446744073709551616 = y at d1 d2 e3
  have hc := ht.2 _ d2
  rw [d1] at hc
  generalize hp : ((2 ^ k : Nat)) = p2 at *
  generalize hn : 2 ^ 64 - x = nx at *
  have j1 : (y : Int) / 288230376151711744 < 64 := by omega
  have j2 : ((y : Int) / 288230376151711744).toNat = y / 288230376151711744 := by omega
  have j0 : (0 : Int) ≤ (y : Int) / 288230376151711744 := by omega
  clear d1 h hp hn hx0
  go_enter Tryd.func43, Tryd.ntmps43
  go_wp2
  go_ret
  exact ⟨rfl, rfl⟩

end Go.Proofs.YtammicfijnffaaaDoor

/-
  lang.places.all: the iterator's contract. Contracts for other texts; no statement of its own.
-/
namespace Go.Proofs.YtammicfijnffaaaDoor
open Go Go.RowKit Go.Shelf
attribute [local go_sem] Oper.semAt_some

/-- A place of q, of so many. -/
abbrev UpAt (q : Nat → Bool) (M : Nat) := { x : Nat // x < M ∧ q x = true }
theorem upP_length (q : Nat → Bool) (m : Nat) : (upP q m).length ≤ m := by
  unfold upP
  exact Nat.le_trans (List.length_filter_le _ _) (by simp)
/-- What a round must keep: the words that are gone through, and the table. -/
def KpW (g : Nat) (W W' : World) : Prop := W.heap.size ≤ W'.heap.size ∧ W'.heap[g]? = W.heap[g]? ∧ W'.heap[0]? = W.heap[0]?
theorem KpW.refl (g : Nat) (W : World) : KpW g W W := ⟨Nat.le_refl _, rfl, rfl⟩
theorem KpW.trans {g : Nat} {A B C : World} (h : KpW g A B) (k : KpW g B C) : KpW g A C := ⟨Nat.le_trans h.1 k.1, k.2.1.trans h.2.1, k.2.2.trans h.2.2⟩
theorem KpW.tab {g : Nat} {W W' : World} (h : KpW g W W') (ht : Tab W) : Tab W' := ⟨Nat.lt_of_lt_of_le ht.1 h.1, fun k hk => (World.cell?_of_block (w := W) (a := ⟨0, k, none⟩) h.2.2).trans (ht.2 k hk)⟩
theorem KpW.cell {g i : Nat} {W W' : World} (h : KpW g W W') : W'.cell? ⟨g, i, none⟩ = W.cell? ⟨g, i, none⟩ := World.cell?_of_block (w := W) (a := ⟨g, i, none⟩) h.2.1
theorem kpw_b {w : World} {g : Nat} (hg : g < w.heap.size) (ht : 0 < w.heap.size) (W : World) (l : Nat) (o o' : Obj) (hl : w.heap.size ≤ l) (h : W.heap[l]? = some o) (_ : o.isCells = false) (_ : o.isWalk = false) : KpW g W (W.putObj l o') :=
  ⟨by simp [World.putObj], World.putObj_heap_other (by omega), World.putObj_heap_other (by omega)⟩

set_option maxRecDepth 20000 in
set_option maxHeartbeats 1000000 in
theorem all1_in (n : Nat) (hn : 1 ≤ n) (l Bn g m c : Nat) (q : Nat → Bool) (hm : m ≤ 1000000) (J Jx : List (UpAt q (64 * m)) → World → Prop)
    (hY : ∀ pre x W, J pre W → pre.length < 64 * m + 1 → YieldAt Fence.wide (n - 1) Tryd.prog l #[.int .i64 (x.1 : Int)] W fun e W' =>
      (e = .returned (.bool true) ∧ J (pre ++ [x]) W' ∧ KpW g W W') ∨ (e = .returned (.bool false) ∧ Jx (pre ++ [x]) W'))
    (W : World) (hBn : W.cell? ⟨Bn, 0, none⟩ = some (.slice (some ⟨g, 0, none⟩) m c)) (hc : ∀ i, i < m → W.cell? ⟨g, i, none⟩ = some (.int .u64 (word q i))) (ht : Tab W) (h0 : J [] W) :
    CallsIn Fence.wide n Tryd.prog 42 #[.func (.yield l) #[] #[], .pointer (some ⟨Bn, 0, none⟩)] W fun e W' => (∃ v, e = .returned v) ∧
      ((∃ ys, ys.map (·.1) = upP q (64 * m) ∧ J ys W') ∨ (∃ pre, True ∧ Jx pre W')) := by
  refine callsIn_of_wp Tryd.func42 rfl trivial ?_ rfl
  simp only [Tryd.ntmps42, List.size_toArray, List.length_cons, List.length_nil, Nat.reduceAdd, Nat.reduceSub, Array.replicate_succ, Array.replicate_zero, List.push_toArray, List.append_toArray, List.nil_append, List.cons_append]
  have HC := Lib.hid hc
  have HY := Lib.hid hY
  clear hc hY
  gi_wp2
  gi_loopg [7] m (fun m' i wr => ∃ (k : Nat) (pre : List (UpAt q (64 * m))), i = .int .i64 (k : Int) ∧ k ≤ m ∧ m' = m - k ∧ pre.map (·.1) = upP q (64 * k) ∧ KpW g W wr ∧ J pre wr)
  case atStart => exact ⟨0, [], rfl, Nat.zero_le _, rfl, rfl, KpW.refl _ _, h0⟩
  case round =>
    obtain ⟨k, pre, rfl, hk, hmk, hpre, hkp, hJ⟩ := hrel
    have HMK := Lib.hid hmk
    have HPRE := Lib.hid hpre
    have HKP := Lib.hid hkp
    have HJ := Lib.hid hJ
    clear hmk hpre hkp hJ
    by_cases hlt : k < m
    · have hcx := HKP.out.cell.trans (HC.out k hlt)
      gi_wp2
      gi_loopg [4] 65 (fun m' x wr2 => ∃ (p : Nat) (pre : List (UpAt q (64 * m))), x = .int .u64 (fromP q k p : Int) ∧ p ≤ 64 ∧ m' = 65 - p ∧ pre.map (·.1) = upP q (64 * k + p) ∧ KpW g W wr2 ∧ J pre wr2)
      case atStart =>
        refine ⟨0, pre, ?_, by omega, rfl, HPRE.out, HKP.out, HJ.out⟩
        rw [fromP_start]
        rfl
      case round =>
        obtain ⟨p, pre2, rfl, hp, hmp, hpre2, hkp2, hJ2⟩ := hrel
        have HMP := Lib.hid hmp
        have HPRE2 := Lib.hid hpre2
        have HKP2 := Lib.hid hkp2
        have HTAB := Lib.hid (hkp2.tab ht)
        clear hmp hpre2 hkp2
        by_cases hx : fromP q k p = 0
        · have hxi : ((fromP q k p : Nat) : Int) = 0 := by omega
          have HX := Lib.hid (fun _ : Unit => hx)
          clear hx
          gi_wp2
          gi_roundg (m - (k + 1))
          case measure => have := HMK.out; omega
          case rel =>
            have h64 : upP q (64 * k + 64) = upP q (64 * k + p) := by
              have := upP_skip (q := q) (a := 64 * k + p) (64 - p) fun j h1 h2 => by
                have := fromP_none (HX.out ()) (j - 64 * k) (by omega) (by omega)
                rwa [show 64 * k + (j - 64 * k) = j by omega] at this
              rwa [show 64 * k + p + (64 - p) = 64 * k + 64 by omega] at this
            exact ⟨k + 1, pre2, by go_num, by omega, rfl, by rw [show 64 * (k + 1) = 64 * k + 64 by omega, h64]; exact HPRE2.out, HKP2.out, hJ2⟩
        · obtain ⟨j, hj1, hj2, hj3, hj4, hj5, hj6⟩ := fromP_next hx
          have hxl := fromP_lt q k p
          have e1 : IntKind.u64.wrap (((fromP q k p : Nat) : Int) - 1) = ((fromP q k p - 1 : Nat) : Int) := by
            rw [IntKind.wrap_u64]; omega
          have e2 : bits .and .u64 ((fromP q k p : Nat) : Int) ((fromP q k p - 1 : Nat) : Int) = ((fromP q k (j + 1) : Nat) : Int) := by
            rw [bits_and_u64_nat _ _ hxl (by omega), hj5]
          have hxi : ¬ ((fromP q k p : Nat) : Int) = 0 := by omega
          have hlen : pre2.length < 64 * m + 1 := by
            have h1 := congrArg List.length HPRE2.out
            have h2 := upP_length q (64 * k + p)
            rw [List.length_map] at h1
            omega
          obtain ⟨xx, hxx⟩ : ∃ xx : UpAt q (64 * m), xx.1 = 64 * k + j := ⟨⟨64 * k + j, by omega, hj3⟩, rfl⟩
          obtain ⟨fn, tmps, assign, body, hy, hR⟩ := HY.out pre2 xx wr hJ2 hlen
          rw [hxx] at hy
          push_cast at hy
          have HXX := Lib.hid hxx
          have HTZ := Lib.hid (fun N => (callsIn_wide (n := N)).2 (tz_p wr (fromP q k p) j hxl hj2 hj6 HTAB.out))
          have HJ3 := Lib.hid hj3
          have HJ4 := Lib.hid hj4
          generalize hgx : fromP q k p = x at *
          generalize hgy : fromP q k (j + 1) = y at *
          have HGX := Lib.hid (fun _ : Unit => hgx)
          have HGY := Lib.hid (fun _ : Unit => hgy)
          have HR := Lib.hid hR
          have HXL := Lib.hid hxl
          have HJ1 := Lib.hid hj1
          clear hgx hgy hj3 hj4 hj5 hj6 hJ2 hx HTAB hxx hR hxl hj1 hlen
          gi_wp2_with (refine ⟨trivial, ?_⟩; gi_at_call 43; refine (HTZ.out _).mono ?_; rintro e w1 ⟨rfl, rfl⟩)
          refine HR.out.mono ?_
          have hup : (pre2 ++ [xx]).map (·.1) = upP q (64 * k + (j + 1)) := by
            rw [List.map_append, HPRE2.out, show 64 * k + (j + 1) = 64 * k + j + 1 by omega, upP_hit HJ3.out]
            have := upP_skip (q := q) (a := 64 * k + p) (j - p) fun i h1 h2 => by
              have := HJ4.out (i - 64 * k) (by omega) (by omega)
              rwa [show 64 * k + (i - 64 * k) = i by omega] at this
            rw [show 64 * k + p + (j - p) = 64 * k + j by have := HJ1.out; omega] at this
            rw [this]
            simp [HXX.out]
          have HUP := Lib.hid hup
          clear hup
          rintro e W3 (⟨rfl, hJ3, hk3⟩ | ⟨rfl, hJx3⟩)
          · have HJ3' := Lib.hid hJ3
            have HK3 := Lib.hid hk3
            clear hJ3 hk3
            gi_wp2
            gi_roundg (65 - (j + 1))
            case measure => have := HMP.out; have := HJ1.out; omega
            case rel =>
              have hy' := HGY.out ()
              exact ⟨j + 1, pre2 ++ [xx], by rw [hy'], by omega, rfl, HUP.out, HKP2.out.trans HK3.out, HJ3'.out⟩
          · have HJX3 := Lib.hid hJx3
            clear hJx3
            gi_wp2
            refine bodyPost_ret (results_none rfl _ _ _) rfl ?_
            exact ⟨⟨_, rfl⟩, .inr ⟨_, trivial, HJX3.out⟩⟩
    · have hkm : k = m := by omega
      have HKM := Lib.hid hkm
      clear hkm
      gi_wp2
      go_end0
      exact ⟨⟨_, rfl⟩, .inl ⟨pre, by rw [HPRE.out, HKM.out], HJ.out⟩⟩

set_option maxHeartbeats 1000000 in
theorem all_in (n : Nat) (a : Option Addr) (len cap : Nat) (w : World) :
    CallsIn Fence.wide n Tryd.prog 38 #[.slice a len cap] w fun e w' => e = .returned (.func (.func 42) #[] #[.pointer (some ⟨w.heap.size, 0, none⟩)]) ∧ w' = w.alloc (.cells #[.slice a len cap] 66) := by
  refine callsIn_of_wp Tryd.func38 rfl trivial ?_ rfl
  simp only [Tryd.ntmps38, List.size_toArray, List.length_cons, List.length_nil, Nat.reduceAdd, Nat.reduceSub, Array.replicate_succ, Array.replicate_zero, List.push_toArray, List.append_toArray, List.nil_append, List.cons_append]
  gi_wp2
  go_ret
  exact ⟨rfl, rfl⟩

/-- What all hands back gives the places, rising. -/
theorem all_stops (n : Nat) (hn : 1 ≤ n) (Bn g m c C : Nat) (q : Nat → Bool) (hm : m ≤ 1000000) (w : World) (hBn : Bn < w.heap.size) (hcb : w.cell? ⟨Bn, 0, none⟩ = some (.slice (some ⟨g, 0, none⟩) m c)) (hp : Pl w C (.slice (some ⟨g, 0, none⟩) m c) m q) (hg : g < w.heap.size) (ht : Tab w) :
    SeqStopsK Fence.wide n Tryd.prog 42 #[.pointer (some ⟨Bn, 0, none⟩)] (fun x : UpAt q (64 * m) => #[Value.int .i64 (x.1 : Int)]) (KpW g) (fun ys => ys.map (·.1) = upP q (64 * m)) (fun _ => True) (64 * m + 1) w := fun l J Jx W hW _ _ hY h0 =>
  all1_in n hn l Bn g m c q hm J Jx hY W ((hW.cell (p := ⟨Bn, 0, none⟩) hBn).trans hcb) (fun i hi => (hW.cell (p := ⟨g, i, none⟩) hg).trans (hp.cell i hi)) (ht.below hW ht.1) h0

end Go.Proofs.YtammicfijnffaaaDoor

/-
  Places in memory: slices.Clone, slices.Equal, without. Contracts for other texts; no statement of its own.
-/
namespace Go.Proofs.YtammicfijnffaaaDoor
open Go Go.RowKit
attribute [local go_sem ↓] Go.wp_at_zero Go.wp_at_succ

theorem wordsOf_one (q : Nat → Bool) (m : Nat) : ∀ u ∈ wordsOf q m, u.oneCell' = true := by
  intro u hu
  simp only [wordsOf, List.mem_map] at hu
  obtain ⟨i, _, rfl⟩ := hu
  rfl
set_option maxHeartbeats 1000000 in
theorem clone_p (w : World) (C m : Nat) (v : Value) (q : Nat → Bool) (h : Pl w C v m q) (hm0 : 0 < m) (hm : m ≤ 1000000) :
    Calls Tryd.prog 45 #[v] w (RetPl w m q) := by
  obtain ⟨i0, hi, hz0, hz1, hz2⟩ := info_parts Tryd.infoWord
  obtain ⟨g, c, rfl, _, hg⟩ := h.form hm0
  have hown : (w.alloc (.cells #[] 24)).ownsRow w.heap.size 24 1 (.slice (some ⟨w.heap.size, 0, none⟩) 0 0) 0 [] := World.ownsRow_lit w #[] 0 (Nat.le_refl _) (by decide) rfl
  have hnews : ∀ j u, (wordsOf q m)[j]? = some u → (w.alloc (.cells #[] 24)).cell? ((⟨g, 0, none⟩ : Addr).add j) = some u := by
    intro j u hu
    have hj : j < m := by
      rcases Nat.lt_or_ge j m with h' | h'
      · exact h'
      · rw [List.getElem?_eq_none (by rw [wordsOf_len]; exact h')] at hu; cases hu
    rw [wordsOf_at q m j hj] at hu
    have hu' := Option.some.inj hu
    rw [← hu']
    have e : (⟨g, 0, none⟩ : Addr).add j = ⟨g, j, none⟩ := by unfold Addr.add; split <;> simp_all
    rw [e]
    exact cell_stays (h.cell j hj) ((Below.refl _ _).alloc (Nat.le_refl _) _)
  have HO := Lib.hid hown
  have HN := Lib.hid hnews
  have hnil : ∀ W, (binOp .eql 66 (.slice (some ⟨g, 0, none⟩) m c) (.slice none 0 0)).run Tryd.prog W = .ok (.bool false) W := fun W => Lib.run_eql_slice_some_nil W _ _ _ Tryd.underlying66
  clear hown hnews h
  go_enter Tryd.func45, Tryd.ntmps45
  go_wp2_with (at_builtin; refine wpList_append_own _ rfl _ _ 66 rfl w.heap.size 24 i0 (.int .u64 0) 1 8 Tryd.underlying66 hi hz0 hz1 hz2 rfl (by decide) _ _ _ rfl HO.out ⟨g, 0, none⟩ m c (wordsOf q m) rfl (by rw [wordsOf_len, Nat.mul_one]) HN.out (wordsOf_one q m) ?c3 ?c4 ?c5 ?_)
  case c3 => unfold maxLen; omega
  case c4 => omega
  case c5 => simp
  · intro v' w2 hown' hgrow _
    have HO2 := Lib.hid hown'
    have hB2 : Below w.heap.size w w2 := ((Below.refl _ _).alloc (Nat.le_refl _) _).grown hgrow (by simp) (fun j e => ((HO.out).lt j e).1)
    clear hgrow hown'
    go_wp2
    go_ret
    refine ⟨v', rfl, ?_, hB2⟩
    exact HO2.out

set_option maxHeartbeats 1000000 in
theorem equal_p (w : World) (B C m : Nat) (v v2 : Value) (q r : Nat → Bool) (h : Pl w B v m q) (h2 : Pl w C v2 m r) (hm0 : 0 < m) (hm : m ≤ 1000000) :
    Calls Tryd.prog 44 #[v, v2] w fun e w' => ∃ b : Bool, e = .returned (.bool b) ∧ (b = true ↔ ∀ i, i < m → word q i = word r i) ∧ Below w.heap.size w w' := by
  obtain ⟨g, c, rfl, _, _⟩ := h.form hm0
  obtain ⟨g2, c2, rfl, _, _⟩ := h2.form hm0
  have H1 := Lib.hid h
  have H2 := Lib.hid h2
  clear h h2
  go_enter Tryd.func44, Tryd.ntmps44
  go_wp2
  go_loopg [13] m (fun m' i wr => ∃ j : Nat, i = .int .i64 (j : Int) ∧ j ≤ m ∧ m' = m - j ∧ (∀ k, k < j → word q k = word r k) ∧ Below w.heap.size w wr)
  case atStart => exact ⟨0, rfl, Nat.zero_le _, rfl, fun k hk => by omega, Below.refl _ _⟩
  case round =>
    obtain ⟨j, rfl, hj, hmj, hz, hW⟩ := hrel
    have HMJ := Lib.hid hmj
    have HZ := Lib.hid hz
    clear hmj hz
    by_cases hlt : j < m
    · have hc := (H1.out.stays hW).cell j hlt
      have hc2 := (H2.out.stays hW).cell j hlt
      have j0 : (0 : Int) ≤ (j : Int) := by omega
      have j1 : (j : Int) < (m : Int) := by omega
      cases hb : (word q j != word r j)
      · go_wp2_with fail
        go_quiet (fail)
        go_wp2
        go_roundg (m - (j + 1))
        case measure => have := HMJ.out; omega
        case rel =>
          refine ⟨j + 1, by go_num, by omega, rfl, fun k hk => ?_, below_drewN hW _⟩
          by_cases hk2 : k < j
          · exact HZ.out k hk2
          · have : k = j := by omega
            subst this
            simpa using hb
      · go_wp2_with fail
        go_quiet (fail)
        go_wp2
        go_ret
        refine ⟨false, rfl, ⟨fun h => (by cases h), fun h => ?_⟩, below_drewN hW _⟩
        rw [h j hlt] at hb
        simp at hb
    · go_wp2
      go_ret
      exact ⟨true, rfl, ⟨fun _ k hk => HZ.out k (by omega), fun _ => rfl⟩, hW⟩

set_option maxHeartbeats 1000000 in
theorem without_p (w : World) (B C m : Nat) (v v2 : Value) (q r : Nat → Bool) (h : Pl w B v m q) (h2 : Pl w C v2 m r) (hm0 : 0 < m) (hm : m ≤ 1000000) :
    Calls Tryd.prog 46 #[v, v2] w (RetPl w m (minusP q r)) := by
  obtain ⟨g2, c2, rfl, _, hg4⟩ := h2.form hm0
  have H2 := Lib.hid h2
  have HC := Lib.hid (clone_p w B m v q h hm0 hm)
  unfold RetPl at HC
  clear h h2
  go_enter Tryd.func46, Tryd.ntmps46
  go_wp2_with (go_at_call 45; (with_reducible refine HC.out.mono ?_); rintro e w1 ⟨v1, rfl, hv1, hb1⟩; obtain ⟨g, c, rfl, hg1, hg2⟩ := hv1.form hm0; have HV := Lib.hid hv1; clear hv1)
  obtain ⟨w4, hw4⟩ : ∃ w4, w4 = w1 := ⟨_, rfl⟩
  rw [← hw4] at HV hb1 hg2 ⊢
  clear hw4
  go_loopg [12] m (fun m' i wr => ∃ j : Nat, i = .int .i64 (j : Int) ∧ j ≤ m ∧ m' = m - j ∧ Pl wr w.heap.size (.slice (some ⟨g, 0, none⟩) m c) m (mixP q (minusP q r) j) ∧ Below w.heap.size w wr)
  case atStart => exact ⟨0, rfl, Nat.zero_le _, rfl, HV.out.congr fun i hi => (mix_ge _ _ _ _ (Nat.zero_le _)).symm, hb1⟩
  case round =>
    obtain ⟨j, rfl, hj, hmj, hpl, hW⟩ := hrel
    have HMJ := Lib.hid hmj
    have HPL := Lib.hid hpl
    clear hmj hpl
    by_cases hlt : j < m
    · have hc := HPL.out.cell j hlt
      have hf := HPL.out.frozen j
      rw [mix_ge _ _ _ _ (Nat.le_refl _)] at hc
      have hc2 := (H2.out.stays hW).cell j hlt
      have HO := Lib.hid (minus_words q r j)
      have hst := HPL.out.set (q' := mixP q (minusP q r) (j + 1)) j hlt (fun i hi => mix_step _ _ j i hi)
      rw [mix_lt _ _ _ _ (Nat.lt_succ_self j)] at hst
      have HST := Lib.hid hst
      clear hst
      go_wp2
      go_roundg (m - (j + 1))
      case measure => have := HMJ.out; omega
      case rel =>
        rw [HO.out]
        exact ⟨j + 1, by go_num, by omega, rfl, HST.out.1, hW.grown HST.out.2 hW.size (fun k e => by injection e with e; omega)⟩
    · have hjm : j = m := by omega
      go_wp2
      go_ret
      exact ⟨_, rfl, HPL.out.congr fun i hi => mix_lt _ _ _ _ (by omega), hW⟩

end Go.Proofs.YtammicfijnffaaaDoor

/-
  How long words are, up to 1000: plain mathematics; no statement of its own.
-/
namespace Go.Proofs.YtammicfijnffaaaDoor
open Go Go.RowKit

def best1 (most : Bool) (a b : Nat) : Nat := if most then max a b else min a b
/-- The least, or the greatest, of all. -/
def bestN (most : Bool) : List Nat → Nat
  | [] => 0
  | a :: l => l.foldl (best1 most) a
mutual
/-- How many bytes a word has at least, or at most, up to 1000. -/
def lenN (most : Bool) : T → Nat
  | .mk op p lo hi l => min (if op = 1 then 1 else if op = 2 then (lenL most l).sum else if op = 3 then bestN most (lenL most l) else if op = 4 then (if most then hi else lo).toNat * bestN most (lenL most l) else 0) 1000
def lenL (most : Bool) : List T → List Nat
  | [] => []
  | t :: ts => lenN most t :: lenL most ts
end
theorem lenN_le (most : Bool) (t : T) : lenN most t ≤ 1000 := by cases t; unfold lenN; omega
theorem lenL_map (most : Bool) (l : List T) : lenL most l = l.map (lenN most) := by
  induction l with
  | nil => rfl
  | cons t ts ih => simp [lenL, ih]
theorem sum_le (most : Bool) : ∀ (l : List T), (lenL most l).sum ≤ 1000 * l.length
  | [] => by simp [lenL]
  | t :: ts => by
    have := sum_le most ts
    have := lenN_le most t
    simp [lenL]
    omega
theorem sum_take (most : Bool) (l : List T) (j : Nat) (h : j < l.length) : (lenL most (l.take (j + 1))).sum = (lenL most (l.take j)).sum + lenN most (l[j]'h) := by
  rw [List.take_succ_eq_append_getElem h, lenL_map, lenL_map, List.map_append, List.sum_append]
  simp only [List.map_cons, List.map_nil, List.sum_cons, List.sum_nil, Nat.add_zero]
theorem best_snoc (most : Bool) (l : List Nat) (b : Nat) (h : l ≠ []) : bestN most (l ++ [b]) = best1 most (bestN most l) b := by
  cases l with
  | nil => exact absurd rfl h
  | cons a l => simp [bestN]
theorem best_take (most : Bool) (l : List T) (j : Nat) (h : j < l.length) (h0 : 0 < j) : bestN most (lenL most (l.take (j + 1))) = best1 most (bestN most (lenL most (l.take j))) (lenN most (l[j]'h)) := by
  rw [List.take_succ_eq_append_getElem h, lenL_map, lenL_map, List.map_append]
  refine best_snoc most _ _ ?_
  intro e
  have := congrArg List.length e
  rw [List.length_map, List.length_take, List.length_nil] at this
  omega
theorem best1_le {most : Bool} {a b N : Nat} (ha : a ≤ N) (hb : b ≤ N) : best1 most a b ≤ N := by unfold best1; split <;> omega
theorem bestN_le (most : Bool) (N : Nat) : ∀ (l : List Nat), (∀ x ∈ l, x ≤ N) → bestN most l ≤ N
  | [], _ => Nat.zero_le _
  | a :: l, h => by
    have key : ∀ (l : List Nat) (a : Nat), a ≤ N → (∀ x ∈ l, x ≤ N) → l.foldl (best1 most) a ≤ N := by
      intro l
      induction l with
      | nil => intro a ha _; exact ha
      | cons b l ih => intro a ha hl; exact ih _ (best1_le ha (hl b (by simp))) fun x hx => hl x (by simp [hx])
    exact key l a (h a (by simp)) fun x hx => h x (by simp [hx])
theorem best_le (most : Bool) (l : List T) : bestN most (lenL most l) ≤ 1000 := by
  refine bestN_le most 1000 _ fun x hx => ?_
  rw [lenL_map] at hx
  simp only [List.mem_map] at hx
  obtain ⟨t, _, rfl⟩ := hx
  exact lenN_le most t
theorem best_one (most : Bool) (l : List T) (h : 0 < l.length) : bestN most (lenL most (l.take 1)) = lenN most (l[0]'h) := by
  cases l with
  | nil => simp at h
  | cons a l => simp [lenL, bestN]
end Go.Proofs.YtammicfijnffaaaDoor

/-
  How long words are: without any bound, and held to one. Plain mathematics; no statement of its own.
-/
namespace Go.Proofs.YtammicfijnffaaaDoor
open Go

mutual
def LenU (most : Bool) : T → Nat
  | .mk op p lo hi l => if op = 1 then 1 else if op = 2 then (LenL most l).sum else if op = 3 then bestN most (LenL most l) else if op = 4 then (if most then hi else lo).toNat * bestN most (LenL most l) else 0
def LenL (most : Bool) : List T → List Nat
  | [] => []
  | t :: ts => LenU most t :: LenL most ts
end
theorem LenL_map (most : Bool) (l : List T) : LenL most l = l.map (LenU most) := by
  induction l with
  | nil => rfl
  | cons t ts ih => simp [LenL, ih]

/-- Sums held to a bound at each step. -/
theorem min_add (a b L : Nat) : min (min a L + min b L) L = min (a + b) L := by omega
theorem min_sum (L : Nat) (f : T → Nat) : ∀ (l : List T), min ((l.map fun x => min (f x) L).sum) L = min ((l.map f).sum) L
  | [] => rfl
  | t :: ts => by
    have ih := min_sum L f ts
    simp only [List.map_cons, List.sum_cons]
    omega
theorem best1_min (most : Bool) (a b L : Nat) : best1 most (min a L) (min b L) = min (best1 most a b) L := by
  unfold best1; split <;> omega
theorem foldl_min (most : Bool) (L : Nat) (f : T → Nat) : ∀ (l : List T) (a : Nat), (l.map fun x => min (f x) L).foldl (best1 most) (min a L) = min ((l.map f).foldl (best1 most) a) L
  | [], a => rfl
  | t :: ts, a => by
    simp only [List.map_cons, List.foldl_cons]
    rw [best1_min, foldl_min most L f ts]
theorem min_best (most : Bool) (L : Nat) (f : T → Nat) (l : List T) : bestN most (l.map fun x => min (f x) L) = min (bestN most (l.map f)) L := by
  cases l with
  | nil => simp [bestN]
  | cons t ts => exact foldl_min most L f ts (f t)
theorem min_mul (k x L : Nat) : min (k * min x L) L = min (k * x) L := by
  rcases Nat.le_total x L with h | h
  · rw [Nat.min_eq_left h]
  · rw [Nat.min_eq_right h]
    cases k with
    | zero => simp
    | succ k =>
      have h1 : L ≤ (k + 1) * L := Nat.le_mul_of_pos_left _ (by omega)
      have h2 : L ≤ (k + 1) * x := Nat.le_trans h (Nat.le_mul_of_pos_left _ (by omega))
      omega
theorem lenN_eq (most : Bool) {t : T} (h : WF t) : lenN most t = min (LenU most t) 1000 := by
  induction h with
  | one p => simp [lenN, LenU]
  | cat l h2 hN h ih =>
    have e : l.map (lenN most) = l.map fun x => min (LenU most x) 1000 := List.map_congr_left ih
    simp only [lenN, LenU, lenL_map, LenL_map, e]
    simp
    exact min_sum 1000 (LenU most) l
  | alt l h2 hN h ih =>
    have e : l.map (lenN most) = l.map fun x => min (LenU most x) 1000 := List.map_congr_left ih
    simp only [lenN, LenU, lenL_map, LenL_map, e]
    simp
    rw [min_best]
    omega
  | rep m n t h0 h1 h2 h3 h ih =>
    simp only [lenN, LenU, lenL_map, LenL_map]
    simp [bestN]
    rw [ih]
    exact min_mul _ _ _

/-! Words are as long as that. -/
theorem bestN_mem_le (l : List Nat) (x : Nat) (hx : x ∈ l) : bestN false l ≤ x ∧ x ≤ bestN true l := by
  have key : ∀ (l : List Nat) (a x : Nat), (x = a ∨ x ∈ l) → l.foldl (best1 false) a ≤ x ∧ x ≤ l.foldl (best1 true) a := by
    intro l
    induction l with
    | nil => intro a x h; simp at h; simp [h]
    | cons b l ih =>
      intro a x h
      simp only [List.foldl_cons]
      have hb0 : best1 false a b ≤ a ∧ best1 false a b ≤ b := by unfold best1; simp; omega
      have hb1 : a ≤ best1 true a b ∧ b ≤ best1 true a b := by unfold best1; simp; omega
      have hs0 := (ih (best1 false a b) (best1 false a b) (.inl rfl)).1
      have hs1 := (ih (best1 true a b) (best1 true a b) (.inl rfl)).2
      rcases h with rfl | h
      · omega
      · simp only [List.mem_cons] at h
        rcases h with rfl | h
        · omega
        · exact ⟨(ih _ x (.inr h)).1, (ih _ x (.inr h)).2⟩
  cases l with
  | nil => simp at hx
  | cons a l =>
    simp only [List.mem_cons] at hx
    exact key l a x hx
theorem iter_len {xs : List Int} {t : T} (h : ∀ i j, i ≤ xs.length → E xs t i j → i + LenU false t ≤ j ∧ j ≤ i + LenU true t) (hwf : WF t) : ∀ (m i j : Nat), i ≤ xs.length → iter (E xs t) m i j → i + m * LenU false t ≤ j ∧ j ≤ i + m * LenU true t
  | 0, i, j, hi, e => by have e' : i = j := e; omega
  | m + 1, i, j, hi, ⟨k, h1, h2⟩ => by
    have a := iter_len h hwf m i k hi h1
    have b := h k j (iter_bd (E_bd hwf) m i k hi h1).2 h2
    rw [Nat.add_mul, Nat.add_mul]
    omega
theorem E_len {xs : List Int} {t : T} (ht : WF t) : ∀ i j, i ≤ xs.length → E xs t i j → i + LenU false t ≤ j ∧ j ≤ i + LenU true t := by
  induction ht with
  | one p => intro i j hi h; rw [E_one] at h; simp [LenU]; omega
  | cat l h2 hN h ih =>
    intro i j hi hE
    rw [E_cat] at hE
    have e0 : LenU false (.mk 2 noneP 0 0 l) = (LenL false l).sum := by simp [LenU]
    have e1 : LenU true (.mk 2 noneP 0 0 l) = (LenL true l).sum := by simp [LenU]
    rw [e0, e1]
    clear h2 hN e0 e1
    induction l generalizing i with
    | nil => have e : i = j := hE; simp [LenL]; omega
    | cons t ts ih' =>
      obtain ⟨k, h1, h3⟩ := hE
      have a := ih t (by simp) i k hi h1
      have b := ih' (fun x hx => h x (by simp [hx])) (fun x hx => ih x (by simp [hx])) k (E_bd (h t (by simp)) i k hi h1).2 h3
      simp only [LenL, List.sum_cons]
      omega
  | alt l h2 hN h ih =>
    intro i j hi hE
    rw [E_alt, EAny_iff] at hE
    obtain ⟨t, ht, hE⟩ := hE
    have a := ih t ht i j hi hE
    have e0 : LenU false (.mk 3 noneP 0 0 l) = bestN false (LenL false l) := by simp [LenU]
    have e1 : LenU true (.mk 3 noneP 0 0 l) = bestN true (LenL true l) := by simp [LenU]
    have b := (bestN_mem_le (LenL false l) (LenU false t) (by rw [LenL_map]; exact List.mem_map_of_mem ht)).1
    have c := (bestN_mem_le (LenL true l) (LenU true t) (by rw [LenL_map]; exact List.mem_map_of_mem ht)).2
    omega
  | rep m n t h0 h1 h2 h3 h ih =>
    intro i j hi hE
    rw [E_rep] at hE
    obtain ⟨k, h4, h5, hE⟩ := hE
    rw [EAny_one] at hE
    have a := iter_len ih h k i j hi hE
    have e0 : LenU false (.mk 4 noneP m n [t]) = m.toNat * LenU false t := by simp [LenU, LenL, bestN]
    have e1 : LenU true (.mk 4 noneP m n [t]) = n.toNat * LenU true t := by simp [LenU, LenL, bestN]
    rw [e0, e1]
    have b : m.toNat * LenU false t ≤ k * LenU false t := Nat.mul_le_mul_right _ (by omega)
    have c : k * LenU true t ≤ n.toNat * LenU true t := Nat.mul_le_mul_right _ (by omega)
    omega

end Go.Proofs.YtammicfijnffaaaDoor
