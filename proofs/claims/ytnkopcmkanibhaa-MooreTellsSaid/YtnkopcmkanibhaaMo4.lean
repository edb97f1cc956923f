/-
  Several texts of this proof in one file: MooAhMath, MooAhead, ClsMath, SetHas, Split, ClassOf. No statement of its own.
-/
import Derived.Test.YtnkopcmkanibhaaMo3
import Derived.Laws.BitsAllLaws
import Derived.Test.YtnkopcmkanibhaaMo1
import Derived.Deep.DrawnRows
import Derived.Deep.LoopGhost
set_option linter.unusedVariables false
set_option linter.unusedSimpArgs false

/-
  moore: where there may be words with one byte more. Plain mathematics, and a row of numbers in memory; no statement of its own.
-/
namespace Go.Proofs.Ytnkopcmkanibhaa
open Go Go.RowKit

/-- Lengths of one byte more, but for those of lam bytes. -/
def lon (lam x : Nat) : Nat := x % 2 ^ lam * 2
theorem cut_lam (lam x : Nat) (hl : lam ≤ 32) (hx : x < 2 ^ (lam + 1)) : x &&& (18446744073709551615 - 2 ^ lam) = x % 2 ^ lam := by
  apply Nat.eq_of_testBit_eq
  intro i
  have h64 : 2 ^ lam < 2 ^ 64 := Nat.pow_lt_pow_right (by omega) (by omega)
  have e : 18446744073709551615 - 2 ^ lam = 2 ^ 64 - (2 ^ lam + 1) := by omega
  rw [Nat.testBit_and, e, Nat.testBit_two_pow_sub_succ h64, Nat.testBit_mod_two_pow, Nat.testBit_two_pow]
  by_cases h1 : i < lam
  · have h2 : ¬ lam = i := by omega
    have h3 : i < 64 := by omega
    simp [h1, h2, h3]
  · by_cases h2 : lam = i
    · simp [h1, h2]
    · have h4 : x.testBit i = false := Nat.testBit_lt_two_pow (Nat.lt_of_lt_of_le hx (Nat.pow_le_pow_right (by omega) (by omega)))
      simp [h1, h4]
theorem lon_lt (lam x : Nat) : lon lam x < 2 ^ (lam + 1) := by
  unfold lon
  have := Nat.mod_lt x (Nat.two_pow_pos lam)
  rw [Nat.pow_succ]
  omega
def addTo (L : List Nat) (p n : Nat) : List Nat := L.set p (L.getD p 0 ||| n)
def mAddAll (L : List Nat) (base n : Nat) : List Nat → List Nat
  | [] => L
  | q :: qs => mAddAll (addTo L (base + q) n) base n qs
def aheadF (L : List Nat) : List Nat → List Nat
  | [] => L
  | p :: ps => aheadF (L.set p 2) ps
def aheadS (R : RSt) (L : List Nat) : List (Nat × Nat) → List Nat
  | [] => L
  | x :: xs => aheadS R (match R.places[x.1]? with | some p => mAddAll L p.base (lon R.lam x.2) p.fol | none => L) xs
/-- Of the first k places those with lengths. -/
def picked (L : List Nat) (k : Nat) : List (Nat × Nat) := (List.range k).filterMap fun p => if L.getD p 0 = 0 then none else some (p, L.getD p 0)
theorem picked_succ (L : List Nat) (k : Nat) : picked L (k + 1) = picked L k ++ (if L.getD k 0 = 0 then [] else [(k, L.getD k 0)]) := by
  unfold picked
  rw [List.range_succ, List.filterMap_append]
  congr 1
  split <;> simp_all
theorem picked_len (L : List Nat) (k : Nat) : (picked L k).length ≤ k := by
  have := List.length_filterMap_le (fun p => if L.getD p 0 = 0 then none else some (p, L.getD p 0)) (List.range k)
  simpa [picked] using this
def aheadN (R : RSt) (st : List (Nat × Nat)) : List Nat := aheadS R (aheadF (List.replicate R.places.length 0) R.first) st
/-- What ahead tells. -/
def aheadL (R : RSt) (st : List (Nat × Nat)) : List (Nat × Nat) := picked (aheadN R st) R.places.length
theorem addTo_len (L : List Nat) (p n : Nat) : (addTo L p n).length = L.length := by simp [addTo]
theorem mAddAll_len : ∀ (qs : List Nat) (L : List Nat) (base n : Nat), (mAddAll L base n qs).length = L.length
  | [], L, base, n => rfl
  | q :: qs, L, base, n => by rw [mAddAll, mAddAll_len qs, addTo_len]
theorem aheadF_len : ∀ (ps : List Nat) (L : List Nat), (aheadF L ps).length = L.length
  | [], L => rfl
  | p :: ps, L => by rw [aheadF, aheadF_len ps]; simp
theorem aheadS_len (R : RSt) : ∀ (st : List (Nat × Nat)) (L : List Nat), (aheadS R L st).length = L.length
  | [], L => rfl
  | x :: xs, L => by
    rw [aheadS, aheadS_len R xs]
    split
    · rw [mAddAll_len]
    · rfl
def Und (lam : Nat) (L : List Nat) : Prop := ∀ x ∈ L, x < 2 ^ (lam + 1)
theorem Und.getD {lam : Nat} {L : List Nat} (h : Und lam L) (p : Nat) : L.getD p 0 < 2 ^ (lam + 1) := by
  rw [List.getD_eq_getElem?_getD]
  cases e : L[p]? with
  | none => exact Nat.two_pow_pos _
  | some v => exact h v (List.mem_of_getElem? e)
theorem Und.set {lam p v : Nat} {L : List Nat} (h : Und lam L) (hv : v < 2 ^ (lam + 1)) : Und lam (L.set p v) := fun x hx => by
  rcases List.mem_or_eq_of_mem_set hx with h1 | h1
  · exact h x h1
  · rw [h1]; exact hv
theorem Und.addTo {lam p n : Nat} {L : List Nat} (h : Und lam L) (hn : n < 2 ^ (lam + 1)) : Und lam (addTo L p n) := h.set (Nat.or_lt_two_pow (h.getD p) hn)

/-- A row of numbers in memory of one's own. -/
def U64s (w : World) (C g : Nat) (L : List Nat) : Prop := w.ownsRow C 49 1 (.slice (some ⟨g, 0, none⟩) L.length L.length) L.length (L.map fun (x : Nat) => Value.int .u64 (x : Int))
section
variable {w w' : World} {C g : Nat} {L : List Nat} {Q : Nat → Prop}
theorem U64s.cell (h : U64s w C g L) (j : Nat) (hj : j < L.length) : w.cell? ⟨g, j, none⟩ = some (.int .u64 (L.getD j 0 : Nat)) := by
  rw [World.ownsRow.cellAt h j (by omega)]
  simp [hj]
theorem U64s.frozen (h : U64s w C g L) (j : Nat) : w.frozen? ⟨g, j, none⟩ = false := World.ownsRow.frozenAt h j
theorem U64s.in (h : U64s w C g L) : C ≤ g ∧ g < w.heap.size := World.ownsRow.lt h g rfl
theorem U64s.block (h : U64s w C g L) (hb : w'.heap[g]? = w.heap[g]?) : U64s w' C g L := own_block h fun b e _ => by injection e with e; subst e; exact hb
theorem U64s.stays (h : U64s w C g L) (hb : Below w.heap.size w w') : U64s w' C g L := h.block (hb.block g h.in.2)
theorem U64s.off (h : U64s w C g L) (hk : Kept Q w w') (hq : ¬ Q g) : U64s w' C g L := h.block (hk.block g h.in.2 hq)
theorem U64s.set (h : U64s w C g L) (p : Nat) (v : Nat) : U64s (w.setCell ⟨g, p, none⟩ (.int .u64 (v : Int))) C g (L.set p v) := by
  have := (World.ownsRow.stored h p (.int .u64 (v : Int))).1
  unfold U64s
  rw [List.length_set, List.map_set]
  exact this
end
theorem u64s_made (n : Nat) : (madeCells (Value.int .u64 0).cells (n * 1)).toList = (List.replicate n 0).map fun (x : Nat) => Value.int .u64 (x : Int) := by
  have := toList_madeCells_one (Value.int .u64 0) n
  rw [Nat.mul_one]
  rw [show (madeCells (Value.int .u64 0).cells n).toList = List.replicate n (Value.int .u64 0) from this, List.map_replicate]
  rfl
end Go.Proofs.Ytnkopcmkanibhaa

/-
  moore: where there may be words with one byte more. Contracts for other texts; no statement of its own.
-/
namespace Go.Proofs.Ytnkopcmkanibhaa
open Go Go.RowKit
attribute [local go_sem ↓] Go.wp_at_zero Go.wp_at_succ

theorem Try.infoU64 : (Try.prog.info? 49).map (fun i => (i.zero, i.size, i.bytes)) = some (some (.int .u64 0), 1, 8) := by kernel_rfl
theorem kept_dn {Q : Nat → Prop} {w w' : World} (h : Kept Q w w') (n : Nat) : Kept Q w (w'.drewN n) := ⟨h.os, h.tape, h.output, h.size, h.block⟩
theorem own_formM {w : World} {B e size n : Nat} {v : Value} {xs : List Value} (h : w.ownsRow B e size v n xs) : ∃ A c, v = .slice A n c := by
  rcases h.2 with ⟨rfl, h0⟩ | ⟨g, cap, cur, rfl, _⟩
  · exact ⟨none, 0, by rw [h0]⟩
  · exact ⟨_, _, rfl⟩
theorem Wds.low {w : World} {B C : Nat} {v : Value} {l : List (Nat × Nat)} (h : Wds w B v l) (hb : C ≤ B) : Wds w C v l := by
  refine ⟨h.1, ?_⟩
  rcases h.2 with h | ⟨g, cap, cur, e, hB, r⟩
  · exact .inl h
  · exact .inr ⟨g, cap, cur, e, Nat.le_trans hb hB, r⟩
/-- Rules that may be. -/
structure Valid (R : RSt) : Prop where
  lam : 1 ≤ R.lam ∧ R.lam ≤ 32
  P : R.places.length ≤ 100000
  first : ∀ p ∈ R.first, p < R.places.length
  firstN : R.first.length ≤ 100000
  fol : ∀ (i : Nat) p, R.places[i]? = some p → (∀ q ∈ p.fol, p.base + q < R.places.length) ∧ p.fol.length ≤ 100000 ∧ p.base ≤ 100000
/-- A state that may be. -/
def May (R : RSt) (st : List (Nat × Nat)) : Prop := ∀ x ∈ st, x.1 < R.places.length ∧ x.2 < 2 ^ (R.lam + 1)

set_option maxRecDepth 20000 in
set_option maxHeartbeats 2000000 in
theorem mahead_p {w : World} {gr D : Nat} {R : RSt} {va : Value} {st : List (Nat × Nat)} (hR : RulesIn w gr R) (hV : Valid R) (ha : Wds w D va st) (hf : May R st) (hl : st.length ≤ 100000) :
    Calls Try.prog 40 #[.pointer (some ⟨gr, 0, none⟩), va] w fun e w' => ∃ v', e = .returned v' ∧ Wds w' w.heap.size v' (aheadL R st) ∧ Below w.heap.size w w' := by
  obtain ⟨A, c, rfl⟩ := ha.form
  obtain ⟨vp, vs, v1, hbox, hvs, hrow, hfol, hfirst⟩ := hR
  have hR' : RulesIn w gr R := ⟨vp, vs, v1, hbox, hvs, hrow, hfol, hfirst⟩
  obtain ⟨Ap, cp, hfp⟩ := own_formM hrow
  subst hfp
  obtain ⟨A1, c1, e1, -, -⟩ := hfirst.news
  rw [ns_len] at e1
  subst e1
  obtain ⟨N1, hN1⟩ : ∃ n, R.first.length = n := ⟨_, rfl⟩
  rw [hN1] at hfirst hbox
  have HN1 := Lib.hid hN1
  have hN19 : N1 ≤ 100000 := by rw [← hN1]; exact hV.firstN
  clear hN1
  have HR := Lib.hid hR'
  have HA := Lib.hid ha
  have HF := Lib.hid hf
  have HV := Lib.hid hV
  have HF1 := Lib.hid hfirst
  have r0 : w.cell? ⟨gr, 0, none⟩ = some (.slice Ap R.places.length cp) := cell_of_row w gr 0 _ _ (0, 0) hbox
  have r1 : w.cell? ⟨gr, 1, none⟩ = some (.slice A1 N1 c1) := cell_of_row w gr 1 _ _ (0, 0) hbox
  have r2 : w.cell? ⟨gr, 2, none⟩ = some (.int .i64 R.lam) := cell_of_row w gr 2 _ _ (0, 0) hbox
  have hP9 := hV.P
  obtain ⟨L, hL⟩ : ∃ L, st.length = L := ⟨_, rfl⟩
  rw [hL] at HA hl ⊢
  have HL := Lib.hid hL
  obtain ⟨P, hP⟩ : ∃ P, R.places.length = P := ⟨_, rfl⟩
  rw [hP] at r0 hP9
  have HP := Lib.hid hP
  obtain ⟨i0, hi, hi0, hi1, hi2⟩ := info_parts Try.infoU64
  obtain ⟨wm, hmk, hown, hgm⟩ := run_make_full (P := Try.prog) w w.heap.size 137 49 i0 _ 1 Try.underlying137 hi hi0 hi1 .i64 .i64 P (by rw [hi2]; omega) (by unfold maxLen; omega) (Nat.le_refl _)
  have hbm : Below w.heap.size w wm := (Below.refl _ _).grown hgm (Nat.le_refl _) fun q e => by cases e
  have hu0 : U64s wm w.heap.size w.heap.size (List.replicate P 0) := by
    unfold U64s
    rw [← u64s_made, List.length_replicate]
    exact hown
  have r0' := (hbm.cell (p := ⟨gr, 0, none⟩) (lt_of_some hbox)).trans r0
  have r1' := (hbm.cell (p := ⟨gr, 1, none⟩) (lt_of_some hbox)).trans r1
  have r2' := (hbm.cell (p := ⟨gr, 2, none⟩) (lt_of_some hbox)).trans r2
  have HBM := Lib.hid hbm
  have HU0 := Lib.hid hu0
  have hgrl : gr < w.heap.size := lt_of_some hbox
  have hnpos : w.heap.size < wm.heap.size := hu0.in.2
  clear hown hgm hbm hu0 hR' hbox hvs hrow hfol hfirst ha hf hL hV hP
  go_enter Try.func40, Try.ntmps40
  go_wp2
  go_loopg [28] N1 (fun m i wr => ∃ (k : Nat) (Ls : List Nat), i = .int .i64 (k : Int) ∧ k ≤ N1 ∧ m = N1 - k ∧ U64s wr w.heap.size w.heap.size Ls ∧ Ls.length = P ∧ aheadF Ls (R.first.drop k) = aheadF (List.replicate P 0) R.first ∧ Und R.lam Ls ∧ Kept (fun b => b = w.heap.size) wm wr)
  case atStart => exact ⟨0, _, rfl, Nat.zero_le _, rfl, HU0.out, by simp, rfl, fun x hx => by rw [(List.mem_replicate.1 hx).2]; exact Nat.two_pow_pos _, Kept.refl _ _⟩
  case round =>
    obtain ⟨k, Ls, rfl, hk, hmk, hu, hlen, hah, hund, hkp⟩ := hrel
    have HMK := Lib.hid hmk
    have HU := Lib.hid hu
    have HLEN := Lib.hid hlen
    have HAH := Lib.hid hah
    have HUND := Lib.hid hund
    have HKP := Lib.hid hkp
    clear hmk hu hlen hah hund hkp
    by_cases hkN : k < N1
    · have hks : k < R.first.length := by rw [HN1.out]; exact hkN
      have hi1' := HF1.out.stays HBM.out
      have hin := hi1'.off HKP.out (fun b e q => by have := (HF1.out.in e).2; omega)
      obtain ⟨g1, cc, e1, _, hg1, hc1⟩ := hin.at k (by rw [ns_len]; exact hks)
      rw [ns_len, HN1.out] at e1
      simp only [Value.slice.injEq] at e1
      obtain ⟨rfl, -, rfl⟩ := e1
      have hce : (ns R.first)[k]'(by rw [ns_len]; exact hks) = ((R.first[k]'hks : Nat) : Int) := by simp [ns]
      rw [hce] at hc1
      have hpP := HV.out.first _ (List.getElem_mem hks)
      have hdr := List.drop_eq_getElem_cons hks
      obtain ⟨x, hx⟩ : ∃ x, R.first[k]'hks = x := ⟨_, rfl⟩
      rw [hx] at hc1 hpP hdr
      rw [HP.out] at hpP
      have ha := HAH.out
      rw [hdr, aheadF] at ha
      have HA2 := Lib.hid ha
      have hcell := HU.out.cell x (by rw [HLEN.out]; exact hpP)
      have hfz := HU.out.frozen x
      have k0 : (0 : Int) ≤ (k : Int) := by omega
      have k1 : (k : Int) < (N1 : Int) := by omega
      have x0 : (0 : Int) ≤ (x : Int) := by omega
      have x1 : (x : Int) < (P : Int) := by omega
      clear hi1' hin hce hdr hx ha hpP
      go_wp2
      go_roundg (N1 - (k + 1))
      case measure => have := HMK.out; omega
      case rel => exact ⟨k + 1, Ls.set x 2, by go_num, by omega, rfl, HU.out.set x 2, by simp [HLEN.out], HA2.out, HUND.out.set (by have := HV.out.lam.1; calc 2 < 2 ^ 2 := by decide
                                                                                                       _ ≤ 2 ^ (R.lam + 1) := Nat.pow_le_pow_right (by omega) (by omega)), HKP.out.setCell (a := ⟨w.heap.size, x, none⟩) (.inl rfl) _⟩
    · have hkn : k = R.first.length := by rw [HN1.out]; omega
      have ha := HAH.out
      rw [hkn, List.drop_length, aheadF] at ha
      have HL1 := Lib.hid ha
      clear ha hkn HAH HMK
      go_wp2
      have HU1 := Lib.hid (show U64s wr w.heap.size w.heap.size Ls ∧ Ls.length = P ∧ Und R.lam Ls ∧ Kept (fun b => b = w.heap.size) wm wr from ⟨HU.out, HLEN.out, HUND.out, HKP.out⟩)
      clear HU HLEN HUND HKP
      go_loopg [38] L (fun m i wq => ∃ (q : Nat) (Lq : List Nat), i = .int .i64 (q : Int) ∧ q ≤ L ∧ m = L - q ∧ U64s wq w.heap.size w.heap.size Lq ∧ Lq.length = P ∧ aheadS R Lq (st.drop q) = aheadS R Ls st ∧ Und R.lam Lq ∧ Kept (fun b => b = w.heap.size) wm wq)
      case atStart => exact ⟨0, Ls, rfl, Nat.zero_le _, rfl, HU1.out.1, HU1.out.2.1, rfl, HU1.out.2.2.1, HU1.out.2.2.2⟩
      case round =>
        obtain ⟨q, Lq, rfl, hq, hmq, hu, hlen, hah, hund, hkp⟩ := hrel
        have HMQ := Lib.hid hmq
        have HU := Lib.hid hu
        have HLEN := Lib.hid hlen
        have HAH := Lib.hid hah
        have HUND := Lib.hid hund
        have HKP := Lib.hid hkp
        clear hmq hu hlen hah hund hkp
        by_cases hqL : q < L
        · have hks : q < st.length := by rw [HL.out]; exact hqL
          obtain ⟨x, hx⟩ : ∃ x, st[q]? = some x := ⟨_, List.getElem?_eq_getElem hks⟩
          obtain ⟨cu0, hcu0⟩ := own_kind HU0.out (b := w.heap.size) rfl
          have hAw := (HA.out.stays HBM.out).off HKP.out fun b e e2 => by have := (HA.out.in e).2; omega
          obtain ⟨g, cc, e1, _, hg, h0, h1⟩ := hAw.at hx
          rw [HL.out] at e1
          simp only [Value.slice.injEq] at e1
          obtain ⟨rfl, -, rfl⟩ := e1
          have hgx : st[q]'hks = x := by have := List.getElem?_eq_getElem hks; rw [hx] at this; injection this with this; exact this.symm
          obtain ⟨x1, x2⟩ := x
          have hfx := HF.out (x1, x2) (by rw [← hgx]; exact List.getElem_mem hks)
          obtain ⟨p, hp⟩ : ∃ p, R.places[x1]? = some p := ⟨_, List.getElem?_eq_getElem hfx.1⟩
          obtain ⟨gp, cp', v, r0m, hpc, hfl, hgp, cup, hcup⟩ := (HR.out.stays HBM.out).at hp
          have hgrm : ∃ cu, wm.heap[gr]? = some (.cells cu 91 (0, 0)) := by obtain ⟨_, _, _, hb, _⟩ := HR.out.stays HBM.out; exact ⟨_, hb⟩
          have hne1 : ¬ gp = w.heap.size := kind_apart hcup hcu0 (by decide)
          have hne2 : ¬ gr = w.heap.size := by obtain ⟨cu, hb⟩ := hgrm; exact kind_apart hb hcu0 (by decide)
          obtain ⟨hfq, hfn, hfb⟩ := HV.out.fol x1 p hp
          have hdr := List.drop_eq_getElem_cons hks
          have ha := HAH.out
          rw [hdr, hgx, aheadS] at ha
          simp only [hp] at ha
          have HAH2 := Lib.hid ha
          obtain ⟨Av, cv, e2, -, -⟩ := hfl.news
          rw [ns_len] at e2
          subst e2
          have hvne : ∀ b, (Value.slice Av p.fol.length cv).ownBlock = some b → ¬ b = w.heap.size := fun b e => by
            obtain ⟨cu, hb⟩ := hfl.kind e
            exact kind_apart hb hcu0 (by decide)
          have hPC : ∀ W, Kept (fun b => b = w.heap.size) wm W → W.cell? ⟨gr, 0, none⟩ = some (.slice (some ⟨gp, 0, none⟩) R.places.length cp') ∧ W.cell? ⟨gr, 2, none⟩ = some (.int .i64 R.lam) ∧ W.cell? ⟨gp, x1 * 8 + 4, none⟩ = some (.slice Av p.fol.length cv) ∧ W.cell? ⟨gp, x1 * 8 + 5, none⟩ = some (.int .i64 p.base) ∧ Ints W 0 (.slice Av p.fol.length cv) (ns p.fol) ∧ gp < W.heap.size ∧ gr < W.heap.size := fun W hk =>
            ⟨hk.cell r0m hne2, hk.cell r2' hne2, hk.cell (hpc 4 _ rfl) hne1, hk.cell (hpc 5 _ rfl) hne1, hfl.off hk hvne, Nat.lt_of_lt_of_le hgp hk.size, Nat.lt_of_lt_of_le (Nat.lt_of_lt_of_le hgrl (Nat.le_of_lt hnpos)) hk.size⟩
          have HPC := Lib.hid hPC
          obtain ⟨r0w, r2w, hc4, hc5, hflw, hgpw, hgr⟩ := hPC wr HKP.out
          have hxP : (x1 : Int) < (P : Int) := by have := hfx.1; have := HP.out; omega
          rw [HP.out] at r0w
          have i0 : (0 : Int) ≤ (x1 : Int) := by omega
          have k0 : (0 : Int) ≤ (q : Int) := by omega
          have k1 : (q : Int) < (L : Int) := by omega
          obtain ⟨lam, hlam⟩ : ∃ lam, R.lam = lam := ⟨_, rfl⟩
          have hlm := HV.out.lam
          have hx2 := hfx.2
          rw [hlam] at r2w hlm hx2
          have HFQ := Lib.hid hfq
          have HX2 := Lib.hid hx2
          have HLAM := Lib.hid hlam
          have j0 : (0 : Int) ≤ (lam : Int) := by omega
          have j1 : (lam : Int) ≤ 64 := by omega
          have hsh : IntKind.u64.wrap (1 * 2 ^ ((lam : Int)).toNat) = ((2 ^ lam : Nat) : Int) := by
            have h64 : 2 ^ lam < 2 ^ 64 := Nat.pow_lt_pow_right (by omega) (by omega)
            rw [Int.toNat_natCast, IntKind.wrap_u64, Int.one_mul]
            rw [show ((2 : Int) ^ lam) = ((2 ^ lam : Nat) : Int) by push_cast; rfl]
            omega
          obtain ⟨M, hM⟩ : ∃ M : Nat, 2 ^ lam = M := ⟨_, rfl⟩
          obtain ⟨y, hy⟩ : ∃ y : Nat, x2 % 2 ^ lam = y := ⟨_, rfl⟩
          obtain ⟨n, hn⟩ : ∃ n : Nat, y * 2 = n := ⟨_, rfl⟩
          have h33 : 2 ^ (lam + 1) ≤ 2 ^ 33 := Nat.pow_le_pow_right (by omega) (by omega)
          have hsh2 : IntKind.u64.wrap ((2 : Int) ^ lam) = (M : Int) := by
            rw [← hM, ← hsh, Int.toNat_natCast, Int.one_mul]
          rw [hM] at hsh
          have hMlt : M < 2 ^ 33 := by rw [← hM]; exact Nat.lt_of_lt_of_le (Nat.pow_lt_pow_right (by omega) (by omega)) h33
          have hand : bits .andNot .u64 (x2 : Int) (M : Int) = (y : Int) := by
            rw [u64_andNot_nat x2 M (by omega) (by omega), ← hM, cut_lam lam x2 hlm.2 hx2, hy]
          have hylt : y < 2 ^ 33 := by rw [← hy]; have := Nat.mod_lt x2 (Nat.two_pow_pos lam); omega
          have hwn : IntKind.u64.wrap ((y : Int) * 2) = (n : Int) := by rw [IntKind.wrap_u64]; omega
          have hnlt : n < 2 ^ 34 := by omega
          have hlon : lon R.lam x2 = n := by unfold lon; rw [hlam, hy, hn]
          have HLON := Lib.hid hlon
          simp only [hlon] at HAH2
          simp only at h0 h1
          clear hM hy hn h33 hlon hPC hflw r0m hcup hgrm hvne hAw hpc hfl hfq hdr ha hgx hfx hp hx hks hlam
          go_wp2
          go_quiet (fail)
          go_wp2
          go_quiet (fail)
          go_wp2
          obtain ⟨NF, hNF⟩ : ∃ n, p.fol.length = n := ⟨_, rfl⟩
          have HNF := Lib.hid hNF
          rw [hNF] at HPC hc4 hfn ⊢
          obtain ⟨base, hbase⟩ : ∃ b, p.base = b := ⟨_, rfl⟩
          have HBASE := Lib.hid hbase
          rw [hbase] at HPC hc5 hfb HAH2 HFQ
          clear hNF hbase
          go_loopg [63] NF (fun m i wz => ∃ (z : Nat) (Lz : List Nat), i = .int .i64 (z : Int) ∧ z ≤ NF ∧ m = NF - z ∧ U64s wz w.heap.size w.heap.size Lz ∧ Lz.length = P ∧ mAddAll Lz base n (p.fol.drop z) = mAddAll Lq base n p.fol ∧ Und R.lam Lz ∧ Kept (fun b => b = w.heap.size) wm wz)
          case atStart => exact ⟨0, Lq, rfl, Nat.zero_le _, rfl, HU.out.stays (below_dnO ((Below.refl _ _).alloc (Nat.le_refl _) _) _), HLEN.out, rfl, HUND.out, kept_dn (HKP.out.alloc _) _⟩
          case round =>
            obtain ⟨z, Lz, rfl, hz, hmz, huz, hlz, haz, hdz, hkz⟩ := hrel
            have HMZ := Lib.hid hmz
            have HUZ := Lib.hid huz
            have HLZ := Lib.hid hlz
            have HAZ := Lib.hid haz
            have HDZ := Lib.hid hdz
            have HKZ := Lib.hid hkz
            clear hmz huz hlz haz hdz hkz r0w r2w hc4 hc5 hgpw hgr
            obtain ⟨r0w, r2w, hc4, hc5, hfl, hgpw, hgr⟩ := HPC.out wr HKZ.out
            by_cases hzF : z < NF
            · have hzs : z < p.fol.length := by rw [HNF.out]; exact hzF
              obtain ⟨gv, cv', e3, _, hgv, hcv⟩ := hfl.at z (by rw [ns_len]; exact hzs)
              rw [ns_len, HNF.out] at e3
              simp only [Value.slice.injEq] at e3
              obtain ⟨rfl, -, rfl⟩ := e3
              have hce : (ns p.fol)[z]'(by rw [ns_len]; exact hzs) = ((p.fol[z]'hzs : Nat) : Int) := by simp [ns]
              rw [hce] at hcv
              have hqP := HFQ.out _ (List.getElem_mem hzs)
              have hdr := List.drop_eq_getElem_cons hzs
              obtain ⟨f, hf⟩ : ∃ f, p.fol[z]'hzs = f := ⟨_, rfl⟩
              rw [hf] at hcv hqP hdr
              rw [HP.out] at hqP
              have ha := HAZ.out
              rw [hdr, mAddAll] at ha
              have HAZ2 := Lib.hid ha
              have hcell := HUZ.out.cell (base + f) (by rw [HLZ.out]; exact hqP)
              have hfz := HUZ.out.frozen (base + f)
              have hold := HDZ.out.getD (base + f)
              rw [HLAM.out] at hold
              have h33 : 2 ^ (lam + 1) ≤ 2 ^ 33 := Nat.pow_le_pow_right (by omega) (by omega)
              obtain ⟨o, ho⟩ : ∃ o, Lz.getD (base + f) 0 = o := ⟨_, rfl⟩
              rw [ho] at hcell hold
              have hor := bits_or_u64_nat o n (by omega) (by omega)
              have hnl : n < 2 ^ (R.lam + 1) := by rw [← HLON.out]; exact lon_lt _ _
              have HNL := Lib.hid hnl
              have HOO := Lib.hid ho
              have z0 : (0 : Int) ≤ (z : Int) := by omega
              have z1 : (z : Int) < (NF : Int) := by omega
              have b0 : (0 : Int) ≤ (base : Int) + (f : Int) := by omega
              have b1 : (base : Int) + (f : Int) < (P : Int) := by omega
              have b2 : ((base : Int) + (f : Int)).toNat = base + f := by omega
              have hwz : w.heap.size < wr.heap.size := HUZ.out.in.2
              clear hfl hce hdr hf ha hqP hold h33 hnl ho
              go_wp2
              go_roundg (NF - (z + 1))
              case measure => have := HMZ.out; omega
              case rel =>
                have hset := HUZ.out.set (base + f) (o ||| n)
                refine ⟨z + 1, addTo Lz (base + f) n, by go_num, by omega, rfl, ?_, by rw [addTo_len]; exact HLZ.out, HAZ2.out, HDZ.out.addTo HNL.out, HKZ.out.setCell (a := ⟨w.heap.size, base + f, none⟩) (.inl rfl) _⟩
                unfold addTo
                rw [HOO.out]
                exact hset
            · have hzn : z = p.fol.length := by rw [HNF.out]; omega
              have ha := HAZ.out
              rw [hzn, List.drop_length, mAddAll] at ha
              have HAZ2 := Lib.hid ha
              clear ha hzn
              go_wp2
              go_roundg (L - (q + 1))
              case measure => have := HMQ.out; omega
              case rel => exact ⟨q + 1, Lz, by go_num, by omega, rfl, HUZ.out, HLZ.out, by rw [HAZ2.out]; exact HAH2.out, HDZ.out, HKZ.out⟩
        · have hkn : q = st.length := by rw [HL.out]; omega
          have ha := HAH.out
          rw [hkn, List.drop_length, aheadS] at ha
          have hfin : Lq = aheadN R st := by rw [ha, HL1.out, ← HP.out]; rfl
          have HFIN := Lib.hid hfin
          clear ha hkn hfin HAH HMQ
          go_wp2
          obtain ⟨w3, h3⟩ : ∃ x, x = wr := ⟨_, rfl⟩
          subst h3
          have HSZ := Lib.hid (Nat.lt_of_lt_of_le hnpos HKP.out.size)
          have HU3 := Lib.hid (show U64s w3 w.heap.size w.heap.size Lq ∧ Lq.length = P ∧ Kept (fun b => b = w.heap.size) wm w3 from ⟨HU.out, HLEN.out, HKP.out⟩)
          clear HU HLEN HUND HKP
          go_loopg [14, 83] P (fun m v i wz => ∃ k : Nat, i = .int .i64 (k : Int) ∧ k ≤ P ∧ m = P - k ∧ Wds wz w3.heap.size v (picked Lq k) ∧ Below w3.heap.size w3 wz)
          case atStart => exact ⟨0, rfl, Nat.zero_le _, rfl, Wds.nil _ _, Below.refl _ _⟩
          case round =>
            obtain ⟨z, rfl, hz, hmz, hwd, hbl⟩ := hrel
            have HMZ := Lib.hid hmz
            have HWD := Lib.hid hwd
            have HBL := Lib.hid hbl
            obtain ⟨Av, cv, hfv⟩ := hwd.form
            subst hfv
            clear hmz hwd hbl
            by_cases hzP : z < P
            · have hcell := (HU3.out.1.stays HBL.out).cell z (by rw [HU3.out.2.1]; exact hzP)
              have hps := picked_succ Lq z
              have hpl := picked_len Lq z
              have hll : (picked Lq z).length ≤ 100000 := by omega
              obtain ⟨n, hn⟩ : ∃ n, Lq.getD z 0 = n := ⟨_, rfl⟩
              rw [hn] at hcell hps
              have HPS := Lib.hid hps
              have z0 : (0 : Int) ≤ (z : Int) := by omega
              have z1 : (z : Int) < (P : Int) := by omega
              have hBz : w3.heap.size ≤ wr.heap.size := HBL.out.size
              clear hps hpl hn
              by_cases hn0 : n = 0
              · subst hn0
                go_wp2
                go_roundg (P - (z + 1))
                case measure => have := HMZ.out; omega
                case rel => exact ⟨z + 1, by go_num, by omega, rfl, by have h := HPS.out; simp only [if_true, List.append_nil] at h; rw [h]; exact HWD.out, HBL.out⟩
              · have hni : (n : Int) ≠ 0 := by omega
                go_wp2_with (first
                  | (at_builtin; refine wpList_wds (by rfl) _ _ (by rfl) (by rfl) (HWD.out.stays ((Below.refl _ _).alloc (Nat.le_refl _) _)) (by simp; omega) hll (z, n) ⟨wr.heap.size, 0, none⟩ 1 (by rfl) (words_new wr z n) ?_; intro v6 w6 i6 g6 o6; have I6 := Lib.hid i6; have G6 := Lib.hid g6; have O6 := Lib.hid o6; clear i6 g6 o6)
                  | fail)
                go_roundg (P - (z + 1))
                case measure => have := HMZ.out; omega
                case rel =>
                  have h := HPS.out
                  rw [if_neg hn0] at h
                  exact ⟨z + 1, by go_num, by omega, rfl, by rw [h]; exact I6.out, ((HBL.out.alloc hBz _).grown G6.out (by simp; omega) fun k e => (HWD.out.in e).1)⟩
            · have hzn : z = P := by omega
              go_wp2
              go_ret
              refine ⟨_, rfl, ?_, (HBM.out.trans (HU3.out.2.2.below (Nat.le_of_lt hnpos) fun b e => by omega)).trans (HBL.out.mono (Nat.le_of_lt HSZ.out))⟩
              have h := HWD.out.low (Nat.le_of_lt HSZ.out)
              unfold aheadL
              rw [← HFIN.out, HP.out, ← hzn]
              exact h
end Go.Proofs.Ytnkopcmkanibhaa

/-
  Bytes by keys, counted as they come up: the mathematics of classes. No statement of its own.
-/
namespace Go.Proofs.Ytnkopcmkanibhaa
open Go

section
variable {K : Type} [DecidableEq K]

/-- Nothing below b has b's key. -/
def isFst (f : Nat → K) (b : Nat) : Bool := (List.range b).all fun c => decide (f c ≠ f b)
/-- How many keys there are below b. -/
def cntK (f : Nat → K) : Nat → Nat
  | 0 => 0
  | b + 1 => cntK f b + if isFst f b then 1 else 0
/-- The first that has b's key. -/
def fstK (f : Nat → K) (b : Nat) : Nat := ((List.range b).find? fun c => decide (f c = f b)).getD b
/-- b's number. -/
def numK (f : Nat → K) (b : Nat) : Nat := cntK f (fstK f b)

theorem isFst_iff (f : Nat → K) (b : Nat) : isFst f b = true ↔ ∀ c, c < b → f c ≠ f b := by
  unfold isFst
  simp
theorem not_fst (f : Nat → K) (b : Nat) : isFst f b = false ↔ ∃ c, c < b ∧ f c = f b := by
  rw [← Bool.not_eq_true, isFst_iff]
  simp
theorem cntK_mono (f : Nat → K) {a b : Nat} (h : a ≤ b) : cntK f a ≤ cntK f b := by
  induction b with
  | zero => have : a = 0 := by omega
            subst this; exact Nat.le_refl _
  | succ b ih =>
    by_cases e : a = b + 1
    · subst e; exact Nat.le_refl _
    · have := ih (by omega)
      simp only [cntK]
      omega
theorem cntK_lt (f : Nat → K) {a b : Nat} (h : a < b) (ha : isFst f a = true) : cntK f a < cntK f b := by
  have := cntK_mono f (show a + 1 ≤ b from h)
  simp only [cntK, ha, if_true] at this
  omega
theorem cntK_le (f : Nat → K) (b : Nat) : cntK f b ≤ b := by
  induction b with
  | zero => exact Nat.le_refl _
  | succ b ih => simp only [cntK]; split <;> omega
theorem fstK_spec (f : Nat → K) (b : Nat) : fstK f b ≤ b ∧ f (fstK f b) = f b ∧ isFst f (fstK f b) = true := by
  induction b using Nat.strongRecOn with
  | _ b ih =>
    unfold fstK
    cases hf : (List.range b).find? (fun c => decide (f c = f b)) with
    | none =>
      rw [List.find?_eq_none] at hf
      refine ⟨Nat.le_refl _, rfl, ?_⟩
      rw [Option.getD_none, isFst_iff]
      intro c hc e
      exact hf c (List.mem_range.2 hc) (by simpa using e)
    | some c =>
      have hm := List.mem_of_find?_eq_some hf
      have hp := List.find?_some hf
      rw [List.mem_range] at hm
      simp at hp
      rw [Option.getD_some]
      refine ⟨by omega, hp, ?_⟩
      rw [isFst_iff]
      intro d hd e
      rw [List.find?_range_eq_some] at hf
      exact absurd (e.trans hp) (by have := hf.2.2 d hd; simpa using this)
theorem fst_uniq (f : Nat → K) {a b : Nat} (ha : isFst f a = true) (hb : isFst f b = true) (e : f a = f b) : a = b := by
  rw [isFst_iff] at ha hb
  rcases Nat.lt_trichotomy a b with h | h | h
  · exact absurd e (hb a h)
  · exact h
  · exact absurd e.symm (ha b h)
theorem fstK_self (f : Nat → K) {b : Nat} (h : isFst f b = true) : fstK f b = b := by
  have := fstK_spec f b
  exact fst_uniq f this.2.2 h this.2.1
theorem numK_fst (f : Nat → K) {b : Nat} (h : isFst f b = true) : numK f b = cntK f b := by
  unfold numK
  rw [fstK_self f h]
theorem numK_eq (f : Nat → K) (a b : Nat) : numK f a = numK f b ↔ f a = f b := by
  obtain ⟨_, ea, fa⟩ := fstK_spec f a
  obtain ⟨_, eb, fb⟩ := fstK_spec f b
  unfold numK
  constructor
  · intro h
    rcases Nat.lt_trichotomy (fstK f a) (fstK f b) with l | l | l
    · have := cntK_lt f l fa; omega
    · rw [← ea, ← eb, l]
    · have := cntK_lt f l fb; omega
  · intro h
    rw [fst_uniq f fa fb (by rw [ea, eb, h])]
theorem numK_lt (f : Nat → K) (b : Nat) : numK f b < cntK f (b + 1) := by
  obtain ⟨h, _, fa⟩ := fstK_spec f b
  exact cntK_lt f (by omega) fa
theorem numK_bound (f : Nat → K) {b n : Nat} (h : b < n) : numK f b < cntK f n := Nat.lt_of_lt_of_le (numK_lt f b) (cntK_mono f h)
theorem cntK_step (f : Nat → K) (b : Nat) : cntK f (b + 1) = max (cntK f b) (numK f b + 1) := by
  cases h : isFst f b
  · obtain ⟨c, hc, e⟩ := (not_fst f b).1 h
    have h1 := numK_bound f hc
    rw [(numK_eq f c b).2 e] at h1
    simp only [cntK, h]
    simp
    omega
  · rw [numK_fst f h]
    simp only [cntK, h, if_true]
    omega
theorem numK_le (f : Nat → K) (b : Nat) : numK f b ≤ cntK f b := by
  have := cntK_step f b
  have h2 : cntK f (b + 1) ≤ cntK f b + 1 := by simp only [cntK]; split <;> omega
  omega
/-- A finer key has no fewer numbers. -/
theorem cntK_fine {L : Type} [DecidableEq L] (f : Nat → K) (g : Nat → L) (h : ∀ a b, g a = g b → f a = f b) (n : Nat) : cntK f n ≤ cntK g n := by
  induction n with
  | zero => exact Nat.le_refl _
  | succ n ih =>
    have : isFst f n = true → isFst g n = true := fun hf => by
      rw [isFst_iff] at hf ⊢
      exact fun c hc e => hf c hc (h c n e)
    simp only [cntK]
    cases h1 : isFst f n
    · simp; omega
    · rw [this h1]; simp; omega
end

/-- Which of the sets have a byte. -/
def keyL (l : List (Nat → Bool)) (b : Nat) : List Bool := l.map fun p => p b
theorem keyL_take (l : List (Nat → Bool)) (i : Nat) (h : i < l.length) (b : Nat) : keyL (l.take (i + 1)) b = keyL (l.take i) b ++ [(l[i]'h) b] := by
  unfold keyL
  rw [List.take_succ_eq_append_getElem h, List.map_append]
  rfl
theorem keyL_eq (l : List (Nat → Bool)) (i : Nat) (h : i < l.length) (a b : Nat) : keyL (l.take (i + 1)) a = keyL (l.take (i + 1)) b ↔ keyL (l.take i) a = keyL (l.take i) b ∧ (l[i]'h) a = (l[i]'h) b := by
  rw [keyL_take l i h, keyL_take l i h]
  constructor
  · intro e
    have := List.append_inj' e rfl
    exact ⟨this.1, by simpa using this.2⟩
  · rintro ⟨e1, e2⟩
    rw [e1, e2]
theorem keyL_snoc (l : List (Nat → Bool)) (p : Nat → Bool) (a b : Nat) : keyL (l ++ [p]) a = keyL (l ++ [p]) b → keyL l a = keyL l b := by
  unfold keyL
  rw [List.map_append, List.map_append]
  exact fun e => (List.append_inj' e rfl).1

/-- What a split has met: number and one of the part of class c that is on side q, or 0. -/
def metK (f g : Nat → List Bool) (p : Nat → Bool) (j : Nat) (q : Bool) (c : Nat) : Nat :=
  match (List.range j).find? fun b => p b == q && numK f b == c with
  | some b => numK g b + 1
  | none => 0
theorem metK_none (f g : Nat → List Bool) (p : Nat → Bool) (q : Bool) (c : Nat) : metK f g p 0 q c = 0 := rfl
/-- g parts f by p. -/
def PartsBy (f g : Nat → List Bool) (p : Nat → Bool) : Prop := ∀ a b, g a = g b ↔ f a = f b ∧ p a = p b
theorem metK_here {f g : Nat → List Bool} {p : Nat → Bool} (h : PartsBy f g p) (j : Nat) :
    metK f g p j (p j) (numK f j) = if isFst g j then 0 else numK g j + 1 := by
  unfold metK
  cases hf : (List.range j).find? (fun b => p b == p j && numK f b == numK f j) with
  | none =>
    rw [List.find?_eq_none] at hf
    have : isFst g j = true := by
      rw [isFst_iff]
      intro c hc e
      have := (h c j).1 e
      exact hf c (List.mem_range.2 hc) (by simp [this.2, (numK_eq f c j).2 this.1])
    simp [this]
  | some b =>
    have hm := List.mem_of_find?_eq_some hf
    have hp := List.find?_some hf
    rw [List.mem_range] at hm
    simp at hp
    have hg : g b = g j := (h b j).2 ⟨(numK_eq f b j).1 hp.2, hp.1⟩
    have : isFst g j = false := (not_fst g j).2 ⟨b, hm, hg⟩
    simp [this, (numK_eq g b j).2 hg]
theorem metK_step {f g : Nat → List Bool} {p : Nat → Bool} (h : PartsBy f g p) (j : Nat) (q : Bool) (c : Nat) :
    metK f g p (j + 1) q c = if q = p j ∧ c = numK f j then numK g j + 1 else metK f g p j q c := by
  by_cases hq : q = p j ∧ c = numK f j
  · obtain ⟨rfl, rfl⟩ := hq
    rw [if_pos ⟨rfl, rfl⟩]
    unfold metK
    rw [List.range_succ, List.find?_append]
    cases hf : (List.range j).find? (fun b => p b == p j && numK f b == numK f j) with
    | none => simp
    | some b =>
      have hp := List.find?_some hf
      simp at hp
      simp [(numK_eq g b j).2 ((h b j).2 ⟨(numK_eq f b j).1 hp.2, hp.1⟩)]
  · rw [if_neg hq]
    unfold metK
    rw [List.range_succ, List.find?_append]
    have : (List.find? (fun b => p b == q && numK f b == c) [j]) = none := by
      simp
      intro e e2
      exact hq ⟨e.symm, e2.symm⟩
    rw [this, Option.or_none]
end Go.Proofs.Ytnkopcmkanibhaa

/-
  What Has of package set does, whatever it is called with. Contracts for other texts; no statement of its own.
-/
namespace Go.Proofs.Ytnkopcmkanibhaa
open Go Go.RowKit
attribute [local go_sem ↓] Go.wp_at_zero Go.wp_at_succ

set_option maxHeartbeats 400000 in
theorem has_p (p : Nat → Bool) (b : Int) (w : World) (hb : 0 ≤ b) (hb' : b ≤ 255) :
    Calls Try.prog 74 #[.agg #[.int .u64 (word p 0), .int .u64 (word p 1), .int .u64 (word p 2), .int .u64 (word p 3)], .int .u8 b] w fun e w' => e = .returned (.bool (p b.toNat)) ∧ Below w.heap.size w w' := by
  have hv := words_at p b hb hb'
  have H := has_bits p b hb hb'
  rw [← H]
  clear H
  go_enter Try.func74, Try.ntmps74
  go_wp2
  go_ret
  exact ⟨rfl, (Below.refl _ _).alloc (Nat.le_refl _) _⟩

end Go.Proofs.Ytnkopcmkanibhaa

/-
  classes.split: the classes parted by one set more. Contracts for other texts; no statement of its own.
-/
namespace Go.Proofs.Ytnkopcmkanibhaa
open Go Go.RowKit
attribute [local go_sem ↓] Go.wp_at_zero Go.wp_at_succ

/-- What parts holds: both sides, one behind the other. -/
def metA (f g : Nat → List Bool) (p : Nat → Bool) (j : Nat) (i : Nat) : Nat := if i < 256 then metK f g p j false i else metK f g p j true (i - 256)

theorem metA_at (f g : Nat → List Bool) (p : Nat → Bool) (j c : Nat) (b : Bool) (hc : c < 256) : metA f g p j (if b then 256 + c else c) = metK f g p j b c := by
  cases b
  · simp [metA, hc]
  · have h : ¬ 256 + c < 256 := by omega
    simp [metA, h]
theorem metA_step {f g : Nat → List Bool} {p : Nat → Bool} (h : PartsBy f g p) (j : Nat) (hc : numK f j < 256) (i : Nat) :
    (if i = (if p j then 256 + numK f j else numK f j) then numK g j + 1 else metA f g p j i) = metA f g p (j + 1) i := by
  unfold metA
  rw [metK_step h, metK_step h]
  cases hp : p j
  · by_cases hi2 : i < 256
    · by_cases e : i = numK f j <;> simp [hi2, e, hc]
    · have : ¬ i = numK f j := by omega
      simp [hi2, this]
  · by_cases hi2 : i < 256
    · have : ¬ i = 256 + numK f j := by omega
      simp [hi2, this]
    · by_cases e : i = 256 + numK f j
      · subst e; simp [hi2]
      · have : ¬ i - 256 = numK f j := by omega
        simp [hi2, e, this]

set_option maxRecDepth 20000 in
set_option maxHeartbeats 2000000 in
theorem split_p (f g : Nat → List Bool) (p : Nat → Bool) (w : World) (hpg : PartsBy f g p) :
    Calls Try.prog 60 #[.agg (arrV 256 (numK f)), .agg #[.int .u64 (word p 0), .int .u64 (word p 1), .int .u64 (word p 2), .int .u64 (word p 3)]] w
      fun e w' => e = .returned (.tuple #[.agg (arrV 256 (numK g)), .int .i64 (cntK g 256 : Nat)]) ∧ Below w.heap.size w w' := by
  have hz1 : ∀ w : World, Sem.run Try.prog (zeroValue 34) w = .ok (.agg (arrV 256 fun _ => 0)) w := fun _ => by kernel_rfl
  have hz2 : ∀ w : World, Sem.run Try.prog (zeroValue 163) w = .ok (.agg (arrV 512 fun _ => 0)) w := fun _ => by kernel_rfl
  have hz := (BoxN.new w 34 256 (numK f))
  have b2 : BoxN ((((w.alloc (.cells (arrV 256 (numK f)) 34)).alloc (.cells #[.int .u64 (word p 0), .int .u64 (word p 1), .int .u64 (word p 2), .int .u64 (word p 3)] 72)).alloc (.cells (arrV 256 fun _ => 0) 34)).alloc (.cells (arrV 512 fun _ => 0) 163)) w.heap.size 34 256 (numK f) := ((hz.alloc _).alloc _).alloc _
  have b3 := ((Box4.new (w.alloc (.cells (arrV 256 (numK f)) 34)) p).alloc (.cells (arrV 256 fun _ => 0) 34)).alloc (.cells (arrV 512 fun _ => 0) 163)
  have b4 := (BoxN.new ((w.alloc (.cells (arrV 256 (numK f)) 34)).alloc (.cells #[.int .u64 (word p 0), .int .u64 (word p 1), .int .u64 (word p 2), .int .u64 (word p 3)] 72)) 34 256 fun _ => 0).alloc (.cells (arrV 512 fun _ => 0) 163)
  have b6 := BoxN.new (((w.alloc (.cells (arrV 256 (numK f)) 34)).alloc (.cells #[.int .u64 (word p 0), .int .u64 (word p 1), .int .u64 (word p 2), .int .u64 (word p 3)] 72)).alloc (.cells (arrV 256 fun _ => 0) 34)) 163 512 fun _ => 0
  have hB : Below w.heap.size w ((((w.alloc (.cells (arrV 256 (numK f)) 34)).alloc (.cells #[.int .u64 (word p 0), .int .u64 (word p 1), .int .u64 (word p 2), .int .u64 (word p 3)] 72)).alloc (.cells (arrV 256 fun _ => 0) 34)).alloc (.cells (arrV 512 fun _ => 0) 163)) := ((((Below.refl _ _).alloc (Nat.le_refl _) _).alloc (by simp) _).alloc (by simp; omega) _).alloc (by simp; omega) _
  simp only [World.size_alloc] at b3 b4 b6
  have HPG := Lib.hid hpg
  have HB2 := Lib.hid b2
  have HB3 := Lib.hid b3
  have HB4 := Lib.hid b4
  have HB6 := Lib.hid b6
  have HBB := Lib.hid hB
  clear hpg b2 b3 b4 b6 hB hz
  go_enter Try.func60, Try.ntmps60
  go_wp2_with (refine wpList_load256 (g := w.heap.size) (F := numK f) rfl HB2.out ?_; go_simp)
  generalize ((((w.alloc (.cells (arrV 256 (numK f)) 34)).alloc (.cells #[.int .u64 (word p 0), .int .u64 (word p 1), .int .u64 (word p 2), .int .u64 (word p 3)] 72)).alloc (.cells (arrV 256 fun _ => 0) 34)).alloc (.cells (arrV 512 fun _ => 0) 163)) = wA at *
  clear hz1 hz2
  go_loopg [7, 12] 256 (fun m n i wr => ∃ j : Nat, i = .int .i64 (j : Int) ∧ j ≤ 256 ∧ m = 256 - j ∧ n = .int .i64 (cntK g j : Nat) ∧ BoxN wr w.heap.size 34 256 (fun i => if i < j then numK g i else numK f i) ∧ Box4 wr (w.heap.size + 1) p ∧ BoxN wr (w.heap.size + 1 + 1) 34 256 (fun _ => 0) ∧ BoxN wr (w.heap.size + 1 + 1 + 1) 163 512 (metA f g p j) ∧ Below w.heap.size w wr)
  case atStart => exact ⟨0, rfl, Nat.zero_le _, rfl, rfl, HB2.out.congr fun j hj => by simp, HB3.out, HB4.out, HB6.out.congr fun j hj => by simp [metA, metK_none], HBB.out⟩
  case round =>
    obtain ⟨j, rfl, hj, hmj, rfl, bF, bS, bR, bP, hW⟩ := hrel
    have HMJ := Lib.hid hmj
    clear hmj
    obtain ⟨s0, s1, s2, s3⟩ := bS.cell
    have hsz := bP.lt
    by_cases hlt : j < 256
    · have hix : ∀ w : World, (Instr.index 34 (.agg (arrV 256 (numK f))) (.int .i64 (j : Int))).run Try.prog w = .ok (.int .i64 (numK f j : Nat)) w := fun w => index256 w j hlt
      have hc : numK f j < 256 := Nat.lt_of_lt_of_le (numK_bound f hlt) (cntK_le f 256)
      have hle := Nat.le_trans (cntK_le g j) hj
      have hle2 := Nat.lt_of_lt_of_le (numK_bound g hlt) (cntK_le g 256)
      have hmh := metK_here HPG.out j
      have HNEW := Lib.hid (metA_step HPG.out j hc)
      have HF : Hid (isFst g j = true → numK g j = cntK g j ∧ cntK g (j + 1) = cntK g j + 1) := fun h => ⟨numK_fst g h, by simp [cntK, h]⟩
      have HG : Hid (isFst g j = false → cntK g (j + 1) = cntK g j) := fun h => by simp [cntK, h]
      obtain ⟨pj, hpj⟩ : ∃ pj, p j = pj := ⟨_, rfl⟩
      rw [hpj] at hmh HNEW
      rw [← metA_at f g p j _ pj hc] at hmh
      obtain ⟨off, hoff⟩ : ∃ off : Nat, (if pj then 256 + numK f j else numK f j) = off := ⟨_, rfl⟩
      rw [hoff] at hmh HNEW
      have ho2 : off < 512 := by rw [← hoff]; split <;> omega
      have hcl : wr.cell? ⟨w.heap.size + 1 + 1 + 1, off, none⟩ = some (.int .i64 (metA f g p j off : Nat)) := bP.cell off ho2
      have hwr : wr.cell? ⟨w.heap.size, j, none⟩ = some (.int .i64 ((if j < j then numK g j else numK f j : Nat) : Int)) := bF.cell j hlt
      rw [if_neg (Nat.lt_irrefl j)] at hwr
      rw [hmh] at hcl
      have HOLD : Hid (isFst g j = false → ∀ i, i < 512 → metA f g p j i = metA f g p (j + 1) i) := fun hf i hi => by
        rw [← HNEW.out i]
        split
        · rename_i e; subst e; rw [hmh, hf]; rfl
        · rfl
      have HTO : Hid (∀ i, (if i = j then numK g j else if i < j then numK g i else numK f i) = if i < j + 1 then numK g i else numK f i) := fun i => by
        by_cases e : i = j
        · subst e; simp
        · by_cases e2 : i < j
          · have : i < j + 1 := by omega
            simp [e, e2, this]
          · have : ¬ i < j + 1 := by omega
            simp [e, e2, this]
      clear hmh
      generalize numK f j = c at *
      generalize cntK g j = cn at *
      generalize numK g j = nu at *
      cases hfs : isFst g j
      · rw [hfs] at hcl
        simp only [Bool.false_eq_true, if_false] at hcl
        cases pj
        all_goals
          simp only [Bool.false_eq_true, if_false, if_true] at hoff
          subst hoff
          go_wp2_with (go_at_call 74; (with_reducible refine (has_p p (j : Int) _ (by omega) (by omega)).mono ?_); rintro e w1 ⟨rfl, hb1⟩; rw [Int.toNat_natCast, hpj]; have hd1 := cell_stays hcl hb1; have hd2 := cell_stays hwr hb1; have g1 := (bP.stays hb1).frozen c; have g2 := (bP.stays hb1).frozen (256 + c); have g3 := (bF.stays hb1).frozen j)
          go_roundg (256 - (j + 1))
          case measure => have := HMJ.out; omega
          case rel =>
            exact ⟨j + 1, by go_num, by omega, rfl, by rw [HG.out hfs], ((bF.stays hb1).set j nu hlt).congr (fun i _ => HTO.out i), (bS.stays hb1).far (by simp) _, (bR.stays hb1).far (by simp; omega) _, ((bP.stays hb1).far (by simp; omega) _).congr (HOLD.out hfs), (gro hW hb1).setCell (by simp) _⟩
      · rw [hfs] at hcl
        simp only [if_true] at hcl
        obtain ⟨he1, he2⟩ := HF.out hfs
        subst he1
        cases pj
        all_goals
          simp only [Bool.false_eq_true, if_false, if_true] at hoff
          subst hoff
          go_wp2_with (go_at_call 74; (with_reducible refine (has_p p (j : Int) _ (by omega) (by omega)).mono ?_); rintro e w1 ⟨rfl, hb1⟩; rw [Int.toNat_natCast, hpj]; have hd1 := cell_stays hcl hb1; have hd2 := cell_stays hwr hb1; have g1 := (bP.stays hb1).frozen c; have g2 := (bP.stays hb1).frozen (256 + c); have g3 := (bF.stays hb1).frozen j)
          go_roundg (256 - (j + 1))
          case measure => have := HMJ.out; omega
          case rel =>
            exact ⟨j + 1, by go_num, by omega, rfl, by rw [he2]; rfl, (((bF.stays hb1).far (by simp; omega) _).set j nu hlt).congr (fun i _ => HTO.out i), ((bS.stays hb1).far (by simp) _).far (by simp) _, ((bR.stays hb1).far (by simp) _).far (by simp; omega) _, (((bP.stays hb1).set _ (nu + 1) ho2).far (by simp; omega) _).congr (fun i _ => HNEW.out i), ((gro hW hb1).setCell (by simp; omega) _).setCell (by simp) _⟩
    · have hj6 : j = 256 := by omega
      subst hj6
      have bG := bF.congr (G := numK g) fun i hi => by simp [hi]
      go_wp2_with (first | (refine wpList_load256 (g := w.heap.size) (F := numK g) rfl bG ?_; go_simp) | (refine wpList_store256 (g := w.heap.size + 1 + 1) (F := fun _ => 0) (G := numK g) rfl rfl bR ?_; go_simp))
      have hz3 := bR.lt
      exact bodyPost_ret (v := .tuple #[.agg (arrV 256 (numK g)), .int .i64 (cntK g 256 : Nat)]) (results_arr Try.results60 rfl rfl (bR.put (numK g))) rfl ⟨rfl, below_setRow hW (by omega) _⟩
end Go.Proofs.Ytnkopcmkanibhaa

/-
  classes.Of: the classes of any sets; a slice of sets as it lies in memory. Contracts for other texts; no statement of its own.
-/
namespace Go.Proofs.Ytnkopcmkanibhaa
open Go Go.RowKit
attribute [local go_sem ↓] Go.wp_at_zero Go.wp_at_succ

theorem numK_nil (b : Nat) : numK (keyL []) b = 0 := by
  have h : numK (keyL []) b = numK (keyL []) 0 := (numK_eq _ _ _).2 rfl
  have := numK_le (keyL []) 0
  have e : cntK (keyL []) 0 = 0 := rfl
  omega
theorem cntK_nil : ∀ n, cntK (keyL []) (n + 1) = 1
  | 0 => rfl
  | n + 1 => by rw [cntK_step, cntK_nil n, numK_nil]; rfl
theorem parts_take (l : List (Nat → Bool)) (j : Nat) (h : j < l.length) : PartsBy (keyL (l.take j)) (keyL (l.take (j + 1))) (l[j]'h) := fun a b => keyL_eq l j h a b

/-- The sets that lie from A on, in blocks below B. -/
def RdS (w : World) (B : Nat) (A : Option Addr) (l : List (Nat → Bool)) : Prop :=
  ∀ k (h : k < l.length), ∃ b off, A = some ⟨b, off, none⟩ ∧ b < B ∧ ∀ q, q < 4 → w.cell? ⟨b, off + k * 4 + q, none⟩ = some (.int .u64 (word (l[k]'h) q))
section
variable {w w' : World} {B B' : Nat} {A : Option Addr} {l : List (Nat → Bool)}
theorem RdS.below (h : RdS w B A l) (hb : Below B w w') : RdS w' B A l := fun k hk => by
  obtain ⟨b, off, e, hB, hc⟩ := h k hk
  exact ⟨b, off, e, hB, fun q hq => (hb.cell (p := ⟨b, off + k * 4 + q, none⟩) hB).trans (hc q hq)⟩
theorem RdS.more (h : RdS w B A l) (hB : B ≤ B') : RdS w B' A l := fun k hk => by
  obtain ⟨b, off, e, hb, hc⟩ := h k hk
  exact ⟨b, off, e, by omega, hc⟩
end

/-- What Of tells: each byte's class, and how many there are. -/
def RetCls (w : World) (l : List (Nat → Bool)) (e : Ending) (w' : World) : Prop :=
  e = .returned (.tuple #[.agg (arrV 256 (numK (keyL l))), .int .i64 (cntK (keyL l) 256 : Nat)]) ∧ Below w.heap.size w w'

set_option maxRecDepth 20000 in
set_option maxHeartbeats 2000000 in
theorem classof_p (w : World) (A : Option Addr) (c : Nat) (l : List (Nat → Bool)) (hr : RdS w w.heap.size A l) (hlen : l.length ≤ 9223372036854775807) :
    Calls Try.prog 36 #[.slice A l.length c] w (RetCls w l) := by
  have hz1 : ∀ w : World, Sem.run Try.prog (zeroValue 34) w = .ok (.agg (arrV 256 fun _ => 0)) w := fun _ => by kernel_rfl
  have b2 := (BoxN.new w 34 256 fun _ => 0).alloc (.cells (arrV 256 fun _ => 0) 34)
  have b4 := (BoxN.new (w.alloc (.cells (arrV 256 fun _ => 0) 34)) 34 256 fun _ => 0)
  have hB : Below w.heap.size w ((w.alloc (.cells (arrV 256 fun _ => 0) 34)).alloc (.cells (arrV 256 fun _ => 0) 34)) := ((Below.refl _ _).alloc (Nat.le_refl _) _).alloc (by simp) _
  simp only [World.size_alloc] at b4
  have HB2 := Lib.hid b2
  have HB4 := Lib.hid b4
  have HBB := Lib.hid hB
  have HR := Lib.hid hr
  clear b2 b4 hB hr
  generalize hL : l.length = L at *
  have HL := Lib.hid hL
  clear hL
  go_enter Try.func36, Try.ntmps36
  go_wp2
  clear hz1
  go_loopg [5, 10] L (fun m n i wr => ∃ j : Nat, i = .int .i64 (j : Int) ∧ j ≤ L ∧ m = L - j ∧ n = .int .i64 (cntK (keyL (l.take j)) 256 : Nat) ∧ BoxN wr w.heap.size 34 256 (fun _ => 0) ∧ BoxN wr (w.heap.size + 1) 34 256 (numK (keyL (l.take j))) ∧ Below w.heap.size w wr)
  case atStart => exact ⟨0, rfl, Nat.zero_le _, rfl, by rw [List.take_zero, cntK_nil 255]; rfl, HB2.out, HB4.out.congr fun j hj => by rw [List.take_zero, numK_nil], HBB.out⟩
  case round =>
    obtain ⟨j, rfl, hj, hmj, rfl, bR, bC, hW⟩ := hrel
    have HMJ := Lib.hid hmj
    clear hmj
    have hsz := bC.lt
    by_cases hlt : j < L
    · have hlt' : j < l.length := by rw [HL.out]; exact hlt
      obtain ⟨b, off, rfl, hbB, hc⟩ := HR.out j hlt'
      have hp := parts_take l j hlt'
      generalize l[j]'hlt' = p at *
      have HP := Lib.hid hp
      clear hp
      have c0 := (hW.cell (p := ⟨b, off + j * 4 + 0, none⟩) hbB).trans (hc 0 (by omega))
      have c1 := (hW.cell (p := ⟨b, off + j * 4 + 1, none⟩) hbB).trans (hc 1 (by omega))
      have c2 := (hW.cell (p := ⟨b, off + j * 4 + 2, none⟩) hbB).trans (hc 2 (by omega))
      have c3 := (hW.cell (p := ⟨b, off + j * 4 + 3, none⟩) hbB).trans (hc 3 (by omega))
      have k0 : (0 : Int) ≤ (j : Int) := by omega
      have k1 : (j : Int) < (L : Int) := by omega
      clear hc
      rw [Nat.add_zero] at c0
      go_wp2_with (first
        | (refine wpList_load256 (g := w.heap.size + 1) (F := numK (keyL (l.take j))) rfl (bC.alloc _) ?_; go_simp)
        | (go_at_call 60; (with_reducible refine (split_p _ _ p _ HP.out).mono ?_); rintro e w1 ⟨rfl, hb1⟩; have hC1 := (bC.alloc _).stays hb1)
        | (refine wpList_store256 (g := w.heap.size + 1) (F := numK (keyL (l.take j))) (G := numK (keyL (l.take (j + 1)))) rfl rfl hC1 ?_; go_simp))
      go_roundg (L - (j + 1))
      case measure => have := HMJ.out; omega
      case rel => exact ⟨j + 1, by go_num, by omega, rfl, rfl, ((bR.alloc _).stays hb1).row (by omega) _, hC1.put _, below_setRow (gro1 hW hb1) (by omega) _⟩
    · have hj : j = l.length := by rw [HL.out]; omega
      rw [hj, List.take_length] at bC ⊢
      go_wp2_with (first | (refine wpList_load256 (g := w.heap.size + 1) (F := numK (keyL l)) rfl bC ?_; go_simp) | (refine wpList_store256 (g := w.heap.size) (F := fun _ => 0) (G := numK (keyL l)) rfl rfl bR ?_; go_simp))
      have hz3 := bR.lt
      exact bodyPost_ret (v := .tuple #[.agg (arrV 256 (numK (keyL l))), .int .i64 (cntK (keyL l) 256 : Nat)]) (results_arr Try.results36 rfl rfl (bR.put (numK (keyL l)))) rfl ⟨rfl, below_setRow hW (by omega) _⟩
end Go.Proofs.Ytnkopcmkanibhaa
