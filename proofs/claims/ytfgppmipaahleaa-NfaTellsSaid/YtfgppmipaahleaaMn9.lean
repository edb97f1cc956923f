/-
  Several texts of this proof in one file: NfaLay, NfaMark, NfaCount, Places, NfaBuild, NfaRun. No statement of its own.
-/
import Derived.Test.YtfgppmipaahleaaMn6
import Derived.Test.YtfgppmipaahleaaMn7
import Derived.Test.YtfgppmipaahleaaMn8
import Derived.Test.YtfgppmipaahleaaMn5
import Derived.Deep.LoopGhost
import Derived.Test.YtfgppmipaahleaaMn4
set_option linter.unusedVariables false
set_option linter.unusedSimpArgs false

/-
  nfa: any pattern laid out. Contracts for other texts; no statement of its own.
-/
namespace Go.Proofs.Ytfgppmipaahleaa
open Go Go.RowKit
attribute [local go_sem ↓] Go.wp_at_zero Go.wp_at_succ

/-- What the call told is put into the result's box. -/
theorem lay_end {w w5 : World} {B gl : Nat} {s' : Lay} {x' : Str} {Q : Nat → Prop} {e : Ending} (hge : ∀ b, Q b → b < w.heap.size)
    (h : RetLay (w.alloc (.cells #[.slice none 0 0, .slice none 0 0, .bool false] 87)) B gl (w.alloc (.cells #[.slice none 0 0, .slice none 0 0, .bool false] 87)).heap.size s' x' Q Q e w5) :
    ∃ A1 m1 c1 A2 m2 c2, e = .returned (.agg #[.slice A1 m1 c1, .slice A2 m2 c2, .bool x'.empty]) ∧ BoxS w5 w.heap.size (.slice none 0 0) (.slice none 0 0) false ∧
      RetLay w B gl w.heap.size s' x' Q Q e (((w5.setCell ⟨w.heap.size, 0, none⟩ (.slice A1 m1 c1)).setCell ⟨w.heap.size, 1, none⟩ (.slice A2 m2 c2)).setCell ⟨w.heap.size, 2, none⟩ (.bool x'.empty)) := by
  obtain ⟨v1, v2, Q', rfl, l5, s5, k5, q5⟩ := h
  obtain ⟨A1, m1, c1, rfl⟩ := s5.first.form3
  obtain ⟨A2, m2, c2, rfl⟩ := s5.last.form3
  have hn : ¬ Q w.heap.size := fun e => by have := hge _ e; omega
  have b5 := (BoxS.new w (.slice none 0 0) (.slice none 0 0) false).off k5 hn
  have hn' : ¬ Q' w.heap.size := fun e => (q5 _ e).elim hn fun e' => by simp at e'; omega
  have K : Kept (fun b => b = w.heap.size) w5 (((w5.setCell ⟨w.heap.size, 0, none⟩ (.slice A1 m1 c1)).setCell ⟨w.heap.size, 1, none⟩ (.slice A2 m2 c2)).setCell ⟨w.heap.size, 2, none⟩ (.bool x'.empty)) :=
    (((Kept.refl (fun b => b = w.heap.size) w5).setCell (a := ⟨w.heap.size, 0, none⟩) (.inl rfl) _).setCell (a := ⟨w.heap.size, 1, none⟩) (.inl rfl) _).setCell (a := ⟨w.heap.size, 2, none⟩) (.inl rfl) _
  have zk : ∀ {v : Value} {l : List Int} {C : Nat}, Ints w5 C v l → ∀ b, v.ownBlock = some b → ¬ b = w.heap.size := fun hi b e => by
    obtain ⟨cur, hc⟩ := hi.kind e
    exact kind_apart hc b5 (by decide)
  have hs : w.heap.size ≤ (w.alloc (.cells #[.slice none 0 0, .slice none 0 0, .bool false] 87)).heap.size := by simp
  have s6 := s5.low hs
  refine ⟨A1, m1, c1, A2, m2, c2, rfl, b5, _, _, Q', rfl, l5.off K fun b e e2 => hn' (e2 ▸ e), ⟨s6.first.off K (zk s6.first), s6.last.off K (zk s6.last), s6.apart, s6.out1, s6.out2⟩, ?_, fun b e => (q5 b e).imp id fun e' => by omega⟩
  exact ((((Kept.refl Q w).alloc _).trans k5 fun b h => .inl h)).trans K fun b e => .inr (by omega)

set_option maxRecDepth 20000 in
set_option maxHeartbeats 4000000 in
theorem lay_all : ∀ N, LayFor N := by
  intro N
  induction N with
  | zero => intro t w B gl s Q g o h; obtain ⟨op, p, lo, hi, l⟩ := t; simp at h
  | succ N ih =>
  intro t w B gl s Q g o hN hwf hlay hnode hB hl h1000
  have hge : ∀ b, Q b → b < w.heap.size := fun b e => (hlay.ge b e).2
  obtain ⟨kv, hna, htr⟩ := hnode.node
  obtain ⟨A, n, c, rfl⟩ := htr.form
  have hnb := htr.bound.1
  have hna1 : NodeAt (w.alloc (.cells #[.slice none 0 0, .slice none 0 0, .bool false] 87)) g o t (.slice A n c) := hna.block (Below.heap_alloc w _ g hnode.lt)
  have hcell : ∀ q v, (nodeC t (.slice A n c))[q]? = some v → (w.alloc (.cells #[.slice none 0 0, .slice none 0 0, .bool false] 87)).cell? ⟨g, o + q, none⟩ = some v := hna1
  have hcell0 := hcell 0 _ rfl
  rw [Nat.add_zero] at hcell0
  have hlay1 := hlay.alloc (.cells #[.slice none 0 0, .slice none 0 0, .bool false] 87)
  have hnode1 := hnode.alloc (.cells #[.slice none 0 0, .slice none 0 0, .bool false] 87)
  have hB1 : B ≤ (w.alloc (.cells #[.slice none 0 0, .slice none 0 0, .bool false] 87)).heap.size := by simp; omega
  have htr1 : Tree (w.alloc (.cells #[.slice none 0 0, .slice none 0 0, .bool false] 87)) (fun b => ¬ Q b) t (.slice A n c) := htr.alloc _
  have HGE := Lib.hid hge
  cases hwf with
  | one p =>
    have hcall := oneplace_p p hlay1 hB1 hl (by simp only [plR] at h1000; simp at h1000; omega)
    have c1 := hcell 1 _ rfl
    have c2 := hcell 2 _ rfl
    have c3 := hcell 3 _ rfl
    have c4 := hcell 4 _ rfl
    simp only [T.set] at c1 c2 c3 c4
    simp only [T.op] at hcell0
    have HC := Lib.hid hcall
    have hlp : layP (.mk 1 p 0 0 []) s = (oneL s p, oneX s) := by simp [layP]
    rw [hlp]
    clear hcall hcell hna hna1 hnode hnode1 hlay hlay1 htr htr1 hl ih hge hlp hnb
    go_enter Try.func26, Try.ntmps26
    go_wp2_with (go_at_call 52; (refine HC.out.mono ?_); intro e w5 he; obtain ⟨A1, m1, c1, A2, m2, c2, rfl, b5, hr⟩ := lay_end HGE.out he; have HR := Lib.hid hr; have HB5 := Lib.hid b5; obtain ⟨d0, d1, d2⟩ := b5.cell; obtain ⟨e0, e1, e2⟩ := b5.frozen; clear he hr b5)
    refine ret_str (x := 4) rfl rfl rfl (HB5.out.put _ _ _) ?_
    exact HR.out
  | cat l h2 hNl h =>
    have hk : ∀ u ∈ (T.mk 2 noneP 0 0 l).kids, SizeOf.sizeOf u ≤ N ∧ WF u := fun u hu => by
      have := List.sizeOf_lt_of_mem (show u ∈ l from hu)
      simp at hN
      exact ⟨by omega, h u hu⟩
    have hcall := cat_p ih hk hlay1 htr1 hB1 hl (by simp only [plR] at h1000; simpa [T.kids] using h1000) (by rw [hnb]; simp only [T.kids]; omega)
    have c7 := hcell 7 _ rfl
    simp only [T.op] at hcell0
    simp only [T.kids] at hcall
    have HC := Lib.hid hcall
    have hlp : layP (.mk 2 noneP 0 0 l) s = catP l s .nothing := by simp [layP]
    rw [hlp]
    clear hcall hcell hna hna1 hnode hnode1 hlay hlay1 htr htr1 hl ih hge hlp hnb hk h
    go_enter Try.func26, Try.ntmps26
    go_wp2_with (go_at_call 53; (refine HC.out.mono ?_); intro e w5 he; obtain ⟨A1, m1, c1, A2, m2, c2, rfl, b5, hr⟩ := lay_end HGE.out he; have HR := Lib.hid hr; have HB5 := Lib.hid b5; obtain ⟨d0, d1, d2⟩ := b5.cell; obtain ⟨e0, e1, e2⟩ := b5.frozen; clear he hr b5)
    refine ret_str (x := 4) rfl rfl rfl (HB5.out.put _ _ _) ?_
    exact HR.out
  | alt l h2 hNl h =>
    have hk : ∀ u ∈ (T.mk 3 noneP 0 0 l).kids, SizeOf.sizeOf u ≤ N ∧ WF u := fun u hu => by
      have := List.sizeOf_lt_of_mem (show u ∈ l from hu)
      simp at hN
      exact ⟨by omega, h u hu⟩
    have hcall := alt_p ih hk hlay1 htr1 hB1 hl (by simp only [plR] at h1000; simpa [T.kids] using h1000) (by rw [hnb]; simp only [T.kids]; omega)
    have c7 := hcell 7 _ rfl
    simp only [T.op] at hcell0
    simp only [T.kids] at hcall
    have HC := Lib.hid hcall
    have hlp : layP (.mk 3 noneP 0 0 l) s = altP l s .void := by simp [layP]
    rw [hlp]
    clear hcall hcell hna hna1 hnode hnode1 hlay hlay1 htr htr1 hl ih hge hlp hnb hk h
    go_enter Try.func26, Try.ntmps26
    go_wp2_with (go_at_call 54; (refine HC.out.mono ?_); intro e w5 he; obtain ⟨A1, m1, c1, A2, m2, c2, rfl, b5, hr⟩ := lay_end HGE.out he; have HR := Lib.hid hr; have HB5 := Lib.hid b5; obtain ⟨d0, d1, d2⟩ := b5.cell; obtain ⟨e0, e1, e2⟩ := b5.frozen; clear he hr b5)
    refine ret_str (x := 4) rfl rfl rfl (HB5.out.put _ _ _) ?_
    exact HR.out
  | rep m h u h0 h1 h2 h3 hu =>
    obtain ⟨M, rfl⟩ : ∃ M : Nat, m = M := ⟨m.toNat, by omega⟩
    obtain ⟨H, rfl⟩ : ∃ H : Nat, h = H := ⟨h.toNat, by omega⟩
    have hNu : SizeOf.sizeOf u ≤ N := by simp at hN; omega
    have hone : LayOne u := fun w B gl s Q g o h1 h2 h3 h4 h5 => ih u w B gl s Q g o hNu hu h1 h2 h3 h4 h5
    have hpl : plR (.mk 4 noneP (M : Int) (H : Int) [u]) = H * plR u := by simp [plR, plRL]
    rw [hpl] at h1000
    have hcall := rep_p (M := M) (H := H) hone hu (by omega) (by omega) hlay1 hnode1 hB1 hl h1000
    simp only [T.op] at hcell0
    have HC := Lib.hid hcall
    have hh : headP [u] = layP u := by funext s; simp [headP]
    have hlp : layP (.mk 4 noneP (M : Int) (H : Int) [u]) s = repX (layP u) M (H - M) s := by
      simp only [layP]
      simp [hh]
    rw [hlp]
    clear hcall hcell hna hna1 hnode hnode1 hlay hlay1 htr htr1 hl ih hge hlp hnb hone hpl hh
    go_enter Try.func26, Try.ntmps26
    go_wp2_with (go_at_call 55; (refine HC.out.mono ?_); intro e w5 he; obtain ⟨A1, m1, c1, A2, m2, c2, rfl, b5, hr⟩ := lay_end HGE.out he; have HR := Lib.hid hr; have HB5 := Lib.hid b5; obtain ⟨d0, d1, d2⟩ := b5.cell; obtain ⟨e0, e1, e2⟩ := b5.frozen; clear he hr b5)
    refine ret_str (x := 4) rfl rfl rfl (HB5.out.put _ _ _) ?_
    exact HR.out
theorem lay_p {t : T} {w : World} {B gl : Nat} {s : Lay} {Q : Nat → Prop} {g o : Nat} (hwf : WF t) (hlay : LayAt w B gl s Q) (hnode : NodeIn w g o t Q) (hB : B ≤ w.heap.size) (hl : LInv s) (h1000 : s.sets.length + plR t ≤ 1000) :
    Calls Try.prog 26 #[.pointer (some ⟨gl, 0, none⟩), .pointer (some ⟨g, o, none⟩)] w (RetLay w B gl w.heap.size (layP t s).1 (layP t s).2 Q Q) :=
  lay_all _ t w B gl s Q g o (Nat.le_refl _) hwf hlay hnode hB hl h1000
end Go.Proofs.Ytfgppmipaahleaa

/-
  nfa: marks. Contracts for other texts; no statement of its own.
-/
namespace Go.Proofs.Ytfgppmipaahleaa
open Go Go.RowKit
attribute [local go_sem ↓] Go.wp_at_zero Go.wp_at_succ

def boolsV (n : Nat) (F : Nat → Bool) : List Value := (List.range n).map fun j => .bool (F j)
theorem boolsV_at (n : Nat) (F : Nat → Bool) (j : Nat) (h : j < n) : (boolsV n F)[j]? = some (.bool (F j)) := by simp [boolsV, h]
theorem boolsV_congr {n : Nat} {F G : Nat → Bool} (h : ∀ j, j < n → F j = G j) : boolsV n F = boolsV n G := by
  apply List.ext_getElem?
  intro j
  by_cases hj : j < n
  · rw [boolsV_at _ _ _ hj, boolsV_at _ _ _ hj, h j hj]
  · rw [List.getElem?_eq_none (by simp [boolsV]; omega), List.getElem?_eq_none (by simp [boolsV]; omega)]
theorem boolsV_set (n : Nat) (F : Nat → Bool) (p : Nat) (h : p < n) (b : Bool) : (boolsV n F).set p (.bool b) = boolsV n (fun j => if j = p then b else F j) := by
  apply List.ext_getElem?
  intro j
  rw [List.getElem?_set]
  by_cases hj : j < n
  · rw [boolsV_at _ _ _ hj, boolsV_at _ _ _ hj]
    by_cases e : p = j
    · subst e; simp [boolsV, hj]
    · have e' : ¬ j = p := fun x => e x.symm
      simp [e, e']
  · have e : ¬ p = j := by omega
    rw [if_neg e, List.getElem?_eq_none (by simp [boolsV]; omega), List.getElem?_eq_none (by simp [boolsV]; omega)]
/-- A row of truths in memory of one's own. -/
def Bools (w : World) (C g n : Nat) (F : Nat → Bool) : Prop := w.ownsRow C 4 1 (.slice (some ⟨g, 0, none⟩) n n) n (boolsV n F)
section
variable {w w' : World} {C g n : Nat} {F G : Nat → Bool}
theorem Bools.cell (h : Bools w C g n F) (j : Nat) (hj : j < n) : w.cell? ⟨g, j, none⟩ = some (.bool (F j)) := by
  rw [World.ownsRow.cellAt h j (by omega), boolsV_at _ _ _ hj]
theorem Bools.frozen (h : Bools w C g n F) (j : Nat) : w.frozen? ⟨g, j, none⟩ = false := World.ownsRow.frozenAt h j
theorem Bools.in (h : Bools w C g n F) : C ≤ g ∧ g < w.heap.size := World.ownsRow.lt h g rfl
theorem Bools.kind (h : Bools w C g n F) : ∃ cur, w.heap[g]? = some (.cells cur 4 (0, 0)) := own_kind h rfl
theorem Bools.block (h : Bools w C g n F) (hb : w'.heap[g]? = w.heap[g]?) : Bools w' C g n F := own_block h fun b e _ => by injection e with e; subst e; exact hb
theorem Bools.stays (h : Bools w C g n F) (hb : Below w.heap.size w w') : Bools w' C g n F := h.block (hb.block g h.in.2)
theorem Bools.off {Q : Nat → Prop} (h : Bools w C g n F) (hk : Kept Q w w') (hq : ¬ Q g) : Bools w' C g n F := h.block (hk.block g h.in.2 hq)
theorem Bools.congr (h : Bools w C g n F) (hc : ∀ j, j < n → F j = G j) : Bools w C g n G := by
  unfold Bools at h ⊢
  rw [← boolsV_congr hc]
  exact h
theorem Bools.set (h : Bools w C g n F) (p : Nat) (hp : p < n) (b : Bool) : Bools (w.setCell ⟨g, p, none⟩ (.bool b)) C g n (fun j => if j = p then b else F j) := by
  have := (World.ownsRow.stored h p (.bool b)).1
  rw [boolsV_set n F p hp] at this
  exact this
end
theorem bools_made (n : Nat) : (madeCells (Value.bool false).cells (n * 1)).toList = boolsV n fun _ => false := by
  apply List.ext_getElem?
  intro j
  by_cases hj : j < n
  · rw [boolsV_at _ _ _ hj]
    simp [madeCells, Value.cells, hj, Nat.mod_one]
  · rw [List.getElem?_eq_none (by simp [madeCells, Value.cells]; omega), List.getElem?_eq_none (by simp [boolsV]; omega)]

set_option maxRecDepth 20000 in
set_option maxHeartbeats 2000000 in
theorem mark_p {w : World} {C D g n : Nat} {F : Nat → Bool} {v : Value} {ps : List Nat} (h : Bools w C g n F) (hv : Ints w D v (ns ps)) (hlt : ∀ p ∈ ps, p < n) (hl : ps.length ≤ 100000) (hn : n ≤ 100000) :
    Calls Try.prog 27 #[.slice (some ⟨g, 0, none⟩) n n, v] w fun e w' => e = .returned (.tuple #[]) ∧ Bools w' C g n (fun j => F j || ps.contains j) ∧ Kept (fun b => b = g) w w' := by
  obtain ⟨A, c, e1, -, -⟩ := hv.news
  rw [ns_len] at e1
  subst e1
  obtain ⟨L, hL⟩ : ∃ L, ps.length = L := ⟨_, rfl⟩
  rw [hL] at hv hl ⊢
  have HH := Lib.hid h
  have HV := Lib.hid hv
  have HL := Lib.hid hL
  have HLT := Lib.hid hlt
  clear h hv hL hlt
  go_enter Try.func27, Try.ntmps27
  go_wp2
  go_loopg [8] L (fun m i wr => ∃ k : Nat, i = .int .i64 (k : Int) ∧ k ≤ L ∧ m = L - k ∧ Bools wr C g n (fun j => F j || (ps.take k).contains j) ∧ Kept (fun b => b = g) w wr)
  case atStart => exact ⟨0, rfl, Nat.zero_le _, rfl, HH.out.congr fun j _ => by simp, Kept.refl _ _⟩
  case round =>
    obtain ⟨k, rfl, hk, hmk, hb, hkr⟩ := hrel
    have HMK := Lib.hid hmk
    clear hmk
    by_cases hkl : k < L
    · have hkl' : k < ps.length := by rw [HL.out]; exact hkl
      have hvg : ∀ b, (Value.slice A L c).ownBlock = some b → ¬ b = g := fun b e => by
        obtain ⟨cur, hc⟩ := HV.out.kind e
        obtain ⟨cur', hc'⟩ := HH.out.kind
        exact kind_apart hc hc' (by decide)
      have hvw := HV.out.off hkr hvg
      obtain ⟨g2, c2', e2, hC2, hg2, hcell⟩ := hvw.at k (by rw [ns_len]; exact hkl')
      rw [ns_len, HL.out] at e2
      simp only [Value.slice.injEq] at e2
      obtain ⟨rfl, -, rfl⟩ := e2
      have hpn := HLT.out _ (List.getElem_mem hkl')
      have hce : (ns ps)[k]'(by rw [ns_len]; exact hkl') = ((ps[k]'hkl' : Nat) : Int) := by simp [ns]
      rw [hce] at hcell
      have htk := List.take_succ_eq_append_getElem hkl'
      obtain ⟨p, hp⟩ : ∃ p, ps[k]'hkl' = p := ⟨_, rfl⟩
      rw [hp] at hpn htk hcell
      have hcb := hb.cell p hpn
      have hfb := hb.frozen p
      have p0 : (0 : Int) ≤ (p : Int) := by omega
      have p1 : (p : Int) < (n : Int) := by omega
      have k0 : (0 : Int) ≤ (k : Int) := by omega
      have k1 : (k : Int) < (L : Int) := by omega
      have HB := Lib.hid hb
      have HKR := Lib.hid hkr
      have HTK := Lib.hid htk
      have HPN := Lib.hid hpn
      clear hvg hvw hce htk hp hb hkr
      go_wp2
      go_roundg (L - (k + 1))
      case measure => have := HMK.out; omega
      case rel =>
        refine ⟨k + 1, by go_num, by omega, rfl, (HB.out.set p HPN.out true).congr fun j hj => ?_, HKR.out.setCell (.inl rfl) _⟩
        rw [HTK.out]
        by_cases e : j = p <;> simp [e]
    · have hkL : k = ps.length := by rw [HL.out]; omega
      rw [hkL, List.take_length] at hb
      go_wp2
      exact ⟨rfl, .tuple #[], by simp [results, Try.results27], rfl, hb, hkr⟩
end Go.Proofs.Ytfgppmipaahleaa

/-
  nfa: how many places there are. Contracts for other texts; no statement of its own.
-/
namespace Go.Proofs.Ytfgppmipaahleaa
open Go Go.RowKit
attribute [local go_sem ↓] Go.wp_at_zero Go.wp_at_succ

def RetCount (w : World) (t : T) (e : Ending) (w' : World) : Prop := e = .returned (.int .i64 (plR t : Nat)) ∧ Below w.heap.size w w'
def NoQ : Nat → Prop := fun _ => False
theorem NodeIn.stays {w w' : World} {Q : Nat → Prop} {g o : Nat} {t : T} (h : NodeIn w g o t Q) (hb : Below w.heap.size w w') : NodeIn w' g o t Q := h.kept (Kept.of_below Q hb) fun b h => .inl h
theorem plR_kid (l : List T) (k : Nat) (h : k < l.length) : plR (l[k]'h) ≤ plRL l := by
  have h1 := plRL_take l k h
  have h2 := plRL_le l (k + 1)
  omega
set_option maxRecDepth 20000 in
set_option maxHeartbeats 4000000 in
theorem count_n : ∀ (N : Nat) (t : T) (w : World) (g o : Nat), SizeOf.sizeOf t ≤ N → WF t → NodeIn w g o t NoQ → plR t ≤ 256 → Calls Try.prog 25 #[.pointer (some ⟨g, o, none⟩)] w (RetCount w t) := by
  intro N
  induction N with
  | zero => intro t w g o h; obtain ⟨op, p, lo, hi, l⟩ := t; simp at h
  | succ N ih =>
  intro t w g o hN hwf hnode h256
  obtain ⟨kv, hna, htr⟩ := hnode.node
  obtain ⟨A, n, c, rfl⟩ := htr.form
  have hnb := htr.bound.1
  have hcell : ∀ q v, (nodeC t (.slice A n c))[q]? = some v → w.cell? ⟨g, o + q, none⟩ = some v := hna
  have hcell0 := hcell 0 _ rfl
  rw [Nat.add_zero] at hcell0
  have hglt := hnode.lt
  have HCELL := Lib.hid hcell
  have HTR := Lib.hid htr
  have many : ∀ (op : Int) (l : List T), t = .mk op noneP 0 0 l → (op = 2 ∨ op = 3) → 2 ≤ l.length → l.length ≤ 202 → (∀ x ∈ l, WF x) → plR t = plRL l → Calls Try.prog 25 #[.pointer (some ⟨g, o, none⟩)] w (RetCount w t) := by
    intro op l ht hop h2 h202 hall hpl
    have hkids : t.kids = l := by rw [ht]; rfl
    have hto : t.op = op := by rw [ht]; rfl
    rw [hkids] at hnb
    rw [hto] at hcell0
    have c7 := HCELL.out 7 _ rfl
    have hk : ∀ u ∈ l, SizeOf.sizeOf u ≤ N ∧ WF u := fun u hu => by
      have := List.sizeOf_lt_of_mem hu
      rw [ht] at hN
      simp at hN
      exact ⟨by omega, hall u hu⟩
    have hm1 : (op == (1 : Int)) = false := by simp; omega
    have hm4 : (op == (4 : Int)) = false := by simp; omega
    unfold RetCount
    rw [hpl] at h256 ⊢
    have HK := Lib.hid hk
    have HKIDS := Lib.hid hkids
    have H256 := Lib.hid h256
    have HNB := Lib.hid hnb
    have HIH := Lib.hid ih
    clear hk hkids h256 hnb ih hna htr hnode hcell hN hwf hall hpl hop
    go_enter Try.func25, Try.ntmps25
    go_wp2
    go_loopg [3, 30] n (fun m s i wr => ∃ k : Nat, i = .int .i64 (k : Int) ∧ k ≤ n ∧ m = n - k ∧ s = .int .i64 (plRL (l.take k) : Nat) ∧ Below w.heap.size w wr)
    case atStart => exact ⟨0, rfl, Nat.zero_le _, rfl, by simp [plRL], Below.refl _ _⟩
    case round =>
      obtain ⟨k, rfl, hk, hmk, rfl, hW⟩ := hrel
      have HMK := Lib.hid hmk
      clear hmk
      by_cases hkl : k < n
      · have hkl' : k < l.length := by rw [← HNB.out]; exact hkl
        have hkt : k < t.kids.length := by rw [HKIDS.out]; exact hkl'
        have htk := plRL_take l k hkl'
        have hle := plRL_le l (k + 1)
        have hle0 := plRL_le l k
        have h256 := H256.out
        obtain ⟨gn, rfl, hkid⟩ := node_kid (Q := NoQ) HTR.out k hkt
        have hu : t.kids[k]'hkt = l[k]'hkl' := by
          have : ∀ (l' : List T) (h : k < l'.length), l' = l → l'[k]'h = l[k]'hkl' := fun l' h e => by subst e; rfl
          exact this _ hkt HKIDS.out
        rw [hu] at hkid
        have hku := HK.out _ (List.getElem_mem hkl')
        generalize l[k]'hkl' = u at *
        have hcall := HIH.out u wr gn (k * 8) hku.1 hku.2 (hkid.stays hW) (by omega)
        unfold RetCount at hcall
        have HC := Lib.hid hcall
        have e7 := (hW.cell (p := ⟨g, o + 7, none⟩) hglt).trans c7
        obtain ⟨a, ha⟩ : ∃ a, plRL (l.take k) = a := ⟨_, rfl⟩
        obtain ⟨b, hb⟩ : ∃ b, plR u = b := ⟨_, rfl⟩
        rw [ha, hb] at htk
        rw [hb] at HC
        rw [ha] at hle0 ⊢
        have HTK := Lib.hid htk
        have hab : a + b ≤ 256 := by omega
        have hn202 : n ≤ 202 := by have := HNB.out; omega
        have hna : ¬ ((256 : Int) < (a : Int)) := by omega
        have k0 : (0 : Int) ≤ (k : Int) := by omega
        have k1 : (k : Int) < (n : Int) := by omega
        clear hcall hkid hu hku htk hle hkt hkl' ha hb
        go_wp2_with (go_at_call 25; (refine HC.out.mono ?_); rintro e w5 ⟨rfl, hb5⟩)
        go_roundg (n - (k + 1))
        case measure => have := HMK.out; omega
        case rel => exact ⟨k + 1, by go_num, by omega, rfl, by rw [HTK.out]; go_num, gro hW hb5⟩
      · have hkn : k = l.length := by rw [← HNB.out]; omega
        have htl : plRL (l.take k) = plRL l := by rw [hkn, List.take_length]
        rw [htl]
        go_wp2
        go_ret
        exact ⟨rfl, hW⟩
  cases hwf with
  | one p =>
    simp only [T.op] at hcell0
    go_enter Try.func25, Try.ntmps25
    go_wp2
    go_ret
    exact ⟨by simp [plR], Below.refl _ _⟩
  | cat l h2 hNl h => exact many 2 l rfl (.inl rfl) h2 hNl h (by simp [plR])
  | alt l h2 hNl h => exact many 3 l rfl (.inr rfl) h2 hNl h (by simp [plR])
  | rep m h u h0 h1 h2 h3 hu =>
    obtain ⟨H, rfl⟩ : ∃ H : Nat, h = H := ⟨h.toNat, by omega⟩
    have hNu : SizeOf.sizeOf u ≤ N := by simp at hN; omega
    have hpl : plR (.mk 4 noneP m (H : Int) [u]) = H * plR u := by simp [plR, plRL]
    rw [hpl] at h256
    have hH1 : 1 ≤ H := by omega
    have hub : plR u ≤ H * plR u := Nat.le_mul_of_pos_left _ hH1
    obtain ⟨gn, rfl, hkid⟩ := node_kid (Q := NoQ) htr 0 (by simp [T.kids])
    have hkid' : NodeIn w gn 0 u NoQ := by simpa [T.kids] using hkid
    have hcall := fun W (hb : Below w.heap.size w W) => ih u W gn 0 hNu hu (hkid'.stays hb) (by omega)
    have c6 : w.cell? ⟨g, o + 6, none⟩ = some (.int .i64 (H : Int)) := hcell 6 _ rfl
    have c7 := hcell 7 _ rfl
    simp only [T.op] at hcell0
    have hn1 : n = 1 := by rw [hnb]; rfl
    subst hn1
    unfold RetCount at hcall ⊢
    rw [hpl]
    obtain ⟨x, hx⟩ : ∃ x, plR u = x := ⟨_, rfl⟩
    rw [hx] at h256 hcall ⊢
    have hmul : IntKind.i64.wrap ((H : Int) * (x : Int)) = ((H * x : Nat) : Int) := by rw [IntWalk.i64_in _ (by rw [← Int.natCast_mul]; omega), Int.natCast_mul]
    have hmin : min ((H * x : Nat) : Int) 257 = ((H * x : Nat) : Int) := by omega
    have HC := Lib.hid hcall
    clear hcall hkid hkid' many ih hna htr hnode hcell hub hpl hnb
    have d0 : w.drew.cell? ⟨g, o, none⟩ = some (.int .i64 4) := hcell0
    go_enter Try.func25, Try.ntmps25
    go_upto_region 5 with fail
    go_region_law (first
      | (go_simp; go_at_call 25; (refine (HC.out _ ((Below.refl _ _).drew)).mono ?_); rintro e w5 ⟨rfl, hb5⟩; have f6 := (hb5.cell (p := ⟨g, o + 6, none⟩) hglt).trans c6; have HB5 := Lib.hid hb5; clear hb5)
      | fail)
    all_goals
      go_wp2
      go_ret
      exact ⟨rfl, undrew HB5.out⟩
theorem count_p {t : T} {w : World} {g o : Nat} (hwf : WF t) (hnode : NodeIn w g o t NoQ) (h256 : plR t ≤ 256) : Calls Try.prog 25 #[.pointer (some ⟨g, o, none⟩)] w (RetCount w t) :=
  count_n _ t w g o (Nat.le_refl _) hwf hnode h256
end Go.Proofs.Ytfgppmipaahleaa

/-
  The document's own Places. Contracts for other texts; no statement of its own.
-/
namespace Go.Proofs.Ytfgppmipaahleaa
open Go Go.RowKit
attribute [local go_sem ↓] Go.wp_at_zero Go.wp_at_succ

mutual
/-- How many places a pattern has, up to 1000. -/
def plN : T → Nat
  | .mk op p lo hi l => min (((if op = 1 then 1 else 0) + plSum l) * (if op = 4 then hi.toNat else 1)) 1000
def plSum : List T → Nat
  | [] => 0
  | t :: ts => plN t + plSum ts
end
theorem plN_le (t : T) : plN t ≤ 1000 := by cases t; unfold plN; omega
theorem plSum_app : ∀ (l l' : List T), plSum (l ++ l') = plSum l + plSum l'
  | [], l' => by simp [plSum]
  | t :: ts, l' => by simp [plSum, plSum_app ts l']; omega
theorem plSum_take (l : List T) (j : Nat) (h : j < l.length) : plSum (l.take (j + 1)) = plSum (l.take j) + plN (l[j]'h) := by
  rw [List.take_succ_eq_append_getElem h, plSum_app]
  simp [plSum]
theorem plSum_le : ∀ (l : List T), plSum l ≤ 1000 * l.length
  | [] => by simp [plSum]
  | t :: ts => by
    have := plSum_le ts
    have := plN_le t
    simp [plSum]
    omega

/-- A node as an argument. -/
def nodeP (t : T) (k : Value) : Value := .agg #[.int .i64 t.op, .int .u64 (word t.set 0), .int .u64 (word t.set 1), .int .u64 (word t.set 2), .int .u64 (word t.set 3), .int .i64 t.lo, .int .i64 t.hi, k]
theorem WF.op_cases {t : T} (h : WF t) : (t.op = 1 ∧ t.kids = [] ∧ t.lo = 0 ∧ t.hi = 0) ∨ (t.op = 2 ∧ 2 ≤ t.kids.length ∧ t.kids.length ≤ 202 ∧ t.lo = 0 ∧ t.hi = 0) ∨ (t.op = 3 ∧ 2 ≤ t.kids.length ∧ t.kids.length ≤ 202 ∧ t.lo = 0 ∧ t.hi = 0) ∨
    (t.op = 4 ∧ t.kids.length = 1 ∧ 0 ≤ t.lo ∧ t.lo ≤ t.hi ∧ 1 ≤ t.hi ∧ t.hi ≤ 32) := by
  cases h with
  | one p => exact .inl ⟨rfl, rfl, rfl, rfl⟩
  | cat l h2 hN h => exact .inr (.inl ⟨rfl, h2, hN, rfl, rfl⟩)
  | alt l h2 hN h => exact .inr (.inr (.inl ⟨rfl, h2, hN, rfl, rfl⟩))
  | rep m n t h0 h1 h2 h3 h => exact .inr (.inr (.inr ⟨rfl, rfl, h0, h1, h2, h3⟩))
theorem WF.len {t : T} (h : WF t) : t.kids.length ≤ 202 := by
  rcases h.op_cases with h | h | h | h
  · rw [h.2.1]; decide
  · exact h.2.2.1
  · exact h.2.2.1
  · rw [h.2.1]; decide
theorem WF.kid {t : T} (h : WF t) {u : T} (hu : u ∈ t.kids) : WF u := by
  cases h with
  | one p => simp [T.kids] at hu
  | cat l h2 hN h => exact h u hu
  | alt l h2 hN h => exact h u hu
  | rep m n t h0 h1 h2 h3 h => simp [T.kids] at hu; rw [hu]; exact h
theorem WF.at {t : T} (h : WF t) (j : Nat) (hj : j < t.kids.length) : WF (t.kids[j]'hj) := h.kid (List.getElem_mem hj)

def RetInt (w : World) (n : Int) (e : Ending) (w' : World) : Prop := e = .returned (.int .i64 n) ∧ Below w.heap.size w w'
set_option maxRecDepth 20000 in
set_option maxHeartbeats 2000000 in
theorem places_n : ∀ (N : Nat) (t : T) (w : World) (ok : Nat → Prop) (k : Value), SizeOf.sizeOf t ≤ N → WF t → Tree w ok t k →
    Calls Try.prog 12 #[nodeP t k] w (RetInt w (plN t)) := by
  intro N
  induction N with
  | zero => intro t w ok k h; obtain ⟨op, p, lo, hi, l⟩ := t; simp at h
  | succ N ih =>
  intro t w ok k hN hwf ht
  obtain ⟨A, n', c, rfl⟩ := ht.form
  obtain ⟨hn, hm⟩ := ht.bound
  have hlen := hwf.len
  rw [← hn] at hlen
  unfold maxLen at hm
  have hop := hwf.op_cases
  have b1 := Box8.new w t (.slice A n' c)
  have hB : Below w.heap.size w (w.alloc (.cells #[.int .i64 t.op, .int .u64 (word t.set 0), .int .u64 (word t.set 1), .int .u64 (word t.set 2), .int .u64 (word t.set 3), .int .i64 t.lo, .int .i64 t.hi, .slice A n' c] 29)) := (Below.refl _ _).alloc (Nat.le_refl _) _
  have hpl : plN t = min (((if t.op = 1 then 1 else 0) + plSum t.kids) * (if t.op = 4 then t.hi.toNat else 1)) 1000 := by cases t; rfl
  have hsum := plSum_le t.kids
  have HPL := Lib.hid hpl
  have HSUM := Lib.hid hsum
  have HWF := Lib.hid hwf
  have HOP := Lib.hid hop
  have HN := Lib.hid hn
  have HT := Lib.hid ht
  have IH := Lib.hid ih
  have HB1 := Lib.hid b1
  have HM := Lib.hid hm
  clear hn ih hpl hsum hwf hop
  unfold nodeP
  cases hb1 : (t.op == 1)
  all_goals
    cases hb4 : (t.op == 4)
    all_goals
      go_enter Try.func12, Try.ntmps12
      go_wp2
      go_loopg [3, 4] n' (fun m k i wr => ∃ j : Nat, i = .int .i64 (j : Int) ∧ j ≤ n' ∧ m = n' - j ∧ k = .int .i64 (((if t.op = 1 then 1 else 0) + plSum (t.kids.take j) : Nat) : Int) ∧ Box8 wr w.heap.size t (.slice A n' c) ∧ Below w.heap.size w wr)
      case atStart => exact ⟨0, rfl, Nat.zero_le _, rfl, by first | (rw [if_pos (by simpa using hb1)]; rfl) | (rw [if_neg (by simpa using hb1)]; rfl), HB1.out, hB⟩
      case round =>
        obtain ⟨j, rfl, hj, hmj, rfl, x1, hW⟩ := hrel
        have HMJ := Lib.hid hmj
        obtain ⟨c0, c1, c2, c3, c4, c5, c6, c7⟩ := x1.cell
        clear b1 hmj
        by_cases hlt : j < n'
        · have hlt' : j < t.kids.length := by rw [← HN.out]; exact hlt
          obtain ⟨g, B, m1, m2, e1, hg1, htk, hcells⟩ := kid8 HT.out j (List.getElem?_eq_getElem hlt')
          subst e1
          have hks := kid_size t j hlt'
          have hwk := HWF.out.at j hlt'
          have hst := plSum_take t.kids j hlt'
          have hsl := plSum_le (t.kids.take j)
          rw [List.length_take] at hsl
          have hpu := plN_le (t.kids[j]'hlt')
          generalize t.kids[j] = u at *
          have HC : ∀ q v, (nodeC u (.slice B m1 m2))[q]? = some v → wr.cell? ⟨g, j * 8 + q, none⟩ = some v := fun q v h => by rw [Nat.mul_comm j 8]; exact (hW.cell (p := ⟨g, 8 * j + q, none⟩) hg1).trans (hcells q v h)
          have k0 : wr.cell? ⟨g, j * 8, none⟩ = _ := HC 0 _ rfl
          have k1 := HC 1 _ rfl
          have k2 := HC 2 _ rfl
          have k3 := HC 3 _ rfl
          have k4 := HC 4 _ rfl
          have k5 := HC 5 _ rfl
          have k6 := HC 6 _ rfl
          have k7 := HC 7 _ rfl
          have HK := Lib.hid (fun w' (hb : Below wr.heap.size wr w') => IH.out u w' ok (.slice B m1 m2) (by omega) hwk ((htk.stays hW).stays hb))
          have HST := Lib.hid hst
          clear HC hcells htk hks hwk hst
          unfold nodeP RetInt at HK
          have ha : ((if t.op = 1 then 1 else 0 : Nat)) ≤ 1 := by split <;> omega
          generalize hS : (if t.op = 1 then 1 else 0 : Nat) = a0 at *
          generalize plSum (t.kids.take j) = S at *
          have hS2 : S ≤ 202000 := by omega
          clear hS
          go_wp2_with (go_at_call 12; (with_reducible refine (HK.out _ (Below.refl _ _)).mono ?_); rintro e w5 ⟨rfl, hb5⟩)
          go_roundg (n' - (j + 1))
          case measure => have := HMJ.out; omega
          case rel => exact ⟨j + 1, by go_num, by omega, rfl, by rw [HST.out]; go_num, x1.stays hb5, gro hW hb5⟩
        · have hjn : j = t.kids.length := by rw [← HN.out]; omega
          have hwhole : t.kids.take j = t.kids := by rw [hjn]; exact List.take_length
          rw [hwhole]
          have hS2 := HSUM.out
          have ha : ((if t.op = 1 then 1 else 0 : Nat)) ≤ 1 := by split <;> omega
          have hpl' := HPL.out
          rw [show t.kids.length = n' from HN.out.symm] at hS2
          generalize hS : (if t.op = 1 then 1 else 0 : Nat) = a0 at *
          generalize plSum t.kids = S at *
          by_cases h4 : t.op = 4
          · first
              | (exfalso; simp [h4] at hb4; done)
              | skip
            all_goals
              rw [if_pos h4] at hpl'
              have hh := HOP.out
              have hh2 : 1 ≤ t.hi ∧ t.hi ≤ 32 := by omega
              obtain ⟨hi0, hi1⟩ := hh2
              obtain ⟨hN, hNe⟩ : ∃ hN : Nat, t.hi = hN := ⟨t.hi.toNat, by omega⟩
              have hpr : (a0 + S) * hN ≤ 202001 * 32 := Nat.mul_le_mul (by omega) (by omega)
              rw [hNe, Int.toNat_natCast] at hpl'
              have hprod : ((a0 : Int) + (S : Int)) * (hN : Int) = (((a0 + S) * hN : Nat) : Int) := by simp
              generalize (a0 + S) * hN = Pr at hpl' hpr hprod
              have HPL2 := Lib.hid hpl'
              have HPR := Lib.hid hprod
              rw [hNe] at c6
              have p0 : (0 : Int) ≤ ((a0 : Int) + (S : Int)) * (hN : Int) := by rw [hprod]; omega
              have p1 : ((a0 : Int) + (S : Int)) * (hN : Int) ≤ 9223372036854775807 := by rw [hprod]; omega
              clear hpl' hNe hh h4 hS hprod hi0 hi1
              go_wp2
              all_goals
                go_ret
                refine ⟨congrArg Ending.returned (congrArg (Value.int .i64) ?_), hW⟩
                have e1 := HPL2.out
                have e2 := HPR.out
                rw [e1]
                omega
          · first
              | (exfalso; simp at hb4; exact h4 hb4)
              | skip
            all_goals
              rw [if_neg h4, Nat.mul_one] at hpl'
              have HPL2 := Lib.hid hpl'
              clear hpl' h4 hS
              go_wp2
              all_goals
                go_ret
                refine ⟨congrArg Ending.returned (congrArg (Value.int .i64) ?_), hW⟩
                rw [HPL2.out]
                omega

theorem places_p {t : T} {k : Value} {ok : Nat → Prop} (w : World) (hwf : WF t) (ht : Tree w ok t k) : Calls Try.prog 12 #[nodeP t k] w (RetInt w (plN t)) :=
  places_n _ t w ok k (Nat.le_refl _) hwf ht

end Go.Proofs.Ytfgppmipaahleaa

/-
  nfa.Build, of patterns of not too many places. Contracts for other texts; no statement of its own.
-/
namespace Go.Proofs.Ytfgppmipaahleaa
open Go Go.RowKit
attribute [local go_sem ↓] Go.wp_at_zero Go.wp_at_succ

theorem Try.infoBool : (Try.prog.info? 4).map (fun i => (i.zero, i.size, i.bytes)) = some (some (.bool false), 1, 1) := by kernel_rfl
/-- Places in memory, as Build tells them. -/
structure NfaAt (w : World) (C : Nat) (vs v1 : Value) (gm : Nat) (vf : Value) (s : Lay) (x : Str) : Prop where
  rows : ∃ Q, RowsAt w C vs vf s Q
  first : Ints w C v1 (ns x.first)
  last : Bools w C gm s.sets.length (fun j => x.last.contains j)
def RetBuild (w : World) (s : Lay) (x : Str) (e : Ending) (w' : World) : Prop :=
  ∃ A1 m1 c1 A2 m2 c2 gm A3 m3 c3, e = .returned (.tuple #[.agg #[.slice A1 m1 c1, .slice A2 m2 c2, .slice (some ⟨gm, 0, none⟩) s.sets.length s.sets.length, .slice A3 m3 c3, .bool x.empty], .nilIface]) ∧
    NfaAt w' w.heap.size (.slice A1 m1 c1) (.slice A2 m2 c2) gm (.slice A3 m3 c3) s x ∧ Below w.heap.size w w'
/-- A box of places. -/
def BoxF (w : World) (g : Nat) (a b c d : Value) (e : Bool) : Prop := w.heap[g]? = some (.cells #[a, b, c, d, .bool e] 37 (0, 0))
section
variable {w w' : World} {g x y : Nat} {a b c d v : Value} {e : Bool}
theorem BoxF.cell (h : BoxF w g a b c d e) : w.cell? ⟨g, 0, none⟩ = some a ∧ w.cell? ⟨g, 1, none⟩ = some b ∧ w.cell? ⟨g, 2, none⟩ = some c ∧ w.cell? ⟨g, 3, none⟩ = some d ∧ w.cell? ⟨g, 4, none⟩ = some (.bool e) := by
  unfold BoxF at h
  refine ⟨?_, ?_, ?_, ?_, ?_⟩ <;> exact cell_of_row w g _ _ 37 (0, 0) h
theorem BoxF.frozen (h : BoxF w g a b c d e) : w.frozen? ⟨g, 0, none⟩ = false ∧ w.frozen? ⟨g, 1, none⟩ = false ∧ w.frozen? ⟨g, 2, none⟩ = false ∧ w.frozen? ⟨g, 3, none⟩ = false ∧ w.frozen? ⟨g, 4, none⟩ = false := by
  unfold BoxF at h
  refine ⟨?_, ?_, ?_, ?_, ?_⟩ <;> simp [World.frozen?, h]
theorem BoxF.lt (h : BoxF w g a b c d e) : g < w.heap.size := lt_of_some h
theorem BoxF.new (w : World) (a b c d : Value) (e : Bool) : BoxF (w.alloc (.cells #[a, b, c, d, .bool e] 37)) w.heap.size a b c d e := heap_alloc_new w _
theorem BoxF.alloc (h : BoxF w g a b c d e) (o : Obj) : BoxF (w.alloc o) g a b c d e := (Below.heap_alloc w o g h.lt).trans h
theorem BoxF.stays (h : BoxF w g a b c d e) (hb : Below w.heap.size w w') : BoxF w' g a b c d e := (hb.block g h.lt).trans h
theorem BoxF.off {Q : Nat → Prop} (h : BoxF w g a b c d e) (hk : Kept Q w w') (hq : ¬ Q g) : BoxF w' g a b c d e := (hk.block g h.lt hq).trans h
theorem BoxF.put (h : BoxF w g a b c d e) (a' b' c' d' : Value) (e' : Bool) : BoxF (((((w.setCell ⟨g, 0, none⟩ a').setCell ⟨g, 1, none⟩ b').setCell ⟨g, 2, none⟩ c').setCell ⟨g, 3, none⟩ d').setCell ⟨g, 4, none⟩ (.bool e')) g a' b' c' d' e' := by
  unfold BoxF at h ⊢
  have h0 := heap_setCell_same w g 0 _ _ a' h
  have h1 := heap_setCell_same _ g 1 _ _ b' h0
  have h2 := heap_setCell_same _ g 2 _ _ c' h1
  have h3 := heap_setCell_same _ g 3 _ _ d' h2
  rw [heap_setCell_same _ g 4 _ _ (.bool e') h3]
  rfl
theorem loadVarF (h : BoxF w g a b c d e) : (loadVar 37 ⟨g, 0, none⟩).run Try.prog w = .ok (.agg #[a, b, c, d, .bool e]) w := by
  obtain ⟨c0, c1, c2, c3, c4⟩ := h.cell
  have h1 : (loadCells ⟨g, 0, none⟩ 5).run Try.prog w = .ok #[a, b, c, d, .bool e] w := run_loadCells w ⟨g, 0, none⟩ 5 (fun j => if j = 0 then a else if j = 1 then b else if j = 2 then c else if j = 3 then d else .bool e) (fun j hj => by
    rw [Addr.add_lit, Nat.zero_add]
    match j, hj with
    | 0, _ => exact c0
    | 1, _ => exact c1
    | 2, _ => exact c2
    | 3, _ => exact c3
    | 4, _ => exact c4)
  have h2 : (isAgg 37).run Try.prog w = .ok true w := by kernel_rfl
  have h3 : (sizeOf 37).run Try.prog w = .ok 5 w := by kernel_rfl
  simp [loadVar, Sem.run_bind, h1, h2, h3]
theorem ret_nfa {fn : Func} {R : Ending → World → Prop} {a0 : Act} (hr : fn.results = #[.cell x 37, .tmp y]) (hx : a0.tmps.getD x undef = .pointer (some ⟨g, 0, none⟩)) (hy : a0.tmps.getD y undef = v) (hd : a0.defers = []) (h : BoxF w g a b c d e)
    (hR : R (.returned (.tuple #[.agg #[a, b, c, d, .bool e], v])) w) : bodyPost Try.prog fn R .ret a0 w := by
  refine bodyPost_ret ?_ hd hR
  have e0 : (#[ResultVar.cell x 37, .tmp y] : Array ResultVar) = [ResultVar.cell x 37, .tmp y].toArray := rfl
  rw [Array.getD_eq_getD_getElem?] at hx hy
  unfold results
  rw [hr, e0]
  simp [Sem.run_bind, hx, hy, loadVarF h, asAddr]
end
theorem lay_empty (w : World) (B : Nat) (hB : B ≤ w.heap.size) : LayAt (w.alloc (.cells #[.slice none 0 0, .slice none 0 0] 85)) B w.heap.size ⟨[], []⟩ (fun b => b = w.heap.size) :=
  ⟨fun b e => by subst e; simp; omega, rfl, _, _, heap_alloc_new w _, ⟨World.ownsRow_nil _ _ _ _, fun b e => (by cases e), ⟨[], World.ownsRow_nil _ _ _ _, ⟨rfl, fun i v l h => (by simp at h), fun i v b h => (by simp at h), fun i j v v' b h => (by simp at h)⟩⟩, fun b e => (by cases e)⟩⟩
theorem linv_empty : LInv ⟨[], []⟩ := ⟨rfl, fun q p h => by simp at h⟩

set_option maxRecDepth 20000 in
set_option maxHeartbeats 4000000 in
theorem build_p {t : T} {w : World} {ok : Nat → Prop} {k : Value} (hwf : WF t) (ht : Tree w ok t k) (h256 : plR t ≤ 256) : Calls Try.prog 7 #[nodeP t k] w (RetBuild w (lay0 t).1 (lay0 t).2) := by
  obtain ⟨A, n, c, rfl⟩ := ht.form
  have b1 := Box8.new w t (.slice A n c)
  have hB1 : Below w.heap.size w (w.alloc (.cells #[.int .i64 t.op, .int .u64 (word t.set 0), .int .u64 (word t.set 1), .int .u64 (word t.set 2), .int .u64 (word t.set 3), .int .i64 t.lo, .int .i64 t.hi, .slice A n c] 29)) := (Below.refl _ _).alloc (Nat.le_refl _) _
  have hN1 : NodeIn (w.alloc (.cells #[.int .i64 t.op, .int .u64 (word t.set 0), .int .u64 (word t.set 1), .int .u64 (word t.set 2), .int .u64 (word t.set 3), .int .i64 t.lo, .int .i64 t.hi, .slice A n c] 29)) w.heap.size 0 t NoQ :=
    ⟨⟨_, b1.nodeAt, (ht.stays hB1).weak fun _ _ _ h => h⟩, fun h => h, b1.lt⟩
  have hsz0 : (lay0 t).1.sets.length = plR t := by have := lay_size hwf ⟨[], []⟩; simpa [lay0] using this
  have hf0 := lay_facts hwf ⟨[], []⟩ linv_empty
  obtain ⟨s0, x0, e0⟩ : ∃ a b, layP t ⟨[], []⟩ = (a, b) := ⟨_, _, rfl⟩
  have hlay0 : lay0 t = (s0, x0) := e0
  rw [e0] at hf0
  rw [hlay0] at hsz0 ⊢
  simp only at hf0 hsz0 ⊢
  obtain ⟨z, hz⟩ : ∃ z, plR t = z := ⟨_, rfl⟩
  have hlast : ∀ p ∈ x0.last, p < s0.sets.length := fun p hp => by
    obtain ⟨R, g⟩ := hf0.nice
    exact (g.last p hp).2
  have hll := hf0.nice.len.2
  obtain ⟨i0, hi, hi0, hi1, hi2⟩ := info_parts Try.infoBool
  have bR := BoxF.new (w.alloc (.cells #[.int .i64 t.op, .int .u64 (word t.set 0), .int .u64 (word t.set 1), .int .u64 (word t.set 2), .int .u64 (word t.set 3), .int .i64 t.lo, .int .i64 t.hi, .slice A n c] 29)) (.slice none 0 0) (.slice none 0 0) (.slice none 0 0) (.slice none 0 0) false
  have hB2 := hB1.alloc hB1.size (.cells #[.slice none 0 0, .slice none 0 0, .slice none 0 0, .slice none 0 0, .bool false] 37)
  have hN2 := hN1.alloc (.cells #[.slice none 0 0, .slice none 0 0, .slice none 0 0, .slice none 0 0, .bool false] 37)
  rw [World.size_alloc] at bR
  have hcount := count_p hwf hN2 (by omega)
  unfold RetCount at hcount
  rw [hz] at hcount h256 hsz0
  have HCO := Lib.hid hcount
  have HLAY : Hid (∀ (W : World) (Q : Nat → Prop) (gl : Nat), LayAt W w.heap.size gl ⟨[], []⟩ Q → NodeIn W w.heap.size 0 t Q → w.heap.size ≤ W.heap.size → Calls Try.prog 26 #[.pointer (some ⟨gl, 0, none⟩), .pointer (some ⟨w.heap.size, 0, none⟩)] W (RetLay W w.heap.size gl W.heap.size s0 x0 Q Q)) := fun W Q gl h1 h2 h3 => by
    have := lay_p hwf h1 h2 h3 linv_empty (by simp; omega)
    rw [e0] at this
    exact this
  unfold RetLay at HLAY
  have HN := Lib.hid hN2
  have HBR := Lib.hid bR
  have HB2 := Lib.hid hB2
  have HSZ := Lib.hid hsz0
  have HLA := Lib.hid hlast
  have HLL : Hid (x0.last.length ≤ 100000) := by show _ ≤ _; simp at hll; omega
  have hz256 : ¬ ((256 : Int) < (z : Int)) := by omega
  unfold nodeP
  clear hcount hN1 hN2 bR hB1 hB2 hsz0 hlast hll hf0 e0 hlay0 hz b1 ht hwf
  go_enter Try.func7, Try.ntmps7
  go_wp2_with (first
    | (go_at_call 25; (refine HCO.out.mono ?_); rintro e w2 ⟨rfl, hb2⟩; have hbw := gro HB2.out hb2; have n2 := HN.out.stays hb2; have r2 := HBR.out.stays hb2; have hl2 := r2.lt; have l3 := lay_empty w2 w.heap.size hbw.size; have n3 : NodeIn (w2.alloc (.cells #[.slice none 0 0, .slice none 0 0] 85)) w.heap.size 0 t (fun b => b = w2.heap.size) := n2.kept ((Kept.refl NoQ w2).alloc _) (fun b e => .inr (by omega)); have L3 := Lib.hid l3; have N3 := Lib.hid n3; have R3 := Lib.hid (r2.alloc (.cells #[.slice none 0 0, .slice none 0 0] 85)); have HBW := Lib.hid hbw; clear l3 n3 n2 r2 hb2 hbw)
    | (go_at_call 26; (refine (HLAY.out _ _ _ L3.out N3.out (by simp; have := HBW.out.size; omega)).mono ?_); rintro e w5 ⟨v1, v2, Q', rfl, l5, s5, k5, q5⟩; obtain ⟨A4, m4, c4, rfl⟩ := s5.first.form3; obtain ⟨A5, m5, c5, rfl⟩ := s5.last.form3; obtain ⟨vs, vf, hgl, hrw⟩ := l5.box; obtain ⟨As, cs, rfl⟩ := own_form3 hrw.sets; obtain ⟨fs, hfo, hfs⟩ := hrw.fols; obtain ⟨Af, cf, rfl⟩ := own_form3 hfo; rw [HSZ.out] at hgl hrw; have hs25 := k5.size; rw [World.size_alloc] at hs25; have hw2 := HBW.out.size; have l2 := R3.out.lt; rw [World.size_alloc] at l2; have hq2 : ∀ b, Q' b → b ≠ w.heap.size + 1 ∧ w.heap.size + 1 < w5.heap.size := (fun b e => ⟨fun e2 => (by rcases q5 b e with e3 | e3; have e3' : b = w2.heap.size := e3; omega; rw [World.size_alloc] at e3; omega), by omega⟩); have r5 := R3.out.off k5 (by intro e; have : w.heap.size + 1 = w2.heap.size := e; omega); have h6 : HasO (w5.alloc (.cells #[.slice A4 m4 c4, .slice A5 m5 c5, .bool x0.empty] 87)) w2.heap.size (.cells #[.slice As z cs, .slice Af s0.follow.length cf] 85 (0, 0)) := has_alloc _ hgl; have c60 : (w5.alloc (.cells #[.slice A4 m4 c4, .slice A5 m5 c5, .bool x0.empty] 87)).cell? ⟨w2.heap.size, 0, none⟩ = some (.slice As z cs) := cell_of_row _ _ 0 _ _ (0, 0) h6; obtain ⟨wm, hmk, hown, hgm⟩ := run_make_full (P := Try.prog) (w5.alloc (.cells #[.slice A4 m4 c4, .slice A5 m5 c5, .bool x0.empty] 87)) w.heap.size 34 4 i0 _ 1 Try.underlying34 hi hi0 hi1 .i64 .i64 z (by rw [hi2]; omega) (by unfold maxLen; omega) (by simp; omega); rw [bools_made] at hown; rw [World.size_alloc] at hmk hown; have km : Kept NoQ (w5.alloc (.cells #[.slice A4 m4 c4, .slice A5 m5 c5, .bool x0.empty] 87)) wm := ((Kept.refl NoQ _).grown hgm fun b e => by cases e); have gm6 : HasO wm w2.heap.size (.cells #[.slice As z cs, .slice Af s0.follow.length cf] 85 (0, 0)) := (km.block _ (lt_of_some h6) (fun h => h)).trans h6; have b5m := (BoxS.new w5 (.slice A4 m4 c4) (.slice A5 m5 c5) x0.empty).off km (fun h => h); have r6 := (r5.alloc (.cells #[.slice A4 m4 c4, .slice A5 m5 c5, .bool x0.empty] 87)).off km (fun h => h); obtain ⟨t0, t1, t2⟩ := b5m.cell; have g0 : wm.cell? ⟨w2.heap.size, 0, none⟩ = some (.slice As z cs) := cell_of_row _ _ 0 _ _ (0, 0) gm6; have BM : Hid (Bools wm w.heap.size (w5.heap.size + 1) z fun _ => false) := hown; have IL := Lib.hid ((s5.last.alloc (.cells #[.slice A4 m4 c4, .slice A5 m5 c5, .bool x0.empty] 87)).off km (Q := NoQ) (fun b e h => h)); have GM := Lib.hid gm6; have BT := Lib.hid b5m; have RR := Lib.hid r6; have L5 := Lib.hid l5; have KK5 := Lib.hid k5; have S5 := Lib.hid s5; have HRW := Lib.hid hrw; have HQ2 := Lib.hid hq2; have KM := Lib.hid km; have Q5' := Lib.hid q5; clear l5 s5 hrw hfo hfs hgl k5 q5 r5 h6 hown hgm km gm6 b5m r6 hq2)
    | (go_at_call 27; (refine (mark_p BM.out IL.out (by intro p hp; have := HLA.out p hp; rw [HSZ.out] at this; exact this) HLL.out (by omega)).mono ?_); rintro e w7 ⟨rfl, hb7, k7⟩; have g7 : HasO w7 w2.heap.size (.cells #[.slice As z cs, .slice Af s0.follow.length cf] 85 (0, 0)) := (k7.block _ (lt_of_some GM.out) (by intro e; have : w2.heap.size = w5.heap.size + 1 := e; omega)).trans GM.out; have f0 : w7.cell? ⟨w2.heap.size, 0, none⟩ = some (.slice As z cs) := cell_of_row _ _ 0 _ _ (0, 0) g7; have f1 : w7.cell? ⟨w2.heap.size, 1, none⟩ = some (.slice Af s0.follow.length cf) := cell_of_row _ _ 1 _ _ (0, 0) g7; have b7 := BT.out.off k7 (by intro e; have : w5.heap.size = w5.heap.size + 1 := e; omega); have r7 := RR.out.off k7 (by intro e; have : w.heap.size + 1 = w5.heap.size + 1 := e; omega); obtain ⟨u0, u1, u2⟩ := b7.cell; obtain ⟨j0, j1, j2, j3, j4⟩ := r7.cell; obtain ⟨k0, k1, k2, k3, k4⟩ := r7.frozen; have R7 := Lib.hid r7; have B7 := Lib.hid hb7; have K7 := Lib.hid k7; clear g7 b7 r7 hb7 k7))
  refine ret_nfa (x := 2) (y := 3) rfl rfl rfl rfl (R7.out.put _ _ _ _ _) ?_
  have K7F := ((((((Kept.refl (fun b => b = w.heap.size + 1) w7).setCell (a := ⟨w.heap.size + 1, 0, none⟩) (.inl rfl) (.slice As z cs)).setCell (a := ⟨w.heap.size + 1, 1, none⟩) (.inl rfl) (.slice A4 m4 c4)).setCell (a := ⟨w.heap.size + 1, 2, none⟩) (.inl rfl) (.slice (some ⟨w5.heap.size + 1, 0, none⟩) z z)).setCell (a := ⟨w.heap.size + 1, 3, none⟩) (.inl rfl) (.slice Af s0.follow.length cf)).setCell (a := ⟨w.heap.size + 1, 4, none⟩) (.inl rfl) (.bool x0.empty))
  have K5F := ((((Kept.refl (fun b => b = w.heap.size + 1 ∨ b = w5.heap.size + 1) w5).alloc (.cells #[.slice A4 m4 c4, .slice A5 m5 c5, .bool x0.empty] 87)).trans KM.out fun b h => h.elim).trans K7.out fun b e => .inl (.inr e)).trans K7F fun b e => .inl (.inl e)
  have hw2s := HBW.out.size
  have hin := fun b e => S5.out.first.in (b := b) e
  rw [World.size_alloc] at hin
  refine ⟨As, z, cs, A4, m4, c4, w5.heap.size + 1, Af, s0.follow.length, cf, by rw [HSZ.out]; rfl, ⟨⟨_, HRW.out.block fun b e hb => K5F.block b hb ?_⟩, ?_, ?_⟩, ?_⟩
  · rintro (h | h)
    · exact (HQ2.out b e).1 h
    · have := (L5.out.ge b e).2; omega
  · refine (S5.out.first.off K5F fun b e h => ?_).high fun b e => by have := hin b e; omega
    have := hin b e
    rcases h with h | h <;> omega
  · rw [HSZ.out]
    exact (B7.out.off K7F (by intro h; have h' : w5.heap.size + 1 = w.heap.size + 1 := h; omega)).congr fun j _ => by simp
  · exact ((((Kept.of_below NoQ HBW.out).alloc _).trans KK5.out fun b e => .inr (by have e' : b = w2.heap.size := e; omega)).trans K5F fun b e => .inr (by rcases e with e | e <;> omega)).below (Nat.le_refl _) fun b e => e.elim
end Go.Proofs.Ytfgppmipaahleaa

/-
  A word goes through the places: which places are ahead, byte by byte. Plain mathematics; no statement of its own.
-/
namespace Go.Proofs.Ytfgppmipaahleaa
open Go

section
variable (xs : List Int) (s : Lay) (x : Str)
/-- p may come next, behind k bytes. -/
def Ahead (k p : Nat) : Prop := (k = 0 ∧ p ∈ x.first) ∨ ∃ q, Goes (eats xs s) (fol s) (· ∈ x.first) 0 q k ∧ fol s q p
/-- p has eaten byte k. -/
def Gone (k p : Nat) : Prop := Goes (eats xs s) (fol s) (· ∈ x.first) 0 p (k + 1)
end
section
variable {xs : List Int} {s : Lay} {x : Str}
theorem goes_pos {S φ : Nat → Nat → Prop} {F : Nat → Prop} {i p j : Nat} (h : Goes S φ F i p j) : i < j := by
  induction h with
  | start p h hs => omega
  | step q p j h hf hs ih => omega
theorem gone_iff (k p : Nat) : Gone xs s x k p ↔ Ahead xs s x k p ∧ eats xs s p k := by
  constructor
  · intro h
    unfold Gone at h
    generalize hj : k + 1 = j at h
    cases h with
    | start p h hs =>
      have : k = 0 := by omega
      subst this
      exact ⟨.inl ⟨rfl, h⟩, hs⟩
    | step q p j' h hf hs =>
      have : k = j' := by omega
      subst this
      exact ⟨.inr ⟨q, h, hf⟩, hs⟩
  · rintro ⟨h | ⟨q, h, hf⟩, hs⟩
    · obtain ⟨rfl, h⟩ := h
      exact .start p h hs
    · exact .step q p k h hf hs
theorem ahead_next (k p : Nat) : Ahead xs s x (k + 1) p ↔ ∃ q, Gone xs s x k q ∧ fol s q p := by
  constructor
  · rintro (⟨h, _⟩ | h)
    · omega
    · exact h
  · intro h; exact .inr h
theorem rec_next (k : Nat) : Rec (eats xs s) (fol s) x 0 (k + 1) ↔ ∃ q, Gone xs s x k q ∧ q ∈ x.last := by
  unfold Rec
  constructor
  · rintro (⟨_, h⟩ | ⟨p, h1, h2⟩)
    · omega
    · exact ⟨p, h2, h1⟩
  · rintro ⟨q, h1, h2⟩
    exact .inr ⟨q, h2, h1⟩
theorem rec_zero : Rec (eats xs s) (fol s) x 0 0 ↔ x.empty = true := by
  unfold Rec
  constructor
  · rintro (⟨h, _⟩ | ⟨p, h1, h2⟩)
    · exact h
    · have := goes_pos h2; omega
  · intro h; exact .inl ⟨h, rfl⟩
/-- Whoever comes far comes by each byte. -/
theorem goes_by {S φ : Nat → Nat → Prop} {F : Nat → Prop} {p j : Nat} (h : Goes S φ F 0 p j) : ∀ k, k < j → ∃ q, Goes S φ F 0 q (k + 1) := by
  induction h with
  | start p h hs =>
    intro k hk
    have : k = 0 := by omega
    subst this
    exact ⟨p, .start p h hs⟩
  | step q p j h hf hs ih =>
    intro k hk
    by_cases e : k = j
    · subst e; exact ⟨p, .step q p k h hf hs⟩
    · exact ih k (by omega)
theorem rec_stops (k n : Nat) (hk : k < n) (h : ∀ q, ¬ Gone xs s x k q) : ¬ Rec (eats xs s) (fol s) x 0 n := by
  rintro (⟨_, e⟩ | ⟨p, _, hg⟩)
  · omega
  · obtain ⟨q, hq⟩ := goes_by hg k hk
    exact h q hq
end
end Go.Proofs.Ytfgppmipaahleaa
