/-
  macro.Run, and the document's. Contracts for other texts; no statement of its own.
-/
import Derived.Test.YthhgagghdeocoaaMacMem
import Derived.Test.YthhgagghdeocoaaCtBoth
import Derived.Test.YthhgagghdeocoaaStoRow
import Derived.BigQuiet
import Derived.Deep.LoopGhost
set_option linter.unusedVariables false
set_option linter.unusedSimpArgs false
namespace Go.Proofs.Ythhgagghdeocoaa
open Go Go.RowKit
attribute [local go_sem ↓] run_stoE

theorem run_step {m : Nat} {x : Ins} {l : List Ins} {f : Int → Int} {tr : List Ins} {o : List Int} (h : may x m = true) : runF m (x :: l) f = runF m l (nextM x m f) ∧ runT m (x :: l) tr = runT m l (nextT x m tr) ∧ runO m (x :: l) f o = runO m l (nextM x m f) (if x.op = 11 then o ++ [toldM x m f] else o) := by
  unfold nextM nextT toldM
  refine ⟨?_, ?_, ?_⟩
  · rw [runF, if_pos h, if_pos h]
  · rw [runT, if_pos h, if_pos h]
  · rw [runO, if_pos h, if_pos h, if_pos h]
    by_cases e : x.op = 11
    · simp [e, told]
    · simp [e]
theorem run_stop {m : Nat} {x : Ins} {l : List Ins} {f : Int → Int} {tr : List Ins} {o : List Int} (h : may x m = false) : runF m (x :: l) f = nextM x m f ∧ runT m (x :: l) tr = nextT x m tr ∧ runO m (x :: l) f o = none := by
  unfold nextM nextT
  refine ⟨?_, ?_, ?_⟩
  · rw [runF, h]; rfl
  · rw [runT, h]; rfl
  · rw [runO, h]; rfl
theorem W64.off {w w' : World} {Q : Nat → Prop} {B : Nat} {v : Value} {o : List Int} (h : W64 w B v o) (hk : Kept Q w w') (hq : ∀ b, v.ownBlock = some b → ¬ Q b) : W64 w' B v o := own_block h fun b e hb => hk.block b hb (hq b e)
theorem RdI.kept {w w' : World} {Q : Nat → Prop} {A : Option Addr} {l : List Ins} (h : RdI w A l) (hk : Kept Q w w') (hq : l ≠ [] → ∀ b o, A = some ⟨b, o, none⟩ → ¬ Q b) : RdI w' A l := fun i x hi => by
  have hne : l ≠ [] := by rintro rfl; simp at hi
  obtain ⟨g, off, e, hg, hc⟩ := h i x hi
  exact ⟨g, off, e, Nat.lt_of_lt_of_le hg hk.size, fun q u hu => hk.cell (hc q u hu) (hq hne g off e)⟩
/-- A machine of either kind, as what it owns. -/
structure Side (M : World → (Nat → Prop) → Prop) : Prop where
  lt : ∀ {w F}, M w F → ∀ b, F b → b < w.heap.size
  kept : ∀ {w w' F Q}, M w F → Kept Q w w' → (∀ b, F b → ¬ Q b) → M w' F
theorem mach_side (p m : Nat) (f : Int → Int) (tr : List Ins) : Side fun w F => Mach w F p m f tr := ⟨fun h => h.lt, fun h => h.kept⟩
theorem doc_side (p m : Nat) (f : Int → Int) (tr : List Ins) : Side fun w F => Doc w F p m f tr := ⟨fun h => h.lt, fun h k q => h.keep k q⟩
/-- A run under way: the machine, and what was told. -/
structure Going (M : World → (Nat → Prop) → Prop) (w wr : World) (F F' : Nat → Prop) (v : Value) (o : List Int) : Prop where
  mach : M wr F'
  keep : Kept F w wr
  new : ∀ b, F' b → F b ∨ w.heap.size ≤ b
  row : W64 wr w.heap.size v o
  off : ∀ b, v.ownBlock = some b → ¬ F' b
section
variable {M M' : World → (Nat → Prop) → Prop} {w wr wb w4 w6 : World} {F F' F4 : Nat → Prop} {v v' : Value} {o o' : List Int}
theorem Going.does (hM : Side M) (hM' : Side M') (h : Going M w wr F F' v o) (hb : Below wr.heap.size wr wb) (m4 : M' w4 F4) (k4 : Kept F' wb w4) (n4 : ∀ b, F4 b → F' b ∨ wb.heap.size ≤ b) : Going M' w w4 F F4 v o := by
  have hs := h.keep.size
  have hs2 := hb.size
  refine ⟨m4, (h.keep.trans (Kept.of_below (fun _ => False) hb) fun b e => e.elim).trans k4 h.new, fun b e => (n4 b e).elim (h.new b) fun e' => .inr (by omega), (h.row.stays hb).off k4 h.off, fun b e e' => (n4 b e').elim (h.off b e) fun x => ?_⟩
  have := (h.row.in b e).2
  omega
theorem Going.tells (hM : Side M) (h : Going M w w4 F F4 v o) {c : Obj} (hr : W64 w6 w.heap.size v' o') (hg : (w4.alloc c).grownBy w6 v.ownBlock) (hv : v'.ownBlock = v.ownBlock ∨ v'.ownBlock = some (w4.alloc c).heap.size) : Going M w w6 F F4 v' o' := by
  have hk : Kept (fun b => v.ownBlock = some b) w4 w6 := ((Kept.refl _ w4).alloc c).grown hg fun b e => .inl e
  refine ⟨hM.kept h.mach hk fun b e e' => h.off b e' e, h.keep.trans hk fun b e => .inr (h.row.in b e).1, h.new, hr, fun b e e' => ?_⟩
  rcases hv with e2 | e2
  · exact h.off b (e2.symm.trans e) e'
  · have := hM.lt h.mach b e'
    have e3 : b = (w4.alloc c).heap.size := by rw [e2] at e; injection e with e; exact e.symm
    rw [e3] at this
    simp at this
    omega
end
def outV (o : Option (List Int)) (w : World) (B : Nat) (v : Value) : Prop := match o with | some l => W64 w B v l | none => v = .slice none 0 0
theorem outV_w64 {o : Option (List Int)} {w : World} {B : Nat} {v : Value} (h : outV o w B v) : W64 w B v (o.getD []) := by
  cases o with
  | none =>
    have h' : v = .slice none 0 0 := h
    subst h'
    exact World.ownsRow_nil _ _ _ 1
  | some l => exact h
def RetRun (M : World → (Nat → Prop) → Prop) (E : Bool → Value) (w : World) (F : Nat → Prop) (m : Nat) (f : Int → Int) (l : List Ins) (e : Ending) (w' : World) : Prop :=
  ∃ v F', e = .returned (.tuple #[v, E (runO m l f []).isSome]) ∧ outV (runO m l f []) w' w.heap.size v ∧ M w' F' ∧ Kept F w w' ∧ (∀ b, F' b → F b ∨ w.heap.size ≤ b) ∧ ∀ b, v.ownBlock = some b → ¬ F' b
def noughtI : Array Value := #[.int .i64 0, .int .i64 0, .int .i64 0, .int .i64 0, .int .i64 0, .int .u64 0]

set_option maxRecDepth 20000 in
set_option maxHeartbeats 4000000 in
theorem run_p {w : World} {F : Nat → Prop} {p m : Nat} {f : Int → Int} {tr l : List Ins} {A : Option Addr} {ca : Nat} (h : Mach w F p m f tr) (hl : RdI w A l) (hoff : l ≠ [] → ∀ g off, A = some ⟨g, off, none⟩ → ¬ F g) (hfit : ∀ (i : Nat) (x : Ins), l[i]? = some x → x.fits) (hm : m ≤ 200000) (hlen : tr.length + l.length ≤ 99999) :
    Calls Try.prog 30 #[.pointer (some ⟨p, 0, none⟩), .slice A l.length ca] w (RetRun (fun w F => Mach w F p m (runF m l f) (runT m l tr)) errM w F m f l) := by
  obtain ⟨N, hN⟩ : ∃ N, l.length = N := ⟨_, rfl⟩
  rw [hN] at hlen ⊢
  unfold RetRun
  have HH := Lib.hid h
  have HL := Lib.hid hl
  have HF := Lib.hid hfit
  have HN := Lib.hid hN
  have HOFF := Lib.hid hoff
  clear h hl hfit hN hoff
  go_enter Try.func30, Try.ntmps30
  go_wp2
  go_loopg [6, 13] N (fun mm v i wr => ∃ (k : Nat) (F' : Nat → Prop) (f' : Int → Int) (tr' : List Ins) (o : List Int), i = .int .i64 (k : Int) ∧ k ≤ N ∧ mm = N - k ∧ Going (fun w F => Mach w F p m f' tr') w wr F F' v o ∧ tr'.length + (N - k) ≤ 99999 ∧ o.length ≤ k ∧ runF m (l.drop k) f' = runF m l f ∧ runT m (l.drop k) tr' = runT m l tr ∧ runO m (l.drop k) f' o = runO m l f [])
  case atStart => exact ⟨0, F, f, tr, [], by first | rfl | trivial, Nat.zero_le _, by first | rfl | trivial, ⟨HH.out, Kept.refl _ _, fun b e => .inl e, World.ownsRow_nil _ _ _ 1, fun b e => (by cases e)⟩, by omega, Nat.le_refl _, rfl, rfl, rfl⟩
  case round =>
    obtain ⟨k, F', f', tr', o, rfl, hk, hmk, hgo, hln, hol, e1, e2, e3⟩ := hrel
    have HMK := Lib.hid hmk
    have HGO := Lib.hid hgo
    have HLN := Lib.hid hln
    have HOL := Lib.hid hol
    have E1 := Lib.hid e1
    have E2 := Lib.hid e2
    have E3 := Lib.hid e3
    clear hmk hln hol e1 e2 e3
    by_cases hkN : k < N
    · obtain ⟨x, hx⟩ : ∃ x, l[k]? = some x := ⟨_, List.getElem?_eq_getElem (by rw [HN.out]; omega)⟩
      have hfx := HF.out k x hx
      have hdrop : l.drop k = x :: l.drop (k + 1) := by
        obtain ⟨hi, he⟩ := List.getElem?_eq_some_iff.1 hx
        rw [List.drop_eq_getElem_cons hi, he]
      obtain ⟨g, off, rfl, hg, z0, z1, z2, z3, z4, z5⟩ := HL.out.at hx
      have hgF : ¬ F g := HOFF.out (by rintro rfl; simp at hx) g off rfl
      have hgF' : ¬ F' g := fun e => (hgo.new g e).elim hgF fun e' => by omega
      have hzz := fun (W : World) (hW : Kept F w W) => HL.out.kept (A := some ⟨g, off, none⟩) hW fun _ b o e => by injection e with e; injection e with e4 e5; subst e4; exact hgF
      obtain ⟨g', off', e', _, y0, y1, y2, y3, y4, y5⟩ := (hzz wr hgo.keep).at hx
      injection e' with e'
      injection e' with e4 e5
      subst e4 e5
      have HLT := Lib.hid hgo.mach.lt
      have hdo := fun (W : World) (hW : Below wr.heap.size wr W) => do_p (hgo.mach.stays hW) x hfx hm (by have := HLN.out; omega)
      unfold RetDo at hdo
      obtain ⟨tv, htv⟩ : ∃ tv, toldM x m f' = tv := ⟨_, rfl⟩
      obtain ⟨f2, hf2⟩ : ∃ f2, nextM x m f' = f2 := ⟨_, rfl⟩
      obtain ⟨tr2, htr2⟩ : ∃ tr2, nextT x m tr' = tr2 := ⟨_, rfl⟩
      have hlen2 : tr2.length + (N - (k + 1)) ≤ 99999 := by
        rw [← htr2]
        unfold nextT
        have := HLN.out
        split
        · simp; omega
        · omega
      have hrs := fun (h : may x m = true) => @run_step m x (l.drop (k + 1)) f' tr' o h
      have hrx := fun (h : may x m = false) => @run_stop m x (l.drop (k + 1)) f' tr' o h
      rw [htv, hf2, htr2] at hrs
      rw [hf2, htr2] at hrx
      rw [htv, hf2, htr2] at hdo
      have e1 := E1.out
      have e2 := E2.out
      have e3 := E3.out
      rw [hdrop] at e1 e2 e3
      have HLN2 := Lib.hid hlen2
      clear hlen2 htv hf2 htr2 hfx hdrop z0 z1 z2 z3 z4 z5 hg hzz
      obtain ⟨op, d, a, b, c, n⟩ := x
      simp only at y0 y1 y2 y3 y4 y5 hrs
      have hn0 : HasO (wr.alloc (.cells #[.int .i64 0, .int .i64 0, .int .i64 0, .int .i64 0, .int .i64 0, .int .u64 0] 68)) wr.heap.size (.cells #[.int .i64 0, .int .i64 0, .int .i64 0, .int .i64 0, .int .i64 0, .int .u64 0] 68 (0, 0)) := has_new _ _ _ _ rfl
      have hst := sto_of (ty := 68) (cs := #[.int .i64 op, .int .i64 d, .int .i64 a, .int .i64 b, .int .i64 c, .int .u64 n]) hn0 (by kernel_rfl) rfl (by simp [Value.oneCell'])
      have hy := has_sto (cs := #[.int .i64 op, .int .i64 d, .int .i64 a, .int .i64 b, .int .i64 c, .int .u64 n]) hn0
      have b0 := cell_of_row _ wr.heap.size 0 _ _ (0, 0) hy
      have b1 := cell_of_row _ wr.heap.size 1 _ _ (0, 0) hy
      have b2 := cell_of_row _ wr.heap.size 2 _ _ (0, 0) hy
      have b3 := cell_of_row _ wr.heap.size 3 _ _ (0, 0) hy
      have b4 := cell_of_row _ wr.heap.size 4 _ _ (0, 0) hy
      have b5 := cell_of_row _ wr.heap.size 5 _ _ (0, 0) hy
      have HBV := Lib.hid (show Below wr.heap.size wr (stoW (wr.alloc (.cells #[.int .i64 0, .int .i64 0, .int .i64 0, .int .i64 0, .int .i64 0, .int .u64 0] 68)) (.pointer (some ⟨wr.heap.size, 0, none⟩)) (.agg #[.int .i64 op, .int .i64 d, .int .i64 a, .int .i64 b, .int .i64 c, .int .u64 n])) from below_sto ((Below.refl _ _).alloc (Nat.le_refl _) _) (Nat.le_refl _))
      have HBX := Lib.hid (show BoxI (stoW (wr.alloc (.cells #[.int .i64 0, .int .i64 0, .int .i64 0, .int .i64 0, .int .i64 0, .int .u64 0] 68)) (.pointer (some ⟨wr.heap.size, 0, none⟩)) (.agg #[.int .i64 op, .int .i64 d, .int .i64 a, .int .i64 b, .int .i64 c, .int .u64 n])) wr.heap.size ⟨op, d, a, b, c, n⟩ from hy)
      unfold insV at hdo
      simp only at hdo
      have i0 : (0 : Int) ≤ (k : Int) := by omega
      have i1 : (k : Int) < (N : Int) := by omega
      have hab := fun (W : World) (hW : Kept F w W) => hW
      clear hn0 hy hgo
      cases hmv : may ⟨op, d, a, b, c, n⟩ m
      · obtain ⟨r1, r2, r3⟩ := hrx hmv
        rw [r1] at e1
        rw [r2] at e2
        rw [r3] at e3
        rw [hmv] at hdo
        unfold errM at hdo
        simp only [Bool.false_eq_true, if_false] at hdo
        have HD := Lib.hid hdo
        have Z1 := Lib.hid e1
        have Z2 := Lib.hid e2
        have Z3 := Lib.hid e3
        clear hdo e1 e2 e3 r1 r2 r3 hrs hrx hmv hab
        go_wp2_with (first
          | (go_at_call 50; (with_reducible refine (HD.out _ HBV.out).mono ?_); rintro e w4 ⟨rfl, F4, m4, k4, n4⟩; have G4 := Lib.hid (HGO.out.does (mach_side _ _ _ _) (mach_side _ _ _ _) HBV.out m4 k4 n4); clear m4 k4 n4)
          | fail)
        go_ret2
        have hg4 := G4.out
        exact ⟨.slice none 0 0, F4, by rw [← Z3.out]; rfl, by rw [← Z3.out]; rfl, by rw [← Z1.out, ← Z2.out]; exact hg4.mach, hg4.keep, hg4.new, fun b e => by cases e⟩
      · obtain ⟨r1, r2, r3⟩ := hrs hmv
        rw [r1] at e1
        rw [r2] at e2
        rw [r3] at e3
        rw [hmv] at hdo
        unfold errM at hdo
        simp only [if_true] at hdo
        have HD := Lib.hid hdo
        have Z1 := Lib.hid e1
        have Z2 := Lib.hid e2
        clear hdo e1 e2 r1 r2 r3 hrs hrx hmv hab
        by_cases ho : op = 11
        · rw [if_pos ho] at e3
          subst ho
          have Z3 := Lib.hid e3
          clear e3
          go_wp2_with (first
            | (go_at_call 50; (with_reducible refine (HD.out _ HBV.out).mono ?_); rintro e w4 ⟨rfl, F4, m4, k4, n4⟩; have G4 := Lib.hid (HGO.out.does (mach_side _ _ _ _) (mach_side _ _ _ _) HBV.out m4 k4 n4); have bx4 : BoxI w4 wr.heap.size ⟨11, d, a, b, c, n⟩ := (k4.block _ (lt_of_some HBX.out) (fun e => by have := HLT.out _ e; omega)).trans HBX.out; obtain ⟨u0, u1, u2, u3, u4, u5⟩ := bx4.cells; clear m4 k4 n4 bx4 b0 b1 b2 b3 b4 b5)
            | (at_builtin; refine wpList_w64 (by rfl) _ _ (by rfl) (by rfl) (G4.out.row.stays ((Below.refl _ _).alloc (Nat.le_refl _) _)) (Nat.le_trans G4.out.keep.size (by simp)) (by have := HOL.out; omega) tv ⟨w4.heap.size, 0, none⟩ 1 (by rfl) (cell_of_row _ _ 0 _ _ (0, 0) (heap_alloc_new w4 _)) ?_; intro v6 w6 r6 g6 o6; have G6 := Lib.hid (G4.out.tells (mach_side _ _ _ _) r6 g6 o6); clear r6 g6 o6)
            | fail)
          go_roundg (N - (k + 1))
          case measure => have := HMK.out; omega
          case rel => exact ⟨k + 1, F4, f2, tr2, o ++ [tv], by go_num, by omega, rfl, G6.out, HLN2.out, by have := HOL.out; simp; omega, Z1.out, Z2.out, Z3.out⟩
        · rw [if_neg ho] at e3
          have hq : (op == 11) = false := by simpa using ho
          have Z3 := Lib.hid e3
          clear e3 ho
          go_wp2_with (first
            | (go_at_call 50; (with_reducible refine (HD.out _ HBV.out).mono ?_); rintro e w4 ⟨rfl, F4, m4, k4, n4⟩; have G4 := Lib.hid (HGO.out.does (mach_side _ _ _ _) (mach_side _ _ _ _) HBV.out m4 k4 n4); have bx4 : BoxI w4 wr.heap.size ⟨op, d, a, b, c, n⟩ := (k4.block _ (lt_of_some HBX.out) (fun e => by have := HLT.out _ e; omega)).trans HBX.out; obtain ⟨u0, u1, u2, u3, u4, u5⟩ := bx4.cells; clear m4 k4 n4 bx4 b0 b1 b2 b3 b4 b5)
            | fail)
          go_roundg (N - (k + 1))
          case measure => have := HMK.out; omega
          case rel => exact ⟨k + 1, F4, f2, tr2, o, by go_num, by omega, rfl, G4.out, HLN2.out, by have := HOL.out; omega, Z1.out, Z2.out, Z3.out⟩
    · have hkl : k = N := by omega
      subst hkl
      have hd : l.drop k = [] := List.drop_of_length_le (by rw [HN.out]; exact Nat.le_refl _)
      have e1 := E1.out
      have e2 := E2.out
      have e3 := E3.out
      rw [hd] at e1 e2 e3
      have Z1 := Lib.hid e1
      have Z2 := Lib.hid e2
      have Z3 := Lib.hid e3
      clear e1 e2 e3 hd hgo
      go_wp2
      go_ret2
      have hg4 := HGO.out
      exact ⟨_, F', by rw [← Z3.out]; rfl, by rw [← Z3.out]; exact hg4.row, by rw [← Z1.out, ← Z2.out]; exact hg4.mach, hg4.keep, hg4.new, hg4.off⟩
def codeD (b : Bool) : Value := .int .i64 (if b = true then 0 else 1)
set_option maxRecDepth 20000 in
set_option maxHeartbeats 4000000 in
theorem drun_p {w : World} {F : Nat → Prop} {p m : Nat} {f : Int → Int} {tr l : List Ins} {A : Option Addr} {ca : Nat} (h : Doc w F p m f tr) (hl : RdI w A l) (hoff : l ≠ [] → ∀ g off, A = some ⟨g, off, none⟩ → ¬ F g) (hfit : ∀ (i : Nat) (x : Ins), l[i]? = some x → x.fits) (hm : m ≤ 200000) (hlen : tr.length + l.length ≤ 99999) :
    Calls Try.prog 31 #[.pointer (some ⟨p, 0, none⟩), .slice A l.length ca] w (RetRun (fun w F => Doc w F p m (runF m l f) (runT m l tr)) codeD w F m f l) := by
  obtain ⟨N, hN⟩ : ∃ N, l.length = N := ⟨_, rfl⟩
  rw [hN] at hlen ⊢
  unfold RetRun
  have HH := Lib.hid h
  have HL := Lib.hid hl
  have HF := Lib.hid hfit
  have HN := Lib.hid hN
  have HOFF := Lib.hid hoff
  clear h hl hfit hN hoff
  go_enter Try.func31, Try.ntmps31
  go_wp2
  go_loopg [6, 7] N (fun mm v i wr => ∃ (k : Nat) (F' : Nat → Prop) (f' : Int → Int) (tr' : List Ins) (o : List Int), i = .int .i64 (k : Int) ∧ k ≤ N ∧ mm = N - k ∧ Going (fun w F => Doc w F p m f' tr') w wr F F' v o ∧ tr'.length + (N - k) ≤ 99999 ∧ o.length ≤ k ∧ runF m (l.drop k) f' = runF m l f ∧ runT m (l.drop k) tr' = runT m l tr ∧ runO m (l.drop k) f' o = runO m l f [])
  case atStart => exact ⟨0, F, f, tr, [], by first | rfl | trivial, Nat.zero_le _, by first | rfl | trivial, ⟨HH.out, Kept.refl _ _, fun b e => .inl e, World.ownsRow_nil _ _ _ 1, fun b e => (by cases e)⟩, by omega, Nat.le_refl _, rfl, rfl, rfl⟩
  case round =>
    obtain ⟨k, F', f', tr', o, rfl, hk, hmk, hgo, hln, hol, e1, e2, e3⟩ := hrel
    have HMK := Lib.hid hmk
    have HGO := Lib.hid hgo
    have HLN := Lib.hid hln
    have HOL := Lib.hid hol
    have E1 := Lib.hid e1
    have E2 := Lib.hid e2
    have E3 := Lib.hid e3
    clear hmk hln hol e1 e2 e3
    by_cases hkN : k < N
    · obtain ⟨x, hx⟩ : ∃ x, l[k]? = some x := ⟨_, List.getElem?_eq_getElem (by rw [HN.out]; omega)⟩
      have hfx := HF.out k x hx
      have hdrop : l.drop k = x :: l.drop (k + 1) := by
        obtain ⟨hi, he⟩ := List.getElem?_eq_some_iff.1 hx
        rw [List.drop_eq_getElem_cons hi, he]
      obtain ⟨g, off, rfl, hg, z0, z1, z2, z3, z4, z5⟩ := HL.out.at hx
      have hgF : ¬ F g := HOFF.out (by rintro rfl; simp at hx) g off rfl
      have hgF' : ¬ F' g := fun e => (hgo.new g e).elim hgF fun e' => by omega
      have hzz := fun (W : World) (hW : Kept F w W) => HL.out.kept (A := some ⟨g, off, none⟩) hW fun _ b o e => by injection e with e; injection e with e4 e5; subst e4; exact hgF
      obtain ⟨g', off', e', _, y0, y1, y2, y3, y4, y5⟩ := (hzz wr hgo.keep).at hx
      injection e' with e'
      injection e' with e4 e5
      subst e4 e5
      have HLT := Lib.hid hgo.mach.lt
      have hdo := fun (W : World) (hW : Below wr.heap.size wr W) => ddo_p (hgo.mach.keep (Kept.of_below (fun _ => False) hW) fun b e e' => e') x hfx hm (by have := HLN.out; omega)
      unfold RetDoc at hdo
      obtain ⟨tv, htv⟩ : ∃ tv, toldM x m f' = tv := ⟨_, rfl⟩
      obtain ⟨f2, hf2⟩ : ∃ f2, nextM x m f' = f2 := ⟨_, rfl⟩
      obtain ⟨tr2, htr2⟩ : ∃ tr2, nextT x m tr' = tr2 := ⟨_, rfl⟩
      have hlen2 : tr2.length + (N - (k + 1)) ≤ 99999 := by
        rw [← htr2]
        unfold nextT
        have := HLN.out
        split
        · simp; omega
        · omega
      have hrs := fun (h : may x m = true) => @run_step m x (l.drop (k + 1)) f' tr' o h
      have hrx := fun (h : may x m = false) => @run_stop m x (l.drop (k + 1)) f' tr' o h
      rw [htv, hf2, htr2] at hrs
      rw [hf2, htr2] at hrx
      rw [htv, hf2, htr2] at hdo
      have e1 := E1.out
      have e2 := E2.out
      have e3 := E3.out
      rw [hdrop] at e1 e2 e3
      have HLN2 := Lib.hid hlen2
      have HZZ := Lib.hid hzz
      have HX := Lib.hid hx
      clear hlen2 htv hf2 htr2 hfx hdrop z0 z1 z2 z3 z4 z5 hg hzz hx
      obtain ⟨op, d, a, b, c, n⟩ := x
      simp only at y0 y1 y2 y3 y4 y5 hrs
      unfold insV at hdo
      simp only at hdo
      have i0 : (0 : Int) ≤ (k : Int) := by omega
      have i1 : (k : Int) < (N : Int) := by omega
      have hab := fun (W : World) (hW : Kept F w W) => hW
      clear hgo
      cases hmv : may ⟨op, d, a, b, c, n⟩ m
      · obtain ⟨r1, r2, r3⟩ := hrx hmv
        rw [r1] at e1
        rw [r2] at e2
        rw [r3] at e3
        rw [hmv] at hdo
        simp only [Bool.false_eq_true, if_false] at hdo
        have HD := Lib.hid hdo
        have Z1 := Lib.hid e1
        have Z2 := Lib.hid e2
        have Z3 := Lib.hid e3
        clear hdo e1 e2 e3 r1 r2 r3 hrs hrx hmv hab
        go_wp2_with (first
          | (go_at_call 51; (with_reducible refine (HD.out _ (Below.refl _ _)).mono ?_); rintro e w4 ⟨rfl, F4, m4, k4, n4⟩; have G4 := Lib.hid (HGO.out.does (doc_side _ _ _ _) (doc_side _ _ _ _) (Below.refl _ _) m4 k4 n4); clear m4 k4 n4)
          | fail)
        go_ret2
        have hg4 := G4.out
        exact ⟨.slice none 0 0, F4, by rw [← Z3.out]; rfl, by rw [← Z3.out]; rfl, by rw [← Z1.out, ← Z2.out]; exact hg4.mach, hg4.keep, hg4.new, fun b e => by cases e⟩
      · obtain ⟨r1, r2, r3⟩ := hrs hmv
        rw [r1] at e1
        rw [r2] at e2
        rw [r3] at e3
        rw [hmv] at hdo
        simp only [if_true] at hdo
        have HD := Lib.hid hdo
        have Z1 := Lib.hid e1
        have Z2 := Lib.hid e2
        clear hdo e1 e2 r1 r2 r3 hrs hrx hmv hab
        by_cases ho : op = 11
        · rw [if_pos ho] at e3
          subst ho
          have Z3 := Lib.hid e3
          clear e3
          go_wp2_with (first
            | (go_at_call 51; (with_reducible refine (HD.out _ (Below.refl _ _)).mono ?_); rintro e w4 ⟨rfl, F4, m4, k4, n4⟩; have G4 := Lib.hid (HGO.out.does (doc_side _ _ _ _) (doc_side _ _ _ _) (Below.refl _ _) m4 k4 n4); obtain ⟨g9, off9, e9, _, u0, u1, u2, u3, u4, u5⟩ := (HZZ.out w4 G4.out.keep).at HX.out; injection e9 with e9; injection e9 with e7 e8; subst e7 e8; clear m4 k4 n4 y0 y1 y2 y3 y4 y5)
            | (at_builtin; refine wpList_w64 (by rfl) _ _ (by rfl) (by rfl) (G4.out.row.stays ((Below.refl _ _).alloc (Nat.le_refl _) _)) (Nat.le_trans G4.out.keep.size (by simp)) (by have := HOL.out; omega) tv ⟨w4.heap.size, 0, none⟩ 1 (by rfl) (cell_of_row _ _ 0 _ _ (0, 0) (heap_alloc_new w4 _)) ?_; intro v6 w6 r6 g6 o6; have G6 := Lib.hid (G4.out.tells (doc_side _ _ _ _) r6 g6 o6); clear r6 g6 o6)
            | fail)
          go_roundg (N - (k + 1))
          case measure => have := HMK.out; omega
          case rel => exact ⟨k + 1, F4, f2, tr2, o ++ [tv], by go_num, by omega, rfl, G6.out, HLN2.out, by have := HOL.out; simp; omega, Z1.out, Z2.out, Z3.out⟩
        · rw [if_neg ho] at e3
          have hq : (op == 11) = false := by simpa using ho
          have Z3 := Lib.hid e3
          clear e3 ho
          go_wp2_with (first
            | (go_at_call 51; (with_reducible refine (HD.out _ (Below.refl _ _)).mono ?_); rintro e w4 ⟨rfl, F4, m4, k4, n4⟩; have G4 := Lib.hid (HGO.out.does (doc_side _ _ _ _) (doc_side _ _ _ _) (Below.refl _ _) m4 k4 n4); obtain ⟨g9, off9, e9, _, u0, u1, u2, u3, u4, u5⟩ := (HZZ.out w4 G4.out.keep).at HX.out; injection e9 with e9; injection e9 with e7 e8; subst e7 e8; clear m4 k4 n4 y0 y1 y2 y3 y4 y5)
            | fail)
          go_roundg (N - (k + 1))
          case measure => have := HMK.out; omega
          case rel => exact ⟨k + 1, F4, f2, tr2, o, by go_num, by omega, rfl, G4.out, HLN2.out, by have := HOL.out; omega, Z1.out, Z2.out, Z3.out⟩
    · have hkl : k = N := by omega
      subst hkl
      have hd : l.drop k = [] := List.drop_of_length_le (by rw [HN.out]; exact Nat.le_refl _)
      have e1 := E1.out
      have e2 := E2.out
      have e3 := E3.out
      rw [hd] at e1 e2 e3
      have Z1 := Lib.hid e1
      have Z2 := Lib.hid e2
      have Z3 := Lib.hid e3
      clear e1 e2 e3 hd hgo
      go_wp2
      go_ret2
      have hg4 := HGO.out
      exact ⟨_, F', by rw [← Z3.out]; rfl, by rw [← Z3.out]; exact hg4.row, by rw [← Z1.out, ← Z2.out]; exact hg4.mach, hg4.keep, hg4.new, hg4.off⟩
end Go.Proofs.Ythhgagghdeocoaa
