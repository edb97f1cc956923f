/-
  Several texts of this proof in one file: MooDocB, MooRun, NfasMem, NfaFlat, FlatEnds, FlatRef. No statement of its own.
-/
import Derived.Test.YtnkopcmkanibhaaMo13
import Derived.Test.YtnkopcmkanibhaaMo11
import Derived.Test.YtnkopcmkanibhaaMo16
import Derived.Deep.RegionHeld3
import Derived.Deep.RegionLaw
import Derived.Deep.Cut
import Derived.BigQuiet
import Derived.Deep.LoopGhost
import Derived.Test.YtnkopcmkanibhaaMo12
import Derived.Test.YtnkopcmkanibhaaMo6
import Derived.Test.YtnkopcmkanibhaaMo3
import Derived.Test.YtnkopcmkanibhaaMo10
import Derived.Test.YtnkopcmkanibhaaMo9
import Derived.Test.YtnkopcmkanibhaaMo2
import Derived.Test.YtnkopcmkanibhaaMo8
set_option linter.unusedVariables false
set_option linter.unusedSimpArgs false

/-
  The document's own Build. Contracts for other texts; no statement of its own.
-/
namespace Go.Proofs.Ytnkopcmkanibhaa
open Go Go.RowKit

theorem beq_decI (i j : Int) : (i == j) = decide (i = j) := by
  by_cases h : i = j
  · rw [decide_eq_true h]; simpa using h
  · rw [decide_eq_false h]; simpa using h
/-- What it tells of a search. -/
def RetSrchD (w : World) (L : List (Lay × Str)) (bs : List Bool) (lam : Nat) (o : Option (List Sta × List (List Nat))) (e : Ending) (w' : World) : Prop := match o with
  | none => e = .returned (.tuple #[.agg zeroD, .int .i64 11])
  | some (ss, rows) => ∃ vN vO O, e = .returned (.tuple #[.agg (machC (clsOf L bs) (cntOf L bs) vN vO), .int .i64 0]) ∧ Nxt w' w.heap.size O vN rows ∧ Ots w' w.heap.size O vO (ss.map fun s => mOutP (RR L bs lam) s (0, 0))
def RetDB (w : World) (L : List (Lay × Str)) (bs : List Bool) (lam most : Int) (e : Ending) (w' : World) : Prop :=
  Below w.heap.size w w' ∧
  if bs.length ≠ L.length ∨ lam < 1 ∨ 32 < lam ∨ most < 1 ∨ 1000 < most then e = .returned (.tuple #[.agg zeroD, .int .i64 1]) else
  RetSrchD w L bs lam.toNat (srchOf L bs lam.toNat most.toNat) e w'

theorem own_lit1 {w : World} {B g : Nat} {e : TypeId} {u : Value} (h : HasO w g (.cells #[u] e (0, 0))) (hB : B ≤ g) : w.ownsRow B e 1 (.slice (some ⟨g, 0, none⟩) 1 1) 1 [u] := ⟨rfl, .inr ⟨g, 1, _, rfl, hB, h, Nat.le_refl _, by decide, rfl, rfl⟩⟩
theorem own_lit2 {w : World} {B g : Nat} {e : TypeId} {u v : Value} (h : HasO w g (.cells #[u, v] e (0, 0))) (hB : B ≤ g) : w.ownsRow B e 2 (.slice (some ⟨g, 0, none⟩) 1 1) 1 [u, v] := ⟨rfl, .inr ⟨g, 1, _, rfl, hB, h, Nat.le_refl _, by decide, rfl, rfl⟩⟩
theorem below_up {w w7 : World} (h : Below w.heap.size w w7) (hb : BoxM w7 w.heap.size 43 (fun _ => 0) 0 (.slice none 0 0) (.slice none 0 0)) : Below (w.alloc (.cells zeroD 43)).heap.size (w.alloc (.cells zeroD 43)) w7 := by
  have hlt := hb.lt
  refine ⟨h.os, h.tape, h.output, by simp; omega, fun b hb2 => ?_⟩
  by_cases e : b < w.heap.size
  · rw [h.block b e, Below.heap_alloc _ _ _ e]
  · have e' : b = w.heap.size := by simp at hb2; omega
    subst e'
    exact hb.trans (heap_alloc_new w _).symm
/-- What stands there ahead of the search. -/
theorem ds_new {w : World} {gm B : Nat} {F : Nat → Nat} {n : Int} (hB : B ≤ gm) (h : BoxM w gm 43 F n (.slice none 0 0) (.slice none 0 0)) :
    DS B (((w.alloc (.cells #[.slice none 0 0] 107)).alloc (.cells #[.int .u64 0, .int .u64 0] 51)).setCell ⟨gm, 258, none⟩ (.slice (some ⟨w.heap.size + 1, 0, none⟩) 1 1)) gm (fun _ => False) F n (.slice (some ⟨w.heap.size, 0, none⟩) 1 1) (.slice none 0 0) (.slice (some ⟨w.heap.size + 1, 0, none⟩) 1 1) (.slice none 0 0) [[]] [] [(0, 0)] [] := by
  have hlt := h.lt
  have hb := ((h.stays ((Below.refl _ _).alloc (Nat.le_refl _) (.cells #[.slice none 0 0] 107))).stays ((Below.refl _ _).alloc (Nat.le_refl _) (.cells #[.int .u64 0, .int .u64 0] 51))).setOut (.slice (some ⟨w.heap.size + 1, 0, none⟩) 1 1)
  have h1 : HasO (((w.alloc (.cells #[.slice none 0 0] 107)).alloc (.cells #[.int .u64 0, .int .u64 0] 51)).setCell ⟨gm, 258, none⟩ (.slice (some ⟨w.heap.size + 1, 0, none⟩) 1 1)) w.heap.size (.cells #[.slice none 0 0] 107 (0, 0)) :=
    (Below.heap_setCell _ _ _ _ (by simp; omega)).trans ((Below.heap_alloc _ _ _ (by simp)).trans (heap_alloc_new w _))
  have h2 : HasO (((w.alloc (.cells #[.slice none 0 0] 107)).alloc (.cells #[.int .u64 0, .int .u64 0] 51)).setCell ⟨gm, 258, none⟩ (.slice (some ⟨w.heap.size + 1, 0, none⟩) 1 1)) (w.heap.size + 1) (.cells #[.int .u64 0, .int .u64 0] 51 (0, 0)) :=
    (Below.heap_setCell _ _ _ _ (by simp; omega)).trans (by have := heap_alloc_new (w.alloc (.cells #[.slice none 0 0] 107)) (.cells #[.int .u64 0, .int .u64 0] 51); simpa using this)
  exact ⟨hB, hb, Nxt.nil _ _ _, own_lit2 h2 (by omega), fun b e => e.elim, ⟨[.slice none 0 0], rfl, own_lit1 h1 (by omega), fun i u t e1 e2 => by
    rcases i with _ | i
    · simp at e1 e2
      subst e1 e2
      exact Ws.nil _ _
    · simp at e1⟩, World.ownsRow_nil _ _ _ 1, fun b e => by cases e⟩

theorem RdTr.stays' {w w' : World} {A : Option Addr} {L : List Bool} (h : RdTr w A L) (hb : Below w.heap.size w w') : RdTr w' A L := fun i x e => by
  obtain ⟨b, off, e1, e2, e3⟩ := h i x e
  exact ⟨b, off, e1, Nat.lt_of_lt_of_le e2 hb.size, cell_stays e3 hb⟩
set_option maxRecDepth 20000 in
set_option maxHeartbeats 4000000 in
theorem rbuild_p {w : World} {A B : Option Addr} {ca cb : Nat} {L : List (Lay × Str)} {bs : List Bool} {lam most : Int} (h : RdNfas w w.heap.size A L) (hb : RdTr w B bs) (hlam : -9223372036854775808 ≤ lam ∧ lam ≤ 9223372036854775807) (hmost : -9223372036854775808 ≤ most ∧ most ≤ 9223372036854775807) (hL : ∀ s x, (s, x) ∈ L → OkLay s x) (hN : ∀ s x, (s, x) ∈ L → x.first.Nodup) (hn : L.length ≤ 64) (hbn : bs.length ≤ 65) (hfew : (setsN L L.length).length * 64 ≤ 100000) :
    Calls Try.prog 12 #[.slice A L.length ca, .slice B bs.length cb, .int .i64 lam, .int .i64 most] w (RetDB w L bs lam most) := by
  have hz43 : ∀ w : World, Sem.run Try.prog (zeroValue 43) w = .ok (.agg zeroD) w := fun _ => by kernel_rfl
  have hz1 : ∀ w : World, Sem.run Try.prog (zeroValue 34) w = .ok (.agg (arrV 256 fun _ => 0)) w := fun _ => by kernel_rfl
  obtain ⟨N, hNN⟩ : ∃ N, L.length = N := ⟨_, rfl⟩
  obtain ⟨M, hM⟩ : ∃ M, bs.length = M := ⟨_, rfl⟩
  unfold RetDB
  rw [hNN, hM]
  have bx0 := BoxM.new w 43 (fun _ => 0) 0 (.slice none 0 0) (.slice none 0 0)
  have hB0 : Below w.heap.size w (w.alloc (.cells zeroD 43)) := (Below.refl _ _).alloc (Nat.le_refl _) _
  have HBX0 := Lib.hid bx0
  have HB0 := Lib.hid hB0
  by_cases hbad : M ≠ N ∨ lam < 1 ∨ 32 < lam ∨ most < 1 ∨ 1000 < most
  · simp only [if_pos hbad]
    rcases (show ¬ (M : Int) = (N : Int) ∨ ((M : Int) = (N : Int) ∧ lam < 1) ∨ ((M : Int) = (N : Int) ∧ ¬ lam < 1 ∧ 32 < lam) ∨ ((M : Int) = (N : Int) ∧ ¬ lam < 1 ∧ ¬ 32 < lam ∧ most < 1) ∨ ((M : Int) = (N : Int) ∧ ¬ lam < 1 ∧ ¬ 32 < lam ∧ ¬ most < 1 ∧ 1000 < most) by omega) with d1 | ⟨d1, d2⟩ | ⟨d1, d2, d3⟩ | ⟨d1, d2, d3, d4⟩ | ⟨d1, d2, d3, d4, d5⟩
    all_goals
      have hq : ((N : Int) == (M : Int)) = decide ((M : Int) = (N : Int)) := by
        rw [beq_decI]
        exact decide_eq_decide.2 ⟨fun e => e.symm, fun e => e.symm⟩
      have hq' : ((N : Int) != (M : Int)) = !decide ((M : Int) = (N : Int)) := by rw [bne, hq]
      simp only [d1, decide_true, decide_false, Bool.not_true, Bool.not_false] at hq hq'
      clear hNN hM h hb hbad bx0 hB0 hL hN
      go_enter Try.func12, Try.ntmps12
      go_wp2_with (first
        | (refine wpList_buildZ (by rfl) (by rfl) ?_; go_simp)
        | (refine wpList_storeM (by rfl) _ _ (by rfl) (by rfl) (by rfl) Try.sizeMR rfl rfl HBX0.out ?_; intro hbx; have HBX1 := Lib.hid hbx; clear hbx; go_simp)
        | fail)
      exact bodyPost_ret (v := .tuple #[.agg zeroD, .int .i64 1]) (results_mach Try.results12 rfl rfl Try.underlying43 rfl Try.sizeMR HBX1.out) rfl ⟨below_setRow HB0.out (Nat.le_refl _) _, rfl⟩
  simp only [if_neg hbad]
  obtain ⟨ln, rfl⟩ : ∃ k : Nat, lam = (k : Int) := ⟨lam.toNat, by omega⟩
  obtain ⟨mn, rfl⟩ : ∃ k : Nat, most = (k : Int) := ⟨most.toNat, by omega⟩
  rw [Int.toNat_natCast, Int.toNat_natCast]
  obtain rfl : M = N := by omega
  have d2 : ¬ (ln : Int) < 1 := by omega
  have d3 : ¬ (32 : Int) < (ln : Int) := by omega
  have d4 : ¬ (mn : Int) < 1 := by omega
  have d5 : ¬ (1000 : Int) < (mn : Int) := by omega
  have hne : ((M : Int) != (M : Int)) = false := by simp
  have hM64 : M ≤ 64 := by omega
  have HA := Lib.hid h
  have HB := Lib.hid hb
  have HLL := Lib.hid hL
  have HND := Lib.hid hN
  have HLN := Lib.hid hNN
  have HBN := Lib.hid hM
  have HFEW := Lib.hid hfew
  obtain ⟨TGT, hTGT⟩ : ∃ t, srchOf L bs ln mn = t := ⟨_, rfl⟩
  rw [hTGT]
  have HTS := Lib.hid hTGT
  clear h hb hL hN hNN hM hfew hbad bx0 hB0 hTGT
  go_enter Try.func12, Try.ntmps12
  go_wp2
  go_loopg [10, 11] M (fun mm v i wr => ∃ k : Nat, i = .int .i64 (k : Int) ∧ k ≤ M ∧ mm = M - k ∧ SetsG wr w.heap.size v (setsN L k) ∧ Below w.heap.size w wr ∧ BoxM wr w.heap.size 43 (fun _ => 0) 0 (.slice none 0 0) (.slice none 0 0))
  case atStart => exact ⟨0, rfl, Nat.zero_le _, rfl, SetsG.nil _ _, HB0.out, HBX0.out⟩
  case round =>
    obtain ⟨k, rfl, hk, hmk, hs, hbl, hbx⟩ := hrel
    have HMK := Lib.hid hmk
    have HS := Lib.hid hs
    have HBL := Lib.hid hbl
    have HBX := Lib.hid hbx
    clear hmk hs hbl hbx
    by_cases hkM : k < M
    · obtain ⟨s, x, hsx⟩ : ∃ s x, L[k]? = some (s, x) := ⟨_, _, some_getD (by rw [HLN.out]; exact hkM)⟩
      obtain ⟨g, off, A1, m1, c1, A2, m2, c2, gm, A3, m3, c3, rfl, hg, hcell, e1, e2, e3, hni⟩ := (HA.out.stays HBL.out) k s x hsx
      have c0 := hcell 0 _ rfl
      have hrd := hni.rdS (Nat.le_refl _)
      have hle := setsN_le L (show k + 1 ≤ L.length by rw [HLN.out]; exact hkM)
      have hst : setsN L (k + 1) = setsN L k ++ s.sets := by rw [setsN, getD_some hsx]
      have hfe := HFEW.out
      rw [hst, List.length_append] at hle
      have HST := Lib.hid hst
      have HRD := Lib.hid hrd
      have HLE := Lib.hid (show (setsN L k).length + s.sets.length ≤ 100000 by omega)
      have HM1 := Lib.hid e1
      have i0 : (0 : Int) ≤ (k : Int) := by omega
      have i1 : (k : Int) < (M : Int) := by omega
      have hBs := HBL.out.size
      clear hcell hni hrd hle hst hfe e1 e2 e3 hsx hg
      rw [Nat.add_zero] at c0
      go_wp2_with (first
        | (refine wpList_setsG (by rfl) _ _ (by rfl) (by rfl) (by rfl) HM1.out HS.out HRD.out HLE.out hBs ?_; intro v' w' h2 hgr hor; have HS2 := Lib.hid h2; have HG2 := Lib.hid hgr; clear h2 hgr hor; go_simp)
        | fail)
      go_roundg (M - (k + 1))
      case measure => have := HMK.out; omega
      case rel =>
        have hk2 : Kept (fun b => Value.ownBlock _ = some b) wr _ := (Kept.refl _ _).grown HG2.out (fun b e => .inl e)
        exact ⟨k + 1, by go_num, by omega, rfl, by rw [HST.out]; exact HS2.out, HBL.out.grown HG2.out hBs (fun b e => (World.ownsRow.lt HS.out b (by first | exact e | exact e.symm)).1), HBX.out.oth hk2 (oth_own HS.out (l := [43]) (by decide)) (by simp)⟩
    · have hkl : k = M := by omega
      subst hkl
      obtain ⟨As, cs, hfs⟩ := HS.out.form
      subst hfs
      obtain ⟨S, hS⟩ : ∃ S, setsN L k = S := ⟨_, rfl⟩
      have HSN := Lib.hid hS
      rw [hS] at HS ⊢
      have hfe := HFEW.out
      rw [HLN.out, hS] at hfe
      have hco := fun (W : World) (A : Option Addr) (c : Nat) (hr : RdS W W.heap.size A S) => rclasses_p W A c S hr (by omega)
      unfold RetCls at hco
      obtain ⟨F, hF⟩ : ∃ F, clsOf L bs = F := ⟨_, rfl⟩
      obtain ⟨C, hC⟩ : ∃ C, cntOf L bs = C := ⟨_, rfl⟩
      have hFk : F = numK (keyL S) := by rw [← hF, ← hS, ← HLN.out, ← tog_sets L bs]; rfl
      have hCk : C = cntK (keyL S) 256 := by rw [← hC, ← hS, ← HLN.out, ← tog_sets L bs]; rfl
      simp only [← hFk, ← hCk] at hco
      have hC256 : C ≤ 256 := by rw [hCk]; exact cntK_le _ _
      have HCO := Lib.hid hco
      have HFK := Lib.hid hFk
      have HCK := Lib.hid hCk
      have HCF := Lib.hid (show clsOf L bs = F ∧ cntOf L bs = C from ⟨hF, hC⟩)
      have HRD := Lib.hid (HS.out.rd)
      clear hco hF hC hFk hCk hS
      obtain ⟨Sl, hSl⟩ : ∃ n, S.length = n := ⟨_, rfl⟩
      rw [hSl] at HCO hfe ⊢
      have HSL := Lib.hid hSl
      clear hSl
      go_upto_region 9 with fail
      have hB2 : Below wr.heap.size wr (wr.alloc (.cells zeroD 43)) := (Below.refl _ _).alloc (Nat.le_refl _) _
      have HRD2 := Lib.hid (RdS.more (RdS.below HRD.out hB2) hB2.size)
      have HRES2 := Lib.hid (HBX.out.stays hB2)
      have HB2 := Lib.hid (gro HBL.out hB2)
      have HBX2 := Lib.hid (BoxM.new wr 43 (fun _ => 0) 0 (.slice none 0 0) (.slice none 0 0))
      have HGM := Lib.hid (show w.heap.size ≤ wr.heap.size from HBL.out.size)
      have HGR := Lib.hid (show w.heap.size < wr.heap.size from HBX.out.lt)
      clear hB2 HRD HBX HBL HS
      obtain ⟨gm, hgm⟩ : ∃ gm, wr.heap.size = gm := ⟨_, rfl⟩
      have e0 : machC (fun _ => 0) 0 (.slice none 0 0) (.slice none 0 0) = zeroD := rfl
      rw [e0] at HBX2
      rw [hgm] at HBX2 HGM HGR ⊢
      generalize wr.alloc (.cells zeroD 43) = w2 at *
      clear hgm e0
      go_upto_region 10 with (first
        | (go_at_call 43; (with_reducible refine (HCO.out _ _ _ HRD2.out).mono ?_); rintro e w3 ⟨rfl, b3⟩; have HB3 := Lib.hid (gro HB2.out b3); have HBX3 := Lib.hid (HBX2.out.stays b3); have HRES3 := Lib.hid (HRES2.out.stays b3); have HRD3 := Lib.hid b3.size; have HN3 := Lib.hid (BoxN.new w3 34 256 (fun _ => 0)); clear b3)
        | (refine wpList_lay256 (by rfl) (by rfl) HN3.out ?_; intro w4 hn4 hb4 hs4; have HN4 := Lib.hid hn4; have B4 := Lib.hid ((((Below.refl _ _).alloc (Nat.le_refl _) (.cells (arrV 256 fun _ => 0) 34)).trans hb4 : Below w3.heap.size w3 w4)); clear hn4 hb4 hs4; go_simp)
        | fail)
      have HBX4 := Lib.hid (HBX3.out.stays B4.out)
      have HRES4 := Lib.hid (HRES3.out.stays B4.out)
      have HB4 := Lib.hid (gro HB3.out B4.out)
      clear HRD2 HCO HRES2 HBX2 HB2 HB3 HBX3 HRES3 HN3 HRD3
      go_upto_region 11 with (first
        | (refine wpList_load256 (by rfl) HN4.out ?_; go_simp)
        | (refine wpList_layA (by rfl) _ _ (by rfl) (by rfl) (by rfl) HBX4.out ?_; intro w5 hb5 hk5 hs5; have y5 := hb5.num; have f5 := hb5.frozen 256; have HBX5 := Lib.hid hb5; have HK5 := Lib.hid hk5; clear hb5 hk5 hs5; go_simp)
        | fail)
      go_upto_region 12 with fail
      have hb6 : BoxM (w5.setCell ⟨gm, 256, none⟩ (.int .i64 (C : Int))) gm 43 F (C : Int) (.slice none 0 0) (.slice none 0 0) := HBX5.out.setNum _
      have hk6 : Kept (fun b => b = gm) w4 (w5.setCell ⟨gm, 256, none⟩ (.int .i64 (C : Int))) := HK5.out.setCell (a := ⟨gm, 256, none⟩) (.inl rfl) _
      generalize w5.setCell ⟨gm, 256, none⟩ (.int .i64 (C : Int)) = w6 at *
      have HRES6 := Lib.hid (HRES4.out.kept hk6 fun e => by have := HGR.out; omega)
      have HB6 := Lib.hid (HB4.out.trans (hk6.below HB4.out.size fun b e => by have := HGM.out; omega))
      have HBX6 := Lib.hid hb6
      clear hb6 hk6 HK5 HBX5 HBX4 HB4 HRES4 HN4 B4 y5 f5
      have y6 : ((w6.alloc (.cells #[.slice none 0 0] 107)).alloc (.cells #[.int .u64 0, .int .u64 0] 51)).cell? ⟨gm, 258, none⟩ = some (.slice none 0 0) := ((HBX6.out.stays ((Below.refl _ _).alloc (Nat.le_refl _) _)).stays ((Below.refl _ _).alloc (Nat.le_refl _) _)).out
      have f6 := ((HBX6.out.stays ((Below.refl _ _).alloc (Nat.le_refl _) (.cells #[.slice none 0 0] 107))).stays ((Below.refl _ _).alloc (Nat.le_refl _) (.cells #[.int .u64 0, .int .u64 0] 51))).frozen 258
      go_upto_region 14 with fail
      have hb7 : Below w6.heap.size w6 (((w6.alloc (.cells #[.slice none 0 0] 107)).alloc (.cells #[.int .u64 0, .int .u64 0] 51))) := ((Below.refl _ _).alloc (Nat.le_refl _) _).alloc (by simp) _
      have HDS0 := Lib.hid (ds_new (B := (w.alloc (.cells zeroD 43)).heap.size) (by have := HGR.out; simp; omega) HBX6.out)
      have hb8 := Below.setCell (p := ⟨gm, 258, none⟩) (gro HB6.out hb7) HGM.out (.slice (some ⟨w6.heap.size + 1, 0, none⟩) 1 1)
      have hr8 := (HRES6.out.stays hb7).kept ((Kept.refl (fun b => b = gm) _).setCell (a := ⟨gm, 258, none⟩) (.inl rfl) (.slice (some ⟨w6.heap.size + 1, 0, none⟩) 1 1)) fun e => by have := HGR.out; omega
      have HB7 := Lib.hid (below_up hb8 hr8)
      clear hb8 hr8
      have HA1 := Lib.hid (HA.out.stays HB0.out)
      have HTB1 := Lib.hid (show RdTr (w.alloc (.cells zeroD 43)) B bs from fun i x e => by obtain ⟨b, off, e1, e2, e3⟩ := HB.out i x e; exact ⟨b, off, e1, Nat.lt_of_lt_of_le e2 HB0.out.size, cell_stays e3 HB0.out⟩)
      have HRES0 := Lib.hid (show BoxM (w.alloc (.cells zeroD 43)) w.heap.size 43 (fun _ => 0) 0 (.slice none 0 0) (.slice none 0 0) from HBX0.out)
      have HB01 := Lib.hid HB0.out
      clear hb7 y6 f6 HBX6 HB6 HRES6 HBX0 HB0
      have hk1 : w.heap.size < (w.alloc (.cells zeroD 43)).heap.size := by simp
      have HK1 := Lib.hid hk1
      clear hk1
      generalize w.alloc (.cells zeroD 43) = w1 at *
      obtain ⟨g6, hg6⟩ : ∃ g, w6.heap.size = g := ⟨_, rfl⟩
      rw [hg6] at HDS0 HB7 ⊢
      generalize (((w6.alloc (.cells #[.slice none 0 0] 107)).alloc (.cells #[.int .u64 0, .int .u64 0] 51)).setCell ⟨gm, 258, none⟩ (.slice (some ⟨g6 + 1, 0, none⟩) 1 1)) = w7 at *
      clear hg6
      have HTGT := Lib.hid (show buildS (stepC (RR L bs ln) F) mn C (mn + 1) 0 [[]] [] = TGT by rw [← HTS.out]; unfold srchOf; rw [HCF.out.1, HCF.out.2])
      obtain ⟨cn, hcn⟩ : ∃ cn, canon L bs = cn := ⟨_, rfl⟩
      obtain ⟨tl, htl⟩ : ∃ tl : List Wd → Nat × Nat, (fun t => tellW L bs t (0, 0)) = tl := ⟨_, rfl⟩
      have hstep : ∀ (t : List Wd) (b c : Nat), GoodD L ln t → b < 256 → F b = c → cn (stepD L ln b t) = stepC (RR L bs ln) F (cn t) c := fun t b c ht hb hc => by
        rw [← hcn]
        exact step_canon HLL.out (by rw [HFK.out, ← HSN.out, HLN.out]) ht hb hc
      have hsame : ∀ s t : List Wd, GoodD L ln s → GoodD L ln t → sameW s t = decide (cn s = cn t) := fun s t hs ht => by
        rw [← hcn]
        exact same_good hs ht
      have hout : ∀ t : List Wd, GoodD L ln t → mOutP (RR L bs ln) (cn t) (0, 0) = tl t := fun t ht => by
        rw [← hcn, ← htl]
        exact out_canon (by rw [HBN.out, HLN.out]) ht.ok
      have hfewt : ∀ t : List Wd, GoodD L ln t → t.length ≤ 100000 := fun t ht => Nat.le_trans (ht.few (by omega)) HFEW.out
      have htl0 : tl [] = (0, 0) := by rw [← htl]; rfl
      have hcn0 : cn [] = [] := by rw [← hcn]; exact canon_nil
      have HSTEP := Lib.hid hstep
      have HSAME := Lib.hid hsame
      have HOUT := Lib.hid hout
      have HFT := Lib.hid hfewt
      have HTL0 := Lib.hid htl0
      have HTLD := Lib.hid htl
      have HCN0 := Lib.hid hcn0
      obtain ⟨stp, hstp⟩ : ∃ f, stepC (RR L bs ln) F = f := ⟨_, rfl⟩
      rw [hstp] at HTGT HSTEP
      clear hcn htl hstep hsame hout hfewt htl0 hcn0 hstp
      have HNE2 := Lib.hid (show mn ≤ 1000 ∧ 1 ≤ mn by omega)
      clear hk HMK hkM HTS hne
      go_wp2
      go_loopg [15, 16] (mn + 1) (fun mm vS ii wr => ∃ (q : Nat) (O : Nat → Prop) (vN vO : Value) (ts : List (List Wd)) (rows : List (List Nat)), ii = .int .i64 (q : Int) ∧ q ≤ ts.length ∧ mm = mn + 1 - q ∧ DS w1.heap.size wr gm O F (C : Int) vS vN vO (.slice none 0 0) ts rows (ts.map tl) [] ∧ Below w1.heap.size w1 wr ∧ (∀ t ∈ ts, GoodD L ln t) ∧ ts.length ≤ mn ∧ rows.length = q ∧ buildS stp mn C (mn + 1 - q) q (ts.map cn) rows = TGT)
      case atStart => exact ⟨0, _, _, _, [[]], [], by first | rfl | trivial, Nat.zero_le _, by first | rfl | omega, by have := HDS0.out; rw [← HTL0.out] at this; exact this, HB7.out, fun t ht => by rw [List.mem_singleton] at ht; subst ht; exact GoodD.nil _ _, by have := HNE2.out; simp; omega, rfl, by have := HTGT.out; rw [← HCN0.out] at this; exact this⟩
      case round =>
        clear HDS0 HB7
        obtain ⟨q, O, vN, vO, ts, rows, rfl, hq, hmq, hds, hbl, hgd, hsl, hrw, htg⟩ := hrel
        have HMQ := Lib.hid hmq
        have HDS := Lib.hid hds
        have HBL := Lib.hid hbl
        have HGD := Lib.hid hgd
        have HRW := Lib.hid hrw
        have HTG := Lib.hid htg
        obtain ⟨As, cs, hfs⟩ := hds.sts.form
        subst hfs
        obtain ⟨T, hT⟩ : ∃ T, ts.length = T := ⟨_, rfl⟩
        have HT := Lib.hid hT
        rw [hT] at hq hsl HDS ⊢
        clear hmq hds hbl hgd hrw htg hT
        by_cases hqT : q < T
        · obtain ⟨t0, ht0⟩ : ∃ t, ts[q]? = some t := ⟨_, List.getElem?_eq_getElem (by rw [HT.out]; exact hqT)⟩
          have HT0 := Lib.hid ht0
          have HG0 := Lib.hid (HGD.out t0 (List.mem_of_getElem? ht0))
          clear ht0
          generalize wr = wo at *
          go_upto_region 19 with fail
          go_loopg [15, 17, 18] 256 (fun mm vS vr bb wr => ∃ (j : Nat) (vO : Value) (ts' : List (List Wd)) (row : List Nat), bb = .int .i64 (j : Int) ∧ j ≤ 256 ∧ mm = 256 - j ∧ DS w1.heap.size wr gm O F (C : Int) vS vN vO vr ts' rows (ts'.map tl) row ∧ Below w1.heap.size w1 wr ∧ (∀ t ∈ ts', GoodD L ln t) ∧ ts'.length ≤ mn ∧ row.length = cntK (keyL S) j ∧ rowS (stp (cn t0)) mn (C - row.length) row.length (ts'.map cn) row = rowS (stp (cn t0)) mn C 0 (ts.map cn) [] ∧ ∃ z, ts' = ts ++ z)
          case atStart => exact ⟨0, vO, ts, [], by first | rfl | trivial, by omega, by first | rfl | omega, HDS.out, HBL.out, HGD.out, by rw [HT.out]; exact hsl, rfl, rfl, [], by simp⟩
          case round =>
            obtain ⟨j, vO', ts', row, rfl, hj, hmj, hds, hbl, hgd, hsl', hrl, hrw, hz⟩ := hrel
            have HMJ := Lib.hid hmj
            have HDS' := Lib.hid hds
            have HBL' := Lib.hid hbl
            have HGD' := Lib.hid hgd
            have HRL := Lib.hid hrl
            have HRW' := Lib.hid hrw
            have HZ := Lib.hid hz
            have HT0' : Hid (ts'[q]? = some t0) := Lib.hid (by obtain ⟨z, rfl⟩ := hz; rw [List.getElem?_append_left (by have := HT.out; omega)]; exact HT0.out)
            obtain ⟨Ar, cr, hfr⟩ := own_formM hds.row
            rw [ns_len] at hfr
            subst hfr
            obtain ⟨gS, cS, A0, m0, hfs', hc0, hw0⟩ := hds.sts.at HT0'.out
            subst hfs'
            obtain ⟨P, hP⟩ : ∃ P, ts'.length = P := ⟨_, rfl⟩
            have HP := Lib.hid hP
            obtain ⟨rl, hrl'⟩ : ∃ rl, row.length = rl := ⟨_, rfl⟩
            have HRLL := Lib.hid hrl'
            rw [hP] at hsl' HDS' ⊢
            rw [hrl'] at hrl HDS' HRW' ⊢
            have hqP : q < P := by obtain ⟨z, rfl⟩ := hz; have := HT.out; rw [← hP, List.length_append]; omega
            have HW0 := Lib.hid hw0
            have HC0 := Lib.hid hc0
            clear hmj hgd hrw hz hw0 hc0 hP hrl'
            by_cases hj256 : j < 256
            · have htk := taken_iff (keyL S) j
              have c1 : wr.cell? ⟨gm, j, none⟩ = some (.int .i64 (F j : Int)) := hds.box.cls j hj256
              have hFj : F j = numK (keyL S) j := by rw [HFK.out]
              have ij : (j : Int) < 256 := by omega
              have ij0 : (0 : Int) ≤ (j : Int) := by omega
              by_cases hf : isFst (keyL S) j = true
              · have hFr : F j = rl := by rw [hFj, htk.1.2 hf, hrl]
                have hr1 : cntK (keyL S) (j + 1) = rl + 1 := by rw [htk.2, if_pos hf, hrl]
                have hrC : rl < C := by rw [HCK.out]; have := cntK_mono (keyL S) (show j + 1 ≤ 256 by omega); omega
                rw [hFr] at c1
                have hne : ((rl : Int) != (rl : Int)) = false := by simp
                have HR1 := Lib.hid hr1
                have HRC := Lib.hid hrC
                have hgt := GoodD.step (L := L) (lam := ln) HLL.out HND.out (by omega) j t0
                have hct := HSTEP.out t0 j rl HG0.out hj256 hFr
                have hst := step05_p (ca := ca) (cc := m0) (lam := ln) (b := (j : Int)) (HA1.out.stays hbl) (HW0.out.rd) (ref_ok HLL.out) (HG0.out.st (by omega)) (HFT.out t0 HG0.out) hn (by omega) ij0 (by omega) (by rw [Int.toNat_natCast]; exact HFT.out _ hgt)
                rw [Int.toNat_natCast] at hst
                obtain ⟨t1, ht1⟩ : ∃ t, stepD L ln j t0 = t := ⟨_, rfl⟩
                rw [ht1] at hgt hct
                rw [show stepW L ln j t0 (fstN L j L.length) = t1 from ht1, HLN.out] at hst
                have HST := Lib.hid hst
                have HGT := Lib.hid hgt
                have HCT := Lib.hid hct
                have hc0 := HC0.out
                have iq0 : (0 : Int) ≤ (q : Int) := by omega
                have iq1 : (q : Int) < (P : Int) := by omega
                clear hr1 hFr hFj htk hf hds hbl hrl hst hgt hct hrC ht1
                go_upto_region 23 with (first
                  | (go_at_call 44; (with_reducible refine HST.out.mono ?_); rintro e w5 ⟨v5, rfl, hv5, b5⟩; have HV5 := Lib.hid hv5; have B5 := Lib.hid b5; clear hv5 b5)
                  | fail)
                have HDS5 := Lib.hid (HDS'.out.stays B5.out)
                have HV5' : Hid (Ws w5 w1.heap.size v5 t1) := Lib.hid (own_lower HV5.out HDS'.out.hB)
                have HBL5 := Lib.hid (gro HBL'.out B5.out)
                obtain ⟨A5, c5, hf5⟩ := HV5'.out.form
                subst hf5
                obtain ⟨L1, hL1⟩ : ∃ n, t1.length = n := ⟨_, rfl⟩
                have HL1 := Lib.hid hL1
                rw [hL1] at HV5' ⊢
                clear HST HV5 B5 HDS' HBL' hL1 c1 hc0 HC0 HW0
                go_upto_region 24 with fail
                generalize wr = wb at *
                have HRLB := Lib.hid (show rl ≤ 256 by have := HRC.out; omega)
                go_loopg [20] P (fun mm kk wr => ∃ x : Nat, kk = .int .i64 (x : Int) ∧ x ≤ P ∧ mm = P - x ∧ (∀ y, y < x → (ts'.map cn)[y]? ≠ some (cn t1)) ∧ Below w5.heap.size w5 wr)
                case atStart => exact ⟨0, by first | rfl | trivial, Nat.zero_le _, by first | rfl | omega, fun y hy => by omega, Below.refl _ _⟩
                case round =>
                  obtain ⟨x, rfl, hx, hmx, hno, hb6⟩ := hrel
                  have HMX := Lib.hid hmx
                  have HNO := Lib.hid hno
                  have HDS6 := Lib.hid (HDS5.out.stays hb6)
                  have HV6 : Hid (Ws wr w1.heap.size (.slice A5 L1 c5) t1) := Lib.hid (HV5'.out.stays hb6)
                  have HBL6 := Lib.hid (gro HBL5.out hb6)
                  have HB6 := Lib.hid hb6
                  clear hmx hno hb6
                  by_cases hxP : x < P
                  · obtain ⟨t2, ht2⟩ : ∃ t, ts'[x]? = some t := ⟨_, List.getElem?_eq_getElem (by rw [HP.out]; exact hxP)⟩
                    have hg2 := HGD'.out t2 (List.mem_of_getElem? ht2)
                    obtain ⟨g9, c9, A2, m2, hq9, hc2, hw2⟩ := HDS6.out.sts.at ht2
                    obtain rfl : gS = g9 := by injection hq9 with e; injection e with e; injection e
                    have hsm := same05_p (c := m2) (c' := c5) hw2.rd HV6.out.rd (HFT.out t2 hg2) (HFT.out t1 HGT.out)
                    rw [HL1.out, HSAME.out t2 t1 hg2 HGT.out] at hsm
                    obtain ⟨L2, hL2⟩ : ∃ n, t2.length = n := ⟨_, rfl⟩
                    rw [hL2] at hsm hc2
                    have HT2 := Lib.hid ht2
                    have ix0 : (0 : Int) ≤ (x : Int) := by omega
                    have ix1 : (x : Int) < (P : Int) := by omega
                    have ix2 : ((x : Int) == (P : Int)) = false := by simp; omega
                    clear ht2 hg2 hq9 hw2 hL2
                    by_cases he : cn t2 = cn t1
                    · rw [decide_eq_true he] at hsm
                      have HSM := Lib.hid hsm
                      have HE := Lib.hid he
                      have iPm : ¬ (mn : Int) < (P : Int) := by omega
                      have HLEN : Hid ((ns row).length + (ns [x]).length ≤ 100000) := Lib.hid (by rw [ns_len, HRLL.out]; simp [ns]; have := HRLB.out; omega)
                      clear he hsm
                      go_wp2_with (first
                        | (go_at_call 45; (with_reducible refine HSM.out.mono ?_); rintro e w7' ⟨rfl, b7⟩; have HDS7 := Lib.hid (HDS6.out.stays b7); have HBL7 := Lib.hid (gro HBL6.out b7); have hge := HDS7.out.hB; clear b7)
                        | (refine wpList_ints (l := ns row) (m := ns [x]) (B := w1.heap.size) (C := w1.heap.size) (by rfl) _ _ (by rfl) (by rfl) (by rfl) (own_stays HDS7.out.row ((Below.refl _ _).alloc (Nat.le_refl _) _)) (ints_has (heap_alloc_new _ _) hge) HLEN.out (Nat.le_trans hge (by simp)) ?_; intro v8 w8 h8 hg8 ho8; have H8 := Lib.hid h8; have HG8 := Lib.hid hg8; have HO8 := Lib.hid ho8; clear h8 hg8 ho8; go_simp)
                        | fail)
                      go_roundg (256 - (j + 1))
                      case measure => have := HMJ.out; omega
                      case rel =>
                        have hk8 : Kept (fun b => (Value.slice Ar rl cr).ownBlock = some b) w7' w8 := ((Kept.refl _ _).alloc _).grown HG8.out (fun b e => .inl e)
                        have hds8 := HDS7.out.pushR (k := x) hk8 (by have := H8.out; simpa [ns] using this) (by rcases HO8.out with e | e; exact .inl e; exact .inr ⟨_, e, by simp⟩)
                        have hb8 := HBL7.out.trans (hk8.below HDS7.out.hB (fun b e => (World.ownsRow.lt HDS7.out.row b e).1))
                        have hix : (ts'.map cn)[x]? = some (cn t1) := by rw [List.getElem?_map, HT2.out]; simp [HE.out]
                        have hrw : rowS (stp (cn t0)) mn (C - (row ++ [x]).length) (row ++ [x]).length (ts'.map cn) (row ++ [x]) = rowS (stp (cn t0)) mn C 0 (ts.map cn) [] := by
                          have := HRC.out
                          rw [← HRW'.out, List.length_append, HRLL.out, List.length_singleton, show C - rl = (C - (rl + 1)) + 1 by omega, rowS_old (i := x) (by rw [← HCT.out]; exact hix) (fun y hy => by rw [← HCT.out]; exact HNO.out y hy) (by rw [List.length_map, HP.out]; exact hsl')]
                        exact ⟨j + 1, vO', ts', row ++ [x], by go_num, by omega, rfl, hds8, hb8, HGD'.out, by rw [HP.out]; exact hsl', by rw [HR1.out, List.length_append, HRLL.out]; rfl, hrw, HZ.out⟩
                    · rw [decide_eq_false he] at hsm
                      have HSM := Lib.hid hsm
                      have HE := Lib.hid he
                      clear he hsm
                      go_wp2_with (first
                        | (go_at_call 45; (with_reducible refine HSM.out.mono ?_); rintro e w7' ⟨rfl, b7⟩; have B7 := Lib.hid b7; clear b7)
                        | fail)
                      go_roundg (P - (x + 1))
                      case measure => have := HMX.out; omega
                      case rel =>
                        refine ⟨x + 1, by go_num, by omega, rfl, fun y hy e => ?_, gro HB6.out B7.out⟩
                        by_cases ey : y = x
                        · subst ey
                          rw [List.getElem?_map, HT2.out] at e
                          exact HE.out (Option.some.inj e)
                        · exact HNO.out y (by omega) e
                  · obtain rfl : P = x := by omega
                    obtain ⟨us, n1, n2, n3⟩ := HDS6.out.sts
                    have hge := HDS6.out.hB
                    have ixx : ((P : Int) == (P : Int)) = true := by simp
                    have N1 := Lib.hid n1
                    have N2 := Lib.hid n2
                    have N3 := Lib.hid n3
                    have hn2 := n2
                    rw [HP.out] at hn2
                    have NU := Lib.hid hn2
                    have hPn : P ≤ 100000 := by omega
                    clear n1 n2 n3 hn2 hx hxP
                    go_upto_region 30 with (first
                      | (at_builtin; (refine wpList_one (B := w1.heap.size) Try.infoStsD Try.underlying106 rfl (by decide) (by decide) (by rfl) _ _ (by rfl) (by rfl) (own_stays NU.out ((Below.refl _ _).alloc (Nat.le_refl _) _)) (by rfl) (heap_alloc_new _ _) rfl (by simp [Value.oneCell']) hPn (Nat.le_trans hge (by simp)) ?_); intro v8 w8 h8 hg8 ho8; have H8 := Lib.hid h8; have HG8 := Lib.hid hg8; clear h8 hg8 ho8; go_simp)
                      | fail)
                    obtain ⟨A8, c8, hf8⟩ := own_formM H8.out
                    subst hf8
                    have hk8 : Kept (fun b => (Value.slice (some ⟨gS, 0, none⟩) P cS).ownBlock = some b) wr w8 := ((Kept.refl _ _).alloc _).grown HG8.out (fun b e => .inl e)
                    have hds8 := DS.pushS HDS6.out N1.out N2.out N3.out HV6.out hk8 (by rw [HP.out]; exact H8.out)
                    have hb8 := HBL6.out.trans (hk8.below HDS6.out.hB (fun b e => (World.ownsRow.lt NU.out b e).1))
                    have hv8 : Ws w8 w1.heap.size (.slice A5 L1 c5) t1 := own_oth HV6.out hk8 (oth_own NU.out (l := [144]) (by decide)) (by simp)
                    have hot := hds8.ots
                    obtain ⟨Ao, co, hfo⟩ := own_formM hot
                    subst hfo
                    have hPl : (ts'.map tl).length = P := by rw [List.length_map, HP.out]
                    rw [hPl] at hot hds8
                    have HC := Lib.hid (fun (W : World) (kk : Kept (fun b => (Value.slice Ao P co).ownBlock = some b) w8 W) => hds8.box.oth kk (oth_own hot (l := [43]) (by decide)) (by simp))
                    have hln63 : ln ≤ 63 := by omega
                    have hwd := HGT.out.wd hln63 (show bs.length = L.length by rw [HBN.out, HLN.out])
                    have hft1 := HFT.out t1 HGT.out
                    have htl1 : tellW L bs t1 (0, 0) = tl t1 := by rw [← HTLD.out]
                    have hgw := hds8.hB
                    have HTL : Hid (∀ W : World, Kept (fun b => (Value.slice Ao P co).ownBlock = some b) w8 W → Calls Try.prog 46 #[.slice A k ca, .slice B k cb, .slice A5 L1 c5] W fun e w' => e = .returned (.agg #[.int .u64 ((tl t1).1 : Nat), .int .u64 ((tl t1).2 : Nat)]) ∧ Below W.heap.size W w') := Lib.hid (by
                      intro W kk
                      have hbw := hb8.trans (kk.below hgw (fun b e => (World.ownsRow.lt hot b e).1))
                      have hvW : Ws W w1.heap.size (.slice A5 L1 c5) t1 := own_oth hv8 kk (oth_own hot (l := [144]) (by decide)) (by simp)
                      have h1 := HA1.out.stays hbw
                      have h2 := RdTr.stays' HTB1.out hbw
                      have h3 := hvW.rd
                      have h4 := tells05_p (ca := ca) (cb := cb) (cc := c5) h1 h2 h3 hwd hft1 hn hbn
                      rw [htl1, HL1.out, HLN.out, HBN.out] at h4
                      exact h4)
                    have HDS8 := Lib.hid hds8
                    have HB8 := Lib.hid hb8
                    have HOT := Lib.hid hot
                    obtain ⟨o1, ho1⟩ : ∃ n, (tl t1).1 = n := ⟨_, rfl⟩
                    obtain ⟨o2, ho2⟩ : ∃ n, (tl t1).2 = n := ⟨_, rfl⟩
                    rw [ho1, ho2] at HTL
                    have HO12 := Lib.hid (show (o1, o2) = tl t1 by rw [← ho1, ← ho2])
                    clear hwd hft1 htl1 hln63 hk8 hds8 hb8 hv8 hot H8 HG8 N1 N2 N3 NU ho1 ho2 hPl
                    have hmx : Try.prog.follows .mixedOrders = true := by kernel_rfl
                    have HQR := Lib.hid (fun (W : World) (kk : Kept (fun b => (Value.slice Ao P co).ownBlock = some b) w8 W) => (kk.mono (fun b e => .inl (.inl e)) : Kept (fun b => (Value.slice Ao P co).ownBlock = some b ∨ b = gm) w8 W))
                    have hS0 : Kept (fun b => (Value.slice Ao P co).ownBlock = some b) w8 w8.drew := (Kept.refl _ w8).drew
                    have hR0 := HQR.out _ hS0
                    refine anyT_begin (R := fun W => Kept (fun b => (Value.slice Ao P co).ownBlock = some b ∨ b = gm) w8 W) (S := fun W => Kept (fun b => (Value.slice Ao P co).ownBlock = some b) w8 W) (T := [9]) hmx ?_
                    refine anyR_take (i := 0) (v := .pointer (some ⟨gm, 258, none⟩)) rfl (by kernel_rfl) (by kernel_rfl) (by kernel_rfl) (fun _ _ _ h => h) (by decide) (Or.inl ⟨by rfl, fun w' hS => by go_simp⟩) hR0 (fun _ => hS0) ?_
                    refine anyT_take (i := 1) (v := .slice Ao P co) rfl (by kernel_rfl) (by kernel_rfl) (by kernel_rfl) (fun _ _ _ h => h) (by kernel_rfl) (by decide) (by kernel_rfl) (Or.inl ⟨by rfl, fun w' hS => by have t1 := (HC.out w' hS).out; go_simp⟩) hR0 hS0 ?_
                    refine anyR_take (i := 2) (v := .slice A k ca) rfl (by kernel_rfl) (by kernel_rfl) (by kernel_rfl) (fun _ _ _ h => h) (by decide) (Or.inl ⟨by rfl, fun w' hS => by go_simp⟩) hR0 (fun _ => hS0) ?_
                    refine anyR_take (i := 3) (v := .slice B k cb) rfl (by kernel_rfl) (by kernel_rfl) (by kernel_rfl) (fun _ _ _ h => h) (by decide) (Or.inl ⟨by rfl, fun w' hS => by go_simp⟩) hR0 (fun _ => hS0) ?_
                    refine anyR_take (i := 4) (v := .slice A5 L1 c5) rfl (by kernel_rfl) (by kernel_rfl) (by kernel_rfl) (fun _ _ _ h => h) (by decide) (Or.inl ⟨by rfl, fun w' hS => by go_simp⟩) hR0 (fun _ => hS0) ?_
                    refine anyT_all (rs := [5]) (by kernel_rfl) (by simp) ?_
                    refine all_one (anyT_step rfl fun K hK => ?_)
                    go_simp
                    go_at_call 46
                    with_reducible refine (HTL.out _ (by repeat (first | with_reducible exact Kept.refl _ _ | with_reducible refine Kept.drew ?_ | with_reducible refine Kept.alloc ?_ _ | with_reducible refine Kept.grown ?_ G2.out (fun b e => .inl e) | with_reducible refine Kept.trans ?_ KB.out (fun b e => e.elim)))).mono ?_
                    rintro e w15 ⟨rfl, b15⟩
                    have BB := Lib.hid b15
                    have KB := Lib.hid (Kept.of_below (fun _ => False) b15)
                    clear b15
                    refine hK.out _ _ (HQR.out _ (by repeat (first | with_reducible exact Kept.refl _ _ | with_reducible refine Kept.drew ?_ | with_reducible refine Kept.alloc ?_ _ | with_reducible refine Kept.grown ?_ G2.out (fun b e => .inl e) | with_reducible refine Kept.trans ?_ KB.out (fun b e => e.elim)))) (fun _ => (by repeat (first | with_reducible exact Kept.refl _ _ | with_reducible refine Kept.drew ?_ | with_reducible refine Kept.alloc ?_ _ | with_reducible refine Kept.grown ?_ G2.out (fun b e => .inl e) | with_reducible refine Kept.trans ?_ KB.out (fun b e => e.elim)))) ?_
                    clear hK K
                    refine anyT_all (rs := [6]) (by kernel_rfl) (by simp) ?_
                    refine all_one (anyT_step rfl fun K hK => ?_)
                    go_simp
                    refine hK.out _ _ (HQR.out _ (by repeat (first | with_reducible exact Kept.refl _ _ | with_reducible refine Kept.drew ?_ | with_reducible refine Kept.alloc ?_ _ | with_reducible refine Kept.grown ?_ G2.out (fun b e => .inl e) | with_reducible refine Kept.trans ?_ KB.out (fun b e => e.elim)))) (fun _ => (by repeat (first | with_reducible exact Kept.refl _ _ | with_reducible refine Kept.drew ?_ | with_reducible refine Kept.alloc ?_ _ | with_reducible refine Kept.grown ?_ G2.out (fun b e => .inl e) | with_reducible refine Kept.trans ?_ KB.out (fun b e => e.elim)))) ?_
                    clear hK K
                    refine anyT_all (rs := [7]) (by kernel_rfl) (by simp) ?_
                    refine all_one (anyT_step rfl fun K hK => ?_)
                    refine step_ots (by rfl) _ _ (by rfl) (by rfl) (own_block HOT.out fun b e hb => Kept.block (Q := fun _ => False) (w := w8) (by repeat (first | with_reducible exact Kept.refl _ _ | with_reducible refine Kept.drew ?_ | with_reducible refine Kept.alloc ?_ _ | with_reducible refine Kept.grown ?_ G2.out (fun b e => .inl e) | with_reducible refine Kept.trans ?_ KB.out (fun b e => e.elim))) b hb (fun q => q)) (by rfl) (by repeat (first | with_reducible exact has_new _ _ _ _ rfl | exact has_new _ _ _ _ (by simp; done) | with_reducible refine has_drew ?_ | with_reducible refine has_alloc _ ?_)) hPn (Nat.le_trans hgw (show Kept (fun b => (Value.slice Ao P co).ownBlock = some b) w8 _ from (by repeat (first | with_reducible exact Kept.refl _ _ | with_reducible refine Kept.drew ?_ | with_reducible refine Kept.alloc ?_ _ | with_reducible refine Kept.grown ?_ G2.out (fun b e => .inl e) | with_reducible refine Kept.trans ?_ KB.out (fun b e => e.elim)))).size) ?_
                    intro v2 W2 r2 g2 o2'
                    obtain ⟨A2, c2', rfl⟩ := own_formM r2
                    have R2 := Lib.hid r2
                    have G2 := Lib.hid g2
                    clear r2 g2 o2'
                    refine hK.out _ _ (HQR.out _ (by repeat (first | with_reducible exact Kept.refl _ _ | with_reducible refine Kept.drew ?_ | with_reducible refine Kept.alloc ?_ _ | with_reducible refine Kept.grown ?_ G2.out (fun b e => .inl e) | with_reducible refine Kept.trans ?_ KB.out (fun b e => e.elim)))) (fun _ => (by repeat (first | with_reducible exact Kept.refl _ _ | with_reducible refine Kept.drew ?_ | with_reducible refine Kept.alloc ?_ _ | with_reducible refine Kept.grown ?_ G2.out (fun b e => .inl e) | with_reducible refine Kept.trans ?_ KB.out (fun b e => e.elim)))) ?_
                    clear hK K
                    have hSe : Kept (fun b => (Value.slice Ao P co).ownBlock = some b) w8 W2 := (by repeat (first | with_reducible exact Kept.refl _ _ | with_reducible refine Kept.drew ?_ | with_reducible refine Kept.alloc ?_ _ | with_reducible refine Kept.grown ?_ G2.out (fun b e => .inl e) | with_reducible refine Kept.trans ?_ KB.out (fun b e => e.elim)))
                    refine anyT_all (rs := [8]) (by kernel_rfl) (by simp) ?_
                    refine all_one (anyT_step rfl fun K hK => ?_)
                    go_simp
                    refine hK.out _ _ (HQR.out _ hSe) (fun _ => hSe) ?_
                    clear hK K
                    refine anyT_all (rs := [9]) (by kernel_rfl) (by simp) ?_
                    refine all_one (anyT_step rfl fun K hK => ?_)
                    have t1' := (HC.out W2 hSe).out
                    have t2 := (HC.out W2 hSe).frozen 258
                    go_simp
                    have hR16 : Kept (fun b => (Value.slice Ao P co).ownBlock = some b ∨ b = gm) w8 (W2.setCell ⟨gm, 258, none⟩ (.slice A2 (P + 1) c2')) := (HQR.out _ hSe).setCell (a := ⟨gm, 258, none⟩) (.inl (.inr rfl)) _
                    refine hK.out _ _ hR16 (early_not (t := 9) (by simp) (by kernel_rfl)) ?_
                    clear hK K
                    refine anyT_done (by kernel_rfl) ?_ _
                    have hbx2 := HC.out W2 hSe
                    have hr3 : (W2.setCell ⟨gm, 258, none⟩ (.slice A2 (P + 1) c2')).ownsRow w1.heap.size 51 2 (.slice A2 (P + 1) c2') (P + 1) (outC (ts'.map tl) ++ [.int .u64 (o1 : Int), .int .u64 (o2 : Int)]) :=
                      own_oth R2.out ((Kept.refl (fun b => b = gm) W2).setCell (a := ⟨gm, 258, none⟩) (.inl rfl) _) (oth_box hbx2 (l := [51]) (by decide)) (by simp)
                    have hds9 := DS.pushO (o := (o1, o2)) HDS8.out hR16 (hbx2.setOut _) (by rw [List.length_map, HP.out]; exact hr3)
                    have hb9 := HB8.out.trans (hR16.below hgw (fun b e => e.elim (fun e => (World.ownsRow.lt HOT.out b e).1) (fun e => by subst e; exact HDS8.out.gB)))
                    rw [HO12.out] at hds9
                    have hmt : ts'.map tl ++ [tl t1] = (ts' ++ [t1]).map tl := by simp
                    rw [hmt] at hds9
                    have HDS9 := Lib.hid hds9
                    have HB9 := Lib.hid hb9
                    have hge := hds9.hB
                    clear hbx2 hr3 hds9 hb9 hmt t1' t2 hR16 hSe hmx hS0 hR0 HC HTL HQR BB KB R2 G2 HDS8 HB8 HOT HO12 hgw
                    generalize W2.setCell ⟨gm, 258, none⟩ (.slice A2 (P + 1) c2') = W3 at *
                    have hnone : ∀ y, y < (ts'.map cn).length → (ts'.map cn)[y]? ≠ some (stp (cn t0) rl) := by
                      intro y hy
                      rw [← HCT.out]
                      exact HNO.out y (by rw [List.length_map, HP.out] at hy; exact hy)
                    have HNN := Lib.hid hnone
                    clear hnone
                    by_cases hbig : mn < P + 1
                    · have ib : (mn : Int) < ((P + 1 : Nat) : Int) := by omega
                      have ib2 : (mn : Int) < (P : Int) + 1 := by omega
                      have HRESB := Lib.hid (HRES0.out.stays HB9.out)
                      have HBIG := Lib.hid hbig
                      clear hbig
                      go_wp2_with (first
                        | (refine wpList_buildZ (by rfl) (by rfl) ?_; go_simp)
                        | (refine wpList_storeM (by rfl) _ _ (by rfl) (by rfl) (by rfl) Try.sizeMR rfl rfl HRESB.out ?_; intro hbx; have HBX1 := Lib.hid hbx; clear hbx; go_simp)
                        | fail)
                      have hTn : TGT = none := by
                        have := HRC.out
                        rw [← HTG.out, show mn + 1 - q = (mn - q) + 1 by omega]
                        refine buildS_no (s := cn t0) (by rw [List.getElem?_map, HT0.out]; rfl) ?_
                        rw [← HRW'.out, show C - rl = (C - (rl + 1)) + 1 by omega]
                        exact rowS_big HNN.out (by rw [List.length_map, HP.out]; exact HBIG.out)
                      subst hTn
                      refine bodyPost_ret (v := .tuple #[.agg zeroD, .int .i64 11]) (results_mach Try.results12 rfl rfl Try.underlying43 rfl Try.sizeMR HBX1.out) rfl ⟨?_, rfl⟩
                      exact below_setRow (gro HB01.out HB9.out) (Nat.le_refl _) _
                    · have ib : ¬ (mn : Int) < ((P + 1 : Nat) : Int) := by omega
                      have ib2 : ¬ (mn : Int) < (P : Int) + 1 := by omega
                      have HLEN : Hid ((ns row).length + (ns [P]).length ≤ 100000) := Lib.hid (by rw [ns_len, HRLL.out]; simp [ns]; have := HRLB.out; omega)
                      go_wp2_with (first
                        | (at_builtin; refine wpList_ints (l := ns row) (m := ns [P]) (B := w1.heap.size) (C := w1.heap.size) (by rfl) _ _ (by rfl) (by rfl) (by rfl) (own_stays HDS9.out.row ((Below.refl _ _).alloc (Nat.le_refl _) _)) (ints_has (heap_alloc_new _ _) hge) HLEN.out (Nat.le_trans hge (by simp)) ?_; intro v8 w8 h8 hg8 ho8; have H8 := Lib.hid h8; have HG8 := Lib.hid hg8; have HO8 := Lib.hid ho8; clear h8 hg8 ho8; go_simp)
                        | fail)
                      go_roundg (256 - (j + 1))
                      case measure => have := HMJ.out; omega
                      case rel =>
                        have hk8 : Kept (fun b => (Value.slice Ar rl cr).ownBlock = some b) W3 _ := ((Kept.refl _ _).alloc _).grown HG8.out (fun b e => .inl e)
                        have hds8 := HDS9.out.pushR (k := P) hk8 (by have := H8.out; simpa [ns] using this) (by rcases HO8.out with e | e; exact .inl e; exact .inr ⟨_, e, by simp⟩)
                        have hb8 := HB9.out.trans (hk8.below HDS9.out.hB (fun b e => (World.ownsRow.lt HDS9.out.row b e).1))
                        have hrw : rowS (stp (cn t0)) mn (C - (row ++ [P]).length) (row ++ [P]).length ((ts' ++ [t1]).map cn) (row ++ [P]) = rowS (stp (cn t0)) mn C 0 (ts.map cn) [] := by
                          have := HRC.out
                          have e := rowS_new (k := C - (rl + 1)) (row := row) HNN.out (most := mn) (by rw [List.length_map, HP.out]; omega)
                          rw [List.length_map, HP.out, ← HCT.out] at e
                          rw [← HRW'.out, List.length_append, HRLL.out, List.length_singleton, show C - rl = (C - (rl + 1)) + 1 by omega, e]
                          simp
                        obtain ⟨z, hz⟩ := HZ.out
                        exact ⟨j + 1, _, ts' ++ [t1], row ++ [P], by go_num, by omega, rfl, hds8, hb8, fun t ht => by
                          rw [List.mem_append, List.mem_singleton] at ht
                          rcases ht with ht | rfl
                          · exact HGD'.out t ht
                          · exact HGT.out, by rw [List.length_append, List.length_singleton, HP.out]; omega, by rw [HR1.out, List.length_append, HRLL.out]; rfl, hrw, z ++ [t1], by rw [hz, List.append_assoc]⟩
              · have hFr : F j ≠ rl := by rw [hFj, hrl]; exact fun e => hf (htk.1.1 e)
                have hr1 : cntK (keyL S) (j + 1) = rl := by rw [htk.2, if_neg hf, hrl]; rfl
                have hne : ((F j : Int) != (rl : Int)) = true := by simp; omega
                have HR1 := Lib.hid hr1
                clear hr1 hFr hFj htk hf hds hbl hrl
                go_wp2
                go_roundg (256 - (j + 1))
                case measure => have := HMJ.out; omega
                case rel => exact ⟨j + 1, vO', ts', row, by go_num, by omega, rfl, HDS'.out, HBL'.out, HGD'.out, by rw [HP.out]; exact hsl', by rw [HR1.out]; exact HRLL.out, by rw [HRLL.out]; exact HRW'.out, HZ.out⟩
            · have hje : j = 256 := by omega
              subst hje
              have hrC : rl = C := by rw [HCK.out]; exact hrl
              have hend : rowS (stp (cn t0)) mn C 0 (ts.map cn) [] = some (ts'.map cn, row) := by
                rw [← HRW'.out, show C - rl = 0 by omega]
                rfl
              have HEND := Lib.hid hend
              obtain ⟨vs, n1, n2, n3, n4⟩ := hds.nxt.mem
              obtain ⟨An, cN, hfn⟩ := own_formM n2
              subst hfn
              have N1 := Lib.hid n1
              have N2 := Lib.hid n2
              have N3 := Lib.hid n3
              have N4 := Lib.hid n4
              have hn2 := n2
              rw [HRW.out] at hn2 HDS'
              have hbx := HDS'.out.box
              have NU := Lib.hid hn2
              have HBX := Lib.hid hbx
              have c257 := hbx.nxt
              have hqn : q ≤ 100000 := by omega
              have hge := hds.hB
              clear n1 n2 n3 n4 hn2 hend hrl hds hbx hbl
              go_wp2_with (first
                | (at_builtin; refine wpList_one (B := w1.heap.size) Try.infoRowP Try.underlying35 rfl (by decide) (by decide) (by rfl) _ _ (by rfl) (by rfl) (own_stays NU.out ((Below.refl _ _).alloc (Nat.le_refl _) _)) (by rfl) (heap_alloc_new _ _) rfl (by simp [Value.oneCell']) hqn (Nat.le_trans hge (by simp)) ?_; intro v8 w8 h8 hg8 ho8; obtain ⟨A8, c8, hf8⟩ := own_formM h8; subst hf8; have hk8 : Kept (fun b => (Value.slice An q cN).ownBlock = some b) wr w8 := ((Kept.refl _ _).alloc _).grown hg8 (fun b e => .inl e); have hb8 := HBX.out.oth hk8 (oth_own NU.out (l := [43]) (by decide)) (by simp); have y8 := hb8.nxt; have f8 := hb8.frozen 257; have H8 := Lib.hid h8; have HK8 := Lib.hid hk8; have HBX8 := Lib.hid hb8; clear h8 hg8 ho8 hk8 hb8; go_simp)
                | fail)
              go_roundg (mn + 1 - (q + 1))
              case measure => have := HMQ.out; omega
              case rel =>
                have hk9 : Kept (fun b => (Value.slice An q cN).ownBlock = some b ∨ b = gm) wr (w8.setCell ⟨gm, 257, none⟩ (.slice A8 (q + 1) c8)) := (HK8.out.mono (fun b e => .inl (.inl e)) : Kept (fun b => (Value.slice An q cN).ownBlock = some b ∨ b = gm) wr w8).setCell (a := ⟨gm, 257, none⟩) (.inl (.inr rfl)) _
                have hr9 : (w8.setCell ⟨gm, 257, none⟩ (.slice A8 (q + 1) c8)).ownsRow w1.heap.size 59 1 (.slice A8 (q + 1) c8) (q + 1) (vs ++ [.slice Ar C cr]) :=
                  own_oth H8.out ((Kept.refl (fun b => b = gm) w8).setCell (a := ⟨gm, 257, none⟩) (.inl rfl) _) (oth_box HBX8.out (l := [59]) (by decide)) (by simp)
                have hn2 := N2.out
                rw [HRW.out] at hn2
                obtain ⟨O', hds9⟩ := DS.pushN HDS'.out N1.out (by rw [HRW.out]; exact hn2) N3.out N4.out hk9 (HBX8.out.setNxt _) (by rw [HRW.out, hrC]; exact hr9)
                have hb9 := HBL'.out.trans (hk9.below hge (fun b e => e.elim (fun e => (World.ownsRow.lt NU.out b e).1) (fun e => by subst e; exact HDS'.out.gB)))
                refine ⟨q + 1, O', _, _, ts', rows ++ [row], by go_num, by rw [HP.out]; omega, rfl, hds9, hb9, HGD'.out, by rw [HP.out]; exact hsl', by rw [List.length_append, HRW.out]; rfl, ?_⟩
                rw [← HTG.out, show mn + 1 - q = (mn + 1 - (q + 1)) + 1 by omega]
                exact (buildS_row (by rw [List.getElem?_map, HT0.out]; rfl) HEND.out).symm
        · have hqe : q = T := by omega
          have hTn : TGT = some (ts.map cn, rows) := by
            rw [← HTG.out, show mn + 1 - q = (mn - q) + 1 by omega]
            exact buildS_end (List.getElem?_eq_none (by rw [List.length_map, HT.out]; omega))
          obtain ⟨An, cN, hfn⟩ := HDS.out.nxt.form
          obtain ⟨Ao, co, hfo⟩ := own_formM HDS.out.ots
          have HFN := Lib.hid hfn
          have HFO := Lib.hid hfo
          have HRESB := Lib.hid (HRES0.out.stays HBL.out)
          have HTN := Lib.hid hTn
          clear hfn hfo hTn hqe
          go_wp2_with (first
            | (refine wpList_loadM (by rfl) _ (by rfl) (by rfl) Try.underlying43 rfl Try.sizeMR HDS.out.box ?_; go_simp)
            | (refine wpList_storeM (by rfl) _ _ (by rfl) (by rfl) (by rfl) Try.sizeMR (by rw [HFN.out]; rfl) (by rw [HFO.out]; rfl) HRESB.out ?_; intro hbx; have HBX1 := Lib.hid hbx; clear hbx; go_simp)
            | fail)
          have hTn := HTN.out
          subst hTn
          refine bodyPost_ret (v := .tuple #[.agg (machC F C vN vO), .int .i64 0]) (results_mach Try.results12 rfl rfl Try.underlying43 rfl Try.sizeMR HBX1.out) rfl ⟨below_setRow (gro HB01.out HBL.out) (Nat.le_refl _) _, ?_⟩
          have hkp : Kept (fun b => b = w.heap.size) wr (wr.setRow w.heap.size (machC F C vN vO)) := kept_setRow (Kept.refl (fun b => b = w.heap.size) wr) (.inl rfl) _
          have hw01 := HK1.out
          have hN2 := (HDS.out.nxt.oth hkp (oth_box HRESB.out (by decide))).low (Nat.le_of_lt hw01)
          have hO2 := own_lower (own_oth HDS.out.ots hkp (oth_box HRESB.out (l := [51]) (by decide)) (by simp)) (Nat.le_of_lt hw01)
          have hmm : (ts.map cn).map (fun s => mOutP (RR L bs ln) s (0, 0)) = ts.map tl := by
            rw [List.map_map]
            exact List.map_congr_left fun t ht => HOUT.out t (HGD.out t ht)
          show ∃ vN vO O, _
          rw [HCF.out.1, HCF.out.2, hmm]
          exact ⟨vN, vO, fun b => O b ∨ vO.ownBlock = some b, rfl, hN2.more fun b e => .inl e, hO2, fun b e => .inr e⟩
end Go.Proofs.Ytnkopcmkanibhaa

/-
  Run of a machine, the program's and the document's. Contracts for other texts; no statement of its own.
-/
namespace Go.Proofs.Ytnkopcmkanibhaa
open Go Go.RowKit

/-- Where a word leads. -/
def runN (F : Nat → Nat) (rows : List (List Nat)) : List Int → Nat → Nat
  | [], s => s
  | b :: w, s => runN F rows w ((rows.getD s []).getD (F b.toNat) 0)
theorem BoxO.far' {w w' : World} {g : Nat} {a b : Value} (h : BoxO w g a b) (hb : Below w.heap.size w w') : BoxO w' g a b := (hb.block g (lt_of_some h)).trans h
/-- A machine that may be. -/
structure OkM (F : Nat → Nat) (n : Nat) (rows : List (List Nat)) (outs : List (Nat × Nat)) : Prop where
  cls : ∀ b, b < 256 → F b < n
  row : ∀ (i : Nat) r, rows[i]? = some r → r.length = n ∧ ∀ t ∈ r, t < rows.length
  out : outs.length = rows.length
  some : 0 < rows.length
  few : rows.length ≤ 100000

set_option maxRecDepth 20000 in
set_option maxHeartbeats 2000000 in
theorem mrun_p {w : World} {B B' n c : Nat} {O O' : Nat → Prop} {F : Nat → Nat} {vN vO : Value} {rows : List (List Nat)} {outs : List (Nat × Nat)} {A : Option Addr} {xs : List Int} (hm : OkM F n rows outs) (hN : Nxt w B O vN rows) (hO : Ots w B' O' vO outs) (hx : RdB w w.heap.size A xs) (hby : ∀ k, k < xs.length → 0 ≤ xs.getD k 0 ∧ xs.getD k 0 ≤ 255) (hl : xs.length ≤ 9223372036854775807) :
    Calls Try.prog 16 #[.agg (machC F n vN vO), .slice A xs.length c] w fun e w' => (e = .returned (.agg #[.int .u64 ((outs.getD (runN F rows xs 0) (0, 0)).1 : Int), .int .u64 ((outs.getD (runN F rows xs 0) (0, 0)).2 : Int)])) ∧ Below w.heap.size w w' := by
  obtain ⟨vs, n1, n2, n3, n4⟩ := hN.mem
  obtain ⟨An, cn, hfn⟩ := hN.form
  obtain ⟨Ao, co, hfo⟩ := hO.form
  subst hfn hfo
  obtain ⟨S, hS⟩ : ∃ S, rows.length = S := ⟨_, rfl⟩
  obtain ⟨N, hNN⟩ : ∃ N, xs.length = N := ⟨_, rfl⟩
  have hol := hm.out
  have hor := hO.row
  have hS0 := hm.some
  have hSf := hm.few
  rw [hS] at hol hS0 n2 hSf
  rw [hol] at hor
  rw [hS, hol]
  rw [hNN] at hl ⊢
  have hbx := BoxM.new w 38 F (n : Int) (.slice An S cn) (.slice Ao S co)
  have hb1 : Below w.heap.size w (w.alloc (.cells (machC F n (.slice An S cn) (.slice Ao S co)) 38)) := (Below.refl _ _).alloc (Nat.le_refl _) _
  obtain ⟨w1, hw1⟩ : ∃ w1, w.alloc (.cells (machC F n (.slice An S cn) (.slice Ao S co)) 38) = w1 := ⟨_, rfl⟩
  have hs1 : w1.heap.size = w.heap.size + 1 := by rw [← hw1]; simp
  rw [hw1] at hbx hb1
  have HW1 := Lib.hid hw1
  have HBX := Lib.hid hbx
  have HB1 := Lib.hid hb1
  have HX := Lib.hid hx
  have HBY := Lib.hid hby
  have HN := Lib.hid hNN
  have HRL := Lib.hid hS
  have HVL := Lib.hid n1
  have HV2 := Lib.hid n2
  have HV3 := Lib.hid n3
  have HROK := Lib.hid hm.row
  have HF := Lib.hid hm.cls
  have HOL := Lib.hid hol
  have HO := Lib.hid hor
  clear hw1 hbx hb1 hx hby hNN hS n1 n2 n3 n4 hm hol hor hN hO
  go_enter Try.func16, Try.ntmps16
  go_upto_region 1 with fail
  rw [HW1.out]
  have hbo2 : BoxO (w1.alloc (.cells #[.int .u64 0, .int .u64 0] 51)) (w.heap.size + 1) (.int .u64 0) (.int .u64 0) := BoxO.new w1 _ _ _ hs1
  have hb2 : Below w1.heap.size w1 (w1.alloc (.cells #[.int .u64 0, .int .u64 0] 51)) := (Below.refl _ _).alloc (Nat.le_refl _) _
  generalize w1.alloc (.cells #[.int .u64 0, .int .u64 0] 51) = w2 at *
  have HBX2 := Lib.hid (HBX.out.stays hb2)
  have HB2 := Lib.hid (gro HB1.out hb2)
  have HBO := Lib.hid hbo2
  clear HBX HB1 hbo2 hb2 hs1 HW1
  have HBX := HBX2
  have hS0' : 0 < S := hS0
  go_wp2
  go_loopg [5, 10] N (fun mm s i wr => ∃ (st k : Nat), s = .int .i64 (st : Int) ∧ i = .int .i64 (k : Int) ∧ k ≤ N ∧ mm = N - k ∧ st < S ∧ runN F rows (xs.drop k) st = runN F rows xs 0 ∧ Below w2.heap.size w2 wr)
  case atStart => exact ⟨0, 0, by first | rfl | trivial, by first | rfl | trivial, Nat.zero_le _, by first | rfl | trivial, hS0', rfl, Below.refl _ _⟩
  case round =>
    obtain ⟨st, k, rfl, rfl, hk, hmk, hst, hru, hbw⟩ := hrel
    have HMK := Lib.hid hmk
    have HST := Lib.hid hst
    have HRUN := Lib.hid hru
    have HBW := Lib.hid hbw
    have HB := Lib.hid (HB2.out.trans (hbw.mono HB2.out.size))
    clear hmk hst hru hbw
    by_cases hkN : k < N
    · have hst := HST.out
      obtain ⟨r, hr⟩ : ∃ r, rows[st]? = some r := ⟨_, List.getElem?_eq_getElem (by rw [HRL.out]; exact hst)⟩
      obtain ⟨u, hu⟩ : ∃ u, vs[st]? = some u := ⟨_, List.getElem?_eq_getElem (by rw [HVL.out, HRL.out]; exact hst)⟩
      obtain ⟨gb, off, rfl, hgb, zb⟩ := HX.out k (by rw [HN.out]; exact hkN)
      have zb := (HB.out.cell (p := ⟨gb, off + k, none⟩) hgb).trans zb
      have hbb := HBY.out k (by rw [HN.out]; exact hkN)
      obtain ⟨b, hb⟩ : ∃ b : Nat, xs.getD k 0 = (b : Int) := ⟨(xs.getD k 0).toNat, by omega⟩
      rw [hb] at zb hbb
      have hrow := own_stays (HV3.out st u r hu hr) HB.out
      rw [ns_len] at hrow
      obtain ⟨hrl, hre⟩ := HROK.out st r hr
      have hfb := HF.out b (by omega)
      obtain ⟨t, ht⟩ : ∃ t, r[F b]? = some t := ⟨_, List.getElem?_eq_getElem (by omega)⟩
      have htS := hre t (List.mem_of_getElem? ht)
      obtain ⟨Au, cu, hfu⟩ := own_formM hrow
      subst hfu
      have hv2 := own_stays HV2.out HB.out
      obtain ⟨gn, rfl⟩ : ∃ g, An = some ⟨g, 0, none⟩ := by
        rcases hv2.2 with ⟨_, h0⟩ | ⟨g, cap, cur, e, _⟩
        · omega
        · injection e with e1; exact ⟨g, e1⟩
      obtain ⟨gu, rfl⟩ : ∃ g, Au = some ⟨g, 0, none⟩ := by
        rcases hrow.2 with ⟨_, h0⟩ | ⟨g, cap, cur, e, _⟩
        · omega
        · injection e with e1; exact ⟨g, e1⟩
      have c1 : wr.cell? ⟨gn, st, none⟩ = some (.slice (some ⟨gu, 0, none⟩) r.length cu) := (World.ownsRow.cellAt hv2 st (by omega)).trans hu
      have c2 : wr.cell? ⟨gu, F b, none⟩ = some (.int .i64 (t : Int)) := by
        rw [World.ownsRow.cellAt hrow (F b) (by omega)]
        simp [ns, ht]
      have hbx := HBX.out.stays HBW.out
      have c3 := hbx.nxt
      have c4 := hbx.cls b (by omega)
      have hrun := HRUN.out
      have hgd : rows.getD st [] = r := by rw [List.getD_eq_getElem?_getD, hr]; rfl
      have hgt : r.getD (F b) 0 = t := by rw [List.getD_eq_getElem?_getD, ht]; rfl
      have hxd : xs.drop k = (b : Int) :: xs.drop (k + 1) := by
        rw [List.drop_eq_getElem_cons (show k < xs.length by rw [HN.out]; exact hkN)]
        rw [← hb, List.getD_eq_getElem?_getD, List.getElem?_eq_getElem (show k < xs.length by rw [HN.out]; exact hkN)]
        rfl
      rw [hxd, runN, Int.toNat_natCast, hgd, hgt] at hrun
      have HRUN2 := Lib.hid hrun
      obtain ⟨fb, hfbe⟩ : ∃ f, F b = f := ⟨_, rfl⟩
      rw [hfbe] at c2 c4 hfb
      have hrl' : r.length = n := hrl
      obtain ⟨rl, hrle⟩ : ∃ x, r.length = x := ⟨_, rfl⟩
      rw [hrle] at c1 hrl'
      have i0 : (0 : Int) ≤ (k : Int) := by omega
      have i1 : (k : Int) < (N : Int) := by omega
      have i2 : (0 : Int) ≤ (st : Int) := by omega
      have i3 : (st : Int) < (S : Int) := by omega
      have i4 : (0 : Int) ≤ (fb : Int) := by omega
      have i5 : (fb : Int) < (rl : Int) := by omega
      have i6 : (0 : Int) ≤ (b : Int) := by omega
      have i7 : (b : Int) < 256 := by omega
      clear hgd hgt hr hu hb hrow hrl hre ht hv2 hbx hrun hxd hfbe hrle hgb hst
      go_wp2
      go_quiet (fail)
      go_wp2
      go_roundg (N - (k + 1))
      case measure => have := HMK.out; omega
      case rel => exact ⟨t, k + 1, by first | rfl | trivial, by go_num, by omega, rfl, by rw [← HRL.out]; exact htS, HRUN2.out, below_dn HBW.out nq⟩
    · have hkl : k = N := by omega
      subst hkl
      have hst := HST.out
      have hrun := HRUN.out
      rw [List.drop_of_length_le (by rw [HN.out]; exact Nat.le_refl _), runN] at hrun
      obtain ⟨o, ho⟩ : ∃ o, outs[st]? = some o := ⟨_, List.getElem?_eq_getElem (by rw [HOL.out]; exact hst)⟩
      have hor := own_stays HO.out HB.out
      obtain ⟨go, rfl⟩ : ∃ g, Ao = some ⟨g, 0, none⟩ := by
        rcases hor.2 with ⟨_, h0⟩ | ⟨g, cap, cur, e, _⟩
        · omega
        · injection e with e1; exact ⟨g, e1⟩
      obtain ⟨o0, o1⟩ := outC_get outs st o ho
      have d0 : wr.cell? ⟨go, st * 2, none⟩ = some (.int .u64 (o.1 : Int)) := (World.ownsRow.cellAt hor (st * 2) (by omega)).trans o0
      have d1 : wr.cell? ⟨go, st * 2 + 1, none⟩ = some (.int .u64 (o.2 : Int)) := (World.ownsRow.cellAt hor (st * 2 + 1) (by omega)).trans o1
      have hbx := HBX.out.stays HBW.out
      have c4 := hbx.out
      have hbo := HBO.out.far' HBW.out
      obtain ⟨q0, q1⟩ := hbo.cell
      obtain ⟨f2, f3⟩ := hbo.frozen
      have HE := Lib.hid (show outs.getD (runN F rows xs 0) (0, 0) = o by rw [← hrun, List.getD_eq_getElem?_getD, ho]; rfl)
      have i2 : (0 : Int) ≤ (st : Int) := by omega
      have i3 : (st : Int) < (S : Int) := by omega
      have HBOF := Lib.hid hbo
      clear hst hrun ho hor o0 o1 hbx hbo
      go_wp2
      have bF := (HBOF.out.put0 (.int .u64 (o.1 : Int))).put1 (.int .u64 (o.2 : Int))
      obtain ⟨y0, y1⟩ := bF.cell
      refine bodyPost_ret (v := .agg #[.int .u64 (o.1 : Int), .int .u64 (o.2 : Int)]) ?_ rfl ⟨by rw [HE.out], (HB.out.setCell (p := ⟨w.heap.size + 1, 0, none⟩) (Nat.le_succ _) _).setCell (p := ⟨w.heap.size + 1, 1, none⟩) (Nat.le_succ _) _⟩
      simp [results, Try.results16, go_sem, y0, y1]

set_option maxRecDepth 20000 in
set_option maxHeartbeats 2000000 in
theorem rrun_p {w : World} {B B' n c : Nat} {O O' : Nat → Prop} {F : Nat → Nat} {vN vO : Value} {rows : List (List Nat)} {outs : List (Nat × Nat)} {A : Option Addr} {xs : List Int} (hm : OkM F n rows outs) (hN : Nxt w B O vN rows) (hO : Ots w B' O' vO outs) (hx : RdB w w.heap.size A xs) (hby : ∀ k, k < xs.length → 0 ≤ xs.getD k 0 ∧ xs.getD k 0 ≤ 255) (hl : xs.length ≤ 9223372036854775807) :
    Calls Try.prog 17 #[.agg (machC F n vN vO), .slice A xs.length c] w fun e w' => (e = .returned (.agg #[.int .u64 ((outs.getD (runN F rows xs 0) (0, 0)).1 : Int), .int .u64 ((outs.getD (runN F rows xs 0) (0, 0)).2 : Int)])) ∧ Below w.heap.size w w' := by
  obtain ⟨vs, n1, n2, n3, n4⟩ := hN.mem
  obtain ⟨An, cn, hfn⟩ := hN.form
  obtain ⟨Ao, co, hfo⟩ := hO.form
  subst hfn hfo
  obtain ⟨S, hS⟩ : ∃ S, rows.length = S := ⟨_, rfl⟩
  obtain ⟨N, hNN⟩ : ∃ N, xs.length = N := ⟨_, rfl⟩
  have hol := hm.out
  have hor := hO.row
  have hS0 := hm.some
  have hSf := hm.few
  rw [hS] at hol hS0 n2 hSf
  rw [hol] at hor
  rw [hS, hol]
  rw [hNN] at hl ⊢
  have hbx := BoxM.new w 43 F (n : Int) (.slice An S cn) (.slice Ao S co)
  have hb1 : Below w.heap.size w (w.alloc (.cells (machC F n (.slice An S cn) (.slice Ao S co)) 43)) := (Below.refl _ _).alloc (Nat.le_refl _) _
  obtain ⟨w1, hw1⟩ : ∃ w1, w.alloc (.cells (machC F n (.slice An S cn) (.slice Ao S co)) 43) = w1 := ⟨_, rfl⟩
  have hs1 : w1.heap.size = w.heap.size + 1 := by rw [← hw1]; simp
  rw [hw1] at hbx hb1
  have HW1 := Lib.hid hw1
  have HBX := Lib.hid hbx
  have HB1 := Lib.hid hb1
  have HX := Lib.hid hx
  have HBY := Lib.hid hby
  have HN := Lib.hid hNN
  have HRL := Lib.hid hS
  have HVL := Lib.hid n1
  have HV2 := Lib.hid n2
  have HV3 := Lib.hid n3
  have HROK := Lib.hid hm.row
  have HF := Lib.hid hm.cls
  have HOL := Lib.hid hol
  have HO := Lib.hid hor
  clear hw1 hbx hb1 hx hby hNN hS n1 n2 n3 n4 hm hol hor hN hO
  go_enter Try.func17, Try.ntmps17
  go_upto_region 1 with fail
  rw [HW1.out]
  have hbo2 : BoxO (w1.alloc (.cells #[.int .u64 0, .int .u64 0] 51)) (w.heap.size + 1) (.int .u64 0) (.int .u64 0) := BoxO.new w1 _ _ _ hs1
  have hb2 : Below w1.heap.size w1 (w1.alloc (.cells #[.int .u64 0, .int .u64 0] 51)) := (Below.refl _ _).alloc (Nat.le_refl _) _
  generalize w1.alloc (.cells #[.int .u64 0, .int .u64 0] 51) = w2 at *
  have HBX2 := Lib.hid (HBX.out.stays hb2)
  have HB2 := Lib.hid (gro HB1.out hb2)
  have HBO := Lib.hid hbo2
  clear HBX HB1 hbo2 hb2 hs1 HW1
  have HBX := HBX2
  have hS0' : 0 < S := hS0
  go_wp2
  go_loopg [5, 6] N (fun mm s i wr => ∃ (st k : Nat), s = .int .i64 (st : Int) ∧ i = .int .i64 (k : Int) ∧ k ≤ N ∧ mm = N - k ∧ st < S ∧ runN F rows (xs.drop k) st = runN F rows xs 0 ∧ Below w2.heap.size w2 wr)
  case atStart => exact ⟨0, 0, by first | rfl | trivial, by first | rfl | trivial, Nat.zero_le _, by first | rfl | trivial, hS0', rfl, Below.refl _ _⟩
  case round =>
    obtain ⟨st, k, rfl, rfl, hk, hmk, hst, hru, hbw⟩ := hrel
    have HMK := Lib.hid hmk
    have HST := Lib.hid hst
    have HRUN := Lib.hid hru
    have HBW := Lib.hid hbw
    have HB := Lib.hid (HB2.out.trans (hbw.mono HB2.out.size))
    clear hmk hst hru hbw
    by_cases hkN : k < N
    · have hst := HST.out
      obtain ⟨r, hr⟩ : ∃ r, rows[st]? = some r := ⟨_, List.getElem?_eq_getElem (by rw [HRL.out]; exact hst)⟩
      obtain ⟨u, hu⟩ : ∃ u, vs[st]? = some u := ⟨_, List.getElem?_eq_getElem (by rw [HVL.out, HRL.out]; exact hst)⟩
      obtain ⟨gb, off, rfl, hgb, zb⟩ := HX.out k (by rw [HN.out]; exact hkN)
      have zb := (HB.out.cell (p := ⟨gb, off + k, none⟩) hgb).trans zb
      have hbb := HBY.out k (by rw [HN.out]; exact hkN)
      obtain ⟨b, hb⟩ : ∃ b : Nat, xs.getD k 0 = (b : Int) := ⟨(xs.getD k 0).toNat, by omega⟩
      rw [hb] at zb hbb
      have hrow := own_stays (HV3.out st u r hu hr) HB.out
      rw [ns_len] at hrow
      obtain ⟨hrl, hre⟩ := HROK.out st r hr
      have hfb := HF.out b (by omega)
      obtain ⟨t, ht⟩ : ∃ t, r[F b]? = some t := ⟨_, List.getElem?_eq_getElem (by omega)⟩
      have htS := hre t (List.mem_of_getElem? ht)
      obtain ⟨Au, cu, hfu⟩ := own_formM hrow
      subst hfu
      have hv2 := own_stays HV2.out HB.out
      obtain ⟨gn, rfl⟩ : ∃ g, An = some ⟨g, 0, none⟩ := by
        rcases hv2.2 with ⟨_, h0⟩ | ⟨g, cap, cur, e, _⟩
        · omega
        · injection e with e1; exact ⟨g, e1⟩
      obtain ⟨gu, rfl⟩ : ∃ g, Au = some ⟨g, 0, none⟩ := by
        rcases hrow.2 with ⟨_, h0⟩ | ⟨g, cap, cur, e, _⟩
        · omega
        · injection e with e1; exact ⟨g, e1⟩
      have c1 : wr.cell? ⟨gn, st, none⟩ = some (.slice (some ⟨gu, 0, none⟩) r.length cu) := (World.ownsRow.cellAt hv2 st (by omega)).trans hu
      have c2 : wr.cell? ⟨gu, F b, none⟩ = some (.int .i64 (t : Int)) := by
        rw [World.ownsRow.cellAt hrow (F b) (by omega)]
        simp [ns, ht]
      have hbx := HBX.out.stays HBW.out
      have c3 := hbx.nxt
      have c4 := hbx.cls b (by omega)
      have hrun := HRUN.out
      have hgd : rows.getD st [] = r := by rw [List.getD_eq_getElem?_getD, hr]; rfl
      have hgt : r.getD (F b) 0 = t := by rw [List.getD_eq_getElem?_getD, ht]; rfl
      have hxd : xs.drop k = (b : Int) :: xs.drop (k + 1) := by
        rw [List.drop_eq_getElem_cons (show k < xs.length by rw [HN.out]; exact hkN)]
        rw [← hb, List.getD_eq_getElem?_getD, List.getElem?_eq_getElem (show k < xs.length by rw [HN.out]; exact hkN)]
        rfl
      rw [hxd, runN, Int.toNat_natCast, hgd, hgt] at hrun
      have HRUN2 := Lib.hid hrun
      obtain ⟨fb, hfbe⟩ : ∃ f, F b = f := ⟨_, rfl⟩
      rw [hfbe] at c2 c4 hfb
      have hrl' : r.length = n := hrl
      obtain ⟨rl, hrle⟩ : ∃ x, r.length = x := ⟨_, rfl⟩
      rw [hrle] at c1 hrl'
      have i0 : (0 : Int) ≤ (k : Int) := by omega
      have i1 : (k : Int) < (N : Int) := by omega
      have i2 : (0 : Int) ≤ (st : Int) := by omega
      have i3 : (st : Int) < (S : Int) := by omega
      have i4 : (0 : Int) ≤ (fb : Int) := by omega
      have i5 : (fb : Int) < (rl : Int) := by omega
      have i6 : (0 : Int) ≤ (b : Int) := by omega
      have i7 : (b : Int) < 256 := by omega
      clear hgd hgt hr hu hb hrow hrl hre ht hv2 hbx hrun hxd hfbe hrle hgb hst
      go_wp2
      go_quiet (fail)
      go_wp2
      go_roundg (N - (k + 1))
      case measure => have := HMK.out; omega
      case rel => exact ⟨t, k + 1, by first | rfl | trivial, by go_num, by omega, rfl, by rw [← HRL.out]; exact htS, HRUN2.out, below_dn HBW.out nq⟩
    · have hkl : k = N := by omega
      subst hkl
      have hst := HST.out
      have hrun := HRUN.out
      rw [List.drop_of_length_le (by rw [HN.out]; exact Nat.le_refl _), runN] at hrun
      obtain ⟨o, ho⟩ : ∃ o, outs[st]? = some o := ⟨_, List.getElem?_eq_getElem (by rw [HOL.out]; exact hst)⟩
      have hor := own_stays HO.out HB.out
      obtain ⟨go, rfl⟩ : ∃ g, Ao = some ⟨g, 0, none⟩ := by
        rcases hor.2 with ⟨_, h0⟩ | ⟨g, cap, cur, e, _⟩
        · omega
        · injection e with e1; exact ⟨g, e1⟩
      obtain ⟨o0, o1⟩ := outC_get outs st o ho
      have d0 : wr.cell? ⟨go, st * 2, none⟩ = some (.int .u64 (o.1 : Int)) := (World.ownsRow.cellAt hor (st * 2) (by omega)).trans o0
      have d1 : wr.cell? ⟨go, st * 2 + 1, none⟩ = some (.int .u64 (o.2 : Int)) := (World.ownsRow.cellAt hor (st * 2 + 1) (by omega)).trans o1
      have hbx := HBX.out.stays HBW.out
      have c4 := hbx.out
      have hbo := HBO.out.far' HBW.out
      obtain ⟨q0, q1⟩ := hbo.cell
      obtain ⟨f2, f3⟩ := hbo.frozen
      have HE := Lib.hid (show outs.getD (runN F rows xs 0) (0, 0) = o by rw [← hrun, List.getD_eq_getElem?_getD, ho]; rfl)
      have i2 : (0 : Int) ≤ (st : Int) := by omega
      have i3 : (st : Int) < (S : Int) := by omega
      have HBOF := Lib.hid hbo
      clear hst hrun ho hor o0 o1 hbx hbo
      go_wp2
      have bF := (HBOF.out.put0 (.int .u64 (o.1 : Int))).put1 (.int .u64 (o.2 : Int))
      obtain ⟨y0, y1⟩ := bF.cell
      refine bodyPost_ret (v := .agg #[.int .u64 (o.1 : Int), .int .u64 (o.2 : Int)]) ?_ rfl ⟨by rw [HE.out], (HB.out.setCell (p := ⟨w.heap.size + 1, 0, none⟩) (Nat.le_succ _) _).setCell (p := ⟨w.heap.size + 1, 1, none⟩) (Nat.le_succ _) _⟩
      simp [results, Try.results17, go_sem, y0, y1]
end Go.Proofs.Ytnkopcmkanibhaa

/-
  Rules' places in rows that grow, of either type: each one's blocks are not the row's. Laws for other texts; no statement of its own.
-/
namespace Go.Proofs.Ytnkopcmkanibhaa
open Go Go.RowKit

/-- Places that are there in whatever world has the blocks of E as they are. -/
def Solid (w : World) (E : Nat → Prop) (vs v1 : Value) (gm : Nat) (vf : Value) (s : Lay) (x : Str) : Prop :=
  ∀ w', w.heap.size ≤ w'.heap.size → (∀ b, E b → w'.heap[b]? = w.heap[b]?) → NfaIn w' w'.heap.size vs v1 gm vf s x
theorem Solid.of_at {w : World} {C gm : Nat} {vs v1 vf : Value} {s : Lay} {x : Str} (h : NfaAt w C vs v1 gm vf s x) (hl : LInv s) : Solid w (fun b => C ≤ b ∧ b < w.heap.size) vs v1 gm vf s x := fun w' hs hk => by
  have own : ∀ {v : Value} {n e size : Nat} {xs : List Value}, w.ownsRow C e size v n xs → w'.ownsRow C e size v n xs := fun h => own_block h fun b e hb => hk b ⟨(World.ownsRow.lt h b e).1, hb⟩
  obtain ⟨Q, hr⟩ := h.rows
  obtain ⟨fs, h1, h2⟩ := hr.fols
  exact NfaAt.rest (C := C) ⟨⟨Q, own hr.sets, hr.setsQ, ⟨fs, own h1, ⟨h2.len, fun i v l e1 e2 => own (h2.get i v l e1 e2), h2.inQ, h2.apart⟩⟩, hr.folsQ⟩, own h.first, own h.last⟩ hl
theorem own_len {w : World} {B e size n c k : Nat} {A : Option Addr} {xs : List Value} (h : w.ownsRow B e size (.slice A n c) k xs) : n = k := by
  rcases h.2 with ⟨e, e0⟩ | ⟨g, cap, cur, e, _⟩
  · injection e with _ e _
    omega
  · injection e
/-- One rule's places, as five cells. -/
def Elem (w : World) (E : Nat → Prop) (c : List Value) (s : Lay) (x : Str) : Prop :=
  ∃ A1 m1 c1 A2 m2 c2 gm A3 m3 c3, c = nfaC (.slice A1 m1 c1) (.slice A2 m2 c2) (.slice (some ⟨gm, 0, none⟩) s.sets.length s.sets.length) (.slice A3 m3 c3) x.empty ∧ m1 = s.sets.length ∧ m2 = x.first.length ∧ m3 = s.sets.length ∧ Solid w E (.slice A1 m1 c1) (.slice A2 m2 c2) gm (.slice A3 m3 c3) s x
section
variable {w w' : World} {E E' : Nat → Prop} {c : List Value} {s : Lay} {x : Str} {ty tys : TypeId} {B : Nat} {v : Value} {L : List (Lay × Str)}
theorem Elem.keep (h : Elem w E c s x) (hs : w.heap.size ≤ w'.heap.size) (hk : ∀ b, E b → w'.heap[b]? = w.heap[b]?) : Elem w' E c s x := by
  obtain ⟨A1, m1, c1, A2, m2, c2, gm, A3, m3, c3, h1, h2, h3, h4, h5⟩ := h
  exact ⟨A1, m1, c1, A2, m2, c2, gm, A3, m3, c3, h1, h2, h3, h4, fun w'' hs' hk' => h5 w'' (Nat.le_trans hs hs') fun b e => (hk' b e).trans (hk b e)⟩
theorem Elem.wide (h : Elem w E c s x) (he : ∀ b, E b → E' b) : Elem w E' c s x := by
  obtain ⟨A1, m1, c1, A2, m2, c2, gm, A3, m3, c3, h1, h2, h3, h4, h5⟩ := h
  exact ⟨A1, m1, c1, A2, m2, c2, gm, A3, m3, c3, h1, h2, h3, h4, fun w'' hs' hk' => h5 w'' hs' fun b e => hk' b (he b e)⟩
theorem Elem.of_at {C gm m1 c1 m2 c2 m3 c3 : Nat} {A1 A2 A3 : Option Addr} (h : NfaAt w C (.slice A1 m1 c1) (.slice A2 m2 c2) gm (.slice A3 m3 c3) s x) (hl : LInv s) :
    Elem w (fun b => C ≤ b ∧ b < w.heap.size) (nfaC (.slice A1 m1 c1) (.slice A2 m2 c2) (.slice (some ⟨gm, 0, none⟩) s.sets.length s.sets.length) (.slice A3 m3 c3) x.empty) s x := by
  obtain ⟨Q, hr⟩ := h.rows
  obtain ⟨fs, h1, h2⟩ := hr.fols
  have e2 := own_len h.first
  have e3 := own_len h1
  rw [hl.len] at e3
  exact ⟨A1, m1, c1, A2, m2, c2, gm, A3, m3, c3, rfl, own_len hr.sets, by simpa [ns] using e2, e3, Solid.of_at h hl⟩
theorem Elem.one (h : Elem w E c s x) : c.length = 5 ∧ ∀ u ∈ c, u.oneCell' = true := by
  obtain ⟨A1, m1, c1, A2, m2, c2, gm, A3, m3, c3, rfl, _⟩ := h
  refine ⟨rfl, fun u hu => ?_⟩
  simp only [nfaC, List.mem_cons, List.not_mem_nil, or_false] at hu
  rcases hu with rfl | rfl | rfl | rfl | rfl <;> rfl
/-- A row of rules' places; E: the blocks of what it holds. -/
def NfaRow (ty : TypeId) (w : World) (B : Nat) (v : Value) (L : List (Lay × Str)) (E : Nat → Prop) : Prop :=
  (∀ b, E b → b < w.heap.size ∧ v.ownBlock ≠ some b) ∧ ∃ cs : List (List Value), cs.length = L.length ∧ w.ownsRow B ty 5 v L.length cs.flatten ∧ ∀ (i : Nat) c s x, cs[i]? = some c → L[i]? = some (s, x) → Elem w E c s x
theorem NfaRow.nil (ty : TypeId) (w : World) (B : Nat) : NfaRow ty w B (.slice none 0 0) [] fun _ => False :=
  ⟨fun b e => e.elim, [], rfl, World.ownsRow_nil w B _ 5, fun i c s x h => by simp at h⟩
theorem NfaRow.keep (h : NfaRow ty w B v L E) (hs : w.heap.size ≤ w'.heap.size) (hv : ∀ b, v.ownBlock = some b → w'.heap[b]? = w.heap[b]?) (hk : ∀ b, E b → w'.heap[b]? = w.heap[b]?) : NfaRow ty w' B v L E := by
  obtain ⟨h1, cs, h2, h3, h4⟩ := h
  exact ⟨fun b e => ⟨Nat.lt_of_lt_of_le (h1 b e).1 hs, (h1 b e).2⟩, cs, h2, own_block h3 fun b e _ => hv b e, fun i c s x e1 e2 => (h4 i c s x e1 e2).keep hs hk⟩
theorem NfaRow.lt (h : NfaRow ty w B v L E) {b : Nat} (hb : v.ownBlock = some b) : B ≤ b ∧ b < w.heap.size := by
  obtain ⟨h1, cs, h2, h3, h4⟩ := h
  exact World.ownsRow.lt h3 b hb
theorem NfaRow.kind (h : NfaRow ty w B v L E) {b : Nat} (hb : v.ownBlock = some b) : ∃ cur, w.heap[b]? = some (.cells cur ty (0, 0)) := by
  obtain ⟨h1, cs, h2, h3, h4⟩ := h
  exact own_kind h3 hb
theorem NfaRow.stays (h : NfaRow ty w B v L E) (hb : Below w.heap.size w w') : NfaRow ty w' B v L E := h.keep hb.size (fun b e => hb.block b (h.lt e).2) fun b e => hb.block b (h.1 b e).1
theorem NfaRow.wide (h : NfaRow ty w B v L E) (he : ∀ b, E b → E' b) (hE : ∀ b, E' b → b < w.heap.size ∧ v.ownBlock ≠ some b) : NfaRow ty w B v L E' := by
  obtain ⟨h1, cs, h2, h3, h4⟩ := h
  exact ⟨hE, cs, h2, h3, fun i c s x e1 e2 => (h4 i c s x e1 e2).wide he⟩
theorem NfaRow.form (h : NfaRow ty w B v L E) : ∃ A c, v = .slice A L.length c ∧ L.length ≤ c := by
  obtain ⟨h1, cs, h2, h3, h4⟩ := h
  rcases h3.2 with ⟨rfl, h0⟩ | ⟨g, cap, cur, rfl, _, _, hc, _⟩
  · exact ⟨none, 0, by rw [h0], by omega⟩
  · exact ⟨_, _, rfl, hc⟩
theorem flat_get : ∀ (cs : List (List Value)) (i q : Nat) (c : List Value), (∀ d ∈ cs, d.length = 5) → cs[i]? = some c → q < 5 → cs.flatten[i * 5 + q]? = c[q]?
  | [], i, q, c, hl, h, hq => by simp at h
  | d :: cs, 0, q, c, hl, h, hq => by
    simp at h
    subst h
    rw [List.flatten_cons, List.getElem?_append_left (by rw [hl d (List.mem_cons_self ..)]; omega)]
    simp
  | d :: cs, i + 1, q, c, hl, h, hq => by
    have ih := flat_get cs i q c (fun d' hd => hl d' (List.mem_cons_of_mem _ hd)) (by simpa using h) hq
    have hd := hl d (List.mem_cons_self ..)
    rw [List.flatten_cons, List.getElem?_append_right (by rw [hd]; omega), hd, show (i + 1) * 5 + q - 5 = i * 5 + q by omega]
    exact ih
/-- Where more blocks are there, and the ones that are to be held are new. -/
theorem NfaRow.fresh {E2 : Nat → Prop} {n : Nat} (h : NfaRow ty w B v L E) (hb : Below w.heap.size w w') (hn : w.heap.size ≤ n) (he : ∀ b, E b → E2 b) (h2 : ∀ b, E2 b → E b ∨ (w.heap.size ≤ b ∧ b < w'.heap.size)) : NfaRow ty w' B v L E2 :=
  (h.stays hb).wide he fun b e => (h2 b e).elim (fun e' => ⟨Nat.lt_of_lt_of_le (h.1 b e').1 hb.size, (h.1 b e').2⟩) fun e' => ⟨e'.2, fun e2 => by have := (h.lt e2).2; omega⟩
/-- Where another row has grown, of another type. -/
theorem NfaRow.off {ty2 : TypeId} {v2 : Value} {L2 : List (Lay × Str)} (h : NfaRow ty w B v L E) (h2 : NfaRow ty2 w B v2 L2 E) (hne : ty ≠ ty2) (hg : w.grownBy w' v2.ownBlock) : NfaRow ty w' B v L E :=
  h.keep hg.size (fun b e => hg.block b (h.lt e).2 fun e' => by
    obtain ⟨c1, k1⟩ := h.kind e
    obtain ⟨c2, k2⟩ := h2.kind e'.symm
    exact kind_apart k1 k2 hne rfl) fun b e => hg.block b (h.1 b e).1 fun e' => (h2.1 b e).2 e'.symm
theorem cells_of {b : Nat} {cs : Array Value} {t : TypeId} (h : HasO w b (.cells cs t (0, 0))) (j : Nat) (u : Value) (hu : cs.toList[j]? = some u) : w.cell? ((⟨b, 0, none⟩ : Addr).add j) = some u := by
  rw [Addr.add_lit, Nat.zero_add, cell_of_row w b j _ _ (0, 0) h]
  simpa using hu
/-- .. read. -/
theorem NfaRow.rd (h : NfaRow ty w B v L E) {A : Option Addr} {n c : Nat} (hv : v = .slice A n c) : RdNfas w w.heap.size A L := fun i s x hi => by
  obtain ⟨h1, cs, h2, h3, h4⟩ := h
  have hl : i < L.length := (List.getElem?_eq_some_iff.1 hi).1
  obtain ⟨d, hd⟩ : ∃ d, cs[i]? = some d := ⟨_, List.getElem?_eq_getElem (by omega)⟩
  have hall : ∀ d ∈ cs, d.length = 5 := fun d hd => by
    obtain ⟨j, hj⟩ := List.getElem?_of_mem hd
    obtain ⟨⟨s', x'⟩, hx⟩ : ∃ z, L[j]? = some z := ⟨_, List.getElem?_eq_getElem (by have := (List.getElem?_eq_some_iff.1 hj).1; omega)⟩
    exact (h4 j d s' x' hj hx).one.1
  have he := h4 i d s x hd hi
  obtain ⟨A1, m1, c1, A2, m2, c2, gm, A3, m3, c3, rfl, e1, e2, e3, e4⟩ := he
  rcases h3.2 with ⟨_, h0⟩ | ⟨g, cap, cur, e, hB, hg, _⟩
  · omega
  · rw [e] at hv h3
    injection hv with f1 f2 f3
    refine ⟨g, 0, A1, m1, c1, A2, m2, c2, gm, A3, m3, c3, f1.symm, lt_of_some hg, fun q u hu => ?_, e1, e2, e3, e4 w (Nat.le_refl _) fun _ _ => rfl⟩
    have hq : q < 5 := (List.getElem?_eq_some_iff.1 hu).1
    rw [Nat.zero_add, World.ownsRow.cellAt h3 (i * 5 + q) (by omega), flat_get cs i q _ hall hd hq]
    exact hu
/-- A type of rules' places: five cells. -/
structure NfaTy (ty tys : TypeId) : Prop where
  und : Try.prog.underlying tys = some (.slice ty)
  info : (Try.prog.info? ty).map (fun i => (i.zero, i.size, i.bytes)) = some (some (.agg #[.slice none 0 0, .slice none 0 0, .slice none 0 0, .slice none 0 0, .bool false]), 5, 104)
theorem nfa_push (hT : NfaTy ty tys) (h : NfaRow ty w B v L E) (hB : B ≤ w.heap.size) (hl : L.length ≤ 1000) (he : Elem w E c s x) (td : TypeId) (ad : Addr) (cp : Nat) (hc : ∀ (j : Nat) u, c[j]? = some u → w.cell? (ad.add j) = some u) :
    ∃ v' w', (Builtin.append_ #[tys, tys] td #[v, .slice (some ad) 1 cp]).run Try.prog w = .ok v' w' ∧ NfaRow ty w' B v' (L ++ [(s, x)]) E ∧ w.grownBy w' v.ownBlock ∧ (v'.ownBlock = v.ownBlock ∨ v'.ownBlock = some w.heap.size) := by
  obtain ⟨h1, cs, h2, h3, h4⟩ := h
  obtain ⟨i0, hi, hz0, hz1, hz2⟩ := info_parts hT.info
  obtain ⟨v', w', hr, h5, h6, _, h7⟩ := run_append_own_at (P := Try.prog) w B tys td ty i0 _ 5 104 hT.und hi hz0 hz1 hz2 rfl (by decide) v L.length cs.flatten h3 ad 1 cp c he.one.1 hc he.one.2 (by unfold maxLen; omega) (by omega) hB
  have hk : ∀ b, E b → w'.heap[b]? = w.heap[b]? := fun b e => h6.block b (h1 b e).1 fun e' => (h1 b e).2 e'.symm
  refine ⟨v', w', hr, ⟨fun b e => ⟨Nat.lt_of_lt_of_le (h1 b e).1 h6.size, fun e' => ?_⟩, cs ++ [c], by simp [h2], by rw [List.flatten_append, List.length_append]; simpa using h5, fun i c' s' x' e1 e2 => ?_⟩, h6, h7⟩
  · rcases h7 with e7 | e7
    · exact (h1 b e).2 (e7 ▸ e')
    · rw [e7] at e'
      injection e' with e'
      have := (h1 b e).1
      omega
  · by_cases hi' : i < L.length
    · rw [List.getElem?_append_left hi'] at e2
      rw [List.getElem?_append_left (by omega)] at e1
      exact (h4 i c' s' x' e1 e2).keep h6.size hk
    · have e0 : i = L.length := by
        have := (List.getElem?_eq_some_iff.1 e2).1
        simp at this
        omega
      subst e0
      rw [List.getElem?_append_right (Nat.le_refl _)] at e2
      rw [List.getElem?_append_right (by omega)] at e1
      simp [h2] at e1 e2
      obtain ⟨rfl, rfl⟩ := e2
      subst e1
      exact he.keep h6.size hk
theorem wpList_nfa (hT : NfaTy ty tys) {ops : Array Oper} {rest : List Oper} {o : Oper} {a : Act} {Q : Exit → Act → World → Prop} (hgd : o.guard = none) (s0 x0 : Operand)
    (ho : o.op = .call { callee := .builtin .append, args := #[s0, x0], argTypes := #[tys, tys] }) (hs : a.eval s0 = v) (h : NfaRow ty w B v L E) (hB : B ≤ w.heap.size) (hl : L.length ≤ 1000) (he : Elem w E c s x)
    (ad : Addr) (cp : Nat) (hx : a.eval x0 = .slice (some ad) 1 cp) (hc : ∀ (j : Nat) u, c[j]? = some u → w.cell? (ad.add j) = some u)
    (hk : ∀ v' w', NfaRow ty w' B v' (L ++ [(s, x)]) E → w.grownBy w' v.ownBlock → (v'.ownBlock = v.ownBlock ∨ v'.ownBlock = some w.heap.size) → wpList Try.prog ops Q rest (a.put o.dst v') w') : wpList Try.prog ops Q (o :: rest) a w := by
  obtain ⟨v', w', hr, h2, h3, h4⟩ := nfa_push hT h hB hl he o.type ad cp hc
  refine wpList_plain hgd fun _ hK => ?_
  unfold Oper.wp execOp
  simp only [ho, resolve, invoke, builtin, Sem.run_bind, Sem.run_pure, Result.andThen_ok, List.map_toArray, List.map_cons, List.map_nil, hs, hx, hr]
  exact hK _ _ (hk v' w' h2 h3 h4)
end
/-- Where a row of whatever else has grown. -/
theorem NfaRow.off2 {w w' : World} {E : Nat → Prop} {ty e2 : TypeId} {B B2 size n : Nat} {v v2 : Value} {L : List (Lay × Str)} {xs : List Value} (h : NfaRow ty w B v L E) (h2 : w.ownsRow B2 e2 size v2 n xs) (hne : ty ≠ e2) (hE : ∀ b, E b → v2.ownBlock ≠ some b) (hg : w.grownBy w' v2.ownBlock) : NfaRow ty w' B v L E :=
  h.keep hg.size (fun b e => hg.block b (h.lt e).2 fun e' => by
    obtain ⟨c1, k1⟩ := h.kind e
    obtain ⟨c2, k2⟩ := own_kind h2 e'.symm
    exact kind_apart k1 k2 hne rfl) fun b e => hg.block b (h.1 b e).1 fun e' => hE b e e'.symm
theorem NfaRow.off3 {w w' : World} {E : Nat → Prop} {ty e2 : TypeId} {B B2 size n : Nat} {v v2 : Value} {L : List (Lay × Str)} {xs : List Value} (h : w.ownsRow B2 e2 size v2 n xs) (h2 : NfaRow ty w B v L E) (hne : ty ≠ e2) (hg : w.grownBy w' v.ownBlock) : w'.ownsRow B2 e2 size v2 n xs :=
  own_block h fun b e hb => hg.block b hb fun e' => by
    obtain ⟨c1, k1⟩ := h2.kind e'.symm
    obtain ⟨c2, k2⟩ := own_kind h e
    exact kind_apart k1 k2 hne rfl
/-- A truth more. -/
theorem wpList_truth {w : World} {ops : Array Oper} {rest : List Oper} {o : Oper} {a : Act} {Q : Exit → Act → World → Prop} (hgd : o.guard = none) (s0 x0 : Operand)
    (ho : o.op = .call { callee := .builtin .append, args := #[s0, x0], argTypes := #[23, 23] }) {B n : Nat} {v : Value} {xs : List Value} (hs : a.eval s0 = v) (h : w.ownsRow B 4 1 v n xs) (hB : B ≤ w.heap.size) (hl : n ≤ 1000) (b : Bool)
    (ad : Addr) (cp : Nat) (hx : a.eval x0 = .slice (some ad) 1 cp) (hc : ∀ (j : Nat) u, [Value.bool b][j]? = some u → w.cell? (ad.add j) = some u)
    (hk : ∀ v' w', w'.ownsRow B 4 1 v' (n + 1) (xs ++ [.bool b]) → w.grownBy w' v.ownBlock → (v'.ownBlock = v.ownBlock ∨ v'.ownBlock = some w.heap.size) → wpList Try.prog ops Q rest (a.put o.dst v') w') : wpList Try.prog ops Q (o :: rest) a w := by
  obtain ⟨i0, hi, hz0, hz1, hz2⟩ := info_parts Try.infoBool
  obtain ⟨v', w', hr, h5, h6, _, h7⟩ := run_append_own_at (P := Try.prog) w B 23 o.type 4 i0 _ 1 1 Try.underlying23 hi hz0 hz1 hz2 rfl (by decide) v n xs h ad 1 cp [.bool b] rfl hc (fun u hu => by simp at hu; subst hu; rfl) (by unfold maxLen; omega) (by omega) hB
  refine wpList_plain hgd fun _ hK => ?_
  unfold Oper.wp execOp
  simp only [ho, resolve, invoke, builtin, Sem.run_bind, Sem.run_pure, Result.andThen_ok, List.map_toArray, List.map_cons, List.map_nil, hs, hx, hr]
  exact hK _ _ (hk v' w' h5 h6 h7)
theorem nfaTyP : NfaTy 87 30 := ⟨Try.underlying30, by kernel_rfl⟩
theorem nfaTyD : NfaTy 84 31 := ⟨Try.underlying31, by kernel_rfl⟩
end Go.Proofs.Ytnkopcmkanibhaa

/-
  A pattern laid out as the document says it: flat, first, last, follow by form; that the program's layout has the same. Plain mathematics; no statement of its own.
-/
namespace Go.Proofs.Ytnkopcmkanibhaa
open Go

def restT (k : T) : Nat → T
  | 0 => .mk 2 noneP 0 0 []
  | d + 1 => .mk 5 noneP 0 0 [.mk 2 noneP 0 0 [k, restT k d]]
mutual
/-- Laid out: copies written out; 5: what may be left out. -/
def flatT : T → T
  | .mk op p lo hi l => if op = 4 then .mk 2 noneP 0 0 (List.replicate lo.toNat (flatHead l) ++ [restT (flatHead l) (hi - lo).toNat]) else .mk op p 0 0 (flatL l)
def flatL : List T → List T
  | [] => []
  | t :: ts => flatT t :: flatL ts
def flatHead : List T → T
  | [] => .mk 0 noneP 0 0 []
  | t :: _ => flatT t
end
mutual
def emptyT : T → Bool
  | .mk op p lo hi l => if op = 1 ∨ op = 5 then decide (op = 5) else if op = 2 then allE l else anyE l
def allE : List T → Bool
  | [] => true
  | t :: ts => emptyT t && allE ts
def anyE : List T → Bool
  | [] => false
  | t :: ts => emptyT t || anyE ts
end
mutual
def plT : T → Nat
  | .mk op p lo hi l => (if op = 1 then 1 else 0) + plTL l
def plTL : List T → Nat
  | [] => 0
  | t :: ts => plT t + plTL ts
end
mutual
/-- First. -/
def fstT : T → Nat → List Nat
  | .mk op p lo hi l => fun at_ => if op = 1 then [at_] else if op = 2 then catF l at_ else altF l at_
def catF : List T → Nat → List Nat
  | [] => fun _ => []
  | t :: ts => fun at_ => fstT t at_ ++ (if emptyT t then catF ts (at_ + plT t) else [])
def altF : List T → Nat → List Nat
  | [] => fun _ => []
  | t :: ts => fun at_ => fstT t at_ ++ altF ts (at_ + plT t)
end
mutual
/-- Last. -/
def lstT : T → Nat → List Nat
  | .mk op p lo hi l => fun at_ => if op = 1 then [at_] else if op = 2 then catB l at_ else altB l at_
def catB : List T → Nat → List Nat
  | [] => fun _ => []
  | t :: ts => fun at_ => catB ts (at_ + plT t) ++ (if allE ts then lstT t at_ else [])
def altB : List T → Nat → List Nat
  | [] => fun _ => []
  | t :: ts => fun at_ => altB ts (at_ + plT t) ++ lstT t at_
end
mutual
/-- Who follows whom. -/
def folT : T → Nat → Nat → Nat → Prop
  | .mk op p lo hi l => fun at_ q r => op ≠ 1 ∧ if op = 2 then catFol l at_ q r else altFol l at_ q r
def catFol : List T → Nat → Nat → Nat → Prop
  | [] => fun _ _ _ => False
  | t :: ts => fun at_ q r => folT t at_ q r ∨ catFol ts (at_ + plT t) q r ∨ (q ∈ lstT t at_ ∧ r ∈ catF ts (at_ + plT t))
def altFol : List T → Nat → Nat → Nat → Prop
  | [] => fun _ _ _ => False
  | t :: ts => fun at_ q r => folT t at_ q r ∨ altFol ts (at_ + plT t) q r
end
mutual
/-- The sets of its places. -/
def setT : T → List (Nat → Bool)
  | .mk op p lo hi l => (if op = 1 then [p] else []) ++ setTL l
def setTL : List T → List (Nat → Bool)
  | [] => []
  | t :: ts => setT t ++ setTL ts
end

/-- What f lays out behind s is the flat pattern k. -/
def Same (f : Lay → Lay × Str) (k : T) : Prop := ∀ s, LInv s →
  (f s).1.sets = s.sets ++ setT k ∧ (f s).2.empty = emptyT k ∧ (∀ p, p ∈ (f s).2.first ↔ p ∈ fstT k s.sets.length) ∧ (∀ p, p ∈ (f s).2.last ↔ p ∈ lstT k s.sets.length) ∧
    (∀ q r, fol (f s).1 q r ↔ fol s q r ∨ folT k s.sets.length q r)
theorem setT_len_of {f : Lay → Lay × Str} {k : T} (h : Same f k) (hk : plT k = (setT k).length) (s : Lay) (hs : LInv s) : (f s).1.sets.length = s.sets.length + plT k := by
  rw [(h s hs).1, List.length_append, hk]
mutual
theorem plT_len : ∀ t : T, plT t = (setT t).length
  | .mk op p lo hi l => by
    simp only [plT, setT, List.length_append, plTL_len l]
    split <;> simp
theorem plTL_len : ∀ l : List T, plTL l = (setTL l).length
  | [] => rfl
  | t :: ts => by simp only [plTL, setTL, List.length_append, plT_len t, plTL_len ts]
end

theorem joinX_first (x y : Str) (p : Nat) : p ∈ (joinX x y).first ↔ p ∈ x.first ∨ (x.empty = true ∧ p ∈ y.first) := by
  unfold joinX
  cases x.empty <;> simp
theorem joinX_last (x y : Str) (p : Nat) : p ∈ (joinX x y).last ↔ p ∈ y.last ∨ (y.empty = true ∧ p ∈ x.last) := by
  unfold joinX
  cases y.empty <;> simp [or_comm]
/-- What a layout is beside s and x, when l is laid out behind. -/
structure CatSame (s s' : Lay) (x x' : Str) (l : List T) : Prop where
  inv : LInv s'
  sets : s'.sets = s.sets ++ setTL l
  empty : x'.empty = (x.empty && allE l)
  first : ∀ p, p ∈ x'.first ↔ p ∈ x.first ∨ (x.empty = true ∧ p ∈ catF l s.sets.length)
  last : ∀ p, p ∈ x'.last ↔ p ∈ catB l s.sets.length ∨ (allE l = true ∧ p ∈ x.last)
  fols : ∀ q r, fol s' q r ↔ fol s q r ∨ catFol l s.sets.length q r ∨ (q ∈ x.last ∧ r ∈ catF l s.sets.length)
theorem CatSame.nil {s : Lay} {x : Str} (h : LInv s) : CatSame s s x x [] :=
  ⟨h, by simp [setTL], by simp [allE], fun p => by simp [catF], fun p => by simp [catB, allE], fun q r => by simp [catFol, catF]⟩
/-- One more, joined ahead of the rest. -/
theorem CatSame.cons {s s' : Lay} {x x' y : Str} {s1 : Lay} {k : T} {l : List T} (hl : LInv s1) (hx : ∀ p ∈ x.last, p < s1.sets.length)
    (h1 : s1.sets = s.sets ++ setT k) (h2 : y.empty = emptyT k) (h3 : ∀ p, p ∈ y.first ↔ p ∈ fstT k s.sets.length) (h4 : ∀ p, p ∈ y.last ↔ p ∈ lstT k s.sets.length) (h5 : ∀ q r, fol s1 q r ↔ fol s q r ∨ folT k s.sets.length q r)
    (h : CatSame (joinL s1 x y) s' (joinX x y) x' l) : CatSame s s' x x' (k :: l) := by
  have hat : (joinL s1 x y).sets.length = s.sets.length + plT k := by show s1.sets.length = _; rw [h1, List.length_append, plT_len]
  have he : (joinX x y).empty = (x.empty && emptyT k) := by rw [← h2]; rfl
  refine ⟨h.inv, ?_, ?_, fun p => ?_, fun p => ?_, fun q r => ?_⟩
  · rw [h.sets]
    show s1.sets ++ setTL l = _
    rw [h1, setTL, List.append_assoc]
  · rw [h.empty, he, allE, Bool.and_assoc]
  · rw [h.first, joinX_first, h3, he, hat, catF]
    cases x.empty <;> cases emptyT k <;> simp [or_assoc]
  · rw [h.last, joinX_last, h4, h2, hat, catB, allE]
    cases allE l <;> cases emptyT k <;> simp [or_assoc]
  · rw [h.fols, joinL_fol hl hx, h5, joinX_last, h2, h3, h4, hat, catFol, catF]
    cases emptyT k <;> simp [or_assoc, or_left_comm, or_comm, and_or_left, or_and_right]

/-- What is known of any f that lays out a pattern. -/
structure Laid (f : Lay → Lay × Str) (k : T) : Prop where
  same : Same f k
  inv : ∀ s, LInv s → LInv (f s).1
  le : ∀ s, LInv s → s.sets.length ≤ (f s).1.sets.length
  first : ∀ s, LInv s → ∀ p ∈ (f s).2.first, p < (f s).1.sets.length
  last : ∀ s, LInv s → ∀ p ∈ (f s).2.last, p < (f s).1.sets.length
theorem laid_of {f : Lay → Lay × Str} {k : T} {R : Nat → Nat → Prop} (h : Same f k) (hl : Lays [] f R) : Laid f k :=
  ⟨h, fun s hs => (hl s hs).1.inv, fun s hs => (hl s hs).1.le, fun s hs p hp => ((hl s hs).2.first p hp).2, fun s hs p hp => ((hl s hs).2.last p hp).2⟩
section
variable {f g : Lay → Lay × Str} {k r : T} {s s' : Lay} {x x' : Str} {l : List T}
theorem Laid.join (h : Laid f k) (hs : LInv s) (hx : ∀ p ∈ x.last, p < s.sets.length) : LInv (joinL (f s).1 x (f s).2) ∧ (∀ p ∈ (joinX x (f s).2).last, p < (joinL (f s).1 x (f s).2).sets.length) ∧ ∀ p ∈ x.last, p < (f s).1.sets.length := by
  have hle := h.le s hs
  have h3 : ∀ p ∈ x.last, p < (f s).1.sets.length := fun p hp => by have := hx p hp; omega
  refine ⟨(joinL_more (n := 0) (h.inv s hs) (fun p hp => ⟨Nat.zero_le _, h3 p hp⟩) (h.first s hs)).1, fun p hp => ?_, h3⟩
  show p < (f s).1.sets.length
  rcases (joinX_last _ _ _).1 hp with h' | ⟨_, h'⟩
  · exact h.last s hs p h'
  · exact h3 p h'
theorem Laid.cons (h : Laid f k) (hs : LInv s) (hx : ∀ p ∈ x.last, p < s.sets.length) (hc : CatSame (joinL (f s).1 x (f s).2) s' (joinX x (f s).2) x' l) : CatSame s s' x x' (k :: l) := by
  obtain ⟨h1, h2, h3, h4, h5⟩ := h.same s hs
  exact hc.cons (h.inv s hs) (h.join hs hx).2.2 h1 h2 h3 h4 h5
/-- So many copies, and then one more of another kind. -/
theorem copies_same (h : Laid f k) (hg : Laid g r) : ∀ (m : Nat) (s : Lay) (x : Str), LInv s → (∀ p ∈ x.last, p < s.sets.length) →
    CatSame s (joinL (g (copies f m s x).1).1 (copies f m s x).2 (g (copies f m s x).1).2) x (joinX (copies f m s x).2 (g (copies f m s x).1).2) (List.replicate m k ++ [r])
  | 0, s, x, hs, hx => hg.cons hs hx (CatSame.nil (hg.join hs hx).1)
  | m + 1, s, x, hs, hx => by
    have hj := h.join hs hx
    exact h.cons hs hx (copies_same h hg m _ _ hj.1 hj.2.1)
theorem join_nothing (s : Lay) (y : Str) : joinL s .nothing y = s ∧ joinX .nothing y = y := by
  constructor
  · rfl
  · unfold joinX Str.nothing
    cases y with
    | mk a b e => cases e <;> simp
/-- A Cat that was laid out from nothing. -/
theorem same_cat (p : Nat → Bool) (lo hi : Int) (h : ∀ s, LInv s → CatSame s (f s).1 .nothing (f s).2 l) : Same f (.mk 2 p lo hi l) := fun s hs => by
  have hc := h s hs
  refine ⟨by rw [hc.sets]; simp [setT], by rw [hc.empty]; simp [emptyT, Str.nothing], fun q => ?_, fun q => ?_, fun q r => ?_⟩
  · rw [hc.first]; simp [fstT, Str.nothing]
  · rw [hc.last]; simp [lstT, Str.nothing]
  · rw [hc.fols]; simp [folT, Str.nothing]
end
theorem within_same {u : T} (hwf : WF u) (h : Same (layP u) (flatT u)) : ∀ d, Same (within (layP u) d) (restT (flatT u) d)
  | 0 => fun s hs => ⟨by simp [within, restT, setT, setTL], by simp [within, restT, emptyT, allE, Str.nothing], fun p => by simp [within, restT, fstT, catF, Str.nothing], fun p => by simp [within, restT, lstT, catB, Str.nothing], fun q r => by simp [within, restT, folT, catFol]⟩
  | d + 1 => fun s hs => by
    have hf := laid_of h (lays_wf (xs := []) hwf)
    have hw := laid_of (within_same hwf h d) (lays_within (xs := []) (lays_wf hwf) d)
    have hj := hf.join (x := .nothing) hs (fun p hp => by simp [Str.nothing] at hp)
    obtain ⟨e1, e2⟩ := join_nothing (layP u s).1 (layP u s).2
    rw [e1, e2] at hj
    have hc : CatSame s (joinL (within (layP u) d (layP u s).1).1 (layP u s).2 (within (layP u) d (layP u s).1).2) .nothing (joinX (layP u s).2 (within (layP u) d (layP u s).1).2) [flatT u, restT (flatT u) d] := by
      refine hf.cons hs (fun p hp => by simp [Str.nothing] at hp) ?_
      rw [e1, e2]
      exact hw.cons hj.1 hj.2.1 (CatSame.nil (hw.join hj.1 hj.2.1).1)
    refine ⟨?_, ?_, fun p => ?_, fun p => ?_, fun q r => ?_⟩
    · show (joinL (within (layP u) d (layP u s).1).1 (layP u s).2 (within (layP u) d (layP u s).1).2).sets = _
      rw [hc.sets]; simp [restT, setT, setTL]
    · show true = _
      simp [restT, emptyT]
    · show p ∈ (joinX (layP u s).2 (within (layP u) d (layP u s).1).2).first ↔ _
      rw [hc.first]; simp [restT, fstT, altF, Str.nothing]
    · show p ∈ (joinX (layP u s).2 (within (layP u) d (layP u s).1).2).last ↔ _
      rw [hc.last]; simp [restT, lstT, altB, Str.nothing]
    · show fol (joinL (within (layP u) d (layP u s).1).1 (layP u s).2 (within (layP u) d (layP u s).1).2) q r ↔ _
      rw [hc.fols]; simp [restT, folT, altFol, Str.nothing]
theorem cat_same : ∀ (l : List T), (∀ t ∈ l, WF t ∧ Same (layP t) (flatT t)) → ∀ (s : Lay) (x : Str), LInv s → (∀ p ∈ x.last, p < s.sets.length) → CatSame s (catP l s x).1 x (catP l s x).2 (flatL l)
  | [], _, s, x, hs, _ => by simp only [catP, flatL]; exact CatSame.nil hs
  | t :: ts, h, s, x, hs, hx => by
    have hf := laid_of (h t (by simp)).2 (lays_wf (xs := []) (h t (by simp)).1)
    have hj := hf.join hs hx
    simp only [catP, flatL]
    exact hf.cons hs hx (cat_same ts (fun u hu => h u (by simp [hu])) _ _ hj.1 hj.2.1)
/-- Alternatives beside each other. -/
theorem alt_same : ∀ (l : List T), (∀ t ∈ l, WF t ∧ Same (layP t) (flatT t)) → ∀ (s : Lay) (x : Str), LInv s →
    LInv (altP l s x).1 ∧ (altP l s x).1.sets = s.sets ++ setTL (flatL l) ∧ (altP l s x).2.empty = (x.empty || anyE (flatL l)) ∧ (∀ p, p ∈ (altP l s x).2.first ↔ p ∈ x.first ∨ p ∈ altF (flatL l) s.sets.length) ∧
      (∀ p, p ∈ (altP l s x).2.last ↔ p ∈ x.last ∨ p ∈ altB (flatL l) s.sets.length) ∧ ∀ q r, fol (altP l s x).1 q r ↔ fol s q r ∨ altFol (flatL l) s.sets.length q r
  | [], _, s, x, hs => by simp [altP, flatL, setTL, anyE, altF, altB, altFol, hs]
  | t :: ts, h, s, x, hs => by
    have hf := laid_of (h t (by simp)).2 (lays_wf (xs := []) (h t (by simp)).1)
    obtain ⟨h1, h2, h3, h4, h5⟩ := hf.same s hs
    obtain ⟨i1, i2, i3, i4, i5, i6⟩ := alt_same ts (fun u hu => h u (by simp [hu])) (layP t s).1 (altX x (layP t s).2) (hf.inv s hs)
    have hat : (layP t s).1.sets.length = s.sets.length + plT (flatT t) := by rw [h1, List.length_append, plT_len]
    simp only [altP, flatL]
    refine ⟨i1, ?_, ?_, fun p => ?_, fun p => ?_, fun q r => ?_⟩
    · rw [i2, h1, setTL, List.append_assoc]
    · rw [i3, anyE, ← h2]
      show ((x.empty || (layP t s).2.empty) || _) = _
      rw [Bool.or_assoc]
    · rw [i4, hat, altF, List.mem_append, ← h3]
      show p ∈ x.first ++ (layP t s).2.first ∨ _ ↔ _
      rw [List.mem_append, or_assoc]
    · rw [i5, hat, altB, List.mem_append, ← h4]
      show p ∈ x.last ++ (layP t s).2.last ∨ _ ↔ _
      rw [List.mem_append, or_assoc, or_comm (a := p ∈ (layP t s).2.last)]
    · rw [i6, h5, hat, altFol, or_assoc]
/-- The program's layout is the document's, flat. -/
theorem flat_same {t : T} (hwf : WF t) : Same (layP t) (flatT t) := by
  induction hwf with
  | one p =>
    intro s hs
    have e : flatT (.mk 1 p 0 0 []) = .mk 1 p 0 0 [] := by simp [flatT, flatL]
    have e2 : layP (.mk 1 p 0 0 []) s = (oneL s p, oneX s) := by simp [layP]
    rw [e, e2]
    refine ⟨by simp [oneL, setT, setTL], by simp [oneX, emptyT], fun q => by simp [oneX, fstT], fun q => by simp [oneX, lstT], fun q r => ?_⟩
    simp only [folT]
    simp only [ne_eq, not_true_eq_false, false_and, or_false]
    unfold fol oneL
    simp only [List.getD_eq_getElem?_getD]
    rcases Nat.lt_or_ge q s.follow.length with hq | hq
    · rw [List.getElem?_append_left hq]
    · rw [List.getElem?_append_right hq, List.getElem?_eq_none hq]
      rcases Nat.eq_zero_or_pos (q - s.follow.length) with e | e
      · rw [e]; simp
      · rw [List.getElem?_eq_none (by simp; omega)]
  | cat l h2 hN h ih =>
    have e : flatT (.mk 2 noneP 0 0 l) = .mk 2 noneP 0 0 (flatL l) := by simp [flatT]
    rw [e]
    refine same_cat _ _ _ fun s hs => ?_
    have e2 : layP (.mk 2 noneP 0 0 l) s = catP l s .nothing := by simp [layP]
    rw [e2]
    exact cat_same l (fun t ht => ⟨h t ht, ih t ht⟩) s .nothing hs (fun p hp => by simp [Str.nothing] at hp)
  | alt l h2 hN h ih =>
    intro s hs
    have e : flatT (.mk 3 noneP 0 0 l) = .mk 3 noneP 0 0 (flatL l) := by simp [flatT]
    have e2 : layP (.mk 3 noneP 0 0 l) s = altP l s .void := by simp [layP]
    obtain ⟨i1, i2, i3, i4, i5, i6⟩ := alt_same l (fun t ht => ⟨h t ht, ih t ht⟩) s .void hs
    rw [e, e2]
    refine ⟨by rw [i2]; simp [setT], by rw [i3]; simp [emptyT, Str.void], fun p => by rw [i4]; simp [fstT, Str.void], fun p => by rw [i5]; simp [lstT, Str.void], fun q r => by rw [i6]; simp [folT]⟩
  | rep m n u h0 h1 h2 h3 hu ih =>
    have e : flatT (.mk 4 noneP m n [u]) = .mk 2 noneP 0 0 (List.replicate m.toNat (flatT u) ++ [restT (flatT u) (n - m).toNat]) := by simp [flatT, flatHead]
    rw [e]
    refine same_cat _ _ _ fun s hs => ?_
    have hh : headP [u] = layP u := by funext s; simp [headP]
    have e2 : layP (.mk 4 noneP m n [u]) s = repX (layP u) m.toNat (n - m).toNat s := by simp [layP, hh]
    rw [e2]
    exact copies_same (laid_of ih (lays_wf (xs := []) hu)) (laid_of (within_same hu ih _) (lays_within (xs := []) (lays_wf hu) _)) m.toNat s .nothing hs (fun p hp => by simp [Str.nothing] at hp)
end Go.Proofs.Ytnkopcmkanibhaa

/-
  First and last of a flat pattern, kid by kid, as a loop finds them. Plain mathematics; no statement of its own.
-/
namespace Go.Proofs.Ytnkopcmkanibhaa
open Go

theorem plTL_app : ∀ (l m : List T), plTL (l ++ m) = plTL l + plTL m
  | [], m => by simp [plTL]
  | t :: l, m => by simp only [List.cons_append, plTL]; rw [plTL_app l m]; omega
theorem plTL_take (l : List T) (j : Nat) (h : j < l.length) : plTL (l.take (j + 1)) = plTL (l.take j) + plT (l[j]'h) := by
  rw [List.take_succ_eq_append_getElem h, plTL_app]
  simp [plTL]
theorem plTL_le (l : List T) (k : Nat) : plTL (l.take k) ≤ plTL l := by
  have h := List.take_append_drop k l
  have := plTL_app (l.take k) (l.drop k)
  rw [h] at this
  omega
theorem altF_app : ∀ (l m : List T) (a : Nat), altF (l ++ m) a = altF l a ++ altF m (a + plTL l)
  | [], m, a => by simp [altF, plTL]
  | t :: l, m, a => by
    simp only [List.cons_append, altF, plTL]
    rw [altF_app l m, List.append_assoc, Nat.add_assoc]
theorem altF_take (l : List T) (j : Nat) (h : j < l.length) (a : Nat) : altF (l.take (j + 1)) a = altF (l.take j) a ++ fstT (l[j]'h) (a + plTL (l.take j)) := by
  rw [List.take_succ_eq_append_getElem h, altF_app]
  simp [altF]
theorem catF_all : ∀ (l : List T) (a : Nat), allE l = true → catF l a = altF l a
  | [], a, _ => by simp [catF, altF]
  | t :: l, a, h => by
    simp only [allE, Bool.and_eq_true] at h
    simp only [catF, altF]
    rw [if_pos h.1, catF_all l _ h.2]
theorem catF_stop : ∀ (l : List T) (j : Nat) (h : j < l.length) (a : Nat), allE (l.take j) = true → emptyT (l[j]'h) = false → catF l a = altF (l.take (j + 1)) a
  | [], j, h, a, _, _ => by simp at h
  | t :: l, 0, h, a, _, he => by
    simp only [List.getElem_cons_zero] at he
    simp [catF, altF, he]
  | t :: l, j + 1, h, a, ha, he => by
    simp only [List.take_succ_cons, allE, Bool.and_eq_true] at ha
    simp only [List.getElem_cons_succ] at he
    rw [List.take_succ_cons]
    simp only [catF, altF]
    rw [if_pos ha.1, catF_stop l j (by simpa using h) _ ha.2 he]
theorem catB_all : ∀ (l : List T) (a : Nat), allE l = true → catB l a = altB l a
  | [], a, _ => by simp [catB, altB]
  | t :: l, a, h => by
    simp only [allE, Bool.and_eq_true] at h
    simp only [catB, altB]
    rw [if_pos h.2, catB_all l _ h.2]
theorem allE_false (l : List T) (i : Nat) (h : i < l.length) (he : emptyT (l[i]'h) = false) : allE l = false := by
  induction l generalizing i with
  | nil => simp at h
  | cons t l ih =>
    cases i with
    | zero => simp only [List.getElem_cons_zero] at he; simp [allE, he]
    | succ i => simp only [List.getElem_cons_succ] at he; simp [allE, ih i (by simpa using h) he]
theorem catB_stop : ∀ (l : List T) (i : Nat) (h : i < l.length) (a : Nat), allE (l.drop (i + 1)) = true → emptyT (l[i]'h) = false → catB l a = altB (l.drop i) (a + plTL (l.take i))
  | [], i, h, a, _, _ => by simp at h
  | t :: l, 0, h, a, ha, he => by
    simp only [List.drop_succ_cons, List.drop_zero] at ha
    simp only [catB, List.drop_zero, altB, List.take_zero, plTL, Nat.add_zero]
    rw [if_pos ha, catB_all l _ ha]
  | t :: l, i + 1, h, a, ha, he => by
    simp only [List.getElem_cons_succ] at he
    simp only [List.drop_succ_cons] at ha
    have hf := allE_false l i (by simpa using h) he
    simp only [catB, List.drop_succ_cons, List.take_succ_cons, plTL]
    rw [hf, catB_stop l i (by simpa using h) _ ha he]
    simp [Nat.add_assoc]
theorem altB_drop (l : List T) (i : Nat) (h : i < l.length) (a : Nat) : altB (l.drop i) (a + plTL (l.take i)) = altB (l.drop (i + 1)) (a + plTL (l.take (i + 1))) ++ lstT (l[i]'h) (a + plTL (l.take i)) := by
  rw [List.drop_eq_getElem_cons h, plTL_take l i h]
  simp only [altB]
  rw [Nat.add_assoc]
theorem allE_drop (l : List T) (i : Nat) (h : i < l.length) : allE (l.drop i) = (emptyT (l[i]'h) && allE (l.drop (i + 1))) := by
  rw [List.drop_eq_getElem_cons h]
  simp only [allE]
mutual
theorem fst_len : ∀ (t : T) (a : Nat), (fstT t a).length ≤ plT t
  | .mk op p lo hi l, a => by
    have h1 := altF_len l a
    have h2 := catF_len l a
    simp only [fstT, plT]
    split
    · simp
    · split <;> omega
theorem altF_len : ∀ (l : List T) (a : Nat), (altF l a).length ≤ plTL l
  | [], a => by simp [altF]
  | t :: ts, a => by
    have h1 := fst_len t a
    have h2 := altF_len ts (a + plT t)
    simp only [altF, plTL, List.length_append]
    omega
theorem catF_len : ∀ (l : List T) (a : Nat), (catF l a).length ≤ plTL l
  | [], a => by simp [catF]
  | t :: ts, a => by
    have h1 := fst_len t a
    have h2 := catF_len ts (a + plT t)
    simp only [catF, plTL, List.length_append]
    split
    · omega
    · simp; omega
end
mutual
theorem lst_len : ∀ (t : T) (a : Nat), (lstT t a).length ≤ plT t
  | .mk op p lo hi l, a => by
    have h1 := altB_len l a
    have h2 := catB_len l a
    simp only [lstT, plT]
    split
    · simp
    · split <;> omega
theorem altB_len : ∀ (l : List T) (a : Nat), (altB l a).length ≤ plTL l
  | [], a => by simp [altB]
  | t :: ts, a => by
    have h1 := lst_len t a
    have h2 := altB_len ts (a + plT t)
    simp only [altB, plTL, List.length_append]
    omega
theorem catB_len : ∀ (l : List T) (a : Nat), (catB l a).length ≤ plTL l
  | [], a => by simp [catB]
  | t :: ts, a => by
    have h1 := lst_len t a
    have h2 := catB_len ts (a + plT t)
    simp only [catB, plTL, List.length_append]
    split
    · omega
    · simp; omega
end
end Go.Proofs.Ytnkopcmkanibhaa

/-
  The document's own Empty, and Places, of a pattern laid out flat. Contracts for other texts; no statement of its own.
-/
namespace Go.Proofs.Ytnkopcmkanibhaa
open Go Go.RowKit
attribute [local go_sem ↓] Go.wp_at_zero Go.wp_at_succ

/-- A pattern laid out flat. -/
inductive FT : T → Prop
  | mk (op : Int) (p : Nat → Bool) (l : List T) (hop : op = 1 ∧ l = [] ∨ op = 2 ∨ op = 3 ∨ op = 5) (hN : l.length ≤ 202) (h : ∀ x ∈ l, FT x) : FT (.mk op p 0 0 l)
theorem FT.len {t : T} (h : FT t) : t.kids.length ≤ 202 := by cases h with | mk op p l hop hN h => exact hN
theorem FT.at {t : T} (h : FT t) (j : Nat) (hj : j < t.kids.length) : FT (t.kids[j]'hj) := by cases h with | mk op p l hop hN h => exact h _ (List.getElem_mem hj)
theorem FT.op {t : T} (h : FT t) : t.op = 1 ∧ t.kids = [] ∨ t.op = 2 ∨ t.op = 3 ∨ t.op = 5 := by cases h with | mk op p l hop hN h => exact hop
theorem emptyT_eq (t : T) : emptyT t = if t.op = 1 ∨ t.op = 5 then decide (t.op = 5) else if t.op = 2 then allE t.kids else anyE t.kids := by
  cases t
  rw [emptyT]
  rfl
theorem ft_rest {k : T} (h : FT k) : ∀ d, FT (restT k d)
  | 0 => .mk 2 noneP [] (.inr (.inl rfl)) (by simp) (fun x hx => by simp at hx)
  | d + 1 => .mk 5 noneP _ (.inr (.inr (.inr rfl))) (by simp) (fun x hx => by
    simp at hx
    subst hx
    exact .mk 2 noneP _ (.inr (.inl rfl)) (by simp) (fun y hy => by
      simp at hy
      rcases hy with rfl | rfl
      · exact h
      · exact ft_rest h d))
theorem flatL_map : ∀ l : List T, flatL l = l.map flatT
  | [] => rfl
  | t :: ts => by simp [flatL, flatL_map ts]
theorem ft_flat {t : T} (hwf : WF t) : FT (flatT t) := by
  induction hwf with
  | one p => simpa [flatT, flatL] using FT.mk 1 p [] (.inl ⟨rfl, rfl⟩) (by simp) (fun x hx => by simp at hx)
  | cat l h2 hN h ih =>
    have e : flatT (.mk 2 noneP 0 0 l) = .mk 2 noneP 0 0 (l.map flatT) := by simp [flatT, flatL_map]
    rw [e]
    exact .mk 2 noneP _ (.inr (.inl rfl)) (by simpa using hN) (fun x hx => by
      simp at hx
      obtain ⟨y, hy, rfl⟩ := hx
      exact ih y hy)
  | alt l h2 hN h ih =>
    have e : flatT (.mk 3 noneP 0 0 l) = .mk 3 noneP 0 0 (l.map flatT) := by simp [flatT, flatL_map]
    rw [e]
    exact .mk 3 noneP _ (.inr (.inr (.inl rfl))) (by simpa using hN) (fun x hx => by
      simp at hx
      obtain ⟨y, hy, rfl⟩ := hx
      exact ih y hy)
  | rep m n u h0 h1 h2 h3 hu ih =>
    have e : flatT (.mk 4 noneP m n [u]) = .mk 2 noneP 0 0 (List.replicate m.toNat (flatT u) ++ [restT (flatT u) (n - m).toNat]) := by simp [flatT, flatHead]
    rw [e]
    exact .mk 2 noneP _ (.inr (.inl rfl)) (by simp; omega) (fun x hx => by
      simp at hx
      rcases hx with ⟨_, rfl⟩ | rfl
      · exact ih
      · exact ft_rest ih _)
/-- All of the first j are empty; one of them is. -/
theorem allE_take (l : List T) (j : Nat) (h : j < l.length) : allE (l.take (j + 1)) = (allE (l.take j) && emptyT (l[j]'h)) := by
  have app : ∀ l m : List T, allE (l ++ m) = (allE l && allE m) := by
    intro l m
    induction l with
    | nil => simp [allE]
    | cons t ts ih => simp [allE, ih, Bool.and_assoc]
  rw [List.take_succ_eq_append_getElem h, app]
  simp [allE]
theorem anyE_take (l : List T) (j : Nat) (h : j < l.length) : anyE (l.take (j + 1)) = (anyE (l.take j) || emptyT (l[j]'h)) := by
  have app : ∀ l m : List T, anyE (l ++ m) = (anyE l || anyE m) := by
    intro l m
    induction l with
    | nil => simp [anyE]
    | cons t ts ih => simp [anyE, ih, Bool.or_assoc]
  rw [List.take_succ_eq_append_getElem h, app]
  simp [anyE]

set_option maxRecDepth 20000 in
set_option maxHeartbeats 2000000 in
theorem empty_n : ∀ (N : Nat) (t : T) (w : World) (ok : Nat → Prop) (k : Value), SizeOf.sizeOf t ≤ N → FT t → Tree w ok t k →
    Calls Try.prog 56 #[nodeP t k] w fun e w' => e = .returned (.bool (emptyT t)) ∧ Below w.heap.size w w' := by
  intro N
  induction N with
  | zero => intro t w ok k h; obtain ⟨op, p, lo, hi, l⟩ := t; simp at h
  | succ N ih =>
  intro t w ok k hN hft ht
  obtain ⟨A, n', c, rfl⟩ := ht.form
  obtain ⟨hn, hm⟩ := ht.bound
  have hlen := hft.len
  rw [← hn] at hlen
  unfold maxLen at hm
  have hop := hft.op
  have b1 := Box8.new w t (.slice A n' c)
  have hB : Below w.heap.size w (w.alloc (.cells #[.int .i64 t.op, .int .u64 (word t.set 0), .int .u64 (word t.set 1), .int .u64 (word t.set 2), .int .u64 (word t.set 3), .int .i64 t.lo, .int .i64 t.hi, .slice A n' c] 75)) := (Below.refl _ _).alloc (Nat.le_refl _) _
  have hE : emptyT t = if t.op = 1 ∨ t.op = 5 then decide (t.op = 5) else if t.op = 2 then allE t.kids else anyE t.kids := emptyT_eq t
  obtain ⟨c0, c1, c2, c3, c4, c5, c6, c7⟩ := b1.cell
  unfold nodeP
  by_cases h1 : t.op = 1
  · rw [if_pos (.inl h1)] at hE
    have hE' : emptyT t = false := by rw [hE, h1]; decide
    rw [hE']
    rw [h1] at c0 ⊢
    clear hE hE' hop ih ht b1 hft hn hN
    go_enter Try.func56, Try.ntmps56
    go_wp2
    go_ret
    exact ⟨rfl, by rw [h1] at hB; exact hB⟩
  · by_cases h5 : t.op = 5
    · rw [if_pos (.inr h5)] at hE
      have hE' : emptyT t = true := by rw [hE, h5]; decide
      rw [hE']
      rw [h5] at c0 ⊢
      clear hE hE' hop ih ht b1 hft hn hN
      go_enter Try.func56, Try.ntmps56
      go_wp2
      go_ret
      exact ⟨rfl, by rw [h5] at hB; exact hB⟩
    · rw [if_neg (by rintro (h | h); exact h1 h; exact h5 h)] at hE
      obtain ⟨o, ho⟩ : ∃ o, t.op = o := ⟨_, rfl⟩
      have ho23 : o = 2 ∨ o = 3 := by rcases hop with h | h | h | h <;> omega
      have t1 : (o == (1 : Int)) = false := by simp; omega
      have t5 : (o == (5 : Int)) = false := by simp; omega
      have HN := Lib.hid hn
      have HT := Lib.hid ht
      have HFT := Lib.hid hft
      have IH := Lib.hid ih
      have HB1 := Lib.hid b1
      have HHB := Lib.hid hB
      have HE := Lib.hid hE
      have HSZ := Lib.hid hN
      rw [ho] at HE HB1 HHB c0 ⊢
      have HO := Lib.hid ho
      clear hn ih hft hop b1 hB hE ht hN ho h1 h5 c0 c1 c2 c3 c4 c5 c6 c7
      go_enter Try.func56, Try.ntmps56
      go_wp2
      go_loopg [3, 4, 5] n' (fun m a b i wr => ∃ j : Nat, i = .int .i64 (j : Int) ∧ j ≤ n' ∧ m = n' - j ∧ a = .bool (allE (t.kids.take j)) ∧ b = .bool (anyE (t.kids.take j)) ∧ Box8 wr w.heap.size t (.slice A n' c) ∧ Below w.heap.size w wr)
      case atStart => exact ⟨0, by first | rfl | trivial, Nat.zero_le _, by first | rfl | trivial, by simp [allE], by simp [anyE], HB1.out, HHB.out⟩
      case round =>
        obtain ⟨j, rfl, hj, hmj, rfl, rfl, x1, hW⟩ := hrel
        have HMJ := Lib.hid hmj
        obtain ⟨c0, c1, c2, c3, c4, c5, c6, c7⟩ := x1.cell
        rw [HO.out] at c0
        clear hmj
        by_cases hlt : j < n'
        · have hlt' : j < t.kids.length := by rw [← HN.out]; exact hlt
          obtain ⟨g, B, m1, m2, e1, hg1, htk, hcells⟩ := kid8 HT.out j (List.getElem?_eq_getElem hlt')
          subst e1
          have hks := kid_size t j hlt'
          have hwk := HFT.out.at j hlt'
          have hsa := allE_take t.kids j hlt'
          have hsb := anyE_take t.kids j hlt'
          generalize t.kids[j] = u at *
          have HC : ∀ q v, (nodeC u (.slice B m1 m2))[q]? = some v → wr.cell? ⟨g, j * 8 + q, none⟩ = some v := fun q v h => by rw [Nat.mul_comm j 8]; exact (hW.cell (p := ⟨g, 8 * j + q, none⟩) hg1).trans (hcells q v h)
          have k0 : wr.cell? ⟨g, j * 8, none⟩ = _ := HC 0 _ rfl
          have k1 := HC 1 _ rfl
          have k2 := HC 2 _ rfl
          have k3 := HC 3 _ rfl
          have k4 := HC 4 _ rfl
          have k5 := HC 5 _ rfl
          have k6 := HC 6 _ rfl
          have k7 := HC 7 _ rfl
          have HK := Lib.hid (fun w' (hb : Below wr.heap.size wr w') => IH.out u w' ok (.slice B m1 m2) (by have := HSZ.out; omega) hwk ((htk.stays hW).stays hb))
          have HSA := Lib.hid hsa
          have HSB := Lib.hid hsb
          have HX := Lib.hid x1
          have HW := Lib.hid hW
          clear HC hcells htk hks hwk hsa hsb x1 hW
          unfold nodeP at HK
          obtain ⟨a, ha⟩ : ∃ a, allE (t.kids.take j) = a := ⟨_, rfl⟩
          obtain ⟨b, hb⟩ : ∃ b, anyE (t.kids.take j) = b := ⟨_, rfl⟩
          obtain ⟨v, hv⟩ : ∃ v, emptyT u = v := ⟨_, rfl⟩
          rw [ha, hv] at HSA
          rw [hb, hv] at HSB
          rw [hv] at HK
          rw [ha, hb]
          clear ha hb hv
          cases a <;> cases b
          all_goals
            go_wp2_with (go_at_call 56; (with_reducible refine (HK.out _ (Below.refl _ _)).mono ?_); rintro e w5 ⟨rfl, hb5⟩)
            go_roundg (n' - (j + 1))
            case measure => have := HMJ.out; omega
            case rel => exact ⟨j + 1, by go_num, by omega, rfl, by rw [HSA.out]; cases v <;> rfl, by rw [HSB.out]; cases v <;> rfl, HX.out.stays hb5, gro HW.out hb5⟩
        · have hjn : j = t.kids.length := by rw [← HN.out]; omega
          have hwhole : t.kids.take j = t.kids := by rw [hjn]; exact List.take_length
          rw [hwhole]
          have HW := Lib.hid hW
          clear hW x1
          rcases ho23 with rfl | rfl
          · have he : emptyT t = allE t.kids := by rw [HE.out]; rfl
            have HEE := Lib.hid he
            clear he
            go_wp2
            go_ret
            exact ⟨by rw [HEE.out]; rfl, HW.out⟩
          · have he : emptyT t = anyE t.kids := by rw [HE.out]; rfl
            have HEE := Lib.hid he
            clear he
            go_wp2
            go_ret
            exact ⟨by rw [HEE.out]; rfl, HW.out⟩
theorem empty_p {t : T} {k : Value} {ok : Nat → Prop} (w : World) (hft : FT t) (ht : Tree w ok t k) : Calls Try.prog 56 #[nodeP t k] w fun e w' => e = .returned (.bool (emptyT t)) ∧ Below w.heap.size w w' :=
  empty_n _ t w ok k (Nat.le_refl _) hft ht

set_option maxRecDepth 20000 in
set_option maxHeartbeats 2000000 in
theorem places_ftn : ∀ (N : Nat) (t : T) (w : World) (ok : Nat → Prop) (k : Value), SizeOf.sizeOf t ≤ N → FT t → Tree w ok t k →
    Calls Try.prog 54 #[nodeP t k] w (RetInt w (plN t)) := by
  intro N
  induction N with
  | zero => intro t w ok k h; obtain ⟨op, p, lo, hi, l⟩ := t; simp at h
  | succ N ih =>
  intro t w ok k hN hft ht
  obtain ⟨A, n', c, rfl⟩ := ht.form
  obtain ⟨hn, hm⟩ := ht.bound
  have hlen := hft.len
  rw [← hn] at hlen
  unfold maxLen at hm
  have hop := hft.op
  have b1 := Box8.new w t (.slice A n' c)
  have hB : Below w.heap.size w (w.alloc (.cells #[.int .i64 t.op, .int .u64 (word t.set 0), .int .u64 (word t.set 1), .int .u64 (word t.set 2), .int .u64 (word t.set 3), .int .i64 t.lo, .int .i64 t.hi, .slice A n' c] 75)) := (Below.refl _ _).alloc (Nat.le_refl _) _
  have hpl : plN t = min (((if t.op = 1 then 1 else 0) + plSum t.kids) * (if t.op = 4 then t.hi.toNat else 1)) 1000 := by cases t; rfl
  have hsum := plSum_le t.kids
  have HPL := Lib.hid hpl
  have HSUM := Lib.hid hsum
  have HWF := Lib.hid hft
  have HOP := Lib.hid hop
  have HN := Lib.hid hn
  have HT := Lib.hid ht
  have IH := Lib.hid ih
  have HB1 := Lib.hid b1
  have HM := Lib.hid hm
  clear hn ih hpl hsum hft hop
  unfold nodeP
  cases hb1 : (t.op == 1)
  all_goals
    cases hb4 : (t.op == 4)
    all_goals
      go_enter Try.func54, Try.ntmps54
      go_wp2
      go_loopg [3, 4] n' (fun m k i wr => ∃ j : Nat, i = .int .i64 (j : Int) ∧ j ≤ n' ∧ m = n' - j ∧ k = .int .i64 (((if t.op = 1 then 1 else 0) + plSum (t.kids.take j) : Nat) : Int) ∧ Box8 wr w.heap.size t (.slice A n' c) ∧ Below w.heap.size w wr)
      case atStart => exact ⟨0, rfl, Nat.zero_le _, rfl, by first | (rw [if_pos (by simpa using hb1)]; rfl) | (rw [if_neg (by simpa using hb1)]; rfl), HB1.out, hB⟩
      case round =>
        obtain ⟨j, rfl, hj, hmj, rfl, x1, hW⟩ := hrel
        have HMJ := Lib.hid hmj
        obtain ⟨c0, c1, c2, c3, c4, c5, c6, c7⟩ := x1.cell
        clear b1 hmj
        by_cases hlt : j < n'
        · have hlt' : j < t.kids.length := by rw [← HN.out]; exact hlt
          obtain ⟨g, B, m1, m2, e1, hg1, htk, hcells⟩ := kid8 HT.out j (List.getElem?_eq_getElem hlt')
          subst e1
          have hks := kid_size t j hlt'
          have hwk := HWF.out.at j hlt'
          have hst := plSum_take t.kids j hlt'
          have hsl := plSum_le (t.kids.take j)
          rw [List.length_take] at hsl
          have hpu := plN_le (t.kids[j]'hlt')
          generalize t.kids[j] = u at *
          have HC : ∀ q v, (nodeC u (.slice B m1 m2))[q]? = some v → wr.cell? ⟨g, j * 8 + q, none⟩ = some v := fun q v h => by rw [Nat.mul_comm j 8]; exact (hW.cell (p := ⟨g, 8 * j + q, none⟩) hg1).trans (hcells q v h)
          have k0 : wr.cell? ⟨g, j * 8, none⟩ = _ := HC 0 _ rfl
          have k1 := HC 1 _ rfl
          have k2 := HC 2 _ rfl
          have k3 := HC 3 _ rfl
          have k4 := HC 4 _ rfl
          have k5 := HC 5 _ rfl
          have k6 := HC 6 _ rfl
          have k7 := HC 7 _ rfl
          have HK := Lib.hid (fun w' (hb : Below wr.heap.size wr w') => IH.out u w' ok (.slice B m1 m2) (by omega) hwk ((htk.stays hW).stays hb))
          have HST := Lib.hid hst
          clear HC hcells htk hks hwk hst
          unfold nodeP RetInt at HK
          have ha : ((if t.op = 1 then 1 else 0 : Nat)) ≤ 1 := by split <;> omega
          generalize hS : (if t.op = 1 then 1 else 0 : Nat) = a0 at *
          generalize plSum (t.kids.take j) = S at *
          have hS2 : S ≤ 202000 := by omega
          clear hS
          go_wp2_with (go_at_call 54; (with_reducible refine (HK.out _ (Below.refl _ _)).mono ?_); rintro e w5 ⟨rfl, hb5⟩)
          go_roundg (n' - (j + 1))
          case measure => have := HMJ.out; omega
          case rel => exact ⟨j + 1, by go_num, by omega, rfl, by rw [HST.out]; go_num, x1.stays hb5, gro hW hb5⟩
        · have hjn : j = t.kids.length := by rw [← HN.out]; omega
          have hwhole : t.kids.take j = t.kids := by rw [hjn]; exact List.take_length
          rw [hwhole]
          have hS2 := HSUM.out
          have ha : ((if t.op = 1 then 1 else 0 : Nat)) ≤ 1 := by split <;> omega
          have hpl' := HPL.out
          rw [show t.kids.length = n' from HN.out.symm] at hS2
          generalize hS : (if t.op = 1 then 1 else 0 : Nat) = a0 at *
          generalize plSum t.kids = S at *
          by_cases h4 : t.op = 4
          · exfalso
            have := HOP.out
            omega
          · first
              | (exfalso; simp at hb4; exact h4 hb4)
              | skip
            all_goals
              rw [if_neg h4, Nat.mul_one] at hpl'
              have HPL2 := Lib.hid hpl'
              clear hpl' h4 hS
              go_wp2
              all_goals
                go_ret
                refine ⟨congrArg Ending.returned (congrArg (Value.int .i64) ?_), hW⟩
                rw [HPL2.out]
                omega
theorem plSum_minT : ∀ (l : List T), (∀ t ∈ l, plN t = min (plT t) 1000) → min (plSum l) 1000 = min (plTL l) 1000
  | [], _ => rfl
  | t :: ts, h => by
    have h1 := h t (by simp)
    have h2 := plSum_minT ts fun u hu => h u (by simp [hu])
    simp only [plSum, plTL]
    omega
theorem plN_flat {t : T} (hft : FT t) : plN t = min (plT t) 1000 := by
  induction hft with
  | mk op p l hop hN h ih =>
    have := plSum_minT l ih
    have e4 : ¬ op = 4 := by rcases hop with h | h | h | h <;> omega
    have e1 : plN (.mk op p 0 0 l) = min ((if op = 1 then 1 else 0) + plSum l) 1000 := by simp [plN, e4]
    have e2 : plT (.mk op p 0 0 l) = (if op = 1 then 1 else 0) + plTL l := by simp [plT]
    rw [e1, e2]
    omega
theorem places_ft {t : T} {k : Value} {ok : Nat → Prop} (w : World) (hft : FT t) (ht : Tree w ok t k) : Calls Try.prog 54 #[nodeP t k] w (RetInt w (plN t)) :=
  places_ftn _ t w ok k (Nat.le_refl _) hft ht
end Go.Proofs.Ytnkopcmkanibhaa
