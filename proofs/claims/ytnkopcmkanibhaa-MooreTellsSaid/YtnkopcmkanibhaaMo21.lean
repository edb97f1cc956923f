/-
  Several texts of this proof in one file: MooUp, MooTells, MooreTellsQ, OpenBase, OpenRules. No statement of its own.
-/
import Derived.Test.YtnkopcmkanibhaaMo16
import Derived.Test.YtnkopcmkanibhaaMo20
import Derived.Deep.Cut
import Derived.Test.YtnkopcmkanibhaaMo1
import Derived.ProofKit
import Derived.OpenShut
import Derived.Laws.IdiomArrays
import Derived.Lib.SmallJoins
import Derived.Deep.Strs
import Derived.Deep.Grids
set_option linter.unusedVariables false
set_option linter.unusedSimpArgs false
set_option maxRecDepth 20000

/-
  Layer 6's law: the head that its statements begin with. Contracts for other texts; no statement of its own.
-/
namespace Go.Proofs.Ytnkopcmkanibhaa
open Go Go.RowKit

theorem srch_nil : srchOf [] [] 5 1 = some ([[]], [[0]]) := by
  unfold srchOf
  rw [show cntOf [] [] = 1 from cntK_nil 255]
  rfl
/-- Build of no rules. -/
theorem build_nil (W : World) : Calls Try.prog 11 #[.slice none 0 0, .slice none 0 0, .int .i64 5, .int .i64 1] W fun e w' => Below W.heap.size W w' ∧ ∃ F A c B d, e = .returned (.tuple #[.agg (machC F 1 (.slice A 1 c) (.slice B 1 d)), .nilIface]) := by
  have h := mbuild_p (w := W) (A := none) (B := none) (ca := 0) (cb := 0) (L := []) (bs := []) (lam := 5) (most := 1) (fun i s x e => by simp at e) (fun i x e => by simp at e) (by omega) (by omega) (fun s x e => by simp at e) (by simp) (by simp)
  refine h.mono fun e w' h => ?_
  unfold RetMB at h
  rw [if_neg (by simp), show ((5 : Int).toNat) = 5 from rfl, show ((1 : Int).toNat) = 1 from rfl, srch_nil] at h
  obtain ⟨h1, vN, vO, O, rfl, hn, ho⟩ := h
  obtain ⟨A, c, e1⟩ := hn.form
  obtain ⟨B, d, e2⟩ := ho.form
  refine ⟨h1, clsOf [] [], A, c, B, d, ?_⟩
  rw [e1, e2, show cntOf [] [] = 1 from cntK_nil 255]
  rfl
theorem build_bad (W : World) : Calls Try.prog 11 #[.slice none 0 0, .slice none 0 0, .int .i64 0, .int .i64 1] W fun e w' => Below W.heap.size W w' ∧ e = .returned (.tuple #[.agg zeroM, errV 1]) := by
  have h := mbuild_p (w := W) (A := none) (B := none) (ca := 0) (cb := 0) (L := []) (bs := []) (lam := 0) (most := 1) (fun i s x e => by simp at e) (fun i x e => by simp at e) (by omega) (by omega) (fun s x e => by simp at e) (by simp) (by simp)
  refine h.mono fun e w' h => ?_
  unfold RetMB at h
  rw [if_pos (by omega)] at h
  exact h
set_option maxRecDepth 20000 in
set_option maxHeartbeats 2000000 in
theorem up06_p (w : World) : Calls Try.prog 8 #[] w fun e w' => e = .returned (.bool true) ∧ Below w.heap.size w w' := by
  have hz38 : ∀ w : World, Sem.run Try.prog (zeroValue 38) w = .ok (.agg zeroM) w := fun _ => by kernel_rfl
  have HB := Lib.hid build_nil
  have HD := Lib.hid build_bad
  have hc : ∀ W, Calls Try.prog 13 #[.iface 88 (.int .i64 1)] W fun e w' => e = .returned (.int .i64 1) ∧ W = w' := fun W => coden_p W 1 (by omega) (by omega)
  have HC := Lib.hid hc
  clear hc
  go_enter Try.func8, Try.ntmps8
  go_upto_region 2 with (first
    | (go_at_call 11; (with_reducible refine (HB.out _).mono ?_); rintro e w1 ⟨b1, F, A, c, B, d, rfl⟩; have B1 := Lib.hid b1; clear b1)
    | (refine wpList_storeM (by rfl) _ _ (by rfl) (by rfl) (by rfl) Try.sizeMM rfl rfl (BoxM.new w1 38 (fun _ => 0) 0 (.slice none 0 0) (.slice none 0 0)) ?_; intro hbx; have HX1 := Lib.hid hbx; clear hbx; go_simp)
    | fail)
  have hb2 : Below w.heap.size w ((w1.alloc (.cells zeroM 38)).setRow w1.heap.size (machC F 1 (.slice A 1 c) (.slice B 1 d))) := below_setRow (B1.out.alloc B1.out.size _) B1.out.size _
  have hx2 := HX1.out
  change BoxM ((w1.alloc (.cells zeroM 38)).setRow w1.heap.size (machC F 1 (.slice A 1 c) (.slice B 1 d))) _ _ _ _ _ _ at hx2
  generalize (w1.alloc (.cells zeroM 38)).setRow w1.heap.size (machC F 1 (.slice A 1 c) (.slice B 1 d)) = w2 at *
  have HX2 := Lib.hid hx2
  have HB2 := Lib.hid hb2
  clear hx2 hb2 HX1
  go_upto_region 3 with (first
    | (go_at_call 11; (with_reducible refine (HD.out _).mono ?_); rintro e w3 ⟨b3, rfl⟩; have B3 := Lib.hid b3; have HX3 := Lib.hid (HX2.out.stays b3); have HB3 := Lib.hid (gro HB2.out b3); clear b3)
    | (refine wpList_storeM (by rfl) _ _ (by rfl) (by rfl) (by rfl) Try.sizeMM rfl rfl (BoxM.new w3 38 (fun _ => 0) 0 (.slice none 0 0) (.slice none 0 0)) ?_; intro hbx; clear hbx; go_simp)
    | fail)
  have hb4 : Below w3.heap.size w3 ((w3.alloc (.cells zeroM 38)).setRow w3.heap.size (machC (fun _ => 0) 0 (.slice none 0 0) (.slice none 0 0))) := below_setRow ((Below.refl _ _).alloc (Nat.le_refl _) _) (Nat.le_refl _) _
  generalize (w3.alloc (.cells zeroM 38)).setRow w3.heap.size (machC (fun _ => 0) 0 (.slice none 0 0) (.slice none 0 0)) = w5 at *
  have hx4 := HX3.out.stays hb4
  have hb5 := gro HB3.out hb4
  have c1 := hx4.num
  have c2 := hx4.nxt
  have c3 := hx4.out
  have HB5 := Lib.hid hb5
  clear hb4 hx4 hb5
  unfold errV
  go_wp2_with (first
    | (go_at_call 13; (with_reducible refine (HC.out _).mono ?_); rintro e w6 ⟨rfl, rfl⟩)
    | fail)
  go_ret
  exact ⟨rfl, HB5.out⟩
end Go.Proofs.Ytnkopcmkanibhaa

/-
  The statement MooreTells of layer 6: the walk. Contracts for other texts; no statement of its own.
-/
namespace Go.Proofs.Ytnkopcmkanibhaa
open Go Go.RowKit

theorem checks_map (R : List (T × Bool)) : checksOf R = (R.map (·.2)).map Value.bool := by simp [checksOf]
theorem rdBo_tr {w : World} {A : Option Addr} {L : List Bool} (h : RdBo w A L) : RdTr w A L := fun i x e => h i x e
theorem yieldsIf_loadM {ops : Array Oper} {S : World → Prop} {op : Oper} {a : Act} {g : Nat} {t : TypeId} {F : Nat → Nat} {n : Int} {vN vO : Value} (hw : Region.wanted op (yielded ops a.tmps) = true) (x : Operand) (ho : op.op = .load t x) (hx : a.eval x = .pointer (some ⟨g, 0, none⟩)) (hS : ∀ w, S w → BoxM w g t F n vN vO)
    {d : TypeDesc} (hu : Try.prog.underlying t = some d) (hd : d.isRow = true) (hs : (Try.prog.info? t).map (·.size) = some 259) : YieldsIf Try.prog ops S op (.agg (machC F n vN vO)) a := by
  have := yieldsIf_load_mid hw t x ho g 0 hx (machC F n vN vO).toList d (fun w h => (hS w h).whole) hu hd (by rw [hs]; simp [machC_size])
  simpa using this
theorem yieldsIf_loadL {ops : Array Oper} {S : World → Prop} {op : Oper} {a : Act} {g : Nat} {t : TypeId} {F : Nat → Nat} {n : Int} {vN vO : Value} {m : Array Value} (e : machC F n vN vO = m) (hw : Region.wanted op (yielded ops a.tmps) = true) (x : Operand) (ho : op.op = .load t x) (hx : a.eval x = .pointer (some ⟨g, 0, none⟩)) (hS : ∀ w, S w → BoxM w g t F n vN vO)
    {d : TypeDesc} (hu : Try.prog.underlying t = some d) (hd : d.isRow = true) (hs : (Try.prog.info? t).map (·.size) = some 259) : YieldsIf Try.prog ops S op (.agg m) a := by
  subst e
  exact yieldsIf_loadM hw x ho hx hS hu hd hs
theorem out_eqE (a0 a1 : Int) (w : World) : (binOp .eql 51 (.agg #[.int .u64 a0, .int .u64 a1]) (.agg #[.int .u64 a0, .int .u64 a1])).run Try.prog w = .ok (.bool true) w := by
  have p0 : ∀ (c0 c1 : Int) (w : World), (part 49 #[.int .u64 c0, .int .u64 c1] 0).run Try.prog w = .ok (.int .u64 c0) w := fun _ _ _ => by kernel_rfl
  have p1 : ∀ (c0 c1 : Int) (w : World), (part 49 #[.int .u64 c0, .int .u64 c1] 1).run Try.prog w = .ok (.int .u64 c1) w := fun _ _ _ => by kernel_rfl
  have pe : ∀ (a b : Int) (w : World), (Op.equalIn 9999 49 (.int .u64 a) (.int .u64 b)).run Try.prog w = .ok (a == b) w := fun a b w => run_equalIn_int (P := Try.prog) w 9998 49 .u64 .u64 a b Try.underlying49
  have key : (Op.equalIn 10000 51 (.agg #[.int .u64 a0, .int .u64 a1]) (.agg #[.int .u64 a0, .int .u64 a1])).run Try.prog w = .ok true w := by
    rw [show (10000 : Nat) = 9999 + 1 from rfl, run_equalIn_struct w 9999 _ _ _ (by kernel_rfl) (by kernel_rfl)]
    simp only [Program.fieldsOf, Try.underlying51]
    simp [Op.eqFields, p0, p1, pe, go_sem]
  show (do pure (.bool (← Op.equal 51 (.agg #[.int .u64 a0, .int .u64 a1]) (.agg #[.int .u64 a0, .int .u64 a1]))) : Sem Value).run Try.prog w = _
  rw [Sem.run_bind, show Op.equal 51 (.agg #[.int .u64 a0, .int .u64 a1]) (.agg #[.int .u64 a0, .int .u64 a1]) = Op.equalIn 10000 51 (.agg #[.int .u64 a0, .int .u64 a1]) (.agg #[.int .u64 a0, .int .u64 a1]) from rfl, key]
  rfl
theorem yieldsIf_eqO {ops : Array Oper} {S : World → Prop} {op : Oper} {a : Act} {a0 a1 : Int} (hw : Region.wanted op (yielded ops a.tmps) = true) (x y : Operand) (z : TypeId) (ho : op.op = .binOp .eql 51 x y z) (hx : a.eval x = .agg #[.int .u64 a0, .int .u64 a1]) (hy : a.eval y = .agg #[.int .u64 a0, .int .u64 a1]) : YieldsIf Try.prog ops S op (.bool true) a :=
  .inl ⟨hw, fun w _ => by
    have hm : Try.prog.eqGuardType Try.prog.depth 51 = false := by kernel_rfl
    unfold execOp
    simp only [ho, hx, hy, Sem.run_bind, run_eqGuard_agg (P := Try.prog) (hm := hm), out_eqE, Result.andThen_ok, Sem.run_pure]⟩
theorem below_drew (w : World) : Below w.heap.size w w.drew := ⟨rfl, rfl, rfl, Nat.le_refl _, fun _ _ => rfl⟩
set_option maxRecDepth 20000 in
/-- Build of lists of two lengths. -/
theorem mbuild_len (w : World) (A B : Option Addr) (N M ca cb : Nat) (lam most : Int) (h : M ≠ N) : Calls Try.prog 11 #[.slice A N ca, .slice B M cb, .int .i64 lam, .int .i64 most] w fun e w' => e = .returned (.tuple #[.agg zeroM, errV 1]) ∧ Below w.heap.size w w' := by
  have hz38 : ∀ w : World, Sem.run Try.prog (zeroValue 38) w = .ok (.agg zeroM) w := fun _ => by kernel_rfl
  have bx0 := BoxM.new w 38 (fun _ => 0) 0 (.slice none 0 0) (.slice none 0 0)
  have hB0 : Below w.heap.size w (w.alloc (.cells zeroM 38)) := (Below.refl _ _).alloc (Nat.le_refl _) _
  have HBX0 := Lib.hid bx0
  have HB0 := Lib.hid hB0
  have d1 : ¬ (M : Int) = (N : Int) := by omega
  have hq : ((M : Int) == (N : Int)) = false := by simp; omega
  clear bx0 hB0 h
  go_enter Try.func11, Try.ntmps11
  go_wp2_with (first
    | (refine wpList_storeM (by rfl) _ _ (by rfl) (by rfl) (by rfl) Try.sizeMM rfl rfl HBX0.out ?_; intro hbx; have HBX1 := Lib.hid hbx; clear hbx; go_simp)
    | fail)
  exact bodyPost_ret (v := .tuple #[.agg zeroM, errV 1]) (results_mach Try.results11 rfl rfl Try.underlying38 rfl Try.sizeMM HBX1.out) rfl ⟨rfl, below_setRow HB0.out (Nat.le_refl _) _⟩
set_option maxRecDepth 20000 in
theorem rbuild_len (w : World) (A B : Option Addr) (N M ca cb : Nat) (lam most : Int) (h : M ≠ N) : Calls Try.prog 12 #[.slice A N ca, .slice B M cb, .int .i64 lam, .int .i64 most] w fun e w' => e = .returned (.tuple #[.agg zeroD, .int .i64 1]) ∧ Below w.heap.size w w' := by
  have hz43 : ∀ w : World, Sem.run Try.prog (zeroValue 43) w = .ok (.agg zeroD) w := fun _ => by kernel_rfl
  have bx0 := BoxM.new w 43 (fun _ => 0) 0 (.slice none 0 0) (.slice none 0 0)
  have hB0 : Below w.heap.size w (w.alloc (.cells zeroD 43)) := (Below.refl _ _).alloc (Nat.le_refl _) _
  have HBX0 := Lib.hid bx0
  have HB0 := Lib.hid hB0
  have hq : ((N : Int) == (M : Int)) = false := by simp; omega
  have hq' : ((N : Int) != (M : Int)) = true := by simp; omega
  clear bx0 hB0 h
  go_enter Try.func12, Try.ntmps12
  go_wp2_with (first
    | (refine wpList_buildZ (by rfl) (by rfl) ?_; go_simp)
    | (refine wpList_storeM (by rfl) _ _ (by rfl) (by rfl) (by rfl) Try.sizeMR rfl rfl HBX0.out ?_; intro hbx; have HBX1 := Lib.hid hbx; clear hbx; go_simp)
    | fail)
  exact bodyPost_ret (v := .tuple #[.agg zeroD, .int .i64 1]) (results_mach Try.results12 rfl rfl Try.underlying43 rfl Try.sizeMR HBX1.out) rfl ⟨rfl, below_setRow HB0.out (Nat.le_refl _) _⟩
set_option maxRecDepth 20000 in
set_option maxHeartbeats 4000000 in
theorem mooretells_p {w : World} {A B C : Option Addr} {ca cb cc : Nat} {L : List ByteArray} {bs : List Bool} {lam most : Int} {more : Bool} {xs : List Int} (hs : RdStr w A L) (hb : RdBo w B bs) (hL : L.length ≤ 9223372036854775807) (hbs : bs.length ≤ 9223372036854775807) (hsz : ∀ s ∈ L, s.size ≤ 9223372036854775807)
    (hlam : -9223372036854775808 ≤ lam ∧ lam ≤ 9223372036854775807) (hmost : -9223372036854775808 ≤ most ∧ most ≤ 9223372036854775807) (hx : RdB w w.heap.size C xs) (hby : ∀ k, k < xs.length → 0 ≤ xs.getD k 0 ∧ xs.getD k 0 ≤ 255) (hxl : xs.length ≤ 9223372036854775807) :
    Calls Try.prog 3 #[.slice A L.length ca, .slice B bs.length cb, .int .i64 lam, .int .i64 most, .bool more, .slice C xs.length cc] w fun e w' => e = .returned (.bool true) ∧ Below w.heap.size w w' := by
  have HR := Lib.hid (fun W (h : Below w.heap.size w W) => rules_p (ca := ca) (cb := cb) (hs.stays h) (hb.stays h) hL hbs hsz)
  obtain ⟨X, hX⟩ : ∃ X, xs.length = X := ⟨_, rfl⟩
  have HX := Lib.hid hX
  have HXB := Lib.hid hx
  have HBY := Lib.hid hby
  obtain ⟨R, hR⟩ : ∃ R, rulesN L bs (min L.length 4) = R := ⟨_, rfl⟩
  have hfew := few_rules L bs (min L.length 4) (by omega)
  rw [hR] at HR hfew
  obtain ⟨N1, hN1⟩ : ∃ n, L.length = n := ⟨_, rfl⟩
  obtain ⟨N2, hN2⟩ : ∃ n, bs.length = n := ⟨_, rfl⟩
  rw [hX] at hxl ⊢
  rw [hN1, hN2] at HR ⊢
  have HFW := Lib.hid hfew
  clear hs hb hsz hX hx hby hR hfew hN1 hN2 hL hbs
  by_cases hm1 : (100 < most ∧ most ≤ 1000) ∨ 100 < X
  · have HUP := Lib.hid (up06_p w)
    clear HR HXB HBY HFW HX
    by_cases hm2 : 100 < most
    · by_cases hm3 : most ≤ 1000
      · go_enter Try.func3, Try.ntmps3
        go_wp2_with (first
          | (go_at_call 8; (with_reducible refine HUP.out.mono ?_); rintro e w1 ⟨rfl, b1⟩; have B1 := Lib.hid b1; clear b1)
          | fail)
        go_ret
        exact ⟨rfl, B1.out⟩
      · have hm4 : (100 : Int) < (X : Int) := by omega
        clear hm1
        go_enter Try.func3, Try.ntmps3
        go_wp2_with (first
          | (go_at_call 8; (with_reducible refine HUP.out.mono ?_); rintro e w1 ⟨rfl, b1⟩; have B1 := Lib.hid b1; clear b1)
          | fail)
        go_ret
        exact ⟨rfl, B1.out⟩
    · have hm4 : (100 : Int) < (X : Int) := by omega
      clear hm1
      go_enter Try.func3, Try.ntmps3
      go_wp2_with (first
        | (go_at_call 8; (with_reducible refine HUP.out.mono ?_); rintro e w1 ⟨rfl, b1⟩; have B1 := Lib.hid b1; clear b1)
        | fail)
      go_ret
      exact ⟨rfl, B1.out⟩
  have hX100 : ¬ (100 : Int) < (X : Int) := by omega
  have htest : ((decide (100 < most) && decide (most ≤ 1000)) || decide ((100 : Int) < (X : Int))) = false := by
    simp
    omega
  obtain ⟨n, hn⟩ : ∃ n, R.length = n := ⟨_, rfl⟩
  have HN := Lib.hid hn
  have hn4 : n ≤ 4 := by rw [← hn]; exact HFW.out.len
  have HUP := Lib.hid (up06_p w)
  have hnf := fun (W : World) (A : Option Addr) (c : Nat) (h : RdRules W A R) => nfas_p (c := c) h HFW.out.nfas (by omega)
  unfold RetRules at HR
  rw [hn] at HR hnf
  unfold RetNfas at hnf
  rw [hn] at hnf
  have HNF := Lib.hid hnf
  clear hn hnf hm1
  have hz38 : ∀ w : World, Sem.run Try.prog (zeroValue 38) w = .ok (.agg zeroM) w := fun _ => by kernel_rfl
  have hz43 : ∀ w : World, Sem.run Try.prog (zeroValue 43) w = .ok (.agg zeroD) w := fun _ => by kernel_rfl
  go_enter Try.func3, Try.ntmps3
  go_upto_region 2 with (first
    | (go_at_call 8; (with_reducible refine HUP.out.mono ?_); rintro e w1 ⟨rfl, b1⟩; have B1 := Lib.hid b1; clear b1)
    | fail)
  go_cut [35] from 25 to 35 (fun s35 wx => s35 = .bool false ∧ w1 = wx)
  case first =>
    by_cases hm2 : 100 < most
    · have hm3 : ¬ most ≤ 1000 := by
        intro h
        simp [hm2, h] at htest
      clear htest
      go_wp2
      go_meet
      exact ⟨by rw [decide_eq_false (by omega)], rfl⟩
    · clear htest
      go_wp2
      go_meet
      exact ⟨by rw [decide_eq_false (by omega)], rfl⟩
  case rest =>
  obtain ⟨rfl, rfl⟩ := hcut
  clear htest
  go_upto_if 49 with (first
    | (go_at_call 9; (with_reducible refine (HR.out _ B1.out).mono ?_); rintro e w2 ⟨A2, c2, A2', c2', rfl, _, _, _, hr2, b2⟩; have B2 := Lib.hid (gro B1.out b2); have HR2 := Lib.hid hr2; clear hr2 b2)
    | (go_at_call 10; (with_reducible refine (HNF.out _ _ _ HR2.out).mono ?_); rintro e w3 ⟨A3, c3, A4, c4, A5, c5, rfl, h3, h4, h5, b3⟩; have B3 := Lib.hid (gro B2.out b3); have HL3 := Lib.hid h3; have HL4 := Lib.hid h4; have HC5 := Lib.hid h5; have HG5 := Lib.hid (gro b3 (Below.refl _ _)); clear h3 h4 h5 b3)
    | fail)
  cases more
  · have hbo := HC5.out
    rw [checks_map] at hbo
    have HBO := Lib.hid (bools_rd hbo)
    obtain ⟨cs, hcs⟩ : ∃ cs, R.map (·.2) = cs := ⟨_, rfl⟩
    have hcl : cs.length = n := by rw [← hcs, List.length_map, HN.out]
    obtain ⟨Ls, hLs⟩ : ∃ Ls, laysOf R = Ls := ⟨_, rfl⟩
    have hll : Ls.length = n := by rw [← hLs, laysOf_len, HN.out]
    have hfl := HFW.out.lay
    have hfn := HFW.out.nodup
    have hff := HFW.out.few
    rw [hcs] at HBO
    rw [hLs] at HL3 HL4 hfl hfn hff
    generalize w3 = w4 at *
    have HB4 := B3
    have hMB := mbuild_p (ca := c3) (cb := c5) (L := Ls) (bs := cs) HL3.out HBO.out hlam hmost hfl (by omega) (by omega)
    have hDB := fun (W : World) (hW : Below w4.heap.size w4 W) => rbuild_p (ca := c4) (cb := c5) (L := Ls) (bs := cs) (HL4.out.stays hW) (RdTr.stays' (rdBo_tr HBO.out) hW) hlam hmost hfl hfn (by omega) (by omega) hff
    unfold RetMB at hMB
    unfold RetDB at hDB
    rw [hcl, hll] at hMB
    simp only [hcl, hll] at hDB
    clear hbo hcs hLs hfl hfn hff HC5 HL3 HL4 HBO HG5
    by_cases hbad : n ≠ n ∨ lam < 1 ∨ 32 < lam ∨ most < 1 ∨ 1000 < most
    · have HMB : Hid (Calls Try.prog 11 #[.slice A3 n c3, .slice A5 n c5, .int .i64 lam, .int .i64 most] w4 fun e w' => e = .returned (.tuple #[.agg zeroM, errV 1]) ∧ Below w4.heap.size w4 w') := Lib.hid (hMB.mono fun e w' h => by rw [if_pos hbad] at h; exact ⟨h.2, h.1⟩)
      have HDB : Hid (∀ W : World, Below w4.heap.size w4 W → Calls Try.prog 12 #[.slice A4 n c4, .slice A5 n c5, .int .i64 lam, .int .i64 most] W fun e w' => e = .returned (.tuple #[.agg zeroD, .int .i64 1]) ∧ Below W.heap.size W w') := Lib.hid (fun W hW => (hDB W hW).mono fun e w' h => by rw [if_pos hbad] at h; exact ⟨h.2, h.1⟩)
      obtain ⟨c, hce, hc1, hc2⟩ : ∃ c : Nat, 1 = c ∧ 1 ≤ c ∧ c ≤ 11 := ⟨1, rfl, by omega, by omega⟩
      have hce1 : (1 : Int) = (c : Int) := by omega
      rw [hce1] at HMB HDB
      clear hce hce1 hMB hDB hbad
      have hcc : ((c : Int) != (c : Int)) = false := by simp
      have hc0 : ((c : Int) != 0) = true := by simp; omega
      have HCD := Lib.hid (fun W : World => coden_p W c hc1 hc2)
      unfold errV at HMB
      go_upto_region 9 with (first
        | (go_at_call 11; (with_reducible refine HMB.out.mono ?_); rintro e w5 ⟨rfl, b5⟩; have B5 := Lib.hid b5; have HB5 := Lib.hid (gro HB4.out b5); clear b5)
        | (refine wpList_storeM (by rfl) _ _ (by rfl) (by rfl) (by rfl) Try.sizeMM rfl rfl (BoxM.new w5 38 (fun _ => 0) 0 (.slice none 0 0) (.slice none 0 0)) ?_; intro hbx; have HX5 := Lib.hid hbx; clear hbx; go_simp)
        | fail)
      have hb6 : Below w5.heap.size w5 ((w5.alloc (.cells zeroM 38)).setRow w5.heap.size (machC (fun _ => 0) 0 (.slice none 0 0) (.slice none 0 0))) := below_setRow ((Below.refl _ _).alloc (Nat.le_refl _) _) (Nat.le_refl _) _
      have hx6 := HX5.out
      change BoxM ((w5.alloc (.cells zeroM 38)).setRow w5.heap.size (machC (fun _ => 0) 0 (.slice none 0 0) (.slice none 0 0))) _ _ _ _ _ _ at hx6
      generalize (w5.alloc (.cells zeroM 38)).setRow w5.heap.size (machC (fun _ => 0) 0 (.slice none 0 0) (.slice none 0 0)) = w6 at *
      have HX6 := Lib.hid hx6
      have HB6 := Lib.hid (gro HB5.out hb6)
      have HDB6 := Lib.hid (HDB.out w6 (gro B5.out hb6))
      clear hx6 hb6 HX5 HDB HMB
      go_upto_region 10 with (first
        | (go_at_call 12; (with_reducible refine HDB6.out.mono ?_); rintro e w7 ⟨rfl, b7⟩; have HB7 := Lib.hid (gro HB6.out b7); have HX7 := Lib.hid (HX6.out.stays b7); clear b7)
        | (refine wpList_storeM (by rfl) _ _ (by rfl) (by rfl) (by rfl) Try.sizeMR rfl rfl (BoxM.new w7 43 (fun _ => 0) 0 (.slice none 0 0) (.slice none 0 0)) ?_; intro hbx; clear hbx; go_simp)
        | fail)
      have hb8 : Below w7.heap.size w7 ((w7.alloc (.cells zeroD 43)).setRow w7.heap.size (machC (fun _ => 0) 0 (.slice none 0 0) (.slice none 0 0))) := below_setRow ((Below.refl _ _).alloc (Nat.le_refl _) _) (Nat.le_refl _) _
      generalize (w7.alloc (.cells zeroD 43)).setRow w7.heap.size (machC (fun _ => 0) 0 (.slice none 0 0) (.slice none 0 0)) = w8 at *
      have hx8 := HX7.out.stays hb8
      have HB8 := Lib.hid (gro HB7.out hb8)
      have c1 := hx8.num
      have c2 := hx8.nxt
      have c3 := hx8.out
      clear hx8 hb8 HX7 HB7 HDB6 HX6
      go_wp2_with (first
        | (go_at_call 13; (with_reducible refine (HCD.out _).mono ?_); rintro e w9 ⟨rfl, rfl⟩)
        | fail)
      go_ret
      exact ⟨rfl, HB8.out⟩
    · simp only [if_neg hbad] at hMB hDB
      have hmo : 1 ≤ most.toNat ∧ most.toNat ≤ 1000 := by omega
      cases hT : srchOf Ls cs lam.toNat most.toNat with
      | none =>
        rw [hT] at hMB
        simp only [hT] at hDB
        have HMB : Hid (Calls Try.prog 11 #[.slice A3 n c3, .slice A5 n c5, .int .i64 lam, .int .i64 most] w4 fun e w' => e = .returned (.tuple #[.agg zeroM, errV 11]) ∧ Below w4.heap.size w4 w') := Lib.hid (hMB.mono fun e w' h => ⟨h.2, h.1⟩)
        have HDB : Hid (∀ W : World, Below w4.heap.size w4 W → Calls Try.prog 12 #[.slice A4 n c4, .slice A5 n c5, .int .i64 lam, .int .i64 most] W fun e w' => e = .returned (.tuple #[.agg zeroD, .int .i64 11]) ∧ Below W.heap.size W w') := Lib.hid (fun W hW => (hDB W hW).mono fun e w' h => ⟨h.2, h.1⟩)
        obtain ⟨c, hce, hc1, hc2⟩ : ∃ c : Nat, 11 = c ∧ 1 ≤ c ∧ c ≤ 11 := ⟨11, rfl, by omega, by omega⟩
        have hce1 : (11 : Int) = (c : Int) := by omega
        rw [hce1] at HMB HDB
        clear hce hce1 hMB hDB hbad hT hmo
        have hcc : ((c : Int) != (c : Int)) = false := by simp
        have hc0 : ((c : Int) != 0) = true := by simp; omega
        have HCD := Lib.hid (fun W : World => coden_p W c hc1 hc2)
        unfold errV at HMB
        go_upto_region 9 with (first
          | (go_at_call 11; (with_reducible refine HMB.out.mono ?_); rintro e w5 ⟨rfl, b5⟩; have B5 := Lib.hid b5; have HB5 := Lib.hid (gro HB4.out b5); clear b5)
          | (refine wpList_storeM (by rfl) _ _ (by rfl) (by rfl) (by rfl) Try.sizeMM rfl rfl (BoxM.new w5 38 (fun _ => 0) 0 (.slice none 0 0) (.slice none 0 0)) ?_; intro hbx; have HX5 := Lib.hid hbx; clear hbx; go_simp)
          | fail)
        have hb6 : Below w5.heap.size w5 ((w5.alloc (.cells zeroM 38)).setRow w5.heap.size (machC (fun _ => 0) 0 (.slice none 0 0) (.slice none 0 0))) := below_setRow ((Below.refl _ _).alloc (Nat.le_refl _) _) (Nat.le_refl _) _
        have hx6 := HX5.out
        change BoxM ((w5.alloc (.cells zeroM 38)).setRow w5.heap.size (machC (fun _ => 0) 0 (.slice none 0 0) (.slice none 0 0))) _ _ _ _ _ _ at hx6
        generalize (w5.alloc (.cells zeroM 38)).setRow w5.heap.size (machC (fun _ => 0) 0 (.slice none 0 0) (.slice none 0 0)) = w6 at *
        have HX6 := Lib.hid hx6
        have HB6 := Lib.hid (gro HB5.out hb6)
        have HDB6 := Lib.hid (HDB.out w6 (gro B5.out hb6))
        clear hx6 hb6 HX5 HDB HMB
        go_upto_region 10 with (first
          | (go_at_call 12; (with_reducible refine HDB6.out.mono ?_); rintro e w7 ⟨rfl, b7⟩; have HB7 := Lib.hid (gro HB6.out b7); have HX7 := Lib.hid (HX6.out.stays b7); clear b7)
          | (refine wpList_storeM (by rfl) _ _ (by rfl) (by rfl) (by rfl) Try.sizeMR rfl rfl (BoxM.new w7 43 (fun _ => 0) 0 (.slice none 0 0) (.slice none 0 0)) ?_; intro hbx; clear hbx; go_simp)
          | fail)
        have hb8 : Below w7.heap.size w7 ((w7.alloc (.cells zeroD 43)).setRow w7.heap.size (machC (fun _ => 0) 0 (.slice none 0 0) (.slice none 0 0))) := below_setRow ((Below.refl _ _).alloc (Nat.le_refl _) _) (Nat.le_refl _) _
        generalize (w7.alloc (.cells zeroD 43)).setRow w7.heap.size (machC (fun _ => 0) 0 (.slice none 0 0) (.slice none 0 0)) = w8 at *
        have hx8 := HX7.out.stays hb8
        have HB8 := Lib.hid (gro HB7.out hb8)
        have c1 := hx8.num
        have c2 := hx8.nxt
        have c3 := hx8.out
        clear hx8 hb8 HX7 HB7 HDB6 HX6
        go_wp2_with (first
          | (go_at_call 13; (with_reducible refine (HCD.out _).mono ?_); rintro e w9 ⟨rfl, rfl⟩)
          | fail)
        go_ret
        exact ⟨rfl, HB8.out⟩
      | some v =>
        obtain ⟨ss, rows⟩ := v
        obtain ⟨hok, hr1, hr2⟩ := srch_ok hmo hT
        rw [hT] at hMB
        simp only [hT] at hDB
        unfold RetSrch at hMB
        unfold RetSrchD at hDB
        simp only at hMB hDB
        have hrs := fun (W : World) (B B' D D' : Nat) (O O' U U' : Nat → Prop) (vN vO uN uO : Value) (hN : Nxt W B O vN rows) (hO : Ots W B' O' vO (ss.map fun s => mOutP (RR Ls cs lam.toNat) s (0, 0))) (kN : Nxt W D U uN rows) (kO : Ots W D' U' uO (ss.map fun s => mOutP (RR Ls cs lam.toNat) s (0, 0))) => rsame_p (n := cntOf Ls cs) (F := clsOf Ls cs) hN hO kN kO hok.out (by omega) (fun r hr => by have := hr2 r hr; omega)
        generalize clsOf Ls cs = F at *
        generalize cntOf Ls cs = K at *
        generalize (ss.map fun s => mOutP (RR Ls cs lam.toNat) s (0, 0)) = outs at *
        have HMB := Lib.hid hMB
        have HDB := Lib.hid hDB
        have HOK := Lib.hid hok
        have HRSM := Lib.hid hrs
        obtain ⟨rn, hrn⟩ : ∃ m, rows.length = m := ⟨_, rfl⟩
        obtain ⟨on, hon⟩ : ∃ m, outs.length = m := ⟨_, rfl⟩
        have HRN := Lib.hid hrn
        have HON := Lib.hid hon
        clear hMB hDB hok hrs hT hmo hr1 hr2 hbad hcl hll hrn hon
        go_upto_region 9 with (first
          | (go_at_call 11; (with_reducible refine HMB.out.mono ?_); rintro e w5 ⟨b5, vN, vO, O, rfl, hn5, ho5⟩; obtain ⟨AN, cN, hfN⟩ := hn5.form; obtain ⟨AO, cO, hfO⟩ := ho5.form; rw [HRN.out] at hfN; rw [HON.out] at hfO; subst hfN hfO; have B5 := Lib.hid b5; have HB5 := Lib.hid (gro HB4.out b5); have HN5 := Lib.hid hn5; have HO5 := Lib.hid ho5; clear b5 hn5 ho5)
          | (refine wpList_storeM (by rfl) _ _ (by rfl) (by rfl) (by rfl) Try.sizeMM rfl rfl (BoxM.new w5 38 (fun _ => 0) 0 (.slice none 0 0) (.slice none 0 0)) ?_; intro hbx; have HX5 := Lib.hid hbx; clear hbx; go_simp)
          | fail)
        have hb6 : Below w5.heap.size w5 ((w5.alloc (.cells zeroM 38)).setRow w5.heap.size (machC F K (.slice AN rn cN) (.slice AO on cO))) := below_setRow ((Below.refl _ _).alloc (Nat.le_refl _) _) (Nat.le_refl _) _
        have hx6 := HX5.out
        change BoxM ((w5.alloc (.cells zeroM 38)).setRow w5.heap.size (machC F K (.slice AN rn cN) (.slice AO on cO))) _ _ _ _ _ _ at hx6
        generalize (w5.alloc (.cells zeroM 38)).setRow w5.heap.size (machC F K (.slice AN rn cN) (.slice AO on cO)) = w6 at *
        have HX6 := Lib.hid hx6
        have HB6 := Lib.hid (gro HB5.out hb6)
        have HN6 := Lib.hid (HN5.out.oth (Kept.of_below (fun _ => False) hb6) oth_none)
        have HO6 := Lib.hid (HO5.out.kept (Kept.of_below (fun _ => False) hb6) fun b e e' => e')
        have HDB6 := Lib.hid (HDB.out w6 (gro B5.out hb6))
        obtain ⟨g5, hg5⟩ : ∃ g, w5.heap.size = g := ⟨_, rfl⟩
        rw [hg5] at HX6 ⊢
        clear hx6 hb6 HX5 HDB HMB hg5
        go_upto_region 10 with (first
          | (go_at_call 12; (with_reducible refine HDB6.out.mono ?_); rintro e w7 ⟨b7, uN, uO, U, rfl, hn7, ho7⟩; obtain ⟨EN, dN, hfN⟩ := hn7.form; obtain ⟨EO, dO, hfO⟩ := ho7.form; rw [HRN.out] at hfN; rw [HON.out] at hfO; subst hfN hfO; have HB7 := Lib.hid (gro HB6.out b7); have HX7 := Lib.hid (HX6.out.stays b7); have HN7 := Lib.hid (HN6.out.oth (Kept.of_below (fun _ => False) b7) oth_none); have HO7 := Lib.hid (HO6.out.kept (Kept.of_below (fun _ => False) b7) fun b e e' => e'); have KN7 := Lib.hid hn7; have KO7 := Lib.hid ho7; clear b7 hn7 ho7)
          | (refine wpList_storeM (by rfl) _ _ (by rfl) (by rfl) (by rfl) Try.sizeMR rfl rfl (BoxM.new w7 43 (fun _ => 0) 0 (.slice none 0 0) (.slice none 0 0)) ?_; intro hbx; have HY7 := Lib.hid hbx; clear hbx; go_simp)
          | fail)
        have hb8 : Below w7.heap.size w7 ((w7.alloc (.cells zeroD 43)).setRow w7.heap.size (machC F K (.slice EN rn dN) (.slice EO on dO))) := below_setRow ((Below.refl _ _).alloc (Nat.le_refl _) _) (Nat.le_refl _) _
        have hy8 := HY7.out
        change BoxM ((w7.alloc (.cells zeroD 43)).setRow w7.heap.size (machC F K (.slice EN rn dN) (.slice EO on dO))) _ _ _ _ _ _ at hy8
        generalize (w7.alloc (.cells zeroD 43)).setRow w7.heap.size (machC F K (.slice EN rn dN) (.slice EO on dO)) = w8 at *
        have HY8 := Lib.hid hy8
        have HX8 := Lib.hid (HX7.out.stays hb8)
        have HB8 := Lib.hid (gro HB7.out hb8)
        have HN8 := Lib.hid (HN7.out.oth (Kept.of_below (fun _ => False) hb8) oth_none)
        have HO8 := Lib.hid (HO7.out.kept (Kept.of_below (fun _ => False) hb8) fun b e e' => e')
        have KN8 := Lib.hid (KN7.out.oth (Kept.of_below (fun _ => False) hb8) oth_none)
        have KO8 := Lib.hid (KO7.out.kept (Kept.of_below (fun _ => False) hb8) fun b e e' => e')
        obtain ⟨g7, hg7⟩ : ∃ g, w7.heap.size = g := ⟨_, rfl⟩
        rw [hg7] at HY8 ⊢
        clear hy8 hb8 HY7 HX7 HB7 HDB6 HX6 HN7 HO7 KN7 KO7 hg7 HN6 HO6 HN5 HO5
        have HC0 := Lib.hid code0_p
        go_upto_region 14 with (first
          | (go_at_call 13; (with_reducible refine (HC0.out _).mono ?_); rintro e w9 ⟨rfl, rfl⟩)
          | fail)
        have hmx : Try.prog.follows .mixedOrders = true := by kernel_rfl
        have HLK := Lib.hid (fun W : World => like_p W F K AN rn cN AO on cO)
        have HSM := Lib.hid (fun (W : World) (hW : Below w8.heap.size w8 W) => HRSM.out W _ _ _ _ _ _ _ _ _ _ _ _ (HN8.out.oth (Kept.of_below (fun _ => False) hW) oth_none) (HO8.out.kept (Kept.of_below (fun _ => False) hW) fun b e e' => e') (KN8.out.oth (Kept.of_below (fun _ => False) hW) oth_none) (KO8.out.kept (Kept.of_below (fun _ => False) hW) fun b e e' => e'))
        have hR0 := below_drew w8
        refine anyT_begin (R := fun W => Below w8.heap.size w8 W) (S := fun _ => True) (T := []) hmx ?_
        refine anyR_take (i := 0) (v := .agg (machC F K (.slice AN rn cN) (.slice AO on cO))) rfl (by kernel_rfl) (by kernel_rfl) (by kernel_rfl) (fun _ _ _ h => h) (by simp) (yieldsIf_loadM (by rfl) _ (by rfl) (by rfl) (fun W hW => HX8.out.stays hW) Try.underlying38 rfl Try.sizeMM) hR0 (fun _ => trivial) ?_
        refine anyR_take (i := 2) (v := .agg (machC F K (.slice EN rn dN) (.slice EO on dO))) rfl (by kernel_rfl) (by kernel_rfl) (by kernel_rfl) (fun _ _ _ h => h) (by simp) (yieldsIf_loadM (by rfl) _ (by rfl) (by rfl) (fun W hW => HY8.out.stays hW) Try.underlying43 rfl Try.sizeMR) hR0 (fun _ => trivial) ?_
        refine anyT_all (rs := [1]) (by kernel_rfl) (by simp) ?_
        refine all_one (anyT_step rfl fun K' hK => ?_)
        go_simp
        go_at_call 15
        with_reducible refine (HLK.out _).mono ?_
        rintro e w9 ⟨rfl, b9⟩
        have h9 := gro hR0 b9
        refine hK.out _ _ h9 (fun _ => trivial) ?_
        clear hK K' b9
        refine anyT_all (rs := [3]) (by kernel_rfl) (by simp) ?_
        refine all_one (anyT_step rfl fun K' hK => ?_)
        go_simp
        go_at_call 14
        with_reducible refine (HSM.out _ h9).mono ?_
        rintro e w10 ⟨rfl, b10⟩
        have h10 := gro h9 b10
        refine hK.out _ _ h10 (fun _ => trivial) ?_
        clear hK K' b10 h9
        refine anyT_all (rs := [4]) (by kernel_rfl) (by simp) ?_
        refine all_one (anyT_step rfl fun K' hK => ?_)
        go_simp
        refine hK.out _ _ h10 (fun _ => trivial) ?_
        clear hK K'
        refine anyT_done (by kernel_rfl) ?_ _
        have HB10 := Lib.hid (gro HB8.out h10)
        have HX10 := Lib.hid (HX8.out.stays h10)
        have HY10 := Lib.hid (HY8.out.stays h10)
        have HN10 := Lib.hid (HN8.out.oth (Kept.of_below (fun _ => False) h10) oth_none)
        have HO10 := Lib.hid (HO8.out.kept (Kept.of_below (fun _ => False) h10) fun b e e' => e')
        have KN10 := Lib.hid (KN8.out.oth (Kept.of_below (fun _ => False) h10) oth_none)
        have KO10 := Lib.hid (KO8.out.kept (Kept.of_below (fun _ => False) h10) fun b e e' => e')
        clear h10 hR0 HN8 HO8 KN8 KO8 HX8 HY8 HLK HSM
        go_upto_region 15 with fail
        obtain ⟨oo, hoo⟩ : ∃ o, outs.getD (runN F rows xs 0) (0, 0) = o := ⟨_, rfl⟩
        obtain ⟨mA, hmA⟩ : ∃ m, machC F K (.slice AN rn cN) (.slice AO on cO) = m := ⟨_, rfl⟩
        obtain ⟨mB, hmB⟩ : ∃ m, machC F K (.slice EN rn dN) (.slice EO on dO) = m := ⟨_, rfl⟩
        have HRU := Lib.hid (fun (W : World) (hW : Below w10.heap.size w10 W) => by
          have hb := gro HB10.out hW
          have h := mrun_p (c := cc) HOK.out (HN10.out.oth (Kept.of_below (fun _ => False) hW) oth_none) (HO10.out.kept (Kept.of_below (fun _ => False) hW) fun b e e' => e') ((HXB.out.below hb).more hb.size) HBY.out (by rw [HX.out]; exact hxl)
          rw [hoo, HX.out, hmA] at h
          exact h)
        have HRV := Lib.hid (fun (W : World) (hW : Below w10.heap.size w10 W) => by
          have hb := gro HB10.out hW
          have h := rrun_p (c := cc) HOK.out (KN10.out.oth (Kept.of_below (fun _ => False) hW) oth_none) (KO10.out.kept (Kept.of_below (fun _ => False) hW) fun b e e' => e') ((HXB.out.below hb).more hb.size) HBY.out (by rw [HX.out]; exact hxl)
          rw [hoo, HX.out, hmB] at h
          exact h)
        have HMA := Lib.hid hmA
        have HMB2 := Lib.hid hmB
        clear hmA hmB
        have hR0 := below_drew w10
        refine anyT_begin (R := fun W => Below w10.heap.size w10 W) (S := fun _ => True) (T := []) hmx ?_
        refine anyR_take (i := 0) (v := .bool true) rfl (by kernel_rfl) (by kernel_rfl) (by kernel_rfl) (fun _ _ _ h => h) (by simp) (Or.inl ⟨by kernel_rfl, fun w' hS => by go_simp⟩) hR0 (fun _ => trivial) ?_
        refine anyR_take (i := 1) (v := .bool true) rfl (by kernel_rfl) (by kernel_rfl) (by kernel_rfl) (fun _ _ _ h => h) (by simp) (Or.inl ⟨by kernel_rfl, fun w' hS => by go_simp⟩) hR0 (fun _ => trivial) ?_
        refine anyR_take (i := 2) (v := .bool true) rfl (by kernel_rfl) (by kernel_rfl) (by kernel_rfl) (fun _ _ _ h => h) (by simp) (Or.inl ⟨by kernel_rfl, fun w' hS => by go_simp⟩) hR0 (fun _ => trivial) ?_
        refine anyR_take (i := 3) (v := .bool true) rfl (by kernel_rfl) (by kernel_rfl) (by kernel_rfl) (fun _ _ _ h => h) (by simp) (Or.inl ⟨by kernel_rfl, fun w' hS => by go_simp⟩) hR0 (fun _ => trivial) ?_
        refine anyR_take (i := 4) (v := .bool true) rfl (by kernel_rfl) (by kernel_rfl) (by kernel_rfl) (fun _ _ _ h => h) (by simp) (Or.inl ⟨by kernel_rfl, fun w' hS => by go_simp⟩) hR0 (fun _ => trivial) ?_
        refine anyR_take (i := 5) (v := .agg mA) rfl (by kernel_rfl) (by kernel_rfl) (by kernel_rfl) (fun _ _ _ h => h) (by simp) (yieldsIf_loadL HMA.out (by kernel_rfl) (.tmp 19) (by rfl) (by go_simp) (fun W hW => HX10.out.stays hW) Try.underlying38 rfl Try.sizeMM) hR0 (fun _ => trivial) ?_
        refine anyR_take (i := 6) (v := .slice C X cc) rfl (by kernel_rfl) (by kernel_rfl) (by kernel_rfl) (fun _ _ _ h => h) (by simp) (Or.inl ⟨by kernel_rfl, fun w' hS => by go_simp⟩) hR0 (fun _ => trivial) ?_
        refine anyR_take (i := 8) (v := .agg mB) rfl (by kernel_rfl) (by kernel_rfl) (by kernel_rfl) (fun _ _ _ h => h) (by simp) (yieldsIf_loadL HMB2.out (by kernel_rfl) (.tmp 21) (by rfl) (by go_simp) (fun W hW => HY10.out.stays hW) Try.underlying43 rfl Try.sizeMR) hR0 (fun _ => trivial) ?_
        refine anyR_take (i := 9) (v := .slice C X cc) rfl (by kernel_rfl) (by kernel_rfl) (by kernel_rfl) (fun _ _ _ h => h) (by simp) (Or.inl ⟨by kernel_rfl, fun w' hS => by go_simp⟩) hR0 (fun _ => trivial) ?_
        go_simp
        refine anyT_all (rs := [7]) (by kernel_rfl) (by simp) ?_
        refine all_one (anyT_step rfl fun K' hK => ?_)
        go_simp
        go_at_call 16
        with_reducible refine (HRU.out _ hR0).mono ?_
        rintro e w11 ⟨rfl, b11⟩
        have h11 := gro hR0 b11
        refine hK.out _ _ h11 (fun _ => trivial) ?_
        clear hK K' b11
        go_simp
        refine anyT_all (rs := [10]) (by kernel_rfl) (by simp) ?_
        refine all_one (anyT_step rfl fun K' hK => ?_)
        go_simp
        go_at_call 17
        with_reducible refine (HRV.out _ h11).mono ?_
        rintro e w12 ⟨rfl, b12⟩
        have h12 := gro h11 b12
        refine hK.out _ _ h12 (fun _ => trivial) ?_
        clear hK K' b12 h11
        go_simp
        refine anyR_take (i := 11) (v := .bool true) rfl (by kernel_rfl) (by kernel_rfl) (by kernel_rfl) (fun _ _ _ h => h) (by simp) (yieldsIf_eqO (a0 := (oo.1 : Int)) (a1 := (oo.2 : Int)) (by kernel_rfl) (.tmp 104) (.tmp 107) 51 (by rfl) (by go_simp) (by go_simp)) h12 (fun _ => trivial) ?_
        refine anyR_take (i := 12) (v := .bool true) rfl (by kernel_rfl) (by kernel_rfl) (by kernel_rfl) (fun _ _ _ h => h) (by simp) (Or.inl ⟨by kernel_rfl, fun w' hS => by go_simp⟩) h12 (fun _ => trivial) ?_
        go_simp
        refine anyT_all (rs := [13]) (by kernel_rfl) (by simp) ?_
        refine all_one (anyT_step rfl fun K' hK => ?_)
        go_simp
        refine hK.out _ _ h12 (fun _ => trivial) ?_
        clear hK K'
        refine anyT_done (by kernel_rfl) ?_ _
        have HB12 := Lib.hid (gro HB10.out h12)
        clear h12 hR0
        go_wp2
        go_ret
        exact ⟨rfl, HB12.out⟩
  · have hge : w2.heap.size ≤ w3.heap.size := HG5.out.size
    have HLC := Lib.hid (show (checksOf R).length = n by simp [checksOf, HN.out])
    go_upto_region 8 with (first
      | (at_builtin; go_loud (refine wpList_truth (by rfl) _ _ (by rfl) (by rfl) (own_stays HC5.out ((Below.refl _ _).alloc (Nat.le_refl _) _)) (Nat.le_trans hge (by simp)) (by omega) true ⟨_, 0, none⟩ 1 (by rfl) (news_has (cs := #[.bool true]) (heap_alloc_new _ _)) ?_); intro v4 w4 h4 hg4 ho4; obtain ⟨A6, c6, hf6⟩ := own_formM h4; subst hf6; have HB4 := Lib.hid ((B3.out.alloc B3.out.size (.cells #[.bool true] 4)).grown hg4 (Nat.le_trans B3.out.size (by simp)) (fun b e => Nat.le_trans B2.out.size (World.ownsRow.lt HC5.out b (by first | exact e | exact e.symm)).1)); clear h4 hg4 ho4; go_simp)
      | fail)
    have HMB := Lib.hid (mbuild_len w4 A3 A6 n (n + 1) c3 c6 lam most (by omega))
    have HDB := Lib.hid (fun (W : World) (_ : Below w4.heap.size w4 W) => rbuild_len W A4 A6 n (n + 1) c4 c6 lam most (by omega))
    obtain ⟨c, hce, hc1, hc2⟩ : ∃ c : Nat, 1 = c ∧ 1 ≤ c ∧ c ≤ 11 := ⟨1, rfl, by omega, by omega⟩
    have hce1 : (1 : Int) = (c : Int) := by omega
    rw [hce1] at HMB HDB
    clear hce hce1
    have hcc : ((c : Int) != (c : Int)) = false := by simp
    have hc0 : ((c : Int) != 0) = true := by simp; omega
    have HCD := Lib.hid (fun W : World => coden_p W c hc1 hc2)
    unfold errV at HMB
    go_upto_region 9 with (first
      | (go_at_call 11; (with_reducible refine HMB.out.mono ?_); rintro e w5 ⟨rfl, b5⟩; have B5 := Lib.hid b5; have HB5 := Lib.hid (gro HB4.out b5); clear b5)
      | (refine wpList_storeM (by rfl) _ _ (by rfl) (by rfl) (by rfl) Try.sizeMM rfl rfl (BoxM.new w5 38 (fun _ => 0) 0 (.slice none 0 0) (.slice none 0 0)) ?_; intro hbx; have HX5 := Lib.hid hbx; clear hbx; go_simp)
      | fail)
    have hb6 : Below w5.heap.size w5 ((w5.alloc (.cells zeroM 38)).setRow w5.heap.size (machC (fun _ => 0) 0 (.slice none 0 0) (.slice none 0 0))) := below_setRow ((Below.refl _ _).alloc (Nat.le_refl _) _) (Nat.le_refl _) _
    have hx6 := HX5.out
    change BoxM ((w5.alloc (.cells zeroM 38)).setRow w5.heap.size (machC (fun _ => 0) 0 (.slice none 0 0) (.slice none 0 0))) _ _ _ _ _ _ at hx6
    generalize (w5.alloc (.cells zeroM 38)).setRow w5.heap.size (machC (fun _ => 0) 0 (.slice none 0 0) (.slice none 0 0)) = w6 at *
    have HX6 := Lib.hid hx6
    have HB6 := Lib.hid (gro HB5.out hb6)
    have HDB6 := Lib.hid (HDB.out w6 (gro B5.out hb6))
    clear hx6 hb6 HX5 HDB HMB
    go_upto_region 10 with (first
      | (go_at_call 12; (with_reducible refine HDB6.out.mono ?_); rintro e w7 ⟨rfl, b7⟩; have HB7 := Lib.hid (gro HB6.out b7); have HX7 := Lib.hid (HX6.out.stays b7); clear b7)
      | (refine wpList_storeM (by rfl) _ _ (by rfl) (by rfl) (by rfl) Try.sizeMR rfl rfl (BoxM.new w7 43 (fun _ => 0) 0 (.slice none 0 0) (.slice none 0 0)) ?_; intro hbx; clear hbx; go_simp)
      | fail)
    have hb8 : Below w7.heap.size w7 ((w7.alloc (.cells zeroD 43)).setRow w7.heap.size (machC (fun _ => 0) 0 (.slice none 0 0) (.slice none 0 0))) := below_setRow ((Below.refl _ _).alloc (Nat.le_refl _) _) (Nat.le_refl _) _
    generalize (w7.alloc (.cells zeroD 43)).setRow w7.heap.size (machC (fun _ => 0) 0 (.slice none 0 0) (.slice none 0 0)) = w8 at *
    have hx8 := HX7.out.stays hb8
    have HB8 := Lib.hid (gro HB7.out hb8)
    have c1 := hx8.num
    have c2 := hx8.nxt
    have c3 := hx8.out
    clear hx8 hb8 HX7 HB7 HDB6 HX6
    go_wp2_with (first
      | (go_at_call 13; (with_reducible refine (HCD.out _).mono ?_); rintro e w9 ⟨rfl, rfl⟩)
      | fail)
    go_ret
    exact ⟨rfl, HB8.out⟩
end Go.Proofs.Ytnkopcmkanibhaa

/-
  Layer 6's law: MooreTells, with its arguments as they were opened. Contracts for other texts; no statement of its own.
-/
namespace Go.Proofs.Ytnkopcmkanibhaa
open Go Go.RowKit

theorem mooretells_q (w : World) (A : Option Addr) (ca : Nat) (L : List ByteArray) (B : Option Addr) (cb : Nat) (bs : List Bool) (lam most : Int) (more : Bool) (C : Option Addr) (cc : Nat) (xs : List Int)
    (hs : RdStr w A L) (hL : L.length ≤ 9223372036854775807) (hsz : ∀ s ∈ L, s.size ≤ 9223372036854775807) (hb : RdBo w B bs) (hbs : bs.length ≤ 9223372036854775807) (c2 : -9223372036854775808 ≤ lam) (e2 : lam ≤ 9223372036854775807) (c3 : -9223372036854775808 ≤ most) (e3 : most ≤ 9223372036854775807)
    (hx : RdB w w.heap.size C xs) (hby : ∀ k, k < xs.length → 0 ≤ xs.getD k 0 ∧ xs.getD k 0 ≤ 255) (hxl : xs.length ≤ 9223372036854775807) :
    Calls Try.prog 3 #[.slice A L.length ca, .slice B bs.length cb, .int .i64 lam, .int .i64 most, .bool more, .slice C xs.length cc] w fun e w' => e = .returned (.bool true) ∧ Below w.heap.size w w' :=
  mooretells_p hs hb hL hbs hsz ⟨c2, e2⟩ ⟨c3, e3⟩ hx hby hxl
end Go.Proofs.Ytnkopcmkanibhaa

/-
  How arguments that came in are opened for a walk: a byte, a slice of bytes. No statement of its own.
-/
namespace Go.Proofs.Ytnkopcmkanibhaa
open Go Go.ChangeShapes Go.WideShapes Go.ChangeAt Go.RowKit

theorem Try.ownKnobNone : ownKnob Try.prog.godebug = none := by kernel_rfl
theorem Try.laidOutOk : laidOutB Try.prog = true := by kernel_rfl

section
variable {H : Type} {enc : TypeId × Value → H} {W : World} {base : Nat} {spare : Nat → Bool} {held : Bool} {v : Value} {d : DataW H} {ps : List MemPlace}
theorem open_byte (hv : Value.okWide Try.prog W .any base 5 v) (h : DataW.Trod enc Try.prog W 0 spare held 5 v d ps) :
    ∃ n : Int, v = .int .u8 n ∧ 0 ≤ n ∧ n ≤ 255 := by
  obtain ⟨x, rfl, _, _, wx⟩ := open_int Try.underlying5 hv h
  exact ⟨x, rfl, bounds_u8 wx⟩
/-- A slice of bytes that came in: its elements xs. -/
theorem open_bytes (hv : Value.okWide Try.prog W .any base 24 v) (h : DataW.Trod enc Try.prog W 0 (fun _ => true) held 24 v d ps) :
    ∃ A n cap xs, v = .slice A n cap ∧ n = xs.length ∧ RdB W W.heap.size A xs ∧ (∀ k, k < xs.length → 0 ≤ xs.getD k 0 ∧ xs.getD k 0 ≤ 255) ∧ n ≤ cap ∧ cap ≤ maxLen := by
  obtain ⟨A, n, cap, rfl⟩ := okWide_slice Try.underlying24 hv
  obtain ⟨fuel, hf⟩ := h
  rcases open_ints Try.underlying24 Try.underlying5 (by kernel_rfl) hf with ⟨hcs, _⟩ | ⟨x, l, c, zs, hcs, _, hl, hm, hz, _, hcell, hwz⟩
  · simp [Value.cells] at hcs
    obtain ⟨rfl, rfl, rfl⟩ := hcs
    exact ⟨none, 0, 0, [], rfl, rfl, fun k hk => by simp at hk, fun k hk => by simp at hk, Nat.le_refl _, Nat.zero_le _⟩
  · simp [Value.cells] at hcs
    obtain ⟨rfl, rfl, rfl⟩ := hcs
    simp at hz
    refine ⟨_, n, cap, zs.take n, rfl, by simp; omega, ?_, ?_, hl, hm⟩
    · intro k hk
      simp at hk
      obtain ⟨b, off, rfl, hc⟩ := ints_at hcell (by omega)
      have hck := hc k (by omega)
      refine ⟨b, off, rfl, World.block_lt_of_cell? W ⟨b, off + k, none⟩ hck, ?_⟩
      rw [hck, List.getD_eq_getElem?_getD, List.getD_eq_getElem?_getD, List.getElem?_take_of_lt (by omega)]
    · intro k hk
      have hk' := hk
      simp at hk'
      have hb := range_u8 hwz k
      rw [List.getD_eq_getElem?_getD, List.getElem?_take_of_lt (by omega)]
      exact hb
end

end Go.Proofs.Ytnkopcmkanibhaa

/-
  A slice of texts, a slice of truths, that came in, opened for a walk. No statement of its own.
-/
namespace Go.Proofs.Ytnkopcmkanibhaa
open Go Go.ChangeShapes Go.WideShapes Go.ChangeAt Go.RowKit Go.Deep

theorem addr_plain {W : World} {a : Addr} {v : Value} (h : W.cell? (a.add 0) = some v) : ∃ b off, a = ⟨b, off, none⟩ := by
  obtain ⟨b, off, spot⟩ := a
  have : spot = none := by simpa [Addr.add] using World.cell?_spot h
  subst this
  exact ⟨b, off, rfl⟩
section
variable {H : Type} {enc : TypeId × Value → H} {W : World} {base : Nat} {held : Bool} {v : Value} {d : DataW H} {ps : List MemPlace}
theorem open_texts (hv : Value.okWide Try.prog W .any base 22 v) (h : DataW.Trod enc Try.prog W 0 (fun _ => true) held 22 v d ps) :
    ∃ A n cap L, v = .slice A n cap ∧ n = L.length ∧ RdStr W A L ∧ n ≤ cap ∧ cap ≤ maxLen ∧ ∀ s ∈ L, s.size ≤ maxLen := by
  obtain ⟨A, n, cap, rfl⟩ := okWide_slice Try.underlying22 hv
  obtain ⟨fuel, hf⟩ := h
  rcases open_strs Try.underlying22 Try.underlying9 (by kernel_rfl) hf with ⟨hcs, _⟩ | ⟨a, len, c, m, Sx, hcs, _, hl, hm, hmm, _, hcell⟩
  · simp [Value.cells] at hcs
    obtain ⟨rfl, rfl, rfl⟩ := hcs
    exact ⟨none, 0, 0, [], rfl, rfl, fun k s hk => by simp at hk, Nat.le_refl _, Nat.zero_le _, fun s hs => by simp at hs⟩
  · simp [Value.cells] at hcs
    obtain ⟨rfl, rfl, rfl⟩ := hcs
    have hnm : n ≤ m := by rw [hmm]; simp; omega
    refine ⟨_, n, cap, (List.range n).map Sx, rfl, by simp, fun i s hi => ?_, hl, hm, fun s hs => ?_⟩
    · have hlt : i < n := by have := (List.getElem?_eq_some_iff.1 hi).1; simpa using this
      simp [hlt] at hi
      subst hi
      obtain ⟨b, off, rfl⟩ := addr_plain (hcell 0 (by omega)).1
      have hc := (hcell i (by omega)).1
      rw [Go.WideShapes.add_plain] at hc
      exact ⟨b, off, rfl, World.block_lt_of_cell? W ⟨b, off + i, none⟩ hc, hc⟩
    · simp at hs
      obtain ⟨i, hi, rfl⟩ := hs
      exact (hcell i (by omega)).2
theorem open_truths (hv : Value.okWide Try.prog W .any base 23 v) (h : DataW.Trod enc Try.prog W 0 (fun _ => true) held 23 v d ps) :
    ∃ A n cap L, v = .slice A n cap ∧ n = L.length ∧ RdBo W A L ∧ n ≤ cap ∧ cap ≤ maxLen := by
  obtain ⟨A, n, cap, rfl⟩ := okWide_slice Try.underlying23 hv
  obtain ⟨fuel, hf⟩ := h
  rcases open_bools Try.underlying23 Try.underlying4 (by kernel_rfl) hf with ⟨hcs, _⟩ | ⟨a, len, c, B, hcs, _, hl, hm, _, hcell⟩
  · simp [Value.cells] at hcs
    obtain ⟨rfl, rfl, rfl⟩ := hcs
    exact ⟨none, 0, 0, [], rfl, rfl, fun k s hk => by simp at hk, Nat.le_refl _, Nat.zero_le _⟩
  · simp [Value.cells] at hcs
    obtain ⟨rfl, rfl, rfl⟩ := hcs
    refine ⟨_, n, cap, (List.range n).map B, rfl, by simp, fun i s hi => ?_, hl, hm⟩
    have hlt : i < n := by have := (List.getElem?_eq_some_iff.1 hi).1; simpa using this
    simp [hlt] at hi
    subst hi
    obtain ⟨b, off, rfl⟩ := addr_plain (hcell 0 (by omega))
    have hc := hcell i (by omega)
    rw [Go.WideShapes.add_plain] at hc
    exact ⟨b, off, rfl, World.block_lt_of_cell? W ⟨b, off + i, none⟩ hc, hc⟩
end
end Go.Proofs.Ytnkopcmkanibhaa
