/-
  Several texts of this proof in one file: AppE, MooMeet2, MooSrch, MooOwn, MooIn, RefRd. No statement of its own.
-/
import Derived.Test.YtnkopcmkanibhaaMo1
import Derived.Test.YtnkopcmkanibhaaMo5
import Derived.Deep.RegionHeld
import Derived.Deep.RegionLaw
import Derived.Deep.Cut
import Derived.Deep.CutRange
import Derived.Deep.DeepCutAuto
import Derived.Test.YtnkopcmkanibhaaMo2
import Derived.Test.YtnkopcmkanibhaaMo4
import Derived.Test.YtnkopcmkanibhaaMo3
import Derived.Deep.QuietTactic
import Derived.BigQuiet
set_option linter.unusedVariables false
set_option linter.unusedSimpArgs false

/-
  append as one step of a walk, what it tells named. Laws for other texts; no statement of its own.
  In a walk: 'attribute [local go_sem ↓] run_appE' ahead of it; 'App t ty w v s' (app_is) and what appV, appW are, for each world in which the append may come up.
-/
namespace Go.Proofs.Ytnkopcmkanibhaa
open Go Go.RowKit

/-- What append tells, and what world it leaves. -/
def resV : Result Value → Value
  | .ok r _ => r
  | _ => undef
def resW (w : World) : Result Value → World
  | .ok _ r => r
  | _ => w
noncomputable def appV (t ty : TypeId) (w : World) (v s : Value) : Value := resV ((Builtin.append_ #[t, t] ty #[v, s]).run Try.prog w)
noncomputable def appW (t ty : TypeId) (w : World) (v s : Value) : World := resW w ((Builtin.append_ #[t, t] ty #[v, s]).run Try.prog w)
def App (t ty : TypeId) (w : World) (v s : Value) : Prop := (Builtin.append_ #[t, t] ty #[v, s]).run Try.prog w = .ok (appV t ty w v s) (appW t ty w v s)
theorem app_is {t ty : TypeId} {w w' : World} {v s v' : Value} (h : (Builtin.append_ #[t, t] ty #[v, s]).run Try.prog w = .ok v' w') : App t ty w v s ∧ appV t ty w v s = v' ∧ appW t ty w v s = w' := by
  unfold App appV appW
  rw [h]
  exact ⟨rfl, rfl, rfl⟩
theorem run_appE {ρ : Operand → Value} {dst : Option Tmp} {s x : Operand} {t ty : TypeId} {pos : String} {after : Array Edge} {guard : Option (Nat × Bool)} {w : World} (h : App t ty w (ρ s) (ρ x)) :
    Sem.run Try.prog (execOp ρ { dst := dst, op := .call { callee := .builtin .append, args := #[s, x], argTypes := #[t, t] }, type := ty, pos := pos, after := after, guard := guard }) w = .ok (.value (appV t ty w (ρ s) (ρ x))) (appW t ty w (ρ s) (ρ x)) := by
  unfold App at h
  unfold execOp
  simp only [resolve, invoke, builtin, Sem.run_bind, Sem.run_pure, Result.andThen_ok, List.map_toArray, List.map_cons, List.map_nil, h]
end Go.Proofs.Ytnkopcmkanibhaa

/-
  moore: meet: a state's number. Contracts for other texts; no statement of its own.
-/
namespace Go.Proofs.Ytnkopcmkanibhaa
open Go Go.RowKit Go.Maps
attribute [local go_sem ↓] Go.wp_at_zero Go.wp_at_succ
attribute [local go_sem ↓] run_appE

/-- What meet tells, and leaves. -/
def RetMeet (w : World) (K : Nat → Prop) (gs : Nat) (ss : List Sta) (st : Sta) (e : Ending) (w' : World) : Prop :=
  ∃ (i : Nat) (ss' : List Sta) (K' : Nat → Prop), e = .returned (.int .i64 i) ∧ ss'[i]? = some st ∧ (ss' = ss ∨ (st ∉ ss ∧ ss' = ss ++ [st])) ∧ Known w' K' gs ss' ∧ (∀ b, K' b → K b ∨ w.heap.size ≤ b) ∧ Kept K w w'

theorem lawStr : Keyed Try.prog 9 := string_keyed Try.underlying9
theorem Try.zeroIntM (w : World) : (zeroValue 3).run Try.prog w = .ok (.int .i64 0) w := by kernel_rfl

theorem Try.infoSlM : (Try.prog.info? 102).map (fun i => (i.zero, i.size, i.bytes)) = some (some (.slice none 0 0), 1, 24) := by kernel_rfl
theorem wf_i64 (x : Int) (h0 : 0 ≤ x) (h1 : x ≤ 100000) : (Lit.int .i64 x).wf = true := by
  have e1 : IntKind.i64.min = -9223372036854775808 := by decide
  have e2 : IntKind.i64.max = 9223372036854775807 := by decide
  show (decide (IntKind.i64.min ≤ x) && decide (x ≤ IntKind.i64.max)) = true
  rw [e1, e2]
  simp
  omega
theorem bts_bys {w : World} {B : Nat} {v : Value} {s : Sta} (h : Bts w B v (keyB s)) : Bys w B v (keyI s) := by
  unfold Bts at h
  unfold Bys
  have e : (keyI s).map (Value.int .u8) = bytesV (keyB s) := by simp [keyI, bytesV]
  rw [e, show (keyI s).length = (keyB s).length by simp [keyI]]
  exact h
set_option maxRecDepth 20000 in
theorem map_look {w : World} {bm n : Nat} {D : DataW Unit} (h : w.ownsMap (H := Unit) Try.prog 9 (plainElem Try.prog 3) bm n D) {s : Sta} (hs : s.length ≤ 100000) {c : Int} (hc : D.atKey (litK s) (.lit (.int .i64 0)) = .lit (.int .i64 c)) :
    (Instr.lookup 97 (.map (some bm)) (.string (keyS s)) true).run Try.prog w = .ok (.tuple #[.int .i64 c, .bool (Maps.has D (litK s))]) w := by
  obtain ⟨v, ps, hrun, hv⟩ := h.look_ok lawStr Try.underlying97 (Try.zeroIntM w) (plainElem_int Try.underlying3 (a := 0) (by decide)) (Go.WideMaps.keyOf_string_mk Try.underlying9 (s := keyS s) (by rw [keyS_size]; unfold maxLen; omega))
  obtain ⟨a, rfl, h2, _⟩ := plainElem_int_inv Try.underlying3 hv
  have h3 : D.atKey (litK s) (.lit (.int .i64 0)) = .lit (.int .i64 a) := congrArg Prod.fst h2
  rw [hc] at h3
  injection h3 with h3
  injection h3 with _ h3
  subst h3
  exact hrun

set_option maxRecDepth 20000 in
set_option maxHeartbeats 2000000 in
theorem mmeet_p {w : World} {K : Nat → Prop} {gs D0 : Nat} {ss : List Sta} {va0 : Value} {st : Sta} (hk : Known w K gs ss) (ha : Wds w D0 va0 st) (hap : ∀ b, va0.ownBlock = some b → ¬ K b) (hst : okSt st) (hl : st.length ≤ 100000) (hn : ss.length ≤ 100000) :
    Calls Try.prog 39 #[.pointer (some ⟨gs, 0, none⟩), va0] w (RetMeet w K gs ss st) := by
  obtain ⟨va, bm, vs, D, h1, h2, h3, h4, h5, h6, k1, k2, k3, k4⟩ := hk.mem
  have hkey := mkey_p ha hl hst
  have HKEY := Lib.hid hkey
  obtain ⟨As, cs, rfl⟩ := own_formM h3
  have hA0 := ha
  obtain ⟨A0, c0, rfl⟩ := ha.form
  have hgs := lt_of_some h1
  have hbm : bm < w.heap.size := h5.lt
  have H1 : Hid (HasO w gs (.cells #[.slice As ss.length cs, .map (some bm)] 100 (0, 0))) := h1
  have H3 := Lib.hid h3
  have H4 := Lib.hid h4
  have H5 := Lib.hid h5
  have H6 := Lib.hid h6
  have HK := Lib.hid hk
  have HA := Lib.hid hA0
  have HAP := Lib.hid hap
  have HST := Lib.hid hst
  have HVS := Lib.hid h2
  have K3 := Lib.hid k3
  have K4 := Lib.hid k4
  obtain ⟨L, hL⟩ : ∃ L, st.length = L := ⟨_, rfl⟩
  have HL := Lib.hid hL
  obtain ⟨S, hS⟩ : ∃ S, ss.length = S := ⟨_, rfl⟩
  have HS := Lib.hid hS
  have hconv : ∀ (W : World) (v : Value), Bts W 0 v (keyB st) → (convert 24 9 v).run Try.prog W = .ok (.string (keyS st)) W := fun W v h => by
    have hb := bts_bys h
    obtain ⟨A, c, rfl⟩ := hb.form
    exact bys_conv hb
  have HCV := Lib.hid hconv
  clear hkey h1 h2 h3 h4 h5 h6 hk hA0 ha hap hst k3 k4 hconv
  by_cases hin : st ∈ ss
  · obtain ⟨i, hi, hie⟩ := List.mem_iff_getElem.1 hin
    have hi? : ss[i]? = some st := by rw [← hie]; exact List.getElem?_eq_getElem hi
    have hat := H6.out.idx i st hi?
    have hhas : Maps.has (H := Unit) D (litK st) = true := (H6.out.has st HST.out).2 hin
    have hlk : ∀ W, Below w.heap.size w W → (Instr.lookup 97 (.map (some bm)) (.string (keyS st)) true).run Try.prog W = .ok (.tuple #[.int .i64 (i : Int), .bool true]) W := fun W hW => by
      have hm : W.ownsMap (H := Unit) Try.prog 9 (plainElem Try.prog 3) bm ss.length D := by
        obtain ⟨es, clock, hm, r⟩ := H5.out
        exact ⟨es, clock, (hW.block bm hbm).trans hm, r⟩
      have := map_look hm (by rw [HL.out]; omega) hat
      rw [hhas] at this
      exact this
    have HLK := Lib.hid hlk
    have HI := Lib.hid hi?
    clear hin hi hie hi? hat hhas hlk
    rw [hL]
    rw [hL] at HKEY
    go_enter Try.func39, Try.ntmps39
    go_wp2_with (first
      | (go_at_call 61; (with_reducible refine HKEY.out.mono ?_); rintro e w1 ⟨v1, rfl, b1, hb1⟩; have hcv := fun n => HCV.out (w1.drewN n) v1 (own_lower (b1.stays (below_dn (Below.refl _ _) n)) (Nat.zero_le _)); have hlk := fun n => HLK.out (w1.drewN n) (below_dn hb1 n); have hm1 : ∀ n, (w1.drewN n).cell? ⟨gs, 1, none⟩ = some (.map (some bm)) := (fun n => cell_of_row _ gs 1 _ _ (0, 0) (has_stays H1.out (below_dn hb1 n))); have hm10 := hm1 0; have HB1 := Lib.hid hb1; clear b1 hb1)
      | fail)
    go_quiet (fail)
    go_wp2
    go_ret
    exact ⟨i, ss, K, rfl, HI.out, .inl rfl, HK.out.off (Kept.of_below (fun _ => False) (below_dn HB1.out nq)) (fun b q => q.elim), fun b h => .inl h, Kept.of_below K (below_dn HB1.out nq)⟩
  · have hhas : Maps.has (H := Unit) D (litK st) = false := by
      cases h : Maps.has (H := Unit) D (litK st)
      · rfl
      · exact absurd ((H6.out.has st HST.out).1 h) hin
    have hat : D.atKey (litK st) (.lit (.int .i64 0)) = .lit (.int .i64 0) := Maps.atKey_of_not_has hhas _
    have hlk : ∀ W, Below w.heap.size w W → (Instr.lookup 97 (.map (some bm)) (.string (keyS st)) true).run Try.prog W = .ok (.tuple #[.int .i64 0, .bool false]) W := fun W hW => by
      have hm : W.ownsMap (H := Unit) Try.prog 9 (plainElem Try.prog 3) bm ss.length D := by
        obtain ⟨es, clock, hm, r⟩ := H5.out
        exact ⟨es, clock, (hW.block bm hbm).trans hm, r⟩
      have := map_look hm (by rw [HL.out]; omega) hat
      rw [hhas] at this
      exact this
    have HLK := Lib.hid hlk
    have HIN := Lib.hid hin
    have hkO : keyOf Try.prog 9 (.string (keyS st)) = some (litK st) := Go.WideMaps.keyOf_string_mk Try.underlying9 (by rw [keyS_size, HL.out]; unfold maxLen; omega)
    have hpe : plainElem (H := Unit) Try.prog 3 (.int .i64 (S : Int)) = some (.lit (.int .i64 (S : Int)), []) := plainElem_int Try.underlying3 (wf_i64 _ (by omega) (by omega))
    have HKO := Lib.hid hkO
    have HPE := Lib.hid hpe
    have hmu : ∀ W, Below w.heap.size w W → W.ownsMap (H := Unit) Try.prog 9 (plainElem Try.prog 3) bm ss.length D := fun W hW => by
      obtain ⟨es, clock, hm, r⟩ := H5.out
      exact ⟨es, clock, (hW.block bm hbm).trans hm, r⟩
    have HMU := Lib.hid hmu
    have hnm : ss.length < maxLen := by unfold maxLen; omega
    have HNM := Lib.hid hnm
    clear hin hat hhas hlk hkO hpe hmu hnm
    rw [hL]
    rw [hL] at HKEY
    rw [hS] at H1
    go_enter Try.func39, Try.ntmps39
    go_wp2_with (first
      | (go_at_call 61; (with_reducible refine HKEY.out.mono ?_); rintro e w1 ⟨v1, rfl, b1, hb1⟩; have hcv := fun n => HCV.out (w1.drewN n) v1 (own_lower (b1.stays (below_dn (Below.refl _ _) n)) (Nat.zero_le _)); have hlk := fun n => HLK.out (w1.drewN n) (below_dn hb1 n); have hm1 : ∀ n, (w1.drewN n).cell? ⟨gs, 1, none⟩ = some (.map (some bm)) := (fun n => cell_of_row _ gs 1 _ _ (0, 0) (has_stays H1.out (below_dn hb1 n))); have hm10 := hm1 0; have hm00 : w1.cell? ⟨gs, 0, none⟩ = some (.slice As S cs) := (cell_of_row _ gs 0 _ _ (0, 0) (has_stays H1.out hb1)); have HB1 := Lib.hid hb1; have BT1 := Lib.hid b1; clear b1 hb1)
      | fail)
    go_quiet (fail)
    go_upto_region 5 with fail
    have hb2 : Below w.heap.size w (w1.drewN nq) := below_dn HB1.out nq
    have hm2 := hm1 nq
    have hm02 : (w1.drewN nq).cell? ⟨gs, 0, none⟩ = some (.slice As S cs) := hm00
    have hcvn : ∀ n, (convert 24 9 v1).run Try.prog ((w1.drewN nq).drewN n) = .ok (.string (keyS st)) ((w1.drewN nq).drewN n) := fun n => by rw [World.drewN_drewN]; exact hcv (nq + n)
    have hcvd : (convert 24 9 v1).run Try.prog (w1.drewN nq).drew = .ok (.string (keyS st)) (w1.drewN nq).drew := hcv (nq + 1)
    clear hcv hlk hm1 hm10 hm00
    generalize w1.drewN nq = w2 at *
    have HB2 := Lib.hid hb2
    clear hb2
    go_still_tail 7, (by kernel_rfl)
    change wpList _ _ _ _ _ (World.drew _)
    go_wp2_with (first
      | (at_mapUpdate; refine wpList_mapUpdate_in _ rfl _ _ _ 97 rfl 9 3 lawStr Try.underlying97 _ bm ss.length D rfl (HMU.out _ HB2.out.drew) HNM.out _ _ _ rfl rfl HKO.out _ [] HPE.out ?_; intro w3 o3 t3; have O3 := Lib.hid o3; have T3 := Lib.hid t3; clear o3 t3)
      | fail)
    have hne : gs ≠ bm := fun e => by
      obtain ⟨es, clock, hm, _⟩ := H5.out
      have h1 := H1.out
      unfold HasO at h1
      rw [e, hm] at h1
      cases h1
    have hk3 : Kept (fun b => b = bm) w w3 := ((Kept.of_below (fun b => b = bm) HB2.out).drew).grown T3.out.grown fun b e => .inl (by injection e with e; exact e.symm)
    have hnc : ∀ b cur ty, w.heap[b]? = some (.cells cur ty (0, 0)) → b ≠ bm := fun b cur ty h e => by
      obtain ⟨es, clock, hm, _⟩ := H5.out
      rw [e, hm] at h
      cases h
    have hb3 : w3.heap[gs]? = w.heap[gs]? := hk3.block gs hgs hne
    have H13 : Hid (HasO w3 gs (.cells #[.slice As S cs, .map (some bm)] 100 (0, 0))) := hb3.trans H1.out
    have h33 : w3.ownsRow 0 102 1 (.slice As S cs) S vs := by
      have h := H3.out
      rw [HS.out] at h
      exact own_block h fun b e hb => hk3.block b hb (by obtain ⟨cur, hc⟩ := own_kind h e; exact hnc b cur _ hc)
    have h43 : ∀ (i : Nat) v s, vs[i]? = some v → ss[i]? = some s → Wds w3 0 v s := fun i v s e1 e2 => (H4.out i v s e1 e2).off hk3 fun b e => by obtain ⟨cur, hc⟩ := (H4.out i v s e1 e2).kind e; exact hnc b cur _ hc
    have ha3 : Wds w3 D0 (.slice A0 st.length c0) st := HA.out.off hk3 fun b e q => HAP.out b e (by subst q; exact k2)
    have hcl : ∀ W, Below w3.heap.size w3 W → Calls Try.prog 62 #[.slice A0 L c0] W fun e w' => ∃ A c, e = .returned (.slice A L c) ∧ Wds w' W.heap.size (.slice A L c) st ∧ Below w3.heap.size w3 w' := fun W hW => by
      have h := wclone_p (ha3.stays hW) (by rw [HL.out]; omega)
      rw [HL.out] at h
      refine h.mono fun e w' h' => ?_
      obtain ⟨v', e1, e2, e3⟩ := h'
      obtain ⟨A, c, e4⟩ := e2.form
      rw [HL.out] at e4
      subst e4
      exact ⟨A, c, e1, e2, gro hW e3⟩
    obtain ⟨i0, hi, hz0, hz1, hz2⟩ := info_parts Try.infoSlM
    have happ : ∀ (W : World) (A5 : Option Addr) (c5 : Nat), Below w3.heap.size w3 W → ∃ A6 c6 w6, App 98 98 (W.alloc (.cells #[.slice A5 L c5] 102)) (.slice As S cs) (.slice (some ⟨W.heap.size, 0, none⟩) 1 1) ∧
        appV 98 98 (W.alloc (.cells #[.slice A5 L c5] 102)) (.slice As S cs) (.slice (some ⟨W.heap.size, 0, none⟩) 1 1) = .slice A6 (S + 1) c6 ∧
        appW 98 98 (W.alloc (.cells #[.slice A5 L c5] 102)) (.slice As S cs) (.slice (some ⟨W.heap.size, 0, none⟩) 1 1) = w6 ∧
        w6.ownsRow 0 102 1 (.slice A6 (S + 1) c6) (S + 1) (vs ++ [.slice A5 L c5]) ∧ (W.alloc (.cells #[.slice A5 L c5] 102)).grownBy w6 (Value.slice As S cs).ownBlock ∧ ((Value.slice A6 (S + 1) c6).ownBlock = (Value.slice As S cs).ownBlock ∨ (Value.slice A6 (S + 1) c6).ownBlock = some (W.heap.size + 1)) := fun W A5 c5 hW => by
      have hal : Below W.heap.size W (W.alloc (.cells #[.slice A5 L c5] 102)) := (Below.refl _ _).alloc (Nat.le_refl _) _
      obtain ⟨v6, w6, hr, r1, r2, _, r3⟩ := run_append_own_at (P := Try.prog) (W.alloc (.cells #[.slice A5 L c5] 102)) 0 98 98 102 i0 _ 1 24 Try.underlying98 hi hz0 hz1 hz2 rfl (by decide) _ S vs (own_stays (own_stays h33 hW) hal) ⟨W.heap.size, 0, none⟩ 1 1 [.slice A5 L c5] rfl
        (by
          intro j u hu
          rw [Addr.add_lit, Nat.zero_add, cell_of_row _ _ j _ 102 (0, 0) (heap_alloc_new W _)]
          simpa using hu)
        (by
          intro u hu
          simp at hu
          subst hu
          rfl) (by unfold maxLen; omega) (by omega) (Nat.zero_le _)
      obtain ⟨A6, c6, rfl⟩ := own_formM r1
      obtain ⟨q1, q2, q3⟩ := app_is (ty := 98) hr
      exact ⟨A6, c6, w6, q1, q2, q3, r1, r2, by simpa using r3⟩
    have x00 : w3.cell? ⟨gs, 0, none⟩ = some (.slice As S cs) := cell_of_row _ gs 0 _ _ (0, 0) H13.out
    have HCL := Lib.hid hcl
    have HAPP := Lib.hid happ
    have H33 := Lib.hid h33
    have H43 := Lib.hid h43
    have HKK3 := Lib.hid hk3
    have HNE := Lib.hid hne
    have hng : some gs ≠ (Value.slice As S cs).ownBlock := fun e => by
      obtain ⟨cur, hc⟩ := own_kind H33.out e.symm
      exact kind_apart H13.out hc (by decide) rfl
    have HNG := Lib.hid hng
    clear hng
    clear hcl happ h33 h43 hk3 hnc hb3 ha3 hi hz0 hz1 hz2 hm2 hm02 hcvn hcvd hne
    go_region_law (first
      | (go_simp; go_at_call 62; (with_reducible refine (HCL.out _ (by repeat (first | with_reducible exact Below.refl _ _ | with_reducible refine Below.drew ?_))).mono ?_); rintro e w5 ⟨A5, c5, rfl, y5, b5⟩; have x05 : w5.cell? ⟨gs, 0, none⟩ = some (.slice As S cs) := cell_of_row _ gs 0 _ _ (0, 0) (has_stays H13.out b5); have x05a := cell_al x05 (.cells #[.slice A5 L c5] 102); obtain ⟨A6, c6, w6, a1, a2, a3, a4, a5, a6⟩ := HAPP.out w5 A5 c5 b5; have hx6 := has_grown a5 (has_alloc (.cells #[.slice A5 L c5] 102) (has_stays H13.out b5)) HNG.out; have x06 : w6.cell? ⟨gs, 0, none⟩ = some (.slice As S cs) := cell_of_row _ gs 0 _ _ (0, 0) hx6; have f06 : w6.frozen? ⟨gs, 0, none⟩ = false := frozen_of_row w6 gs 0 _ _ hx6; have HX6 := Lib.hid hx6; have Y5 := Lib.hid y5; have B5 := Lib.hid b5; have R6 := Lib.hid a4; have G6 := Lib.hid a5; have O6 := Lib.hid a6; clear y5 b5 a4 a5 a6 hx6)
      | fail)
    all_goals
      go_wp2
      go_ret
      obtain ⟨w2', hw2'⟩ : ∃ w2', w6.setCell ⟨gs, 0, none⟩ (.slice A6 (S + 1) c6) = w2' := ⟨_, rfl⟩
      rw [hw2']
      have kq5 : Kept (fun b => b = gs ∨ (Value.slice As S cs).ownBlock = some b) w5 w2' := by
        rw [← hw2']
        exact (((Kept.refl (fun b => b = gs ∨ (Value.slice As S cs).ownBlock = some b) w5).alloc (.cells #[.slice A5 L c5] 102)).grown G6.out fun b e => .inl (.inr e)).setCell (a := ⟨gs, 0, none⟩) (.inl (.inl rfl)) _
      have kq3 : Kept (fun b => b = gs ∨ (Value.slice As S cs).ownBlock = some b) w3 w2' := (Kept.of_below (fun b => b = gs ∨ (Value.slice As S cs).ownBlock = some b) B5.out).trans kq5 fun b e => .inl e
      have s5 := B5.out.size
      have s3 := HKK3.out.size
      have s2 := kq5.size
      have s6 : w2'.heap.size = w6.heap.size := by rw [← hw2']; simp [World.setCell]
      have g6s := G6.out.size
      rw [World.size_alloc] at g6s
      have hnw : ∀ (v : Value) (s : Sta), Wds w3 0 v s → Wds w2' 0 v s := fun v s h => h.off kq3 fun b e q => by
        obtain ⟨cur, hc⟩ := h.kind e
        rcases q with q | q
        · subst q; exact kind_apart H13.out hc (by decide) rfl
        · obtain ⟨cur2, hc2⟩ := own_kind H33.out q
          exact kind_apart hc2 hc (by decide) rfl
      have hy5 : Wds w2' 0 (.slice A5 L c5) st := (Y5.out.low (Nat.zero_le _)).off kq5 fun b e q => by
        obtain ⟨cur, hc⟩ := Y5.out.kind e
        rcases q with q | q
        · subst q; exact kind_apart (has_stays H13.out B5.out) hc (by decide) rfl
        · obtain ⟨cur2, hc2⟩ := own_kind (own_stays H33.out B5.out) q
          exact kind_apart hc2 hc (by decide) rfl
      have hr6 : w2'.ownsRow 0 102 1 (.slice A6 (S + 1) c6) (S + 1) (vs ++ [.slice A5 L c5]) := own_block R6.out fun b e _ => by
        rw [← hw2']
        refine Below.heap_setCell _ _ _ _ fun e2 => ?_
        have e3 : b = gs := e2
        subst e3
        obtain ⟨cur, hc⟩ := own_kind R6.out e
        exact kind_apart HX6.out hc (by decide) rfl
      have hbm6 : w2'.heap[bm]? = w3.heap[bm]? := kq3.block bm (by omega) fun q => by
        rcases q with q | q
        · exact HNE.out q.symm
        · obtain ⟨cur2, hc2⟩ := own_kind H33.out q
          obtain ⟨es, clock, hm, _⟩ := O3.out
          rw [hm] at hc2
          cases hc2
      have hgs6 : w2'.heap[gs]? = some (.cells #[.slice A6 (S + 1) c6, .map (some bm)] 100 (0, 0)) := by
        rw [← hw2']
        have h := HX6.out
        unfold HasO at h
        simp [World.setCell, Array.getElem?_modify, h]
      have hlt6 := fun b e => World.ownsRow.lt hr6 b e
      refine ⟨S, ss ++ [st], fun b => K b ∨ (w.heap.size ≤ b ∧ b < w2'.heap.size), rfl, by rw [← HS.out]; simp, .inr ⟨HIN.out, rfl⟩, ⟨⟨.slice A6 (S + 1) c6, bm, vs ++ [.slice A5 L c5], D.put (litK st) (.lit (.int .i64 (ss.length : Nat))), hgs6, by simp [HVS.out], by rw [List.length_append, HS.out]; exact hr6, fun i v s e1 e2 => ?_, ?_, H6.out.put HST.out HIN.out, .inl k1, .inl k2, fun b e => ?_, fun v hv b e => ?_⟩, fun b hb => ?_, ?_⟩, fun b hb => hb.imp id fun h => h.1, ?_⟩
      · by_cases hiS : i < ss.length
        · rw [List.getElem?_append_left (by rw [HVS.out]; exact hiS)] at e1
          rw [List.getElem?_append_left hiS] at e2
          exact hnw v s (H43.out i v s e1 e2)
        · have hi' : i = ss.length := by
            have := (List.getElem?_eq_some_iff.1 e2).1
            simp at this
            omega
          subst hi'
          rw [List.getElem?_append_right (by rw [HVS.out]; exact Nat.le_refl _)] at e1
          simp [HVS.out] at e1 e2
          subst e1 e2
          exact hy5
      · obtain ⟨es, clock, hm, r⟩ := O3.out
        rw [List.length_append, HS.out] at *
        exact ⟨es, clock, hbm6.trans hm, r⟩
      · rcases O6.out with h | h
        · exact .inl (K3.out b (by have := h.symm.trans e; rw [← HS.out] at this; exact this))
        · have h2 : w5.heap.size + 1 = b := by have := h.symm.trans e; injection this
          exact .inr ⟨by omega, (hlt6 b e).2⟩
      · rcases List.mem_append.1 hv with h | h
        · exact .inl (K4.out v h b e)
        · rw [List.mem_singleton] at h
          subst h
          have := Y5.out.in e
          simp only [World.size_drew] at this
          exact .inr ⟨by omega, by omega⟩
      · rcases hb with h | h
        · have := HK.out.lt b h; omega
        · exact h.2
      · rw [List.nodup_append]
        exact ⟨HK.out.nodup, by simp, fun a ha b hb => by rw [List.mem_singleton] at hb; subst hb; exact fun e => HIN.out (e ▸ ha)⟩
      · refine (HKK3.out.mono (Q' := K) fun b e => .inl (by subst e; exact k2)).trans kq3 fun b q => ?_
        rcases q with q | q
        · exact .inl (q ▸ k1)
        · exact .inl (K3.out b (by rw [← HS.out] at q; exact q))
end Go.Proofs.Ytnkopcmkanibhaa

/-
  A search in breadth: states as they are met, a row of numbers for each. Mathematics for other texts; no statement of its own.
-/
namespace Go.Proofs.Ytnkopcmkanibhaa
open Go

section
variable {α : Type} [DecidableEq α]
def meetL (ss : List α) (t : α) : List α := if t ∈ ss then ss else ss ++ [t]
theorem meetL_mem (ss : List α) (t : α) : t ∈ meetL ss t := by
  unfold meetL
  split
  · assumption
  · simp
theorem meetL_nodup {ss : List α} (h : ss.Nodup) (t : α) : (meetL ss t).Nodup := by
  unfold meetL
  split
  · exact h
  · rename_i hn
    rw [List.nodup_append]
    refine ⟨h, by simp, fun a ha b hb => ?_⟩
    rw [List.mem_singleton] at hb
    subst hb
    exact fun e => hn (e ▸ ha)
theorem meetL_pre (ss : List α) (t : α) : ∃ z, meetL ss t = ss ++ z := by
  unfold meetL
  split
  · exact ⟨[], by simp⟩
  · exact ⟨[t], rfl⟩
def idxM (ss : List α) (t : α) : Nat := ss.idxOf t
/-- Where in a list without repeats a thing stands. -/
theorem idx_of {ss : List α} {t : α} {i : Nat} (hn : ss.Nodup) (h : ss[i]? = some t) : idxM ss t = i := by
  unfold idxM
  obtain ⟨hi, he⟩ := List.getElem?_eq_some_iff.1 h
  have hm : t ∈ ss := List.mem_of_getElem? h
  have hl : ss.idxOf t < ss.length := List.idxOf_lt_length_of_mem hm
  have e : ss[ss.idxOf t] = t := List.getElem_idxOf hl
  exact (List.getElem_inj hn).1 (e.trans he.symm)
theorem idxM_lt {ss : List α} {t : α} (h : t ∈ ss) : idxM ss t < ss.length := List.idxOf_lt_length_of_mem h
theorem idx_get {ss : List α} {t : α} (h : t ∈ ss) : ss[idxM ss t]? = some t := by
  have hl : ss.idxOf t < ss.length := idxM_lt h
  unfold idxM
  rw [List.getElem?_eq_getElem hl, List.getElem_idxOf hl]
theorem idx_pre {ss z : List α} {t : α} (h : t ∈ ss) : idxM (ss ++ z) t = idxM ss t := by unfold idxM; rw [List.idxOf_append, if_pos h]
/-- A row: k classes from c on are left. -/
def rowS (f : Nat → α) (most : Nat) : Nat → Nat → List α → List Nat → Option (List α × List Nat)
  | 0, c, ss, row => some (ss, row)
  | k + 1, c, ss, row => if (meetL ss (f c)).length > most then none else rowS f most k (c + 1) (meetL ss (f c)) (row ++ [idxM (meetL ss (f c)) (f c)])
/-- The search: from the i-th state on. -/
def buildS (step : α → Nat → α) (most n : Nat) : Nat → Nat → List α → List (List Nat) → Option (List α × List (List Nat))
  | 0, i, ss, rows => some (ss, rows)
  | fu + 1, i, ss, rows => match ss[i]? with
    | none => some (ss, rows)
    | some s => match rowS (step s) most n 0 ss [] with
      | none => none
      | some (ss', row) => buildS step most n fu (i + 1) ss' (rows ++ [row])
/-- What a row is. -/
theorem rowS_ok {f : Nat → α} {most : Nat} : ∀ {k c : Nat} {ss : List α} {row : List Nat} {ss' : List α} {row' : List Nat}, rowS f most k c ss row = some (ss', row') → ss.Nodup → ss.length ≤ most →
    (∀ j, j < row.length → ∃ t, f j = t ∧ t ∈ ss ∧ row[j]? = some (idxM ss t)) → row.length = c →
    (∃ z, ss' = ss ++ z) ∧ ss'.Nodup ∧ ss'.length ≤ most ∧ row'.length = c + k ∧ ∀ j, j < c + k → f j ∈ ss' ∧ row'[j]? = some (idxM ss' (f j))
  | 0, c, ss, row, ss', row', h, hn, hm, hr, hc => by
    unfold rowS at h
    injection h with h
    injection h with h1 h2
    subst h1 h2
    refine ⟨⟨[], by simp⟩, hn, hm, by omega, fun j hj => ?_⟩
    obtain ⟨t, h1, h2, h3⟩ := hr j (by omega)
    subst h1
    exact ⟨h2, h3⟩
  | k + 1, c, ss, row, ss', row', h, hn, hm, hr, hc => by
    unfold rowS at h
    split at h
    · cases h
    · rename_i hlen
      obtain ⟨z, hz⟩ := meetL_pre ss (f c)
      obtain ⟨⟨z', h1⟩, h2, h3, h4, h5⟩ := rowS_ok h (meetL_nodup hn _) (by omega) (fun j hj => by
        simp at hj
        by_cases e : j < row.length
        · obtain ⟨t, h1, h2, h3⟩ := hr j e
          refine ⟨t, h1, by rw [hz]; exact List.mem_append_left _ h2, ?_⟩
          rw [List.getElem?_append_left e, h3, hz, idx_pre h2]
        · have e' : j = c := by omega
          subst e'
          refine ⟨f j, rfl, meetL_mem _ _, ?_⟩
          rw [List.getElem?_append_right (by omega), ← hc, Nat.sub_self]
          rfl) (by simp [hc])
      refine ⟨⟨z ++ z', by rw [h1, hz, List.append_assoc]⟩, h2, h3, by omega, fun j hj => h5 j (by omega)⟩
/-- What the search comes to. -/
structure Fnd (step : α → Nat → α) (n : Nat) (ss : List α) (rows : List (List Nat)) (i : Nat) : Prop where
  nodup : ss.Nodup
  len : rows.length = i
  row : ∀ j, j < i → ∃ s row, ss[j]? = some s ∧ rows[j]? = some row ∧ row.length = n ∧ ∀ c, c < n → step s c ∈ ss ∧ row[c]? = some (idxM ss (step s c))
theorem Fnd.more {step : α → Nat → α} {n : Nat} {ss : List α} {rows : List (List Nat)} {i : Nat} (h : Fnd step n ss rows i) {z : List α} (hn : (ss ++ z).Nodup) {s : α} (hs : ss[i]? = some s) {row : List Nat} (hl : row.length = n)
    (hr : ∀ c, c < n → step s c ∈ ss ++ z ∧ row[c]? = some (idxM (ss ++ z) (step s c))) : Fnd step n (ss ++ z) (rows ++ [row]) (i + 1) := by
  refine ⟨hn, by simp [h.len], fun j hj => ?_⟩
  by_cases e : j < i
  · obtain ⟨s', row', h1, h2, h3, h4⟩ := h.row j e
    have hjl := (List.getElem?_eq_some_iff.1 h1).1
    refine ⟨s', row', by rw [List.getElem?_append_left hjl]; exact h1, by rw [List.getElem?_append_left (by rw [h.len]; exact e)]; exact h2, h3, fun c hc => ?_⟩
    obtain ⟨h5, h6⟩ := h4 c hc
    exact ⟨List.mem_append_left _ h5, by rw [idx_pre h5]; exact h6⟩
  · have e' : j = i := by omega
    subst e'
    have hjl := (List.getElem?_eq_some_iff.1 hs).1
    exact ⟨s, row, by rw [List.getElem?_append_left hjl]; exact hs, by rw [List.getElem?_append_right (by rw [h.len]; exact Nat.le_refl _), h.len, Nat.sub_self]; rfl, hl, hr⟩
theorem buildS_ok {step : α → Nat → α} {most n : Nat} : ∀ {fu i : Nat} {ss : List α} {rows : List (List Nat)} {ss' : List α} {rows' : List (List Nat)}, buildS step most n fu i ss rows = some (ss', rows') → most < fu + i → i ≤ ss.length → ss.length ≤ most → Fnd step n ss rows i → Fnd step n ss' rows' ss'.length ∧ ss'.length ≤ most ∧ ∃ z, ss' = ss ++ z
  | 0, i, ss, rows, ss', rows', h, hf, hi, hm, hfo => by omega
  | fu + 1, i, ss, rows, ss', rows', h, hf, hi, hm, hfo => by
    unfold buildS at h
    cases e : ss[i]? with
    | none =>
      rw [e] at h
      simp only at h
      injection h with h
      injection h with h1 h2
      subst h1 h2
      have hil : i = ss.length := by
        rw [List.getElem?_eq_none_iff] at e
        omega
      rw [← hil]
      exact ⟨hfo, by omega, [], by simp⟩
    | some s =>
      rw [e] at h
      simp only at h
      have hil := (List.getElem?_eq_some_iff.1 e).1
      cases e2 : rowS (step s) most n 0 ss [] with
      | none => rw [e2] at h; cases h
      | some v =>
        obtain ⟨ss1, row⟩ := v
        rw [e2] at h
        simp only at h
        obtain ⟨⟨z, h1⟩, h2, h3, h4, h5⟩ := rowS_ok e2 hfo.nodup hm (fun j hj => by simp at hj) rfl
        subst h1
        obtain ⟨h6, h7, z', h8⟩ := buildS_ok h (by omega) (by simp; omega) h3 (hfo.more h2 e (by omega) (fun c hc => h5 c (by omega)))
        exact ⟨h6, h7, z ++ z', by rw [h8, List.append_assoc]⟩
end
end Go.Proofs.Ytnkopcmkanibhaa

/-
  What a machine of states owns: its rows, what is told; what stands in memory while one is built. Laws for other texts; no statement of its own.
-/
namespace Go.Proofs.Ytnkopcmkanibhaa
open Go Go.RowKit

def outC (l : List (Nat × Nat)) : List Value := l.flatMap fun o => [.int .u64 (o.1 : Int), .int .u64 (o.2 : Int)]
theorem outC_len (l : List (Nat × Nat)) : (outC l).length = l.length * 2 := by
  induction l with
  | nil => rfl
  | cons p l ih => simp only [outC, List.flatMap_cons, List.length_append, List.length_cons, List.length_nil] at ih ⊢; omega
theorem outC_snoc (l : List (Nat × Nat)) (o : Nat × Nat) : outC (l ++ [o]) = outC l ++ [.int .u64 (o.1 : Int), .int .u64 (o.2 : Int)] := by simp [outC]
theorem outC_get : ∀ (l : List (Nat × Nat)) (i : Nat) (o : Nat × Nat), l[i]? = some o → (outC l)[i * 2]? = some (.int .u64 (o.1 : Int)) ∧ (outC l)[i * 2 + 1]? = some (.int .u64 (o.2 : Int))
  | [], i, o, h => by simp at h
  | p :: l, 0, o, h => by
    simp at h
    subst h
    exact ⟨rfl, rfl⟩
  | p :: l, i + 1, o, h => by
    obtain ⟨h1, h2⟩ := outC_get l i o (by simpa using h)
    have e : outC (p :: l) = [.int .u64 (p.1 : Int), .int .u64 (p.2 : Int)] ++ outC l := rfl
    rw [e, List.getElem?_append_right (by simp; omega), List.getElem?_append_right (by simp; omega)]
    simp only [List.length_cons, List.length_nil]
    rw [show (i + 1) * 2 - (0 + 1 + 1) = i * 2 by omega, show (i + 1) * 2 + 1 - (0 + 1 + 1) = i * 2 + 1 by omega]
    exact ⟨h1, h2⟩
/-- Rows of numbers, each in memory of its own; their blocks are O's. -/
structure Nxt (w : World) (B : Nat) (O : Nat → Prop) (vN : Value) (rows : List (List Nat)) : Prop where
  mem : ∃ vs, vs.length = rows.length ∧ w.ownsRow B 59 1 vN rows.length vs ∧ (∀ (i : Nat) u r, vs[i]? = some u → rows[i]? = some r → Ints w B u (ns r)) ∧ ∀ u ∈ vs, ∀ b, u.ownBlock = some b → O b
  inO : ∀ b, vN.ownBlock = some b → O b
/-- What is told, in memory of its own. -/
structure Ots (w : World) (B : Nat) (O : Nat → Prop) (vO : Value) (outs : List (Nat × Nat)) : Prop where
  row : w.ownsRow B 51 2 vO outs.length (outC outs)
  inO : ∀ b, vO.ownBlock = some b → O b
section
variable {w w' : World} {B : Nat} {O O' Q : Nat → Prop} {vN vO v' : Value} {rows : List (List Nat)} {outs : List (Nat × Nat)}
theorem Nxt.kept (h : Nxt w B O vN rows) (hk : Kept Q w w') (hq : ∀ b, O b → ¬ Q b) : Nxt w' B O vN rows := by
  obtain ⟨vs, h1, h2, h3, h4⟩ := h.mem
  exact ⟨⟨vs, h1, own_block h2 fun b e hb => hk.block b hb (hq b (h.inO b e)), fun i u r e1 e2 => (h3 i u r e1 e2).block fun b e hb => hk.block b hb (hq b (h4 u (List.mem_of_getElem? e1) b e)), h4⟩, h.inO⟩
theorem Ots.kept (h : Ots w B O vO outs) (hk : Kept Q w w') (hq : ∀ b, O b → ¬ Q b) : Ots w' B O vO outs := ⟨own_block h.row fun b e hb => hk.block b hb (hq b (h.inO b e)), h.inO⟩
theorem Nxt.more (h : Nxt w B O vN rows) (ho : ∀ b, O b → O' b) : Nxt w B O' vN rows := by
  obtain ⟨vs, h1, h2, h3, h4⟩ := h.mem
  exact ⟨⟨vs, h1, h2, h3, fun u hu b e => ho b (h4 u hu b e)⟩, fun b e => ho b (h.inO b e)⟩
theorem Ots.more (h : Ots w B O vO outs) (ho : ∀ b, O b → O' b) : Ots w B O' vO outs := ⟨h.row, fun b e => ho b (h.inO b e)⟩
theorem Nxt.low {C : Nat} (h : Nxt w B O vN rows) (hC : C ≤ B) : Nxt w C O vN rows := by
  obtain ⟨vs, h1, h2, h3, h4⟩ := h.mem
  exact ⟨⟨vs, h1, own_lower h2 hC, fun i u r e1 e2 => (h3 i u r e1 e2).low hC, h4⟩, h.inO⟩
theorem Ots.low {C : Nat} (h : Ots w B O vO outs) (hC : C ≤ B) : Ots w C O vO outs := ⟨own_lower h.row hC, h.inO⟩
theorem Nxt.nil (w : World) (B : Nat) (O : Nat → Prop) : Nxt w B O (.slice none 0 0) [] := ⟨⟨[], rfl, World.ownsRow_nil _ _ _ 1, fun i u r e1 e2 => by simp at e1, fun u hu => by simp at hu⟩, fun b e => by cases e⟩
theorem Ots.nil (w : World) (B : Nat) (O : Nat → Prop) : Ots w B O (.slice none 0 0) [] := ⟨World.ownsRow_nil _ _ _ 2, fun b e => by cases e⟩
theorem Nxt.form (h : Nxt w B O vN rows) : ∃ A c, vN = .slice A rows.length c := by obtain ⟨vs, h1, h2, _⟩ := h.mem; exact own_formM h2
theorem Ots.form (h : Ots w B O vO outs) : ∃ A c, vO = .slice A outs.length c := own_formM h.row
theorem Nxt.in (h : Nxt w B O vN rows) : ∀ b, vN.ownBlock = some b → B ≤ b ∧ b < w.heap.size := fun b e => by obtain ⟨vs, h1, h2, _⟩ := h.mem; exact World.ownsRow.lt h2 b e
theorem Ots.in (h : Ots w B O vO outs) : ∀ b, vO.ownBlock = some b → B ≤ b ∧ b < w.heap.size := fun b e => World.ownsRow.lt h.row b e
end
/-- What stands in memory while a machine is built: its variable gm, its rows and what it tells, the states that are known, a place for words. w0: the world when the states' list was made. -/
structure BS (w0 w : World) (gm gs : Nat) (K O : Nat → Prop) (F : Nat → Nat) (n : Int) (vN vO vr : Value) (rows : List (List Nat)) (outs : List (Nat × Nat)) (ss : List Sta) (l0 : Sta) : Prop where
  keep : Kept (fun b => b = gm) w0 w
  gmlt : gm < w0.heap.size
  box : BoxM w gm 38 F n vN vO
  nxt : Nxt w w0.heap.size O vN rows
  ots : Ots w w0.heap.size O vO outs
  olt : ∀ b, O b → w0.heap.size ≤ b ∧ b < w.heap.size
  kn : Known w K gs ss
  kge : ∀ b, K b → w0.heap.size ≤ b
  room : Wds w w0.heap.size vr l0
  rK : ∀ b, vr.ownBlock = some b → ¬ K b
  rO : ∀ b, vr.ownBlock = some b → ¬ O b
  oK : ∀ b, O b → ¬ K b
section
variable {w0 w w' : World} {gm gs : Nat} {K K' O Q : Nat → Prop} {F : Nat → Nat} {n : Int} {vN vO vr v' : Value} {rows : List (List Nat)} {outs : List (Nat × Nat)} {ss ss' : List Sta} {l0 l1 : Sta}
theorem wds_in {w : World} {B : Nat} {v : Value} {l : Sta} (h : Wds w B v l) : ∀ b, v.ownBlock = some b → B ≤ b ∧ b < w.heap.size := fun b e => World.ownsRow.lt h b e
theorem BS.off (h : BS w0 w gm gs K O F n vN vO vr rows outs ss l0) (hk : Kept Q w w') (hq : ∀ b, Q b → b < w.heap.size → w0.heap.size ≤ b ∧ ¬ K b ∧ ¬ O b ∧ vr.ownBlock ≠ some b) : BS w0 w' gm gs K O F n vN vO vr rows outs ss l0 := by
  have hs := h.keep.size
  have hg := h.gmlt
  have hqO : ∀ b, O b → ¬ Q b := fun b e q => (hq b q (h.olt b e).2).2.2.1 e
  refine ⟨h.keep.trans (hk.mono (Q' := fun b => w0.heap.size ≤ b) fun b e => ?_) fun b e => .inr e, h.gmlt, h.box.kept hk fun e => ?_, h.nxt.kept hk hqO, h.ots.kept hk hqO, fun b e => ⟨(h.olt b e).1, Nat.lt_of_lt_of_le (h.olt b e).2 hk.size⟩, h.kn.off (Q := fun b => Q b ∧ b < w.heap.size) ?_ fun b e => (hq b e.1 e.2).2.1, h.kge, own_block h.room fun b e hb => hk.block b hb fun q => (hq b q hb).2.2.2 e, h.rK, h.rO, h.oK⟩
  · by_cases hb : b < w.heap.size
    · exact .inl (hq b e hb).1
    · exact .inr (by omega)
  · have := (hq gm e (by omega)).1
    omega
  · exact hk.mono fun b e => by
      by_cases hb : b < w.heap.size
      · exact .inl ⟨e, hb⟩
      · exact .inr (by omega)
theorem BS.stays (h : BS w0 w gm gs K O F n vN vO vr rows outs ss l0) (hb : Below w.heap.size w w') : BS w0 w' gm gs K O F n vN vO vr rows outs ss l0 := h.off (Kept.of_below (fun _ => False) hb) fun b e => e.elim
/-- The words of a step have been written. -/
theorem BS.by' (h : BS w0 w gm gs K O F n vN vO vr rows outs ss l0) (hw : Wds w' w0.heap.size v' l1) (hk : Kept (fun b => vr.ownBlock = some b) w w') (hv : ∀ b, v'.ownBlock = some b → vr.ownBlock = some b ∨ w.heap.size ≤ b) : BS w0 w' gm gs K O F n vN vO v' rows outs ss l1 := by
  have hs := h.keep.size
  have hg := h.gmlt
  have hin := wds_in h.room
  have hqO : ∀ b, O b → ¬ vr.ownBlock = some b := fun b e q => h.rO b q e
  refine ⟨h.keep.trans hk fun b e => .inr (hin b e).1, h.gmlt, h.box.kept hk fun e => ?_, h.nxt.kept hk hqO, h.ots.kept hk hqO, fun b e => ⟨(h.olt b e).1, Nat.lt_of_lt_of_le (h.olt b e).2 hk.size⟩, h.kn.off hk fun b e => h.rK b e, h.kge, hw, fun b e => ?_, fun b e => ?_, h.oK⟩
  · have := (hin gm e).1
    omega
  · rcases hv b e with e' | e'
    · exact h.rK b e'
    · exact fun k => by have := h.kn.lt b k; omega
  · rcases hv b e with e' | e'
    · exact h.rO b e'
    · exact fun k => by have := (h.olt b k).2; omega
/-- A state has been met. -/
theorem BS.met (h : BS w0 w gm gs K O F n vN vO vr rows outs ss l0) (hn : Known w' K' gs ss') (hk : Kept K w w') (hK : ∀ b, K' b → K b ∨ w.heap.size ≤ b) : BS w0 w' gm gs K' O F n vN vO vr rows outs ss' l0 := by
  have hs := h.keep.size
  have hg := h.gmlt
  refine ⟨h.keep.trans hk fun b e => .inr (h.kge b e), h.gmlt, h.box.kept hk fun e => ?_, h.nxt.kept hk h.oK, h.ots.kept hk h.oK, fun b e => ⟨(h.olt b e).1, Nat.lt_of_lt_of_le (h.olt b e).2 hk.size⟩, hn, fun b e => (hK b e).elim (h.kge b) fun x => by omega, own_block h.room fun b e hb => hk.block b hb (h.rK b e), fun b e k => ?_, h.rO, fun b e k => ?_⟩
  · have := h.kge gm e
    omega
  · have := (wds_in h.room b e).2
    exact (hK b k).elim (h.rK b e) fun x => by omega
  · have := (h.olt b e).2
    exact (hK b k).elim (h.oK b e) fun x => by omega
end
end Go.Proofs.Ytnkopcmkanibhaa

/-
  What stands in memory while a machine's row is made. Laws for other texts; no statement of its own.
-/
namespace Go.Proofs.Ytnkopcmkanibhaa
open Go Go.RowKit

/-- While a row is made: the words ahead, the row. -/
structure IS (w0 w : World) (gm gs : Nat) (K O : Nat → Prop) (F : Nat → Nat) (n : Int) (vN vO vr : Value) (rows : List (List Nat)) (outs : List (Nat × Nat)) (ss : List Sta) (l0 : Sta) (va : Value) (al : Sta) (gx C : Nat) (xs : List Nat) : Prop where
  bs : BS w0 w gm gs K O F n vN vO vr rows outs ss l0
  ah : Wds w w0.heap.size va al
  aK : ∀ b, va.ownBlock = some b → ¬ K b
  aR : ∀ b, va.ownBlock = some b → vr.ownBlock ≠ some b
  row : Ints w w0.heap.size (.slice (some ⟨gx, 0, none⟩) C C) (ns xs)
  xK : ¬ K gx
  xR : vr.ownBlock ≠ some gx
  xA : va.ownBlock ≠ some gx
  xO : ¬ O gx
section
variable {w0 w w' : World} {gm gs gx C : Nat} {K K' O Q : Nat → Prop} {F : Nat → Nat} {n : Int} {vN vO vr v' va : Value} {rows : List (List Nat)} {outs : List (Nat × Nat)} {ss ss' : List Sta} {l0 l1 al : Sta} {xs : List Nat}
theorem IS.gxlt (h : IS w0 w gm gs K O F n vN vO vr rows outs ss l0 va al gx C xs) : w0.heap.size ≤ gx ∧ gx < w.heap.size := World.ownsRow.lt h.row gx rfl
theorem IS.off (h : IS w0 w gm gs K O F n vN vO vr rows outs ss l0 va al gx C xs) (hk : Kept Q w w') (hq : ∀ b, Q b → b < w.heap.size → w0.heap.size ≤ b ∧ ¬ K b ∧ ¬ O b ∧ vr.ownBlock ≠ some b ∧ va.ownBlock ≠ some b ∧ b ≠ gx) : IS w0 w' gm gs K O F n vN vO vr rows outs ss l0 va al gx C xs :=
  ⟨h.bs.off hk fun b e hb => ⟨(hq b e hb).1, (hq b e hb).2.1, (hq b e hb).2.2.1, (hq b e hb).2.2.2.1⟩, own_block h.ah fun b e hb => hk.block b hb fun q => (hq b q hb).2.2.2.2.1 e, h.aK, h.aR, own_block h.row fun b e hb => hk.block b hb fun q => (hq b q hb).2.2.2.2.2 (by injection e with e; exact e.symm), h.xK, h.xR, h.xA, h.xO⟩
theorem IS.stays (h : IS w0 w gm gs K O F n vN vO vr rows outs ss l0 va al gx C xs) (hb : Below w.heap.size w w') : IS w0 w' gm gs K O F n vN vO vr rows outs ss l0 va al gx C xs := h.off (Kept.of_below (fun _ => False) hb) fun b e => e.elim
theorem IS.by' (h : IS w0 w gm gs K O F n vN vO vr rows outs ss l0 va al gx C xs) (hw : Wds w' w0.heap.size v' l1) (hk : Kept (fun b => vr.ownBlock = some b) w w') (hv : ∀ b, v'.ownBlock = some b → vr.ownBlock = some b ∨ w.heap.size ≤ b) : IS w0 w' gm gs K O F n vN vO v' rows outs ss l1 va al gx C xs := by
  refine ⟨h.bs.by' hw hk hv, own_block h.ah fun b e hb => hk.block b hb (h.aR b e), h.aK, fun b e e' => ?_, own_block h.row fun b e hb => hk.block b hb fun q => ?_, h.xK, fun e => ?_, h.xA, h.xO⟩
  · have := (wds_in h.ah b e).2
    exact (hv b e').elim (h.aR b e) fun x => by omega
  · have e2 : gx = b := by injection e
    subst e2
    exact h.xR q
  · have := h.gxlt.2
    exact (hv gx e).elim h.xR fun x => by omega
theorem IS.met (h : IS w0 w gm gs K O F n vN vO vr rows outs ss l0 va al gx C xs) (hn : Known w' K' gs ss') (hk : Kept K w w') (hK : ∀ b, K' b → K b ∨ w.heap.size ≤ b) : IS w0 w' gm gs K' O F n vN vO vr rows outs ss' l0 va al gx C xs := by
  refine ⟨h.bs.met hn hk hK, own_block h.ah fun b e hb => hk.block b hb (h.aK b e), fun b e k => ?_, h.aR, own_block h.row fun b e hb => hk.block b hb fun q => ?_, fun k => ?_, h.xR, h.xA, h.xO⟩
  · have := (wds_in h.ah b e).2
    exact (hK b k).elim (h.aK b e) fun x => by omega
  · have e2 : gx = b := by injection e
    subst e2
    exact h.xK q
  · have := h.gxlt.2
    exact (hK gx k).elim h.xK fun x => by omega
theorem IS.cell (h : IS w0 w gm gs K O F n vN vO vr rows outs ss l0 va al gx C xs) (j : Nat) (hj : j < C) : ∃ y, w.cell? ⟨gx, j, none⟩ = some y ∧ w.frozen? ⟨gx, j, none⟩ = false := by
  have hr := h.row
  have hC : C = (ns xs).length := by
    obtain ⟨A', c', e⟩ := hr.form
    injection e
  subst hC
  have h1 := World.ownsRow.cellAt hr j (by omega)
  rw [List.getElem?_eq_getElem (by rw [List.length_map]; exact hj)] at h1
  exact ⟨_, h1, World.ownsRow.frozenAt hr j⟩
theorem ns_set (l : List Nat) (c v : Nat) : (ns l).set c (v : Int) = ns (l.set c v) := by
  unfold ns
  rw [List.map_set]
  rfl
/-- A number is stored into the row. -/
theorem IS.set (h : IS w0 w gm gs K O F n vN vO vr rows outs ss l0 va al gx C xs) (c v : Nat) : IS w0 (w.setCell ⟨gx, c, none⟩ (.int .i64 (v : Int))) gm gs K O F n vN vO vr rows outs ss l0 va al gx C (xs.set c v) := by
  have hk : Kept (fun b => b = gx) w (w.setCell ⟨gx, c, none⟩ (.int .i64 (v : Int))) := (Kept.refl (fun b => b = gx) w).setCell (a := ⟨gx, c, none⟩) (.inl rfl) _
  have hgx := h.gxlt
  refine ⟨h.bs.off hk fun b e hb => ?_, own_block h.ah fun b e hb => hk.block b hb fun q => h.xA (q ▸ e), h.aK, h.aR, ?_, h.xK, h.xR, h.xA, h.xO⟩
  · subst e
    exact ⟨hgx.1, h.xK, h.xO, h.xR⟩
  · have hr := h.row
    have hC : C = (ns xs).length := by
      obtain ⟨A', c', e⟩ := hr.form
      injection e
    subst hC
    have := (World.ownsRow.stored (g := gx) hr c (.int .i64 (v : Int))).1
    unfold Ints
    rw [← ns_set, List.length_set, List.map_set]
    exact this
end
theorem lastB_255 (F : Nat → Nat) (c : Nat) : lastB F 256 c ≤ 255 := by
  show (if F 255 = c then 255 else lastB F 255 c) ≤ 255
  split
  · exact Nat.le_refl _
  · exact lastB_lt F 255 c
/-- What meet tells, as a plain function. -/
theorem meet_is {w : World} {K : Nat → Prop} {gs : Nat} {ss : List Sta} {st : Sta} {e : Ending} {w' : World} (h : RetMeet w K gs ss st e w') (hn : ss.Nodup) : ∃ K', e = .returned (.int .i64 ((idxM (meetL ss st) st : Nat) : Int)) ∧ Known w' K' gs (meetL ss st) ∧ (∀ b, K' b → K b ∨ w.heap.size ≤ b) ∧ Kept K w w' := by
  obtain ⟨i, ss', K', rfl, hi, hs, hk, hK, hkp⟩ := h
  have e : ss' = meetL ss st := by
    unfold meetL
    rcases hs with rfl | ⟨h1, h2⟩
    · rw [if_pos (List.mem_of_getElem? hi)]
    · rw [if_neg h1, h2]
  subst e
  exact ⟨K', by rw [idx_of (meetL_nodup hn st) hi], hk, hK, hkp⟩
theorem set_next (row : List Nat) (C v : Nat) (h : row.length < C) : (row ++ List.replicate (C - row.length) 0).set row.length v = (row ++ [v]) ++ List.replicate (C - (row.length + 1)) 0 := by
  have e : C - row.length = (C - (row.length + 1)) + 1 := by omega
  rw [e, List.replicate_succ, List.set_append_right _ _ (Nat.le_refl _), Nat.sub_self]
  simp
theorem meetL_le {α : Type} [DecidableEq α] (ss : List α) (t : α) : (meetL ss t).length ≤ ss.length + 1 := by
  unfold meetL
  split <;> simp
theorem meetL_all {α : Type} [DecidableEq α] {ss : List α} {t : α} {P : α → Prop} (h : ∀ s ∈ ss, P s) (ht : P t) : ∀ s ∈ meetL ss t, P s := fun s hs => by
  unfold meetL at hs
  split at hs
  · exact h s hs
  · rw [List.mem_append, List.mem_singleton] at hs
    rcases hs with hs | rfl
    · exact h s hs
    · exact ht
end Go.Proofs.Ytnkopcmkanibhaa

/-
  The document's own reader of patterns (package snaffleref02, type Reader): its state as plain numbers, and what its small steps do. Contracts for other texts; no statement of its own.
-/
namespace Go.Proofs.Ytnkopcmkanibhaa
open Go Go.RowKit

/-- Where the reader is; how many brackets are open; what is amiss (0: nothing); where. -/
structure St where
  pos : Nat
  opn : Int
  bad : Int
  spot : Int

/-- Byte k of a text, as a number. -/
def bt (s : ByteArray) (k : Nat) : Nat := (s.data.toList.getD k 0).toNat
theorem bt_eq (s : ByteArray) (k : Nat) (h : k < s.size) : bt s k = (s[k]'h).toNat := by
  unfold bt
  rw [List.getD_eq_getElem?_getD, List.getElem?_eq_getElem (by simpa using h)]
  rfl
theorem bt_lt (s : ByteArray) (k : Nat) : bt s k < 256 := by unfold bt; exact UInt8.toNat_lt _

namespace St
def fail (st : St) (at_ bad : Int) : St := if st.bad = 0 then { st with bad := bad, spot := at_ } else st
def peek (s : ByteArray) (st : St) : Int := if st.bad ≠ 0 ∨ s.size ≤ st.pos then -1 else (bt s st.pos : Int)
def step (st : St) (k : Nat) : St := { st with pos := st.pos + k }
def next (s : ByteArray) (st : St) : Int × St := if st.peek s < 0 then (-1, st.fail s.size 2) else (st.peek s, st.step 1)
end St

/-- Block g holds the reader. -/
def Rdr (w : World) (g : Nat) (s : ByteArray) (st : St) : Prop :=
  w.heap[g]? = some (.cells #[.string s, .int .i64 (st.pos : Int), .int .i64 st.opn, .int .i64 st.bad, .int .i64 st.spot] 160 (0, 0))

section
variable {w w' : World} {g : Nat} {s : ByteArray} {st : St}
theorem Rdr.cell (h : Rdr w g s st) : w.cell? ⟨g, 0, none⟩ = some (.string s) ∧ w.cell? ⟨g, 1, none⟩ = some (.int .i64 (st.pos : Int)) ∧ w.cell? ⟨g, 2, none⟩ = some (.int .i64 st.opn) ∧ w.cell? ⟨g, 3, none⟩ = some (.int .i64 st.bad) ∧ w.cell? ⟨g, 4, none⟩ = some (.int .i64 st.spot) := by
  unfold Rdr at h
  refine ⟨?_, ?_, ?_, ?_, ?_⟩ <;> exact cell_of_row w g _ _ 160 (0, 0) h
theorem Rdr.frozen (h : Rdr w g s st) : w.frozen? ⟨g, 0, none⟩ = false ∧ w.frozen? ⟨g, 1, none⟩ = false ∧ w.frozen? ⟨g, 2, none⟩ = false ∧ w.frozen? ⟨g, 3, none⟩ = false ∧ w.frozen? ⟨g, 4, none⟩ = false := by
  unfold Rdr at h
  refine ⟨?_, ?_, ?_, ?_, ?_⟩ <;> simp [World.frozen?, h]
theorem Rdr.lt (h : Rdr w g s st) : g < w.heap.size := lt_of_some h
theorem Rdr.drew (h : Rdr w g s st) : Rdr w.drew g s st := h
theorem Rdr.drewN (h : Rdr w g s st) (n : Nat) : Rdr (w.drewN n) g s st := h
end

section
variable {w w' : World} {g : Nat} {s : ByteArray} {st : St}
theorem Rdr.setPos (h : Rdr w g s st) (k : Nat) : Rdr (w.setCell ⟨g, 1, none⟩ (.int .i64 (k : Int))) g s { st with pos := k } := by
  unfold Rdr at *
  simp [World.setCell, Array.getElem?_modify, h]
theorem Rdr.setOpn (h : Rdr w g s st) (k : Int) : Rdr (w.setCell ⟨g, 2, none⟩ (.int .i64 k)) g s { st with opn := k } := by
  unfold Rdr at *
  simp [World.setCell, Array.getElem?_modify, h]
theorem Rdr.setBad (h : Rdr w g s st) (k : Int) : Rdr (w.setCell ⟨g, 3, none⟩ (.int .i64 k)) g s { st with bad := k } := by
  unfold Rdr at *
  simp [World.setCell, Array.getElem?_modify, h]
theorem Rdr.setSpot (h : Rdr w g s st) (k : Int) : Rdr (w.setCell ⟨g, 4, none⟩ (.int .i64 k)) g s { st with spot := k } := by
  unfold Rdr at *
  simp [World.setCell, Array.getElem?_modify, h]
theorem Rdr.stays (h : Rdr w g s st) (hb : Below w.heap.size w w') : Rdr w' g s st := (hb.block g h.lt).trans h
theorem Rdr.put4 (h : Rdr w g s st) {g' : Nat} (hg : g ≠ g') (q : Nat → Bool) : Rdr (put4 w g' q) g s st := by
  unfold Rdr Go.Proofs.Ytnkopcmkanibhaa.put4 at *
  rw [Below.heap_setCell _ _ _ _ hg, Below.heap_setCell _ _ _ _ hg, Below.heap_setCell _ _ _ _ hg, Below.heap_setCell _ _ _ _ hg]
  exact h
theorem Rdr.far4 (h : Rdr w g s st) {g' : Nat} (hg : g ≠ g') (v0 v1 v2 v3 : Value) : Rdr ((((w.setCell ⟨g', 0, none⟩ v0).setCell ⟨g', 1, none⟩ v1).setCell ⟨g', 2, none⟩ v2).setCell ⟨g', 3, none⟩ v3) g s st := by
  unfold Rdr at *
  rw [Below.heap_setCell _ _ _ _ hg, Below.heap_setCell _ _ _ _ hg, Below.heap_setCell _ _ _ _ hg, Below.heap_setCell _ _ _ _ hg]
  exact h
theorem Rdr.alloc (h : Rdr w g s st) (o : Obj) : Rdr (w.alloc o) g s st := (Below.heap_alloc w o g h.lt).trans h
end

/-- Only block g, and new ones, have turned. -/
theorem only_refl (w : World) (r : Option Nat) : w.grownBy w r := ⟨rfl, rfl, rfl, Nat.le_refl _, fun _ _ _ => rfl⟩
theorem only_trans {a b c : World} {r : Option Nat} (h : a.grownBy b r) (k : b.grownBy c r) : a.grownBy c r :=
  ⟨k.os.trans h.os, k.tape.trans h.tape, k.output.trans h.output, Nat.le_trans h.size k.size, fun i hi hr => (k.block i (Nat.lt_of_lt_of_le hi h.size) hr).trans (h.block i hi hr)⟩
theorem only_set {a b : World} {g i : Nat} (h : a.grownBy b (some g)) (v : Value) : a.grownBy (b.setCell ⟨g, i, none⟩ v) (some g) :=
  only_trans h ⟨rfl, rfl, rfl, by simp [World.setCell], fun k _ hk => Below.heap_setCell _ _ _ _ (by intro e; subst e; exact hk rfl)⟩
theorem only_drew {a b : World} {r : Option Nat} (h : a.grownBy b r) : a.grownBy b.drew r := ⟨h.os, h.tape, h.output, h.size, h.block⟩
theorem only_drewN {a b : World} {r : Option Nat} (h : a.grownBy b r) (n : Nat) : a.grownBy (b.drewN n) r := ⟨h.os, h.tape, h.output, h.size, h.block⟩
theorem only_alloc {a b : World} {r : Option Nat} (h : a.grownBy b r) (o : Obj) : a.grownBy (b.alloc o) r :=
  only_trans h ⟨rfl, rfl, rfl, by simp, fun k hk _ => Below.heap_alloc _ _ _ hk⟩
theorem only_below {a b c : World} {r : Option Nat} (h : a.grownBy b r) (k : Below b.heap.size b c) : a.grownBy c r :=
  only_trans h ⟨k.os, k.tape, k.output, k.size, fun i hi _ => k.block i hi⟩

/-- Blocks that came behind a are no block of a's. -/
theorem only_setNew {a b : World} {g g' i : Nat} (h : a.grownBy b (some g)) (hg : a.heap.size ≤ g') (v : Value) : a.grownBy (b.setCell ⟨g', i, none⟩ v) (some g) :=
  ⟨h.os, h.tape, h.output, by simpa [World.setCell] using h.size, fun k hk hr => (Below.heap_setCell _ _ _ _ (by show k ≠ g'; omega)).trans (h.block k hk hr)⟩
theorem only_put4 {a b : World} {g g' : Nat} (h : a.grownBy b (some g)) (hg : a.heap.size ≤ g') (q : Nat → Bool) : a.grownBy (put4 b g' q) (some g) :=
  only_setNew (only_setNew (only_setNew (only_setNew h hg _) hg _) hg _) hg _

set_option maxHeartbeats 400000 in
theorem fail_p (w : World) (g : Nat) (s : ByteArray) (st : St) (a b : Int) (h : Rdr w g s st) :
    Calls Try.prog 89 #[.pointer (some ⟨g, 0, none⟩), .int .i64 a, .int .i64 b] w fun e w' => e = .returned (.tuple #[]) ∧ Rdr w' g s (st.fail a b) ∧ w.grownBy w' (some g) := by
  obtain ⟨c0, c1, c2, c3, c4⟩ := h.cell
  obtain ⟨f0, f1, f2, f3, f4⟩ := h.frozen
  by_cases hb : st.bad = 0
  · have hb' : (st.bad == 0) = true := by simp [hb]
    have e : st.fail a b = { st with bad := b, spot := a } := by unfold St.fail; rw [if_pos hb]
    rw [e]
    clear e hb
    go_enter Try.func89, Try.ntmps89
    go_wp2
    go_end0
    exact ⟨rfl, (h.setBad b).setSpot a, only_set (only_set (only_refl _ _) _) _⟩
  · have hb' : (st.bad == 0) = false := by simp [hb]
    have e : st.fail a b = st := by unfold St.fail; rw [if_neg hb]
    rw [e]
    clear e hb
    go_enter Try.func89, Try.ntmps89
    go_wp2
    go_end0
    exact ⟨rfl, h, only_refl _ _⟩

theorem drew_two (w : World) (m n : Nat) : (w.drewN m).drewN n = w.drewN (m + n) := by
  unfold World.drewN
  simp [Nat.add_assoc]

set_option maxHeartbeats 400000 in
theorem peek_p (w : World) (g : Nat) (s : ByteArray) (st : St) (h : Rdr w g s st) (hs : s.size ≤ 1000) :
    Calls Try.prog 83 #[.pointer (some ⟨g, 0, none⟩)] w fun e w' => e = .returned (.int .i64 (st.peek s)) ∧ ∃ n, w' = w.drewN n := by
  obtain ⟨c0, c1, c2, c3, c4⟩ := h.cell
  by_cases hb : st.bad = 0
  · have hb' : (st.bad != 0) = false := by simp [hb]
    by_cases hlt : st.pos < s.size
    · have hd : decide (s.size ≤ st.pos) = false := by simp; omega
      have e : st.peek s = ((s[st.pos]'hlt).toNat : Int) := by unfold St.peek; rw [if_neg (by omega), bt_eq s _ hlt]
      rw [e]
      clear e hb
      have k0 : (0 : Int) ≤ (st.pos : Int) := by omega
      have k1 : (st.pos : Int) < (s.size : Int) := by omega
      go_enter Try.func83, Try.ntmps83
      go_wp2
      go_quiet (fail)
      go_wp2
      go_quiet (fail)
      go_wp2
      go_ret
      refine ⟨congrArg Ending.returned (congrArg (Value.int .i64) ?_), _, drew_two _ _ _⟩
      have := UInt8.toNat_lt (s[st.pos]'hlt)
      unfold wrap64
      omega
    · have hd : decide (s.size ≤ st.pos) = true := by simp; omega
      have e : st.peek s = -1 := by unfold St.peek; rw [if_pos (by omega)]
      rw [e]
      clear e hb
      go_enter Try.func83, Try.ntmps83
      go_wp2
      go_quiet (fail)
      go_wp2
      go_ret
      exact ⟨rfl, _, rfl⟩
  · have hb' : (st.bad != 0) = true := by simp [hb]
    have e : st.peek s = -1 := by unfold St.peek; rw [if_pos (by omega)]
    rw [e]
    clear e hb
    go_enter Try.func83, Try.ntmps83
    go_wp2
    go_quiet (fail)
    go_wp2
    go_ret
    exact ⟨rfl, _, rfl⟩

end Go.Proofs.Ytnkopcmkanibhaa
