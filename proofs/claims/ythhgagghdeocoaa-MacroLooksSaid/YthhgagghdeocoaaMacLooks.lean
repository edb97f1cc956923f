/-
  The statement MacroLooks of layer 11: the walk. Contracts for other texts; no statement of its own.
-/
import Derived.Test.YthhgagghdeocoaaMacLaw
import Derived.Test.YthhgagghdeocoaaMacRun
import Derived.BigQuiet
import Derived.Deep.LoopGhost
set_option linter.unusedVariables false
set_option linter.unusedSimpArgs false
namespace Go.Proofs.Ythhgagghdeocoaa
open Go Go.RowKit

theorem const_fits {tb : List Int} (h : ∀ k, k < tb.length → U64 (tb.getD k 0)) : ∀ n, n ≤ tb.length → n ≤ 100 → ∀ x ∈ constL tb n, x.fits
  | 0, hn, hm, x, hx => by simp [constL] at hx
  | k + 1, hn, hm, x, hx => by
    unfold constL at hx
    rw [List.mem_append, List.mem_singleton] at hx
    rcases hx with hx | rfl
    · exact const_fits h k (by omega) (by omega) x hx
    · have := h k (by omega)
      exact ⟨(by simp [I64]), (by simp only [I64]; omega), (by simp [I64]), (by simp [I64]), (by simp [I64]), this⟩
theorem wrapI_i64 (v : Int) : I64 (wrapI v) := by
  unfold wrapI I64
  rw [IntKind.wrap_i64]
  omega
theorem look_fits {dst key base step tmp : Int} (h1 : I64 dst) (h2 : I64 key) (h3 : I64 tmp) : ∀ n, ∀ x ∈ lookL dst key base step tmp n, x.fits
  | 0, x, hx => by
    simp [lookL] at hx
    subst hx
    exact ⟨(by simp [I64]), h1, (by simp [I64]), (by simp [I64]), (by simp [I64]), (by simp [U64])⟩
  | k + 1, x, hx => by
    unfold lookL at hx
    rw [List.mem_append] at hx
    rcases hx with hx | hx
    · exact look_fits h1 h2 h3 k x hx
    · simp [lookAt] at hx
      rcases hx with rfl | rfl | rfl
      · exact ⟨(by simp [I64]), h3, (by simp [I64]), (by simp [I64]), (by simp [I64]), numN_u64 _ _⟩
      · exact ⟨(by simp [I64]), h3, h3, h2, (by simp [I64]), (by simp [U64])⟩
      · exact ⟨(by simp [I64]), h1, h3, wrapI_i64 _, h1, (by simp [U64])⟩
theorem mac_fits {tb : List Int} {key step : Int} (h : ∀ k, k < tb.length → U64 (tb.getD k 0)) (hn : tb.length ≤ 100) (hk : U64 key) : ∀ x ∈ macL tb key step, x.fits := fun x hx => by
  unfold macL at hx
  rw [List.mem_append, List.mem_append, List.mem_append, List.mem_append] at hx
  rcases hx with hx | hx | hx | hx | hx
  · exact const_fits h _ (Nat.le_refl _) hn x hx
  · simp at hx
    rcases hx with rfl | rfl
    · exact ⟨(by simp [I64]), (by simp [I64]), (by simp [I64]), (by simp [I64]), (by simp [I64]), hk⟩
    · exact ⟨(by simp [I64]), (by simp [I64]), (by simp [I64]), (by simp [I64]), (by simp [I64]), (by simp [U64])⟩
  · exact look_fits ((by simp [I64])) ((by simp [I64])) ((by simp [I64])) _ x hx
  · simp at hx
    subst hx
    exact ⟨(by simp [I64]), (by simp [I64]), (by simp [I64]), (by simp [I64]), (by simp [I64]), (by simp [U64])⟩
  · simp at hx
    rcases hx with rfl | rfl
    · exact ⟨(by simp [I64]), (by simp [I64]), (by simp [I64]), (by simp [I64]), (by simp [I64]), (by simp [U64])⟩
    · exact ⟨(by simp [I64]), (by simp [I64]), (by simp [I64]), (by simp [I64]), (by simp [I64]), (by simp [U64])⟩
theorem macL_len (tb : List Int) (key step : Int) : (macL tb key step).length = 4 * tb.length + 6 := by
  simp [macL, constL_len, lookL_len]
  omega

set_option maxRecDepth 20000 in
set_option maxHeartbeats 4000000 in
theorem macrolooks_p {w : World} {A : Option Addr} {ca : Nat} {tb : List Int} (key step k : Int) (hkey : U64 key) (hstep : I64 step) (hk : I64 k) (ht : RdZ .u64 w A tb) (hfit : ∀ k, k < tb.length → U64 (tb.getD k 0)) (hlc : tb.length ≤ 9223372036854775807) :
    Calls Try.prog 7 #[.slice A tb.length ca, .int .u64 key, .int .i64 step, .int .i64 k] w fun e w' => e = .returned (.bool true) ∧ Below w.heap.size w w' := by
  have HU := Lib.hid (up11_p w)
  obtain ⟨T, hT⟩ : ∃ T, tb.length = T := ⟨_, rfl⟩
  rw [hT] at hlc hfit ⊢
  have HT := Lib.hid hT
  have HTB := Lib.hid ht
  have HF := Lib.hid hfit
  clear ht hfit
  by_cases b1 : (100 : Int) < (T : Int)
  · clear hT
    go_enter Try.func7, Try.ntmps7
    go_wp2_with (first
      | (go_at_call 23; (with_reducible refine HU.out.mono ?_); rintro e w1 ⟨rfl, hb1⟩; have HB1 := Lib.hid hb1; clear hb1)
      | fail)
    go_ret
    exact ⟨rfl, HB1.out⟩
  have hT1 : T ≤ 100 := by omega
  have a1 : IntKind.i64.wrap (10 + (T : Int)) = 10 + (T : Int) := IntWalk.i64_in _ (by omega)
  have hnew := fun W => new_p W (10 + (T : Int)) (by unfold I64; omega)
  unfold RetNew at hnew
  simp only [show (1 ≤ (10 + (T : Int)) ∧ (10 + (T : Int)) ≤ 200000) from ⟨by omega, by omega⟩, and_self, if_true, show (10 + (T : Int)).toNat = 10 + T from by omega] at hnew
  have HNW := Lib.hid hnew
  have hwant := fun ky => mac_run tb ky step (by omega)
  have hfits := fun ky (h : U64 ky) => mac_fits (tb := tb) (key := ky) (step := step) (fun k hk => HF.out k (by omega)) (by omega) h
  have hlen := fun ky => macL_len tb ky step
  rw [hT] at hwant
  simp only [hT] at hlen
  have hmacL : ∀ ky, ((((constL tb T ++ [⟨10, 1, 0, 0, 0, ky⟩, ⟨0, 2, 0, 0, 0, 99⟩]) ++ lookL 2 1 10 step 3 T) ++ [⟨1, 4, 2, 2, 2, 0⟩]) ++ [⟨11, 0, 2, 0, 0, 0⟩, ⟨11, 0, 4, 0, 0, 0⟩]) = macL tb ky step := fun ky => by unfold macL; rw [hT]; simp
  have hlo := fun W => look_p W 2 1 10 (T : Int) step 3 (by unfold I64; omega) (by unfold I64; omega) hstep (by omega)
  unfold RetLook at hlo
  simp only [show (0 ≤ (T : Int) ∧ (T : Int) ≤ 200000) from ⟨by omega, by omega⟩, and_self, if_true, Int.toNat_natCast] at hlo
  have HLO := Lib.hid hlo
  have HCP := Lib.hid fun W => copy_p W 4 2
  have HWA := Lib.hid hwant
  have HFI := Lib.hid hfits
  have HLN := Lib.hid hlen
  have HML := Lib.hid hmacL
  clear hnew hwant hfits hlen hlo hT hmacL
  go_enter Try.func7, Try.ntmps7
  go_wp2_with (first
    | (go_at_call 23; (with_reducible refine HU.out.mono ?_); rintro e w1 ⟨rfl, hb1⟩; have HB1 := Lib.hid hb1; clear hb1)
    | (go_at_call 28; (with_reducible refine (HNW.out _).mono ?_); rintro e w2 ⟨p, F, rfl, m2, b2, n2⟩; have M2 := Lib.hid m2; have HB2 := Lib.hid (gro HB1.out b2); have N2 := Lib.hid n2; clear m2 b2 n2)
    | fail)
  go_loopg [11, 12] T (fun mm v i wr => ∃ j : Nat, i = .int .i64 (j : Int) ∧ j ≤ T ∧ mm = T - j ∧ Inss wr w2.heap.size v (constL tb j) ∧ Below w2.heap.size w2 wr)
  case atStart => exact ⟨0, by first | rfl | trivial, Nat.zero_le _, by first | rfl | trivial, World.ownsRow_nil _ _ _ 6, Below.refl _ _⟩
  case round =>
    obtain ⟨j, rfl, hj, hmj, hv, hbw⟩ := hrel
    have HMJ := Lib.hid hmj
    have HV := Lib.hid hv
    have HBW := Lib.hid hbw
    clear hmj hv
    by_cases hjT : j < T
    · obtain ⟨g, off, rfl, hg, z⟩ := (HTB.out.stays (HB2.out.trans (hbw.mono HB2.out.size))) j (by rw [HT.out]; exact hjT)
      obtain ⟨y, hy⟩ : ∃ y, tb.getD j 0 = y := ⟨_, rfl⟩
      have HCC := Lib.hid (show constL tb (j + 1) = constL tb j ++ [⟨0, 10 + (j : Int), 0, 0, 0, y⟩] by rw [constL, hy])
      rw [hy] at z
      have i0 : (0 : Int) ≤ (j : Int) := by omega
      have i1 : (j : Int) < (T : Int) := by omega
      have a2 : IntKind.i64.wrap (10 + (j : Int)) = 10 + (j : Int) := IntWalk.i64_in _ (by omega)
      have HCL := Lib.hid (constL_len tb j)
      clear hy hbw
      go_wp2_with (first
        | (at_builtin; refine wpList_inss (by rfl) _ _ (by rfl) (by rfl) (HV.out.stays ((Below.refl _ _).alloc (Nat.le_refl _) _)) (by rfl) (inss_new wr #[.int .i64 0, .int .i64 (10 + (j : Int)), .int .i64 0, .int .i64 0, .int .i64 0, .int .u64 y] 1 0 [⟨0, 10 + (j : Int), 0, 0, 0, y⟩] rfl rfl (by decide) (Nat.zero_le _)) (by rw [HCL.out]; simp; omega) (Nat.le_trans HBW.out.size (by simp)) ?_; intro v4 w4 o4 g4; have O4 := Lib.hid o4; have B4 := Lib.hid ((HBW.out.alloc HBW.out.size _).grown g4 (by have := HBW.out.size; simp; omega) fun b e => (HV.out.in b e).1); clear o4 g4)
        | fail)
      go_roundg (T - (j + 1))
      case measure => have := HMJ.out; omega
      case rel => exact ⟨j + 1, by go_num, by omega, rfl, by rw [HCC.out]; exact O4.out, B4.out⟩
    · have hjl : j = T := by omega
      subst hjl
      have HI4 := HV
      have HB4 := HBW
      have HCL := Lib.hid (constL_len tb j)
      generalize wr = w4 at *
      clear hbw
      have hkk := hk
      unfold I64 at hkk
      rcases (show ((¬ (0 : Int) < (j : Int)) ∨ ((0 : Int) < (j : Int) ∧ ¬ 0 ≤ k) ∨ ((0 : Int) < (j : Int) ∧ 0 ≤ k ∧ ¬ k < (j : Int))) ∨ ((0 : Int) < (j : Int) ∧ 0 ≤ k ∧ k < (j : Int)) by omega) with hc | ⟨c1, c2, c3⟩
      · have HC := Lib.hid hc
        obtain ⟨ky, rfl⟩ : ∃ ky, ky = key := ⟨_, rfl⟩
        have hky := hkey
        clear hc
        have HKY := Lib.hid hky
        have hrn := fun (W : World) (A : Option Addr) (c : Nat) (hb : Below w2.heap.size w2 W) (hi : Inss W w2.heap.size (.slice A (macL tb ky step).length c) (macL tb ky step)) => run_p (ca := c) (M2.out.stays hb) hi.rd (fun _ g off e e' => by have := (hi.in g (by subst e; rfl)).1; have := M2.out.lt g e'; omega) (fun i x hx => HFI.out ky hky x (List.mem_of_getElem? hx)) (by omega) (by rw [HLN.out]; simp; omega)
        unfold RetRun at hrn
        simp only [HWA.out ky, Option.isSome_some, outV] at hrn
        unfold errM at hrn
        simp only [if_true] at hrn
        have HRN := Lib.hid hrn
        have HEQ := Lib.hid (HML.out ky)
        have tok1 : True := trivial
        have tok2 : True := trivial
        have tok3 : True := trivial
        clear hrn
        rcases HC.out with c1 | ⟨c1, c2⟩ | ⟨c1, c2, c3⟩
        all_goals
          go_wp2_with (first
            | (at_builtin; first
              | (have _t := tok1; (refine wpList_inss (by rfl) _ _ (by rfl) (by rfl) (HI4.out.stays ((Below.refl _ _).alloc (Nat.le_refl _) _)) (by rfl) (inss_new w4 #[.int .i64 10, .int .i64 1, .int .i64 0, .int .i64 0, .int .i64 0, .int .u64 ky, .int .i64 0, .int .i64 2, .int .i64 0, .int .i64 0, .int .i64 0, .int .u64 99] 2 0 [⟨10, 1, 0, 0, 0, ky⟩, ⟨0, 2, 0, 0, 0, 99⟩] rfl rfl (by decide) (Nat.zero_le _)) (by rw [HCL.out]; simp; omega) (Nat.le_trans HB4.out.size (by simp)) ?_); intro v5 w5 o5 g5; have HI5 := Lib.hid o5; have HB5 := Lib.hid ((HB4.out.alloc HB4.out.size _).grown g5 (by have := HB4.out.size; simp; omega) fun b e => (HI4.out.in b e).1); clear o5 g5 tok1)
              | (have _t := tok2; (refine wpList_inss (by rfl) _ _ (by rfl) (by rfl) HI6.out (by rfl) HK6.out (by simp [HCL.out, lookL_len]; omega) HB6.out.size ?_); intro v7 w7 o7 g7; have HI7 := Lib.hid o7; have HB7 := Lib.hid (HB6.out.grown g7 HB6.out.size fun b e => (HI6.out.in b e).1); clear o7 g7 tok2)
              | (have _t := tok3; (refine wpList_inss (by rfl) _ _ (by rfl) (by rfl) HI8.out (by rfl) HK8.out (by simp [HCL.out, lookL_len]; omega) HB8.out.size ?_); intro v9 w9 o9 g9; have HI9 := Lib.hid o9; have HB9 := Lib.hid (HB8.out.grown g9 HB8.out.size fun b e => (HI8.out.in b e).1); clear o9 g9 tok3)
              | ((refine wpList_inss (by rfl) _ _ (by rfl) (by rfl) (HI9.out.stays ((Below.refl _ _).alloc (Nat.le_refl _) _)) (by rfl) (inss_new w9 #[.int .i64 11, .int .i64 0, .int .i64 2, .int .i64 0, .int .i64 0, .int .u64 0, .int .i64 11, .int .i64 0, .int .i64 4, .int .i64 0, .int .i64 0, .int .u64 0] 2 0 [⟨11, 0, 2, 0, 0, 0⟩, ⟨11, 0, 4, 0, 0, 0⟩] rfl rfl (by decide) (Nat.zero_le _)) (by simp [HCL.out, lookL_len]; omega) (Nat.le_trans HB9.out.size (by simp)) ?_); intro v10 w10 o10 g10; have HI10 := Lib.hid (HEQ.out ▸ o10 : Inss w10 w2.heap.size v10 (macL tb ky step)); have HB10 := Lib.hid ((HB9.out.alloc HB9.out.size _).grown g10 (by have := HB9.out.size; simp; omega) fun b e => (HI9.out.in b e).1); clear o10 g10))
            | (go_at_call 25; (with_reducible refine (HLO.out _).mono ?_); rintro e w6 ⟨v6, rfl, r6, b6⟩; have HB6 := Lib.hid (gro HB5.out b6); have HI6 := Lib.hid (HI5.out.stays b6); have HK6 := Lib.hid r6; clear r6 b6)
            | (go_at_call 27; (with_reducible refine (HCP.out _).mono ?_); rintro e w8 ⟨v8, rfl, r8, b8⟩; have HB8 := Lib.hid (gro HB7.out b8); have HI8 := Lib.hid (HI7.out.stays b8); have HK8 := Lib.hid r8; clear r8 b8)
            | (go_at_call 30; (obtain ⟨A10, c10, rfl⟩ := HI10.out.form); (with_reducible refine (HRN.out _ _ _ HB10.out HI10.out).mono ?_); rintro e w11 ⟨v11, F11, rfl, r11, m11, k11, n11, f11⟩; have HV11 := Lib.hid r11; have HB11 := Lib.hid (HB10.out.size); have HK11 := Lib.hid k11; clear r11 m11 n11 f11)
            | fail)
          have hb12 : Below w.heap.size w w11 := (HB2.out.trans (HB10.out.mono HB2.out.size)).trans (HK11.out.below (Nat.le_trans HB2.out.size HB10.out.size) fun b e => Nat.le_trans HB1.out.size (N2.out b e))
          obtain ⟨A11, c11, rfl⟩ := HV11.out.form
          have HV12 := HV11.out.rd
          have HV13 := Lib.hid HV12
          have HB12 := Lib.hid hb12
          clear HV12 hb12
          go_loopg [15, 16] j (fun mm z i wr => ∃ k : Nat, i = .int .i64 (k : Int) ∧ k ≤ j ∧ mm = j - k ∧ z = .int .u64 (wantN tb ky step k) ∧ Below w11.heap.size w11 wr)
          case atStart => exact ⟨0, by first | rfl | trivial, Nat.zero_le _, by first | rfl | trivial, by rfl, Below.refl _ _⟩
          case round =>
            obtain ⟨k, rfl, hk, hmk, rfl, hbw⟩ := hrel
            have HMK := Lib.hid hmk
            have HBW := Lib.hid hbw
            clear hmk
            by_cases hkj : k < j
            · obtain ⟨g, off, rfl, hg, z⟩ := (HTB.out.stays (HB12.out.trans (hbw.mono HB12.out.size))) k (by rw [HT.out]; exact hkj)
              have HWN := Lib.hid (show wantN tb ky step (k + 1) = if numN step k = ky then tb.getD k 0 else wantN tb ky step k from rfl)
              obtain ⟨y, hy⟩ : ∃ y, tb.getD k 0 = y := ⟨_, rfl⟩
              obtain ⟨wk, hwk⟩ : ∃ y, wantN tb ky step k = y := ⟨_, rfl⟩
              rw [hy] at z HWN
              rw [hwk] at HWN ⊢
              have i0 : (0 : Int) ≤ (k : Int) := by omega
              have i1 : (k : Int) < (j : Int) := by omega
              have a1 : IntKind.u64.wrap (k : Int) = (k : Int) := by rw [IntKind.wrap_u64]; omega
              have a2 : IntKind.u64.wrap step = step % 18446744073709551616 := IntKind.wrap_u64 _
              have a3 : IntKind.u64.wrap ((k : Int) * (step % 18446744073709551616)) = numN step k := by rw [IntKind.wrap_u64]; rfl
              obtain ⟨nk, hnk⟩ : ∃ y, numN step k = y := ⟨_, rfl⟩
              rw [hnk] at a3 HWN
              clear hy hwk hnk hbw
              by_cases he : nk = ky
              · have HW1 := Lib.hid (HWN.out.trans (if_pos he))
                have hq : (nk == ky) = true := by simpa using he
                clear he
                go_wp2
                go_roundg (j - (k + 1))
                case measure => have := HMK.out; omega
                case rel => exact ⟨k + 1, by go_num, by omega, rfl, by rw [HW1.out], HBW.out⟩
              · have HW1 := Lib.hid (HWN.out.trans (if_neg he))
                have hq : (nk == ky) = false := by simpa using he
                clear he
                go_wp2
                go_roundg (j - (k + 1))
                case measure => have := HMK.out; omega
                case rel => exact ⟨k + 1, by go_num, by omega, rfl, by rw [HW1.out], HBW.out⟩
            · have hkl : k = j := by omega
              subst hkl
              obtain ⟨g0, of0, rfl, hg0, z0⟩ := (HV13.out.stays hbw) 0 (by simp)
              obtain ⟨g1, of1, e1, hg1, z1⟩ := (HV13.out.stays hbw) 1 (by simp)
              injection e1 with e1
              injection e1 with e2 e3
              subst e2 e3
              simp only [List.getD_cons_zero, List.getD_cons_succ, Nat.add_zero] at z0 z1
              obtain ⟨wk, hwk⟩ : ∃ y, wantN tb ky step k = y := ⟨_, rfl⟩
              rw [hwk] at z0 z1 ⊢
              clear hwk hg0 hg1 hbw
              go_wp2
              go_ret
              exact ⟨rfl, HB12.out.trans (HBW.out.mono HB12.out.size)⟩
      · obtain ⟨K, rfl⟩ : ∃ K : Nat, k = (K : Int) := ⟨k.toNat, by omega⟩
        have a3 : IntKind.u64.wrap (K : Int) = (K : Int) := by rw [IntKind.wrap_u64]; omega
        have a4 : IntKind.u64.wrap step = step % 18446744073709551616 := IntKind.wrap_u64 _
        have a5 : IntKind.u64.wrap ((K : Int) * (step % 18446744073709551616)) = numN step K := by rw [IntKind.wrap_u64]; rfl
        have hky := numN_u64 step K
        obtain ⟨ky, hk0⟩ : ∃ ky, numN step K = ky := ⟨_, rfl⟩
        rw [hk0] at a5 hky
        have HSK := Lib.hid (show IntKind.u64.wrap step = step % 18446744073709551616 from IntKind.wrap_u64 _)
        clear hk0 hkk hk
        have HKY := Lib.hid hky
        have hrn := fun (W : World) (A : Option Addr) (c : Nat) (hb : Below w2.heap.size w2 W) (hi : Inss W w2.heap.size (.slice A (macL tb ky step).length c) (macL tb ky step)) => run_p (ca := c) (M2.out.stays hb) hi.rd (fun _ g off e e' => by have := (hi.in g (by subst e; rfl)).1; have := M2.out.lt g e'; omega) (fun i x hx => HFI.out ky hky x (List.mem_of_getElem? hx)) (by omega) (by rw [HLN.out]; simp; omega)
        unfold RetRun at hrn
        simp only [HWA.out ky, Option.isSome_some, outV] at hrn
        unfold errM at hrn
        simp only [if_true] at hrn
        have HRN := Lib.hid hrn
        have HEQ := Lib.hid (HML.out ky)
        have tok1 : True := trivial
        have tok2 : True := trivial
        have tok3 : True := trivial
        clear hrn
        go_wp2_with (first
          | (at_builtin; first
            | (have _t := tok1; (refine wpList_inss (by rfl) _ _ (by rfl) (by rfl) (HI4.out.stays ((Below.refl _ _).alloc (Nat.le_refl _) _)) (by rfl) (inss_new w4 #[.int .i64 10, .int .i64 1, .int .i64 0, .int .i64 0, .int .i64 0, .int .u64 ky, .int .i64 0, .int .i64 2, .int .i64 0, .int .i64 0, .int .i64 0, .int .u64 99] 2 0 [⟨10, 1, 0, 0, 0, ky⟩, ⟨0, 2, 0, 0, 0, 99⟩] rfl rfl (by decide) (Nat.zero_le _)) (by rw [HCL.out]; simp; omega) (Nat.le_trans HB4.out.size (by simp)) ?_); intro v5 w5 o5 g5; have HI5 := Lib.hid o5; have HB5 := Lib.hid ((HB4.out.alloc HB4.out.size _).grown g5 (by have := HB4.out.size; simp; omega) fun b e => (HI4.out.in b e).1); clear o5 g5 tok1)
            | (have _t := tok2; (refine wpList_inss (by rfl) _ _ (by rfl) (by rfl) HI6.out (by rfl) HK6.out (by simp [HCL.out, lookL_len]; omega) HB6.out.size ?_); intro v7 w7 o7 g7; have HI7 := Lib.hid o7; have HB7 := Lib.hid (HB6.out.grown g7 HB6.out.size fun b e => (HI6.out.in b e).1); clear o7 g7 tok2)
            | (have _t := tok3; (refine wpList_inss (by rfl) _ _ (by rfl) (by rfl) HI8.out (by rfl) HK8.out (by simp [HCL.out, lookL_len]; omega) HB8.out.size ?_); intro v9 w9 o9 g9; have HI9 := Lib.hid o9; have HB9 := Lib.hid (HB8.out.grown g9 HB8.out.size fun b e => (HI8.out.in b e).1); clear o9 g9 tok3)
            | ((refine wpList_inss (by rfl) _ _ (by rfl) (by rfl) (HI9.out.stays ((Below.refl _ _).alloc (Nat.le_refl _) _)) (by rfl) (inss_new w9 #[.int .i64 11, .int .i64 0, .int .i64 2, .int .i64 0, .int .i64 0, .int .u64 0, .int .i64 11, .int .i64 0, .int .i64 4, .int .i64 0, .int .i64 0, .int .u64 0] 2 0 [⟨11, 0, 2, 0, 0, 0⟩, ⟨11, 0, 4, 0, 0, 0⟩] rfl rfl (by decide) (Nat.zero_le _)) (by simp [HCL.out, lookL_len]; omega) (Nat.le_trans HB9.out.size (by simp)) ?_); intro v10 w10 o10 g10; have HI10 := Lib.hid (HEQ.out ▸ o10 : Inss w10 w2.heap.size v10 (macL tb ky step)); have HB10 := Lib.hid ((HB9.out.alloc HB9.out.size _).grown g10 (by have := HB9.out.size; simp; omega) fun b e => (HI9.out.in b e).1); clear o10 g10))
          | (go_at_call 25; (with_reducible refine (HLO.out _).mono ?_); rintro e w6 ⟨v6, rfl, r6, b6⟩; have HB6 := Lib.hid (gro HB5.out b6); have HI6 := Lib.hid (HI5.out.stays b6); have HK6 := Lib.hid r6; clear r6 b6)
          | (go_at_call 27; (with_reducible refine (HCP.out _).mono ?_); rintro e w8 ⟨v8, rfl, r8, b8⟩; have HB8 := Lib.hid (gro HB7.out b8); have HI8 := Lib.hid (HI7.out.stays b8); have HK8 := Lib.hid r8; clear r8 b8)
          | (go_at_call 30; (obtain ⟨A10, c10, rfl⟩ := HI10.out.form); (with_reducible refine (HRN.out _ _ _ HB10.out HI10.out).mono ?_); rintro e w11 ⟨v11, F11, rfl, r11, m11, k11, n11, f11⟩; have HV11 := Lib.hid r11; have HB11 := Lib.hid (HB10.out.size); have HK11 := Lib.hid k11; clear r11 m11 n11 f11)
          | fail)
        clear a3 a4 a5
        have hb12 : Below w.heap.size w w11 := (HB2.out.trans (HB10.out.mono HB2.out.size)).trans (HK11.out.below (Nat.le_trans HB2.out.size HB10.out.size) fun b e => Nat.le_trans HB1.out.size (N2.out b e))
        obtain ⟨A11, c11, rfl⟩ := HV11.out.form
        have HV12 := HV11.out.rd
        have HV13 := Lib.hid HV12
        have HB12 := Lib.hid hb12
        clear HV12 hb12
        go_loopg [15, 16] j (fun mm z i wr => ∃ k : Nat, i = .int .i64 (k : Int) ∧ k ≤ j ∧ mm = j - k ∧ z = .int .u64 (wantN tb ky step k) ∧ Below w11.heap.size w11 wr)
        case atStart => exact ⟨0, by first | rfl | trivial, Nat.zero_le _, by first | rfl | trivial, by rfl, Below.refl _ _⟩
        case round =>
          obtain ⟨k, rfl, hk, hmk, rfl, hbw⟩ := hrel
          have HMK := Lib.hid hmk
          have HBW := Lib.hid hbw
          clear hmk
          by_cases hkj : k < j
          · obtain ⟨g, off, rfl, hg, z⟩ := (HTB.out.stays (HB12.out.trans (hbw.mono HB12.out.size))) k (by rw [HT.out]; exact hkj)
            have HWN := Lib.hid (show wantN tb ky step (k + 1) = if numN step k = ky then tb.getD k 0 else wantN tb ky step k from rfl)
            obtain ⟨y, hy⟩ : ∃ y, tb.getD k 0 = y := ⟨_, rfl⟩
            obtain ⟨wk, hwk⟩ : ∃ y, wantN tb ky step k = y := ⟨_, rfl⟩
            rw [hy] at z HWN
            rw [hwk] at HWN ⊢
            have i0 : (0 : Int) ≤ (k : Int) := by omega
            have i1 : (k : Int) < (j : Int) := by omega
            have a1 : IntKind.u64.wrap (k : Int) = (k : Int) := by rw [IntKind.wrap_u64]; omega
            have a2 : IntKind.u64.wrap step = step % 18446744073709551616 := IntKind.wrap_u64 _
            have a3 : IntKind.u64.wrap ((k : Int) * (step % 18446744073709551616)) = numN step k := by rw [IntKind.wrap_u64]; rfl
            obtain ⟨nk, hnk⟩ : ∃ y, numN step k = y := ⟨_, rfl⟩
            rw [hnk] at a3 HWN
            clear hy hwk hnk hbw
            by_cases he : nk = ky
            · have HW1 := Lib.hid (HWN.out.trans (if_pos he))
              have hq : (nk == ky) = true := by simpa using he
              clear he
              go_wp2
              go_roundg (j - (k + 1))
              case measure => have := HMK.out; omega
              case rel => exact ⟨k + 1, by go_num, by omega, rfl, by rw [HW1.out], HBW.out⟩
            · have HW1 := Lib.hid (HWN.out.trans (if_neg he))
              have hq : (nk == ky) = false := by simpa using he
              clear he
              go_wp2
              go_roundg (j - (k + 1))
              case measure => have := HMK.out; omega
              case rel => exact ⟨k + 1, by go_num, by omega, rfl, by rw [HW1.out], HBW.out⟩
          · have hkl : k = j := by omega
            subst hkl
            obtain ⟨g0, of0, rfl, hg0, z0⟩ := (HV13.out.stays hbw) 0 (by simp)
            obtain ⟨g1, of1, e1, hg1, z1⟩ := (HV13.out.stays hbw) 1 (by simp)
            injection e1 with e1
            injection e1 with e2 e3
            subst e2 e3
            simp only [List.getD_cons_zero, List.getD_cons_succ, Nat.add_zero] at z0 z1
            obtain ⟨wk, hwk⟩ : ∃ y, wantN tb ky step k = y := ⟨_, rfl⟩
            rw [hwk] at z0 z1 ⊢
            clear hwk hg0 hg1 hbw
            go_wp2
            go_ret
            exact ⟨rfl, HB12.out.trans (HBW.out.mono HB12.out.size)⟩
end Go.Proofs.Ythhgagghdeocoaa
