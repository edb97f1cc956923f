/-
  macro.Look, the document's Look, macro.Copy. Contracts for other texts; no statement of its own.
-/
import Derived.Test.YthhgagghdeocoaaMacMem
import Derived.BigQuiet
import Derived.Deep.LoopGhost
import Derived.Laws.MakeOwn
set_option linter.unusedVariables false
set_option linter.unusedSimpArgs false
namespace Go.Proofs.Ythhgagghdeocoaa
open Go Go.RowKit

def RetLook (w : World) (dst key base n step tmp : Int) (e : Ending) (w' : World) : Prop :=
  if 0 ≤ n ∧ n ≤ 200000 then ∃ v, e = .returned v ∧ Inss w' w.heap.size v (lookL dst key base step tmp n.toNat) ∧ Below w.heap.size w w' else e = .returned (.slice none 0 0) ∧ Below w.heap.size w w'
theorem copy_p (w : World) (dst src : Int) : Calls Try.prog 27 #[.int .i64 dst, .int .i64 src] w fun e w' => ∃ v, e = .returned v ∧ Inss w' w.heap.size v [⟨1, dst, src, src, src, 0⟩] ∧ Below w.heap.size w w' := by
  go_enter Try.func27, Try.ntmps27
  go_wp2
  go_ret
  exact ⟨_, rfl, inss_new w _ 1 w.heap.size [⟨1, dst, src, src, src, 0⟩] rfl rfl (by decide) (Nat.le_refl _), (Below.refl _ _).alloc (Nat.le_refl _) _⟩

set_option maxRecDepth 20000 in
set_option maxHeartbeats 1000000 in
theorem look_p (w : World) (dst key base n step tmp : Int) (hn : I64 n) (hb : I64 base) (hst : I64 step) (h2 : n ≤ 2000 ∨ 200000 < n) :
    Calls Try.prog 25 #[.int .i64 dst, .int .i64 key, .int .i64 base, .int .i64 n, .int .i64 step, .int .i64 tmp] w (RetLook w dst key base n step tmp) := by
  unfold I64 at hn hb hst
  unfold RetLook
  by_cases h0 : n < 0
  · simp only [show ¬ (0 ≤ n ∧ n ≤ 200000) from by omega, if_false]
    go_enter Try.func25, Try.ntmps25
    go_wp2
    go_ret
    exact ⟨rfl, Below.refl _ _⟩
  by_cases h3 : (200000 : Int) < n
  · simp only [show ¬ (0 ≤ n ∧ n ≤ 200000) from by omega, if_false]
    go_enter Try.func25, Try.ntmps25
    go_wp2
    go_ret
    exact ⟨rfl, Below.refl _ _⟩
  simp only [show (0 ≤ n ∧ n ≤ 200000) from ⟨by omega, by omega⟩, and_self, if_true]
  obtain ⟨N, rfl⟩ : ∃ N : Nat, n = (N : Int) := ⟨n.toNat, by omega⟩
  rw [Int.toNat_natCast]
  obtain ⟨i0, hi, hz0, hz1, hz2⟩ := infoIns
  obtain ⟨w1, hr1, ho1, hg1⟩ := run_make_own (P := Try.prog) (w := w) w.heap.size 63 68 i0 _ 6 Try.underlying63 hi hz0 hz1 .i64 .i64 (1 + 3 * N) (by rw [hz2]; omega) (by unfold maxLen; omega) (Nat.le_refl _)
  have e1 : IntKind.i64.wrap (3 * (N : Int)) = 3 * (N : Int) := IntWalk.i64_in _ (by omega)
  have e2 : IntKind.i64.wrap (1 + 3 * (N : Int)) = 1 + 3 * (N : Int) := IntWalk.i64_in _ (by omega)
  rw [show ((1 + 3 * N : Nat) : Int) = 1 + 3 * (N : Int) by omega] at hr1
  have h63 : N ≤ 2000 := by omega
  have HO1 : Hid (Inss w1 w.heap.size (.slice (some ⟨w.heap.size, 0, none⟩) 0 (1 + 3 * N)) []) := Lib.hid ho1
  have HB1 := Lib.hid ((Below.refl w.heap.size w).grown hg1 (Nat.le_refl _) fun b e => by cases e)
  have HS1 := Lib.hid hg1.size
  clear hi hz0 hz1 hz2 ho1 hg1 hn
  go_enter Try.func25, Try.ntmps25
  go_wp2_with (first
    | (at_builtin; refine wpList_inss (by rfl) _ _ (by rfl) (by rfl) (HO1.out.stays ((Below.refl _ _).alloc (Nat.le_refl _) _)) (by rfl) (inss_new w1 _ 1 0 [⟨0, dst, 0, 0, 0, 0⟩] rfl rfl (by decide) (Nat.zero_le _)) (by simp) (Nat.le_trans HS1.out (by simp)) ?_; intro v2 w2 o2 g2; have O2 := Lib.hid o2; have B2 := Lib.hid ((HB1.out.alloc HS1.out _).grown g2 (by have := HS1.out; simp; omega) fun b e => (HO1.out.in b e).1); clear o2 g2)
    | fail)
  have O3 : Hid (Inss w2 w.heap.size v2 (lookL dst key base step tmp 0)) := O2
  have HIB := Lib.hid hb
  have HIS := Lib.hid hst
  clear hb hst
  go_loopg [13, 31] N (fun mm v i wr => ∃ k : Nat, i = .int .i64 (k : Int) ∧ k ≤ N ∧ mm = N - k ∧ Inss wr w.heap.size v (lookL dst key base step tmp k) ∧ Below w.heap.size w wr)
  case atStart => exact ⟨0, by first | rfl | trivial, Nat.zero_le _, by first | rfl | trivial, O3.out, B2.out⟩
  case round =>
    obtain ⟨k, rfl, hk, hmk, hv, hbw⟩ := hrel
    have HMK := Lib.hid hmk
    have HV := Lib.hid hv
    have HBW := Lib.hid hbw
    have HSZ := Lib.hid hbw.size
    clear hmk hv hbw
    by_cases hkN : k < N
    · have i1 : (k : Int) < (N : Int) := by omega
      have a1 : IntKind.u64.wrap (k : Int) = (k : Int) := by rw [IntKind.wrap_u64]; omega
      have a2 : IntKind.u64.wrap step = step % 18446744073709551616 := IntKind.wrap_u64 _
      have a3 : IntKind.u64.wrap ((k : Int) * (step % 18446744073709551616)) = numN step k := by rw [IntKind.wrap_u64]; rfl
      obtain ⟨bk, hbk⟩ : ∃ bk, IntKind.i64.wrap (base + (k : Int)) = bk := ⟨_, rfl⟩
      obtain ⟨nk, hnk⟩ : ∃ nk, numN step k = nk := ⟨_, rfl⟩
      obtain ⟨sk, hsk⟩ : ∃ sk, step % 18446744073709551616 = sk := ⟨_, rfl⟩
      rw [hsk] at a2 a3
      rw [hnk] at a3
      have HLK : Hid (lookAt dst key base step tmp k = [⟨0, tmp, 0, 0, 0, nk⟩, ⟨2, tmp, tmp, key, 0, 0⟩, ⟨1, dst, tmp, bk, dst, 0⟩]) := Lib.hid (by unfold lookAt wrapI; rw [hbk, hnk])
      have HLE := Lib.hid (lookL_len dst key base step tmp k)
      clear hnk hsk
      go_wp2_with (first
        | (at_builtin; refine wpList_inss (by rfl) _ _ (by rfl) (by rfl) (HV.out.stays ((Below.refl _ _).alloc (Nat.le_refl _) _)) (by rfl) (inss_new wr _ 3 0 [⟨0, tmp, 0, 0, 0, nk⟩, ⟨2, tmp, tmp, key, 0, 0⟩, ⟨1, dst, tmp, bk, dst, 0⟩] rfl rfl (by decide) (Nat.zero_le _)) (by rw [HLE.out]; simp; omega) (Nat.le_trans HSZ.out (by simp)) ?_; intro v4 w4 o4 g4; have O4 := Lib.hid o4; have B4 := Lib.hid ((HBW.out.alloc HSZ.out _).grown g4 (by have := HSZ.out; simp; omega) fun b e => (HV.out.in b e).1); clear o4 g4)
        | fail)
      go_roundg (N - (k + 1))
      case measure => have := HMK.out; omega
      case rel => exact ⟨k + 1, by go_num, by omega, rfl, by unfold lookL; rw [HLK.out]; exact O4.out, B4.out⟩
    · have hkl : k = N := by omega
      subst hkl
      go_wp2
      go_ret
      exact ⟨_, rfl, HV.out, HBW.out⟩

set_option maxRecDepth 20000 in
set_option maxHeartbeats 2000000 in
theorem dlook_p (w : World) (dst key base n step tmp : Int) (hn : I64 n) (hb : I64 base) (hst : I64 step) (h2 : n ≤ 2000 ∨ 200000 < n) :
    Calls Try.prog 26 #[.int .i64 dst, .int .i64 key, .int .i64 base, .int .i64 n, .int .i64 step, .int .i64 tmp] w (RetLook w dst key base n step tmp) := by
  unfold I64 at hn hb hst
  unfold RetLook
  by_cases h0 : n < 0
  · simp only [show ¬ (0 ≤ n ∧ n ≤ 200000) from by omega, if_false]
    go_enter Try.func26, Try.ntmps26
    go_wp2
    go_ret
    exact ⟨rfl, Below.refl _ _⟩
  by_cases h3 : (200000 : Int) < n
  · simp only [show ¬ (0 ≤ n ∧ n ≤ 200000) from by omega, if_false]
    go_enter Try.func26, Try.ntmps26
    go_wp2
    go_ret
    exact ⟨rfl, Below.refl _ _⟩
  simp only [show (0 ≤ n ∧ n ≤ 200000) from ⟨by omega, by omega⟩, and_self, if_true]
  obtain ⟨N, rfl⟩ : ∃ N : Nat, n = (N : Int) := ⟨n.toNat, by omega⟩
  rw [Int.toNat_natCast]
  have h63 : N ≤ 2000 := by omega
  clear hn
  go_enter Try.func26, Try.ntmps26
  go_wp2
  have HIB := Lib.hid hb
  have HIS := Lib.hid hst
  clear hb hst
  go_loopg [13, 14, 15] N (fun mm v at' i wr => ∃ k : Nat, i = .int .i64 (k : Int) ∧ k ≤ N ∧ mm = N - k ∧ at' = .int .u64 (numN step k) ∧ Inss wr w.heap.size v (lookL dst key base step tmp k) ∧ Below w.heap.size w wr)
  case atStart => exact ⟨0, by first | rfl | trivial, Nat.zero_le _, by first | rfl | trivial, by simp [numN], inss_new w _ 1 w.heap.size [⟨0, dst, 0, 0, 0, 0⟩] rfl rfl (by decide) (Nat.le_refl _), (Below.refl _ _).alloc (Nat.le_refl _) _⟩
  case round =>
    obtain ⟨k, rfl, hk, hmk, rfl, hv, hbw⟩ := hrel
    have HMK := Lib.hid hmk
    have HV := Lib.hid hv
    have HBW := Lib.hid hbw
    have HSZ := Lib.hid hbw.size
    clear hmk hv hbw
    by_cases hkN : k < N
    · have i1 : (k : Int) < (N : Int) := by omega
      have a2 : IntKind.u64.wrap step = step % 18446744073709551616 := IntKind.wrap_u64 _
      have a3 : IntKind.u64.wrap (numN step k + step % 18446744073709551616) = numN step (k + 1) := by rw [IntKind.wrap_u64]; exact numN_succ step k
      obtain ⟨bk, hbk⟩ : ∃ bk, IntKind.i64.wrap (base + (k : Int)) = bk := ⟨_, rfl⟩
      obtain ⟨nk, hnk⟩ : ∃ nk, numN step k = nk := ⟨_, rfl⟩
      obtain ⟨nl, hnl⟩ : ∃ nl, numN step (k + 1) = nl := ⟨_, rfl⟩
      obtain ⟨sk, hsk⟩ : ∃ sk, step % 18446744073709551616 = sk := ⟨_, rfl⟩
      rw [hsk] at a2 a3
      rw [hnl] at a3
      rw [hnk] at a3 ⊢
      have HLK : Hid (lookAt dst key base step tmp k = [⟨0, tmp, 0, 0, 0, nk⟩, ⟨2, tmp, tmp, key, 0, 0⟩, ⟨1, dst, tmp, bk, dst, 0⟩]) := Lib.hid (by unfold lookAt wrapI; rw [hbk, hnk])
      have HLE := Lib.hid (lookL_len dst key base step tmp k)
      have HNL := Lib.hid hnl
      have tok1 : True := trivial
      have tok2 : True := trivial
      clear hnk hsk hnl
      go_wp2_with (first
        | (at_builtin; first
          | (have _t := tok1; refine wpList_inss (by rfl) _ _ (by rfl) (by rfl) (HV.out.stays ((Below.refl _ _).alloc (Nat.le_refl _) _)) (by rfl) (inss_new wr _ 1 0 [⟨0, tmp, 0, 0, 0, nk⟩] rfl rfl (by decide) (Nat.zero_le _)) (by rw [HLE.out]; simp; omega) (Nat.le_trans HSZ.out (by simp)) ?_; clear tok1; intro v4 w4 o4 g4; have O4 := Lib.hid o4; have B4 := Lib.hid ((HBW.out.alloc HSZ.out _).grown g4 (by have := HSZ.out; simp; omega) fun b e => (HV.out.in b e).1); clear o4 g4)
          | (have _t := tok2; refine wpList_inss (by rfl) _ _ (by rfl) (by rfl) (O4.out.stays ((Below.refl _ _).alloc (Nat.le_refl _) _)) (by rfl) (inss_new w4 _ 1 0 [⟨2, tmp, tmp, key, 0, 0⟩] rfl rfl (by decide) (Nat.zero_le _)) (by rw [List.length_append, HLE.out]; simp; omega) (Nat.le_trans B4.out.size (by simp)) ?_; clear tok2; intro v5 w5 o5 g5; have O5 := Lib.hid o5; have B5 := Lib.hid ((B4.out.alloc B4.out.size _).grown g5 (by have := B4.out.size; simp; omega) fun b e => (O4.out.in b e).1); clear o5 g5)
          | (refine wpList_inss (by rfl) _ _ (by rfl) (by rfl) (O5.out.stays ((Below.refl _ _).alloc (Nat.le_refl _) _)) (by rfl) (inss_new w5 _ 1 0 [⟨1, dst, tmp, bk, dst, 0⟩] rfl rfl (by decide) (Nat.zero_le _)) (by rw [List.length_append, List.length_append, HLE.out]; simp; omega) (Nat.le_trans B5.out.size (by simp)) ?_; intro v6 w6 o6 g6; have O6 := Lib.hid o6; have B6 := Lib.hid ((B5.out.alloc B5.out.size _).grown g6 (by have := B5.out.size; simp; omega) fun b e => (O5.out.in b e).1); clear o6 g6))
        | fail)
      go_roundg (N - (k + 1))
      case measure => have := HMK.out; omega
      case rel => exact ⟨k + 1, by go_num, by omega, rfl, by rw [HNL.out], by unfold lookL; rw [HLK.out]; have := O6.out; simpa using this, B6.out⟩
    · have hkl : k = N := by omega
      subst hkl
      go_wp2
      go_ret
      exact ⟨_, rfl, HV.out, HBW.out⟩
end Go.Proofs.Ythhgagghdeocoaa
