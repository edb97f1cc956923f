/-
  pace.New, Write, Tick, Close. Contracts for other texts; no statement of its own.
-/
import Derived.Test.YtbadpenfngdodaaPacMath
set_option linter.unusedVariables false
set_option linter.unusedSimpArgs false
namespace Go.Proofs.Ytbadpenfngdodaa
open Go Go.RowKit

def newOk (la k q : Int) : Bool := (Pc.mk la k q 0 0 false).may
def newP (la k q : Int) : Pc := if newOk la k q then ⟨la, k, q, 0, 0, false⟩ else ⟨0, 0, 0, 0, 0, false⟩
theorem newOk_iff (la k q : Int) : newOk la k q = true ↔ (1 ≤ la ∧ la ≤ 32 ∧ 1 ≤ k ∧ k ≤ q ∧ q ≤ 1024) := by
  unfold newOk
  rw [Pc.may_iff]
  constructor
  · intro h
    exact ⟨h.l1, h.l2, h.k1, h.kq, h.q2⟩
  · intro h
    exact ⟨h.1, h.2.1, h.2.2.1, h.2.2.2.1, h.2.2.2.2, by simp, by simp only; omega, by simp, fun _ => by simp only; omega, fun e => by simp at e⟩

set_option maxRecDepth 20000 in
set_option maxHeartbeats 2000000 in
theorem pnew_p (w : World) (la k q : Int) : Calls Try.prog 20 #[.int .i64 la, .int .i64 k, .int .i64 q] w fun e w' => e = .returned (.tuple #[pcV (newP la k q), errC (if newOk la k q = true then 0 else 1)]) ∧ Below w.heap.size w w' := by
  have hi := newOk_iff la k q
  have h0 := PB.new 58 w 0 0 0 0 0 false
  have HB0 := Lib.hid h0
  unfold PB at h0
  unfold pcA at h0
  have hB := fun A => below_setRow (B := w.heap.size) (g := w.heap.size) ((Below.refl w.heap.size w).alloc (Nat.le_refl _) (.cells (pcA 0 0 0 0 0 false) 58)) (Nat.le_refl _) A
  have HBB := Lib.hid hB
  clear hB h0
  by_cases hn : newOk la k q = true
  · obtain ⟨h1, h2, h3, h4, h5⟩ := hi.mp hn
    rw [newP, if_pos hn, if_pos hn]
    clear hi hn
    go_enter Try.func20, Try.ntmps20
    go_wp2_with (first
      | (refine wpList_storeP (by rfl) _ _ (by rfl) (by rfl) (by rfl) Try.pcP HB0.out ?_; intro hbx; have HX := Lib.hid hbx; clear hbx; go_simp)
      | fail)
    exact bodyPost_ret (results_pc Try.results20 rfl rfl Try.pcP HX.out) rfl ⟨rfl, HBB.out _⟩
  · have hj : la < 1 ∨ (¬ la < 1 ∧ 32 < la) ∨ (¬ la < 1 ∧ ¬ 32 < la ∧ k < 1) ∨ (¬ la < 1 ∧ ¬ 32 < la ∧ ¬ k < 1 ∧ q < k) ∨ (¬ la < 1 ∧ ¬ 32 < la ∧ ¬ k < 1 ∧ ¬ q < k ∧ 1024 < q) := by
      have : ¬ (1 ≤ la ∧ la ≤ 32 ∧ 1 ≤ k ∧ k ≤ q ∧ q ≤ 1024) := fun h => hn (hi.mpr h)
      omega
    rw [newP, if_neg hn, if_neg hn]
    clear hi hn
    rcases hj with h1 | ⟨h1, h2⟩ | ⟨h1, h2, h3⟩ | ⟨h1, h2, h3, h4⟩ | ⟨h1, h2, h3, h4, h5⟩
    all_goals
      go_enter Try.func20, Try.ntmps20
      go_wp2_with (first
        | (refine wpList_storeP (by rfl) _ _ (by rfl) (by rfl) (by rfl) Try.pcP HB0.out ?_; intro hbx; have HX := Lib.hid hbx; clear hbx; go_simp)
        | fail)
      exact bodyPost_ret (results_pc Try.results20 rfl rfl Try.pcP HX.out) rfl ⟨rfl, HBB.out _⟩
theorem two_p {w : World} {o : Obj} {la k q ring queue : Int} {cl : Bool} : PB 58 ((w.alloc o).alloc (.cells (pcA la k q ring queue cl) 58)) (w.heap.size + 1) la k q ring queue cl := by
  have h1 := PB.new 58 (w.alloc o) la k q ring queue cl
  rw [World.size_alloc] at h1
  exact h1
theorem two_b (w : World) (o o' : Obj) : Below w.heap.size w ((w.alloc o).alloc o') := ((Below.refl _ _).alloc (Nat.le_refl _) _).alloc (by simp) _
theorem Pc.ok.queue' {p : Pc} (h : p.ok) : p.queue ≤ 2000 := by
  have := h.q2; have := h.l2
  cases hc : p.cl
  · have := h.op hc; omega
  · have := (h.sh hc).2; omega

set_option maxRecDepth 20000 in
set_option maxHeartbeats 2000000 in
theorem ptick_p (w : World) (p : Pc) (hp : p.ok) : Calls Try.prog 26 #[pcV p] w fun e w' => e = .returned (.tuple #[pcV p.tk, .int .i64 p.tkN]) ∧ Below w.heap.size w w' := by
  have hk1 := hp.k1
  have hu1 := hp.u1
  have hu2 := hp.queue'
  have hk2 : p.k ≤ 2000 := by have := hp.kq; have := hp.q2; omega
  unfold Pc.tk Pc.tkN pcV
  obtain ⟨la, k, q, ring, queue, cl⟩ := p
  clear hp
  simp only at hk1 hu1 hu2 hk2 ⊢
  have hn1 : min k queue ≤ queue := by omega
  have hn2 : 0 ≤ min k queue := by omega
  obtain ⟨N, hN⟩ : ∃ N, min k queue = N := ⟨_, rfl⟩
  rw [hN] at hn1 hn2 ⊢
  have hw : IntKind.i64.wrap (queue - N) = queue - N := IntWalk.i64_in _ (by omega)
  go_enter Try.func26, Try.ntmps26
  go_wp2
  exact bodyPost_ret (results_pc Try.results26 rfl rfl Try.pcP two_p) rfl ⟨rfl, two_b ..⟩

set_option maxRecDepth 20000 in
set_option maxHeartbeats 2000000 in
theorem pclose_p (w : World) (p : Pc) (hp : p.ok) : Calls Try.prog 28 #[pcV p] w fun e w' => e = .returned (.tuple #[pcV p.sh', errC p.shE]) ∧ Below w.heap.size w w' := by
  have hr1 := hp.r1
  have hr2 := hp.r2
  have hl2 := hp.l2
  have hu1 := hp.u1
  have hu2 := hp.queue'
  unfold Pc.sh' Pc.shE pcV errC
  obtain ⟨la, k, q, ring, queue, cl⟩ := p
  clear hp
  simp only at hr1 hr2 hl2 hu1 hu2 ⊢
  have hw : IntKind.i64.wrap (queue + ring) = queue + ring := IntWalk.i64_in _ (by omega)
  cases cl
  · simp only [Bool.false_eq_true, if_false, if_true]
    go_enter Try.func28, Try.ntmps28
    go_wp2
    exact bodyPost_ret (results_pc Try.results28 rfl rfl Try.pcP two_p) rfl ⟨rfl, two_b ..⟩
  · simp only [if_true, show ¬ ((9 : Int) = 0) by decide, if_false]
    go_enter Try.func28, Try.ntmps28
    go_wp2
    exact bodyPost_ret (results_pc Try.results28 rfl rfl Try.pcP two_p) rfl ⟨rfl, two_b ..⟩

set_option maxRecDepth 20000 in
set_option maxHeartbeats 2000000 in
theorem pwrite_p (w : World) (p : Pc) (hp : p.ok) (n : Int) (h1 : -9223372036854775808 ≤ n) (h2 : n ≤ 9223372036854775807) : Calls Try.prog 27 #[pcV p, .int .i64 n] w fun e w' => e = .returned (.tuple #[pcV (p.wr n), .int .i64 (p.wrN n), errC (p.wrE n)]) ∧ Below w.heap.size w w' := by
  have hr1 := hp.r1
  have hr2 := hp.r2
  have hl2 := hp.l2
  have hu1 := hp.u1
  have hu2 := hp.queue'
  have hq2 := hp.q2
  have hq1 : 1 ≤ p.q := by have := hp.k1; have := hp.kq; omega
  have ho := hp.op
  unfold Pc.wr Pc.wrN Pc.wrE Pc.wai Pc.hld pcV errC
  obtain ⟨la, k, q, ring, queue, cl⟩ := p
  clear hp
  simp only at hr1 hr2 hl2 hu1 hu2 hq1 hq2 ho ⊢
  by_cases hn : n < 0
  · simp only [hn, if_true, show ¬ ((1 : Int) = 0) by decide, if_false]
    clear ho
    go_enter Try.func27, Try.ntmps27
    go_wp2
    exact bodyPost_ret (results_pc3 Try.results27 rfl rfl rfl Try.pcP two_p) rfl ⟨rfl, two_b ..⟩
  cases cl
  · have hqq := ho rfl
    simp only [hn, Bool.false_eq_true, if_false]
    clear ho
    have hw1 : IntKind.i64.wrap (la - ring) = la - ring := IntWalk.i64_in _ (by omega)
    have a1 : min n (la - ring) ≤ n := by omega
    have a2 : min n (la - ring) ≤ la - ring := by omega
    have a3 : 0 ≤ min n (la - ring) := by omega
    obtain ⟨H, hH⟩ : ∃ H, min n (la - ring) = H := ⟨_, rfl⟩
    rw [hH] at a1 a2 a3
    simp only [hH]
    have hw2 : IntKind.i64.wrap (n - H) = n - H := IntWalk.i64_in _ (by omega)
    have hw3 : IntKind.i64.wrap (q - queue) = q - queue := IntWalk.i64_in _ (by omega)
    have b1 : min (n - H) (q - queue) ≤ n - H := by omega
    have b2 : min (n - H) (q - queue) ≤ q - queue := by omega
    have b3 : 0 ≤ min (n - H) (q - queue) := by omega
    obtain ⟨V, hV⟩ : ∃ V, min (n - H) (q - queue) = V := ⟨_, rfl⟩
    rw [hV] at b1 b2 b3
    simp only [hV]
    have hw4 : IntKind.i64.wrap (ring + H) = ring + H := IntWalk.i64_in _ (by omega)
    have hw5 : IntKind.i64.wrap (queue + V) = queue + V := IntWalk.i64_in _ (by omega)
    have hw6 : IntKind.i64.wrap (H + V) = H + V := IntWalk.i64_in _ (by omega)
    by_cases hf : H + V < n
    all_goals
      simp only [hf, if_true, if_false, show ¬ ((10 : Int) = 0) by decide]
      go_enter Try.func27, Try.ntmps27
      go_wp2
      exact bodyPost_ret (results_pc3 Try.results27 rfl rfl rfl Try.pcP two_p) rfl ⟨rfl, two_b ..⟩
  · simp only [hn, if_true, show ¬ ((9 : Int) = 0) by decide, if_false]
    clear ho
    go_enter Try.func27, Try.ntmps27
    go_wp2
    exact bodyPost_ret (results_pc3 Try.results27 rfl rfl rfl Try.pcP two_p) rfl ⟨rfl, two_b ..⟩
end Go.Proofs.Ytbadpenfngdodaa
