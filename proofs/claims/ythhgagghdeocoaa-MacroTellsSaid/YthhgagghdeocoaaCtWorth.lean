/-
  ct: what a cell is to be. Contracts for other texts; no statement of its own.
-/
import Derived.Test.YthhgagghdeocoaaCtBits
import Derived.Deep.QuietTactic
import Derived.BigQuiet
import Derived.Test.YthhgagghdeocoaaApp2
set_option linter.unusedVariables false
set_option linter.unusedSimpArgs false
namespace Go.Proofs.Ythhgagghdeocoaa
open Go Go.RowKit

theorem there_nat {x : Int} {m : Nat} (h : there x m = true) : ∃ k : Nat, x = (k : Int) ∧ k < m := by
  unfold there at h
  simp at h
  exact ⟨x.toNat, by omega, by omega⟩
theorem flip_same {f : FuncId} {args : Array Value} {w : World} {x : Ending} (h : Calls Try.prog f args w fun e w' => e = x ∧ w = w') : Calls Try.prog f args w fun e w' => e = x ∧ w' = w := h.mono fun e w' h => ⟨h.1, h.2.symm⟩
set_option maxRecDepth 20000 in
set_option maxHeartbeats 1000000 in
theorem worth_p {w : World} {p c m cc : Nat} {f : Int → Int} (hm : w.cell? ⟨p, 0, none⟩ = some (.slice (some ⟨c, 0, none⟩) m cc)) (hc : ∀ k : Nat, k < m → w.cell? ⟨c, k, none⟩ = some (.int .u64 (f k))) (hf : ∀ z, U64 (f z)) (x : Ins) (hx : x.fits) (hM : m ≤ 200000) (hmay : may x m = true) :
    Calls Try.prog 75 #[.pointer (some ⟨p, 0, none⟩), insV x] w fun e w' => e = .returned (.int .u64 (worth x f)) ∧ Below w.heap.size w w' := by
  have hb0 : Below w.heap.size w (w.alloc (.cells #[.int .i64 x.op, .int .i64 x.d, .int .i64 x.a, .int .i64 x.b, .int .i64 x.c, .int .u64 x.n] 68)) := (Below.refl _ _).alloc (Nat.le_refl _) _
  have hm0 := cell_stays hm hb0
  have hc0 := fun k hk => cell_stays (hc k hk) hb0
  have hop := hx.op
  have hn := hx.n
  obtain ⟨o, d, a, b, c', n⟩ := x
  simp only at hop hn hb0 hm0 hc0
  unfold may at hmay
  unfold worth insV
  simp only at hmay ⊢
  have HB := Lib.hid hb0
  clear hx hb0 hm hc
  unfold I64 at hop
  unfold U64 at hn
  rcases op_cases o with h | h | h | h | h | h | h | h | h | h | h | h | h
  · subst h
    clear hmay hm0 hc0
    go_enter Try.func75, Try.ntmps75
    go_wp2
    go_ret
    exact ⟨by simp, HB.out⟩
  · subst h
    simp at hmay
    obtain ⟨⟨⟨h1, h2⟩, h3⟩, h4⟩ := hmay
    obtain ⟨ka, rfl, hka⟩ := there_nat h2
    obtain ⟨kb, rfl, hkb⟩ := there_nat h3
    obtain ⟨kc, rfl, hkc⟩ := there_nat h4
    have ca := hc0 ka hka
    have cb := hc0 kb hkb
    have cd := hc0 kc hkc
    have hsel := sel_p (f ka) (f kb) (f kc) (hf _) (hf _) (hf _)
    simp only [if_true]
    generalize (if f ka = 0 then f kc else f kb) = r at hsel ⊢
    generalize f ka = va at ca hsel
    generalize f kb = vb at cb hsel
    generalize f kc = vc at cd hsel
    have ia0 : (0 : Int) ≤ (ka : Int) := by omega
    have ib0 : (0 : Int) ≤ (kb : Int) := by omega
    have ic0 : (0 : Int) ≤ (kc : Int) := by omega
    have ia1 : (ka : Int) < (m : Int) := by omega
    have ib1 : (kb : Int) < (m : Int) := by omega
    have ic1 : (kc : Int) < (m : Int) := by omega
    have HS := Lib.hid hsel
    clear hsel hc0 hf h1 h2 h3 h4
    go_enter Try.func75, Try.ntmps75
    go_wp2
    go_quiet ((go_at_call 90; exact Calls.quiet_of_same (flip_same (HS.out _))))
    go_wp2
    go_ret
    exact ⟨rfl, below_dn HB.out nq⟩
  · subst h
    simp at hmay
    obtain ⟨⟨h1, h2⟩, h3⟩ := hmay
    obtain ⟨ka, rfl, hka⟩ := there_nat h2
    obtain ⟨kb, rfl, hkb⟩ := there_nat h3
    have ca := hc0 ka hka
    have cb := hc0 kb hkb
    have ua := hf ka
    have ub := hf kb
    have hs := eq_p (f ka) (f kb) (hf _) (hf _)
    simp
    generalize f ka = va at *
    generalize f kb = vb at *
    have ia0 : (0 : Int) ≤ (ka : Int) := by omega
    have ib0 : (0 : Int) ≤ (kb : Int) := by omega
    have ia1 : (ka : Int) < (m : Int) := by omega
    have ib1 : (kb : Int) < (m : Int) := by omega
    clear hc0 hf h1 h2 h3
    have HS := Lib.hid hs
    unfold same at HS
    generalize (if va = vb then (1 : Int) else 0) = r at HS ⊢
    clear hs ua ub
    go_enter Try.func75, Try.ntmps75
    go_wp2
    go_quiet ((go_at_call 91; exact Calls.quiet_of_same (flip_same (HS.out _))))
    go_wp2
    go_ret
    exact ⟨rfl, below_dn HB.out nq⟩
  · subst h
    simp at hmay
    obtain ⟨⟨h1, h2⟩, h3⟩ := hmay
    obtain ⟨ka, rfl, hka⟩ := there_nat h2
    obtain ⟨kb, rfl, hkb⟩ := there_nat h3
    have ca := hc0 ka hka
    have cb := hc0 kb hkb
    have ua := hf ka
    have ub := hf kb
    have hs := lt_p (f ka) (f kb) (hf _) (hf _)
    simp
    generalize f ka = va at *
    generalize f kb = vb at *
    have ia0 : (0 : Int) ≤ (ka : Int) := by omega
    have ib0 : (0 : Int) ≤ (kb : Int) := by omega
    have ia1 : (ka : Int) < (m : Int) := by omega
    have ib1 : (kb : Int) < (m : Int) := by omega
    clear hc0 hf h1 h2 h3
    have HS := Lib.hid hs
    unfold less at HS
    generalize (if va < vb then (1 : Int) else 0) = r at HS ⊢
    clear hs ua ub
    go_enter Try.func75, Try.ntmps75
    go_wp2
    go_quiet ((go_at_call 92; exact Calls.quiet_of_same (flip_same (HS.out _))))
    go_wp2
    go_ret
    exact ⟨rfl, below_dn HB.out nq⟩
  · subst h
    simp at hmay
    obtain ⟨⟨h1, h2⟩, h3⟩ := hmay
    obtain ⟨ka, rfl, hka⟩ := there_nat h2
    obtain ⟨kb, rfl, hkb⟩ := there_nat h3
    have ca := hc0 ka hka
    have cb := hc0 kb hkb
    have ua := hf ka
    have ub := hf kb
    simp
    generalize f ka = va at *
    generalize f kb = vb at *
    have ia0 : (0 : Int) ≤ (ka : Int) := by omega
    have ib0 : (0 : Int) ≤ (kb : Int) := by omega
    have ia1 : (ka : Int) < (m : Int) := by omega
    have ib1 : (kb : Int) < (m : Int) := by omega
    clear hc0 hf h1 h2 h3
    clear ua ub
    go_enter Try.func75, Try.ntmps75
    go_wp2
    go_quiet (fail)
    go_wp2
    go_ret
    exact ⟨by first | rfl | (rw [← IntKind.wrap_u64]; try rfl), below_dn HB.out nq⟩
  · subst h
    simp at hmay
    obtain ⟨⟨h1, h2⟩, h3⟩ := hmay
    obtain ⟨ka, rfl, hka⟩ := there_nat h2
    obtain ⟨kb, rfl, hkb⟩ := there_nat h3
    have ca := hc0 ka hka
    have cb := hc0 kb hkb
    have ua := hf ka
    have ub := hf kb
    have hs := csub_p (f ka) (f kb) (hf _) (hf _)
    simp
    generalize f ka = va at *
    generalize f kb = vb at *
    have ia0 : (0 : Int) ≤ (ka : Int) := by omega
    have ib0 : (0 : Int) ≤ (kb : Int) := by omega
    have ia1 : (ka : Int) < (m : Int) := by omega
    have ib1 : (kb : Int) < (m : Int) := by omega
    clear hc0 hf h1 h2 h3
    have HS := Lib.hid hs
    generalize (if vb ≤ va then va - vb else va) = r at HS ⊢
    clear hs ua ub
    go_enter Try.func75, Try.ntmps75
    go_wp2
    go_quiet ((go_at_call 93; exact Calls.quiet_of_same (flip_same (HS.out _))))
    go_wp2
    go_ret
    exact ⟨rfl, below_dn HB.out nq⟩
  · subst h
    simp at hmay
    obtain ⟨⟨h1, h2⟩, h3⟩ := hmay
    obtain ⟨ka, rfl, hka⟩ := there_nat h2
    obtain ⟨q, rfl⟩ : ∃ q : Nat, n = (q : Int) := ⟨n.toNat, by omega⟩
    have ca := hc0 ka hka
    have ua := hf ka
    simp
    generalize f ka = va at *
    have ia0 : (0 : Int) ≤ (ka : Int) := by omega
    have ia1 : (ka : Int) < (m : Int) := by omega
    clear hc0 hf h1 h2
    go_enter Try.func75, Try.ntmps75
    go_wp2
    go_quiet (fail)
    go_wp2
    go_ret
    exact ⟨by first | rfl | (rw [← IntKind.wrap_u64]; try rfl), below_dn HB.out nq⟩
  · subst h
    simp at hmay
    obtain ⟨⟨h1, h2⟩, h3⟩ := hmay
    obtain ⟨ka, rfl, hka⟩ := there_nat h2
    obtain ⟨q, rfl⟩ : ∃ q : Nat, n = (q : Int) := ⟨n.toNat, by omega⟩
    have ca := hc0 ka hka
    have ua := hf ka
    simp
    generalize f ka = va at *
    have ia0 : (0 : Int) ≤ (ka : Int) := by omega
    have ia1 : (ka : Int) < (m : Int) := by omega
    clear hc0 hf h1 h2
    go_enter Try.func75, Try.ntmps75
    go_wp2
    go_quiet (fail)
    go_wp2
    go_ret
    exact ⟨by first | rfl | simp, below_dn HB.out nq⟩
  · subst h
    simp at hmay
    obtain ⟨⟨h1, h2⟩, h3⟩ := hmay
    obtain ⟨ka, rfl, hka⟩ := there_nat h2
    obtain ⟨kb, rfl, hkb⟩ := there_nat h3
    have ca := hc0 ka hka
    have cb := hc0 kb hkb
    have ua := hf ka
    have ub := hf kb
    simp
    generalize f ka = va at *
    generalize f kb = vb at *
    have ia0 : (0 : Int) ≤ (ka : Int) := by omega
    have ib0 : (0 : Int) ≤ (kb : Int) := by omega
    have ia1 : (ka : Int) < (m : Int) := by omega
    have ib1 : (kb : Int) < (m : Int) := by omega
    clear hc0 hf h1 h2 h3
    clear ua ub
    go_enter Try.func75, Try.ntmps75
    go_wp2
    go_quiet (fail)
    go_wp2
    go_ret
    exact ⟨rfl, below_dn HB.out nq⟩
  · subst h
    simp at hmay
    obtain ⟨⟨h1, h2⟩, h3⟩ := hmay
    obtain ⟨ka, rfl, hka⟩ := there_nat h2
    obtain ⟨kb, rfl, hkb⟩ := there_nat h3
    have ca := hc0 ka hka
    have cb := hc0 kb hkb
    have ua := hf ka
    have ub := hf kb
    simp
    generalize f ka = va at *
    generalize f kb = vb at *
    have ia0 : (0 : Int) ≤ (ka : Int) := by omega
    have ib0 : (0 : Int) ≤ (kb : Int) := by omega
    have ia1 : (ka : Int) < (m : Int) := by omega
    have ib1 : (kb : Int) < (m : Int) := by omega
    clear hc0 hf h1 h2 h3
    clear ua ub
    go_enter Try.func75, Try.ntmps75
    go_wp2
    go_quiet (fail)
    go_wp2
    go_ret
    exact ⟨rfl, below_dn HB.out nq⟩
  · subst h
    clear hmay hm0 hc0
    go_enter Try.func75, Try.ntmps75
    go_wp2
    go_ret
    exact ⟨by simp, HB.out⟩
  · subst h
    clear hmay hm0 hc0
    go_enter Try.func75, Try.ntmps75
    go_wp2
    go_ret
    exact ⟨by simp, HB.out⟩
  · obtain ⟨q0, q1, q2, q3, q4, q5, q6, q7, q8, q9, q10, q11⟩ := h
    simp [q0, q1, q2, q3, q4, q5, q6, q7, q8, q9, q10, q11] at hmay
end Go.Proofs.Ythhgagghdeocoaa
