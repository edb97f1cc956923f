/-
  The document's pace: Write, Tick, Close of a box; MayPace; a pace as the document has it; two that are one. Contracts for other texts; no statement of its own.
-/
import Derived.Test.YtbadpenfngdodaaPacFns
set_option linter.unusedVariables false
set_option linter.unusedSimpArgs false
namespace Go.Proofs.Ytbadpenfngdodaa
open Go Go.RowKit

/-- The document's variable that is a pace. -/
def DP (w : World) (g : Nat) (p : Pc) : Prop := PB 65 w g p.la p.k p.q p.ring p.queue p.cl
section
variable {w w' : World} {g : Nat} {la k q ring queue : Int} {cl : Bool} {t : TypeId}
theorem PB.dn (h : PB t w g la k q ring queue cl) (n : Nat) : PB t (w.drewN n) g la k q ring queue cl := h
theorem kept_dn {Q : Nat → Prop} {w w' : World} (h : Kept Q w w') (n : Nat) : Kept Q w (w'.drewN n) := ⟨h.os, h.tape, h.output, h.size, h.block⟩
end

set_option maxRecDepth 20000 in
set_option maxHeartbeats 2000000 in
theorem dtick_p {w : World} {g : Nat} {p : Pc} (h : DP w g p) (hp : p.ok) : Calls Try.prog 39 #[.pointer (some ⟨g, 0, none⟩)] w fun e w' => e = .returned (.int .i64 p.tkN) ∧ DP w' g p.tk ∧ Kept (fun b => b = g) w w' := by
  have hk1 := hp.k1
  have hu1 := hp.u1
  have hu2 := hp.queue'
  have hk2 : p.k ≤ 2000 := by have := hp.kq; have := hp.q2; omega
  unfold DP at h
  unfold Pc.tk Pc.tkN DP
  obtain ⟨la, k, q, ring, queue, cl⟩ := p
  clear hp
  simp only at hk1 hu1 hu2 hk2 h ⊢
  have H := Lib.hid h
  clear h
  go_enter Try.func39, Try.ntmps39
  go_wp2
  go_loopg [3] k.toNat (fun mm s wr => ∃ i : Nat, s = .int .i64 (i : Int) ∧ (i : Int) ≤ k ∧ (i : Int) ≤ queue ∧ mm = k.toNat - i ∧ PB 65 wr g la k q ring (queue - i) cl ∧ Kept (fun b => b = g) w wr)
  case atStart => exact ⟨0, by first | rfl | trivial, by omega, by omega, by first | rfl | trivial, by simpa using H.out, Kept.refl _ _⟩
  case round =>
    obtain ⟨i, rfl, hik, hiq, hmm, hb, hK⟩ := hrel
    have HM := Lib.hid hmm
    have HB := Lib.hid hb
    have HK := Lib.hid hK
    obtain ⟨z0, z1, z2, z3, z4, z5⟩ := hb.cell
    have fz := hb.frozen 4
    clear hmm hb hK
    by_cases h1 : (i : Int) < k
    · by_cases h2 : (0 : Int) < queue - i
      · have hw1 : IntKind.i64.wrap (queue - i - 1) = queue - i - 1 := IntWalk.i64_in _ (by omega)
        go_wp2
        go_roundg (k.toNat - (i + 1))
        case measure => have := HM.out; omega
        case rel =>
          refine ⟨i + 1, by go_num, by omega, by omega, rfl, ?_, HK.out.setCell (.inl rfl) _⟩
          have := HB.out.setQueue (queue - i - 1)
          rw [show queue - ((i + 1 : Nat) : Int) = queue - i - 1 by omega]
          exact this
      · have hmi : min k queue = (i : Int) := by omega
        go_wp2
        go_ret
        exact ⟨rfl, HB.out, HK.out⟩
    · have hmi : min k queue = (i : Int) := by omega
      go_wp2
      go_ret
      exact ⟨rfl, HB.out, HK.out⟩

set_option maxRecDepth 20000 in
set_option maxHeartbeats 2000000 in
theorem dclose_p {w : World} {g : Nat} {p : Pc} (h : DP w g p) (hp : p.ok) : Calls Try.prog 40 #[.pointer (some ⟨g, 0, none⟩)] w fun e w' => e = .returned (.int .i64 p.shE) ∧ DP w' g p.sh' ∧ Kept (fun b => b = g) w w' := by
  have hr1 := hp.r1
  have hr2 := hp.r2
  have hl2 := hp.l2
  have hu1 := hp.u1
  have hu2 := hp.queue'
  unfold DP at h
  unfold Pc.sh' Pc.shE DP
  obtain ⟨la, k, q, ring, queue, cl⟩ := p
  clear hp
  simp only at hr1 hr2 hl2 hu1 hu2 h ⊢
  have hw : IntKind.i64.wrap (queue + ring) = queue + ring := IntWalk.i64_in _ (by omega)
  have H := Lib.hid h
  obtain ⟨z0, z1, z2, z3, z4, z5⟩ := h.cell
  have f3 := h.frozen 3
  have f4 := h.frozen 4
  have f5 := h.frozen 5
  clear h
  cases cl
  · simp only [Bool.false_eq_true, if_false, if_true]
    go_enter Try.func40, Try.ntmps40
    go_wp2
    go_region
    go_wp2
    go_ret
    exact ⟨rfl, (((H.out.dn _).setQueue _).setRing 0).setCl true, (((kept_dn (Kept.refl (fun b => b = g) w) _).setCell (.inl rfl) _).setCell (.inl rfl) _).setCell (.inl rfl) _⟩
  · simp only [if_true, show ¬ ((9 : Int) = 0) by decide, if_false]
    go_enter Try.func40, Try.ntmps40
    go_wp2
    go_ret
    exact ⟨rfl, H.out, Kept.refl _ _⟩

set_option maxRecDepth 20000 in
set_option maxHeartbeats 2000000 in
theorem like_p13 (w : World) (p : Pc) : Calls Try.prog 23 #[pcV p] w fun e w' => e = .returned (pcV p) ∧ Below w.heap.size w w' := by
  unfold pcV
  obtain ⟨la, k, q, ring, queue, cl⟩ := p
  simp only
  go_enter Try.func23, Try.ntmps23
  go_wp2
  have h1 := PB.new 65 (w.alloc (.cells (pcA la k q ring queue cl) 58)) la k q ring queue cl
  rw [World.size_alloc] at h1
  exact bodyPost_ret (results_pc1 Try.results23 rfl Try.pcR h1) rfl ⟨rfl, two_b ..⟩

set_option maxRecDepth 20000 in
set_option maxHeartbeats 2000000 in
theorem dwrite_p {w : World} {g : Nat} {p : Pc} (h : DP w g p) (hp : p.ok) (n : Int) : Calls Try.prog 41 #[.pointer (some ⟨g, 0, none⟩), .int .i64 n] w fun e w' => e = .returned (.tuple #[.int .i64 (p.wrN n), .int .i64 (p.wrE n)]) ∧ DP w' g (p.wr n) ∧ Kept (fun b => b = g) w w' := by
  have hr1 := hp.r1
  have hr2 := hp.r2
  have hl2 := hp.l2
  have hu1 := hp.u1
  have hu2 := hp.queue'
  have hq2 := hp.q2
  have hq1 : 1 ≤ p.q := by have := hp.k1; have := hp.kq; omega
  have ho := hp.op
  unfold DP at h
  unfold Pc.wr Pc.wrN Pc.wrE Pc.wai Pc.hld DP
  obtain ⟨la, k, q, ring, queue, cl⟩ := p
  clear hp
  simp only at hr1 hr2 hl2 hu1 hu2 hq1 hq2 ho h ⊢
  have H := Lib.hid h
  obtain ⟨z0, z1, z2, z3, z4, z5⟩ := h.cell
  by_cases hn : n < 0
  · simp only [hn, if_true]
    clear ho h
    go_enter Try.func41, Try.ntmps41
    go_wp2
    go_ret2
    exact ⟨rfl, H.out, Kept.refl _ _⟩
  cases cl
  · have hqq := ho rfl
    simp only [hn, Bool.false_eq_true, if_false]
    clear ho
    generalize hL : min n (la - ring) = L
    generalize hU : min (n - L) (q - queue) = U
    generalize hE : (if L + U < n then (10 : Int) else 0) = E
    have HL := Lib.hid hL
    have HU := Lib.hid hU
    have HE := Lib.hid hE
    clear hL hU hE h
    go_enter Try.func41, Try.ntmps41
    go_wp2
    clear z0 z1 z2 z3 z4 z5
    go_loopg [6] 4000 (fun mm s wr => ∃ a b : Nat, s = .int .i64 ((a : Int) + b) ∧ (a : Int) ≤ la - ring ∧ (b : Int) ≤ q - queue ∧ (a : Int) + b ≤ n ∧ (b = 0 ∨ (a : Int) = la - ring) ∧ mm = 4000 - a - b ∧ PB 65 wr g la k q (ring + a) (queue + b) false ∧ Kept (fun b => b = g) w wr)
    case atStart => exact ⟨0, 0, by first | rfl | trivial, by omega, by omega, by omega, .inl rfl, by first | rfl | trivial, by simpa using H.out, Kept.refl _ _⟩
    case round =>
      obtain ⟨a, b, rfl, ha, hb, hab, h0, hmm, hpb, hK⟩ := hrel
      have HM := Lib.hid hmm
      have HB := Lib.hid hpb
      have HK := Lib.hid hK
      have H0 := Lib.hid h0
      obtain ⟨z0, z1, z2, z3, z4, z5⟩ := hpb.cell
      have f3 := hpb.frozen 3
      have f4 := hpb.frozen 4
      clear hmm hpb hK h0
      by_cases h1 : (a : Int) + b < n
      · by_cases h2 : ring + (a : Int) < la
        · have hw1 : IntKind.i64.wrap (ring + (a : Int) + 1) = ring + (a : Int) + 1 := IntWalk.i64_in _ (by omega)
          have hw2 : IntKind.i64.wrap ((a : Int) + b + 1) = (a : Int) + b + 1 := IntWalk.i64_in _ (by omega)
          go_wp2
          go_quiet (fail)
          go_wp2
          go_roundg (4000 - (a + 1) - b)
          case measure => have := HM.out; omega
          case rel =>
            refine ⟨a + 1, b, by go_num, by omega, hb, by omega, ?_, rfl, ?_, (kept_dn HK.out _).setCell (.inl rfl) _⟩
            · rcases H0.out with e | e
              · exact .inl e
              · omega
            · have := (HB.out.dn nq).setRing (ring + (a : Int) + 1)
              rw [show ring + ((a + 1 : Nat) : Int) = ring + (a : Int) + 1 by omega]
              exact this
        · by_cases h3 : queue + (b : Int) < q
          · have hw1 : IntKind.i64.wrap (queue + (b : Int) + 1) = queue + (b : Int) + 1 := IntWalk.i64_in _ (by omega)
            have hw2 : IntKind.i64.wrap ((a : Int) + b + 1) = (a : Int) + b + 1 := IntWalk.i64_in _ (by omega)
            go_wp2
            go_quiet (fail)
            go_wp2
            go_quiet (fail)
            go_wp2
            go_roundg (4000 - a - (b + 1))
            case measure => have := HM.out; omega
            case rel =>
              refine ⟨a, b + 1, by go_num, ha, by omega, by omega, .inr (by omega), rfl, ?_, (kept_dn HK.out _).setCell (.inl rfl) _⟩
              have := (HB.out.dn nq).setQueue (queue + (b : Int) + 1)
              rw [show queue + ((b + 1 : Nat) : Int) = queue + (b : Int) + 1 by omega]
              exact this
          · have e1 : L = a := by have := HL.out; omega
            have e2 : U = b := by have := HU.out; have := HL.out; omega
            have hlt : L + U < n := by omega
            have E1 := Lib.hid e1
            have E2 := Lib.hid e2
            have e4 := HE.out
            rw [if_pos hlt] at e4
            have E4 := Lib.hid e4
            clear e1 e2 e4 hlt
            go_wp2
            go_quiet (fail)
            go_wp2
            go_quiet (fail)
            go_wp2
            go_ret2
            rw [← E4.out, E1.out, E2.out]
            exact ⟨rfl, (HB.out.dn _).dn _, kept_dn (kept_dn HK.out _) _⟩
      · have e1 : L = a := by have := HL.out; have := H0.out; omega
        have e2 : U = b := by have := HU.out; have := HL.out; have := H0.out; omega
        have hlt : ¬ L + U < n := by omega
        have e3 : n = (a : Int) + b := by omega
        have E1 := Lib.hid e1
        have E2 := Lib.hid e2
        have E3 := Lib.hid e3
        have e4 := HE.out
        rw [if_neg hlt] at e4
        have E4 := Lib.hid e4
        clear e1 e2 e3 e4 hlt
        go_wp2
        go_ret2
        rw [← E4.out, E1.out, E2.out]
        refine ⟨?_, HB.out, HK.out⟩
        rw [← E3.out]
        rfl
  · simp only [hn, if_true, if_false]
    clear ho h
    go_enter Try.func41, Try.ntmps41
    go_wp2
    go_ret2
    exact ⟨rfl, H.out, Kept.refl _ _⟩

theorem below_one (w : World) (o : Obj) : Below w.heap.size w (w.alloc o) := (Below.refl _ _).alloc (Nat.le_refl _) _
set_option maxRecDepth 20000 in
set_option maxHeartbeats 4000000 in
theorem dmay_p13 (w : World) (p : Pc) : Calls Try.prog 21 #[pcV p] w fun e w' => e = .returned (.bool p.may) ∧ Below w.heap.size w w' := by
  unfold pcV
  by_cases hp : p.ok
  · have l1 := hp.l1
    have l2 := hp.l2
    have k1 := hp.k1
    have kq := hp.kq
    have q2 := hp.q2
    have r1 := hp.r1
    have r2 := hp.r2
    have u1 := hp.u1
    have k2 : p.k ≤ 1024 := by omega
    have ho := hp.op
    have hs := hp.sh
    rw [(Pc.may_iff p).mpr hp]
    obtain ⟨la, k, q, ring, queue, cl⟩ := p
    simp only at l1 l2 k1 kq q2 r1 r2 u1 k2 ho hs ⊢
    clear hp
    have hw : IntKind.i64.wrap (q + la) = q + la := IntWalk.i64_in _ (by omega)
    cases cl
    · have h9 := ho rfl
      clear ho hs
      go_enter Try.func21, Try.ntmps21
      go_wp2
      go_ret
      exact ⟨rfl, below_one ..⟩
    · obtain ⟨rfl, h9⟩ := hs rfl
      clear ho hs
      go_enter Try.func21, Try.ntmps21
      go_wp2
      go_ret
      exact ⟨rfl, below_one ..⟩
  · have hm : p.may = false := by
      cases h : p.may
      · rfl
      · exact absurd ((Pc.may_iff p).mp h) hp
    rw [hm]
    have hno : p.la < 1 ∨ (¬ p.la < 1 ∧ 32 < p.la) ∨ (¬ p.la < 1 ∧ ¬ 32 < p.la ∧ p.k < 1) ∨ (¬ p.la < 1 ∧ ¬ 32 < p.la ∧ ¬ p.k < 1 ∧ 1024 < p.k) ∨ (¬ p.la < 1 ∧ ¬ 32 < p.la ∧ ¬ p.k < 1 ∧ ¬ 1024 < p.k ∧ p.q < p.k) ∨ (¬ p.la < 1 ∧ ¬ 32 < p.la ∧ ¬ p.k < 1 ∧ ¬ 1024 < p.k ∧ ¬ p.q < p.k ∧ 1024 < p.q)
        ∨ (¬ p.la < 1 ∧ ¬ 32 < p.la ∧ ¬ p.k < 1 ∧ ¬ 1024 < p.k ∧ ¬ p.q < p.k ∧ ¬ 1024 < p.q ∧ p.ring < 0) ∨ (¬ p.la < 1 ∧ ¬ 32 < p.la ∧ ¬ p.k < 1 ∧ ¬ 1024 < p.k ∧ ¬ p.q < p.k ∧ ¬ 1024 < p.q ∧ ¬ p.ring < 0 ∧ p.la < p.ring)
        ∨ (¬ p.la < 1 ∧ ¬ 32 < p.la ∧ ¬ p.k < 1 ∧ ¬ 1024 < p.k ∧ ¬ p.q < p.k ∧ ¬ 1024 < p.q ∧ ¬ p.ring < 0 ∧ ¬ p.la < p.ring ∧ p.queue < 0)
        ∨ (¬ p.la < 1 ∧ ¬ 32 < p.la ∧ ¬ p.k < 1 ∧ ¬ 1024 < p.k ∧ ¬ p.q < p.k ∧ ¬ 1024 < p.q ∧ ¬ p.ring < 0 ∧ ¬ p.la < p.ring ∧ ¬ p.queue < 0 ∧ (p.cl = false ∧ ¬ p.queue ≤ p.q ∨ p.cl = true ∧ (p.ring == 0) = false ∨ p.cl = true ∧ (p.ring == 0) = true ∧ ¬ p.queue ≤ p.q + p.la)) := by
      by_cases c1 : p.la < 1
      · exact .inl c1
      by_cases c2 : 32 < p.la
      · exact .inr (.inl ⟨c1, c2⟩)
      by_cases c3 : p.k < 1
      · exact .inr (.inr (.inl ⟨c1, c2, c3⟩))
      by_cases c4 : 1024 < p.k
      · exact .inr (.inr (.inr (.inl ⟨c1, c2, c3, c4⟩)))
      by_cases c5 : p.q < p.k
      · exact .inr (.inr (.inr (.inr (.inl ⟨c1, c2, c3, c4, c5⟩))))
      by_cases c6 : 1024 < p.q
      · exact .inr (.inr (.inr (.inr (.inr (.inl ⟨c1, c2, c3, c4, c5, c6⟩)))))
      by_cases c7 : p.ring < 0
      · exact .inr (.inr (.inr (.inr (.inr (.inr (.inl ⟨c1, c2, c3, c4, c5, c6, c7⟩))))))
      by_cases c8 : p.la < p.ring
      · exact .inr (.inr (.inr (.inr (.inr (.inr (.inr (.inl ⟨c1, c2, c3, c4, c5, c6, c7, c8⟩)))))))
      by_cases c9 : p.queue < 0
      · exact .inr (.inr (.inr (.inr (.inr (.inr (.inr (.inr (.inl ⟨c1, c2, c3, c4, c5, c6, c7, c8, c9⟩))))))))
      refine .inr (.inr (.inr (.inr (.inr (.inr (.inr (.inr (.inr ⟨c1, c2, c3, c4, c5, c6, c7, c8, c9, ?_⟩))))))))
      have key : (p.cl = false → p.queue ≤ p.q) → (p.cl = true → p.ring = 0 ∧ p.queue ≤ p.q + p.la) → False := fun a b => hp ⟨by omega, by omega, by omega, by omega, by omega, by omega, by omega, by omega, a, b⟩
      cases hc : p.cl
      · exact .inl ⟨rfl, fun h => key (fun _ => h) (fun e => by rw [hc] at e; cases e)⟩
      · by_cases hr : p.ring = 0
        · exact .inr (.inr ⟨rfl, by simp [hr], fun h => key (fun e => by rw [hc] at e; cases e) (fun _ => ⟨hr, h⟩)⟩)
        · exact .inr (.inl ⟨rfl, by simp [hr]⟩)
    obtain ⟨la, k, q, ring, queue, cl⟩ := p
    simp only at hno ⊢
    clear hm hp
    rcases hno with h1 | ⟨h1, h2⟩ | ⟨h1, h2, h3⟩ | ⟨h1, h2, h3, h4⟩ | ⟨h1, h2, h3, h4, h5⟩ | ⟨h1, h2, h3, h4, h5, h6⟩ | ⟨h1, h2, h3, h4, h5, h6, h7⟩ | ⟨h1, h2, h3, h4, h5, h6, h7, h8⟩ | ⟨h1, h2, h3, h4, h5, h6, h7, h8, h9⟩ | ⟨h1, h2, h3, h4, h5, h6, h7, h8, h9, ⟨rfl, ha⟩ | ⟨rfl, ha⟩ | ⟨rfl, ha, hb⟩⟩
    case inr.inr.inr.inr.inr.inr.inr.inr.inr.inr.inr =>
      have hw : IntKind.i64.wrap (q + la) = q + la := IntWalk.i64_in _ (by omega)
      go_enter Try.func21, Try.ntmps21
      go_wp2
      go_ret
      exact ⟨by simp [hb], below_one ..⟩
    all_goals
      go_enter Try.func21, Try.ntmps21
      go_wp2
      go_ret
      exact ⟨by first | rfl | simp [*], below_one ..⟩
end Go.Proofs.Ytbadpenfngdodaa
