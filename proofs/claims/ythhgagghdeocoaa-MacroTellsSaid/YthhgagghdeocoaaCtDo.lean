/-
  ct: what Do does. Contracts for other texts; no statement of its own.
-/
import Derived.Test.YthhgagghdeocoaaCtKeep2
import Derived.Test.YthhgagghdeocoaaCtMay
import Derived.Test.YthhgagghdeocoaaCtWorth
import Derived.Test.YthhgagghdeocoaaCtTrace
import Derived.Test.YthhgagghdeocoaaCtNext
set_option linter.unusedVariables false
set_option linter.unusedSimpArgs false
namespace Go.Proofs.Ythhgagghdeocoaa
open Go Go.RowKit

theorem keep_p {w : World} {F : Nat → Prop} {p m : Nat} {f : Int → Int} {tr : List Ins} (h : Mach w F p m f tr) (x : Ins) (hlen : tr.length ≤ 99999) :
    Calls Try.prog 73 #[.pointer (some ⟨p, 0, none⟩), insV x] w fun e w' => e = .returned (.tuple #[]) ∧ ∃ F', Mach w' F' p m f (tr ++ [x]) ∧ Kept F w w' ∧ (∀ b, F' b → F b ∨ w.heap.size ≤ b) := by
  obtain ⟨c, dv, vs, ls, h1, rfl, h3⟩ := h
  have hne : ∀ (i : Nat) l', ls[i]? = some l' → l' ≠ [] := fun i l' e => h3 l' (List.mem_of_getElem? e)
  have hmany := many_le ls h3
  have hll := h1.len
  rcases Nat.eq_zero_or_pos vs.length with hn | hn
  · exact keep_0 h1 x hn hne
  · obtain ⟨k, hk⟩ : ∃ k, vs.length = k + 1 := ⟨vs.length - 1, by omega⟩
    obtain ⟨l, hl⟩ : ∃ l, ls[k]? = some l := ⟨_, List.getElem?_eq_getElem (by omega)⟩
    have hlm : l.length ≤ ls.flatten.length := (List.sublist_flatten_of_mem (List.mem_of_getElem? hl)).length_le
    by_cases e : l.length = 256
    · exact keep_full h1 x k hk l hl e (by omega) hne
    · exact keep_room h1 x k hk l hl e (by omega) (by omega) fun i l' _ => hne i l'

def errM (b : Bool) : Value := if b = true then .nilIface else .iface 101 (.int .i64 1)
def RetDo (w : World) (F : Nat → Prop) (p m : Nat) (f : Int → Int) (tr : List Ins) (x : Ins) (e : Ending) (w' : World) : Prop :=
  e = .returned (.tuple #[.int .u64 (toldM x m f), errM (may x m)]) ∧ ∃ F', Mach w' F' p m (nextM x m f) (nextT x m tr) ∧ Kept F w w' ∧ (∀ b, F' b → F b ∨ w.heap.size ≤ b)

set_option maxRecDepth 20000 in
set_option maxHeartbeats 2000000 in
theorem do_no {w : World} {F : Nat → Prop} {p m : Nat} {f : Int → Int} {tr : List Ins} (h : Mach w F p m f tr) (x : Ins) (hx : x.fits) (hmay : may x m = false) :
    Calls Try.prog 50 #[.pointer (some ⟨p, 0, none⟩), insV x] w (RetDo w F p m f tr x) := by
  obtain ⟨c, dv, vs, ls, h1, h2⟩ := id h
  have hcm := fun (W : World) (hb : Below w.heap.size w W) => may_p (w := W) (cell_stays h1.c0 hb) x hx
  rw [hmay] at hcm
  unfold RetDo toldM nextM nextT errM
  rw [hmay]
  have hb0 : Below w.heap.size w (w.alloc (.cells #[.int .i64 x.op, .int .i64 x.d, .int .i64 x.a, .int .i64 x.b, .int .i64 x.c, .int .u64 x.n] 68)) := (Below.refl _ _).alloc (Nat.le_refl _) _
  have HB := Lib.hid hb0
  have HC := Lib.hid hcm
  have H := Lib.hid h
  unfold insV at HC ⊢
  simp only [Bool.false_eq_true, if_false]
  clear h h1 h2 hcm hb0 hx hmay
  go_enter Try.func50, Try.ntmps50
  go_wp2_with (first
    | (go_at_call 72; (with_reducible refine (HC.out _ HB.out).mono ?_); rintro e w1 ⟨rfl, b1⟩; have B1 := Lib.hid (gro HB.out b1); clear b1)
    | fail)
  go_ret2
  exact ⟨rfl, F, H.out.stays B1.out, Kept.of_below F B1.out, fun b e => .inl e⟩

theorem may_a {x : Ins} {m : Nat} (h : may x m = true) (ho : x.op = 11) : ∃ k : Nat, x.a = (k : Int) ∧ k < m := by
  unfold may at h
  rw [ho] at h
  simp at h
  exact there_nat h
theorem may_d {x : Ins} {m : Nat} (h : may x m = true) (ho : ¬ x.op = 11) : ∃ k : Nat, x.d = (k : Int) ∧ k < m := by
  unfold may at h
  split at h
  · exact there_nat h
  split at h
  · simp at h; exact there_nat h.1.1.1
  split at h
  · simp at h; exact there_nat h.1.1
  split at h
  · simp at h; exact there_nat h.1.1
  · cases h

set_option maxRecDepth 20000 in
set_option maxHeartbeats 4000000 in
theorem do_yes {w : World} {F : Nat → Prop} {p m : Nat} {f : Int → Int} {tr : List Ins} (h : Mach w F p m f tr) (x : Ins) (hx : x.fits) (hm : m ≤ 200000) (hlen : tr.length ≤ 99999) (hmay : may x m = true) :
    Calls Try.prog 50 #[.pointer (some ⟨p, 0, none⟩), insV x] w (RetDo w F p m f tr x) := by
  obtain ⟨c, dv, vs, ls, h1, h2⟩ := id h
  have hcm := fun (W : World) (hb : Below w.heap.size w W) => may_p (w := W) (cell_stays h1.c0 hb) x hx
  rw [hmay] at hcm
  have hct := fun (W : World) => trace_p W x hx
  have hck := fun (W : World) (hb : Below w.heap.size w W) => keep_p (h.stays hb) (trc x) hlen
  have hFL := h1.fl
  unfold RetDo toldM nextM nextT errM
  rw [hmay]
  have hb0 : Below w.heap.size w (w.alloc (.cells #[.int .i64 x.op, .int .i64 x.d, .int .i64 x.a, .int .i64 x.b, .int .i64 x.c, .int .u64 x.n] 68)) := (Below.refl _ _).alloc (Nat.le_refl _) _
  have hbx : BoxI (w.alloc (.cells #[.int .i64 x.op, .int .i64 x.d, .int .i64 x.a, .int .i64 x.b, .int .i64 x.c, .int .u64 x.n] 68)) w.heap.size x := has_new _ _ _ _ rfl
  have hop := hx.op
  unfold I64 at hop
  have HBX := Lib.hid hbx
  have HC := Lib.hid hcm
  have HT := Lib.hid hct
  have HK := Lib.hid hck
  have HMAY := Lib.hid hmay
  have HX := Lib.hid hx
  have HFL := Lib.hid hFL
  obtain ⟨y, hy⟩ : ∃ y, trc x = y := ⟨_, rfl⟩
  rw [hy] at HT HK ⊢
  have hm11 := fun (h : x.op = 11) => may_a hmay h
  have hmd := fun (h : ¬ x.op = 11) => may_d hmay h
  unfold insV at HC HT HK ⊢
  obtain ⟨o, d, a, b, c', n⟩ := x
  simp only at HC HT HK HBX hop hm11 hmd hb0
  simp only [if_true]
  have HB := Lib.hid hb0
  clear h h1 h2 hcm hct hck hb0 hx hbx hmay hy hFL
  by_cases ho : o = 11
  · subst ho
    obtain ⟨ka, rfl, hka⟩ := hm11 rfl
    have ia0 : (0 : Int) ≤ (ka : Int) := by omega
    have ia1 : (ka : Int) < (m : Int) := by omega
    clear hm11 hmd
    go_enter Try.func50, Try.ntmps50
    go_wp2_with (first
      | (go_at_call 72; (with_reducible refine (HC.out _ HB.out).mono ?_); rintro e w1 ⟨rfl, b1⟩; have B1 := Lib.hid (gro HB.out b1); have HBX1 := Lib.hid (HBX.out.stays b1); obtain ⟨z0, z1, z2, z3, z4, z5⟩ := HBX1.out.cells; clear b1)
      | (go_at_call 74; (with_reducible refine (HT.out _).mono ?_); rintro e w2 ⟨rfl, b2⟩; have B2 := Lib.hid (gro B1.out b2); have HBX2 := Lib.hid (HBX1.out.stays b2); clear b2 z0 z1 z2 z3 z4 z5)
      | (go_at_call 73; (with_reducible refine (HK.out _ B2.out).mono ?_); rintro e w3 ⟨rfl, F3, hm3, hk3, hn3⟩; have HBX3 := Lib.hid (show BoxI w3 w.heap.size ⟨11, d, ka, b, c', n⟩ from (hk3.block _ (lt_of_some HBX2.out) (fun e => by have := HFL.out _ e; omega)).trans HBX2.out); have HM3 := Lib.hid hm3; have HK3 := Lib.hid hk3; have HN3 := Lib.hid hn3; obtain ⟨z0, z1, z2, z3, z4, z5⟩ := HBX3.out.cells; clear hm3 hk3 hn3)
      | fail)
    obtain ⟨c3, dv3, vs3, ls3, m3, _⟩ := id HM3.out
    have q0 := m3.c0
    have q1 := m3.cs.at ka hka
    clear m3
    go_quiet (fail)
    go_wp2
    go_ret2
    have hB2s := B2.out.size
    exact ⟨by simp [told], F3, HM3.out.stays (below_dn (Below.refl _ _) nq), ((Kept.of_below F B2.out).trans HK3.out fun b e => .inl e).trans (Kept.of_below (fun _ => False) (below_dn (Below.refl _ _) nq)) fun b e => e.elim, fun b e => (HN3.out b e).imp id fun e' => Nat.le_trans hB2s e'⟩
  · obtain ⟨kd, rfl, hkd⟩ := hmd ho
    have id0 : (0 : Int) ≤ (kd : Int) := by omega
    have id1 : (kd : Int) < (m : Int) := by omega
    have hq : (o == 11) = false := by simpa using ho
    clear hm11 hmd
    go_enter Try.func50, Try.ntmps50
    go_wp2_with (first
      | (go_at_call 72; (with_reducible refine (HC.out _ HB.out).mono ?_); rintro e w1 ⟨rfl, b1⟩; have B1 := Lib.hid (gro HB.out b1); have HBX1 := Lib.hid (HBX.out.stays b1); obtain ⟨z0, z1, z2, z3, z4, z5⟩ := HBX1.out.cells; clear b1)
      | (go_at_call 74; (with_reducible refine (HT.out _).mono ?_); rintro e w2 ⟨rfl, b2⟩; have B2 := Lib.hid (gro B1.out b2); have HBX2 := Lib.hid (HBX1.out.stays b2); clear b2 z0 z1 z2 z3 z4 z5)
      | (go_at_call 73; (with_reducible refine (HK.out _ B2.out).mono ?_); rintro e w3 ⟨rfl, F3, hm3, hk3, hn3⟩; have HBX3 := Lib.hid (show BoxI w3 w.heap.size ⟨o, kd, a, b, c', n⟩ from (hk3.block _ (lt_of_some HBX2.out) (fun e => by have := HFL.out _ e; omega)).trans HBX2.out); have HM3 := Lib.hid hm3; have HK3 := Lib.hid hk3; have HN3 := Lib.hid hn3; obtain ⟨z0, z1, z2, z3, z4, z5⟩ := HBX3.out.cells; clear hm3 hk3 hn3)
      | fail)
    obtain ⟨c3, dv3, vs3, ls3, m3, e3⟩ := id HM3.out
    have hwo := fun (W : World) (hb : Below w3.heap.size w3 W) => worth_p (w := W) (m3.stays hb).c0 (m3.stays hb).cs.at m3.fu ⟨o, kd, a, b, c', n⟩ HX.out hm HMAY.out
    have q0 := m3.c0
    have q1 := m3.cs.at kd hkd
    unfold insV at hwo
    simp only at hwo
    have HWO := Lib.hid hwo
    have HE3 := Lib.hid e3
    have n1 : p ≠ c3 := m3.np
    have n2 : w.heap.size ≠ c3 := fun e => by
      obtain ⟨cur, h1, h2⟩ := m3.cs
      exact kind_apart HBX3.out h1 (by decide) e
    have HQ1 := Lib.hid q1
    have HMM := Lib.hid m3
    clear hwo e3 m3 q1
    generalize hwv : worth ⟨o, kd, a, b, c', n⟩ f = wv at *
    go_region_held3 (fun W => W.cell? ⟨p, 0, none⟩ = some (.slice (some ⟨c3, 0, none⟩) m m) ∧ W.cell? ⟨w.heap.size, 0, none⟩ = some (.int .i64 o) ∧ W.cell? ⟨w.heap.size, 1, none⟩ = some (.int .i64 kd) ∧ W.cell? ⟨w.heap.size, 2, none⟩ = some (.int .i64 a) ∧ W.cell? ⟨w.heap.size, 3, none⟩ = some (.int .i64 b) ∧ W.cell? ⟨w.heap.size, 4, none⟩ = some (.int .i64 c') ∧ W.cell? ⟨w.heap.size, 5, none⟩ = some (.int .u64 n))
      (refine ⟨?_, ?_, ?_, ?_, ?_, ?_, ?_⟩ <;> (repeat (first | with_reducible assumption | with_reducible refine cell_dr ?_ | with_reducible refine cell_st _ ?_ (by with_reducible assumption)))) (first
      | (go_at_call 75; (with_reducible refine (HWO.out _ (by repeat (first | with_reducible exact Below.refl _ _ | with_reducible refine Below.drew ?_))).mono ?_); rintro e w4 ⟨rfl, b4⟩; have y0 := cell_stays (cell_dr q0) b4; have y1 := cell_stays (cell_dr z0) b4; have y2 := cell_stays (cell_dr z1) b4; have y3 := cell_stays (cell_dr z2) b4; have y4 := cell_stays (cell_dr z3) b4; have y5 := cell_stays (cell_dr z4) b4; have y6 := cell_stays (cell_dr z5) b4; have m4 := HMM.out.drew.stays b4; have y7 := m4.cs.at kd hkd; have y8 := frozen_of_row w4 c3 kd _ _ m4.cs.choose_spec.1; have M4 := Lib.hid m4; clear m4; have B4 := Lib.hid b4; clear b4)
      | fail)
    go_wp2
    go_ret2
    have hu : U64 wv := by rw [← hwv]; exact worth_u64 HX.out.n HMM.out.fu
    obtain ⟨m5, k5⟩ := M4.out.put hkd hu
    have hB2s := B2.out.size
    have hn3 : ∀ b, F3 b → F b ∨ w.heap.size ≤ b := fun b e => (HN3.out b e).imp id fun e' => Nat.le_trans hB2s e'
    have k3 : Kept F w w3 := (Kept.of_below F B2.out).trans HK3.out fun b e => .inl e
    have k4 : Kept F w w4 := k3.trans (Kept.of_below (fun _ => False) (gro (Below.refl _ _).drew B4.out)) fun b e => e.elim
    have hnf : nextF ⟨o, kd, a, b, c', n⟩ f = put f kd wv := by unfold nextF; rw [if_neg ho]; simp only [hwv]
    exact ⟨by simp [told, ho], F3, ⟨c3, dv3, vs3, ls3, by rw [hnf]; exact m5, HE3.out⟩, k4.trans k5 hn3, hn3⟩
theorem do_p {w : World} {F : Nat → Prop} {p m : Nat} {f : Int → Int} {tr : List Ins} (h : Mach w F p m f tr) (x : Ins) (hx : x.fits) (hm : m ≤ 200000) (hlen : tr.length ≤ 99999) :
    Calls Try.prog 50 #[.pointer (some ⟨p, 0, none⟩), insV x] w (RetDo w F p m f tr x) := by
  cases e : may x m
  · exact do_no h x hx e
  · exact do_yes h x hx hm hlen e
end Go.Proofs.Ythhgagghdeocoaa
