/-
  Several texts of this proof in one file: LenMath, Length, RulesOf, MooTog, MooRdN, MooBuild. No statement of its own.
-/
import Derived.Test.YtnkopcmkanibhaaMo8
import Derived.Test.YtnkopcmkanibhaaMo13
import Derived.Test.YtnkopcmkanibhaaMo7
import Derived.Test.YtnkopcmkanibhaaMo15
import Derived.Test.YtnkopcmkanibhaaMo10
import Derived.Deep.QuietTactic
import Derived.Deep.LoopGhost
import Derived.Test.YtnkopcmkanibhaaMo6
import Derived.Test.YtnkopcmkanibhaaMo12
import Derived.Test.YtnkopcmkanibhaaMo9
import Derived.Test.YtnkopcmkanibhaaMo5
import Derived.Test.YtnkopcmkanibhaaMo4
import Derived.Test.YtnkopcmkanibhaaMo3
import Derived.Deep.RegionHeld3
import Derived.Deep.RegionLaw
import Derived.BigQuiet
set_option linter.unusedVariables false
set_option linter.unusedSimpArgs false

/-
  How long words are, up to 1000: plain mathematics; no statement of its own.
-/
namespace Go.Proofs.Ytnkopcmkanibhaa
open Go Go.RowKit

def best1 (most : Bool) (a b : Nat) : Nat := if most then max a b else min a b
/-- The least, or the greatest, of all. -/
def bestN (most : Bool) : List Nat → Nat
  | [] => 0
  | a :: l => l.foldl (best1 most) a
mutual
/-- How many bytes a word has at least, or at most, up to 1000. -/
def lenN (most : Bool) : T → Nat
  | .mk op p lo hi l => min (if op = 1 then 1 else if op = 2 then (lenL most l).sum else if op = 3 then bestN most (lenL most l) else if op = 4 then (if most then hi else lo).toNat * bestN most (lenL most l) else 0) 1000
def lenL (most : Bool) : List T → List Nat
  | [] => []
  | t :: ts => lenN most t :: lenL most ts
end
theorem lenN_le (most : Bool) (t : T) : lenN most t ≤ 1000 := by cases t; unfold lenN; omega
theorem lenL_map (most : Bool) (l : List T) : lenL most l = l.map (lenN most) := by
  induction l with
  | nil => rfl
  | cons t ts ih => simp [lenL, ih]
theorem sum_le (most : Bool) : ∀ (l : List T), (lenL most l).sum ≤ 1000 * l.length
  | [] => by simp [lenL]
  | t :: ts => by
    have := sum_le most ts
    have := lenN_le most t
    simp [lenL]
    omega
theorem sum_take (most : Bool) (l : List T) (j : Nat) (h : j < l.length) : (lenL most (l.take (j + 1))).sum = (lenL most (l.take j)).sum + lenN most (l[j]'h) := by
  rw [List.take_succ_eq_append_getElem h, lenL_map, lenL_map, List.map_append, List.sum_append]
  simp only [List.map_cons, List.map_nil, List.sum_cons, List.sum_nil, Nat.add_zero]
theorem best_snoc (most : Bool) (l : List Nat) (b : Nat) (h : l ≠ []) : bestN most (l ++ [b]) = best1 most (bestN most l) b := by
  cases l with
  | nil => exact absurd rfl h
  | cons a l => simp [bestN]
theorem best_take (most : Bool) (l : List T) (j : Nat) (h : j < l.length) (h0 : 0 < j) : bestN most (lenL most (l.take (j + 1))) = best1 most (bestN most (lenL most (l.take j))) (lenN most (l[j]'h)) := by
  rw [List.take_succ_eq_append_getElem h, lenL_map, lenL_map, List.map_append]
  refine best_snoc most _ _ ?_
  intro e
  have := congrArg List.length e
  rw [List.length_map, List.length_take, List.length_nil] at this
  omega
theorem best1_le {most : Bool} {a b N : Nat} (ha : a ≤ N) (hb : b ≤ N) : best1 most a b ≤ N := by unfold best1; split <;> omega
theorem bestN_le (most : Bool) (N : Nat) : ∀ (l : List Nat), (∀ x ∈ l, x ≤ N) → bestN most l ≤ N
  | [], _ => Nat.zero_le _
  | a :: l, h => by
    have key : ∀ (l : List Nat) (a : Nat), a ≤ N → (∀ x ∈ l, x ≤ N) → l.foldl (best1 most) a ≤ N := by
      intro l
      induction l with
      | nil => intro a ha _; exact ha
      | cons b l ih => intro a ha hl; exact ih _ (best1_le ha (hl b (by simp))) fun x hx => hl x (by simp [hx])
    exact key l a (h a (by simp)) fun x hx => h x (by simp [hx])
theorem best_le (most : Bool) (l : List T) : bestN most (lenL most l) ≤ 1000 := by
  refine bestN_le most 1000 _ fun x hx => ?_
  rw [lenL_map] at hx
  simp only [List.mem_map] at hx
  obtain ⟨t, _, rfl⟩ := hx
  exact lenN_le most t
theorem best_one (most : Bool) (l : List T) (h : 0 < l.length) : bestN most (lenL most (l.take 1)) = lenN most (l[0]'h) := by
  cases l with
  | nil => simp at h
  | cons a l => simp [lenL, bestN]
end Go.Proofs.Ytnkopcmkanibhaa

/-
  The document's own Length, and Any. Contracts for other texts; no statement of its own.
-/
namespace Go.Proofs.Ytnkopcmkanibhaa
open Go Go.RowKit
attribute [local go_sem ↓] Go.wp_at_zero Go.wp_at_succ

/-- One more, by the test that the text makes. -/
theorem best1_eq (most : Bool) (a b : Nat) : (if (most == decide ((a : Int) < (b : Int))) = true then b else a) = best1 most a b := by
  unfold best1
  cases most
  · by_cases h : (a : Int) < (b : Int)
    · simp [h]; omega
    · simp [h]; omega
  · by_cases h : (a : Int) < (b : Int)
    · simp [h]; omega
    · simp [h]; omega
set_option maxRecDepth 20000 in
set_option maxHeartbeats 4000000 in
theorem length_n (most : Bool) : ∀ (N : Nat) (t : T) (w : World) (ok : Nat → Prop) (k : Value), SizeOf.sizeOf t ≤ N → WF t → Tree w ok t k →
    Calls Try.prog 33 #[nodeP t k, .bool most] w (RetInt w (lenN most t)) := by
  intro N
  induction N with
  | zero => intro t w ok k h; obtain ⟨op, p, lo, hi, l⟩ := t; simp at h
  | succ N ih =>
  intro t w ok k hN hwf ht
  obtain ⟨A, n', c, rfl⟩ := ht.form
  obtain ⟨hn, hm⟩ := ht.bound
  have hlen := hwf.len
  rw [← hn] at hlen
  unfold maxLen at hm
  have hop := hwf.op_cases
  have b1 := Box8.new w t (.slice A n' c)
  have hB : Below w.heap.size w (w.alloc (.cells #[.int .i64 t.op, .int .u64 (word t.set 0), .int .u64 (word t.set 1), .int .u64 (word t.set 2), .int .u64 (word t.set 3), .int .i64 t.lo, .int .i64 t.hi, .slice A n' c] 75)) := (Below.refl _ _).alloc (Nat.le_refl _) _
  have HN := Lib.hid hn
  have HT := Lib.hid ht
  have HWF := Lib.hid hwf
  have HB1 := Lib.hid b1
  have IH := Lib.hid ih
  have hpl : lenN most t = min (if t.op = 1 then 1 else if t.op = 2 then (lenL most t.kids).sum else if t.op = 3 then bestN most (lenL most t.kids) else if t.op = 4 then (if most then t.hi else t.lo).toNat * bestN most (lenL most t.kids) else 0) 1000 := by cases t; rfl
  have HPL := Lib.hid hpl
  clear hn ih hpl hwf ht
  unfold nodeP
  rcases hop with ⟨h, h2, z1, z2⟩ | ⟨h, h2, h3, z1, z2⟩ | ⟨h, h2, h3, z1, z2⟩ | ⟨h, h2, h3, h4, h5, h6⟩
  · have hb1 : (t.op == 1) = true := by simp [h]
    have HH := Lib.hid h
    clear h h2 z1 z2
    go_enter Try.func33, Try.ntmps33
    go_wp2
    go_ret
    exact ⟨by rw [HPL.out, if_pos HH.out]; rfl, hB⟩
  · have hb1 : (t.op == 1) = false := by simp [h]
    have hb2 : (t.op == 2) = true := by simp [h]
    have HPL2 : Hid (lenN most t = min (lenL most t.kids).sum 1000) := by show _ = _; rw [HPL.out, if_neg (by omega), if_pos h]
    clear h HPL z1 z2
    go_enter Try.func33, Try.ntmps33
    go_wp2
    go_loopg [5, 6] n' (fun m k i wr => ∃ j : Nat, i = .int .i64 (j : Int) ∧ j ≤ n' ∧ m = n' - j ∧ k = .int .i64 (((lenL most (t.kids.take j)).sum : Nat) : Int) ∧ Box8 wr w.heap.size t (.slice A n' c) ∧ Below w.heap.size w wr)
    case atStart => exact ⟨0, rfl, Nat.zero_le _, rfl, rfl, HB1.out, hB⟩
    case round =>
      obtain ⟨j, rfl, hj, hmj, rfl, x1, hW⟩ := hrel
      have HMJ := Lib.hid hmj
      obtain ⟨c0, c1, c2, c3, c4, c5, c6, c7⟩ := x1.cell
      clear b1 hmj
      by_cases hlt : j < n'
      · have hlt' : j < t.kids.length := by rw [← HN.out]; exact hlt
        obtain ⟨g, B, m1, m2, e1, hg1, htk, hcells⟩ := kid8 HT.out j (List.getElem?_eq_getElem hlt')
        subst e1
        have hks := kid_size t j hlt'
        have hwk := HWF.out.at j hlt'
        have hst := sum_take most t.kids j hlt'
        have hsl := sum_le most (t.kids.take j)
        rw [List.length_take] at hsl
        have hpu := lenN_le most (t.kids[j]'hlt')
        generalize t.kids[j] = u at *
        have HC : ∀ q v, (nodeC u (.slice B m1 m2))[q]? = some v → wr.cell? ⟨g, j * 8 + q, none⟩ = some v := fun q v h => by rw [Nat.mul_comm j 8]; exact (hW.cell (p := ⟨g, 8 * j + q, none⟩) hg1).trans (hcells q v h)
        have k0 : wr.cell? ⟨g, j * 8, none⟩ = _ := HC 0 _ rfl
        have k1 := HC 1 _ rfl
        have k2 := HC 2 _ rfl
        have k3 := HC 3 _ rfl
        have k4 := HC 4 _ rfl
        have k5 := HC 5 _ rfl
        have k6 := HC 6 _ rfl
        have k7 := HC 7 _ rfl
        have HK := Lib.hid (fun w' (hb : Below wr.heap.size wr w') => IH.out u w' ok (.slice B m1 m2) (by omega) hwk ((htk.stays hW).stays hb))
        have HST := Lib.hid hst
        clear HC hcells htk hks hwk hst
        unfold nodeP RetInt at HK
        generalize (lenL most (t.kids.take j)).sum = S at *
        have hS2 : S ≤ 202000 := by omega
        go_wp2_with (go_at_call 33; (with_reducible refine (HK.out _ (Below.refl _ _)).mono ?_); rintro e w5 ⟨rfl, hb5⟩)
        go_roundg (n' - (j + 1))
        case measure => have := HMJ.out; omega
        case rel => exact ⟨j + 1, by go_num, by omega, rfl, by rw [HST.out]; go_num, x1.stays hb5, gro hW hb5⟩
      · have hjn : j = t.kids.length := by rw [← HN.out]; omega
        have hwhole : t.kids.take j = t.kids := by rw [hjn]; exact List.take_length
        rw [hwhole]
        have hS2 := sum_le most t.kids
        rw [show t.kids.length = n' from HN.out.symm] at hS2
        generalize (lenL most t.kids).sum = S at *
        go_wp2
        all_goals
          go_ret
          refine ⟨congrArg Ending.returned (congrArg (Value.int .i64) ?_), hW⟩
          rw [HPL2.out]
          omega
  · have hb1 : (t.op == 1) = false := by simp [h]
    have hb2 : (t.op == 2) = false := by simp [h]
    have hb3 : (t.op == 3) = true := by simp [h]
    have HPL2 : Hid (lenN most t = min (bestN most (lenL most t.kids)) 1000) := by show _ = _; rw [HPL.out, if_neg (by omega), if_neg (by omega), if_pos h]
    have h0 : 0 < t.kids.length := by omega
    have hn2 : 0 < n' := by rw [HN.out]; omega
    have hn3 : (0 : Int) < (n' : Int) := by omega
    obtain ⟨g0, B0, l1, l2, e0, hg0, htk0, hcells0⟩ := kid8 HT.out 0 (List.getElem?_eq_getElem h0)
    subst e0
    have hks0 := kid_size t 0 h0
    have hwk0 := HWF.out.at 0 h0
    have hst0 := best_one most t.kids h0
    generalize t.kids[0] = u0 at *
    have hk0 := hcells0 0 _ rfl
    have hk1 := hcells0 1 _ rfl
    have hk2 := hcells0 2 _ rfl
    have hk3 := hcells0 3 _ rfl
    have hk4 := hcells0 4 _ rfl
    have hk5 := hcells0 5 _ rfl
    have hk6 := hcells0 6 _ rfl
    have hk7 := hcells0 7 _ rfl
    rw [show 8 * 0 + 0 = 0 from rfl] at hk0
    have HK0 := Lib.hid (fun w' (hb : Below w.heap.size w w') => IH.out u0 w' ok (.slice B0 l1 l2) (by omega) hwk0 (htk0.stays hb))
    have HST0 := Lib.hid hst0
    clear h HPL z1 z2 hcells0 htk0 hks0 hwk0 hst0
    unfold nodeP RetInt at HK0
    go_enter Try.func33, Try.ntmps33
    go_wp2_with (go_at_call 33; (with_reducible refine (HK0.out _ hB).mono ?_); rintro e w4 ⟨rfl, hb4⟩; have x0 := HB1.out.stays hb4; have hB4 := gro1 (Below.refl _ _) hb4)
    clear hk0 hk1 hk2 hk3 hk4 hk5 hk6 hk7
    go_loopg [5, 7] (n' - 1) (fun m k i wr => ∃ j : Nat, i = .int .i64 (j : Int) ∧ 1 ≤ j ∧ j ≤ n' ∧ m = n' - j ∧ k = .int .i64 ((bestN most (lenL most (t.kids.take j)) : Nat) : Int) ∧ Box8 wr w.heap.size t (.slice (some ⟨g0, 0, none⟩) n' c) ∧ Below w.heap.size w wr)
    case atStart => exact ⟨1, rfl, Nat.le_refl _, hn2, rfl, by rw [HST0.out], x0, hB4⟩
    case round =>
      obtain ⟨j, rfl, h1j, hj, hmj, rfl, x1, hW⟩ := hrel
      have HMJ := Lib.hid hmj
      obtain ⟨c0, c1, c2, c3, c4, c5, c6, c7⟩ := x1.cell
      clear b1 hmj x0
      by_cases hlt : j < n'
      · have hlt' : j < t.kids.length := by rw [← HN.out]; exact hlt
        obtain ⟨g, B, m1, m2, e1, hg1, htk, hcells⟩ := kid8 HT.out j (List.getElem?_eq_getElem hlt')
        injection e1 with e1
        injection e1 with e1
        subst e1
        have hks := kid_size t j hlt'
        have hwk := HWF.out.at j hlt'
        have hst := best_take most t.kids j hlt' h1j
        have hsl := best_le most (t.kids.take j)
        have hpu := lenN_le most (t.kids[j]'hlt')
        generalize t.kids[j] = u at *
        have HC : ∀ q v, (nodeC u (.slice B m1 m2))[q]? = some v → wr.cell? ⟨g0, j * 8 + q, none⟩ = some v := fun q v h => by rw [Nat.mul_comm j 8]; exact (hW.cell (p := ⟨g0, 8 * j + q, none⟩) hg1).trans (hcells q v h)
        have k0 : wr.cell? ⟨g0, j * 8, none⟩ = _ := HC 0 _ rfl
        have k1 := HC 1 _ rfl
        have k2 := HC 2 _ rfl
        have k3 := HC 3 _ rfl
        have k4 := HC 4 _ rfl
        have k5 := HC 5 _ rfl
        have k6 := HC 6 _ rfl
        have k7 := HC 7 _ rfl
        have HK := Lib.hid (fun w' (hb : Below wr.heap.size wr w') => IH.out u w' ok (.slice B m1 m2) (by omega) hwk ((htk.stays hW).stays hb))
        have HST := Lib.hid hst
        clear HC hcells htk hks hwk hst
        unfold nodeP RetInt at HK
        generalize bestN most (lenL most (t.kids.take j)) = S at *
        generalize hU : lenN most u = U at *
        clear hU
        go_wp2_with (go_at_call 33; (with_reducible refine (HK.out _ (Below.refl _ _)).mono ?_); rintro e w5 ⟨rfl, hb5⟩)
        all_goals
          go_roundg (n' - (j + 1))
          case measure => have := HMJ.out; omega
          case rel =>
            refine ⟨j + 1, by go_num, by omega, by omega, rfl, ?_, x1.stays hb5, gro hW hb5⟩
            rw [HST.out, ← best1_eq]
            simp [*]
      · have hjn : j = t.kids.length := by rw [← HN.out]; omega
        have hwhole : t.kids.take j = t.kids := by rw [hjn]; exact List.take_length
        rw [hwhole]
        have hS2 := best_le most t.kids
        generalize bestN most (lenL most t.kids) = S at *
        go_wp2
        all_goals
          go_ret
          refine ⟨congrArg Ending.returned (congrArg (Value.int .i64) ?_), hW⟩
          rw [HPL2.out]
          omega
  · have hb1 : (t.op == 1) = false := by simp [h]
    have hb2 : (t.op == 2) = false := by simp [h]
    have hb3 : (t.op == 3) = false := by simp [h]
    have hb4 : (t.op == 4) = true := by simp [h]
    have h0 : 0 < t.kids.length := by omega
    have hn3 : (0 : Int) < (n' : Int) := by rw [HN.out]; omega
    have hone : bestN most (lenL most t.kids) = lenN most (t.kids[0]'h0) := by rw [← best_one most t.kids h0, List.take_of_length_le (by omega)]
    obtain ⟨T0, hT0⟩ : ∃ T0 : Nat, (if most then t.hi else t.lo) = T0 := ⟨(if most then t.hi else t.lo).toNat, by split <;> omega⟩
    have hT1 : T0 ≤ 32 := by split at hT0 <;> omega
    have HPL2 : Hid (lenN most t = min (T0 * lenN most (t.kids[0]'h0)) 1000) := by show _ = _; rw [HPL.out, if_neg (by omega), if_neg (by omega), if_neg (by omega), if_pos h, hT0, hone]; rfl
    obtain ⟨g0, B0, l1, l2, e0, hg0, htk0, hcells0⟩ := kid8 HT.out 0 (List.getElem?_eq_getElem h0)
    subst e0
    have hks0 := kid_size t 0 h0
    have hwk0 := HWF.out.at 0 h0
    have hpu := lenN_le most (t.kids[0]'h0)
    generalize t.kids[0] = u0 at *
    have hk0 := hcells0 0 _ rfl
    have hk1 := hcells0 1 _ rfl
    have hk2 := hcells0 2 _ rfl
    have hk3 := hcells0 3 _ rfl
    have hk4 := hcells0 4 _ rfl
    have hk5 := hcells0 5 _ rfl
    have hk6 := hcells0 6 _ rfl
    have hk7 := hcells0 7 _ rfl
    rw [show 8 * 0 + 0 = 0 from rfl] at hk0
    have HK0 := Lib.hid (fun w' (hb : Below w.heap.size w w') => IH.out u0 w' ok (.slice B0 l1 l2) (by omega) hwk0 (htk0.stays hb))
    have hprod : T0 * lenN most u0 ≤ 32 * 1000 := Nat.mul_le_mul hT1 hpu
    have hpi : (T0 : Int) * (lenN most u0 : Int) = ((T0 * lenN most u0 : Nat) : Int) := by simp
    have p0 : (0 : Int) ≤ (T0 : Int) * (lenN most u0 : Int) := by rw [hpi]; omega
    have p1 : (T0 : Int) * (lenN most u0 : Int) ≤ 9223372036854775807 := by rw [hpi]; omega
    have HPI := Lib.hid hpi
    have HPD := Lib.hid hprod
    clear h HPL hcells0 htk0 hks0 hwk0 hone hpi hprod h2 h3 h4 h5 h6 h0
    generalize hU : lenN most u0 = U at *
    clear hU
    unfold nodeP RetInt at HK0
    generalize T0 * U = Pr at *
    cases most
    · have hlo : t.lo = T0 := by simpa using hT0
      have q0 : (0 : Int) ≤ t.lo * (U : Int) := by rw [hlo]; exact p0
      have q1 : t.lo * (U : Int) ≤ 9223372036854775807 := by rw [hlo]; exact p1
      have HLO := Lib.hid hlo
      clear hT0 hlo p0 p1 hT1
      go_enter Try.func33, Try.ntmps33
      go_wp2_with (go_at_call 33; (with_reducible refine (HK0.out _ hB).mono ?_); rintro e w4 ⟨rfl, hb4⟩; have hB4 := gro1 (Below.refl _ _) hb4)
      all_goals
        go_ret
        refine ⟨congrArg Ending.returned (congrArg (Value.int .i64) ?_), hB4⟩
        have e2 : t.lo * (U : Int) = (Pr : Int) := by rw [HLO.out]; exact HPI.out
        rw [HPL2.out]
        omega
    · have hlo : t.hi = T0 := by simpa using hT0
      have q0 : (0 : Int) ≤ t.hi * (U : Int) := by rw [hlo]; exact p0
      have q1 : t.hi * (U : Int) ≤ 9223372036854775807 := by rw [hlo]; exact p1
      have HLO := Lib.hid hlo
      clear hT0 hlo p0 p1 hT1
      go_enter Try.func33, Try.ntmps33
      go_wp2_with (go_at_call 33; (with_reducible refine (HK0.out _ hB).mono ?_); rintro e w4 ⟨rfl, hb4⟩; have hB4 := gro1 (Below.refl _ _) hb4)
      all_goals
        go_ret
        refine ⟨congrArg Ending.returned (congrArg (Value.int .i64) ?_), hB4⟩
        have e2 : t.hi * (U : Int) = (Pr : Int) := by rw [HLO.out]; exact HPI.out
        rw [HPL2.out]
        omega

theorem length_p {t : T} {k : Value} {ok : Nat → Prop} (most : Bool) (w : World) (hwf : WF t) (ht : Tree w ok t k) : Calls Try.prog 33 #[nodeP t k, .bool most] w (RetInt w (lenN most t)) :=
  length_n most _ t w ok k (Nat.le_refl _) hwf ht

end Go.Proofs.Ytnkopcmkanibhaa

/-
  The laws' own Rules: the rules of texts. Contracts for other texts; no statement of its own.
-/
namespace Go.Proofs.Ytnkopcmkanibhaa
open Go Go.RowKit
attribute [local go_sem ↓] Go.wp_at_zero Go.wp_at_succ

/-- Texts that are read; truths that are read. -/
def RdStr (w : World) (A : Option Addr) (L : List ByteArray) : Prop := ∀ i s, L[i]? = some s → ∃ b off, A = some ⟨b, off, none⟩ ∧ b < w.heap.size ∧ w.cell? ⟨b, off + i, none⟩ = some (.string s)
def RdBo (w : World) (A : Option Addr) (L : List Bool) : Prop := ∀ i x, L[i]? = some x → ∃ b off, A = some ⟨b, off, none⟩ ∧ b < w.heap.size ∧ w.cell? ⟨b, off + i, none⟩ = some (.bool x)
theorem RdStr.stays {w w' : World} {A : Option Addr} {L : List ByteArray} (h : RdStr w A L) (hb : Below w.heap.size w w') : RdStr w' A L := fun i s e => by
  obtain ⟨b, off, h1, h2, h3⟩ := h i s e
  exact ⟨b, off, h1, Nat.lt_of_lt_of_le h2 hb.size, cell_stays h3 hb⟩
theorem RdBo.stays {w w' : World} {A : Option Addr} {L : List Bool} (h : RdBo w A L) (hb : Below w.heap.size w w') : RdBo w' A L := fun i s e => by
  obtain ⟨b, off, h1, h2, h3⟩ := h i s e
  exact ⟨b, off, h1, Nat.lt_of_lt_of_le h2 hb.size, cell_stays h3 hb⟩
/-- The rule of a text, if it is one of few places and of no more than 32 bytes. -/
def ruleOf (s : ByteArray) (b : Bool) : List (T × Bool) := match parse s with
  | .ok t => if plN t ≤ 60 ∧ lenN true t ≤ 32 then [(t, b)] else []
  | .error _ => []
def rulesN (L : List ByteArray) (bs : List Bool) : Nat → List (T × Bool)
  | 0 => []
  | k + 1 => rulesN L bs k ++ ruleOf (L.getD k ⟨#[]⟩) (bs.getD k false)
theorem ruleOf_len (s : ByteArray) (b : Bool) : (ruleOf s b).length ≤ 1 := by
  unfold ruleOf
  split
  · split <;> simp
  · simp
theorem rulesN_len (L : List ByteArray) (bs : List Bool) : ∀ k, (rulesN L bs k).length ≤ k
  | 0 => by simp [rulesN]
  | k + 1 => by
    have := rulesN_len L bs k
    have := ruleOf_len (L.getD k ⟨#[]⟩) (bs.getD k false)
    simp only [rulesN, List.length_append]
    omega
theorem rulesN_ok (L : List ByteArray) (bs : List Bool) : ∀ k, ∀ r ∈ rulesN L bs k, WF r.1 ∧ plN r.1 ≤ 60 ∧ lenN true r.1 ≤ 32
  | 0 => fun r h => by simp [rulesN] at h
  | k + 1 => fun r h => by
    simp only [rulesN, List.mem_append] at h
    rcases h with h | h
    · exact rulesN_ok L bs k r h
    · unfold ruleOf at h
      split at h
      · rename_i t ht
        split at h
        · rename_i hc
          rw [List.mem_singleton] at h
          subst h
          exact ⟨wf_parse ht, hc.1, hc.2⟩
        · simp at h
      · simp at h
theorem ruleTyM : RuleTy 80 26 := ⟨Try.underlying26, by kernel_rfl, by decide⟩
theorem ruleTyR : RuleTy 81 27 := ⟨Try.underlying27, by kernel_rfl, by decide⟩
/-- What Rules tells. -/
def RetRules (w : World) (l : List (T × Bool)) (e : Ending) (w' : World) : Prop := ∃ A c A' c', e = .returned (.tuple #[.slice A l.length c, .slice A' l.length c']) ∧ l.length ≤ c ∧ l.length ≤ c' ∧ RdRules w' A l ∧ RdRules w' A' l ∧ Below w.heap.size w w'

set_option maxRecDepth 20000 in
set_option maxHeartbeats 4000000 in
theorem rules_p {w : World} {A B : Option Addr} {ca cb : Nat} {L : List ByteArray} {bs : List Bool} (hs : RdStr w A L) (hb : RdBo w B bs) (hL : L.length ≤ 9223372036854775807) (hbs : bs.length ≤ 9223372036854775807) (hsz : ∀ s ∈ L, s.size ≤ 9223372036854775807) :
    Calls Try.prog 9 #[.slice A L.length ca, .slice B bs.length cb] w (RetRules w (rulesN L bs (min L.length 4))) := by
  have HS := Lib.hid hs
  have HBO := Lib.hid hb
  have HSZ := Lib.hid hsz
  obtain ⟨N, hN⟩ : ∃ N, L.length = N := ⟨_, rfl⟩
  obtain ⟨M, hM⟩ : ∃ M, bs.length = M := ⟨_, rfl⟩
  have HNN := Lib.hid hN
  have HMM := Lib.hid hM
  rw [hN] at hL ⊢
  rw [hM] at hbs ⊢
  clear hs hb hsz hN hM
  have hk4 : min N 4 ≤ N ∧ min N 4 ≤ 4 := by omega
  obtain ⟨Z, hZ⟩ : ∃ Z, min N 4 = Z := ⟨_, rfl⟩
  have HZ := Lib.hid hZ
  rw [hZ] at hk4 ⊢
  clear hZ
  go_enter Try.func9, Try.ntmps9
  go_wp2
  go_loopg [6, 7, 8] Z (fun m va vb i wr => ∃ k : Nat, i = .int .i64 (k : Int) ∧ k ≤ Z ∧ m = Z - k ∧ RuleRow 80 wr w.heap.size va (rulesN L bs k) ∧ RuleRow 81 wr w.heap.size vb (rulesN L bs k) ∧ Below w.heap.size w wr)
  case atStart => exact ⟨0, by first | rfl | trivial, Nat.zero_le _, by first | rfl | trivial, RuleRow.nil _ _ _, RuleRow.nil _ _ _, Below.refl _ _⟩
  case round =>
    obtain ⟨k, rfl, hk, hmk, ra, rb, hb⟩ := hrel
    have hlk := rulesN_len L bs k
    have HMK := Lib.hid hmk
    have HRA := Lib.hid ra
    have HRB := Lib.hid rb
    have HB := Lib.hid hb
    obtain ⟨Aa, ca', hfa, hca⟩ := ra.form
    obtain ⟨Ab, cb', hfb, hcb⟩ := rb.form
    have hlen100 : (rulesN L bs k).length ≤ 100000 := by omega
    obtain ⟨Q, hQ⟩ : ∃ Q, (rulesN L bs k).length = Q := ⟨_, rfl⟩
    rw [hQ] at hfa hfb hca hcb
    subst hfa hfb
    have HQ := Lib.hid hQ
    have HLE := Lib.hid hlen100
    clear hmk ra rb hb hlk hQ hlen100
    by_cases hkZ : k < Z
    · have hkN : k < L.length := by rw [HNN.out]; omega
      obtain ⟨s, hse⟩ : ∃ s, L[k]? = some s := ⟨_, List.getElem?_eq_getElem hkN⟩
      have hsm : s ∈ L := List.mem_of_getElem? hse
      have hss := HSZ.out s hsm
      obtain ⟨g, off, rfl, hg, hc0⟩ := HS.out k s hse
      have x0 := cell_stays hc0 HB.out
      have hsD : L.getD k ⟨#[]⟩ = s := by rw [List.getD_eq_getElem?_getD, hse]; rfl
      have HSD := Lib.hid hsD
      have hk1 : (k : Int) < (N : Int) := by omega
      have hk0 : (0 : Int) ≤ (k : Int) := by omega
      have hk2 : (k : Int) < 4 := by omega
      clear hse hsm hc0 hsD
      by_cases hpat : ∃ t, parse s = .ok t ∧ plN t ≤ 60
      · obtain ⟨t, hpt, hpl⟩ := hpat
        have hwf := wf_parse hpt
        have hpo := pattern_ok (w := wr) hss hpt hpl
        unfold nodeV at hpo
        have HPO := Lib.hid hpo
        have HWF := Lib.hid hwf
        obtain ⟨d, hd⟩ : ∃ d, lenN true t = d := ⟨_, rfl⟩
        have hro : ∀ b, ruleOf s b = if plN t ≤ 60 ∧ d ≤ 32 then [(t, b)] else [] := fun b => by unfold ruleOf; rw [hpt, ← hd]
        have HRO := Lib.hid hro
        have HDD := Lib.hid hd
        have HPL := Lib.hid hpl
        have HLEN := Lib.hid (fun (W : World) (A' : Option Addr) (n' c' : Nat) (ok : Nat → Prop) (h : Tree W ok t (.slice A' n' c')) => (length_p (k := .slice A' n' c') true W hwf h).mono fun e w' h => (show _ ∧ Below W.heap.size W w' from h))
        unfold nodeP at HLEN
        rw [hd] at HLEN
        clear hpo hwf hpt hro hd hpl
        by_cases hd32 : (32 : Int) < (d : Int)
        · go_wp2_with (first
            | (go_at_call 32; (with_reducible refine HPO.out.mono ?_); rintro e w3 ⟨A', n', c', rfl, t3, b3⟩; have HT3 := Lib.hid (t3.alloc (.cells #[.int .i64 t.op, .int .u64 (word t.set 0), .int .u64 (word t.set 1), .int .u64 (word t.set 2), .int .u64 (word t.set 3), .int .i64 t.lo, .int .i64 t.hi, (.slice A' n' c')] 75)); have HB3 := Lib.hid (b3.alloc b3.size (.cells #[.int .i64 t.op, .int .u64 (word t.set 0), .int .u64 (word t.set 1), .int .u64 (word t.set 2), .int .u64 (word t.set 3), .int .i64 t.lo, .int .i64 t.hi, (.slice A' n' c')] 75)); obtain ⟨r0, r1, r2, r3, r4, r5, r6, r7⟩ := (Box8.new w3 t (.slice A' n' c')).cell; clear t3 b3)
            | (go_at_call 33; (with_reducible refine (HLEN.out _ _ _ _ _ HT3.out).mono ?_); rintro e w5 ⟨rfl, b5⟩; have HB5 := Lib.hid (gro HB3.out b5); clear b5)
            | fail)
          go_roundg (Z - (k + 1))
          case measure => have := HMK.out; omega
          case rel =>
            have e : rulesN L bs (k + 1) = rulesN L bs k := by rw [rulesN, HSD.out, HRO.out, if_neg (by omega), List.append_nil]
            exact ⟨k + 1, by go_num, by omega, rfl, by rw [e]; exact HRA.out.stays HB5.out, by rw [e]; exact HRB.out.stays HB5.out, gro HB.out HB5.out⟩
        · obtain ⟨bk, hbk⟩ : ∃ bk, bs.getD k false = bk := ⟨_, rfl⟩
          have e : rulesN L bs (k + 1) = rulesN L bs k ++ [(t, bk)] := by rw [rulesN, HSD.out, HRO.out, if_pos ⟨HPL.out, by omega⟩, hbk]
          have HE := Lib.hid e
          have hbc : (¬ ((k : Int) < (M : Int)) ∧ bk = false) ∨ ((k : Int) < (M : Int) ∧ ∃ g off, B = some ⟨g, off, none⟩ ∧ ∀ W, Below wr.heap.size wr W → W.cell? ⟨g, off + k, none⟩ = some (.bool bk)) := by
            by_cases hkM : k < bs.length
            · obtain ⟨g2, off2, e2, hg2, hc2⟩ := HBO.out k (bs[k]) (List.getElem?_eq_getElem hkM)
              have : bs[k] = bk := by rw [← hbk, List.getD_eq_getElem?_getD, List.getElem?_eq_getElem hkM]; rfl
              rw [this] at hc2
              exact .inr ⟨by have := HMM.out; omega, g2, off2, e2, fun W hW => cell_stays (cell_stays hc2 HB.out) hW⟩
            · refine .inl ⟨by have := HMM.out; omega, ?_⟩
              rw [← hbk, List.getD_eq_getElem?_getD, List.getElem?_eq_none (by omega)]
              rfl
          clear e hbk
          rcases hbc with ⟨hkM, rfl⟩ | ⟨hkM, g2, off2, rfl, hc2⟩
          case' inr => have HC2 := Lib.hid hc2
          case' inr => clear hc2
          all_goals
            go_wp2_with (first
              | (go_at_call 32; (with_reducible refine HPO.out.mono ?_); rintro e w3 ⟨A', n', c', rfl, t3, b3⟩; have HT3 := Lib.hid (t3.alloc (.cells #[.int .i64 t.op, .int .u64 (word t.set 0), .int .u64 (word t.set 1), .int .u64 (word t.set 2), .int .u64 (word t.set 3), .int .i64 t.lo, .int .i64 t.hi, .slice A' n' c'] 75)); have HB3 := Lib.hid (b3.alloc b3.size (.cells #[.int .i64 t.op, .int .u64 (word t.set 0), .int .u64 (word t.set 1), .int .u64 (word t.set 2), .int .u64 (word t.set 3), .int .i64 t.lo, .int .i64 t.hi, .slice A' n' c'] 75)); have HX3 := Lib.hid (Box8.new w3 t (.slice A' n' c')); obtain ⟨r0, r1, r2, r3, r4, r5, r6, r7⟩ := HX3.out.cell; clear t3 b3)
              | (go_at_call 33; (with_reducible refine (HLEN.out _ _ _ _ _ HT3.out).mono ?_); rintro e w5 ⟨rfl, b5⟩; have HB5 := Lib.hid (gro HB3.out b5); have HX5 := Lib.hid (HX3.out.stays b5); have HT5 := Lib.hid (HT3.out.stays b5); clear r0 r1 r2 r3 r4 r5 r6 r7; obtain ⟨r0, r1, r2, r3, r4, r5, r6, r7⟩ := HX5.out.cell; (try (have z0 := HC2.out w5 HB5.out)); clear b5)
              | (at_builtin; refine wpList_rule ruleTyM (by rfl) _ _ (by rfl) (by rfl) ((HRA.out.stays HB5.out).stays ((Below.refl _ _).alloc (Nat.le_refl _) _)) (Nat.le_trans HB.out.size (Nat.le_trans HB5.out.size (by simp))) HLE.out (t, _) (.slice A' n' c') ((HT5.out.alloc _).weak fun b h1 _ => Nat.le_trans HB.out.size h1) ⟨w5.heap.size, 0, none⟩ 1 (by rfl) (rule_new w5 (t, _) (.slice A' n' c')) ?_; intro v6 w6 i6 g6 o6; obtain ⟨hb6, rb6, t6, x6⟩ := rule_after (HRA.out.stays HB5.out) (HRB.out.stays HB5.out) (by decide) ruleTyM.node (gro HB.out HB5.out) (Nat.le_trans HB.out.size HB5.out.size) HT5.out HX5.out g6; have I6 := Lib.hid i6; have HB6 := Lib.hid hb6; have RB6 := Lib.hid rb6; have HT6 := Lib.hid t6; have HX6 := Lib.hid x6; clear r0 r1 r2 r3 r4 r5 r6 r7; obtain ⟨r0, r1, r2, r3, r4, r5, r6, r7⟩ := x6.cell; clear hb6 rb6 t6 x6 i6 g6 o6)
              | (at_builtin; refine wpList_rule ruleTyR (by rfl) _ _ (by rfl) (by rfl) (RB6.out.stays ((Below.refl _ _).alloc (Nat.le_refl _) _)) (Nat.le_trans HB6.out.size (by simp)) HLE.out (t, _) (.slice A' n' c') ((HT6.out.alloc _).weak fun b h1 _ => Nat.le_trans HB.out.size h1) ⟨w6.heap.size, 0, none⟩ 1 (by rfl) (rule_new w6 (t, _) (.slice A' n' c')) ?_; intro v7 w7 i7 g7 o7; obtain ⟨hb7, ra7, t7, x7⟩ := rule_after RB6.out I6.out (by decide) ruleTyR.node HB6.out HB6.out.size HT6.out HX6.out g7; have I7 := Lib.hid i7; have HB7 := Lib.hid hb7; have RA7 := Lib.hid ra7; clear hb7 ra7 t7 x7 i7 g7 o7)
              | fail)
          all_goals
            go_roundg (Z - (k + 1))
            case measure => have := HMK.out; omega
            case rel => exact ⟨k + 1, by go_num, by omega, rfl, by rw [HE.out]; exact RA7.out, by rw [HE.out]; exact I7.out, HB7.out⟩
      · have hpn := pattern_no (w := wr) hss hpat
        unfold nodeV at hpn
        have HPN := Lib.hid hpn
        have hro : ∀ b, ruleOf s b = [] := fun b => by
          unfold ruleOf
          split
          · rename_i t ht
            rw [if_neg fun h => hpat ⟨t, ht, h.1⟩]
          · rfl
        have HRO := Lib.hid hro
        clear hpn hpat hro
        go_wp2_with (first
          | (go_at_call 32; (with_reducible refine HPN.out.mono ?_); rintro e w3 ⟨rfl, b3⟩; have HB3 := Lib.hid (b3.alloc b3.size (.cells #[.int .i64 T.zero.op, .int .u64 (word T.zero.set 0), .int .u64 (word T.zero.set 1), .int .u64 (word T.zero.set 2), .int .u64 (word T.zero.set 3), .int .i64 T.zero.lo, .int .i64 T.zero.hi, .slice none 0 0] 75)); clear b3)
          | fail)
        go_roundg (Z - (k + 1))
        case measure => have := HMK.out; omega
        case rel =>
          have e : rulesN L bs (k + 1) = rulesN L bs k := by rw [rulesN, HSD.out, HRO.out, List.append_nil]
          exact ⟨k + 1, by go_num, by omega, rfl, by rw [e]; exact HRA.out.stays HB3.out, by rw [e]; exact HRB.out.stays HB3.out, gro HB.out HB3.out⟩
    · have hkz : k = Z := by omega
      subst hkz
      have hend : ¬ ((k : Int) < (N : Int)) ∨ ((k : Int) < (N : Int) ∧ ¬ ((k : Int) < 4)) := by have := HZ.out; omega
      rcases hend with h1 | ⟨h1, h2⟩
      all_goals
        go_wp2
        go_ret2
        exact ⟨Aa, ca', Ab, cb', by show Ending.returned (.tuple #[.slice Aa Q ca', .slice Ab Q cb']) = _; rw [HQ.out], by rw [HQ.out]; exact hca, by rw [HQ.out]; exact hcb, HRA.out.rd rfl, HRB.out.rd rfl, HB.out⟩
end Go.Proofs.Ytnkopcmkanibhaa

/-
  moore: all rules' places together. Contracts for other texts; no statement of its own.
-/
namespace Go.Proofs.Ytnkopcmkanibhaa
open Go Go.RowKit
attribute [local go_sem ↓] Go.wp_at_zero Go.wp_at_succ
attribute [local go_sem ↓] run_appE

def RetTog (w : World) (ps : List Plc) (fs : List Nat) (lam : Nat) (e : Ending) (w' : World) : Prop := ∃ v v1 C, e = .returned (.agg #[v, v1, .int .i64 lam]) ∧ C ≤ w'.heap.size ∧ PlcRow w' C v ps ∧ Ints w' C v1 (ns fs) ∧ Below w.heap.size w w'
/-- What stands in memory while they are put together. -/
structure Tog (w wr : World) (lam : Nat) (v v1 : Value) (ps : List Plc) (fs : List Nat) : Prop where
  box : HasO wr (w.heap.size + 1) (.cells #[v, v1, .int .i64 lam] 91 (0, 0))
  res : HasO wr w.heap.size (.cells #[.slice none 0 0, .slice none 0 0, .int .i64 0] 91 (0, 0))
  plc : PlcRow wr (w.heap.size + 2) v ps
  fst : Ints wr (w.heap.size + 2) v1 (ns fs)
  bel : Below w.heap.size w wr
section
variable {w wr wi : World} {lam : Nat} {v v1 : Value} {ps : List Plc} {fs : List Nat}
theorem Tog.size (h : Tog w wr lam v v1 ps fs) : w.heap.size + 2 ≤ wr.heap.size := lt_of_some h.box
theorem Tog.stays (h : Tog w wr lam v v1 ps fs) (hb : Below wr.heap.size wr wi) : Tog w wi lam v v1 ps fs :=
  ⟨has_stays h.box hb, has_stays h.res hb, h.plc.stays h.size hb, h.fst.stays hb, h.bel.trans (hb.mono h.bel.size)⟩
theorem Tog.alloc (h : Tog w wr lam v v1 ps fs) (o : Obj) : Tog w (wr.alloc o) lam v v1 ps fs := h.stays ((Below.refl _ _).alloc (Nat.le_refl _) _)
theorem Tog.drew (h : Tog w wr lam v v1 ps fs) : Tog w wr.drew lam v v1 ps fs := h.stays (Below.refl _ _).drew
theorem Tog.set (h : Tog w wr lam v v1 ps fs) {a : Addr} (ha : wi.heap.size ≤ a.block) (hw : wi.heap.size = wr.heap.size) (u : Value) : wr.heap.size ≤ a.block := hw ▸ ha
theorem Tog.new (w : World) (lam : Nat) : Tog w ((w.alloc (.cells #[.slice none 0 0, .slice none 0 0, .int .i64 0] 91)).alloc (.cells #[.slice none 0 0, .slice none 0 0, .int .i64 lam] 91)) lam (.slice none 0 0) (.slice none 0 0) [] [] := by
  refine ⟨has_new _ _ _ _ (by simp), has_alloc _ (has_new _ _ _ _ rfl), PlcRow.nil _ _, Ints.nil _ _, ((Below.refl _ _).alloc (Nat.le_refl _) _).alloc (by simp) _⟩
/-- The row of places has grown, and the box tells so. -/
theorem Tog.grewP {v' : Value} {ps' : List Plc} (h : Tog w wr lam v v1 ps fs) (hg : wr.grownBy wi v.ownBlock) (hp : PlcRow wi (w.heap.size + 2) v' ps') : Tog w (wi.setCell ⟨w.heap.size + 1, 0, none⟩ v') lam v' v1 ps' fs := by
  have hin := fun b e => (h.plc.in (b := b) e)
  have hb1 : some (w.heap.size + 1) ≠ v.ownBlock := fun e => by have := hin _ e.symm; omega
  have hb0 : some w.heap.size ≠ v.ownBlock := fun e => by have := hin _ e.symm; omega
  have hsz := Nat.le_trans h.size hg.size
  have hbx := has_grown hg h.box hb1
  have hr := has_grown hg h.res hb0
  have hbel : Below w.heap.size w wi := h.bel.grown hg h.bel.size fun k e => by have := hin k e; omega
  have hfi : Ints wi (w.heap.size + 2) v1 (ns fs) := h.fst.block fun b e _ => hg.block b (h.fst.in e).2 fun e' => by
    obtain ⟨c1, k1⟩ := h.fst.kind e
    obtain ⟨c2, k2⟩ := h.plc.kind e'.symm
    exact kind_apart k1 k2 (by decide) rfl
  refine ⟨?_, has_setCell _ hr (by intro e; have e' : w.heap.size = w.heap.size + 1 := e; omega), hp.cellSet (a := ⟨w.heap.size + 1, 0, none⟩) hsz (by show w.heap.size + 1 < w.heap.size + 2; omega) ⟨#[v, v1, .int .i64 lam], 91, hbx, by decide⟩ _, hfi.block fun b e _ => Below.heap_setCell _ _ _ _ (by intro e'; have := (hfi.in e).1; have e2 : b = w.heap.size + 1 := e'; omega), hbel.setCell (by simp) _⟩
  unfold HasO at hbx ⊢
  rw [heap_setCell_same wi (w.heap.size + 1) 0 _ _ v' hbx]
  rfl
/-- A cell of the result's box is written. -/
theorem res_set {a b c : Value} (hp : PlcRow wr (w.heap.size + 2) v ps) (hf : Ints wr (w.heap.size + 2) v1 (ns fs)) (hb : Below w.heap.size w wr) (hs : w.heap.size + 2 ≤ wr.heap.size) (hr : HasO wr w.heap.size (.cells #[a, b, c] 91 (0, 0))) (o : Nat) (u : Value) :
    PlcRow (wr.setCell ⟨w.heap.size, o, none⟩ u) (w.heap.size + 2) v ps ∧ Ints (wr.setCell ⟨w.heap.size, o, none⟩ u) (w.heap.size + 2) v1 (ns fs) ∧ Below w.heap.size w (wr.setCell ⟨w.heap.size, o, none⟩ u) ∧ w.heap.size + 2 ≤ (wr.setCell ⟨w.heap.size, o, none⟩ u).heap.size :=
  ⟨hp.cellSet (a := ⟨w.heap.size, o, none⟩) hs (by show w.heap.size < w.heap.size + 2; omega) ⟨#[a, b, c], 91, hr, by decide⟩ _, hf.block fun b e _ => Below.heap_setCell _ _ _ _ (by intro e'; have := (hf.in e).1; have e2 : b = w.heap.size := e'; omega), hb.setCell (by simp) _, by simp [World.setCell]; omega⟩
theorem Tog.fin (h : Tog w wr lam v v1 ps fs) : HasO (((wr.setCell ⟨w.heap.size, 0, none⟩ v).setCell ⟨w.heap.size, 1, none⟩ v1).setCell ⟨w.heap.size, 2, none⟩ (.int .i64 lam)) w.heap.size (.cells #[v, v1, .int .i64 lam] 91 (0, 0)) ∧
    PlcRow (((wr.setCell ⟨w.heap.size, 0, none⟩ v).setCell ⟨w.heap.size, 1, none⟩ v1).setCell ⟨w.heap.size, 2, none⟩ (.int .i64 lam)) (w.heap.size + 2) v ps ∧ Ints (((wr.setCell ⟨w.heap.size, 0, none⟩ v).setCell ⟨w.heap.size, 1, none⟩ v1).setCell ⟨w.heap.size, 2, none⟩ (.int .i64 lam)) (w.heap.size + 2) v1 (ns fs) ∧
    Below w.heap.size w (((wr.setCell ⟨w.heap.size, 0, none⟩ v).setCell ⟨w.heap.size, 1, none⟩ v1).setCell ⟨w.heap.size, 2, none⟩ (.int .i64 lam)) ∧ w.heap.size + 2 ≤ (((wr.setCell ⟨w.heap.size, 0, none⟩ v).setCell ⟨w.heap.size, 1, none⟩ v1).setCell ⟨w.heap.size, 2, none⟩ (.int .i64 lam)).heap.size := by
  have r0 := h.res
  unfold HasO at r0
  have r1 := heap_setCell_same wr w.heap.size 0 _ _ v r0
  have r2 := heap_setCell_same _ w.heap.size 1 _ _ v1 r1
  have r3 := heap_setCell_same _ w.heap.size 2 _ _ (.int .i64 lam) r2
  obtain ⟨a1, a2, a3, a4⟩ := res_set (a := .slice none 0 0) (b := .slice none 0 0) (c := .int .i64 0) h.plc h.fst h.bel h.size r0 0 v
  obtain ⟨b1, b2, b3, b4⟩ := res_set (a := v) (b := .slice none 0 0) (c := .int .i64 0) a1 a2 a3 a4 r1 1 v1
  obtain ⟨c1, c2, c3, c4⟩ := res_set (a := v) (b := v1) (c := .int .i64 0) b1 b2 b3 b4 r2 2 (.int .i64 lam)
  exact ⟨r3, c1, c2, c3, c4⟩
end
section
variable {w : World} {g x : Nat} {v1 v2 e : Value}
theorem loadVarT (h : HasO w g (.cells #[v1, v2, e] 91 (0, 0))) : (loadVar 91 ⟨g, 0, none⟩).run Try.prog w = .ok (.agg #[v1, v2, e]) w := by
  have c0 : w.cell? ⟨g, 0, none⟩ = some v1 := cell_of_row w g 0 _ _ (0, 0) h
  have c1 : w.cell? ⟨g, 1, none⟩ = some v2 := cell_of_row w g 1 _ _ (0, 0) h
  have c2 : w.cell? ⟨g, 2, none⟩ = some e := cell_of_row w g 2 _ _ (0, 0) h
  have h1 : (loadCells ⟨g, 0, none⟩ 3).run Try.prog w = .ok #[v1, v2, e] w := run_loadCells w ⟨g, 0, none⟩ 3 (fun j => if j = 0 then v1 else if j = 1 then v2 else e) (fun j hj => by
    rw [Addr.add_lit, Nat.zero_add]
    match j, hj with
    | 0, _ => exact c0
    | 1, _ => exact c1
    | 2, _ => exact c2)
  have h2 : (isAgg 91).run Try.prog w = .ok true w := by kernel_rfl
  have h3 : (sizeOf 91).run Try.prog w = .ok 3 w := by kernel_rfl
  simp [loadVar, Sem.run_bind, h1, h2, h3]
theorem ret_rls {fn : Func} {R : Ending → World → Prop} {a : Act} (hr : fn.results = #[.cell x 91]) (hx : a.tmps.getD x undef = .pointer (some ⟨g, 0, none⟩)) (hd : a.defers = []) (h : HasO w g (.cells #[v1, v2, e] 91 (0, 0)))
    (hR : R (.returned (.agg #[v1, v2, e])) w) : bodyPost Try.prog fn R .ret a w := by
  refine bodyPost_ret ?_ hd hR
  have e0 : (#[ResultVar.cell x 91] : Array ResultVar) = [ResultVar.cell x 91].toArray := rfl
  rw [Array.getD_eq_getD_getElem?] at hx
  unfold results
  rw [hr, e0]
  simp [Sem.run_bind, hx, loadVarT h, asAddr]
end

/-- The row of first places has grown, and the box tells so. -/
theorem Tog.grewF {w wr wi : World} {lam : Nat} {v v1 : Value} {ps : List Plc} {fs fs' : List Nat} {v' : Value} (h : Tog w wr lam v v1 ps fs) (hg : wr.grownBy wi v1.ownBlock) (hp : Ints wi (w.heap.size + 2) v' (ns fs')) : Tog w (wi.setCell ⟨w.heap.size + 1, 1, none⟩ v') lam v v' ps fs' := by
  have hin := fun b e => (h.fst.in (b := b) e)
  have hb1 : some (w.heap.size + 1) ≠ v1.ownBlock := fun e => by have := hin _ e.symm; omega
  have hb0 : some w.heap.size ≠ v1.ownBlock := fun e => by have := hin _ e.symm; omega
  have hsz := Nat.le_trans h.size hg.size
  have hbx := has_grown hg h.box hb1
  have hr := has_grown hg h.res hb0
  have hbC : Below (w.heap.size + 2) wr wi := (Below.refl _ _).grown hg h.size fun k e => (hin k e).1
  have hbel : Below w.heap.size w wi := h.bel.grown hg h.bel.size fun k e => by have := hin k e; omega
  have hpl : PlcRow wi (w.heap.size + 2) v ps := h.plc.block h.size hbC fun b e => hg.block b (h.plc.in e).2 fun e' => by
    obtain ⟨c1, k1⟩ := h.plc.kind e
    obtain ⟨c2, k2⟩ := h.fst.kind e'.symm
    exact kind_apart k1 k2 (by decide) rfl
  refine ⟨?_, has_setCell _ hr (by intro e; have e' : w.heap.size = w.heap.size + 1 := e; omega), hpl.cellSet (a := ⟨w.heap.size + 1, 1, none⟩) hsz (by show w.heap.size + 1 < w.heap.size + 2; omega) ⟨#[v, v1, .int .i64 lam], 91, hbx, by decide⟩ _, hp.block fun b e _ => Below.heap_setCell _ _ _ _ (by intro e'; have := (hp.in e).1; have e2 : b = w.heap.size + 1 := e'; omega), hbel.setCell (by simp) _⟩
  unfold HasO at hbx ⊢
  rw [heap_setCell_same wi (w.heap.size + 1) 1 _ _ v' hbx]
  rfl
theorem ints_newT (w : World) (x : Int) : Ints (w.alloc (.cells #[.int .i64 x] 3)) 0 (.slice (some ⟨w.heap.size, 0, none⟩) 1 1) [x] :=
  World.ownsRow_lit w #[.int .i64 x] 1 (Nat.zero_le _) (by decide) rfl

/-- An append whose run is known, as one step of a region that draws. -/
theorem step_run {w w' : World} {ops : Array Oper} {o : Oper} {a : Act} {K : Act → World → Prop} {Q : Exit → Act → World → Prop} {E : Prop} {v u v' : Value} {t : TypeId} (hgd : o.guard = none) (s x : Operand) (ho : o.op = .call { callee := .builtin .append, args := #[s, x], argTypes := #[t, t] })
    (hs : a.eval s = v) (hx : a.eval x = u) (ty : TypeId) (hty : o.type = ty) (hr : (Builtin.append_ #[t, t] ty #[v, u]).run Try.prog w = .ok v' w') (hk : K (a.put o.dst v') w') : if Region.wanted o (yielded ops a.tmps) = true then Oper.wp Try.prog o a w K Q else E := by
  have hw : Region.wanted o (yielded ops a.tmps) = true := by simp [Region.wanted, hgd]
  rw [if_pos hw]
  subst hty
  unfold Oper.wp
  simp [execOp, ho, resolve, invoke, builtin, hs, hx, hr, Result.andThen]
  exact hk

set_option maxRecDepth 20000 in
set_option maxHeartbeats 4000000 in
theorem together_p {w : World} {A B : Option Addr} {ca cb lam : Nat} {L : List (Lay × Str)} {bs : List Bool} (h : RdNfas w w.heap.size A L) (hb : RdBo w B bs) (hl : bs.length = L.length) (hL : L.length ≤ 64) (hP : ∀ s x, (s, x) ∈ L → s.sets.length ≤ 256) (hF : ∀ s x, (s, x) ∈ L → x.first.length ≤ 256) (hI : ∀ s x, (s, x) ∈ L → ∀ p ∈ x.first, p < s.sets.length) :
    Calls Try.prog 35 #[.slice A L.length ca, .slice B bs.length cb, .int .i64 lam] w (RetTog w (togP L bs L.length) (togF L bs L.length) lam) := by
  have HR := Lib.hid h
  have HBO := Lib.hid hb
  have hlen := togP_len L bs 256 hP
  have hlenF := togF_len L bs 256 hF
  have HLP := Lib.hid hlen
  have HLF := Lib.hid hlenF
  have HP := Lib.hid hP
  have HF := Lib.hid hF
  have HI := Lib.hid hI
  obtain ⟨N, hN⟩ : ∃ N, L.length = N := ⟨_, rfl⟩
  rw [hl]
  rw [hN] at hL ⊢
  have HN := Lib.hid hN
  have HBL := Lib.hid hl
  clear h hb hl hP hF hI hN hlen hlenF
  go_enter Try.func35, Try.ntmps35
  go_wp2
  go_loopg [19] N (fun m i wr => ∃ (k : Nat) (v v1 : Value), i = .int .i64 (k : Int) ∧ k ≤ N ∧ m = N - k ∧ Tog w wr lam v v1 (togP L bs k) (togF L bs k))
  case atStart => exact ⟨0, _, _, by first | rfl | trivial, Nat.zero_le _, by first | rfl | trivial, Tog.new w lam⟩
  case round =>
    obtain ⟨k, v, v1, rfl, hk, hmk, ht⟩ := hrel
    generalize wr = wo at *
    have HMK := Lib.hid hmk
    have HT := Lib.hid ht
    obtain ⟨Ap, cp, hfp, hcp⟩ := ht.plc.form
    obtain ⟨Af, cf, hff⟩ := ht.fst.form
    obtain ⟨Q, hQ⟩ : ∃ Q, (togP L bs k).length = Q := ⟨_, rfl⟩
    rw [hQ] at hfp hcp
    have HQ := Lib.hid hQ
    obtain ⟨FL, hFL⟩ : ∃ FL, (ns (togF L bs k)).length = FL := ⟨_, rfl⟩
    rw [hFL] at hff
    have HFL := Lib.hid hFL
    subst hfp hff
    have b0 := cell_of_row wo (w.heap.size + 1) 0 _ _ (0, 0) ht.box
    have b1 := cell_of_row wo (w.heap.size + 1) 1 _ _ (0, 0) ht.box
    have b2 := cell_of_row wo (w.heap.size + 1) 2 _ _ (0, 0) ht.box
    have hsz := ht.size
    clear hmk ht hQ hFL
    by_cases hkN : k < N
    · have hkL : k < L.length := by rw [HN.out]; exact hkN
      obtain ⟨s, x, hsx⟩ : ∃ s x, L[k]? = some (s, x) := ⟨L[k].1, L[k].2, List.getElem?_eq_getElem hkL⟩
      obtain ⟨g, off, A1, m1, c1, A2, m2, c2, gm, A3, m3, c3, rfl, hg, hcs, rfl, rfl, rfl, hn⟩ := HR.out k s x hsx
      have hcs := fun q u hu => (HT.out.bel.cell (p := ⟨g, off + k * 5 + q, none⟩) hg).trans (hcs q u hu)
      obtain ⟨P, hP⟩ : ∃ P, s.sets.length = P := ⟨_, rfl⟩
      obtain ⟨F, hF⟩ : ∃ F, x.first.length = F := ⟨_, rfl⟩
      obtain ⟨ex, hex⟩ : ∃ F, x.empty = F := ⟨_, rfl⟩
      rw [hP, hF, hex] at hcs
      rw [hP, hF] at hn
      have HNI := Lib.hid hn
      have HPP := Lib.hid hP
      have HFF := Lib.hid hF
      have HSX := Lib.hid hsx
      have n0 := hcs 0 _ rfl
      have n1 := hcs 1 _ rfl
      have n2 := hcs 2 _ rfl
      have n3 := hcs 3 _ rfl
      have n4 := hcs 4 _ rfl
      rw [Nat.add_zero] at n0
      have hP256 : P ≤ 256 := by rw [← hP]; exact HP.out s x (List.mem_of_getElem? hsx)
      have hF256 : F ≤ 256 := by rw [← hF]; exact HF.out s x (List.mem_of_getElem? hsx)
      have k0 : (0 : Int) ≤ (k : Int) := by omega
      have k1 : (k : Int) < (N : Int) := by omega
      clear hn hP hF hsx hcs hex
      go_upto_region 5 with fail
      generalize hw1 : wo.alloc (.cells #[.slice A1 P c1, .slice A2 F c2, .slice (some ⟨gm, 0, none⟩) P P, .slice A3 P c3, .bool ex] 87) = w1 at *
      have ht1 : Tog w w1 lam (.slice Ap Q cp) (.slice Af FL cf) (togP L bs k) (togF L bs k) := by rw [← hw1]; exact HT.out.alloc _
      have hx1 : HasO w1 wo.heap.size (.cells #[.slice A1 P c1, .slice A2 F c2, .slice (some ⟨gm, 0, none⟩) P P, .slice A3 P c3, .bool ex] 87 (0, 0)) := by rw [← hw1]; exact has_new _ _ _ _ rfl
      have HT1 := Lib.hid ht1
      have HX1 := Lib.hid hx1
      have r0 := cell_of_row w1 (w.heap.size + 1) 0 _ _ (0, 0) ht1.box
      have a0 := cell_of_row w1 wo.heap.size 0 _ _ (0, 0) hx1
      have a1 := cell_of_row w1 wo.heap.size 1 _ _ (0, 0) hx1
      have a3 := cell_of_row w1 wo.heap.size 3 _ _ (0, 0) hx1
      clear b0 b1 b2 n0 n1 n2 n3 n4 ht1 hx1 hw1
      go_wp2
      go_loopg [30] P (fun m i wi => ∃ (q : Nat) (v : Value), i = .int .i64 (q : Int) ∧ q ≤ P ∧ m = P - q ∧ Tog w wi lam v (.slice Af FL cf) (togP L bs k ++ plcsOf s x Q (bs.getD k false) q) (togF L bs k) ∧ HasO wi wo.heap.size (.cells #[.slice A1 P c1, .slice A2 F c2, .slice (some ⟨gm, 0, none⟩) P P, .slice A3 P c3, .bool ex] 87 (0, 0)))
      case atStart => exact ⟨0, _, by first | rfl | trivial, Nat.zero_le _, by first | rfl | trivial, by rw [plcsOf, List.append_nil]; exact HT1.out, HX1.out⟩
      case round =>
        obtain ⟨q, v, rfl, hq, hmq, htq, hxq⟩ := hrel
        generalize wr = wi at *
        have HMQ := Lib.hid hmq
        have HTQ := Lib.hid htq
        have HXQ := Lib.hid hxq
        obtain ⟨Av, cv, hfv, hcv⟩ := htq.plc.form
        rw [List.length_append, plcsOf_len, HQ.out] at hfv hcv
        subst hfv
        clear hmq htq hxq
        by_cases hqP : q < P
        · have hq0 : (0 : Int) ≤ (q : Int) := by omega
          have hq1 : (q : Int) < (P : Int) := by omega
          have hqs : q < s.sets.length := by rw [HPP.out]; exact hqP
          have hni := HNI.out.below HTQ.out.bel
          have hbe := HTQ.out.bel.size
          obtain ⟨g1, c1', e1, hg1, hs4⟩ := hni.sets q hqs
          obtain ⟨g3, c3', v3, e3, hg3, hc3, hi3, hv3⟩ := hni.fols q hqs
          have hlq := hni.last q hqs
          have hgm := hni.lastB
          rw [HPP.out] at e1 e3
          simp only [Value.slice.injEq] at e1 e3
          obtain ⟨rfl, -, rfl⟩ := e1
          obtain ⟨rfl, -, rfl⟩ := e3
          obtain ⟨A4, c4, hf3⟩ := hi3.form
          obtain ⟨N4, hN4⟩ : ∃ n, (ns (s.follow.getD q [])).length = n := ⟨_, rfl⟩
          rw [hN4] at hf3
          subst hf3
          obtain ⟨S, hS⟩ : ∃ P, s.sets.getD q noneP = P := ⟨_, rfl⟩
          rw [hS] at hs4
          obtain ⟨lq, hlq'⟩ : ∃ b, x.last.contains q = b := ⟨_, rfl⟩
          rw [hlq'] at hlq
          have s0 := hs4 0 (by omega)
          have s1 := hs4 1 (by omega)
          have s2 := hs4 2 (by omega)
          have s3 := hs4 3 (by omega)
          rw [Nat.add_zero] at s0
          obtain ⟨gb, offb, rfl, hgb, hcb⟩ := HBO.out k (bs.getD k false) (by rw [List.getD_eq_getElem?_getD, List.getElem?_eq_getElem (by rw [HBL.out]; exact hkL)]; rfl)
          have hcb := (HTQ.out.bel.cell (p := ⟨gb, offb + k, none⟩) hgb).trans hcb
          obtain ⟨lu, hlu⟩ : ∃ b, bs.getD k false = b := ⟨_, rfl⟩
          rw [hlu] at hcb
          have HI3 := Lib.hid hi3
          have HV3 := Lib.hid hv3
          have HS := Lib.hid hS
          have HLQ := Lib.hid hlq'
          have HLU := Lib.hid hlu
          have HN4 := Lib.hid hN4
          have p0 := cell_of_row wi (w.heap.size + 1) 0 _ _ (0, 0) HTQ.out.box
          have p2 := cell_of_row wi wo.heap.size 2 _ _ (0, 0) HXQ.out
          have p3 := cell_of_row wi wo.heap.size 3 _ _ (0, 0) HXQ.out
          clear hi3 hv3 hS hlq' hlu hN4 hs4 hni
          have hwos := HXQ.out
          have hwol : wo.heap.size < wi.heap.size := lt_of_some hwos
          go_upto_region 9 with fail
          generalize hw2 : wi.alloc (.cells #[.int .u64 (word S 0), .int .u64 (word S 1), .int .u64 (word S 2), .int .u64 (word S 3)] 72) = w2 at *
          have hx2 : HasO w2 wi.heap.size (.cells #[.int .u64 (word S 0), .int .u64 (word S 1), .int .u64 (word S 2), .int .u64 (word S 3)] 72 (0, 0)) := by rw [← hw2]; exact has_new _ _ _ _ rfl
          have hb2 : Below wi.heap.size wi w2 := by rw [← hw2]; exact (Below.refl _ _).alloc (Nat.le_refl _) _
          have ht2 := HTQ.out.stays hb2
          have hs2 : w2.heap.size = wi.heap.size + 1 := by rw [← hw2]; simp
          have z0 : w2.cell? ⟨wi.heap.size, 0, none⟩ = some (.int .u64 (word S 0)) := cell_of_row w2 wi.heap.size 0 _ _ (0, 0) hx2
          have z1 : w2.cell? ⟨wi.heap.size, 1, none⟩ = some (.int .u64 (word S 1)) := cell_of_row w2 wi.heap.size 1 _ _ (0, 0) hx2
          have z2 : w2.cell? ⟨wi.heap.size, 2, none⟩ = some (.int .u64 (word S 2)) := cell_of_row w2 wi.heap.size 2 _ _ (0, 0) hx2
          have z3 : w2.cell? ⟨wi.heap.size, 3, none⟩ = some (.int .u64 (word S 3)) := cell_of_row w2 wi.heap.size 3 _ _ (0, 0) hx2
          have p0' : w2.cell? ⟨w.heap.size + 1, 0, none⟩ = some (.slice Av (Q + q) cv) := cell_stays p0 hb2
          have p2' : w2.cell? ⟨wo.heap.size, 2, none⟩ = some (.slice (some ⟨gm, 0, none⟩) P P) := cell_stays p2 hb2
          have p3' : w2.cell? ⟨wo.heap.size, 3, none⟩ = some (.slice (some ⟨g3, 0, none⟩) P c3) := cell_stays p3 hb2
          have hc3' := cell_stays hc3 hb2
          have hlq' := cell_stays hlq hb2
          have hcb' := cell_stays hcb hb2
          have hsz2 := HTQ.out.size
          have n1 : wi.heap.size ≠ w.heap.size + 1 := by omega
          have n2 : wo.heap.size ≠ w.heap.size + 1 := by omega
          have n3 : g3 ≠ w.heap.size + 1 := by omega
          have n4 : gm ≠ w.heap.size + 1 := by omega
          have n5 : gb ≠ w.heap.size + 1 := by omega
          have htd := ht2.alloc (.cells #[.int .u64 (word S 0), .int .u64 (word S 1), .int .u64 (word S 2), .int .u64 (word S 3), .slice A4 N4 c4, .int .i64 (Q : Int), .bool lq, .bool lu] 130)
          have hal := htd.drew
          have hus : Ints w2 0 (.slice A4 N4 c4) (ns (s.follow.getD q [])) := HI3.out.stays hb2
          have hlen2 : (togP L bs k ++ plcsOf s x Q (bs.getD k false) q).length ≤ 100000 := by
            rw [List.length_append, plcsOf_len]
            have h1 := HLP.out k (by omega)
            have h2 := HP.out s x (List.mem_of_getElem? HSX.out)
            have h3 := HPP.out
            have h4 := HN.out
            have : k * 256 ≤ 64 * 256 := Nat.mul_le_mul_right _ (by omega)
            omega
          obtain ⟨v6, w6, hr6, h6, g6, o6⟩ := plc_push hal.plc (by have := hal.size; omega) hlen2 ⟨S, s.follow.getD q [], Q, lq, lu⟩ (.slice A4 N4 c4) (show Ints (w2.alloc (.cells #[.int .u64 (word S 0), .int .u64 (word S 1), .int .u64 (word S 2), .int .u64 (word S 3), .slice A4 N4 c4, .int .i64 (Q : Int), .bool lq, .bool lu] 130)).drew 0 _ _ from Ints.alloc hus _) (fun b e => by have := HV3.out b e; omega) 89 ⟨w2.heap.size, 0, none⟩ 1 (fun j u hu => by
            rw [Addr.add_lit, Nat.zero_add]
            refine (cell_of_row _ w2.heap.size j _ 130 (0, 0) (heap_alloc_new w2 _)).trans ?_
            simpa [plcC] using hu)
          obtain ⟨a1, a2, a3⟩ := app_is hr6
          obtain ⟨A6, c6, hf6, hc6⟩ := h6.form
          have hl6 : (togP L bs k ++ plcsOf s x Q (bs.getD k false) q ++ [(⟨S, s.follow.getD q [], Q, lq, lu⟩ : Plc)]).length = Q + q + 1 := by rw [List.length_append, List.length_append, plcsOf_len, HQ.out]; rfl
          rw [hl6] at hf6
          subst hf6
          have hin2 := fun b e => (ht2.plc.in (b := b) e)
          have hkind := fun b e => (ht2.plc.kind (b := b) e)
          have m0 : some wi.heap.size ≠ (Value.slice Av (Q + q) cv).ownBlock := fun e => by
            obtain ⟨c2, k2⟩ := hkind _ e.symm
            exact kind_apart k2 hx2 (by decide) rfl
          have m1 : some wo.heap.size ≠ (Value.slice Av (Q + q) cv).ownBlock := fun e => by
            obtain ⟨c2, k2⟩ := hkind _ e.symm
            exact kind_apart k2 (has_stays hwos hb2) (by decide) rfl
          have m2 : ∀ b, b < w.heap.size + 2 → some b ≠ (Value.slice Av (Q + q) cv).ownBlock := fun b hb e => by have := (hin2 _ e.symm).1; omega
          have keep6 : ∀ b o u, b < w2.heap.size → some b ≠ (Value.slice Av (Q + q) cv).ownBlock → w2.cell? ⟨b, o, none⟩ = some u → w6.cell? ⟨b, o, none⟩ = some u := fun b o u hl hne h =>
            (World.cell?_of_block (g6.block b (by rw [World.size_drew, World.size_alloc]; exact Nat.lt_succ_of_lt hl) hne)).trans (cell_dr (cell_al h _))
          have y0 := keep6 _ _ _ (by omega) m0 z0
          have y1 := keep6 _ _ _ (by omega) m0 z1
          have y2 := keep6 _ _ _ (by omega) m0 z2
          have y3 := keep6 _ _ _ (by omega) m0 z3
          have y4 := keep6 _ _ _ (by omega) (m2 _ (by omega)) p0'
          have y5 := keep6 _ _ _ (by omega) m1 p2'
          have y6 := keep6 _ _ _ (by omega) m1 p3'
          have y7 := keep6 _ _ _ (by omega) (m2 _ (by omega)) hc3'
          have y8 := keep6 _ _ _ (by omega) (m2 _ (by omega)) hlq'
          have y9 := keep6 _ _ _ (by omega) (m2 _ (by omega)) hcb'
          have hbx6 := has_grown g6 hal.box (m2 _ (by omega))
          have hxo6 : HasO w6 wo.heap.size _ := has_grown g6 (has_drew (has_alloc (.cells #[.int .u64 (word S 0), .int .u64 (word S 1), .int .u64 (word S 2), .int .u64 (word S 3), .slice A4 N4 c4, .int .i64 (Q : Int), .bool lq, .bool lu] 130) (has_stays hwos hb2))) m1
          have f6 := frozen_of_row w6 (w.heap.size + 1) 0 _ _ hbx6
          have H6 := Lib.hid h6
          have G6 := Lib.hid g6
          have HAL := Lib.hid hal
          have HXO6 := Lib.hid hxo6
          have p0d := cell_dr (cell_al p0' (.cells #[.int .u64 (word S 0), .int .u64 (word S 1), .int .u64 (word S 2), .int .u64 (word S 3), .slice A4 N4 c4, .int .i64 (Q : Int), .bool lq, .bool lu] 130))
          have HS2 := Lib.hid hs2
          clear hs2
          clear h6 g6 hal hbx6 hxo6 keep6 hin2 hkind hus hlen2 o6 hl6 htd hx2 ht2 hw2 hb2 p0 p2 p3 hc3 hlq hcb hc6
          have hmx : Try.prog.follows .mixedOrders = true := by kernel_rfl
          have hS0 : (fun W : World => W.cell? ⟨wi.heap.size, 0, none⟩ = some (.int .u64 (word S 0)) ∧ W.cell? ⟨wi.heap.size, 1, none⟩ = some (.int .u64 (word S 1)) ∧ W.cell? ⟨wi.heap.size, 2, none⟩ = some (.int .u64 (word S 2)) ∧ W.cell? ⟨wi.heap.size, 3, none⟩ = some (.int .u64 (word S 3)) ∧ W.cell? ⟨wo.heap.size, 2, none⟩ = some (.slice (some ⟨gm, 0, none⟩) P P) ∧ W.cell? ⟨wo.heap.size, 3, none⟩ = some (.slice (some ⟨g3, 0, none⟩) P c3) ∧ W.cell? ⟨g3, q, none⟩ = some (.slice A4 N4 c4) ∧ W.cell? ⟨gm, q, none⟩ = some (.bool lq) ∧ W.cell? ⟨gb, offb + k, none⟩ = some (.bool lu) ∧ W.cell? ⟨w.heap.size + 1, 0, none⟩ = some (.slice Av (Q + q) cv)) w2.drew := ⟨cell_dr z0, cell_dr z1, cell_dr z2, cell_dr z3, cell_dr p2', cell_dr p3', cell_dr hc3', cell_dr hlq', cell_dr hcb', cell_dr p0'⟩
          have hS1 : (fun W : World => W.cell? ⟨wi.heap.size, 0, none⟩ = some (.int .u64 (word S 0)) ∧ W.cell? ⟨wi.heap.size, 1, none⟩ = some (.int .u64 (word S 1)) ∧ W.cell? ⟨wi.heap.size, 2, none⟩ = some (.int .u64 (word S 2)) ∧ W.cell? ⟨wi.heap.size, 3, none⟩ = some (.int .u64 (word S 3)) ∧ W.cell? ⟨wo.heap.size, 2, none⟩ = some (.slice (some ⟨gm, 0, none⟩) P P) ∧ W.cell? ⟨wo.heap.size, 3, none⟩ = some (.slice (some ⟨g3, 0, none⟩) P c3) ∧ W.cell? ⟨g3, q, none⟩ = some (.slice A4 N4 c4) ∧ W.cell? ⟨gm, q, none⟩ = some (.bool lq) ∧ W.cell? ⟨gb, offb + k, none⟩ = some (.bool lu) ∧ W.cell? ⟨w.heap.size + 1, 0, none⟩ = some (.slice Av (Q + q) cv)) (w2.alloc (.cells #[.int .u64 (word S 0), .int .u64 (word S 1), .int .u64 (word S 2), .int .u64 (word S 3), .slice A4 N4 c4, .int .i64 (Q : Int), .bool lq, .bool lu] 130)).drew := ⟨cell_dr (cell_al z0 _), cell_dr (cell_al z1 _), cell_dr (cell_al z2 _), cell_dr (cell_al z3 _), cell_dr (cell_al p2' _), cell_dr (cell_al p3' _), cell_dr (cell_al hc3' _), cell_dr (cell_al hlq' _), cell_dr (cell_al hcb' _), p0d⟩
          have hS2 : (fun W : World => W.cell? ⟨wi.heap.size, 0, none⟩ = some (.int .u64 (word S 0)) ∧ W.cell? ⟨wi.heap.size, 1, none⟩ = some (.int .u64 (word S 1)) ∧ W.cell? ⟨wi.heap.size, 2, none⟩ = some (.int .u64 (word S 2)) ∧ W.cell? ⟨wi.heap.size, 3, none⟩ = some (.int .u64 (word S 3)) ∧ W.cell? ⟨wo.heap.size, 2, none⟩ = some (.slice (some ⟨gm, 0, none⟩) P P) ∧ W.cell? ⟨wo.heap.size, 3, none⟩ = some (.slice (some ⟨g3, 0, none⟩) P c3) ∧ W.cell? ⟨g3, q, none⟩ = some (.slice A4 N4 c4) ∧ W.cell? ⟨gm, q, none⟩ = some (.bool lq) ∧ W.cell? ⟨gb, offb + k, none⟩ = some (.bool lu) ∧ W.cell? ⟨w.heap.size + 1, 0, none⟩ = some (.slice Av (Q + q) cv)) w6 := ⟨y0, y1, y2, y3, y5, y6, y7, y8, y9, y4⟩
          refine anyT_begin (R := fun _ => True) (S := fun W => W.cell? ⟨wi.heap.size, 0, none⟩ = some (.int .u64 (word S 0)) ∧ W.cell? ⟨wi.heap.size, 1, none⟩ = some (.int .u64 (word S 1)) ∧ W.cell? ⟨wi.heap.size, 2, none⟩ = some (.int .u64 (word S 2)) ∧ W.cell? ⟨wi.heap.size, 3, none⟩ = some (.int .u64 (word S 3)) ∧ W.cell? ⟨wo.heap.size, 2, none⟩ = some (.slice (some ⟨gm, 0, none⟩) P P) ∧ W.cell? ⟨wo.heap.size, 3, none⟩ = some (.slice (some ⟨g3, 0, none⟩) P c3) ∧ W.cell? ⟨g3, q, none⟩ = some (.slice A4 N4 c4) ∧ W.cell? ⟨gm, q, none⟩ = some (.bool lq) ∧ W.cell? ⟨gb, offb + k, none⟩ = some (.bool lu) ∧ W.cell? ⟨w.heap.size + 1, 0, none⟩ = some (.slice Av (Q + q) cv)) (T := [22]) hmx ?_
          refine anyT_take (i := 0) (v := .pointer (some ⟨w.heap.size + 1, 0, none⟩)) rfl (by kernel_rfl) (by kernel_rfl) (by kernel_rfl) (fun _ _ _ h => h) (by kernel_rfl) (by decide) (by kernel_rfl) (Or.inl ⟨by rfl, fun w' hS => by obtain ⟨s0, s1, s2, s3, s4, s5, s6, s7, s8, s9⟩ := hS; go_simp⟩) trivial hS0 ?_
          refine anyT_take (i := 1) (v := .slice Av (Q + q) cv) rfl (by kernel_rfl) (by kernel_rfl) (by kernel_rfl) (fun _ _ _ h => h) (by kernel_rfl) (by decide) (by kernel_rfl) (Or.inl ⟨by rfl, fun w' hS => by obtain ⟨s0, s1, s2, s3, s4, s5, s6, s7, s8, s9⟩ := hS; go_simp⟩) trivial hS0 ?_
          refine anyT_take (i := 2) (v := .agg #[.int .u64 (word S 0), .int .u64 (word S 1), .int .u64 (word S 2), .int .u64 (word S 3)]) rfl (by kernel_rfl) (by kernel_rfl) (by kernel_rfl) (fun _ _ _ h => h) (by kernel_rfl) (by decide) (by kernel_rfl) (Or.inl ⟨by rfl, fun w' hS => by obtain ⟨s0, s1, s2, s3, s4, s5, s6, s7, s8, s9⟩ := hS; go_simp⟩) trivial hS0 ?_
          refine anyT_take (i := 3) (v := .pointer (some ⟨wo.heap.size, 3, none⟩)) rfl (by kernel_rfl) (by kernel_rfl) (by kernel_rfl) (fun _ _ _ h => h) (by kernel_rfl) (by decide) (by kernel_rfl) (Or.inl ⟨by rfl, fun w' hS => by obtain ⟨s0, s1, s2, s3, s4, s5, s6, s7, s8, s9⟩ := hS; go_simp⟩) trivial hS0 ?_
          go_simp
          refine anyT_take (i := 4) (v := .slice (some ⟨g3, 0, none⟩) P c3) rfl (by kernel_rfl) (by kernel_rfl) (by kernel_rfl) (fun _ _ _ h => h) (by kernel_rfl) (by decide) (by kernel_rfl) (Or.inl ⟨by rfl, fun w' hS => by obtain ⟨s0, s1, s2, s3, s4, s5, s6, s7, s8, s9⟩ := hS; go_simp⟩) trivial hS0 ?_
          refine anyT_take (i := 5) (v := .int .i64 (q : Int)) rfl (by kernel_rfl) (by kernel_rfl) (by kernel_rfl) (fun _ _ _ h => h) (by kernel_rfl) (by decide) (by kernel_rfl) (Or.inl ⟨by rfl, fun w' hS => by obtain ⟨s0, s1, s2, s3, s4, s5, s6, s7, s8, s9⟩ := hS; go_simp⟩) trivial hS0 ?_
          refine anyT_take (i := 6) (v := .pointer (some ⟨g3, q, none⟩)) rfl (by kernel_rfl) (by kernel_rfl) (by kernel_rfl) (fun _ _ _ h => h) (by kernel_rfl) (by decide) (by kernel_rfl) (Or.inl ⟨by rfl, fun w' hS => by obtain ⟨s0, s1, s2, s3, s4, s5, s6, s7, s8, s9⟩ := hS; go_simp⟩) trivial hS0 ?_
          go_simp
          refine anyT_take (i := 7) (v := .slice A4 N4 c4) rfl (by kernel_rfl) (by kernel_rfl) (by kernel_rfl) (fun _ _ _ h => h) (by kernel_rfl) (by decide) (by kernel_rfl) (Or.inl ⟨by rfl, fun w' hS => by obtain ⟨s0, s1, s2, s3, s4, s5, s6, s7, s8, s9⟩ := hS; go_simp⟩) trivial hS0 ?_
          refine anyT_take (i := 8) (v := .int .i64 (Q : Int)) rfl (by kernel_rfl) (by kernel_rfl) (by kernel_rfl) (fun _ _ _ h => h) (by kernel_rfl) (by decide) (by kernel_rfl) (Or.inl ⟨by rfl, fun w' hS => by obtain ⟨s0, s1, s2, s3, s4, s5, s6, s7, s8, s9⟩ := hS; go_simp⟩) trivial hS0 ?_
          refine anyT_take (i := 9) (v := .pointer (some ⟨wo.heap.size, 2, none⟩)) rfl (by kernel_rfl) (by kernel_rfl) (by kernel_rfl) (fun _ _ _ h => h) (by kernel_rfl) (by decide) (by kernel_rfl) (Or.inl ⟨by rfl, fun w' hS => by obtain ⟨s0, s1, s2, s3, s4, s5, s6, s7, s8, s9⟩ := hS; go_simp⟩) trivial hS0 ?_
          go_simp
          refine anyT_take (i := 10) (v := .slice (some ⟨gm, 0, none⟩) P P) rfl (by kernel_rfl) (by kernel_rfl) (by kernel_rfl) (fun _ _ _ h => h) (by kernel_rfl) (by decide) (by kernel_rfl) (Or.inl ⟨by rfl, fun w' hS => by obtain ⟨s0, s1, s2, s3, s4, s5, s6, s7, s8, s9⟩ := hS; go_simp⟩) trivial hS0 ?_
          refine anyT_take (i := 11) (v := .int .i64 (q : Int)) rfl (by kernel_rfl) (by kernel_rfl) (by kernel_rfl) (fun _ _ _ h => h) (by kernel_rfl) (by decide) (by kernel_rfl) (Or.inl ⟨by rfl, fun w' hS => by obtain ⟨s0, s1, s2, s3, s4, s5, s6, s7, s8, s9⟩ := hS; go_simp⟩) trivial hS0 ?_
          refine anyT_take (i := 12) (v := .pointer (some ⟨gm, q, none⟩)) rfl (by kernel_rfl) (by kernel_rfl) (by kernel_rfl) (fun _ _ _ h => h) (by kernel_rfl) (by decide) (by kernel_rfl) (Or.inl ⟨by rfl, fun w' hS => by obtain ⟨s0, s1, s2, s3, s4, s5, s6, s7, s8, s9⟩ := hS; go_simp⟩) trivial hS0 ?_
          go_simp
          refine anyT_take (i := 13) (v := .bool lq) rfl (by kernel_rfl) (by kernel_rfl) (by kernel_rfl) (fun _ _ _ h => h) (by kernel_rfl) (by decide) (by kernel_rfl) (Or.inl ⟨by rfl, fun w' hS => by obtain ⟨s0, s1, s2, s3, s4, s5, s6, s7, s8, s9⟩ := hS; go_simp⟩) trivial hS0 ?_
          refine anyT_take (i := 14) (v := .slice (some ⟨gb, offb, none⟩) N cb) rfl (by kernel_rfl) (by kernel_rfl) (by kernel_rfl) (fun _ _ _ h => h) (by kernel_rfl) (by decide) (by kernel_rfl) (Or.inl ⟨by rfl, fun w' hS => by obtain ⟨s0, s1, s2, s3, s4, s5, s6, s7, s8, s9⟩ := hS; go_simp⟩) trivial hS0 ?_
          refine anyT_take (i := 15) (v := .int .i64 (k : Int)) rfl (by kernel_rfl) (by kernel_rfl) (by kernel_rfl) (fun _ _ _ h => h) (by kernel_rfl) (by decide) (by kernel_rfl) (Or.inl ⟨by rfl, fun w' hS => by obtain ⟨s0, s1, s2, s3, s4, s5, s6, s7, s8, s9⟩ := hS; go_simp⟩) trivial hS0 ?_
          go_simp
          refine anyT_take (i := 16) (v := .pointer (some ⟨gb, offb + k, none⟩)) rfl (by kernel_rfl) (by kernel_rfl) (by kernel_rfl) (fun _ _ _ h => h) (by kernel_rfl) (by decide) (by kernel_rfl) (Or.inl ⟨by rfl, fun w' hS => by obtain ⟨s0, s1, s2, s3, s4, s5, s6, s7, s8, s9⟩ := hS; go_simp⟩) trivial hS0 ?_
          refine anyT_take (i := 17) (v := .bool lu) rfl (by kernel_rfl) (by kernel_rfl) (by kernel_rfl) (fun _ _ _ h => h) (by kernel_rfl) (by decide) (by kernel_rfl) (Or.inl ⟨by rfl, fun w' hS => by obtain ⟨s0, s1, s2, s3, s4, s5, s6, s7, s8, s9⟩ := hS; go_simp⟩) trivial hS0 ?_
          go_simp
          refine anyT_all (rs := [18]) (by kernel_rfl) (by simp) ?_
          refine all_one (anyT_step rfl fun K' hK => ?_)
          go_simp
          refine hK.out _ _ trivial (fun _ => hS0) ?_
          clear hK K'
          go_simp
          refine anyT_all (rs := [19]) (by kernel_rfl) (by simp) ?_
          refine all_one (anyT_step rfl fun K' hK => ?_)
          go_simp
          refine hK.out _ _ trivial (fun _ => hS1) ?_
          clear hK K'
          go_simp
          refine anyT_all (rs := [20]) (by kernel_rfl) (by simp) ?_
          refine all_one (anyT_step rfl fun K' hK => ?_)
          refine step_run (by rfl) _ _ (by rfl) (by go_simp) (by go_simp) _ (by rfl) hr6 ?_
          refine hK.out _ _ trivial (fun _ => hS2) ?_
          clear hK K'
          go_simp
          refine anyT_all (rs := [21]) (by kernel_rfl) (by simp) ?_
          refine all_one (anyT_step rfl fun K' hK => ?_)
          go_simp
          refine hK.out _ _ trivial (fun _ => hS2) ?_
          clear hK K'
          go_simp
          refine anyT_all (rs := [22]) (by kernel_rfl) (by simp) ?_
          refine all_one (anyT_step rfl fun K' hK => ?_)
          go_simp
          refine hK.out _ _ trivial (early_not (t := 22) (by simp) (by kernel_rfl)) ?_
          clear hK K'
          refine anyT_done (by kernel_rfl) ?_ _
          go_wp2
          go_roundg (P - (q + 1))
          case measure => have := HMQ.out; omega
          case rel =>
            have e1 : togP L bs k ++ plcsOf s x Q (bs.getD k false) (q + 1) = togP L bs k ++ plcsOf s x Q (bs.getD k false) q ++ [(⟨S, s.follow.getD q [], Q, lq, lu⟩ : Plc)] := by
              rw [plcsOf, plcOf, HS.out, HLQ.out, HLU.out, List.append_assoc]
            exact ⟨q + 1, _, by go_num, by omega, rfl, by rw [e1]; exact HAL.out.grewP G6.out H6.out, has_setCell _ HXO6.out (fun e => n2 e)⟩
        · have hqP' : q = P := by omega
          subst hqP'
          have hQ256 := hP256
          have hbe := HTQ.out.bel.size
          have p1 : wi.cell? ⟨wo.heap.size, 1, none⟩ = some (.slice A2 F c2) := cell_of_row wi wo.heap.size 1 _ _ (0, 0) HXQ.out
          have hni := HNI.out.below HTQ.out.bel
          go_wp2
          go_loopg [61] F (fun m i wj => ∃ (p : Nat) (u : Value), i = .int .i64 (p : Int) ∧ p ≤ F ∧ m = F - p ∧ Tog w wj lam (.slice Av (Q + q) cv) u (togP L bs k ++ plcsOf s x Q (bs.getD k false) q) (togF L bs k ++ (x.first.take p).map (Q + ·)))
          case atStart => exact ⟨0, _, by first | rfl | trivial, Nat.zero_le _, by first | rfl | trivial, by rw [List.take_zero, List.map_nil, List.append_nil]; exact HTQ.out⟩
          case round =>
            obtain ⟨p, u, rfl, hp, hmp, htp⟩ := hrel
            generalize wr = wj at *
            have HMP := Lib.hid hmp
            have HTP := Lib.hid htp
            obtain ⟨Au, cu, hfu⟩ := htp.fst.form
            obtain ⟨M, hM⟩ : ∃ M, (ns (togF L bs k ++ (x.first.take p).map (Q + ·))).length = M := ⟨_, rfl⟩
            rw [hM] at hfu
            subst hfu
            have HM := Lib.hid hM
            clear hmp htp hM
            by_cases hpF : p < F
            · have hpx : p < x.first.length := by rw [HFF.out]; exact hpF
              have hnj := HNI.out.below HTP.out.bel
              obtain ⟨g2, c2', e2, _, hg2, hy⟩ := hnj.first.at p (by rw [ns_len]; exact hpx)
              rw [ns_len, HFF.out] at e2
              simp only [Value.slice.injEq] at e2
              obtain ⟨rfl, -, rfl⟩ := e2
              obtain ⟨y, hyx⟩ : ∃ y, x.first[p]'hpx = y := ⟨_, rfl⟩
              have hyn : (ns x.first)[p]'(by rw [ns_len]; exact hpx) = (y : Int) := by simp [ns, hyx]
              rw [hyn] at hy
              have hyP : y < q := by
                have := HI.out s x (List.mem_of_getElem? HSX.out) y (by rw [← hyx]; exact List.getElem_mem _)
                rw [HPP.out] at this
                exact this
              have HYX := Lib.hid hyx
              have hp0 : (0 : Int) ≤ (p : Int) := by omega
              have hp1 : (p : Int) < (F : Int) := by omega
              have hQk : Q ≤ 64 * 256 := by
                have h1 := HLP.out k (by omega)
                have h2 := HQ.out
                have h4 : k * 256 ≤ 64 * 256 := Nat.mul_le_mul_right _ (by omega)
                omega
              have hMM : M ≤ 64 * 256 + 256 := by
                have h1 := HLF.out k (by omega)
                have h2 := HM.out
                have h4 : k * 256 ≤ 64 * 256 := Nat.mul_le_mul_right _ (by omega)
                rw [ns_len, List.length_append, List.length_map, List.length_take] at h2
                omega
              have t1 : wj.cell? ⟨w.heap.size + 1, 1, none⟩ = some (.slice Au M cu) := cell_of_row wj (w.heap.size + 1) 1 _ _ (0, 0) HTP.out.box
              have hszj := HTP.out.size
              have hal := HTP.out.alloc (.cells #[.int .i64 ((Q : Int) + (y : Int))] 3)
              have hne : some (w.heap.size + 1) ≠ (Value.slice Au M cu).ownBlock := fun e => by
                have := (HTP.out.fst.in e.symm).1
                omega
              have e2 : ns (togF L bs k ++ (x.first.take (p + 1)).map (Q + ·)) = ns (togF L bs k ++ (x.first.take p).map (Q + ·)) ++ [(Q : Int) + (y : Int)] := by
                rw [List.take_succ_eq_append_getElem hpx, hyx, List.map_append, ← List.append_assoc, ns_app]
                simp [ns]
              have HAL := Lib.hid hal
              have HNE := Lib.hid hne
              have HE2 := Lib.hid e2
              clear hni hnj hyn hyx p1 hal hne e2
              go_wp2_with (first
                | (at_builtin; refine wpList_ints rfl _ _ (by rfl) (by rfl) (by rfl) HAL.out.fst (ints_newT wj ((Q : Int) + (y : Int))) (by have := HM.out; simp only [List.length_cons, List.length_nil]; omega) (by simp; omega) ?_; intro v6 w6 i6 g6 o6; have hbx6 := has_grown g6 HAL.out.box HNE.out; obtain ⟨A6, n6, c6, rfl⟩ := i6.form3; have t6 : w6.cell? ⟨w.heap.size + 1, 1, none⟩ = some (.slice Au M cu) := cell_of_row w6 (w.heap.size + 1) 1 _ _ (0, 0) hbx6; have f6 := frozen_of_row w6 (w.heap.size + 1) 1 _ _ hbx6; have I6 := Lib.hid i6; have G6 := Lib.hid g6; clear i6 g6 o6 hbx6)
                | fail)
              go_roundg (F - (p + 1))
              case measure => have := HMP.out; omega
              case rel => exact ⟨p + 1, _, by go_num, by omega, rfl, HAL.out.grewF G6.out (by rw [HE2.out]; exact I6.out)⟩
            · have hpF' : p = F := by omega
              have hx1 : L.getD k lx0 = (s, x) := by rw [List.getD_eq_getElem?_getD, HSX.out]; rfl
              have e3 : togP L bs (k + 1) = togP L bs k ++ plcsOf s x Q (bs.getD k false) q := by rw [togP, hx1, HQ.out, HPP.out]
              have e4 : togF L bs (k + 1) = togF L bs k ++ (x.first.take p).map (Q + ·) := by rw [togF, hx1, HQ.out, hpF', ← HFF.out, List.take_length]
              have HE3 := Lib.hid e3
              have HE4 := Lib.hid e4
              clear hx1 e3 e4 hni p1
              go_wp2
              go_roundg (N - (k + 1))
              case measure => have := HMK.out; omega
              case rel => exact ⟨k + 1, _, _, by go_num, by omega, rfl, by rw [HE3.out, HE4.out]; exact HTP.out⟩
    · have hkn : k = N := by omega
      subst hkn
      have d0 : wo.cell? ⟨w.heap.size, 0, none⟩ = some (.slice none 0 0) := cell_of_row wo w.heap.size 0 _ _ (0, 0) HT.out.res
      have d1 : wo.cell? ⟨w.heap.size, 1, none⟩ = some (.slice none 0 0) := cell_of_row wo w.heap.size 1 _ _ (0, 0) HT.out.res
      have d2 : wo.cell? ⟨w.heap.size, 2, none⟩ = some (.int .i64 0) := cell_of_row wo w.heap.size 2 _ _ (0, 0) HT.out.res
      have f0 := frozen_of_row wo w.heap.size 0 _ _ HT.out.res
      have f1 := frozen_of_row wo w.heap.size 1 _ _ HT.out.res
      have f2 := frozen_of_row wo w.heap.size 2 _ _ HT.out.res
      go_wp2
      obtain ⟨q0, q1, q2, q3, q4⟩ := HT.out.fin
      refine ret_rls (x := 6) rfl rfl rfl q0 ⟨_, _, _, rfl, q4, q1, q2, q3⟩
end Go.Proofs.Ytnkopcmkanibhaa

/-
  Rules' places that are read, at a later time. Laws for other texts; no statement of its own.
-/
namespace Go.Proofs.Ytnkopcmkanibhaa
open Go Go.RowKit

theorem NfaIn.wider {w : World} {B B' gm : Nat} {vs v1 vf : Value} {s : Lay} {x : Str} (h : NfaIn w B vs v1 gm vf s x) (hB : B ≤ B') : NfaIn w B' vs v1 gm vf s x where
  sets := fun p hp => by obtain ⟨g, c, e, hg, hc⟩ := h.sets p hp; exact ⟨g, c, e, by omega, hc⟩
  first := h.first
  firstB := fun b e => by have := h.firstB b e; omega
  last := h.last
  lastB := by have := h.lastB; omega
  fols := fun p hp => by obtain ⟨g, c, v, e, hg, hc, hi, hv⟩ := h.fols p hp; exact ⟨g, c, v, e, by omega, hc, hi, fun b e => by have := hv b e; omega⟩
theorem RdNfas.stays {w w' : World} {A : Option Addr} {L : List (Lay × Str)} (h : RdNfas w w.heap.size A L) (hb : Below w.heap.size w w') : RdNfas w' w'.heap.size A L := fun i s x e => by
  obtain ⟨g, off, A1, m1, c1, A2, m2, c2, gm, A3, m3, c3, h1, h2, h3, h4, h5, h6, h7⟩ := (h.below hb) i s x e
  exact ⟨g, off, A1, m1, c1, A2, m2, c2, gm, A3, m3, c3, h1, Nat.lt_of_lt_of_le h2 hb.size, h3, h4, h5, h6, h7.wider hb.size⟩
end Go.Proofs.Ytnkopcmkanibhaa

/-
  moore: Build. Contracts for other texts; no statement of its own.
-/
namespace Go.Proofs.Ytnkopcmkanibhaa
open Go Go.RowKit
attribute [local go_sem ↓] run_stoE

def clsOf (L : List (Lay × Str)) (bs : List Bool) : Nat → Nat := numK (keyL ((togP L bs L.length).map Plc.set))
def cntOf (L : List (Lay × Str)) (bs : List Bool) : Nat := cntK (keyL ((togP L bs L.length).map Plc.set)) 256
def srchOf (L : List (Lay × Str)) (bs : List Bool) (lam most : Nat) : Option (List Sta × List (List Nat)) := buildS (stepC (RR L bs lam) (clsOf L bs)) most (cntOf L bs) (most + 1) 0 [[]] []
def errV (c : Int) : Value := .iface 88 (.int .i64 c)
def zeroM : Array Value := machC (fun _ => 0) 0 (.slice none 0 0) (.slice none 0 0)
/-- What Build tells of a search. -/
def RetSrch (w : World) (L : List (Lay × Str)) (bs : List Bool) (lam : Nat) (o : Option (List Sta × List (List Nat))) (e : Ending) (w' : World) : Prop := match o with
  | none => e = .returned (.tuple #[.agg zeroM, errV 11])
  | some (ss, rows) => ∃ vN vO O, e = .returned (.tuple #[.agg (machC (clsOf L bs) (cntOf L bs) vN vO), .nilIface]) ∧ Nxt w' w.heap.size O vN rows ∧ Ots w' w.heap.size O vO (ss.map fun s => mOutP (RR L bs lam) s (0, 0))
/-- What Build tells. -/
def RetMB (w : World) (L : List (Lay × Str)) (bs : List Bool) (lam most : Int) (e : Ending) (w' : World) : Prop :=
  Below w.heap.size w w' ∧
  if bs.length ≠ L.length ∨ lam < 1 ∨ 32 < lam ∨ most < 1 ∨ 1000 < most then e = .returned (.tuple #[.agg zeroM, errV 1]) else
  RetSrch w L bs lam.toNat (srchOf L bs lam.toNat most.toNat) e w'

theorem Try.infoIntB : (Try.prog.info? 3).map (fun i => (i.zero, i.size, i.bytes)) = some (some (.int .i64 0), 1, 8) := by kernel_rfl
theorem known_new (w : World) : Known ((w.alloc (.map #[] 0)).alloc (.cells #[.slice none 0 0, .map (some w.heap.size)] 100)) (fun b => w.heap.size ≤ b ∧ b < w.heap.size + 2) (w.heap.size + 1) [] := by
  refine ⟨⟨.slice none 0 0, w.heap.size, [], .map [], has_new _ _ _ _ (by simp), rfl, World.ownsRow_nil _ _ _ 1, fun i v s e1 e2 => by simp at e1, (World.ownsMap_made w Try.prog 9 _).alloc _, MapIs.nil, by omega, by omega, fun b e => (by cases e), fun v hv => by simp at hv⟩, fun b hb => by simp; omega, by simp⟩
theorem bs_new {w7 w : World} {gm C : Nat} {F : Nat → Nat} (hlt : gm < w.heap.size) (h : BoxM w gm 38 F C (.slice none 0 0) (.slice none 0 0)) :
    BS w ((w.alloc (.map #[] 0)).alloc (.cells #[.slice none 0 0, .map (some w.heap.size)] 100)) gm (w.heap.size + 1) (fun b => w.heap.size ≤ b ∧ b < w.heap.size + 2) (fun _ => False) F C (.slice none 0 0) (.slice none 0 0) (.slice none 0 0) [] [] [] [] :=
  ⟨((Kept.refl _ w).alloc _).alloc _, hlt, h.stays (((Below.refl _ _).alloc (Nat.le_refl _) _).alloc (by simp) _), Nxt.nil _ _ _, Ots.nil _ _ _, fun b e => e.elim, known_new w, fun b e => e.1, Wds.nil _ _, fun b e => (by cases e), fun b e => (by cases e), fun b e => e.elim⟩

set_option maxRecDepth 20000 in
set_option maxHeartbeats 4000000 in
theorem mbuild_p {w : World} {A B : Option Addr} {ca cb : Nat} {L : List (Lay × Str)} {bs : List Bool} {lam most : Int} (h : RdNfas w w.heap.size A L) (hb : RdBo w B bs) (hlam : -9223372036854775808 ≤ lam ∧ lam ≤ 9223372036854775807) (hmost : -9223372036854775808 ≤ most ∧ most ≤ 9223372036854775807) (hL : ∀ s x, (s, x) ∈ L → OkLay s x) (hn : L.length ≤ 64) (hbn : bs.length ≤ 1000) :
    Calls Try.prog 11 #[.slice A L.length ca, .slice B bs.length cb, .int .i64 lam, .int .i64 most] w (RetMB w L bs lam most) := by
  have hz38 : ∀ w : World, Sem.run Try.prog (zeroValue 38) w = .ok (.agg zeroM) w := fun _ => by kernel_rfl
  obtain ⟨N, hN⟩ : ∃ N, L.length = N := ⟨_, rfl⟩
  obtain ⟨M, hM⟩ : ∃ M, bs.length = M := ⟨_, rfl⟩
  unfold RetMB
  rw [hN, hM]
  have bx0 := BoxM.new w 38 (fun _ => 0) 0 (.slice none 0 0) (.slice none 0 0)
  have hB0 : Below w.heap.size w (w.alloc (.cells zeroM 38)) := (Below.refl _ _).alloc (Nat.le_refl _) _
  have HBX0 := Lib.hid bx0
  have HB0 := Lib.hid hB0

  by_cases hbad : M ≠ N ∨ lam < 1 ∨ 32 < lam ∨ most < 1 ∨ 1000 < most
  · simp only [if_pos hbad]
    rcases (show ¬ (M : Int) = (N : Int) ∨ ((M : Int) = (N : Int) ∧ lam < 1) ∨ ((M : Int) = (N : Int) ∧ ¬ lam < 1 ∧ 32 < lam) ∨ ((M : Int) = (N : Int) ∧ ¬ lam < 1 ∧ ¬ 32 < lam ∧ most < 1) ∨ ((M : Int) = (N : Int) ∧ ¬ lam < 1 ∧ ¬ 32 < lam ∧ ¬ most < 1 ∧ 1000 < most) by omega) with d1 | ⟨d1, d2⟩ | ⟨d1, d2, d3⟩ | ⟨d1, d2, d3, d4⟩ | ⟨d1, d2, d3, d4, d5⟩
    all_goals
      have hq : ((M : Int) == (N : Int)) = decide ((M : Int) = (N : Int)) := rfl
      simp only [d1, decide_true, decide_false] at hq
      clear hN hM h hb hbad bx0 hB0
      go_enter Try.func11, Try.ntmps11
      go_wp2_with (first
        | (refine wpList_storeM (by rfl) _ _ (by rfl) (by rfl) (by rfl) Try.sizeMM rfl rfl HBX0.out ?_; intro hbx; have HBX1 := Lib.hid hbx; clear hbx; go_simp)
        | fail)
      exact bodyPost_ret (v := .tuple #[.agg zeroM, errV 1]) (results_mach Try.results11 rfl rfl Try.underlying38 rfl Try.sizeMM HBX1.out) rfl ⟨below_setRow HB0.out (Nat.le_refl _) _, rfl⟩
  simp only [if_neg hbad]
  obtain ⟨ln, rfl⟩ : ∃ k : Nat, lam = (k : Int) := ⟨lam.toNat, by omega⟩
  obtain ⟨mn, rfl⟩ : ∃ k : Nat, most = (k : Int) := ⟨most.toNat, by omega⟩
  rw [Int.toNat_natCast, Int.toNat_natCast]
  obtain rfl : M = N := by omega
  have d2 : ¬ (ln : Int) < 1 := by omega
  have d3 : ¬ (32 : Int) < (ln : Int) := by omega
  have d4 : ¬ (mn : Int) < 1 := by omega
  have d5 : ¬ (1000 : Int) < (mn : Int) := by omega
  have hV := tog_valid (bs := bs) hL hn (lam := ln) ⟨by omega, by omega⟩
  have htg := fun (W : World) (hW : Below w.heap.size w W) => together_p (ca := ca) (cb := cb) (lam := ln) (h.stays hW) (hb.stays hW) (by omega) hn (fun s x e => (hL s x e).sets) (fun s x e => (hL s x e).firstN) (fun s x e => (hL s x e).first)
  unfold RetTog at htg
  rw [hN, hM] at htg
  have HTG := Lib.hid htg
  obtain ⟨R, hR⟩ : ∃ R, RR L bs ln = R := ⟨_, rfl⟩
  have hRp : togP L bs M = R.places := by rw [← hR, ← hN]; rfl
  have hRf : togF L bs M = R.first := by rw [← hR, ← hN]; rfl
  have hRl : R.lam = ln := by rw [← hR]; rfl
  rw [hRp, hRf] at HTG
  have HV : Hid (Valid R) := Lib.hid (by rw [← hR]; exact hV)
  obtain ⟨F, hF⟩ : ∃ F, clsOf L bs = F := ⟨_, rfl⟩
  obtain ⟨C, hC⟩ : ∃ C, cntOf L bs = C := ⟨_, rfl⟩
  have hFk : F = numK (keyL (R.places.map Plc.set)) := by rw [← hF, ← hRp, ← hN]; rfl
  have hCk : C = cntK (keyL (R.places.map Plc.set)) 256 := by rw [← hC, ← hRp, ← hN]; rfl
  have hFC : ∀ b, b < 256 → F b < C := fun b hb => by rw [hFk, hCk]; exact numK_bound _ hb
  have hC256 : C ≤ 256 := by rw [hCk]; exact cntK_le _ _
  have HFC := Lib.hid hFC
  have HFK := Lib.hid hFk
  have HCK := Lib.hid hCk
  have HSR := Lib.hid (show srchOf L bs ln mn = buildS (stepC R F) mn C (mn + 1) 0 [[]] [] by unfold srchOf; rw [hF, hC, hR])
  rw [HSR.out]
  obtain ⟨TGT, hTGT⟩ : ∃ t, buildS (stepC R F) mn C (mn + 1) 0 [[]] [] = t := ⟨_, rfl⟩
  rw [hTGT]
  have HTGT := Lib.hid hTGT
  clear hTGT
  have HRL := Lib.hid hRl
  have HCF := Lib.hid (show clsOf L bs = F ∧ cntOf L bs = C ∧ RR L bs ln = R from ⟨hF, hC, hR⟩)
  clear hN hM h hb hbad bx0 hB0 hV htg hR hRp hRf hRl hF hC hFk hCk hFC HSR hL hn
  go_enter Try.func11, Try.ntmps11
  go_upto_region 4 with (first
    | (go_at_call 35; (with_reducible refine (HTG.out _ HB0.out).mono ?_); rintro e w1 ⟨v, v1, C1, rfl, hC1, hp1, hf1, hb1⟩; obtain ⟨Ap, cp, hfp, _⟩ := hp1.form; obtain ⟨Af, cf, hff⟩ := hf1.form; subst hfp hff; have hn1 : HasO (w1.alloc (.cells #[.slice none 0 0, .slice none 0 0, .int .i64 0] 91)) w1.heap.size (.cells #[.slice none 0 0, .slice none 0 0, .int .i64 0] 91 (0, 0)) := has_new _ _ _ _ rfl; have hst := sto_of (ty := 91) (cs := #[.slice Ap R.places.length cp, .slice Af (ns R.first).length cf, .int .i64 (ln : Int)]) hn1 (by kernel_rfl) rfl (by simp [Value.oneCell']); have hy := has_sto (cs := #[.slice Ap R.places.length cp, .slice Af (ns R.first).length cf, .int .i64 (ln : Int)]) hn1; have HN1 := Lib.hid hn1; have HY := Lib.hid hy; have HC1 := Lib.hid hC1; have HP1 := Lib.hid hp1; have HF1 := Lib.hid hf1; have HB1 := Lib.hid (gro HB0.out hb1); have HBX1 := Lib.hid (HBX0.out.stays hb1); clear hn1 hy hC1 hp1 hf1 hb1)
    | fail)
  have hbs : Below w1.heap.size w1 (stoW (w1.alloc (.cells #[.slice none 0 0, .slice none 0 0, .int .i64 0] 91)) (.pointer (some ⟨w1.heap.size, 0, none⟩)) (.agg #[.slice Ap R.places.length cp, .slice Af (ns R.first).length cf, .int .i64 (ln : Int)])) := below_sto ((Below.refl _ _).alloc (Nat.le_refl _) _) (Nat.le_refl _)
  have hR2 : RulesIn (stoW (w1.alloc (.cells #[.slice none 0 0, .slice none 0 0, .int .i64 0] 91)) (.pointer (some ⟨w1.heap.size, 0, none⟩)) (.agg #[.slice Ap R.places.length cp, .slice Af (ns R.first).length cf, .int .i64 (ln : Int)])) w1.heap.size R := by
    have := (HP1.out.stays HC1.out hbs).rules (HF1.out.stays hbs) (gr := w1.heap.size) (lam := ln) HY.out
    have e : (⟨R.places, R.first, ln⟩ : RSt) = R := by rw [← HRL.out]
    rw [e] at this
    exact this
  clear hst
  generalize stoW (w1.alloc (.cells #[.slice none 0 0, .slice none 0 0, .int .i64 0] 91)) (.pointer (some ⟨w1.heap.size, 0, none⟩)) (.agg #[.slice Ap R.places.length cp, .slice Af (ns R.first).length cf, .int .i64 (ln : Int)]) = w2 at *
  have HR2 := Lib.hid hR2
  have HB2 := Lib.hid (gro HB1.out hbs)
  have HBX2 := Lib.hid (HBX1.out.stays hbs)
  have HS2 := Lib.hid (show w1.heap.size < w2.heap.size from lt_of_some HY.out)
  clear hR2 hbs HY HN1 HP1 HF1 HC1 HTG HBX1 HBX0
  obtain ⟨gr, hgr⟩ : ∃ gr, w1.heap.size = gr := ⟨_, rfl⟩
  rw [hgr] at HR2 HS2 ⊢
  have bx3 := BoxM.new w2 38 (fun _ => 0) 0 (.slice none 0 0) (.slice none 0 0)
  have HB3 : Hid (Below w2.heap.size w2 (w2.alloc (.cells zeroM 38))) := Lib.hid ((Below.refl _ _).alloc (Nat.le_refl _) _)
  have HBX3 := Lib.hid bx3
  have hms := msets_p (HR2.out.stays HB3.out) HV.out.P
  have HMS := Lib.hid hms
  have hco := fun (W : World) (A : Option Addr) (c : Nat) (hr : RdS W W.heap.size A (R.places.map Plc.set)) => classof_p W A c _ hr (by rw [List.length_map]; have := HV.out.P; omega)
  unfold RetCls at hco
  rw [← HFK.out, ← HCK.out, List.length_map] at hco
  have HCO := Lib.hid hco
  have HME := Lib.hid (fun W : World => meach_p (w := W) F C (by omega) HFC.out)
  clear bx3 hms hco hgr
  obtain ⟨P, hP⟩ : ∃ P, R.places.length = P := ⟨_, rfl⟩
  rw [hP] at HMS HCO
  go_upto_region 5 with fail
  go_upto_region 6 with (first
    | (go_at_call 37; (with_reducible refine HMS.out.mono ?_); rintro e w4 ⟨g4, rfl, s4, b4⟩; have HB4 := Lib.hid (gro HB3.out b4); have HBX4 := Lib.hid (HBX3.out.stays b4); have HS4 := Lib.hid s4; clear s4 b4)
    | (go_at_call 36; (with_reducible refine (HCO.out _ _ _ HS4.out.rd).mono ?_); rintro e w5 ⟨rfl, b5⟩; have HB5 := Lib.hid (gro HB4.out b5); have HBX5 := Lib.hid (HBX4.out.stays b5); clear b5)
    | (refine wpList_layA (by rfl) _ _ (by rfl) (by rfl) (by rfl) HBX5.out ?_; intro w6 hb6 hk6 hs6; have y6 := hb6.num; have f6 := hb6.frozen 256; have HBX6 := Lib.hid hb6; have HK6 := Lib.hid hk6; have HS6 := Lib.hid hs6; clear hb6 hk6 hs6; go_simp)
    | fail)
  have hb7 : BoxM (w6.setCell ⟨w2.heap.size, 256, none⟩ (.int .i64 (C : Int))) w2.heap.size 38 F (C : Int) (.slice none 0 0) (.slice none 0 0) := HBX6.out.setNum _
  have hk7 : Below w2.heap.size w2 (w6.setCell ⟨w2.heap.size, 256, none⟩ (.int .i64 (C : Int))) := Below.setCell (p := ⟨w2.heap.size, 256, none⟩) (HB5.out.trans (HK6.out.below HB5.out.size fun b e => by omega)) (Nat.le_refl _) _
  generalize w6.setCell ⟨w2.heap.size, 256, none⟩ (.int .i64 (C : Int)) = w7 at *
  have HBX7 := Lib.hid hb7
  have HB7 := Lib.hid hk7
  have y7 := hb7.num
  clear hb7 hk7 y6 f6 HBX6 HK6 HS6 HB5 HBX5 HS4 HBX4 HB4 HMS HCO HB3 HBX3
  have hmm := @run_makeMap Try.prog
  go_upto_region 8 with (first
    | (refine wpList_loadA (by rfl) _ (by rfl) (by rfl) HBX7.out ?_; go_simp)
    | (go_at_call 38; (with_reducible refine (HME.out _).mono ?_); rintro e w8 ⟨g8, rfl, s8, b8⟩; have HB8 := Lib.hid (gro HB7.out b8); have HBX8 := Lib.hid (HBX7.out.stays b8); have HS8 := Lib.hid s8; clear s8 b8)
    | fail)
  have hb9 := bs_new (w7 := w7) HBX8.out.lt HBX8.out
  have hmt := mmeet_p hb9.kn (Wds.nil _ 0) (fun b e => (by cases e)) (show okSt [] from fun x hx => by simp at hx) (by simp) (by simp)
  have HB9 := Lib.hid hb9
  have HMT := Lib.hid hmt
  have hru8 := HR2.out.stays HB8.out
  have hru : ∀ W, Kept (fun b => b = w2.heap.size) w8 W → RulesIn W gr R := fun W k => hru8.kept k fun b e hb => by
    subst e
    exact ⟨_, _, HBX8.out, by decide, by decide, by decide⟩
  have hres : ∀ W, Kept (fun b => b = w2.heap.size) w8 W → BoxM W w.heap.size 38 (fun _ => 0) 0 (.slice none 0 0) (.slice none 0 0) := fun W k => (HBX2.out.stays HB8.out).kept k fun e => by have := HBX2.out.lt; omega
  have hsam : ∀ W, Kept (fun b => b = w2.heap.size) w8 W → ∀ c, c < C → W.cell? ⟨g8, c, none⟩ = some (.int .u8 (lastB F 256 c : Nat)) := fun W k c hc => by
    have h8 := HS8.out
    refine k.cell (a := ⟨g8, c, none⟩) ((World.ownsRow.cellAt h8 c (by omega)).trans (eachV_get C _ c hc)) fun e => ?_
    have h1 := (World.ownsRow.lt h8 g8 rfl).1
    have h2 := HBX7.out.lt
    have e' : g8 = w2.heap.size := e
    omega
  have HRU := Lib.hid hru
  have HRES := Lib.hid hres
  have HSAM := Lib.hid hsam
  have HGM := Lib.hid (show w.heap.size < w2.heap.size from HBX2.out.lt)
  clear hb9 hmt hru hres hsam hru8 y7 HBX7 HB7 HS8 HR2 HBX2
  generalize hw9 : (w8.alloc (.map #[] 0)).alloc (.cells #[.slice none 0 0, .map (some w8.heap.size)] 100) = w9 at *
  obtain ⟨gs, hgs⟩ : ∃ gs, w8.heap.size + 1 = gs := ⟨_, rfl⟩
  rw [hgs] at HMT HB9 ⊢
  go_wp2_with (first
    | (go_at_call 39; (with_reducible refine HMT.out.mono ?_); rintro e w10 ⟨i10, ss10, K10, rfl, hi10, hs10, hn10, hK10, hk10⟩; have hss : ss10 = [[]] := hs10.elim (fun h => by rw [h] at hi10; simp at hi10) (fun h => by simpa using h.2); subst hss; have HB10 := Lib.hid (HB9.out.met hn10 hk10 hK10); clear hi10 hs10 hn10 hK10 hk10)
    | fail)
  clear HMT HB9 hw9 w9
  go_loopg [14, 15] (mn + 1) (fun mm vr i wr => ∃ (k : Nat) (K O : Nat → Prop) (vN vO : Value) (rows : List (List Nat)) (ss : List Sta) (l0 : Sta), i = .int .i64 (k : Int) ∧ k ≤ ss.length ∧ mm = mn + 1 - k ∧ BS w8 wr w2.heap.size gs K O F C vN vO vr rows ((ss.take k).map fun s => mOutP R s (0, 0)) ss l0 ∧ (∀ s ∈ ss, May R s ∧ s.length ≤ 100000) ∧ ss.length ≤ mn ∧ rows.length = k ∧ buildS (stepC R F) mn C (mn + 1 - k) k ss rows = TGT)
  case atStart => exact ⟨0, K10, _, _, _, _, _, _, by first | rfl | trivial, by simp, by first | rfl | trivial, HB10.out, fun s hs => by simp at hs; subst hs; exact ⟨fun x hx => by simp at hx, by simp⟩, by simp; omega, rfl, HTGT.out⟩
  case round =>
    obtain ⟨k, K, O, vN, vO, rows, ss, l0, rfl, hk, hmk, hbs, hmay, hsl, hrl, htg⟩ := hrel
    generalize wr = wo at *
    have HMK := Lib.hid hmk
    have HBS := Lib.hid hbs
    have HMAY := Lib.hid hmay
    have HTG := Lib.hid htg
    have HRW := Lib.hid hrl
    obtain ⟨va, bm, vs, D, q1, q2, q3, q4, _⟩ := hbs.kn.mem
    obtain ⟨S, hS⟩ : ∃ S, ss.length = S := ⟨_, rfl⟩
    rw [hS] at q2 q3 hk hsl
    have HS := Lib.hid hS
    obtain ⟨Aa, ca', hfa⟩ := own_formM q3
    subst hfa
    have p0 : wo.cell? ⟨gs, 0, none⟩ = some (.slice Aa S ca') := cell_of_row wo gs 0 _ _ (0, 0) q1
    have hmS : (mn : Int) + 1 ≤ 2000 := by omega
    have hcls := hbs.box.num
    clear hmk hbs hmay htg hrl hS
    by_cases hkS : k < S
    · obtain ⟨s, hs⟩ : ∃ s, ss[k]? = some s := ⟨_, List.getElem?_eq_getElem (by rw [HS.out]; exact hkS)⟩
      obtain ⟨vi, hvi⟩ : ∃ vi, vs[k]? = some vi := ⟨_, List.getElem?_eq_getElem (by omega)⟩
      have hws := q4 k vi s hvi hs
      obtain ⟨ga, rfl⟩ : ∃ ga, Aa = some ⟨ga, 0, none⟩ := by
        rcases q3.2 with ⟨_, h0⟩ | ⟨g, cap, cur, e, _⟩
        · omega
        · injection e with e1; exact ⟨g, e1⟩
      have p1 : wo.cell? ⟨ga, k, none⟩ = some vi := (World.ownsRow.cellAt q3 k (by omega)).trans hvi
      obtain ⟨hms, hml⟩ := HMAY.out s (List.mem_of_getElem? hs)
      have hah := mahead_p (HRU.out wo HBS.out.keep) HV.out hws hms hml
      have HAH := Lib.hid hah
      obtain ⟨i0, hi, hi0, hi1, hi2⟩ := info_parts Try.infoIntB
      have hmkr := fun (W : World) (hW : w8.heap.size ≤ W.heap.size) => run_make_full (P := Try.prog) W w8.heap.size 59 3 i0 _ 1 Try.underlying59 hi hi0 hi1 .i64 .i64 C (by rw [hi2]; omega) (by unfold maxLen; omega) hW
      have HMKR := Lib.hid hmkr
      obtain ⟨Av, cv, hfv⟩ := hws.form
      subst hfv
      have i1 : (0 : Int) ≤ (k : Int) := by omega
      have i2 : (k : Int) < (S : Int) := by omega
      clear hah hmkr q1 q2 q3 q4 hms hml hws hvi hi hi0 hi1 hi2
      go_upto_region 14 with (first
        | (go_at_call 40; (with_reducible refine HAH.out.mono ?_); rintro e w11 ⟨va1, rfl, h11, b11⟩; have HAW := Lib.hid h11; have B11 := Lib.hid b11; have hcls11 := cell_stays hcls b11; clear h11 b11)
        | fail)
      have hw11 : w8.heap.size ≤ w11.heap.size := Nat.le_trans HBS.out.keep.size B11.out.size
      obtain ⟨w12, hr12, ho12, hg12⟩ := HMKR.out w11 hw11
      have hb12 : Below w11.heap.size w11 w12 := (Below.refl _ _).grown hg12 (Nat.le_refl _) fun b e => by cases e
      have hxs : (madeCells (Value.int .i64 0).cells (C * 1)).toList = (ns (List.replicate C 0)).map (Value.int .i64) := by
        rw [Nat.mul_one]
        show (madeCells #[Value.int .i64 0] C).toList = _
        rw [toList_madeCells_one]
        simp [ns]
      rw [hxs] at ho12
      have his : IS w8 w12 w2.heap.size gs K O F C vN vO u14 rows ((ss.take k).map fun s => mOutP R s (0, 0)) ss l0 va1 (aheadL R s) w11.heap.size C (List.replicate C 0) := by
        have hk11 := HBS.out.keep.size
        have hlt := wds_in HAW.out
        refine ⟨(HBS.out.stays B11.out).stays hb12, own_stays (own_lower HAW.out hk11) hb12, fun b e k => ?_, fun b e e' => ?_, ?_, fun k => ?_, fun e => ?_, fun e => ?_, fun k => ?_⟩
        · have h1 := (hlt b e).1
          have h2 := HBS.out.kn.lt b k
          omega
        · have h1 := (hlt b e).1
          have h2 := (wds_in HBS.out.room b e').2
          omega
        · unfold Ints
          rw [ns_len, List.length_replicate]
          exact ho12
        · have h2 := HBS.out.kn.lt _ k
          have := B11.out.size
          omega
        · have h2 := (wds_in HBS.out.room _ e).2
          have := B11.out.size
          omega
        · have h2 := (hlt _ e).2
          omega
        · have h2 := (HBS.out.olt _ k).2
          have := B11.out.size
          omega
      have HIS := Lib.hid his
      have HMS := Lib.hid hs
      obtain ⟨gx, hgx⟩ : ∃ gx, w11.heap.size = gx := ⟨_, rfl⟩
      rw [hgx] at HIS hr12
      clear hxs ho12 hg12 his hs hgx hb12
      go_upto_region 16 with fail
      have HFA := Lib.hid (may_fits HV.out (fun x hx => ahead_may R HV.out s x hx : May R (aheadL R s)))
      have HLA := Lib.hid (Nat.le_trans (ahead_len R s) HV.out.P)
      have HMT := Lib.hid (fun j => step_may R HV.out F s j)
      have HLT := Lib.hid (fun j => Nat.le_trans (step_len R F s j) HV.out.P)
      have HSS := Lib.hid HS.out
      go_loopg [14, 80] C (fun mm vr c wr => ∃ (j : Nat) (K : Nat → Prop) (ss' : List Sta) (l0 : Sta) (row : List Nat), c = .int .i64 (j : Int) ∧ j ≤ C ∧ mm = C - j ∧ IS w8 wr w2.heap.size gs K O F C vN vO vr rows ((ss.take k).map fun s => mOutP R s (0, 0)) ss' l0 va1 (aheadL R s) gx C (row ++ List.replicate (C - j) 0) ∧ row.length = j ∧ (∀ s ∈ ss', May R s ∧ s.length ≤ 100000) ∧ ss'.length ≤ mn ∧ rowS (stepC R F s) mn (C - j) j ss' row = rowS (stepC R F s) mn C 0 ss [] ∧ ∃ z, ss' = ss ++ z)
      case atStart => exact ⟨0, K, ss, l0, [], by first | rfl | trivial, Nat.zero_le _, by first | rfl | trivial, HIS.out, rfl, HMAY.out, by rw [HS.out]; exact hsl, rfl, [], by simp⟩
      case round =>
        obtain ⟨j, K', ss', l1, row, rfl, hj, hmj, hin, hrow, hmay, hsl', hrs, hz⟩ := hrel
        have HMJ := Lib.hid hmj
        have HIN := Lib.hid hin
        have HRO := Lib.hid hrow
        have HMY := Lib.hid hmay
        have HRS := Lib.hid hrs
        have HZ := Lib.hid hz
        have HSL := Lib.hid hsl'
        clear hmj hrow hmay hrs hz hsl'
        by_cases hjC : j < C
        · have z1 := HSAM.out wr hin.bs.keep j hjC
          have hbl : lastB F 256 j ≤ 255 := lastB_255 F j
          have hby := mby_p (b := ((lastB F 256 j : Nat) : Int)) (HRU.out wr hin.bs.keep) hin.ah hin.bs.room hin.aR hin.bs.keep.size HFA.out HLA.out HV.out.P (by omega) (by omega)
          rw [Int.toNat_natCast] at hby
          obtain ⟨t, ht⟩ : ∃ t, stepC R F s j = t := ⟨_, rfl⟩
          rw [show (aheadL R s).filter (hasAt R (lastB F 256 j)) = t from ht] at hby
          have hmayt := HMT.out j
          have hlent := HLT.out j
          rw [ht] at hmayt hlent
          have hmeet := fun (W : World) (K1 : Nat → Prop) (D : Nat) (v : Value) (h1 : Known W K1 gs ss') (h2 : Wds W D v t) (h3 : ∀ b, v.ownBlock = some b → ¬ K1 b) => (mmeet_p h1 h2 h3 (may_ok HV.out hmayt) hlent (by have := HSL.out; omega)).mono fun e w' h => meet_is h h1.nodup
          obtain ⟨ix, hix⟩ : ∃ n, idxM (meetL ss' t) t = n := ⟨_, rfl⟩
          obtain ⟨sm, hsm⟩ : ∃ l, meetL ss' t = l := ⟨_, rfl⟩
          rw [hsm] at hix
          simp only [hsm, hix] at hmeet
          have hcj : C - j = (C - (j + 1)) + 1 := by omega
          have hro := HRS.out
          rw [hcj, rowS, ht, hsm, hix] at hro
          have hsmay : ∀ s ∈ sm, May R s ∧ s.length ≤ 100000 := by rw [← hsm]; exact meetL_all HMY.out ⟨hmayt, hlent⟩
          have hsmz : ∃ z, sm = ss ++ z := by
            obtain ⟨z, hz⟩ := HZ.out
            obtain ⟨z', hz'⟩ := meetL_pre ss' t
            exact ⟨z ++ z', by rw [← hsm, hz', hz, List.append_assoc]⟩
          have hsml : sm.length ≤ mn + 1 := by rw [← hsm]; have := meetL_le ss' t; have := HSL.out; omega
          obtain ⟨b, hb⟩ : ∃ b, lastB F 256 j = b := ⟨_, rfl⟩
          rw [hb] at z1 hbl hby
          have i3 : (0 : Int) ≤ (j : Int) := by omega
          have i4 : (j : Int) < (C : Int) := by omega
          have i4' : j < C := hjC
          have hngs : gs ≠ gx := fun e => by
            obtain ⟨va', bm', vs', D', y1, _⟩ := hin.bs.kn.mem
            obtain ⟨cur, y2⟩ := hin.row.kind (b := gx) rfl
            exact kind_apart y1 y2 (by decide) e
          have HBY := Lib.hid hby
          have HME2 := Lib.hid hmeet
          have HRO2 := Lib.hid hro
          have HSMAY := Lib.hid hsmay
          have HSMZ := Lib.hid hsmz
          have HSML := Lib.hid hsml
          obtain ⟨SL, hSL⟩ : ∃ n, sm.length = n := ⟨_, rfl⟩
          have HSL2 := Lib.hid hSL
          rw [hSL] at HSML HRO2
          have hsml2 := HSML.out
          clear hby hmeet hro hsmay hsmz hsml hin ht hmayt hlent hix hsm hb hSL hcj
          by_cases hbig : SL > mn
          · have HRO3 := Lib.hid (HRO2.out.symm.trans (if_pos hbig))
            have hbg : (mn : Int) < (SL : Int) := by omega
            clear hbig
            go_wp2_with (first
              | (go_at_call 41; (with_reducible refine HBY.out.mono ?_); rintro e w13 ⟨v13, rfl, h13, k13, n13⟩; have HI13 := Lib.hid (HIN.out.by' h13 k13 n13); clear h13 k13 n13)
              | (go_at_call 39; (with_reducible refine (HME2.out _ _ _ _ HI13.out.bs.kn HI13.out.bs.room HI13.out.bs.rK).mono ?_); rintro e w14 ⟨K14, rfl, n14, q14, k14⟩; have h14 := HI13.out.met n14 k14 q14; obtain ⟨va14, bm14, vs14, D14, u1, u2, u3, _⟩ := h14.bs.kn.mem; obtain ⟨A14, c14, hf14⟩ := own_formM u3; rw [HSL2.out] at hf14; subst hf14; have u4 : w14.cell? ⟨gs, 0, none⟩ = some (.slice A14 SL c14) := cell_of_row w14 gs 0 _ _ (0, 0) u1; obtain ⟨y14, x14, f14⟩ := h14.cell j i4'; have HI14 := Lib.hid h14; clear n14 q14 k14 u1 u2 u3 h14)
              | (refine wpList_storeM (by rfl) _ _ (by rfl) (by rfl) (by rfl) Try.sizeMM rfl rfl (HRES.out _ (((HI14.out.set j ix).bs.keep))) ?_; intro hbx; have HBX1 := Lib.hid hbx; clear hbx; go_simp)
              | fail)
            have hfin : TGT = none := by
              rw [← HTG.out, show mn + 1 - k = (mn - k) + 1 by omega, buildS, HMS.out]
              simp only
              rw [HRO3.out]
            subst hfin
            refine bodyPost_ret (v := .tuple #[.agg zeroM, errV 11]) (results_mach Try.results11 rfl rfl Try.underlying38 rfl Try.sizeMM HBX1.out) rfl ⟨below_setRow ((HB2.out.trans (HB8.out.mono HB2.out.size)).trans ((HI14.out.set j ix).bs.keep.below (Nat.le_trans HB2.out.size HB8.out.size) fun b e => by subst e; exact HB2.out.size)) (Nat.le_refl _) _, rfl⟩
          · have HRO3 := Lib.hid (HRO2.out.symm.trans (if_neg hbig))
            have hbg : ¬ (mn : Int) < (SL : Int) := by omega
            have hbg2 : SL ≤ mn := by omega
            clear hbig
            go_wp2_with (first
              | (go_at_call 41; (with_reducible refine HBY.out.mono ?_); rintro e w13 ⟨v13, rfl, h13, k13, n13⟩; have HI13 := Lib.hid (HIN.out.by' h13 k13 n13); clear h13 k13 n13)
              | (go_at_call 39; (with_reducible refine (HME2.out _ _ _ _ HI13.out.bs.kn HI13.out.bs.room HI13.out.bs.rK).mono ?_); rintro e w14 ⟨K14, rfl, n14, q14, k14⟩; have h14 := HI13.out.met n14 k14 q14; obtain ⟨va14, bm14, vs14, D14, u1, u2, u3, _⟩ := h14.bs.kn.mem; obtain ⟨A14, c14, hf14⟩ := own_formM u3; rw [HSL2.out] at hf14; subst hf14; have u4 : w14.cell? ⟨gs, 0, none⟩ = some (.slice A14 SL c14) := cell_of_row w14 gs 0 _ _ (0, 0) u1; obtain ⟨y14, x14, f14⟩ := h14.cell j i4'; have HI14 := Lib.hid h14; clear n14 q14 k14 u1 u2 u3 h14)
              | fail)
            go_roundg (C - (j + 1))
            case measure => have := HMJ.out; omega
            case rel =>
              have hi := HI14.out.set j ix
              have hx := set_next row C ix (by rw [HRO.out]; exact hjC)
              rw [HRO.out] at hx
              rw [hx] at hi
              exact ⟨j + 1, K14, sm, t, row ++ [ix], by go_num, by omega, rfl, hi, by simp [HRO.out], HSMAY.out, by rw [HSL2.out]; exact hbg2, HRO3.out.symm, HSMZ.out⟩
        · have hjC' : j = C := by omega
          subst hjC'
          generalize wr = wp at *
          rw [Nat.sub_self, List.replicate_zero, List.append_nil] at hin
          have hro := HRS.out
          rw [Nat.sub_self, rowS] at hro
          obtain ⟨z, hz⟩ := HZ.out
          have hsk : ss'[k]? = some s := by rw [hz, List.getElem?_append_left (by rw [HSS.out]; exact hkS)]; exact HMS.out
          have hkl : k < ss'.length := (List.getElem?_eq_some_iff.1 hsk).1
          have htk : (ss.take k).map (fun s => mOutP R s (0, 0)) ++ [mOutP R s (0, 0)] = (ss'.take (k + 1)).map fun s => mOutP R s (0, 0) := by
            rw [List.take_add_one, hsk, hz, List.take_append_of_le_length (by rw [HSS.out]; omega)]
            simp
          have htg : buildS (stepC R F) mn j (mn + 1 - (k + 1)) (k + 1) ss' (rows ++ [row]) = TGT := by
            rw [← HTG.out, show mn + 1 - k = (mn - k) + 1 by omega, show mn + 1 - (k + 1) = mn - k by omega, buildS, HMS.out]
            simp only
            rw [← hro]
          obtain ⟨vs, n1, n2, n3, n4⟩ := hin.bs.nxt.mem
          obtain ⟨va', bm', vs', D', q1, q2, q3, q4, _, _, kg, _, kv, k4⟩ := hin.bs.kn.mem
          obtain ⟨vi', hvi'⟩ : ∃ vi, vs'[k]? = some vi := ⟨_, List.getElem?_eq_getElem (by omega)⟩
          have hws' := q4 k vi' s hvi' hsk
          obtain ⟨Av', cv', hfv'⟩ := hws'.form
          subst hfv'
          obtain ⟨Aa', ca'', hfa'⟩ := own_formM q3
          subst hfa'
          obtain ⟨ga', rfl⟩ : ∃ ga, Aa' = some ⟨ga, 0, none⟩ := by
            rcases q3.2 with ⟨_, h0⟩ | ⟨g, cap, cur, e, _⟩
            · omega
            · injection e with e1; exact ⟨g, e1⟩
          obtain ⟨S', hS'⟩ : ∃ n, ss'.length = n := ⟨_, rfl⟩
          rw [hS'] at q3 hkl q2 q1
          obtain ⟨An, cn, hfn⟩ := hin.bs.nxt.form
          obtain ⟨Ao, co, hfo⟩ := hin.bs.ots.form
          subst hfn hfo
          obtain ⟨rn, hrn⟩ : ∃ n, rows.length = n := ⟨_, rfl⟩
          obtain ⟨on, hon⟩ : ∃ n, ((ss.take k).map fun s => mOutP R s (0, 0)).length = n := ⟨_, rfl⟩
          have hon' : on = k := by rw [← hon, List.length_map, List.length_take, HSS.out]; omega
          have hrn' : rn = k := by rw [← hrn]; exact HRW.out
          have HRN := Lib.hid hrn
          have HON := Lib.hid hon
          rw [hrn] at n2
          have n6 := hin.bs.ots.row
          rw [hrn, hon] at hin
          rw [hon] at n6
          have hOq : ∀ b, ((Value.slice An rn cn).ownBlock = some b ∨ (Value.slice Ao on co).ownBlock = some b) → O b := fun b e => e.elim (hin.bs.nxt.inO b) (hin.bs.ots.inO b)
          have c1 : wp.cell? ⟨gs, 0, none⟩ = some (.slice (some ⟨ga', 0, none⟩) S' ca'') := cell_of_row wp gs 0 _ _ (0, 0) q1
          have c2 : wp.cell? ⟨ga', k, none⟩ = some (.slice Av' s.length cv') := (World.ownsRow.cellAt q3 k (by omega)).trans hvi'
          have c3 := hin.bs.box.nxt
          have c4 := hin.bs.box.out
          have hkm : ∀ W, Kept (fun b => (Value.slice An rn cn).ownBlock = some b ∨ (Value.slice Ao on co).ownBlock = some b) wp W → Kept (fun b => b = w2.heap.size) w8 W := fun W kk => hin.bs.keep.trans kk fun b e => .inr (hin.bs.olt b (hOq b e)).1
          have hout := fun (W : World) (kk : Kept (fun b => (Value.slice An rn cn).ownBlock = some b ∨ (Value.slice Ao on co).ownBlock = some b) wp W) => mout_p (HRU.out W (hkm W kk)) (own_block hws' (fun b e hb => kk.block b hb fun q => hin.bs.oK b (hOq b q) (k4 _ (List.mem_of_getElem? hvi') b e)) : Wds W 0 (.slice Av' s.length cv') s) (may_fits HV.out (HMAY.out s (List.mem_of_getElem? HMS.out)).1) (HMAY.out s (List.mem_of_getElem? HMS.out)).2 HV.out.P
          have hgmq : ¬ ((Value.slice An rn cn).ownBlock = some w2.heap.size ∨ (Value.slice Ao on co).ownBlock = some w2.heap.size) := fun e => by have h1 := (hin.bs.olt _ (hOq _ e)).1; have h2 := hin.bs.gmlt; omega
          have hgk : ∀ b, K' b → ¬ b = w2.heap.size := fun b e e' => by have h1 := hin.bs.kge b e; have h2 := hin.bs.gmlt; omega
          have hc1 := fun (W : World) (kk : Kept (fun b => ((Value.slice An rn cn).ownBlock = some b ∨ (Value.slice Ao on co).ownBlock = some b) ∨ b = w2.heap.size) wp W) => kk.cell (a := ⟨gs, 0, none⟩) c1 (fun e => e.elim (fun e => hin.bs.oK gs (hOq gs e) kg) (hgk gs kg))
          have hc2 := fun (W : World) (kk : Kept (fun b => ((Value.slice An rn cn).ownBlock = some b ∨ (Value.slice Ao on co).ownBlock = some b) ∨ b = w2.heap.size) wp W) => kk.cell (a := ⟨ga', k, none⟩) c2 (fun e => e.elim (fun e => hin.bs.oK ga' (hOq ga' e) (kv ga' rfl)) (hgk ga' (kv ga' rfl)))
          have hc3 := fun (W : World) (kk : Kept (fun b => (Value.slice An rn cn).ownBlock = some b ∨ (Value.slice Ao on co).ownBlock = some b) wp W) => kk.cell (a := ⟨w2.heap.size, 257, none⟩) c3 hgmq
          have hc4 := fun (W : World) (kk : Kept (fun b => (Value.slice An rn cn).ownBlock = some b ∨ (Value.slice Ao on co).ownBlock = some b) wp W) => kk.cell (a := ⟨w2.heap.size, 258, none⟩) c4 hgmq
          have hfz := fun (W : World) (kk : Kept (fun b => (Value.slice An rn cn).ownBlock = some b ∨ (Value.slice Ao on co).ownBlock = some b) wp W) => (hin.bs.box.kept kk hgmq).frozen
          obtain ⟨oa, hoa⟩ : ∃ o, mOutP R s (0, 0) = o := ⟨_, rfl⟩
          rw [hoa] at hout htk
          obtain ⟨o1, o2⟩ := oa
          simp only at hout
          have HOUT := Lib.hid hout
          have HC1 := Lib.hid hc1
          have HC2 := Lib.hid hc2
          have HC3 := Lib.hid hc3
          have HC4 := Lib.hid hc4
          have HFZ := Lib.hid hfz
          have HPN := Lib.hid n2
          have HPO := Lib.hid n6
          have HIQ := Lib.hid hin
          have HN1 := Lib.hid n1
          have HN3 := Lib.hid n3
          have HN4 := Lib.hid n4
          have HTK := Lib.hid htk
          have HTG2 := Lib.hid htg
          have HKL := Lib.hid hkl
          have HSS2 := Lib.hid hS'
          have i5 : (k : Int) < (S' : Int) := by omega
          have hcn : rn ≤ 100000 := by omega
          have hco : on ≤ 100000 := by omega
          have hw8p := hin.bs.keep.size
          clear hrn' hon'
          clear hgk hout hc1 hc2 hc3 hc4 hfz n1 n2 n3 n4 n6 hin htk htg hkm hws' hvi' q1 q2 q3 q4 kg kv k4 hgmq hOq hro hz hsk hrn hon hoa
          have hne0 : ∀ b, (Value.slice An rn cn).ownBlock = some b → (Value.slice Ao on co).ownBlock = some b → False := fun b e e' => by
            obtain ⟨cu, h1⟩ := own_kind HPN.out e
            obtain ⟨cv, h2⟩ := own_kind HPO.out e'
            exact kind_apart h1 h2 (by decide) rfl
          have HNE := Lib.hid hne0
          have HNE2 := Lib.hid (fun b e e' => hne0 b e' e)
          have HLN := Lib.hid (fun b (e : (Value.slice An rn cn).ownBlock = some b) => (World.ownsRow.lt HPN.out b e).2)
          have HLO := Lib.hid (fun b (e : (Value.slice Ao on co).ownBlock = some b) => (World.ownsRow.lt HPO.out b e).2)
          have HQR := Lib.hid (fun (W : World) (kk : Kept (fun b => (Value.slice An rn cn).ownBlock = some b ∨ (Value.slice Ao on co).ownBlock = some b) wp W) => (kk.mono (fun b e => .inl (.inl e)) : Kept (fun b => ((Value.slice An rn cn).ownBlock = some b ∨ (Value.slice Ao on co).ownBlock = some b) ∨ b = w2.heap.size) wp W))
          clear hne0
          go_upto_region 23 with fail
          have hmx : Try.prog.follows .mixedOrders = true := by kernel_rfl
          have hS0 : Kept (fun b => (Value.slice An rn cn).ownBlock = some b ∨ (Value.slice Ao on co).ownBlock = some b) wp wp.drew := (Kept.refl _ wp).drew
          have hR0 := HQR.out _ hS0
          refine anyT_begin (R := fun W => Kept (fun b => ((Value.slice An rn cn).ownBlock = some b ∨ (Value.slice Ao on co).ownBlock = some b) ∨ b = w2.heap.size) wp W) (S := fun W => Kept (fun b => (Value.slice An rn cn).ownBlock = some b ∨ (Value.slice Ao on co).ownBlock = some b) wp W) (T := [16, 18]) hmx ?_
          refine anyR_take (i := 0) (v := .pointer (some ⟨w2.heap.size, 257, none⟩)) rfl (by kernel_rfl) (by kernel_rfl) (by kernel_rfl) (fun _ _ _ h => h) (by decide) (Or.inl ⟨by rfl, fun w' hS => by go_simp⟩) hR0 (fun _ => hS0) ?_
          refine anyT_take (i := 1) (v := .slice An rn cn) rfl (by kernel_rfl) (by kernel_rfl) (by kernel_rfl) (fun _ _ _ h => h) (by kernel_rfl) (by decide) (by kernel_rfl) (Or.inl ⟨by rfl, fun w' hS => by have t1 := HC3.out w' hS; go_simp⟩) hR0 hS0 ?_
          refine anyR_take (i := 2) (v := .slice (some ⟨gx, 0, none⟩) j j) rfl (by kernel_rfl) (by kernel_rfl) (by kernel_rfl) (fun _ _ _ h => h) (by decide) (Or.inl ⟨by rfl, fun w' hS => by go_simp⟩) hR0 (fun _ => hS0) ?_
          refine anyR_take (i := 5) (v := .pointer (some ⟨w2.heap.size, 258, none⟩)) rfl (by kernel_rfl) (by kernel_rfl) (by kernel_rfl) (fun _ _ _ h => h) (by decide) (Or.inl ⟨by rfl, fun w' hS => by go_simp⟩) hR0 (fun _ => hS0) ?_
          refine anyT_take (i := 6) (v := .slice Ao on co) rfl (by kernel_rfl) (by kernel_rfl) (by kernel_rfl) (fun _ _ _ h => h) (by kernel_rfl) (by decide) (by kernel_rfl) (Or.inl ⟨by rfl, fun w' hS => by have t1 := HC4.out w' hS; go_simp⟩) hR0 hS0 ?_
          refine anyR_take (i := 7) (v := .pointer (some ⟨gs, 0, none⟩)) rfl (by kernel_rfl) (by kernel_rfl) (by kernel_rfl) (fun _ _ _ h => h) (by decide) (Or.inl ⟨by rfl, fun w' hS => by go_simp⟩) hR0 (fun _ => hS0) ?_
          refine anyR_take (i := 8) (v := .slice (some ⟨ga', 0, none⟩) S' ca'') rfl (by kernel_rfl) (by kernel_rfl) (by kernel_rfl) (fun _ _ _ h => h) (by decide) (Or.inl ⟨by rfl, fun w' hS => by have t1 := HC1.out w' hS; go_simp⟩) hR0 (fun _ => hS0) ?_
          refine anyR_take (i := 9) (v := .int .i64 (k : Int)) rfl (by kernel_rfl) (by kernel_rfl) (by kernel_rfl) (fun _ _ _ h => h) (by decide) (Or.inl ⟨by rfl, fun w' hS => by go_simp⟩) hR0 (fun _ => hS0) ?_
          refine anyR_take (i := 10) (v := .pointer (some ⟨ga', k, none⟩)) rfl (by kernel_rfl) (by kernel_rfl) (by kernel_rfl) (fun _ _ _ h => h) (by decide) (Or.inl ⟨by rfl, fun w' hS => by go_simp⟩) hR0 (fun _ => hS0) ?_
          refine anyR_take (i := 11) (v := .slice Av' s.length cv') rfl (by kernel_rfl) (by kernel_rfl) (by kernel_rfl) (fun _ _ _ h => h) (by decide) (Or.inl ⟨by rfl, fun w' hS => by have t1 := HC2.out w' hS; go_simp⟩) hR0 (fun _ => hS0) ?_
          refine anyT_all (rs := [3]) (by kernel_rfl) (by simp) ?_
          refine all_one (anyT_step rfl fun K hK => ?_)
          go_simp
          refine hK.out _ _ (HQR.out _ (by repeat (first | with_reducible exact Kept.refl _ _ | with_reducible refine Kept.drew ?_ | with_reducible refine Kept.alloc ?_ _ | with_reducible refine Kept.grown ?_ G1.out (fun b e => .inl (.inl e)) | with_reducible refine Kept.grown ?_ G2.out (fun b e => .inl (.inr e)) | with_reducible refine Kept.trans ?_ KB.out (fun b e => e.elim)))) (fun _ => (by repeat (first | with_reducible exact Kept.refl _ _ | with_reducible refine Kept.drew ?_ | with_reducible refine Kept.alloc ?_ _ | with_reducible refine Kept.grown ?_ G1.out (fun b e => .inl (.inl e)) | with_reducible refine Kept.grown ?_ G2.out (fun b e => .inl (.inr e)) | with_reducible refine Kept.trans ?_ KB.out (fun b e => e.elim)))) ?_
          clear hK K
          refine anyT_all (rs := [4]) (by kernel_rfl) (by simp) ?_
          refine all_one (anyT_step rfl fun K hK => ?_)
          have hr4 := fun (W : World) (kk : Kept (fun b => (Value.slice Ao on co).ownBlock = some b) wp W) => own_block HPN.out fun b e hb => kk.block b hb fun q => HNE.out b e q
          refine step_nxt (by rfl) _ _ (by rfl) (by rfl) (hr4 _ (by repeat (first | with_reducible exact Kept.refl _ _ | with_reducible refine Kept.drew ?_ | with_reducible refine Kept.alloc ?_ _ | with_reducible refine Kept.grown ?_ G2.out (fun b e => .inl e) | with_reducible refine Kept.trans ?_ KB.out (fun b e => e.elim)))) (by rfl) (by repeat (first | with_reducible exact has_new _ _ _ _ rfl | exact has_new _ _ _ _ (by simp; done) | with_reducible refine has_drew ?_ | with_reducible refine has_alloc _ ?_ | with_reducible refine has_stays ?_ BB.out | with_reducible refine G1K.out _ _ ?_ | with_reducible refine G2K.out _ _ ?_)) rfl hcn (Nat.le_trans hw8p (show Kept (fun b => (Value.slice An rn cn).ownBlock = some b ∨ (Value.slice Ao on co).ownBlock = some b) wp _ from (by repeat (first | with_reducible exact Kept.refl _ _ | with_reducible refine Kept.drew ?_ | with_reducible refine Kept.alloc ?_ _ | with_reducible refine Kept.grown ?_ G1.out (fun b e => .inl (.inl e)) | with_reducible refine Kept.grown ?_ G2.out (fun b e => .inl (.inr e)) | with_reducible refine Kept.trans ?_ KB.out (fun b e => e.elim)))).size) ?_
          intro v1 W1 r1 g1 o1'
          have E1 := Lib.hid (own_new HNE.out HLO.out o1' (show Kept (fun b => (Value.slice An rn cn).ownBlock = some b ∨ (Value.slice Ao on co).ownBlock = some b) wp _ from (by repeat (first | with_reducible exact Kept.refl _ _ | with_reducible refine Kept.drew ?_ | with_reducible refine Kept.alloc ?_ _ | with_reducible refine Kept.grown ?_ G1.out (fun b e => .inl (.inl e)) | with_reducible refine Kept.grown ?_ G2.out (fun b e => .inl (.inr e)) | with_reducible refine Kept.trans ?_ KB.out (fun b e => e.elim)))).size)
          obtain ⟨A1, c1', rfl⟩ := own_formM r1
          have R1 := Lib.hid r1
          have G1 := Lib.hid g1
          clear r1 g1 o1' hr4
          refine hK.out _ _ (HQR.out _ (by repeat (first | with_reducible exact Kept.refl _ _ | with_reducible refine Kept.drew ?_ | with_reducible refine Kept.alloc ?_ _ | with_reducible refine Kept.grown ?_ G1.out (fun b e => .inl (.inl e)) | with_reducible refine Kept.grown ?_ G2.out (fun b e => .inl (.inr e)) | with_reducible refine Kept.trans ?_ KB.out (fun b e => e.elim)))) (fun _ => (by repeat (first | with_reducible exact Kept.refl _ _ | with_reducible refine Kept.drew ?_ | with_reducible refine Kept.alloc ?_ _ | with_reducible refine Kept.grown ?_ G1.out (fun b e => .inl (.inl e)) | with_reducible refine Kept.grown ?_ G2.out (fun b e => .inl (.inr e)) | with_reducible refine Kept.trans ?_ KB.out (fun b e => e.elim)))) ?_
          clear hK K
          refine anyR_take (i := 15) (v := .pointer (some ⟨w2.heap.size, 257, none⟩)) rfl (by kernel_rfl) (by kernel_rfl) (by kernel_rfl) (fun _ _ _ h => h) (by decide) (Or.inl ⟨by rfl, fun w' hS => by go_simp⟩) (HQR.out _ (by repeat (first | with_reducible exact Kept.refl _ _ | with_reducible refine Kept.drew ?_ | with_reducible refine Kept.alloc ?_ _ | with_reducible refine Kept.grown ?_ G1.out (fun b e => .inl (.inl e)) | with_reducible refine Kept.grown ?_ G2.out (fun b e => .inl (.inr e)) | with_reducible refine Kept.trans ?_ KB.out (fun b e => e.elim)))) (fun _ => (by repeat (first | with_reducible exact Kept.refl _ _ | with_reducible refine Kept.drew ?_ | with_reducible refine Kept.alloc ?_ _ | with_reducible refine Kept.grown ?_ G1.out (fun b e => .inl (.inl e)) | with_reducible refine Kept.grown ?_ G2.out (fun b e => .inl (.inr e)) | with_reducible refine Kept.trans ?_ KB.out (fun b e => e.elim)))) ?_
          refine anyT_all (rs := [12]) (by kernel_rfl) (by simp) ?_
          refine all_one (anyT_step rfl fun K hK => ?_)
          go_simp
          go_at_call 42
          with_reducible refine (HOUT.out _ (by repeat (first | with_reducible exact Kept.refl _ _ | with_reducible refine Kept.drew ?_ | with_reducible refine Kept.alloc ?_ _ | with_reducible refine Kept.grown ?_ G1.out (fun b e => .inl (.inl e)) | with_reducible refine Kept.grown ?_ G2.out (fun b e => .inl (.inr e)) | with_reducible refine Kept.trans ?_ KB.out (fun b e => e.elim)))).mono ?_
          rintro e w15 ⟨rfl, b15⟩
          have BB := Lib.hid b15
          have KB := Lib.hid (Kept.of_below (fun _ => False) b15)
          clear b15
          refine hK.out _ _ (HQR.out _ (by repeat (first | with_reducible exact Kept.refl _ _ | with_reducible refine Kept.drew ?_ | with_reducible refine Kept.alloc ?_ _ | with_reducible refine Kept.grown ?_ G1.out (fun b e => .inl (.inl e)) | with_reducible refine Kept.grown ?_ G2.out (fun b e => .inl (.inr e)) | with_reducible refine Kept.trans ?_ KB.out (fun b e => e.elim)))) (fun _ => (by repeat (first | with_reducible exact Kept.refl _ _ | with_reducible refine Kept.drew ?_ | with_reducible refine Kept.alloc ?_ _ | with_reducible refine Kept.grown ?_ G1.out (fun b e => .inl (.inl e)) | with_reducible refine Kept.grown ?_ G2.out (fun b e => .inl (.inr e)) | with_reducible refine Kept.trans ?_ KB.out (fun b e => e.elim)))) ?_
          clear hK K
          refine anyT_all (rs := [13]) (by kernel_rfl) (by simp) ?_
          refine all_one (anyT_step rfl fun K hK => ?_)
          go_simp
          refine hK.out _ _ (HQR.out _ (by repeat (first | with_reducible exact Kept.refl _ _ | with_reducible refine Kept.drew ?_ | with_reducible refine Kept.alloc ?_ _ | with_reducible refine Kept.grown ?_ G1.out (fun b e => .inl (.inl e)) | with_reducible refine Kept.grown ?_ G2.out (fun b e => .inl (.inr e)) | with_reducible refine Kept.trans ?_ KB.out (fun b e => e.elim)))) (fun _ => (by repeat (first | with_reducible exact Kept.refl _ _ | with_reducible refine Kept.drew ?_ | with_reducible refine Kept.alloc ?_ _ | with_reducible refine Kept.grown ?_ G1.out (fun b e => .inl (.inl e)) | with_reducible refine Kept.grown ?_ G2.out (fun b e => .inl (.inr e)) | with_reducible refine Kept.trans ?_ KB.out (fun b e => e.elim)))) ?_
          clear hK K
          refine anyT_all (rs := [14]) (by kernel_rfl) (by simp) ?_
          refine all_one (anyT_step rfl fun K hK => ?_)
          have hr4 := fun (W : World) (kk : Kept (fun b => (Value.slice An rn cn).ownBlock = some b) wp W) => own_block HPO.out fun b e hb => kk.block b hb fun q => HNE.out b q e
          refine step_ots (by rfl) _ _ (by rfl) (by rfl) (hr4 _ (by repeat (first | with_reducible exact Kept.refl _ _ | with_reducible refine Kept.drew ?_ | with_reducible refine Kept.alloc ?_ _ | with_reducible refine Kept.grown ?_ G1.out (fun b e => .inl e) | with_reducible refine Kept.trans ?_ KB.out (fun b e => e.elim)))) (by rfl) (by repeat (first | with_reducible exact has_new _ _ _ _ rfl | exact has_new _ _ _ _ (by simp; done) | with_reducible refine has_drew ?_ | with_reducible refine has_alloc _ ?_ | with_reducible refine has_stays ?_ BB.out | with_reducible refine G1K.out _ _ ?_ | with_reducible refine G2K.out _ _ ?_)) hco (Nat.le_trans hw8p (show Kept (fun b => (Value.slice An rn cn).ownBlock = some b ∨ (Value.slice Ao on co).ownBlock = some b) wp _ from (by repeat (first | with_reducible exact Kept.refl _ _ | with_reducible refine Kept.drew ?_ | with_reducible refine Kept.alloc ?_ _ | with_reducible refine Kept.grown ?_ G1.out (fun b e => .inl (.inl e)) | with_reducible refine Kept.grown ?_ G2.out (fun b e => .inl (.inr e)) | with_reducible refine Kept.trans ?_ KB.out (fun b e => e.elim)))).size) ?_
          intro v2 W2 r2 g2 o2'
          have E2 := Lib.hid (own_new HNE2.out HLN.out o2' (show Kept (fun b => (Value.slice An rn cn).ownBlock = some b ∨ (Value.slice Ao on co).ownBlock = some b) wp _ from (by repeat (first | with_reducible exact Kept.refl _ _ | with_reducible refine Kept.drew ?_ | with_reducible refine Kept.alloc ?_ _ | with_reducible refine Kept.grown ?_ G1.out (fun b e => .inl (.inl e)) | with_reducible refine Kept.grown ?_ G2.out (fun b e => .inl (.inr e)) | with_reducible refine Kept.trans ?_ KB.out (fun b e => e.elim)))).size)
          obtain ⟨A2, c2', rfl⟩ := own_formM r2
          have R2 := Lib.hid r2
          have G2 := Lib.hid g2
          clear r2 g2 o2' hr4
          refine hK.out _ _ (HQR.out _ (by repeat (first | with_reducible exact Kept.refl _ _ | with_reducible refine Kept.drew ?_ | with_reducible refine Kept.alloc ?_ _ | with_reducible refine Kept.grown ?_ G1.out (fun b e => .inl (.inl e)) | with_reducible refine Kept.grown ?_ G2.out (fun b e => .inl (.inr e)) | with_reducible refine Kept.trans ?_ KB.out (fun b e => e.elim)))) (fun _ => (by repeat (first | with_reducible exact Kept.refl _ _ | with_reducible refine Kept.drew ?_ | with_reducible refine Kept.alloc ?_ _ | with_reducible refine Kept.grown ?_ G1.out (fun b e => .inl (.inl e)) | with_reducible refine Kept.grown ?_ G2.out (fun b e => .inl (.inr e)) | with_reducible refine Kept.trans ?_ KB.out (fun b e => e.elim)))) ?_
          clear hK K
          have hSe : Kept (fun b => (Value.slice An rn cn).ownBlock = some b ∨ (Value.slice Ao on co).ownBlock = some b) wp W2 := (by repeat (first | with_reducible exact Kept.refl _ _ | with_reducible refine Kept.drew ?_ | with_reducible refine Kept.alloc ?_ _ | with_reducible refine Kept.grown ?_ G1.out (fun b e => .inl (.inl e)) | with_reducible refine Kept.grown ?_ G2.out (fun b e => .inl (.inr e)) | with_reducible refine Kept.trans ?_ KB.out (fun b e => e.elim)))
          have hK1 : Kept (fun b => (Value.slice Ao on co).ownBlock = some b) W1 W2 := (by repeat (first | with_reducible exact Kept.refl _ _ | with_reducible refine Kept.drew ?_ | with_reducible refine Kept.alloc ?_ _ | with_reducible refine Kept.grown ?_ G2.out (fun b e => .inl e) | with_reducible refine Kept.trans ?_ KB.out (fun b e => e.elim)))
          refine anyT_all (rs := [16]) (by kernel_rfl) (by simp) ?_
          refine all_one (anyT_step rfl fun K hK => ?_)
          have t1 := HC3.out W2 hSe
          have t2 := HFZ.out W2 hSe 257
          go_simp
          have hR16 : Kept (fun b => ((Value.slice An rn cn).ownBlock = some b ∨ (Value.slice Ao on co).ownBlock = some b) ∨ b = w2.heap.size) wp (W2.setCell ⟨w2.heap.size, 257, none⟩ (.slice A1 (rn + 1) c1')) := (HQR.out _ hSe).setCell (a := ⟨w2.heap.size, 257, none⟩) (.inl (.inr rfl)) _
          refine hK.out _ _ hR16 (early_not (t := 16) (by simp) (by kernel_rfl)) ?_
          clear hK K
          refine anyR_take (i := 17) (v := .pointer (some ⟨w2.heap.size, 258, none⟩)) rfl (by kernel_rfl) (by kernel_rfl) (by kernel_rfl) (fun _ _ _ h => h) (by decide) (Or.inl ⟨by rfl, fun w' hS => by go_simp⟩) hR16 (early_not (t := 16) (by simp) (by kernel_rfl)) ?_
          refine anyT_all (rs := [18]) (by kernel_rfl) (by simp) ?_
          refine all_one (anyT_step rfl fun K hK => ?_)
          have t3 := HC4.out W2 hSe
          have t4 := HFZ.out W2 hSe 258
          go_simp
          refine hK.out _ _ (hR16.setCell (a := ⟨w2.heap.size, 258, none⟩) (.inl (.inr rfl)) _) (early_not (t := 16) (by simp) (by kernel_rfl)) ?_
          clear hK K
          refine anyT_done (by kernel_rfl) ?_ _
          go_wp2
          have hr1 := own_block R1.out fun b e hb => hK1.block b hb (E1.out.1 b e)
          obtain ⟨O', hb'⟩ := HIQ.out.push (vs := vs) (o := (o1, o2)) HN1.out (by rw [HRN.out]; exact HPN.out) HN3.out HN4.out hSe (by rw [HRN.out]; exact hr1) E1.out.2 (by rw [HON.out]; exact R2.out) E2.out.2
          rw [HTK.out] at hb'
          go_roundg (mn + 1 - (k + 1))
          case measure => have := HMK.out; omega
          case rel => exact ⟨k + 1, K', O', _, _, rows ++ [row], ss', l1, by go_num, by rw [HSS2.out]; omega, rfl, hb', HMY.out, HSL.out, by simp [HRW.out], HTG2.out⟩
    · have hkS' : k = S := by omega
      subst hkS'
      have hnone : ss[k]? = none := List.getElem?_eq_none (by rw [HS.out]; exact Nat.le_refl _)
      have hfin : TGT = some (ss, rows) := by
        rw [← HTG.out, show mn + 1 - k = (mn - k) + 1 by omega, buildS, hnone]
      have htk : ss.take k = ss := List.take_of_length_le (by rw [HS.out]; exact Nat.le_refl _)
      obtain ⟨An, cn, hfn⟩ := HBS.out.nxt.form
      obtain ⟨Ao, co, hfo⟩ := HBS.out.ots.form
      have HFN := Lib.hid hfn
      have HFO := Lib.hid hfo
      have HTK := Lib.hid htk
      clear hnone q1 q2 q3 q4 hfn hfo htk
      go_wp2_with (first
        | (refine wpList_loadM (by rfl) _ (by rfl) (by rfl) Try.underlying38 rfl Try.sizeMM HBS.out.box ?_; go_simp)
        | (refine wpList_storeM (by rfl) _ _ (by rfl) (by rfl) (by rfl) Try.sizeMM (by rw [HFN.out]; rfl) (by rw [HFO.out]; rfl) (HRES.out _ HBS.out.keep) ?_; intro hbx; have HBX1 := Lib.hid hbx; clear hbx; go_simp)
        | fail)
      subst hfin
      have hw8 : w.heap.size < w8.heap.size := Nat.lt_of_lt_of_le HGM.out HB8.out.size
      refine bodyPost_ret (v := .tuple #[.agg (machC F C vN vO), .nilIface]) (results_mach Try.results11 rfl rfl Try.underlying38 rfl Try.sizeMM HBX1.out) rfl ⟨below_setRow ((HB2.out.trans (HB8.out.mono HB2.out.size)).trans (HBS.out.keep.below (Nat.le_trans HB2.out.size HB8.out.size) fun b e => by subst e; exact HB2.out.size)) (Nat.le_refl _) _, ?_⟩
      have hkp : Kept (fun b => b = w.heap.size) wo (wo.setRow w.heap.size (machC F C vN vO)) := kept_setRow (Kept.refl (fun b => b = w.heap.size) wo) (.inl rfl) _
      have hO : ∀ b, O b → ¬ b = w.heap.size := fun b e e' => by have := (HBS.out.olt b e).1; omega
      have hn := (HBS.out.nxt.kept hkp hO).low (Nat.le_of_lt hw8)
      have ho := (HBS.out.ots.kept hkp hO).low (Nat.le_of_lt hw8)
      rw [HTK.out] at ho
      show ∃ vN vO O, _
      rw [HCF.out.1, HCF.out.2.1, HCF.out.2.2]
      exact ⟨vN, vO, O, rfl, hn, ho⟩
end Go.Proofs.Ytnkopcmkanibhaa
