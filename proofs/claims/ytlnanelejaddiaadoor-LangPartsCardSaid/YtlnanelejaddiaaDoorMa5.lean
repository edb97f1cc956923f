/-
  Several texts of this proof in one file: Length, LangLen, Span, Parts, From, Own. No statement of its own.
-/
import Derived.Test.YtlnanelejaddiaaDoorMa4
import Derived.Test.YtlnanelejaddiaaDoorMa2
import Derived.Test.YtlnanelejaddiaaDoorMa3
import Derived.Lib.BufferMore
import Derived.RangeFuncNested
set_option linter.unusedVariables false
set_option linter.unusedSimpArgs false

/-
  The document's own Length, and Any. Contracts for other texts; no statement of its own.
-/
namespace Go.Proofs.YtlnanelejaddiaaDoor
open Go Go.RowKit
attribute [local go_sem ↓] Go.wp_at_zero Go.wp_at_succ

def best1 (most : Bool) (a b : Nat) : Nat := if most then max a b else min a b
/-- The least, or the greatest, of all. -/
def bestN (most : Bool) : List Nat → Nat
  | [] => 0
  | a :: l => l.foldl (best1 most) a
mutual
/-- How many bytes a word has at least, or at most, up to 1000. -/
def lenN (most : Bool) : T → Nat
  | .mk op p lo hi l => min (if op = 1 then 1 else if op = 2 then (lenL most l).sum else if op = 3 then bestN most (lenL most l) else if op = 4 then (if most then hi else lo).toNat * bestN most (lenL most l) else 0) 1000
def lenL (most : Bool) : List T → List Nat
  | [] => []
  | t :: ts => lenN most t :: lenL most ts
end
theorem lenN_le (most : Bool) (t : T) : lenN most t ≤ 1000 := by cases t; unfold lenN; omega
theorem lenL_map (most : Bool) (l : List T) : lenL most l = l.map (lenN most) := by
  induction l with
  | nil => rfl
  | cons t ts ih => simp [lenL, ih]
theorem sum_le (most : Bool) : ∀ (l : List T), (lenL most l).sum ≤ 1000 * l.length
  | [] => by simp [lenL]
  | t :: ts => by
    have := sum_le most ts
    have := lenN_le most t
    simp [lenL]
    omega
theorem sum_take (most : Bool) (l : List T) (j : Nat) (h : j < l.length) : (lenL most (l.take (j + 1))).sum = (lenL most (l.take j)).sum + lenN most (l[j]'h) := by
  rw [List.take_succ_eq_append_getElem h, lenL_map, lenL_map, List.map_append, List.sum_append]
  simp only [List.map_cons, List.map_nil, List.sum_cons, List.sum_nil, Nat.add_zero]
theorem best_snoc (most : Bool) (l : List Nat) (b : Nat) (h : l ≠ []) : bestN most (l ++ [b]) = best1 most (bestN most l) b := by
  cases l with
  | nil => exact absurd rfl h
  | cons a l => simp [bestN]
theorem best_take (most : Bool) (l : List T) (j : Nat) (h : j < l.length) (h0 : 0 < j) : bestN most (lenL most (l.take (j + 1))) = best1 most (bestN most (lenL most (l.take j))) (lenN most (l[j]'h)) := by
  rw [List.take_succ_eq_append_getElem h, lenL_map, lenL_map, List.map_append]
  refine best_snoc most _ _ ?_
  intro e
  have := congrArg List.length e
  rw [List.length_map, List.length_take, List.length_nil] at this
  omega
theorem best1_le {most : Bool} {a b N : Nat} (ha : a ≤ N) (hb : b ≤ N) : best1 most a b ≤ N := by unfold best1; split <;> omega
theorem bestN_le (most : Bool) (N : Nat) : ∀ (l : List Nat), (∀ x ∈ l, x ≤ N) → bestN most l ≤ N
  | [], _ => Nat.zero_le _
  | a :: l, h => by
    have key : ∀ (l : List Nat) (a : Nat), a ≤ N → (∀ x ∈ l, x ≤ N) → l.foldl (best1 most) a ≤ N := by
      intro l
      induction l with
      | nil => intro a ha _; exact ha
      | cons b l ih => intro a ha hl; exact ih _ (best1_le ha (hl b (by simp))) fun x hx => hl x (by simp [hx])
    exact key l a (h a (by simp)) fun x hx => h x (by simp [hx])
theorem best_le (most : Bool) (l : List T) : bestN most (lenL most l) ≤ 1000 := by
  refine bestN_le most 1000 _ fun x hx => ?_
  rw [lenL_map] at hx
  simp only [List.mem_map] at hx
  obtain ⟨t, _, rfl⟩ := hx
  exact lenN_le most t
theorem best_one (most : Bool) (l : List T) (h : 0 < l.length) : bestN most (lenL most (l.take 1)) = lenN most (l[0]'h) := by
  cases l with
  | nil => simp at h
  | cons a l => simp [lenL, bestN]


/-- One more, by the test that the text makes. -/
theorem best1_eq (most : Bool) (a b : Nat) : (if (most == decide ((a : Int) < (b : Int))) = true then b else a) = best1 most a b := by
  unfold best1
  cases most
  · by_cases h : (a : Int) < (b : Int)
    · simp [h]; omega
    · simp [h]; omega
  · by_cases h : (a : Int) < (b : Int)
    · simp [h]; omega
    · simp [h]; omega
set_option maxRecDepth 20000 in
set_option maxHeartbeats 4000000 in
theorem length_n (most : Bool) : ∀ (N : Nat) (t : T) (w : World) (ok : Nat → Prop) (k : Value), SizeOf.sizeOf t ≤ N → WF t → Tree w ok t k →
    Calls Tryd.prog 11 #[nodeP t k, .bool most] w (RetInt w (lenN most t)) := by
  intro N
  induction N with
  | zero => intro t w ok k h; obtain ⟨op, p, lo, hi, l⟩ := t; simp at h
  | succ N ih =>
  intro t w ok k hN hwf ht
  obtain ⟨A, n', c, rfl⟩ := ht.form
  obtain ⟨hn, hm⟩ := ht.bound
  have hlen := hwf.len
  rw [← hn] at hlen
  unfold maxLen at hm
  have hop := hwf.op_cases
  have b1 := Box8.new w t (.slice A n' c)
  have hB : Below w.heap.size w (w.alloc (.cells #[.int .i64 t.op, .int .u64 (word t.set 0), .int .u64 (word t.set 1), .int .u64 (word t.set 2), .int .u64 (word t.set 3), .int .i64 t.lo, .int .i64 t.hi, .slice A n' c] 29)) := (Below.refl _ _).alloc (Nat.le_refl _) _
  have HN := Lib.hid hn
  have HT := Lib.hid ht
  have HWF := Lib.hid hwf
  have HB1 := Lib.hid b1
  have IH := Lib.hid ih
  have hpl : lenN most t = min (if t.op = 1 then 1 else if t.op = 2 then (lenL most t.kids).sum else if t.op = 3 then bestN most (lenL most t.kids) else if t.op = 4 then (if most then t.hi else t.lo).toNat * bestN most (lenL most t.kids) else 0) 1000 := by cases t; rfl
  have HPL := Lib.hid hpl
  clear hn ih hpl hwf ht
  unfold nodeP
  rcases hop with ⟨h, h2, z1, z2⟩ | ⟨h, h2, h3, z1, z2⟩ | ⟨h, h2, h3, z1, z2⟩ | ⟨h, h2, h3, h4, h5, h6⟩
  · have hb1 : (t.op == 1) = true := by simp [h]
    have HH := Lib.hid h
    clear h h2 z1 z2
    go_enter Tryd.func11, Tryd.ntmps11
    go_wp2
    go_ret
    exact ⟨by rw [HPL.out, if_pos HH.out]; rfl, hB⟩
  · have hb1 : (t.op == 1) = false := by simp [h]
    have hb2 : (t.op == 2) = true := by simp [h]
    have HPL2 : Hid (lenN most t = min (lenL most t.kids).sum 1000) := by show _ = _; rw [HPL.out, if_neg (by omega), if_pos h]
    clear h HPL z1 z2
    go_enter Tryd.func11, Tryd.ntmps11
    go_wp2
    go_loopg [5, 6] n' (fun m k i wr => ∃ j : Nat, i = .int .i64 (j : Int) ∧ j ≤ n' ∧ m = n' - j ∧ k = .int .i64 (((lenL most (t.kids.take j)).sum : Nat) : Int) ∧ Box8 wr w.heap.size t (.slice A n' c) ∧ Below w.heap.size w wr)
    case atStart => exact ⟨0, rfl, Nat.zero_le _, rfl, rfl, HB1.out, hB⟩
    case round =>
      obtain ⟨j, rfl, hj, hmj, rfl, x1, hW⟩ := hrel
      have HMJ := Lib.hid hmj
      obtain ⟨c0, c1, c2, c3, c4, c5, c6, c7⟩ := x1.cell
      clear b1 hmj
      by_cases hlt : j < n'
      · have hlt' : j < t.kids.length := by rw [← HN.out]; exact hlt
        obtain ⟨g, B, m1, m2, e1, hg1, htk, hcells⟩ := kid8 HT.out j (List.getElem?_eq_getElem hlt')
        subst e1
        have hks := kid_size t j hlt'
        have hwk := HWF.out.at j hlt'
        have hst := sum_take most t.kids j hlt'
        have hsl := sum_le most (t.kids.take j)
        rw [List.length_take] at hsl
        have hpu := lenN_le most (t.kids[j]'hlt')
        generalize t.kids[j] = u at *
        have HC : ∀ q v, (nodeC u (.slice B m1 m2))[q]? = some v → wr.cell? ⟨g, j * 8 + q, none⟩ = some v := fun q v h => by rw [Nat.mul_comm j 8]; exact (hW.cell (p := ⟨g, 8 * j + q, none⟩) hg1).trans (hcells q v h)
        have k0 : wr.cell? ⟨g, j * 8, none⟩ = _ := HC 0 _ rfl
        have k1 := HC 1 _ rfl
        have k2 := HC 2 _ rfl
        have k3 := HC 3 _ rfl
        have k4 := HC 4 _ rfl
        have k5 := HC 5 _ rfl
        have k6 := HC 6 _ rfl
        have k7 := HC 7 _ rfl
        have HK := Lib.hid (fun w' (hb : Below wr.heap.size wr w') => IH.out u w' ok (.slice B m1 m2) (by omega) hwk ((htk.stays hW).stays hb))
        have HST := Lib.hid hst
        clear HC hcells htk hks hwk hst
        unfold nodeP RetInt at HK
        generalize (lenL most (t.kids.take j)).sum = S at *
        have hS2 : S ≤ 202000 := by omega
        go_wp2_with (go_at_call 11; (with_reducible refine (HK.out _ (Below.refl _ _)).mono ?_); rintro e w5 ⟨rfl, hb5⟩)
        go_roundg (n' - (j + 1))
        case measure => have := HMJ.out; omega
        case rel => exact ⟨j + 1, by go_num, by omega, rfl, by rw [HST.out]; go_num, x1.stays hb5, gro hW hb5⟩
      · have hjn : j = t.kids.length := by rw [← HN.out]; omega
        have hwhole : t.kids.take j = t.kids := by rw [hjn]; exact List.take_length
        rw [hwhole]
        have hS2 := sum_le most t.kids
        rw [show t.kids.length = n' from HN.out.symm] at hS2
        generalize (lenL most t.kids).sum = S at *
        go_wp2
        all_goals
          go_ret
          refine ⟨congrArg Ending.returned (congrArg (Value.int .i64) ?_), hW⟩
          rw [HPL2.out]
          omega
  · have hb1 : (t.op == 1) = false := by simp [h]
    have hb2 : (t.op == 2) = false := by simp [h]
    have hb3 : (t.op == 3) = true := by simp [h]
    have HPL2 : Hid (lenN most t = min (bestN most (lenL most t.kids)) 1000) := by show _ = _; rw [HPL.out, if_neg (by omega), if_neg (by omega), if_pos h]
    have h0 : 0 < t.kids.length := by omega
    have hn2 : 0 < n' := by rw [HN.out]; omega
    have hn3 : (0 : Int) < (n' : Int) := by omega
    obtain ⟨g0, B0, l1, l2, e0, hg0, htk0, hcells0⟩ := kid8 HT.out 0 (List.getElem?_eq_getElem h0)
    subst e0
    have hks0 := kid_size t 0 h0
    have hwk0 := HWF.out.at 0 h0
    have hst0 := best_one most t.kids h0
    generalize t.kids[0] = u0 at *
    have hk0 := hcells0 0 _ rfl
    have hk1 := hcells0 1 _ rfl
    have hk2 := hcells0 2 _ rfl
    have hk3 := hcells0 3 _ rfl
    have hk4 := hcells0 4 _ rfl
    have hk5 := hcells0 5 _ rfl
    have hk6 := hcells0 6 _ rfl
    have hk7 := hcells0 7 _ rfl
    rw [show 8 * 0 + 0 = 0 from rfl] at hk0
    have HK0 := Lib.hid (fun w' (hb : Below w.heap.size w w') => IH.out u0 w' ok (.slice B0 l1 l2) (by omega) hwk0 (htk0.stays hb))
    have HST0 := Lib.hid hst0
    clear h HPL z1 z2 hcells0 htk0 hks0 hwk0 hst0
    unfold nodeP RetInt at HK0
    go_enter Tryd.func11, Tryd.ntmps11
    go_wp2_with (go_at_call 11; (with_reducible refine (HK0.out _ hB).mono ?_); rintro e w4 ⟨rfl, hb4⟩; have x0 := HB1.out.stays hb4; have hB4 := gro1 (Below.refl _ _) hb4)
    clear hk0 hk1 hk2 hk3 hk4 hk5 hk6 hk7
    go_loopg [5, 7] (n' - 1) (fun m k i wr => ∃ j : Nat, i = .int .i64 (j : Int) ∧ 1 ≤ j ∧ j ≤ n' ∧ m = n' - j ∧ k = .int .i64 ((bestN most (lenL most (t.kids.take j)) : Nat) : Int) ∧ Box8 wr w.heap.size t (.slice (some ⟨g0, 0, none⟩) n' c) ∧ Below w.heap.size w wr)
    case atStart => exact ⟨1, rfl, Nat.le_refl _, hn2, rfl, by rw [HST0.out], x0, hB4⟩
    case round =>
      obtain ⟨j, rfl, h1j, hj, hmj, rfl, x1, hW⟩ := hrel
      have HMJ := Lib.hid hmj
      obtain ⟨c0, c1, c2, c3, c4, c5, c6, c7⟩ := x1.cell
      clear b1 hmj x0
      by_cases hlt : j < n'
      · have hlt' : j < t.kids.length := by rw [← HN.out]; exact hlt
        obtain ⟨g, B, m1, m2, e1, hg1, htk, hcells⟩ := kid8 HT.out j (List.getElem?_eq_getElem hlt')
        injection e1 with e1
        injection e1 with e1
        subst e1
        have hks := kid_size t j hlt'
        have hwk := HWF.out.at j hlt'
        have hst := best_take most t.kids j hlt' h1j
        have hsl := best_le most (t.kids.take j)
        have hpu := lenN_le most (t.kids[j]'hlt')
        generalize t.kids[j] = u at *
        have HC : ∀ q v, (nodeC u (.slice B m1 m2))[q]? = some v → wr.cell? ⟨g0, j * 8 + q, none⟩ = some v := fun q v h => by rw [Nat.mul_comm j 8]; exact (hW.cell (p := ⟨g0, 8 * j + q, none⟩) hg1).trans (hcells q v h)
        have k0 : wr.cell? ⟨g0, j * 8, none⟩ = _ := HC 0 _ rfl
        have k1 := HC 1 _ rfl
        have k2 := HC 2 _ rfl
        have k3 := HC 3 _ rfl
        have k4 := HC 4 _ rfl
        have k5 := HC 5 _ rfl
        have k6 := HC 6 _ rfl
        have k7 := HC 7 _ rfl
        have HK := Lib.hid (fun w' (hb : Below wr.heap.size wr w') => IH.out u w' ok (.slice B m1 m2) (by omega) hwk ((htk.stays hW).stays hb))
        have HST := Lib.hid hst
        clear HC hcells htk hks hwk hst
        unfold nodeP RetInt at HK
        generalize bestN most (lenL most (t.kids.take j)) = S at *
        generalize hU : lenN most u = U at *
        clear hU
        go_wp2_with (go_at_call 11; (with_reducible refine (HK.out _ (Below.refl _ _)).mono ?_); rintro e w5 ⟨rfl, hb5⟩)
        all_goals
          go_roundg (n' - (j + 1))
          case measure => have := HMJ.out; omega
          case rel =>
            refine ⟨j + 1, by go_num, by omega, by omega, rfl, ?_, x1.stays hb5, gro hW hb5⟩
            rw [HST.out, ← best1_eq]
            simp [*]
      · have hjn : j = t.kids.length := by rw [← HN.out]; omega
        have hwhole : t.kids.take j = t.kids := by rw [hjn]; exact List.take_length
        rw [hwhole]
        have hS2 := best_le most t.kids
        generalize bestN most (lenL most t.kids) = S at *
        go_wp2
        all_goals
          go_ret
          refine ⟨congrArg Ending.returned (congrArg (Value.int .i64) ?_), hW⟩
          rw [HPL2.out]
          omega
  · have hb1 : (t.op == 1) = false := by simp [h]
    have hb2 : (t.op == 2) = false := by simp [h]
    have hb3 : (t.op == 3) = false := by simp [h]
    have hb4 : (t.op == 4) = true := by simp [h]
    have h0 : 0 < t.kids.length := by omega
    have hn3 : (0 : Int) < (n' : Int) := by rw [HN.out]; omega
    have hone : bestN most (lenL most t.kids) = lenN most (t.kids[0]'h0) := by rw [← best_one most t.kids h0, List.take_of_length_le (by omega)]
    obtain ⟨T0, hT0⟩ : ∃ T0 : Nat, (if most then t.hi else t.lo) = T0 := ⟨(if most then t.hi else t.lo).toNat, by split <;> omega⟩
    have hT1 : T0 ≤ 32 := by split at hT0 <;> omega
    have HPL2 : Hid (lenN most t = min (T0 * lenN most (t.kids[0]'h0)) 1000) := by show _ = _; rw [HPL.out, if_neg (by omega), if_neg (by omega), if_neg (by omega), if_pos h, hT0, hone]; rfl
    obtain ⟨g0, B0, l1, l2, e0, hg0, htk0, hcells0⟩ := kid8 HT.out 0 (List.getElem?_eq_getElem h0)
    subst e0
    have hks0 := kid_size t 0 h0
    have hwk0 := HWF.out.at 0 h0
    have hpu := lenN_le most (t.kids[0]'h0)
    generalize t.kids[0] = u0 at *
    have hk0 := hcells0 0 _ rfl
    have hk1 := hcells0 1 _ rfl
    have hk2 := hcells0 2 _ rfl
    have hk3 := hcells0 3 _ rfl
    have hk4 := hcells0 4 _ rfl
    have hk5 := hcells0 5 _ rfl
    have hk6 := hcells0 6 _ rfl
    have hk7 := hcells0 7 _ rfl
    rw [show 8 * 0 + 0 = 0 from rfl] at hk0
    have HK0 := Lib.hid (fun w' (hb : Below w.heap.size w w') => IH.out u0 w' ok (.slice B0 l1 l2) (by omega) hwk0 (htk0.stays hb))
    have hprod : T0 * lenN most u0 ≤ 32 * 1000 := Nat.mul_le_mul hT1 hpu
    have hpi : (T0 : Int) * (lenN most u0 : Int) = ((T0 * lenN most u0 : Nat) : Int) := by simp
    have p0 : (0 : Int) ≤ (T0 : Int) * (lenN most u0 : Int) := by rw [hpi]; omega
    have p1 : (T0 : Int) * (lenN most u0 : Int) ≤ 9223372036854775807 := by rw [hpi]; omega
    have HPI := Lib.hid hpi
    have HPD := Lib.hid hprod
    clear h HPL hcells0 htk0 hks0 hwk0 hone hpi hprod h2 h3 h4 h5 h6 h0
    generalize hU : lenN most u0 = U at *
    clear hU
    unfold nodeP RetInt at HK0
    generalize T0 * U = Pr at *
    cases most
    · have hlo : t.lo = T0 := by simpa using hT0
      have q0 : (0 : Int) ≤ t.lo * (U : Int) := by rw [hlo]; exact p0
      have q1 : t.lo * (U : Int) ≤ 9223372036854775807 := by rw [hlo]; exact p1
      have HLO := Lib.hid hlo
      clear hT0 hlo p0 p1 hT1
      go_enter Tryd.func11, Tryd.ntmps11
      go_wp2_with (go_at_call 11; (with_reducible refine (HK0.out _ hB).mono ?_); rintro e w4 ⟨rfl, hb4⟩; have hB4 := gro1 (Below.refl _ _) hb4)
      all_goals
        go_ret
        refine ⟨congrArg Ending.returned (congrArg (Value.int .i64) ?_), hB4⟩
        have e2 : t.lo * (U : Int) = (Pr : Int) := by rw [HLO.out]; exact HPI.out
        rw [HPL2.out]
        omega
    · have hlo : t.hi = T0 := by simpa using hT0
      have q0 : (0 : Int) ≤ t.hi * (U : Int) := by rw [hlo]; exact p0
      have q1 : t.hi * (U : Int) ≤ 9223372036854775807 := by rw [hlo]; exact p1
      have HLO := Lib.hid hlo
      clear hT0 hlo p0 p1 hT1
      go_enter Tryd.func11, Tryd.ntmps11
      go_wp2_with (go_at_call 11; (with_reducible refine (HK0.out _ hB).mono ?_); rintro e w4 ⟨rfl, hb4⟩; have hB4 := gro1 (Below.refl _ _) hb4)
      all_goals
        go_ret
        refine ⟨congrArg Ending.returned (congrArg (Value.int .i64) ?_), hB4⟩
        have e2 : t.hi * (U : Int) = (Pr : Int) := by rw [HLO.out]; exact HPI.out
        rw [HPL2.out]
        omega

theorem length_p {t : T} {k : Value} {ok : Nat → Prop} (most : Bool) (w : World) (hwf : WF t) (ht : Tree w ok t k) : Calls Tryd.prog 11 #[nodeP t k, .bool most] w (RetInt w (lenN most t)) :=
  length_n most _ t w ok k (Nat.le_refl _) hwf ht

end Go.Proofs.YtlnanelejaddiaaDoor

/-
  How long words are: without any bound, and held to one. Plain mathematics; no statement of its own.
-/
namespace Go.Proofs.YtlnanelejaddiaaDoor
open Go

mutual
def LenU (most : Bool) : T → Nat
  | .mk op p lo hi l => if op = 1 then 1 else if op = 2 then (LenL most l).sum else if op = 3 then bestN most (LenL most l) else if op = 4 then (if most then hi else lo).toNat * bestN most (LenL most l) else 0
def LenL (most : Bool) : List T → List Nat
  | [] => []
  | t :: ts => LenU most t :: LenL most ts
end
theorem LenL_map (most : Bool) (l : List T) : LenL most l = l.map (LenU most) := by
  induction l with
  | nil => rfl
  | cons t ts ih => simp [LenL, ih]

/-- Sums held to a bound at each step. -/
theorem min_add (a b L : Nat) : min (min a L + min b L) L = min (a + b) L := by omega
theorem min_sum (L : Nat) (f : T → Nat) : ∀ (l : List T), min ((l.map fun x => min (f x) L).sum) L = min ((l.map f).sum) L
  | [] => rfl
  | t :: ts => by
    have ih := min_sum L f ts
    simp only [List.map_cons, List.sum_cons]
    omega
theorem best1_min (most : Bool) (a b L : Nat) : best1 most (min a L) (min b L) = min (best1 most a b) L := by
  unfold best1; split <;> omega
theorem foldl_min (most : Bool) (L : Nat) (f : T → Nat) : ∀ (l : List T) (a : Nat), (l.map fun x => min (f x) L).foldl (best1 most) (min a L) = min ((l.map f).foldl (best1 most) a) L
  | [], a => rfl
  | t :: ts, a => by
    simp only [List.map_cons, List.foldl_cons]
    rw [best1_min, foldl_min most L f ts]
theorem min_best (most : Bool) (L : Nat) (f : T → Nat) (l : List T) : bestN most (l.map fun x => min (f x) L) = min (bestN most (l.map f)) L := by
  cases l with
  | nil => simp [bestN]
  | cons t ts => exact foldl_min most L f ts (f t)
theorem min_mul (k x L : Nat) : min (k * min x L) L = min (k * x) L := by
  rcases Nat.le_total x L with h | h
  · rw [Nat.min_eq_left h]
  · rw [Nat.min_eq_right h]
    cases k with
    | zero => simp
    | succ k =>
      have h1 : L ≤ (k + 1) * L := Nat.le_mul_of_pos_left _ (by omega)
      have h2 : L ≤ (k + 1) * x := Nat.le_trans h (Nat.le_mul_of_pos_left _ (by omega))
      omega
theorem lenN_eq (most : Bool) {t : T} (h : WF t) : lenN most t = min (LenU most t) 1000 := by
  induction h with
  | one p => simp [lenN, LenU]
  | cat l h2 hN h ih =>
    have e : l.map (lenN most) = l.map fun x => min (LenU most x) 1000 := List.map_congr_left ih
    simp only [lenN, LenU, lenL_map, LenL_map, e]
    simp
    exact min_sum 1000 (LenU most) l
  | alt l h2 hN h ih =>
    have e : l.map (lenN most) = l.map fun x => min (LenU most x) 1000 := List.map_congr_left ih
    simp only [lenN, LenU, lenL_map, LenL_map, e]
    simp
    rw [min_best]
    omega
  | rep m n t h0 h1 h2 h3 h ih =>
    simp only [lenN, LenU, lenL_map, LenL_map]
    simp [bestN]
    rw [ih]
    exact min_mul _ _ _

/-! Words are as long as that. -/
theorem bestN_mem_le (l : List Nat) (x : Nat) (hx : x ∈ l) : bestN false l ≤ x ∧ x ≤ bestN true l := by
  have key : ∀ (l : List Nat) (a x : Nat), (x = a ∨ x ∈ l) → l.foldl (best1 false) a ≤ x ∧ x ≤ l.foldl (best1 true) a := by
    intro l
    induction l with
    | nil => intro a x h; simp at h; simp [h]
    | cons b l ih =>
      intro a x h
      simp only [List.foldl_cons]
      have hb0 : best1 false a b ≤ a ∧ best1 false a b ≤ b := by unfold best1; simp; omega
      have hb1 : a ≤ best1 true a b ∧ b ≤ best1 true a b := by unfold best1; simp; omega
      have hs0 := (ih (best1 false a b) (best1 false a b) (.inl rfl)).1
      have hs1 := (ih (best1 true a b) (best1 true a b) (.inl rfl)).2
      rcases h with rfl | h
      · omega
      · simp only [List.mem_cons] at h
        rcases h with rfl | h
        · omega
        · exact ⟨(ih _ x (.inr h)).1, (ih _ x (.inr h)).2⟩
  cases l with
  | nil => simp at hx
  | cons a l =>
    simp only [List.mem_cons] at hx
    exact key l a x hx
theorem iter_len {xs : List Int} {t : T} (h : ∀ i j, i ≤ xs.length → E xs t i j → i + LenU false t ≤ j ∧ j ≤ i + LenU true t) (hwf : WF t) : ∀ (m i j : Nat), i ≤ xs.length → iter (E xs t) m i j → i + m * LenU false t ≤ j ∧ j ≤ i + m * LenU true t
  | 0, i, j, hi, e => by have e' : i = j := e; omega
  | m + 1, i, j, hi, ⟨k, h1, h2⟩ => by
    have a := iter_len h hwf m i k hi h1
    have b := h k j (iter_bd (E_bd hwf) m i k hi h1).2 h2
    rw [Nat.add_mul, Nat.add_mul]
    omega
theorem E_len {xs : List Int} {t : T} (ht : WF t) : ∀ i j, i ≤ xs.length → E xs t i j → i + LenU false t ≤ j ∧ j ≤ i + LenU true t := by
  induction ht with
  | one p => intro i j hi h; rw [E_one] at h; simp [LenU]; omega
  | cat l h2 hN h ih =>
    intro i j hi hE
    rw [E_cat] at hE
    have e0 : LenU false (.mk 2 noneP 0 0 l) = (LenL false l).sum := by simp [LenU]
    have e1 : LenU true (.mk 2 noneP 0 0 l) = (LenL true l).sum := by simp [LenU]
    rw [e0, e1]
    clear h2 hN e0 e1
    induction l generalizing i with
    | nil => have e : i = j := hE; simp [LenL]; omega
    | cons t ts ih' =>
      obtain ⟨k, h1, h3⟩ := hE
      have a := ih t (by simp) i k hi h1
      have b := ih' (fun x hx => h x (by simp [hx])) (fun x hx => ih x (by simp [hx])) k (E_bd (h t (by simp)) i k hi h1).2 h3
      simp only [LenL, List.sum_cons]
      omega
  | alt l h2 hN h ih =>
    intro i j hi hE
    rw [E_alt, EAny_iff] at hE
    obtain ⟨t, ht, hE⟩ := hE
    have a := ih t ht i j hi hE
    have e0 : LenU false (.mk 3 noneP 0 0 l) = bestN false (LenL false l) := by simp [LenU]
    have e1 : LenU true (.mk 3 noneP 0 0 l) = bestN true (LenL true l) := by simp [LenU]
    have b := (bestN_mem_le (LenL false l) (LenU false t) (by rw [LenL_map]; exact List.mem_map_of_mem ht)).1
    have c := (bestN_mem_le (LenL true l) (LenU true t) (by rw [LenL_map]; exact List.mem_map_of_mem ht)).2
    omega
  | rep m n t h0 h1 h2 h3 h ih =>
    intro i j hi hE
    rw [E_rep] at hE
    obtain ⟨k, h4, h5, hE⟩ := hE
    rw [EAny_one] at hE
    have a := iter_len ih h k i j hi hE
    have e0 : LenU false (.mk 4 noneP m n [t]) = m.toNat * LenU false t := by simp [LenU, LenL, bestN]
    have e1 : LenU true (.mk 4 noneP m n [t]) = n.toNat * LenU true t := by simp [LenU, LenL, bestN]
    rw [e0, e1]
    have b : m.toNat * LenU false t ≤ k * LenU false t := Nat.mul_le_mul_right _ (by omega)
    have c : k * LenU true t ≤ n.toNat * LenU true t := Nat.mul_le_mul_right _ (by omega)
    omega

end Go.Proofs.YtlnanelejaddiaaDoor

/-
  lang.span: how many bytes a word has at least and at most, held to a limit. Contracts for other texts; no statement of its own.
-/
namespace Go.Proofs.YtlnanelejaddiaaDoor
open Go Go.RowKit
attribute [local go_sem ↓] Go.wp_at_zero Go.wp_at_succ

/-- The cells of a node lie at that place. -/
def NodeAt (w : World) (g o : Nat) (t : T) (k : Value) : Prop := ∀ q v, (nodeC t k)[q]? = some v → w.cell? ⟨g, o + q, none⟩ = some v
theorem NodeAt.lt {w : World} {g o : Nat} {t : T} {k : Value} (h : NodeAt w g o t k) : g < w.heap.size := World.block_lt_of_cell? w ⟨g, o + 0, none⟩ (h 0 _ rfl)
theorem NodeAt.stays {w w' : World} {g o : Nat} {t : T} {k : Value} (h : NodeAt w g o t k) (hb : Below w.heap.size w w') : NodeAt w' g o t k := fun q v e => cell_stays (h q v e) hb
theorem NodeAt.kid {w : World} {ok : Nat → Prop} {t : T} {A : Option Addr} {n c : Nat} (h : Tree w ok t (.slice A n c)) (i : Nat) (hi : i < t.kids.length) :
    ∃ g B m d, A = some ⟨g, 0, none⟩ ∧ Tree w ok (t.kids[i]'hi) (.slice B m d) ∧ NodeAt w g (i * 8) (t.kids[i]'hi) (.slice B m d) := by
  obtain ⟨g, B, m1, m2, e1, hg1, htk, hcells⟩ := kid8 h i (List.getElem?_eq_getElem hi)
  exact ⟨g, B, m1, m2, e1, htk, fun q v e => by rw [Nat.mul_comm i 8]; exact hcells q v e⟩

theorem sumL_take (most : Bool) (l : List T) (j : Nat) (h : j < l.length) : (LenL most (l.take (j + 1))).sum = (LenL most (l.take j)).sum + LenU most (l[j]'h) := by
  rw [List.take_succ_eq_append_getElem h, LenL_map, LenL_map, List.map_append, List.sum_append]
  simp only [List.map_cons, List.map_nil, List.sum_cons, List.sum_nil, Nat.add_zero]
/-- The least of all and the limit; the greatest of all. -/
def fold0 (L : Nat) (l : List T) : Nat := (LenL false l).foldl (best1 false) L
def fold1 (l : List T) : Nat := (LenL true l).foldl (best1 true) 0
theorem fold0_take (L : Nat) (l : List T) (j : Nat) (h : j < l.length) : fold0 L (l.take (j + 1)) = min (fold0 L (l.take j)) (LenU false (l[j]'h)) := by
  unfold fold0
  rw [List.take_succ_eq_append_getElem h, LenL_map, LenL_map, List.map_append, List.foldl_append]
  rfl
theorem fold1_take (l : List T) (j : Nat) (h : j < l.length) : fold1 (l.take (j + 1)) = max (fold1 (l.take j)) (LenU true (l[j]'h)) := by
  unfold fold1
  rw [List.take_succ_eq_append_getElem h, LenL_map, LenL_map, List.map_append, List.foldl_append]
  rfl
theorem fold0_le (L : Nat) : ∀ (l : List Nat) (a : Nat), a ≤ L → l.foldl (best1 false) a ≤ L
  | [], a, h => h
  | b :: l, a, h => fold0_le L l _ (by unfold best1; simp <;> omega)
theorem fold0_all (L : Nat) (l : List T) (h : 0 < l.length) : fold0 L l = min (bestN false (LenL false l)) L := by
  cases l with
  | nil => simp at h
  | cons t ts =>
    have key : ∀ (l : List Nat) (a : Nat), l.foldl (best1 false) (min L a) = min (l.foldl (best1 false) a) L := by
      intro l
      induction l with
      | nil => intro a; simp; omega
      | cons b l ih =>
        intro a
        simp only [List.foldl_cons]
        rw [show best1 false (min L a) b = min L (best1 false a b) by unfold best1; simp <;> omega, ih]
    exact key (LenL false ts) (LenU false t)
theorem fold1_all (l : List T) (h : 0 < l.length) : fold1 l = bestN true (LenL true l) := by
  cases l with
  | nil => simp at h
  | cons t ts =>
    unfold fold1
    simp only [LenL, List.foldl_cons, bestN]
    simp [best1]

def RetTwo (w : World) (a b : Nat) (e : Ending) (w' : World) : Prop := e = .returned (.tuple #[.int .i64 a, .int .i64 b]) ∧ Below w.heap.size w w'
theorem ret_two {a b : Nat} {x y : Int} {w w' : World} (h1 : x = a) (h2 : y = b) (hb : Below w.heap.size w w') : RetTwo w a b (.returned (.tuple #[.int .i64 x, .int .i64 y])) w' := by subst h1 h2; exact ⟨rfl, hb⟩

set_option maxRecDepth 20000 in
set_option maxHeartbeats 4000000 in
theorem span_n (L : Nat) (hL1 : 1 ≤ L) (hL2 : L ≤ 1000000) : ∀ (N : Nat) (t : T) (w : World) (ok : Nat → Prop) (k : Value) (g o : Nat), SizeOf.sizeOf t ≤ N → WF t → Tree w ok t k → NodeAt w g o t k →
    Calls Tryd.prog 22 #[.pointer (some ⟨g, o, none⟩), .int .i64 L] w (RetTwo w (min (LenU false t) L) (min (LenU true t) L)) := by
  intro N
  induction N with
  | zero => intro t w ok k g o h; obtain ⟨op, p, lo, hi, l⟩ := t; simp at h
  | succ N ih =>
  intro t w ok k g o hN hwf ht hna
  obtain ⟨A, n', c, rfl⟩ := ht.form
  obtain ⟨hn, hm⟩ := ht.bound
  have hlen := hwf.len
  rw [← hn] at hlen
  unfold maxLen at hm
  have hop := hwf.op_cases
  have HN := Lib.hid hn
  have HT := Lib.hid ht
  have HWF := Lib.hid hwf
  have IH := Lib.hid ih
  have HNA := Lib.hid hna
  have hlu : ∀ most, LenU most t = if t.op = 1 then 1 else if t.op = 2 then (LenL most t.kids).sum else if t.op = 3 then bestN most (LenL most t.kids) else if t.op = 4 then (if most then t.hi else t.lo).toNat * bestN most (LenL most t.kids) else 0 := by intro most; cases t; rfl
  have c0 : w.cell? ⟨g, o, none⟩ = _ := hna 0 _ rfl
  have c5 := hna 5 _ rfl
  have c6 := hna 6 _ rfl
  have c7 := hna 7 _ rfl
  have hB := Below.refl w.heap.size w
  clear hn ih hwf ht hna
  rcases hop with ⟨h, h2, z1, z2⟩ | ⟨h, h2, h3, z1, z2⟩ | ⟨h, h2, h3, z1, z2⟩ | ⟨h, h2, h3, h4, h5, h6⟩
  · have hb1 : (t.op == 1) = true := by simp [h]
    have e : ∀ most, LenU most t = 1 := fun most => by rw [hlu most, if_pos h]
    rw [e false, e true]
    clear h h2 z1 z2 e hlu
    go_enter Tryd.func22, Tryd.ntmps22
    go_wp2
    go_ret2
    exact ret_two (by omega) (by omega) hB
  · have hb1 : (t.op == 1) = false := by simp [h]
    have hb2 : (t.op == 2) = true := by simp [h]
    have e : ∀ most, LenU most t = (LenL most t.kids).sum := fun most => by rw [hlu most, if_neg (by omega), if_pos h]
    rw [e false, e true]
    clear h h2 z1 z2 e hlu
    go_enter Tryd.func22, Tryd.ntmps22
    go_wp2
    go_loopg [4, 5, 27] n' (fun m a b i wr => ∃ j : Nat, i = .int .i64 (j : Int) ∧ j ≤ n' ∧ m = n' - j ∧ a = .int .i64 ((min ((LenL false (t.kids.take j)).sum) L : Nat) : Int) ∧ b = .int .i64 ((min ((LenL true (t.kids.take j)).sum) L : Nat) : Int) ∧ Below w.heap.size w wr)
    case atStart => exact ⟨0, rfl, Nat.zero_le _, rfl, by simp [LenL], by simp [LenL], hB⟩
    case round =>
      obtain ⟨j, rfl, hj, hmj, rfl, rfl, hW⟩ := hrel
      have HMJ := Lib.hid hmj
      clear hmj c0 c5 c6 c7
      have c7 : wr.cell? ⟨g, o + 7, none⟩ = _ := (HNA.out.stays hW) 7 _ rfl
      by_cases hlt : j < n'
      · have hlt' : j < t.kids.length := by rw [← HN.out]; exact hlt
        obtain ⟨g', B, m1, m2, e1, htk, hnk⟩ := NodeAt.kid HT.out j hlt'
        subst e1
        have hks := kid_size t j hlt'
        have hwk := HWF.out.at j hlt'
        have hs0 := sumL_take false t.kids j hlt'
        have hs1 := sumL_take true t.kids j hlt'
        generalize t.kids[j] = u at *
        have HK := Lib.hid (fun w' (hb : Below wr.heap.size wr w') => IH.out u w' ok (.slice B m1 m2) g' (j * 8) (by omega) hwk ((htk.stays hW).stays hb) ((hnk.stays hW).stays hb))
        have HS0 := Lib.hid hs0
        have HS1 := Lib.hid hs1
        clear htk hnk hks hwk hs0 hs1
        unfold RetTwo at HK
        obtain ⟨a0, ha0⟩ : ∃ a, a = min ((LenL false (t.kids.take j)).sum) L := ⟨_, rfl⟩
        obtain ⟨a1, ha1⟩ : ∃ a, a = min ((LenL true (t.kids.take j)).sum) L := ⟨_, rfl⟩
        obtain ⟨b0, hb0⟩ : ∃ a, a = min (LenU false u) L := ⟨_, rfl⟩
        obtain ⟨b1, hb1'⟩ : ∃ a, a = min (LenU true u) L := ⟨_, rfl⟩
        rw [← hb0, ← hb1'] at HK
        rw [← ha0, ← ha1]
        have la0 : a0 ≤ L := by omega
        have la1 : a1 ≤ L := by omega
        have lb0 : b0 ≤ L := by omega
        have lb1 : b1 ≤ L := by omega
        have HA0 := Lib.hid ha0
        have HA1 := Lib.hid ha1
        have HB0 := Lib.hid hb0
        have HB1 := Lib.hid hb1'
        clear ha0 ha1 hb0 hb1'
        go_wp2_with (go_at_call 22; (with_reducible refine (HK.out _ (Below.refl _ _)).mono ?_); rintro e w5 ⟨rfl, hb5⟩)
        all_goals
          go_roundg (n' - (j + 1))
          case measure => have := HMJ.out; omega
          case rel =>
            have q0 := HA0.out
            have q1 := HA1.out
            have q2 := HB0.out
            have q3 := HB1.out
            refine ⟨j + 1, by go_num, by omega, rfl, ?_, ?_, gro hW hb5⟩
            · rw [HS0.out]; refine congrArg (Value.int .i64) ?_; omega
            · rw [HS1.out]; refine congrArg (Value.int .i64) ?_; omega
      · have hjn : j = t.kids.length := by rw [← HN.out]; omega
        have hwhole : t.kids.take j = t.kids := by rw [hjn]; exact List.take_length
        rw [hwhole]
        go_wp2
        go_ret2
        exact ret_two rfl rfl hW
  · have hb1 : (t.op == 1) = false := by simp [h]
    have hb2 : (t.op == 2) = false := by simp [h]
    have hb3 : (t.op == 3) = true := by simp [h]
    have e : ∀ most, LenU most t = bestN most (LenL most t.kids) := fun most => by rw [hlu most, if_neg (by omega), if_neg (by omega), if_pos h]
    have hk0 : 0 < t.kids.length := by omega
    rw [e false, e true, ← fold0_all L t.kids hk0, ← fold1_all t.kids hk0]
    clear hk0
    clear h h2 z1 z2 e hlu
    go_enter Tryd.func22, Tryd.ntmps22
    go_wp2
    go_loopg [4, 5, 60] n' (fun m a b i wr => ∃ j : Nat, i = .int .i64 (j : Int) ∧ j ≤ n' ∧ m = n' - j ∧ a = .int .i64 ((fold0 L (t.kids.take j) : Nat) : Int) ∧ b = .int .i64 ((min (fold1 (t.kids.take j)) L : Nat) : Int) ∧ Below w.heap.size w wr)
    case atStart => exact ⟨0, rfl, Nat.zero_le _, rfl, by simp [LenL, fold0], by simp [LenL, fold1], hB⟩
    case round =>
      obtain ⟨j, rfl, hj, hmj, rfl, rfl, hW⟩ := hrel
      have HMJ := Lib.hid hmj
      clear hmj c0 c5 c6 c7
      have c7 : wr.cell? ⟨g, o + 7, none⟩ = _ := (HNA.out.stays hW) 7 _ rfl
      by_cases hlt : j < n'
      · have hlt' : j < t.kids.length := by rw [← HN.out]; exact hlt
        obtain ⟨g', B, m1, m2, e1, htk, hnk⟩ := NodeAt.kid HT.out j hlt'
        subst e1
        have hks := kid_size t j hlt'
        have hwk := HWF.out.at j hlt'
        have hs0 := fold0_take L t.kids j hlt'
        have hs1 := fold1_take t.kids j hlt'
        generalize t.kids[j] = u at *
        have HK := Lib.hid (fun w' (hb : Below wr.heap.size wr w') => IH.out u w' ok (.slice B m1 m2) g' (j * 8) (by omega) hwk ((htk.stays hW).stays hb) ((hnk.stays hW).stays hb))
        have HS0 := Lib.hid hs0
        have HS1 := Lib.hid hs1
        clear htk hnk hks hwk hs0 hs1
        unfold RetTwo at HK
        obtain ⟨a0, ha0⟩ : ∃ a, a = fold0 L (t.kids.take j) := ⟨_, rfl⟩
        obtain ⟨a1, ha1⟩ : ∃ a, a = min (fold1 (t.kids.take j)) L := ⟨_, rfl⟩
        obtain ⟨b0, hb0⟩ : ∃ a, a = min (LenU false u) L := ⟨_, rfl⟩
        obtain ⟨b1, hb1'⟩ : ∃ a, a = min (LenU true u) L := ⟨_, rfl⟩
        rw [← hb0, ← hb1'] at HK
        rw [← ha0, ← ha1]
        have la0 : a0 ≤ L := by rw [ha0]; exact fold0_le L _ L (Nat.le_refl _)
        have la1 : a1 ≤ L := by omega
        have lb0 : b0 ≤ L := by omega
        have lb1 : b1 ≤ L := by omega
        have HA0 := Lib.hid ha0
        have HA1 := Lib.hid ha1
        have HB0 := Lib.hid hb0
        have HB1 := Lib.hid hb1'
        clear ha0 ha1 hb0 hb1'
        go_wp2_with (go_at_call 22; (with_reducible refine (HK.out _ (Below.refl _ _)).mono ?_); rintro e w5 ⟨rfl, hb5⟩)
        all_goals
          go_roundg (n' - (j + 1))
          case measure => have := HMJ.out; omega
          case rel =>
            have q0 := HA0.out
            have q1 := HA1.out
            have q2 := HB0.out
            have q3 := HB1.out
            refine ⟨j + 1, by go_num, by omega, rfl, ?_, ?_, gro hW hb5⟩
            · rw [HS0.out]; refine congrArg (Value.int .i64) ?_; omega
            · rw [HS1.out]; refine congrArg (Value.int .i64) ?_; omega
      · have hjn : j = t.kids.length := by rw [← HN.out]; omega
        have hwhole : t.kids.take j = t.kids := by rw [hjn]; exact List.take_length
        rw [hwhole]
        go_wp2
        go_ret2
        exact ret_two rfl rfl hW
  · have hb1 : (t.op == 1) = false := by simp [h]
    have hb2 : (t.op == 2) = false := by simp [h]
    have hb3 : (t.op == 3) = false := by simp [h]
    have hb4 : (t.op == 4) = true := by simp [h]
    have h0 : 0 < t.kids.length := by omega
    have hn3 : (0 : Int) < (n' : Int) := by rw [HN.out]; omega
    have hone : ∀ most, bestN most (LenL most t.kids) = LenU most (t.kids[0]'h0) := by
      intro most
      obtain ⟨u, hu⟩ := List.length_eq_one_iff.1 h2
      simp [hu, LenL, bestN]
    have e : ∀ most, LenU most t = (if most then t.hi else t.lo).toNat * LenU most (t.kids[0]'h0) := fun most => by rw [hlu most, if_neg (by omega), if_neg (by omega), if_neg (by omega), if_pos h, hone]
    rw [e false, e true]
    obtain ⟨g', B, m1, m2, e1, htk, hnk⟩ := NodeAt.kid HT.out 0 h0
    subst e1
    have hks := kid_size t 0 h0
    have hwk := HWF.out.at 0 h0
    generalize t.kids[0] = u at *
    have HK := Lib.hid (fun w' (hb : Below w.heap.size w w') => IH.out u w' ok (.slice B m1 m2) g' (0 * 8) (by omega) hwk (htk.stays hb) (hnk.stays hb))
    rw [Nat.zero_mul] at HK
    unfold RetTwo at HK
    obtain ⟨lo, hlo⟩ : ∃ x : Nat, t.lo = x := ⟨t.lo.toNat, by omega⟩
    obtain ⟨hi, hhi⟩ : ∃ x : Nat, t.hi = x := ⟨t.hi.toNat, by omega⟩
    have hloV : lo ≤ 32 := by omega
    have hhiV : hi ≤ 32 := by omega
    have e0 : min ((if false = true then t.hi else t.lo).toNat * LenU false u) L = min (lo * min (LenU false u) L) L := by rw [min_mul]; simp [hlo]
    have e1 : min ((if true = true then t.hi else t.lo).toNat * LenU true u) L = min (hi * min (LenU true u) L) L := by rw [min_mul]; simp [hhi]
    rw [e0, e1]
    generalize hb0 : min (LenU false u) L = b0 at *
    generalize hb1' : min (LenU true u) L = b1 at *
    have lb0 : b0 ≤ L := by omega
    have lb1 : b1 ≤ L := by omega
    have pr0 : lo * b0 ≤ 32 * 1000000 := Nat.mul_le_mul hloV (by omega)
    have pr1 : hi * b1 ≤ 32 * 1000000 := Nat.mul_le_mul hhiV (by omega)
    have f0 : (lo : Int) * (b0 : Int) = ((lo * b0 : Nat) : Int) := by simp
    have f1 : (hi : Int) * (b1 : Int) = ((hi * b1 : Nat) : Int) := by simp
    rw [hlo] at c5
    rw [hhi] at c6
    have i0 : (0 : Int) ≤ (lo : Int) * (b0 : Int) := by rw [f0]; omega
    have i1 : (lo : Int) * (b0 : Int) ≤ 9223372036854775807 := by rw [f0]; omega
    have i2 : (0 : Int) ≤ (hi : Int) * (b1 : Int) := by rw [f1]; omega
    have i3 : (hi : Int) * (b1 : Int) ≤ 9223372036854775807 := by rw [f1]; omega
    have F0 := Lib.hid f0
    have F1 := Lib.hid f1
    clear h hlu hone e e0 e1 htk hnk hks hwk h2 h3 h4 h5 h6 hlo hhi hb0 hb1' f0 f1 h0 pr0 pr1
    generalize hP0 : lo * b0 = P0 at *
    generalize hP1 : hi * b1 = P1 at *
    clear hP0 hP1
    go_enter Tryd.func22, Tryd.ntmps22
    go_wp2_with (go_at_call 22; (with_reducible refine (HK.out _ (Below.refl _ _)).mono ?_); rintro e w5 ⟨rfl, hb5⟩; have d5 := cell_stays c5 hb5; have d6 := cell_stays c6 hb5)
    by_cases q0 : (lo : Int) * (b0 : Int) ≤ (L : Int)
    all_goals
      by_cases q1 : (hi : Int) * (b1 : Int) ≤ (L : Int)
      all_goals
        go_region
        all_goals
          go_wp2
          go_ret2
          have g0 := F0.out
          have g1 := F1.out
          exact ret_two (by omega) (by omega) (hb5.drew)

theorem span_p {t : T} {k : Value} {ok : Nat → Prop} (w : World) (L : Nat) (hL1 : 1 ≤ L) (hL2 : L ≤ 1000000) (g o : Nat) (hwf : WF t) (ht : Tree w ok t k) (hn : NodeAt w g o t k) :
    Calls Tryd.prog 22 #[.pointer (some ⟨g, o, none⟩), .int .i64 L] w (RetTwo w (min (LenU false t) L) (min (LenU true t) L)) :=
  span_n L hL1 hL2 _ t w ok k g o (Nat.le_refl _) hwf ht hn

end Go.Proofs.YtlnanelejaddiaaDoor

/-
  Package lang, type part: what is known of all parts in memory, as of typed memory; kid. Contracts for other texts; no statement of its own.
-/
namespace Go.Proofs.YtlnanelejaddiaaDoor
open Go Go.RowKit
attribute [local go_sem ↓] Go.wp_at_zero Go.wp_at_succ

/-- Which pattern a part's cells, and a list of places by starts, are of; which blocks of places stand in such a list. -/
structure Ghost where
  F : Nat → Nat → Option T
  G : Nat → Option T
  M : Nat → Prop

section
variable (w : World) (B : Nat) (xs : List Int) (Γ : Ghost)
/-- A part's four cells. -/
structure PartOk (g o : Nat) (t : T) : Prop where
  four : o % 4 = 0
  block : ∃ cur, w.heap[g]? = some (.cells cur 58 (0, 0))
  wf : WF t
  node : ∃ gn on kn, w.cell? ⟨g, o, none⟩ = some (.pointer (some ⟨gn, on, none⟩)) ∧ NodeAt w gn on t kn ∧ Tree w (fun _ => True) t kn ∧ ∃ cur, w.heap[gn]? = some (.cells cur 29 (0, 0))
  kids : w.cell? ⟨g, o + 1, none⟩ = some (.slice none 0 0) ∨ ∃ gk, w.cell? ⟨g, o + 1, none⟩ = some (.slice (some ⟨gk, 0, none⟩) t.kids.length t.kids.length) ∧ ∀ (i : Nat) (hi : i < t.kids.length), Γ.F gk (i * 4) = some (t.kids[i]'hi)
  asked : ∃ a : Nat, w.cell? ⟨g, o + 2, none⟩ = some (.int .i64 a) ∧ a ≤ xs.length + 1
  starts : w.cell? ⟨g, o + 3, none⟩ = some (.slice none 0 0) ∨ ∃ gf, w.cell? ⟨g, o + 3, none⟩ = some (.slice (some ⟨gf, 0, none⟩) (xs.length + 1) (xs.length + 1)) ∧ Γ.G gf = some t
/-- A list of places by starts. -/
structure FromOk (gf : Nat) (t : T) : Prop where
  block : ∃ cur, w.heap[gf]? = some (.cells cur 60 (0, 0))
  cells : ∀ i, i ≤ xs.length → ∃ v, w.cell? ⟨gf, i, none⟩ = some v ∧ (v = .slice none 0 0 ∨ ∃ q : Nat → Bool, Pl w B v (xs.length / 64 + 1) q ∧ (∀ g, v.ownBlock = some g → Γ.M g) ∧ ∀ j, q j = true ↔ E xs t i j)
structure Inv : Prop where
  part : ∀ g o t, Γ.F g o = some t → B ≤ g ∧ PartOk w xs Γ g o t
  starts : ∀ gf t, Γ.G gf = some t → B ≤ gf ∧ FromOk w B xs Γ gf t
end

/-- Not of the two kinds of blocks that change. -/
def Still (w : World) (b : Nat) : Prop := b < w.heap.size ∧ (∀ cur, w.heap[b]? ≠ some (.cells cur 58 (0, 0))) ∧ ∀ cur, w.heap[b]? ≠ some (.cells cur 60 (0, 0))
theorem still_of {w : World} {b : Nat} {cur : Array Value} {ty : TypeId} (h : w.heap[b]? = some (.cells cur ty (0, 0))) (h1 : ty ≠ 58) (h2 : ty ≠ 60) : Still w b :=
  ⟨lt_of_some h, fun c e => by rw [h] at e; injection e with e; injection e with _ e _; exact h1 e, fun c e => by rw [h] at e; injection e with e; injection e with _ e _; exact h2 e⟩
/-- What a call on parts leaves. -/
structure Ext (B : Nat) (w w' : World) (Γ Γ' : Ghost) : Prop where
  below : Below B w w'
  F : ∀ g o t, Γ.F g o = some t → Γ'.F g o = some t
  G : ∀ g t, Γ.G g = some t → Γ'.G g = some t
  M : ∀ g, Γ.M g → Γ'.M g
  new : ∀ g, Γ'.M g → Γ.M g ∨ w.heap.size ≤ g
  still : ∀ b, Still w b → w'.heap[b]? = w.heap[b]?
  stay : ∀ g o t, Γ.F g o = some t → ∀ j, j = 1 ∨ j = 3 → ∀ v, w.cell? ⟨g, o + j, none⟩ = some v → v ≠ .slice none 0 0 → w'.cell? ⟨g, o + j, none⟩ = some v
  box : ∀ (b : Nat) (cur : Array Value), w.heap[b]? = some (.cells cur 60 (0, 0)) → (∀ t, Γ.G b ≠ some t) → w'.heap[b]? = w.heap[b]?
  newG : ∀ g t, Γ'.G g = some t → Γ.G g = some t ∨ w.heap.size ≤ g
theorem Ext.refl (B : Nat) (w : World) (Γ : Ghost) : Ext B w w Γ Γ := ⟨Below.refl _ _, fun _ _ _ h => h, fun _ _ h => h, fun _ h => h, fun _ h => .inl h, fun _ _ => rfl, fun _ _ _ _ _ _ _ h _ => h, fun _ _ _ _ => rfl, fun _ _ e => .inl e⟩
theorem Still.ext {B : Nat} {w w' : World} {Γ Γ' : Ghost} {b : Nat} (h : Ext B w w' Γ Γ') (hs : Still w b) : Still w' b := by
  have e := h.still b hs
  exact ⟨Nat.lt_of_lt_of_le hs.1 h.below.size, fun c => by rw [e]; exact hs.2.1 c, fun c => by rw [e]; exact hs.2.2 c⟩
theorem Ext.trans {B : Nat} {w w' w'' : World} {Γ Γ' Γ'' : Ghost} (h : Ext B w w' Γ Γ') (k : Ext B w' w'' Γ' Γ'') : Ext B w w'' Γ Γ'' :=
  ⟨h.below.trans k.below, fun g o t e => k.F g o t (h.F g o t e), fun g t e => k.G g t (h.G g t e), fun g e => k.M g (h.M g e), fun g e => by
    rcases k.new g e with e | e
    · exact h.new g e
    · exact .inr (Nat.le_trans h.below.size e), fun b hs => (k.still b (hs.ext h)).trans (h.still b hs), fun g o t e j hj v hv hn => k.stay g o t (h.F g o t e) j hj v (h.stay g o t e j hj v hv hn) hn, fun b cur e hG => by
    have e1 := h.box b cur e hG
    refine (k.box b cur (e1.trans e) fun t e2 => ?_).trans e1
    rcases h.newG b t e2 with e2 | e2
    · exact hG t e2
    · have := lt_of_some e
      omega, fun g t e => by
    rcases k.newG g t e with e | e
    · exact h.newG g t e
    · exact .inr (Nat.le_trans h.below.size e)⟩
theorem Tree.ext {B : Nat} {w w' : World} {Γ Γ' : Ghost} {t : T} {k : Value} (ht : Tree w (fun _ => True) t k) (h : Ext B w w' Γ Γ') : Tree w' (fun _ => True) t k :=
  ht.mono fun b _ _ ⟨cur, e⟩ => ⟨h.still b (still_of e (by decide) (by decide)), trivial⟩
theorem Pl.ext {B C m : Nat} {w w' : World} {Γ Γ' : Ghost} {v : Value} {q : Nat → Bool} (hp : Pl w C v m q) (h : Ext B w w' Γ Γ') : Pl w' C v m q := by
  refine ⟨hp.1, ?_⟩
  rcases hp.2 with hn | ⟨g, cap, cur, rfl, hb, hg, rest⟩
  · exact .inl hn
  · exact .inr ⟨g, cap, cur, rfl, hb, (h.still g (still_of hg (by decide) (by decide))).trans hg, rest⟩

section
variable {w w' : World} {B : Nat} {xs : List Int} {Γ Γ' : Ghost} {g o : Nat} {t : T}
theorem NodeAt.block {g o : Nat} {k : Value} (h : NodeAt w g o t k) (hb : w'.heap[g]? = w.heap[g]?) : NodeAt w' g o t k := fun q v e => (World.cell?_of_block (w := w) (a := ⟨g, o + q, none⟩) hb).trans (h q v e)
theorem tree_still {k : Value} (ht : Tree w (fun _ => True) t k) (hs : ∀ b, Still w b → w'.heap[b]? = w.heap[b]?) : Tree w' (fun _ => True) t k :=
  ht.mono fun b _ _ ⟨cur, e⟩ => ⟨hs b (still_of e (by decide) (by decide)), trivial⟩
theorem pl_still {C m : Nat} {v : Value} {q : Nat → Bool} (hp : Pl w C v m q) (hs : ∀ b, Still w b → w'.heap[b]? = w.heap[b]?) : Pl w' C v m q := by
  refine ⟨hp.1, ?_⟩
  rcases hp.2 with hn | ⟨g, cap, cur, rfl, hb, hg, rest⟩
  · exact .inl hn
  · exact .inr ⟨g, cap, cur, rfl, hb, (hs g (still_of hg (by decide) (by decide))).trans hg, rest⟩
/-- A part is one still, if its cells are, and nothing of another kind has changed. -/
theorem PartOk.kept (h : PartOk w xs Γ g o t) (hs : ∀ b, Still w b → w'.heap[b]? = w.heap[b]?) (hF : ∀ g o t, Γ.F g o = some t → Γ'.F g o = some t) (hG : ∀ g t, Γ.G g = some t → Γ'.G g = some t)
    (hb : ∃ cur, w'.heap[g]? = some (.cells cur 58 (0, 0))) (hc : ∀ j, j < 4 → w'.cell? ⟨g, o + j, none⟩ = w.cell? ⟨g, o + j, none⟩) : PartOk w' xs Γ' g o t := by
  obtain ⟨gn, on, kn, h1, h2, h3, cur, h4⟩ := h.node
  have e := hs gn (still_of h4 (by decide) (by decide))
  refine ⟨h.four, hb, h.wf, ⟨gn, on, kn, (hc 0 (by omega)).trans h1, h2.block e, tree_still h3 hs, cur, e.trans h4⟩, ?_, ?_, ?_⟩
  · rcases h.kids with k | ⟨gk, k1, k2⟩
    · exact .inl ((hc 1 (by omega)).trans k)
    · exact .inr ⟨gk, (hc 1 (by omega)).trans k1, fun i hi => hF _ _ _ (k2 i hi)⟩
  · obtain ⟨a, a1, a2⟩ := h.asked
    exact ⟨a, (hc 2 (by omega)).trans a1, a2⟩
  · rcases h.starts with k | ⟨gf, k1, k2⟩
    · exact .inl ((hc 3 (by omega)).trans k)
    · exact .inr ⟨gf, (hc 3 (by omega)).trans k1, hG _ _ k2⟩
theorem FromOk.kept (h : FromOk w B xs Γ g t) (hs : ∀ b, Still w b → w'.heap[b]? = w.heap[b]?) (hM : ∀ g, Γ.M g → Γ'.M g)
    (hb : ∃ cur, w'.heap[g]? = some (.cells cur 60 (0, 0))) (hc : ∀ i, i ≤ xs.length → w'.cell? ⟨g, i, none⟩ = w.cell? ⟨g, i, none⟩) : FromOk w' B xs Γ' g t := by
  refine ⟨hb, fun i hi => ?_⟩
  obtain ⟨v, h1, h2⟩ := h.cells i hi
  refine ⟨v, (hc i hi).trans h1, ?_⟩
  rcases h2 with h2 | ⟨q, h3, h4, h5⟩
  · exact .inl h2
  · exact .inr ⟨q, pl_still h3 hs, fun g e => hM g (h4 g e), h5⟩
/-- All old blocks are as they were. -/
theorem Inv.stays (h : Inv w B xs Γ) (hb : Below w.heap.size w w') : Inv w' B xs Γ := by
  have hs : ∀ b, Still w b → w'.heap[b]? = w.heap[b]? := fun b hb' => hb.block b hb'.1
  refine ⟨fun g o t e => ?_, fun gf t e => ?_⟩
  · obtain ⟨h1, h2⟩ := h.part g o t e
    obtain ⟨cur, hc⟩ := h2.block
    have hg := lt_of_some hc
    exact ⟨h1, h2.kept hs (fun _ _ _ h => h) (fun _ _ h => h) ⟨cur, (hb.block g hg).trans hc⟩ fun j _ => hb.cell (p := ⟨g, o + j, none⟩) hg⟩
  · obtain ⟨h1, h2⟩ := h.starts gf t e
    obtain ⟨cur, hc⟩ := h2.block
    have hg := lt_of_some hc
    exact ⟨h1, h2.kept hs (fun _ h => h) ⟨cur, (hb.block gf hg).trans hc⟩ fun i _ => hb.cell (p := ⟨gf, i, none⟩) hg⟩
theorem Ext.stays (Γ : Ghost) (hb : Below w.heap.size w w') (hB : B ≤ w.heap.size) : Ext B w w' Γ Γ :=
  ⟨hb.mono hB, fun _ _ _ h => h, fun _ _ h => h, fun _ h => h, fun _ h => .inl h, fun b hs => hb.block b hs.1, fun g o t _ j _ v hv _ => cell_stays hv hb, fun b cur e _ => hb.block b (lt_of_some e), fun _ _ e => .inl e⟩
theorem part_set {g' o' j k : Nat} (h : o % 4 = 0) (h' : o' % 4 = 0) (hj : j < 4) (hk : k < 4) (e : (⟨g, o + j, none⟩ : Addr) = ⟨g', o' + k, none⟩) : g = g' ∧ o = o' ∧ j = k := by
  injection e with e1 e2
  omega
/-- A block of one kind is none of another. -/
theorem kind_ne {b c : Nat} {cur cur' : Array Value} {ty ty' : TypeId} (h : w.heap[b]? = some (.cells cur ty (0, 0))) (h' : w.heap[c]? = some (.cells cur' ty' (0, 0))) (hne : ty ≠ ty') : b ≠ c := by
  intro e
  subst e
  rw [h] at h'
  injection h' with h'
  injection h' with _ e _
  exact hne e
theorem set_block {b i : Nat} {cur : Array Value} {ty : TypeId} (h : w.heap[b]? = some (.cells cur ty (0, 0))) (p : Addr) (v : Value) : ∃ cur', (w.setCell p v).heap[b]? = some (.cells cur' ty (0, 0)) := by
  by_cases e : b = p.block
  · subst e
    exact ⟨_, by simp [World.setCell, Array.getElem?_modify, h]; rfl⟩
  · exact ⟨cur, (Below.heap_setCell w p v b e).trans h⟩
theorem cell_other {a b : Addr} {v : Value} (h : a ≠ b) : (w.setCell a v).cell? b = w.cell? b := by
  rw [World.cell?_setCell_other]
  exact h
theorem set_still (h : Inv w B xs Γ) (e : Γ.F g o = some t) (j : Nat) (v : Value) (b : Nat) (hs : Still w b) : (w.setCell ⟨g, j, none⟩ v).heap[b]? = w.heap[b]? := by
  obtain ⟨cur, hc⟩ := (h.part g o t e).2.block
  exact Below.heap_setCell w _ v b (fun e' => hs.2.1 cur (by rw [e']; exact hc))
theorem set_from {gf : Nat} (h : Inv w B xs Γ) (e : Γ.G gf = some t) (j : Nat) (v : Value) (b : Nat) (hs : Still w b) : (w.setCell ⟨gf, j, none⟩ v).heap[b]? = w.heap[b]? := by
  obtain ⟨cur, hc⟩ := (h.starts gf t e).2.block
  exact Below.heap_setCell w _ v b (fun e' => hs.2.2 cur (by rw [e']; exact hc))
/-- The other parts, when one cell of one part is stored anew. -/
theorem other_part {g' o' j : Nat} {t' : T} (h : Inv w B xs Γ) (e : Γ.F g o = some t) (e' : Γ.F g' o' = some t') (hne : ¬ (g' = g ∧ o' = o)) (hj : j < 4) (v : Value) (hF : ∀ g o t, Γ.F g o = some t → Γ'.F g o = some t) (hG : ∀ g t, Γ.G g = some t → Γ'.G g = some t) :
    PartOk (w.setCell ⟨g, o + j, none⟩ v) xs Γ' g' o' t' := by
  have k := (h.part g o t e).2
  have k' := (h.part g' o' t' e').2
  obtain ⟨cur, hc⟩ := k'.block
  refine k'.kept (set_still h e _ v) hF hG (set_block (i := 0) hc _ v) fun i hi => cell_other fun ea => hne ?_
  have := part_set k.four k'.four hj hi ea
  exact ⟨this.1.symm, this.2.1.symm⟩
theorem other_from {gf j : Nat} {t' : T} (h : Inv w B xs Γ) (e : Γ.F g o = some t) (e' : Γ.G gf = some t') (v : Value) (hM : ∀ g, Γ.M g → Γ'.M g) : FromOk (w.setCell ⟨g, j, none⟩ v) B xs Γ' gf t' := by
  have k := (h.part g o t e).2
  have k' := (h.starts gf t' e').2
  obtain ⟨cur, hc⟩ := k.block
  obtain ⟨cur', hc'⟩ := k'.block
  have hne := kind_ne hc hc' (by decide)
  exact k'.kept (set_still h e _ v) hM (set_block (i := 0) hc' _ v) fun i hi => cell_other fun ea => hne (by injection ea)
/-- How often it was asked is stored anew. -/
theorem Inv.ask (h : Inv w B xs Γ) (e : Γ.F g o = some t) (a : Nat) (ha : a ≤ xs.length + 1) : Inv (w.setCell ⟨g, o + 2, none⟩ (.int .i64 a)) B xs Γ ∧ Ext B w (w.setCell ⟨g, o + 2, none⟩ (.int .i64 a)) Γ Γ := by
  have k := (h.part g o t e).2
  have kB := (h.part g o t e).1
  have hid : ∀ g o t, Γ.F g o = some t → Γ.F g o = some t := fun _ _ _ h => h
  have hid2 : ∀ g t, Γ.G g = some t → Γ.G g = some t := fun _ _ h => h
  refine ⟨⟨fun g' o' t' e' => ?_, fun gf t' e' => ⟨(h.starts gf t' e').1, other_from h e e' _ fun _ h => h⟩⟩, ?_⟩
  · refine ⟨(h.part g' o' t' e').1, ?_⟩
    by_cases hne : g' = g ∧ o' = o
    · obtain ⟨rfl, rfl⟩ := hne
      rw [e] at e'
      injection e' with e'
      subst e'
      obtain ⟨cur, hc⟩ := k.block
      have hs := set_still h e (o' + 2) (.int .i64 a)
      have hcell : ∀ j, j < 4 → j ≠ 2 → (w.setCell ⟨g', o' + 2, none⟩ (.int .i64 a)).cell? ⟨g', o' + j, none⟩ = w.cell? ⟨g', o' + j, none⟩ := fun j hj hj2 => cell_other fun ea => by injection ea; omega
      obtain ⟨gn, on, kn, h1, h2, h3, cur2, h4⟩ := k.node
      have en := hs gn (still_of h4 (by decide) (by decide))
      obtain ⟨a0, h5, _⟩ := k.asked
      refine ⟨k.four, set_block (i := 0) hc _ _, k.wf, ⟨gn, on, kn, (hcell 0 (by omega) (by omega)).trans h1, h2.block en, tree_still h3 hs, cur2, en.trans h4⟩, ?_, ⟨a, World.cell?_setCell_same _ _ _ h5, ha⟩, ?_⟩
      · rcases k.kids with k1 | ⟨gk, k1, k2⟩
        · exact .inl ((hcell 1 (by omega) (by omega)).trans k1)
        · exact .inr ⟨gk, (hcell 1 (by omega) (by omega)).trans k1, k2⟩
      · rcases k.starts with k1 | ⟨gf, k1, k2⟩
        · exact .inl ((hcell 3 (by omega) (by omega)).trans k1)
        · exact .inr ⟨gf, (hcell 3 (by omega) (by omega)).trans k1, k2⟩
    · exact other_part h e e' hne (by omega) _ hid hid2
  · refine ⟨(Below.refl _ _).setCell (p := ⟨g, o + 2, none⟩) kB _, hid, hid2, fun _ h => h, fun _ h => .inl h, set_still h e _ _, fun g' o' t' e' j hj v hv hn => ?_, fun b cur eb _ => Below.heap_setCell w _ _ b (kind_ne eb k.block.choose_spec (by decide)), fun _ _ e => .inl e⟩
    rw [cell_other]
    · exact hv
    · intro ea
      have := part_set k.four (h.part g' o' t' e').2.four (by omega) (show j < 4 by omega) ea
      omega
/-- The ghost with a new row of kids. -/
def Ghost.row (Γ : Ghost) (gk : Nat) (t : T) : Ghost := { Γ with F := fun g o => if g = gk then (if o % 4 = 0 then t.kids[o / 4]? else none) else Γ.F g o }
theorem row_at' (Γ : Ghost) (gk i : Nat) (t : T) (hi : i < t.kids.length) : (Γ.row gk t).F gk (i * 4) = some (t.kids[i]'hi) := by
  simp [Ghost.row, hi]
theorem Inv.old (h : Inv w B xs Γ) (e : Γ.F g o = some t) : g < w.heap.size := by
  obtain ⟨cur, hc⟩ := (h.part g o t e).2.block
  exact lt_of_some hc
/-- A part's kids are laid. -/
theorem Inv.layKids (h : Inv w B xs Γ) (e : Γ.F g o = some t) (gk : Nat) (hgk : w.heap.size ≤ gk) (hB : B ≤ w.heap.size)
    (hblk : ∀ b, b < w.heap.size → b ≠ g → w'.heap[b]? = w.heap[b]?) (hg : ∃ cur, w'.heap[g]? = some (.cells cur 58 (0, 0)))
    (hc : ∀ j, j ≠ o + 1 → w'.cell? ⟨g, j, none⟩ = w.cell? ⟨g, j, none⟩) (hc1 : w'.cell? ⟨g, o + 1, none⟩ = some (.slice (some ⟨gk, 0, none⟩) t.kids.length t.kids.length))
    (hold : w.cell? ⟨g, o + 1, none⟩ = some (.slice none 0 0)) (hk : ∀ (i : Nat) (hi : i < t.kids.length), PartOk w' xs Γ gk (i * 4) (t.kids[i]'hi)) (hb : Below B w w') :
    Inv w' B xs (Γ.row gk t) ∧ Ext B w w' Γ (Γ.row gk t) := by
  have k := (h.part g o t e).2
  obtain ⟨curg, hcg⟩ := k.block
  have hF : ∀ g o t', Γ.F g o = some t' → (Γ.row gk t).F g o = some t' := fun g' o' t' e' => by
    have := h.old e'
    unfold Ghost.row
    simp only
    rw [if_neg (by omega)]
    exact e'
  have hs : ∀ b, Still w b → w'.heap[b]? = w.heap[b]? := fun b hb' => hblk b hb'.1 (fun e' => hb'.2.1 curg (by rw [e']; exact hcg))
  have hcells : ∀ g' o' t', Γ.F g' o' = some t' → ¬ (g' = g ∧ o' = o) → ∀ j, j < 4 → w'.cell? ⟨g', o' + j, none⟩ = w.cell? ⟨g', o' + j, none⟩ := fun g' o' t' e' hne j hj => by
    by_cases hgg : g' = g
    · subst hgg
      refine hc _ ?_
      have h1 := (h.part g' o' t' e').2.four
      have h2 := k.four
      intro e2
      exact hne ⟨rfl, by omega⟩
    · exact World.cell?_of_block (w := w) (a := ⟨g', o' + j, none⟩) (hblk g' (h.old e') hgg)
  refine ⟨⟨fun g' o' t' e' => ?_, fun gf t' e' => ?_⟩, ⟨hb, hF, fun _ _ h => h, fun _ h => h, fun _ h => .inl h, hs, fun g' o' t' e' j hj v hv hn => ?_, fun b cur eb _ => hblk b (lt_of_some eb) (kind_ne eb hcg (by decide)), fun _ _ e => .inl e⟩⟩
  · by_cases hgk' : g' = gk
    · subst hgk'
      unfold Ghost.row at e'
      simp only [if_true] at e'
      by_cases h4 : o' % 4 = 0
      · rw [if_pos h4] at e'
        obtain ⟨hi, e2⟩ := List.getElem?_eq_some_iff.1 e'
        have hp := hk (o' / 4) hi
        rw [e2, show o' / 4 * 4 = o' by omega] at hp
        obtain ⟨cur, hcur⟩ := hp.block
        exact ⟨by omega, hp.kept (fun _ _ => rfl) hF (fun _ _ h => h) ⟨cur, hcur⟩ fun _ _ => rfl⟩
      · rw [if_neg h4] at e'; cases e'
    · have e2 : Γ.F g' o' = some t' := by
        unfold Ghost.row at e'
        simp only at e'
        rwa [if_neg hgk'] at e'
      refine ⟨(h.part g' o' t' e2).1, ?_⟩
      have hp := (h.part g' o' t' e2).2
      by_cases hne : g' = g ∧ o' = o
      · obtain ⟨rfl, rfl⟩ := hne
        rw [e] at e2
        injection e2 with e2
        subst e2
        obtain ⟨gn, on, kn, h1, h2, h3, cur2, h4⟩ := k.node
        have en := hs gn (still_of h4 (by decide) (by decide))
        obtain ⟨a, a1, a2⟩ := k.asked
        refine ⟨k.four, hg, k.wf, ⟨gn, on, kn, (hc _ (by omega)).trans h1, h2.block en, tree_still h3 hs, cur2, en.trans h4⟩, .inr ⟨gk, hc1, fun i hi => row_at' Γ gk i t hi⟩, ⟨a, (hc _ (by omega)).trans a1, a2⟩, ?_⟩
        rcases k.starts with k1 | ⟨gf, k1, k2⟩
        · exact .inl ((hc _ (by omega)).trans k1)
        · exact .inr ⟨gf, (hc _ (by omega)).trans k1, k2⟩
      · refine hp.kept hs hF (fun _ _ h => h) ?_ (hcells g' o' t' e2 hne)
        obtain ⟨cur, hcur⟩ := hp.block
        by_cases hgg : g' = g
        · rw [hgg]; exact hg
        · exact ⟨cur, (hblk g' (h.old e2) hgg).trans hcur⟩
  · have hp := h.starts gf t' e'
    obtain ⟨cur, hcur⟩ := hp.2.block
    have hne := kind_ne hcur hcg (by decide)
    have heq := hblk gf (lt_of_some hcur) hne
    exact ⟨hp.1, hp.2.kept hs (fun _ h => h) ⟨cur, heq.trans hcur⟩ fun i _ => World.cell?_of_block (w := w) (a := ⟨gf, i, none⟩) heq⟩
  · by_cases hne : g' = g ∧ o' = o
    · obtain ⟨rfl, rfl⟩ := hne
      rcases hj with rfl | rfl
      · rw [hold] at hv
        injection hv with hv
        exact absurd hv.symm hn
      · exact (hc _ (by omega)).trans hv
    · exact (hcells g' o' t' e' hne j (by omega)).trans hv
end

end Go.Proofs.YtlnanelejaddiaaDoor

/-
  A list of places by starts is laid. Contracts for other texts; no statement of its own.
-/
namespace Go.Proofs.YtlnanelejaddiaaDoor
open Go Go.RowKit

/-- The ghost with a new list. -/
def Ghost.list (Γ : Ghost) (gf : Nat) (t : T) : Ghost := { Γ with G := fun g => if g = gf then some t else Γ.G g }

section
variable {w w' : World} {B : Nat} {xs : List Int} {Γ : Ghost} {g o : Nat} {t : T}
theorem Inv.oldG {gf : Nat} (h : Inv w B xs Γ) (e : Γ.G gf = some t) : gf < w.heap.size := by
  obtain ⟨cur, hc⟩ := (h.starts gf t e).2.block
  exact lt_of_some hc
theorem Inv.layFrom (h : Inv w B xs Γ) (e : Γ.F g o = some t) (gf : Nat) (hgf : w.heap.size ≤ gf) (hB : B ≤ w.heap.size)
    (hblk : ∀ b, b < w.heap.size → b ≠ g → w'.heap[b]? = w.heap[b]?) (hg : ∃ cur, w'.heap[g]? = some (.cells cur 58 (0, 0)))
    (hc : ∀ j, j ≠ o + 3 → w'.cell? ⟨g, j, none⟩ = w.cell? ⟨g, j, none⟩) (hc1 : w'.cell? ⟨g, o + 3, none⟩ = some (.slice (some ⟨gf, 0, none⟩) (xs.length + 1) (xs.length + 1)))
    (hold : w.cell? ⟨g, o + 3, none⟩ = some (.slice none 0 0)) (hk : FromOk w' B xs Γ gf t) (hb : Below B w w') :
    Inv w' B xs (Γ.list gf t) ∧ Ext B w w' Γ (Γ.list gf t) := by
  have k := (h.part g o t e).2
  obtain ⟨curg, hcg⟩ := k.block
  have hG : ∀ g' t', Γ.G g' = some t' → (Γ.list gf t).G g' = some t' := fun g' t' e' => by
    have := h.oldG e'
    unfold Ghost.list
    simp only
    rw [if_neg (by omega)]
    exact e'
  have hs : ∀ b, Still w b → w'.heap[b]? = w.heap[b]? := fun b hb' => hblk b hb'.1 (fun e' => hb'.2.1 curg (by rw [e']; exact hcg))
  have hcells : ∀ g' o' t', Γ.F g' o' = some t' → ¬ (g' = g ∧ o' = o) → ∀ j, j < 4 → w'.cell? ⟨g', o' + j, none⟩ = w.cell? ⟨g', o' + j, none⟩ := fun g' o' t' e' hne j hj => by
    by_cases hgg : g' = g
    · subst hgg
      refine hc _ ?_
      have h1 := (h.part g' o' t' e').2.four
      have h2 := k.four
      intro e2
      exact hne ⟨rfl, by omega⟩
    · exact World.cell?_of_block (w := w) (a := ⟨g', o' + j, none⟩) (hblk g' (h.old e') hgg)
  refine ⟨⟨fun g' o' t' e2 => ?_, fun gf' t' e' => ?_⟩, ⟨hb, fun _ _ _ h => h, hG, fun _ h => h, fun _ h => .inl h, hs, fun g' o' t' e' j hj v hv hn => ?_, fun b cur eb _ => hblk b (lt_of_some eb) (kind_ne eb hcg (by decide)), fun g' t' e' => by
    by_cases hgg : g' = gf
    · exact .inr (by omega)
    · exact .inl (by simpa [Ghost.list, hgg] using e')⟩⟩
  · refine ⟨(h.part g' o' t' e2).1, ?_⟩
    have hp := (h.part g' o' t' e2).2
    by_cases hne : g' = g ∧ o' = o
    · obtain ⟨rfl, rfl⟩ := hne
      have e3 : t = t' := by
        have e4 : Γ.F g' o' = some t' := e2
        rw [e] at e4
        injection e4
      subst e3
      obtain ⟨gn, on, kn, h1, h2, h3, cur2, h4⟩ := k.node
      have en := hs gn (still_of h4 (by decide) (by decide))
      obtain ⟨a, a1, a2⟩ := k.asked
      refine ⟨k.four, hg, k.wf, ⟨gn, on, kn, (hc _ (by omega)).trans h1, h2.block en, tree_still h3 hs, cur2, en.trans h4⟩, ?_, ⟨a, (hc _ (by omega)).trans a1, a2⟩, .inr ⟨gf, hc1, by simp [Ghost.list]⟩⟩
      rcases k.kids with k1 | ⟨gk, k1, k2⟩
      · exact .inl ((hc _ (by omega)).trans k1)
      · exact .inr ⟨gk, (hc _ (by omega)).trans k1, k2⟩
    · refine hp.kept hs (fun _ _ _ h => h) hG ?_ (hcells g' o' t' e2 hne)
      obtain ⟨cur, hcur⟩ := hp.block
      by_cases hgg : g' = g
      · rw [hgg]; exact hg
      · exact ⟨cur, (hblk g' (h.old e2) hgg).trans hcur⟩
  · by_cases hgg : gf' = gf
    · subst hgg
      simp only [Ghost.list, if_true] at e'
      injection e' with e'
      subst e'
      exact ⟨by omega, hk.kept (fun _ _ => rfl) (fun _ h => h) hk.block fun _ _ => rfl⟩
    · have e2 : Γ.G gf' = some t' := by
        unfold Ghost.list at e'
        simp only at e'
        rwa [if_neg hgg] at e'
      have hp := h.starts gf' t' e2
      obtain ⟨cur, hcur⟩ := hp.2.block
      have hne := kind_ne hcur hcg (by decide)
      have heq := hblk gf' (lt_of_some hcur) hne
      exact ⟨hp.1, hp.2.kept hs (fun _ h => h) ⟨cur, heq.trans hcur⟩ fun i _ => World.cell?_of_block (w := w) (a := ⟨gf', i, none⟩) heq⟩
  · by_cases hne : g' = g ∧ o' = o
    · obtain ⟨rfl, rfl⟩ := hne
      rcases hj with rfl | rfl
      · exact (hc _ (by omega)).trans hv
      · rw [hold] at hv
        injection hv with hv
        exact absurd hv.symm hn
    · exact (hcells g' o' t' e' hne j (by omega)).trans hv
end

/-- The ghost with a list's words. -/
def Ghost.mark (Γ : Ghost) (v : Value) : Ghost := { Γ with M := fun g => Γ.M g ∨ v.ownBlock = some g }

section
variable {w w0 : World} {B : Nat} {xs : List Int} {Γ Γ0 : Ghost} {gf i : Nat} {t : T} {v : Value} {q : Nat → Bool}
theorem Inv.putFrom (h : Inv w B xs Γ) (e : Γ.G gf = some t) (hi : i ≤ xs.length) (hv : Pl w B v (xs.length / 64 + 1) q) (hq : ∀ j, q j = true ↔ E xs t i j) :
    Inv (w.setCell ⟨gf, i, none⟩ v) B xs (Γ.mark v) := by
  have k := (h.starts gf t e).2
  obtain ⟨curg, hcg⟩ := k.block
  have hs : ∀ b, Still w b → (w.setCell ⟨gf, i, none⟩ v).heap[b]? = w.heap[b]? := fun b hb' => Below.heap_setCell w _ v b (fun e' => hb'.2.2 curg (by rw [e']; exact hcg))
  refine ⟨fun g' o' t' e' => ?_, fun gf' t' e' => ?_⟩
  · have hp := h.part g' o' t' e'
    obtain ⟨cur, hcur⟩ := hp.2.block
    have hne := kind_ne hcur hcg (by decide)
    refine ⟨hp.1, hp.2.kept hs (fun _ _ _ h => h) (fun _ _ h => h) (set_block (i := 0) hcur _ v) fun j _ => cell_other fun ea => hne ?_⟩
    injection ea with ea _
    exact ea.symm
  · have e2 : Γ.G gf' = some t' := e'
    have hp := h.starts gf' t' e2
    obtain ⟨cur, hcur⟩ := hp.2.block
    refine ⟨hp.1, set_block (i := 0) hcur _ v, fun j hj => ?_⟩
    by_cases hji : gf' = gf ∧ j = i
    · obtain ⟨rfl, rfl⟩ := hji
      rw [e] at e2
      injection e2 with e2
      subst e2
      obtain ⟨v0, h0, _⟩ := k.cells j hj
      exact ⟨v, World.cell?_setCell_same _ _ _ h0, .inr ⟨q, pl_still hv hs, fun g eg => .inr eg, hq⟩⟩
    · obtain ⟨v0, h0, h1⟩ := hp.2.cells j hj
      refine ⟨v0, (cell_other fun ea => hji ?_).trans h0, ?_⟩
      · injection ea with e3 e4
        exact ⟨e3.symm, e4.symm⟩
      · rcases h1 with h1 | ⟨q0, h3, h4, h5⟩
        · exact .inl h1
        · exact .inr ⟨q0, pl_still h3 hs, fun g eg => .inl (h4 g eg), h5⟩
/-- What the store leaves, seen from the call's begin: the words' block is newer than that. -/
theorem Ext.put (h : Inv w B xs Γ) (x : Ext B w0 w Γ0 Γ) (e : Γ.G gf = some t) (hn : ∀ g, v.ownBlock = some g → w0.heap.size ≤ g) : Ext B w0 (w.setCell ⟨gf, i, none⟩ v) Γ0 (Γ.mark v) := by
  have k := h.starts gf t e
  obtain ⟨curg, hcg⟩ := k.2.block
  refine ⟨x.below.setCell (p := ⟨gf, i, none⟩) k.1 _, x.F, x.G, fun g hg => .inl (x.M g hg), fun g hg => ?_, fun b hs => ?_, fun g o t' e' j hj u hu hun => ?_, fun b cur eb hG => ?_, x.newG⟩
  · rcases hg with hg | hg
    · exact x.new g hg
    · exact .inr (hn g hg)
  · have hs' := hs.ext x
    exact (Below.heap_setCell w _ v b (fun e' => hs'.2.2 curg (by rw [e']; exact hcg))).trans (x.still b hs)
  · have hp := h.part g o t' (x.F g o t' e')
    obtain ⟨cur, hcur⟩ := hp.2.block
    have hne := kind_ne hcur hcg (by decide)
    refine (cell_other fun ea => hne ?_).trans (x.stay g o t' e' j hj u hu hun)
    injection ea with ea _
    exact ea.symm
  · refine (Below.heap_setCell w _ v b fun e' => ?_).trans (x.box b cur eb hG)
    have e2 : b = gf := e'
    subst e2
    rcases x.newG _ _ e with e3 | e3
    · exact hG _ e3
    · have := lt_of_some eb
      omega
end

end Go.Proofs.YtlnanelejaddiaaDoor

/-
  What a store into words of one's own leaves of all parts. Contracts for other texts; no statement of its own.
-/
namespace Go.Proofs.YtlnanelejaddiaaDoor
open Go Go.RowKit

section
variable {w w' : World} {B : Nat} {xs : List Int} {Γ : Ghost} {g o gr : Nat} {t : T} {curr : Array Value}
theorem PartOk.own (h : PartOk w xs Γ g o t) (hb : ∀ b, b < w.heap.size → b ≠ gr → w'.heap[b]? = w.heap[b]?) (hc : w.heap[gr]? = some (.cells curr 24 (0, 0))) : PartOk w' xs Γ g o t := by
  obtain ⟨gn, on, kn, h1, h2, h3, curn, h4⟩ := h.node
  obtain ⟨curp, hp⟩ := h.block
  have eg := hb g (lt_of_some hp) (kind_ne hp hc (by decide))
  have en := hb gn (lt_of_some h4) (kind_ne h4 hc (by decide))
  have hcell : ∀ j, w'.cell? ⟨g, j, none⟩ = w.cell? ⟨g, j, none⟩ := fun j => World.cell?_of_block (w := w) (a := ⟨g, j, none⟩) eg
  refine ⟨h.four, ⟨curp, eg.trans hp⟩, h.wf, ⟨gn, on, kn, (hcell _).trans h1, h2.block en, h3.mono fun b _ _ ⟨cur, e⟩ => ⟨hb b (lt_of_some e) (kind_ne e hc (by decide)), trivial⟩, curn, en.trans h4⟩, ?_, ?_, ?_⟩
  · rcases h.kids with k | ⟨gk, k1, k2⟩
    · exact .inl ((hcell _).trans k)
    · exact .inr ⟨gk, (hcell _).trans k1, k2⟩
  · obtain ⟨a, a1, a2⟩ := h.asked
    exact ⟨a, (hcell _).trans a1, a2⟩
  · rcases h.starts with k | ⟨gf, k1, k2⟩
    · exact .inl ((hcell _).trans k)
    · exact .inr ⟨gf, (hcell _).trans k1, k2⟩
theorem Pl.other {C m : Nat} {v : Value} {q : Nat → Bool} (hp : Pl w C v m q) (hb : ∀ b, b < w.heap.size → b ≠ gr → w'.heap[b]? = w.heap[b]?) (hne : v.ownBlock ≠ some gr) : Pl w' C v m q := by
  refine ⟨hp.1, ?_⟩
  rcases hp.2 with hn | ⟨g, cap, cur, rfl, hB, hg, rest⟩
  · exact .inl hn
  · exact .inr ⟨g, cap, cur, rfl, hB, (hb g (lt_of_some hg) (fun e => hne (by rw [← e]; rfl))).trans hg, rest⟩
theorem FromOk.own (h : FromOk w B xs Γ g t) (hb : ∀ b, b < w.heap.size → b ≠ gr → w'.heap[b]? = w.heap[b]?) (hc : w.heap[gr]? = some (.cells curr 24 (0, 0))) (hM : ¬ Γ.M gr) : FromOk w' B xs Γ g t := by
  obtain ⟨curp, hp⟩ := h.block
  have eg := hb g (lt_of_some hp) (kind_ne hp hc (by decide))
  refine ⟨⟨curp, eg.trans hp⟩, fun i hi => ?_⟩
  obtain ⟨v, h1, h2⟩ := h.cells i hi
  refine ⟨v, (World.cell?_of_block (w := w) (a := ⟨g, i, none⟩) eg).trans h1, ?_⟩
  rcases h2 with h2 | ⟨q, h3, h4, h5⟩
  · exact .inl h2
  · exact .inr ⟨q, h3.other hb (fun e => hM (h4 _ e)), h4, h5⟩
theorem Inv.ownSet (h : Inv w B xs Γ) (hb : ∀ b, b < w.heap.size → b ≠ gr → w'.heap[b]? = w.heap[b]?) (hc : w.heap[gr]? = some (.cells curr 24 (0, 0))) (hM : ¬ Γ.M gr) : Inv w' B xs Γ :=
  ⟨fun g o t e => ⟨(h.part g o t e).1, (h.part g o t e).2.own hb hc⟩, fun gf t e => ⟨(h.starts gf t e).1, (h.starts gf t e).2.own hb hc hM⟩⟩
end

/-- All parts, and: what stands in a list is old. -/
structure InvM (w : World) (B : Nat) (xs : List Int) (Γ : Ghost) : Prop where
  inv : Inv w B xs Γ
  old : ∀ g, Γ.M g → g < w.heap.size

section
variable {w w' w0 : World} {B : Nat} {xs : List Int} {Γ Γ' Γ0 : Ghost} {m : Nat} {v : Value} {q : Nat → Bool}
theorem InvM.stays (h : InvM w B xs Γ) (hb : Below w.heap.size w w') : InvM w' B xs Γ := ⟨h.inv.stays hb, fun g e => Nat.lt_of_lt_of_le (h.old g e) hb.size⟩
/-- What a call has made and handed back does not stand in a list of older blocks. -/
theorem InvM.apart (h : InvM w B xs Γ) (x : Ext B w w' Γ Γ') {g : Nat} (h1 : ¬ Γ.M g) (h2 : g < w.heap.size) : ¬ Γ'.M g := fun e => by
  rcases x.new g e with e | e
  · exact h1 e
  · omega
/-- Words of one's own, newer than the call. -/
structure Mine (w0 w : World) (B : Nat) (Γ : Ghost) (v : Value) (m : Nat) (q : Nat → Bool) : Prop where
  pl : Pl w w0.heap.size v m q
  free : ∀ g, v.ownBlock = some g → ¬ Γ.M g
theorem Mine.new {w1 : World} (h : InvM w1 B xs Γ) (hp : Pl w w1.heap.size v m q) (hs : w0.heap.size ≤ w1.heap.size) : Mine w0 w B Γ v m q :=
  ⟨hp.lower hs, fun g e hg => by have := h.old g hg; have := (World.ownsRow.lt hp g e).1; omega⟩
theorem Mine.ext (h : Mine w0 w B Γ v m q) (x : Ext B w w' Γ Γ') : Mine w0 w' B Γ' v m q := ⟨h.pl.ext x, fun g e hg => by
  have := (World.ownsRow.lt h.pl g e).2
  rcases x.new g hg with hg | hg
  · exact h.free g e hg
  · omega⟩
theorem Mine.kept (h : Mine w0 w B Γ v m q) (hb : Below w.heap.size w w') : Mine w0 w' B Γ v m q := ⟨h.pl.stays hb, h.free⟩
/-- A store into them. -/
theorem Mine.set {q' : Nat → Bool} (h : Mine w0 w B Γ v m q) (hm : 0 < m) (hi : InvM w B xs Γ) (x : Ext B w0 w Γ0 Γ) (hp : Pl w' w0.heap.size v m q') (hg : w.grownBy w' v.ownBlock) (hB : B ≤ w0.heap.size) :
    InvM w' B xs Γ ∧ Ext B w0 w' Γ0 Γ ∧ Mine w0 w' B Γ v m q' := by
  have hpl := h.pl
  rcases hpl.2 with ⟨rfl, h0⟩ | ⟨g, cap, cur, rfl, hB1, hg1, _⟩
  · omega
  have hb : ∀ b, b < w.heap.size → b ≠ g → w'.heap[b]? = w.heap[b]? := fun b h1 h2 => hg.block b h1 (fun e => h2 (by cases e; rfl))
  have hM : ¬ Γ.M g := h.free g rfl
  refine ⟨⟨hi.inv.ownSet hb hg1 hM, fun g e => Nat.lt_of_lt_of_le (hi.old g e) hg.size⟩, ⟨x.below.grown hg (Nat.le_trans hB x.below.size) (fun k e => by cases e; exact Nat.le_trans hB hB1), x.F, x.G, x.M, x.new, fun b hs => ?_, fun g' o t e j hj u hu hn => ?_, fun b cur2 eb hG => ?_, x.newG⟩, ⟨hp, h.free⟩⟩
  · have := hs.1
    exact (hb b (Nat.lt_of_lt_of_le hs.1 x.below.size) (by omega)).trans (x.still b hs)
  · obtain ⟨cur', hc'⟩ := (hi.inv.part g' o t (x.F g' o t e)).2.block
    refine (World.cell?_of_block (w := w) (a := ⟨g', o + j, none⟩) (hb g' (lt_of_some hc') (kind_ne hc' hg1 (by decide)))).trans (x.stay g' o t e j hj u hu hn)
  · have e1 := x.box b cur2 eb hG
    exact (hb b (lt_of_some (e1.trans eb)) (kind_ne (e1.trans eb) hg1 (by decide))).trans e1
end

section
variable {w w' w0 : World} {B : Nat} {xs : List Int} {Γ Γ' Γ0 : Ghost} {g o m C : Nat} {t : T} {v : Value} {q : Nat → Bool}
/-- What is no cells may turn. -/
theorem PartOk.turn (h : PartOk w xs Γ g o t) (hb : ∀ (b : Nat) (cur : Array Value) (ty : TypeId), w.heap[b]? = some (.cells cur ty (0, 0)) → w'.heap[b]? = w.heap[b]?) : PartOk w' xs Γ g o t := by
  obtain ⟨gn, on, kn, h1, h2, h3, curn, h4⟩ := h.node
  obtain ⟨curp, hp⟩ := h.block
  have eg := hb g _ _ hp
  have en := hb gn _ _ h4
  have hcell : ∀ j, w'.cell? ⟨g, j, none⟩ = w.cell? ⟨g, j, none⟩ := fun j => World.cell?_of_block (w := w) (a := ⟨g, j, none⟩) eg
  refine ⟨h.four, ⟨curp, eg.trans hp⟩, h.wf, ⟨gn, on, kn, (hcell _).trans h1, h2.block en, h3.mono fun b _ _ ⟨cur, e⟩ => ⟨hb b _ _ e, trivial⟩, curn, en.trans h4⟩, ?_, ?_, ?_⟩
  · rcases h.kids with k | ⟨gk, k1, k2⟩
    · exact .inl ((hcell _).trans k)
    · exact .inr ⟨gk, (hcell _).trans k1, k2⟩
  · obtain ⟨a, a1, a2⟩ := h.asked
    exact ⟨a, (hcell _).trans a1, a2⟩
  · rcases h.starts with k | ⟨gf, k1, k2⟩
    · exact .inl ((hcell _).trans k)
    · exact .inr ⟨gf, (hcell _).trans k1, k2⟩
theorem Pl.turn (hp : Pl w C v m q) (hb : ∀ (b : Nat) (cur : Array Value) (ty : TypeId), w.heap[b]? = some (.cells cur ty (0, 0)) → w'.heap[b]? = w.heap[b]?) : Pl w' C v m q := by
  refine ⟨hp.1, ?_⟩
  rcases hp.2 with hn | ⟨g, cap, cur, rfl, hB, hg, rest⟩
  · exact .inl hn
  · exact .inr ⟨g, cap, cur, rfl, hB, (hb g _ _ hg).trans hg, rest⟩
theorem FromOk.turn (h : FromOk w B xs Γ g t) (hb : ∀ (b : Nat) (cur : Array Value) (ty : TypeId), w.heap[b]? = some (.cells cur ty (0, 0)) → w'.heap[b]? = w.heap[b]?) : FromOk w' B xs Γ g t := by
  obtain ⟨curp, hp⟩ := h.block
  have eg := hb g _ _ hp
  refine ⟨⟨curp, eg.trans hp⟩, fun i hi => ?_⟩
  obtain ⟨v, h1, h2⟩ := h.cells i hi
  refine ⟨v, (World.cell?_of_block (w := w) (a := ⟨g, i, none⟩) eg).trans h1, ?_⟩
  rcases h2 with h2 | ⟨q, h3, h4, h5⟩
  · exact .inl h2
  · exact .inr ⟨q, h3.turn hb, h4, h5⟩
theorem turn_cells {row : Option Nat} (hg : w.grownBy w' row) (hr : ∀ r, row = some r → ∃ o : Obj, w.heap[r]? = some o ∧ o.isCells = false) : ∀ (b : Nat) (cur : Array Value) (ty : TypeId), w.heap[b]? = some (.cells cur ty (0, 0)) → w'.heap[b]? = w.heap[b]? := fun b cur ty e => hg.block b (lt_of_some e) fun er => by
  obtain ⟨o, ho, hc⟩ := hr b er.symm
  rw [e] at ho
  injection ho with ho
  rw [← ho] at hc
  cases hc
theorem InvM.turn {row : Option Nat} (h : InvM w B xs Γ) (hg : w.grownBy w' row) (hr : ∀ r, row = some r → ∃ o : Obj, w.heap[r]? = some o ∧ o.isCells = false) : InvM w' B xs Γ :=
  ⟨⟨fun g o t e => ⟨(h.inv.part g o t e).1, (h.inv.part g o t e).2.turn (turn_cells hg hr)⟩, fun gf t e => ⟨(h.inv.starts gf t e).1, (h.inv.starts gf t e).2.turn (turn_cells hg hr)⟩⟩, fun g e => Nat.lt_of_lt_of_le (h.old g e) hg.size⟩
theorem Ext.turn {row : Option Nat} (hi : InvM w B xs Γ) (x : Ext B w0 w Γ0 Γ) (hg : w.grownBy w' row) (hB : B ≤ w0.heap.size) (hr : ∀ r, row = some r → w0.heap.size ≤ r ∧ ∃ o : Obj, w.heap[r]? = some o ∧ o.isCells = false) : Ext B w0 w' Γ0 Γ := by
  refine ⟨x.below.grown hg (Nat.le_trans hB x.below.size) (fun k e => Nat.le_trans hB (hr k e).1), x.F, x.G, x.M, x.new, fun b hs => ?_, fun g' o t e j hj u hu hn => ?_, fun b cur2 eb hG => ?_, x.newG⟩
  · refine (hg.block b (Nat.lt_of_lt_of_le hs.1 x.below.size) fun er => ?_).trans (x.still b hs)
    have := (hr b er.symm).1
    have := hs.1
    omega
  · obtain ⟨cur', hc'⟩ := (hi.inv.part g' o t (x.F g' o t e)).2.block
    exact (World.cell?_of_block (w := w) (a := ⟨g', o + j, none⟩) (turn_cells hg (fun r er => (hr r er).2) g' _ _ hc')).trans (x.stay g' o t e j hj u hu hn)
  · have e1 := x.box b cur2 eb hG
    exact (turn_cells hg (fun r er => (hr r er).2) b _ _ (e1.trans eb)).trans e1
theorem Mine.turn {row : Option Nat} (h : Mine w0 w B Γ v m q) (hg : w.grownBy w' row) (hr : ∀ r, row = some r → ∃ o : Obj, w.heap[r]? = some o ∧ o.isCells = false) : Mine w0 w' B Γ v m q := ⟨h.pl.turn (turn_cells hg hr), h.free⟩
end

end Go.Proofs.YtlnanelejaddiaaDoor
