/-
  Several texts of this proof in one file: LenMath, Places, LangLen, Length, AnyMath, LangShift. No statement of its own.
-/
import Derived.Test.YtccbeimcggamiaaDoorMk5
import Derived.Deep.LoopGhost
import Derived.Test.YtccbeimcggamiaaDoorMk2
import Derived.Deep.RegionLaw
set_option linter.unusedVariables false
set_option linter.unusedSimpArgs false

/-
  How long words are, up to 1000: plain mathematics; no statement of its own.
-/
namespace Go.Proofs.YtccbeimcggamiaaDoor
open Go Go.RowKit

def best1 (most : Bool) (a b : Nat) : Nat := if most then max a b else min a b
/-- The least, or the greatest, of all. -/
def bestN (most : Bool) : List Nat → Nat
  | [] => 0
  | a :: l => l.foldl (best1 most) a
mutual
/-- How many bytes a word has at least, or at most, up to 1000. -/
def lenN (most : Bool) : T → Nat
  | .mk op p lo hi l => min (if op = 1 then 1 else if op = 2 then (lenL most l).sum else if op = 3 then bestN most (lenL most l) else if op = 4 then (if most then hi else lo).toNat * bestN most (lenL most l) else 0) 1000
def lenL (most : Bool) : List T → List Nat
  | [] => []
  | t :: ts => lenN most t :: lenL most ts
end
theorem lenN_le (most : Bool) (t : T) : lenN most t ≤ 1000 := by cases t; unfold lenN; omega
theorem lenL_map (most : Bool) (l : List T) : lenL most l = l.map (lenN most) := by
  induction l with
  | nil => rfl
  | cons t ts ih => simp [lenL, ih]
theorem sum_le (most : Bool) : ∀ (l : List T), (lenL most l).sum ≤ 1000 * l.length
  | [] => by simp [lenL]
  | t :: ts => by
    have := sum_le most ts
    have := lenN_le most t
    simp [lenL]
    omega
theorem sum_take (most : Bool) (l : List T) (j : Nat) (h : j < l.length) : (lenL most (l.take (j + 1))).sum = (lenL most (l.take j)).sum + lenN most (l[j]'h) := by
  rw [List.take_succ_eq_append_getElem h, lenL_map, lenL_map, List.map_append, List.sum_append]
  simp only [List.map_cons, List.map_nil, List.sum_cons, List.sum_nil, Nat.add_zero]
theorem best_snoc (most : Bool) (l : List Nat) (b : Nat) (h : l ≠ []) : bestN most (l ++ [b]) = best1 most (bestN most l) b := by
  cases l with
  | nil => exact absurd rfl h
  | cons a l => simp [bestN]
theorem best_take (most : Bool) (l : List T) (j : Nat) (h : j < l.length) (h0 : 0 < j) : bestN most (lenL most (l.take (j + 1))) = best1 most (bestN most (lenL most (l.take j))) (lenN most (l[j]'h)) := by
  rw [List.take_succ_eq_append_getElem h, lenL_map, lenL_map, List.map_append]
  refine best_snoc most _ _ ?_
  intro e
  have := congrArg List.length e
  rw [List.length_map, List.length_take, List.length_nil] at this
  omega
theorem best1_le {most : Bool} {a b N : Nat} (ha : a ≤ N) (hb : b ≤ N) : best1 most a b ≤ N := by unfold best1; split <;> omega
theorem bestN_le (most : Bool) (N : Nat) : ∀ (l : List Nat), (∀ x ∈ l, x ≤ N) → bestN most l ≤ N
  | [], _ => Nat.zero_le _
  | a :: l, h => by
    have key : ∀ (l : List Nat) (a : Nat), a ≤ N → (∀ x ∈ l, x ≤ N) → l.foldl (best1 most) a ≤ N := by
      intro l
      induction l with
      | nil => intro a ha _; exact ha
      | cons b l ih => intro a ha hl; exact ih _ (best1_le ha (hl b (by simp))) fun x hx => hl x (by simp [hx])
    exact key l a (h a (by simp)) fun x hx => h x (by simp [hx])
theorem best_le (most : Bool) (l : List T) : bestN most (lenL most l) ≤ 1000 := by
  refine bestN_le most 1000 _ fun x hx => ?_
  rw [lenL_map] at hx
  simp only [List.mem_map] at hx
  obtain ⟨t, _, rfl⟩ := hx
  exact lenN_le most t
theorem best_one (most : Bool) (l : List T) (h : 0 < l.length) : bestN most (lenL most (l.take 1)) = lenN most (l[0]'h) := by
  cases l with
  | nil => simp at h
  | cons a l => simp [lenL, bestN]
end Go.Proofs.YtccbeimcggamiaaDoor

/-
  The document's own Places. Contracts for other texts; no statement of its own.
-/
namespace Go.Proofs.YtccbeimcggamiaaDoor
open Go Go.RowKit
attribute [local go_sem ↓] Go.wp_at_zero Go.wp_at_succ

mutual
/-- How many places a pattern has, up to 1000. -/
def plN : T → Nat
  | .mk op p lo hi l => min (((if op = 1 then 1 else 0) + plSum l) * (if op = 4 then hi.toNat else 1)) 1000
def plSum : List T → Nat
  | [] => 0
  | t :: ts => plN t + plSum ts
end
theorem plN_le (t : T) : plN t ≤ 1000 := by cases t; unfold plN; omega
theorem plSum_app : ∀ (l l' : List T), plSum (l ++ l') = plSum l + plSum l'
  | [], l' => by simp [plSum]
  | t :: ts, l' => by simp [plSum, plSum_app ts l']; omega
theorem plSum_take (l : List T) (j : Nat) (h : j < l.length) : plSum (l.take (j + 1)) = plSum (l.take j) + plN (l[j]'h) := by
  rw [List.take_succ_eq_append_getElem h, plSum_app]
  simp [plSum]
theorem plSum_le : ∀ (l : List T), plSum l ≤ 1000 * l.length
  | [] => by simp [plSum]
  | t :: ts => by
    have := plSum_le ts
    have := plN_le t
    simp [plSum]
    omega

/-- A node as an argument. -/
def nodeP (t : T) (k : Value) : Value := .agg #[.int .i64 t.op, .int .u64 (word t.set 0), .int .u64 (word t.set 1), .int .u64 (word t.set 2), .int .u64 (word t.set 3), .int .i64 t.lo, .int .i64 t.hi, k]
theorem WF.op_cases {t : T} (h : WF t) : (t.op = 1 ∧ t.kids = [] ∧ t.lo = 0 ∧ t.hi = 0) ∨ (t.op = 2 ∧ 2 ≤ t.kids.length ∧ t.kids.length ≤ 202 ∧ t.lo = 0 ∧ t.hi = 0) ∨ (t.op = 3 ∧ 2 ≤ t.kids.length ∧ t.kids.length ≤ 202 ∧ t.lo = 0 ∧ t.hi = 0) ∨
    (t.op = 4 ∧ t.kids.length = 1 ∧ 0 ≤ t.lo ∧ t.lo ≤ t.hi ∧ 1 ≤ t.hi ∧ t.hi ≤ 32) := by
  cases h with
  | one p => exact .inl ⟨rfl, rfl, rfl, rfl⟩
  | cat l h2 hN h => exact .inr (.inl ⟨rfl, h2, hN, rfl, rfl⟩)
  | alt l h2 hN h => exact .inr (.inr (.inl ⟨rfl, h2, hN, rfl, rfl⟩))
  | rep m n t h0 h1 h2 h3 h => exact .inr (.inr (.inr ⟨rfl, rfl, h0, h1, h2, h3⟩))
theorem WF.len {t : T} (h : WF t) : t.kids.length ≤ 202 := by
  rcases h.op_cases with h | h | h | h
  · rw [h.2.1]; decide
  · exact h.2.2.1
  · exact h.2.2.1
  · rw [h.2.1]; decide
theorem WF.kid {t : T} (h : WF t) {u : T} (hu : u ∈ t.kids) : WF u := by
  cases h with
  | one p => simp [T.kids] at hu
  | cat l h2 hN h => exact h u hu
  | alt l h2 hN h => exact h u hu
  | rep m n t h0 h1 h2 h3 h => simp [T.kids] at hu; rw [hu]; exact h
theorem WF.at {t : T} (h : WF t) (j : Nat) (hj : j < t.kids.length) : WF (t.kids[j]'hj) := h.kid (List.getElem_mem hj)

def RetInt (w : World) (n : Int) (e : Ending) (w' : World) : Prop := e = .returned (.int .i64 n) ∧ Below w.heap.size w w'
set_option maxRecDepth 20000 in
set_option maxHeartbeats 2000000 in
theorem places_n : ∀ (N : Nat) (t : T) (w : World) (ok : Nat → Prop) (k : Value), SizeOf.sizeOf t ≤ N → WF t → Tree w ok t k →
    Calls Tryd.prog 29 #[nodeP t k] w (RetInt w (plN t)) := by
  intro N
  induction N with
  | zero => intro t w ok k h; obtain ⟨op, p, lo, hi, l⟩ := t; simp at h
  | succ N ih =>
  intro t w ok k hN hwf ht
  obtain ⟨A, n', c, rfl⟩ := ht.form
  obtain ⟨hn, hm⟩ := ht.bound
  have hlen := hwf.len
  rw [← hn] at hlen
  unfold maxLen at hm
  have hop := hwf.op_cases
  have b1 := Box8.new w t (.slice A n' c)
  have hB : Below w.heap.size w (w.alloc (.cells #[.int .i64 t.op, .int .u64 (word t.set 0), .int .u64 (word t.set 1), .int .u64 (word t.set 2), .int .u64 (word t.set 3), .int .i64 t.lo, .int .i64 t.hi, .slice A n' c] 29)) := (Below.refl _ _).alloc (Nat.le_refl _) _
  have hpl : plN t = min (((if t.op = 1 then 1 else 0) + plSum t.kids) * (if t.op = 4 then t.hi.toNat else 1)) 1000 := by cases t; rfl
  have hsum := plSum_le t.kids
  have HPL := Lib.hid hpl
  have HSUM := Lib.hid hsum
  have HWF := Lib.hid hwf
  have HOP := Lib.hid hop
  have HN := Lib.hid hn
  have HT := Lib.hid ht
  have IH := Lib.hid ih
  have HB1 := Lib.hid b1
  have HM := Lib.hid hm
  clear hn ih hpl hsum hwf hop
  unfold nodeP
  cases hb1 : (t.op == 1)
  all_goals
    cases hb4 : (t.op == 4)
    all_goals
      go_enter Tryd.func29, Tryd.ntmps29
      go_wp2
      go_loopg [3, 4] n' (fun m k i wr => ∃ j : Nat, i = .int .i64 (j : Int) ∧ j ≤ n' ∧ m = n' - j ∧ k = .int .i64 (((if t.op = 1 then 1 else 0) + plSum (t.kids.take j) : Nat) : Int) ∧ Box8 wr w.heap.size t (.slice A n' c) ∧ Below w.heap.size w wr)
      case atStart => exact ⟨0, rfl, Nat.zero_le _, rfl, by first | (rw [if_pos (by simpa using hb1)]; rfl) | (rw [if_neg (by simpa using hb1)]; rfl), HB1.out, hB⟩
      case round =>
        obtain ⟨j, rfl, hj, hmj, rfl, x1, hW⟩ := hrel
        have HMJ := Lib.hid hmj
        obtain ⟨c0, c1, c2, c3, c4, c5, c6, c7⟩ := x1.cell
        clear b1 hmj
        by_cases hlt : j < n'
        · have hlt' : j < t.kids.length := by rw [← HN.out]; exact hlt
          obtain ⟨g, B, m1, m2, e1, hg1, htk, hcells⟩ := kid8 HT.out j (List.getElem?_eq_getElem hlt')
          subst e1
          have hks := kid_size t j hlt'
          have hwk := HWF.out.at j hlt'
          have hst := plSum_take t.kids j hlt'
          have hsl := plSum_le (t.kids.take j)
          rw [List.length_take] at hsl
          have hpu := plN_le (t.kids[j]'hlt')
          generalize t.kids[j] = u at *
          have HC : ∀ q v, (nodeC u (.slice B m1 m2))[q]? = some v → wr.cell? ⟨g, j * 8 + q, none⟩ = some v := fun q v h => by rw [Nat.mul_comm j 8]; exact (hW.cell (p := ⟨g, 8 * j + q, none⟩) hg1).trans (hcells q v h)
          have k0 : wr.cell? ⟨g, j * 8, none⟩ = _ := HC 0 _ rfl
          have k1 := HC 1 _ rfl
          have k2 := HC 2 _ rfl
          have k3 := HC 3 _ rfl
          have k4 := HC 4 _ rfl
          have k5 := HC 5 _ rfl
          have k6 := HC 6 _ rfl
          have k7 := HC 7 _ rfl
          have HK := Lib.hid (fun w' (hb : Below wr.heap.size wr w') => IH.out u w' ok (.slice B m1 m2) (by omega) hwk ((htk.stays hW).stays hb))
          have HST := Lib.hid hst
          clear HC hcells htk hks hwk hst
          unfold nodeP RetInt at HK
          have ha : ((if t.op = 1 then 1 else 0 : Nat)) ≤ 1 := by split <;> omega
          generalize hS : (if t.op = 1 then 1 else 0 : Nat) = a0 at *
          generalize plSum (t.kids.take j) = S at *
          have hS2 : S ≤ 202000 := by omega
          clear hS
          go_wp2_with (go_at_call 29; (with_reducible refine (HK.out _ (Below.refl _ _)).mono ?_); rintro e w5 ⟨rfl, hb5⟩)
          go_roundg (n' - (j + 1))
          case measure => have := HMJ.out; omega
          case rel => exact ⟨j + 1, by go_num, by omega, rfl, by rw [HST.out]; go_num, x1.stays hb5, gro hW hb5⟩
        · have hjn : j = t.kids.length := by rw [← HN.out]; omega
          have hwhole : t.kids.take j = t.kids := by rw [hjn]; exact List.take_length
          rw [hwhole]
          have hS2 := HSUM.out
          have ha : ((if t.op = 1 then 1 else 0 : Nat)) ≤ 1 := by split <;> omega
          have hpl' := HPL.out
          rw [show t.kids.length = n' from HN.out.symm] at hS2
          generalize hS : (if t.op = 1 then 1 else 0 : Nat) = a0 at *
          generalize plSum t.kids = S at *
          by_cases h4 : t.op = 4
          · first
              | (exfalso; simp [h4] at hb4; done)
              | skip
            all_goals
              rw [if_pos h4] at hpl'
              have hh := HOP.out
              have hh2 : 1 ≤ t.hi ∧ t.hi ≤ 32 := by omega
              obtain ⟨hi0, hi1⟩ := hh2
              obtain ⟨hN, hNe⟩ : ∃ hN : Nat, t.hi = hN := ⟨t.hi.toNat, by omega⟩
              have hpr : (a0 + S) * hN ≤ 202001 * 32 := Nat.mul_le_mul (by omega) (by omega)
              rw [hNe, Int.toNat_natCast] at hpl'
              have hprod : ((a0 : Int) + (S : Int)) * (hN : Int) = (((a0 + S) * hN : Nat) : Int) := by simp
              generalize (a0 + S) * hN = Pr at hpl' hpr hprod
              have HPL2 := Lib.hid hpl'
              have HPR := Lib.hid hprod
              rw [hNe] at c6
              have p0 : (0 : Int) ≤ ((a0 : Int) + (S : Int)) * (hN : Int) := by rw [hprod]; omega
              have p1 : ((a0 : Int) + (S : Int)) * (hN : Int) ≤ 9223372036854775807 := by rw [hprod]; omega
              clear hpl' hNe hh h4 hS hprod hi0 hi1
              go_wp2
              all_goals
                go_ret
                refine ⟨congrArg Ending.returned (congrArg (Value.int .i64) ?_), hW⟩
                have e1 := HPL2.out
                have e2 := HPR.out
                rw [e1]
                omega
          · first
              | (exfalso; simp at hb4; exact h4 hb4)
              | skip
            all_goals
              rw [if_neg h4, Nat.mul_one] at hpl'
              have HPL2 := Lib.hid hpl'
              clear hpl' h4 hS
              go_wp2
              all_goals
                go_ret
                refine ⟨congrArg Ending.returned (congrArg (Value.int .i64) ?_), hW⟩
                rw [HPL2.out]
                omega

theorem places_p {t : T} {k : Value} {ok : Nat → Prop} (w : World) (hwf : WF t) (ht : Tree w ok t k) : Calls Tryd.prog 29 #[nodeP t k] w (RetInt w (plN t)) :=
  places_n _ t w ok k (Nat.le_refl _) hwf ht

end Go.Proofs.YtccbeimcggamiaaDoor

/-
  How long words are: without any bound, and held to one. Plain mathematics; no statement of its own.
-/
namespace Go.Proofs.YtccbeimcggamiaaDoor
open Go

mutual
def LenU (most : Bool) : T → Nat
  | .mk op p lo hi l => if op = 1 then 1 else if op = 2 then (LenL most l).sum else if op = 3 then bestN most (LenL most l) else if op = 4 then (if most then hi else lo).toNat * bestN most (LenL most l) else 0
def LenL (most : Bool) : List T → List Nat
  | [] => []
  | t :: ts => LenU most t :: LenL most ts
end
theorem LenL_map (most : Bool) (l : List T) : LenL most l = l.map (LenU most) := by
  induction l with
  | nil => rfl
  | cons t ts ih => simp [LenL, ih]

/-- Sums held to a bound at each step. -/
theorem min_add (a b L : Nat) : min (min a L + min b L) L = min (a + b) L := by omega
theorem min_sum (L : Nat) (f : T → Nat) : ∀ (l : List T), min ((l.map fun x => min (f x) L).sum) L = min ((l.map f).sum) L
  | [] => rfl
  | t :: ts => by
    have ih := min_sum L f ts
    simp only [List.map_cons, List.sum_cons]
    omega
theorem best1_min (most : Bool) (a b L : Nat) : best1 most (min a L) (min b L) = min (best1 most a b) L := by
  unfold best1; split <;> omega
theorem foldl_min (most : Bool) (L : Nat) (f : T → Nat) : ∀ (l : List T) (a : Nat), (l.map fun x => min (f x) L).foldl (best1 most) (min a L) = min ((l.map f).foldl (best1 most) a) L
  | [], a => rfl
  | t :: ts, a => by
    simp only [List.map_cons, List.foldl_cons]
    rw [best1_min, foldl_min most L f ts]
theorem min_best (most : Bool) (L : Nat) (f : T → Nat) (l : List T) : bestN most (l.map fun x => min (f x) L) = min (bestN most (l.map f)) L := by
  cases l with
  | nil => simp [bestN]
  | cons t ts => exact foldl_min most L f ts (f t)
theorem min_mul (k x L : Nat) : min (k * min x L) L = min (k * x) L := by
  rcases Nat.le_total x L with h | h
  · rw [Nat.min_eq_left h]
  · rw [Nat.min_eq_right h]
    cases k with
    | zero => simp
    | succ k =>
      have h1 : L ≤ (k + 1) * L := Nat.le_mul_of_pos_left _ (by omega)
      have h2 : L ≤ (k + 1) * x := Nat.le_trans h (Nat.le_mul_of_pos_left _ (by omega))
      omega
theorem lenN_eq (most : Bool) {t : T} (h : WF t) : lenN most t = min (LenU most t) 1000 := by
  induction h with
  | one p => simp [lenN, LenU]
  | cat l h2 hN h ih =>
    have e : l.map (lenN most) = l.map fun x => min (LenU most x) 1000 := List.map_congr_left ih
    simp only [lenN, LenU, lenL_map, LenL_map, e]
    simp
    exact min_sum 1000 (LenU most) l
  | alt l h2 hN h ih =>
    have e : l.map (lenN most) = l.map fun x => min (LenU most x) 1000 := List.map_congr_left ih
    simp only [lenN, LenU, lenL_map, LenL_map, e]
    simp
    rw [min_best]
    omega
  | rep m n t h0 h1 h2 h3 h ih =>
    simp only [lenN, LenU, lenL_map, LenL_map]
    simp [bestN]
    rw [ih]
    exact min_mul _ _ _

/-! Words are as long as that. -/
theorem bestN_mem_le (l : List Nat) (x : Nat) (hx : x ∈ l) : bestN false l ≤ x ∧ x ≤ bestN true l := by
  have key : ∀ (l : List Nat) (a x : Nat), (x = a ∨ x ∈ l) → l.foldl (best1 false) a ≤ x ∧ x ≤ l.foldl (best1 true) a := by
    intro l
    induction l with
    | nil => intro a x h; simp at h; simp [h]
    | cons b l ih =>
      intro a x h
      simp only [List.foldl_cons]
      have hb0 : best1 false a b ≤ a ∧ best1 false a b ≤ b := by unfold best1; simp; omega
      have hb1 : a ≤ best1 true a b ∧ b ≤ best1 true a b := by unfold best1; simp; omega
      have hs0 := (ih (best1 false a b) (best1 false a b) (.inl rfl)).1
      have hs1 := (ih (best1 true a b) (best1 true a b) (.inl rfl)).2
      rcases h with rfl | h
      · omega
      · simp only [List.mem_cons] at h
        rcases h with rfl | h
        · omega
        · exact ⟨(ih _ x (.inr h)).1, (ih _ x (.inr h)).2⟩
  cases l with
  | nil => simp at hx
  | cons a l =>
    simp only [List.mem_cons] at hx
    exact key l a x hx
theorem iter_len {xs : List Int} {t : T} (h : ∀ i j, i ≤ xs.length → E xs t i j → i + LenU false t ≤ j ∧ j ≤ i + LenU true t) (hwf : WF t) : ∀ (m i j : Nat), i ≤ xs.length → iter (E xs t) m i j → i + m * LenU false t ≤ j ∧ j ≤ i + m * LenU true t
  | 0, i, j, hi, e => by have e' : i = j := e; omega
  | m + 1, i, j, hi, ⟨k, h1, h2⟩ => by
    have a := iter_len h hwf m i k hi h1
    have b := h k j (iter_bd (E_bd hwf) m i k hi h1).2 h2
    rw [Nat.add_mul, Nat.add_mul]
    omega
theorem E_len {xs : List Int} {t : T} (ht : WF t) : ∀ i j, i ≤ xs.length → E xs t i j → i + LenU false t ≤ j ∧ j ≤ i + LenU true t := by
  induction ht with
  | one p => intro i j hi h; rw [E_one] at h; simp [LenU]; omega
  | cat l h2 hN h ih =>
    intro i j hi hE
    rw [E_cat] at hE
    have e0 : LenU false (.mk 2 noneP 0 0 l) = (LenL false l).sum := by simp [LenU]
    have e1 : LenU true (.mk 2 noneP 0 0 l) = (LenL true l).sum := by simp [LenU]
    rw [e0, e1]
    clear h2 hN e0 e1
    induction l generalizing i with
    | nil => have e : i = j := hE; simp [LenL]; omega
    | cons t ts ih' =>
      obtain ⟨k, h1, h3⟩ := hE
      have a := ih t (by simp) i k hi h1
      have b := ih' (fun x hx => h x (by simp [hx])) (fun x hx => ih x (by simp [hx])) k (E_bd (h t (by simp)) i k hi h1).2 h3
      simp only [LenL, List.sum_cons]
      omega
  | alt l h2 hN h ih =>
    intro i j hi hE
    rw [E_alt, EAny_iff] at hE
    obtain ⟨t, ht, hE⟩ := hE
    have a := ih t ht i j hi hE
    have e0 : LenU false (.mk 3 noneP 0 0 l) = bestN false (LenL false l) := by simp [LenU]
    have e1 : LenU true (.mk 3 noneP 0 0 l) = bestN true (LenL true l) := by simp [LenU]
    have b := (bestN_mem_le (LenL false l) (LenU false t) (by rw [LenL_map]; exact List.mem_map_of_mem ht)).1
    have c := (bestN_mem_le (LenL true l) (LenU true t) (by rw [LenL_map]; exact List.mem_map_of_mem ht)).2
    omega
  | rep m n t h0 h1 h2 h3 h ih =>
    intro i j hi hE
    rw [E_rep] at hE
    obtain ⟨k, h4, h5, hE⟩ := hE
    rw [EAny_one] at hE
    have a := iter_len ih h k i j hi hE
    have e0 : LenU false (.mk 4 noneP m n [t]) = m.toNat * LenU false t := by simp [LenU, LenL, bestN]
    have e1 : LenU true (.mk 4 noneP m n [t]) = n.toNat * LenU true t := by simp [LenU, LenL, bestN]
    rw [e0, e1]
    have b : m.toNat * LenU false t ≤ k * LenU false t := Nat.mul_le_mul_right _ (by omega)
    have c : k * LenU true t ≤ n.toNat * LenU true t := Nat.mul_le_mul_right _ (by omega)
    omega

end Go.Proofs.YtccbeimcggamiaaDoor

/-
  The document's own Length, and Any. Contracts for other texts; no statement of its own.
-/
namespace Go.Proofs.YtccbeimcggamiaaDoor
open Go Go.RowKit
attribute [local go_sem ↓] Go.wp_at_zero Go.wp_at_succ

/-- One more, by the test that the text makes. -/
theorem best1_eq (most : Bool) (a b : Nat) : (if (most == decide ((a : Int) < (b : Int))) = true then b else a) = best1 most a b := by
  unfold best1
  cases most
  · by_cases h : (a : Int) < (b : Int)
    · simp [h]; omega
    · simp [h]; omega
  · by_cases h : (a : Int) < (b : Int)
    · simp [h]; omega
    · simp [h]; omega
set_option maxRecDepth 20000 in
set_option maxHeartbeats 4000000 in
theorem length_n (most : Bool) : ∀ (N : Nat) (t : T) (w : World) (ok : Nat → Prop) (k : Value), SizeOf.sizeOf t ≤ N → WF t → Tree w ok t k →
    Calls Tryd.prog 38 #[nodeP t k, .bool most] w (RetInt w (lenN most t)) := by
  intro N
  induction N with
  | zero => intro t w ok k h; obtain ⟨op, p, lo, hi, l⟩ := t; simp at h
  | succ N ih =>
  intro t w ok k hN hwf ht
  obtain ⟨A, n', c, rfl⟩ := ht.form
  obtain ⟨hn, hm⟩ := ht.bound
  have hlen := hwf.len
  rw [← hn] at hlen
  unfold maxLen at hm
  have hop := hwf.op_cases
  have b1 := Box8.new w t (.slice A n' c)
  have hB : Below w.heap.size w (w.alloc (.cells #[.int .i64 t.op, .int .u64 (word t.set 0), .int .u64 (word t.set 1), .int .u64 (word t.set 2), .int .u64 (word t.set 3), .int .i64 t.lo, .int .i64 t.hi, .slice A n' c] 29)) := (Below.refl _ _).alloc (Nat.le_refl _) _
  have HN := Lib.hid hn
  have HT := Lib.hid ht
  have HWF := Lib.hid hwf
  have HB1 := Lib.hid b1
  have IH := Lib.hid ih
  have hpl : lenN most t = min (if t.op = 1 then 1 else if t.op = 2 then (lenL most t.kids).sum else if t.op = 3 then bestN most (lenL most t.kids) else if t.op = 4 then (if most then t.hi else t.lo).toNat * bestN most (lenL most t.kids) else 0) 1000 := by cases t; rfl
  have HPL := Lib.hid hpl
  clear hn ih hpl hwf ht
  unfold nodeP
  rcases hop with ⟨h, h2, z1, z2⟩ | ⟨h, h2, h3, z1, z2⟩ | ⟨h, h2, h3, z1, z2⟩ | ⟨h, h2, h3, h4, h5, h6⟩
  · have hb1 : (t.op == 1) = true := by simp [h]
    have HH := Lib.hid h
    clear h h2 z1 z2
    go_enter Tryd.func38, Tryd.ntmps38
    go_wp2
    go_ret
    exact ⟨by rw [HPL.out, if_pos HH.out]; rfl, hB⟩
  · have hb1 : (t.op == 1) = false := by simp [h]
    have hb2 : (t.op == 2) = true := by simp [h]
    have HPL2 : Hid (lenN most t = min (lenL most t.kids).sum 1000) := by show _ = _; rw [HPL.out, if_neg (by omega), if_pos h]
    clear h HPL z1 z2
    go_enter Tryd.func38, Tryd.ntmps38
    go_wp2
    go_loopg [5, 6] n' (fun m k i wr => ∃ j : Nat, i = .int .i64 (j : Int) ∧ j ≤ n' ∧ m = n' - j ∧ k = .int .i64 (((lenL most (t.kids.take j)).sum : Nat) : Int) ∧ Box8 wr w.heap.size t (.slice A n' c) ∧ Below w.heap.size w wr)
    case atStart => exact ⟨0, rfl, Nat.zero_le _, rfl, rfl, HB1.out, hB⟩
    case round =>
      obtain ⟨j, rfl, hj, hmj, rfl, x1, hW⟩ := hrel
      have HMJ := Lib.hid hmj
      obtain ⟨c0, c1, c2, c3, c4, c5, c6, c7⟩ := x1.cell
      clear b1 hmj
      by_cases hlt : j < n'
      · have hlt' : j < t.kids.length := by rw [← HN.out]; exact hlt
        obtain ⟨g, B, m1, m2, e1, hg1, htk, hcells⟩ := kid8 HT.out j (List.getElem?_eq_getElem hlt')
        subst e1
        have hks := kid_size t j hlt'
        have hwk := HWF.out.at j hlt'
        have hst := sum_take most t.kids j hlt'
        have hsl := sum_le most (t.kids.take j)
        rw [List.length_take] at hsl
        have hpu := lenN_le most (t.kids[j]'hlt')
        generalize t.kids[j] = u at *
        have HC : ∀ q v, (nodeC u (.slice B m1 m2))[q]? = some v → wr.cell? ⟨g, j * 8 + q, none⟩ = some v := fun q v h => by rw [Nat.mul_comm j 8]; exact (hW.cell (p := ⟨g, 8 * j + q, none⟩) hg1).trans (hcells q v h)
        have k0 : wr.cell? ⟨g, j * 8, none⟩ = _ := HC 0 _ rfl
        have k1 := HC 1 _ rfl
        have k2 := HC 2 _ rfl
        have k3 := HC 3 _ rfl
        have k4 := HC 4 _ rfl
        have k5 := HC 5 _ rfl
        have k6 := HC 6 _ rfl
        have k7 := HC 7 _ rfl
        have HK := Lib.hid (fun w' (hb : Below wr.heap.size wr w') => IH.out u w' ok (.slice B m1 m2) (by omega) hwk ((htk.stays hW).stays hb))
        have HST := Lib.hid hst
        clear HC hcells htk hks hwk hst
        unfold nodeP RetInt at HK
        generalize (lenL most (t.kids.take j)).sum = S at *
        have hS2 : S ≤ 202000 := by omega
        go_wp2_with (go_at_call 38; (with_reducible refine (HK.out _ (Below.refl _ _)).mono ?_); rintro e w5 ⟨rfl, hb5⟩)
        go_roundg (n' - (j + 1))
        case measure => have := HMJ.out; omega
        case rel => exact ⟨j + 1, by go_num, by omega, rfl, by rw [HST.out]; go_num, x1.stays hb5, gro hW hb5⟩
      · have hjn : j = t.kids.length := by rw [← HN.out]; omega
        have hwhole : t.kids.take j = t.kids := by rw [hjn]; exact List.take_length
        rw [hwhole]
        have hS2 := sum_le most t.kids
        rw [show t.kids.length = n' from HN.out.symm] at hS2
        generalize (lenL most t.kids).sum = S at *
        go_wp2
        all_goals
          go_ret
          refine ⟨congrArg Ending.returned (congrArg (Value.int .i64) ?_), hW⟩
          rw [HPL2.out]
          omega
  · have hb1 : (t.op == 1) = false := by simp [h]
    have hb2 : (t.op == 2) = false := by simp [h]
    have hb3 : (t.op == 3) = true := by simp [h]
    have HPL2 : Hid (lenN most t = min (bestN most (lenL most t.kids)) 1000) := by show _ = _; rw [HPL.out, if_neg (by omega), if_neg (by omega), if_pos h]
    have h0 : 0 < t.kids.length := by omega
    have hn2 : 0 < n' := by rw [HN.out]; omega
    have hn3 : (0 : Int) < (n' : Int) := by omega
    obtain ⟨g0, B0, l1, l2, e0, hg0, htk0, hcells0⟩ := kid8 HT.out 0 (List.getElem?_eq_getElem h0)
    subst e0
    have hks0 := kid_size t 0 h0
    have hwk0 := HWF.out.at 0 h0
    have hst0 := best_one most t.kids h0
    generalize t.kids[0] = u0 at *
    have hk0 := hcells0 0 _ rfl
    have hk1 := hcells0 1 _ rfl
    have hk2 := hcells0 2 _ rfl
    have hk3 := hcells0 3 _ rfl
    have hk4 := hcells0 4 _ rfl
    have hk5 := hcells0 5 _ rfl
    have hk6 := hcells0 6 _ rfl
    have hk7 := hcells0 7 _ rfl
    rw [show 8 * 0 + 0 = 0 from rfl] at hk0
    have HK0 := Lib.hid (fun w' (hb : Below w.heap.size w w') => IH.out u0 w' ok (.slice B0 l1 l2) (by omega) hwk0 (htk0.stays hb))
    have HST0 := Lib.hid hst0
    clear h HPL z1 z2 hcells0 htk0 hks0 hwk0 hst0
    unfold nodeP RetInt at HK0
    go_enter Tryd.func38, Tryd.ntmps38
    go_wp2_with (go_at_call 38; (with_reducible refine (HK0.out _ hB).mono ?_); rintro e w4 ⟨rfl, hb4⟩; have x0 := HB1.out.stays hb4; have hB4 := gro1 (Below.refl _ _) hb4)
    clear hk0 hk1 hk2 hk3 hk4 hk5 hk6 hk7
    go_loopg [5, 7] (n' - 1) (fun m k i wr => ∃ j : Nat, i = .int .i64 (j : Int) ∧ 1 ≤ j ∧ j ≤ n' ∧ m = n' - j ∧ k = .int .i64 ((bestN most (lenL most (t.kids.take j)) : Nat) : Int) ∧ Box8 wr w.heap.size t (.slice (some ⟨g0, 0, none⟩) n' c) ∧ Below w.heap.size w wr)
    case atStart => exact ⟨1, rfl, Nat.le_refl _, hn2, rfl, by rw [HST0.out], x0, hB4⟩
    case round =>
      obtain ⟨j, rfl, h1j, hj, hmj, rfl, x1, hW⟩ := hrel
      have HMJ := Lib.hid hmj
      obtain ⟨c0, c1, c2, c3, c4, c5, c6, c7⟩ := x1.cell
      clear b1 hmj x0
      by_cases hlt : j < n'
      · have hlt' : j < t.kids.length := by rw [← HN.out]; exact hlt
        obtain ⟨g, B, m1, m2, e1, hg1, htk, hcells⟩ := kid8 HT.out j (List.getElem?_eq_getElem hlt')
        injection e1 with e1
        injection e1 with e1
        subst e1
        have hks := kid_size t j hlt'
        have hwk := HWF.out.at j hlt'
        have hst := best_take most t.kids j hlt' h1j
        have hsl := best_le most (t.kids.take j)
        have hpu := lenN_le most (t.kids[j]'hlt')
        generalize t.kids[j] = u at *
        have HC : ∀ q v, (nodeC u (.slice B m1 m2))[q]? = some v → wr.cell? ⟨g0, j * 8 + q, none⟩ = some v := fun q v h => by rw [Nat.mul_comm j 8]; exact (hW.cell (p := ⟨g0, 8 * j + q, none⟩) hg1).trans (hcells q v h)
        have k0 : wr.cell? ⟨g0, j * 8, none⟩ = _ := HC 0 _ rfl
        have k1 := HC 1 _ rfl
        have k2 := HC 2 _ rfl
        have k3 := HC 3 _ rfl
        have k4 := HC 4 _ rfl
        have k5 := HC 5 _ rfl
        have k6 := HC 6 _ rfl
        have k7 := HC 7 _ rfl
        have HK := Lib.hid (fun w' (hb : Below wr.heap.size wr w') => IH.out u w' ok (.slice B m1 m2) (by omega) hwk ((htk.stays hW).stays hb))
        have HST := Lib.hid hst
        clear HC hcells htk hks hwk hst
        unfold nodeP RetInt at HK
        generalize bestN most (lenL most (t.kids.take j)) = S at *
        generalize hU : lenN most u = U at *
        clear hU
        go_wp2_with (go_at_call 38; (with_reducible refine (HK.out _ (Below.refl _ _)).mono ?_); rintro e w5 ⟨rfl, hb5⟩)
        all_goals
          go_roundg (n' - (j + 1))
          case measure => have := HMJ.out; omega
          case rel =>
            refine ⟨j + 1, by go_num, by omega, by omega, rfl, ?_, x1.stays hb5, gro hW hb5⟩
            rw [HST.out, ← best1_eq]
            simp [*]
      · have hjn : j = t.kids.length := by rw [← HN.out]; omega
        have hwhole : t.kids.take j = t.kids := by rw [hjn]; exact List.take_length
        rw [hwhole]
        have hS2 := best_le most t.kids
        generalize bestN most (lenL most t.kids) = S at *
        go_wp2
        all_goals
          go_ret
          refine ⟨congrArg Ending.returned (congrArg (Value.int .i64) ?_), hW⟩
          rw [HPL2.out]
          omega
  · have hb1 : (t.op == 1) = false := by simp [h]
    have hb2 : (t.op == 2) = false := by simp [h]
    have hb3 : (t.op == 3) = false := by simp [h]
    have hb4 : (t.op == 4) = true := by simp [h]
    have h0 : 0 < t.kids.length := by omega
    have hn3 : (0 : Int) < (n' : Int) := by rw [HN.out]; omega
    have hone : bestN most (lenL most t.kids) = lenN most (t.kids[0]'h0) := by rw [← best_one most t.kids h0, List.take_of_length_le (by omega)]
    obtain ⟨T0, hT0⟩ : ∃ T0 : Nat, (if most then t.hi else t.lo) = T0 := ⟨(if most then t.hi else t.lo).toNat, by split <;> omega⟩
    have hT1 : T0 ≤ 32 := by split at hT0 <;> omega
    have HPL2 : Hid (lenN most t = min (T0 * lenN most (t.kids[0]'h0)) 1000) := by show _ = _; rw [HPL.out, if_neg (by omega), if_neg (by omega), if_neg (by omega), if_pos h, hT0, hone]; rfl
    obtain ⟨g0, B0, l1, l2, e0, hg0, htk0, hcells0⟩ := kid8 HT.out 0 (List.getElem?_eq_getElem h0)
    subst e0
    have hks0 := kid_size t 0 h0
    have hwk0 := HWF.out.at 0 h0
    have hpu := lenN_le most (t.kids[0]'h0)
    generalize t.kids[0] = u0 at *
    have hk0 := hcells0 0 _ rfl
    have hk1 := hcells0 1 _ rfl
    have hk2 := hcells0 2 _ rfl
    have hk3 := hcells0 3 _ rfl
    have hk4 := hcells0 4 _ rfl
    have hk5 := hcells0 5 _ rfl
    have hk6 := hcells0 6 _ rfl
    have hk7 := hcells0 7 _ rfl
    rw [show 8 * 0 + 0 = 0 from rfl] at hk0
    have HK0 := Lib.hid (fun w' (hb : Below w.heap.size w w') => IH.out u0 w' ok (.slice B0 l1 l2) (by omega) hwk0 (htk0.stays hb))
    have hprod : T0 * lenN most u0 ≤ 32 * 1000 := Nat.mul_le_mul hT1 hpu
    have hpi : (T0 : Int) * (lenN most u0 : Int) = ((T0 * lenN most u0 : Nat) : Int) := by simp
    have p0 : (0 : Int) ≤ (T0 : Int) * (lenN most u0 : Int) := by rw [hpi]; omega
    have p1 : (T0 : Int) * (lenN most u0 : Int) ≤ 9223372036854775807 := by rw [hpi]; omega
    have HPI := Lib.hid hpi
    have HPD := Lib.hid hprod
    clear h HPL hcells0 htk0 hks0 hwk0 hone hpi hprod h2 h3 h4 h5 h6 h0
    generalize hU : lenN most u0 = U at *
    clear hU
    unfold nodeP RetInt at HK0
    generalize T0 * U = Pr at *
    cases most
    · have hlo : t.lo = T0 := by simpa using hT0
      have q0 : (0 : Int) ≤ t.lo * (U : Int) := by rw [hlo]; exact p0
      have q1 : t.lo * (U : Int) ≤ 9223372036854775807 := by rw [hlo]; exact p1
      have HLO := Lib.hid hlo
      clear hT0 hlo p0 p1 hT1
      go_enter Tryd.func38, Tryd.ntmps38
      go_wp2_with (go_at_call 38; (with_reducible refine (HK0.out _ hB).mono ?_); rintro e w4 ⟨rfl, hb4⟩; have hB4 := gro1 (Below.refl _ _) hb4)
      all_goals
        go_ret
        refine ⟨congrArg Ending.returned (congrArg (Value.int .i64) ?_), hB4⟩
        have e2 : t.lo * (U : Int) = (Pr : Int) := by rw [HLO.out]; exact HPI.out
        rw [HPL2.out]
        omega
    · have hlo : t.hi = T0 := by simpa using hT0
      have q0 : (0 : Int) ≤ t.hi * (U : Int) := by rw [hlo]; exact p0
      have q1 : t.hi * (U : Int) ≤ 9223372036854775807 := by rw [hlo]; exact p1
      have HLO := Lib.hid hlo
      clear hT0 hlo p0 p1 hT1
      go_enter Tryd.func38, Tryd.ntmps38
      go_wp2_with (go_at_call 38; (with_reducible refine (HK0.out _ hB).mono ?_); rintro e w4 ⟨rfl, hb4⟩; have hB4 := gro1 (Below.refl _ _) hb4)
      all_goals
        go_ret
        refine ⟨congrArg Ending.returned (congrArg (Value.int .i64) ?_), hB4⟩
        have e2 : t.hi * (U : Int) = (Pr : Int) := by rw [HLO.out]; exact HPI.out
        rw [HPL2.out]
        omega

theorem length_p {t : T} {k : Value} {ok : Nat → Prop} (most : Bool) (w : World) (hwf : WF t) (ht : Tree w ok t k) : Calls Tryd.prog 38 #[nodeP t k, .bool most] w (RetInt w (lenN most t)) :=
  length_n most _ t w ok k (Nat.le_refl _) hwf ht

end Go.Proofs.YtccbeimcggamiaaDoor

/-
  All bytes of all sets, as a test. Contracts for other texts; no statement of its own.
-/
namespace Go.Proofs.YtccbeimcggamiaaDoor
open Go Go.RowKit

mutual
def anyP : T → Nat → Bool
  | .mk op p lo hi l => fun x => p x || anyL l x
def anyL : List T → Nat → Bool
  | [] => fun _ => false
  | t :: ts => fun x => anyP t x || anyL ts x
end
theorem anyP_eq (t : T) : anyP t = orP t.set (anyL t.kids) := by cases t; rfl
theorem anyL_app (l l' : List T) (x : Nat) : anyL (l ++ l') x = (anyL l x || anyL l' x) := by
  induction l with
  | nil => rfl
  | cons t ts ih => simp [anyL, ih, Bool.or_assoc]
theorem anyL_take (l : List T) (j : Nat) (h : j < l.length) (x : Nat) : anyL (l.take (j + 1)) x = (anyL (l.take j) x || anyP (l[j]'h) x) := by
  rw [List.take_succ_eq_append_getElem h, anyL_app]
  simp [anyL]

def RetSetOf (w : World) (p : Nat → Bool) (e : Ending) (w' : World) : Prop := e = .returned (setV p) ∧ Below w.heap.size w w'
theorem Box8.put4 {w : World} {g g' : Nat} {t : T} {k : Value} (h : Box8 w g t k) (hg : g ≠ g') (q : Nat → Bool) : Box8 (Go.Proofs.YtccbeimcggamiaaDoor.put4 w g' q) g t k := by
  unfold Box8 Go.Proofs.YtccbeimcggamiaaDoor.put4 at *
  rw [Below.heap_setCell _ _ _ _ hg, Below.heap_setCell _ _ _ _ hg, Below.heap_setCell _ _ _ _ hg, Below.heap_setCell _ _ _ _ hg]
  exact h

end Go.Proofs.YtccbeimcggamiaaDoor

/-
  Words within a longer one; a word's bytes are all of Any; words put together. Plain mathematics; no statement of its own.
-/
namespace Go.Proofs.YtccbeimcggamiaaDoor
open Go

/-- From where to where one goes is the same, a further on, up to n. -/
def Shift (a n : Nat) (R R' : Nat → Nat → Prop) : Prop := ∀ i j, i ≤ n → j ≤ n → (R (a + i) (a + j) ↔ R' i j)
/-- One goes forwards. -/
def Onw (R : Nat → Nat → Prop) (N : Nat) : Prop := ∀ i j, i ≤ N → R i j → i ≤ j ∧ j ≤ N

theorem shift_comp {a n N : Nat} {R R' S S' : Nat → Nat → Prop} (hN : a + n ≤ N) (hR : Shift a n R R') (hS : Shift a n S S') (fR : Onw R N) (fS : Onw S N) (fR' : Onw R' n) :
    Shift a n (fun i j => ∃ k, R i k ∧ S k j) (fun i j => ∃ k, R' i k ∧ S' k j) := by
  intro i j hi hj
  constructor
  · rintro ⟨k, h1, h2⟩
    have b1 := fR (a + i) k (by omega) h1
    have b2 := fS k (a + j) b1.2 h2
    refine ⟨k - a, ?_, ?_⟩
    · have := (hR i (k - a) hi (by omega)).1
      rw [show a + (k - a) = k by omega] at this
      exact this h1
    · have := (hS (k - a) j (by omega) hj).1
      rw [show a + (k - a) = k by omega] at this
      exact this h2
  · rintro ⟨k, h1, h2⟩
    have b1 := fR' i k hi h1
    exact ⟨a + k, (hR i k hi b1.2).2 h1, (hS k j b1.2 hj).2 h2⟩
theorem shift_eq (a n : Nat) : Shift a n (fun i j => i = j) (fun i j => i = j) := by
  intro i j _ _
  constructor
  · intro h; omega
  · intro h; omega
theorem fwd_iter {R : Nat → Nat → Prop} {N : Nat} (h : Onw R N) (m : Nat) : Onw (iter R m) N := fun i j hi hE => iter_bd h m i j hi hE
theorem shift_iter {a n N : Nat} {R R' : Nat → Nat → Prop} (hN : a + n ≤ N) (hR : Shift a n R R') (fR : Onw R N) (fR' : Onw R' n) : ∀ m, Shift a n (iter R m) (iter R' m)
  | 0 => shift_eq a n
  | m + 1 => shift_comp hN (shift_iter hN hR fR fR' m) hR (fwd_iter fR m) fR (fwd_iter fR' m)

theorem getD_mid (us xs bs : List Int) (i : Nat) (h : i < xs.length) : (us ++ xs ++ bs).getD (us.length + i) 0 = xs.getD i 0 := by
  rw [List.getD_eq_getElem?_getD, List.getD_eq_getElem?_getD, List.append_assoc, List.getElem?_append_right (by omega), show us.length + i - us.length = i by omega, List.getElem?_append_left h]

theorem fwd_E {xs : List Int} {t : T} (h : WF t) : Onw (E xs t) xs.length := fun i j hi hE => E_bd h i j hi hE
theorem fwd_ECat {xs : List Int} : ∀ {l : List T}, (∀ x ∈ l, WF x) → Onw (ECat xs l) xs.length
  | [], _, i, j, hi, h => by have e : i = j := h; omega
  | t :: ts, hw, i, j, hi, h => by
    obtain ⟨k, h1, h2⟩ := h
    have a := fwd_E (hw t (by simp)) i k hi h1
    have b := fwd_ECat (fun x hx => hw x (by simp [hx])) k j a.2 h2
    omega

theorem E_shift (us xs bs : List Int) {t : T} (h : WF t) : Shift us.length xs.length (E (us ++ xs ++ bs) t) (E xs t) := by
  have hlen : us.length + xs.length ≤ (us ++ xs ++ bs).length := by simp
  induction h with
  | one p =>
    intro i j hi hj
    rw [E_one, E_one]
    constructor
    · rintro ⟨h1, h2, h3⟩
      have hl : i < xs.length := by omega
      rw [getD_mid us xs bs i hl] at h2
      exact ⟨hl, h2, by omega⟩
    · rintro ⟨h1, h2, h3⟩
      refine ⟨by omega, ?_, by omega⟩
      rw [getD_mid us xs bs i h1]
      exact h2
  | cat l h2 hN h ih =>
    have key : ∀ (l : List T), (∀ x ∈ l, WF x) → (∀ x ∈ l, Shift us.length xs.length (E (us ++ xs ++ bs) x) (E xs x)) → Shift us.length xs.length (ECat (us ++ xs ++ bs) l) (ECat xs l) := by
      intro l
      induction l with
      | nil => exact fun _ _ => shift_eq _ _
      | cons t ts ihl => exact fun hw hs => shift_comp hlen (hs t (by simp)) (ihl (fun x hx => hw x (by simp [hx])) (fun x hx => hs x (by simp [hx]))) (fwd_E (hw t (by simp))) (fwd_ECat (fun x hx => hw x (by simp [hx]))) (fwd_E (hw t (by simp)))
    intro i j hi hj
    rw [E_cat, E_cat]
    exact key l h ih i j hi hj
  | alt l h2 hN h ih =>
    intro i j hi hj
    rw [E_alt, E_alt, EAny_iff, EAny_iff]
    constructor
    · rintro ⟨t, ht, hE⟩; exact ⟨t, ht, (ih t ht i j hi hj).1 hE⟩
    · rintro ⟨t, ht, hE⟩; exact ⟨t, ht, (ih t ht i j hi hj).2 hE⟩
  | rep m n t h0 h1 h2 h3 h ih =>
    intro i j hi hj
    rw [E_rep, E_rep]
    constructor
    · rintro ⟨k, ha, hb, hE⟩
      rw [EAny_one] at hE
      exact ⟨k, ha, hb, by rw [EAny_one]; exact (shift_iter hlen ih (fwd_E h) (fwd_E h) k i j hi hj).1 hE⟩
    · rintro ⟨k, ha, hb, hE⟩
      rw [EAny_one] at hE
      exact ⟨k, ha, hb, by rw [EAny_one]; exact (shift_iter hlen ih (fwd_E h) (fwd_E h) k i j hi hj).2 hE⟩

/-- A word of the first part stands at the beginning of both. -/
theorem E_left (xs ys : List Int) {t : T} (h : WF t) : E (xs ++ ys) t 0 xs.length ↔ E xs t 0 xs.length := by
  have := E_shift [] xs ys h 0 xs.length (Nat.zero_le _) (Nat.le_refl _)
  simpa using this
theorem E_right (xs ys : List Int) {t : T} (h : WF t) : E (xs ++ ys) t xs.length (xs.length + ys.length) ↔ E ys t 0 ys.length := by
  have := E_shift xs ys [] h 0 ys.length (Nat.zero_le _) (Nat.le_refl _)
  simpa using this
/-- Words put together. -/
theorem E_both {xs ys : List Int} {a b : T} (ha : WF a) (hb : WF b) (h1 : E xs a 0 xs.length) (h2 : E ys b 0 ys.length) : E (xs ++ ys) (.mk 2 noneP 0 0 [a, b]) 0 (xs ++ ys).length := by
  rw [E_cat, List.length_append]
  exact ⟨xs.length, (E_left xs ys ha).2 h1, xs.length + ys.length, (E_right xs ys hb).2 h2, rfl⟩
theorem E_twice {xs : List Int} {a : T} (ha : WF a) (h1 : E xs a 0 xs.length) : E (xs ++ xs) (.mk 4 noneP 1 2 [a]) 0 (xs ++ xs).length := by
  rw [E_rep, List.length_append]
  refine ⟨2, by omega, by omega, ?_⟩
  rw [EAny_one]
  exact ⟨xs.length, ⟨0, rfl, (E_left xs xs ha).2 h1⟩, (E_right xs xs ha).2 h1⟩
theorem E_once {xs : List Int} {a : T} (h1 : E xs a 0 xs.length) : E xs (.mk 4 noneP 1 2 [a]) 0 xs.length := by
  rw [E_rep]
  refine ⟨1, by omega, by omega, ?_⟩
  rw [EAny_one]
  exact ⟨0, rfl, h1⟩
theorem E_alt1 {xs : List Int} {a b : T} {i j : Nat} (h1 : E xs a i j) : E xs (.mk 3 noneP 0 0 [a, b]) i j := by
  rw [E_alt]; exact .inl h1
theorem E_alt2 {xs : List Int} {a b : T} {i j : Nat} (h1 : E xs b i j) : E xs (.mk 3 noneP 0 0 [a, b]) i j := by
  rw [E_alt]; exact .inr (.inl h1)

theorem anyL_of {l : List T} {t : T} {x : Nat} (h : t ∈ l) (hx : anyP t x = true) : anyL l x = true := by
  induction l with
  | nil => cases h
  | cons u us ih =>
    simp only [anyL, Bool.or_eq_true]
    rcases List.mem_cons.1 h with rfl | h
    · exact .inl hx
    · exact .inr (ih h)
/-- Each byte of a word is one of Any. -/
theorem E_any {xs : List Int} {t : T} (h : WF t) : ∀ i j, i ≤ xs.length → E xs t i j → ∀ k, i ≤ k → k < j → anyP t (xs.getD k 0).toNat = true := by
  induction h with
  | one p =>
    intro i j hi hE k h1 h2
    rw [E_one] at hE
    obtain rfl : k = i := by omega
    simp only [anyP, Bool.or_eq_true]
    exact .inl hE.2.1
  | cat l h2 hN h ih =>
    have key : ∀ (l : List T), (∀ x ∈ l, WF x) → (∀ x ∈ l, ∀ i j, i ≤ xs.length → E xs x i j → ∀ k, i ≤ k → k < j → anyP x (xs.getD k 0).toNat = true) → ∀ i j, i ≤ xs.length → ECat xs l i j → ∀ k, i ≤ k → k < j → anyL l (xs.getD k 0).toNat = true := by
      intro l
      induction l with
      | nil =>
        intro _ _ i j _ hE k h1 h2
        have e : i = j := hE
        omega
      | cons u us ihl =>
        intro hw hs i j hi hE k h1 h2
        obtain ⟨y, e1, e2⟩ := hE
        have b := fwd_E (hw u (by simp)) i y hi e1
        simp only [anyL, Bool.or_eq_true]
        by_cases hk : k < y
        · exact .inl (hs u (by simp) i y hi e1 k h1 hk)
        · exact .inr (ihl (fun x hx => hw x (by simp [hx])) (fun x hx => hs x (by simp [hx])) y j b.2 e2 k (by omega) h2)
    intro i j hi hE k h1 h2
    rw [E_cat] at hE
    simp only [anyP, Bool.or_eq_true]
    exact .inr (key l h ih i j hi hE k h1 h2)
  | alt l h2 hN h ih =>
    intro i j hi hE k h1 h2
    rw [E_alt, EAny_iff] at hE
    obtain ⟨u, hu, hE⟩ := hE
    simp only [anyP, Bool.or_eq_true]
    exact .inr (anyL_of hu (ih u hu i j hi hE k h1 h2))
  | rep m n u h0 h1 h2 h3 h ih =>
    intro i j hi hE k e1 e2
    rw [E_rep] at hE
    obtain ⟨c, _, _, hE⟩ := hE
    rw [EAny_one] at hE
    have key : ∀ (c i j : Nat), i ≤ xs.length → iter (E xs u) c i j → i ≤ k → k < j → anyP u (xs.getD k 0).toNat = true := by
      intro c
      induction c with
      | zero => intro i j _ hE a b; have e : i = j := hE; omega
      | succ c ihc =>
        intro i j hi hE a b
        obtain ⟨y, e1, e2⟩ := hE
        have bb := iter_bd (fwd_E h) c i y hi e1
        by_cases hk : k < y
        · exact ihc i y hi e1 a hk
        · exact ih y j bb.2 e2 k (by omega) b
    simp only [anyP, anyL, Bool.or_eq_true]
    exact .inr (.inl (key c i j hi hE e1 e2))

end Go.Proofs.YtccbeimcggamiaaDoor
