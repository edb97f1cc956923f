/-
  Several texts of this proof in one file: FlatEnds, FlatRef, FolMath, FolMem. No statement of its own.
-/
import Derived.Test.YtfgppmipaahleaaMn15
import Derived.Test.YtfgppmipaahleaaMn9
import Derived.Test.YtfgppmipaahleaaMn5
set_option linter.unusedVariables false
set_option linter.unusedSimpArgs false

/-
  First and last of a flat pattern, kid by kid, as a loop finds them. Plain mathematics; no statement of its own.
-/
namespace Go.Proofs.Ytfgppmipaahleaa
open Go

theorem plTL_app : ∀ (l m : List T), plTL (l ++ m) = plTL l + plTL m
  | [], m => by simp [plTL]
  | t :: l, m => by simp only [List.cons_append, plTL]; rw [plTL_app l m]; omega
theorem plTL_take (l : List T) (j : Nat) (h : j < l.length) : plTL (l.take (j + 1)) = plTL (l.take j) + plT (l[j]'h) := by
  rw [List.take_succ_eq_append_getElem h, plTL_app]
  simp [plTL]
theorem plTL_le (l : List T) (k : Nat) : plTL (l.take k) ≤ plTL l := by
  have h := List.take_append_drop k l
  have := plTL_app (l.take k) (l.drop k)
  rw [h] at this
  omega
theorem altF_app : ∀ (l m : List T) (a : Nat), altF (l ++ m) a = altF l a ++ altF m (a + plTL l)
  | [], m, a => by simp [altF, plTL]
  | t :: l, m, a => by
    simp only [List.cons_append, altF, plTL]
    rw [altF_app l m, List.append_assoc, Nat.add_assoc]
theorem altF_take (l : List T) (j : Nat) (h : j < l.length) (a : Nat) : altF (l.take (j + 1)) a = altF (l.take j) a ++ fstT (l[j]'h) (a + plTL (l.take j)) := by
  rw [List.take_succ_eq_append_getElem h, altF_app]
  simp [altF]
theorem catF_all : ∀ (l : List T) (a : Nat), allE l = true → catF l a = altF l a
  | [], a, _ => by simp [catF, altF]
  | t :: l, a, h => by
    simp only [allE, Bool.and_eq_true] at h
    simp only [catF, altF]
    rw [if_pos h.1, catF_all l _ h.2]
theorem catF_stop : ∀ (l : List T) (j : Nat) (h : j < l.length) (a : Nat), allE (l.take j) = true → emptyT (l[j]'h) = false → catF l a = altF (l.take (j + 1)) a
  | [], j, h, a, _, _ => by simp at h
  | t :: l, 0, h, a, _, he => by
    simp only [List.getElem_cons_zero] at he
    simp [catF, altF, he]
  | t :: l, j + 1, h, a, ha, he => by
    simp only [List.take_succ_cons, allE, Bool.and_eq_true] at ha
    simp only [List.getElem_cons_succ] at he
    rw [List.take_succ_cons]
    simp only [catF, altF]
    rw [if_pos ha.1, catF_stop l j (by simpa using h) _ ha.2 he]
theorem catB_all : ∀ (l : List T) (a : Nat), allE l = true → catB l a = altB l a
  | [], a, _ => by simp [catB, altB]
  | t :: l, a, h => by
    simp only [allE, Bool.and_eq_true] at h
    simp only [catB, altB]
    rw [if_pos h.2, catB_all l _ h.2]
theorem allE_false (l : List T) (i : Nat) (h : i < l.length) (he : emptyT (l[i]'h) = false) : allE l = false := by
  induction l generalizing i with
  | nil => simp at h
  | cons t l ih =>
    cases i with
    | zero => simp only [List.getElem_cons_zero] at he; simp [allE, he]
    | succ i => simp only [List.getElem_cons_succ] at he; simp [allE, ih i (by simpa using h) he]
theorem catB_stop : ∀ (l : List T) (i : Nat) (h : i < l.length) (a : Nat), allE (l.drop (i + 1)) = true → emptyT (l[i]'h) = false → catB l a = altB (l.drop i) (a + plTL (l.take i))
  | [], i, h, a, _, _ => by simp at h
  | t :: l, 0, h, a, ha, he => by
    simp only [List.drop_succ_cons, List.drop_zero] at ha
    simp only [catB, List.drop_zero, altB, List.take_zero, plTL, Nat.add_zero]
    rw [if_pos ha, catB_all l _ ha]
  | t :: l, i + 1, h, a, ha, he => by
    simp only [List.getElem_cons_succ] at he
    simp only [List.drop_succ_cons] at ha
    have hf := allE_false l i (by simpa using h) he
    simp only [catB, List.drop_succ_cons, List.take_succ_cons, plTL]
    rw [hf, catB_stop l i (by simpa using h) _ ha he]
    simp [Nat.add_assoc]
theorem altB_drop (l : List T) (i : Nat) (h : i < l.length) (a : Nat) : altB (l.drop i) (a + plTL (l.take i)) = altB (l.drop (i + 1)) (a + plTL (l.take (i + 1))) ++ lstT (l[i]'h) (a + plTL (l.take i)) := by
  rw [List.drop_eq_getElem_cons h, plTL_take l i h]
  simp only [altB]
  rw [Nat.add_assoc]
theorem allE_drop (l : List T) (i : Nat) (h : i < l.length) : allE (l.drop i) = (emptyT (l[i]'h) && allE (l.drop (i + 1))) := by
  rw [List.drop_eq_getElem_cons h]
  simp only [allE]
mutual
theorem fst_len : ∀ (t : T) (a : Nat), (fstT t a).length ≤ plT t
  | .mk op p lo hi l, a => by
    have h1 := altF_len l a
    have h2 := catF_len l a
    simp only [fstT, plT]
    split
    · simp
    · split <;> omega
theorem altF_len : ∀ (l : List T) (a : Nat), (altF l a).length ≤ plTL l
  | [], a => by simp [altF]
  | t :: ts, a => by
    have h1 := fst_len t a
    have h2 := altF_len ts (a + plT t)
    simp only [altF, plTL, List.length_append]
    omega
theorem catF_len : ∀ (l : List T) (a : Nat), (catF l a).length ≤ plTL l
  | [], a => by simp [catF]
  | t :: ts, a => by
    have h1 := fst_len t a
    have h2 := catF_len ts (a + plT t)
    simp only [catF, plTL, List.length_append]
    split
    · omega
    · simp; omega
end
mutual
theorem lst_len : ∀ (t : T) (a : Nat), (lstT t a).length ≤ plT t
  | .mk op p lo hi l, a => by
    have h1 := altB_len l a
    have h2 := catB_len l a
    simp only [lstT, plT]
    split
    · simp
    · split <;> omega
theorem altB_len : ∀ (l : List T) (a : Nat), (altB l a).length ≤ plTL l
  | [], a => by simp [altB]
  | t :: ts, a => by
    have h1 := lst_len t a
    have h2 := altB_len ts (a + plT t)
    simp only [altB, plTL, List.length_append]
    omega
theorem catB_len : ∀ (l : List T) (a : Nat), (catB l a).length ≤ plTL l
  | [], a => by simp [catB]
  | t :: ts, a => by
    have h1 := lst_len t a
    have h2 := catB_len ts (a + plT t)
    simp only [catB, plTL, List.length_append]
    split
    · omega
    · simp; omega
end
end Go.Proofs.Ytfgppmipaahleaa

/-
  The document's own Empty, and Places, of a pattern laid out flat. Contracts for other texts; no statement of its own.
-/
namespace Go.Proofs.Ytfgppmipaahleaa
open Go Go.RowKit
attribute [local go_sem ↓] Go.wp_at_zero Go.wp_at_succ

/-- A pattern laid out flat. -/
inductive FT : T → Prop
  | mk (op : Int) (p : Nat → Bool) (l : List T) (hop : op = 1 ∧ l = [] ∨ op = 2 ∨ op = 3 ∨ op = 5) (hN : l.length ≤ 202) (h : ∀ x ∈ l, FT x) : FT (.mk op p 0 0 l)
theorem FT.len {t : T} (h : FT t) : t.kids.length ≤ 202 := by cases h with | mk op p l hop hN h => exact hN
theorem FT.at {t : T} (h : FT t) (j : Nat) (hj : j < t.kids.length) : FT (t.kids[j]'hj) := by cases h with | mk op p l hop hN h => exact h _ (List.getElem_mem hj)
theorem FT.op {t : T} (h : FT t) : t.op = 1 ∧ t.kids = [] ∨ t.op = 2 ∨ t.op = 3 ∨ t.op = 5 := by cases h with | mk op p l hop hN h => exact hop
theorem emptyT_eq (t : T) : emptyT t = if t.op = 1 ∨ t.op = 5 then decide (t.op = 5) else if t.op = 2 then allE t.kids else anyE t.kids := by
  cases t
  rw [emptyT]
  rfl
theorem ft_rest {k : T} (h : FT k) : ∀ d, FT (restT k d)
  | 0 => .mk 2 noneP [] (.inr (.inl rfl)) (by simp) (fun x hx => by simp at hx)
  | d + 1 => .mk 5 noneP _ (.inr (.inr (.inr rfl))) (by simp) (fun x hx => by
    simp at hx
    subst hx
    exact .mk 2 noneP _ (.inr (.inl rfl)) (by simp) (fun y hy => by
      simp at hy
      rcases hy with rfl | rfl
      · exact h
      · exact ft_rest h d))
theorem flatL_map : ∀ l : List T, flatL l = l.map flatT
  | [] => rfl
  | t :: ts => by simp [flatL, flatL_map ts]
theorem ft_flat {t : T} (hwf : WF t) : FT (flatT t) := by
  induction hwf with
  | one p => simpa [flatT, flatL] using FT.mk 1 p [] (.inl ⟨rfl, rfl⟩) (by simp) (fun x hx => by simp at hx)
  | cat l h2 hN h ih =>
    have e : flatT (.mk 2 noneP 0 0 l) = .mk 2 noneP 0 0 (l.map flatT) := by simp [flatT, flatL_map]
    rw [e]
    exact .mk 2 noneP _ (.inr (.inl rfl)) (by simpa using hN) (fun x hx => by
      simp at hx
      obtain ⟨y, hy, rfl⟩ := hx
      exact ih y hy)
  | alt l h2 hN h ih =>
    have e : flatT (.mk 3 noneP 0 0 l) = .mk 3 noneP 0 0 (l.map flatT) := by simp [flatT, flatL_map]
    rw [e]
    exact .mk 3 noneP _ (.inr (.inr (.inl rfl))) (by simpa using hN) (fun x hx => by
      simp at hx
      obtain ⟨y, hy, rfl⟩ := hx
      exact ih y hy)
  | rep m n u h0 h1 h2 h3 hu ih =>
    have e : flatT (.mk 4 noneP m n [u]) = .mk 2 noneP 0 0 (List.replicate m.toNat (flatT u) ++ [restT (flatT u) (n - m).toNat]) := by simp [flatT, flatHead]
    rw [e]
    exact .mk 2 noneP _ (.inr (.inl rfl)) (by simp; omega) (fun x hx => by
      simp at hx
      rcases hx with ⟨_, rfl⟩ | rfl
      · exact ih
      · exact ft_rest ih _)
/-- All of the first j are empty; one of them is. -/
theorem allE_take (l : List T) (j : Nat) (h : j < l.length) : allE (l.take (j + 1)) = (allE (l.take j) && emptyT (l[j]'h)) := by
  have app : ∀ l m : List T, allE (l ++ m) = (allE l && allE m) := by
    intro l m
    induction l with
    | nil => simp [allE]
    | cons t ts ih => simp [allE, ih, Bool.and_assoc]
  rw [List.take_succ_eq_append_getElem h, app]
  simp [allE]
theorem anyE_take (l : List T) (j : Nat) (h : j < l.length) : anyE (l.take (j + 1)) = (anyE (l.take j) || emptyT (l[j]'h)) := by
  have app : ∀ l m : List T, anyE (l ++ m) = (anyE l || anyE m) := by
    intro l m
    induction l with
    | nil => simp [anyE]
    | cons t ts ih => simp [anyE, ih, Bool.or_assoc]
  rw [List.take_succ_eq_append_getElem h, app]
  simp [anyE]

set_option maxRecDepth 20000 in
set_option maxHeartbeats 2000000 in
theorem empty_n : ∀ (N : Nat) (t : T) (w : World) (ok : Nat → Prop) (k : Value), SizeOf.sizeOf t ≤ N → FT t → Tree w ok t k →
    Calls Try.prog 29 #[nodeP t k] w fun e w' => e = .returned (.bool (emptyT t)) ∧ Below w.heap.size w w' := by
  intro N
  induction N with
  | zero => intro t w ok k h; obtain ⟨op, p, lo, hi, l⟩ := t; simp at h
  | succ N ih =>
  intro t w ok k hN hft ht
  obtain ⟨A, n', c, rfl⟩ := ht.form
  obtain ⟨hn, hm⟩ := ht.bound
  have hlen := hft.len
  rw [← hn] at hlen
  unfold maxLen at hm
  have hop := hft.op
  have b1 := Box8.new w t (.slice A n' c)
  have hB : Below w.heap.size w (w.alloc (.cells #[.int .i64 t.op, .int .u64 (word t.set 0), .int .u64 (word t.set 1), .int .u64 (word t.set 2), .int .u64 (word t.set 3), .int .i64 t.lo, .int .i64 t.hi, .slice A n' c] 29)) := (Below.refl _ _).alloc (Nat.le_refl _) _
  have hE : emptyT t = if t.op = 1 ∨ t.op = 5 then decide (t.op = 5) else if t.op = 2 then allE t.kids else anyE t.kids := emptyT_eq t
  obtain ⟨c0, c1, c2, c3, c4, c5, c6, c7⟩ := b1.cell
  unfold nodeP
  by_cases h1 : t.op = 1
  · rw [if_pos (.inl h1)] at hE
    have hE' : emptyT t = false := by rw [hE, h1]; decide
    rw [hE']
    rw [h1] at c0 ⊢
    clear hE hE' hop ih ht b1 hft hn hN
    go_enter Try.func29, Try.ntmps29
    go_wp2
    go_ret
    exact ⟨rfl, by rw [h1] at hB; exact hB⟩
  · by_cases h5 : t.op = 5
    · rw [if_pos (.inr h5)] at hE
      have hE' : emptyT t = true := by rw [hE, h5]; decide
      rw [hE']
      rw [h5] at c0 ⊢
      clear hE hE' hop ih ht b1 hft hn hN
      go_enter Try.func29, Try.ntmps29
      go_wp2
      go_ret
      exact ⟨rfl, by rw [h5] at hB; exact hB⟩
    · rw [if_neg (by rintro (h | h); exact h1 h; exact h5 h)] at hE
      obtain ⟨o, ho⟩ : ∃ o, t.op = o := ⟨_, rfl⟩
      have ho23 : o = 2 ∨ o = 3 := by rcases hop with h | h | h | h <;> omega
      have t1 : (o == (1 : Int)) = false := by simp; omega
      have t5 : (o == (5 : Int)) = false := by simp; omega
      have HN := Lib.hid hn
      have HT := Lib.hid ht
      have HFT := Lib.hid hft
      have IH := Lib.hid ih
      have HB1 := Lib.hid b1
      have HHB := Lib.hid hB
      have HE := Lib.hid hE
      have HSZ := Lib.hid hN
      rw [ho] at HE HB1 HHB c0 ⊢
      have HO := Lib.hid ho
      clear hn ih hft hop b1 hB hE ht hN ho h1 h5 c0 c1 c2 c3 c4 c5 c6 c7
      go_enter Try.func29, Try.ntmps29
      go_wp2
      go_loopg [3, 4, 5] n' (fun m a b i wr => ∃ j : Nat, i = .int .i64 (j : Int) ∧ j ≤ n' ∧ m = n' - j ∧ a = .bool (allE (t.kids.take j)) ∧ b = .bool (anyE (t.kids.take j)) ∧ Box8 wr w.heap.size t (.slice A n' c) ∧ Below w.heap.size w wr)
      case atStart => exact ⟨0, by first | rfl | trivial, Nat.zero_le _, by first | rfl | trivial, by simp [allE], by simp [anyE], HB1.out, HHB.out⟩
      case round =>
        obtain ⟨j, rfl, hj, hmj, rfl, rfl, x1, hW⟩ := hrel
        have HMJ := Lib.hid hmj
        obtain ⟨c0, c1, c2, c3, c4, c5, c6, c7⟩ := x1.cell
        rw [HO.out] at c0
        clear hmj
        by_cases hlt : j < n'
        · have hlt' : j < t.kids.length := by rw [← HN.out]; exact hlt
          obtain ⟨g, B, m1, m2, e1, hg1, htk, hcells⟩ := kid8 HT.out j (List.getElem?_eq_getElem hlt')
          subst e1
          have hks := kid_size t j hlt'
          have hwk := HFT.out.at j hlt'
          have hsa := allE_take t.kids j hlt'
          have hsb := anyE_take t.kids j hlt'
          generalize t.kids[j] = u at *
          have HC : ∀ q v, (nodeC u (.slice B m1 m2))[q]? = some v → wr.cell? ⟨g, j * 8 + q, none⟩ = some v := fun q v h => by rw [Nat.mul_comm j 8]; exact (hW.cell (p := ⟨g, 8 * j + q, none⟩) hg1).trans (hcells q v h)
          have k0 : wr.cell? ⟨g, j * 8, none⟩ = _ := HC 0 _ rfl
          have k1 := HC 1 _ rfl
          have k2 := HC 2 _ rfl
          have k3 := HC 3 _ rfl
          have k4 := HC 4 _ rfl
          have k5 := HC 5 _ rfl
          have k6 := HC 6 _ rfl
          have k7 := HC 7 _ rfl
          have HK := Lib.hid (fun w' (hb : Below wr.heap.size wr w') => IH.out u w' ok (.slice B m1 m2) (by have := HSZ.out; omega) hwk ((htk.stays hW).stays hb))
          have HSA := Lib.hid hsa
          have HSB := Lib.hid hsb
          have HX := Lib.hid x1
          have HW := Lib.hid hW
          clear HC hcells htk hks hwk hsa hsb x1 hW
          unfold nodeP at HK
          obtain ⟨a, ha⟩ : ∃ a, allE (t.kids.take j) = a := ⟨_, rfl⟩
          obtain ⟨b, hb⟩ : ∃ b, anyE (t.kids.take j) = b := ⟨_, rfl⟩
          obtain ⟨v, hv⟩ : ∃ v, emptyT u = v := ⟨_, rfl⟩
          rw [ha, hv] at HSA
          rw [hb, hv] at HSB
          rw [hv] at HK
          rw [ha, hb]
          clear ha hb hv
          cases a <;> cases b
          all_goals
            go_wp2_with (go_at_call 29; (with_reducible refine (HK.out _ (Below.refl _ _)).mono ?_); rintro e w5 ⟨rfl, hb5⟩)
            go_roundg (n' - (j + 1))
            case measure => have := HMJ.out; omega
            case rel => exact ⟨j + 1, by go_num, by omega, rfl, by rw [HSA.out]; cases v <;> rfl, by rw [HSB.out]; cases v <;> rfl, HX.out.stays hb5, gro HW.out hb5⟩
        · have hjn : j = t.kids.length := by rw [← HN.out]; omega
          have hwhole : t.kids.take j = t.kids := by rw [hjn]; exact List.take_length
          rw [hwhole]
          have HW := Lib.hid hW
          clear hW x1
          rcases ho23 with rfl | rfl
          · have he : emptyT t = allE t.kids := by rw [HE.out]; rfl
            have HEE := Lib.hid he
            clear he
            go_wp2
            go_ret
            exact ⟨by rw [HEE.out]; rfl, HW.out⟩
          · have he : emptyT t = anyE t.kids := by rw [HE.out]; rfl
            have HEE := Lib.hid he
            clear he
            go_wp2
            go_ret
            exact ⟨by rw [HEE.out]; rfl, HW.out⟩
theorem empty_p {t : T} {k : Value} {ok : Nat → Prop} (w : World) (hft : FT t) (ht : Tree w ok t k) : Calls Try.prog 29 #[nodeP t k] w fun e w' => e = .returned (.bool (emptyT t)) ∧ Below w.heap.size w w' :=
  empty_n _ t w ok k (Nat.le_refl _) hft ht

set_option maxRecDepth 20000 in
set_option maxHeartbeats 2000000 in
theorem places_ftn : ∀ (N : Nat) (t : T) (w : World) (ok : Nat → Prop) (k : Value), SizeOf.sizeOf t ≤ N → FT t → Tree w ok t k →
    Calls Try.prog 12 #[nodeP t k] w (RetInt w (plN t)) := by
  intro N
  induction N with
  | zero => intro t w ok k h; obtain ⟨op, p, lo, hi, l⟩ := t; simp at h
  | succ N ih =>
  intro t w ok k hN hft ht
  obtain ⟨A, n', c, rfl⟩ := ht.form
  obtain ⟨hn, hm⟩ := ht.bound
  have hlen := hft.len
  rw [← hn] at hlen
  unfold maxLen at hm
  have hop := hft.op
  have b1 := Box8.new w t (.slice A n' c)
  have hB : Below w.heap.size w (w.alloc (.cells #[.int .i64 t.op, .int .u64 (word t.set 0), .int .u64 (word t.set 1), .int .u64 (word t.set 2), .int .u64 (word t.set 3), .int .i64 t.lo, .int .i64 t.hi, .slice A n' c] 29)) := (Below.refl _ _).alloc (Nat.le_refl _) _
  have hpl : plN t = min (((if t.op = 1 then 1 else 0) + plSum t.kids) * (if t.op = 4 then t.hi.toNat else 1)) 1000 := by cases t; rfl
  have hsum := plSum_le t.kids
  have HPL := Lib.hid hpl
  have HSUM := Lib.hid hsum
  have HWF := Lib.hid hft
  have HOP := Lib.hid hop
  have HN := Lib.hid hn
  have HT := Lib.hid ht
  have IH := Lib.hid ih
  have HB1 := Lib.hid b1
  have HM := Lib.hid hm
  clear hn ih hpl hsum hft hop
  unfold nodeP
  cases hb1 : (t.op == 1)
  all_goals
    cases hb4 : (t.op == 4)
    all_goals
      go_enter Try.func12, Try.ntmps12
      go_wp2
      go_loopg [3, 4] n' (fun m k i wr => ∃ j : Nat, i = .int .i64 (j : Int) ∧ j ≤ n' ∧ m = n' - j ∧ k = .int .i64 (((if t.op = 1 then 1 else 0) + plSum (t.kids.take j) : Nat) : Int) ∧ Box8 wr w.heap.size t (.slice A n' c) ∧ Below w.heap.size w wr)
      case atStart => exact ⟨0, rfl, Nat.zero_le _, rfl, by first | (rw [if_pos (by simpa using hb1)]; rfl) | (rw [if_neg (by simpa using hb1)]; rfl), HB1.out, hB⟩
      case round =>
        obtain ⟨j, rfl, hj, hmj, rfl, x1, hW⟩ := hrel
        have HMJ := Lib.hid hmj
        obtain ⟨c0, c1, c2, c3, c4, c5, c6, c7⟩ := x1.cell
        clear b1 hmj
        by_cases hlt : j < n'
        · have hlt' : j < t.kids.length := by rw [← HN.out]; exact hlt
          obtain ⟨g, B, m1, m2, e1, hg1, htk, hcells⟩ := kid8 HT.out j (List.getElem?_eq_getElem hlt')
          subst e1
          have hks := kid_size t j hlt'
          have hwk := HWF.out.at j hlt'
          have hst := plSum_take t.kids j hlt'
          have hsl := plSum_le (t.kids.take j)
          rw [List.length_take] at hsl
          have hpu := plN_le (t.kids[j]'hlt')
          generalize t.kids[j] = u at *
          have HC : ∀ q v, (nodeC u (.slice B m1 m2))[q]? = some v → wr.cell? ⟨g, j * 8 + q, none⟩ = some v := fun q v h => by rw [Nat.mul_comm j 8]; exact (hW.cell (p := ⟨g, 8 * j + q, none⟩) hg1).trans (hcells q v h)
          have k0 : wr.cell? ⟨g, j * 8, none⟩ = _ := HC 0 _ rfl
          have k1 := HC 1 _ rfl
          have k2 := HC 2 _ rfl
          have k3 := HC 3 _ rfl
          have k4 := HC 4 _ rfl
          have k5 := HC 5 _ rfl
          have k6 := HC 6 _ rfl
          have k7 := HC 7 _ rfl
          have HK := Lib.hid (fun w' (hb : Below wr.heap.size wr w') => IH.out u w' ok (.slice B m1 m2) (by omega) hwk ((htk.stays hW).stays hb))
          have HST := Lib.hid hst
          clear HC hcells htk hks hwk hst
          unfold nodeP RetInt at HK
          have ha : ((if t.op = 1 then 1 else 0 : Nat)) ≤ 1 := by split <;> omega
          generalize hS : (if t.op = 1 then 1 else 0 : Nat) = a0 at *
          generalize plSum (t.kids.take j) = S at *
          have hS2 : S ≤ 202000 := by omega
          clear hS
          go_wp2_with (go_at_call 12; (with_reducible refine (HK.out _ (Below.refl _ _)).mono ?_); rintro e w5 ⟨rfl, hb5⟩)
          go_roundg (n' - (j + 1))
          case measure => have := HMJ.out; omega
          case rel => exact ⟨j + 1, by go_num, by omega, rfl, by rw [HST.out]; go_num, x1.stays hb5, gro hW hb5⟩
        · have hjn : j = t.kids.length := by rw [← HN.out]; omega
          have hwhole : t.kids.take j = t.kids := by rw [hjn]; exact List.take_length
          rw [hwhole]
          have hS2 := HSUM.out
          have ha : ((if t.op = 1 then 1 else 0 : Nat)) ≤ 1 := by split <;> omega
          have hpl' := HPL.out
          rw [show t.kids.length = n' from HN.out.symm] at hS2
          generalize hS : (if t.op = 1 then 1 else 0 : Nat) = a0 at *
          generalize plSum t.kids = S at *
          by_cases h4 : t.op = 4
          · exfalso
            have := HOP.out
            omega
          · first
              | (exfalso; simp at hb4; exact h4 hb4)
              | skip
            all_goals
              rw [if_neg h4, Nat.mul_one] at hpl'
              have HPL2 := Lib.hid hpl'
              clear hpl' h4 hS
              go_wp2
              all_goals
                go_ret
                refine ⟨congrArg Ending.returned (congrArg (Value.int .i64) ?_), hW⟩
                rw [HPL2.out]
                omega
theorem plSum_minT : ∀ (l : List T), (∀ t ∈ l, plN t = min (plT t) 1000) → min (plSum l) 1000 = min (plTL l) 1000
  | [], _ => rfl
  | t :: ts, h => by
    have h1 := h t (by simp)
    have h2 := plSum_minT ts fun u hu => h u (by simp [hu])
    simp only [plSum, plTL]
    omega
theorem plN_flat {t : T} (hft : FT t) : plN t = min (plT t) 1000 := by
  induction hft with
  | mk op p l hop hN h ih =>
    have := plSum_minT l ih
    have e4 : ¬ op = 4 := by rcases hop with h | h | h | h <;> omega
    have e1 : plN (.mk op p 0 0 l) = min ((if op = 1 then 1 else 0) + plSum l) 1000 := by simp [plN, e4]
    have e2 : plT (.mk op p 0 0 l) = (if op = 1 then 1 else 0) + plTL l := by simp [plT]
    rw [e1, e2]
    omega
theorem places_ft {t : T} {k : Value} {ok : Nat → Prop} (w : World) (hft : FT t) (ht : Tree w ok t k) : Calls Try.prog 12 #[nodeP t k] w (RetInt w (plN t)) :=
  places_ftn _ t w ok k (Nat.le_refl _) hft ht
end Go.Proofs.Ytfgppmipaahleaa

/-
  Who follows whom, as the document's follow finds it, step by step. Plain mathematics; no statement of its own.
-/
namespace Go.Proofs.Ytfgppmipaahleaa
open Go

/-- Places ps are followed by what is first of the kids ahead, up to one that isn't empty. -/
def linkTo : List T → List Nat → Nat → List (List Nat) → List (List Nat)
  | [], _, _, F => F
  | t :: ts, ps, a, F => if emptyT t then linkTo ts ps (a + plT t) (linkAll F ps (fstT t a)) else linkAll F ps (fstT t a)
def crossF : List T → Nat → List (List Nat) → List (List Nat)
  | [], _, F => F
  | t :: ts, a, F => crossF ts (a + plT t) (linkTo ts (lstT t a) (a + plT t) F)
mutual
/-- What follow leaves. -/
def folL : T → Nat → Lay → Lay
  | .mk op p lo hi l => fun a s => if op = 1 then ⟨s.sets.set a p, s.follow⟩ else if op = 2 then ⟨(kidsL l a s).sets, crossF l a (kidsL l a s).follow⟩ else kidsL l a s
def kidsL : List T → Nat → Lay → Lay
  | [] => fun _ s => s
  | t :: ts => fun a s => kidsL ts (a + plT t) (folL t a s)
end
theorem kidsL_app : ∀ (l m : List T) (a : Nat) (s : Lay), kidsL (l ++ m) a s = kidsL m (a + plTL l) (kidsL l a s)
  | [], m, a, s => by simp [kidsL, plTL]
  | t :: l, m, a, s => by
    simp only [List.cons_append, kidsL, plTL]
    rw [kidsL_app l m, Nat.add_assoc]
theorem kidsL_take (l : List T) (j : Nat) (h : j < l.length) (a : Nat) (s : Lay) : kidsL (l.take (j + 1)) a s = folL (l[j]'h) (a + plTL (l.take j)) (kidsL (l.take j) a s) := by
  rw [List.take_succ_eq_append_getElem h, kidsL_app]
  simp [kidsL]
theorem linkTo_drop (l : List T) (j : Nat) (h : j < l.length) (ps : List Nat) (a : Nat) (F : List (List Nat)) : linkTo (l.drop j) ps a F = if emptyT (l[j]'h) then linkTo (l.drop (j + 1)) ps (a + plT (l[j]'h)) (linkAll F ps (fstT (l[j]'h) a)) else linkAll F ps (fstT (l[j]'h) a) := by
  rw [List.drop_eq_getElem_cons h, linkTo]
theorem crossF_drop (l : List T) (i : Nat) (h : i < l.length) (a : Nat) (F : List (List Nat)) : crossF (l.drop i) a F = crossF (l.drop (i + 1)) (a + plT (l[i]'h)) (linkTo (l.drop (i + 1)) (lstT (l[i]'h) a) (a + plT (l[i]'h)) F) := by
  rw [List.drop_eq_getElem_cons h, crossF]

def Gr (F G : List (List Nat)) (n : Nat) : Prop := ∀ q, (G.getD q []).length ≤ (F.getD q []).length + n
theorem Gr.trans {F G H : List (List Nat)} {n m : Nat} (h : Gr F G n) (k : Gr G H m) : Gr F H (n + m) := fun q => by have := h q; have := k q; omega
theorem Gr.mono {F G : List (List Nat)} {n m : Nat} (h : Gr F G n) (hm : n ≤ m) : Gr F G m := fun q => by have := h q; omega
theorem linkAt_gr (F : List (List Nat)) (p : Nat) (ys : List Nat) : Gr F (linkAt F p ys) ys.length := fun q => by
  rcases Nat.lt_or_ge p F.length with hp | hp
  · rw [linkAt_get F p q ys hp]
    split
    · rename_i e; subst e; rw [List.length_append]; exact Nat.le_refl _
    · omega
  · have e : linkAt F p ys = F := by rw [linkAt, List.set_eq_of_length_le hp]
    rw [e]
    omega
theorem linkAll_gr : ∀ (ps : List Nat) (F : List (List Nat)) (ys : List Nat), Gr F (linkAll F ps ys) (ps.length * ys.length)
  | [], F, ys => fun q => by simp [linkAll]
  | p :: ps, F, ys => by
    rw [linkAll]
    refine ((linkAt_gr F p ys).trans (linkAll_gr ps _ ys)).mono ?_
    rw [List.length_cons, Nat.succ_mul]
    omega
def cr : List T → Nat
  | [] => 0
  | t :: ts => plT t * plTL ts + cr ts
def sq : List T → Nat
  | [] => 0
  | t :: ts => plT t * plT t + sq ts
theorem sq_cr : ∀ l : List T, sq l + cr l ≤ plTL l * plTL l
  | [] => by simp [sq, cr]
  | t :: ts => by
    have h := sq_cr ts
    simp only [sq, cr, plTL]
    have e : (plT t + plTL ts) * (plT t + plTL ts) = plT t * plT t + plT t * plTL ts + plT t * plTL ts + plTL ts * plTL ts := by
      rw [Nat.mul_add, Nat.add_mul, Nat.add_mul, Nat.mul_comm (plTL ts) (plT t)]
      omega
    omega
theorem sq_app : ∀ l m : List T, sq (l ++ m) = sq l + sq m
  | [], m => by simp [sq]
  | t :: l, m => by simp only [List.cons_append, sq]; rw [sq_app l m]; omega
theorem sq_take (l : List T) (j : Nat) (h : j < l.length) : sq (l.take (j + 1)) = sq (l.take j) + plT (l[j]'h) * plT (l[j]'h) := by
  rw [List.take_succ_eq_append_getElem h, sq_app]
  simp [sq]
theorem sq_take_le (l : List T) (j : Nat) : sq (l.take j) ≤ sq l := by
  have h := sq_app (l.take j) (l.drop j)
  rw [List.take_append_drop] at h
  omega
theorem cr_drop (l : List T) (i : Nat) (h : i < l.length) : cr (l.drop i) = plT (l[i]'h) * plTL (l.drop (i + 1)) + cr (l.drop (i + 1)) := by
  rw [List.drop_eq_getElem_cons h, cr]
theorem plTL_drop (l : List T) (i : Nat) (h : i < l.length) : plTL (l.drop i) = plT (l[i]'h) + plTL (l.drop (i + 1)) := by
  rw [List.drop_eq_getElem_cons h, plTL]
theorem linkTo_gr : ∀ (l : List T) (ps : List Nat) (a : Nat) (F : List (List Nat)), Gr F (linkTo l ps a F) (ps.length * plTL l)
  | [], ps, a, F => fun q => by simp [linkTo]
  | t :: ts, ps, a, F => by
    have h1 := linkAll_gr ps F (fstT t a)
    have h2 : ps.length * (fstT t a).length ≤ ps.length * plT t := Nat.mul_le_mul_left _ (fst_len t a)
    rw [linkTo, plTL, Nat.mul_add]
    split
    · exact (h1.trans (linkTo_gr ts ps _ _)).mono (by omega)
    · exact h1.mono (by omega)
theorem crossF_gr : ∀ (l : List T) (a : Nat) (F : List (List Nat)), Gr F (crossF l a F) (cr l)
  | [], a, F => fun q => by simp [crossF]
  | t :: ts, a, F => by
    have h1 := linkTo_gr ts (lstT t a) (a + plT t) F
    have h2 : (lstT t a).length * plTL ts ≤ plT t * plTL ts := Nat.mul_le_mul_right _ (lst_len t a)
    rw [crossF, cr]
    exact (h1.trans (crossF_gr ts _ _)).mono (by omega)
mutual
theorem folL_gr : ∀ (t : T) (a : Nat) (s : Lay), Gr s.follow (folL t a s).follow (plT t * plT t)
  | .mk op p lo hi l, a, s => by
    have h := kidsL_gr l a s
    have h2 := sq_cr l
    have hp : plTL l * plTL l ≤ plT (.mk op p lo hi l) * plT (.mk op p lo hi l) := by
      have : plTL l ≤ plT (.mk op p lo hi l) := by simp [plT]
      exact Nat.mul_le_mul this this
    rw [folL]
    split
    · exact fun q => by simp
    · split
      · exact (h.trans (crossF_gr l a _)).mono (by omega)
      · exact h.mono (by omega)
theorem kidsL_gr : ∀ (l : List T) (a : Nat) (s : Lay), Gr s.follow (kidsL l a s).follow (sq l)
  | [], a, s => fun q => by simp [kidsL]
  | t :: ts, a, s => by
    rw [kidsL, sq]
    exact (folL_gr t a s).trans (kidsL_gr ts _ _)
end
theorem linkTo_len : ∀ (l : List T) (ps : List Nat) (a : Nat) (F : List (List Nat)), (linkTo l ps a F).length = F.length
  | [], ps, a, F => rfl
  | t :: ts, ps, a, F => by
    rw [linkTo]
    split
    · rw [linkTo_len, linkAll_len]
    · rw [linkAll_len]
theorem crossF_len : ∀ (l : List T) (a : Nat) (F : List (List Nat)), (crossF l a F).length = F.length
  | [], a, F => rfl
  | t :: ts, a, F => by rw [crossF, crossF_len, linkTo_len]
mutual
theorem folL_len : ∀ (t : T) (a : Nat) (s : Lay), (folL t a s).sets.length = s.sets.length ∧ (folL t a s).follow.length = s.follow.length
  | .mk op p lo hi l, a, s => by
    have h := kidsL_len l a s
    rw [folL]
    split
    · simp
    · split
      · exact ⟨h.1, by rw [crossF_len]; exact h.2⟩
      · exact h
theorem kidsL_len : ∀ (l : List T) (a : Nat) (s : Lay), (kidsL l a s).sets.length = s.sets.length ∧ (kidsL l a s).follow.length = s.follow.length
  | [], a, s => by simp [kidsL]
  | t :: ts, a, s => by
    have h := folL_len t a s
    have h2 := kidsL_len ts (a + plT t) (folL t a s)
    rw [kidsL]
    exact ⟨h2.1.trans h.1, h2.2.trans h.2⟩
end
/-- Who follows whom across kids. -/
def crs : List T → Nat → Nat → Nat → Prop
  | [], _, _, _ => False
  | t :: ts, a, q, r => (q ∈ lstT t a ∧ r ∈ catF ts (a + plT t)) ∨ crs ts (a + plT t) q r
theorem catFol_crs : ∀ (l : List T) (a q r : Nat), catFol l a q r ↔ altFol l a q r ∨ crs l a q r
  | [], a, q, r => by simp [catFol, altFol, crs]
  | t :: ts, a, q, r => by
    simp only [catFol, altFol, crs, catFol_crs ts]
    constructor
    · rintro (h | (h | h) | h)
      · exact .inl (.inl h)
      · exact .inl (.inr h)
      · exact .inr (.inr h)
      · exact .inr (.inl h)
    · rintro ((h | h) | (h | h))
      · exact .inl h
      · exact .inr (.inl (.inl h))
      · exact .inr (.inr h)
      · exact .inr (.inl (.inr h))
mutual
theorem lst_in : ∀ (t : T) (a q : Nat), q ∈ lstT t a → a ≤ q ∧ q < a + plT t
  | .mk op p lo hi l, a, q => by
    have h1 := catB_in l a q
    have h2 := altB_in l a q
    simp only [lstT, plT]
    split
    · intro h; simp at h; omega
    · split
      · intro h; have := h1 h; omega
      · intro h; have := h2 h; omega
theorem catB_in : ∀ (l : List T) (a q : Nat), q ∈ catB l a → a ≤ q ∧ q < a + plTL l
  | [], a, q => by simp [catB]
  | t :: ts, a, q => by
    have h1 := lst_in t a q
    have h2 := catB_in ts (a + plT t) q
    simp only [catB, plTL, List.mem_append]
    rintro (h | h)
    · have := h2 h; omega
    · split at h
      · have := h1 h; omega
      · simp at h
theorem altB_in : ∀ (l : List T) (a q : Nat), q ∈ altB l a → a ≤ q ∧ q < a + plTL l
  | [], a, q => by simp [altB]
  | t :: ts, a, q => by
    have h1 := lst_in t a q
    have h2 := altB_in ts (a + plT t) q
    simp only [altB, plTL, List.mem_append]
    rintro (h | h)
    · have := h2 h; omega
    · have := h1 h; omega
end
mutual
theorem fst_in : ∀ (t : T) (a q : Nat), q ∈ fstT t a → a ≤ q ∧ q < a + plT t
  | .mk op p lo hi l, a, q => by
    have h1 := catF_in l a q
    have h2 := altF_in l a q
    simp only [fstT, plT]
    split
    · intro h; simp at h; omega
    · split
      · intro h; have := h1 h; omega
      · intro h; have := h2 h; omega
theorem catF_in : ∀ (l : List T) (a q : Nat), q ∈ catF l a → a ≤ q ∧ q < a + plTL l
  | [], a, q => by simp [catF]
  | t :: ts, a, q => by
    have h1 := fst_in t a q
    have h2 := catF_in ts (a + plT t) q
    simp only [catF, plTL, List.mem_append]
    rintro (h | h)
    · have := h1 h; omega
    · split at h
      · have := h2 h; omega
      · simp at h
theorem altF_in : ∀ (l : List T) (a q : Nat), q ∈ altF l a → a ≤ q ∧ q < a + plTL l
  | [], a, q => by simp [altF]
  | t :: ts, a, q => by
    have h1 := fst_in t a q
    have h2 := altF_in ts (a + plT t) q
    simp only [altF, plTL, List.mem_append]
    rintro (h | h)
    · have := h1 h; omega
    · have := h2 h; omega
end
theorem linkTo_mem : ∀ (l : List T) (ps : List Nat) (a : Nat) (F : List (List Nat)), (∀ p ∈ ps, p < F.length) → ∀ q r, r ∈ (linkTo l ps a F).getD q [] ↔ r ∈ F.getD q [] ∨ (q ∈ ps ∧ r ∈ catF l a)
  | [], ps, a, F, _, q, r => by simp [linkTo, catF]
  | t :: ts, ps, a, F, h, q, r => by
    have h1 := linkAll_mem ps F (fstT t a) h q r
    rw [linkTo, catF]
    split
    · rw [linkTo_mem ts ps _ _ (fun p hp => by rw [linkAll_len]; exact h p hp), h1, List.mem_append]
      constructor
      · rintro ((h | h) | h)
        · exact .inl h
        · exact .inr ⟨h.1, .inl h.2⟩
        · exact .inr ⟨h.1, .inr h.2⟩
      · rintro (h | ⟨h, h' | h'⟩)
        · exact .inl (.inl h)
        · exact .inl (.inr ⟨h, h'⟩)
        · exact .inr ⟨h, h'⟩
    · rw [h1]
      simp
theorem crossF_mem : ∀ (l : List T) (a : Nat) (F : List (List Nat)), a + plTL l ≤ F.length → ∀ q r, r ∈ (crossF l a F).getD q [] ↔ r ∈ F.getD q [] ∨ crs l a q r
  | [], a, F, _, q, r => by simp [crossF, crs]
  | t :: ts, a, F, h, q, r => by
    rw [plTL] at h
    rw [crossF, crossF_mem ts _ _ (by rw [linkTo_len]; omega), linkTo_mem _ _ _ _ (fun p hp => by have := lst_in t a p hp; omega), crs, or_assoc]
mutual
theorem folL_mem : ∀ (t : T) (a : Nat) (s : Lay), a + plT t ≤ s.follow.length → ∀ q r, r ∈ (folL t a s).follow.getD q [] ↔ r ∈ s.follow.getD q [] ∨ folT t a q r
  | .mk op p lo hi l, a, s, h, q, r => by
    rw [plT] at h
    have h1 := kidsL_mem l a s (by omega) q r
    simp only [folL, folT]
    by_cases e1 : op = 1
    · rw [if_pos e1]; simp [e1]
    · rw [if_neg e1]
      by_cases e2 : op = 2
      · rw [if_pos e2, if_pos e2]
        rw [crossF_mem l a _ (by rw [(kidsL_len l a s).2]; omega), h1, catFol_crs, or_assoc]
        simp [e1]
      · rw [if_neg e2, if_neg e2, h1]
        simp [e1]
theorem kidsL_mem : ∀ (l : List T) (a : Nat) (s : Lay), a + plTL l ≤ s.follow.length → ∀ q r, r ∈ (kidsL l a s).follow.getD q [] ↔ r ∈ s.follow.getD q [] ∨ altFol l a q r
  | [], a, s, h, q, r => by simp [kidsL, altFol]
  | t :: ts, a, s, h, q, r => by
    rw [plTL] at h
    rw [kidsL, altFol, kidsL_mem ts _ _ (by rw [(folL_len t a s).2]; omega), folL_mem t a s (by omega), or_assoc]
end
theorem splice (S : List (Nat → Bool)) (a : Nat) (u v : List (Nat → Bool)) (h : a + u.length + v.length ≤ S.length) :
    (S.take a ++ u ++ S.drop (a + u.length)).take (a + u.length) ++ v ++ (S.take a ++ u ++ S.drop (a + u.length)).drop (a + u.length + v.length) = S.take a ++ (u ++ v) ++ S.drop (a + (u ++ v).length) := by
  have hl : (S.take a ++ u).length = a + u.length := by simp; omega
  rw [List.take_left' hl, List.drop_append, List.drop_eq_nil_of_le (by omega), hl, List.drop_drop]
  simp only [List.nil_append, List.length_append, List.append_assoc]
  congr 4
  omega
mutual
theorem folL_sets : ∀ (t : T), FT t → ∀ (a : Nat) (s : Lay), a + plT t ≤ s.sets.length → (folL t a s).sets = s.sets.take a ++ setT t ++ s.sets.drop (a + plT t)
  | .mk op p lo hi l, hft, a, s, h => by
    have hop := hft.op
    have hk : ∀ x ∈ l, FT x := by cases hft with | mk op p l hop hN h => exact h
    simp only [T.op, T.kids] at hop
    rw [plT] at h
    simp only [folL, setT, plT]
    by_cases e1 : op = 1
    · have el : l = [] := by rcases hop with h | h | h | h <;> first | exact h.2 | omega
      subst el
      rw [if_pos e1, if_pos e1, if_pos e1]
      simp only [plTL, setTL, List.append_nil, Nat.add_zero]
      have ha : a < s.sets.length := by rw [if_pos e1] at h; omega
      rw [List.set_eq_take_append_cons_drop, if_pos ha]
      simp
    · rw [if_neg e1] at h
      have h1 := kidsL_sets l hk a s (by omega)
      rw [if_neg e1, if_neg e1, if_neg e1]
      simp only [List.nil_append, Nat.zero_add]
      split
      · exact h1
      · exact h1
theorem kidsL_sets : ∀ (l : List T), (∀ x ∈ l, FT x) → ∀ (a : Nat) (s : Lay), a + plTL l ≤ s.sets.length → (kidsL l a s).sets = s.sets.take a ++ setTL l ++ s.sets.drop (a + plTL l)
  | [], hk, a, s, h => by simp [kidsL, setTL, plTL]
  | t :: ts, hk, a, s, h => by
    rw [plTL] at h
    have h1 := folL_sets t (hk t (by simp)) a s (by omega)
    have h2 := kidsL_sets ts (fun x hx => hk x (by simp [hx])) (a + plT t) (folL t a s) (by rw [(folL_len t a s).1]; omega)
    rw [kidsL, h2, h1, setTL, plTL]
    have e1 := plT_len t
    have e2 := plTL_len ts
    have := splice s.sets a (setT t) (setTL ts) (by omega)
    rw [← e1, ← e2] at this
    rw [this, List.length_append, ← e1, ← e2]
end
end Go.Proofs.Ytfgppmipaahleaa

/-
  The document's own places in memory while they are laid out: opened at one place's list, or set, and closed again. Laws for other texts; no statement of its own.
-/
namespace Go.Proofs.Ytfgppmipaahleaa
open Go Go.RowKit

theorem setsC_set : ∀ (S : List (Nat → Bool)) (p : Nat) (q : Nat → Bool), p < S.length →
    ((((setsC S).set (p * 4) (.int .u64 (word q 0))).set (p * 4 + 1) (.int .u64 (word q 1))).set (p * 4 + 2) (.int .u64 (word q 2))).set (p * 4 + 3) (.int .u64 (word q 3)) = setsC (S.set p q)
  | [], p, q, h => by simp at h
  | x :: S, 0, q, h => by simp [setsC]
  | x :: S, p + 1, q, h => by
    have ih := setsC_set S p q (by simpa using h)
    have e : ∀ k, (p + 1) * 4 + k = p * 4 + k + 1 + 1 + 1 + 1 := fun k => by omega
    have e0 : (p + 1) * 4 = p * 4 + 1 + 1 + 1 + 1 := by omega
    have hc : setsC (x :: S) = .int .u64 (word x 0) :: .int .u64 (word x 1) :: .int .u64 (word x 2) :: .int .u64 (word x 3) :: setsC S := by simp [setsC]
    have hc2 : setsC ((x :: S).set (p + 1) q) = .int .u64 (word x 0) :: .int .u64 (word x 1) :: .int .u64 (word x 2) :: .int .u64 (word x 3) :: setsC (S.set p q) := by simp [setsC]
    rw [hc, hc2, e0, show p * 4 + 1 + 1 + 1 + 1 + 1 = p * 4 + 1 + 1 + 1 + 1 + 1 from rfl, ← ih]
    simp only [List.set_cons_succ]
/-- The document's places at ga: sets at gs, lists at gf, both of k; its lists' blocks and these three are Q's. -/
structure NfaD (w : World) (C ga gs gf k : Nat) (vl : Value) (e : Bool) (s : Lay) (Q : Nat → Prop) : Prop where
  ge : ∀ b, Q b → C ≤ b ∧ b < w.heap.size
  aQ : Q ga
  box : w.heap[ga]? = some (.cells #[.slice (some ⟨gs, 0, none⟩) k k, .slice none 0 0, vl, .slice (some ⟨gf, 0, none⟩) k k, .bool e] 42 (0, 0))
  rows : RowsAt w C (.slice (some ⟨gs, 0, none⟩) k k) (.slice (some ⟨gf, 0, none⟩) k k) s Q
  ns : s.sets.length = k
  nf : s.follow.length = k
section
variable {w w' w2 : World} {C ga gs gf k : Nat} {vl : Value} {e : Bool} {s : Lay} {Q Q' : Nat → Prop}
theorem NfaD.block (h : NfaD w C ga gs gf k vl e s Q) (hs : w.heap.size ≤ w'.heap.size) (hb : ∀ b, Q b → w'.heap[b]? = w.heap[b]?) : NfaD w' C ga gs gf k vl e s Q :=
  ⟨fun b q => by have := h.ge b q; omega, h.aQ, (hb ga h.aQ).trans h.box, h.rows.block fun b q _ => hb b q, h.ns, h.nf⟩
theorem NfaD.off (h : NfaD w C ga gs gf k vl e s Q) (hk : Kept Q' w w') (hq : ∀ b, Q b → ¬ Q' b) : NfaD w' C ga gs gf k vl e s Q := h.block hk.size fun b q => hk.block b (h.ge b q).2 (hq b q)
theorem NfaD.stays (h : NfaD w C ga gs gf k vl e s Q) (hb : Below w.heap.size w w') : NfaD w' C ga gs gf k vl e s Q := h.block hb.size fun b q => hb.block b (h.ge b q).2
theorem NfaD.alloc (h : NfaD w C ga gs gf k vl e s Q) (o : Obj) : NfaD (w.alloc o) C ga gs gf k vl e s Q := h.stays ((Below.refl _ _).alloc (Nat.le_refl _) _)
theorem NfaD.sQ (h : NfaD w C ga gs gf k vl e s Q) : Q gs := h.rows.setsQ gs rfl
theorem NfaD.fQ (h : NfaD w C ga gs gf k vl e s Q) : Q gf := h.rows.folsQ gf rfl
theorem NfaD.cell (h : NfaD w C ga gs gf k vl e s Q) : w.cell? ⟨ga, 0, none⟩ = some (.slice (some ⟨gs, 0, none⟩) k k) ∧ w.cell? ⟨ga, 3, none⟩ = some (.slice (some ⟨gf, 0, none⟩) k k) :=
  ⟨cell_of_row w ga 0 _ _ (0, 0) h.box, cell_of_row w ga 3 _ _ (0, 0) h.box⟩
theorem NfaD.kinds (h : NfaD w C ga gs gf k vl e s Q) : (∃ cur, w.heap[gs]? = some (.cells cur 26 (0, 0))) ∧ (∃ cur, w.heap[gf]? = some (.cells cur 33 (0, 0))) := by
  obtain ⟨fs, h1, h2⟩ := h.rows.fols
  exact ⟨own_kind h.rows.sets rfl, own_kind h1 rfl⟩
/-- One set stored. -/
theorem NfaD.setS (h : NfaD w C ga gs gf k vl e s Q) (p : Nat) (hp : p < k) (q : Nat → Bool) :
    NfaD ((((w.setCell ⟨gs, p * 4, none⟩ (.int .u64 (word q 0))).setCell ⟨gs, p * 4 + 1, none⟩ (.int .u64 (word q 1))).setCell ⟨gs, p * 4 + 2, none⟩ (.int .u64 (word q 2))).setCell ⟨gs, p * 4 + 3, none⟩ (.int .u64 (word q 3))) C ga gs gf k vl e ⟨s.sets.set p q, s.follow⟩ Q := by
  obtain ⟨⟨c1, k1⟩, ⟨c2, k2⟩⟩ := h.kinds
  have n1 : ga ≠ gs := kind_apart h.box k1 (by decide)
  have n2 : gf ≠ gs := kind_apart k2 k1 (by decide)
  obtain ⟨fs, h1, h2⟩ := h.rows.fols
  have hb : ∀ b, b ≠ gs → ((((w.setCell ⟨gs, p * 4, none⟩ (.int .u64 (word q 0))).setCell ⟨gs, p * 4 + 1, none⟩ (.int .u64 (word q 1))).setCell ⟨gs, p * 4 + 2, none⟩ (.int .u64 (word q 2))).setCell ⟨gs, p * 4 + 3, none⟩ (.int .u64 (word q 3))).heap[b]? = w.heap[b]? := fun b hb => by
    rw [Below.heap_setCell _ _ _ _ hb, Below.heap_setCell _ _ _ _ hb, Below.heap_setCell _ _ _ _ hb, Below.heap_setCell _ _ _ _ hb]
  have hl : ∀ (i : Nat) (v : Value) b, fs[i]? = some v → v.ownBlock = some b → b ≠ gs := fun i v b e1 e2 => by
    have hi : i < s.follow.length := by rw [← h2.len]; exact (List.getElem?_eq_some_iff.1 e1).1
    obtain ⟨cur, hc⟩ := (h2.get i v _ e1 (List.getElem?_eq_getElem hi)).kind e2
    exact kind_apart hc k1 (by decide)
  have s0 := h.rows.sets
  rw [h.ns] at s0
  have s1 := (World.ownsRow.stored s0 (p * 4) (.int .u64 (word q 0))).1
  have s2 := (World.ownsRow.stored s1 (p * 4 + 1) (.int .u64 (word q 1))).1
  have s3 := (World.ownsRow.stored s2 (p * 4 + 2) (.int .u64 (word q 2))).1
  have s4 := (World.ownsRow.stored s3 (p * 4 + 3) (.int .u64 (word q 3))).1
  rw [setsC_set _ _ _ (by rw [h.ns]; exact hp)] at s4
  refine ⟨fun b hq => by have := h.ge b hq; simpa [World.setCell] using this, h.aQ, (hb ga n1).trans h.box, ⟨?_, h.rows.setsQ, ⟨fs, own_block h1 fun b e2 _ => ?_, ⟨h2.len, fun i v l e1 e2 => (h2.get i v l e1 e2).block fun b e3 _ => hb b (hl i v b e1 e3), h2.inQ, h2.apart⟩⟩, h.rows.folsQ⟩, by simpa using h.ns, h.nf⟩
  · rw [List.length_set, h.ns]
    exact s4
  · have e3 : gf = b := by simpa [Value.ownBlock] using e2
    rw [← e3]
    exact hb _ n2
/-- What one sees at the list of p, and what comes of it when the list grows. -/
theorem NfaD.open (h : NfaD w C ga gs gf k vl e s Q) (p : Nat) (hp : p < k) : ∃ vp, w.cell? ⟨gf, p, none⟩ = some vp ∧ w.frozen? ⟨gf, p, none⟩ = false ∧ Ints w C vp (Go.Proofs.Ytfgppmipaahleaa.ns (s.follow.getD p [])) ∧ (∀ b, vp.ownBlock = some b → Q b ∧ b ≠ gf ∧ b ≠ ga ∧ b ≠ gs) ∧
    ∀ (ys : List Nat) (w2 : World) (v' : Value), Ints w2 C v' (Go.Proofs.Ytfgppmipaahleaa.ns (s.follow.getD p [] ++ ys)) → w.grownBy w2 vp.ownBlock → (v'.ownBlock = vp.ownBlock ∨ v'.ownBlock = some w.heap.size) →
      NfaD (w2.setCell ⟨gf, p, none⟩ v') C ga gs gf k vl e ⟨s.sets, linkAt s.follow p ys⟩ (fun b => Q b ∨ v'.ownBlock = some b) := by
  obtain ⟨⟨c1, k1⟩, ⟨c2, k2⟩⟩ := h.kinds
  have n1 : ga ≠ gf := kind_apart h.box k2 (by decide)
  have n2 : gs ≠ gf := kind_apart k1 k2 (by decide)
  have hp' : p < s.follow.length := by rw [h.nf]; exact hp
  obtain ⟨fs, h3, h4⟩ := h.rows.fols
  rw [h.nf] at h3
  have hpf : p < fs.length := by rw [h4.len]; exact hp'
  obtain ⟨vp, hvp⟩ : ∃ vp, fs[p]? = some vp := ⟨_, List.getElem?_eq_getElem hpf⟩
  have hl := h4.get p vp _ hvp (getD_get s.follow p [] hp')
  have hv1 : ∀ b, vp.ownBlock = some b → b ≠ gf ∧ b ≠ ga ∧ b ≠ gs := fun b e => by
    obtain ⟨cur', hc⟩ := hl.kind e
    exact ⟨kind_apart hc k2 (by decide), kind_apart hc h.box (by decide), kind_apart hc k1 (by decide)⟩
  have hgfl := lt_of_some k2
  refine ⟨vp, ?_, World.ownsRow.frozenAt h3 p, hl, fun b e => ⟨h4.inQ p vp b hvp e, hv1 b e⟩, fun ys w2 v' hv hg hor => ?_⟩
  · rw [World.ownsRow.cellAt h3 p (by omega), hvp]
  · have hput := h4.put (fun b e => (h.ge b e).2) p hp' vp v' hvp hg hv hor
    have hgf2 : w2.heap[gf]? = some (.cells c2 33 (0, 0)) := (hg.block gf hgfl fun e => (hv1 gf e.symm).1 rfl).trans k2
    have hset : ∀ b, b ≠ gf → (w2.setCell ⟨gf, p, none⟩ v').heap[b]? = w2.heap[b]? := fun b hb => Below.heap_setCell _ _ _ _ hb
    have h32 : w2.ownsRow C 33 1 (.slice (some ⟨gf, 0, none⟩) k k) k fs := own_block h3 fun b e hb => by
      injection e with e
      subst e
      exact hg.block _ hb fun e' => (hv1 _ e'.symm).1 rfl
    refine ⟨fun b e => ?_, .inl h.aQ, (hset ga n1).trans ((hg.block ga (lt_of_some h.box) fun e => (hv1 ga e.symm).2.1 rfl).trans h.box), ⟨own_block h.rows.sets fun b e hb => ?_, fun b e => .inl (h.rows.setsQ b e), ⟨fs.set p v', ?_, ?_⟩, fun b e => .inl (h.rows.folsQ b e)⟩, h.ns, by show (linkAt s.follow p ys).length = k; rw [linkAt_len]; exact h.nf⟩
    · rcases e with e | e
      · have := h.ge b e
        have hsz := hg.size
        exact ⟨this.1, by simp only [World.setCell, Array.size_modify]; omega⟩
      · have := hv.in e
        exact ⟨this.1, by simp only [World.setCell, Array.size_modify]; exact this.2⟩
    · injection e with e
      subst e
      exact (hset _ n2).trans (hg.block _ hb fun e' => (hv1 _ e'.symm).2.2 rfl)
    · have := (World.ownsRow.stored h32 p v').1
      rw [show (linkAt s.follow p ys).length = k from (linkAt_len _ _ _).trans h.nf]
      exact this
    · refine ⟨hput.len, fun i v l e1 e2 => (hput.get i v l e1 e2).block fun b e hb => hset b ?_, hput.inQ, hput.apart⟩
      obtain ⟨cur', hc⟩ := (hput.get i v l e1 e2).kind e
      exact kind_apart hc hgf2 (by decide)
end
end Go.Proofs.Ytfgppmipaahleaa
