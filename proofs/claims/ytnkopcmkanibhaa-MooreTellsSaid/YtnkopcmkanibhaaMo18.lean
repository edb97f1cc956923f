/-
  Several texts of this proof in one file: FolMath, FolMem, FlatEnds2, Follow, FolMem2, Flat. No statement of its own.
-/
import Derived.Test.YtnkopcmkanibhaaMo17
import Derived.Test.YtnkopcmkanibhaaMo9
import Derived.Test.YtnkopcmkanibhaaMo8
import Derived.Deep.RegionLaw
import Derived.StillTailTactics
import Derived.Deep.CutRange
import Derived.Test.YtnkopcmkanibhaaMo6
import Derived.BigRegion
import Derived.Test.YtnkopcmkanibhaaMo14
set_option linter.unusedVariables false
set_option linter.unusedSimpArgs false

/-
  Who follows whom, as the document's follow finds it, step by step. Plain mathematics; no statement of its own.
-/
namespace Go.Proofs.Ytnkopcmkanibhaa
open Go

/-- Places ps are followed by what is first of the kids ahead, up to one that isn't empty. -/
def linkTo : List T → List Nat → Nat → List (List Nat) → List (List Nat)
  | [], _, _, F => F
  | t :: ts, ps, a, F => if emptyT t then linkTo ts ps (a + plT t) (linkAll F ps (fstT t a)) else linkAll F ps (fstT t a)
def crossF : List T → Nat → List (List Nat) → List (List Nat)
  | [], _, F => F
  | t :: ts, a, F => crossF ts (a + plT t) (linkTo ts (lstT t a) (a + plT t) F)
mutual
/-- What follow leaves. -/
def folL : T → Nat → Lay → Lay
  | .mk op p lo hi l => fun a s => if op = 1 then ⟨s.sets.set a p, s.follow⟩ else if op = 2 then ⟨(kidsL l a s).sets, crossF l a (kidsL l a s).follow⟩ else kidsL l a s
def kidsL : List T → Nat → Lay → Lay
  | [] => fun _ s => s
  | t :: ts => fun a s => kidsL ts (a + plT t) (folL t a s)
end
theorem kidsL_app : ∀ (l m : List T) (a : Nat) (s : Lay), kidsL (l ++ m) a s = kidsL m (a + plTL l) (kidsL l a s)
  | [], m, a, s => by simp [kidsL, plTL]
  | t :: l, m, a, s => by
    simp only [List.cons_append, kidsL, plTL]
    rw [kidsL_app l m, Nat.add_assoc]
theorem kidsL_take (l : List T) (j : Nat) (h : j < l.length) (a : Nat) (s : Lay) : kidsL (l.take (j + 1)) a s = folL (l[j]'h) (a + plTL (l.take j)) (kidsL (l.take j) a s) := by
  rw [List.take_succ_eq_append_getElem h, kidsL_app]
  simp [kidsL]
theorem linkTo_drop (l : List T) (j : Nat) (h : j < l.length) (ps : List Nat) (a : Nat) (F : List (List Nat)) : linkTo (l.drop j) ps a F = if emptyT (l[j]'h) then linkTo (l.drop (j + 1)) ps (a + plT (l[j]'h)) (linkAll F ps (fstT (l[j]'h) a)) else linkAll F ps (fstT (l[j]'h) a) := by
  rw [List.drop_eq_getElem_cons h, linkTo]
theorem crossF_drop (l : List T) (i : Nat) (h : i < l.length) (a : Nat) (F : List (List Nat)) : crossF (l.drop i) a F = crossF (l.drop (i + 1)) (a + plT (l[i]'h)) (linkTo (l.drop (i + 1)) (lstT (l[i]'h) a) (a + plT (l[i]'h)) F) := by
  rw [List.drop_eq_getElem_cons h, crossF]

def Gr (F G : List (List Nat)) (n : Nat) : Prop := ∀ q, (G.getD q []).length ≤ (F.getD q []).length + n
theorem Gr.trans {F G H : List (List Nat)} {n m : Nat} (h : Gr F G n) (k : Gr G H m) : Gr F H (n + m) := fun q => by have := h q; have := k q; omega
theorem Gr.mono {F G : List (List Nat)} {n m : Nat} (h : Gr F G n) (hm : n ≤ m) : Gr F G m := fun q => by have := h q; omega
theorem linkAt_gr (F : List (List Nat)) (p : Nat) (ys : List Nat) : Gr F (linkAt F p ys) ys.length := fun q => by
  rcases Nat.lt_or_ge p F.length with hp | hp
  · rw [linkAt_get F p q ys hp]
    split
    · rename_i e; subst e; rw [List.length_append]; exact Nat.le_refl _
    · omega
  · have e : linkAt F p ys = F := by rw [linkAt, List.set_eq_of_length_le hp]
    rw [e]
    omega
theorem linkAll_gr : ∀ (ps : List Nat) (F : List (List Nat)) (ys : List Nat), Gr F (linkAll F ps ys) (ps.length * ys.length)
  | [], F, ys => fun q => by simp [linkAll]
  | p :: ps, F, ys => by
    rw [linkAll]
    refine ((linkAt_gr F p ys).trans (linkAll_gr ps _ ys)).mono ?_
    rw [List.length_cons, Nat.succ_mul]
    omega
def cr : List T → Nat
  | [] => 0
  | t :: ts => plT t * plTL ts + cr ts
def sq : List T → Nat
  | [] => 0
  | t :: ts => plT t * plT t + sq ts
theorem sq_cr : ∀ l : List T, sq l + cr l ≤ plTL l * plTL l
  | [] => by simp [sq, cr]
  | t :: ts => by
    have h := sq_cr ts
    simp only [sq, cr, plTL]
    have e : (plT t + plTL ts) * (plT t + plTL ts) = plT t * plT t + plT t * plTL ts + plT t * plTL ts + plTL ts * plTL ts := by
      rw [Nat.mul_add, Nat.add_mul, Nat.add_mul, Nat.mul_comm (plTL ts) (plT t)]
      omega
    omega
theorem sq_app : ∀ l m : List T, sq (l ++ m) = sq l + sq m
  | [], m => by simp [sq]
  | t :: l, m => by simp only [List.cons_append, sq]; rw [sq_app l m]; omega
theorem sq_take (l : List T) (j : Nat) (h : j < l.length) : sq (l.take (j + 1)) = sq (l.take j) + plT (l[j]'h) * plT (l[j]'h) := by
  rw [List.take_succ_eq_append_getElem h, sq_app]
  simp [sq]
theorem sq_take_le (l : List T) (j : Nat) : sq (l.take j) ≤ sq l := by
  have h := sq_app (l.take j) (l.drop j)
  rw [List.take_append_drop] at h
  omega
theorem cr_drop (l : List T) (i : Nat) (h : i < l.length) : cr (l.drop i) = plT (l[i]'h) * plTL (l.drop (i + 1)) + cr (l.drop (i + 1)) := by
  rw [List.drop_eq_getElem_cons h, cr]
theorem plTL_drop (l : List T) (i : Nat) (h : i < l.length) : plTL (l.drop i) = plT (l[i]'h) + plTL (l.drop (i + 1)) := by
  rw [List.drop_eq_getElem_cons h, plTL]
theorem linkTo_gr : ∀ (l : List T) (ps : List Nat) (a : Nat) (F : List (List Nat)), Gr F (linkTo l ps a F) (ps.length * plTL l)
  | [], ps, a, F => fun q => by simp [linkTo]
  | t :: ts, ps, a, F => by
    have h1 := linkAll_gr ps F (fstT t a)
    have h2 : ps.length * (fstT t a).length ≤ ps.length * plT t := Nat.mul_le_mul_left _ (fst_len t a)
    rw [linkTo, plTL, Nat.mul_add]
    split
    · exact (h1.trans (linkTo_gr ts ps _ _)).mono (by omega)
    · exact h1.mono (by omega)
theorem crossF_gr : ∀ (l : List T) (a : Nat) (F : List (List Nat)), Gr F (crossF l a F) (cr l)
  | [], a, F => fun q => by simp [crossF]
  | t :: ts, a, F => by
    have h1 := linkTo_gr ts (lstT t a) (a + plT t) F
    have h2 : (lstT t a).length * plTL ts ≤ plT t * plTL ts := Nat.mul_le_mul_right _ (lst_len t a)
    rw [crossF, cr]
    exact (h1.trans (crossF_gr ts _ _)).mono (by omega)
mutual
theorem folL_gr : ∀ (t : T) (a : Nat) (s : Lay), Gr s.follow (folL t a s).follow (plT t * plT t)
  | .mk op p lo hi l, a, s => by
    have h := kidsL_gr l a s
    have h2 := sq_cr l
    have hp : plTL l * plTL l ≤ plT (.mk op p lo hi l) * plT (.mk op p lo hi l) := by
      have : plTL l ≤ plT (.mk op p lo hi l) := by simp [plT]
      exact Nat.mul_le_mul this this
    rw [folL]
    split
    · exact fun q => by simp
    · split
      · exact (h.trans (crossF_gr l a _)).mono (by omega)
      · exact h.mono (by omega)
theorem kidsL_gr : ∀ (l : List T) (a : Nat) (s : Lay), Gr s.follow (kidsL l a s).follow (sq l)
  | [], a, s => fun q => by simp [kidsL]
  | t :: ts, a, s => by
    rw [kidsL, sq]
    exact (folL_gr t a s).trans (kidsL_gr ts _ _)
end
theorem linkTo_len : ∀ (l : List T) (ps : List Nat) (a : Nat) (F : List (List Nat)), (linkTo l ps a F).length = F.length
  | [], ps, a, F => rfl
  | t :: ts, ps, a, F => by
    rw [linkTo]
    split
    · rw [linkTo_len, linkAll_len]
    · rw [linkAll_len]
theorem crossF_len : ∀ (l : List T) (a : Nat) (F : List (List Nat)), (crossF l a F).length = F.length
  | [], a, F => rfl
  | t :: ts, a, F => by rw [crossF, crossF_len, linkTo_len]
mutual
theorem folL_len : ∀ (t : T) (a : Nat) (s : Lay), (folL t a s).sets.length = s.sets.length ∧ (folL t a s).follow.length = s.follow.length
  | .mk op p lo hi l, a, s => by
    have h := kidsL_len l a s
    rw [folL]
    split
    · simp
    · split
      · exact ⟨h.1, by rw [crossF_len]; exact h.2⟩
      · exact h
theorem kidsL_len : ∀ (l : List T) (a : Nat) (s : Lay), (kidsL l a s).sets.length = s.sets.length ∧ (kidsL l a s).follow.length = s.follow.length
  | [], a, s => by simp [kidsL]
  | t :: ts, a, s => by
    have h := folL_len t a s
    have h2 := kidsL_len ts (a + plT t) (folL t a s)
    rw [kidsL]
    exact ⟨h2.1.trans h.1, h2.2.trans h.2⟩
end
/-- Who follows whom across kids. -/
def crs : List T → Nat → Nat → Nat → Prop
  | [], _, _, _ => False
  | t :: ts, a, q, r => (q ∈ lstT t a ∧ r ∈ catF ts (a + plT t)) ∨ crs ts (a + plT t) q r
theorem catFol_crs : ∀ (l : List T) (a q r : Nat), catFol l a q r ↔ altFol l a q r ∨ crs l a q r
  | [], a, q, r => by simp [catFol, altFol, crs]
  | t :: ts, a, q, r => by
    simp only [catFol, altFol, crs, catFol_crs ts]
    constructor
    · rintro (h | (h | h) | h)
      · exact .inl (.inl h)
      · exact .inl (.inr h)
      · exact .inr (.inr h)
      · exact .inr (.inl h)
    · rintro ((h | h) | (h | h))
      · exact .inl h
      · exact .inr (.inl (.inl h))
      · exact .inr (.inr h)
      · exact .inr (.inl (.inr h))
mutual
theorem lst_in : ∀ (t : T) (a q : Nat), q ∈ lstT t a → a ≤ q ∧ q < a + plT t
  | .mk op p lo hi l, a, q => by
    have h1 := catB_in l a q
    have h2 := altB_in l a q
    simp only [lstT, plT]
    split
    · intro h; simp at h; omega
    · split
      · intro h; have := h1 h; omega
      · intro h; have := h2 h; omega
theorem catB_in : ∀ (l : List T) (a q : Nat), q ∈ catB l a → a ≤ q ∧ q < a + plTL l
  | [], a, q => by simp [catB]
  | t :: ts, a, q => by
    have h1 := lst_in t a q
    have h2 := catB_in ts (a + plT t) q
    simp only [catB, plTL, List.mem_append]
    rintro (h | h)
    · have := h2 h; omega
    · split at h
      · have := h1 h; omega
      · simp at h
theorem altB_in : ∀ (l : List T) (a q : Nat), q ∈ altB l a → a ≤ q ∧ q < a + plTL l
  | [], a, q => by simp [altB]
  | t :: ts, a, q => by
    have h1 := lst_in t a q
    have h2 := altB_in ts (a + plT t) q
    simp only [altB, plTL, List.mem_append]
    rintro (h | h)
    · have := h2 h; omega
    · have := h1 h; omega
end
mutual
theorem fst_in : ∀ (t : T) (a q : Nat), q ∈ fstT t a → a ≤ q ∧ q < a + plT t
  | .mk op p lo hi l, a, q => by
    have h1 := catF_in l a q
    have h2 := altF_in l a q
    simp only [fstT, plT]
    split
    · intro h; simp at h; omega
    · split
      · intro h; have := h1 h; omega
      · intro h; have := h2 h; omega
theorem catF_in : ∀ (l : List T) (a q : Nat), q ∈ catF l a → a ≤ q ∧ q < a + plTL l
  | [], a, q => by simp [catF]
  | t :: ts, a, q => by
    have h1 := fst_in t a q
    have h2 := catF_in ts (a + plT t) q
    simp only [catF, plTL, List.mem_append]
    rintro (h | h)
    · have := h1 h; omega
    · split at h
      · have := h2 h; omega
      · simp at h
theorem altF_in : ∀ (l : List T) (a q : Nat), q ∈ altF l a → a ≤ q ∧ q < a + plTL l
  | [], a, q => by simp [altF]
  | t :: ts, a, q => by
    have h1 := fst_in t a q
    have h2 := altF_in ts (a + plT t) q
    simp only [altF, plTL, List.mem_append]
    rintro (h | h)
    · have := h1 h; omega
    · have := h2 h; omega
end
theorem linkTo_mem : ∀ (l : List T) (ps : List Nat) (a : Nat) (F : List (List Nat)), (∀ p ∈ ps, p < F.length) → ∀ q r, r ∈ (linkTo l ps a F).getD q [] ↔ r ∈ F.getD q [] ∨ (q ∈ ps ∧ r ∈ catF l a)
  | [], ps, a, F, _, q, r => by simp [linkTo, catF]
  | t :: ts, ps, a, F, h, q, r => by
    have h1 := linkAll_mem ps F (fstT t a) h q r
    rw [linkTo, catF]
    split
    · rw [linkTo_mem ts ps _ _ (fun p hp => by rw [linkAll_len]; exact h p hp), h1, List.mem_append]
      constructor
      · rintro ((h | h) | h)
        · exact .inl h
        · exact .inr ⟨h.1, .inl h.2⟩
        · exact .inr ⟨h.1, .inr h.2⟩
      · rintro (h | ⟨h, h' | h'⟩)
        · exact .inl (.inl h)
        · exact .inl (.inr ⟨h, h'⟩)
        · exact .inr ⟨h, h'⟩
    · rw [h1]
      simp
theorem crossF_mem : ∀ (l : List T) (a : Nat) (F : List (List Nat)), a + plTL l ≤ F.length → ∀ q r, r ∈ (crossF l a F).getD q [] ↔ r ∈ F.getD q [] ∨ crs l a q r
  | [], a, F, _, q, r => by simp [crossF, crs]
  | t :: ts, a, F, h, q, r => by
    rw [plTL] at h
    rw [crossF, crossF_mem ts _ _ (by rw [linkTo_len]; omega), linkTo_mem _ _ _ _ (fun p hp => by have := lst_in t a p hp; omega), crs, or_assoc]
mutual
theorem folL_mem : ∀ (t : T) (a : Nat) (s : Lay), a + plT t ≤ s.follow.length → ∀ q r, r ∈ (folL t a s).follow.getD q [] ↔ r ∈ s.follow.getD q [] ∨ folT t a q r
  | .mk op p lo hi l, a, s, h, q, r => by
    rw [plT] at h
    have h1 := kidsL_mem l a s (by omega) q r
    simp only [folL, folT]
    by_cases e1 : op = 1
    · rw [if_pos e1]; simp [e1]
    · rw [if_neg e1]
      by_cases e2 : op = 2
      · rw [if_pos e2, if_pos e2]
        rw [crossF_mem l a _ (by rw [(kidsL_len l a s).2]; omega), h1, catFol_crs, or_assoc]
        simp [e1]
      · rw [if_neg e2, if_neg e2, h1]
        simp [e1]
theorem kidsL_mem : ∀ (l : List T) (a : Nat) (s : Lay), a + plTL l ≤ s.follow.length → ∀ q r, r ∈ (kidsL l a s).follow.getD q [] ↔ r ∈ s.follow.getD q [] ∨ altFol l a q r
  | [], a, s, h, q, r => by simp [kidsL, altFol]
  | t :: ts, a, s, h, q, r => by
    rw [plTL] at h
    rw [kidsL, altFol, kidsL_mem ts _ _ (by rw [(folL_len t a s).2]; omega), folL_mem t a s (by omega), or_assoc]
end
theorem splice (S : List (Nat → Bool)) (a : Nat) (u v : List (Nat → Bool)) (h : a + u.length + v.length ≤ S.length) :
    (S.take a ++ u ++ S.drop (a + u.length)).take (a + u.length) ++ v ++ (S.take a ++ u ++ S.drop (a + u.length)).drop (a + u.length + v.length) = S.take a ++ (u ++ v) ++ S.drop (a + (u ++ v).length) := by
  have hl : (S.take a ++ u).length = a + u.length := by simp; omega
  rw [List.take_left' hl, List.drop_append, List.drop_eq_nil_of_le (by omega), hl, List.drop_drop]
  simp only [List.nil_append, List.length_append, List.append_assoc]
  congr 4
  omega
mutual
theorem folL_sets : ∀ (t : T), FT t → ∀ (a : Nat) (s : Lay), a + plT t ≤ s.sets.length → (folL t a s).sets = s.sets.take a ++ setT t ++ s.sets.drop (a + plT t)
  | .mk op p lo hi l, hft, a, s, h => by
    have hop := hft.op
    have hk : ∀ x ∈ l, FT x := by cases hft with | mk op p l hop hN h => exact h
    simp only [T.op, T.kids] at hop
    rw [plT] at h
    simp only [folL, setT, plT]
    by_cases e1 : op = 1
    · have el : l = [] := by rcases hop with h | h | h | h <;> first | exact h.2 | omega
      subst el
      rw [if_pos e1, if_pos e1, if_pos e1]
      simp only [plTL, setTL, List.append_nil, Nat.add_zero]
      have ha : a < s.sets.length := by rw [if_pos e1] at h; omega
      rw [List.set_eq_take_append_cons_drop, if_pos ha]
      simp
    · rw [if_neg e1] at h
      have h1 := kidsL_sets l hk a s (by omega)
      rw [if_neg e1, if_neg e1, if_neg e1]
      simp only [List.nil_append, Nat.zero_add]
      split
      · exact h1
      · exact h1
theorem kidsL_sets : ∀ (l : List T), (∀ x ∈ l, FT x) → ∀ (a : Nat) (s : Lay), a + plTL l ≤ s.sets.length → (kidsL l a s).sets = s.sets.take a ++ setTL l ++ s.sets.drop (a + plTL l)
  | [], hk, a, s, h => by simp [kidsL, setTL, plTL]
  | t :: ts, hk, a, s, h => by
    rw [plTL] at h
    have h1 := folL_sets t (hk t (by simp)) a s (by omega)
    have h2 := kidsL_sets ts (fun x hx => hk x (by simp [hx])) (a + plT t) (folL t a s) (by rw [(folL_len t a s).1]; omega)
    rw [kidsL, h2, h1, setTL, plTL]
    have e1 := plT_len t
    have e2 := plTL_len ts
    have := splice s.sets a (setT t) (setTL ts) (by omega)
    rw [← e1, ← e2] at this
    rw [this, List.length_append, ← e1, ← e2]
end
end Go.Proofs.Ytnkopcmkanibhaa

/-
  The document's own places in memory while they are laid out: opened at one place's list, or set, and closed again. Laws for other texts; no statement of its own.
-/
namespace Go.Proofs.Ytnkopcmkanibhaa
open Go Go.RowKit

theorem setsC_set : ∀ (S : List (Nat → Bool)) (p : Nat) (q : Nat → Bool), p < S.length →
    ((((setsC S).set (p * 4) (.int .u64 (word q 0))).set (p * 4 + 1) (.int .u64 (word q 1))).set (p * 4 + 2) (.int .u64 (word q 2))).set (p * 4 + 3) (.int .u64 (word q 3)) = setsC (S.set p q)
  | [], p, q, h => by simp at h
  | x :: S, 0, q, h => by simp [setsC]
  | x :: S, p + 1, q, h => by
    have ih := setsC_set S p q (by simpa using h)
    have e : ∀ k, (p + 1) * 4 + k = p * 4 + k + 1 + 1 + 1 + 1 := fun k => by omega
    have e0 : (p + 1) * 4 = p * 4 + 1 + 1 + 1 + 1 := by omega
    have hc : setsC (x :: S) = .int .u64 (word x 0) :: .int .u64 (word x 1) :: .int .u64 (word x 2) :: .int .u64 (word x 3) :: setsC S := by simp [setsC]
    have hc2 : setsC ((x :: S).set (p + 1) q) = .int .u64 (word x 0) :: .int .u64 (word x 1) :: .int .u64 (word x 2) :: .int .u64 (word x 3) :: setsC (S.set p q) := by simp [setsC]
    rw [hc, hc2, e0, show p * 4 + 1 + 1 + 1 + 1 + 1 = p * 4 + 1 + 1 + 1 + 1 + 1 from rfl, ← ih]
    simp only [List.set_cons_succ]
/-- The document's places at ga: sets at gs, lists at gf, both of k; its lists' blocks and these three are Q's. -/
structure NfaD (w : World) (C ga gs gf k : Nat) (vl : Value) (e : Bool) (s : Lay) (Q : Nat → Prop) : Prop where
  ge : ∀ b, Q b → C ≤ b ∧ b < w.heap.size
  aQ : Q ga
  box : w.heap[ga]? = some (.cells #[.slice (some ⟨gs, 0, none⟩) k k, .slice none 0 0, vl, .slice (some ⟨gf, 0, none⟩) k k, .bool e] 84 (0, 0))
  rows : RowsAt w C (.slice (some ⟨gs, 0, none⟩) k k) (.slice (some ⟨gf, 0, none⟩) k k) s Q
  ns : s.sets.length = k
  nf : s.follow.length = k
section
variable {w w' w2 : World} {C ga gs gf k : Nat} {vl : Value} {e : Bool} {s : Lay} {Q Q' : Nat → Prop}
theorem NfaD.block (h : NfaD w C ga gs gf k vl e s Q) (hs : w.heap.size ≤ w'.heap.size) (hb : ∀ b, Q b → w'.heap[b]? = w.heap[b]?) : NfaD w' C ga gs gf k vl e s Q :=
  ⟨fun b q => by have := h.ge b q; omega, h.aQ, (hb ga h.aQ).trans h.box, h.rows.block fun b q _ => hb b q, h.ns, h.nf⟩
theorem NfaD.off (h : NfaD w C ga gs gf k vl e s Q) (hk : Kept Q' w w') (hq : ∀ b, Q b → ¬ Q' b) : NfaD w' C ga gs gf k vl e s Q := h.block hk.size fun b q => hk.block b (h.ge b q).2 (hq b q)
theorem NfaD.stays (h : NfaD w C ga gs gf k vl e s Q) (hb : Below w.heap.size w w') : NfaD w' C ga gs gf k vl e s Q := h.block hb.size fun b q => hb.block b (h.ge b q).2
theorem NfaD.alloc (h : NfaD w C ga gs gf k vl e s Q) (o : Obj) : NfaD (w.alloc o) C ga gs gf k vl e s Q := h.stays ((Below.refl _ _).alloc (Nat.le_refl _) _)
theorem NfaD.sQ (h : NfaD w C ga gs gf k vl e s Q) : Q gs := h.rows.setsQ gs rfl
theorem NfaD.fQ (h : NfaD w C ga gs gf k vl e s Q) : Q gf := h.rows.folsQ gf rfl
theorem NfaD.cell (h : NfaD w C ga gs gf k vl e s Q) : w.cell? ⟨ga, 0, none⟩ = some (.slice (some ⟨gs, 0, none⟩) k k) ∧ w.cell? ⟨ga, 3, none⟩ = some (.slice (some ⟨gf, 0, none⟩) k k) :=
  ⟨cell_of_row w ga 0 _ _ (0, 0) h.box, cell_of_row w ga 3 _ _ (0, 0) h.box⟩
theorem NfaD.kinds (h : NfaD w C ga gs gf k vl e s Q) : (∃ cur, w.heap[gs]? = some (.cells cur 72 (0, 0))) ∧ (∃ cur, w.heap[gf]? = some (.cells cur 59 (0, 0))) := by
  obtain ⟨fs, h1, h2⟩ := h.rows.fols
  exact ⟨own_kind h.rows.sets rfl, own_kind h1 rfl⟩
/-- One set stored. -/
theorem NfaD.setS (h : NfaD w C ga gs gf k vl e s Q) (p : Nat) (hp : p < k) (q : Nat → Bool) :
    NfaD ((((w.setCell ⟨gs, p * 4, none⟩ (.int .u64 (word q 0))).setCell ⟨gs, p * 4 + 1, none⟩ (.int .u64 (word q 1))).setCell ⟨gs, p * 4 + 2, none⟩ (.int .u64 (word q 2))).setCell ⟨gs, p * 4 + 3, none⟩ (.int .u64 (word q 3))) C ga gs gf k vl e ⟨s.sets.set p q, s.follow⟩ Q := by
  obtain ⟨⟨c1, k1⟩, ⟨c2, k2⟩⟩ := h.kinds
  have n1 : ga ≠ gs := kind_apart h.box k1 (by decide)
  have n2 : gf ≠ gs := kind_apart k2 k1 (by decide)
  obtain ⟨fs, h1, h2⟩ := h.rows.fols
  have hb : ∀ b, b ≠ gs → ((((w.setCell ⟨gs, p * 4, none⟩ (.int .u64 (word q 0))).setCell ⟨gs, p * 4 + 1, none⟩ (.int .u64 (word q 1))).setCell ⟨gs, p * 4 + 2, none⟩ (.int .u64 (word q 2))).setCell ⟨gs, p * 4 + 3, none⟩ (.int .u64 (word q 3))).heap[b]? = w.heap[b]? := fun b hb => by
    rw [Below.heap_setCell _ _ _ _ hb, Below.heap_setCell _ _ _ _ hb, Below.heap_setCell _ _ _ _ hb, Below.heap_setCell _ _ _ _ hb]
  have hl : ∀ (i : Nat) (v : Value) b, fs[i]? = some v → v.ownBlock = some b → b ≠ gs := fun i v b e1 e2 => by
    have hi : i < s.follow.length := by rw [← h2.len]; exact (List.getElem?_eq_some_iff.1 e1).1
    obtain ⟨cur, hc⟩ := (h2.get i v _ e1 (List.getElem?_eq_getElem hi)).kind e2
    exact kind_apart hc k1 (by decide)
  have s0 := h.rows.sets
  rw [h.ns] at s0
  have s1 := (World.ownsRow.stored s0 (p * 4) (.int .u64 (word q 0))).1
  have s2 := (World.ownsRow.stored s1 (p * 4 + 1) (.int .u64 (word q 1))).1
  have s3 := (World.ownsRow.stored s2 (p * 4 + 2) (.int .u64 (word q 2))).1
  have s4 := (World.ownsRow.stored s3 (p * 4 + 3) (.int .u64 (word q 3))).1
  rw [setsC_set _ _ _ (by rw [h.ns]; exact hp)] at s4
  refine ⟨fun b hq => by have := h.ge b hq; simpa [World.setCell] using this, h.aQ, (hb ga n1).trans h.box, ⟨?_, h.rows.setsQ, ⟨fs, own_block h1 fun b e2 _ => ?_, ⟨h2.len, fun i v l e1 e2 => (h2.get i v l e1 e2).block fun b e3 _ => hb b (hl i v b e1 e3), h2.inQ, h2.apart⟩⟩, h.rows.folsQ⟩, by simpa using h.ns, h.nf⟩
  · rw [List.length_set, h.ns]
    exact s4
  · have e3 : gf = b := by simpa [Value.ownBlock] using e2
    rw [← e3]
    exact hb _ n2
/-- What one sees at the list of p, and what comes of it when the list grows. -/
theorem NfaD.open (h : NfaD w C ga gs gf k vl e s Q) (p : Nat) (hp : p < k) : ∃ vp, w.cell? ⟨gf, p, none⟩ = some vp ∧ w.frozen? ⟨gf, p, none⟩ = false ∧ Ints w C vp (Go.Proofs.Ytnkopcmkanibhaa.ns (s.follow.getD p [])) ∧ (∀ b, vp.ownBlock = some b → Q b ∧ b ≠ gf ∧ b ≠ ga ∧ b ≠ gs) ∧
    ∀ (ys : List Nat) (w2 : World) (v' : Value), Ints w2 C v' (Go.Proofs.Ytnkopcmkanibhaa.ns (s.follow.getD p [] ++ ys)) → w.grownBy w2 vp.ownBlock → (v'.ownBlock = vp.ownBlock ∨ v'.ownBlock = some w.heap.size) →
      NfaD (w2.setCell ⟨gf, p, none⟩ v') C ga gs gf k vl e ⟨s.sets, linkAt s.follow p ys⟩ (fun b => Q b ∨ v'.ownBlock = some b) := by
  obtain ⟨⟨c1, k1⟩, ⟨c2, k2⟩⟩ := h.kinds
  have n1 : ga ≠ gf := kind_apart h.box k2 (by decide)
  have n2 : gs ≠ gf := kind_apart k1 k2 (by decide)
  have hp' : p < s.follow.length := by rw [h.nf]; exact hp
  obtain ⟨fs, h3, h4⟩ := h.rows.fols
  rw [h.nf] at h3
  have hpf : p < fs.length := by rw [h4.len]; exact hp'
  obtain ⟨vp, hvp⟩ : ∃ vp, fs[p]? = some vp := ⟨_, List.getElem?_eq_getElem hpf⟩
  have hl := h4.get p vp _ hvp (getD_get s.follow p [] hp')
  have hv1 : ∀ b, vp.ownBlock = some b → b ≠ gf ∧ b ≠ ga ∧ b ≠ gs := fun b e => by
    obtain ⟨cur', hc⟩ := hl.kind e
    exact ⟨kind_apart hc k2 (by decide), kind_apart hc h.box (by decide), kind_apart hc k1 (by decide)⟩
  have hgfl := lt_of_some k2
  refine ⟨vp, ?_, World.ownsRow.frozenAt h3 p, hl, fun b e => ⟨h4.inQ p vp b hvp e, hv1 b e⟩, fun ys w2 v' hv hg hor => ?_⟩
  · rw [World.ownsRow.cellAt h3 p (by omega), hvp]
  · have hput := h4.put (fun b e => (h.ge b e).2) p hp' vp v' hvp hg hv hor
    have hgf2 : w2.heap[gf]? = some (.cells c2 59 (0, 0)) := (hg.block gf hgfl fun e => (hv1 gf e.symm).1 rfl).trans k2
    have hset : ∀ b, b ≠ gf → (w2.setCell ⟨gf, p, none⟩ v').heap[b]? = w2.heap[b]? := fun b hb => Below.heap_setCell _ _ _ _ hb
    have h32 : w2.ownsRow C 59 1 (.slice (some ⟨gf, 0, none⟩) k k) k fs := own_block h3 fun b e hb => by
      injection e with e
      subst e
      exact hg.block _ hb fun e' => (hv1 _ e'.symm).1 rfl
    refine ⟨fun b e => ?_, .inl h.aQ, (hset ga n1).trans ((hg.block ga (lt_of_some h.box) fun e => (hv1 ga e.symm).2.1 rfl).trans h.box), ⟨own_block h.rows.sets fun b e hb => ?_, fun b e => .inl (h.rows.setsQ b e), ⟨fs.set p v', ?_, ?_⟩, fun b e => .inl (h.rows.folsQ b e)⟩, h.ns, by show (linkAt s.follow p ys).length = k; rw [linkAt_len]; exact h.nf⟩
    · rcases e with e | e
      · have := h.ge b e
        have hsz := hg.size
        exact ⟨this.1, by simp only [World.setCell, Array.size_modify]; omega⟩
      · have := hv.in e
        exact ⟨this.1, by simp only [World.setCell, Array.size_modify]; exact this.2⟩
    · injection e with e
      subst e
      exact (hset _ n2).trans (hg.block _ hb fun e' => (hv1 _ e'.symm).2.2 rfl)
    · have := (World.ownsRow.stored h32 p v').1
      rw [show (linkAt s.follow p ys).length = k from (linkAt_len _ _ _).trans h.nf]
      exact this
    · refine ⟨hput.len, fun i v l e1 e2 => (hput.get i v l e1 e2).block fun b e hb => hset b ?_, hput.inQ, hput.apart⟩
      obtain ⟨cur', hc⟩ := (hput.get i v l e1 e2).kind e
      exact kind_apart hc hgf2 (by decide)
end
end Go.Proofs.Ytnkopcmkanibhaa

/-
  The document's own first and last places of a pattern laid out flat: its list of where each kid begins. Contracts for other texts; no statement of its own.
-/
namespace Go.Proofs.Ytnkopcmkanibhaa
open Go Go.RowKit
attribute [local go_sem ↓] Go.wp_at_zero Go.wp_at_succ

theorem own_at {B : Nat} {w : World} {v : Value} {l : List Int} (h : Ints w B v l) : ∀ j, v.ownBlock = some j → B ≤ j := fun j e => (World.ownsRow.lt h j e).1
/-- Where each of the first j kids begins. -/
def begL (l : List T) (a j : Nat) : List Nat := (List.range j).map fun i => a + plTL (l.take i)
theorem begL_len (l : List T) (a j : Nat) : (begL l a j).length = j := by simp [begL]
theorem begL_succ (l : List T) (a j : Nat) : begL l a (j + 1) = begL l a j ++ [a + plTL (l.take j)] := by simp [begL, List.range_succ]
theorem begL_at (l : List T) (a j i : Nat) (h : i < j) : (begL l a j)[i]'(by rw [begL_len]; exact h) = a + plTL (l.take i) := by simp [begL]
/-- What ends tells. -/
def RetEndF (w : World) (l : List Nat) (e : Ending) (w' : World) : Prop := ∃ v, e = .returned v ∧ Ints w' w.heap.size v (ns l) ∧ Below w.heap.size w w'
def lasts (b : Bool) (t : T) (a : Nat) : List Nat := if b = true then lstT t a else fstT t a
theorem lasts_len (b : Bool) (t : T) (a : Nat) : (lasts b t a).length ≤ plT t := by
  unfold lasts
  split
  · exact lst_len t a
  · exact fst_len t a
/-- Which kid a round takes. -/
def idx (b : Bool) (l : List T) (j : Nat) : Nat := if b = true then l.length - 1 - j else j
/-- What j rounds have gathered. -/
def outL (b : Bool) (l : List T) (a j : Nat) : List Nat := if b = true then altB (l.drop (l.length - j)) (a + plTL (l.take (l.length - j))) else altF (l.take j) a
/-- That all of j rounds' kids are empty. -/
def emp (b : Bool) (l : List T) (j : Nat) : Bool := if b = true then allE (l.drop (l.length - j)) else allE (l.take j)
theorem idx_lt (b : Bool) (l : List T) (j : Nat) (h : j < l.length) : idx b l j < l.length := by unfold idx; split <;> omega
theorem outL_zero (b : Bool) (l : List T) (a : Nat) : outL b l a 0 = [] := by
  unfold outL
  split
  · simp [altB]
  · simp [altF]
theorem emp_zero (b : Bool) (l : List T) : emp b l 0 = true := by
  unfold emp
  split
  · simp [allE]
  · simp [allE]
theorem outL_succ (b : Bool) (l : List T) (a j : Nat) (h : j < l.length) : outL b l a (j + 1) = outL b l a j ++ lasts b (l[idx b l j]'(idx_lt b l j h)) (a + plTL (l.take (idx b l j))) := by
  cases b
  · simpa [outL, idx, lasts] using altF_take l j h a
  · have hi : l.length - 1 - j < l.length := by omega
    have hd := altB_drop l (l.length - 1 - j) hi a
    have e1 : l.length - (j + 1) = l.length - 1 - j := by omega
    have e2 : l.length - 1 - j + 1 = l.length - j := by omega
    simp only [outL, idx, lasts, if_true, e1]
    rw [hd, e2]
theorem emp_succ (b : Bool) (l : List T) (j : Nat) (h : j < l.length) : emp b l (j + 1) = (emp b l j && emptyT (l[idx b l j]'(idx_lt b l j h))) := by
  cases b
  · simpa [emp, idx] using allE_take l j h
  · have hi : l.length - 1 - j < l.length := by omega
    have hd := allE_drop l (l.length - 1 - j) hi
    have e1 : l.length - (j + 1) = l.length - 1 - j := by omega
    have e2 : l.length - 1 - j + 1 = l.length - j := by omega
    simp only [emp, idx, if_true, e1]
    rw [hd, e2, Bool.and_comm]
theorem lasts_cat (b : Bool) (t : T) (a : Nat) (h2 : t.op = 2) : lasts b t a = if b = true then catB t.kids a else catF t.kids a := by
  cases t with
  | mk op p lo hi l =>
    have e : op = 2 := h2
    subst e
    cases b <;> simp [lasts, lstT, fstT, T.kids]
theorem lasts_alt (b : Bool) (t : T) (a : Nat) (h1 : t.op ≠ 1) (h2 : t.op ≠ 2) : lasts b t a = if b = true then altB t.kids a else altF t.kids a := by
  cases t with
  | mk op p lo hi l =>
    have e1 : op ≠ 1 := h1
    have e2 : op ≠ 2 := h2
    cases b <;> simp [lasts, lstT, fstT, T.kids, e1, e2]
theorem lasts_all (b : Bool) (t : T) (a : Nat) (h1 : t.op ≠ 1) (h : t.op = 2 → emp b t.kids t.kids.length = true) : outL b t.kids a t.kids.length = lasts b t a := by
  have e : outL b t.kids a t.kids.length = if b = true then altB t.kids a else altF t.kids a := by cases b <;> simp [outL, plTL]
  rw [e]
  by_cases h2 : t.op = 2
  · have hall : allE t.kids = true := by
      have := h h2
      cases b <;> simpa [emp] using this
    rw [lasts_cat b t a h2, catB_all _ _ hall, catF_all _ _ hall]
  · rw [lasts_alt b t a h1 h2]
theorem lasts_stop (b : Bool) (t : T) (a j : Nat) (hj : j < t.kids.length) (h2 : t.op = 2) (h : emp b t.kids j = true) (he : emptyT (t.kids[idx b t.kids j]'(idx_lt b _ j hj)) = false) : outL b t.kids a (j + 1) = lasts b t a := by
  rw [lasts_cat b t a h2]
  cases b
  · simp only [emp, idx, Bool.false_eq_true, if_false] at h he
    simp only [outL, Bool.false_eq_true, if_false]
    exact (catF_stop t.kids j hj a h he).symm
  · have hi : t.kids.length - 1 - j < t.kids.length := by omega
    simp only [emp, idx, if_true] at h he
    have e1 : t.kids.length - (j + 1) = t.kids.length - 1 - j := by omega
    have e2 : t.kids.length - j = t.kids.length - 1 - j + 1 := by omega
    rw [e2] at h
    simp only [outL, if_true, e1]
    exact (catB_stop t.kids _ hi a h he).symm
theorem outL_len (b : Bool) (l : List T) (a j : Nat) (h : j ≤ l.length) : (outL b l a j).length ≤ plTL l := by
  unfold outL
  split
  · have h1 := altB_len (l.drop (l.length - j)) (a + plTL (l.take (l.length - j)))
    have h2 := plTL_app (l.take (l.length - j)) (l.drop (l.length - j))
    rw [List.take_append_drop] at h2
    omega
  · have h1 := altF_len (l.take j) a
    have h2 := plTL_le l j
    omega
def EndsF (N : Nat) : Prop := ∀ (t : T) (w : World) (ok : Nat → Prop) (k : Value) (a : Nat) (b : Bool), SizeOf.sizeOf t ≤ N → FT t → Tree w ok t k → a + plT t ≤ 256 →
    Calls Try.prog 59 #[nodeP t k, .int .i64 (a : Int), .bool b] w (RetEndF w (lasts b t a))

set_option maxRecDepth 20000 in
set_option maxHeartbeats 4000000 in
theorem ends_one {t : T} {w : World} {k : Value} {a : Nat} {b : Bool} (h1 : t.op = 1) :
    Calls Try.prog 59 #[nodeP t k, .int .i64 (a : Int), .bool b] w (RetEndF w (lasts b t a)) := by
  have hl : lasts b t a = [a] := by
    cases t with
    | mk op p lo hi l =>
      have e : op = 1 := h1
      subst e
      unfold lasts
      split <;> simp [lstT, fstT]
  rw [hl]
  have b1 := Box8.new w t k
  have hB : Below w.heap.size w (w.alloc (.cells #[.int .i64 t.op, .int .u64 (word t.set 0), .int .u64 (word t.set 1), .int .u64 (word t.set 2), .int .u64 (word t.set 3), .int .i64 t.lo, .int .i64 t.hi, k] 75)) := (Below.refl _ _).alloc (Nat.le_refl _) _
  obtain ⟨c0, c1, c2, c3, c4, c5, c6, c7⟩ := b1.cell
  unfold nodeP
  have hI0 : Ints ((w.alloc (.cells #[.int .i64 t.op, .int .u64 (word t.set 0), .int .u64 (word t.set 1), .int .u64 (word t.set 2), .int .u64 (word t.set 3), .int .i64 t.lo, .int .i64 t.hi, k] 75)).alloc (.cells #[.int .i64 (a : Int)] 3)) (w.heap.size + 1) (.slice (some ⟨w.heap.size + 1, 0, none⟩) 1 1) [(a : Int)] := by
    have h := World.ownsRow_lit (base := w.heap.size + 1) (e := 3) (size := 1) (w.alloc (.cells #[.int .i64 t.op, .int .u64 (word t.set 0), .int .u64 (word t.set 1), .int .u64 (word t.set 2), .int .u64 (word t.set 3), .int .i64 t.lo, .int .i64 t.hi, k] 75)) #[.int .i64 (a : Int)] 1 (by simp) (by decide) rfl
    rw [World.size_alloc] at h
    exact h
  have hbb : (t.op == 1) = true := by simp [h1]
  go_enter Try.func59, Try.ntmps59
  go_wp2
  go_ret
  rw [h1] at hI0 hB
  have hI1 : Ints _ w.heap.size _ (ns [a]) := own_lower hI0 (by omega)
  exact ⟨_, rfl, hI1, hB.alloc hB.size _⟩

set_option maxRecDepth 20000 in
set_option maxHeartbeats 4000000 in
theorem ends_n {N : Nat} (ih : EndsF N) {t : T} {w : World} {ok : Nat → Prop} {k : Value} {a : Nat} {b : Bool} (hN : SizeOf.sizeOf t ≤ N + 1) (hft : FT t) (ht : Tree w ok t k) (ha : a + plT t ≤ 256) (h1 : t.op ≠ 1) :
    Calls Try.prog 59 #[nodeP t k, .int .i64 (a : Int), .bool b] w (RetEndF w (lasts b t a)) := by
  obtain ⟨A, n', c, rfl⟩ := ht.form
  obtain ⟨hn, hm⟩ := ht.bound
  have hlen := hft.len
  rw [← hn] at hlen
  unfold maxLen at hm
  have hpl : plTL t.kids ≤ plT t := by cases t; simp [plT, T.kids]
  have b1 := Box8.new w t (.slice A n' c)
  have hB : Below w.heap.size w (w.alloc (.cells #[.int .i64 t.op, .int .u64 (word t.set 0), .int .u64 (word t.set 1), .int .u64 (word t.set 2), .int .u64 (word t.set 3), .int .i64 t.lo, .int .i64 t.hi, .slice A n' c] 75)) := (Below.refl _ _).alloc (Nat.le_refl _) _
  obtain ⟨c0, c1, c2, c3, c4, c5, c6, c7⟩ := b1.cell
  have hb1 : (t.op == 1) = false := by simp [h1]
  unfold nodeP
  have HN := Lib.hid hn
  have HT := Lib.hid ht
  have HFT := Lib.hid hft
  have IH := Lib.hid ih
  have HB1 := Lib.hid b1
  have HHB := Lib.hid hB
  have HSZ := Lib.hid hN
  have HPL := Lib.hid hpl
  have HM := Lib.hid hm
  have H1 := Lib.hid h1
  clear hn ih hft b1 hB ht hN hpl hm h1
  obtain ⟨i0, hi, hz0, hz1, hz2⟩ := info_parts Try.infoInt
  go_enter Try.func59, Try.ntmps59
  go_wp2
  go_loopg [1, 8, 9] n' (fun m at_ beg i wr => ∃ j : Nat, i = .int .i64 (j : Int) ∧ j ≤ n' ∧ m = n' - j ∧ at_ = .int .i64 ((a + plTL (t.kids.take j) : Nat) : Int) ∧ Ints wr (w.heap.size + 1) beg (ns (begL t.kids a j)) ∧ Box8 wr w.heap.size t (.slice A n' c) ∧ Below w.heap.size w wr)
  case atStart => exact ⟨0, rfl, Nat.zero_le _, rfl, rfl, Ints.nil _ _, HB1.out, HHB.out⟩
  case round =>
    clear c0 c1 c2 c3 c4 c5 c6 c7
    obtain ⟨j, rfl, hj, hmj, rfl, hbeg, x1, hW⟩ := hrel
    have HMJ := Lib.hid hmj
    obtain ⟨c0, c1, c2, c3, c4, c5, c6, c7⟩ := x1.cell
    clear hmj
    have hg0 : w.heap.size < wr.heap.size := x1.lt
    by_cases hlt : j < n'
    · have hlt' : j < t.kids.length := by rw [← HN.out]; exact hlt
      obtain ⟨g, B, m1, m2, e1, hg1, htk, hcells⟩ := kid8 HT.out j (List.getElem?_eq_getElem hlt')
      subst e1
      have hwk := HFT.out.at j hlt'
      have hst := plTL_take t.kids j hlt'
      have hsl := plTL_le t.kids (j + 1)
      have hpn := plN_flat hwk
      have hbs := begL_succ t.kids a j
      generalize t.kids[j] = u at *
      have hpu : plN u = plT u := by have := HPL.out; omega
      rw [hpu] at hpn
      have HCk : ∀ q v, (nodeC u (.slice B m1 m2))[q]? = some v → w.cell? ⟨g, j * 8 + q, none⟩ = some v := fun q v h => by rw [Nat.mul_comm j 8]; exact hcells q v h
      have hforall : ∀ w', Below w.heap.size w w' → w'.cell? ⟨g, j * 8, none⟩ = some (.int .i64 u.op) ∧ w'.cell? ⟨g, j * 8 + 1, none⟩ = some (.int .u64 (word u.set 0)) ∧ w'.cell? ⟨g, j * 8 + 2, none⟩ = some (.int .u64 (word u.set 1)) ∧ w'.cell? ⟨g, j * 8 + 3, none⟩ = some (.int .u64 (word u.set 2)) ∧ w'.cell? ⟨g, j * 8 + 4, none⟩ = some (.int .u64 (word u.set 3)) ∧ w'.cell? ⟨g, j * 8 + 5, none⟩ = some (.int .i64 u.lo) ∧ w'.cell? ⟨g, j * 8 + 6, none⟩ = some (.int .i64 u.hi) ∧ w'.cell? ⟨g, j * 8 + 7, none⟩ = some (.slice B m1 m2) := fun w' hb =>
        ⟨(hb.cell (p := ⟨g, j * 8, none⟩) hg1).trans (HCk 0 _ rfl), (hb.cell (p := ⟨g, j * 8 + 1, none⟩) hg1).trans (HCk 1 _ rfl), (hb.cell (p := ⟨g, j * 8 + 2, none⟩) hg1).trans (HCk 2 _ rfl), (hb.cell (p := ⟨g, j * 8 + 3, none⟩) hg1).trans (HCk 3 _ rfl), (hb.cell (p := ⟨g, j * 8 + 4, none⟩) hg1).trans (HCk 4 _ rfl), (hb.cell (p := ⟨g, j * 8 + 5, none⟩) hg1).trans (HCk 5 _ rfl), (hb.cell (p := ⟨g, j * 8 + 6, none⟩) hg1).trans (HCk 6 _ rfl), (hb.cell (p := ⟨g, j * 8 + 7, none⟩) hg1).trans (HCk 7 _ rfl)⟩
      have HCA := Lib.hid hforall
      have HTK := Lib.hid htk
      have HWK := Lib.hid hwk
      have HST := Lib.hid hst
      have HX := Lib.hid x1
      have HWW := Lib.hid hW
      have HBG := Lib.hid hbeg
      have HBS := Lib.hid hbs
      have hbn : (begL t.kids a j).length = j := begL_len _ _ _
      have HPU := Lib.hid hpu
      obtain ⟨Ab, cb, rfl⟩ := hbeg.form
      rw [ns_len, hbn] at HBG
      have hbg := HBG.out
      unfold Ints at hbg
      rw [ns_len, hbn] at hbg
      have HO := Lib.hid hbg
      have hpb : plTL (t.kids.take (j + 1)) ≤ 256 := by have := HPL.out; omega
      rw [hst] at hpb
      clear HCk hforall hcells htk hwk hst x1 hW hbg hbs hpu hpn hsl hbeg
      rw [ns_len, hbn]
      generalize plTL (t.kids.take j) = S at *
      go_wp2_with (first
        | (at_builtin; refine wpList_append_own_at _ rfl _ _ 59 rfl (w.heap.size + 1) 3 i0 (.int .i64 0) 1 8 Try.underlying59 hi hz0 hz1 hz2 rfl (by decide) _ _ _ rfl (own_stays HO.out ((Below.refl _ _).alloc (Nat.le_refl _) _)) ⟨wr.heap.size, 0, none⟩ 1 1 [.int .i64 ((a + S : Nat) : Int)] rfl rfl (cell_one_new _ _ _) ?c2 ?c3 ?c4 ?c5 ?_)
        | fail)
      case c2 => intro u hu; simp at hu; subst hu; rfl
      case c3 => unfold maxLen; omega
      case c4 => omega
      case c5 => simp; omega
      intro v' w2 hown' hgrow _ hat
      have hgB : wr.grownBy w2 (Value.slice Ab j cb).ownBlock := (World.grownBy_alloc wr _ _).trans hgrow
      have hrow := own_at HBG.out
      have hW2 : Below w.heap.size w w2 := HWW.out.grown hgB HWW.out.size (fun q e => by have := hrow q e; omega)
      have hx2 : Box8 w2 w.heap.size t (.slice (some ⟨g, 0, none⟩) n' c) := HX.out.grown hgB (fun e => by have := hrow _ e.symm; omega)
      have hi2 : Ints w2 (w.heap.size + 1) v' (ns (begL t.kids a (j + 1))) := by
        unfold Ints
        rw [HBS.out, ns_app, List.length_append, List.map_append, ns_len, hbn]
        exact hown'
      have HI2 := Lib.hid hi2
      have HX2 := Lib.hid hx2
      have HW2 := Lib.hid hW2
      clear hown' hgrow hat hgB hrow hx2 hi2 HO HBS HBG
      obtain ⟨Av, cv, hform⟩ := HI2.out.form
      rw [ns_len, begL_len] at hform
      subst hform
      clear c0 c1 c2 c3 c4 c5 c6 c7
      obtain ⟨c0, c1, c2, c3, c4, c5, c6, c7⟩ := HX2.out.cell
      obtain ⟨k0, k1, k2, k3, k4, k5, k6, k7⟩ := HCA.out w2 hW2
      have HK := Lib.hid (fun w' (hb : Below w.heap.size w w') => places_ft (w := w') HWK.out (HTK.out.stays hb))
      unfold nodeP RetInt at HK
      go_wp2_with (first
        | (go_at_call 54; (with_reducible refine (HK.out _ HW2.out).mono ?_); rintro e w5 ⟨rfl, hb5⟩; rw [HPU.out])
        | fail)
      go_roundg (n' - (j + 1))
      case measure => have := HMJ.out; omega
      case rel => exact ⟨j + 1, by go_num, by omega, rfl, by rw [HST.out]; go_num, HI2.out.stays hb5, HX2.out.stays hb5, gro HW2.out hb5⟩
    · have hjn : j = n' := by omega
      have hkn : t.kids.length = n' := HN.out.symm
      subst hjn
      have HBG := Lib.hid hbeg
      obtain ⟨Ab, cb, hform⟩ := hbeg.form
      rw [ns_len, begL_len] at hform
      subst hform
      have HW1 := Lib.hid hW
      have HX := Lib.hid x1
      clear hbeg hW x1 hlt
      go_wp2
      clear c0 c1 c2 c3 c4 c5 c6 c7
      go_loopg [7, 10] j (fun m out j2 wq => ∃ q : Nat, j2 = .int .i64 (q : Int) ∧ q ≤ j ∧ m = j - q ∧ Ints wq wr.heap.size out (ns (outL b t.kids a q)) ∧ (t.op = 2 → emp b t.kids q = true) ∧ Below wr.heap.size wr wq)
      case atStart => exact ⟨0, rfl, Nat.zero_le _, rfl, by rw [outL_zero]; exact Ints.nil _ _, fun _ => emp_zero _ _, Below.refl _ _⟩
      case round =>
        obtain ⟨q, rfl, hq, hmq, hout, hemp, hWq⟩ := hrel
        have HMQ := Lib.hid hmq
        have HOUT := Lib.hid hout
        have HEMP := Lib.hid hemp
        clear hmq hout hemp
        obtain ⟨c0, c1, c2, c3, c4, c5, c6, c7⟩ := (HX.out.stays hWq).cell
        by_cases hqt : q < j
        · have hqt' : q < t.kids.length := by rw [hkn]; exact hqt
          obtain ⟨i, hi⟩ : ∃ i, idx b t.kids q = i := ⟨_, rfl⟩
          have hil : i < t.kids.length := by rw [← hi]; exact idx_lt b _ q hqt'
          have hib : (b = true → (j : Int) - 1 - (q : Int) = (i : Int)) ∧ (b = false → i = q) := by
            rw [← hi]
            constructor
            · rintro rfl
              simp only [idx, if_true]
              omega
            · rintro rfl
              rfl
          obtain ⟨g, B, m1, m2, e1, hg1, htk, hcells⟩ := kid8 HT.out i (List.getElem?_eq_getElem hil)
          subst e1
          obtain ⟨gb, cb', e2, hgb0, hgb1, hgb2⟩ := HBG.out.at i (by rw [ns_len, begL_len, ← hkn]; exact hil)
          injection e2 with f1 f2 f3
          subst f1 f3
          clear f2
          have hbv : (ns (begL t.kids a j))[i]'(by rw [ns_len, begL_len, ← hkn]; exact hil) = ((a + plTL (t.kids.take i) : Nat) : Int) := by
            simp [ns, begL]
          rw [hbv] at hgb2
          have hsuc := outL_succ b t.kids a q hqt'
          have hes := emp_succ b t.kids q hqt'
          have hstop := lasts_stop b t a q hqt'
          simp only [hi] at hsuc hes hstop
          have hwk := HFT.out.at i hil
          have hks := kid_size t i hil
          have hst := plTL_take t.kids i hil
          have hsl := plTL_le t.kids (i + 1)
          have hol := outL_len b t.kids a q (by omega)
          generalize t.kids[i] = u at *
          have hpu : a + plTL (t.kids.take i) + plT u ≤ 256 := by have := HPL.out; omega
          generalize plTL (t.kids.take i) = S at *
          have hll := lasts_len b u (a + S)
          have hij : i < j := by omega
          have HCk : ∀ q v, (nodeC u (.slice B m1 m2))[q]? = some v → w.cell? ⟨g, i * 8 + q, none⟩ = some v := fun q v h => by rw [Nat.mul_comm i 8]; exact hcells q v h
          have hforall : ∀ w', Below w.heap.size w w' → w'.cell? ⟨g, i * 8, none⟩ = some (.int .i64 u.op) ∧ w'.cell? ⟨g, i * 8 + 1, none⟩ = some (.int .u64 (word u.set 0)) ∧ w'.cell? ⟨g, i * 8 + 2, none⟩ = some (.int .u64 (word u.set 1)) ∧ w'.cell? ⟨g, i * 8 + 3, none⟩ = some (.int .u64 (word u.set 2)) ∧ w'.cell? ⟨g, i * 8 + 4, none⟩ = some (.int .u64 (word u.set 3)) ∧ w'.cell? ⟨g, i * 8 + 5, none⟩ = some (.int .i64 u.lo) ∧ w'.cell? ⟨g, i * 8 + 6, none⟩ = some (.int .i64 u.hi) ∧ w'.cell? ⟨g, i * 8 + 7, none⟩ = some (.slice B m1 m2) := fun w' hb =>
            ⟨(hb.cell (p := ⟨g, i * 8, none⟩) hg1).trans (HCk 0 _ rfl), (hb.cell (p := ⟨g, i * 8 + 1, none⟩) hg1).trans (HCk 1 _ rfl), (hb.cell (p := ⟨g, i * 8 + 2, none⟩) hg1).trans (HCk 2 _ rfl), (hb.cell (p := ⟨g, i * 8 + 3, none⟩) hg1).trans (HCk 3 _ rfl), (hb.cell (p := ⟨g, i * 8 + 4, none⟩) hg1).trans (HCk 4 _ rfl), (hb.cell (p := ⟨g, i * 8 + 5, none⟩) hg1).trans (HCk 5 _ rfl), (hb.cell (p := ⟨g, i * 8 + 6, none⟩) hg1).trans (HCk 6 _ rfl), (hb.cell (p := ⟨g, i * 8 + 7, none⟩) hg1).trans (HCk 7 _ rfl)⟩
          have HCA := Lib.hid hforall
          have hWw : Below w.heap.size w wr := gro HW1.out hWq
          obtain ⟨k0, k1, k2, k3, k4, k5, k6, k7⟩ := hforall wr hWw
          have kb : wr.cell? ⟨gb, i, none⟩ = some (.int .i64 ((a + S : Nat) : Int)) := (hWq.cell (p := ⟨gb, i, none⟩) hgb1).trans hgb2
          have HK := Lib.hid (fun w' (hb : Below w.heap.size w w') => IH.out u w' ok (.slice B m1 m2) (a + S) b (by have := HSZ.out; omega) hwk (htk.stays hb) hpu)
          have HK2 := Lib.hid (fun w' (hb : Below w.heap.size w w') => empty_p (w := w') hwk (htk.stays hb))
          unfold nodeP at HK HK2
          simp only [Int.natCast_add] at HK
          have HSUC := Lib.hid hsuc
          have HES := Lib.hid hes
          have HSTOP := Lib.hid hstop
          have HWW := Lib.hid hWw
          have HWQ := Lib.hid hWq
          have HIB := Lib.hid hib
          have hol2 : (outL b t.kids a q).length + (lasts b u (a + S)).length ≤ 100000 := by have := HPL.out; omega
          have HOL := Lib.hid hol2
          generalize hoq : outL b t.kids a q = oq at *
          generalize hlu : lasts b u (a + S) = lu at *
          have hsz := hWq.size
          clear HCk hforall hcells htk hwk hks hst hsl hpu hol hll hbv hsuc hes hstop hWw hWq hib hol2 hgb2 hi hil hqt'
          cases b
          · have e : i = q := HIB.out.2 rfl
            subst e
            clear HIB
            go_upto_region 16 with fail
            go_region_law (first
              | (go_simp; go_at_call 59; (refine (HK.out wr.drew HWW.out.drew).mono ?_); rintro e w5 ⟨v5, rfl, hv5, hb5⟩; have HV5 := Lib.hid hv5; have HB5 := Lib.hid (undrew hb5); have HO5 := Lib.hid (HOUT.out.stays (undrew hb5)); clear hv5 hb5)
              | (refine step_ints rfl _ _ (by rfl) (by rfl) (by rfl) HO5.out HV5.out (by rw [ns_len, ns_len]; exact HOL.out) (Nat.le_trans hsz HB5.out.size) ?_; intro v6 w6 i6 g6 o6; have HI6 := Lib.hid i6; have HG6 := Lib.hid g6; clear i6 g6 o6)
              | fail)
            all_goals
              have hW5 := gro HWQ.out HB5.out
              have hW6 := hW5.grown HG6.out hW5.size (own_at HO5.out)
              have hw6 := gro HW1.out hW6
              obtain ⟨c0, c1, c2, c3, c4, c5, c6, c7⟩ := (HX.out.stays hW6).cell
              obtain ⟨k0, k1, k2, k3, k4, k5, k6, k7⟩ := HCA.out w6 hw6
              have HW6 := Lib.hid hW6
              have HWW6 := Lib.hid hw6
              clear hW5 hW6 hw6
              obtain ⟨ev, hev⟩ : ∃ ev, emptyT u = ev := ⟨_, rfl⟩
              rw [hev] at HK2 HES HSTOP
              clear hev
              cases ev <;> cases h2 : (t.op == 2)
              all_goals
                go_wp2_with (first
                  | (go_at_call 56; (with_reducible refine (HK2.out _ HWW6.out).mono ?_); rintro e w8 ⟨rfl, hb8⟩; have HI8 := Lib.hid (HI6.out.stays hb8); have HW8 := Lib.hid (gro HW6.out hb8); have HWW8 := Lib.hid (gro HWW6.out hb8); obtain ⟨d0, d1, d2, d3, d4, d5, d6, d7⟩ := (HX.out.stays HW8.out).cell)
                  | fail)
                first
                  | (go_roundg (j - (i + 1))
                     case measure => (have := HMQ.out; omega)
                     case rel => exact ⟨i + 1, by go_num, by omega, rfl, by rw [HSUC.out, ns_app]; exact HI8.out, (fun h => by first | (simp [HES.out, HEMP.out h]; done) | (exfalso; rw [h] at h2; exact absurd h2 (by decide))), HW8.out⟩)
                  | (go_ret
                     have hs := HSTOP.out (by simpa using h2) (HEMP.out (by simpa using h2)) (by trivial)
                     rw [HSUC.out] at hs
                     refine ⟨_, rfl, ?_, HWW8.out⟩
                     rw [← hs, ns_app]
                     exact own_lower HI8.out HW1.out.size)
          · have e : (j : Int) - 1 - (q : Int) = (i : Int) := HIB.out.1 rfl
            go_upto_region 16 with fail
            clear HIB e
            go_region_law (first
              | (go_simp; go_at_call 59; (refine (HK.out wr.drew HWW.out.drew).mono ?_); rintro e w5 ⟨v5, rfl, hv5, hb5⟩; have HV5 := Lib.hid hv5; have HB5 := Lib.hid (undrew hb5); have HO5 := Lib.hid (HOUT.out.stays (undrew hb5)); clear hv5 hb5)
              | (refine step_ints rfl _ _ (by rfl) (by rfl) (by rfl) HO5.out HV5.out (by rw [ns_len, ns_len]; exact HOL.out) (Nat.le_trans hsz HB5.out.size) ?_; intro v6 w6 i6 g6 o6; have HI6 := Lib.hid i6; have HG6 := Lib.hid g6; clear i6 g6 o6)
              | fail)
            all_goals
              have hW5 := gro HWQ.out HB5.out
              have hW6 := hW5.grown HG6.out hW5.size (own_at HO5.out)
              have hw6 := gro HW1.out hW6
              obtain ⟨c0, c1, c2, c3, c4, c5, c6, c7⟩ := (HX.out.stays hW6).cell
              obtain ⟨k0, k1, k2, k3, k4, k5, k6, k7⟩ := HCA.out w6 hw6
              have HW6 := Lib.hid hW6
              have HWW6 := Lib.hid hw6
              clear hW5 hW6 hw6
              obtain ⟨ev, hev⟩ : ∃ ev, emptyT u = ev := ⟨_, rfl⟩
              rw [hev] at HK2 HES HSTOP
              clear hev
              cases ev <;> cases h2 : (t.op == 2)
              all_goals
                go_wp2_with (first
                  | (go_at_call 56; (with_reducible refine (HK2.out _ HWW6.out).mono ?_); rintro e w8 ⟨rfl, hb8⟩; have HI8 := Lib.hid (HI6.out.stays hb8); have HW8 := Lib.hid (gro HW6.out hb8); have HWW8 := Lib.hid (gro HWW6.out hb8); obtain ⟨d0, d1, d2, d3, d4, d5, d6, d7⟩ := (HX.out.stays HW8.out).cell)
                  | fail)
                first
                  | (go_roundg (j - (q + 1))
                     case measure => (have := HMQ.out; omega)
                     case rel => exact ⟨q + 1, by go_num, by omega, rfl, by rw [HSUC.out, ns_app]; exact HI8.out, (fun h => by first | (simp [HES.out, HEMP.out h]; done) | (exfalso; rw [h] at h2; exact absurd h2 (by decide))), HW8.out⟩)
                  | (go_ret
                     have hs := HSTOP.out (by simpa using h2) (HEMP.out (by simpa using h2)) (by trivial)
                     rw [HSUC.out] at hs
                     refine ⟨_, rfl, ?_, HWW8.out⟩
                     rw [← hs, ns_app]
                     exact own_lower HI8.out HW1.out.size)
        · have hqn : q = t.kids.length := by omega
          have hem := HEMP.out
          rw [hqn] at hem HOUT
          rw [lasts_all b t a H1.out hem] at HOUT
          clear hqn hem
          go_wp2
          go_ret
          exact ⟨_, rfl, own_lower HOUT.out HW1.out.size, gro HW1.out hWq⟩
theorem ends_all : ∀ N, EndsF N
  | 0 => fun t w ok k a b h => by obtain ⟨op, p, lo, hi, l⟩ := t; simp at h
  | N + 1 => fun t w ok k a b h hft ht ha => by
    by_cases h1 : t.op = 1
    · exact ends_one h1
    · exact ends_n (ends_all N) h hft ht ha h1
theorem endsF_p {t : T} {w : World} {ok : Nat → Prop} {k : Value} {a : Nat} {b : Bool} (hft : FT t) (ht : Tree w ok t k) (ha : a + plT t ≤ 256) :
    Calls Try.prog 59 #[nodeP t k, .int .i64 (a : Int), .bool b] w (RetEndF w (lasts b t a)) := ends_all _ t w ok k a b (Nat.le_refl _) hft ht ha
end Go.Proofs.Ytnkopcmkanibhaa

/-
  The document's own follow. Contracts for other texts; no statement of its own.
-/
namespace Go.Proofs.Ytnkopcmkanibhaa
open Go Go.RowKit
attribute [local go_sem ↓] Go.wp_at_zero Go.wp_at_succ
attribute [local go_sem ↓] run_appE

/-- What follow leaves. -/
def RetFol (w : World) (C ga gs gf k : Nat) (vl : Value) (e : Bool) (s : Lay) (Q : Nat → Prop) (en : Ending) (w' : World) : Prop :=
  en = .returned (.tuple #[]) ∧ ∃ Q', NfaD w' C ga gs gf k vl e s Q' ∧ Kept Q w w' ∧ ∀ b, Q' b → Q b ∨ w.heap.size ≤ b
def FollowF (N : Nat) : Prop := ∀ (t : T) (w : World) (ok : Nat → Prop) (kv : Value) (a C ga gs gf k : Nat) (vl : Value) (e : Bool) (s : Lay) (Q : Nat → Prop), SizeOf.sizeOf t ≤ N → FT t → Tree w ok t kv → (∀ b, ok b → ¬ Q b) → a + plT t ≤ k → k ≤ 256 →
    NfaD w C ga gs gf k vl e s Q → C ≤ w.heap.size → (∀ q, (s.follow.getD q []).length + plT t * plT t ≤ 70000) →
    Calls Try.prog 57 #[.pointer (some ⟨ga, 0, none⟩), nodeP t kv, .int .i64 (a : Int)] w (RetFol w C ga gs gf k vl e (folL t a s) Q)

theorem tree_okF {w : World} {ok : Nat → Prop} {t : T} {g n c : Nat} (h : Tree w ok t (.slice (some ⟨g, 0, none⟩) n c)) : ok g := by
  cases h
  assumption
theorem tree_keptF {w w' : World} {ok : Nat → Prop} {Q : Nat → Prop} {t : T} {k : Value} (h : Tree w ok t k) (hk : Kept Q w w') (hq : ∀ b, ok b → ¬ Q b) : Tree w' (fun b => ok b ∧ b < w.heap.size) t k :=
  h.mono fun b h1 h2 _ => ⟨hk.block b h2 (hq b h1), h1, h2⟩
/-- A list that lies away from Q's blocks. -/
structure Away (w : World) (v : Value) (l : List Nat) (Q : Nat → Prop) : Prop where
  ints : Ints w 0 v (ns l)
  out : ∀ b, v.ownBlock = some b → ¬ Q b
/-- What follow finds on its way. -/
structure FolIn (w : World) (C ga gs gf k : Nat) (vl : Value) (e : Bool) (Q : Nat → Prop) (t : T) (kv beg : Value) (bl : List Nat) (s : Lay) (Qj : Nat → Prop) (wr : World) : Prop where
  box : Box8 wr w.heap.size t kv
  begA : Away wr beg bl Qj
  begB : ∀ b, beg.ownBlock = some b → w.heap.size + 1 ≤ b
  D : NfaD wr C ga gs gf k vl e s Qj
  kept : Kept Q w wr
  q : ∀ b, Qj b → Q b ∨ w.heap.size + 1 ≤ b
  ge : ∀ b, Q b → b < w.heap.size
section
variable {w wr w2 : World} {C ga gs gf k : Nat} {vl : Value} {e : Bool} {Q Qj Q2 : Nat → Prop} {t : T} {kv beg beg2 v v' vp : Value} {bl l : List Nat} {s s2 : Lay}
theorem Away.stays (h : Away wr v l Qj) (hb : Below wr.heap.size wr w2) : Away w2 v l Qj := ⟨h.ints.stays hb, h.out⟩
theorem Away.off (h : Away wr v l Qj) (hk : Kept Qj wr w2) (hq : ∀ b, Q2 b → Qj b ∨ wr.heap.size ≤ b) : Away w2 v l Q2 :=
  ⟨h.ints.off hk h.out, fun b e q => (hq b q).elim (h.out b e) fun h2 => by have := (h.ints.in e).2; omega⟩
theorem Away.ret {B : Nat} (h : Ints w2 B v (ns l)) (hB : wr.heap.size ≤ B) (hq : ∀ b, Qj b → b < wr.heap.size) : Away w2 v l Qj :=
  ⟨h.low (Nat.zero_le _), fun b e q => by have := (h.in e).1; have := hq b q; omega⟩
theorem FolIn.boxQ (h : FolIn w C ga gs gf k vl e Q t kv beg bl s Qj wr) : ¬ Qj w.heap.size := fun q => (h.q _ q).elim (fun q' => by have := h.ge _ q'; omega) (fun q' => by omega)
theorem FolIn.stays (h : FolIn w C ga gs gf k vl e Q t kv beg bl s Qj wr) (hb : Below wr.heap.size wr w2) : FolIn w C ga gs gf k vl e Q t kv beg bl s Qj w2 :=
  ⟨h.box.stays hb, h.begA.stays hb, h.begB, h.D.stays hb, h.kept.trans (Kept.of_below (fun _ => False) hb) fun b f => f.elim, h.q, h.ge⟩
/-- Behind a call that changes Qj's blocks. -/
theorem FolIn.call (h : FolIn w C ga gs gf k vl e Q t kv beg bl s Qj wr) (hD : NfaD w2 C ga gs gf k vl e s2 Q2) (hk : Kept Qj wr w2) (hq : ∀ b, Q2 b → Qj b ∨ wr.heap.size ≤ b) : FolIn w C ga gs gf k vl e Q t kv beg bl s2 Q2 w2 := by
  have hs := h.box.lt
  refine ⟨(hk.block _ hs h.boxQ).trans h.box, h.begA.off hk hq, h.begB, hD, h.kept.trans hk fun b q => ?_, fun b q => (hq b q).elim (h.q b) fun q' => .inr (by omega), h.ge⟩
  exact (h.q b q).imp id fun q' => by omega
/-- One place more where a kid begins. -/
theorem FolIn.grow (h : FolIn w C ga gs gf k vl e Q t kv beg bl s Qj wr) {o : Obj} {x : Nat} (hi : Ints w2 0 beg2 (ns (bl ++ [x]))) (hg : (wr.alloc o).grownBy w2 beg.ownBlock) (hor : beg2.ownBlock = beg.ownBlock ∨ beg2.ownBlock = some (wr.alloc o).heap.size) :
    FolIn w C ga gs gf k vl e Q t kv beg2 (bl ++ [x]) s Qj w2 := by
  have hs := h.box.lt
  have hg2 : wr.grownBy w2 beg.ownBlock := (World.grownBy_alloc wr _ _).trans hg
  refine ⟨h.box.grown hg2 fun e => by have := h.begB _ e.symm; omega, ⟨hi, fun b e q => ?_⟩, fun b e => ?_, h.D.block hg2.size fun b q => hg2.block b (h.D.ge b q).2 fun e => h.begA.out b e.symm q, h.kept.grown hg2 fun b e => .inr (by have := h.begB b e; omega), h.q, h.ge⟩
  · rcases hor with h' | h'
    · exact h.begA.out b (h'.symm.trans e) q
    · rw [e] at h'
      injection h' with h'
      have := (h.D.ge b q).2
      rw [World.size_alloc] at h'
      omega
  · rcases hor with h' | h'
    · exact h.begB b (h'.symm.trans e)
    · rw [e] at h'
      injection h' with h'
      rw [World.size_alloc] at h'
      omega
end

set_option maxRecDepth 20000 in
set_option maxHeartbeats 4000000 in
theorem follow_one {t : T} {w : World} {kv : Value} {a C ga gs gf k : Nat} {vl : Value} {e : Bool} {s : Lay} {Q : Nat → Prop} (ha : a + plT t ≤ k) (hk : k ≤ 256) (hD : NfaD w C ga gs gf k vl e s Q) (hC : C ≤ w.heap.size) (h1 : t.op = 1) :
    Calls Try.prog 57 #[.pointer (some ⟨ga, 0, none⟩), nodeP t kv, .int .i64 (a : Int)] w (RetFol w C ga gs gf k vl e (folL t a s) Q) := by
  have hpl : 1 ≤ plT t := by cases t; simp only [T.op] at h1; subst h1; simp [plT]
  have hak : a < k := by omega
  have hfl : folL t a s = ⟨s.sets.set a t.set, s.follow⟩ := by cases t; simp only [T.op] at h1; subst h1; simp [folL, T.set]
  rw [hfl]
  have b1 := Box8.new w t kv
  have hB : Below w.heap.size w (w.alloc (.cells #[.int .i64 t.op, .int .u64 (word t.set 0), .int .u64 (word t.set 1), .int .u64 (word t.set 2), .int .u64 (word t.set 3), .int .i64 t.lo, .int .i64 t.hi, kv] 75)) := (Below.refl _ _).alloc (Nat.le_refl _) _
  have hD1 := hD.stays hB
  obtain ⟨c0, c1, c2, c3, c4, c5, c6, c7⟩ := b1.cell
  obtain ⟨d0, d3⟩ := hD1.cell
  obtain ⟨e0, e3⟩ := hD.cell
  have s0 := hD.rows.sets
  rw [hD.ns] at s0
  have z0 : w.frozen? ⟨gs, a * 4, none⟩ = false := World.ownsRow.frozenAt s0 _
  have z1 : w.frozen? ⟨gs, a * 4 + 1, none⟩ = false := World.ownsRow.frozenAt s0 _
  have z2 : w.frozen? ⟨gs, a * 4 + 2, none⟩ = false := World.ownsRow.frozenAt s0 _
  have z3 : w.frozen? ⟨gs, a * 4 + 3, none⟩ = false := World.ownsRow.frozenAt s0 _
  have hc : ∀ q, q < 4 → ∃ v, w.cell? ⟨gs, a * 4 + q, none⟩ = some v := fun q hq => by
    rw [World.ownsRow.cellAt s0 (a * 4 + q) (by omega), setsC_get s.sets a q (by rw [hD.ns]; exact hak) hq]
    exact ⟨_, rfl⟩
  obtain ⟨u0, y0⟩ := hc 0 (by decide)
  obtain ⟨u1, y1⟩ := hc 1 (by decide)
  obtain ⟨u2, y2⟩ := hc 2 (by decide)
  obtain ⟨u3, y3⟩ := hc 3 (by decide)
  rw [Nat.add_zero] at y0
  have hb1 : (t.op == 1) = true := by simp [h1]
  have p0 : (0 : Int) ≤ (a : Int) := by omega
  have p1 : (a : Int) < (k : Int) := by omega
  have hset := hD.setS a hak t.set
  have hga := (hD.ge _ hD.aQ).2
  have hgs := (hD.ge _ hD.sQ).2
  have hsQ := hD.sQ
  have HSET := Lib.hid hset
  have HD := Lib.hid hD
  have HQ := Lib.hid hsQ
  unfold nodeP
  clear hc s0 hset hD1 hD hfl hpl ha h1 b1 hB hsQ
  go_enter Try.func57, Try.ntmps57
  go_wp2
  go_region
  all_goals (try go_wp2)
  all_goals
    refine bodyPost_ret (v := .tuple #[]) (by simp [results, Try.results57]) rfl ⟨rfl, Q, ((HSET.out.alloc _).block (Nat.le_refl _) (fun _ _ => rfl)), ?_, fun b h => .inl h⟩
    exact ((((((Kept.refl Q w).setCell (a := ⟨gs, a * 4, none⟩) (.inl HQ.out) _).setCell (a := ⟨gs, a * 4 + 1, none⟩) (.inl HQ.out) _).setCell (a := ⟨gs, a * 4 + 2, none⟩) (.inl HQ.out) _).setCell (a := ⟨gs, a * 4 + 3, none⟩) (.inl HQ.out) _).alloc _).drew
theorem ints_lit (w : World) (x : Int) : Ints (w.alloc (.cells #[.int .i64 x] 3)) w.heap.size (.slice (some ⟨w.heap.size, 0, none⟩) 1 1) [x] :=
  World.ownsRow_lit (base := w.heap.size) (e := 3) (size := 1) w #[.int .i64 x] 1 (Nat.le_refl _) (by decide) rfl

set_option maxRecDepth 20000 in
set_option maxHeartbeats 4000000 in
theorem follow_n {N : Nat} (ih : FollowF N) {t : T} {w : World} {ok : Nat → Prop} {kv : Value} {a C ga gs gf k : Nat} {vl : Value} {e : Bool} {s : Lay} {Q : Nat → Prop} (hN : SizeOf.sizeOf t ≤ N + 1) (hft : FT t) (ht : Tree w ok t kv) (hokQ : ∀ b, ok b → ¬ Q b)
    (ha : a + plT t ≤ k) (hk : k ≤ 256) (hD : NfaD w C ga gs gf k vl e s Q) (hC : C ≤ w.heap.size) (hlen70 : ∀ q, (s.follow.getD q []).length + plT t * plT t ≤ 70000) (h1 : t.op ≠ 1) :
    Calls Try.prog 57 #[.pointer (some ⟨ga, 0, none⟩), nodeP t kv, .int .i64 (a : Int)] w (RetFol w C ga gs gf k vl e (folL t a s) Q) := by
  obtain ⟨A, n', c, rfl⟩ := ht.form
  obtain ⟨hn, hm⟩ := ht.bound
  have hlen := hft.len
  rw [← hn] at hlen
  unfold maxLen at hm
  have hpl : plTL t.kids = plT t := by cases t; simp only [T.op] at h1; simp [plT, T.kids, h1]
  have hsc := sq_cr t.kids
  rw [hpl] at hsc
  have b1 := Box8.new w t (.slice A n' c)
  have hB : Below w.heap.size w (w.alloc (.cells #[.int .i64 t.op, .int .u64 (word t.set 0), .int .u64 (word t.set 1), .int .u64 (word t.set 2), .int .u64 (word t.set 3), .int .i64 t.lo, .int .i64 t.hi, .slice A n' c] 75)) := (Below.refl _ _).alloc (Nat.le_refl _) _
  obtain ⟨c0, c1, c2, c3, c4, c5, c6, c7⟩ := b1.cell
  have hF0 : FolIn w C ga gs gf k vl e Q t (.slice A n' c) (.slice none 0 0) [] s Q (w.alloc (.cells #[.int .i64 t.op, .int .u64 (word t.set 0), .int .u64 (word t.set 1), .int .u64 (word t.set 2), .int .u64 (word t.set 3), .int .i64 t.lo, .int .i64 t.hi, .slice A n' c] 75)) :=
    ⟨b1, ⟨Ints.nil _ _, fun b e => (by cases e)⟩, fun b e => (by cases e), hD.stays hB, Kept.of_below _ hB, fun b q => .inl q, fun b q => (hD.ge b q).2⟩
  have hb1 : (t.op == 1) = false := by simp [h1]
  unfold nodeP
  have HN := Lib.hid hn
  have HT := Lib.hid ht
  have HFT := Lib.hid hft
  have IH := Lib.hid ih
  have HF0 := Lib.hid hF0
  have HSZ := Lib.hid hN
  have HPL := Lib.hid hpl
  have HSC := Lib.hid hsc
  have HM := Lib.hid hm
  have H1 := Lib.hid h1
  have HOK := Lib.hid hokQ
  have HC := Lib.hid hC
  have HL := Lib.hid hlen70
  clear hn ih hft b1 hB ht hN hpl hm h1 hD hF0 hokQ hC hlen70 hsc
  go_enter Try.func57, Try.ntmps57
  go_wp2
  go_loopg [2, 6, 7] n' (fun m at_ beg i wr => ∃ (j : Nat) (Qj : Nat → Prop), i = .int .i64 (j : Int) ∧ j ≤ n' ∧ m = n' - j ∧ at_ = .int .i64 ((a + plTL (t.kids.take j) : Nat) : Int) ∧ FolIn w C ga gs gf k vl e Q t (.slice A n' c) beg (begL t.kids a j) (kidsL (t.kids.take j) a s) Qj wr)
  case atStart => exact ⟨0, Q, rfl, Nat.zero_le _, rfl, rfl, by simpa [begL, kidsL] using HF0.out⟩
  case round =>
    clear c0 c1 c2 c3 c4 c5 c6 c7
    obtain ⟨j, Qj, rfl, hj, hmj, rfl, hF⟩ := hrel
    have HMJ := Lib.hid hmj
    obtain ⟨Ab, cb, hfb⟩ := hF.begA.ints.form
    rw [ns_len, begL_len] at hfb
    subst hfb
    obtain ⟨c0, c1, c2, c3, c4, c5, c6, c7⟩ := hF.box.cell
    have hg0 : w.heap.size < wr.heap.size := hF.box.lt
    have HF := Lib.hid hF
    clear hmj hF
    by_cases hlt : j < n'
    · have hlt' : j < t.kids.length := by rw [← HN.out]; exact hlt
      obtain ⟨g, B, m1, m2, e1, hg1, htk, hcells⟩ := kid8 HT.out j (List.getElem?_eq_getElem hlt')
      subst e1
      have hokg : ¬ Q g := HOK.out g (tree_okF HT.out)
      have hwk := HFT.out.at j hlt'
      have hks := kid_size t j hlt'
      have hst := plTL_take t.kids j hlt'
      have hsl := plTL_le t.kids (j + 1)
      have hpn := plN_flat hwk
      have hbs := begL_succ t.kids a j
      have hkt := kidsL_take t.kids j hlt' a s
      have hsq := sq_take t.kids j hlt'
      have hsq2 := sq_take_le t.kids (j + 1)
      have hgr := kidsL_gr (t.kids.take j) a s
      generalize t.kids[j] = u at *
      have hpb : a + plTL (t.kids.take j) + plT u ≤ k := by have := HPL.out; omega
      have hpu : plN u = plT u := by omega
      have hl70 : ∀ q, ((kidsL (t.kids.take j) a s).follow.getD q []).length + plT u * plT u ≤ 70000 := fun q => by
        have := HL.out q
        have := hgr q
        have := HSC.out
        omega
      have hforall : ∀ w', Kept Q w w' → w'.cell? ⟨g, j * 8, none⟩ = some (.int .i64 u.op) ∧ w'.cell? ⟨g, j * 8 + 1, none⟩ = some (.int .u64 (word u.set 0)) ∧ w'.cell? ⟨g, j * 8 + 2, none⟩ = some (.int .u64 (word u.set 1)) ∧ w'.cell? ⟨g, j * 8 + 3, none⟩ = some (.int .u64 (word u.set 2)) ∧ w'.cell? ⟨g, j * 8 + 4, none⟩ = some (.int .u64 (word u.set 3)) ∧ w'.cell? ⟨g, j * 8 + 5, none⟩ = some (.int .i64 u.lo) ∧ w'.cell? ⟨g, j * 8 + 6, none⟩ = some (.int .i64 u.hi) ∧ w'.cell? ⟨g, j * 8 + 7, none⟩ = some (.slice B m1 m2) := fun w' hb => by
        have HCk : ∀ q v, (nodeC u (.slice B m1 m2))[q]? = some v → w'.cell? ⟨g, j * 8 + q, none⟩ = some v := fun q v h => by rw [Nat.mul_comm j 8]; exact hb.cell (hcells q v h) hokg
        exact ⟨HCk 0 _ rfl, HCk 1 _ rfl, HCk 2 _ rfl, HCk 3 _ rfl, HCk 4 _ rfl, HCk 5 _ rfl, HCk 6 _ rfl, HCk 7 _ rfl⟩
      have HCA := Lib.hid hforall
      have HTK := Lib.hid htk
      have HWK := Lib.hid hwk
      have HST := Lib.hid hst
      have HBS := Lib.hid hbs
      have HPU := Lib.hid hpu
      have HPB := Lib.hid hpb
      have HKT := Lib.hid hkt
      have HL7 := Lib.hid hl70
      have HKS := Lib.hid hks
      have HKP := Lib.hid (fun (w' : World) (hb : Kept Q w w') => places_ft (w := w') hwk (tree_keptF htk hb HOK.out))
      have hb13 : a + plTL (t.kids.take j) + plT u ≤ k := hpb
      have HK := Lib.hid (fun (w' : World) (beg : Value) (bl : List Nat) (hF' : FolIn w C ga gs gf k vl e Q t (.slice (some ⟨g, 0, none⟩) n' c) beg bl (kidsL (t.kids.take j) a s) Qj w') =>
        IH.out u w' _ (.slice B m1 m2) (a + plTL (t.kids.take j)) C ga gs gf k vl e _ Qj (by have := HSZ.out; omega) hwk (tree_keptF htk hF'.kept HOK.out) (fun b hb q => (hF'.q b q).elim (HOK.out b hb.1) fun q' => by omega) hb13 hk hF'.D (Nat.le_trans HC.out hF'.kept.size) hl70)
      have hpb2 : plTL (t.kids.take j) ≤ 256 := by omega
      clear hforall hcells htk hwk hst hbs hpu hpn hsl hkt hl70 hks hpb hsq hsq2 hgr
      generalize plTL (t.kids.take j) = S at *
      unfold nodeP RetFol at HK
      unfold nodeP RetInt at HKP
      simp only [Int.natCast_add] at HK
      go_wp2_with (first
        | (at_builtin; refine wpList_ints rfl _ _ (by rfl) (by rfl) (by rfl) (HF.out.begA.ints.alloc _) (ints_lit wr ((a + S : Nat) : Int)) (by rw [ns_len, begL_len]; simp; omega) (Nat.zero_le _) ?_; intro v6 w6 i6 g6 o6; have hF6 := HF.out.grow (x := a + S) (by rw [ns_app]; exact i6) g6 o6; have HF6 := Lib.hid hF6; clear i6 g6 o6; obtain ⟨d0, d1, d2, d3, d4, d5, d6, d7⟩ := hF6.box.cell; obtain ⟨k0, k1, k2, k3, k4, k5, k6, k7⟩ := HCA.out w6 hF6.kept; clear hF6)
        | (go_at_call 57; (with_reducible refine (HK.out _ _ _ HF6.out).mono ?_); rintro e7 w7 ⟨rfl, Q7, D7, K7, q7⟩; have hF7 := HF6.out.call D7 K7 q7; have HF7 := Lib.hid hF7; clear D7 K7 q7; obtain ⟨x0, x1, x2, x3, x4, x5, x6, x7⟩ := hF7.box.cell; obtain ⟨y0, y1, y2, y3, y4, y5, y6, y7⟩ := HCA.out w7 hF7.kept; clear hF7)
        | (go_at_call 54; (with_reducible refine (HKP.out _ HF7.out.kept).mono ?_); rintro e8 w8 ⟨rfl, hb8⟩; rw [HPU.out]; have HF8 := Lib.hid (HF7.out.stays hb8); clear hb8)
        | fail)
      go_roundg (n' - (j + 1))
      case measure => have := HMJ.out; omega
      case rel => exact ⟨j + 1, Q7, by go_num, by omega, rfl, by rw [HST.out]; go_num, by rw [HBS.out, HKT.out]; exact HF8.out⟩
    · have hjn : j = n' := by omega
      subst hjn
      have htk : t.kids.take j = t.kids := by rw [HN.out]; exact List.take_length
      rw [htk] at HF
      cases hb2 : (t.op == 2)
      · have hfl : folL t a s = kidsL t.kids a s := by
          have h2 : t.op ≠ 2 := by simpa using hb2
          have h1 := H1.out
          cases t
          simp only [T.op] at h1 h2
          simp [folL, T.kids, h1, h2]
        have HFL := Lib.hid hfl
        have hb2' : (t.op != 2) = true := by simp [bne, hb2]
        have HFF := Lib.hid HF.out
        clear hfl htk hb2
        go_wp2
        refine bodyPost_ret (v := .tuple #[]) (by simp [results, Try.results57]) rfl ⟨rfl, Qj, by rw [HFL.out]; exact HFF.out.D, HFF.out.kept, fun b h => (HFF.out.q b h).imp id fun h => by omega⟩
      · have hfl : folL t a s = ⟨(kidsL t.kids a s).sets, crossF t.kids a (kidsL t.kids a s).follow⟩ := by
          have h2 : t.op = 2 := by simpa using hb2
          cases t
          simp only [T.op] at h2
          subst h2
          simp [folL, T.kids]
        have hb2' : (t.op != 2) = false := by simp [bne, hb2]
        have hgr : ∀ q, (((kidsL t.kids a s).follow).getD q []).length + cr t.kids ≤ 70000 := fun q => by
          have := kidsL_gr t.kids a s q
          have := HL.out q
          have := HSC.out
          omega
        have HGR := Lib.hid hgr
        generalize hTG : crossF t.kids a (kidsL t.kids a s).follow = TG at *
        have HTG := Lib.hid hTG
        generalize kidsL t.kids a s = s1 at *
        have HFL := Lib.hid hfl
        clear hfl htk hb2 hlt hj hgr hTG
        go_wp2
        go_loopg [8] j (fun m i wr => ∃ (q : Nat) (Qi : Nat → Prop) (F : List (List Nat)), i = .int .i64 (q : Int) ∧ q ≤ j ∧ m = j - q ∧ FolIn w C ga gs gf k vl e Q t (.slice A j c) (.slice Ab j cb) (begL t.kids a j) ⟨s1.sets, F⟩ Qi wr ∧
          crossF (t.kids.drop q) (a + plTL (t.kids.take q)) F = TG ∧ ∀ x, (F.getD x []).length + cr (t.kids.drop q) ≤ 70000)
        case atStart => exact ⟨0, Qj, s1.follow, rfl, Nat.zero_le _, rfl, HF.out, by simpa [plTL] using HTG.out, by simpa using HGR.out⟩
        case round =>
          obtain ⟨q, Qi, F, rfl, hq, hmq, hF2, hcr, hbd⟩ := hrel
          have HMQ := Lib.hid hmq
          have HF2 := Lib.hid hF2
          have HCR := Lib.hid hcr
          have HBD := Lib.hid hbd
          obtain ⟨c0, c1, c2, c3, c4, c5, c6, c7⟩ := hF2.box.cell
          have hz0 : w.heap.size < wr.heap.size := hF2.box.lt
          clear hmq hF2 hcr hbd
          by_cases hqj : q < j
          · have hqt : q < t.kids.length := by rw [← HN.out]; exact hqj
            obtain ⟨g, B, m1, m2, e1, hg1, htk, hcells⟩ := kid8 HT.out q (List.getElem?_eq_getElem hqt)
            subst e1
            have hokg : ¬ Q g := HOK.out g (tree_okF HT.out)
            obtain ⟨gb, cb', e2, hgb0, hgb1, hgb2⟩ := HF2.out.begA.ints.at q (by rw [ns_len, begL_len]; exact hqj)
            rw [ns_len, begL_len] at e2
            injection e2 with f1 f2 f3
            subst f1 f3
            clear f2
            have hbv : (ns (begL t.kids a j))[q]'(by rw [ns_len, begL_len]; exact hqj) = ((a + plTL (t.kids.take q) : Nat) : Int) := by simp [ns, begL]
            rw [hbv] at hgb2
            have hwk := HFT.out.at q hqt
            have hst := plTL_take t.kids q hqt
            have hsl := plTL_le t.kids (q + 1)
            have hcd := crossF_drop t.kids q hqt (a + plTL (t.kids.take q)) F
            have hcrd := cr_drop t.kids q hqt
            have hcr := HCR.out
            have hbd := HBD.out
            rw [hcd] at hcr
            simp only [hcrd] at hbd
            generalize t.kids[q] = u at *
            have hpb : a + plTL (t.kids.take q) + plT u ≤ k := by have := HPL.out; omega
            have hforall : ∀ w', Kept Q w w' → w'.cell? ⟨g, q * 8, none⟩ = some (.int .i64 u.op) ∧ w'.cell? ⟨g, q * 8 + 1, none⟩ = some (.int .u64 (word u.set 0)) ∧ w'.cell? ⟨g, q * 8 + 2, none⟩ = some (.int .u64 (word u.set 1)) ∧ w'.cell? ⟨g, q * 8 + 3, none⟩ = some (.int .u64 (word u.set 2)) ∧ w'.cell? ⟨g, q * 8 + 4, none⟩ = some (.int .u64 (word u.set 3)) ∧ w'.cell? ⟨g, q * 8 + 5, none⟩ = some (.int .i64 u.lo) ∧ w'.cell? ⟨g, q * 8 + 6, none⟩ = some (.int .i64 u.hi) ∧ w'.cell? ⟨g, q * 8 + 7, none⟩ = some (.slice B m1 m2) := fun w' hb => by
              have HCk : ∀ p v, (nodeC u (.slice B m1 m2))[p]? = some v → w'.cell? ⟨g, q * 8 + p, none⟩ = some v := fun p v h => by rw [Nat.mul_comm q 8]; exact hb.cell (hcells p v h) hokg
              exact ⟨HCk 0 _ rfl, HCk 1 _ rfl, HCk 2 _ rfl, HCk 3 _ rfl, HCk 4 _ rfl, HCk 5 _ rfl, HCk 6 _ rfl, HCk 7 _ rfl⟩
            obtain ⟨k0, k1, k2, k3, k4, k5, k6, k7⟩ := hforall wr HF2.out.kept
            have HK := Lib.hid (fun (w' : World) (hb : Kept Q w w') => endsF_p (b := true) hwk (tree_keptF htk hb HOK.out) (show a + plTL (t.kids.take q) + plT u ≤ 256 by omega))
            have hll := lst_len u (a + plTL (t.kids.take q))
            have hlin := lst_in u (a + plTL (t.kids.take q))
            unfold nodeP RetEndF lasts at HK
            simp only [Int.natCast_add, if_true] at HK
            have hb3 : a + plTL (t.kids.take (q + 1)) = a + plTL (t.kids.take q) + plT u := by omega
            have hpt : a + plTL (t.kids.take q) ≤ 256 := by omega
            obtain ⟨S, hS⟩ : ∃ S, plTL (t.kids.take q) = S := ⟨_, rfl⟩
            rw [hS] at hpt hb3 hlin hll HK hpb hcr hgb2 hst
            obtain ⟨ps, hps⟩ : ∃ ps, lstT u (a + S) = ps := ⟨_, rfl⟩
            rw [hps] at hlin hll HK hcr
            have HST := Lib.hid hst
            have HB3 := Lib.hid hb3
            have HLL := Lib.hid hll
            have HLIN := Lib.hid hlin
            have HPB := Lib.hid hpb
            have HCR2 := Lib.hid hcr
            have HBD2 := Lib.hid hbd
            clear hforall hcells htk hwk hst hsl hcd hcrd hcr hbd hb3 hll hlin hpb HCR HBD hS hps hbv
            go_upto_region 14 with fail
            go_still_tail 9, (by kernel_rfl)
            change wpList _ _ _ _ _ (World.drew _)
            go_wp2_with (first
              | (go_at_call 59; (refine (HK.out wr.drew HF2.out.kept.drew).mono ?_); rintro e5 w5 ⟨v5, rfl, i5, b5⟩; have hF5 := HF2.out.stays (undrew b5); have HA5 := Lib.hid (Away.ret (Qj := Qi) i5 (Nat.le_refl _) (fun b q => (HF2.out.D.ge b q).2)); have HF5 := Lib.hid hF5; obtain ⟨A5, n5, m5, hf5⟩ := i5.form3; subst hf5; clear hF5 i5 b5)
              | fail)
            focus
              go_loopg [10] (j - (q + 1)) (fun m i wr => ∃ (p : Nat) (Qj : Nat → Prop) (F : List (List Nat)), i = .int .i64 (p : Int) ∧ q + 1 ≤ p ∧ p ≤ j ∧ m = j - p ∧ FolIn w C ga gs gf k vl e Q t (.slice (some ⟨g, 0, none⟩) j c) (.slice (some ⟨gb, 0, none⟩) j cb) (begL t.kids a j) ⟨s1.sets, F⟩ Qj wr ∧ Away wr (.slice A5 n5 m5) ps Qj ∧
                crossF (t.kids.drop (q + 1)) (a + S + plT u) (linkTo (t.kids.drop p) ps (a + plTL (t.kids.take p)) F) = TG ∧ ∀ x, (F.getD x []).length + ps.length * plTL (t.kids.drop p) + cr (t.kids.drop (q + 1)) ≤ 70000)
              case atStart =>
                refine ⟨q + 1, Qi, F, by go_num, Nat.le_refl _, by omega, rfl, HF5.out, HA5.out, by rw [HB3.out]; exact HCR2.out, fun x => ?_⟩
                have h1 := HBD2.out x
                have h2 := Nat.mul_le_mul_right (plTL (t.kids.drop (q + 1))) HLL.out
                omega
              case round =>
                obtain ⟨p, Qj, Fj, rfl, hqp, hp, hmp, hF3, hA3, hcr3, hbd3⟩ := hrel
                have HMP := Lib.hid hmp
                have HF3 := Lib.hid hF3
                have HA3 := Lib.hid hA3
                have HCR3 := Lib.hid hcr3
                have HBD3 := Lib.hid hbd3
                obtain ⟨c0, c1, c2, c3, c4, c5, c6, c7⟩ := hF3.box.cell
                have hz0 : w.heap.size < wr.heap.size := hF3.box.lt
                clear hmp hF3 hA3 hcr3 hbd3
                by_cases hpj : p < j
                · have hpt' : p < t.kids.length := by rw [← HN.out]; exact hpj
                  obtain ⟨g', B', m1', m2', e1, hg1', htk, hcells⟩ := kid8 HT.out p (List.getElem?_eq_getElem hpt')
                  obtain rfl : g = g' := by simpa using e1
                  clear e1
                  obtain ⟨gb', cb'', e2, hgb0, hgb1, hgb2⟩ := HF3.out.begA.ints.at p (by rw [ns_len, begL_len]; exact hpj)
                  obtain rfl : gb = gb' := by simp at e2; exact e2.1
                  clear e2
                  have hbv : (ns (begL t.kids a j))[p]'(by rw [ns_len, begL_len]; exact hpj) = ((a + plTL (t.kids.take p) : Nat) : Int) := by simp [ns, begL]
                  rw [hbv] at hgb2
                  have hwk := HFT.out.at p hpt'
                  have hst := plTL_take t.kids p hpt'
                  have hsl := plTL_le t.kids (p + 1)
                  have hld := linkTo_drop t.kids p hpt' ps (a + plTL (t.kids.take p)) Fj
                  have hpd := plTL_drop t.kids p hpt'
                  have hcr := HCR3.out
                  have hbd := HBD3.out
                  rw [hld] at hcr
                  simp only [hpd] at hbd
                  generalize t.kids[p] = v at *
                  have hpb : a + plTL (t.kids.take p) + plT v ≤ k := by have := HPL.out; omega
                  have hforall : ∀ w', Kept Q w w' → w'.cell? ⟨g, p * 8, none⟩ = some (.int .i64 v.op) ∧ w'.cell? ⟨g, p * 8 + 1, none⟩ = some (.int .u64 (word v.set 0)) ∧ w'.cell? ⟨g, p * 8 + 2, none⟩ = some (.int .u64 (word v.set 1)) ∧ w'.cell? ⟨g, p * 8 + 3, none⟩ = some (.int .u64 (word v.set 2)) ∧ w'.cell? ⟨g, p * 8 + 4, none⟩ = some (.int .u64 (word v.set 3)) ∧ w'.cell? ⟨g, p * 8 + 5, none⟩ = some (.int .i64 v.lo) ∧ w'.cell? ⟨g, p * 8 + 6, none⟩ = some (.int .i64 v.hi) ∧ w'.cell? ⟨g, p * 8 + 7, none⟩ = some (.slice B' m1' m2') := fun w' hb => by
                    have HCk : ∀ x y, (nodeC v (.slice B' m1' m2'))[x]? = some y → w'.cell? ⟨g, p * 8 + x, none⟩ = some y := fun x y h => by rw [Nat.mul_comm p 8]; exact hb.cell (hcells x y h) hokg
                    exact ⟨HCk 0 _ rfl, HCk 1 _ rfl, HCk 2 _ rfl, HCk 3 _ rfl, HCk 4 _ rfl, HCk 5 _ rfl, HCk 6 _ rfl, HCk 7 _ rfl⟩
                  have HCA := Lib.hid hforall
                  obtain ⟨k0, k1, k2, k3, k4, k5, k6, k7⟩ := hforall wr HF3.out.kept
                  have HK2 := Lib.hid (fun (w' : World) (hb : Kept Q w w') => endsF_p (b := false) hwk (tree_keptF htk hb HOK.out) (show a + plTL (t.kids.take p) + plT v ≤ 256 by omega))
                  have HKE := Lib.hid (fun (w' : World) (hb : Kept Q w w') => empty_p (w := w') hwk (tree_keptF htk hb HOK.out))
                  have hfl := fst_len v (a + plTL (t.kids.take p))
                  unfold nodeP RetEndF lasts at HK2
                  unfold nodeP at HKE
                  simp only [Int.natCast_add, Bool.false_eq_true, if_false] at HK2
                  have hb4 : a + plTL (t.kids.take (p + 1)) = a + plTL (t.kids.take p) + plT v := by omega
                  have hpt2 : a + plTL (t.kids.take p) ≤ 256 := by omega
                  obtain ⟨S', hS'⟩ : ∃ S', plTL (t.kids.take p) = S' := ⟨_, rfl⟩
                  rw [hS'] at hpt2 hb4 hfl HK2 hcr hgb2
                  obtain ⟨ys, hys⟩ : ∃ ys, fstT v (a + S') = ys := ⟨_, rfl⟩
                  rw [hys] at hfl HK2 hcr
                  have HB4 := Lib.hid hb4
                  have HFL2 := Lib.hid hfl
                  have HCR4 := Lib.hid hcr
                  have HBD4 := Lib.hid hbd
                  clear hforall hcells htk hwk hst hsl hld hpd hcr hbd hb4 hfl hpb HCR3 HBD3 hS' hys hbv
                  go_upto_region 18 with fail
                  go_still_tail 9, (by kernel_rfl)
                  change wpList _ _ _ _ _ (World.drew _)
                  go_wp2_with (first
                    | (go_at_call 59; (refine (HK2.out wr.drew HF3.out.kept.drew).mono ?_); rintro e6 w6 ⟨v6, rfl, i6, b6⟩; have hF6 := HF3.out.stays (undrew b6); have hA6 := HA3.out.stays (undrew b6); have HY6 := Lib.hid (Away.ret (Qj := Qj) i6 (Nat.le_refl _) (fun b q => (HF3.out.D.ge b q).2)); have HF6 := Lib.hid hF6; have HA6 := Lib.hid hA6; obtain ⟨A6, n6, m6, hf6⟩ := i6.form3; subst hf6; obtain ⟨AL, cL, hAL⟩ := HA6.out.ints.form; rw [ns_len] at hAL; injection hAL with g1 g2 g3; subst g1 g2 g3; clear hF6 i6 b6 hA6)
                    | fail)
                  focus
                    go_loopg [12] ps.length (fun m i wr => ∃ (z : Nat) (Qz : Nat → Prop) (F : List (List Nat)), i = .int .i64 (z : Int) ∧ z ≤ ps.length ∧ m = ps.length - z ∧ FolIn w C ga gs gf k vl e Q t (.slice (some ⟨g, 0, none⟩) j c) (.slice (some ⟨gb, 0, none⟩) j cb) (begL t.kids a j) ⟨s1.sets, F⟩ Qz wr ∧ Away wr (.slice A5 ps.length m5) ps Qz ∧ Away wr (.slice A6 n6 m6) ys Qz ∧
                      linkAll F (ps.drop z) ys = linkAll Fj ps ys ∧ ∀ x, (F.getD x []).length + (ps.length - z) * ys.length + (ps.length * plTL (t.kids.drop (p + 1)) + cr (t.kids.drop (q + 1))) ≤ 70000)
                    case atStart =>
                      refine ⟨0, Qj, Fj, by go_num, Nat.zero_le _, by omega, HF6.out, HA6.out, HY6.out, by simp, fun x => ?_⟩
                      have h1 := HBD4.out x
                      have h2 := Nat.mul_le_mul_left ps.length HFL2.out
                      rw [Nat.mul_add] at h1
                      rw [Nat.sub_zero]
                      omega
                    case round =>
                      obtain ⟨z, Qz, Fz, rfl, hz, hmz, hFz, hAz, hYz, hcz, hbz⟩ := hrel
                      have HMZ := Lib.hid hmz
                      have HFZ := Lib.hid hFz
                      have HAZ := Lib.hid hAz
                      have HYZ := Lib.hid hYz
                      have HCZ := Lib.hid hcz
                      have HBZ := Lib.hid hbz
                      clear hmz hFz hAz hYz hcz hbz
                      by_cases hzL : z < ps.length
                      · obtain ⟨gl, cl', e3, hgl0, hgl1, hgl2⟩ := HAZ.out.ints.at z (by rw [ns_len]; exact hzL)
                        rw [ns_len] at e3
                        injection e3 with f1 f2 f3
                        subst f1 f3
                        clear f2
                        have hxk := (HLIN.out _ (List.getElem_mem hzL)).2
                        have hdz := List.drop_eq_getElem_cons hzL
                        have hce : (ns ps)[z]'(by rw [ns_len]; exact hzL) = ((ps[z]'hzL : Nat) : Int) := by simp [ns]
                        rw [hce] at hgl2
                        have hpb := HPB.out
                        obtain ⟨x, hx⟩ : ∃ x, ps[z]'hzL = x := ⟨_, rfl⟩
                        rw [hx] at hxk hdz hgl2
                        have hxk' : x < k := by omega
                        obtain ⟨vp, cgf, fgf, hlist, hvp, hclose⟩ := HFZ.out.D.open x hxk'
                        have cga := HFZ.out.D.cell.2
                        have hbx := HBZ.out
                        have HZL := Lib.hid hzL
                        have hzb : z < 256 := by have := HLL.out; omega
                        have hLz : ps.length - z = ps.length - (z + 1) + 1 := by omega
                        rw [hLz, Nat.succ_mul] at hbx
                        have hbx2 := hbx x
                        have x0 : (0 : Int) ≤ (x : Int) := by omega
                        have x1 : (x : Int) < (k : Int) := by omega
                        have z0 : (0 : Int) ≤ (z : Int) := by omega
                        obtain ⟨L, hL⟩ : ∃ L, ps.length = L := ⟨_, rfl⟩
                        have z1 : (z : Int) < (ps.length : Int) := by omega
                        have hsum : (ns (Fz.getD x [])).length + (ns ys).length ≤ 100000 := by rw [ns_len, ns_len]; omega
                        have hCw : C ≤ wr.heap.size := Nat.le_trans HC.out HFZ.out.kept.size
                        have HLIST := Lib.hid hlist
                        have HCL := Lib.hid hclose
                        have HVP := Lib.hid hvp
                        have HDZ := Lib.hid hdz
                        have HBX := Lib.hid hbx
                        have hglQ := HAZ.out.out gl rfl
                        have hgal := (HFZ.out.D.ge _ HFZ.out.D.aQ).2
                        have hgfl := (HFZ.out.D.ge _ HFZ.out.D.fQ).2
                        clear hlist hclose hvp hdz hbx hce hxk hx hL
                        obtain ⟨v4, w4, hr, i4, g4, o4⟩ := run_ints (w := wr.drew) (B := C) 59 HLIST.out HYZ.out.ints hsum hCw
                        obtain ⟨A4, n4, c4, hf4⟩ := i4.form3
                        subst hf4
                        obtain ⟨a1, a2, a3⟩ := app_is hr
                        have cga4 : w4.cell? ⟨ga, 3, none⟩ = some (.slice (some ⟨gf, 0, none⟩) k k) := (World.cell?_of_block (g4.block ga hgal (fun e => (HVP.out ga e.symm).2.2.1 rfl))).trans cga
                        have cgf4 : w4.cell? ⟨gf, x, none⟩ = some vp := (World.cell?_of_block (g4.block gf hgfl (fun e => (HVP.out gf e.symm).2.1 rfl))).trans cgf
                        have fgf4 : w4.frozen? ⟨gf, x, none⟩ = false := (World.frozen?_of_block (g4.block gf hgfl (fun e => (HVP.out gf e.symm).2.1 rfl))).trans fgf
                        have cl4 : w4.cell? ⟨gl, z, none⟩ = some (.int .i64 (x : Int)) := (World.cell?_of_block (g4.block gl hgl1 (fun e => hglQ (HVP.out gl e.symm).1))).trans hgl2
                        have I4 := Lib.hid i4
                        have G4 := Lib.hid g4
                        have O4 := Lib.hid o4
                        clear hr i4 g4 o4
                        go_upto_region 22 with fail
                        go_region
                        all_goals
                          go_wp2
                          go_roundg (ps.length - (z + 1))
                          case measure => have := HMZ.out; omega
                          case rel =>
                            have hg : wr.grownBy w4 vp.ownBlock := ⟨G4.out.os, G4.out.tape, G4.out.output, G4.out.size, G4.out.block⟩
                            have hnew := HCL.out ys w4 _ (by rw [ns_app]; exact I4.out) hg O4.out
                            have hk4 := ((Kept.refl Qz wr).grown hg fun b e => .inl (HVP.out b e).1).setCell (a := ⟨gf, x, none⟩) (.inl HFZ.out.D.fQ) (.slice A4 n4 c4)
                            have hq4 : ∀ b, Qz b ∨ (Value.slice A4 n4 c4).ownBlock = some b → Qz b ∨ wr.heap.size ≤ b := by
                              rintro b (e | e)
                              · exact .inl e
                              · rcases O4.out with e2 | e2
                                · exact .inl (HVP.out b (e2.symm.trans e)).1
                                · rw [e] at e2
                                  injection e2 with e2
                                  exact .inr (Nat.le_of_eq e2.symm)
                            have hgr4 := linkAt_gr Fz x ys
                            refine ⟨z + 1, _, linkAt Fz x ys, by go_num, HZL.out, rfl, HFZ.out.call hnew hk4 hq4, HAZ.out.off hk4 hq4, HYZ.out.off hk4 hq4, ?_, fun y => ?_⟩
                            · have h := HCZ.out
                              rw [HDZ.out, linkAll] at h
                              exact h
                            · have h1 := hgr4 y
                              have h2 := HBX.out y
                              omega
                      · have hzz : z = ps.length := by omega
                        subst hzz
                        have hFz : Fz = linkAll Fj ps ys := by have h := HCZ.out; rwa [List.drop_length, linkAll] at h
                        have hbz : ∀ x, (Fz.getD x []).length + (ps.length * plTL (t.kids.drop (p + 1)) + cr (t.kids.drop (q + 1))) ≤ 70000 := fun x => by
                          have := HBZ.out x
                          omega
                        have HFE := Lib.hid hFz
                        have HBE := Lib.hid hbz
                        obtain ⟨c0, c1, c2, c3, c4, c5, c6, c7⟩ := HFZ.out.box.cell
                        have hz0 : w.heap.size < wr.heap.size := HFZ.out.box.lt
                        obtain ⟨k0, k1, k2, k3, k4, k5, k6, k7⟩ := HCA.out wr HFZ.out.kept
                        obtain ⟨ev, hev⟩ : ∃ ev, emptyT v = ev := ⟨_, rfl⟩
                        rw [hev] at HKE HCR4
                        clear hFz hbz hev HCZ HBZ
                        cases ev
                        all_goals
                          go_wp2_with (first
                            | (go_at_call 56; (with_reducible refine (HKE.out _ HFZ.out.kept).mono ?_); rintro e8 w8 ⟨rfl, b8⟩; have HF8 := Lib.hid (HFZ.out.stays b8); have HA8 := Lib.hid (HAZ.out.stays b8); clear b8)
                            | fail)
                        · go_roundg (j - (q + 1))
                          case measure => have := HMQ.out; omega
                          case rel =>
                            refine ⟨q + 1, Qz, Fz, by go_num, by omega, rfl, HF8.out, ?_, fun x => by have := HBE.out x; omega⟩
                            have h := HCR4.out
                            simp only [Bool.false_eq_true, if_false] at h
                            rw [← HFE.out] at h
                            rw [HB3.out]
                            exact h
                        · go_roundg (j - (p + 1))
                          case measure => have := HMP.out; omega
                          case rel =>
                            refine ⟨p + 1, Qz, Fz, by go_num, by omega, by omega, rfl, HF8.out, HA8.out, ?_, fun x => by have := HBE.out x; omega⟩
                            have h := HCR4.out
                            simp only [if_true] at h
                            rw [← HFE.out] at h
                            rw [HB4.out]
                            exact h
                · have hpj' : p = j := by omega
                  subst hpj'
                  have hdn : t.kids.drop p = [] := by rw [HN.out]; exact List.drop_length
                  have hcr := HCR3.out
                  have hbd := HBD3.out
                  rw [hdn] at hcr
                  simp only [linkTo] at hcr
                  have HCR5 := Lib.hid hcr
                  have HBD5 := Lib.hid hbd
                  clear hcr hbd hdn
                  go_wp2
                  go_roundg (p - (q + 1))
                  case measure => have := HMQ.out; omega
                  case rel => exact ⟨q + 1, Qj, Fj, by go_num, by omega, rfl, HF3.out, by rw [HB3.out]; exact HCR5.out, fun x => by have := HBD5.out x; omega⟩
          · have hqj' : q = j := by omega
            subst hqj'
            have hdn : t.kids.drop q = [] := by rw [HN.out]; exact List.drop_length
            have hcr := HCR.out
            rw [hdn] at hcr
            simp only [crossF] at hcr
            have HCR5 := Lib.hid hcr
            clear hcr hdn
            go_wp2
            refine ⟨rfl, .tuple #[], by simp [results, Try.results57], rfl, Qi, ?_, HF2.out.kept, fun b h => (HF2.out.q b h).imp id fun h => by omega⟩
            rw [HFL.out, ← HCR5.out]
            exact HF2.out.D
theorem follow_all : ∀ N, FollowF N := by
  intro N
  induction N with
  | zero => intro t w ok kv a C ga gs gf k vl e s Q h; obtain ⟨op, p, lo, hi, l⟩ := t; simp at h
  | succ N ih =>
    intro t w ok kv a C ga gs gf k vl e s Q hN hft ht hok ha hk hD hC hl
    by_cases h1 : t.op = 1
    · exact follow_one ha hk hD hC h1
    · exact follow_n ih hN hft ht hok ha hk hD hC hl h1
theorem follow_p {t : T} {w : World} {ok : Nat → Prop} {kv : Value} {a C ga gs gf k : Nat} {vl : Value} {e : Bool} {s : Lay} {Q : Nat → Prop} (hft : FT t) (ht : Tree w ok t kv) (hok : ∀ b, ok b → ¬ Q b) (ha : a + plT t ≤ k) (hk : k ≤ 256)
    (hD : NfaD w C ga gs gf k vl e s Q) (hC : C ≤ w.heap.size) (hl : ∀ q, (s.follow.getD q []).length + plT t * plT t ≤ 70000) :
    Calls Try.prog 57 #[.pointer (some ⟨ga, 0, none⟩), nodeP t kv, .int .i64 (a : Int)] w (RetFol w C ga gs gf k vl e (folL t a s) Q) :=
  follow_all _ t w ok kv a C ga gs gf k vl e s Q (Nat.le_refl _) hft ht hok ha hk hD hC hl
end Go.Proofs.Ytnkopcmkanibhaa

/-
  The document's own places in memory: one place's list stored anew. Laws for other texts; no statement of its own.
-/
namespace Go.Proofs.Ytnkopcmkanibhaa
open Go Go.RowKit

section
variable {w : World} {B C ga gs gf k : Nat} {vl v' : Value} {e : Bool} {s : Lay} {Q : Nat → Prop} {fs : List Value} {ls : List (List Nat)} {l' : List Nat}
theorem FolAt.set (h : FolAt w B fs ls Q) (p : Nat) (hp : p < ls.length) (hv : Ints w B v' (ns l')) (hn : ∀ b, v'.ownBlock = some b → ¬ Q b) : FolAt w B (fs.set p v') (ls.set p l') (fun b => Q b ∨ v'.ownBlock = some b) := by
  have hpf : p < fs.length := by rw [h.len]; exact hp
  have hset : ∀ i, (fs.set p v')[i]? = if i = p then some v' else fs[i]? := fun i => by
    rw [List.getElem?_set]
    by_cases e : p = i
    · subst e; simp [hpf]
    · have e' : ¬ i = p := fun x => e x.symm
      simp [e, e']
  have hls : ∀ i, (ls.set p l')[i]? = if i = p then some l' else ls[i]? := fun i => by
    rw [List.getElem?_set]
    by_cases e : p = i
    · subst e; simp [hp]
    · have e' : ¬ i = p := fun x => e x.symm
      simp [e, e']
  refine ⟨by simp [h.len], fun i v l h1 h2 => ?_, fun i v b h1 h2 => ?_, fun i j v v'' b h1 h2 h3 h4 => ?_⟩
  · rw [hset] at h1
    rw [hls] at h2
    by_cases e : i = p
    · rw [if_pos e] at h1 h2
      injection h1 with h1
      injection h2 with h2
      subst h1 h2
      exact hv
    · rw [if_neg e] at h1 h2
      exact h.get i v l h1 h2
  · rw [hset] at h1
    by_cases e : i = p
    · rw [if_pos e] at h1
      injection h1 with h1
      subst h1
      exact .inr h2
    · rw [if_neg e] at h1
      exact .inl (h.inQ i v b h1 h2)
  · rw [hset] at h1 h2
    by_cases e : i = p
    · by_cases e2 : j = p
      · rw [e, e2]
      · rw [if_pos e] at h1
        rw [if_neg e2] at h2
        injection h1 with h1
        subst h1
        exact absurd (h.inQ j v'' b h2 h4) (hn b h3)
    · rw [if_neg e] at h1
      by_cases e2 : j = p
      · rw [if_pos e2] at h2
        injection h2 with h2
        subst h2
        exact absurd (h.inQ i v b h1 h3) (hn b h4)
      · rw [if_neg e2] at h2
        exact h.apart i j v v'' b h1 h2 h3 h4
theorem NfaD.setF (h : NfaD w C ga gs gf k vl e s Q) (p : Nat) (hp : p < k) (hv : Ints w C v' (Go.Proofs.Ytnkopcmkanibhaa.ns l')) (hn : ∀ b, v'.ownBlock = some b → ¬ Q b) :
    NfaD (w.setCell ⟨gf, p, none⟩ v') C ga gs gf k vl e ⟨s.sets, s.follow.set p l'⟩ (fun b => Q b ∨ v'.ownBlock = some b) := by
  obtain ⟨⟨c1, k1⟩, ⟨c2, k2⟩⟩ := h.kinds
  have n1 : ga ≠ gf := kind_apart h.box k2 (by decide)
  have n2 : gs ≠ gf := kind_apart k1 k2 (by decide)
  obtain ⟨fs, h3, h4⟩ := h.rows.fols
  have hput := h4.set p (by rw [h.nf]; exact hp) hv hn
  have hset : ∀ b, b ≠ gf → (w.setCell ⟨gf, p, none⟩ v').heap[b]? = w.heap[b]? := fun b hb => Below.heap_setCell _ _ _ _ hb
  rw [h.nf] at h3
  refine ⟨fun b e => ?_, .inl h.aQ, (hset ga n1).trans h.box, ⟨own_block h.rows.sets fun b e hb => ?_, fun b e => .inl (h.rows.setsQ b e), ⟨fs.set p v', ?_, ?_⟩, fun b e => .inl (h.rows.folsQ b e)⟩, h.ns, by simpa using h.nf⟩
  · rcases e with e | e
    · have := h.ge b e
      exact ⟨this.1, by simp only [World.setCell, Array.size_modify]; omega⟩
    · have := hv.in e
      exact ⟨this.1, by simp only [World.setCell, Array.size_modify]; exact this.2⟩
  · have e3 : gs = b := by simpa [Value.ownBlock] using e
    rw [← e3]
    exact hset _ n2
  · have := (World.ownsRow.stored h3 p v').1
    rw [show (⟨s.sets, s.follow.set p l'⟩ : Lay).follow.length = k from (List.length_set ..).trans h.nf]
    exact this
  · refine ⟨hput.len, fun i v l e1 e2 => (hput.get i v l e1 e2).block fun b e hb => hset b ?_, hput.inQ, hput.apart⟩
    obtain ⟨cur', hc⟩ := (hput.get i v l e1 e2).kind e
    exact kind_apart hc k2 (by decide)
end
end Go.Proofs.Ytnkopcmkanibhaa

/-
  The document's own Flat: of what is no repetition. Contracts for other texts; no statement of its own.
-/
namespace Go.Proofs.Ytnkopcmkanibhaa
open Go Go.RowKit
attribute [local go_sem ↓] Go.wp_at_zero Go.wp_at_succ

theorem rowF_lt {w : World} {B : Nat} {v : Value} {l : List T} (h : Row w B v l) : ∀ b, v.ownBlock = some b → B ≤ b ∧ b < w.heap.size := by
  obtain ⟨ks, h1, h2, h3⟩ := h
  exact h2.lt
theorem rowF_form {w : World} {B : Nat} {v : Value} {l : List T} (h : Row w B v l) : ∃ A n c, v = .slice A n c := by
  obtain ⟨ks, h1, h2, h3⟩ := h
  rcases h2.2 with ⟨rfl, _⟩ | ⟨g, cap, cur, rfl, _⟩ <;> exact ⟨_, _, _, rfl⟩
theorem rowF_nil (w : World) (B : Nat) : Row w B (.slice none 0 0) [] := ⟨[], rfl, World.ownsRow_nil w B _ 8, fun i t' k' e _ => by simp at e⟩
theorem kidF_cells (w : World) (t : T) (k : Value) : ∀ (j : Nat) u, (nodeC t k)[j]? = some u → (w.alloc (.cells #[.int .i64 t.op, .int .u64 (word t.set 0), .int .u64 (word t.set 1), .int .u64 (word t.set 2), .int .u64 (word t.set 3), .int .i64 t.lo, .int .i64 t.hi, k] 75)).cell? ((⟨w.heap.size, 0, none⟩ : Addr).add j) = some u := by
  intro j u hu
  have hj : j < 8 := by
    have := List.getElem?_eq_some_iff.1 hu
    simpa [nodeC] using this.1
  have hadd : (⟨w.heap.size, 0, none⟩ : Addr).add j = ⟨w.heap.size, j, none⟩ := by unfold Addr.add; split <;> simp_all
  rw [hadd, cell_of_row _ _ j _ 75 (0, 0) (heap_alloc_new w _), ← hu]
  simp [nodeC]
theorem kidF_tree {w wx : World} {B : Nat} {v : Value} {l : List T} {t : T} {k : Value} (hrow : Row wx B v l) (hB : B ≤ wx.heap.size) (ht : Tree w (fun b => wx.heap.size ≤ b) t k) : Tree w (fun b => B ≤ b ∧ some b ≠ v.ownBlock) t k :=
  ht.weak fun b hb _ => ⟨by omega, fun e => by have := rowF_lt hrow b e.symm; omega⟩
/-- What Flat tells. -/
def RetFlat (w : World) (u : T) (e : Ending) (w' : World) : Prop := ∃ k', e = .returned (nodeP u k') ∧ Tree w' (fun b => w.heap.size ≤ b) u k' ∧ Below w.heap.size w w'
def FlatF (N : Nat) : Prop := ∀ (t : T) (w : World) (ok : Nat → Prop) (k : Value), SizeOf.sizeOf t ≤ N → WF t → Tree w ok t k → Calls Try.prog 55 #[nodeP t k] w (RetFlat w (flatT t))

set_option maxRecDepth 20000 in
set_option maxHeartbeats 4000000 in
theorem flat_row {N : Nat} (ih : FlatF N) {t : T} {w : World} {ok : Nat → Prop} {k : Value} (hN : SizeOf.sizeOf t ≤ N + 1) (hwf : WF t) (ht : Tree w ok t k) (h4 : t.op ≠ 4) :
    Calls Try.prog 55 #[nodeP t k] w (RetFlat w (flatT t)) := by
  have hflat : flatT t = .mk t.op t.set 0 0 (t.kids.map flatT) := by
    cases t with
    | mk op p lo hi l =>
      have e : op ≠ 4 := h4
      rw [flatT, if_neg e, flatL_map]
      rfl
  rw [hflat]
  obtain ⟨A, n', c, rfl⟩ := ht.form
  obtain ⟨hn, hm⟩ := ht.bound
  have hlen := hwf.len
  rw [← hn] at hlen
  unfold maxLen at hm
  have b1 := Box8.new w t (.slice A n' c)
  have hB : Below w.heap.size w (w.alloc (.cells #[.int .i64 t.op, .int .u64 (word t.set 0), .int .u64 (word t.set 1), .int .u64 (word t.set 2), .int .u64 (word t.set 3), .int .i64 t.lo, .int .i64 t.hi, .slice A n' c] 75)) := (Below.refl _ _).alloc (Nat.le_refl _) _
  obtain ⟨c0, c1, c2, c3, c4, c5, c6, c7⟩ := b1.cell
  have hb4 : (t.op == 4) = false := by simp [h4]
  unfold nodeP
  have HN := Lib.hid hn
  have HT := Lib.hid ht
  have HWF := Lib.hid hwf
  have IH := Lib.hid ih
  have HB1 := Lib.hid b1
  have HHB := Lib.hid hB
  have HSZ := Lib.hid hN
  have HM := Lib.hid hm
  clear hn ih hwf b1 hB ht hN hm h4 hflat
  go_enter Try.func55, Try.ntmps55
  go_wp2
  have hd : (t.op != 4) = true := by simp [bne, hb4]
  rw [hd]
  clear hd
  go_loopg [3, 4] n' (fun m v i wr => ∃ j : Nat, i = .int .i64 (j : Int) ∧ j ≤ n' ∧ m = n' - j ∧ Row wr (w.heap.size + 2) v ((t.kids.take j).map flatT) ∧ (j = 0 → v = .slice none 0 0) ∧ Box8 wr w.heap.size t (.slice A n' c) ∧ Box8 wr (w.heap.size + 1) T.zero (.slice none 0 0) ∧ Below w.heap.size w wr)
  case atStart => exact ⟨0, rfl, Nat.zero_le _, rfl, rowF_nil _ _, fun _ => rfl, HB1.out.alloc _, by have h := Box8.new0 (w.alloc (.cells #[.int .i64 t.op, .int .u64 (word t.set 0), .int .u64 (word t.set 1), .int .u64 (word t.set 2), .int .u64 (word t.set 3), .int .i64 t.lo, .int .i64 t.hi, .slice A n' c] 75)); rw [World.size_alloc] at h; exact h, HHB.out.alloc HHB.out.size _⟩
  case round =>
    clear c0 c1 c2 c3 c4 c5 c6 c7
    obtain ⟨j, rfl, hj, hmj, hrow, h0, x1, z1, hW⟩ := hrel
    have HMJ := Lib.hid hmj
    obtain ⟨c0, c1, c2, c3, c4, c5, c6, c7⟩ := x1.cell
    clear hmj
    have hg0 : w.heap.size + 1 < wr.heap.size := z1.lt
    have HZ := Lib.hid z1
    clear z1
    have HX := Lib.hid x1
    have HROW := Lib.hid hrow
    have HW := Lib.hid hW
    have H0 := Lib.hid h0
    clear hrow x1 hW h0
    by_cases hlt : j < n'
    · have hlt' : j < t.kids.length := by rw [← HN.out]; exact hlt
      obtain ⟨g, B, m1, m2, e1, hg1, htk, hcells⟩ := kid8 HT.out j (List.getElem?_eq_getElem hlt')
      subst e1
      have hwk := HWF.out.kid (List.getElem_mem hlt')
      have hks := kid_size t j hlt'
      have htake : (t.kids.take (j + 1)).map flatT = (t.kids.take j).map flatT ++ [flatT (t.kids[j]'hlt')] := by
        rw [List.take_succ_eq_append_getElem hlt', List.map_append]
        rfl
      generalize t.kids[j] = u at *
      have HC : ∀ q v, (nodeC u (.slice B m1 m2))[q]? = some v → wr.cell? ⟨g, j * 8 + q, none⟩ = some v := fun q v h => by rw [Nat.mul_comm j 8]; exact (HW.out.cell (p := ⟨g, 8 * j + q, none⟩) hg1).trans (hcells q v h)
      have k0 : wr.cell? ⟨g, j * 8, none⟩ = _ := HC 0 _ rfl
      have k1 := HC 1 _ rfl
      have k2 := HC 2 _ rfl
      have k3 := HC 3 _ rfl
      have k4 := HC 4 _ rfl
      have k5 := HC 5 _ rfl
      have k6 := HC 6 _ rfl
      have k7 := HC 7 _ rfl
      have hk0 := (fun w' (hb : Below wr.heap.size wr w') => IH.out u w' ok (.slice B m1 m2) (by have := HSZ.out; omega) hwk ((htk.stays HW.out).stays hb))
      have hll : ((t.kids.take j).map flatT).length ≤ 100000 := by simp; omega
      generalize flatT u = fu at *
      generalize (t.kids.take j).map flatT = ll at *
      have HK := Lib.hid hk0
      have HTAKE := Lib.hid htake
      clear HC hcells htk hks hwk hk0 htake
      unfold RetFlat nodeP at HK
      go_wp2_with (first
        | (go_at_call 55; (with_reducible refine (HK.out _ (Below.refl _ _)).mono ?_); rintro e w4 ⟨k4, rfl, ht4, hb4⟩; obtain ⟨A4, n4, c4', rfl⟩ := ht4.form; have row4 := HROW.out.stays hb4; have ht5 := kidF_tree (B := w.heap.size + 2) HROW.out (by omega) ht4; have hs4 := hb4.size)
        | (at_builtin; refine wpList_push (by rfl) _ _ (by rfl) (by rfl) (row4.alloc _) (by simp; omega) hll fu (.slice A4 n4 c4') (ht5.alloc _) ⟨w4.heap.size, 0, none⟩ 1 (by rfl) (kidF_cells w4 fu (.slice A4 n4 c4')) ?_; intro v6 w6 row6 o6 hB6)
        | fail)
      have hrow4 := rowF_lt row4
      have hg6 : w4.grownBy w6 _ := (World.grownBy_alloc w4 _ _).trans o6
      have hW6 := (gro HW.out hb4).grown hg6 (Nat.le_trans HW.out.size hs4) (fun q e => by have := (hrow4 q e).1; omega)
      have hx6 := (HX.out.stays hb4).grown hg6 (fun e => by have := (hrow4 _ e.symm).1; omega)
      have hz6 := (HZ.out.stays hb4).grown hg6 (fun e => by have := (hrow4 _ e.symm).1; omega)
      go_roundg (n' - (j + 1))
      case measure => have := HMJ.out; omega
      case rel => exact ⟨j + 1, by go_num, by omega, rfl, by rw [HTAKE.out]; exact row6, fun h => by omega, hx6, hz6, hW6⟩
    · have hjn : j = t.kids.length := by rw [← HN.out]; omega
      have hr := HROW.out
      rw [hjn, List.take_length] at hr
      have HR := Lib.hid hr
      obtain ⟨z0, z1, z2, z3, z4, z5, z6, z7⟩ := HZ.out.cell
      obtain ⟨f0, f1, f2, f3, f4, f5, f6, f7⟩ := HZ.out.frozen
      have HKN := Lib.hid hjn
      obtain ⟨Ar, nr, cr, hf⟩ := rowF_form HROW.out
      subst hf
      clear hr hjn
      go_wp2
      have hz8 := HZ.out.put (t' := T.zero) (k' := .slice none 0 0) (.mk t.op t.set 0 0 (t.kids.map flatT)) (.slice Ar nr cr)
      have htree : Tree (put8 wr (w.heap.size + 1) (.mk t.op t.set 0 0 (t.kids.map flatT)) (.slice Ar nr cr)) (fun b => w.heap.size ≤ b) (.mk t.op t.set 0 0 (t.kids.map flatT)) (.slice Ar nr cr) := by
        by_cases h0 : t.kids.length = 0
        · rw [H0.out (by rw [HKN.out]; exact h0)]
          exact .nil _ (by rw [List.eq_nil_of_length_eq_zero h0]; rfl)
        · have htr := HR.out.tree (by simpa using Nat.pos_of_ne_zero h0) t.op t.set 0 0
          exact (htr.put8 (fun b hb => by omega)).weak fun b hb _ => by omega
      have hbel := below_put8 HW.out (g := w.heap.size + 1) (by omega) (.mk t.op t.set 0 0 (t.kids.map flatT)) (.slice Ar nr cr)
      obtain ⟨y0, y1, y2, y3, y4, y5, y6, y7⟩ := hz8.cell
      refine bodyPost_ret (v := nodeP (T.mk t.op t.set 0 0 (t.kids.map flatT)) (.slice Ar nr cr)) ?_ rfl ⟨_, rfl, htree, hbel⟩
      unfold put8 at y0 y1 y2 y3 y4 y5 y6 y7
      simp only [T.op, T.set, T.lo, T.hi] at y0 y1 y2 y3 y4 y5 y6 y7
      simp [nodeP, T.op, T.set, T.lo, T.hi, results, Try.results55, go_sem, y0, y1, y2, y3, y4, y5, y6, y7]
/-- A row of two, laid at once, is a node's kids. -/
theorem pairF (w : World) (B : Nat) (t u : T) (k k' : Value) (hB : B ≤ w.heap.size) (ht : Tree w (fun b => B ≤ b) t k) (hu : Tree w (fun b => B ≤ b) u k') (op : Int) (p : Nat → Bool) (lo hi : Int) :
    Tree (w.alloc (.cells (nodeC t k ++ nodeC u k').toArray 75)) (fun b => B ≤ b) (.mk op p lo hi [t, u]) (.slice (some ⟨w.heap.size, 0, none⟩) 2 2) := by
  refine .row (.mk op p lo hi [t, u]) w.heap.size 2 (nodeC t k ++ nodeC u k').toArray [k, k'] (heap_alloc_new w _) hB rfl (by simp) (Nat.le_refl _) (by decide) rfl ?_ fun i t' k'' e1 e2 => ?_
  · simp [T.kids, cellsOf, nodeC]
  · match i, e1, e2 with
    | 0, e1, e2 =>
      simp [T.kids] at e1 e2
      subst e1 e2
      exact ht.alloc _
    | 1, e1, e2 =>
      simp [T.kids] at e1 e2
      subst e1 e2
      exact hu.alloc _
theorem oneF (w : World) (B : Nat) (t : T) (k : Value) (hB : B ≤ w.heap.size) (ht : Tree w (fun b => B ≤ b) t k) (op : Int) (p : Nat → Bool) (lo hi : Int) :
    Tree (w.alloc (.cells (nodeC t k).toArray 75)) (fun b => B ≤ b) (.mk op p lo hi [t]) (.slice (some ⟨w.heap.size, 0, none⟩) 1 1) := by
  refine .row (.mk op p lo hi [t]) w.heap.size 1 (nodeC t k).toArray [k] (heap_alloc_new w _) hB rfl (by simp) (Nat.le_refl _) (by decide) rfl ?_ fun i t' k'' e1 e2 => ?_
  · simp [T.kids, cellsOf, nodeC]
  · match i, e1, e2 with
    | 0, e1, e2 =>
      simp [T.kids] at e1 e2
      subst e1 e2
      exact ht.alloc _
end Go.Proofs.Ytnkopcmkanibhaa
