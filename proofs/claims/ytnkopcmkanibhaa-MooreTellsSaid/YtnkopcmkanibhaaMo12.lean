/-
  Several texts of this proof in one file: MooCan3, MooCan4, MooSt, MooCls, MooDocS, MooMach. No statement of its own.
-/
import Derived.Test.YtnkopcmkanibhaaMo11
import Derived.Test.YtnkopcmkanibhaaMo5
import Derived.Test.YtnkopcmkanibhaaMo6
import Derived.Test.YtnkopcmkanibhaaMo4
import Derived.Test.YtnkopcmkanibhaaMo2
set_option linter.unusedVariables false
set_option linter.unusedSimpArgs false

/-
  One canon of both kinds of states: a step, what is told, when two are the same. Mathematics for other texts; no statement of its own.
-/
namespace Go.Proofs.Ytnkopcmkanibhaa
open Go

def canon (L : List (Lay × Str)) (bs : List Bool) (s : List Wd) : List (Nat × Nat) := picked ((List.range (baseOf L bs L.length)).map (bitsOf L bs s)) (baseOf L bs L.length)
/-- Words whose rule and place are there. -/
def OkD (L : List (Lay × Str)) (s : List Wd) : Prop := ∀ x ∈ s, x.rule < L.length ∧ x.place < szOf L x.rule
theorem getD_mapR (f : Nat → Nat) (n p : Nat) (h : p < n) : ((List.range n).map f).getD p 0 = f p := by
  rw [List.getD_eq_getElem?_getD, List.getElem?_map, List.getElem?_range h]
  rfl
theorem canon_iff (L : List (Lay × Str)) (bs : List Bool) (s : List Wd) (p n : Nat) : (p, n) ∈ canon L bs s ↔ p < baseOf L bs L.length ∧ n = bitsOf L bs s p ∧ n ≠ 0 := by
  unfold canon
  rw [picked_iff]
  constructor
  · rintro ⟨h1, h2, h3⟩
    simp only at h1 h2 h3
    rw [getD_mapR _ _ _ h1] at h2
    exact ⟨h1, h2, h3⟩
  · rintro ⟨h1, h2, h3⟩
    exact ⟨h1, by rw [getD_mapR _ _ _ h1]; exact h2, h3⟩
theorem ok_get {L : List (Lay × Str)} (hL : ∀ s x, (s, x) ∈ L → OkLay s x) {r : Nat} (h : r < L.length) : OkLay (L.getD r lx0).1 (L.getD r lx0).2 := getD_ok hL h
theorem stepD_ok {L : List (Lay × Str)} (hL : ∀ s x, (s, x) ∈ L → OkLay s x) (lam b : Nat) (s : List Wd) : OkD L (stepD L lam b s) := fun y hy => by
  obtain ⟨h1, h2, h3⟩ := (stepD_iff L lam b s y).1 hy
  have ho := ok_get hL h1
  refine ⟨h1, ?_⟩
  rcases h3 with ⟨_, h3⟩ | ⟨x, _, _, _, _, h3⟩
  · exact ho.first _ h3
  · exact ho.fol _ _ h3
theorem stepD_age {L : List (Lay × Str)} {lam : Nat} (hlam : 1 ≤ lam) (b : Nat) (s : List Wd) : ∀ y ∈ stepD L lam b s, 1 ≤ y.age ∧ y.age ≤ lam := fun y hy => by
  obtain ⟨h1, h2, h3⟩ := (stepD_iff L lam b s y).1 hy
  rcases h3 with ⟨h3, _⟩ | ⟨x, _, _, h4, h5, _⟩ <;> omega
/-- The step. -/
theorem canon_step {L : List (Lay × Str)} {bs : List Bool} {lam : Nat} (hL : ∀ s x, (s, x) ∈ L → OkLay s x) (b : Nat) {s : List Wd} (hs : OkD L s) :
    (aheadL (RR L bs lam) (canon L bs s)).filter (hasAt (RR L bs lam) b) = canon L bs (stepD L lam b s) := by
  have hP : (RR L bs lam).places.length = baseOf L bs L.length := rfl
  unfold aheadL
  rw [picked_filter _ _ (fun p => match (RR L bs lam).places[p]? with | some pl => pl.set b | none => false) fun p n => rfl, hP]
  show _ = picked _ _
  refine picked_eq fun p hp => ?_
  rw [getD_mapR _ _ _ hp, getD_mapR _ _ _ hp]
  obtain ⟨r, q, hr, hq, rfl⟩ := gpl_sur L bs _ p hp
  have hpl : (RR L bs lam).places[gpl L bs r q]? = some (plcOf (L.getD r lx0).1 (L.getD r lx0).2 (baseOf L bs r) (bs.getD r false) q) := togP_get _ r q hr hq
  rw [hpl]
  show (if (L.getD r lx0).1.sets.getD q noneP b = true then _ else 0) = _
  have hy : ∀ y, y ∈ stepD L lam b s → gpl L bs y.rule y.place = gpl L bs r q → y.rule = r ∧ y.place = q := fun y hy e => gpl_inj (stepD_ok hL lam b s y hy).2 hq e
  apply eq_of_bits
  intro a
  rw [bits_iff]
  by_cases hb : (L.getD r lx0).1.sets.getD q noneP b = true
  · rw [if_pos hb, ahead_bit _ _ (togF_mem hL _ (Nat.le_refl _)) _ _ hp]
    have hfst : gpl L bs r q ∈ (RR L bs lam).first ↔ q ∈ (L.getD r lx0).2.first := by
      show gpl L bs r q ∈ togF L bs L.length ↔ _
      rw [togF_iff]
      constructor
      · rintro ⟨r', p', h1, h2, h3⟩
        obtain ⟨rfl, rfl⟩ := gpl_inj hq ((ok_get hL h1).first _ h2) h3
        exact h2
      · intro h
        exact ⟨r, q, hr, h, rfl⟩
    rw [hfst]
    constructor
    · rintro (⟨h1, h2⟩ | ⟨⟨p', n⟩, hx, pl, h2, ⟨f, h3, h4⟩, h5, h6, h7⟩)
      · exact ⟨⟨r, q, 1⟩, (stepD_iff _ _ _ _ _).2 ⟨hr, hb, .inl ⟨rfl, h1⟩⟩, rfl, h2.symm⟩
      · obtain ⟨h8, rfl, _⟩ := (canon_iff L bs s p' n).1 hx
        obtain ⟨x, hxs, rfl, h10⟩ := (bits_iff L bs _ _ _).1 h7
        obtain ⟨h11, h12⟩ := hs x hxs
        have hpx : (RR L bs lam).places[gpl L bs x.rule x.place]? = some (plcOf (L.getD x.rule lx0).1 (L.getD x.rule lx0).2 (baseOf L bs x.rule) (bs.getD x.rule false) x.place) := togP_get _ _ _ h11 h12
        rw [hpx] at h2
        injection h2 with h2
        subst h2
        have h3' : f ∈ (L.getD x.rule lx0).1.follow.getD x.place [] := h3
        have h4' : gpl L bs x.rule f = gpl L bs r q := h4
        obtain ⟨e1, e2⟩ := gpl_inj ((ok_get hL h11).fol _ _ h3') hq h4'
        subst e1 e2
        have h6' : a - 1 < lam := h6
        exact ⟨⟨x.rule, f, a⟩, (stepD_iff _ _ _ _ _).2 ⟨hr, hb, .inr ⟨x, hxs, rfl, by omega, by simp only; omega, h3'⟩⟩, rfl, rfl⟩
    · rintro ⟨y, hys, he, rfl⟩
      obtain ⟨e1, e2⟩ := hy y hys he
      obtain ⟨h1, h2, h3⟩ := (stepD_iff L lam b s y).1 hys
      subst e1 e2
      rcases h3 with ⟨h3, h4⟩ | ⟨x, hxs, h4, h5, h6, h7⟩
      · exact .inl ⟨h4, h3⟩
      · obtain ⟨h11, h12⟩ := hs x hxs
        have hbit : (bitsOf L bs s (gpl L bs x.rule x.place)).testBit (y.age - 1) = true := (bits_iff L bs _ _ _).2 ⟨x, hxs, rfl, by omega⟩
        refine .inr ⟨(gpl L bs x.rule x.place, bitsOf L bs s (gpl L bs x.rule x.place)), (canon_iff L bs s _ _).2 ⟨gpl_lt h11 h12, rfl, bit_ne_zero hbit⟩, _, togP_get _ _ _ h11 h12, ⟨y.place, ?_, ?_⟩, by omega, ?_, hbit⟩
        · show y.place ∈ (L.getD x.rule lx0).1.follow.getD x.place []
          rw [h4]; exact h7
        · show gpl L bs x.rule y.place = gpl L bs y.rule y.place
          rw [h4]
        · show y.age - 1 < lam
          omega
  · rw [if_neg hb]
    simp only [Nat.zero_testBit, Bool.false_eq_true, false_iff]
    rintro ⟨y, hys, he, rfl⟩
    obtain ⟨e1, e2⟩ := hy y hys he
    subst e1 e2
    exact hb ((stepD_iff L lam b s y).1 hys).2.1
/-- When the canon is the same. -/
theorem canon_eq {L : List (Lay × Str)} {bs : List Bool} {s t : List Wd} (hs : OkD L s) (ht : OkD L t) : canon L bs s = canon L bs t ↔ ∀ x, x ∈ s ↔ x ∈ t := by
  constructor
  · intro h
    have key : ∀ (s t : List Wd), OkD L s → OkD L t → canon L bs s = canon L bs t → ∀ x, x ∈ s → x ∈ t := fun s t hs ht h x hx => by
      obtain ⟨h1, h2⟩ := hs x hx
      have h3 := picked_inj h _ (gpl_lt h1 h2)
      rw [getD_mapR _ _ _ (gpl_lt h1 h2), getD_mapR _ _ _ (gpl_lt h1 h2)] at h3
      have h4 : (bitsOf L bs s (gpl L bs x.rule x.place)).testBit x.age = true := (bits_iff L bs _ _ _).2 ⟨x, hx, rfl, rfl⟩
      rw [h3] at h4
      obtain ⟨y, hy, e1, e2⟩ := (bits_iff L bs _ _ _).1 h4
      obtain ⟨e3, e4⟩ := gpl_inj (ht y hy).2 h2 e1
      have : y = x := Wd.ext' e3 e4 e2
      exact this ▸ hy
    exact fun x => ⟨key s t hs ht h x, key t s ht hs h.symm x⟩
  · intro h
    refine picked_eq fun p hp => ?_
    rw [getD_mapR _ _ _ hp, getD_mapR _ _ _ hp]
    apply eq_of_bits
    intro a
    rw [bits_iff, bits_iff]
    exact ⟨fun ⟨x, h1, h2⟩ => ⟨x, (h x).1 h1, h2⟩, fun ⟨x, h1, h2⟩ => ⟨x, (h x).2 h1, h2⟩⟩
theorem nodup_len {α : Type} [DecidableEq α] : ∀ (s t : List α), s.Nodup → (∀ x ∈ s, x ∈ t) → s.length ≤ t.length
  | [], t, _, _ => Nat.zero_le _
  | x :: s, t, hn, h => by
    rw [List.nodup_cons] at hn
    have hx := h x List.mem_cons_self
    have ih := nodup_len s (t.erase x) hn.2 fun y hy => by
      have hne : y ≠ x := fun e => hn.1 (e ▸ hy)
      exact (List.mem_erase_of_ne hne).2 (h y (List.mem_cons_of_mem _ hy))
    have := List.length_erase_of_mem hx
    have hp : 0 < t.length := List.length_pos_of_mem hx
    simp only [List.length_cons]
    omega
theorem same_canon {L : List (Lay × Str)} {bs : List Bool} {s t : List Wd} (hs : OkD L s) (ht : OkD L t) (ns : s.Nodup) (nt : t.Nodup) : sameW s t = decide (canon L bs s = canon L bs t) := by
  unfold sameW
  rw [decide_eq_decide, canon_eq hs ht]
  constructor
  · rintro ⟨h1, h2⟩ x
    refine ⟨h2 x, fun hx => ?_⟩
    apply Classical.byContradiction
    intro hn
    have := nodup_len (x :: s) t (List.nodup_cons.2 ⟨hn, ns⟩) fun y hy => by
      rcases List.mem_cons.1 hy with rfl | hy
      · exact hx
      · exact h2 y hy
    simp only [List.length_cons] at this
    omega
  · intro h
    exact ⟨Nat.le_antisymm (nodup_len s t ns fun x hx => (h x).1 hx) (nodup_len t s nt fun x hx => (h x).2 hx), fun x hx => (h x).1 hx⟩
end Go.Proofs.Ytnkopcmkanibhaa

/-
  A step's words stand once each and are not too many; what is told of both kinds of states. Mathematics for other texts; no statement of its own.
-/
namespace Go.Proofs.Ytnkopcmkanibhaa
open Go

theorem nodup_snoc {α : Type} {l : List α} {x : α} (h : l.Nodup) (hx : x ∉ l) : (l ++ [x]).Nodup := by
  rw [List.nodup_append]
  refine ⟨h, by simp, fun a ha b hb => ?_⟩
  rw [List.mem_singleton] at hb
  subst hb
  exact fun e => hx (e ▸ ha)
theorem folOne_nodup (s : Lay) (b : Nat) (x : Wd) : ∀ (l : List Nat) (o : List Wd), o.Nodup → (folOne s b x l o).Nodup
  | [], o, h => h
  | q :: l, o, h => by
    rw [folOne]
    apply folOne_nodup s b x l
    unfold folPut
    split
    · rename_i h1
      exact nodup_snoc h h1.2
    · exact h
theorem stepW_nodup (L : List (Lay × Str)) (lam b : Nat) : ∀ (st o : List Wd), o.Nodup → (stepW L lam b st o).Nodup
  | [], o, h => h
  | x :: st, o, h => by
    rw [stepW]
    apply stepW_nodup L lam b st
    unfold stepOne
    split
    · split
      · exact folOne_nodup _ _ _ _ _ h
      · exact h
    · exact h
theorem map_nodup {α β : Type} (f : α → β) (hf : ∀ a b, f a = f b → a = b) : ∀ (l : List α), l.Nodup → (l.map f).Nodup
  | [], h => by simp
  | x :: l, h => by
    rw [List.nodup_cons] at h
    rw [List.map_cons, List.nodup_cons]
    refine ⟨fun hm => ?_, map_nodup f hf l h.2⟩
    obtain ⟨y, hy, e⟩ := List.mem_map.1 hm
    exact h.1 (hf _ _ e ▸ hy)
theorem fstN_nodup {L : List (Lay × Str)} (b : Nat) (hN : ∀ s x, (s, x) ∈ L → x.first.Nodup) : ∀ k, k ≤ L.length → (fstN L b k).Nodup
  | 0, h => by simp [fstN]
  | k + 1, h => by
    rw [fstN, some_getD (r := k) (by omega), List.nodup_append]
    simp only
    have hm : (L.getD k lx0) ∈ L := by rw [List.getD_eq_getElem?_getD, List.getElem?_eq_getElem (show k < L.length by omega)]; exact List.getElem_mem _
    refine ⟨fstN_nodup b hN k (by omega), ?_, fun y hy z hz e => ?_⟩
    · unfold fstOne
      apply map_nodup _ (fun a b e => by injection e)
      exact (hN _ _ hm).sublist (List.filter_sublist)
    · subst e
      have h1 := ((fst_iff L b y k (by omega)).1 hy).1
      unfold fstOne at hz
      rw [List.mem_map] at hz
      obtain ⟨p, _, rfl⟩ := hz
      simp at h1
theorem stepD_nodup {L : List (Lay × Str)} (hN : ∀ s x, (s, x) ∈ L → x.first.Nodup) (lam b : Nat) (s : List Wd) : (stepD L lam b s).Nodup := stepW_nodup L lam b s _ (fstN_nodup b hN _ (Nat.le_refl _))
/-- How many words there may be. -/
theorem words_few {L : List (Lay × Str)} {bs : List Bool} {lam : Nat} (hlam : lam ≤ 32) {s : List Wd} (hs : OkD L s) (ha : ∀ x ∈ s, x.age ≤ lam) (hn : s.Nodup) : s.length ≤ baseOf L bs L.length * 64 := by
  have h1 : (s.map fun x => gpl L bs x.rule x.place * 64 + x.age).Nodup := by
    have key : ∀ (s : List Wd), OkD L s → (∀ x ∈ s, x.age ≤ lam) → s.Nodup → (s.map fun x => gpl L bs x.rule x.place * 64 + x.age).Nodup := by
      intro s
      induction s with
      | nil => intro _ _ _; simp
      | cons x s ih =>
        intro hs ha hn
        rw [List.nodup_cons] at hn
        rw [List.map_cons, List.nodup_cons]
        refine ⟨fun hm => ?_, ih (fun y hy => hs y (List.mem_cons_of_mem _ hy)) (fun y hy => ha y (List.mem_cons_of_mem _ hy)) hn.2⟩
        obtain ⟨y, hy, e⟩ := List.mem_map.1 hm
        have a1 := ha x List.mem_cons_self
        have a2 := ha y (List.mem_cons_of_mem _ hy)
        have e1 : gpl L bs y.rule y.place = gpl L bs x.rule x.place := by omega
        have e2 : y.age = x.age := by omega
        obtain ⟨e3, e4⟩ := gpl_inj (hs y (List.mem_cons_of_mem _ hy)).2 (hs x List.mem_cons_self).2 e1
        have : y = x := Wd.ext' e3 e4 e2
        exact hn.1 (this ▸ hy)
    exact key s hs ha hn
  have h2 := nodup_len _ (List.range (baseOf L bs L.length * 64)) h1 fun v hv => by
    obtain ⟨x, hx, rfl⟩ := List.mem_map.1 hv
    have h3 := gpl_lt (bs := bs) (hs x hx).1 (hs x hx).2
    have h4 := ha x hx
    rw [List.mem_range]
    omega
  simpa using h2
/-- What is told. -/
theorem mout_bit (R : RSt) (a : Nat) : ∀ (st : List (Nat × Nat)) (o : Nat × Nat), ((mOutP R st o).1.testBit a = true ↔ o.1.testBit a = true ∨ ∃ x ∈ st, ∃ q, R.places[x.1]? = some q ∧ q.last = true ∧ q.luhn = false ∧ x.2.testBit a = true) ∧ ((mOutP R st o).2.testBit a = true ↔ o.2.testBit a = true ∨ ∃ x ∈ st, ∃ q, R.places[x.1]? = some q ∧ q.last = true ∧ q.luhn = true ∧ x.2.testBit a = true)
  | [], o => by simp [mOutP]
  | x :: st, o => by
    rw [mOutP]
    obtain ⟨i1, i2⟩ := mout_bit R a st (outStep R x o)
    rw [i1, i2]
    simp only [List.mem_cons, exists_eq_or_imp]
    have key : ((outStep R x o).1.testBit a = true ↔ o.1.testBit a = true ∨ ∃ q, R.places[x.1]? = some q ∧ q.last = true ∧ q.luhn = false ∧ x.2.testBit a = true) ∧ ((outStep R x o).2.testBit a = true ↔ o.2.testBit a = true ∨ ∃ q, R.places[x.1]? = some q ∧ q.last = true ∧ q.luhn = true ∧ x.2.testBit a = true) := by
      unfold outStep
      cases e : R.places[x.1]? with
      | none => simp
      | some q =>
        simp only [Option.some.injEq, exists_eq_left']
        cases h1 : q.last
        · simp
        · cases h2 : q.luhn
          · simp [Nat.testBit_or]
          · simp [Nat.testBit_or]
    rw [key.1, key.2, or_assoc, or_assoc]
    exact ⟨Iff.rfl, Iff.rfl⟩
theorem tell_bit (L : List (Lay × Str)) (bs : List Bool) (a : Nat) : ∀ (s : List Wd) (o : Nat × Nat), ((tellW L bs s o).1.testBit a = true ↔ o.1.testBit a = true ∨ ∃ x ∈ s, ∃ y t b, L[x.rule]? = some (y, t) ∧ bs[x.rule]? = some b ∧ t.last.contains x.place = true ∧ b = false ∧ x.age = a) ∧ ((tellW L bs s o).2.testBit a = true ↔ o.2.testBit a = true ∨ ∃ x ∈ s, ∃ y t b, L[x.rule]? = some (y, t) ∧ bs[x.rule]? = some b ∧ t.last.contains x.place = true ∧ b = true ∧ x.age = a)
  | [], o => by simp [tellW]
  | x :: s, o => by
    rw [tellW]
    obtain ⟨i1, i2⟩ := tell_bit L bs a s (tellStep L bs x o)
    rw [i1, i2]
    simp only [List.mem_cons, exists_eq_or_imp]
    have key : ((tellStep L bs x o).1.testBit a = true ↔ o.1.testBit a = true ∨ ∃ y t b, L[x.rule]? = some (y, t) ∧ bs[x.rule]? = some b ∧ t.last.contains x.place = true ∧ b = false ∧ x.age = a) ∧ ((tellStep L bs x o).2.testBit a = true ↔ o.2.testBit a = true ∨ ∃ y t b, L[x.rule]? = some (y, t) ∧ bs[x.rule]? = some b ∧ t.last.contains x.place = true ∧ b = true ∧ x.age = a) := by
      unfold tellStep
      cases e : L[x.rule]? with
      | none => simp
      | some yt =>
        obtain ⟨y, t⟩ := yt
        cases e2 : bs[x.rule]? with
        | none => simp
        | some b =>
          simp only
          cases h1 : t.last.contains x.place
          · constructor
            · constructor
              · exact fun h => .inl (by simpa using h)
              · rintro (h | ⟨y', t', b', h2, h3, h4, _⟩)
                · simpa using h
                · injection h2 with h2
                  injection h2 with h2 h5
                  subst h5
                  rw [h1] at h4
                  cases h4
            · constructor
              · exact fun h => .inl (by simpa using h)
              · rintro (h | ⟨y', t', b', h2, h3, h4, _⟩)
                · simpa using h
                · injection h2 with h2
                  injection h2 with h2 h5
                  subst h5
                  rw [h1] at h4
                  cases h4
          · cases b
            · simp only [if_true, Bool.false_eq_true, if_false, Nat.testBit_or, Bool.or_eq_true, Nat.testBit_two_pow, decide_eq_true_iff]
              constructor
              · constructor
                · rintro (h | h)
                  · exact .inl h
                  · exact .inr ⟨y, t, false, rfl, rfl, h1, rfl, h⟩
                · rintro (h | ⟨_, _, _, _, _, _, _, h⟩)
                  · exact .inl h
                  · exact .inr h
              · constructor
                · exact fun h => .inl h
                · rintro (h | ⟨_, _, b', _, h3, _, h4, h⟩)
                  · exact h
                  · subst h4
                    injection h3 with h3
                    cases h3
            · simp only [if_true, Nat.testBit_or, Bool.or_eq_true, Nat.testBit_two_pow, decide_eq_true_iff]
              constructor
              · constructor
                · exact fun h => .inl h
                · rintro (h | ⟨_, _, b', _, h3, _, h4, h⟩)
                  · exact h
                  · subst h4
                    injection h3 with h3
                    cases h3
              · constructor
                · rintro (h | h)
                  · exact .inl h
                  · exact .inr ⟨y, t, true, rfl, rfl, h1, rfl, h⟩
                · rintro (h | ⟨_, _, _, _, _, _, _, h⟩)
                  · exact .inl h
                  · exact .inr h
    rw [key.1, key.2, or_assoc, or_assoc]
    exact ⟨Iff.rfl, Iff.rfl⟩
theorem out_canon {L : List (Lay × Str)} {bs : List Bool} {lam : Nat} (hbs : bs.length = L.length) {s : List Wd} (hs : OkD L s) : mOutP (RR L bs lam) (canon L bs s) (0, 0) = tellW L bs s (0, 0) := by
  have key : ∀ (c : Bool) (a : Nat), (∃ x ∈ canon L bs s, ∃ q, (RR L bs lam).places[x.1]? = some q ∧ q.last = true ∧ q.luhn = c ∧ x.2.testBit a = true) ↔ ∃ x ∈ s, ∃ y t b, L[x.rule]? = some (y, t) ∧ bs[x.rule]? = some b ∧ t.last.contains x.place = true ∧ b = c ∧ x.age = a := fun c a => by
    constructor
    · rintro ⟨⟨p, n⟩, hx, q, h1, h2, h3, h4⟩
      obtain ⟨h5, rfl, _⟩ := (canon_iff L bs s p n).1 hx
      obtain ⟨x, hxs, rfl, h7⟩ := (bits_iff L bs _ _ _).1 h4
      obtain ⟨h8, h9⟩ := hs x hxs
      have hg : (RR L bs lam).places[gpl L bs x.rule x.place]? = some (plcOf (L.getD x.rule lx0).1 (L.getD x.rule lx0).2 (baseOf L bs x.rule) (bs.getD x.rule false) x.place) := togP_get _ _ _ h8 h9
      rw [hg] at h1
      injection h1 with h1
      subst h1
      have hb : bs[x.rule]? = some (bs.getD x.rule false) := by rw [List.getD_eq_getElem?_getD, List.getElem?_eq_getElem (show x.rule < bs.length by omega)]; rfl
      exact ⟨x, hxs, _, _, _, some_getD h8, hb, h2, h3, h7⟩
    · rintro ⟨x, hxs, y, t, b, h1, h2, h3, h4, h5⟩
      obtain ⟨h8, h9⟩ := hs x hxs
      have hbit : (bitsOf L bs s (gpl L bs x.rule x.place)).testBit a = true := (bits_iff L bs _ _ _).2 ⟨x, hxs, rfl, h5⟩
      have hl := getD_some h1
      refine ⟨(gpl L bs x.rule x.place, bitsOf L bs s (gpl L bs x.rule x.place)), (canon_iff L bs s _ _).2 ⟨gpl_lt h8 h9, rfl, bit_ne_zero hbit⟩, _, togP_get _ _ _ h8 h9, ?_, ?_, hbit⟩
      · show (L.getD x.rule lx0).2.last.contains x.place = true
        rw [hl]; exact h3
      · show bs.getD x.rule false = c
        rw [List.getD_eq_getElem?_getD, h2]; exact h4
  have h1 : (mOutP (RR L bs lam) (canon L bs s) (0, 0)).1 = (tellW L bs s (0, 0)).1 := eq_of_bits fun a => by rw [(mout_bit _ a _ _).1, (tell_bit L bs a _ _).1, key]
  have h2 : (mOutP (RR L bs lam) (canon L bs s) (0, 0)).2 = (tellW L bs s (0, 0)).2 := eq_of_bits fun a => by rw [(mout_bit _ a _ _).2, (tell_bit L bs a _ _).2, key]
  exact Prod.ext h1 h2
end Go.Proofs.Ytnkopcmkanibhaa

/-
  A state's step by a class, as the program makes it: what may be of it. Mathematics for other texts; no statement of its own.
-/
namespace Go.Proofs.Ytnkopcmkanibhaa
open Go

def stepC (R : RSt) (F : Nat → Nat) (s : Sta) (c : Nat) : Sta := (aheadL R s).filter (hasAt R (lastB F 256 c))
theorem ahead_may (R : RSt) (hV : Valid R) (st : Sta) : ∀ x ∈ aheadL R st, x.1 < R.places.length ∧ x.2 < 2 ^ (R.lam + 1) := fun x hx => by
  obtain ⟨h1, h2, h3⟩ := (picked_iff _ _ _).1 hx
  refine ⟨h1, ?_⟩
  apply Nat.lt_pow_two_of_testBit
  intro a ha
  cases e : x.2.testBit a with
  | false => rfl
  | true =>
    rw [h2] at e
    have hl := hV.lam.1
    rcases (ahead_bit R st hV.first x.1 a h1).1 e with ⟨_, h4⟩ | ⟨_, _, _, _, _, _, h4, _⟩ <;> omega
theorem ahead_len (R : RSt) (st : Sta) : (aheadL R st).length ≤ R.places.length := picked_len _ _
theorem may_fits {R : RSt} (hV : Valid R) {st : Sta} (h : May R st) : Fits R st := fun x hx => by
  obtain ⟨h1, h2⟩ := h x hx
  have h3 : 2 ^ (R.lam + 1) ≤ 2 ^ 64 := Nat.pow_le_pow_right (by decide) (by have := hV.lam.2; omega)
  exact ⟨h1, by omega⟩
theorem may_ok {R : RSt} (hV : Valid R) {st : Sta} (h : May R st) : okSt st := fun x hx => by
  obtain ⟨h1, h2⟩ := may_fits hV h x hx
  have := hV.P
  exact ⟨by omega, h2⟩
theorem step_may (R : RSt) (hV : Valid R) (F : Nat → Nat) (s : Sta) (c : Nat) : May R (stepC R F s c) := fun x hx => ahead_may R hV s x (List.mem_filter.1 hx).1
theorem step_len (R : RSt) (F : Nat → Nat) (s : Sta) (c : Nat) : (stepC R F s c).length ≤ R.places.length := Nat.le_trans (List.length_filter_le _ _) (ahead_len R s)
end Go.Proofs.Ytnkopcmkanibhaa

/-
  Bytes of one class lead alike: the document's first byte of a class, the program's last. Mathematics for other texts; no statement of its own.
-/
namespace Go.Proofs.Ytnkopcmkanibhaa
open Go

theorem key_mem {l : List (Nat → Bool)} {a b : Nat} (h : keyL l a = keyL l b) : ∀ p ∈ l, p a = p b := fun p hp => by
  unfold keyL at h
  obtain ⟨i, hi⟩ := List.getElem?_of_mem hp
  have h1 := congrArg (fun x : List Bool => x[i]?) h
  simp [hi] at h1
  exact h1
theorem has_cls {R : RSt} {F : Nat → Nat} (hF : F = numK (keyL (R.places.map Plc.set))) {b c : Nat} (hb : b < 256) (h : F b = c) (x : Nat × Nat) : hasAt R b x = hasAt R (lastB F 256 c) x := by
  have h1 : F (lastB F 256 c) = F b := (lastB_is F 256 c b hb h).trans h.symm
  rw [hF] at h1
  have h2 := (numK_eq _ _ _).1 h1
  rw [← hF] at h2
  unfold hasAt
  cases e : R.places[x.1]? with
  | none => rfl
  | some p => exact (key_mem h2 p.set (List.mem_map.2 ⟨p, List.mem_of_getElem? e, rfl⟩)).symm
theorem step_cls {R : RSt} {F : Nat → Nat} (hF : F = numK (keyL (R.places.map Plc.set))) {b c : Nat} (hb : b < 256) (h : F b = c) (s : Sta) : (aheadL R s).filter (hasAt R b) = stepC R F s c := by
  unfold stepC
  exact List.filter_congr fun x _ => has_cls hF hb h x
end Go.Proofs.Ytnkopcmkanibhaa

/-
  The document's search in breadth, state by state as the program's. Mathematics for other texts; no statement of its own.
-/
namespace Go.Proofs.Ytnkopcmkanibhaa
open Go

/-- The sets of the first k rules. -/
def setsN (L : List (Lay × Str)) : Nat → List (Nat → Bool)
  | 0 => []
  | k + 1 => setsN L k ++ (L.getD k lx0).1.sets
theorem plcs_sets (s : Lay) (x : Str) (base : Nat) (b : Bool) : ∀ k, k ≤ s.sets.length → (plcsOf s x base b k).map Plc.set = s.sets.take k
  | 0, _ => by simp [plcsOf]
  | k + 1, h => by
    rw [plcsOf, List.map_append, plcs_sets s x base b k (by omega), List.take_succ_eq_append_getElem (by omega)]
    simp [plcOf, List.getD_eq_getElem?_getD, List.getElem?_eq_getElem (show k < s.sets.length by omega)]
theorem tog_sets (L : List (Lay × Str)) (bs : List Bool) : ∀ k, (togP L bs k).map Plc.set = setsN L k
  | 0 => rfl
  | k + 1 => by
    rw [togP, setsN, List.map_append, tog_sets L bs k, plcs_sets _ _ _ _ _ (Nat.le_refl _), List.take_length]
theorem setsN_len (L : List (Lay × Str)) (bs : List Bool) (k : Nat) : (setsN L k).length = baseOf L bs k := by rw [← tog_sets L bs, List.length_map]; rfl
theorem setsN_le (L : List (Lay × Str)) {a b : Nat} (h : a ≤ b) : (setsN L a).length ≤ (setsN L b).length := by rw [setsN_len L [], setsN_len L []]; exact base_mono L [] h
/-- A state that may be: its words are there, none twice. -/
structure GoodD (L : List (Lay × Str)) (lam : Nat) (t : List Wd) : Prop where
  ok : OkD L t
  nodup : t.Nodup
  age : ∀ x ∈ t, x.age ≤ lam
theorem GoodD.nil (L : List (Lay × Str)) (lam : Nat) : GoodD L lam [] := ⟨fun x hx => by simp at hx, by simp, fun x hx => by simp at hx⟩
section
variable {L : List (Lay × Str)} {bs : List Bool} {lam : Nat}
theorem GoodD.step (hL : ∀ s x, (s, x) ∈ L → OkLay s x) (hN : ∀ s x, (s, x) ∈ L → x.first.Nodup) (hlam : 1 ≤ lam) (b : Nat) (t : List Wd) : GoodD L lam (stepD L lam b t) :=
  ⟨stepD_ok hL lam b t, stepD_nodup hN lam b t, fun x hx => (stepD_age hlam b t x hx).2⟩
theorem GoodD.few (hlam : lam ≤ 32) {t : List Wd} (h : GoodD L lam t) : t.length ≤ (setsN L L.length).length * 64 := by
  rw [setsN_len L ([] : List Bool)]
  exact words_few hlam h.ok h.age h.nodup
theorem GoodD.st {t : List Wd} (hlam : lam ≤ 63) (h : GoodD L lam t) : OkSt L t := fun x hx => by
  obtain ⟨h1, h2⟩ := h.ok x hx
  exact ⟨(L.getD x.rule lx0).1, (L.getD x.rule lx0).2, some_getD h1, h2, by have := h.age x hx; omega⟩
theorem GoodD.wd {t : List Wd} (hlam : lam ≤ 63) (hbs : bs.length = L.length) (h : GoodD L lam t) : ∀ x ∈ t, okWd L bs x := fun x hx => by
  obtain ⟨h1, h2⟩ := h.ok x hx
  exact ⟨(L.getD x.rule lx0).1, (L.getD x.rule lx0).2, bs[x.rule]'(by omega), some_getD h1, List.getElem?_eq_getElem (by omega), h2, by have := h.age x hx; omega⟩
theorem ref_ok (hL : ∀ s x, (s, x) ∈ L → OkLay s x) : OkRef L := fun i s x e => by
  have h := hL s x (List.mem_of_getElem? e)
  exact ⟨h.first, by have := h.firstN; omega, fun p hp => ⟨fun q hq => h.fol p q hq, h.folN p⟩⟩
theorem step_canon (hL : ∀ s x, (s, x) ∈ L → OkLay s x) {F : Nat → Nat} (hF : F = numK (keyL (setsN L L.length))) {t : List Wd} (h : GoodD L lam t) {b c : Nat} (hb : b < 256) (hc : F b = c) : canon L bs (stepD L lam b t) = stepC (RR L bs lam) F (canon L bs t) c := by
  rw [← canon_step (lam := lam) hL b h.ok]
  exact step_cls (by rw [hF, ← tog_sets L bs]; rfl) hb hc _
theorem canon_nil : canon L bs [] = [] := by
  apply List.eq_nil_iff_forall_not_mem.2
  rintro ⟨p, n⟩ hx
  obtain ⟨h1, h2, h3⟩ := (canon_iff L bs [] p n).1 hx
  obtain ⟨a, ha⟩ := ne_zero_bit h3
  rw [h2] at ha
  obtain ⟨x, hx, _⟩ := (bits_iff L bs p a []).1 ha
  simp at hx
theorem same_good {s t : List Wd} (hs : GoodD L lam s) (ht : GoodD L lam t) : sameW s t = decide (canon L bs s = canon L bs t) := same_canon hs.ok ht.ok hs.nodup ht.nodup
end
/-- The row's length goes with the bytes: a byte is taken just if it is the first one of its class. -/
theorem taken_iff (f : Nat → List Bool) (b : Nat) : (numK f b = cntK f b ↔ isFst f b = true) ∧ cntK f (b + 1) = cntK f b + (if isFst f b = true then 1 else 0) := by
  have h1 : cntK f (b + 1) = cntK f b + (if isFst f b = true then 1 else 0) := by
    cases h : isFst f b
    · rw [cntK_step]
      have := numK_lt f b
      obtain ⟨c, hc, e⟩ := (not_fst f b).1 h
      have h3 := (numK_eq f c b).2 e
      have h4 := numK_bound f hc
      have h5 := cntK_mono f (show b ≤ b from Nat.le_refl _)
      simp
      omega
    · rw [cntK_step, numK_fst f h]
      simp
  refine ⟨⟨fun e => ?_, fun h => numK_fst f h⟩, h1⟩
  cases h : isFst f b
  · obtain ⟨c, hc, e'⟩ := (not_fst f b).1 h
    have h3 := (numK_eq f c b).2 e'
    have h4 := numK_bound f hc
    omega
  · rfl
section
variable {α : Type} [DecidableEq α]
theorem idx_at {ss : List α} {t : α} {k : Nat} (h : ss[k]? = some t) (hn : ∀ j, j < k → ss[j]? ≠ some t) : idxM ss t = k := by
  have hm : t ∈ ss := List.mem_of_getElem? h
  have h1 := idx_get hm
  rcases Nat.lt_trichotomy (idxM ss t) k with e | e | e
  · exact absurd h1 (hn _ e)
  · exact e
  · unfold idxM at e
    have := List.not_of_lt_findIdx (p := fun x => x == t) (xs := ss) (i := k) (by simpa [List.idxOf] using e)
    obtain ⟨hk, he⟩ := List.getElem?_eq_some_iff.1 h
    simp [he] at this
theorem meet_old {ss : List α} {t : α} {k : Nat} (h : ss[k]? = some t) : meetL ss t = ss := by rw [meetL, if_pos (List.mem_of_getElem? h)]
theorem meet_new {ss : List α} {t : α} (h : ∀ j, j < ss.length → ss[j]? ≠ some t) : meetL ss t = ss ++ [t] ∧ idxM (ss ++ [t]) t = ss.length := by
  have hm : t ∉ ss := fun hm => by
    obtain ⟨j, hj, e⟩ := List.getElem_of_mem hm
    exact h j hj (by rw [List.getElem?_eq_getElem hj, e])
  refine ⟨by rw [meetL, if_neg hm], ?_⟩
  unfold idxM
  rw [List.idxOf_append, if_neg hm]
  simp
theorem rowS_old {f : Nat → α} {most k c i : Nat} {ss : List α} {row : List Nat} (hi : ss[i]? = some (f c)) (hno : ∀ j, j < i → ss[j]? ≠ some (f c)) (hl : ss.length ≤ most) : rowS f most (k + 1) c ss row = rowS f most k (c + 1) ss (row ++ [i]) := by
  rw [rowS, meet_old hi, if_neg (by omega), idx_at hi hno]
theorem rowS_new {f : Nat → α} {most k c : Nat} {ss : List α} {row : List Nat} (hno : ∀ j, j < ss.length → ss[j]? ≠ some (f c)) (hl : ss.length + 1 ≤ most) : rowS f most (k + 1) c ss row = rowS f most k (c + 1) (ss ++ [f c]) (row ++ [ss.length]) := by
  obtain ⟨h1, h2⟩ := meet_new hno
  rw [rowS, h1, if_neg (by rw [List.length_append, List.length_singleton]; omega), h2]
theorem rowS_big {f : Nat → α} {most k c : Nat} {ss : List α} {row : List Nat} (hno : ∀ j, j < ss.length → ss[j]? ≠ some (f c)) (hl : most < ss.length + 1) : rowS f most (k + 1) c ss row = none := by
  obtain ⟨h1, h2⟩ := meet_new hno
  rw [rowS, h1, if_pos (by rw [List.length_append, List.length_singleton]; omega)]
theorem buildS_row {step : α → Nat → α} {most n fu i : Nat} {ss ss' : List α} {rows : List (List Nat)} {row : List Nat} {s : α} (hs : ss[i]? = some s) (hr : rowS (step s) most n 0 ss [] = some (ss', row)) : buildS step most n (fu + 1) i ss rows = buildS step most n fu (i + 1) ss' (rows ++ [row]) := by
  rw [buildS, hs]
  simp only
  rw [hr]
theorem buildS_no {step : α → Nat → α} {most n fu i : Nat} {ss : List α} {rows : List (List Nat)} {s : α} (hs : ss[i]? = some s) (hr : rowS (step s) most n 0 ss [] = none) : buildS step most n (fu + 1) i ss rows = none := by
  rw [buildS, hs]
  simp only
  rw [hr]
theorem buildS_end {step : α → Nat → α} {most n fu i : Nat} {ss : List α} {rows : List (List Nat)} (hs : ss[i]? = none) : buildS step most n (fu + 1) i ss rows = some (ss, rows) := by
  rw [buildS, hs]
end
end Go.Proofs.Ytnkopcmkanibhaa

/-
  A variable that is a machine of states: its array, it whole, loaded and stored by a walk; a function's result that is one. Laws for other texts; no statement of its own.
-/
namespace Go.Proofs.Ytnkopcmkanibhaa
open Go Go.RowKit

theorem Try.undArr : Try.prog.underlying 34 = some (.array 256 3) := by kernel_rfl
theorem Try.sizeArr : (Try.prog.info? 34).map (·.size) = some 256 := by kernel_rfl
theorem Try.sizeMM : (Try.prog.info? 38).map (·.size) = some 259 := by kernel_rfl
theorem Try.sizeMR : (Try.prog.info? 43).map (·.size) = some 259 := by kernel_rfl
section
variable {w : World} {ops : Array Oper} {rest : List Oper} {o : Oper} {a : Act} {Q : Exit → Act → World → Prop} {g : Nat} {t : TypeId} {F G : Nat → Nat} {n m : Int} {vN vO uN uO : Value}
theorem wpList_loadA (hgd : o.guard = none) (x : Operand) (ho : o.op = .load 34 x) (hx : a.eval x = .pointer (some ⟨g, 0, none⟩)) (h : BoxM w g t F n vN vO) (hk : wpList Try.prog ops Q rest (a.put o.dst (.agg (arrV 256 F))) w) : wpList Try.prog ops Q (o :: rest) a w :=
  wpList_load_mid hgd 34 x ho g 0 hx (arrV 256 F).toList _ h.range Try.undArr rfl (by rw [Try.sizeArr]; simp [arrV_size]) (by simpa using hk)
theorem wpList_storeA (hgd : o.guard = none) (x y : Operand) (ho : o.op = .store 34 x y) (hx : a.eval x = .pointer (some ⟨g, 0, none⟩)) (hy : a.eval y = .agg (arrV 256 G)) (h : BoxM w g t F n vN vO)
    (hk : BoxM (w.setCells g 0 (arrV 256 G).toList) g t G n vN vO → wpList Try.prog ops Q rest (a.put o.dst undef) (w.setCells g 0 (arrV 256 G).toList)) : wpList Try.prog ops Q (o :: rest) a w :=
  wpList_store_mid hgd 34 x y ho g 0 (arrV 256 G) hx hy (h.there 0 _ (by rw [arrV_size]; omega)) (by rw [Try.sizeArr]; simp [arrV_size]) (by rw [Array.all_eq_true_iff_forall_mem]; intro v hv; exact arrV_one 256 G v (by simpa using hv)) (hk (h.laid G))
/-- The array stored: the world behind it a letter. -/
theorem wpList_layA (hgd : o.guard = none) (x y : Operand) (ho : o.op = .store 34 x y) (hx : a.eval x = .pointer (some ⟨g, 0, none⟩)) (hy : a.eval y = .agg (arrV 256 G)) (h : BoxM w g t F n vN vO)
    (hk : ∀ w', BoxM w' g t G n vN vO → Kept (fun b => b = g) w w' → w'.heap.size = w.heap.size → wpList Try.prog ops Q rest (a.put o.dst undef) w') : wpList Try.prog ops Q (o :: rest) a w :=
  wpList_storeA hgd x y ho hx hy h fun hb => hk _ hb (kept_setCells (Kept.refl (fun b => b = g) w) (.inl rfl) _ _) (rest_setCells g _ 0 w).2.2.2
/-- It whole. -/
theorem run_loadM {d : TypeDesc} (hu : Try.prog.underlying t = some d) (hd : d.isRow = true) (hs : (Try.prog.info? t).map (·.size) = some 259) (h : BoxM w g t F n vN vO) : (loadVar t ⟨g, 0, none⟩).run Try.prog w = .ok (.agg (machC F n vN vO)) w := by
  have := run_loadVar_mid (P := Try.prog) w g 0 t (machC F n vN vO).toList d h.whole hu hd (by rw [hs]; simp [machC_size])
  simpa using this
theorem wpList_loadM (hgd : o.guard = none) (x : Operand) (ho : o.op = .load t x) (hx : a.eval x = .pointer (some ⟨g, 0, none⟩)) {d : TypeDesc} (hu : Try.prog.underlying t = some d) (hd : d.isRow = true) (hs : (Try.prog.info? t).map (·.size) = some 259) (h : BoxM w g t F n vN vO) (hk : wpList Try.prog ops Q rest (a.put o.dst (.agg (machC F n vN vO))) w) : wpList Try.prog ops Q (o :: rest) a w :=
  wpList_load_mid hgd t x ho g 0 hx (machC F n vN vO).toList _ h.whole hu hd (by rw [hs]; simp [machC_size]) (by simpa using hk)
theorem boxM_put (h : BoxM w g t F n vN vO) (G : Nat → Nat) (m : Int) (uN uO : Value) : BoxM (w.setRow g (machC G m uN uO)) g t G m uN uO := setRow_heap w g _ _ t (0, 0) h
theorem wpList_storeM (hgd : o.guard = none) (x y : Operand) (ho : o.op = .store t x y) (hx : a.eval x = .pointer (some ⟨g, 0, none⟩)) (hy : a.eval y = .agg (machC G m uN uO)) (hs : (Try.prog.info? t).map (·.size) = some 259) (h1 : uN.oneCell' = true) (h2 : uO.oneCell' = true) (h : BoxM w g t F n vN vO)
    (hk : BoxM (w.setRow g (machC G m uN uO)) g t G m uN uO → wpList Try.prog ops Q rest (a.put o.dst undef) (w.setRow g (machC G m uN uO))) : wpList Try.prog ops Q (o :: rest) a w := by
  refine wpList_plain hgd fun _ hK => ?_
  have hst : (storeVar t ⟨g, 0, none⟩ (.agg (machC G m uN uO))).run Try.prog w = .ok () (w.setRow g (machC G m uN uO)) := run_storeVar_row w g t t _ _ h (by rw [hs]; simp [machC_size]) (by simp [machC_size]) (machC_one h1 h2)
  unfold Oper.wp execOp
  simp only [ho, hx, hy, Instr.storeAt, Instr.sureAddr, Sem.run_bind, Sem.run_pure, Result.andThen_ok, hst]
  exact hK _ _ (hk (boxM_put h G m uN uO))
theorem results_mach {fn : Func} {tmps : Array Value} {x y : Nat} {v : Value} (hr : fn.results = #[.cell x t, .tmp y]) (hx : tmps.getD x undef = .pointer (some ⟨g, 0, none⟩)) (hy : tmps.getD y undef = v) {d : TypeDesc} (hu : Try.prog.underlying t = some d) (hd : d.isRow = true) (hs : (Try.prog.info? t).map (·.size) = some 259)
    (h : BoxM w g t F n vN vO) : (results fn tmps).run Try.prog w = .ok (.tuple #[.agg (machC F n vN vO), v]) w := by
  have e : (#[ResultVar.cell x t, .tmp y] : Array ResultVar) = [ResultVar.cell x t, .tmp y].toArray := rfl
  rw [Array.getD_eq_getD_getElem?] at hx hy
  unfold results
  rw [hr, e]
  simp [Sem.run_bind, hx, hy, run_loadM hu hd hs h, asAddr]
end
theorem kept_setRow {Q : Nat → Prop} {w w' : World} (h : Kept Q w w') {g : Nat} (hg : Q g ∨ w.heap.size ≤ g) (A : Array Value) : Kept Q w (w'.setRow g A) :=
  ⟨h.os, h.tape, h.output, by rw [setRow_size]; exact h.size, fun k hk hn => (setRow_other w' g k A fun e => by subst e; exact hg.elim hn fun x => by omega).trans (h.block k hk hn)⟩
end Go.Proofs.Ytnkopcmkanibhaa
