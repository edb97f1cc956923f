/-
  Texts within texts: what is read of a text is read of it where it stands in another one, too, if a bracket that shuts, or a bar, is behind it; one bracket deeper the same is read, or it is too deep. Plain mathematics; no statement of its own.
-/
import Derived.Test.YtpiieonlbfhbaaaRxSame
set_option linter.unusedVariables false
set_option linter.unusedSimpArgs false
namespace Go.Proofs.Ytpiieonlbfhbaaa
open Go

/-- The text s stands in u from off on; behind it is nothing, a bracket that shuts, or a bar. -/
structure In (s u : ByteArray) (off : Nat) : Prop where
  size : off + s.size ≤ u.size
  byte : ∀ i, i < s.size → bt u (off + i) = bt s i
  stop : off + s.size < u.size → bt u (off + s.size) = 41 ∨ bt u (off + s.size) = 124

/-- What r tells of s, r' tells off further on; if b, it may be too deep instead. -/
def Sim {α : Type} (b : Bool) (off : Nat) (r r' : R α) : Prop := match r with
  | .ok (a, p) => r' = .ok (a, off + p) ∨ (b = true ∧ ∃ x, r' = .error (4, x))
  | .error (c, _) => c = 4 → ∃ x, r' = .error (4, x)

section
variable {α β : Type} {b : Bool} {off : Nat} {s u : ByteArray}
theorem Sim.bad {c x : Int} {r' : R α} (h : c ≠ 4) : Sim b off (.error (c, x)) r' := fun e => absurd e h
theorem Sim.good (a : α) (p : Nat) : Sim b off (.ok (a, p)) (.ok (a, off + p)) := .inl rfl
theorem Sim.err (hb : b = true) (r : R α) (x : Int) : Sim b off r (.error (4, x)) := by
  match r with
  | .ok (a, p) => exact .inr ⟨hb, x, rfl⟩
  | .error (c, y) => exact fun _ => ⟨x, rfl⟩
theorem Sim.bind {q : Nat} {r r' : R α} {f g : α → Nat → R β} (hf : Fwd s q r) (h : Sim b off r r') (hg : ∀ a p, q < p → p ≤ s.size → Sim b off (f a p) (g a (off + p))) : Sim b off (thenR r f) (thenR r' g) := by
  match r, hf, h with
  | .error (c, y), hf, h =>
    intro e
    obtain ⟨x, rfl⟩ := h e
    exact ⟨x, rfl⟩
  | .ok (a, p), hf, h =>
    rcases h with rfl | ⟨hb, x, rfl⟩
    · exact hg a p hf.1 hf.2
    · exact Sim.err hb _ x
def StepS (s : ByteArray) (b : Bool) (off : Nat) (st su : α → Nat → Option (R α)) : Prop := ∀ a p, p ≤ s.size → match st a p with
  | none => su a (off + p) = none
  | some r => ∃ r', su a (off + p) = some r' ∧ Sim b off r r'
theorem Sim.loop {st su : α → Nat → Option (R α)} (hin : off + s.size ≤ u.size) (hs : StepS s b off st su) (hf : ∀ a p r, p ≤ s.size → st a p = some r → Fwd s p r) :
    ∀ (n n' : Nat) (a : α) (p : Nat), p ≤ s.size → s.size + 1 - p ≤ n → u.size + 1 - (off + p) ≤ n' → Sim b off (loopR st n a p) (loopR su n' a (off + p))
  | 0, n', a, p, h1, h2, h3 => by omega
  | n + 1, 0, a, p, h1, h2, h3 => by omega
  | n + 1, n' + 1, a, p, h1, h2, h3 => by
    have h := hs a p h1
    have hf1 := hf a p
    unfold loopR
    cases e : st a p with
    | none =>
      rw [e] at h
      simp only at h
      rw [h]
      exact Sim.good a p
    | some r =>
      rw [e] at h
      obtain ⟨r', e', h⟩ := h
      have hf2 := hf1 r h1 e
      rw [e']
      match r, h, hf2 with
      | .error (c, y), h, _ =>
        intro ec
        obtain ⟨x, rfl⟩ := h ec
        exact ⟨x, rfl⟩
      | .ok (a', p'), h, hf2 =>
        rcases h with rfl | ⟨hb, x, rfl⟩
        · have := hf2.1
          exact Sim.loop hin hs hf n n' a' p' hf2.2 (by omega) (by omega)
        · exact Sim.err hb _ x
/-- Where the loop over s ends, the one over u goes on. -/
theorem loop_on {st su : α → Nat → Option (R α)} (hin : off + s.size ≤ u.size) (hs : ∀ a p a' p', p ≤ s.size → st a p = some (.ok (a', p')) → su a (off + p) = some (.ok (a', off + p'))) (hf : ∀ a p r, p ≤ s.size → st a p = some r → Fwd s p r) :
    ∀ (n n' : Nat) (a : α) (p : Nat) (a' : α) (p' : Nat), p ≤ s.size → s.size + 1 - p ≤ n → u.size + 1 - (off + p) ≤ n' → loopR st n a p = .ok (a', p') →
      p' ≤ s.size ∧ ∃ m, u.size + 1 - (off + p') ≤ m ∧ loopR su n' a (off + p) = loopR su m a' (off + p')
  | 0, n', a, p, a', p', h1, h2, h3, h => by omega
  | n + 1, 0, a, p, a', p', h1, h2, h3, h => by omega
  | n + 1, n' + 1, a, p, a', p', h1, h2, h3, h => by
    unfold loopR at h
    cases e : st a p with
    | none =>
      rw [e] at h
      simp only at h
      injection h with h
      injection h with h4 h5
      subst h4 h5
      exact ⟨h1, n' + 1, h3, rfl⟩
    | some r =>
      rw [e] at h
      have hf2 := hf a p r h1 e
      match r, e, hf2, h with
      | .error x, e, _, h => cases h
      | .ok (a1, p1), e, hf2, h =>
        have := hf2.1
        obtain ⟨k0, m, k1, k2⟩ := loop_on hin hs hf n n' a1 p1 a' p' hf2.2 (by omega) (by omega) h
        refine ⟨k0, m, k1, ?_⟩
        rw [← k2]
        conv => lhs; unfold loopR
        rw [hs a p a1 p1 h1 e]
end

section
variable {s u : ByteArray} {off : Nat} (h : In s u off)
include h
theorem In.lt {p : Nat} (hp : p < s.size) : off + p < u.size := by have := h.size; omega
theorem In.is' {p c : Nat} (hp : p < s.size) : isB u (off + p) c = isB s p c := by
  have := h.lt hp
  simp [isB, h.byte p hp, hp, this]
theorem In.is {p c : Nat} (hp : p ≤ s.size) (h1 : c ≠ 41) (h2 : c ≠ 124) : isB u (off + p) c = isB s p c := by
  rcases Nat.lt_or_ge p s.size with hlt | hge
  · exact h.is' hlt
  · obtain rfl : p = s.size := by omega
    have e1 : isB s s.size c = false := by simp [isB]
    rw [e1]
    by_cases hz : off + s.size < u.size
    · rcases h.stop hz with e | e <;> simp [isB, e] <;> omega
    · simp [isB, hz]
theorem In.dig {p : Nat} (hp : p ≤ s.size) : isD u (off + p) = isD s p := by
  rcases Nat.lt_or_ge p s.size with hlt | hge
  · have := h.lt hlt
    simp [isD, h.byte p hlt, hlt, this]
  · obtain rfl : p = s.size := by omega
    have e1 : isD s s.size = false := by simp [isD]
    rw [e1]
    by_cases hz : off + s.size < u.size
    · rcases h.stop hz with e | e <;> simp [isD, e]
    · simp [isD, hz]
theorem In.wide {p : Nat} (hp : p ≤ s.size) : cWide u (off + p) = cWide s p := by
  unfold cWide
  rw [h.is hp (by decide) (by decide)]
  rcases Nat.lt_or_ge (p + 1) s.size with hlt | hge
  · have := h.lt hlt
    rw [show off + p + 1 = off + (p + 1) from rfl, h.byte (p + 1) hlt]
    simp [hlt, this]
  · have e0 : decide (p + 1 < s.size) = false := by simp; omega
    rw [e0]
    by_cases hq : p < s.size
    · obtain e : p + 1 = s.size := by omega
      rw [show off + p + 1 = off + (p + 1) from rfl, e]
      by_cases hz : off + s.size < u.size
      · rcases h.stop hz with e | e <;> rw [e] <;> simp [isWide]
      · simp [hz]
    · have e1 : isB s p 92 = false := by simp [isB, hq]
      simp [e1]

variable {b : Bool}
theorem In.esc {p : Nat} (hp : p ≤ s.size) : Sim b off (cEsc s p) (cEsc u (off + p)) := by
  unfold cEsc
  by_cases hlt : p < s.size
  · rw [if_pos hlt, if_pos (h.lt hlt), h.byte p hlt]
    split
    · exact Sim.good _ (p + 1)
    · split
      · exact Sim.good _ (p + 1)
      · split
        · exact Sim.good _ (p + 1)
        · exact Sim.bad (by decide)
  · rw [if_neg hlt]
    exact Sim.bad (by decide)
theorem In.mem {p : Nat} (hp : p ≤ s.size) : Sim b off (cMem s p) (cMem u (off + p)) := by
  unfold cMem
  by_cases hlt : p < s.size
  · rw [if_pos hlt, if_pos (h.lt hlt), h.byte p hlt]
    split
    · exact Sim.bad (by decide)
    · split
      · exact h.esc (p := p + 1) (by omega)
      · exact Sim.good _ (p + 1)
  · rw [if_neg hlt]
    exact Sim.bad (by decide)
theorem In.item {p : Nat} (hp : p ≤ s.size) : Sim b off (cItem s p) (cItem u (off + p)) := by
  unfold cItem
  rw [h.wide hp]
  by_cases hw : cWide s p = true
  · rw [if_pos hw, if_pos hw]
    have hw' := hw
    simp [cWide] at hw'
    rw [show off + p + 1 = off + (p + 1) from rfl, h.byte (p + 1) hw'.1.2]
    exact Sim.good _ (p + 2)
  · rw [if_neg hw, if_neg hw]
    refine Sim.bind (mem_fwd s p) (h.mem hp) fun lo p1 h1 h2 => ?_
    rw [h.is h2 (by decide) (by decide)]
    by_cases h45 : isB s p1 45 = true
    · rw [if_pos h45, if_pos h45]
      have := (isB_lt h45).1
      refine Sim.bind (mem_fwd s (p1 + 1)) (h.mem (p := p1 + 1) (by omega)) fun hi p3 h3 h4 => ?_
      split
      · exact Sim.bad (by decide)
      · exact Sim.good _ p3
    · rw [if_neg h45, if_neg h45]
      exact Sim.good _ p1
theorem In.clsStep : StepS s b off (clsStep s) (clsStep u) := fun q p hp => by
  unfold Go.Proofs.Ytpiieonlbfhbaaa.clsStep
  rw [h.is hp (by decide) (by decide)]
  by_cases h93 : isB s p 93 = true
  · rw [if_pos h93, if_pos h93]
  · rw [if_neg h93, if_neg h93]
    exact ⟨_, rfl, Sim.bind (item_fwd s p) (h.item hp) fun r p1 h1 h2 => Sim.good _ p1⟩
theorem In.cls {p : Nat} (hp : p ≤ s.size) : Sim b off (cClass s p) (cClass u (off + p)) := by
  unfold cClass
  rw [h.is hp (by decide) (by decide)]
  have h0 : ∀ c, isB s p 94 = c → (if c = true then p + 1 else p) ≤ s.size ∧ (if c = true then off + p + 1 else off + p) = off + (if c = true then p + 1 else p) := fun c hc => by
    cases c with
    | true => have := (isB_lt hc).1; exact ⟨by simp; omega, rfl⟩
    | false => exact ⟨by simpa using hp, rfl⟩
  obtain ⟨h1, h2⟩ := h0 _ rfl
  rw [h2]
  generalize (if isB s p 94 = true then p + 1 else p) = p0 at *
  refine Sim.bind (s := s) (q := p0) (Fwd.bind (item_fwd s p0) fun a p1 k1 k2 => Fwd.loop (fun a p r _ h => clsStep_fwd s a p r h) _ a p0 p1 k1 k2) (Sim.bind (item_fwd s p0) (h.item h1) fun q p1 k1 k2 => ?_) fun q p2 k1 k2 => Sim.good _ (p2 + 1)
  exact Sim.loop (s := s) (u := u) h.size h.clsStep (fun a p r _ h => clsStep_fwd s a p r h) _ _ q p1 k2 (by omega) (by omega)
theorem In.num {p : Nat} (hp : p ≤ s.size) : Sim b off (cNum s p) (cNum u (off + p)) := by
  unfold cNum
  rw [h.dig hp]
  by_cases hd : isD s p = true
  · have hlt : p < s.size := by simp [isD] at hd; omega
    rw [if_pos hd, if_pos hd, show off + p + 1 = off + (p + 1) from rfl, h.dig (p := p + 1) (by omega)]
    by_cases hd' : isD s (p + 1) = true
    · have hlt' : p + 1 < s.size := by simp [isD] at hd'; omega
      rw [if_pos hd', if_pos hd', h.byte p hlt, h.byte (p + 1) hlt']
      exact Sim.good _ (p + 2)
    · rw [if_neg hd', if_neg hd', h.byte p hlt]
      exact Sim.good _ (p + 1)
  · rw [if_neg hd]
    exact Sim.bad (by decide)
theorem In.times {p : Nat} (hp : p ≤ s.size) : Sim b off (cTimes s p) (cTimes u (off + p)) := by
  unfold cTimes
  refine Sim.bind (num_fwd s p) (h.num hp) fun lo p1 h1 h2 => ?_
  rw [h.is h2 (by decide) (by decide)]
  have hm : Fwd s p (if isB s p1 44 = true then cNum s (p1 + 1) else .ok (lo, p1)) ∧ Sim b off (if isB s p1 44 = true then cNum s (p1 + 1) else .ok (lo, p1)) (if isB s p1 44 = true then cNum u (off + p1 + 1) else .ok (lo, off + p1)) := by
    by_cases h44 : isB s p1 44 = true
    · have := (isB_lt h44).1
      rw [if_pos h44, if_pos h44]
      exact ⟨(num_fwd s _).mono (by omega), h.num (p := p1 + 1) (by omega)⟩
    · rw [if_neg h44, if_neg h44]
      exact ⟨⟨h1, h2⟩, Sim.good _ p1⟩
  refine Sim.bind hm.1 hm.2 fun hi q h3 h4 => ?_
  rw [h.is h4 (by decide) (by decide)]
  split
  · exact Sim.good _ (q + 1)
  · exact Sim.bad (by decide)

def DeepS (s : ByteArray) (b : Bool) (off : Nat) (ds du : Option (Nat → R T)) : Prop := match ds, du with
  | none, none => True
  | some f, some g => ∀ p, p ≤ s.size → Sim b off (f p) (g (off + p))
  | some _, none => b = true
  | none, some _ => False

variable {ds du : Option (Nat → R T)} (hf : ∀ f, ds = some f → ∀ p, p ≤ s.size → Fwd s p (f p)) (hd : (∃ i, i < s.size ∧ bt s i = 40) → DeepS s b off ds du)
include hf hd
theorem In.atom {p : Nat} (hp : p ≤ s.size) : Sim b off (cAtom s ds p) (cAtom u du (off + p)) := by
  unfold cAtom
  by_cases hlt : p < s.size
  · rw [if_pos hlt, if_pos (h.lt hlt), h.byte p hlt]
    by_cases h40 : bt s p = 40
    · rw [if_pos h40, if_pos h40]
      have hD := hd ⟨p, hlt, h40⟩
      match ds, du, hf, hD with
      | none, none, _, _ => exact fun _ => ⟨_, rfl⟩
      | some f, none, _, hD => exact Sim.err hD _ _
      | some f, some g, hf, hD =>
        refine Sim.bind (hf f rfl (p + 1) (by omega)) (hD (p + 1) (by omega)) fun t p1 h1 h2 => ?_
        by_cases h41 : isB s p1 41 = true
        · have := (isB_lt h41).1
          rw [h.is' this, if_pos h41, if_pos h41]
          exact Sim.good _ (p1 + 1)
        · rw [if_neg h41]
          exact Sim.bad (by decide)
    · rw [if_neg h40, if_neg h40]
      split
      · exact Sim.bind (class_fwd s (p + 1)) (h.cls (p := p + 1) (by omega)) fun q p1 h1 h2 => Sim.good _ p1
      · split
        · exact Sim.good _ (p + 1)
        · split
          · rw [h.wide hp]
            by_cases hw : cWide s p = true
            · rw [if_pos hw, if_pos hw]
              have hw' := hw
              simp [cWide] at hw'
              rw [show off + p + 1 = off + (p + 1) from rfl, h.byte (p + 1) hw'.1.2]
              exact Sim.good _ (p + 2)
            · rw [if_neg hw, if_neg hw]
              exact Sim.bind (esc_fwd s (p + 1)) (h.esc (p := p + 1) (by omega)) fun q p1 h1 h2 => Sim.good _ p1
          · split
            · exact Sim.bad (by decide)
            · split
              · exact Sim.bad (by decide)
              · exact Sim.good _ (p + 1)
  · rw [if_neg hlt]
    exact Sim.bad (by decide)
omit hf hd in
theorem In.repStep : StepS s b off (repStep s) (repStep u) := fun t p hp => by
  unfold Go.Proofs.Ytpiieonlbfhbaaa.repStep
  rw [h.is hp (by decide) (by decide), h.is hp (by decide) (by decide)]
  by_cases h63 : isB s p 63 = true
  · rw [if_pos h63, if_pos h63]
    exact ⟨_, rfl, Sim.good _ (p + 1)⟩
  · rw [if_neg h63, if_neg h63]
    by_cases h123 : isB s p 123 = true
    · have := (isB_lt h123).1
      rw [if_pos h123, if_pos h123]
      exact ⟨_, rfl, Sim.bind (times_fwd s (p + 1)) (h.times (p := p + 1) (by omega)) fun r p1 h1 h2 => Sim.good _ p1⟩
    · rw [if_neg h123, if_neg h123]
theorem In.piece {p : Nat} (hp : p ≤ s.size) : Sim b off (cPiece s ds p) (cPiece u du (off + p)) := by
  unfold cPiece
  refine Sim.bind (atom_fwd s ds hf p) (h.atom hf hd hp) fun t p1 h1 h2 => ?_
  exact Sim.loop (s := s) (u := u) h.size h.repStep (fun a p r _ h => repStep_fwd s a p r h) _ _ t p1 h2 (by omega) (by omega)
theorem In.partStep : StepS s b off (partStep s ds false) (partStep u du false) := fun l p hp => by
  unfold Go.Proofs.Ytpiieonlbfhbaaa.partStep
  by_cases hg : p < s.size ∧ bt s p ≠ 124 ∧ (bt s p ≠ 41 ∨ false = true)
  · rw [if_pos hg, if_pos (by rw [h.byte p hg.1]; exact ⟨h.lt hg.1, hg.2⟩)]
    exact ⟨_, rfl, Sim.bind (piece_fwd s ds hf p) (h.piece hf hd hp) fun r p1 h1 h2 => Sim.good _ p1⟩
  · rw [if_neg hg]
    show (if _ then _ else _) = none
    rw [if_neg]
    rintro ⟨k1, k2, k3⟩
    have k4 := k3.resolve_right (by decide)
    rcases Nat.lt_or_ge p s.size with hlt | hge
    · rw [h.byte p hlt] at k2 k4
      exact hg ⟨hlt, k2, .inl k4⟩
    · obtain rfl : p = s.size := by omega
      rcases h.stop k1 with e | e
      · exact k4 e
      · exact k2 e
theorem In.part {p : Nat} (hp : p ≤ s.size) : Sim b off (cPart s ds false p) (cPart u du false (off + p)) := by
  unfold cPart
  refine Sim.bind (s := s) (q := p) (Fwd.bind (piece_fwd s ds hf p) fun t p1 h1 h2 => Fwd.loop (fun a p r _ h => partStep_fwd s ds hf false a p r h) _ [t] p p1 h1 h2) (Sim.bind (piece_fwd s ds hf p) (h.piece hf hd hp) fun t p1 h1 h2 => ?_) fun l p1 h1 h2 => Sim.good _ p1
  exact Sim.loop (s := s) (u := u) h.size (h.partStep hf hd) (fun a p r _ h => partStep_fwd s ds hf false a p r h) _ _ [t] p1 h2 (by omega) (by omega)
variable (h41 : off + s.size < u.size → bt u (off + s.size) = 41)
include h41
theorem In.patStep : StepS s b off (patStep s ds false) (patStep u du false) := fun l p hp => by
  unfold Go.Proofs.Ytpiieonlbfhbaaa.patStep
  by_cases h124 : isB s p 124 = true
  · have := (isB_lt h124).1
    rw [if_pos h124, if_pos (by rw [h.is' this]; exact h124)]
    exact ⟨_, rfl, Sim.bind (part_fwd s ds hf false (p + 1)) (h.part hf hd (p := p + 1) (by omega)) fun r p1 h1 h2 => Sim.good _ p1⟩
  · rw [if_neg h124]
    show (if _ then _ else _) = none
    rw [if_neg]
    intro k
    obtain ⟨k1, k2⟩ := isB_lt k
    rcases Nat.lt_or_ge p s.size with hlt | hge
    · rw [h.is' hlt] at k
      exact h124 k
    · obtain rfl : p = s.size := by omega
      have := h41 k1
      omega
theorem In.cpat {p : Nat} (hp : p ≤ s.size) : Sim b off (cPat s ds false p) (cPat u du false (off + p)) := by
  unfold cPat
  refine Sim.bind (s := s) (q := p) (Fwd.bind (part_fwd s ds hf false p) fun t p1 h1 h2 => Fwd.loop (fun a p r _ h => patStep_fwd s ds hf false a p r h) _ [t] p p1 h1 h2) (Sim.bind (part_fwd s ds hf false p) (h.part hf hd hp) fun t p1 h1 h2 => ?_) fun l p1 h1 h2 => Sim.good _ p1
  exact Sim.loop (s := s) (u := u) h.size (h.patStep hf hd h41) (fun a p r _ h => patStep_fwd s ds hf false a p r h) _ _ [t] p1 h2 (by omega) (by omega)
omit hf hd
theorem In.pat : ∀ (d p : Nat), p ≤ s.size → Sim false off (pat s d false p) (pat u d false (off + p))
  | 0, p, hp => h.cpat (ds := none) (du := none) (fun f e => by cases e) (fun _ => trivial) h41 hp
  | d + 1, p, hp => h.cpat (ds := some (Go.Proofs.Ytpiieonlbfhbaaa.pat s d false)) (du := some (Go.Proofs.Ytpiieonlbfhbaaa.pat u d false)) (fun f e p _ => by cases e; exact pat_fwd s d false p) (fun _ p hp => In.pat d p hp) h41 hp
theorem In.low : ∀ (d p : Nat), p ≤ s.size → Sim true off (Go.Proofs.Ytpiieonlbfhbaaa.pat s (d + 1) false p) (Go.Proofs.Ytpiieonlbfhbaaa.pat u d false (off + p))
  | 0, p, hp => h.cpat (ds := some (Go.Proofs.Ytpiieonlbfhbaaa.pat s 0 false)) (du := none) (fun f e p _ => by cases e; exact pat_fwd s 0 false p) (fun _ => rfl) h41 hp
  | d + 1, p, hp => h.cpat (ds := some (Go.Proofs.Ytpiieonlbfhbaaa.pat s (d + 1) false)) (du := some (Go.Proofs.Ytpiieonlbfhbaaa.pat u d false)) (fun f e p _ => by cases e; exact pat_fwd s (d + 1) false p) (fun _ p hp => In.low d p hp) h41 hp
end

end Go.Proofs.Ytpiieonlbfhbaaa
