/-
  A slice of sets that came in, opened for a walk. No statement of its own.
-/
import Derived.Test.YtammicfijnffaaaOpen
import Derived.Test.YtammicfijnffaaaClassOf
import Derived.Deep.Slices
set_option linter.unusedVariables false
set_option linter.unusedSimpArgs false
set_option maxRecDepth 20000
namespace Go.Proofs.Ytammicfijnffaaa
open Go Go.ChangeShapes Go.WideShapes Go.ChangeAt Go.RowKit Go.Deep

theorem lists_of {α : Type} (n : Nat) (q : Nat → α → Prop) (h : ∀ k, k < n → ∃ x, q k x) : ∃ l : List α, l.length = n ∧ ∀ k (hk : k < l.length), q k (l[k]'hk) := by
  induction n with
  | zero => exact ⟨[], rfl, fun k hk => by simp at hk⟩
  | succ n ih =>
    obtain ⟨l, hl, hq⟩ := ih fun k hk => h k (by omega)
    obtain ⟨x, hx⟩ := h n (by omega)
    refine ⟨l ++ [x], by simp [hl], fun k hk => ?_⟩
    by_cases e : k < l.length
    · rw [List.getElem_append_left e]; exact hq k e
    · have : k = l.length := by simp at hk; omega
      subst this
      simp [hl, hx]

section
variable {H : Type} {enc : TypeId × Value → H} {W : World} {base : Nat} {held : Bool} {v : Value} {d : DataW H} {ps : List MemPlace}
theorem open_sets (hv : Value.okWide Try.prog W .any base 32 v) (h : DataW.Trod enc Try.prog W 0 (fun _ => true) held 32 v d ps) :
    ∃ A n cap l, v = .slice A n cap ∧ n = l.length ∧ RdS W W.heap.size A l ∧ n ≤ cap ∧ cap ≤ maxLen := by
  obtain ⟨A, n, cap, rfl⟩ := okWide_slice Try.underlying32 hv
  obtain ⟨fuel, hf⟩ := h
  rcases open_slice Try.underlying32 hf with ⟨hcs, _⟩ | ⟨a, len, c, m, fu, D, Pl, hcs, _, hl, hm, hmm, _, hcell⟩
  · simp [Value.cells] at hcs
    obtain ⟨rfl, rfl, rfl⟩ := hcs
    exact ⟨none, 0, 0, [], rfl, rfl, fun k hk => by simp at hk, Nat.le_refl _, Nat.zero_le _⟩
  · simp [Value.cells] at hcs
    obtain ⟨rfl, rfl, rfl⟩ := hcs
    have hnm : n ≤ m := by rw [hmm]; simp; omega
    have key : ∀ k, k < n → ∃ p : Nat → Bool, ∃ b off, a = ⟨b, off, none⟩ ∧ b < W.heap.size ∧ ∀ q, q < 4 → W.cell? ⟨b, off + k * 4 + q, none⟩ = some (.int .u64 (word p q)) := by
      intro k hk
      obtain ⟨cs', hc, hd⟩ := hcell k (by omega)
      rw [Try.cellsSet] at hc
      have hblk := World.cells?_block hc (by omega)
      obtain ⟨hb, hlen, hcc⟩ := World.cells?_some hc
      obtain ⟨c0, c1, c2, c3, e4⟩ := Go.Joins.array4 (cs := cs'.toArray) (by rw [List.size_toArray]; exact hlen)
      have e4' : cs' = [c0, c1, c2, c3] := by simpa using congrArg Array.toList e4
      subst e4'
      obtain ⟨y0, y1, y2, y3, fu2, _, hy0, hy1, hy2, hy3⟩ := trod_array4 Try.underlying26 Try.cellsWord hd
      obtain ⟨x0, e0, _, w0⟩ := DataW.trod_int Try.underlying24 hy0
      obtain ⟨x1, e1, _, w1⟩ := DataW.trod_int Try.underlying24 hy1
      obtain ⟨x2, e2, _, w2⟩ := DataW.trod_int Try.underlying24 hy2
      obtain ⟨x3, e3, _, w3⟩ := DataW.trod_int Try.underlying24 hy3
      simp at e0 e1 e2 e3
      subst e0 e1 e2 e3
      obtain ⟨p, rfl, rfl, rfl, rfl⟩ := words_of x0 x1 x2 x3 (bounds_u64 w0) (bounds_u64 w1) (bounds_u64 w2) (bounds_u64 w3)
      obtain ⟨b, off, spot⟩ := a
      have hspot : spot = none := by
        obtain ⟨cs0, hc0, _⟩ := hcell 0 (by omega)
        rw [Try.cellsSet, Nat.zero_mul] at hc0
        obtain ⟨_, hlen0, hcc0⟩ := World.cells?_some hc0
        have h0 := hcc0 0 (by omega)
        rw [List.getElem?_eq_getElem (by omega)] at h0
        simpa [Addr.add] using World.cell?_spot h0
      subst hspot
      refine ⟨p, b, off, rfl, ?_, fun q hq => ?_⟩
      · simpa [Go.WideShapes.add_plain] using hblk
      · have := hcc q hq
        rw [Go.WideShapes.add_plain, Go.WideShapes.add_plain] at this
        rw [this]
        match q, hq with
        | 0, _ => rfl
        | 1, _ => rfl
        | 2, _ => rfl
        | 3, _ => rfl
    obtain ⟨l, hln, hl2⟩ := lists_of n _ key
    exact ⟨_, n, cap, l, rfl, hln.symm, fun k hk => by obtain ⟨b, off, e, hb, hc⟩ := hl2 k hk; exact ⟨b, off, by rw [e], hb, hc⟩, hl, hm⟩
end
end Go.Proofs.Ytammicfijnffaaa
