/-
  Slices of instructions, of numbers, that came in, opened for a walk. No statement of its own.
-/
import Derived.Test.YthhgagghdeocoaaOpenBase
import Derived.Test.YthhgagghdeocoaaCtRd
import Derived.Deep.Slices
set_option linter.unusedVariables false
set_option linter.unusedSimpArgs false
set_option maxRecDepth 20000
namespace Go.Proofs.Ythhgagghdeocoaa
open Go Go.ChangeShapes Go.WideShapes Go.ChangeAt Go.RowKit Go.Deep

theorem lists_of {α : Type} (n : Nat) (q : Nat → α → Prop) (h : ∀ k, k < n → ∃ x, q k x) : ∃ l : List α, l.length = n ∧ ∀ k (hk : k < l.length), q k (l[k]'hk) := by
  induction n with
  | zero => exact ⟨[], rfl, fun k hk => by simp at hk⟩
  | succ n ih =>
    obtain ⟨l, hl, hq⟩ := ih fun k hk => h k (by omega)
    obtain ⟨x, hx⟩ := h n (by omega)
    refine ⟨l ++ [x], by simp [hl], fun k hk => ?_⟩
    by_cases e : k < l.length
    · rw [List.getElem_append_left e]; exact hq k e
    · have : k = l.length := by simp at hk; omega
      subst this
      simp [hl, hx]
theorem six_of {α : Type} {cs : List α} (h : cs.length = 6) : ∃ c0 c1 c2 c3 c4 c5, cs = [c0, c1, c2, c3, c4, c5] := by
  match cs, h with
  | [c0, c1, c2, c3, c4, c5], _ => exact ⟨c0, c1, c2, c3, c4, c5, rfl⟩
theorem cellsIns : Try.prog.cellsOf 68 = 6 := by kernel_rfl
theorem cellsNum : Try.prog.cellsOf 3 = 1 := by kernel_rfl
theorem cellsW64 : Try.prog.cellsOf 49 = 1 := by kernel_rfl
section
variable {H : Type} {enc : TypeId × Value → H} {W : World} {base : Nat} {held : Bool} {v : Value} {d : DataW H} {ps : List MemPlace}
theorem trod_ins {fuel : Nat} {cs : List Value} {x : DataW H × List MemPlace} (hl : cs.length = 6) (h : DataW.trod enc Try.prog W 0 (fun _ => true) held fuel 68 cs = some x) : ∃ y : Ins, y.fits ∧ cs = insC y := by
  obtain ⟨c0, c1, c2, c3, c4, c5, rfl⟩ := six_of hl
  obtain ⟨xs, n, _, _, _, hlen, hf⟩ := DataW.trod_struct Try.underlying68 h
  obtain ⟨y0, y1, y2, y3, y4, y5, rfl⟩ := six_of (show xs.length = 6 from hlen)
  have h0 := hf 0 _ rfl
  have h1 := hf 1 _ rfl
  have h2 := hf 2 _ rfl
  have h3 := hf 3 _ rfl
  have h4 := hf 4 _ rfl
  have h5 := hf 5 _ rfl
  simp [cellsNum, cellsW64] at h0 h1 h2 h3 h4 h5
  obtain ⟨x0, e0, _, w0⟩ := DataW.trod_int Try.underlying3 h0
  obtain ⟨x1, e1, _, w1⟩ := DataW.trod_int Try.underlying3 h1
  obtain ⟨x2, e2, _, w2⟩ := DataW.trod_int Try.underlying3 h2
  obtain ⟨x3, e3, _, w3⟩ := DataW.trod_int Try.underlying3 h3
  obtain ⟨x4, e4, _, w4⟩ := DataW.trod_int Try.underlying3 h4
  obtain ⟨x5, e5, _, w5⟩ := DataW.trod_int Try.underlying49 h5
  simp at e0 e1 e2 e3 e4 e5
  subst e0 e1 e2 e3 e4 e5
  exact ⟨⟨x0, x1, x2, x3, x4, x5⟩, ⟨bounds_i64 w0, bounds_i64 w1, bounds_i64 w2, bounds_i64 w3, bounds_i64 w4, bounds_u64 w5⟩, rfl⟩
theorem open_insns (hv : Value.okWide Try.prog W .any base 63 v) (h : DataW.Trod enc Try.prog W 0 (fun _ => true) held 63 v d ps) :
    ∃ A n cap l, v = .slice A n cap ∧ n = l.length ∧ RdI W A l ∧ (∀ (i : Nat) (x : Ins), l[i]? = some x → x.fits) ∧ n ≤ cap ∧ cap ≤ maxLen := by
  obtain ⟨A, n, cap, rfl⟩ := okWide_slice Try.underlying63 hv
  obtain ⟨fuel, hf⟩ := h
  rcases open_slice Try.underlying63 hf with ⟨hcs, _⟩ | ⟨a, len, c, m, fu, D, Pl, hcs, _, hl, hm, hmm, _, hcell⟩
  · simp [Value.cells] at hcs
    obtain ⟨rfl, rfl, rfl⟩ := hcs
    exact ⟨none, 0, 0, [], rfl, rfl, fun i x hi => by simp at hi, fun i x hi => by simp at hi, Nat.le_refl _, Nat.zero_le _⟩
  · simp [Value.cells] at hcs
    obtain ⟨rfl, rfl, rfl⟩ := hcs
    have hnm : n ≤ m := by rw [hmm]; simp; omega
    rw [cellsIns] at hcell
    have key : ∀ k, k < n → ∃ y : Ins, y.fits ∧ ∃ b off, a = ⟨b, off, none⟩ ∧ b < W.heap.size ∧ ∀ q u, (insC y)[q]? = some u → W.cell? ⟨b, off + k * 6 + q, none⟩ = some u := by
      intro k hk
      obtain ⟨cs', hc, hd⟩ := hcell k (by omega)
      have hblk := World.cells?_block hc (by omega)
      obtain ⟨hb, hlen, hcc⟩ := World.cells?_some hc
      obtain ⟨y, hy, rfl⟩ := trod_ins hlen hd
      obtain ⟨b, off, spot⟩ := a
      have hspot : spot = none := by
        obtain ⟨cs0, hc0, _⟩ := hcell 0 (by omega)
        rw [Nat.zero_mul] at hc0
        obtain ⟨_, hlen0, hcc0⟩ := World.cells?_some hc0
        have h0 := hcc0 0 (by omega)
        rw [List.getElem?_eq_getElem (by omega)] at h0
        simpa [Addr.add] using World.cell?_spot h0
      subst hspot
      refine ⟨y, hy, b, off, rfl, by simpa [Go.WideShapes.add_plain] using hblk, fun q u hu => ?_⟩
      have hq : q < 6 := (List.getElem?_eq_some_iff.1 hu).1
      have := hcc q hq
      rw [Go.WideShapes.add_plain, Go.WideShapes.add_plain] at this
      rw [this]
      exact hu
    obtain ⟨l, hln, hl2⟩ := lists_of n _ key
    refine ⟨_, n, cap, l, rfl, hln.symm, fun i x hi => ?_, fun i x hi => ?_, hl, hm⟩
    · obtain ⟨hi', e⟩ := List.getElem?_eq_some_iff.1 hi
      obtain ⟨_, b, off, ea, hb, hc⟩ := hl2 i hi'
      rw [e] at hc
      exact ⟨b, off, by rw [ea], hb, hc⟩
    · obtain ⟨hi', e⟩ := List.getElem?_eq_some_iff.1 hi
      have := (hl2 i hi').1
      rw [e] at this
      exact this
theorem open_nums (hv : Value.okWide Try.prog W .any base 59 v) (h : DataW.Trod enc Try.prog W 0 (fun _ => true) held 59 v d ps) :
    ∃ A n cap xs, v = .slice A n cap ∧ n = xs.length ∧ RdZ .i64 W A xs ∧ (∀ k, k < xs.length → I64 (xs.getD k 0)) ∧ n ≤ cap ∧ cap ≤ maxLen := by
  obtain ⟨A, n, cap, rfl⟩ := okWide_slice Try.underlying59 hv
  obtain ⟨fuel, hf⟩ := h
  rcases open_ints Try.underlying59 Try.underlying3 (by kernel_rfl) hf with ⟨hcs, _⟩ | ⟨x, l, c, zs, hcs, _, hl, hm, hz, _, hcell, hwz⟩
  · simp [Value.cells] at hcs
    obtain ⟨rfl, rfl, rfl⟩ := hcs
    exact ⟨none, 0, 0, [], rfl, rfl, fun k hk => by simp at hk, fun k hk => by simp at hk, Nat.le_refl _, Nat.zero_le _⟩
  · simp [Value.cells] at hcs
    obtain ⟨rfl, rfl, rfl⟩ := hcs
    simp at hz
    refine ⟨_, n, cap, zs.take n, rfl, by simp; omega, ?_, ?_, hl, hm⟩
    · intro k hk
      simp at hk
      obtain ⟨b, off, rfl, hc⟩ := ints_at hcell (by omega)
      have hck := hc k (by omega)
      refine ⟨b, off, rfl, World.block_lt_of_cell? W ⟨b, off + k, none⟩ hck, ?_⟩
      rw [hck, List.getD_eq_getElem?_getD, List.getD_eq_getElem?_getD, List.getElem?_take_of_lt (by omega)]
    · intro k hk
      have hk' := hk
      simp at hk'
      have hb := range_i64 hwz k
      rw [List.getD_eq_getElem?_getD, List.getElem?_take_of_lt (by omega)]
      exact hb
theorem open_words (hv : Value.okWide Try.prog W .any base 73 v) (h : DataW.Trod enc Try.prog W 0 (fun _ => true) held 73 v d ps) :
    ∃ A n cap xs, v = .slice A n cap ∧ n = xs.length ∧ RdZ .u64 W A xs ∧ (∀ k, k < xs.length → U64 (xs.getD k 0)) ∧ n ≤ cap ∧ cap ≤ maxLen := by
  obtain ⟨A, n, cap, rfl⟩ := okWide_slice Try.underlying73 hv
  obtain ⟨fuel, hf⟩ := h
  rcases open_ints Try.underlying73 Try.underlying49 (by kernel_rfl) hf with ⟨hcs, _⟩ | ⟨x, l, c, zs, hcs, _, hl, hm, hz, _, hcell, hwz⟩
  · simp [Value.cells] at hcs
    obtain ⟨rfl, rfl, rfl⟩ := hcs
    exact ⟨none, 0, 0, [], rfl, rfl, fun k hk => by simp at hk, fun k hk => by simp at hk, Nat.le_refl _, Nat.zero_le _⟩
  · simp [Value.cells] at hcs
    obtain ⟨rfl, rfl, rfl⟩ := hcs
    simp at hz
    refine ⟨_, n, cap, zs.take n, rfl, by simp; omega, ?_, ?_, hl, hm⟩
    · intro k hk
      simp at hk
      obtain ⟨b, off, rfl, hc⟩ := ints_at hcell (by omega)
      have hck := hc k (by omega)
      refine ⟨b, off, rfl, World.block_lt_of_cell? W ⟨b, off + k, none⟩ hck, ?_⟩
      rw [hck, List.getD_eq_getElem?_getD, List.getD_eq_getElem?_getD, List.getElem?_take_of_lt (by omega)]
    · intro k hk
      have hk' := hk
      simp at hk'
      have hb := range_u64 hwz k
      rw [List.getD_eq_getElem?_getD, List.getElem?_take_of_lt (by omega)]
      exact hb
end
end Go.Proofs.Ythhgagghdeocoaa
