/-
  A pace, and deeds, that came in, opened for a walk. No statement of its own.
-/
import Derived.Test.YtbadpenfngdodaaOpenBase
import Derived.Test.YtbadpenfngdodaaPacDeeds
import Derived.Test.YtbadpenfngdodaaPacMath
import Derived.Deep.Slices
set_option linter.unusedVariables false
set_option linter.unusedSimpArgs false
set_option maxRecDepth 20000
namespace Go.Proofs.Ytbadpenfngdodaa
open Go Go.ChangeShapes Go.WideShapes Go.ChangeAt Go.RowKit Go.Deep

theorem deeds_of {α : Type} (n : Nat) (q : Nat → α → Prop) (h : ∀ k, k < n → ∃ x, q k x) : ∃ l : List α, l.length = n ∧ ∀ k (hk : k < l.length), q k (l[k]'hk) := by
  induction n with
  | zero => exact ⟨[], rfl, fun k hk => by simp at hk⟩
  | succ n ih =>
    obtain ⟨l, hl, hq⟩ := ih fun k hk => h k (by omega)
    obtain ⟨x, hx⟩ := h n (by omega)
    refine ⟨l ++ [x], by simp [hl], fun k hk => ?_⟩
    by_cases e : k < l.length
    · rw [List.getElem_append_left e]; exact hq k e
    · have : k = l.length := by simp at hk; omega
      subst this
      simp [hl, hx]
theorem sixP_of {α : Type} {cs : List α} (h : cs.length = 6) : ∃ c0 c1 c2 c3 c4 c5, cs = [c0, c1, c2, c3, c4, c5] := by
  match cs, h with
  | [c0, c1, c2, c3, c4, c5], _ => exact ⟨c0, c1, c2, c3, c4, c5, rfl⟩
theorem twoP_of {α : Type} {cs : List α} (h : cs.length = 2) : ∃ c0 c1, cs = [c0, c1] := by
  match cs, h with
  | [c0, c1], _ => exact ⟨c0, c1, rfl⟩
theorem cellsDeed : Try.prog.cellsOf 72 = 2 := by kernel_rfl
theorem cellsPc : Try.prog.cellsOf 58 = 6 := by kernel_rfl
theorem cellsNumP : Try.prog.cellsOf 3 = 1 := by kernel_rfl
theorem cellsBoP : Try.prog.cellsOf 4 = 1 := by kernel_rfl
section
variable {H : Type} {enc : TypeId × Value → H} {W : World} {base : Nat} {held : Bool} {v : Value} {d : DataW H} {ps : List MemPlace}
theorem open_pace (hv : Value.okWide Try.prog W .any base 58 v) (h : DataW.Trod enc Try.prog W 0 (fun _ => true) held 58 v d ps) : ∃ p : Pc, v = pcV p ∧ (Dd.fits ⟨p.la, p.k⟩ ∧ Dd.fits ⟨p.q, p.ring⟩ ∧ Dd.fits ⟨p.queue, 0⟩) := by
  obtain ⟨cs, rfl, hsz, _⟩ : ∃ cs, v = .agg cs ∧ cs.size = Try.prog.cellsOf 58 ∧ Row.okWide Try.prog W .any base 58 cs := by
    simpa [Value.okWide, Try.underlying58] using hv
  rw [cellsPc] at hsz
  obtain ⟨l⟩ := cs
  obtain ⟨c0, c1, c2, c3, c4, c5, rfl⟩ := sixP_of (show l.length = 6 from hsz)
  obtain ⟨fuel, hf⟩ := h
  obtain ⟨xs, n, _, _, _, hlen, hf⟩ := DataW.trod_struct Try.underlying58 hf
  obtain ⟨y0, y1, y2, y3, y4, y5, rfl⟩ := sixP_of (show xs.length = 6 from hlen)
  have h0 := hf 0 _ rfl
  have h1 := hf 1 _ rfl
  have h2 := hf 2 _ rfl
  have h3 := hf 3 _ rfl
  have h4 := hf 4 _ rfl
  have h5 := hf 5 _ rfl
  simp [cellsNumP, cellsBoP, Value.cells] at h0 h1 h2 h3 h4 h5
  obtain ⟨x0, e0, _, w0⟩ := DataW.trod_int Try.underlying3 h0
  obtain ⟨x1, e1, _, w1⟩ := DataW.trod_int Try.underlying3 h1
  obtain ⟨x2, e2, _, w2⟩ := DataW.trod_int Try.underlying3 h2
  obtain ⟨x3, e3, _, w3⟩ := DataW.trod_int Try.underlying3 h3
  obtain ⟨x4, e4, _, w4⟩ := DataW.trod_int Try.underlying3 h4
  obtain ⟨x5, e5, _⟩ := DataW.trod_bool Try.underlying4 h5
  simp at e0 e1 e2 e3 e4 e5
  subst e0 e1 e2 e3 e4 e5
  have b0 := bounds_i64 w0
  have b1 := bounds_i64 w1
  have b2 := bounds_i64 w2
  have b3 := bounds_i64 w3
  have b4 := bounds_i64 w4
  exact ⟨⟨x0, x1, x2, x3, x4, x5⟩, rfl, ⟨b0.1, b0.2, b1.1, b1.2⟩, ⟨b2.1, b2.2, b3.1, b3.2⟩, ⟨b4.1, b4.2, (show (-9223372036854775808 : Int) ≤ 0 by decide), (show (0 : Int) ≤ 9223372036854775807 by decide)⟩⟩
theorem trod_deed {fuel : Nat} {cs : List Value} {x : DataW H × List MemPlace} (hl : cs.length = 2) (h : DataW.trod enc Try.prog W 0 (fun _ => true) held fuel 72 cs = some x) : ∃ y : Dd, y.fits ∧ cs = [.int .i64 y.what, .int .i64 y.n] := by
  obtain ⟨c0, c1, rfl⟩ := twoP_of hl
  obtain ⟨xs, n, _, _, _, hlen, hf⟩ := DataW.trod_struct Try.underlying72 h
  obtain ⟨y0, y1, rfl⟩ := twoP_of (show xs.length = 2 from hlen)
  have h0 := hf 0 _ rfl
  have h1 := hf 1 _ rfl
  simp [cellsNumP] at h0 h1
  obtain ⟨x0, e0, _, w0⟩ := DataW.trod_int Try.underlying3 h0
  obtain ⟨x1, e1, _, w1⟩ := DataW.trod_int Try.underlying3 h1
  simp at e0 e1
  subst e0 e1
  have b0 := bounds_i64 w0
  have b1 := bounds_i64 w1
  exact ⟨⟨x0, x1⟩, ⟨b0.1, b0.2, b1.1, b1.2⟩, rfl⟩
theorem open_deeds (hv : Value.okWide Try.prog W .any base 59 v) (h : DataW.Trod enc Try.prog W 0 (fun _ => true) held 59 v d ps) :
    ∃ A n cap l, v = .slice A n cap ∧ n = l.length ∧ RdD W A l ∧ (∀ (i : Nat) (x : Dd), l[i]? = some x → x.fits) ∧ n ≤ cap ∧ cap ≤ maxLen := by
  obtain ⟨A, n, cap, rfl⟩ := okWide_slice Try.underlying59 hv
  obtain ⟨fuel, hf⟩ := h
  rcases open_slice Try.underlying59 hf with ⟨hcs, _⟩ | ⟨a, len, c, m, fu, D, Pl, hcs, _, hl, hm, hmm, _, hcell⟩
  · simp [Value.cells] at hcs
    obtain ⟨rfl, rfl, rfl⟩ := hcs
    exact ⟨none, 0, 0, [], rfl, rfl, fun i x hi => by simp at hi, fun i x hi => by simp at hi, Nat.le_refl _, Nat.zero_le _⟩
  · simp [Value.cells] at hcs
    obtain ⟨rfl, rfl, rfl⟩ := hcs
    have hnm : n ≤ m := by rw [hmm]; simp; omega
    rw [cellsDeed] at hcell
    have key : ∀ k, k < n → ∃ y : Dd, y.fits ∧ ∃ b off, a = ⟨b, off, none⟩ ∧ b < W.heap.size ∧ W.cell? ⟨b, off + k * 2, none⟩ = some (.int .i64 y.what) ∧ W.cell? ⟨b, off + k * 2 + 1, none⟩ = some (.int .i64 y.n) := by
      intro k hk
      obtain ⟨cs', hc, hd⟩ := hcell k (by omega)
      have hblk := World.cells?_block hc (by omega)
      obtain ⟨hb, hlen, hcc⟩ := World.cells?_some hc
      obtain ⟨y, hy, rfl⟩ := trod_deed hlen hd
      obtain ⟨b, off, spot⟩ := a
      have hspot : spot = none := by
        obtain ⟨cs0, hc0, _⟩ := hcell 0 (by omega)
        rw [Nat.zero_mul] at hc0
        obtain ⟨_, hlen0, hcc0⟩ := World.cells?_some hc0
        have h0 := hcc0 0 (by omega)
        rw [List.getElem?_eq_getElem (by omega)] at h0
        simpa [Addr.add] using World.cell?_spot h0
      subst hspot
      have q0 := hcc 0 (by omega)
      have q1 := hcc 1 (by omega)
      rw [Go.WideShapes.add_plain, Go.WideShapes.add_plain] at q0 q1
      exact ⟨y, hy, b, off, rfl, by simpa [Go.WideShapes.add_plain] using hblk, q0, q1⟩
    obtain ⟨l, hln, hl2⟩ := deeds_of n _ key
    refine ⟨_, n, cap, l, rfl, hln.symm, fun i x hi => ?_, fun i x hi => ?_, hl, hm⟩
    · obtain ⟨hi', e⟩ := List.getElem?_eq_some_iff.1 hi
      obtain ⟨_, b, off, ea, hb, hc⟩ := hl2 i hi'
      rw [e] at hc
      exact ⟨b, off, by rw [ea], hb, hc⟩
    · obtain ⟨hi', e⟩ := List.getElem?_eq_some_iff.1 hi
      have := (hl2 i hi').1
      rw [e] at this
      exact this
end
end Go.Proofs.Ytbadpenfngdodaa
