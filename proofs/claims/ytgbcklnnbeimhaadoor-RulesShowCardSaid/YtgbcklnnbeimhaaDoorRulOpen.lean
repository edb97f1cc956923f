/-
  A slice of rules as text that came in, opened for a walk. No statement of its own.
-/
import Derived.Test.YtgbcklnnbeimhaaDoorOpenBase
import Derived.Test.YtgbcklnnbeimhaaDoorRulMem
import Derived.Deep.Slices
import Derived.Deep.Strs
set_option linter.unusedVariables false
set_option linter.unusedSimpArgs false
set_option maxRecDepth 20000
namespace Go.Proofs.YtgbcklnnbeimhaaDoor
open Go Go.ChangeShapes Go.WideShapes Go.ChangeAt Go.RowKit Go.Deep

theorem rows_of {α : Type} (n : Nat) (q : Nat → α → Prop) (h : ∀ k, k < n → ∃ x, q k x) : ∃ l : List α, l.length = n ∧ ∀ k (hk : k < l.length), q k (l[k]'hk) := by
  induction n with
  | zero => exact ⟨[], rfl, fun k hk => by simp at hk⟩
  | succ n ih =>
    obtain ⟨l, hl, hq⟩ := ih fun k hk => h k (by omega)
    obtain ⟨x, hx⟩ := h n (by omega)
    refine ⟨l ++ [x], by simp [hl], fun k hk => ?_⟩
    by_cases e : k < l.length
    · rw [List.getElem_append_left e]; exact hq k e
    · have : k = l.length := by simp at hk; omega
      subst this
      simp [hl, hx]
theorem threeR_of {α : Type} {cs : List α} (h : cs.length = 3) : ∃ c0 c1 c2, cs = [c0, c1, c2] := by
  match cs, h with
  | [c0, c1, c2], _ => exact ⟨c0, c1, c2, rfl⟩
theorem cellsRu : Tryd.prog.cellsOf 35 = 3 := by kernel_rfl
theorem cellsStrR : Tryd.prog.cellsOf 9 = 1 := by kernel_rfl
theorem cellsBoR : Tryd.prog.cellsOf 4 = 1 := by kernel_rfl
section
variable {H : Type} {enc : TypeId × Value → H} {W : World} {base : Nat} {held : Bool} {v : Value} {d : DataW H} {ps : List MemPlace}
theorem trod_ru {fuel : Nat} {cs : List Value} {x : DataW H × List MemPlace} (hl : cs.length = 3) (h : DataW.trod enc Tryd.prog W 0 (fun _ => true) held fuel 35 cs = some x) : ∃ y : Ru, (∀ n, n = y.name.size ∨ n = y.pat.size → n ∈ x.1.weights Tryd.prog 35) ∧ cs = [.string y.name, .string y.pat, .bool y.luhn] := by
  obtain ⟨c0, c1, c2, rfl⟩ := threeR_of hl
  obtain ⟨xs, n, _, hx, _, hlen, hf⟩ := DataW.trod_struct Tryd.underlying35 h
  obtain ⟨y0, y1, y2, rfl⟩ := threeR_of (show xs.length = 3 from hlen)
  have h0 := hf 0 _ rfl
  have h1 := hf 1 _ rfl
  have h2 := hf 2 _ rfl
  simp [cellsStrR, cellsBoR] at h0 h1 h2
  obtain ⟨s0, e0, f0, z0⟩ := DataW.trod_string Tryd.underlying9 h0
  obtain ⟨s1, e1, f1, z1⟩ := DataW.trod_string Tryd.underlying9 h1
  obtain ⟨x2, e2, _⟩ := DataW.trod_bool Tryd.underlying4 h2
  simp at e0 e1 e2
  subst e0 e1 e2
  subst f0 f1 hx
  refine ⟨⟨s0, s1, x2⟩, fun n hn => ?_, rfl⟩
  simp only [DataW.weights, Tryd.underlying35, List.map_cons, List.map_nil, DataW.weightsEach, List.mem_append]
  rcases hn with rfl | rfl
  · exact .inl (by simp)
  · exact .inr (.inl (by simp))
theorem weights_all {P : Program} {e : TypeId} : ∀ {l : List (DataW H)} {d : DataW H} {n : Nat}, d ∈ l → n ∈ d.weights P e → n ∈ DataW.weightsAll P e l
  | d0 :: l, d, n, hd, hn => by
    rw [DataW.weightsAll, List.mem_append]
    rcases List.mem_cons.1 hd with rfl | hd
    · exact .inl hn
    · exact .inr (weights_all hd hn)
theorem open_rules14 (hv : Value.okWide Tryd.prog W .any base 23 v) (h : DataW.Trod enc Tryd.prog W 0 (fun _ => true) held 23 v d ps) :
    ∃ A n cap l, v = .slice A n cap ∧ n = l.length ∧ RdRu W A l ∧ (∀ (i : Nat) (x : Ru), l[i]? = some x → ∀ m, m = x.name.size ∨ m = x.pat.size → m ∈ d.weights Tryd.prog 23) ∧ n ≤ cap ∧ cap ≤ maxLen := by
  obtain ⟨A, n, cap, rfl⟩ := okWide_slice Tryd.underlying23 hv
  obtain ⟨fuel, hf⟩ := h
  rcases open_slice Tryd.underlying23 hf with ⟨hcs, _⟩ | ⟨a, len, c, m, fu, D, Pl, hcs, _, hl, hm, hmm, hxd, hcell⟩
  · simp [Value.cells] at hcs
    obtain ⟨rfl, rfl, rfl⟩ := hcs
    exact ⟨none, 0, 0, [], rfl, rfl, fun i x hi => by simp at hi, fun i x hi => by simp at hi, Nat.le_refl _, Nat.zero_le _⟩
  · simp [Value.cells] at hcs
    obtain ⟨rfl, rfl, rfl⟩ := hcs
    have hnm : n ≤ m := by rw [hmm]; simp; omega
    rw [cellsRu] at hcell
    obtain rfl : d = .slice ((List.range n).map D) ((List.range (m - n)).map fun j => D (n + j)) := congrArg Prod.fst hxd
    have key : ∀ k, k < n → ∃ y : Ru, (∀ n, n = y.name.size ∨ n = y.pat.size → n ∈ (D k).weights Tryd.prog 35) ∧ ∃ b off, a = ⟨b, off, none⟩ ∧ b < W.heap.size ∧ W.cell? ⟨b, off + k * 3, none⟩ = some (.string y.name) ∧ W.cell? ⟨b, off + k * 3 + 1, none⟩ = some (.string y.pat) ∧ W.cell? ⟨b, off + k * 3 + 2, none⟩ = some (.bool y.luhn) := by
      intro k hk
      obtain ⟨cs', hc, hd⟩ := hcell k (by omega)
      have hblk := World.cells?_block hc (by omega)
      obtain ⟨hb, hlen, hcc⟩ := World.cells?_some hc
      obtain ⟨y, hy, rfl⟩ := trod_ru hlen hd
      obtain ⟨b, off, spot⟩ := a
      have hspot : spot = none := by
        obtain ⟨cs0, hc0, _⟩ := hcell 0 (by omega)
        rw [Nat.zero_mul] at hc0
        obtain ⟨_, hlen0, hcc0⟩ := World.cells?_some hc0
        have h0 := hcc0 0 (by omega)
        rw [List.getElem?_eq_getElem (by omega)] at h0
        simpa [Addr.add] using World.cell?_spot h0
      subst hspot
      have q0 := hcc 0 (by omega)
      have q1 := hcc 1 (by omega)
      have q2 := hcc 2 (by omega)
      rw [Go.WideShapes.add_plain, Go.WideShapes.add_plain] at q0 q1 q2
      exact ⟨y, hy, b, off, rfl, by simpa [Go.WideShapes.add_plain] using hblk, q0, q1, q2⟩
    obtain ⟨l, hln, hl2⟩ := rows_of n _ key
    refine ⟨_, n, cap, l, rfl, hln.symm, fun i x hi => ?_, fun i x hi => ?_, hl, hm⟩
    · obtain ⟨hi', e⟩ := List.getElem?_eq_some_iff.1 hi
      obtain ⟨_, b, off, ea, hb, hc⟩ := hl2 i hi'
      rw [e] at hc
      exact ⟨b, off, by rw [ea], hb, hc⟩
    · obtain ⟨hi', e⟩ := List.getElem?_eq_some_iff.1 hi
      have hw := (hl2 i hi').1
      rw [e] at hw
      intro q hq
      simp only [DataW.weights, Tryd.underlying23, List.mem_cons, List.mem_append]
      exact .inr (.inl (weights_all (List.mem_map.2 ⟨i, List.mem_range.2 (by omega), rfl⟩) (hw q hq)))
end
end Go.Proofs.YtgbcklnnbeimhaaDoor
