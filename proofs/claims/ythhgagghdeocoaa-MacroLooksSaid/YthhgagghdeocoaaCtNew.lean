/-
  ct: New and Trace. Contracts for other texts; no statement of its own.
-/
import Derived.Test.YthhgagghdeocoaaCtConcat
set_option linter.unusedVariables false
set_option linter.unusedSimpArgs false
namespace Go.Proofs.Ythhgagghdeocoaa
open Go Go.RowKit

theorem MachE.clear {w : World} {F : Nat → Prop} {p m c : Nat} {f : Int → Int} {dv : Value} {vs : List Value} {ls : List (List Ins)} (h : MachE w F p m f c dv vs ls) :
    MachE (w.setCell ⟨p, 1, none⟩ (.slice none 0 0)) F p m f c (.slice none 0 0) [] [] ∧ Kept F w (w.setCell ⟨p, 1, none⟩ (.slice none 0 0)) := by
  have hsz : (w.setCell ⟨p, 1, none⟩ (.slice none 0 0)).heap.size = w.heap.size := by simp [World.setCell]
  refine ⟨⟨heap_setCell_same w p 1 _ _ _ h.hd, ?_, h.fu, rfl, World.ownsRow_nil _ _ _ 1, h.fp, h.fc, fun b e => (by cases e), fun b e => (by rw [hsz]; exact h.fl b e), fun i v l e1 e2 => (by simp at e1), fun i j v u b hij e1 e2 => (by simp at e1)⟩, (Kept.refl F w).setCell (a := ⟨p, 1, none⟩) (.inl h.fp) _⟩
  obtain ⟨cur, h1, h2⟩ := h.cs
  exact ⟨cur, (Below.heap_setCell _ _ _ _ h.np.symm).trans h1, h2⟩
set_option maxRecDepth 20000 in
theorem take_p {w : World} {F : Nat → Prop} {p m : Nat} {f : Int → Int} {tr : List Ins} (h : Mach w F p m f tr) (hlen : tr.length ≤ 100000) :
    Calls Try.prog 32 #[.pointer (some ⟨p, 0, none⟩)] w fun e w' => ∃ v, e = .returned v ∧ w'.ownsRow w.heap.size 68 6 v tr.length (insL tr) ∧ Mach w' F p m f [] ∧ Kept F w w' := by
  obtain ⟨c, dv, vs, ls, h1, rfl, h3⟩ := h
  have hmany := many_le ls h3
  have hll := h1.len
  have hco := concat_p h1.row h1.len (fun i v l e1 e2 => (h1.pie i v l e1 e2).1) hlen (by omega)
  have q1 := h1.c1
  have HCO := Lib.hid hco
  have H1 := Lib.hid h1
  clear hco h1 hmany hll h3
  go_enter Try.func32, Try.ntmps32
  go_wp2_with (first
    | (go_at_call 52; (with_reducible refine HCO.out.mono ?_); rintro e w1 ⟨v1, rfl, ho1, hb1⟩; have HO1 := Lib.hid ho1; have HB1 := Lib.hid hb1; have m1 := H1.out.stays hb1; have f1 := frozen_of_row w1 p 1 _ _ m1.hd; have q2 := m1.c1; have M1 := Lib.hid m1; clear ho1 hb1 m1)
    | fail)
  go_ret
  obtain ⟨m2, k2⟩ := M1.out.clear
  refine ⟨_, rfl, own_block HO1.out fun b e _ => Below.heap_setCell _ _ _ _ fun e' => ?_, ⟨_, _, _, _, m2, rfl, fun l hl => by simp at hl⟩, (Kept.of_below F HB1.out).trans k2 fun b e => .inl e⟩
  have h5 := (World.ownsRow.lt HO1.out b e).1
  have h6 := H1.out.fl p H1.out.fp
  have e2 : b = p := e'
  omega

theorem infoWord : ∃ i0 : TypeInfo, Try.prog.info? 49 = some i0 ∧ i0.zero = some (.int .u64 0) ∧ i0.size = 1 ∧ i0.bytes = 8 :=
  info_parts (show (Try.prog.info? 49).map (fun i => (i.zero, i.size, i.bytes)) = some (some (.int .u64 0), 1, 8) from by kernel_rfl)
def RetNew (w : World) (n : Int) (e : Ending) (w' : World) : Prop :=
  if 1 ≤ n ∧ n ≤ 200000 then ∃ p F, e = .returned (.pointer (some ⟨p, 0, none⟩)) ∧ Mach w' F p n.toNat (fun _ => 0) [] ∧ Below w.heap.size w w' ∧ ∀ b, F b → w.heap.size ≤ b else e = .returned (.pointer none) ∧ Below w.heap.size w w'
set_option maxRecDepth 20000 in
theorem new_p (w : World) (n : Int) (hn : I64 n) : Calls Try.prog 28 #[.int .i64 n] w (RetNew w n) := by
  unfold I64 at hn
  unfold RetNew
  by_cases h1 : 1 ≤ n
  · by_cases h2 : n ≤ 200000
    · obtain ⟨i0, hi, hz0, hz1, hz2⟩ := infoWord
      obtain ⟨k, rfl⟩ : ∃ k : Nat, n = (k : Int) := ⟨n.toNat, by omega⟩
      have hmk := run_make (P := Try.prog) (w := w) 73 49 i0 _ Try.underlying73 hi hz0 .i64 .i64 (k : Int) (k : Int) (by omega) (Int.le_refl _) (by rw [hz2]; omega) (by omega)
      rw [hz1, Int.toNat_natCast, Nat.mul_one] at hmk
      obtain ⟨mc, hmc⟩ : ∃ mc, madeCells (Value.int .u64 0).cells k = mc := ⟨_, rfl⟩
      have hcs : ∀ j : Nat, j < k → mc[j]? = some (.int .u64 0) := fun j hj => by
        rw [← hmc]
        unfold madeCells
        rw [Array.getElem?_map]
        have e : (Array.range k)[j]? = some j := by simp [hj]
        rw [e]
        show some ((#[Value.int .u64 0] : Array Value)[j % 1]!) = _
        rw [Nat.mod_one]
        rfl
      rw [hmc] at hmk
      have HCS := Lib.hid hcs
      clear hi hz0 hz1 hz2 hmc hcs
      simp only [h1, h2, and_self, if_true]
      go_enter Try.func28, Try.ntmps28
      go_wp2
      go_ret
      have hc0 : HasO (w.alloc (.cells mc 49)) w.heap.size (.cells mc 49 (0, 0)) := has_new _ _ _ _ rfl
      refine ⟨_, fun b => w.heap.size ≤ b ∧ b < w.heap.size + 2, rfl, ⟨w.heap.size, .slice none 0 0, [], [], ⟨?_, ⟨mc, has_alloc _ hc0, fun j hj => ?_⟩, fun z => ⟨(by decide), (by decide)⟩, rfl, World.ownsRow_nil _ _ _ 1, by omega, by omega, fun b e => (by cases e), fun b e => (by simp; omega), fun i v l e1 e2 => (by simp at e1), fun i j v u b hij e1 e2 => (by simp at e1)⟩, rfl, fun l hl => by simp at hl⟩, ((Below.refl _ _).alloc (Nat.le_refl _) _).alloc (by simp) _, fun b e => e.1⟩
      · exact has_new _ _ _ _ (by simp)
      · exact HCS.out j (by simpa using hj)
    · simp only [h2, and_false, if_false]
      go_enter Try.func28, Try.ntmps28
      go_wp2
      go_ret
      exact ⟨rfl, Below.refl _ _⟩
  · simp only [h1, false_and, if_false]
    go_enter Try.func28, Try.ntmps28
    go_wp2
    go_ret
    exact ⟨rfl, Below.refl _ _⟩
end Go.Proofs.Ythhgagghdeocoaa
