/-
  Several texts of this proof in one file: Law4e, Open. No statement of its own.
-/
import Derived.Test.YtfgppmipaahleaaMn22
import Derived.Deep.RegionHeld3
import Derived.Test.YtfgppmipaahleaaMn1
import Derived.ProofKit
import Derived.OpenShut
import Derived.Laws.IdiomArrays
import Derived.Lib.SmallJoins
set_option linter.unusedVariables false
set_option linter.unusedSimpArgs false
set_option maxRecDepth 20000

/-
  Layer 4's law NfaTells: no pattern, a long word, too many places; all of it. Contracts for other texts; no statement of its own.
-/
namespace Go.Proofs.Ytfgppmipaahleaa
open Go Go.RowKit
attribute [local go_sem ↓] Go.wp_at_zero Go.wp_at_succ

set_option maxRecDepth 20000 in
set_option maxHeartbeats 4000000 in
theorem nfatells_none {w : World} {s : ByteArray} {n c : Nat} {A : Option Addr} {cc aa : Int} (hs : s.size ≤ 9223372036854775807) (hp : parse s = .error (cc, aa)) :
    Calls Try.prog 3 #[.string s, .slice A n c] w fun e w' => e = .returned (.bool true) ∧ Below w.heap.size w w' := by
  have HU := Lib.hid (up4_p w)
  have HP := Lib.hid (fun w => rparse_p w s hs)
  unfold RetParse at HP
  simp only [hp] at HP
  clear hp
  go_enter Try.func3, Try.ntmps3
  go_wp2_with (first
    | (go_at_call 5; (with_reducible refine HU.out.mono ?_); rintro e w1 ⟨rfl, hb1⟩; have HB1 := Lib.hid hb1; clear hb1)
    | (go_at_call 6; (with_reducible refine (HP.out _).mono ?_); rintro e w2 ⟨t', k', bad, at_, rfl, ht, hb2, a1, a2, a3, a4, a5⟩; subst a1 a2 a3 a4; have a6 : (bad != 0) = true := (by simpa using a5); have a7 : ¬ bad = 0 := a5; clear a5 ht; unfold nodeV; have HB := Lib.hid (gro HB1.out hb2); clear hb2)
    | fail)
  go_ret
  exact ⟨rfl, HB.out.alloc HB.out.size _⟩

set_option maxRecDepth 20000 in
set_option maxHeartbeats 4000000 in
theorem nfatells_long {w : World} {s : ByteArray} {t : T} {n c : Nat} {A : Option Addr} (hs : s.size ≤ 9223372036854775807) (hp : parse s = .ok t) (hn : 60 < n) :
    Calls Try.prog 3 #[.string s, .slice A n c] w fun e w' => e = .returned (.bool true) ∧ Below w.heap.size w w' := by
  have HU := Lib.hid (up4_p w)
  have HP := Lib.hid (fun w => rparse_p w s hs)
  unfold RetParse at HP
  simp only [hp] at HP
  have hi60 : (60 : Int) < (n : Int) := by omega
  clear hp hn
  go_enter Try.func3, Try.ntmps3
  go_wp2_with (first
    | (go_at_call 5; (with_reducible refine HU.out.mono ?_); rintro e w1 ⟨rfl, hb1⟩; have HB1 := Lib.hid hb1; clear hb1)
    | (go_at_call 6; (with_reducible refine (HP.out _).mono ?_); rintro e w2 ⟨t', k', bad, at_, rfl, ht, hb2, a1, a2, a3⟩; subst a1 a2 a3; obtain ⟨A', n', c', rfl⟩ := ht.form; clear ht; unfold nodeV; have HB := Lib.hid (gro HB1.out hb2); clear hb2)
    | fail)
  go_ret
  exact ⟨rfl, HB.out.alloc HB.out.size _⟩

set_option maxRecDepth 20000 in
set_option maxHeartbeats 4000000 in
theorem nfatells_big {w : World} {s : ByteArray} {t : T} {n c : Nat} {A : Option Addr} (hs : s.size ≤ 9223372036854775807) (hp : parse s = .ok t) (hn : n ≤ 60) (h256 : 256 < plR t) :
    Calls Try.prog 3 #[.string s, .slice A n c] w fun e w' => e = .returned (.bool true) ∧ Below w.heap.size w w' := by
  have hwf := wf_parse hp
  have hbd := bd_parse hp
  have HU := Lib.hid (up4_p w)
  have HP := Lib.hid (fun w => rparse_p w s hs)
  unfold RetParse at HP
  simp only [hp] at HP
  have hbuild : ∀ (W : World) (k : Value) (ok : Nat → Prop), Tree W ok t k → _ := fun W k ok ht => build_big hwf hbd ht h256
  have hbuildD : ∀ (W : World) (k : Value) (ok : Nat → Prop), Tree W ok t k → _ := fun W k ok ht => buildD_big hwf ht h256
  unfold nodeP at hbuild hbuildD
  have HBU := Lib.hid hbuild
  have HBD := Lib.hid hbuildD
  have hi60 : ¬ (60 : Int) < (n : Int) := by omega
  clear hbuild hbuildD hp hn hwf hbd h256
  go_enter Try.func3, Try.ntmps3
  go_wp2_with (first
    | (go_at_call 5; (with_reducible refine HU.out.mono ?_); rintro e w1 ⟨rfl, hb1⟩; have HB1 := Lib.hid hb1; clear hb1)
    | (go_at_call 6; (with_reducible refine (HP.out _).mono ?_); rintro e w2 ⟨t', k', bad, at_, rfl, ht, hb2, a1, a2, a3⟩; subst a1 a2 a3; obtain ⟨A', n', c', rfl⟩ := ht.form; have hb3 := gro HB1.out hb2; have HT := Lib.hid (ht.alloc (.cells #[.int .i64 t'.op, .int .u64 (word t'.set 0), .int .u64 (word t'.set 1), .int .u64 (word t'.set 2), .int .u64 (word t'.set 3), .int .i64 t'.lo, .int .i64 t'.hi, .slice A' n' c'] 29)); have HB := Lib.hid (hb3.alloc hb3.size (.cells #[.int .i64 t'.op, .int .u64 (word t'.set 0), .int .u64 (word t'.set 1), .int .u64 (word t'.set 2), .int .u64 (word t'.set 3), .int .i64 t'.lo, .int .i64 t'.hi, .slice A' n' c'] 29)); have BX := Lib.hid (Box8.new w2 t' (.slice A' n' c')); obtain ⟨r0, r1, r2, r3, r4, r5, r6, r7⟩ := BX.out.cell; clear ht hb2 hb3; unfold nodeV)
    | (go_at_call 7; (with_reducible refine (HBU.out _ _ _ HT.out).mono ?_); rintro e w3 ⟨rfl, hb3⟩; have HB3 := Lib.hid (gro HB.out hb3); have hx3 := BX.out.stays hb3; clear r0 r1 r2 r3 r4 r5 r6 r7; obtain ⟨r0, r1, r2, r3, r4, r5, r6, r7⟩ := hx3.cell; have BX3 := Lib.hid hx3; have hl3 : w2.heap.size < w3.heap.size := hx3.lt; have HT3 := Lib.hid (HT.out.stays hb3); clear hx3 hb3)
    | (go_at_call 8; (with_reducible refine (HBD.out _ _ _ (HT3.out.alloc (.cells #[.slice none 0 0, .slice none 0 0, .slice none 0 0, .slice none 0 0, .bool false] 37))).mono ?_); rintro e w4 ⟨rfl, hb4⟩; have hb34 : Below w3.heap.size w3 w4 := gro ((Below.refl _ _).alloc (Nat.le_refl _) _) hb4; have HB4 := Lib.hid (gro HB3.out hb34); have hy4 := (BoxF.new w3 (.slice none 0 0) (.slice none 0 0) (.slice none 0 0) (.slice none 0 0) false).stays hb4; obtain ⟨a0, a1, a2, a3, a4⟩ := hy4.cell; have hl4' : w3.heap.size < w4.heap.size := hy4.lt; have BF4 := Lib.hid hy4; clear hy4 hb4 hb34)
    | (go_at_call 9; (with_reducible refine (code4_p _).mono ?_); rintro e w5 ⟨rfl, hb5⟩; have h45 := gro ((Below.refl w4.heap.size w4).alloc (Nat.le_refl _) (.cells #[.slice none 0 0, .slice none 0 0, .slice none 0 0, .slice none 0 0, .bool false] 42)) hb5; have HB5 := Lib.hid (gro HB4.out h45); clear a0 a1 a2 a3 a4; obtain ⟨a0, a1, a2, a3, a4⟩ := (BF4.out.stays h45).cell; clear hb5 h45)
    | fail)
  go_ret
  exact ⟨rfl, HB5.out⟩

theorem nfatells_p (w : World) (s : ByteArray) (A : Option Addr) (c : Nat) (xs : List Int) (hs : s.size ≤ 9223372036854775807) (hrd : RdB w w.heap.size A xs) (hby : ∀ k, k < xs.length → 0 ≤ xs.getD k 0 ∧ xs.getD k 0 ≤ 255) :
    Calls Try.prog 3 #[.string s, .slice A xs.length c] w fun e w' => e = .returned (.bool true) ∧ Below w.heap.size w w' := by
  cases hp : parse s with
  | error x =>
    obtain ⟨cc, aa⟩ := x
    exact nfatells_none hs hp
  | ok t =>
    by_cases hlen : xs.length ≤ 60
    · by_cases h256 : plR t ≤ 256
      · exact nfatells_few hs hrd hby hlen hp h256
      · exact nfatells_big hs hp hlen (by omega)
    · exact nfatells_long hs hp (by omega)
end Go.Proofs.Ytfgppmipaahleaa

/-
  How arguments that came in are opened for a walk: a set (an array of four words), a byte, a slice of bytes. No statement of its own.
-/
namespace Go.Proofs.Ytfgppmipaahleaa
open Go Go.ChangeShapes Go.WideShapes Go.ChangeAt Go.RowKit

theorem Try.ownKnobNone : ownKnob Try.prog.godebug = none := by kernel_rfl
theorem Try.laidOutOk : laidOutB Try.prog = true := by kernel_rfl
theorem Try.cellsSet : Try.prog.cellsOf 26 = 4 := by kernel_rfl
theorem Try.cellsWord : Try.prog.cellsOf 24 = 1 := by kernel_rfl

section
variable {H : Type} {enc : TypeId × Value → H} {W : World} {base : Nat} {spare : Nat → Bool} {held : Bool} {v : Value} {d : DataW H} {ps : List MemPlace}
theorem open_set (hv : Value.okWide Try.prog W .any base 26 v) (h : DataW.Trod enc Try.prog W 0 spare held 26 v d ps) :
    ∃ p : Nat → Bool, v = .agg #[.int .u64 (word p 0), .int .u64 (word p 1), .int .u64 (word p 2), .int .u64 (word p 3)] := by
  obtain ⟨cs, rfl, hsz, _⟩ : ∃ cs, v = .agg cs ∧ cs.size = Try.prog.cellsOf 26 ∧ Row.okWide Try.prog W .any base 26 cs := by
    simpa [Value.okWide, Try.underlying26] using hv
  rw [Try.cellsSet] at hsz
  obtain ⟨c0, c1, c2, c3, rfl⟩ := Go.Joins.array4 hsz
  obtain ⟨fuel, hf⟩ := h
  obtain ⟨y0, y1, y2, y3, m, hx, hy0, hy1, hy2, hy3⟩ := trod_array4 Try.underlying26 Try.cellsWord hf
  obtain ⟨x0, e0, _, w0⟩ := DataW.trod_int Try.underlying24 hy0
  obtain ⟨x1, e1, _, w1⟩ := DataW.trod_int Try.underlying24 hy1
  obtain ⟨x2, e2, _, w2⟩ := DataW.trod_int Try.underlying24 hy2
  obtain ⟨x3, e3, _, w3⟩ := DataW.trod_int Try.underlying24 hy3
  simp at e0 e1 e2 e3
  subst e0 e1 e2 e3
  obtain ⟨p, rfl, rfl, rfl, rfl⟩ := words_of x0 x1 x2 x3 (bounds_u64 w0) (bounds_u64 w1) (bounds_u64 w2) (bounds_u64 w3)
  exact ⟨p, rfl⟩
theorem open_byte (hv : Value.okWide Try.prog W .any base 5 v) (h : DataW.Trod enc Try.prog W 0 spare held 5 v d ps) :
    ∃ n : Int, v = .int .u8 n ∧ 0 ≤ n ∧ n ≤ 255 := by
  obtain ⟨x, rfl, _, _, wx⟩ := open_int Try.underlying5 hv h
  exact ⟨x, rfl, bounds_u8 wx⟩
/-- A slice of bytes that came in: its elements xs. -/
theorem open_bytes (hv : Value.okWide Try.prog W .any base 22 v) (h : DataW.Trod enc Try.prog W 0 (fun _ => true) held 22 v d ps) :
    ∃ A n cap xs, v = .slice A n cap ∧ n = xs.length ∧ RdB W W.heap.size A xs ∧ (∀ k, k < xs.length → 0 ≤ xs.getD k 0 ∧ xs.getD k 0 ≤ 255) ∧ n ≤ cap ∧ cap ≤ maxLen := by
  obtain ⟨A, n, cap, rfl⟩ := okWide_slice Try.underlying22 hv
  obtain ⟨fuel, hf⟩ := h
  rcases open_ints Try.underlying22 Try.underlying5 (by kernel_rfl) hf with ⟨hcs, _⟩ | ⟨x, l, c, zs, hcs, _, hl, hm, hz, _, hcell, hwz⟩
  · simp [Value.cells] at hcs
    obtain ⟨rfl, rfl, rfl⟩ := hcs
    exact ⟨none, 0, 0, [], rfl, rfl, fun k hk => by simp at hk, fun k hk => by simp at hk, Nat.le_refl _, Nat.zero_le _⟩
  · simp [Value.cells] at hcs
    obtain ⟨rfl, rfl, rfl⟩ := hcs
    simp at hz
    refine ⟨_, n, cap, zs.take n, rfl, by simp; omega, ?_, ?_, hl, hm⟩
    · intro k hk
      simp at hk
      obtain ⟨b, off, rfl, hc⟩ := ints_at hcell (by omega)
      have hck := hc k (by omega)
      refine ⟨b, off, rfl, World.block_lt_of_cell? W ⟨b, off + k, none⟩ hck, ?_⟩
      rw [hck, List.getD_eq_getElem?_getD, List.getD_eq_getElem?_getD, List.getElem?_take_of_lt (by omega)]
    · intro k hk
      have hk' := hk
      simp at hk'
      have hb := range_u8 hwz k
      rw [List.getD_eq_getElem?_getD, List.getElem?_take_of_lt (by omega)]
      exact hb
end

end Go.Proofs.Ytfgppmipaahleaa
