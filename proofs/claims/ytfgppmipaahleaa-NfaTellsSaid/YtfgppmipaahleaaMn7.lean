/-
  Several texts of this proof in one file: NfaAlt, NfaRep. No statement of its own.
-/
import Derived.Test.YtfgppmipaahleaaMn6
import Derived.Deep.CutRange
import Derived.Deep.DeepCutAuto
set_option linter.unusedVariables false
set_option linter.unusedSimpArgs false

/-
  nfa: one part or another one. Contracts for other texts; no statement of its own.
-/
namespace Go.Proofs.Ytfgppmipaahleaa
open Go Go.RowKit
attribute [local go_sem ↓] Go.wp_at_zero Go.wp_at_succ

section
variable {w w5 w6 w7 : World} {B gl g4 g5 : Nat} {s : Lay} {x y : Str} {Q Q5 : Nat → Prop} {v1 v2 u1 u2 z1 z2 : Value} {C : Nat}
theorem BoxS.put1 {w : World} {g : Nat} {v1 v2 : Value} {e : Bool} (h : BoxS w g v1 v2 e) (u : Value) : BoxS (w.setCell ⟨g, 1, none⟩ u) g v1 u e := by
  unfold BoxS at h ⊢
  rw [heap_setCell_same w g 1 _ _ u h]
  rfl
theorem BoxS.put2 {w : World} {g : Nat} {v1 v2 : Value} {e : Bool} (h : BoxS w g v1 v2 e) (e' : Bool) : BoxS (w.setCell ⟨g, 2, none⟩ (.bool e')) g v1 v2 e' := by
  unfold BoxS at h ⊢
  rw [heap_setCell_same w g 2 _ _ (.bool e') h]
  rfl
/-- What is known between both lists. -/
structure AltMid (w6 : World) (C g4 g5 g7 : Nat) (x y : Str) (v2 u1 u2 z1 : Value) (W : Nat) : Prop where
  last : Ints w6 W v2 (ns x.last)
  more : Ints w6 C u2 (ns y.last)
  b5 : BoxS w6 g5 z1 v2 x.empty
  b4 : BoxS w6 g4 (.slice none 0 0) (.slice none 0 0) false
  b7 : BoxS w6 g7 u1 u2 y.empty
theorem alt_mid (h : Hold w w5 B gl s x Q Q5 g4 g5 v1 v2) (hy : StrAt w5 C u1 u2 y Q5) (h2 : TwoS v1 v2 u1 u2)
    (g6 : (w5.alloc (.cells #[u1, u2, .bool y.empty] 87)).grownBy w6 v1.ownBlock) : AltMid (w6.setCell ⟨g5, 0, none⟩ z1) C g4 g5 w5.heap.size x y v2 u1 u2 z1 w.heap.size := by
  have hi := h.str.first.alloc (.cells #[u1, u2, .bool y.empty] 87)
  have b5 := (h.box.alloc (.cells #[u1, u2, .bool y.empty] 87)).grownI hi g6
  have b4 := (h.res.alloc (.cells #[u1, u2, .bool y.empty] 87)).grownI hi g6
  have b7 := (BoxS.new w5 u1 u2 y.empty).grownI hi g6
  have l5 := h.box.lt
  have zk : ∀ {v : Value} {l : List Int} {C : Nat}, Ints w6 C v l → ∀ b, v.ownBlock = some b → b ≠ g5 := fun hi b e => by
    obtain ⟨cur, hc⟩ := hi.kind e
    exact kind_apart hc b5 (by decide)
  have i2 := (h.str.last.alloc (.cells #[u1, u2, .bool y.empty] 87)).kept g6 fun b e e2 => h.str.apart b e2 e
  have j2 := (hy.last.alloc (.cells #[u1, u2, .bool y.empty] 87)).kept g6 fun b e e2 => h2.a12 b e2 e
  exact ⟨i2.block fun b e hb => Below.heap_setCell _ _ _ _ (zk i2 b e), j2.block fun b e hb => Below.heap_setCell _ _ _ _ (zk j2 b e), b5.put0 _, b4.far h.ne _, b7.far (by show w5.heap.size ≠ g5; omega) _⟩
theorem Hold.alted (h : Hold w w5 B gl s x Q Q5 g4 g5 v1 v2) (hy : StrAt w5 C u1 u2 y Q5) (h2 : TwoS v1 v2 u1 u2)
    (i6 : Ints w6 w.heap.size z1 (ns x.first ++ ns y.first)) (g6 : (w5.alloc (.cells #[u1, u2, .bool y.empty] 87)).grownBy w6 v1.ownBlock) (o6 : z1.ownBlock = v1.ownBlock ∨ z1.ownBlock = some (w5.alloc (.cells #[u1, u2, .bool y.empty] 87)).heap.size)
    (i7 : Ints w7 w.heap.size z2 (ns x.last ++ ns y.last)) (g7 : (w6.setCell ⟨g5, 0, none⟩ z1).grownBy w7 v2.ownBlock) (o7 : z2.ownBlock = v2.ownBlock ∨ z2.ownBlock = some (w6.setCell ⟨g5, 0, none⟩ z1).heap.size) :
    Hold w ((w7.setCell ⟨g5, 1, none⟩ z2).setCell ⟨g5, 2, none⟩ (.bool (x.empty || y.empty))) B gl s (altX x y) Q Q5 g4 g5 z1 z2 := by
  have hm := alt_mid (z1 := z1) h hy h2 g6
  have hs6 := g6.size
  rw [World.size_alloc] at hs6
  have hs7 : w6.heap.size ≤ w7.heap.size := by have := g7.size; simpa [World.setCell] using this
  have hsw := h.kept.size
  have l5 := h.box.lt
  have l4 := h.res.lt
  have b5 := hm.b5.grownI hm.last g7
  have b4 := hm.b4.grownI hm.last g7
  have B1 : ∀ b, z1.ownBlock = some b → v1.ownBlock = some b ∨ b = w5.heap.size + 1 := fun b e => by
    rcases o6 with o | o
    · exact .inl (o.symm.trans e)
    · rw [e] at o; injection o with o; exact .inr (by simpa using o)
  have B2 : ∀ b, z2.ownBlock = some b → v2.ownBlock = some b ∨ b = w6.heap.size := fun b e => by
    rcases o7 with o | o
    · exact .inl (o.symm.trans e)
    · rw [e] at o; injection o with o; exact .inr (by simpa [World.setCell] using o)
  have n1 : ∀ b, v1.ownBlock = some b → b < w5.heap.size ∧ ¬ Q5 b ∧ w.heap.size ≤ b := fun b e => ⟨(h.str.first.in e).2, h.str.out1 b e, (h.str.first.in e).1⟩
  have n2 : ∀ b, v2.ownBlock = some b → b < w5.heap.size ∧ ¬ Q5 b ∧ w.heap.size ≤ b := fun b e => ⟨(h.str.last.in e).2, h.str.out2 b e, (h.str.last.in e).1⟩
  have q5 : ∀ b, Q5 b → b < w5.heap.size := fun b e => (h.lay.ge b e).2
  have K : Kept (fun b => v1.ownBlock = some b ∨ v2.ownBlock = some b ∨ b = g5) w5 ((w7.setCell ⟨g5, 1, none⟩ z2).setCell ⟨g5, 2, none⟩ (.bool (x.empty || y.empty))) :=
    (((((((Kept.refl (fun b => v1.ownBlock = some b ∨ v2.ownBlock = some b ∨ b = g5) w5).alloc _).grown g6 fun b e => .inl (.inl e)).setCell (a := ⟨g5, 0, none⟩) (.inl (.inr (.inr rfl))) z1).grown g7 fun b e => .inl (.inr (.inl e))).setCell (a := ⟨g5, 1, none⟩) (.inl (.inr (.inr rfl))) _).setCell (a := ⟨g5, 2, none⟩) (.inl (.inr (.inr rfl))) _)
  have K6 : Kept (fun b => v2.ownBlock = some b ∨ b = g5) w6 ((w7.setCell ⟨g5, 1, none⟩ z2).setCell ⟨g5, 2, none⟩ (.bool (x.empty || y.empty))) :=
    (((((Kept.refl (fun b => v2.ownBlock = some b ∨ b = g5) w6).setCell (a := ⟨g5, 0, none⟩) (.inl (.inr rfl)) z1).grown g7 fun b e => .inl (.inl e)).setCell (a := ⟨g5, 1, none⟩) (.inl (.inr rfl)) _).setCell (a := ⟨g5, 2, none⟩) (.inl (.inr rfl)) _)
  have K7 : Kept (fun b => b = g5) w7 ((w7.setCell ⟨g5, 1, none⟩ z2).setCell ⟨g5, 2, none⟩ (.bool (x.empty || y.empty))) :=
    ((Kept.refl (fun b => b = g5) w7).setCell (a := ⟨g5, 1, none⟩) (.inl rfl) _).setCell (a := ⟨g5, 2, none⟩) (.inl rfl) _
  have k6 : ∀ b, z1.ownBlock = some b → b ≠ g5 := fun b e => by
    obtain ⟨cur, hc⟩ := i6.kind e
    have b6 := (h.box.alloc (.cells #[u1, u2, .bool y.empty] 87)).grownI (h.str.first.alloc (.cells #[u1, u2, .bool y.empty] 87)) g6
    exact kind_apart hc b6 (by decide)
  have k7 : ∀ b, z2.ownBlock = some b → b ≠ g5 := fun b e => by
    obtain ⟨cur, hc⟩ := i7.kind e
    exact kind_apart hc b5 (by decide)
  have I1 := i6.off K6 fun b e hq => by
    rcases hq with hq | hq
    · rcases B1 b e with h1 | h1
      · exact h.str.apart b h1 hq
      · have := (n2 b hq).1; omega
    · exact k6 b e hq
  have I2 := i7.off K7 k7
  rw [← ns_app] at I1 I2
  refine ⟨(b5.put1 _).put2 _, (b4.far h.ne _).far h.ne _, h.lay.off K fun b e hq => ?_, ⟨I1, I2, fun b e e2 => ?_, fun b e hq => ?_, fun b e hq => ?_⟩, h.kept.trans K fun b hq => ?_, h.new, h.n4, h.n5, h.h4, h.h5, h.ne⟩
  · rcases hq with hq | hq | hq
    · exact (n1 b hq).2.1 e
    · exact (n2 b hq).2.1 e
    · exact h.n5 (hq ▸ e)
  · rcases B1 b e with h1 | h1
    · rcases B2 b e2 with h3 | h3
      · exact h.str.apart b h1 h3
      · have := (n1 b h1).1; omega
    · rcases B2 b e2 with h3 | h3
      · have := (n2 b h3).1; omega
      · have := (i6.in e).2; omega
  · rcases B1 b e with h1 | h1
    · exact (n1 b h1).2.1 hq
    · have := q5 b hq; omega
  · rcases B2 b e with h1 | h1
    · exact (n2 b h1).2.1 hq
    · have := q5 b hq; omega
  · rcases hq with hq | hq | hq
    · exact .inr (n1 b hq).2.2
    · exact .inr (n2 b hq).2.2
    · exact .inr (by have := h.h5; omega)
end

set_option maxRecDepth 20000 in
set_option maxHeartbeats 4000000 in
theorem alt_p {N : Nat} (ih : LayFor N) {w : World} {B gl : Nat} {s : Lay} {Q : Nat → Prop} {t : T} {A : Option Addr} {n c : Nat} (hk : ∀ u ∈ t.kids, SizeOf.sizeOf u ≤ N ∧ WF u) (hlay : LayAt w B gl s Q) (ht : Tree w (fun b => ¬ Q b) t (.slice A n c)) (hB : B ≤ w.heap.size)
    (hl : LInv s) (h1000 : s.sets.length + plRL t.kids ≤ 1000) (hn100 : n ≤ 1000) :
    Calls Try.prog 54 #[.pointer (some ⟨gl, 0, none⟩), .slice A n c] w (RetLay w B gl w.heap.size (altP t.kids s .void).1 (altP t.kids s .void).2 Q Q) := by
  have hn := ht.bound.1
  have b4 := BoxS.new w (.slice none 0 0) (.slice none 0 0) false
  have hB1 : Below w.heap.size w (w.alloc (.cells #[.slice none 0 0, .slice none 0 0, .bool false] 87)) := (Below.refl _ _).alloc (Nat.le_refl _) _
  have hs0 : Hold w ((w.alloc (.cells #[.slice none 0 0, .slice none 0 0, .bool false] 87)).alloc (.cells #[.slice none 0 0, .slice none 0 0, .bool false] 87)) B gl s .void Q Q w.heap.size (w.alloc (.cells #[.slice none 0 0, .slice none 0 0, .bool false] 87)).heap.size (.slice none 0 0) (.slice none 0 0) :=
    Hold.start (x := .void) hB1 b4 (Nat.le_refl _) hlay (fun w C Q => str_void w C Q)
  rw [World.size_alloc] at hs0
  have HK := Lib.hid hk
  have HT := Lib.hid ht
  have HL := Lib.hid hl
  have H1000 := Lib.hid h1000
  have HN := Lib.hid hn
  have HBW := Lib.hid hB
  have HS := Lib.hid hs0
  clear hk hlay ht hl h1000 hn hB hs0 b4 hB1
  go_enter Try.func54, Try.ntmps54
  go_wp2
  go_loopg [10] n (fun m i wr => ∃ k : Nat, i = .int .i64 (k : Int) ∧ k ≤ n ∧ m = n - k ∧ ∃ v1 v2 Qr, Hold w wr B gl (altP (t.kids.take k) s .void).1 (altP (t.kids.take k) s .void).2 Q Qr w.heap.size (w.heap.size + 1) v1 v2)
  case atStart => exact ⟨0, rfl, Nat.zero_le _, rfl, _, _, _, by simpa [altP] using HS.out⟩
  case round =>
    obtain ⟨k, rfl, hk, hmk, v1, v2, Qr, hh⟩ := hrel
    have HMK := Lib.hid hmk
    clear hmk
    obtain ⟨A1, m1, c1, rfl⟩ := hh.str.first.form3
    obtain ⟨A2, m2, c2, rfl⟩ := hh.str.last.form3
    by_cases hkl : k < n
    · have hkl' : k < t.kids.length := by rw [← HN.out]; exact hkl
      have hmem := List.getElem_mem hkl'
      have hku := HK.out _ hmem
      have htk := plRL_take t.kids k hkl'
      have hle := plRL_le t.kids (k + 1)
      have hf := alt_facts (t.kids.take k) (fun u hu => (HK.out u (List.mem_of_mem_take hu)).2) s HL.out
      have hsn : altP (t.kids.take (k + 1)) s .void = _ := (congrArg (fun l => altP l s .void) (List.take_succ_eq_append_getElem hkl')).trans (altP_snoc _ _ _ _)
      obtain ⟨gk, rfl, hnode⟩ := node_kid (tree_kept HT.out hh.kept hh.new) k hkl'
      generalize t.kids[k]'hkl' = u at *
      obtain ⟨sk, hsk⟩ : ∃ sk, (altP (t.kids.take k) s .void).1 = sk := ⟨_, rfl⟩
      obtain ⟨xk, hxk⟩ : ∃ xk, (altP (t.kids.take k) s .void).2 = xk := ⟨_, rfl⟩
      rw [hsk, hxk] at hh hf hsn
      have hls := lay_facts hku.2 sk hf.inv
      have hhs := hh.kept.size
      have h1k := hf.size
      have h2k := hls.size
      have hBw : B ≤ w.heap.size := HBW.out
      have h1000 := H1000.out
      have nx := hf.nice.len
      have ny := hls.nice.len
      have hcall := ih u wr B gl sk Qr gk (k * 8) hku.1 hku.2 hh.lay hnode (by omega) hf.inv (by omega)
      unfold RetLay at hcall
      obtain ⟨yk, hyk⟩ : ∃ yk, (layP u sk).2 = yk := ⟨_, rfl⟩
      rw [hyk] at hcall hsn ny
      have HC := Lib.hid hcall
      have HH := Lib.hid hh
      have HSN := Lib.hid hsn
      have HLX : Hid (xk.first.length + yk.first.length ≤ 100000 ∧ xk.last.length + yk.last.length ≤ 100000) := by constructor <;> omega
      obtain ⟨ex, hex⟩ : ∃ e, xk.empty = e := ⟨_, rfl⟩
      obtain ⟨ey, hey⟩ : ∃ e, yk.empty = e := ⟨_, rfl⟩
      have HE := Lib.hid (And.intro hex hey)
      have hwz := hh.box.lt
      have k0 : (0 : Int) ≤ (k : Int) := by omega
      have k1 : (k : Int) < (n : Int) := by omega
      clear hcall hh hf hsn hku hnode htk hle hsk hxk hls h1k h2k hmem nx ny hyk hex hey
      go_wp2_with (first
        | (go_at_call 26; (refine HC.out.mono ?_); rintro e w5 ⟨u1, u2, Q5, rfl, l5, s5, k5, q5⟩; obtain ⟨A3, m3, c3, rfl⟩ := s5.first.form3; obtain ⟨A4, m4, c4, rfl⟩ := s5.last.form3; have h5 := HH.out.laid l5 k5 q5; have hs5 := k5.size; obtain ⟨d0, d1, d2⟩ := (h5.box.alloc (.cells #[.slice A3 m3 c3, .slice A4 m4 c4, .bool yk.empty] 87)).cell; obtain ⟨e0, e1, e2⟩ := (h5.box.alloc (.cells #[.slice A3 m3 c3, .slice A4 m4 c4, .bool yk.empty] 87)).frozen; obtain ⟨f0, f1, f2⟩ := (BoxS.new w5 (.slice A3 m3 c3) (.slice A4 m4 c4) yk.empty).cell; have I1 := Lib.hid (h5.str.first.alloc (.cells #[.slice A3 m3 c3, .slice A4 m4 c4, .bool yk.empty] 87)); have J1 := Lib.hid (s5.first.alloc (.cells #[.slice A3 m3 c3, .slice A4 m4 c4, .bool yk.empty] 87)); have H5 := Lib.hid h5; have S5 := Lib.hid s5; have T5 := Lib.hid (HH.out.two s5); clear h5 s5 l5 k5 q5)
        | (refine wpList_ints rfl _ _ (by rfl) (by rfl) (by rfl) I1.out J1.out (by rw [ns_len, ns_len]; exact HLX.out.1) (by simp; omega) ?_; intro z1 w6 i6 g6 o6; have hm := alt_mid (z1 := z1) H5.out S5.out T5.out g6; obtain ⟨A5, m5, c5, rfl⟩ := i6.form3; have hs6 := g6.size; rw [World.size_alloc] at hs6; obtain ⟨d0, d1, d2⟩ := ((H5.out.box.alloc (.cells #[.slice A3 m3 c3, .slice A4 m4 c4, .bool yk.empty] 87)).grownI I1.out g6).cell; obtain ⟨e0, e1, e2⟩ := ((H5.out.box.alloc (.cells #[.slice A3 m3 c3, .slice A4 m4 c4, .bool yk.empty] 87)).grownI I1.out g6).frozen; obtain ⟨f0, f1, f2⟩ := ((BoxS.new w5 (.slice A3 m3 c3) (.slice A4 m4 c4) yk.empty).grownI I1.out g6).cell; have HM := Lib.hid hm; clear hm)
        | (refine wpList_ints rfl _ _ (by rfl) (by rfl) (by rfl) HM.out.last HM.out.more (by rw [ns_len, ns_len]; exact HLX.out.2) (by simp [World.setCell]; omega) ?_; intro z2 w7 i7 g7 o7; obtain ⟨A6, m6, c6, rfl⟩ := i7.form3; obtain ⟨d0, d1, d2⟩ := (HM.out.b5.grownI HM.out.last g7).cell; obtain ⟨e0, e1, e2⟩ := (HM.out.b5.grownI HM.out.last g7).frozen; obtain ⟨f0, f1, f2⟩ := (HM.out.b7.grownI HM.out.last g7).cell))
      all_goals
        have hh2 := H5.out.alted S5.out T5.out i6 g6 o6 i7 g7 o7
        have HH2 := Lib.hid hh2
        clear hh2
        go_roundg (n - (k + 1))
        case measure => have := HMK.out; omega
        case rel =>
          have hh2 := HH2.out
          first
            | (have he : xk.empty = true := by assumption
               rw [he, Bool.true_or] at hh2
               exact ⟨k + 1, by go_num, by omega, rfl, _, _, Q5, by rw [HSN.out]; exact hh2⟩)
            | (have he : ¬ xk.empty = true := by assumption
               have he' : xk.empty = false := by simpa using he
               rw [he', Bool.false_or] at hh2
               exact ⟨k + 1, by go_num, by omega, rfl, _, _, Q5, by rw [HSN.out]; exact hh2⟩)
    · have hkn : k = t.kids.length := by rw [← HN.out]; omega
      rw [hkn, List.take_length] at hh
      obtain ⟨c0, c1', c2'⟩ := hh.box.cell
      obtain ⟨r0, r1, r2⟩ := hh.res.cell
      obtain ⟨q0, q1, q2⟩ := hh.res.frozen
      have HH := Lib.hid hh
      clear hh
      go_wp2
      refine ret_str (x := 4) rfl rfl rfl (HH.out.res.put _ _ _) ?_
      exact HH.out.told
end Go.Proofs.Ytfgppmipaahleaa

/-
  nfa: copies of a part, one behind the other, and one within another. Contracts for other texts; no statement of its own.
-/
namespace Go.Proofs.Ytfgppmipaahleaa
open Go Go.RowKit
attribute [local go_sem ↓] Go.wp_at_zero Go.wp_at_succ

/-- lay, of one pattern. -/
def LayOne (u : T) : Prop := ∀ (w : World) (B gl : Nat) (s : Lay) (Q : Nat → Prop) (g o : Nat), LayAt w B gl s Q → NodeIn w g o u Q → B ≤ w.heap.size → LInv s →
  s.sets.length + plR u ≤ 1000 → Calls Try.prog 26 #[.pointer (some ⟨gl, 0, none⟩), .pointer (some ⟨g, o, none⟩)] w (RetLay w B gl w.heap.size (layP u s).1 (layP u s).2 Q Q)
theorem within_facts {u : T} (hwf : WF u) (d : Nat) (s : Lay) (hl : LInv s) : Facts s (within (layP u) d s).1 (within (layP u) d s).2 (d * plR u) := by
  obtain ⟨h1, h4⟩ := lays_within (xs := []) (lays_wf hwf) d s hl
  exact ⟨h1.inv, ⟨_, h4⟩, within_size (lay_size hwf) d s⟩
theorem nice_within {u : T} (hwf : WF u) (d : Nat) {s : Lay} (hl : LInv s) {a : Nat} {x : Str} (h : Nice s a s.sets.length x) : Nice (within (layP u) d s).1 a s.sets.length x := by
  obtain ⟨R, h⟩ := h
  exact ⟨R, h.more (lays_within (xs := []) (lays_wf hwf) d s hl).1 (Nat.le_refl _)⟩
theorem copies_facts {u : T} (hwf : WF u) (m : Nat) (s : Lay) (hl : LInv s) : Facts s (copies (layP u) m s .nothing).1 (copies (layP u) m s .nothing).2 (m * plR u) := by
  obtain ⟨h1, _, _, h4⟩ := lays_copies (xs := []) (lays_wf hwf) m s .nothing s.sets.length 0 hl (good_nothing _)
  exact ⟨h1, ⟨_, h4⟩, copies_size (lay_size hwf) m s _⟩
theorem copies_snoc (f : Lay → Lay × Str) : ∀ (m : Nat) (s : Lay) (x : Str), copies f (m + 1) s x = (joinL (f (copies f m s x).1).1 (copies f m s x).2 (f (copies f m s x).1).2, joinX (copies f m s x).2 (f (copies f m s x).1).2)
  | 0, s, x => rfl
  | m + 1, s, x => by
    rw [copies, copies_snoc f m]
    rfl
/-- Behind a join: nothing has been put anywhere yet; g4 waits, and k is some box of a stretch. -/
structure Joined (w w9 : World) (B gl : Nat) (s9 : Lay) (z : Str) (Q Q9 : Nat → Prop) (g4 k : Nat) (z1 z2 : Value) : Prop where
  lay : LayAt w9 B gl s9 Q9
  str : StrAt w9 w.heap.size z1 z2 z Q9
  kept : Kept Q w w9
  new : ∀ b, Q9 b → Q b ∨ w.heap.size ≤ b
  res : BoxS w9 g4 (.slice none 0 0) (.slice none 0 0) false
  n4 : ¬ Q9 g4
  h4 : w.heap.size ≤ g4
  box : ∃ a b e, BoxS w9 k a b e
  nk : ¬ Q9 k
  hk : w.heap.size ≤ k
  ne : g4 ≠ k
theorem Hold.alloc {w wr : World} {B gl g4 g5 : Nat} {s : Lay} {x : Str} {Q Qr : Nat → Prop} {v1 v2 : Value} (h : Hold w wr B gl s x Q Qr g4 g5 v1 v2) (o : Obj) : Hold w (wr.alloc o) B gl s x Q Qr g4 g5 v1 v2 :=
  ⟨h.box.alloc o, h.res.alloc o, h.lay.alloc o, h.str.alloc o, h.kept.alloc o, h.new, h.n4, h.n5, h.h4, h.h5, h.ne⟩
theorem NodeIn.alloc {w : World} {Q : Nat → Prop} {g o : Nat} {t : T} (h : NodeIn w g o t Q) (ob : Obj) : NodeIn (w.alloc ob) g o t Q := h.kept ((Kept.refl Q w).alloc ob) fun b h => .inl h
theorem joined_of {w w8 w9 : World} {B gl g4 g5 k : Nat} {s8 s9 : Lay} {x z : Str} {Q Q8 Q9 : Nat → Prop} {v1 v2 z1 z2 a b : Value} {e : Bool} (h : Hold w w8 B gl s8 x Q Q8 g4 g5 v1 v2) (l9 : LayAt w9 B gl s9 Q9) (z9 : StrAt w9 w.heap.size z1 z2 z Q9)
    (k9 : Kept (fun b => Q8 b ∨ v1.ownBlock = some b ∨ v2.ownBlock = some b) w8 w9) (q9 : ∀ b, Q9 b → Q8 b ∨ w8.heap.size ≤ b) (bk : BoxS w8 k a b e) (nk : ¬ Q8 k) (hk : w.heap.size ≤ k) (ne : g4 ≠ k) :
    Joined w w9 B gl s9 z Q Q9 g4 k z1 z2 ∧ BoxS w9 k a b e := by
  have hs := h.kept.size
  have l4 := h.res.lt
  have lk := bk.lt
  have m : ∀ {g : Nat} {a b : Value} {e : Bool}, BoxS w8 g a b e → ¬ Q8 g → ¬ (Q8 g ∨ v1.ownBlock = some g ∨ v2.ownBlock = some g) := fun hg hn => by
    rintro (e | e | e)
    · exact hn e
    · obtain ⟨cur, hc⟩ := h.str.first.kind e; exact kind_apart hc hg (by decide) rfl
    · obtain ⟨cur, hc⟩ := h.str.last.kind e; exact kind_apart hc hg (by decide) rfl
  have b9 := bk.off k9 (m bk nk)
  refine ⟨⟨l9, z9, h.kept.trans k9 fun b e => ?_, fun b e => (q9 b e).elim (h.new b) fun e' => .inr (by omega), h.res.off k9 (m h.res h.n4), fun e => (q9 _ e).elim h.n4 fun e' => by omega, h.h4, ⟨a, b, e, b9⟩, fun e => (q9 _ e).elim nk fun e' => by omega, hk, ne⟩, b9⟩
  rcases e with e | e | e
  · exact h.new b e
  · exact .inr (h.str.first.in e).1
  · exact .inr (h.str.last.in e).1
/-- What is told then. -/
theorem Joined.told {w w9 wF : World} {B gl g4 k : Nat} {s9 : Lay} {z x' : Str} {Q Q9 : Nat → Prop} {z1 z2 : Value} (h : Joined w w9 B gl s9 z Q Q9 g4 k z1 z2) (K : Kept (fun b => b = g4 ∨ b = k) w9 wF) (hf : x'.first = z.first) (hl : x'.last = z.last) :
    RetLay w B gl w.heap.size s9 x' Q Q (.returned (.agg #[z1, z2, .bool x'.empty])) wF := by
  obtain ⟨a, b, e, bk⟩ := h.box
  have zk : ∀ {v : Value} {l : List Int} {C : Nat}, Ints w9 C v l → ∀ b, v.ownBlock = some b → ¬ (b = g4 ∨ b = k) := fun hi b e => by
    obtain ⟨cur, hc⟩ := hi.kind e
    rintro (e2 | e2)
    · exact kind_apart hc h.res (by decide) e2
    · exact kind_apart hc bk (by decide) e2
  refine ⟨z1, z2, Q9, rfl, h.lay.off K fun b e e2 => ?_, ⟨?_, ?_, h.str.apart, h.str.out1, h.str.out2⟩, h.kept.trans K fun b e => ?_, h.new⟩
  · rcases e2 with e2 | e2
    · exact h.n4 (e2 ▸ e)
    · exact h.nk (e2 ▸ e)
  · rw [hf]; exact h.str.first.off K (zk h.str.first)
  · rw [hl]; exact h.str.last.off K (zk h.str.last)
  · have := h.h4
    have := h.hk
    rcases e with e | e <;> exact .inr (by omega)
theorem Joined.moved {w w9 wF : World} {B gl g4 k k' : Nat} {s9 : Lay} {z : Str} {Q Q9 : Nat → Prop} {z1 z2 : Value} {a b : Value} {e : Bool} (h : Joined w w9 B gl s9 z Q Q9 g4 k z1 z2) (K : Kept (fun b => b = k) w9 wF) (hb : BoxS wF k' a b e) (hk : k' = k ∨ w9.heap.size ≤ k') :
    Joined w wF B gl s9 z Q Q9 g4 k' z1 z2 := by
  obtain ⟨a0, b0, e0, bk⟩ := h.box
  have zk : ∀ {v : Value} {l : List Int} {C : Nat}, Ints w9 C v l → ∀ b, v.ownBlock = some b → ¬ (b = k) := fun hi b e => by
    obtain ⟨cur, hc⟩ := hi.kind e
    exact kind_apart hc bk (by decide)
  have l4 := h.res.lt
  have hs := h.kept.size
  have h4 := h.h4
  have hne := h.ne
  have hhk := h.hk
  refine ⟨h.lay.off K fun b e e2 => h.nk (e2 ▸ e), ⟨h.str.first.off K (zk h.str.first), h.str.last.off K (zk h.str.last), h.str.apart, h.str.out1, h.str.out2⟩, h.kept.trans K fun b e => .inr (by omega), h.new, h.res.off K hne, h.n4, h.h4, ⟨a, b, e, hb⟩, fun e => ?_, ?_, ?_⟩
  · rcases hk with hk | hk
    · exact h.nk (hk ▸ e)
    · have := (h.lay.ge _ e).2; omega
  · rcases hk with hk | hk <;> omega
  · rcases hk with hk | hk <;> omega
theorem Joined.put {w w9 : World} {B gl g4 k : Nat} {s9 : Lay} {z : Str} {Q Q9 : Nat → Prop} {z1 z2 a b : Value} {e : Bool} (h : Joined w w9 B gl s9 z Q Q9 g4 k z1 z2) (hb : BoxS w9 k a b e) (u1 u2 : Value) (e' : Bool) :
    Joined w (((w9.setCell ⟨k, 0, none⟩ u1).setCell ⟨k, 1, none⟩ u2).setCell ⟨k, 2, none⟩ (.bool e')) B gl s9 z Q Q9 g4 k z1 z2 :=
  h.moved ((((Kept.refl (fun b => b = k) w9).setCell (a := ⟨k, 0, none⟩) (.inl rfl) _).setCell (a := ⟨k, 1, none⟩) (.inl rfl) _).setCell (a := ⟨k, 2, none⟩) (.inl rfl) _) (hb.put u1 u2 e') (.inl rfl)
theorem Joined.fresh {w w9 : World} {B gl g4 k : Nat} {s9 : Lay} {z : Str} {Q Q9 : Nat → Prop} {z1 z2 : Value} (h : Joined w w9 B gl s9 z Q Q9 g4 k z1 z2) (u1 u2 : Value) (e' : Bool) :
    Joined w (w9.alloc (.cells #[u1, u2, .bool e'] 87)) B gl s9 z Q Q9 g4 w9.heap.size z1 z2 :=
  h.moved ((Kept.refl (fun b => b = k) w9).alloc _) (BoxS.new w9 u1 u2 e') (.inr (Nat.le_refl _))
/-- A copy in a box, behind the call that laid it out. -/
theorem Hold.copied {w w1 w5 : World} {B gl g4 : Nat} {s5 : Lay} {y : Str} {Q Q5 : Nat → Prop} {u1 u2 : Value} (hb : Below w.heap.size w w1) (b4 : BoxS w1 g4 (.slice none 0 0) (.slice none 0 0) false) (h4 : w.heap.size ≤ g4) (hge : ∀ b, Q b → b < w.heap.size)
    (l5 : LayAt w5 B gl s5 Q5) (s5' : StrAt w5 w1.heap.size u1 u2 y Q5) (k5 : Kept Q w1 w5) (q5 : ∀ b, Q5 b → Q b ∨ w1.heap.size ≤ b) :
    Hold w (w5.alloc (.cells #[u1, u2, .bool y.empty] 87)) B gl s5 y Q Q5 g4 w5.heap.size u1 u2 := by
  have hs := hb.size
  have hs5 := k5.size
  have l4 := b4.lt
  have n4 : ¬ Q g4 := fun e => by have := hge _ e; omega
  exact ⟨BoxS.new w5 _ _ _, (b4.off k5 n4).alloc _, l5.alloc _, (s5'.low hs).alloc _, ((Kept.of_below Q hb).trans k5 fun b h => .inl h).alloc _, fun b e => (q5 b e).imp id fun e' => by omega,
    fun e => (q5 _ e).elim n4 fun e' => by omega, fun e => by have := (l5.ge _ e).2; omega, h4, by omega, by omega⟩

set_option maxRecDepth 20000 in
set_option maxHeartbeats 4000000 in
theorem within_p {u : T} (hu : LayOne u) (hwf : WF u) : ∀ (d : Nat) (w : World) (B gl : Nat) (s : Lay) (Q : Nat → Prop) (g o : Nat), d ≤ 1000 → LayAt w B gl s Q → NodeIn w g o u Q → B ≤ w.heap.size → LInv s → s.sets.length + d * plR u ≤ 1000 →
    Calls Try.prog 67 #[.pointer (some ⟨gl, 0, none⟩), .pointer (some ⟨g, o, none⟩), .int .i64 (d : Int)] w (RetLay w B gl w.heap.size (within (layP u) d s).1 (within (layP u) d s).2 Q Q) := by
  intro d
  induction d with
  | zero =>
    intro w B gl s Q g o _ hlay hnode hB hl h1000
    have HLAY := Lib.hid hlay
    have b4 := BoxS.new w (.slice none 0 0) (.slice none 0 0) false
    clear hlay hnode hB hl h1000
    go_enter Try.func67, Try.ntmps67
    go_wp2_with (go_at_call 65; (with_reducible refine (nothing_p _).mono ?_); rintro e wa ⟨rfl, hb1⟩; obtain ⟨d0, d1, d2⟩ := (b4.stays hb1).cell; obtain ⟨e0, e1, e2⟩ := (b4.stays hb1).frozen)
    refine ret_str (x := 6) rfl rfl rfl ((b4.stays hb1).put _ _ _) ?_
    have hb := gro1 (Below.refl _ _) hb1
    have K := ((((Kept.of_below Q hb).setCell (a := ⟨w.heap.size, 0, none⟩) (.inr (Nat.le_refl _)) (.slice none 0 0)).setCell (a := ⟨w.heap.size, 1, none⟩) (.inr (Nat.le_refl _)) (.slice none 0 0)).setCell (a := ⟨w.heap.size, 2, none⟩) (.inr (Nat.le_refl _)) (.bool true))
    have hn : ¬ Q w.heap.size := fun e => by have := (HLAY.out.ge _ e).2; omega
    exact ⟨_, _, Q, rfl, (((HLAY.out.stays hb).far hn _).far hn _).far hn _, str_nothing _ _ _, K, fun b h => .inl h⟩
  | succ d ih =>
    intro w B gl s Q g o hd hlay hnode hB hl h1000
    have hmul : (d + 1) * plR u = d * plR u + plR u := Nat.succ_mul _ _
    have b4 := BoxS.new w (.slice none 0 0) (.slice none 0 0) false
    have hb1 : Below w.heap.size w (w.alloc (.cells #[.slice none 0 0, .slice none 0 0, .bool false] 87)) := (Below.refl _ _).alloc (Nat.le_refl _) _
    have hcall := hu (w.alloc (.cells #[.slice none 0 0, .slice none 0 0, .bool false] 87)) B gl s Q g o (hlay.alloc _) (hnode.kept ((Kept.refl Q w).alloc _) fun b h => .inl h) (by simp; omega) hl (by omega)
    unfold RetLay at hcall
    have hf := lay_facts hwf s hl
    have hf2 := within_facts hwf d (layP u s).1 hf.inv
    have hn2 := nice_within hwf d hf.inv hf.nice
    have hsz := hf.size
    have hsz2 := hf2.size
    obtain ⟨s5, y1, e1⟩ : ∃ a b, layP u s = (a, b) := ⟨_, _, rfl⟩
    rw [e1] at hcall hf hf2 hn2 hsz hsz2
    obtain ⟨s8', y2, e2⟩ : ∃ a b, within (layP u) d s5 = (a, b) := ⟨_, _, rfl⟩
    have ihs := fun (w : World) (Q : Nat → Prop) h1 h2 h3 => ih w B gl s5 Q g o (by omega) h1 h2 h3 hf.inv (by simp only at hsz; omega)
    rw [e2] at hf2 hn2 hsz2 ihs
    have hW : within (layP u) (d + 1) s = (joinL s8' y1 y2, ⟨(joinX y1 y2).first, (joinX y1 y2).last, true⟩) := by
      show (joinL (within (layP u) d (layP u s).1).1 (layP u s).2 (within (layP u) d (layP u s).1).2, _) = _
      rw [e1]
      simp only [e2]
    rw [hW]
    simp only at hcall hf hf2 hn2 hsz hsz2 ihs ⊢
    have HC := Lib.hid hcall
    have HGE : Hid (∀ b, Q b → b < w.heap.size) := fun b e => (hlay.ge b e).2
    have HB4 := Lib.hid b4
    have HB1 := Lib.hid hb1
    have HNODE := Lib.hid (hnode.kept ((Kept.refl Q w).alloc (.cells #[.slice none 0 0, .slice none 0 0, .bool false] 87)) fun b h => .inl h)
    have HF := Lib.hid hf
    have HF2 := Lib.hid hf2
    have HN2 := Lib.hid hn2
    unfold RetLay at ihs
    have HIH := Lib.hid ihs
    have H1000 : Hid (s8'.sets.length ≤ 1000) := by
      show _ ≤ _
      omega
    have HBW := Lib.hid hB
    have hd0 : ¬ ((d : Int) + 1 ≤ 0) := by omega
    have hd1 : (d : Int) + 1 - 1 = d := by omega
    have hwr : IntKind.i64.wrap (d : Int) = (d : Int) := IntWalk.i64_in _ (by omega)
    have hcast : ((d + 1 : Nat) : Int) = (d : Int) + 1 := by omega
    rw [hcast]
    clear hlay hnode hl h1000 hcall hf hf2 hn2 hsz hsz2 b4 hb1 ih ihs hmul hcast hu hW e1 e2
    go_enter Try.func67, Try.ntmps67
    go_wp2_with (go_at_call 26; (refine HC.out.mono ?_); rintro e w5 ⟨u1, u2, Q5, rfl, l5, s5, k5, q5⟩; obtain ⟨A3, m3, c3, rfl⟩ := s5.first.form3; obtain ⟨A4, m4, c4, rfl⟩ := s5.last.form3; have h5 := Hold.copied HB1.out HB4.out (Nat.le_refl _) HGE.out l5 s5 k5 q5; have n5 := (HNODE.out.kept k5 q5).kept ((Kept.refl Q5 w5).alloc (.cells #[.slice A3 m3 c3, .slice A4 m4 c4, .bool y1.empty] 87)) (fun b h => .inl h); obtain ⟨f0, f1, f2⟩ := (BoxS.new w5 (.slice A3 m3 c3) (.slice A4 m4 c4) y1.empty).cell; have H5 := Lib.hid h5.drew; have N5 := Lib.hid n5.drew; have NK5 : Hid (¬ Q5 (w5.heap.size + 1)) := (fun e => by have := (l5.ge _ e).2; omega); have hs5 := k5.size; have HK5 : Hid (w.heap.size ≤ w5.heap.size + 1) := (by show _ ≤ _; simp at hs5; omega); have HNE5 : Hid (w.heap.size ≠ w5.heap.size + 1) := (by show _ ≠ _; simp at hs5; omega); clear h5 n5 l5 s5 k5 q5)
    go_upto_region 4 with fail
    go_cut [8] from 15 to 22 (fun s8 wx => ∃ k Q9 A7 m7 c7 A8 m8 c8, s8 = .pointer (some ⟨k, 0, none⟩) ∧ BoxS wx k (.slice A7 m7 c7) (.slice A8 m8 c8) (joinX y1 y2).empty ∧ Joined w wx B gl (joinL s8' y1 y2) (joinX y1 y2) Q Q9 w.heap.size k (.slice A7 m7 c7) (.slice A8 m8 c8))
    case first =>
      go_region_law (first
        | (go_simp; go_at_call 67; (refine (HIH.out _ _ H5.out.lay N5.out (Nat.le_trans HBW.out H5.out.kept.size)).mono ?_); have HA := Lib.hid H5.out; rintro e w8 ⟨p1, p2, Q8, rfl, l8, s8, k8, q8⟩; have h8 := HA.out.laid l8 k8 q8; obtain ⟨A5, m5, c5, rfl⟩ := s8.first.form3; obtain ⟨A6, m6, c6, rfl⟩ := s8.last.form3; obtain ⟨j0, j1, j2⟩ := h8.box.cell; have hl8 := h8.box.lt; have hsA := HA.out.kept.size; have H8 := Lib.hid h8; have S8 := Lib.hid (s8.low (C' := w.heap.size) hsA); have T8 := Lib.hid (HA.out.two s8); clear h8 s8 l8 k8 q8)
        | (go_simp; go_at_call 67; (refine (HIH.out _ _ (H5.out.alloc (.cells #[.slice none 0 0, .slice none 0 0, .bool false] 87)).lay (N5.out.alloc (.cells #[.slice none 0 0, .slice none 0 0, .bool false] 87)) (Nat.le_trans HBW.out (H5.out.alloc (.cells #[.slice none 0 0, .slice none 0 0, .bool false] 87)).kept.size)).mono ?_); have HA := Lib.hid (H5.out.alloc (.cells #[.slice none 0 0, .slice none 0 0, .bool false] 87)); rintro e w8 ⟨p1, p2, Q8, rfl, l8, s8, k8, q8⟩; have h8 := HA.out.laid l8 k8 q8; obtain ⟨A5, m5, c5, rfl⟩ := s8.first.form3; obtain ⟨A6, m6, c6, rfl⟩ := s8.last.form3; obtain ⟨j0, j1, j2⟩ := h8.box.cell; have hl8 := h8.box.lt; have hsA := HA.out.kept.size; have H8 := Lib.hid h8; have S8 := Lib.hid (s8.low (C' := w.heap.size) hsA); have T8 := Lib.hid (HA.out.two s8); have BK := Lib.hid ((show BoxS ((w5.alloc (.cells #[.slice A3 m3 c3, .slice A4 m4 c4, .bool y1.empty] 87)).drew.alloc (.cells #[.slice none 0 0, .slice none 0 0, .bool false] 87)) (w5.heap.size + 1) (.slice none 0 0) (.slice none 0 0) false from by have := BoxS.new (w5.alloc (.cells #[.slice A3 m3 c3, .slice A4 m4 c4, .bool y1.empty] 87)).drew (.slice none 0 0) (.slice none 0 0) false; simpa using this).off k8 NK5.out); have NK8 : Hid (¬ Q8 (w5.heap.size + 1)) := (fun e => (q8 _ e).elim NK5.out fun e' => by simp at e'; omega); clear h8 s8 l8 k8 q8)
        | (go_simp; go_at_call 66; have hj := join_p (a := s.sets.length) (b := s5.sets.length) (c := s8'.sets.length) (C := w.heap.size) H8.out.lay H8.out.str S8.out T8.out (Nat.le_trans HBW.out H8.out.kept.size) H8.out.kept.size HF2.out.inv HN2.out HF2.out.nice (Nat.le_refl _) H1000.out; (refine hj.mono ?_); rintro e w9 ⟨z1, z2, Q9, rfl, l9, s9, k9, q9⟩; clear hj; obtain ⟨A7, m7, c7, rfl⟩ := s9.first.form3; obtain ⟨A8, m8, c8, rfl⟩ := s9.last.form3; have J9 := joined_of H8.out l9 s9 k9 q9 BK.out NK8.out HK5.out HNE5.out; obtain ⟨yy0, yy1, yy2⟩ := J9.1.res.cell; obtain ⟨xx0, xx1, xx2⟩ := J9.1.res.frozen; obtain ⟨nn0, nn1, nn2⟩ := J9.2.cell; obtain ⟨oo0, oo1, oo2⟩ := J9.2.frozen; have hne9 := J9.1.ne; have BX9 := Lib.hid J9.2; have R9 := Lib.hid J9.1.res; have JJ := Lib.hid J9.1; clear J9 l9 s9 k9 q9)
        | (go_simp; go_at_call 66; have hj := join_p (a := s.sets.length) (b := s5.sets.length) (c := s8'.sets.length) (C := w.heap.size) H8.out.lay H8.out.str S8.out T8.out (Nat.le_trans HBW.out H8.out.kept.size) H8.out.kept.size HF2.out.inv HN2.out HF2.out.nice (Nat.le_refl _) H1000.out; (refine hj.mono ?_); rintro e w9 ⟨z1, z2, Q9, rfl, l9, s9, k9, q9⟩; clear hj; obtain ⟨A7, m7, c7, rfl⟩ := s9.first.form3; obtain ⟨A8, m8, c8, rfl⟩ := s9.last.form3; have J9 := joined_of H8.out l9 s9 k9 q9 H8.out.box H8.out.n5 H8.out.h5 H8.out.ne; have hl9 := J9.1.res.lt; obtain ⟨yy0, yy1, yy2⟩ := (J9.1.res.alloc (.cells #[.slice A7 m7 c7, .slice A8 m8 c8, .bool (joinX y1 y2).empty] 87)).cell; obtain ⟨xx0, xx1, xx2⟩ := (J9.1.res.alloc (.cells #[.slice A7 m7 c7, .slice A8 m8 c8, .bool (joinX y1 y2).empty] 87)).frozen; obtain ⟨nn0, nn1, nn2⟩ := (BoxS.new w9 (.slice A7 m7 c7) (.slice A8 m8 c8) (joinX y1 y2).empty).cell; obtain ⟨oo0, oo1, oo2⟩ := (BoxS.new w9 (.slice A7 m7 c7) (.slice A8 m8 c8) (joinX y1 y2).empty).frozen; have R9 := Lib.hid J9.1.res; have JJ := Lib.hid J9.1; clear J9 l9 s9 k9 q9)
        | (go_simp; go_at_call 66; have hj := join_p (a := s.sets.length) (b := s5.sets.length) (c := s8'.sets.length) (C := w.heap.size) (H8.out.alloc (.cells #[.slice none 0 0, .slice none 0 0, .bool false] 87)).lay (H8.out.alloc (.cells #[.slice none 0 0, .slice none 0 0, .bool false] 87)).str (S8.out.alloc (.cells #[.slice none 0 0, .slice none 0 0, .bool false] 87)) T8.out (Nat.le_trans HBW.out (H8.out.alloc (.cells #[.slice none 0 0, .slice none 0 0, .bool false] 87)).kept.size) (H8.out.alloc (.cells #[.slice none 0 0, .slice none 0 0, .bool false] 87)).kept.size HF2.out.inv HN2.out HF2.out.nice (Nat.le_refl _) H1000.out; (refine hj.mono ?_); rintro e w9 ⟨z1, z2, Q9, rfl, l9, s9, k9, q9⟩; clear hj; obtain ⟨A7, m7, c7, rfl⟩ := s9.first.form3; obtain ⟨A8, m8, c8, rfl⟩ := s9.last.form3; have J9 := joined_of (H8.out.alloc (.cells #[.slice none 0 0, .slice none 0 0, .bool false] 87)) l9 s9 k9 q9 (BoxS.new w8 (.slice none 0 0) (.slice none 0 0) false) (fun e => by have := (H8.out.lay.ge _ e).2; omega) H8.out.kept.size (by have := H8.out.res.lt; omega); obtain ⟨yy0, yy1, yy2⟩ := J9.1.res.cell; obtain ⟨xx0, xx1, xx2⟩ := J9.1.res.frozen; obtain ⟨nn0, nn1, nn2⟩ := J9.2.cell; obtain ⟨oo0, oo1, oo2⟩ := J9.2.frozen; have hne9 := J9.1.ne; have BX9 := Lib.hid J9.2; have R9 := Lib.hid J9.1.res; have JJ := Lib.hid J9.1; clear J9 l9 s9 k9 q9)
        | fail)
      all_goals
        go_wp2
        go_meet
        first
          | exact ⟨_, Q9, _, _, _, _, _, _, rfl, BoxS.new w9 _ _ _, JJ.out.fresh _ _ _⟩
          | exact ⟨_, Q9, _, _, _, _, _, _, rfl, BX9.out.put _ _ _, JJ.out.put BX9.out _ _ _⟩
    case rest =>
      obtain ⟨k, Q9, A7, m7, c7, A8, m8, c8, rfl, bk, jj⟩ := hcut
      obtain ⟨d0, d1, d2⟩ := bk.cell
      obtain ⟨e0, e1, e2⟩ := bk.frozen
      obtain ⟨r0, r1, r2⟩ := jj.res.cell
      obtain ⟨q0, q1, q2⟩ := jj.res.frozen
      have hne := jj.ne
      have BK := Lib.hid bk
      have JJ := Lib.hid jj
      clear bk jj
      go_wp2
      refine ret_str (x := 6) rfl rfl rfl ((JJ.out.res.far hne _).put _ _ _) ?_
      exact JJ.out.told ((((((Kept.refl (fun b => b = w.heap.size ∨ b = k) wc).setCell (a := ⟨k, 2, none⟩) (.inl (.inr rfl)) _).setCell (a := ⟨w.heap.size, 0, none⟩) (.inl (.inl rfl)) _).setCell (a := ⟨w.heap.size, 1, none⟩) (.inl (.inl rfl)) _).setCell (a := ⟨w.heap.size, 2, none⟩) (.inl (.inl rfl)) _)) rfl rfl
end Go.Proofs.Ytfgppmipaahleaa
