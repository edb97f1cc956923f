/-
  Several texts of this proof in one file: Eq4, Law4c, EndsMath, Ends. No statement of its own.
-/
import Derived.Test.YtfgppmipaahleaaMn1
import Derived.Laws.StructEq
import Derived.Test.YtfgppmipaahleaaMn15
import Derived.Test.YtfgppmipaahleaaMn19
import Derived.Test.YtfgppmipaahleaaMn4
import Derived.Test.YtfgppmipaahleaaMn18
import Derived.Test.YtfgppmipaahleaaMn9
import Derived.Test.YtfgppmipaahleaaMn2
import Derived.StillTailTactics
set_option linter.unusedVariables false
set_option linter.unusedSimpArgs false

/-
  How Go's == on two sets (arrays of four words) goes in the model: true just if all four words are the same. A law for other texts; no statement of its own.
-/
namespace Go.Proofs.Ytfgppmipaahleaa
open Go Go.RowKit

theorem eq4 (a0 a1 a2 a3 b0 b1 b2 b3 : Int) (w : World) :
    (Op.equalIn 10000 26 (.agg #[.int .u64 a0, .int .u64 a1, .int .u64 a2, .int .u64 a3]) (.agg #[.int .u64 b0, .int .u64 b1, .int .u64 b2, .int .u64 b3])).run Try.prog w = .ok (a0 == b0 && a1 == b1 && a2 == b2 && a3 == b3) w := by
  have hs : ∀ w : World, (sizeOf 24).run Try.prog w = .ok 1 w := fun _ => by kernel_rfl
  have p0 : ∀ (c0 c1 c2 c3 : Int) (w : World), (part 24 #[.int .u64 c0, .int .u64 c1, .int .u64 c2, .int .u64 c3] 0).run Try.prog w = .ok (.int .u64 c0) w := fun _ _ _ _ _ => by kernel_rfl
  have p1 : ∀ (c0 c1 c2 c3 : Int) (w : World), (part 24 #[.int .u64 c0, .int .u64 c1, .int .u64 c2, .int .u64 c3] 1).run Try.prog w = .ok (.int .u64 c1) w := fun _ _ _ _ _ => by kernel_rfl
  have p2 : ∀ (c0 c1 c2 c3 : Int) (w : World), (part 24 #[.int .u64 c0, .int .u64 c1, .int .u64 c2, .int .u64 c3] 2).run Try.prog w = .ok (.int .u64 c2) w := fun _ _ _ _ _ => by kernel_rfl
  have p3 : ∀ (c0 c1 c2 c3 : Int) (w : World), (part 24 #[.int .u64 c0, .int .u64 c1, .int .u64 c2, .int .u64 c3] 3).run Try.prog w = .ok (.int .u64 c3) w := fun _ _ _ _ _ => by kernel_rfl
  have pe : ∀ (a b : Int) (w : World), (Op.equalIn 9999 24 (.int .u64 a) (.int .u64 b)).run Try.prog w = .ok (a == b) w := fun a b w => run_equalIn_int (P := Try.prog) w 9998 24 .u64 .u64 a b Try.underlying24
  rw [show (10000 : Nat) = 9999 + 1 from rfl]
  unfold Op.equalIn
  simp only [Sem.run_bind, run_underlying Try.underlying26, Result.andThen_ok, hs]
  simp only [Std.Legacy.Range.forIn_eq_forIn_range', Std.Legacy.Range.size]
  simp only [show List.range' 0 ((4 - 0 + 1 - 1) / 1) 1 = [0, 1, 2, 3] from rfl, List.forIn_cons, List.forIn_nil, Sem.run_bind, p0, p1, p2, p3, pe, Result.andThen_ok, Nat.zero_mul, Nat.one_mul, Nat.mul_one]
  cases h0 : a0 == b0 <;> cases h1 : a1 == b1 <;> cases h2 : a2 == b2 <;> cases h3 : a3 == b3 <;> simp [p1, p2, p3, pe, go_sem, h1, h2, h3]

end Go.Proofs.Ytfgppmipaahleaa

/-
  Layer 4's law: an error's number, two lists of truths that are one. Contracts for other texts; no statement of its own.
-/
namespace Go.Proofs.Ytfgppmipaahleaa
open Go Go.RowKit
attribute [local go_sem ↓] Go.wp_at_zero Go.wp_at_succ

set_option maxRecDepth 20000 in
set_option maxHeartbeats 2000000 in
theorem bools_p {w : World} {g1 g2 n : Nat} {F : Nat → Bool} (hv : ∀ k, k < n → w.cell? ⟨g1, k, none⟩ = some (.bool (F k))) (hu : ∀ k, k < n → w.cell? ⟨g2, k, none⟩ = some (.bool (F k))) (l1 : g1 < w.heap.size) (l2 : g2 < w.heap.size) (hn : n ≤ 100000) : Calls Try.prog 11 #[.slice (some ⟨g1, 0, none⟩) n n, .slice (some ⟨g2, 0, none⟩) n n] w fun e w' => e = .returned (.int .i64 1) ∧ Below w.heap.size w w' := by
  have HV := Lib.hid hv
  have HU := Lib.hid hu
  clear hv hu
  go_enter Try.func11, Try.ntmps11
  go_wp2
  go_loopg [5] n (fun m i wr => ∃ k : Nat, i = .int .i64 (k : Int) ∧ k ≤ n ∧ m = n - k ∧ Below w.heap.size w wr)
  case atStart => exact ⟨0, by first | rfl | trivial, Nat.zero_le _, by first | rfl | trivial, Below.refl _ _⟩
  case round =>
    obtain ⟨k, rfl, hk, hmk, hW⟩ := hrel
    have HMK := Lib.hid hmk
    clear hmk
    by_cases hkl : k < n
    · have h1 := (hW.cell (p := ⟨g1, k, none⟩) l1).trans (HV.out k hkl)
      have h2 := (hW.cell (p := ⟨g2, k, none⟩) l2).trans (HU.out k hkl)
      obtain ⟨y, hy⟩ : ∃ y, F k = y := ⟨_, rfl⟩
      rw [hy] at h1 h2
      have k0 : (0 : Int) ≤ (k : Int) := by omega
      have k1 : (k : Int) < (n : Int) := by omega
      have HW := Lib.hid hW
      clear hW hy
      cases y
      all_goals
        go_wp2
        go_quiet (fail)
        go_wp2
        go_roundg (n - (k + 1))
        case measure => have := HMK.out; omega
        case rel => exact ⟨k + 1, by go_num, by omega, rfl, below_dn HW.out _⟩
    · have hkL : k = n := by omega
      subst hkL
      go_wp2
      go_ret
      exact ⟨rfl, hW⟩

set_option maxRecDepth 20000 in
set_option maxHeartbeats 2000000 in
theorem code4_p (w : World) : Calls Try.prog 9 #[.iface 83 (.int .i64 4)] w fun e w' => e = .returned (.int .i64 4) ∧ Below w.heap.size w w' := by
  have e1 : ∀ w : World, (binOp .eql 39 (.iface 83 (.int .i64 4)) (.iface 83 (.int .i64 1))).run Try.prog w = .ok (.bool false) w := fun w => by kernel_rfl
  have e2 : ∀ w : World, (binOp .eql 39 (.iface 83 (.int .i64 4)) (.iface 83 (.int .i64 2))).run Try.prog w = .ok (.bool false) w := fun w => by kernel_rfl
  have e3 : ∀ w : World, (binOp .eql 39 (.iface 83 (.int .i64 4)) (.iface 83 (.int .i64 3))).run Try.prog w = .ok (.bool false) w := fun w => by kernel_rfl
  have e4 : ∀ w : World, (binOp .eql 39 (.iface 83 (.int .i64 4)) (.iface 83 (.int .i64 4))).run Try.prog w = .ok (.bool true) w := fun w => by kernel_rfl
  go_enter Try.func9, Try.ntmps9
  go_wp2
  go_loopg [3] 3 (fun m c wr => ∃ k : Nat, c = .int .i64 (k : Int) ∧ 1 ≤ k ∧ k ≤ 4 ∧ m = 4 - k ∧ Below w.heap.size w wr)
  case atStart => exact ⟨1, by first | rfl | trivial, by omega, by omega, by first | rfl | trivial, Below.refl _ _⟩
  case round =>
    obtain ⟨k, rfl, h1, h4, hm, hW⟩ := hrel
    have HM := Lib.hid hm
    have HW := Lib.hid hW
    clear hm hW
    have hk : k = 1 ∨ k = 2 ∨ k = 3 ∨ k = 4 := by omega
    rcases hk with rfl | rfl | rfl | rfl
    · go_wp2
      go_roundg 2
      case measure => have := HM.out; omega
      case rel => exact ⟨2, rfl, by omega, by omega, rfl, HW.out⟩
    · go_wp2
      go_roundg 1
      case measure => have := HM.out; omega
      case rel => exact ⟨3, rfl, by omega, by omega, rfl, HW.out⟩
    · go_wp2
      go_roundg 0
      case measure => have := HM.out; omega
      case rel => exact ⟨4, rfl, by omega, by omega, rfl, HW.out⟩
    · go_wp2
      go_ret
      exact ⟨rfl, HW.out⟩
end Go.Proofs.Ytfgppmipaahleaa

/-
  Words of the kids up to one: plain mathematics; no statement of its own.
-/
namespace Go.Proofs.Ytfgppmipaahleaa
open Go Go.RowKit

theorem EAny_take {xs : List Int} (l : List T) (j : Nat) (h : j < l.length) (i x : Nat) : EAny xs (l.take (j + 1)) i x ↔ EAny xs (l.take j) i x ∨ E xs (l[j]'h) i x := by
  rw [List.take_succ_eq_append_getElem h, EAny_iff, EAny_iff]
  simp only [List.mem_append, List.mem_singleton]
  constructor
  · rintro ⟨t, h1 | h1, h2⟩
    · exact .inl ⟨t, h1, h2⟩
    · exact .inr (h1 ▸ h2)
  · rintro (⟨t, h1, h2⟩ | h2)
    · exact ⟨t, .inl h1, h2⟩
    · exact ⟨_, .inr rfl, h2⟩
theorem ECat_take {xs : List Int} (l : List T) (j : Nat) (h : j < l.length) (i x : Nat) : ECat xs (l.take (j + 1)) i x ↔ ∃ y, ECat xs (l.take j) i y ∧ E xs (l[j]'h) y x := by
  rw [List.take_succ_eq_append_getElem h, ECat_app]
  simp [ECat]
end Go.Proofs.Ytfgppmipaahleaa

/-
  The document's own Ends: where a word may end that begins at a place: of a single byte, of one of several kids. Contracts for other texts; no statement of its own.
-/
namespace Go.Proofs.Ytfgppmipaahleaa
open Go Go.RowKit
attribute [local go_sem ↓] Go.wp_at_zero Go.wp_at_succ

theorem nodup_le : ∀ (n : Nat) (l : List Int), l.Nodup → (∀ x ∈ l, 0 ≤ x ∧ x ≤ (n : Int)) → l.length ≤ n + 1
  | 0, l, h, hb => by
    match l, h, hb with
    | [], _, _ => simp
    | [a], _, _ => simp
    | a :: b :: l, h, hb =>
      have h1 := hb a (by simp)
      have h2 := hb b (by simp)
      simp at h
      omega
  | n + 1, l, h, hb => by
    by_cases hm : ((n + 1 : Nat) : Int) ∈ l
    · have h1 := nodup_le n (l.erase ((n + 1 : Nat) : Int)) (h.erase _) fun x hx => by
        have hx' := (List.Nodup.mem_erase_iff h).1 hx
        have := hb x hx'.2
        have hne := hx'.1
        omega
      rw [List.length_erase_of_mem hm] at h1
      omega
    · have h1 := nodup_le n l h fun x hx => by
        have := hb x hx
        have hne : x ≠ ((n + 1 : Nat) : Int) := fun e => hm (e ▸ hx)
        omega
      omega

/-- A list of the places that P tells, each once. -/
def Lists (P : Nat → Prop) (l : List Int) : Prop := l.Nodup ∧ ∀ x, x ∈ l ↔ ∃ j : Nat, x = j ∧ P j
theorem Lists.nil : Lists (fun _ => False) [] := ⟨List.nodup_nil, fun x => by simp⟩
theorem Lists.one (i : Nat) : Lists (fun j => j = i) [(i : Int)] := ⟨by simp, fun x => by
  simp⟩
theorem Lists.congr {P Q : Nat → Prop} {l : List Int} (h : Lists P l) (hq : ∀ j, P j ↔ Q j) : Lists Q l := ⟨h.1, fun x => by
  rw [h.2]
  constructor
  · rintro ⟨j, e, hp⟩; exact ⟨j, e, (hq j).1 hp⟩
  · rintro ⟨j, e, hp⟩; exact ⟨j, e, (hq j).2 hp⟩⟩
theorem Lists.len {P : Nat → Prop} {l : List Int} {n : Nat} (h : Lists P l) (hb : ∀ j, P j → j ≤ n) : l.length ≤ n + 1 :=
  nodup_le n l h.1 fun x hx => by
    obtain ⟨j, e, hp⟩ := (h.2 x).1 hx
    have := hb j hp
    omega
/-- One after the other is added. -/
def addAll (l : List Int) : List Int → List Int
  | [] => l
  | a :: bs => addAll (addL l a) bs
theorem addAll_snoc : ∀ (bs l : List Int) (a : Int), addAll l (bs ++ [a]) = addL (addAll l bs) a
  | [], l, a => rfl
  | b :: bs, l, a => addAll_snoc bs (addL l b) a
theorem addAll_take (l bs : List Int) (k : Nat) (h : k < bs.length) : addAll l (bs.take (k + 1)) = addL (addAll l (bs.take k)) (bs[k]'h) := by
  rw [List.take_succ_eq_append_getElem h, addAll_snoc]
theorem addAll_mem : ∀ (bs l : List Int) (x : Int), x ∈ addAll l bs ↔ x ∈ l ∨ x ∈ bs
  | [], l, x => by simp [addAll]
  | a :: bs, l, x => by simp [addAll, addAll_mem bs, addL_mem, or_assoc]
theorem addAll_nodup : ∀ (bs l : List Int), l.Nodup → (addAll l bs).Nodup
  | [], l, h => h
  | a :: bs, l, h => addAll_nodup bs _ (addL_nodup l a h)
theorem addAll_len : ∀ (bs l : List Int), (addAll l bs).length ≤ l.length + bs.length
  | [], l => Nat.le_refl _
  | a :: bs, l => by
    have h1 := addAll_len bs (addL l a)
    have h2 := addL_len l a
    simp only [addAll, List.length_cons]
    omega
theorem Lists.add {P Q : Nat → Prop} {l bs : List Int} (h : Lists P l) (h' : Lists Q bs) : Lists (fun j => P j ∨ Q j) (addAll l bs) := ⟨addAll_nodup bs l h.1, fun x => by
  rw [addAll_mem, h.2, h'.2]
  constructor
  · rintro (⟨j, e, hp⟩ | ⟨j, e, hp⟩)
    · exact ⟨j, e, .inl hp⟩
    · exact ⟨j, e, .inr hp⟩
  · rintro ⟨j, e, hp | hp⟩
    · exact .inl ⟨j, e, hp⟩
    · exact .inr ⟨j, e, hp⟩⟩

/-- What Ends tells. -/
def RetEnds (w : World) (P : Nat → Prop) (e : Ending) (w' : World) : Prop := ∃ v l, e = .returned v ∧ Ints w' w.heap.size v l ∧ Lists P l ∧ Below w.heap.size w w'

/-- What is asked of a call: a pattern, bytes, a place. -/
structure EndsAsk (w : World) (ok : Nat → Prop) (t : T) (k : Value) (xs : List Int) (A : Option Addr) (i : Nat) : Prop where
  wf : WF t
  tree : Tree w ok t k
  rd : RdB w w.heap.size A xs
  byte : ∀ k, k < xs.length → 0 ≤ xs.getD k 0 ∧ xs.getD k 0 ≤ 255
  len : xs.length ≤ 100000
  le : i ≤ xs.length

set_option maxRecDepth 20000 in
set_option maxHeartbeats 2000000 in
theorem endsD_one {w : World} {ok : Nat → Prop} {t : T} {k : Value} {xs : List Int} {A : Option Addr} {i c : Nat} (h : EndsAsk w ok t k xs A i) (h1 : t.op = 1) :
    Calls Try.prog 34 #[nodeP t k, .slice A xs.length c, .int .i64 i] w (RetEnds w (E xs t i)) := by
  have hE : ∀ j, E xs t i j ↔ i < xs.length ∧ t.set (xs.getD i 0).toNat = true ∧ j = i + 1 := by
    intro j
    cases t with
    | mk op p lo hi l =>
      have e : op = 1 := h1
      subst e
      exact E_one
  obtain ⟨A', n', c', rfl⟩ := h.tree.form
  have hb1 : (t.op == 1) = true := by simp [h1]
  have hlen := h.len
  have b1 := Box8.new w t (.slice A' n' c')
  have hB : Below w.heap.size w (w.alloc (.cells #[.int .i64 t.op, .int .u64 (word t.set 0), .int .u64 (word t.set 1), .int .u64 (word t.set 2), .int .u64 (word t.set 3), .int .i64 t.lo, .int .i64 t.hi, .slice A' n' c'] 29)) := (Below.refl _ _).alloc (Nat.le_refl _) _
  have HE := Lib.hid hE
  clear hE h1
  by_cases hlt : i < xs.length
  · obtain ⟨b, off, hA, hb, hc⟩ := h.rd.at hlt
    subst hA
    obtain ⟨y0, y1⟩ := h.byte i hlt
    have hcell := cell_stays (hc i hlt) hB
    have hHK := fun W => rhas_p t.set (xs.getD i 0) W y0 y1
    generalize hx : xs.getD i 0 = x at *
    have HX := Lib.hid hx
    have HHK := Lib.hid hHK
    have HH := Lib.hid h
    clear hx hHK hc h
    generalize hL : xs.length = L at *
    have HL := Lib.hid hL
    clear hL
    have i0 : (0 : Int) ≤ (i : Int) := by omega
    have i1 : (i : Int) < (L : Int) := by omega
    unfold nodeP
    cases hs : t.set x.toNat
    · have HS := Lib.hid hs
      have HHK2 : Hid (∀ W, Calls Try.prog 57 #[.agg #[.int .u64 (word t.set 0), .int .u64 (word t.set 1), .int .u64 (word t.set 2), .int .u64 (word t.set 3)], .int .u8 x] W fun e w' => e = .returned (.bool false) ∧ Below W.heap.size W w') := fun W => (HHK.out W).mono fun e w' k => by rw [HS.out] at k; exact k
      clear hs HHK
      go_enter Try.func34, Try.ntmps34
      go_wp2
      generalize w.alloc (.cells #[.int .i64 t.op, .int .u64 (word t.set 0), .int .u64 (word t.set 1), .int .u64 (word t.set 2), .int .u64 (word t.set 3), .int .i64 t.lo, .int .i64 t.hi, .slice A' n' c'] 29) = w1 at *
      obtain ⟨c0, c1, c2, c3, c4, c5, c6, c7⟩ := b1.cell
      go_still_tail 6, (by kernel_rfl)
      change wpList _ _ _ _ _ (World.drew _)
      go_wp2_with (go_at_call 57; (refine (HHK2.out _).mono ?_); rintro e w5 ⟨rfl, hb5⟩)
      go_ret
      refine ⟨_, [], rfl, Ints.nil _ _, Lists.nil.congr fun j => ?_, gro hB (undrew hb5)⟩
      rw [HE.out, HS.out]
      simp
    · have HS := Lib.hid hs
      have HHK2 : Hid (∀ W, Calls Try.prog 57 #[.agg #[.int .u64 (word t.set 0), .int .u64 (word t.set 1), .int .u64 (word t.set 2), .int .u64 (word t.set 3)], .int .u8 x] W fun e w' => e = .returned (.bool true) ∧ Below W.heap.size W w') := fun W => (HHK.out W).mono fun e w' k => by rw [HS.out] at k; exact k
      clear hs HHK
      go_enter Try.func34, Try.ntmps34
      go_wp2
      generalize w.alloc (.cells #[.int .i64 t.op, .int .u64 (word t.set 0), .int .u64 (word t.set 1), .int .u64 (word t.set 2), .int .u64 (word t.set 3), .int .i64 t.lo, .int .i64 t.hi, .slice A' n' c'] 29) = w1 at *
      obtain ⟨c0, c1, c2, c3, c4, c5, c6, c7⟩ := b1.cell
      go_still_tail 6, (by kernel_rfl)
      change wpList _ _ _ _ _ (World.drew _)
      go_wp2_with (go_at_call 57; (refine (HHK2.out _).mono ?_); rintro e w5 ⟨rfl, hb5⟩)
      go_ret
      have hB5 := gro hB (undrew hb5)
      refine ⟨_, [((i + 1 : Nat) : Int)], rfl, World.ownsRow_lit w5 #[.int .i64 ((i : Int) + 1)] 1 hB5.size (by decide) rfl, (Lists.one (i + 1)).congr fun j => ?_, hB5.alloc hB5.size _⟩
      rw [HE.out, HS.out]
      simp [hlt]
  · have hge : ¬ i < xs.length := hlt
    generalize hL : xs.length = L at *
    have HL := Lib.hid hL
    have HH := Lib.hid h
    clear hL h
    unfold nodeP
    go_enter Try.func34, Try.ntmps34
    go_wp2
    go_ret
    refine ⟨_, [], rfl, Ints.nil _ _, Lists.nil.congr fun j => ?_, hB⟩
    rw [HE.out]
    simp [hge]

/-- Two lists, of which the first grows. -/
structure Two (w : World) (B : Nat) (vo : Value) (lo : List Int) (C : Nat) (vl : Value) (l : List Int) : Prop where
  out : Ints w B vo lo
  one : Ints w C vl l
  apart : ∀ g, vo.ownBlock = some g → vl.ownBlock ≠ some g
theorem Two.start {w w' : World} {B : Nat} {vo vl : Value} {lo l : List Int} (h : Ints w B vo lo) (hb : Below w.heap.size w w') (hl : Ints w' w.heap.size vl l) : Two w' B vo lo w.heap.size vl l :=
  ⟨h.stays hb, hl, fun g e e' => by
    have h1 := (World.ownsRow.lt h g e).2
    have h2 := (World.ownsRow.lt hl g e').1
    omega⟩
theorem Two.added {w w' : World} {B C : Nat} {vo vl v' : Value} {lo l : List Int} {n : Int} (h : Two w B vo lo C vl l) (h' : Ints w' B v' (addL lo n)) (hg : w.grownBy w' vo.ownBlock) (hv : v'.ownBlock = vo.ownBlock ∨ ∃ g, v'.ownBlock = some g ∧ w.heap.size ≤ g) :
    Two w' B v' (addL lo n) C vl l :=
  ⟨h', h.one.kept hg (fun g e e' => h.apart g e' e), fun g e e' => by
    rcases hv with hv | ⟨g', hv, hg'⟩
    · exact h.apart g (hv ▸ e) e'
    · rw [hv] at e
      injection e with e
      have := (World.ownsRow.lt h.one g e').2
      omega⟩
theorem row_at {B : Nat} {w : World} {v : Value} {l : List Int} (h : Ints w B v l) : ∀ j, v.ownBlock = some j → B ≤ j := fun j e => (World.ownsRow.lt h j e).1

theorem EndsAsk.kid {w w' : World} {ok : Nat → Prop} {t : T} {k : Value} {xs : List Int} {A : Option Addr} {i i' : Nat} (h : EndsAsk w ok t k xs A i) {u : T} {k' : Value} (hu : u ∈ t.kids) (htk : Tree w ok u k') (hb : Below w.heap.size w w') (hi : i' ≤ xs.length) : EndsAsk w' ok u k' xs A i' :=
  ⟨h.wf.kid hu, htk.stays hb, (h.rd.below hb).more hb.size, h.byte, h.len, hi⟩

def EndsFor (N : Nat) : Prop := ∀ (t : T) (w : World) (ok : Nat → Prop) (k : Value) (xs : List Int) (A : Option Addr) (i c : Nat), SizeOf.sizeOf t ≤ N → EndsAsk w ok t k xs A i →
    Calls Try.prog 34 #[nodeP t k, .slice A xs.length c, .int .i64 i] w (RetEnds w (E xs t i))

set_option maxRecDepth 20000 in
set_option maxHeartbeats 4000000 in
theorem ends_alt {N : Nat} (ih : EndsFor N) {w : World} {ok : Nat → Prop} {t : T} {k : Value} {xs : List Int} {A : Option Addr} {i c : Nat} (hN : SizeOf.sizeOf t ≤ N + 1) (h : EndsAsk w ok t k xs A i) (h3 : t.op = 3) :
    Calls Try.prog 34 #[nodeP t k, .slice A xs.length c, .int .i64 i] w (RetEnds w (E xs t i)) := by
  have hE : ∀ j, E xs t i j ↔ EAny xs t.kids i j := by
    intro j
    cases t with
    | mk op p lo hi l =>
      have e : op = 3 := h3
      subst e
      exact E_alt
  obtain ⟨A', n', c', rfl⟩ := h.tree.form
  obtain ⟨hn, hm⟩ := h.tree.bound
  have hkl := h.wf.len
  rw [← hn] at hkl
  unfold maxLen at hm
  have hb1 : (t.op == 1) = false := by simp [h3]
  have hb3 : (t.op == 3) = true := by simp [h3]
  have hlen := h.len
  have hile := h.le
  have hbd : ∀ j l, l ⊆ t.kids → EAny xs l i j → j ≤ xs.length := fun j l hl he => by
    rw [EAny_iff] at he
    obtain ⟨u, hu, he⟩ := he
    exact (E_bd (h.wf.kid (hl hu)) i j hile he).2
  have b1 := Box8.new w t (.slice A' n' c')
  have hB : Below w.heap.size w (w.alloc (.cells #[.int .i64 t.op, .int .u64 (word t.set 0), .int .u64 (word t.set 1), .int .u64 (word t.set 2), .int .u64 (word t.set 3), .int .i64 t.lo, .int .i64 t.hi, .slice A' n' c'] 29)) := (Below.refl _ _).alloc (Nat.le_refl _) _
  have HE := Lib.hid hE
  have HN := Lib.hid hn
  have HH := Lib.hid h
  have IH := Lib.hid ih
  have HB1 := Lib.hid b1
  have HBD := Lib.hid hbd
  unfold EndsFor at IH
  clear hE h3 hn h ih b1 hbd
  generalize hL : xs.length = L at *
  have HL := Lib.hid hL
  clear hL
  unfold nodeP
  go_enter Try.func34, Try.ntmps34
  go_wp2
  go_loopg [8, 9] n' (fun m o i' wr => ∃ (j : Nat) (lo : List Int), i' = .int .i64 (j : Int) ∧ j ≤ n' ∧ m = n' - j ∧ Ints wr (w.heap.size + 1) o lo ∧ Lists (EAny xs (t.kids.take j) i) lo ∧ Box8 wr w.heap.size t (.slice A' n' c') ∧ Below w.heap.size w wr)
  case atStart => exact ⟨0, [], rfl, Nat.zero_le _, rfl, Ints.nil _ _, Lists.nil.congr fun j => by simp [EAny], HB1.out, hB⟩
  case round =>
    obtain ⟨j, lo, rfl, hj, hmj, hown, hls, x1, hW⟩ := hrel
    have HMJ := Lib.hid hmj
    have HOWN := Lib.hid hown
    have HLS := Lib.hid hls
    have HX1 := Lib.hid x1
    obtain ⟨c0, c1, c2, c3, c4, c5, c6, c7⟩ := x1.cell
    clear hmj hown hls x1
    by_cases hlt : j < n'
    · have hlt' : j < t.kids.length := by rw [← HN.out]; exact hlt
      obtain ⟨g, B, m1, m2, e1, hg1, htk, hcells⟩ := kid8 HH.out.tree j (List.getElem?_eq_getElem hlt')
      subst e1
      have hks := kid_size t j hlt'
      have hum : t.kids[j]'hlt' ∈ t.kids := List.getElem_mem hlt'
      have hst := EAny_take (xs := xs) t.kids j hlt' i
      generalize t.kids[j] = u at *
      have HC : ∀ q v, (nodeC u (.slice B m1 m2))[q]? = some v → wr.cell? ⟨g, j * 8 + q, none⟩ = some v := fun q v h => by rw [Nat.mul_comm j 8]; exact (hW.cell (p := ⟨g, 8 * j + q, none⟩) hg1).trans (hcells q v h)
      have k0 : wr.cell? ⟨g, j * 8, none⟩ = _ := HC 0 _ rfl
      have k1 := HC 1 _ rfl
      have k2 := HC 2 _ rfl
      have k3 := HC 3 _ rfl
      have k4 := HC 4 _ rfl
      have k5 := HC 5 _ rfl
      have k6 := HC 6 _ rfl
      have k7 := HC 7 _ rfl
      have hask := HH.out.kid (i' := i) hum htk hW (by rw [HL.out]; exact hile)
      have hub : ∀ x, E xs u i x → x ≤ L := fun x hx => by
        rw [← HL.out]
        exact (E_bd (HH.out.wf.kid hum) i x (by rw [HL.out]; exact hile) hx).2
      have hcall := IH.out u wr ok (.slice B m1 m2) xs A i c (by omega) hask
      rw [HL.out] at hcall
      unfold nodeP at hcall
      have HK := Lib.hid hcall
      have HST := Lib.hid hst
      have HUB := Lib.hid hub
      have hlo : lo.length ≤ L + 1 := HLS.out.len fun x hx => by
        exact HBD.out x _ (List.take_subset _ _) hx
      clear HC hcells htk hks hum hst hask hub hcall
      have hk2 := HK.out.mono (R' := fun e w5 => ∃ Al cl l, e = .returned (.slice Al l.length cl) ∧ Two w5 (w.heap.size + 1) u8 lo wr.heap.size (.slice Al l.length cl) l ∧ Box8 w5 w.heap.size t (.slice (some ⟨g, 0, none⟩) n' c') ∧ Below w.heap.size w w5 ∧ l.length ≤ L + 1 ∧ Lists (E xs u i) l) fun e w5 h5 => by
        obtain ⟨vl, l, he, hvl, hlsl, hb5⟩ := h5
        obtain ⟨Al, cl, hform⟩ := hvl.form
        subst hform
        exact ⟨Al, cl, l, he, Two.start HOWN.out hb5 hvl, HX1.out.stays hb5, gro hW hb5, hlsl.len HUB.out, hlsl⟩
      have HK2 := Lib.hid hk2
      clear hk2 HK
      go_wp2_with (go_at_call 34; (with_reducible refine HK2.out.mono ?_); rintro e w5 ⟨Al, cl, l, rfl, htwo, x5, hW5, hll, hlsl⟩; have HLSL := Lib.hid hlsl; clear hlsl)
      have HTWO := Lib.hid htwo
      have HX5 := Lib.hid x5
      clear htwo x5 k0 k1 k2 k3 k4 k5 k6 k7 c0 c1 c2 c3 c4 c5 c6 c7
      generalize hll2 : l.length = M at *
      generalize wr.heap.size = C at HTWO
      have HLL := Lib.hid hll2
      clear hll2
      go_loopg [8, 11] M (fun m' o' kk wq => ∃ q : Nat, kk = .int .i64 (q : Int) ∧ q ≤ M ∧ m' = M - q ∧ Two wq (w.heap.size + 1) o' (addAll lo (l.take q)) C (.slice Al M cl) l ∧ Box8 wq w.heap.size t (.slice (some ⟨g, 0, none⟩) n' c') ∧ Below w.heap.size w wq)
      case atStart => exact ⟨0, rfl, Nat.zero_le _, rfl, HTWO.out, HX5.out, hW5⟩
      case round =>
        obtain ⟨q, rfl, hq, hmq, htw, xq, hWq⟩ := hrel
        have HMQ := Lib.hid hmq
        have HTW := Lib.hid htw
        have HXQ := Lib.hid xq
        clear hmq htw xq
        by_cases hqt : q < M
        · have hqt' : q < l.length := by rw [HLL.out]; exact hqt
          obtain ⟨gl, cl', e2, _, _, hc2⟩ := HTW.out.one.at q hqt'
          injection e2 with e3 e4 e5
          subst e3 e5
          clear e4
          have hat := addAll_take lo l q hqt'
          generalize l[q]'hqt' = x at *
          have HAT := Lib.hid hat
          have hsz : (addAll lo (l.take q)).length ≤ 1000000 := by
            have h1 := addAll_len (l.take q) lo
            rw [List.length_take] at h1
            omega
          have HADD := Lib.hid (add_p wr (w.heap.size + 1) u8 (addAll lo (l.take q)) x HTW.out.out (by have := HXQ.out.lt; omega) hsz)
          clear hat hsz
          unfold RetAdd at HADD
          go_wp2_with (go_at_call 56; (with_reducible refine HADD.out.mono ?_); rintro e w6 ⟨v6, rfl, hi6, hg6, hv6⟩)
          go_roundg (M - (q + 1))
          case measure => have := HMQ.out; omega
          case rel =>
            have hrow := row_at HTW.out.out
            refine ⟨q + 1, by go_num, by omega, rfl, ?_, HXQ.out.grown hg6 (fun e => by have := hrow _ e.symm; omega), hWq.grown hg6 hWq.size (fun j e => by have := hrow j e; omega)⟩
            rw [HAT.out]
            exact HTW.out.added hi6 hg6 hv6
        · have hqn : l.take q = l := List.take_of_length_le (by rw [HLL.out]; omega)
          rw [hqn] at HTW
          go_wp2
          go_roundg (n' - (j + 1))
          case measure => have := HMJ.out; omega
          case rel => exact ⟨j + 1, addAll lo l, by go_num, by omega, rfl, HTW.out.out, (HLS.out.add HLSL.out).congr fun x => (HST.out x).symm, HXQ.out, hWq⟩
    · have hjn : j = t.kids.length := by rw [← HN.out]; omega
      have hwhole : t.kids.take j = t.kids := by rw [hjn]; exact List.take_length
      rw [hwhole] at HLS
      go_wp2
      go_ret
      exact ⟨_, lo, rfl, own_lower HOWN.out (by omega), HLS.out.congr fun x => (HE.out x).symm, hW⟩

end Go.Proofs.Ytfgppmipaahleaa
