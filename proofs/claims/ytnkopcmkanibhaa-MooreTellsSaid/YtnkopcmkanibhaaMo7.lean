/-
  Several texts of this proof in one file: RefRd2, RefSet, RefSet2, RefSet3, RefRd3, RefRd4. No statement of its own.
-/
import Derived.Test.YtnkopcmkanibhaaMo6
import Derived.Test.YtnkopcmkanibhaaMo3
import Derived.Deep.RegionHeld3
import Derived.Deep.DrawnRows
import Derived.StillTailTactics
import Derived.Test.YtnkopcmkanibhaaMo1
import Derived.Deep.RegionLaw
set_option linter.unusedVariables false
set_option linter.unusedSimpArgs false

/-
  The document's own reader of patterns: next, in, escaped, member, number: what they do, as functions of the reader's state. Contracts for other texts; no statement of its own.
-/
namespace Go.Proofs.Ytnkopcmkanibhaa
open Go Go.RowKit

theorem peek_bd (s : ByteArray) (st : St) : -1 ≤ st.peek s ∧ st.peek s ≤ 255 := by
  have := bt_lt s st.pos
  unfold St.peek
  split <;> omega
theorem peek_pos (s : ByteArray) (st : St) (h : 0 ≤ st.peek s) : st.bad = 0 ∧ st.pos < s.size := by
  unfold St.peek at h
  split at h
  · omega
  · omega

set_option maxHeartbeats 400000 in
theorem next_p (w : World) (g : Nat) (s : ByteArray) (st : St) (h : Rdr w g s st) (hs : s.size ≤ 1000) :
    Calls Try.prog 87 #[.pointer (some ⟨g, 0, none⟩)] w fun e w' => e = .returned (.int .i64 (st.next s).1) ∧ Rdr w' g s (st.next s).2 ∧ w.grownBy w' (some g) := by
  obtain ⟨c0, c1, c2, c3, c4⟩ := h.cell
  obtain ⟨f0, f1, f2, f3, f4⟩ := h.frozen
  have hbd := peek_bd s st
  by_cases hn : st.peek s < 0
  · have e : st.next s = (-1, st.fail s.size 2) := by unfold St.next; rw [if_pos hn]
    rw [e]
    clear e
    go_enter Try.func87, Try.ntmps87
    go_wp2_with (first
      | (go_at_call 83; (with_reducible refine (peek_p _ g s st h hs).mono ?_); rintro e w1 ⟨rfl, n, rfl⟩)
      | (go_at_call 89; (with_reducible refine (fail_p _ g s st _ _ (h.drewN _)).mono ?_); rintro e w2 ⟨rfl, hr, ho⟩))
    go_ret
    exact ⟨rfl, hr, only_trans (only_drewN (only_refl _ _) _) ho⟩
  · have hp := peek_pos s st (by omega)
    have e : st.next s = (st.peek s, st.step 1) := by unfold St.next; rw [if_neg hn]
    rw [e]
    clear e
    have hp1 := hp.2
    clear hp
    go_enter Try.func87, Try.ntmps87
    go_wp2_with (go_at_call 83; (with_reducible refine (peek_p _ g s st h hs).mono ?_); rintro e w1 ⟨rfl, n, rfl⟩)
    go_ret
    refine ⟨rfl, ?_, ?_⟩
    · exact h.setPos (st.pos + 1)
    · exact only_drewN (only_set (only_refl _ _) _) _

theorem wrap64_byte (b : UInt8) : wrap64 (b.toNat : Int) = (b.toNat : Int) := by
  have := UInt8.toNat_lt b
  unfold wrap64
  omega

/-- Does a byte stand in a text? -/
def inT (c : Int) (s : ByteArray) : Bool := s.data.toList.any fun b => (b.toNat : Int) == c
theorem inT_nonneg (c : Int) (s : ByteArray) (h : inT c s = true) : 0 ≤ c := by
  unfold inT at h
  rw [List.any_eq_true] at h
  obtain ⟨b, _, hb⟩ := h
  have : (b.toNat : Int) = c := by simpa using hb
  omega
def inUpto (c : Int) (s : ByteArray) (k : Nat) : Bool := (s.data.toList.take k).any fun b => (b.toNat : Int) == c

set_option maxHeartbeats 400000 in
theorem in_p (w : World) (c : Int) (s : ByteArray) (hs : s.size ≤ 1000) :
    Calls Try.prog 96 #[.int .i64 c, .string s] w fun e w' => e = .returned (.bool (inT c s)) ∧ w = w' := by
  go_enter Try.func96, Try.ntmps96
  go_wp2
  go_loop [5] (fun i => ∃ k : Nat, k ≤ s.size ∧ i = .int .i64 k ∧ inUpto c s k = false) (fun i => s.size - (intOf i).toNat)
  case atStart => exact ⟨0, Nat.zero_le _, rfl, by simp [inUpto]⟩
  case round =>
    obtain ⟨k, hk, rfl, hin⟩ := hrel
    have HI := Lib.hid hin
    clear hin
    by_cases hlt : k < s.size
    · by_cases he : ((s[k]'hlt).toNat : Int) = c
      · have he' : (wrap64 ((s[k]'hlt).toNat : Int) == c) = true := by rw [wrap64_byte]; simp [he]
        have HE := Lib.hid he
        clear he
        go_wp2
        go_ret
        refine ⟨congrArg Ending.returned (congrArg Value.bool ?_), rfl⟩
        symm
        unfold inT
        rw [List.any_eq_true]
        rw [wrap64_byte] at he'
        exact ⟨s[k]'hlt, by simp [ByteArray.getElem_eq_getElem_data], he'⟩
      · have he' : (wrap64 ((s[k]'hlt).toNat : Int) == c) = false := by rw [wrap64_byte]; simp [he]
        clear he
        go_wp2
        go_round
        case rel =>
          refine ⟨k + 1, by omega, by go_num, ?_⟩
          have hin := HI.out
          unfold inUpto at *
          rw [List.take_succ_eq_append_getElem (by simpa using hlt), List.any_append, hin]
          rw [wrap64_byte] at he'
          simpa [ByteArray.getElem_eq_getElem_data] using he'
        case measure => simp [intOf]; omega
    · go_wp2
      go_ret
      refine ⟨congrArg Ending.returned (congrArg Value.bool ?_), rfl⟩
      have hin := HI.out
      unfold inUpto at hin
      unfold inT
      rw [List.take_of_length_le (by simp; omega)] at hin
      exact hin.symm

namespace St
/-- The byte behind a backslash, and where the reader is then. -/
def escaped (s : ByteArray) (st : St) : Int × St :=
  let c := (st.next s).1
  let st1 := (st.next s).2
  if c = 110 then (10, st1) else if c = 116 then (9, st1) else
  if inT c ⟨#[92, 46, 91, 93, 40, 41, 123, 125, 124, 63, 42, 43, 94, 36, 45, 47]⟩ = true then (c, st1) else (0, st1.fail ((st1.pos : Int) - 1) 2)
/-- A byte of an item. -/
def member (s : ByteArray) (st : St) : Int × St :=
  let c := (st.next s).1
  let st1 := (st.next s).2
  let st2 := if c = 93 then st1.fail ((st1.pos : Int) - 1) 2 else st1
  if c = 92 then st2.escaped s else (max c 0, st2)
/-- One digit, or two. -/
def number (s : ByteArray) (st : St) : Int × St :=
  let c := (st.next s).1
  let st1 := (st.next s).2
  if c < 48 ∨ 57 < c then (0, st1.fail ((st1.pos : Int) - 1) 2) else
  let d := st1.peek s
  if 48 ≤ d ∧ d ≤ 57 then (10 * (c - 48) + d - 48, st1.step 1) else (c - 48, st1)
end St

theorem next_bd (s : ByteArray) (st : St) : -1 ≤ (st.next s).1 ∧ (st.next s).1 ≤ 255 := by
  have := peek_bd s st
  unfold St.next
  split <;> simp <;> omega
theorem next_pos (s : ByteArray) (st : St) (h : st.pos ≤ s.size) : (st.next s).2.pos ≤ s.size ∧ st.pos ≤ (st.next s).2.pos := by
  by_cases hn : st.peek s < 0
  · have e : st.next s = (-1, st.fail s.size 2) := by unfold St.next; rw [if_pos hn]
    rw [e]
    unfold St.fail
    split <;> simp <;> omega
  · have hp := peek_pos s st (by omega)
    have e : st.next s = (st.peek s, st.step 1) := by unfold St.next; rw [if_neg hn]
    rw [e]
    simp [St.step]
    omega
theorem fail_pos (st : St) (a b : Int) : (st.fail a b).pos = st.pos := by unfold St.fail; split <;> rfl

set_option maxHeartbeats 400000 in
theorem escaped_p (w : World) (g : Nat) (s : ByteArray) (st : St) (h : Rdr w g s st) (hs : s.size ≤ 1000) (hpos : st.pos ≤ s.size) :
    Calls Try.prog 95 #[.pointer (some ⟨g, 0, none⟩)] w fun e w' => e = .returned (.int .u8 (st.escaped s).1) ∧ Rdr w' g s (st.escaped s).2 ∧ w.grownBy w' (some g) := by
  have hbd := next_bd s st
  have hps := next_pos s st hpos
  have hnot : ∀ (x : Bool) (w : World), (Op.unary .not (.bool x)).run Try.prog w = .ok (.bool (!x)) w := fun _ _ => rfl
  have HN := Lib.hid (next_p w g s st h hs)
  generalize hc : (st.next s).1 = c at *
  generalize h1 : (st.next s).2 = st1 at *
  have HE : Hid (st.escaped s = if c = 110 then (10, st1) else if c = 116 then (9, st1) else if inT c ⟨#[92, 46, 91, 93, 40, 41, 123, 125, 124, 63, 42, 43, 94, 36, 45, 47]⟩ = true then (c, st1) else (0, st1.fail ((st1.pos : Int) - 1) 2)) := by
    unfold St.escaped
    rw [hc, h1]
    exact rfl
  clear hc h1
  by_cases e1 : c = 110
  · have hE := HE.out
    rw [if_pos e1] at hE
    rw [hE]
    clear hE HE
    have e1' : (c == 110) = true := by simp [e1]
    clear e1
    go_enter Try.func95, Try.ntmps95
    go_wp2_with (go_at_call 87; (with_reducible refine (HN.out).mono ?_); rintro e w1 ⟨rfl, hr, ho⟩)
    go_ret
    exact ⟨rfl, hr, ho⟩
  · have e1' : (c == 110) = false := by simp [e1]
    have hE := HE.out
    rw [if_neg e1] at hE
    clear e1 HE
    by_cases e2 : c = 116
    · rw [if_pos e2] at hE
      rw [hE]
      clear hE
      have e2' : (c == 116) = true := by simp [e2]
      clear e2
      go_enter Try.func95, Try.ntmps95
      go_wp2_with (go_at_call 87; (with_reducible refine (HN.out).mono ?_); rintro e w1 ⟨rfl, hr, ho⟩)
      go_ret
      exact ⟨rfl, hr, ho⟩
    · have e2' : (c == 116) = false := by simp [e2]
      rw [if_neg e2] at hE
      clear e2
      have HI := Lib.hid (fun w => in_p w c ⟨#[92, 46, 91, 93, 40, 41, 123, 125, 124, 63, 42, 43, 94, 36, 45, 47]⟩ (by decide))
      generalize hi : inT c ⟨#[92, 46, 91, 93, 40, 41, 123, 125, 124, 63, 42, 43, 94, 36, 45, 47]⟩ = i at *
      have HI2 := Lib.hid hi
      clear hi
      cases i with
      | true =>
        rw [if_pos rfl] at hE
        rw [hE]
        clear hE
        have c0 : 0 ≤ c := inT_nonneg _ _ HI2.out
        go_enter Try.func95, Try.ntmps95
        go_wp2_with (first
          | (go_at_call 87; (with_reducible refine (HN.out).mono ?_); rintro e w1 ⟨rfl, hr, ho⟩)
          | (go_at_call 96; (with_reducible refine (HI.out _).mono ?_); rintro e w2 ⟨rfl, rfl⟩))
        go_ret
        exact ⟨rfl, hr, ho⟩
      | false =>
        rw [if_neg (by simp)] at hE
        rw [hE]
        clear hE
        go_enter Try.func95, Try.ntmps95
        go_wp2_with (first
          | (go_at_call 87; (with_reducible refine (HN.out).mono ?_); rintro e w1 ⟨rfl, hr, ho⟩; obtain ⟨k0, k1, k2, k3, k4⟩ := hr.cell)
          | (go_at_call 96; (with_reducible refine (HI.out _).mono ?_); rintro e w2 ⟨rfl, rfl⟩)
          | (go_at_call 89; (with_reducible refine (fail_p _ g s st1 _ _ hr).mono ?_); rintro e w3 ⟨rfl, hr3, ho3⟩))
        go_ret
        exact ⟨rfl, hr3, only_trans ho ho3⟩

end Go.Proofs.Ytnkopcmkanibhaa

/-
  What the document's own answers for sets do (package snaffleref01: Has, Of, Bytes, Range, Or, Not), whatever they are called with. Contracts for other texts; no statement of its own.
-/
namespace Go.Proofs.Ytnkopcmkanibhaa
open Go Go.RowKit
attribute [local go_sem ↓] Go.wp_at_zero Go.wp_at_succ

set_option maxHeartbeats 400000 in
theorem rhas_p (p : Nat → Bool) (b : Int) (w : World) (hb : 0 ≤ b) (hb' : b ≤ 255) :
    Calls Try.prog 64 #[.agg #[.int .u64 (word p 0), .int .u64 (word p 1), .int .u64 (word p 2), .int .u64 (word p 3)], .int .u8 b] w fun e w' => e = .returned (.bool (p b.toNat)) ∧ Below w.heap.size w w' := by
  have hv := words_at p b hb hb'
  have H := has_mod p b hb hb'
  rw [← H]
  clear H
  go_enter Try.func64, Try.ntmps64
  go_wp2
  go_ret
  exact ⟨rfl, (Below.refl _ _).alloc (Nat.le_refl _) _⟩

set_option maxRecDepth 20000 in
set_option maxHeartbeats 1600000 in
theorem rof_p (A : Option Addr) (n cap : Nat) (xs : List Int) (w : World) (hn : n = xs.length) (hr : RdB w w.heap.size A xs) (hx : ∀ k, k < xs.length → 0 ≤ xs.getD k 0 ∧ xs.getD k 0 ≤ 255) (hm : xs.length ≤ 9223372036854775807) :
    Calls Try.prog 93 #[.slice A n cap] w fun e w' => e = .returned (setV (memP xs)) ∧ Below w.heap.size w w' := by
  have HN := Lib.hid hn
  have HX := Lib.hid hx
  rw [← hn] at hm
  clear hx hn
  have hnot : ∀ (x : Bool) (w : World), (Op.unary .not (.bool x)).run Try.prog w = .ok (.bool (!x)) w := fun _ _ => rfl
  go_enter Try.func93, Try.ntmps93
  go_wp2
  go_loopw [4] (fun i wr => ∃ k : Nat, ∃ p0, k ≤ n ∧ i = .int .i64 k ∧ Box4 wr w.heap.size p0 ∧ Box4 wr (w.heap.size + 1) (memP (xs.take k)) ∧ Below w.heap.size w wr) (fun i _ => n - (intOf i).toNat)
  case atStart =>
    refine ⟨0, noneP, Nat.zero_le _, rfl, (Box4.new0 w).alloc _, ?_, ((Below.refl _ _).alloc (Nat.le_refl _) _).alloc (by simp) _⟩
    have h := Box4.new0 (w.alloc (.cells #[.int .u64 0, .int .u64 0, .int .u64 0, .int .u64 0] 72))
    rw [World.size_alloc] at h
    exact h.congr fun x _ => by simp [memP, noneP]
  case round =>
    obtain ⟨k, p0, hk, rfl, b0, b1, hnx⟩ := hrel
    have hs := b1.lt
    obtain ⟨c0, c1, c2, c3⟩ := b1.cell
    by_cases hlt : k < n
    · have hkx : k < xs.length := by rw [← HN.out]; exact hlt
      obtain ⟨b, off, rfl, hbB, hc⟩ := hr k hkx
      have hx := HX.out k hkx
      have hc1 := (hnx.cell (p := ⟨b, off + k, none⟩) hbB).trans hc
      have HM := Lib.hid (mem_step xs k hkx hx.1)
      obtain ⟨v, hv⟩ : ∃ v, v = xs.getD k 0 := ⟨_, rfl⟩
      rw [← hv] at hx hc1 HM
      clear hc hv hkx hr
      have k0 : (0 : Int) ≤ (k : Int) := by omega
      have k1 : (k : Int) < (n : Int) := by omega
      generalize hp : memP (xs.take k) = p at *
      have HP := Lib.hid hp
      clear hp
      cases hpv : p v.toNat
      all_goals
        go_wp2_with fail
        refine wp_region_noPanic ?_
        go_region_held (fun w' => w'.cell? ⟨w.heap.size + 1, 0, none⟩ = some (.int .u64 (word p 0)) ∧ w'.cell? ⟨w.heap.size + 1, 1, none⟩ = some (.int .u64 (word p 1)) ∧ w'.cell? ⟨w.heap.size + 1, 2, none⟩ = some (.int .u64 (word p 2)) ∧ w'.cell? ⟨w.heap.size + 1, 3, none⟩ = some (.int .u64 (word p 3)) ∧ w'.cell? ⟨b, off + k, none⟩ = some (.int .u8 v))
          (first | exact ⟨c0, c1, c2, c3, hc1⟩ | (go_split_ands; refine ⟨?_, ?_, ?_, ?_, ?_⟩ <;> first | with_reducible assumption | with_reducible exact cell_stays ‹_› ‹_›))
          (first | (go_at_call 64; (with_reducible refine (rhas_p p v _ (by omega) (by omega)).mono ?_); rintro e w1 ⟨rfl, hb1⟩; rw [hpv]))
        refine NoPanic.normal ?_
        replace hb1 := undrew hb1
        replace b0 := b0.stays hb1
        replace b1 := b1.stays hb1
        replace hnx := gro hnx hb1
        have hs1 := b1.lt
        have hd1 := cell_stays hc1 hb1
        clear c0 c1 c2 c3 hc1 hb1
        obtain ⟨c0, c1, c2, c3⟩ := b1.cell
        obtain ⟨f0, f1, f2, f3⟩ := b1.frozen
        go_wp2
      · have HO := Lib.hid (add1_sum p v hx.1 hx.2 hpv)
        have HW := Lib.hid (add1_words p v.toNat)
        have hd : (v / 64).toNat = v.toNat / 64 := by omega
        have HD := Lib.hid hd
        clear hd
        rcases (show v / 64 = 0 ∨ v / 64 = 1 ∨ v / 64 = 2 ∨ v / 64 = 3 by omega) with h | h | h | h
        all_goals
          have e1 : IntKind.i64.wrap v = v := IntWalk.i64_in _ (by omega)
          have e2 : v.tdiv 64 = v / 64 := Int.tdiv_eq_ediv_of_nonneg hx.1
          have e4 : v.tmod 64 = v % 64 := Int.tmod_eq_emod_of_nonneg hx.1
          have e5 : IntKind.i64.wrap (v % 64) = v % 64 := IntWalk.i64_in _ (by omega)
          have e6 : IntKind.u64.wrap (v % 64) = v % 64 := wrap_u64_of (by omega) (by omega)
          have n0 : IntKind.i64.wrap 0 = 0 := rfl
          have n1 : IntKind.i64.wrap 1 = 1 := rfl
          have n2 : IntKind.i64.wrap 2 = 2 := rfl
          have n3 : IntKind.i64.wrap 3 = 3 := rfl
          have m0 : 0 ≤ v % 64 := by omega
          go_still_tail 24, (by kernel_rfl)
          clear e1 e2 e4 e5 e6 n0 n1 n2 n3 m0
          go_wp2
          have ho := HO.out
          have hw := HW.out
          have hd := HD.out
          rw [h] at ho hd
          simp only [show (0 : Int).toNat = 0 from rfl, show (1 : Int).toNat = 1 from rfl, show (2 : Int).toNat = 2 from rfl, show (3 : Int).toNat = 3 from rfl] at ho hd
          rw [ho]
          go_roundw
          case measure => simp [intOf]; omega
          case rel =>
            refine ⟨k + 1, p0, by omega, by go_num, (b0.far (by simp) _).drew, ?_, (hnx.setCell (by simp) _).drew⟩
            exact (b1.set1 _ (by decide) (fun j hj => hw j (by omega))).drew.congr fun x _ => HM.out x
      · go_roundw
        case rel =>
          refine ⟨k + 1, p0, by omega, by go_num, b0, b1.congr fun x _ => ?_, hnx⟩
          rw [← HM.out x]
          unfold add1
          by_cases e : x = v.toNat
          · subst e; rw [hpv]; simp
          · simp [e]
        case measure => simp [intOf]; omega
    · obtain ⟨d0, d1, d2, d3⟩ := b0.cell
      obtain ⟨g0, g1, g2, g3⟩ := b0.frozen
      go_wp2
      refine bodyPost_ret (v := setV (memP (xs.take k))) ?_ rfl ⟨congrArg Ending.returned (setV_congr fun x _ => ?_), below_put4 (g := w.heap.size) hnx (Nat.le_refl _) (memP (xs.take k))⟩
      · unfold setV
        simp [results, Try.results93, go_sem, d0, d1, d2, d3]
      · have := HN.out
        rw [List.take_of_length_le (by omega)]

end Go.Proofs.Ytnkopcmkanibhaa

/-
  What the document's own Bytes, Range, Not and Or of sets do (package snaffleref01), whatever they are called with. Contracts for other texts; no statement of its own.
-/
namespace Go.Proofs.Ytnkopcmkanibhaa
open Go Go.RowKit
attribute [local go_sem ↓] Go.wp_at_zero Go.wp_at_succ

set_option maxRecDepth 20000 in
set_option maxHeartbeats 400000 in
theorem rbytes_p (p : Nat → Bool) (w : World) :
    Calls Try.prog 103 #[.agg #[.int .u64 (word p 0), .int .u64 (word p 1), .int .u64 (word p 2), .int .u64 (word p 3)]] w
      fun e w' => ∃ v, e = .returned v ∧ w'.ownsRow w.heap.size 5 1 v (allP p).length ((allP p).map (Value.int .u8)) ∧ Below w.heap.size w w' := by
  obtain ⟨i0, hi, hz0, hz1, hz2⟩ := info_parts Try.infoByte
  go_enter Try.func103, Try.ntmps103
  go_wp2
  go_loopw [3, 4] (fun v i wr => ∃ k : Nat, k ≤ 256 ∧ i = .int .i64 k ∧ wr.ownsRow (w.heap.size + 1) 5 1 v (listP p k).length ((listP p k).map (Value.int .u8)) ∧ Box4 wr w.heap.size p ∧ Below w.heap.size w wr)
    (fun _ i _ => 256 - (intOf i).toNat)
  case atStart => exact ⟨0, by omega, rfl, World.ownsRow_nil _ _ _ _, Box4.new w p, (Below.refl _ _).alloc (Nat.le_refl _) _⟩
  case round =>
    obtain ⟨k, hk, rfl, hown, b0, hnx⟩ := hrel
    have hs := b0.lt
    obtain ⟨c0, c1, c2, c3⟩ := b0.cell
    by_cases hlt : k < 256
    · have hle := listP_le p k
      cases hp : p k
      · have HE := Lib.hid (listP_miss p k hp)
        go_wp2_with (go_at_call 64; (with_reducible refine (rhas_p p k _ (by omega) (by omega)).mono ?_); rintro e w1 ⟨rfl, hb1⟩; rw [Int.toNat_natCast, hp])
        go_roundw
        case rel => exact ⟨k + 1, by omega, by go_num, by rw [HE.out]; exact own_stays hown hb1, b0.stays hb1, hnx.trans (hb1.mono (by omega))⟩
        case measure => simp [intOf]; omega
      · have HE := Lib.hid (listP_hit p k hp)
        go_wp2_with (first
          | (go_at_call 64; (with_reducible refine (rhas_p p k _ (by omega) (by omega)).mono ?_); rintro e w1 ⟨rfl, hb1⟩; rw [Int.toNat_natCast, hp]; have hown1 := own_stays hown hb1; have b1 := b0.stays hb1; have hs1 := hb1.size)
          | (at_builtin; refine wpList_append_own _ rfl _ _ 24 rfl (w.heap.size + 1) 5 i0 (.int .u8 0) 1 1 Try.underlying24 hi hz0 hz1 hz2 rfl (by decide) _ _ _ rfl (hown1.alloc _) ⟨w1.heap.size, 0, none⟩ 1 1 [.int .u8 (k : Int)] rfl rfl ?c1 ?c2 ?c3 ?c4 ?c5 ?_))
        case c1 =>
          intro j u hj
          match j, hj with
          | 0, hj => simp at hj; subst hj; simp [Addr.add]
        case c2 => intro u hu; simp at hu; subst hu; rfl
        case c3 => unfold maxLen; omega
        case c4 => omega
        case c5 => simp; omega
        · intro v' w2 hown' hgrow _
          have b2 : Box4 w2 w.heap.size p := (b1.alloc _).grown hgrow (fun e => by have := hown1.lt _ e.symm; omega)
          have hnx2 : Below w.heap.size w w2 := ((hnx.trans (hb1.mono (by omega))).alloc (by omega) _).grown hgrow (by simp; omega) (fun j e => by have := hown1.lt j e; omega)
          have HO := Lib.hid hown'
          clear hown' hgrow hown hown1 b0 b1 hb1 hnx
          go_wp2
          go_roundw
          case rel => exact ⟨k + 1, by omega, by go_num, by rw [HE.out]; simpa using HO.out, b2, hnx2⟩
          case measure => simp [intOf]; omega
    · have : k = 256 := by omega
      subst this
      go_wp2
      go_ret
      exact ⟨_, rfl, own_lower hown (by omega), hnx⟩

/-- The numbers from lo on, below k. -/
def fromL (lo k : Int) : List Int := (List.range (k - lo).toNat).map fun j : Nat => lo + (j : Int)
theorem fromL_step (lo k : Int) (h : lo ≤ k) : fromL lo (k + 1) = fromL lo k ++ [k] := by
  unfold fromL
  rw [show (k + 1 - lo).toNat = (k - lo).toNat + 1 by omega, List.range_succ, List.map_append]
  simp
  omega
theorem fromL_len (lo k : Int) : (fromL lo k).length = (k - lo).toNat := by simp [fromL]
theorem fromL_none (lo : Int) : fromL lo lo = [] := by simp [fromL]
theorem fromL_get (lo k : Int) (h0 : 0 ≤ lo) (h1 : k ≤ 256) : ∀ j, j < (fromL lo k).length → 0 ≤ (fromL lo k).getD j 0 ∧ (fromL lo k).getD j 0 ≤ 255 := by
  intro j hj
  have hl := fromL_len lo k
  rw [List.getD_eq_getElem?_getD, List.getElem?_eq_getElem hj]
  simp [fromL]
  omega
theorem fromL_mem (lo hi k : Int) (h0 : 0 ≤ lo) (hk : k = hi + 1 ∨ (k = lo ∧ hi < k)) (x : Nat) : memP (fromL lo k) x = rangeP lo hi x := by
  unfold memP rangeP fromL
  rw [Bool.eq_iff_iff, List.any_eq_true]
  simp
  constructor
  · rintro ⟨a, ha, e⟩
    omega
  · rintro ⟨a, b⟩
    exact ⟨(x - lo).toNat, by omega, by omega⟩

set_option maxRecDepth 20000 in
set_option maxHeartbeats 400000 in
theorem rrange_p (lo hi : Int) (w : World) (hl : 0 ≤ lo) (hl' : lo ≤ 255) (hh : 0 ≤ hi) (hh' : hi ≤ 255) :
    Calls Try.prog 102 #[.int .u8 lo, .int .u8 hi] w fun e w' => e = .returned (setV (rangeP lo hi)) ∧ Below w.heap.size w w' := by
  obtain ⟨i0, hi0, hz0, hz1, hz2⟩ := info_parts Try.infoByte
  go_enter Try.func102, Try.ntmps102
  go_wp2
  go_loopw [5, 6] (fun v i wr => ∃ k : Int, ∃ p0, lo ≤ k ∧ (k ≤ hi + 1 ∨ k = lo) ∧ i = .int .i64 k ∧ wr.ownsRow (w.heap.size + 1) 5 1 v (fromL lo k).length ((fromL lo k).map (Value.int .u8)) ∧ Box4 wr w.heap.size p0 ∧ Below w.heap.size w wr) (fun _ i _ => (hi + 1 - intOf i).toNat)
  case atStart => exact ⟨lo, noneP, by omega, by omega, rfl, by rw [fromL_none]; exact World.ownsRow_nil _ _ _ _, Box4.new0 w, (Below.refl _ _).alloc (Nat.le_refl _) _⟩
  case round =>
    obtain ⟨k, p0, hk, hk2, rfl, hown, b0, hnx⟩ := hrel
    have hs := b0.lt
    have hlen := fromL_len lo k
    by_cases hlt : k ≤ hi
    · have HE := Lib.hid (fromL_step lo k hk)
      have hle : (fromL lo k).length ≤ 256 := by omega
      clear hlen
      go_wp2_with (at_builtin; refine wpList_append_own _ rfl _ _ 24 rfl (w.heap.size + 1) 5 i0 (.int .u8 0) 1 1 Try.underlying24 hi0 hz0 hz1 hz2 rfl (by decide) _ _ _ rfl (hown.alloc _) ⟨wr.heap.size, 0, none⟩ 1 1 [.int .u8 k] rfl rfl ?c1 ?c2 ?c3 ?c4 ?c5 ?_)
      case c1 =>
        intro j u hj
        match j, hj with
        | 0, hj => simp at hj; subst hj; simp [Addr.add]
      case c2 => intro u hu; simp at hu; subst hu; rfl
      case c3 => unfold maxLen; omega
      case c4 => omega
      case c5 => simp; omega
      · intro v' w2 hown' hgrow _
        have b2 : Box4 w2 w.heap.size p0 := (b0.alloc _).grown hgrow (fun e => by have := hown.lt _ e.symm; omega)
        have hnx2 : Below w.heap.size w w2 := (hnx.alloc (by omega) _).grown hgrow (by simp; omega) (fun j e => by have := hown.lt j e; omega)
        have HO := Lib.hid hown'
        clear hown' hgrow hown b0 hnx
        go_wp2
        go_roundw
        case rel => exact ⟨k + 1, p0, by omega, by omega, rfl, by rw [HE.out]; simpa using HO.out, b2, hnx2⟩
        case measure => simp [intOf]; omega
    · obtain ⟨A, cap, rfl, hn, hr, hA⟩ := rd_own hown
      have hg := fromL_get lo k hl (by omega)
      have hle : (fromL lo k).length ≤ 9223372036854775807 := by omega
      have HG := Lib.hid hg
      have HE : Hid (∀ x, memP (fromL lo k) x = rangeP lo hi x) := fun x => fromL_mem lo hi k hl (by omega) x
      clear hg hn hlen
      go_wp2_with (go_at_call 93; (with_reducible refine (rof_p _ _ _ (fromL lo k) _ rfl hr HG.out hle).mono ?_); rintro e w1 ⟨rfl, hb1⟩; rw [setV_congr (fun x _ => HE.out x)]; unfold setV; obtain ⟨d0, d1, d2, d3⟩ := (b0.stays hb1).cell; obtain ⟨g0, g1, g2, g3⟩ := (b0.stays hb1).frozen)
      refine bodyPost_ret (v := setV (rangeP lo hi)) ?_ rfl ⟨rfl, below_put4 (g := w.heap.size) (hnx.trans (hb1.mono (by omega))) (Nat.le_refl _) (rangeP lo hi)⟩
      unfold setV
      simp [results, Try.results102, go_sem, d0, d1, d2, d3]

end Go.Proofs.Ytnkopcmkanibhaa

/-
  What the document's own Not and Or of sets do (package snaffleref01), whatever they are called with. Contracts for other texts; no statement of its own.
-/
namespace Go.Proofs.Ytnkopcmkanibhaa
open Go Go.RowKit
attribute [local go_sem ↓] Go.wp_at_zero Go.wp_at_succ

set_option maxRecDepth 20000 in
set_option maxHeartbeats 400000 in
theorem rnot_p (p : Nat → Bool) (w : World) :
    Calls Try.prog 92 #[.agg #[.int .u64 (word p 0), .int .u64 (word p 1), .int .u64 (word p 2), .int .u64 (word p 3)]] w
      fun e w' => e = .returned (setV (notP p)) ∧ Below w.heap.size w w' := by
  obtain ⟨i0, hi, hz0, hz1, hz2⟩ := info_parts Try.infoByte
  have hnot : ∀ (x : Bool) (w : World), (Op.unary .not (.bool x)).run Try.prog w = .ok (.bool (!x)) w := fun _ _ => rfl
  go_enter Try.func92, Try.ntmps92
  go_wp2
  go_loopw [3, 4] (fun v i wr => ∃ k : Nat, ∃ p0, k ≤ 256 ∧ i = .int .i64 k ∧ wr.ownsRow (w.heap.size + 2) 5 1 v (listP (notP p) k).length ((listP (notP p) k).map (Value.int .u8)) ∧ Box4 wr w.heap.size p ∧ Box4 wr (w.heap.size + 1) p0 ∧ Below w.heap.size w wr)
    (fun _ i _ => 256 - (intOf i).toNat)
  case atStart =>
    refine ⟨0, noneP, by omega, rfl, World.ownsRow_nil _ _ _ _, (Box4.new w p).alloc _, ?_, ((Below.refl _ _).alloc (Nat.le_refl _) _).alloc (by simp) _⟩
    have h := Box4.new0 (w.alloc (.cells #[.int .u64 (word p 0), .int .u64 (word p 1), .int .u64 (word p 2), .int .u64 (word p 3)] 72))
    rwa [World.size_alloc] at h
  case round =>
    obtain ⟨k, p0, hk, rfl, hown, b0, b9, hnx⟩ := hrel
    have hs := b9.lt
    obtain ⟨c0, c1, c2, c3⟩ := b0.cell
    by_cases hlt : k < 256
    · have hle := listP_le (notP p) k
      cases hp : p k
      · have HE := Lib.hid (listP_hit (notP p) k (by simp [notP, hp]))
        go_wp2_with (first
          | (go_at_call 64; (with_reducible refine (rhas_p p k _ (by omega) (by omega)).mono ?_); rintro e w1 ⟨rfl, hb1⟩; rw [Int.toNat_natCast, hp]; have hown1 := own_stays hown hb1; have b1 := b0.stays hb1; have b8 := b9.stays hb1; have hs1 := hb1.size)
          | (at_builtin; refine wpList_append_own _ rfl _ _ 24 rfl (w.heap.size + 2) 5 i0 (.int .u8 0) 1 1 Try.underlying24 hi hz0 hz1 hz2 rfl (by decide) _ _ _ rfl (hown1.alloc _) ⟨w1.heap.size, 0, none⟩ 1 1 [.int .u8 (k : Int)] rfl rfl ?c1 ?c2 ?c3 ?c4 ?c5 ?_))
        case c1 =>
          intro j u hj
          match j, hj with
          | 0, hj => simp at hj; subst hj; simp [Addr.add]
        case c2 => intro u hu; simp at hu; subst hu; rfl
        case c3 => unfold maxLen; omega
        case c4 => omega
        case c5 => simp; omega
        · intro v' w2 hown' hgrow _
          have b2 : Box4 w2 w.heap.size p := (b1.alloc _).grown hgrow (fun e => by have := hown1.lt _ e.symm; omega)
          have b7 : Box4 w2 (w.heap.size + 1) p0 := (b8.alloc _).grown hgrow (fun e => by have := hown1.lt _ e.symm; omega)
          have hnx2 : Below w.heap.size w w2 := ((hnx.trans (hb1.mono (by omega))).alloc (by omega) _).grown hgrow (by simp; omega) (fun j e => by have := hown1.lt j e; omega)
          have HO := Lib.hid hown'
          clear hown' hgrow hown hown1 b0 b1 b8 b9 hb1 hnx
          go_wp2
          go_roundw
          case rel => exact ⟨k + 1, p0, by omega, by go_num, by rw [HE.out]; simpa using HO.out, b2, b7, hnx2⟩
          case measure => simp [intOf]; omega
      · have HE := Lib.hid (listP_miss (notP p) k (by simp [notP, hp]))
        go_wp2_with (go_at_call 64; (with_reducible refine (rhas_p p k _ (by omega) (by omega)).mono ?_); rintro e w1 ⟨rfl, hb1⟩; rw [Int.toNat_natCast, hp])
        go_roundw
        case rel => exact ⟨k + 1, p0, by omega, by go_num, by rw [HE.out]; exact own_stays hown hb1, b0.stays hb1, b9.stays hb1, hnx.trans (hb1.mono (by omega))⟩
        case measure => simp [intOf]; omega
    · have : k = 256 := by omega
      subst this
      change wr.ownsRow _ _ _ _ (allP (notP p)).length ((allP (notP p)).map _) at hown
      obtain ⟨A, cap, rfl, hn, hr, hA⟩ := rd_own hown
      have HG := Lib.hid (allP_get (notP p))
      have HL := Lib.hid (allP_le (notP p))
      have HE : Hid (∀ x, x < 256 → memP (allP (notP p)) x = notP p x) := memP_all (notP p)
      clear hn hlt hk
      go_wp2_with (go_at_call 93; (with_reducible refine (rof_p _ _ _ (allP (notP p)) _ rfl hr HG.out HL.out).mono ?_); rintro e w1 ⟨rfl, hb1⟩; rw [setV_congr HE.out]; unfold setV; obtain ⟨d0, d1, d2, d3⟩ := (b9.stays hb1).cell; obtain ⟨g0, g1, g2, g3⟩ := (b9.stays hb1).frozen)
      refine bodyPost_ret (v := setV (notP p)) ?_ rfl ⟨rfl, below_put4 (g := w.heap.size + 1) (hnx.trans (hb1.mono (by omega))) (by omega) (notP p)⟩
      unfold setV
      simp [results, Try.results92, go_sem, d0, d1, d2, d3]

theorem mem_app (p q : Nat → Bool) (x : Nat) (hx : x < 256) : memP (allP p ++ allP q) x = orP p q x := by
  have h1 := memP_all p x hx
  have h2 := memP_all q x hx
  unfold memP at *
  rw [List.any_append, h1, h2]
  rfl
theorem len_app (xs ys : List Int) : xs.length + ys.length = (xs ++ ys).length := List.length_append.symm
theorem get_app (p q : Nat → Bool) : ∀ j, j < (allP p ++ allP q).length → 0 ≤ (allP p ++ allP q).getD j 0 ∧ (allP p ++ allP q).getD j 0 ≤ 255 := by
  intro j hj
  have hm : (allP p ++ allP q).getD j 0 ∈ allP p ++ allP q := by
    rw [List.getD_eq_getElem?_getD, List.getElem?_eq_getElem hj]
    exact List.getElem_mem hj
  rw [List.mem_append] at hm
  rcases hm with h | h
  · have := (listP_mem p 256 _).1 h; omega
  · have := (listP_mem q 256 _).1 h; omega

set_option maxRecDepth 20000 in
set_option maxHeartbeats 2000000 in
theorem ror_p (p q : Nat → Bool) (w : World) :
    Calls Try.prog 98 #[.agg #[.int .u64 (word p 0), .int .u64 (word p 1), .int .u64 (word p 2), .int .u64 (word p 3)], .agg #[.int .u64 (word q 0), .int .u64 (word q 1), .int .u64 (word q 2), .int .u64 (word q 3)]] w
      fun e w' => e = .returned (setV (orP p q)) ∧ Below w.heap.size w w' := by
  obtain ⟨i0, hi, hz0, hz1, hz2⟩ := info_parts Try.infoByte
  have lp := listP_le p 256
  have lq := listP_le q 256
  change (allP p).length ≤ 256 at lp
  change (allP q).length ≤ 256 at lq
  obtain ⟨w0, hw0⟩ : ∃ w0, w0 = ((w.alloc (.cells #[.int .u64 (word p 0), .int .u64 (word p 1), .int .u64 (word p 2), .int .u64 (word p 3)] 72)).alloc (.cells #[.int .u64 (word q 0), .int .u64 (word q 1), .int .u64 (word q 2), .int .u64 (word q 3)] 72)).alloc (.cells #[.int .u64 0, .int .u64 0, .int .u64 0, .int .u64 0] 72) := ⟨_, rfl⟩
  have bp : Box4 w0 w.heap.size p := by rw [hw0]; exact ((Box4.new w p).alloc _).alloc _
  have bq : Box4 w0 (w.heap.size + 1) q := by
    rw [hw0]
    have h := Box4.new (w.alloc (.cells #[.int .u64 (word p 0), .int .u64 (word p 1), .int .u64 (word p 2), .int .u64 (word p 3)] 72)) q
    rw [World.size_alloc] at h
    exact h.alloc _
  have b9 : Box4 w0 (w.heap.size + 1 + 1) noneP := by
    rw [hw0]
    have h := Box4.new0 ((w.alloc (.cells #[.int .u64 (word p 0), .int .u64 (word p 1), .int .u64 (word p 2), .int .u64 (word p 3)] 72)).alloc (.cells #[.int .u64 (word q 0), .int .u64 (word q 1), .int .u64 (word q 2), .int .u64 (word q 3)] 72))
    rwa [World.size_alloc, World.size_alloc] at h
  have hB : Below w.heap.size w w0 := by rw [hw0]; exact (((Below.refl _ _).alloc (Nat.le_refl _) _).alloc (by simp) _).alloc (by simp; omega) _
  have HW := Lib.hid hw0
  clear hw0
  go_enter Try.func98, Try.ntmps98
  go_wp2_with fail
  rw [← HW.out]
  clear HW
  obtain ⟨c0, c1, c2, c3⟩ := bp.cell
  obtain ⟨d0, d1, d2, d3⟩ := bq.cell
  have hs0 := b9.lt
  go_region_law (first
    | (refine step_app _ (by rfl) _ _ 24 (by rfl) _ 5 i0 (.int .u8 0) 1 1 Try.underlying24 hi hz0 hz1 hz2 rfl (by decide) _ _ _ (by rfl) hown1' A2 _ cap2 _ (by rfl) (by simp) (fun h => (hA2 h).1) (news_rd hr2) (bytes_oneCell _) (by unfold maxLen; omega) (by omega) hs2 ?_; intro v3 w3 hown3 hgrow; have hB3 := hB2.grown hgrow hB2.size (fun j e => by have := hown1'.lt j e; omega); have b3 := ((b9.stays hb1).stays hb2).grown hgrow (fun e => by have := hown1'.lt _ e.symm; omega); rw [← List.map_append, ← List.length_append] at hown3; obtain ⟨A3, cap3, rfl, hn3, hr3, hA3⟩ := rd_own hown3)
    | (go_simp; go_at_call 103; (with_reducible refine (rbytes_p p _).mono ?_); rintro e w1 ⟨v1, rfl, hown1, hb1⟩; replace hb1 := undrew hb1; change w1.ownsRow w0.heap.size _ _ _ _ _ at hown1; have hB1 := gro hB hb1; obtain ⟨k0, k1, k2, k3⟩ := (bq.stays hb1).cell)
    | (go_simp; go_at_call 103; (with_reducible refine (rbytes_p q _).mono ?_); rintro e w2 ⟨v2, rfl, hown2, hb2⟩; have hB2 := gro hB1 hb2; have hown1' := own_stays hown1 hb2; have hs2 : w0.heap.size ≤ w2.heap.size := Nat.le_trans hb1.size hb2.size; obtain ⟨A2, cap2, rfl, hn2, hr2, hA2⟩ := rd_own hown2)
    | (go_simp; go_at_call 93; (with_reducible refine (rof_p _ _ _ (allP p ++ allP q) _ (len_app (allP p) (allP q)) hr3 (get_app p q) (by simp; omega)).mono ?_); rintro e w4 ⟨rfl, hb4⟩; have hB4 := gro hB3 hb4; rw [setV_congr (mem_app p q)]; unfold setV; obtain ⟨g0, g1, g2, g3⟩ := (b3.stays hb4).cell; obtain ⟨f0, f1, f2, f3⟩ := (b3.stays hb4).frozen))
  all_goals go_wp2
  all_goals
    refine bodyPost_ret (v := setV (orP p q)) ?_ rfl ⟨rfl, below_put4 (g := w.heap.size + 1 + 1) hB4 (by omega) (orP p q)⟩
    unfold setV
    simp [results, Try.results98, go_sem, g0, g1, g2, g3]

end Go.Proofs.Ytnkopcmkanibhaa

/-
  The document's own reader of patterns: member, number, Digits, Words, wide: what they do, as functions of the reader's state. Contracts for other texts; no statement of its own.
-/
namespace Go.Proofs.Ytnkopcmkanibhaa
open Go Go.RowKit

theorem escaped_pos (s : ByteArray) (st : St) (h : st.pos ≤ s.size) : (st.escaped s).2.pos ≤ s.size ∧ st.pos ≤ (st.escaped s).2.pos := by
  have := next_pos s st h
  unfold St.escaped
  simp only
  split
  · exact this
  · split
    · exact this
    · split
      · exact this
      · rw [fail_pos]; exact this

set_option maxHeartbeats 400000 in
theorem member_p (w : World) (g : Nat) (s : ByteArray) (st : St) (h : Rdr w g s st) (hs : s.size ≤ 1000) (hpos : st.pos ≤ s.size) :
    Calls Try.prog 101 #[.pointer (some ⟨g, 0, none⟩)] w fun e w' => e = .returned (.int .u8 (st.member s).1) ∧ Rdr w' g s (st.member s).2 ∧ w.grownBy w' (some g) := by
  have hbd := next_bd s st
  have hps := next_pos s st hpos
  have HN := Lib.hid (next_p w g s st h hs)
  generalize hc : (st.next s).1 = c at *
  generalize h1 : (st.next s).2 = st1 at *
  have HE : Hid (st.member s = if c = 92 then (if c = 93 then st1.fail ((st1.pos : Int) - 1) 2 else st1).escaped s else (max c 0, if c = 93 then st1.fail ((st1.pos : Int) - 1) 2 else st1)) := by
    show St.member s st = _
    unfold St.member
    simp only [hc, h1]
  clear hc h1
  by_cases e1 : c = 93
  · have hE := HE.out
    rw [if_neg (by omega), if_pos e1] at hE
    rw [hE, e1]
    clear hE HE
    have e1' : (c == 93) = true := by simp [e1]
    have e2' : (c == 92) = false := by simp [e1]
    have hc : (max c 0) = 93 := by omega
    go_enter Try.func101, Try.ntmps101
    go_wp2_with (first
      | (go_at_call 87; (with_reducible refine (HN.out).mono ?_); rintro e w1 ⟨rfl, hr, ho⟩; rw [e1]; obtain ⟨k0, k1, k2, k3, k4⟩ := hr.cell)
      | (go_at_call 89; (with_reducible refine (fail_p _ g s st1 _ _ hr).mono ?_); rintro e w3 ⟨rfl, hr3, ho3⟩))
    go_ret
    exact ⟨rfl, hr3, only_trans ho ho3⟩
  · have e1' : (c == 93) = false := by simp [e1]
    have hE := HE.out
    clear HE
    simp only [if_neg e1] at hE
    by_cases e2 : c = 92
    · rw [if_pos e2] at hE
      rw [hE]
      clear hE
      have e2' : (c == 92) = true := by simp [e2]
      clear e1 e2
      go_enter Try.func101, Try.ntmps101
      go_wp2_with (first
        | (go_at_call 87; (with_reducible refine (HN.out).mono ?_); rintro e w1 ⟨rfl, hr, ho⟩)
        | (go_at_call 95; (with_reducible refine (escaped_p _ g s st1 hr hs hps.1).mono ?_); rintro e w3 ⟨rfl, hr3, ho3⟩))
      go_ret
      exact ⟨rfl, hr3, only_trans ho ho3⟩
    · rw [if_neg e2] at hE
      rw [hE]
      clear hE
      have e2' : (c == 92) = false := by simp [e2]
      clear e1 e2
      by_cases e3 : c < 0
      · have hm : max c 0 = 0 := by omega
        rw [hm]
        go_enter Try.func101, Try.ntmps101
        go_wp2_with (go_at_call 87; (with_reducible refine (HN.out).mono ?_); rintro e w1 ⟨rfl, hr, ho⟩)
        go_ret
        exact ⟨rfl, hr, ho⟩
      · have hm : max c 0 = c := by omega
        rw [hm]
        go_enter Try.func101, Try.ntmps101
        go_wp2_with (go_at_call 87; (with_reducible refine (HN.out).mono ?_); rintro e w1 ⟨rfl, hr, ho⟩)
        go_ret
        exact ⟨rfl, hr, ho⟩

set_option maxHeartbeats 400000 in
theorem number_p (w : World) (g : Nat) (s : ByteArray) (st : St) (h : Rdr w g s st) (hs : s.size ≤ 1000) (hpos : st.pos ≤ s.size) :
    Calls Try.prog 88 #[.pointer (some ⟨g, 0, none⟩)] w fun e w' => e = .returned (.int .i64 (st.number s).1) ∧ Rdr w' g s (st.number s).2 ∧ w.grownBy w' (some g) := by
  have hbd := next_bd s st
  have hps := next_pos s st hpos
  have HN := Lib.hid (next_p w g s st h hs)
  generalize hc : (st.next s).1 = c at *
  generalize h1 : (st.next s).2 = st1 at *
  have HE : Hid (st.number s = if c < 48 ∨ 57 < c then (0, st1.fail ((st1.pos : Int) - 1) 2) else if 48 ≤ st1.peek s ∧ st1.peek s ≤ 57 then (10 * (c - 48) + st1.peek s - 48, st1.step 1) else (c - 48, st1)) := by
    show St.number s st = _
    unfold St.number
    simp only [hc, h1]
  clear hc h1
  have hpd := peek_bd s st1
  have hE := HE.out
  clear HE
  by_cases e1 : c < 48 ∨ 57 < c
  · rw [if_pos e1] at hE
    rw [hE]
    clear hE
    rcases e1 with e1 | e1
    all_goals
      go_enter Try.func88, Try.ntmps88
      go_wp2_with (first
        | (go_at_call 87; (with_reducible refine (HN.out).mono ?_); rintro e w1 ⟨rfl, hr, ho⟩; obtain ⟨k0, k1, k2, k3, k4⟩ := hr.cell)
        | (go_at_call 89; (with_reducible refine (fail_p _ g s st1 _ _ hr).mono ?_); rintro e w3 ⟨rfl, hr3, ho3⟩))
      go_ret
      exact ⟨rfl, hr3, only_trans ho ho3⟩
  · rw [if_neg e1] at hE
    have a1 : 48 ≤ c := by omega
    have a2 : c ≤ 57 := by omega
    clear e1
    have HP := Lib.hid (fun (w : World) (h : Rdr w g s st1) => peek_p w g s st1 h hs)
    have HQ := Lib.hid (peek_pos s st1)
    generalize hd : st1.peek s = d at *
    clear hd
    by_cases e2 : 48 ≤ d ∧ d ≤ 57
    · rw [if_pos e2] at hE
      rw [hE]
      clear hE
      obtain ⟨b1, b2⟩ := e2
      have hp := HQ.out (by omega)
      have hp2 := hp.2
      clear hp HQ
      go_enter Try.func88, Try.ntmps88
      go_wp2_with (first
        | (go_at_call 87; (with_reducible refine (HN.out).mono ?_); rintro e w1 ⟨rfl, hr, ho⟩; obtain ⟨k0, k1, k2, k3, k4⟩ := hr.cell; obtain ⟨f0, f1, f2, f3, f4⟩ := hr.frozen)
        | (go_at_call 83; (with_reducible refine (HP.out _ hr).mono ?_); rintro e w2 ⟨rfl, n, rfl⟩))
      go_ret
      exact ⟨rfl, hr.setPos (st1.pos + 1), only_drewN (only_set ho _) _⟩
    · rw [if_neg e2] at hE
      rw [hE]
      clear hE HQ
      rcases (show d < 48 ∨ (48 ≤ d ∧ 57 < d) by omega) with b1 | ⟨b1, b2⟩
      all_goals
        clear e2
        go_enter Try.func88, Try.ntmps88
        go_wp2_with (first
          | (go_at_call 87; (with_reducible refine (HN.out).mono ?_); rintro e w1 ⟨rfl, hr, ho⟩)
          | (go_at_call 83; (with_reducible refine (HP.out _ hr).mono ?_); rintro e w2 ⟨rfl, n, rfl⟩))
        go_ret
        exact ⟨rfl, hr, only_drewN ho _⟩

end Go.Proofs.Ytnkopcmkanibhaa

/-
  The document's own reader of patterns: Digits, Words, wide, item, class, One: what they do, as functions of the reader's state. Contracts for other texts; no statement of its own.
-/
namespace Go.Proofs.Ytnkopcmkanibhaa
open Go Go.RowKit
attribute [local go_sem ↓] Go.wp_at_zero Go.wp_at_succ

def digP : Nat → Bool := rangeP 48 57
def wordP : Nat → Bool := orP (orP digP (memP [95])) (orP (rangeP 97 122) (rangeP 65 90))

set_option maxHeartbeats 400000 in
theorem digits_p (w : World) : Calls Try.prog 99 #[] w fun e w' => e = .returned (setV digP) ∧ Below w.heap.size w w' := by
  have b0 := Box4.new0 w
  have hB : Below w.heap.size w (w.alloc (.cells #[.int .u64 0, .int .u64 0, .int .u64 0, .int .u64 0] 72)) := (Below.refl _ _).alloc (Nat.le_refl _) _
  generalize hw0 : w.alloc (.cells #[.int .u64 0, .int .u64 0, .int .u64 0, .int .u64 0] 72) = w0 at *
  have HW := Lib.hid hw0
  clear hw0
  go_enter Try.func99, Try.ntmps99
  go_wp2_with fail
  rw [HW.out]
  clear HW
  go_wp2_with (go_at_call 102; (with_reducible refine (rrange_p 48 57 _ (by omega) (by omega) (by omega) (by omega)).mono ?_); rintro e w1 ⟨rfl, hb1⟩; unfold setV; obtain ⟨d0, d1, d2, d3⟩ := (b0.stays hb1).cell; obtain ⟨g0, g1, g2, g3⟩ := (b0.stays hb1).frozen)
  refine bodyPost_ret (v := setV digP) ?_ rfl ⟨rfl, below_put4 (g := w.heap.size) (gro hB hb1) (Nat.le_refl _) digP⟩
  unfold setV digP
  simp [results, Try.results99, go_sem, d0, d1, d2, d3]

set_option maxRecDepth 20000 in
set_option maxHeartbeats 2000000 in
theorem words_p (w : World) : Calls Try.prog 100 #[] w fun e w' => e = .returned (setV wordP) ∧ Below w.heap.size w w' := by
  have b0 := Box4.new0 w
  have hB : Below w.heap.size w (w.alloc (.cells #[.int .u64 0, .int .u64 0, .int .u64 0, .int .u64 0] 72)) := (Below.refl _ _).alloc (Nat.le_refl _) _
  generalize hw0 : w.alloc (.cells #[.int .u64 0, .int .u64 0, .int .u64 0, .int .u64 0] 72) = w0 at *
  have HW := Lib.hid hw0
  clear hw0
  go_enter Try.func100, Try.ntmps100
  go_wp2_with fail
  rw [HW.out]
  clear HW
  go_wp2_with (first
    | (go_at_call 99; (with_reducible refine (digits_p _).mono ?_); rintro e w1 ⟨rfl, hb1⟩; replace hB := gro hB hb1; replace b0 := b0.stays hb1; unfold setV)
    | (go_at_call 93; (with_reducible refine (rof_p _ 1 1 [95] _ rfl (rd_new1 _ _) (by intro k hk; simp at hk; subst hk; simp) (by simp)).mono ?_); rintro e w2 ⟨rfl, hb2⟩; replace hB := gro1 hB hb2; replace b0 := (b0.alloc _).stays hb2; unfold setV)
    | (go_at_call 98; (with_reducible refine (ror_p _ _ _).mono ?_); rintro e w3 ⟨rfl, hb3⟩; replace hB := gro hB hb3; replace b0 := b0.stays hb3; unfold setV))
  have b1 := Box4.new w3 (orP digP (memP [95]))
  replace b0 := b0.alloc (.cells #[.int .u64 (word (orP digP (memP [95])) 0), .int .u64 (word (orP digP (memP [95])) 1), .int .u64 (word (orP digP (memP [95])) 2), .int .u64 (word (orP digP (memP [95])) 3)] 72)
  replace hB := hB.alloc hB.size (.cells #[.int .u64 (word (orP digP (memP [95])) 0), .int .u64 (word (orP digP (memP [95])) 1), .int .u64 (word (orP digP (memP [95])) 2), .int .u64 (word (orP digP (memP [95])) 3)] 72)
  generalize w3.alloc (.cells #[.int .u64 (word (orP digP (memP [95])) 0), .int .u64 (word (orP digP (memP [95])) 1), .int .u64 (word (orP digP (memP [95])) 2), .int .u64 (word (orP digP (memP [95])) 3)] 72) = w4 at *
  obtain ⟨c0, c1, c2, c3⟩ := b1.cell
  go_region_law (first
    | (go_simp; go_at_call 102; (with_reducible refine (rrange_p 97 122 _ (by omega) (by omega) (by omega) (by omega)).mono ?_); rintro e w5 ⟨rfl, hb5⟩; replace hb5 := undrew hb5; have hB5 := gro hB hb5; have b05 := b0.stays hb5; have b15 := b1.stays hb5; obtain ⟨k0, k1, k2, k3⟩ := b15.cell; unfold setV)
    | (go_simp; go_at_call 102; (with_reducible refine (rrange_p 65 90 _ (by omega) (by omega) (by omega) (by omega)).mono ?_); rintro e w6 ⟨rfl, hb6⟩; have hB6 := gro hB5 hb6; have b06 := b05.stays hb6; have b16 := b15.stays hb6; obtain ⟨l0, l1, l2, l3⟩ := b16.cell; unfold setV)
    | (go_simp; go_at_call 98; (with_reducible refine (ror_p (rangeP 97 122) (rangeP 65 90) _).mono ?_); rintro e w7 ⟨rfl, hb7⟩; have hB7 := gro hB6 hb7; have b07 := b06.stays hb7; have b17 := b16.stays hb7; obtain ⟨m0, m1, m2, m3⟩ := b17.cell; unfold setV)
    | (go_simp; go_at_call 98; (with_reducible refine (ror_p (orP digP (memP [95])) (orP (rangeP 97 122) (rangeP 65 90)) _).mono ?_); rintro e w8 ⟨rfl, hb8⟩; have hB8 := gro hB7 hb8; unfold setV; obtain ⟨d0, d1, d2, d3⟩ := (b07.stays hb8).cell; obtain ⟨g0, g1, g2, g3⟩ := (b07.stays hb8).frozen))
  all_goals go_wp2
  all_goals
    refine bodyPost_ret (v := setV wordP) ?_ rfl ⟨rfl, below_put4 (g := w.heap.size) hB8 (Nat.le_refl _) wordP⟩
    unfold setV wordP
    simp [results, Try.results100, go_sem, d0, d1, d2, d3]

/-- The set of backslash d, of backslash w; or neither. -/
def wideP (c : Int) : Nat → Bool := if c = 100 then digP else if c = 119 then wordP else noneP
def isWide (c : Int) : Bool := c == 100 || c == 119

set_option maxHeartbeats 400000 in
theorem wide_p (w : World) (c : Int) : Calls Try.prog 94 #[.int .i64 c] w fun e w' => e = .returned (.tuple #[setV (wideP c), .bool (isWide c)]) ∧ Below w.heap.size w w' := by
  have b0 := Box4.new0 w
  have hB : Below w.heap.size w (w.alloc (.cells #[.int .u64 0, .int .u64 0, .int .u64 0, .int .u64 0] 72)) := (Below.refl _ _).alloc (Nat.le_refl _) _
  generalize hw0 : w.alloc (.cells #[.int .u64 0, .int .u64 0, .int .u64 0, .int .u64 0] 72) = w0 at *
  have HW := Lib.hid hw0
  clear hw0
  by_cases e1 : c = 100
  · have x1 : wideP c = digP := by unfold wideP; rw [if_pos e1]
    have x2 : isWide c = true := by unfold isWide; simp [e1]
    rw [x1, x2]
    clear x1 x2
    have e1' : (c == 100) = true := by simp [e1]
    clear e1
    go_enter Try.func94, Try.ntmps94
    go_wp2_with fail
    rw [HW.out]
    clear HW
    go_wp2_with (go_at_call 99; (with_reducible refine (digits_p _).mono ?_); rintro e w1 ⟨rfl, hb1⟩; unfold setV; obtain ⟨d0, d1, d2, d3⟩ := (b0.stays hb1).cell; obtain ⟨g0, g1, g2, g3⟩ := (b0.stays hb1).frozen)
    refine bodyPost_ret (v := .tuple #[setV digP, .bool true]) ?_ rfl ⟨rfl, below_put4 (g := w.heap.size) (gro hB hb1) (Nat.le_refl _) digP⟩
    unfold setV
    simp [results, Try.results94, go_sem, d0, d1, d2, d3]
  · have e1' : (c == 100) = false := by simp [e1]
    by_cases e2 : c = 119
    · have x1 : wideP c = wordP := by unfold wideP; rw [if_neg e1, if_pos e2]
      have x2 : isWide c = true := by unfold isWide; simp [e2]
      rw [x1, x2]
      clear x1 x2
      have e2' : (c == 119) = true := by simp [e2]
      clear e1 e2
      go_enter Try.func94, Try.ntmps94
      go_wp2_with fail
      rw [HW.out]
      clear HW
      go_wp2_with (go_at_call 100; (with_reducible refine (words_p _).mono ?_); rintro e w1 ⟨rfl, hb1⟩; unfold setV; obtain ⟨d0, d1, d2, d3⟩ := (b0.stays hb1).cell; obtain ⟨g0, g1, g2, g3⟩ := (b0.stays hb1).frozen)
      refine bodyPost_ret (v := .tuple #[setV wordP, .bool true]) ?_ rfl ⟨rfl, below_put4 (g := w.heap.size) (gro hB hb1) (Nat.le_refl _) wordP⟩
      unfold setV
      simp [results, Try.results94, go_sem, d0, d1, d2, d3]
    · have x1 : wideP c = noneP := by unfold wideP; rw [if_neg e1, if_neg e2]
      have x2 : isWide c = false := by unfold isWide; simp [e1, e2]
      rw [x1, x2]
      clear x1 x2
      have e2' : (c == 119) = false := by simp [e2]
      clear e1 e2
      obtain ⟨d0, d1, d2, d3⟩ := b0.cell
      obtain ⟨g0, g1, g2, g3⟩ := b0.frozen
      simp only [word_none] at d0 d1 d2 d3
      go_enter Try.func94, Try.ntmps94
      go_wp2
      refine bodyPost_ret (v := .tuple #[setV noneP, .bool false]) ?_ rfl ⟨rfl, (Below.refl _ _).alloc (Nat.le_refl _) _⟩
      unfold setV
      simp only [word_none]
      simp [results, Try.results94, go_sem]

end Go.Proofs.Ytnkopcmkanibhaa
