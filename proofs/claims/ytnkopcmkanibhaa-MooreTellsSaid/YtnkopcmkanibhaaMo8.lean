/-
  Several texts of this proof in one file: RefRd5, RxPure, RxAll, LangMath, NfaMath, NfaRows. No statement of its own.
-/
import Derived.Test.YtnkopcmkanibhaaMo7
import Derived.Deep.RegionHeld3
import Derived.Deep.DrawnRows
import Derived.Test.YtnkopcmkanibhaaMo3
import Derived.Test.YtnkopcmkanibhaaMo2
import Derived.Test.YtnkopcmkanibhaaMo1
set_option linter.unusedVariables false
set_option linter.unusedSimpArgs false

/-
  The document's own reader of patterns: item, class, One: what they do, as functions of the reader's state. Contracts for other texts; no statement of its own.
-/
namespace Go.Proofs.Ytnkopcmkanibhaa
open Go Go.RowKit
attribute [local go_sem ↓] Go.wp_at_zero Go.wp_at_succ

namespace St
/-- Does an item begin here that is a set of many bytes? -/
def wideHere (s : ByteArray) (st : St) : Bool := st.peek s == 92 && decide (st.pos + 1 < s.size) && isWide (bt s (st.pos + 1) : Int)
/-- An item's set, and where the reader is then. -/
def item (s : ByteArray) (st : St) : (Nat → Bool) × St :=
  if st.wideHere s = true then (wideP (bt s (st.pos + 1) : Int), st.step 2) else
  let lo := (st.member s).1
  let st1 := (st.member s).2
  if st1.peek s = 45 then
    let hi := ((st1.step 1).member s).1
    let st3 := ((st1.step 1).member s).2
    (rangeP lo hi, if hi < lo then st3.fail ((st3.pos : Int) - 1) 2 else st3)
  else (rangeP lo lo, st1)
end St

theorem member_bd (s : ByteArray) (st : St) : 0 ≤ (st.member s).1 ∧ (st.member s).1 ≤ 255 := by
  have h1 := next_bd s st
  have h2 : ∀ st' : St, 0 ≤ (st'.escaped s).1 ∧ (st'.escaped s).1 ≤ 255 := by
    intro st'
    have h := next_bd s st'
    unfold St.escaped
    simp only
    split
    · simp
    · split
      · simp
      · split
        · rename_i h3
          have := inT_nonneg _ _ h3
          simp only
          omega
        · simp
  unfold St.member
  simp only
  split
  · exact h2 _
  · simp only
    omega
theorem member_pos (s : ByteArray) (st : St) (h : st.pos ≤ s.size) : (st.member s).2.pos ≤ s.size ∧ st.pos ≤ (st.member s).2.pos := by
  have h1 := next_pos s st h
  unfold St.member
  simp only
  split
  · split
    · have := escaped_pos s ((st.next s).2.fail (((st.next s).2.pos : Int) - 1) 2) (by rw [fail_pos]; exact h1.1)
      rw [fail_pos] at this
      omega
    · have := escaped_pos s (st.next s).2 h1.1
      omega
  · simp only
    split
    · rw [fail_pos]; exact h1
    · exact h1

set_option maxHeartbeats 400000 in
theorem quiet_peek (w : World) (g : Nat) (s : ByteArray) (st : St) (h : Rdr w g s st) (hs : s.size ≤ 1000) (c : Int) (hc : st.peek s = c) :
    Calls Try.prog 83 #[.pointer (some ⟨g, 0, none⟩)] w fun e w' => e = .returned (.int .i64 c) ∧ ∃ n, w' = w.drewN n := by
  rw [← hc]
  exact peek_p w g s st h hs

set_option maxRecDepth 20000 in
set_option maxHeartbeats 4000000 in
theorem item_wide (w : World) (g : Nat) (s : ByteArray) (st : St) (h : Rdr w g s st) (hs : s.size ≤ 1000) (hw : st.wideHere s = true) :
    Calls Try.prog 97 #[.pointer (some ⟨g, 0, none⟩)] w fun e w' => e = .returned (setV (wideP (bt s (st.pos + 1) : Int))) ∧ Rdr w' g s (st.step 2) ∧ w.grownBy w' (some g) := by
  unfold St.wideHere at hw
  simp only [Bool.and_eq_true, beq_iff_eq, decide_eq_true_eq] at hw
  obtain ⟨⟨hp, hlt⟩, hwd⟩ := hw
  have HP := Lib.hid hp
  clear hp
  have hbe := bt_eq s (st.pos + 1) hlt
  have b0 := Box4.new0 w
  have r0 := h.alloc (.cells #[.int .u64 0, .int .u64 0, .int .u64 0, .int .u64 0] 72)
  have hO : w.grownBy (w.alloc (.cells #[.int .u64 0, .int .u64 0, .int .u64 0, .int .u64 0] 72)) (some g) := only_alloc (only_refl _ _) _
  have hgw := h.lt
  generalize hw0 : w.alloc (.cells #[.int .u64 0, .int .u64 0, .int .u64 0, .int .u64 0] 72) = w0 at *
  have HW := Lib.hid hw0
  clear hw0
  obtain ⟨c0, c1, c2, c3, c4⟩ := r0.cell
  have k0 : (0 : Int) ≤ (st.pos : Int) + 1 := by omega
  have k1 : (st.pos : Int) + 1 < (s.size : Int) := by omega
  have k2 : IntKind.i64.wrap ((st.pos : Int) + 1) = (st.pos : Int) + 1 := IntWalk.i64_in _ (by omega)
  have k3 : ((st.pos : Int) + 1).toNat = st.pos + 1 := by omega
  have hd : decide ((st.pos : Int) + 1 < (s.size : Int)) = true := by simp; omega
  go_enter Try.func97, Try.ntmps97
  go_wp2_with fail
  rw [HW.out]
  clear HW
  go_quiet ((go_at_call 83; exact Calls.quiet_of (quiet_peek _ g s st (by first | exact r0 | exact r0.drewN _) hs 92 HP.out)))
  go_wp2_with fail
  generalize hw1 : w0.drewN nq = w1
  replace b0 : Box4 w1 w.heap.size noneP := by rw [← hw1]; exact b0
  replace r0 : Rdr w1 g s st := by rw [← hw1]; exact r0
  replace hO : w.grownBy w1 (some g) := by rw [← hw1]; exact only_drewN hO _
  clear hw1 c0 c1 c2 c3 c4
  obtain ⟨c0, c1, c2, c3, c4⟩ := r0.cell
  have k4 : IntKind.i64.wrap (((s[st.pos + 1]'hlt).toNat : Nat) : Int) = (bt s (st.pos + 1) : Int) := by
    have := UInt8.toNat_lt (s[st.pos + 1]'hlt)
    rw [hbe, IntWalk.i64_in _ (by omega)]
  have hgw1 : g < w1.heap.size := r0.lt
  clear hbe
  refine wp_region_noPanic ?_
  first | go_region_held (fun w' => w'.cell? ⟨g, 0, none⟩ = some (.string s) ∧ w'.cell? ⟨g, 1, none⟩ = some (.int .i64 (st.pos : Int)))
      (first | exact ⟨c0, c1⟩ | (go_split_ands; refine ⟨?_, ?_⟩ <;> first | with_reducible assumption | with_reducible exact cell_stays ‹_› ‹_›) | with_reducible exact ⟨(r2.alloc _).cell.1, (r2.alloc _).cell.2.1⟩ | with_reducible exact ⟨(r2.far4 (g' := w1.heap.size) (by omega) _ _ _ _).cell.1, (r2.far4 (g' := w1.heap.size) (by omega) _ _ _ _).cell.2.1⟩ | go_keep)
      (first | (go_at_call 94; (with_reducible refine (wide_p _ _).mono ?_); rintro e w2 ⟨rfl, hb2⟩; unfold setV; have r2 : Rdr w2 g s st := (by first | with_reducible exact r0.drew.stays hb2 | with_reducible exact (r0.drew.alloc _).stays hb2 | with_reducible exact (r0.alloc _).drew.stays hb2); (try (have bx : Box4 w2 w1.heap.size noneP := (by first | with_reducible exact (Box4.new0 w1.drew).stays hb2 | with_reducible exact (Box4.new0 w1).drew.stays hb2); obtain ⟨x0, x1, x2, x3⟩ := bx.cell; obtain ⟨y0, y1, y2, y3⟩ := bx.frozen))))
        | fail
  all_goals try
    have bA := bx.put (wideP (bt s (st.pos + 1) : Int))
    have nA : w.heap.size ≠ w1.heap.size := by have := b0.lt; omega
    have gA : g ≠ w1.heap.size := by omega
    have bZ : Box4 (put4 w2 w1.heap.size (wideP (bt s (st.pos + 1) : Int))) w.heap.size noneP := (show Box4 w2 w.heap.size noneP by first | with_reducible exact (b0.drew.alloc _).stays hb2 | with_reducible exact (b0.alloc _).drew.stays hb2).putFar nA _
    have rA := r2.put4 gA (wideP (bt s (st.pos + 1) : Int))
    have oA : w.grownBy (put4 w2 w1.heap.size (wideP (bt s (st.pos + 1) : Int))) (some g) := only_put4 (by first | with_reducible exact only_below (only_alloc (only_drew hO) _) hb2 | with_reducible exact only_below (only_drew (only_alloc hO _)) hb2) hO.size _
    change NoPanic _ _ _ (put4 w2 w1.heap.size (wideP (bt s (st.pos + 1) : Int)))
    generalize put4 w2 w1.heap.size (wideP (bt s (st.pos + 1) : Int)) = w3 at *
    generalize w1.heap.size = gx at *
  all_goals try
    fail_if_success (have := oA)
    have rA := r2.alloc (.cells #[.int .u64 (word (wideP (bt s (st.pos + 1) : Int)) 0), .int .u64 (word (wideP (bt s (st.pos + 1) : Int)) 1), .int .u64 (word (wideP (bt s (st.pos + 1) : Int)) 2), .int .u64 (word (wideP (bt s (st.pos + 1) : Int)) 3)] 72)
    have bA := Box4.new w2 (wideP (bt s (st.pos + 1) : Int))
    have bZ := (b0.drew.stays hb2).alloc (.cells #[.int .u64 (word (wideP (bt s (st.pos + 1) : Int)) 0), .int .u64 (word (wideP (bt s (st.pos + 1) : Int)) 1), .int .u64 (word (wideP (bt s (st.pos + 1) : Int)) 2), .int .u64 (word (wideP (bt s (st.pos + 1) : Int)) 3)] 72)
    have oA := only_alloc (only_below (only_drew hO) hb2) (.cells #[.int .u64 (word (wideP (bt s (st.pos + 1) : Int)) 0), .int .u64 (word (wideP (bt s (st.pos + 1) : Int)) 1), .int .u64 (word (wideP (bt s (st.pos + 1) : Int)) 2), .int .u64 (word (wideP (bt s (st.pos + 1) : Int)) 3)] 72)
    have gA : g ≠ w2.heap.size := by have := r2.lt; omega
    have nA : w.heap.size ≠ w2.heap.size := by have := (b0.drew.stays hb2).lt; omega
    generalize w2.alloc (.cells #[.int .u64 (word (wideP (bt s (st.pos + 1) : Int)) 0), .int .u64 (word (wideP (bt s (st.pos + 1) : Int)) 1), .int .u64 (word (wideP (bt s (st.pos + 1) : Int)) 2), .int .u64 (word (wideP (bt s (st.pos + 1) : Int)) 3)] 72) = w3 at *
    generalize w2.heap.size = gx at *
  all_goals
    refine NoPanic.normal ?_
    have hNg : w.heap.size ≠ g := by omega
    clear hb2 r2 b0 r0 hO c0 c1 c2 c3 c4 hd HP
    obtain ⟨c0, c1, c2, c3, c4⟩ := rA.cell
    obtain ⟨f0, f1, f2, f3, f4⟩ := rA.frozen
    obtain ⟨d0, d1, d2, d3⟩ := bA.cell
    obtain ⟨l0, l1, l2, l3⟩ := bZ.cell
    obtain ⟨m0, m1, m2, m3⟩ := bZ.frozen
    go_wp2
    refine bodyPost_ret (v := setV (wideP (bt s (st.pos + 1) : Int))) ?_ rfl ⟨rfl, ?_, ?_⟩
    · unfold setV
      simp [results, Try.results97, go_sem, l0, l1, l2, l3, hNg, Ne.symm hNg]
    · exact (rA.setPos (st.pos + 2)).far4 (Ne.symm hNg) _ _ _ _
    · exact only_setNew (only_setNew (only_setNew (only_setNew (only_set oA _) (Nat.le_refl _) _) (Nat.le_refl _) _) (Nat.le_refl _) _) (Nat.le_refl _) _

end Go.Proofs.Ytnkopcmkanibhaa

/-
  Patterns, read: the grammar as plain functions of a text and a place, with what is amiss, where. No program; no statement of its own.
-/
namespace Go.Proofs.Ytnkopcmkanibhaa
open Go

/-- A pattern, or a part of one: what it is, its set, its numbers, its kids. -/
inductive T where
  | mk (op : Int) (p : Nat → Bool) (lo hi : Int) (kids : List T)
def T.one (p : Nat → Bool) : T := .mk 1 p 0 0 []
def T.rep (lo hi : Int) (t : T) : T := .mk 4 noneP lo hi [t]
def T.zero : T := .mk 0 noneP 0 0 []
def T.many (op : Int) (l : List T) : T := match l with
  | [t] => t
  | l => .mk op noneP 0 0 l

/-- What is read, and where it ends; or what is amiss, where. -/
abbrev R (α : Type) := Except (Int × Int) (α × Nat)

def loopR {α : Type} (step : α → Nat → Option (R α)) : Nat → α → Nat → R α
  | 0, a, p => .ok (a, p)
  | n + 1, a, p => match step a p with
    | none => .ok (a, p)
    | some (.error e) => .error e
    | some (.ok (a', p')) => loopR step n a' p'

def thenR {α β : Type} (r : R α) (f : α → Nat → R β) : R β := match r with
  | .error e => .error e
  | .ok (a, p) => f a p

section
variable (s : ByteArray)

/-- Is that byte next? -/
def isB (pos : Nat) (c : Nat) : Bool := decide (pos < s.size) && bt s pos == c

def quotT : ByteArray := ⟨#[92, 46, 91, 93, 40, 41, 123, 125, 124, 63, 42, 43, 94, 36, 45, 47]⟩
def stopT : ByteArray := ⟨#[93, 41, 125, 123, 124, 63, 94, 36]⟩

def cEsc (pos : Nat) : R Int :=
  if pos < s.size then
    if bt s pos = 110 then .ok (10, pos + 1) else if bt s pos = 116 then .ok (9, pos + 1)
    else if inT (bt s pos : Int) quotT = true then .ok ((bt s pos : Int), pos + 1) else .error (2, (pos : Int))
  else .error (2, (pos : Int))
def cMem (pos : Nat) : R Int :=
  if pos < s.size then
    if bt s pos = 93 then .error (2, (pos : Int)) else if bt s pos = 92 then cEsc s (pos + 1) else .ok ((bt s pos : Int), pos + 1)
  else .error (2, (pos : Int))
/-- \d or \w. -/
def cWide (pos : Nat) : Bool := isB s pos 92 && decide (pos + 1 < s.size) && isWide (bt s (pos + 1) : Int)
def cItem (pos : Nat) : R (Nat → Bool) :=
  if cWide s pos = true then .ok (wideP (bt s (pos + 1) : Int), pos + 2) else
  thenR (cMem s pos) fun lo p1 =>
    if isB s p1 45 = true then thenR (cMem s (p1 + 1)) fun hi p3 => if hi < lo then .error (2, (p3 : Int) - 1) else .ok (rangeP lo hi, p3)
    else .ok (rangeP lo lo, p1)
def clsStep (q : Nat → Bool) (pos : Nat) : Option (R (Nat → Bool)) :=
  if isB s pos 93 = true then none else some (thenR (cItem s pos) fun r p => .ok (orP q r, p))
def cClass (pos : Nat) : R (Nat → Bool) :=
  thenR (thenR (cItem s (if isB s pos 94 = true then pos + 1 else pos)) (loopR (clsStep s) (s.size + 1))) fun q p =>
    .ok (if isB s pos 94 = true then notP q else q, p + 1)
def isD (pos : Nat) : Bool := decide (pos < s.size) && decide (48 ≤ bt s pos) && decide (bt s pos ≤ 57)
def cNum (pos : Nat) : R Int :=
  if isD s pos = true then
    if isD s (pos + 1) = true then .ok (10 * ((bt s pos : Int) - 48) + ((bt s (pos + 1) : Int) - 48), pos + 2) else .ok ((bt s pos : Int) - 48, pos + 1)
  else .error (2, (pos : Int))
def cTimes (pos : Nat) : R (Int × Int) :=
  thenR (cNum s pos) fun lo p =>
    thenR (if isB s p 44 = true then cNum s (p + 1) else .ok (lo, p)) fun hi q =>
      if isB s q 125 = true ∧ 1 ≤ hi ∧ hi ≤ 32 ∧ lo ≤ hi then .ok ((lo, hi), q + 1) else .error (2, (q : Int))
def cAtom (deep : Option (Nat → R T)) (pos : Nat) : R T :=
  if pos < s.size then
    if bt s pos = 40 then (match deep with
      | none => .error (4, (pos : Int))
      | some f => thenR (f (pos + 1)) fun t p => if isB s p 41 = true then .ok (t, p + 1) else .error (2, (p : Int)))
    else if bt s pos = 91 then thenR (cClass s (pos + 1)) fun q p => .ok (.one q, p)
    else if bt s pos = 46 then .ok (.one (notP (rangeP 10 10)), pos + 1)
    else if bt s pos = 92 then
      if cWide s pos = true then .ok (.one (wideP (bt s (pos + 1) : Int)), pos + 2)
      else thenR (cEsc s (pos + 1)) fun b p => .ok (.one (rangeP b b), p)
    else if bt s pos = 42 ∨ bt s pos = 43 then .error (3, (pos : Int))
    else if inT (bt s pos : Int) stopT = true then .error (2, (pos : Int))
    else .ok (.one (rangeP (bt s pos : Int) (bt s pos : Int)), pos + 1)
  else .error (2, (pos : Int))
def repStep (t : T) (pos : Nat) : Option (R T) :=
  if isB s pos 63 = true then some (.ok (.rep 0 1 t, pos + 1))
  else if isB s pos 123 = true then some (thenR (cTimes s (pos + 1)) fun m p => .ok (.rep m.1 m.2 t, p))
  else none
def cPiece (deep : Option (Nat → R T)) (pos : Nat) : R T := thenR (cAtom s deep pos) (loopR (repStep s) (s.size + 1))
def partStep (deep : Option (Nat → R T)) (top : Bool) (l : List T) (pos : Nat) : Option (R (List T)) :=
  if pos < s.size ∧ bt s pos ≠ 124 ∧ (bt s pos ≠ 41 ∨ top = true) then some (thenR (cPiece s deep pos) fun t p => .ok (l ++ [t], p)) else none
def cPart (deep : Option (Nat → R T)) (top : Bool) (pos : Nat) : R T :=
  thenR (thenR (cPiece s deep pos) fun t p => loopR (partStep s deep top) (s.size + 1) [t] p) fun l p => .ok (.many 2 l, p)
def patStep (deep : Option (Nat → R T)) (top : Bool) (l : List T) (pos : Nat) : Option (R (List T)) :=
  if isB s pos 124 = true then some (thenR (cPart s deep top (pos + 1)) fun t p => .ok (l ++ [t], p)) else none
def cPat (deep : Option (Nat → R T)) (top : Bool) (pos : Nat) : R T :=
  thenR (thenR (cPart s deep top pos) fun t p => loopR (patStep s deep top) (s.size + 1) [t] p) fun l p => .ok (.many 3 l, p)
def pat : Nat → Bool → Nat → R T
  | 0, top, pos => cPat s none top pos
  | d + 1, top, pos => cPat s (some (pat d false)) top pos
/-- The whole text, as a pattern. -/
def parse : Except (Int × Int) T :=
  if 200 < s.size then .error (4, 0) else match pat s 20 true 0 with
  | .error e => .error e
  | .ok (t, _) => .ok t
end

/-! Where each ends. -/
/-- What is read ends behind where it began, in the text. -/
def Fwd {α : Type} (s : ByteArray) (pos : Nat) (r : R α) : Prop := match r with
  | .ok (_, p) => pos < p ∧ p ≤ s.size
  | .error (c, a) => 0 < c ∧ 0 ≤ a

section
variable {s : ByteArray} {α β : Type}
theorem isB_lt {pos c : Nat} (h : isB s pos c = true) : pos < s.size ∧ bt s pos = c := by simpa [isB] using h
theorem Fwd.mono {r : R α} {p q : Nat} (h : Fwd s q r) (hp : p ≤ q) : Fwd s p r := by
  unfold Fwd at *
  split <;> simp_all
  omega
theorem Fwd.bind {r : R α} {f : α → Nat → R β} {pos : Nat} (h : Fwd s pos r) (hf : ∀ a p, pos < p → p ≤ s.size → Fwd s pos (f a p)) : Fwd s pos (thenR r f) := by
  unfold thenR
  match r, h with
  | .error e, h => exact h
  | .ok (a, p), h => exact hf a p h.1 h.2
theorem Fwd.loop {step : α → Nat → Option (R α)} (hs : ∀ a p r, p ≤ s.size → step a p = some r → Fwd s p r) : ∀ (n : Nat) (a : α) (pos p : Nat), pos < p → p ≤ s.size → Fwd s pos (loopR step n a p)
  | 0, a, pos, p, h1, h2 => ⟨h1, h2⟩
  | n + 1, a, pos, p, h1, h2 => by
    unfold loopR
    cases h : step a p with
    | none => exact ⟨h1, h2⟩
    | some r =>
      have := hs a p r h2 h
      match r, this with
      | .error e, h => exact h
      | .ok (a', p'), h => exact Fwd.loop hs n a' pos p' (Nat.lt_trans h1 h.1) h.2
end

section
variable (s : ByteArray)
theorem esc_fwd (pos : Nat) : Fwd s pos (cEsc s pos) := by
  unfold cEsc
  split
  · split
    · exact ⟨by omega, by omega⟩
    · split
      · exact ⟨by omega, by omega⟩
      · split
        · exact ⟨by omega, by omega⟩
        · simp [Fwd]
  · simp [Fwd]
theorem mem_fwd (pos : Nat) : Fwd s pos (cMem s pos) := by
  unfold cMem
  split
  · split
    · simp [Fwd]
    · split
      · exact (esc_fwd s (pos + 1)).mono (by omega)
      · simp [Fwd]; omega
  · simp [Fwd]
theorem item_fwd (pos : Nat) : Fwd s pos (cItem s pos) := by
  unfold cItem
  split
  · rename_i h
    simp [cWide] at h
    simp [Fwd]; omega
  · refine (mem_fwd s pos).bind fun lo p1 h1 h2 => ?_
    split
    · rename_i h
      have := isB_lt h
      refine Fwd.bind ((mem_fwd s (p1 + 1)).mono (by omega)) fun hi p3 h3 h4 => ?_
      split
      · simp [Fwd]; omega
      · exact ⟨h3, h4⟩
    · exact ⟨h1, h2⟩
theorem clsStep_fwd (q : Nat → Bool) (p : Nat) (r : R (Nat → Bool)) (h : clsStep s q p = some r) : Fwd s p r := by
  unfold clsStep at h
  split at h
  · cases h
  · cases h
    exact (item_fwd s p).bind fun a p' h1 h2 => ⟨h1, h2⟩
/-- Behind the items the bracket that shuts them is next. -/
theorem cls_loop : ∀ (n : Nat) (q : Nat → Bool) (p : Nat), p ≤ s.size → s.size + 1 - p ≤ n → (∃ e, loopR (clsStep s) n q p = .error e ∧ 0 < e.1 ∧ 0 ≤ e.2) ∨ ∃ q' p', loopR (clsStep s) n q p = .ok (q', p') ∧ isB s p' 93 = true ∧ p ≤ p'
  | 0, q, p, h1, h2 => by omega
  | n + 1, q, p, h1, h2 => by
    unfold loopR
    cases h : clsStep s q p with
    | none =>
      right
      refine ⟨q, p, rfl, ?_, Nat.le_refl _⟩
      unfold clsStep at h
      split at h
      · assumption
      · cases h
    | some r =>
      have := clsStep_fwd s q p r h
      match r, this with
      | .error e, h => exact .inl ⟨e, rfl, h⟩
      | .ok (a', p'), h =>
        have h3 := h.1
        rcases cls_loop n a' p' h.2 (by omega) with h4 | ⟨q2, p2, h4, h5, h6⟩
        · exact .inl h4
        · exact .inr ⟨q2, p2, h4, h5, by omega⟩
theorem class_fwd (pos : Nat) : Fwd s pos (cClass s pos) := by
  unfold cClass
  have h0 : Fwd s pos (cItem s (if isB s pos 94 = true then pos + 1 else pos)) := by split <;> exact (item_fwd s _).mono (by omega)
  revert h0
  generalize cItem s (if isB s pos 94 = true then pos + 1 else pos) = r
  intro h0
  match r, h0 with
  | .error e, h0 => exact h0
  | .ok (q, p), h0 =>
    have h1 := h0.1
    have h2 := h0.2
    rcases cls_loop s (s.size + 1) q p h2 (by omega) with ⟨e, h3, h4⟩ | ⟨q', p', h3, h4, h5⟩
    · show Fwd s pos (thenR (loopR (clsStep s) (s.size + 1) q p) _)
      rw [h3]; exact h4
    · show Fwd s pos (thenR (loopR (clsStep s) (s.size + 1) q p) _)
      rw [h3]
      have := isB_lt h4
      exact ⟨by omega, by omega⟩
theorem num_fwd (pos : Nat) : Fwd s pos (cNum s pos) := by
  unfold cNum
  split
  · rename_i h
    simp [isD] at h
    split
    · rename_i h'
      simp [isD] at h'
      simp [Fwd]; omega
    · simp [Fwd]; omega
  · simp [Fwd]
theorem times_fwd (pos : Nat) : Fwd s pos (cTimes s pos) := by
  unfold cTimes
  refine (num_fwd s pos).bind fun lo p h1 h2 => ?_
  have h0 : Fwd s pos (if isB s p 44 = true then cNum s (p + 1) else .ok (lo, p)) := by
    split
    · exact (num_fwd s _).mono (by omega)
    · exact ⟨h1, h2⟩
  refine h0.bind fun hi q h3 h4 => ?_
  split
  · rename_i h
    have := isB_lt h.1
    exact ⟨by omega, by omega⟩
  · simp [Fwd]
theorem atom_fwd (deep : Option (Nat → R T)) (hd : ∀ f, deep = some f → ∀ p, p ≤ s.size → Fwd s p (f p)) (pos : Nat) : Fwd s pos (cAtom s deep pos) := by
  unfold cAtom
  split
  · split
    · cases deep with
      | none => simp [Fwd]
      | some f =>
        refine Fwd.bind ((hd f rfl (pos + 1) (by omega)).mono (by omega)) fun t p h1 h2 => ?_
        split
        · rename_i h
          have := isB_lt h
          exact ⟨by omega, by omega⟩
        · simp [Fwd]
    · split
      · exact Fwd.bind ((class_fwd s (pos + 1)).mono (by omega)) fun q p h1 h2 => ⟨h1, h2⟩
      · split
        · exact ⟨by omega, by omega⟩
        · split
          · split
            · rename_i h
              simp [cWide] at h
              exact ⟨by omega, by omega⟩
            · exact Fwd.bind ((esc_fwd s (pos + 1)).mono (by omega)) fun q p h1 h2 => ⟨h1, h2⟩
          · split
            · simp [Fwd]
            · split
              · simp [Fwd]
              · exact ⟨by omega, by omega⟩
  · simp [Fwd]
theorem repStep_fwd (t : T) (p : Nat) (r : R T) (h : repStep s t p = some r) : Fwd s p r := by
  unfold repStep at h
  split at h
  · rename_i h1
    have := isB_lt h1
    cases h
    exact ⟨by omega, by omega⟩
  · split at h
    · cases h
      exact Fwd.bind ((times_fwd s (p + 1)).mono (by omega)) fun q p h1 h2 => ⟨h1, h2⟩
    · cases h
variable (deep : Option (Nat → R T)) (hd : ∀ f, deep = some f → ∀ p, p ≤ s.size → Fwd s p (f p)) (top : Bool)
include hd
theorem piece_fwd (pos : Nat) : Fwd s pos (cPiece s deep pos) :=
  (atom_fwd s deep hd pos).bind fun t p h1 h2 => Fwd.loop (fun a p r _ h => repStep_fwd s a p r h) _ t pos p h1 h2
theorem partStep_fwd (l : List T) (p : Nat) (r : R (List T)) (h : partStep s deep top l p = some r) : Fwd s p r := by
  unfold partStep at h
  split at h
  · cases h
    exact (piece_fwd s deep hd p).bind fun a p' h1 h2 => ⟨h1, h2⟩
  · cases h
theorem part_fwd (pos : Nat) : Fwd s pos (cPart s deep top pos) :=
  Fwd.bind ((piece_fwd s deep hd pos).bind fun t p h1 h2 => Fwd.loop (fun a p r _ h => partStep_fwd s deep hd top a p r h) _ [t] pos p h1 h2) fun l p h1 h2 => ⟨h1, h2⟩
theorem patStep_fwd (l : List T) (p : Nat) (r : R (List T)) (h : patStep s deep top l p = some r) : Fwd s p r := by
  unfold patStep at h
  split at h
  · cases h
    exact Fwd.bind ((part_fwd s deep hd top (p + 1)).mono (by omega)) fun a p' h1 h2 => ⟨h1, h2⟩
  · cases h
theorem cPat_fwd (pos : Nat) : Fwd s pos (cPat s deep top pos) :=
  Fwd.bind ((part_fwd s deep hd top pos).bind fun t p h1 h2 => Fwd.loop (fun a p r _ h => patStep_fwd s deep hd top a p r h) _ [t] pos p h1 h2) fun l p h1 h2 => ⟨h1, h2⟩
omit hd
theorem pat_fwd : ∀ (d : Nat) (top : Bool) (pos : Nat), Fwd s pos (pat s d top pos)
  | 0, top, pos => cPat_fwd s none (fun f h => by cases h) top pos
  | d + 1, top, pos => cPat_fwd s (some (pat s d false)) (fun f h p _ => by cases h; exact pat_fwd d false p) top pos
end

end Go.Proofs.Ytnkopcmkanibhaa

/-
  What holds of all nodes that the grammar makes holds of a pattern. Plain mathematics; no statement of its own.
-/
namespace Go.Proofs.Ytnkopcmkanibhaa
open Go

/-- A property that each node has which the grammar makes, whatever its kids. -/
structure Made (N : Nat) (Q : T → Prop) : Prop where
  one : ∀ p, Q (.one p)
  rep : ∀ m n t, 0 ≤ m → m ≤ n → 1 ≤ n → n ≤ 32 → Q t → Q (.rep m n t)
  cat : ∀ l, 2 ≤ l.length → l.length ≤ N → (∀ x ∈ l, Q x) → Q (.mk 2 noneP 0 0 l)
  alt : ∀ l, 2 ≤ l.length → l.length ≤ N → (∀ x ∈ l, Q x) → Q (.mk 3 noneP 0 0 l)

theorem num_pos {s : ByteArray} {p q : Nat} {m : Int} (h : cNum s p = .ok (m, q)) : 0 ≤ m := by
  unfold cNum at h
  by_cases h1 : isD s p = true
  · rw [if_pos h1] at h
    simp [isD] at h1
    by_cases h2 : isD s (p + 1) = true
    · rw [if_pos h2] at h
      simp [isD] at h2
      injection h with h; injection h with h _
      omega
    · rw [if_neg h2] at h
      injection h with h; injection h with h _
      omega
  · rw [if_neg h1] at h; cases h
theorem times_good {s : ByteArray} {p q : Nat} {m n : Int} (h : cTimes s p = .ok ((m, n), q)) : 0 ≤ m ∧ m ≤ n ∧ 1 ≤ n ∧ n ≤ 32 := by
  unfold cTimes at h
  cases hc : cNum s p with
  | error e => rw [hc] at h; cases h
  | ok x =>
    rw [hc] at h
    simp only [thenR] at h
    have h0 := num_pos (m := x.1) (q := x.2) hc
    cases hd : (if isB s x.2 44 = true then cNum s (x.2 + 1) else (.ok (x.1, x.2) : R Int)) with
    | error e => rw [hd] at h; cases h
    | ok y =>
      rw [hd] at h
      simp only at h
      by_cases hk : isB s y.2 125 = true ∧ 1 ≤ y.1 ∧ y.1 ≤ 32 ∧ x.1 ≤ y.1
      · rw [if_pos hk] at h
        injection h with h; injection h with h _; injection h with h1 h2
        subst h1 h2
        exact ⟨h0, hk.2.2.2, hk.2.1, hk.2.2.1⟩
      · rw [if_neg hk] at h; cases h
theorem many_two {op : Int} {l : List T} {Q : T → Prop} (h1 : 1 ≤ l.length) (hl : ∀ x ∈ l, Q x) (hm : 2 ≤ l.length → Q (.mk op noneP 0 0 l)) : Q (T.many op l) := by
  unfold T.many
  split
  · rename_i z
    exact hl z (by simp)
  · rename_i hne
    refine hm ?_
    match l, h1, hne with
    | [x], _, hne => exact absurd rfl (hne x)
    | _ :: _ :: _, _, _ => simp

section
variable {s : ByteArray} {Q : T → Prop} (hQ : Made (s.size + 2) Q) {d : Option (Nat → R T)} {top : Bool} (hd : ∀ f, d = some f → ∀ p t q, f p = .ok (t, q) → Q t)
include hQ hd
theorem Made.atom {p q : Nat} {t : T} (h : cAtom s d p = .ok (t, q)) : Q t := by
  unfold cAtom at h
  by_cases hlt : p < s.size
  · rw [if_pos hlt] at h
    split at h
    · cases d with
      | none => cases h
      | some f =>
        simp only at h
        cases hc : f (p + 1) with
        | error e => rw [hc] at h; cases h
        | ok x =>
          rw [hc] at h
          simp only [thenR] at h
          split at h
          · injection h with h; injection h with h _; rw [← h]; exact hd f rfl (p + 1) x.1 x.2 hc
          · cases h
    · split at h
      · cases hc : cClass s (p + 1) with
        | error e => rw [hc] at h; cases h
        | ok x => rw [hc] at h; injection h with h; injection h with h _; rw [← h]; exact hQ.one _
      · split at h
        · injection h with h; injection h with h _; rw [← h]; exact hQ.one _
        · split at h
          · split at h
            · injection h with h; injection h with h _; rw [← h]; exact hQ.one _
            · cases hc : cEsc s (p + 1) with
              | error e => rw [hc] at h; cases h
              | ok x => rw [hc] at h; injection h with h; injection h with h _; rw [← h]; exact hQ.one _
          · split at h
            · cases h
            · split at h
              · cases h
              · injection h with h; injection h with h _; rw [← h]; exact hQ.one _
  · rw [if_neg hlt] at h; cases h
omit hd in
theorem Made.rloop : ∀ (n : Nat) (t : T) (p : Nat) (t' : T) (q : Nat), Q t → loopR (repStep s) n t p = .ok (t', q) → Q t'
  | 0, t, p, t', q, h0, h => by unfold loopR at h; injection h with h; injection h with h _; rw [← h]; exact h0
  | n + 1, t, p, t', q, h0, h => by
    unfold loopR repStep at h
    by_cases h63 : isB s p 63 = true
    · rw [if_pos h63] at h
      exact Made.rloop n _ _ t' q (hQ.rep _ _ _ (by omega) (by omega) (by omega) (by omega) h0) h
    · rw [if_neg h63] at h
      by_cases h123 : isB s p 123 = true
      · rw [if_pos h123] at h
        cases hc : cTimes s (p + 1) with
        | error e => rw [hc] at h; cases h
        | ok x =>
          rw [hc] at h
          obtain ⟨g1, g2, g3, g4⟩ := times_good (m := x.1.1) (n := x.1.2) (q := x.2) hc
          exact Made.rloop n _ _ t' q (hQ.rep _ _ _ g1 g2 g3 g4 h0) h
      · rw [if_neg h123] at h
        injection h with h; injection h with h _; rw [← h]; exact h0
theorem Made.piece {p q : Nat} {t : T} (h : cPiece s d p = .ok (t, q)) : Q t := by
  unfold cPiece at h
  cases hc : cAtom s d p with
  | error e => rw [hc] at h; cases h
  | ok x =>
    rw [hc] at h
    exact hQ.rloop _ x.1 x.2 t q (hQ.atom hd hc) h
theorem Made.ploop : ∀ (n : Nat) (l : List T) (p : Nat) (l' : List T) (q : Nat), 1 ≤ l.length → (∀ x ∈ l, Q x) → loopR (partStep s d top) n l p = .ok (l', q) → (∀ x ∈ l', Q x) ∧ 1 ≤ l'.length ∧ l'.length ≤ l.length + n
  | 0, l, p, l', q, hl, h0, h => by unfold loopR at h; injection h with h; injection h with h _; rw [← h]; exact ⟨h0, hl, by omega⟩
  | n + 1, l, p, l', q, hl, h0, h => by
    unfold loopR partStep at h
    split at h
    · injection h with h; injection h with h _; rw [← h]; exact ⟨h0, hl, by omega⟩
    · cases h
    · rename_i a' p' e
      split at e
      · cases hc : cPiece s d p with
        | error e' => rw [hc] at e; injection e with e; cases e
        | ok x =>
          rw [hc] at e
          injection e with e
          injection e with e
          injection e with e1 e2
          have k := Made.ploop n a' p' l' q (by rw [← e1]; simp) (fun y hy => ?_) h
          · refine ⟨k.1, k.2.1, ?_⟩
            have := k.2.2
            rw [← e1] at this
            simp at this
            omega
          rw [← e1] at hy
          rcases List.mem_append.1 hy with hy | hy
          · exact h0 y hy
          · simp at hy
            rw [hy]
            exact hQ.piece hd (q := x.2) hc
      · cases e
theorem Made.part {p q : Nat} {t : T} (h : cPart s d top p = .ok (t, q)) : Q t := by
  unfold cPart at h
  cases hc : cPiece s d p with
  | error e => rw [hc] at h; cases h
  | ok x =>
    rw [hc] at h
    simp only [thenR] at h
    cases hl : loopR (partStep s d top) (s.size + 1) [x.1] x.2 with
    | error e => rw [hl] at h; cases h
    | ok y =>
      rw [hl] at h
      have k := hQ.ploop hd _ [x.1] x.2 y.1 y.2 (by simp) (fun z hz => by simp at hz; rw [hz]; exact hQ.piece hd (q := x.2) hc) hl
      injection h with h
      injection h with h _
      rw [← h]
      exact many_two k.2.1 k.1 fun h2 => hQ.cat _ h2 (by have := k.2.2; simp at this; omega) k.1
theorem Made.loop : ∀ (n : Nat) (l : List T) (p : Nat) (l' : List T) (q : Nat), 1 ≤ l.length → (∀ x ∈ l, Q x) → loopR (patStep s d top) n l p = .ok (l', q) → (∀ x ∈ l', Q x) ∧ 1 ≤ l'.length ∧ l'.length ≤ l.length + n
  | 0, l, p, l', q, hl, h0, h => by unfold loopR at h; injection h with h; injection h with h _; rw [← h]; exact ⟨h0, hl, by omega⟩
  | n + 1, l, p, l', q, hl, h0, h => by
    unfold loopR patStep at h
    split at h
    · injection h with h; injection h with h _; rw [← h]; exact ⟨h0, hl, by omega⟩
    · cases h
    · rename_i a' p' e
      split at e
      · cases hc : cPart s d top (p + 1) with
        | error e' => rw [hc] at e; injection e with e; cases e
        | ok x =>
          rw [hc] at e
          injection e with e
          injection e with e
          injection e with e1 e2
          have k := Made.loop n a' p' l' q (by rw [← e1]; simp) (fun y hy => ?_) h
          · refine ⟨k.1, k.2.1, ?_⟩
            have := k.2.2
            rw [← e1] at this
            simp at this
            omega
          rw [← e1] at hy
          rcases List.mem_append.1 hy with hy | hy
          · exact h0 y hy
          · simp at hy
            rw [hy]
            exact hQ.part hd (q := x.2) hc
      · cases e
theorem Made.cpat {p q : Nat} {t : T} (h : cPat s d top p = .ok (t, q)) : Q t := by
  unfold cPat at h
  cases hc : cPart s d top p with
  | error e => rw [hc] at h; cases h
  | ok x =>
    rw [hc] at h
    simp only [thenR] at h
    cases hl : loopR (patStep s d top) (s.size + 1) [x.1] x.2 with
    | error e => rw [hl] at h; cases h
    | ok y =>
      rw [hl] at h
      have k := hQ.loop hd _ [x.1] x.2 y.1 y.2 (by simp) (fun z hz => by simp at hz; rw [hz]; exact hQ.part hd (q := x.2) hc) hl
      injection h with h
      injection h with h _
      rw [← h]
      exact many_two k.2.1 k.1 fun h2 => hQ.alt _ h2 (by have := k.2.2; simp at this; omega) k.1
omit hd
theorem Made.pat : ∀ (k : Nat) (top : Bool) (p : Nat) (t : T) (q : Nat), pat s k top p = .ok (t, q) → Q t
  | 0, top, p, t, q, h => hQ.cpat (d := none) (fun f e => by cases e) h
  | k + 1, top, p, t, q, h => hQ.cpat (d := some (Go.Proofs.Ytnkopcmkanibhaa.pat s k false)) (fun f e p t q h => by cases e; exact Made.pat k false p t q h) h
theorem Made.parse {t : T} (h : Go.Proofs.Ytnkopcmkanibhaa.parse s = .ok t) : Q t := by
  unfold Go.Proofs.Ytnkopcmkanibhaa.parse at h
  by_cases hl : 200 < s.size
  · rw [if_pos hl] at h; cases h
  · rw [if_neg hl] at h
    cases hp : Go.Proofs.Ytnkopcmkanibhaa.pat s 20 true 0 with
    | error e => rw [hp] at h; cases h
    | ok x =>
      rw [hp] at h
      injection h with h
      rw [← h]
      exact hQ.pat 20 true 0 x.1 x.2 hp
end
theorem parse_size {s : ByteArray} {t : T} (h : parse s = .ok t) : s.size ≤ 200 := by
  unfold parse at h
  by_cases hl : 200 < s.size
  · rw [if_pos hl] at h; cases h
  · omega

end Go.Proofs.Ytnkopcmkanibhaa

/-
  Which words a pattern has: from where to where one goes, as a relation; repetitions as growing sets. Plain mathematics; no statement of its own.
-/
namespace Go.Proofs.Ytnkopcmkanibhaa
open Go

/-- A pattern as the grammar makes it. -/
inductive WF : T → Prop where
  | one (p : Nat → Bool) : WF (.mk 1 p 0 0 [])
  | cat (l : List T) (h2 : 2 ≤ l.length) (hN : l.length ≤ 202) (h : ∀ x ∈ l, WF x) : WF (.mk 2 noneP 0 0 l)
  | alt (l : List T) (h2 : 2 ≤ l.length) (hN : l.length ≤ 202) (h : ∀ x ∈ l, WF x) : WF (.mk 3 noneP 0 0 l)
  | rep (m n : Int) (t : T) (h0 : 0 ≤ m) (h1 : m ≤ n) (h2 : 1 ≤ n) (h3 : n ≤ 32) (h : WF t) : WF (.mk 4 noneP m n [t])
theorem wf_made {N : Nat} (hN : N ≤ 202) : Made N WF := ⟨.one, .rep, fun l h1 h2 => .cat l h1 (by omega), fun l h1 h2 => .alt l h1 (by omega)⟩
theorem wf_parse {s : ByteArray} {t : T} (h : parse s = .ok t) : WF t := (wf_made (by have := parse_size h; omega)).parse h

/-- So many times, one behind the other. -/
def iter (Rl : Nat → Nat → Prop) : Nat → Nat → Nat → Prop
  | 0, i, j => i = j
  | m + 1, i, j => ∃ k, iter Rl m i k ∧ Rl k j

mutual
/-- From where to where a word of t goes in xs. -/
def E (xs : List Int) : T → Nat → Nat → Prop
  | .mk op p lo hi l => fun i j =>
    (op = 1 ∧ i < xs.length ∧ p (xs.getD i 0).toNat = true ∧ j = i + 1) ∨ (op = 2 ∧ ECat xs l i j) ∨ (op = 3 ∧ EAny xs l i j) ∨
    (op = 4 ∧ ∃ m : Nat, lo ≤ m ∧ (m : Int) ≤ hi ∧ iter (EAny xs l) m i j)
/-- Words of the kids, one behind the other. -/
def ECat (xs : List Int) : List T → Nat → Nat → Prop
  | [] => fun i j => i = j
  | t :: ts => fun i j => ∃ k, E xs t i k ∧ ECat xs ts k j
/-- A word of one of the kids. -/
def EAny (xs : List Int) : List T → Nat → Nat → Prop
  | [] => fun _ _ => False
  | t :: ts => fun i j => E xs t i j ∨ EAny xs ts i j
end

section
variable {xs : List Int}
theorem E_one {p : Nat → Bool} {lo hi : Int} {l : List T} {i j : Nat} : E xs (.mk 1 p lo hi l) i j ↔ i < xs.length ∧ p (xs.getD i 0).toNat = true ∧ j = i + 1 := by
  simp [E]
theorem E_cat {p : Nat → Bool} {lo hi : Int} {l : List T} {i j : Nat} : E xs (.mk 2 p lo hi l) i j ↔ ECat xs l i j := by
  simp [E]
theorem E_alt {p : Nat → Bool} {lo hi : Int} {l : List T} {i j : Nat} : E xs (.mk 3 p lo hi l) i j ↔ EAny xs l i j := by
  simp [E]
theorem E_rep {p : Nat → Bool} {lo hi : Int} {l : List T} {i j : Nat} : E xs (.mk 4 p lo hi l) i j ↔ ∃ m : Nat, lo ≤ m ∧ (m : Int) ≤ hi ∧ iter (EAny xs l) m i j := by
  simp [E]
theorem EAny_iff {l : List T} {i j : Nat} : EAny xs l i j ↔ ∃ t ∈ l, E xs t i j := by
  induction l with
  | nil => simp [EAny]
  | cons t ts ih => simp [EAny, ih]
theorem EAny_one {t : T} : EAny xs [t] = E xs t := by
  funext i j
  simp [EAny]
theorem ECat_app {l l' : List T} {i j : Nat} : ECat xs (l ++ l') i j ↔ ∃ k, ECat xs l i k ∧ ECat xs l' k j := by
  induction l generalizing i with
  | nil => simp [ECat]
  | cons t ts ih =>
    simp only [List.cons_append, ECat, ih]
    constructor
    · rintro ⟨a, h1, b, h2, h3⟩; exact ⟨b, ⟨a, h1, h2⟩, h3⟩
    · rintro ⟨b, ⟨a, h1, h2⟩, h3⟩; exact ⟨a, h1, b, h2, h3⟩

theorem iter_bd {Rl : Nat → Nat → Prop} {n : Nat} (h : ∀ i j, i ≤ n → Rl i j → i ≤ j ∧ j ≤ n) : ∀ (m i j : Nat), i ≤ n → iter Rl m i j → i ≤ j ∧ j ≤ n
  | 0, i, j, hi, e => by have e' : i = j := e; omega
  | m + 1, i, j, hi, ⟨k, h1, h2⟩ => by
    have a := iter_bd h m i k hi h1
    have b := h k j a.2 h2
    omega
theorem E_bd {t : T} (ht : WF t) : ∀ i j, i ≤ xs.length → E xs t i j → i ≤ j ∧ j ≤ xs.length := by
  induction ht with
  | one p => intro i j hi h; rw [E_one] at h; omega
  | cat l h2 hN h ih =>
    intro i j hi hE
    rw [E_cat] at hE
    clear h2 hN h
    induction l generalizing i with
    | nil => have e : i = j := hE; omega
    | cons t ts ih' =>
      obtain ⟨k, h1, h3⟩ := hE
      have a := ih t (by simp) i k hi h1
      have b := ih' (fun x hx => ih x (by simp [hx])) k a.2 h3
      omega
  | alt l h2 hN h ih =>
    intro i j hi hE
    rw [E_alt, EAny_iff] at hE
    obtain ⟨t, ht, hE⟩ := hE
    exact ih t ht i j hi hE
  | rep m n t h0 h1 h2 h3 h ih =>
    intro i j hi hE
    rw [E_rep] at hE
    obtain ⟨k, _, _, hE⟩ := hE
    rw [EAny_one] at hE
    exact iter_bd ih k i j hi hE

/-! Sets of places. -/
/-- Where one comes to from places of S. -/
def img (Rl : Nat → Nat → Prop) (S : Nat → Prop) : Nat → Prop := fun j => ∃ i, S i ∧ Rl i j
def imgN (Rl : Nat → Nat → Prop) (S : Nat → Prop) : Nat → Nat → Prop
  | 0 => S
  | m + 1 => img Rl (imgN Rl S m)
/-- Where one comes to within so many times. -/
def upTo (Rl : Nat → Nat → Prop) (S : Nat → Prop) (m : Nat) : Nat → Prop := fun j => ∃ k, k ≤ m ∧ imgN Rl S k j
theorem imgN_iter {Rl : Nat → Nat → Prop} {S : Nat → Prop} : ∀ (m j : Nat), imgN Rl S m j ↔ ∃ i, S i ∧ iter Rl m i j
  | 0, j => by
    constructor
    · intro h; exact ⟨j, h, rfl⟩
    · rintro ⟨i, h, e⟩
      have e' : i = j := e
      exact e' ▸ h
  | m + 1, j => by
    constructor
    · rintro ⟨k, h1, h2⟩
      obtain ⟨i, h3, h4⟩ := (imgN_iter m k).1 h1
      exact ⟨i, h3, k, h4, h2⟩
    · rintro ⟨i, h3, k, h4, h2⟩
      exact ⟨k, (imgN_iter m k).2 ⟨i, h3, h4⟩, h2⟩
theorem imgN_add {Rl : Nat → Nat → Prop} {S : Nat → Prop} (a : Nat) : ∀ (b j : Nat), imgN Rl (imgN Rl S a) b j ↔ imgN Rl S (a + b) j
  | 0, j => Iff.rfl
  | b + 1, j => by
    constructor
    · rintro ⟨k, h1, h2⟩; exact ⟨k, (imgN_add a b k).1 h1, h2⟩
    · rintro ⟨k, h1, h2⟩; exact ⟨k, (imgN_add a b k).2 h1, h2⟩
theorem imgN_fix {Rl : Nat → Nat → Prop} {S : Nat → Prop} (h : ∀ j, img Rl S j ↔ S j) : ∀ (m j : Nat), imgN Rl S m j ↔ S j
  | 0, j => Iff.rfl
  | m + 1, j => by
    constructor
    · rintro ⟨k, h1, h2⟩; exact (h j).1 ⟨k, (imgN_fix h m k).1 h1, h2⟩
    · intro hj
      obtain ⟨k, h1, h2⟩ := (h j).2 hj
      exact ⟨k, (imgN_fix h m k).2 h1, h2⟩
theorem upTo_succ {Rl : Nat → Nat → Prop} {S : Nat → Prop} (m j : Nat) : upTo Rl S (m + 1) j ↔ upTo Rl S m j ∨ img Rl (upTo Rl S m) j := by
  constructor
  · rintro ⟨k, hk, h⟩
    cases k with
    | zero => exact .inl ⟨0, Nat.zero_le _, h⟩
    | succ k =>
      obtain ⟨i, h1, h2⟩ := h
      exact .inr ⟨i, ⟨k, by omega, h1⟩, h2⟩
  · rintro (⟨k, hk, h⟩ | ⟨i, ⟨k, hk, h1⟩, h2⟩)
    · exact ⟨k, by omega, h⟩
    · exact ⟨k + 1, by omega, i, h1, h2⟩
theorem upTo_zero {Rl : Nat → Nat → Prop} {S : Nat → Prop} (j : Nat) : upTo Rl S 0 j ↔ S j := by
  constructor
  · rintro ⟨k, hk, h⟩
    obtain rfl : k = 0 := by omega
    exact h
  · intro h; exact ⟨0, Nat.le_refl _, h⟩
theorem upTo_stop {Rl : Nat → Nat → Prop} {S : Nat → Prop} {m : Nat} (h : ∀ j, img Rl (upTo Rl S m) j → upTo Rl S m j) : ∀ (d j : Nat), upTo Rl S (m + d) j ↔ upTo Rl S m j
  | 0, j => Iff.rfl
  | d + 1, j => by
    rw [← Nat.add_assoc, upTo_succ, upTo_stop h d j]
    constructor
    · rintro (h1 | ⟨i, h1, h2⟩)
      · exact h1
      · exact h j ⟨i, (upTo_stop h d i).1 h1, h2⟩
    · exact .inl
theorem img_congr {Rl : Nat → Nat → Prop} {S S' : Nat → Prop} (h : ∀ j, S j ↔ S' j) (j : Nat) : img Rl S j ↔ img Rl S' j := by
  constructor
  · rintro ⟨i, h1, h2⟩; exact ⟨i, (h i).1 h1, h2⟩
  · rintro ⟨i, h1, h2⟩; exact ⟨i, (h i).2 h1, h2⟩
theorem imgN_congr {Rl : Nat → Nat → Prop} {S S' : Nat → Prop} (h : ∀ j, S j ↔ S' j) : ∀ (m j : Nat), imgN Rl S m j ↔ imgN Rl S' m j
  | 0, j => h j
  | m + 1, j => img_congr (imgN_congr h m) j
theorem upTo_congr {Rl : Nat → Nat → Prop} {S S' : Nat → Prop} (h : ∀ j, S j ↔ S' j) (m j : Nat) : upTo Rl S m j ↔ upTo Rl S' m j := by
  constructor
  · rintro ⟨k, hk, h1⟩; exact ⟨k, hk, (imgN_congr h k j).1 h1⟩
  · rintro ⟨k, hk, h1⟩; exact ⟨k, hk, (imgN_congr h k j).2 h1⟩

/-- A repetition, as its least number of times, and then up to its greatest. -/
theorem E_rep_img {m n : Int} {t : T} {S : Nat → Prop} (h0 : 0 ≤ m) (h1 : m ≤ n) (j : Nat) :
    img (E xs (.mk 4 noneP m n [t])) S j ↔ upTo (E xs t) (imgN (E xs t) S m.toNat) (n - m).toNat j := by
  constructor
  · rintro ⟨i, hi, hE⟩
    rw [E_rep] at hE
    obtain ⟨k, h2, h3, hE⟩ := hE
    rw [EAny_one] at hE
    refine ⟨k - m.toNat, by omega, ?_⟩
    rw [imgN_add, show m.toNat + (k - m.toNat) = k by omega, imgN_iter]
    exact ⟨i, hi, hE⟩
  · rintro ⟨k, hk, h⟩
    rw [imgN_add, imgN_iter] at h
    obtain ⟨i, hi, hE⟩ := h
    refine ⟨i, hi, ?_⟩
    rw [E_rep]
    exact ⟨m.toNat + k, by omega, by omega, by rw [EAny_one]; exact hE⟩
/-- The same for several kids one behind the other. -/
theorem ECat_img {t : T} {ts : List T} {S : Nat → Prop} (j : Nat) : img (ECat xs (t :: ts)) S j ↔ img (ECat xs ts) (img (E xs t) S) j := by
  constructor
  · rintro ⟨i, hi, k, h1, h2⟩; exact ⟨k, ⟨i, hi, h1⟩, h2⟩
  · rintro ⟨k, ⟨i, hi, h1⟩, h2⟩; exact ⟨i, hi, k, h1, h2⟩
end

/-- The search by what is fresh: what is found so far, and what of it is new. -/
structure Found (Rl : Nat → Nat → Prop) (S : Nat → Prop) (r : Nat) (found fresh : Nat → Prop) : Prop where
  all : ∀ j, found j ↔ upTo Rl S r j
  sub : ∀ j, fresh j → found j
  old : ∀ i j, found i → ¬ fresh i → Rl i j → found j
theorem Found.start (Rl : Nat → Nat → Prop) (S : Nat → Prop) : Found Rl S 0 S S :=
  ⟨fun j => (upTo_zero j).symm, fun _ h => h, fun i j h1 h2 _ => absurd h1 h2⟩
open Classical in
theorem Found.step {Rl : Nat → Nat → Prop} {S found fresh found' fresh' : Nat → Prop} {r : Nat} (h : Found Rl S r found fresh) (hf : ∀ j, fresh' j ↔ img Rl fresh j ∧ ¬ found j) (hg : ∀ j, found' j ↔ found j ∨ fresh' j) : Found Rl S (r + 1) found' fresh' := by
  have key : ∀ j, img Rl found j → found j ∨ img Rl fresh j := by
    rintro j ⟨i, h1, h2⟩
    by_cases hi : fresh i
    · exact .inr ⟨i, hi, h2⟩
    · exact .inl (h.old i j h1 hi h2)
  refine ⟨fun j => ?_, fun j hj => (hg j).2 (.inr hj), fun i j h1 h2 h3 => ?_⟩
  · rw [hg, hf, upTo_succ, ← h.all j, img_congr (fun j => (h.all j).symm)]
    constructor
    · rintro (h1 | ⟨⟨i, h1, h2⟩, _⟩)
      · exact .inl h1
      · exact .inr ⟨i, h.sub i h1, h2⟩
    · rintro (h1 | h1)
      · exact .inl h1
      · by_cases hj : found j
        · exact .inl hj
        · exact .inr ⟨(key j h1).resolve_left hj, hj⟩
  · have hi : found i := ((hg i).1 h1).resolve_right h2
    rw [hg, hf]
    by_cases hj : found j
    · exact .inl hj
    · exact .inr ⟨(key j ⟨i, hi, h3⟩).resolve_left hj, hj⟩
theorem Found.stop {Rl : Nat → Nat → Prop} {S found fresh : Nat → Prop} {r : Nat} (h : Found Rl S r found fresh) (hf : ∀ j, img Rl fresh j → found j) (d j : Nat) : found j ↔ upTo Rl S (r + d) j := by
  rw [h.all, upTo_stop]
  rintro k ⟨i, h1, h2⟩
  have hi := (h.all i).2 h1
  by_cases hi' : fresh i
  · exact (h.all k).1 (hf k ⟨i, hi', h2⟩)
  · exact (h.all k).1 (h.old i k hi hi' h2)

end Go.Proofs.Ytnkopcmkanibhaa

/-
  Patterns laid out as places: what the program's layout comes to, as plain functions; that a word that goes through the places is a word of the pattern. Plain mathematics; no statement of its own.
-/
namespace Go.Proofs.Ytnkopcmkanibhaa
open Go

/-- A run of places: first, last, empty. -/
structure Str where
  first : List Nat
  last : List Nat
  empty : Bool
/-- What is laid out. -/
structure Lay where
  sets : List (Nat → Bool)
  follow : List (List Nat)
def Str.nothing : Str := ⟨[], [], true⟩
def Str.void : Str := ⟨[], [], false⟩
def linkAt (f : List (List Nat)) (p : Nat) (ys : List Nat) : List (List Nat) := f.set p (f.getD p [] ++ ys)
def linkAll : List (List Nat) → List Nat → List Nat → List (List Nat)
  | f, [], _ => f
  | f, p :: ps, ys => linkAll (linkAt f p ys) ps ys
def joinX (x y : Str) : Str := ⟨if x.empty then x.first ++ y.first else x.first, if y.empty then x.last ++ y.last else y.last, x.empty && y.empty⟩
def joinL (s : Lay) (x y : Str) : Lay := ⟨s.sets, linkAll s.follow x.last y.first⟩
def altX (x y : Str) : Str := ⟨x.first ++ y.first, x.last ++ y.last, x.empty || y.empty⟩
def copies (f : Lay → Lay × Str) : Nat → Lay → Str → Lay × Str
  | 0, s, x => (s, x)
  | m + 1, s, x => copies f m (joinL (f s).1 x (f s).2) (joinX x (f s).2)
def within (f : Lay → Lay × Str) : Nat → Lay → Lay × Str
  | 0, s => (s, .nothing)
  | d + 1, s => (joinL (within f d (f s).1).1 (f s).2 (within f d (f s).1).2, ⟨(joinX (f s).2 (within f d (f s).1).2).first, (joinX (f s).2 (within f d (f s).1).2).last, true⟩)
def repX (f : Lay → Lay × Str) (m d : Nat) (s : Lay) : Lay × Str :=
  (joinL (within f d (copies f m s .nothing).1).1 (copies f m s .nothing).2 (within f d (copies f m s .nothing).1).2, joinX (copies f m s .nothing).2 (within f d (copies f m s .nothing).1).2)
def oneL (s : Lay) (p : Nat → Bool) : Lay := ⟨s.sets ++ [p], s.follow ++ [[]]⟩
def oneX (s : Lay) : Str := ⟨[s.sets.length], [s.sets.length], false⟩
mutual
def layP : T → Lay → Lay × Str
  | .mk op p lo hi l => fun s =>
    if op = 1 then (oneL s p, oneX s)
    else if op = 2 then catP l s .nothing
    else if op = 3 then altP l s .void
    else if op = 4 then repX (headP l) lo.toNat (hi - lo).toNat s
    else (s, .void)
def catP : List T → Lay → Str → Lay × Str
  | [] => fun s x => (s, x)
  | t :: ts => fun s x => catP ts (joinL (layP t s).1 x (layP t s).2) (joinX x (layP t s).2)
def altP : List T → Lay → Str → Lay × Str
  | [] => fun s x => (s, x)
  | t :: ts => fun s x => altP ts (layP t s).1 (altX x (layP t s).2)
def headP : List T → Lay → Lay × Str
  | [] => fun s => (s, .void)
  | t :: _ => fun s => layP t s
end

/-- As many lists of follow as sets; who follows is a place. -/
structure LInv (s : Lay) : Prop where
  len : s.follow.length = s.sets.length
  lt : ∀ q p, p ∈ s.follow.getD q [] → p < s.sets.length
theorem getD_set {α : Type} (l : List α) (i j : Nat) (a d : α) : (l.set i a).getD j d = if j = i ∧ i < l.length then a else l.getD j d := by
  simp only [List.getD_eq_getElem?_getD, List.getElem?_set]
  by_cases h : i = j
  · subst h
    by_cases h2 : i < l.length
    · simp [h2]
    · simp [h2]
  · have h' : ¬ j = i := fun e => h e.symm
    simp [h, h']
theorem linkAt_len (f : List (List Nat)) (p : Nat) (ys : List Nat) : (linkAt f p ys).length = f.length := by simp [linkAt]
theorem linkAll_len : ∀ (ps : List Nat) (f : List (List Nat)) (ys : List Nat), (linkAll f ps ys).length = f.length
  | [], f, ys => rfl
  | p :: ps, f, ys => by rw [linkAll, linkAll_len ps, linkAt_len]
theorem linkAt_get (f : List (List Nat)) (p q : Nat) (ys : List Nat) (hp : p < f.length) : (linkAt f p ys).getD q [] = if q = p then f.getD p [] ++ ys else f.getD q [] := by
  rw [linkAt, getD_set]
  by_cases e : q = p <;> simp [e, hp]
theorem linkAll_mem : ∀ (ps : List Nat) (f : List (List Nat)) (ys : List Nat), (∀ p ∈ ps, p < f.length) → ∀ q r, r ∈ (linkAll f ps ys).getD q [] ↔ r ∈ f.getD q [] ∨ (q ∈ ps ∧ r ∈ ys)
  | [], f, ys, _, q, r => by simp [linkAll]
  | p :: ps, f, ys, h, q, r => by
    rw [linkAll, linkAll_mem ps _ ys (fun p' hp' => by rw [linkAt_len]; exact h p' (by simp [hp'])), linkAt_get f p q ys (h p (by simp))]
    by_cases e : q = p
    · subst e
      simp
      intro _ a
      exact .inr a
    · simp [e]
theorem linkAll_far : ∀ (ps : List Nat) (f : List (List Nat)) (ys : List Nat) (q : Nat), q ∉ ps → (linkAll f ps ys).getD q [] = f.getD q []
  | [], f, ys, q, _ => rfl
  | p :: ps, f, ys, q, h => by
    rw [linkAll, linkAll_far ps _ ys q (fun e => h (by simp [e])), linkAt, getD_set, if_neg]
    rintro ⟨e, _⟩
    exact h (by simp [e])

/-- Place p eats byte i. -/
def eats (xs : List Int) (s : Lay) (p i : Nat) : Prop := i < xs.length ∧ (s.sets.getD p noneP) (xs.getD i 0).toNat = true
def fol (s : Lay) (q p : Nat) : Prop := p ∈ s.follow.getD q []
/-- From i on place p is come to, behind byte j - 1. -/
inductive Goes (S φ : Nat → Nat → Prop) (F : Nat → Prop) (i : Nat) : Nat → Nat → Prop
  | start (p : Nat) (h : F p) (hs : S p i) : Goes S φ F i p (i + 1)
  | step (q p j : Nat) (h : Goes S φ F i q j) (hf : φ q p) (hs : S p j) : Goes S φ F i p (j + 1)
def Rec (S φ : Nat → Nat → Prop) (x : Str) (i j : Nat) : Prop := (x.empty = true ∧ i = j) ∨ ∃ p, p ∈ x.last ∧ Goes S φ (· ∈ x.first) i p j

section
variable {S S' φ φ' : Nat → Nat → Prop} {F F' : Nat → Prop} {i j p : Nat}
theorem Goes.mono (h : Goes S φ F i p j) (hS : ∀ p i, S p i → S' p i) (hφ : ∀ q p, φ q p → φ' q p) (hF : ∀ p, F p → F' p) : Goes S' φ' F' i p j := by
  induction h with
  | start p h hs => exact .start p (hF p h) (hS _ _ hs)
  | step q p j h hf hs ih => exact .step q p j ih (hφ _ _ hf) (hS _ _ hs)
/-- Within a range that nothing leads out of, what is amiss elsewhere doesn't matter. -/
theorem Goes.same {a b : Nat} (h : Goes S φ F i p j) (hS : ∀ p i, a ≤ p → p < b → S p i → S' p i) (hφ : ∀ q p, a ≤ q → q < b → φ q p → φ' q p ∧ a ≤ p ∧ p < b) (hF : ∀ p, F p → a ≤ p ∧ p < b) : Goes S' φ' F i p j ∧ a ≤ p ∧ p < b := by
  induction h with
  | start p h hs => exact ⟨.start p h (hS _ _ (hF p h).1 (hF p h).2 hs), hF p h⟩
  | step q p j h hf hs ih =>
    obtain ⟨h1, h2, h3⟩ := ih
    obtain ⟨h4, h5, h6⟩ := hφ q p h2 h3 hf
    exact ⟨.step q p j h1 h4 (hS _ _ h5 h6 hs), h5, h6⟩
end

/-- x stands on the places from a up to b of s, and has the words of Rl. -/
structure Good (xs : List Int) (s : Lay) (a b : Nat) (x : Str) (Rl : Nat → Nat → Prop) : Prop where
  le : a ≤ b
  first : ∀ p, p ∈ x.first → a ≤ p ∧ p < b
  last : ∀ p, p ∈ x.last → a ≤ p ∧ p < b
  stay : ∀ q p, a ≤ q → q < b → fol s q p → a ≤ p ∧ p < b
  sf : x.first.Pairwise (· < ·)
  sl : x.last.Pairwise (· < ·)
  st : ∀ q, a ≤ q → q < b → (s.follow.getD q []).Pairwise (· < ·)
  has : ∀ i j, Rec (eats xs s) (fol s) x i j ↔ Rl i j

section
variable {xs : List Int} {s s' : Lay} {a b c : Nat} {x y : Str} {R R' : Nat → Nat → Prop}
/-- What is laid out behind changes nothing. -/
theorem Good.later (h : Good xs s a b x R) (hS : ∀ p, p < b → s'.sets.getD p noneP = s.sets.getD p noneP) (hF : ∀ q, q < b → s'.follow.getD q [] = s.follow.getD q []) : Good xs s' a b x R := by
  have hf : ∀ q, q < b → ∀ p, fol s' q p ↔ fol s q p := fun q hq p => by unfold fol; rw [hF q hq]
  have he : ∀ p i, p < b → (eats xs s' p i ↔ eats xs s p i) := fun p i hp => by unfold eats; rw [hS p hp]
  refine ⟨h.le, h.first, h.last, fun q p h1 h2 h3 => h.stay q p h1 h2 ((hf q h2 p).1 h3), h.sf, h.sl, fun q h1 h2 => by rw [hF q h2]; exact h.st q h1 h2, fun i j => ?_⟩
  rw [← h.has]
  unfold Rec
  constructor
  · rintro (e | ⟨p, hp, hg⟩)
    · exact .inl e
    · exact .inr ⟨p, hp, (hg.same (a := a) (b := b) (fun p i _ hb hs => (he p i hb).1 hs) (fun q p h1 h2 h3 => ⟨(hf q h2 p).1 h3, h.stay q p h1 h2 ((hf q h2 p).1 h3)⟩) h.first).1⟩
  · rintro (e | ⟨p, hp, hg⟩)
    · exact .inl e
    · exact .inr ⟨p, hp, (hg.same (a := a) (b := b) (fun p i _ hb hs => (he p i hb).2 hs) (fun q p h1 h2 h3 => ⟨(hf q h2 p).2 h3, h.stay q p h1 h2 h3⟩) h.first).1⟩
theorem Good.congr (h : Good xs s a b x R) (hR : ∀ i j, R i j ↔ R' i j) : Good xs s a b x R' := ⟨h.le, h.first, h.last, h.stay, h.sf, h.sl, h.st, fun i j => (h.has i j).trans (hR i j)⟩
theorem good_nothing (a : Nat) : Good xs s a a .nothing (fun i j => i = j) :=
  ⟨Nat.le_refl _, by simp [Str.nothing], by simp [Str.nothing], fun q p h1 h2 _ => by omega, by simp [Str.nothing], by simp [Str.nothing], fun q h1 h2 => by omega, fun i j => by simp [Rec, Str.nothing]⟩
theorem good_void (a : Nat) : Good xs s a a .void (fun _ _ => False) :=
  ⟨Nat.le_refl _, by simp [Str.void], by simp [Str.void], fun q p h1 h2 _ => by omega, by simp [Str.void], by simp [Str.void], fun q h1 h2 => by omega, fun i j => by simp [Rec, Str.void]⟩
theorem good_one (hl : LInv s) (p : Nat → Bool) : Good xs (oneL s p) s.sets.length (s.sets.length + 1) (oneX s) (fun i j => i < xs.length ∧ p (xs.getD i 0).toNat = true ∧ j = i + 1) := by
  have hd : ∀ q, s.sets.length ≤ q → (oneL s p).follow.getD q [] = [] := fun q hq => by
    unfold oneL
    simp only [List.getD_eq_getElem?_getD]
    rw [List.getElem?_append_right (by rw [hl.len]; exact hq)]
    rcases Nat.eq_zero_or_pos (q - s.follow.length) with e | e
    · rw [e]; simp
    · rw [List.getElem?_eq_none (by simp; omega)]; rfl
  have hf : ∀ q r, s.sets.length ≤ q → ¬ fol (oneL s p) q r := fun q r hq h => by
    unfold fol at h
    rw [hd q hq] at h
    simp at h
  have hs : ∀ i, eats xs (oneL s p) s.sets.length i ↔ i < xs.length ∧ p (xs.getD i 0).toNat = true := fun i => by
    unfold eats oneL
    simp
  refine ⟨by omega, by simp [oneX], by simp [oneX], fun q r h1 _ h2 => absurd h2 (hf q r h1), by simp [oneX], by simp [oneX], fun q h1 _ => by rw [hd q h1]; exact List.Pairwise.nil, fun i j => ?_⟩
  simp only [Rec, oneX, List.mem_singleton]
  constructor
  · rintro (⟨e, _⟩ | ⟨q, rfl, hg⟩)
    · cases e
    · have : ∀ r j, Goes (eats xs (oneL s p)) (fol (oneL s p)) (fun x => x = s.sets.length) i r j → r = s.sets.length ∧ eats xs (oneL s p) r i ∧ j = i + 1 := by
        intro r j h
        induction h with
        | start r h hs => exact ⟨h, hs, rfl⟩
        | step q r j h hf' hs ih => exact absurd hf' (hf q r (by rw [ih.1]; exact Nat.le_refl _))
      obtain ⟨_, h1, h2⟩ := this _ _ hg
      exact ⟨((hs i).1 h1).1, ((hs i).1 h1).2, h2⟩
  · rintro ⟨h1, h2, rfl⟩
    exact .inr ⟨_, rfl, .start _ rfl ((hs i).2 ⟨h1, h2⟩)⟩

theorem linkAll_get : ∀ (ps : List Nat) (f : List (List Nat)) (ys : List Nat), (∀ p ∈ ps, p < f.length) → ps.Nodup → ∀ q, (linkAll f ps ys).getD q [] = if q ∈ ps then f.getD q [] ++ ys else f.getD q []
  | [], f, ys, _, _, q => by simp [linkAll]
  | p :: ps, f, ys, h, hn, q => by
    rw [List.nodup_cons] at hn
    rw [linkAll, linkAll_get ps _ ys (fun p' hp' => by rw [linkAt_len]; exact h p' (by simp [hp'])) hn.2, linkAt_get f p q ys (h p (by simp))]
    by_cases e : q = p
    · subst e
      simp [hn.1]
    · simp [e]
theorem joinL_fol (hl : LInv s) (hx : ∀ p ∈ x.last, p < s.sets.length) (q p : Nat) : fol (joinL s x y) q p ↔ fol s q p ∨ (q ∈ x.last ∧ p ∈ y.first) := by
  unfold fol joinL
  exact linkAll_mem x.last s.follow y.first (fun p hp => by rw [hl.len]; exact hx p hp) q p
theorem good_join (hl : LInv s) (hc : c ≤ s.sets.length) (hx : Good xs s a b x R) (hy : Good xs s b c y R') : Good xs (joinL s x y) a c (joinX x y) (fun i j => ∃ k, R i k ∧ R' k j) := by
  have hab := hx.le
  have hbc := hy.le
  have hfol := joinL_fol (y := y) hl (fun p hp => by have := (hx.last p hp).2; omega)
  have heat : eats xs (joinL s x y) = eats xs s := rfl
  have hfirst : ∀ p, p ∈ (joinX x y).first ↔ p ∈ x.first ∨ (x.empty = true ∧ p ∈ y.first) := fun p => by
    unfold joinX
    cases x.empty <;> simp
  have hlast : ∀ p, p ∈ (joinX x y).last ↔ p ∈ y.last ∨ (y.empty = true ∧ p ∈ x.last) := fun p => by
    unfold joinX
    cases y.empty <;> simp [or_comm]
  -- what comes to x's places
  have hA : ∀ i p j, Goes (eats xs s) (fol (joinL s x y)) (· ∈ (joinX x y).first) i p j → (a ≤ p ∧ p < b ∧ Goes (eats xs s) (fol s) (· ∈ x.first) i p j) ∨
      (b ≤ p ∧ p < c ∧ ((x.empty = true ∧ Goes (eats xs s) (fol s) (· ∈ y.first) i p j) ∨ ∃ q k, q ∈ x.last ∧ Goes (eats xs s) (fol s) (· ∈ x.first) i q k ∧ Goes (eats xs s) (fol s) (· ∈ y.first) k p j)) := by
    intro i p j h
    induction h with
    | start p h hs =>
      rcases (hfirst p).1 h with h | ⟨e, h⟩
      · exact .inl ⟨(hx.first p h).1, (hx.first p h).2, .start p h hs⟩
      · exact .inr ⟨(hy.first p h).1, (hy.first p h).2, .inl ⟨e, .start p h hs⟩⟩
    | step q p j h hf hs ih =>
      rcases (hfol q p).1 hf with hf | ⟨h1, h2⟩
      · rcases ih with ⟨i1, i2, i3⟩ | ⟨i1, i2, i3⟩
        · have := hx.stay q p i1 i2 hf
          exact .inl ⟨this.1, this.2, .step q p j i3 hf hs⟩
        · have := hy.stay q p i1 i2 hf
          refine .inr ⟨this.1, this.2, ?_⟩
          rcases i3 with ⟨e, i3⟩ | ⟨r, k, h3, h4, h5⟩
          · exact .inl ⟨e, .step q p j i3 hf hs⟩
          · exact .inr ⟨r, k, h3, h4, .step q p j h5 hf hs⟩
      · have hb := hx.last q h1
        have hp := hy.first p h2
        refine .inr ⟨hp.1, hp.2, .inr ⟨q, j, h1, ?_, .start p h2 hs⟩⟩
        rcases ih with ⟨_, _, i3⟩ | ⟨i1, _, _⟩
        · exact i3
        · omega
  have hnd : x.last.Nodup := hx.sl.imp fun h => Nat.ne_of_lt h
  refine ⟨by omega, fun p hp => ?_, fun p hp => ?_, fun q p h1 h2 h3 => ?_, ?_, ?_, fun q h1 h2 => ?_, fun i j => ?_⟩
  · rcases (hfirst p).1 hp with h | ⟨_, h⟩
    · have := hx.first p h; omega
    · have := hy.first p h; omega
  · rcases (hlast p).1 hp with h | ⟨_, h⟩
    · have := hy.last p h; omega
    · have := hx.last p h; omega
  · rcases (hfol q p).1 h3 with h | ⟨h4, h5⟩
    · rcases Nat.lt_or_ge q b with hq | hq
      · have := hx.stay q p h1 hq h; omega
      · have := hy.stay q p hq h2 h; omega
    · have := hy.first p h5; omega
  · unfold joinX
    cases x.empty
    · exact hx.sf
    · exact List.pairwise_append.2 ⟨hx.sf, hy.sf, fun p hp q hq => by have := hx.first p hp; have := hy.first q hq; omega⟩
  · unfold joinX
    cases y.empty
    · exact hy.sl
    · exact List.pairwise_append.2 ⟨hx.sl, hy.sl, fun p hp q hq => by have := hx.last p hp; have := hy.last q hq; omega⟩
  · unfold joinL
    show ((linkAll s.follow x.last y.first).getD q []).Pairwise (· < ·)
    rw [linkAll_get x.last s.follow y.first (fun p hp => by rw [hl.len]; have := (hx.last p hp).2; omega) hnd q]
    rcases Nat.lt_or_ge q b with hq | hq
    · split
      · refine List.pairwise_append.2 ⟨hx.st q h1 hq, hy.sf, fun p hp r hr => ?_⟩
        have := hx.stay q p h1 hq hp
        have := hy.first r hr
        omega
      · exact hx.st q h1 hq
    · rw [if_neg (fun e => by have := (hx.last q e).2; omega)]
      exact hy.st q hq h2
  · simp only [← hx.has, ← hy.has]
    unfold Rec
    rw [heat]
    constructor
    · rintro (⟨e, rfl⟩ | ⟨p, hp, hg⟩)
      · have e' : x.empty = true ∧ y.empty = true := by simpa [joinX] using e
        exact ⟨i, .inl ⟨e'.1, rfl⟩, .inl ⟨e'.2, rfl⟩⟩
      · rcases hA i p j hg with ⟨h1, h2, h3⟩ | ⟨h1, h2, h3⟩
        · rcases (hlast p).1 hp with h | ⟨e, h⟩
          · have := hy.last p h; omega
          · exact ⟨j, .inr ⟨p, h, h3⟩, .inl ⟨e, rfl⟩⟩
        · have hp' : p ∈ y.last := by
            rcases (hlast p).1 hp with h | ⟨e, h⟩
            · exact h
            · have := hx.last p h; omega
          rcases h3 with ⟨e, h3⟩ | ⟨q, k, h4, h5, h6⟩
          · exact ⟨i, .inl ⟨e, rfl⟩, .inr ⟨p, hp', h3⟩⟩
          · exact ⟨k, .inr ⟨q, h4, h5⟩, .inr ⟨p, hp', h6⟩⟩
    · have up : ∀ {i p j}, Goes (eats xs s) (fol s) (· ∈ x.first) i p j → Goes (eats xs s) (fol (joinL s x y)) (· ∈ (joinX x y).first) i p j := fun h =>
        h.mono (fun _ _ h => h) (fun q p h => (hfol q p).2 (.inl h)) fun p h => (hfirst p).2 (.inl h)
      rintro ⟨k, (⟨e, rfl⟩ | ⟨q, hq, hg⟩), (⟨e', rfl⟩ | ⟨p, hp, hg'⟩)⟩
      · exact .inl ⟨by simp [joinX, e, e'], rfl⟩
      · exact .inr ⟨p, (hlast p).2 (.inl hp), hg'.mono (fun _ _ h => h) (fun q p h => (hfol q p).2 (.inl h)) fun p h => (hfirst p).2 (.inr ⟨e, h⟩)⟩
      · exact .inr ⟨q, (hlast q).2 (.inr ⟨e', hq⟩), up hg⟩
      · refine .inr ⟨p, (hlast p).2 (.inl hp), ?_⟩
        clear hp
        induction hg' with
        | start p h hs => exact .step q p k (up hg) ((hfol q p).2 (.inr ⟨hq, h⟩)) hs
        | step r p j h hf hs ih => exact .step r p j ih ((hfol r p).2 (.inl hf)) hs
theorem good_alt (hx : Good xs s a b x R) (hy : Good xs s b c y R') : Good xs s a c (altX x y) (fun i j => R i j ∨ R' i j) := by
  have hab := hx.le
  have hbc := hy.le
  have hA : ∀ i p j, Goes (eats xs s) (fol s) (· ∈ (altX x y).first) i p j → (a ≤ p ∧ p < b ∧ Goes (eats xs s) (fol s) (· ∈ x.first) i p j) ∨ (b ≤ p ∧ p < c ∧ Goes (eats xs s) (fol s) (· ∈ y.first) i p j) := by
    intro i p j h
    induction h with
    | start p h hs =>
      rcases List.mem_append.1 (show p ∈ x.first ++ y.first from h) with h | h
      · exact .inl ⟨(hx.first p h).1, (hx.first p h).2, .start p h hs⟩
      · exact .inr ⟨(hy.first p h).1, (hy.first p h).2, .start p h hs⟩
    | step q p j h hf hs ih =>
      rcases ih with ⟨i1, i2, i3⟩ | ⟨i1, i2, i3⟩
      · have := hx.stay q p i1 i2 hf
        exact .inl ⟨this.1, this.2, .step q p j i3 hf hs⟩
      · have := hy.stay q p i1 i2 hf
        exact .inr ⟨this.1, this.2, .step q p j i3 hf hs⟩
  refine ⟨by omega, fun p hp => ?_, fun p hp => ?_, fun q p h1 h2 h3 => ?_, List.pairwise_append.2 ⟨hx.sf, hy.sf, fun p hp q hq => by have := hx.first p hp; have := hy.first q hq; omega⟩, List.pairwise_append.2 ⟨hx.sl, hy.sl, fun p hp q hq => by have := hx.last p hp; have := hy.last q hq; omega⟩, fun q h1 h2 => ?_, fun i j => ?_⟩
  · rcases List.mem_append.1 (show p ∈ x.first ++ y.first from hp) with h | h
    · have := hx.first p h; omega
    · have := hy.first p h; omega
  · rcases List.mem_append.1 (show p ∈ x.last ++ y.last from hp) with h | h
    · have := hx.last p h; omega
    · have := hy.last p h; omega
  · rcases Nat.lt_or_ge q b with hq | hq
    · have := hx.stay q p h1 hq h3; omega
    · have := hy.stay q p hq h2 h3; omega
  · rcases Nat.lt_or_ge q b with hq | hq
    · exact hx.st q h1 hq
    · exact hy.st q hq h2
  · simp only [← hx.has, ← hy.has]
    unfold Rec
    constructor
    · rintro (⟨e, rfl⟩ | ⟨p, hp, hg⟩)
      · have e' : x.empty = true ∨ y.empty = true := by simpa [altX] using e
        rcases e' with e | e
        · exact .inl (.inl ⟨e, rfl⟩)
        · exact .inr (.inl ⟨e, rfl⟩)
      · rcases hA i p j hg with ⟨h1, h2, h3⟩ | ⟨h1, h2, h3⟩
        · rcases List.mem_append.1 (show p ∈ x.last ++ y.last from hp) with h | h
          · exact .inl (.inr ⟨p, h, h3⟩)
          · have := hy.last p h; omega
        · rcases List.mem_append.1 (show p ∈ x.last ++ y.last from hp) with h | h
          · have := hx.last p h; omega
          · exact .inr (.inr ⟨p, h, h3⟩)
    · rintro ((⟨e, rfl⟩ | ⟨p, hp, hg⟩) | (⟨e, rfl⟩ | ⟨p, hp, hg⟩))
      · exact .inl ⟨by simp [altX, e], rfl⟩
      · exact .inr ⟨p, List.mem_append.2 (.inl hp), hg.mono (fun _ _ h => h) (fun _ _ h => h) fun p h => List.mem_append.2 (.inl h)⟩
      · exact .inl ⟨by simp [altX, e], rfl⟩
      · exact .inr ⟨p, List.mem_append.2 (.inr hp), hg.mono (fun _ _ h => h) (fun _ _ h => h) fun p h => List.mem_append.2 (.inr h)⟩
theorem good_may (h : Good xs s a b x R) : Good xs s a b ⟨x.first, x.last, true⟩ (fun i j => i = j ∨ R i j) := by
  refine ⟨h.le, h.first, h.last, h.stay, h.sf, h.sl, h.st, fun i j => ?_⟩
  rw [← h.has]
  unfold Rec
  constructor
  · rintro (⟨_, e⟩ | h)
    · exact .inl e
    · exact .inr (.inr h)
  · rintro (e | (⟨_, e⟩ | h))
    · exact .inl ⟨rfl, e⟩
    · exact .inl ⟨rfl, e⟩
    · exact .inr h
end

/-- s' is s with more laid out behind. -/
structure More (s s' : Lay) : Prop where
  inv : LInv s'
  sets : ∃ l, s'.sets = s.sets ++ l
  keep : ∀ q, q < s.sets.length → s'.follow.getD q [] = s.follow.getD q []
theorem More.refl {s : Lay} (h : LInv s) : More s s := ⟨h, ⟨[], by simp⟩, fun _ _ => rfl⟩
theorem More.le {s s' : Lay} (h : More s s') : s.sets.length ≤ s'.sets.length := by
  obtain ⟨l, e⟩ := h.sets
  rw [e, List.length_append]
  omega
theorem More.trans {s s' s'' : Lay} (h : More s s') (k : More s' s'') : More s s'' := by
  have hl := h.le
  refine ⟨k.inv, ?_, fun q hq => (k.keep q (by omega)).trans (h.keep q hq)⟩
  obtain ⟨l, e⟩ := h.sets
  obtain ⟨l', e'⟩ := k.sets
  exact ⟨l ++ l', by rw [e', e, List.append_assoc]⟩
theorem More.get {s s' : Lay} (h : More s s') (p : Nat) (hp : p < s.sets.length) : s'.sets.getD p noneP = s.sets.getD p noneP := by
  obtain ⟨l, e⟩ := h.sets
  rw [e]
  simp only [List.getD_eq_getElem?_getD]
  rw [List.getElem?_append_left hp]
theorem Good.more {xs : List Int} {s s' : Lay} {a b : Nat} {x : Str} {R : Nat → Nat → Prop} (h : Good xs s a b x R) (hm : More s s') (hb : b ≤ s.sets.length) : Good xs s' a b x R :=
  h.later (fun p hp => hm.get p (by omega)) fun q hq => hm.keep q (by omega)
/-- What f lays out has the words of R, wherever. -/
def Lays (xs : List Int) (f : Lay → Lay × Str) (R : Nat → Nat → Prop) : Prop :=
  ∀ s, LInv s → More s (f s).1 ∧ Good xs (f s).1 s.sets.length (f s).1.sets.length (f s).2 R
theorem oneL_more {s : Lay} (h : LInv s) (p : Nat → Bool) : More s (oneL s p) := by
  refine ⟨⟨by simp [oneL, h.len], fun q r hr => ?_⟩, ⟨[p], rfl⟩, fun q hq => ?_⟩
  · simp only [oneL, List.getD_eq_getElem?_getD, List.length_append, List.length_singleton] at hr ⊢
    rcases Nat.lt_or_ge q s.follow.length with hq | hq
    · rw [List.getElem?_append_left hq, ← List.getD_eq_getElem?_getD] at hr
      have := h.lt q r hr
      omega
    · rw [List.getElem?_append_right hq] at hr
      rcases Nat.eq_zero_or_pos (q - s.follow.length) with e | e
      · rw [e] at hr; simp at hr
      · rw [List.getElem?_eq_none (by simp; omega)] at hr; simp at hr
  · simp only [oneL, List.getD_eq_getElem?_getD]
    rw [List.getElem?_append_left (by rw [h.len]; exact hq)]
theorem joinL_more {s : Lay} (h : LInv s) {x y : Str} {n : Nat} (hx : ∀ p ∈ x.last, n ≤ p ∧ p < s.sets.length) (hy : ∀ p ∈ y.first, p < s.sets.length) : LInv (joinL s x y) ∧ ∀ q, q < n → (joinL s x y).follow.getD q [] = s.follow.getD q [] := by
  refine ⟨⟨by simp [joinL, linkAll_len, h.len], fun q p hp => ?_⟩, fun q hq => ?_⟩
  · rcases (joinL_fol (y := y) h (fun p hp => (hx p hp).2) q p).1 hp with e | ⟨_, e⟩
    · exact h.lt q p e
    · exact hy p e
  · exact linkAll_far _ _ _ _ fun e => by have := (hx q e).1; omega
/-- Behind x of s0, that stands on a up to n places of s, is joined what f lays out. -/
theorem lays_join {xs : List Int} {f : Lay → Lay × Str} {R R' : Nat → Nat → Prop} (hf : Lays xs f R') {s : Lay} (hs : LInv s) {a : Nat} {x : Str} (hx : Good xs s a s.sets.length x R) :
    LInv (joinL (f s).1 x (f s).2) ∧ (∃ l, (joinL (f s).1 x (f s).2).sets = s.sets ++ l) ∧ (∀ q, q < a → (joinL (f s).1 x (f s).2).follow.getD q [] = s.follow.getD q []) ∧
      Good xs (joinL (f s).1 x (f s).2) a (joinL (f s).1 x (f s).2).sets.length (joinX x (f s).2) (fun i j => ∃ k, R i k ∧ R' k j) := by
  obtain ⟨hm, hg⟩ := hf s hs
  have hle := hm.le
  have hxa := hx.le
  obtain ⟨h1, h2⟩ := joinL_more (y := (f s).2) hm.inv (n := a) (x := x) (fun p hp => ⟨(hx.last p hp).1, by have := (hx.last p hp).2; omega⟩) (fun p hp => (hg.first p hp).2)
  exact ⟨h1, hm.sets, fun q hq => (h2 q hq).trans (hm.keep q (by omega)), good_join hm.inv (Nat.le_refl _) (hx.more hm (Nat.le_refl _)) hg⟩
theorem lays_copies {xs : List Int} {f : Lay → Lay × Str} {R : Nat → Nat → Prop} (hf : Lays xs f R) : ∀ (m : Nat) (s : Lay) (x : Str) (a n : Nat), LInv s → Good xs s a s.sets.length x (iter R n) →
    LInv (copies f m s x).1 ∧ (∃ l, (copies f m s x).1.sets = s.sets ++ l) ∧ (∀ q, q < a → (copies f m s x).1.follow.getD q [] = s.follow.getD q []) ∧ Good xs (copies f m s x).1 a (copies f m s x).1.sets.length (copies f m s x).2 (iter R (n + m))
  | 0, s, x, a, n, hs, hx => ⟨hs, ⟨[], by simp [copies]⟩, fun _ _ => rfl, hx⟩
  | m + 1, s, x, a, n, hs, hx => by
    obtain ⟨h1, ⟨l, h2⟩, h3, h4⟩ := lays_join hf hs hx
    have ih := lays_copies hf m _ _ a (n + 1) h1 (h4.congr fun i j => Iff.rfl)
    obtain ⟨i1, ⟨l', i2⟩, i3, i4⟩ := ih
    refine ⟨i1, ⟨l ++ l', ?_⟩, fun q hq => (i3 q hq).trans (h3 q hq), ?_⟩
    · rw [copies, i2, h2, List.append_assoc]
    · rw [show n + (m + 1) = n + 1 + m by omega]
      exact i4
theorem iter_comm {R : Nat → Nat → Prop} : ∀ (m i j : Nat), (∃ k, R i k ∧ iter R m k j) ↔ iter R (m + 1) i j
  | 0, i, j => by
    constructor
    · rintro ⟨k, h, e⟩
      have e' : k = j := e
      subst e'
      exact ⟨i, rfl, h⟩
    · rintro ⟨k, e, h⟩
      have e' : i = k := e
      subst e'
      exact ⟨j, h, rfl⟩
  | m + 1, i, j => by
    constructor
    · rintro ⟨k, h, l, h2, h3⟩
      exact ⟨l, (iter_comm m i l).1 ⟨k, h, h2⟩, h3⟩
    · rintro ⟨l, h, h3⟩
      obtain ⟨k, h1, h2⟩ := (iter_comm m i l).2 h
      exact ⟨k, h1, l, h2, h3⟩
theorem iter_add {R : Nat → Nat → Prop} (a : Nat) : ∀ (b i j : Nat), iter R (a + b) i j ↔ ∃ k, iter R a i k ∧ iter R b k j
  | 0, i, j => by
    constructor
    · intro h; exact ⟨j, h, rfl⟩
    · rintro ⟨k, h, e⟩
      have e' : k = j := e
      subst e'
      exact h
  | b + 1, i, j => by
    constructor
    · rintro ⟨k, h1, h2⟩
      obtain ⟨l, h3, h4⟩ := (iter_add a b i k).1 h1
      exact ⟨l, h3, k, h4, h2⟩
    · rintro ⟨l, h3, k, h4, h2⟩
      exact ⟨k, (iter_add a b i k).2 ⟨l, h3, h4⟩, h2⟩
theorem lays_within {xs : List Int} {f : Lay → Lay × Str} {R : Nat → Nat → Prop} (hf : Lays xs f R) : ∀ d, Lays xs (within f d) (fun i j => ∃ m, m ≤ d ∧ iter R m i j)
  | 0, s, hs => ⟨More.refl hs, (good_nothing (xs := xs) (s := s) s.sets.length).congr fun i j => by
    constructor
    · intro e; exact ⟨0, Nat.le_refl _, e⟩
    · rintro ⟨m, hm, h⟩
      have : m = 0 := by omega
      subst this
      exact h⟩
  | d + 1, s, hs => by
    obtain ⟨hm, hg⟩ := hf s hs
    obtain ⟨h1, ⟨l, h2⟩, h3, h4⟩ := lays_join (lays_within hf d) hm.inv hg
    obtain ⟨l0, h0⟩ := hm.sets
    refine ⟨⟨h1, ⟨l0 ++ l, ?_⟩, fun q hq => (h3 q hq).trans (hm.keep q hq)⟩, ?_⟩
    · show (joinL (within f d (f s).1).1 (f s).2 (within f d (f s).1).2).sets = _
      rw [h2, h0, List.append_assoc]
    · refine (good_may h4).congr fun i j => ?_
      constructor
      · rintro (e | ⟨k, hk, m, hm, h⟩)
        · exact ⟨0, by omega, e⟩
        · exact ⟨m + 1, by omega, (iter_comm m i j).1 ⟨k, hk, h⟩⟩
      · rintro ⟨m, hm, h⟩
        cases m with
        | zero => exact .inl h
        | succ m =>
          obtain ⟨k, hk, h⟩ := (iter_comm m i j).2 h
          exact .inr ⟨k, hk, m, by omega, h⟩
theorem lays_rep {xs : List Int} {f : Lay → Lay × Str} {R : Nat → Nat → Prop} (hf : Lays xs f R) (m d : Nat) : Lays xs (repX f m d) (fun i j => ∃ k, m ≤ k ∧ k ≤ m + d ∧ iter R k i j) := by
  intro s hs
  obtain ⟨h1, ⟨l, h2⟩, h3, h4⟩ := lays_copies hf m s .nothing s.sets.length 0 hs (good_nothing _)
  obtain ⟨k1, ⟨l', k2⟩, k3, k4⟩ := lays_join (lays_within hf d) h1 h4
  refine ⟨⟨k1, ⟨l ++ l', ?_⟩, fun q hq => (k3 q hq).trans (h3 q hq)⟩, ?_⟩
  · show (joinL (within f d (copies f m s .nothing).1).1 (copies f m s .nothing).2 (within f d (copies f m s .nothing).1).2).sets = _
    rw [k2, h2, List.append_assoc]
  · refine k4.congr fun i j => ?_
    rw [Nat.zero_add]
    constructor
    · rintro ⟨k, h, n, hn, h'⟩
      exact ⟨m + n, by omega, by omega, (iter_add m n i j).2 ⟨k, h, h'⟩⟩
    · rintro ⟨k, hk1, hk2, h⟩
      rw [show k = m + (k - m) by omega] at h
      obtain ⟨r, h5, h6⟩ := (iter_add m (k - m) i j).1 h
      exact ⟨r, h5, k - m, by omega, h6⟩
theorem lays_cat {xs : List Int} : ∀ (l : List T), (∀ t ∈ l, Lays xs (layP t) (E xs t)) → ∀ (s : Lay) (x : Str) (a : Nat) (R : Nat → Nat → Prop), LInv s → Good xs s a s.sets.length x R →
    LInv (catP l s x).1 ∧ (∃ m, (catP l s x).1.sets = s.sets ++ m) ∧ (∀ q, q < a → (catP l s x).1.follow.getD q [] = s.follow.getD q []) ∧ Good xs (catP l s x).1 a (catP l s x).1.sets.length (catP l s x).2 (fun i j => ∃ k, R i k ∧ ECat xs l k j)
  | [], _, s, x, a, R, hs, hx => ⟨by simpa [catP] using hs, ⟨[], by simp [catP]⟩, fun _ _ => by simp [catP], by
    simp only [catP, ECat]
    exact hx.congr fun i j => by simp⟩
  | t :: ts, h, s, x, a, R, hs, hx => by
    obtain ⟨h1, ⟨m, h2⟩, h3, h4⟩ := lays_join (h t (by simp)) hs hx
    obtain ⟨i1, ⟨m', i2⟩, i3, i4⟩ := lays_cat ts (fun t ht => h t (by simp [ht])) _ _ a _ h1 h4
    simp only [catP]
    refine ⟨i1, ⟨m ++ m', by rw [i2, h2, List.append_assoc]⟩, fun q hq => (i3 q hq).trans (h3 q hq), i4.congr fun i j => ?_⟩
    simp only [ECat]
    constructor
    · rintro ⟨k, ⟨k', a1, a2⟩, a3⟩; exact ⟨k', a1, k, a2, a3⟩
    · rintro ⟨k', a1, k, a2, a3⟩; exact ⟨k, ⟨k', a1, a2⟩, a3⟩
theorem lays_alt {xs : List Int} : ∀ (l : List T), (∀ t ∈ l, Lays xs (layP t) (E xs t)) → ∀ (s : Lay) (x : Str) (a : Nat) (R : Nat → Nat → Prop), LInv s → Good xs s a s.sets.length x R →
    More s (altP l s x).1 ∧ Good xs (altP l s x).1 a (altP l s x).1.sets.length (altP l s x).2 (fun i j => R i j ∨ EAny xs l i j)
  | [], _, s, x, a, R, hs, hx => ⟨by simpa [altP] using More.refl hs, by
    simp only [altP, EAny]
    exact hx.congr fun i j => by simp⟩
  | t :: ts, h, s, x, a, R, hs, hx => by
    obtain ⟨hm, hg⟩ := h t (by simp) s hs
    obtain ⟨i1, i2⟩ := lays_alt ts (fun t ht => h t (by simp [ht])) _ _ a _ hm.inv (good_alt (hx.more hm (Nat.le_refl _)) hg)
    simp only [altP]
    exact ⟨hm.trans i1, i2.congr fun i j => by simp only [EAny, or_assoc]⟩
/-- What is laid out of a pattern has its words. -/
theorem lays_wf {xs : List Int} {t : T} (ht : WF t) : Lays xs (layP t) (E xs t) := by
  induction ht with
  | one p =>
    intro s hs
    simp only [layP, if_true]
    refine ⟨oneL_more hs p, ?_⟩
    have : (oneL s p).sets.length = s.sets.length + 1 := by simp [oneL]
    rw [this]
    exact (good_one hs p).congr fun i j => E_one.symm
  | cat l h2 hN h ih =>
    intro s hs
    obtain ⟨h1, h3, h4, h5⟩ := lays_cat l ih s .nothing s.sets.length _ hs (good_nothing _)
    simp only [layP]
    exact ⟨⟨h1, h3, h4⟩, h5.congr fun i j => by rw [E_cat]; simp⟩
  | alt l h2 hN h ih =>
    intro s hs
    obtain ⟨h1, h3⟩ := lays_alt l ih s .void s.sets.length _ hs (good_void _)
    simp only [layP]
    exact ⟨h1, h3.congr fun i j => by rw [E_alt]; simp⟩
  | rep m n t h0 h1 h2 h3 h ih =>
    intro s hs
    have := lays_rep (show Lays xs (headP [t]) (E xs t) from fun s hs => by simpa only [headP] using ih s hs) m.toNat (n - m).toNat s hs
    simp only [layP]
    refine ⟨this.1, this.2.congr fun i j => ?_⟩
    rw [E_rep, EAny_one]
    constructor
    · rintro ⟨k, a1, a2, a3⟩; exact ⟨k, by omega, by omega, a3⟩
    · rintro ⟨k, a1, a2, a3⟩; exact ⟨k, by omega, by omega, a3⟩
/-- A layout from nothing. -/
def lay0 (t : T) : Lay × Str := layP t ⟨[], []⟩
theorem lay0_good {xs : List Int} {t : T} (ht : WF t) : LInv (lay0 t).1 ∧ Good xs (lay0 t).1 0 (lay0 t).1.sets.length (lay0 t).2 (E xs t) := by
  have := lays_wf (xs := xs) ht ⟨[], []⟩ ⟨rfl, fun q p h => by simp at h⟩
  exact ⟨this.1.inv, this.2⟩

/-! How many places there are. -/
mutual
def plR : T → Nat
  | .mk op p lo hi l => if op = 1 then 1 else if op = 4 then hi.toNat * plRL l else plRL l
def plRL : List T → Nat
  | [] => 0
  | t :: ts => plR t + plRL ts
end
theorem within_size {f : Lay → Lay × Str} {k : Nat} (hf : ∀ s, (f s).1.sets.length = s.sets.length + k) : ∀ (d : Nat) (s : Lay), (within f d s).1.sets.length = s.sets.length + d * k
  | 0, s => by simp [within]
  | d + 1, s => by
    show (within f d (f s).1).1.sets.length = _
    rw [within_size hf d, hf, Nat.succ_mul]
    omega
theorem copies_size {f : Lay → Lay × Str} {k : Nat} (hf : ∀ s, (f s).1.sets.length = s.sets.length + k) : ∀ (m : Nat) (s : Lay) (x : Str), (copies f m s x).1.sets.length = s.sets.length + m * k
  | 0, s, x => by simp [copies]
  | m + 1, s, x => by
    rw [copies, copies_size hf m]
    show (f s).1.sets.length + m * k = _
    rw [hf, Nat.succ_mul]
    omega
theorem cat_size : ∀ (l : List T), (∀ t ∈ l, ∀ s, (layP t s).1.sets.length = s.sets.length + plR t) → ∀ s x, (catP l s x).1.sets.length = s.sets.length + plRL l
  | [], _, s, x => by simp [catP, plRL]
  | t :: ts, h, s, x => by
    simp only [catP, plRL]
    rw [cat_size ts fun t ht => h t (by simp [ht])]
    show (layP t s).1.sets.length + plRL ts = _
    rw [h t (by simp)]
    omega
theorem alt_size : ∀ (l : List T), (∀ t ∈ l, ∀ s, (layP t s).1.sets.length = s.sets.length + plR t) → ∀ s x, (altP l s x).1.sets.length = s.sets.length + plRL l
  | [], _, s, x => by simp [altP, plRL]
  | t :: ts, h, s, x => by
    simp only [altP, plRL]
    rw [alt_size ts fun t ht => h t (by simp [ht]), h t (by simp)]
    omega
theorem lay_size {t : T} (ht : WF t) : ∀ s, (layP t s).1.sets.length = s.sets.length + plR t := by
  induction ht with
  | one p => intro s; simp [layP, plR, oneL]
  | cat l h2 hN h ih => intro s; simp only [layP, plR]; simpa using cat_size l ih s .nothing
  | alt l h2 hN h ih => intro s; simp only [layP, plR]; simpa using alt_size l ih s .void
  | rep m n t h0 h1 h2 h3 h ih =>
    intro s
    have hh : ∀ s, (headP [t] s).1.sets.length = s.sets.length + plR t := fun s => by simpa only [headP] using ih s
    have e : plR (.mk 4 noneP m n [t]) = n.toNat * plR t := by simp [plR, plRL]
    rw [e]
    simp only [layP]
    show (within (headP [t]) (n - m).toNat (copies (headP [t]) m.toNat s .nothing).1).1.sets.length = _
    rw [within_size hh, copies_size hh, show n.toNat = m.toNat + (n - m).toNat by omega, Nat.add_mul]
    omega
theorem plR_pos {t : T} (ht : WF t) : 0 < plR t := by
  induction ht with
  | one p => simp [plR]
  | cat l h2 hN h ih =>
    match l, h2 with
    | t :: ts, _ => have := ih t (by simp); simp [plR, plRL]; omega
  | alt l h2 hN h ih =>
    match l, h2 with
    | t :: ts, _ => have := ih t (by simp); simp [plR, plRL]; omega
  | rep m n t h0 h1 h2 h3 h ih =>
    simp only [plR, plRL]
    have : 0 < n.toNat := by omega
    simpa using Nat.mul_pos this ih
/-- Rising numbers of a range are no more than it has. -/
theorem rise_len : ∀ (l : List Nat) (a b : Nat), l.Pairwise (· < ·) → (∀ p ∈ l, a ≤ p ∧ p < b) → l.length ≤ b - a
  | [], a, b, _, _ => Nat.zero_le _
  | p :: ps, a, b, h, hb => by
    rw [List.pairwise_cons] at h
    have ih := rise_len ps (p + 1) b h.2 fun q hq => ⟨h.1 q hq, (hb q (by simp [hq])).2⟩
    have := hb p (by simp)
    simp only [List.length_cons]
    omega
end Go.Proofs.Ytnkopcmkanibhaa

/-
  Places laid out, in memory: two rows, one of sets, one of lists. Laws for other texts; no statement of its own.
-/
namespace Go.Proofs.Ytnkopcmkanibhaa
open Go Go.RowKit

/-- A layout's two rows, in blocks of Q. -/
structure RowsAt (w : World) (B : Nat) (vs vf : Value) (s : Lay) (Q : Nat → Prop) : Prop where
  sets : w.ownsRow B 72 4 vs s.sets.length (setsC s.sets)
  setsQ : ∀ b, vs.ownBlock = some b → Q b
  fols : ∃ fs, w.ownsRow B 59 1 vf s.follow.length fs ∧ FolAt w B fs s.follow Q
  folsQ : ∀ b, vf.ownBlock = some b → Q b
section
variable {w w' : World} {B : Nat} {s : Lay} {Q : Nat → Prop} {fs : List Value} {ls : List (List Nat)} {vs vf : Value}
theorem FolAt.block (h : FolAt w B fs ls Q) (hb : ∀ b, Q b → b < w.heap.size → w'.heap[b]? = w.heap[b]?) : FolAt w' B fs ls Q :=
  ⟨h.len, fun i v l h1 h2 => (h.get i v l h1 h2).block fun b e => hb b (h.inQ i v b h1 e), h.inQ, h.apart⟩
theorem RowsAt.block (h : RowsAt w B vs vf s Q) (hb : ∀ b, Q b → b < w.heap.size → w'.heap[b]? = w.heap[b]?) : RowsAt w' B vs vf s Q := by
  obtain ⟨fs, h1, h2⟩ := h.fols
  exact ⟨own_block h.sets fun b e => hb b (h.setsQ b e), h.setsQ, ⟨fs, own_block h1 fun b e => hb b (h.folsQ b e), h2.block hb⟩, h.folsQ⟩
end
end Go.Proofs.Ytnkopcmkanibhaa
