/-
  Several texts of this proof in one file: RefRd5, RxPure, Tree. No statement of its own.
-/
import Derived.Test.YtccbeimcggamiaaDoorMk3
import Derived.Deep.RegionHeld3
import Derived.Deep.DrawnRows
import Derived.Test.YtccbeimcggamiaaDoorMk2
import Derived.Laws.OwnMore
set_option linter.unusedVariables false
set_option linter.unusedSimpArgs false

/-
  The document's own reader of patterns: item, class, One: what they do, as functions of the reader's state. Contracts for other texts; no statement of its own.
-/
namespace Go.Proofs.YtccbeimcggamiaaDoor
open Go Go.RowKit
attribute [local go_sem ↓] Go.wp_at_zero Go.wp_at_succ

namespace St
/-- Does an item begin here that is a set of many bytes? -/
def wideHere (s : ByteArray) (st : St) : Bool := st.peek s == 92 && decide (st.pos + 1 < s.size) && isWide (bt s (st.pos + 1) : Int)
/-- An item's set, and where the reader is then. -/
def item (s : ByteArray) (st : St) : (Nat → Bool) × St :=
  if st.wideHere s = true then (wideP (bt s (st.pos + 1) : Int), st.step 2) else
  let lo := (st.member s).1
  let st1 := (st.member s).2
  if st1.peek s = 45 then
    let hi := ((st1.step 1).member s).1
    let st3 := ((st1.step 1).member s).2
    (rangeP lo hi, if hi < lo then st3.fail ((st3.pos : Int) - 1) 2 else st3)
  else (rangeP lo lo, st1)
end St

theorem member_bd (s : ByteArray) (st : St) : 0 ≤ (st.member s).1 ∧ (st.member s).1 ≤ 255 := by
  have h1 := next_bd s st
  have h2 : ∀ st' : St, 0 ≤ (st'.escaped s).1 ∧ (st'.escaped s).1 ≤ 255 := by
    intro st'
    have h := next_bd s st'
    unfold St.escaped
    simp only
    split
    · simp
    · split
      · simp
      · split
        · rename_i h3
          have := inT_nonneg _ _ h3
          simp only
          omega
        · simp
  unfold St.member
  simp only
  split
  · exact h2 _
  · simp only
    omega
theorem member_pos (s : ByteArray) (st : St) (h : st.pos ≤ s.size) : (st.member s).2.pos ≤ s.size ∧ st.pos ≤ (st.member s).2.pos := by
  have h1 := next_pos s st h
  unfold St.member
  simp only
  split
  · split
    · have := escaped_pos s ((st.next s).2.fail (((st.next s).2.pos : Int) - 1) 2) (by rw [fail_pos]; exact h1.1)
      rw [fail_pos] at this
      omega
    · have := escaped_pos s (st.next s).2 h1.1
      omega
  · simp only
    split
    · rw [fail_pos]; exact h1
    · exact h1

set_option maxHeartbeats 400000 in
theorem quiet_peek (w : World) (g : Nat) (s : ByteArray) (st : St) (h : Rdr w g s st) (hs : s.size ≤ 1000) (c : Int) (hc : st.peek s = c) :
    Calls Tryd.prog 86 #[.pointer (some ⟨g, 0, none⟩)] w fun e w' => e = .returned (.int .i64 c) ∧ ∃ n, w' = w.drewN n := by
  rw [← hc]
  exact peek_p w g s st h hs

set_option maxRecDepth 20000 in
set_option maxHeartbeats 4000000 in
theorem item_wide (w : World) (g : Nat) (s : ByteArray) (st : St) (h : Rdr w g s st) (hs : s.size ≤ 1000) (hw : st.wideHere s = true) :
    Calls Tryd.prog 114 #[.pointer (some ⟨g, 0, none⟩)] w fun e w' => e = .returned (setV (wideP (bt s (st.pos + 1) : Int))) ∧ Rdr w' g s (st.step 2) ∧ w.grownBy w' (some g) := by
  unfold St.wideHere at hw
  simp only [Bool.and_eq_true, beq_iff_eq, decide_eq_true_eq] at hw
  obtain ⟨⟨hp, hlt⟩, hwd⟩ := hw
  have HP := Lib.hid hp
  clear hp
  have hbe := bt_eq s (st.pos + 1) hlt
  have b0 := Box4.new0 w
  have r0 := h.alloc (.cells #[.int .u64 0, .int .u64 0, .int .u64 0, .int .u64 0] 26)
  have hO : w.grownBy (w.alloc (.cells #[.int .u64 0, .int .u64 0, .int .u64 0, .int .u64 0] 26)) (some g) := only_alloc (only_refl _ _) _
  have hgw := h.lt
  generalize hw0 : w.alloc (.cells #[.int .u64 0, .int .u64 0, .int .u64 0, .int .u64 0] 26) = w0 at *
  have HW := Lib.hid hw0
  clear hw0
  obtain ⟨c0, c1, c2, c3, c4⟩ := r0.cell
  have k0 : (0 : Int) ≤ (st.pos : Int) + 1 := by omega
  have k1 : (st.pos : Int) + 1 < (s.size : Int) := by omega
  have k2 : IntKind.i64.wrap ((st.pos : Int) + 1) = (st.pos : Int) + 1 := IntWalk.i64_in _ (by omega)
  have k3 : ((st.pos : Int) + 1).toNat = st.pos + 1 := by omega
  have hd : decide ((st.pos : Int) + 1 < (s.size : Int)) = true := by simp; omega
  go_enter Tryd.func114, Tryd.ntmps114
  go_wp2_with fail
  rw [HW.out]
  clear HW
  go_quiet ((go_at_call 86; exact Calls.quiet_of (quiet_peek _ g s st (by first | exact r0 | exact r0.drewN _) hs 92 HP.out)))
  go_wp2_with fail
  generalize hw1 : w0.drewN nq = w1
  replace b0 : Box4 w1 w.heap.size noneP := by rw [← hw1]; exact b0
  replace r0 : Rdr w1 g s st := by rw [← hw1]; exact r0
  replace hO : w.grownBy w1 (some g) := by rw [← hw1]; exact only_drewN hO _
  clear hw1 c0 c1 c2 c3 c4
  obtain ⟨c0, c1, c2, c3, c4⟩ := r0.cell
  have k4 : IntKind.i64.wrap (((s[st.pos + 1]'hlt).toNat : Nat) : Int) = (bt s (st.pos + 1) : Int) := by
    have := UInt8.toNat_lt (s[st.pos + 1]'hlt)
    rw [hbe, IntWalk.i64_in _ (by omega)]
  have hgw1 : g < w1.heap.size := r0.lt
  clear hbe
  refine wp_region_noPanic ?_
  first | go_region_held (fun w' => w'.cell? ⟨g, 0, none⟩ = some (.string s) ∧ w'.cell? ⟨g, 1, none⟩ = some (.int .i64 (st.pos : Int)))
      (first | exact ⟨c0, c1⟩ | (go_split_ands; refine ⟨?_, ?_⟩ <;> first | with_reducible assumption | with_reducible exact cell_stays ‹_› ‹_›) | with_reducible exact ⟨(r2.alloc _).cell.1, (r2.alloc _).cell.2.1⟩ | with_reducible exact ⟨(r2.far4 (g' := w1.heap.size) (by omega) _ _ _ _).cell.1, (r2.far4 (g' := w1.heap.size) (by omega) _ _ _ _).cell.2.1⟩ | go_keep)
      (first | (go_at_call 111; (with_reducible refine (wide_p _ _).mono ?_); rintro e w2 ⟨rfl, hb2⟩; unfold setV; have r2 : Rdr w2 g s st := (by first | with_reducible exact r0.drew.stays hb2 | with_reducible exact (r0.drew.alloc _).stays hb2 | with_reducible exact (r0.alloc _).drew.stays hb2); (try (have bx : Box4 w2 w1.heap.size noneP := (by first | with_reducible exact (Box4.new0 w1.drew).stays hb2 | with_reducible exact (Box4.new0 w1).drew.stays hb2); obtain ⟨x0, x1, x2, x3⟩ := bx.cell; obtain ⟨y0, y1, y2, y3⟩ := bx.frozen))))
        | fail
  all_goals try
    have bA := bx.put (wideP (bt s (st.pos + 1) : Int))
    have nA : w.heap.size ≠ w1.heap.size := by have := b0.lt; omega
    have gA : g ≠ w1.heap.size := by omega
    have bZ : Box4 (put4 w2 w1.heap.size (wideP (bt s (st.pos + 1) : Int))) w.heap.size noneP := (show Box4 w2 w.heap.size noneP by first | with_reducible exact (b0.drew.alloc _).stays hb2 | with_reducible exact (b0.alloc _).drew.stays hb2).putFar nA _
    have rA := r2.put4 gA (wideP (bt s (st.pos + 1) : Int))
    have oA : w.grownBy (put4 w2 w1.heap.size (wideP (bt s (st.pos + 1) : Int))) (some g) := only_put4 (by first | with_reducible exact only_below (only_alloc (only_drew hO) _) hb2 | with_reducible exact only_below (only_drew (only_alloc hO _)) hb2) hO.size _
    change NoPanic _ _ _ (put4 w2 w1.heap.size (wideP (bt s (st.pos + 1) : Int)))
    generalize put4 w2 w1.heap.size (wideP (bt s (st.pos + 1) : Int)) = w3 at *
    generalize w1.heap.size = gx at *
  all_goals try
    fail_if_success (have := oA)
    have rA := r2.alloc (.cells #[.int .u64 (word (wideP (bt s (st.pos + 1) : Int)) 0), .int .u64 (word (wideP (bt s (st.pos + 1) : Int)) 1), .int .u64 (word (wideP (bt s (st.pos + 1) : Int)) 2), .int .u64 (word (wideP (bt s (st.pos + 1) : Int)) 3)] 26)
    have bA := Box4.new w2 (wideP (bt s (st.pos + 1) : Int))
    have bZ := (b0.drew.stays hb2).alloc (.cells #[.int .u64 (word (wideP (bt s (st.pos + 1) : Int)) 0), .int .u64 (word (wideP (bt s (st.pos + 1) : Int)) 1), .int .u64 (word (wideP (bt s (st.pos + 1) : Int)) 2), .int .u64 (word (wideP (bt s (st.pos + 1) : Int)) 3)] 26)
    have oA := only_alloc (only_below (only_drew hO) hb2) (.cells #[.int .u64 (word (wideP (bt s (st.pos + 1) : Int)) 0), .int .u64 (word (wideP (bt s (st.pos + 1) : Int)) 1), .int .u64 (word (wideP (bt s (st.pos + 1) : Int)) 2), .int .u64 (word (wideP (bt s (st.pos + 1) : Int)) 3)] 26)
    have gA : g ≠ w2.heap.size := by have := r2.lt; omega
    have nA : w.heap.size ≠ w2.heap.size := by have := (b0.drew.stays hb2).lt; omega
    generalize w2.alloc (.cells #[.int .u64 (word (wideP (bt s (st.pos + 1) : Int)) 0), .int .u64 (word (wideP (bt s (st.pos + 1) : Int)) 1), .int .u64 (word (wideP (bt s (st.pos + 1) : Int)) 2), .int .u64 (word (wideP (bt s (st.pos + 1) : Int)) 3)] 26) = w3 at *
    generalize w2.heap.size = gx at *
  all_goals
    refine NoPanic.normal ?_
    have hNg : w.heap.size ≠ g := by omega
    clear hb2 r2 b0 r0 hO c0 c1 c2 c3 c4 hd HP
    obtain ⟨c0, c1, c2, c3, c4⟩ := rA.cell
    obtain ⟨f0, f1, f2, f3, f4⟩ := rA.frozen
    obtain ⟨d0, d1, d2, d3⟩ := bA.cell
    obtain ⟨l0, l1, l2, l3⟩ := bZ.cell
    obtain ⟨m0, m1, m2, m3⟩ := bZ.frozen
    go_wp2
    refine bodyPost_ret (v := setV (wideP (bt s (st.pos + 1) : Int))) ?_ rfl ⟨rfl, ?_, ?_⟩
    · unfold setV
      simp [results, Tryd.results114, go_sem, l0, l1, l2, l3, hNg, Ne.symm hNg]
    · exact (rA.setPos (st.pos + 2)).far4 (Ne.symm hNg) _ _ _ _
    · exact only_setNew (only_setNew (only_setNew (only_setNew (only_set oA _) (Nat.le_refl _) _) (Nat.le_refl _) _) (Nat.le_refl _) _) (Nat.le_refl _) _

end Go.Proofs.YtccbeimcggamiaaDoor

/-
  Patterns, read: the grammar as plain functions of a text and a place, with what is amiss, where. No program; no statement of its own.
-/
namespace Go.Proofs.YtccbeimcggamiaaDoor
open Go

/-- A pattern, or a part of one: what it is, its set, its numbers, its kids. -/
inductive T where
  | mk (op : Int) (p : Nat → Bool) (lo hi : Int) (kids : List T)
def T.one (p : Nat → Bool) : T := .mk 1 p 0 0 []
def T.rep (lo hi : Int) (t : T) : T := .mk 4 noneP lo hi [t]
def T.zero : T := .mk 0 noneP 0 0 []
def T.many (op : Int) (l : List T) : T := match l with
  | [t] => t
  | l => .mk op noneP 0 0 l

/-- What is read, and where it ends; or what is amiss, where. -/
abbrev R (α : Type) := Except (Int × Int) (α × Nat)

def loopR {α : Type} (step : α → Nat → Option (R α)) : Nat → α → Nat → R α
  | 0, a, p => .ok (a, p)
  | n + 1, a, p => match step a p with
    | none => .ok (a, p)
    | some (.error e) => .error e
    | some (.ok (a', p')) => loopR step n a' p'

def thenR {α β : Type} (r : R α) (f : α → Nat → R β) : R β := match r with
  | .error e => .error e
  | .ok (a, p) => f a p

section
variable (s : ByteArray)

/-- Is that byte next? -/
def isB (pos : Nat) (c : Nat) : Bool := decide (pos < s.size) && bt s pos == c

def quotT : ByteArray := ⟨#[92, 46, 91, 93, 40, 41, 123, 125, 124, 63, 42, 43, 94, 36, 45, 47]⟩
def stopT : ByteArray := ⟨#[93, 41, 125, 123, 124, 63, 94, 36]⟩

def cEsc (pos : Nat) : R Int :=
  if pos < s.size then
    if bt s pos = 110 then .ok (10, pos + 1) else if bt s pos = 116 then .ok (9, pos + 1)
    else if inT (bt s pos : Int) quotT = true then .ok ((bt s pos : Int), pos + 1) else .error (2, (pos : Int))
  else .error (2, (pos : Int))
def cMem (pos : Nat) : R Int :=
  if pos < s.size then
    if bt s pos = 93 then .error (2, (pos : Int)) else if bt s pos = 92 then cEsc s (pos + 1) else .ok ((bt s pos : Int), pos + 1)
  else .error (2, (pos : Int))
/-- \d or \w. -/
def cWide (pos : Nat) : Bool := isB s pos 92 && decide (pos + 1 < s.size) && isWide (bt s (pos + 1) : Int)
def cItem (pos : Nat) : R (Nat → Bool) :=
  if cWide s pos = true then .ok (wideP (bt s (pos + 1) : Int), pos + 2) else
  thenR (cMem s pos) fun lo p1 =>
    if isB s p1 45 = true then thenR (cMem s (p1 + 1)) fun hi p3 => if hi < lo then .error (2, (p3 : Int) - 1) else .ok (rangeP lo hi, p3)
    else .ok (rangeP lo lo, p1)
def clsStep (q : Nat → Bool) (pos : Nat) : Option (R (Nat → Bool)) :=
  if isB s pos 93 = true then none else some (thenR (cItem s pos) fun r p => .ok (orP q r, p))
def cClass (pos : Nat) : R (Nat → Bool) :=
  thenR (thenR (cItem s (if isB s pos 94 = true then pos + 1 else pos)) (loopR (clsStep s) (s.size + 1))) fun q p =>
    .ok (if isB s pos 94 = true then notP q else q, p + 1)
def isD (pos : Nat) : Bool := decide (pos < s.size) && decide (48 ≤ bt s pos) && decide (bt s pos ≤ 57)
def cNum (pos : Nat) : R Int :=
  if isD s pos = true then
    if isD s (pos + 1) = true then .ok (10 * ((bt s pos : Int) - 48) + ((bt s (pos + 1) : Int) - 48), pos + 2) else .ok ((bt s pos : Int) - 48, pos + 1)
  else .error (2, (pos : Int))
def cTimes (pos : Nat) : R (Int × Int) :=
  thenR (cNum s pos) fun lo p =>
    thenR (if isB s p 44 = true then cNum s (p + 1) else .ok (lo, p)) fun hi q =>
      if isB s q 125 = true ∧ 1 ≤ hi ∧ hi ≤ 32 ∧ lo ≤ hi then .ok ((lo, hi), q + 1) else .error (2, (q : Int))
def cAtom (deep : Option (Nat → R T)) (pos : Nat) : R T :=
  if pos < s.size then
    if bt s pos = 40 then (match deep with
      | none => .error (4, (pos : Int))
      | some f => thenR (f (pos + 1)) fun t p => if isB s p 41 = true then .ok (t, p + 1) else .error (2, (p : Int)))
    else if bt s pos = 91 then thenR (cClass s (pos + 1)) fun q p => .ok (.one q, p)
    else if bt s pos = 46 then .ok (.one (notP (rangeP 10 10)), pos + 1)
    else if bt s pos = 92 then
      if cWide s pos = true then .ok (.one (wideP (bt s (pos + 1) : Int)), pos + 2)
      else thenR (cEsc s (pos + 1)) fun b p => .ok (.one (rangeP b b), p)
    else if bt s pos = 42 ∨ bt s pos = 43 then .error (3, (pos : Int))
    else if inT (bt s pos : Int) stopT = true then .error (2, (pos : Int))
    else .ok (.one (rangeP (bt s pos : Int) (bt s pos : Int)), pos + 1)
  else .error (2, (pos : Int))
def repStep (t : T) (pos : Nat) : Option (R T) :=
  if isB s pos 63 = true then some (.ok (.rep 0 1 t, pos + 1))
  else if isB s pos 123 = true then some (thenR (cTimes s (pos + 1)) fun m p => .ok (.rep m.1 m.2 t, p))
  else none
def cPiece (deep : Option (Nat → R T)) (pos : Nat) : R T := thenR (cAtom s deep pos) (loopR (repStep s) (s.size + 1))
def partStep (deep : Option (Nat → R T)) (top : Bool) (l : List T) (pos : Nat) : Option (R (List T)) :=
  if pos < s.size ∧ bt s pos ≠ 124 ∧ (bt s pos ≠ 41 ∨ top = true) then some (thenR (cPiece s deep pos) fun t p => .ok (l ++ [t], p)) else none
def cPart (deep : Option (Nat → R T)) (top : Bool) (pos : Nat) : R T :=
  thenR (thenR (cPiece s deep pos) fun t p => loopR (partStep s deep top) (s.size + 1) [t] p) fun l p => .ok (.many 2 l, p)
def patStep (deep : Option (Nat → R T)) (top : Bool) (l : List T) (pos : Nat) : Option (R (List T)) :=
  if isB s pos 124 = true then some (thenR (cPart s deep top (pos + 1)) fun t p => .ok (l ++ [t], p)) else none
def cPat (deep : Option (Nat → R T)) (top : Bool) (pos : Nat) : R T :=
  thenR (thenR (cPart s deep top pos) fun t p => loopR (patStep s deep top) (s.size + 1) [t] p) fun l p => .ok (.many 3 l, p)
def pat : Nat → Bool → Nat → R T
  | 0, top, pos => cPat s none top pos
  | d + 1, top, pos => cPat s (some (pat d false)) top pos
/-- The whole text, as a pattern. -/
def parse : Except (Int × Int) T :=
  if 200 < s.size then .error (4, 0) else match pat s 20 true 0 with
  | .error e => .error e
  | .ok (t, _) => .ok t
end

/-! Where each ends. -/
/-- What is read ends behind where it began, in the text. -/
def Fwd {α : Type} (s : ByteArray) (pos : Nat) (r : R α) : Prop := match r with
  | .ok (_, p) => pos < p ∧ p ≤ s.size
  | .error (c, a) => 0 < c ∧ 0 ≤ a

section
variable {s : ByteArray} {α β : Type}
theorem isB_lt {pos c : Nat} (h : isB s pos c = true) : pos < s.size ∧ bt s pos = c := by simpa [isB] using h
theorem Fwd.mono {r : R α} {p q : Nat} (h : Fwd s q r) (hp : p ≤ q) : Fwd s p r := by
  unfold Fwd at *
  split <;> simp_all
  omega
theorem Fwd.bind {r : R α} {f : α → Nat → R β} {pos : Nat} (h : Fwd s pos r) (hf : ∀ a p, pos < p → p ≤ s.size → Fwd s pos (f a p)) : Fwd s pos (thenR r f) := by
  unfold thenR
  match r, h with
  | .error e, h => exact h
  | .ok (a, p), h => exact hf a p h.1 h.2
theorem Fwd.loop {step : α → Nat → Option (R α)} (hs : ∀ a p r, p ≤ s.size → step a p = some r → Fwd s p r) : ∀ (n : Nat) (a : α) (pos p : Nat), pos < p → p ≤ s.size → Fwd s pos (loopR step n a p)
  | 0, a, pos, p, h1, h2 => ⟨h1, h2⟩
  | n + 1, a, pos, p, h1, h2 => by
    unfold loopR
    cases h : step a p with
    | none => exact ⟨h1, h2⟩
    | some r =>
      have := hs a p r h2 h
      match r, this with
      | .error e, h => exact h
      | .ok (a', p'), h => exact Fwd.loop hs n a' pos p' (Nat.lt_trans h1 h.1) h.2
end

section
variable (s : ByteArray)
theorem esc_fwd (pos : Nat) : Fwd s pos (cEsc s pos) := by
  unfold cEsc
  split
  · split
    · exact ⟨by omega, by omega⟩
    · split
      · exact ⟨by omega, by omega⟩
      · split
        · exact ⟨by omega, by omega⟩
        · simp [Fwd]
  · simp [Fwd]
theorem mem_fwd (pos : Nat) : Fwd s pos (cMem s pos) := by
  unfold cMem
  split
  · split
    · simp [Fwd]
    · split
      · exact (esc_fwd s (pos + 1)).mono (by omega)
      · simp [Fwd]; omega
  · simp [Fwd]
theorem item_fwd (pos : Nat) : Fwd s pos (cItem s pos) := by
  unfold cItem
  split
  · rename_i h
    simp [cWide] at h
    simp [Fwd]; omega
  · refine (mem_fwd s pos).bind fun lo p1 h1 h2 => ?_
    split
    · rename_i h
      have := isB_lt h
      refine Fwd.bind ((mem_fwd s (p1 + 1)).mono (by omega)) fun hi p3 h3 h4 => ?_
      split
      · simp [Fwd]; omega
      · exact ⟨h3, h4⟩
    · exact ⟨h1, h2⟩
theorem clsStep_fwd (q : Nat → Bool) (p : Nat) (r : R (Nat → Bool)) (h : clsStep s q p = some r) : Fwd s p r := by
  unfold clsStep at h
  split at h
  · cases h
  · cases h
    exact (item_fwd s p).bind fun a p' h1 h2 => ⟨h1, h2⟩
/-- Behind the items the bracket that shuts them is next. -/
theorem cls_loop : ∀ (n : Nat) (q : Nat → Bool) (p : Nat), p ≤ s.size → s.size + 1 - p ≤ n → (∃ e, loopR (clsStep s) n q p = .error e ∧ 0 < e.1 ∧ 0 ≤ e.2) ∨ ∃ q' p', loopR (clsStep s) n q p = .ok (q', p') ∧ isB s p' 93 = true ∧ p ≤ p'
  | 0, q, p, h1, h2 => by omega
  | n + 1, q, p, h1, h2 => by
    unfold loopR
    cases h : clsStep s q p with
    | none =>
      right
      refine ⟨q, p, rfl, ?_, Nat.le_refl _⟩
      unfold clsStep at h
      split at h
      · assumption
      · cases h
    | some r =>
      have := clsStep_fwd s q p r h
      match r, this with
      | .error e, h => exact .inl ⟨e, rfl, h⟩
      | .ok (a', p'), h =>
        have h3 := h.1
        rcases cls_loop n a' p' h.2 (by omega) with h4 | ⟨q2, p2, h4, h5, h6⟩
        · exact .inl h4
        · exact .inr ⟨q2, p2, h4, h5, by omega⟩
theorem class_fwd (pos : Nat) : Fwd s pos (cClass s pos) := by
  unfold cClass
  have h0 : Fwd s pos (cItem s (if isB s pos 94 = true then pos + 1 else pos)) := by split <;> exact (item_fwd s _).mono (by omega)
  revert h0
  generalize cItem s (if isB s pos 94 = true then pos + 1 else pos) = r
  intro h0
  match r, h0 with
  | .error e, h0 => exact h0
  | .ok (q, p), h0 =>
    have h1 := h0.1
    have h2 := h0.2
    rcases cls_loop s (s.size + 1) q p h2 (by omega) with ⟨e, h3, h4⟩ | ⟨q', p', h3, h4, h5⟩
    · show Fwd s pos (thenR (loopR (clsStep s) (s.size + 1) q p) _)
      rw [h3]; exact h4
    · show Fwd s pos (thenR (loopR (clsStep s) (s.size + 1) q p) _)
      rw [h3]
      have := isB_lt h4
      exact ⟨by omega, by omega⟩
theorem num_fwd (pos : Nat) : Fwd s pos (cNum s pos) := by
  unfold cNum
  split
  · rename_i h
    simp [isD] at h
    split
    · rename_i h'
      simp [isD] at h'
      simp [Fwd]; omega
    · simp [Fwd]; omega
  · simp [Fwd]
theorem times_fwd (pos : Nat) : Fwd s pos (cTimes s pos) := by
  unfold cTimes
  refine (num_fwd s pos).bind fun lo p h1 h2 => ?_
  have h0 : Fwd s pos (if isB s p 44 = true then cNum s (p + 1) else .ok (lo, p)) := by
    split
    · exact (num_fwd s _).mono (by omega)
    · exact ⟨h1, h2⟩
  refine h0.bind fun hi q h3 h4 => ?_
  split
  · rename_i h
    have := isB_lt h.1
    exact ⟨by omega, by omega⟩
  · simp [Fwd]
theorem atom_fwd (deep : Option (Nat → R T)) (hd : ∀ f, deep = some f → ∀ p, p ≤ s.size → Fwd s p (f p)) (pos : Nat) : Fwd s pos (cAtom s deep pos) := by
  unfold cAtom
  split
  · split
    · cases deep with
      | none => simp [Fwd]
      | some f =>
        refine Fwd.bind ((hd f rfl (pos + 1) (by omega)).mono (by omega)) fun t p h1 h2 => ?_
        split
        · rename_i h
          have := isB_lt h
          exact ⟨by omega, by omega⟩
        · simp [Fwd]
    · split
      · exact Fwd.bind ((class_fwd s (pos + 1)).mono (by omega)) fun q p h1 h2 => ⟨h1, h2⟩
      · split
        · exact ⟨by omega, by omega⟩
        · split
          · split
            · rename_i h
              simp [cWide] at h
              exact ⟨by omega, by omega⟩
            · exact Fwd.bind ((esc_fwd s (pos + 1)).mono (by omega)) fun q p h1 h2 => ⟨h1, h2⟩
          · split
            · simp [Fwd]
            · split
              · simp [Fwd]
              · exact ⟨by omega, by omega⟩
  · simp [Fwd]
theorem repStep_fwd (t : T) (p : Nat) (r : R T) (h : repStep s t p = some r) : Fwd s p r := by
  unfold repStep at h
  split at h
  · rename_i h1
    have := isB_lt h1
    cases h
    exact ⟨by omega, by omega⟩
  · split at h
    · cases h
      exact Fwd.bind ((times_fwd s (p + 1)).mono (by omega)) fun q p h1 h2 => ⟨h1, h2⟩
    · cases h
variable (deep : Option (Nat → R T)) (hd : ∀ f, deep = some f → ∀ p, p ≤ s.size → Fwd s p (f p)) (top : Bool)
include hd
theorem piece_fwd (pos : Nat) : Fwd s pos (cPiece s deep pos) :=
  (atom_fwd s deep hd pos).bind fun t p h1 h2 => Fwd.loop (fun a p r _ h => repStep_fwd s a p r h) _ t pos p h1 h2
theorem partStep_fwd (l : List T) (p : Nat) (r : R (List T)) (h : partStep s deep top l p = some r) : Fwd s p r := by
  unfold partStep at h
  split at h
  · cases h
    exact (piece_fwd s deep hd p).bind fun a p' h1 h2 => ⟨h1, h2⟩
  · cases h
theorem part_fwd (pos : Nat) : Fwd s pos (cPart s deep top pos) :=
  Fwd.bind ((piece_fwd s deep hd pos).bind fun t p h1 h2 => Fwd.loop (fun a p r _ h => partStep_fwd s deep hd top a p r h) _ [t] pos p h1 h2) fun l p h1 h2 => ⟨h1, h2⟩
theorem patStep_fwd (l : List T) (p : Nat) (r : R (List T)) (h : patStep s deep top l p = some r) : Fwd s p r := by
  unfold patStep at h
  split at h
  · cases h
    exact Fwd.bind ((part_fwd s deep hd top (p + 1)).mono (by omega)) fun a p' h1 h2 => ⟨h1, h2⟩
  · cases h
theorem cPat_fwd (pos : Nat) : Fwd s pos (cPat s deep top pos) :=
  Fwd.bind ((part_fwd s deep hd top pos).bind fun t p h1 h2 => Fwd.loop (fun a p r _ h => patStep_fwd s deep hd top a p r h) _ [t] pos p h1 h2) fun l p h1 h2 => ⟨h1, h2⟩
omit hd
theorem pat_fwd : ∀ (d : Nat) (top : Bool) (pos : Nat), Fwd s pos (pat s d top pos)
  | 0, top, pos => cPat_fwd s none (fun f h => by cases h) top pos
  | d + 1, top, pos => cPat_fwd s (some (pat s d false)) (fun f h p _ => by cases h; exact pat_fwd d false p) top pos
end

end Go.Proofs.YtccbeimcggamiaaDoor

/-
  Patterns in memory: a node as a value, and as eight cells; its kids; a row of kids that grows. Laws for other texts; no statement of its own.
-/
namespace Go.Proofs.YtccbeimcggamiaaDoor
open Go Go.RowKit

def T.op : T → Int | .mk op _ _ _ _ => op
def T.set : T → Nat → Bool | .mk _ p _ _ _ => p
def T.lo : T → Int | .mk _ _ lo _ _ => lo
def T.hi : T → Int | .mk _ _ _ hi _ => hi
def T.kids : T → List T | .mk _ _ _ _ l => l

/-- A node as a value, its kids' slice being k. -/
def nodeV (t : T) (k : Value) : Value := .agg #[.int .i64 t.op, .int .u64 (word t.set 0), .int .u64 (word t.set 1), .int .u64 (word t.set 2), .int .u64 (word t.set 3), .int .i64 t.lo, .int .i64 t.hi, k]
/-- Its cells. -/
def nodeC (t : T) (k : Value) : List Value := [.int .i64 t.op, .int .u64 (word t.set 0), .int .u64 (word t.set 1), .int .u64 (word t.set 2), .int .u64 (word t.set 3), .int .i64 t.lo, .int .i64 t.hi, k]
theorem nodeC_len (t : T) (k : Value) : (nodeC t k).length = 8 := rfl

def cellsOf : List T → List Value → List Value
  | t :: ts, k :: ks => nodeC t k ++ cellsOf ts ks
  | _, _ => []
theorem cellsOf_len : ∀ (l : List T) (ks : List Value), ks.length = l.length → (cellsOf l ks).length = l.length * 8
  | [], [], _ => rfl
  | t :: ts, k :: ks, h => by
    have := cellsOf_len ts ks (by simpa using h)
    simp [cellsOf, nodeC_len, this]
    omega
theorem cellsOf_app : ∀ (l : List T) (ks : List Value) (t : T) (k : Value), ks.length = l.length → cellsOf (l ++ [t]) (ks ++ [k]) = cellsOf l ks ++ nodeC t k
  | [], [], t, k, _ => by simp [cellsOf]
  | t :: ts, k :: ks, t', k', h => by
    have := cellsOf_app ts ks t' k' (by simpa using h)
    simp [cellsOf, this]
theorem cellsOf_get : ∀ (l : List T) (ks : List Value) (i j : Nat) (t : T) (k : Value), l[i]? = some t → ks[i]? = some k → j < 8 → (cellsOf l ks)[8 * i + j]? = (nodeC t k)[j]?
  | [], _, i, j, t, k, h1, _, _ => by simp at h1
  | _ :: _, [], i, j, t, k, _, h2, _ => by simp at h2
  | t' :: ts, k' :: ks, 0, j, t, k, h1, h2, hj => by
    simp at h1 h2
    subst h1 h2
    rw [cellsOf, List.getElem?_append_left (by rw [nodeC_len]; omega)]
    simp
  | t' :: ts, k' :: ks, i + 1, j, t, k, h1, h2, hj => by
    rw [cellsOf, List.getElem?_append_right (by rw [nodeC_len]; omega), nodeC_len]
    rw [show 8 * (i + 1) + j - 8 = 8 * i + j by omega]
    exact cellsOf_get ts ks i j t k (by simpa using h1) (by simpa using h2) hj

/-- The kids of t lie in memory, as k tells, and theirs; in blocks that are ok. -/
inductive Tree (w : World) (ok : Nat → Prop) : T → Value → Prop
  | nil (t : T) (h : t.kids = []) : Tree w ok t (.slice none 0 0)
  | row (t : T) (g cap : Nat) (cur : Array Value) (ks : List Value) (hg : w.heap[g]? = some (.cells cur 29 (0, 0))) (hok : ok g) (hn : ks.length = t.kids.length) (h0 : 0 < ks.length)
      (hcap : t.kids.length ≤ cap) (hmax : cap ≤ maxLen) (hsize : cur.size = cap * 8) (hc : cur.toList.take (t.kids.length * 8) = cellsOf t.kids ks)
      (hk : ∀ (i : Nat) t' k', t.kids[i]? = some t' → ks[i]? = some k' → Tree w ok t' k') : Tree w ok t (.slice (some ⟨g, 0, none⟩) t.kids.length cap)

section
variable {w w' : World} {ok ok' : Nat → Prop} {t : T} {k : Value}
theorem Tree.mono (h : Tree w ok t k) (hh : ∀ b, ok b → b < w.heap.size → (∃ cur, w.heap[b]? = some (.cells cur 29 (0, 0))) → w'.heap[b]? = w.heap[b]? ∧ ok' b) : Tree w' ok' t k := by
  induction h with
  | nil t h => exact .nil t h
  | row t g cap cur ks hg hok hn h0 hcap hmax hsize hc hk ih =>
    have := hh g hok (lt_of_some hg) ⟨cur, hg⟩
    exact .row t g cap cur ks (this.1.trans hg) this.2 hn h0 hcap hmax hsize hc fun i t' k' h1 h2 => ih i t' k' h1 h2
theorem Tree.weak (h : Tree w ok t k) (hh : ∀ b, ok b → b < w.heap.size → ok' b) : Tree w ok' t k := h.mono fun b h1 h2 _ => ⟨rfl, hh b h1 h2⟩
theorem Tree.stays (h : Tree w ok t k) (hb : Below w.heap.size w w') : Tree w' ok t k := h.mono fun b h1 h2 _ => ⟨hb.block b h2, h1⟩
theorem Tree.alloc (h : Tree w ok t k) (o : Obj) : Tree (w.alloc o) ok t k := h.mono fun b h1 h2 _ => ⟨Below.heap_alloc w o b h2, h1⟩
theorem Tree.grown {row : Option Nat} (h : Tree w ok t k) (hg : w.grownBy w' row) (hr : ∀ b, ok b → some b ≠ row) : Tree w' ok t k := h.mono fun b h1 h2 _ => ⟨hg.block b h2 (hr b h1), h1⟩
theorem Tree.far (h : Tree w ok t k) {a : Addr} (ha : ∀ b, ok b → b ≠ a.block) (u : Value) : Tree (w.setCell a u) ok t k := h.mono fun b h1 h2 _ => ⟨Below.heap_setCell w a u b (ha b h1), h1⟩
theorem Tree.drewN (h : Tree w ok t k) (n : Nat) : Tree (w.drewN n) ok t k := h.mono fun b h1 h2 _ => ⟨rfl, h1⟩
theorem Tree.drew (h : Tree w ok t k) : Tree w.drew ok t k := h.mono fun b h1 h2 _ => ⟨rfl, h1⟩
theorem Tree.only {g : Nat} {s : ByteArray} {st : St} (h : Tree w ok t k) (hg : w.grownBy w' (some g)) (hr : Rdr w g s st) : Tree w' ok t k := h.mono fun b h1 h2 ⟨cur, h3⟩ => ⟨hg.block b h2 fun e => by
  injection e with e
  subst e
  unfold Rdr at hr
  rw [hr] at h3
  injection h3 with h3
  injection h3 with _ h4 _
  exact absurd h4 (by decide), h1⟩
theorem Tree.form (h : Tree w ok t k) : ∃ A n c, k = .slice A n c := by cases h <;> exact ⟨_, _, _, rfl⟩
theorem Tree.one (h : Tree w ok t k) : k.oneCell' = true := by cases h <;> rfl
end

/-- Block g holds a node's eight cells. -/
def Box8 (w : World) (g : Nat) (t : T) (k : Value) : Prop :=
  w.heap[g]? = some (.cells #[.int .i64 t.op, .int .u64 (word t.set 0), .int .u64 (word t.set 1), .int .u64 (word t.set 2), .int .u64 (word t.set 3), .int .i64 t.lo, .int .i64 t.hi, k] 29 (0, 0))

section
variable {w w' : World} {g : Nat} {t : T} {k : Value}
theorem Box8.cell (h : Box8 w g t k) : w.cell? ⟨g, 0, none⟩ = some (.int .i64 t.op) ∧ w.cell? ⟨g, 1, none⟩ = some (.int .u64 (word t.set 0)) ∧ w.cell? ⟨g, 2, none⟩ = some (.int .u64 (word t.set 1)) ∧ w.cell? ⟨g, 3, none⟩ = some (.int .u64 (word t.set 2)) ∧
    w.cell? ⟨g, 4, none⟩ = some (.int .u64 (word t.set 3)) ∧ w.cell? ⟨g, 5, none⟩ = some (.int .i64 t.lo) ∧ w.cell? ⟨g, 6, none⟩ = some (.int .i64 t.hi) ∧ w.cell? ⟨g, 7, none⟩ = some k := by
  unfold Box8 at h
  refine ⟨?_, ?_, ?_, ?_, ?_, ?_, ?_, ?_⟩ <;> exact cell_of_row w g _ _ 29 (0, 0) h
theorem Box8.frozen (h : Box8 w g t k) : w.frozen? ⟨g, 0, none⟩ = false ∧ w.frozen? ⟨g, 1, none⟩ = false ∧ w.frozen? ⟨g, 2, none⟩ = false ∧ w.frozen? ⟨g, 3, none⟩ = false ∧
    w.frozen? ⟨g, 4, none⟩ = false ∧ w.frozen? ⟨g, 5, none⟩ = false ∧ w.frozen? ⟨g, 6, none⟩ = false ∧ w.frozen? ⟨g, 7, none⟩ = false := by
  unfold Box8 at h
  refine ⟨?_, ?_, ?_, ?_, ?_, ?_, ?_, ?_⟩ <;> simp [World.frozen?, h]
theorem Box8.lt (h : Box8 w g t k) : g < w.heap.size := lt_of_some h
theorem Box8.stays (h : Box8 w g t k) (hb : Below w.heap.size w w') : Box8 w' g t k := (hb.block g h.lt).trans h
theorem Box8.alloc (h : Box8 w g t k) (o : Obj) : Box8 (w.alloc o) g t k := (Below.heap_alloc w o g h.lt).trans h
theorem Box8.grown {row : Option Nat} (h : Box8 w g t k) (hb : w.grownBy w' row) (hg : some g ≠ row) : Box8 w' g t k := (hb.block g h.lt hg).trans h
theorem Box8.far (h : Box8 w g t k) {a : Addr} (ha : g ≠ a.block) (u : Value) : Box8 (w.setCell a u) g t k := (Below.heap_setCell w a u g ha).trans h
theorem Box8.drewN (h : Box8 w g t k) (n : Nat) : Box8 (w.drewN n) g t k := h
theorem Box8.new (w : World) (t : T) (k : Value) : Box8 (w.alloc (.cells #[.int .i64 t.op, .int .u64 (word t.set 0), .int .u64 (word t.set 1), .int .u64 (word t.set 2), .int .u64 (word t.set 3), .int .i64 t.lo, .int .i64 t.hi, k] 29)) w.heap.size t k := heap_alloc_new w _
theorem Box8.new0 (w : World) : Box8 (w.alloc (.cells #[.int .i64 0, .int .u64 0, .int .u64 0, .int .u64 0, .int .u64 0, .int .i64 0, .int .i64 0, .slice none 0 0] 29)) w.heap.size T.zero (.slice none 0 0) := by
  have h := Box8.new w T.zero (.slice none 0 0)
  simpa only [T.zero, T.op, T.set, T.lo, T.hi, word_none] using h
/-- The world with all eight cells stored anew. -/
def put8 (w : World) (g : Nat) (t : T) (k : Value) : World :=
  (((((((w.setCell ⟨g, 0, none⟩ (.int .i64 t.op)).setCell ⟨g, 1, none⟩ (.int .u64 (word t.set 0))).setCell ⟨g, 2, none⟩ (.int .u64 (word t.set 1))).setCell ⟨g, 3, none⟩ (.int .u64 (word t.set 2))).setCell ⟨g, 4, none⟩ (.int .u64 (word t.set 3))).setCell ⟨g, 5, none⟩ (.int .i64 t.lo)).setCell ⟨g, 6, none⟩ (.int .i64 t.hi)).setCell ⟨g, 7, none⟩ k
theorem put8_block (w : World) (g : Nat) (t : T) (k : Value) (b : Nat) (hb : b ≠ g) : (put8 w g t k).heap[b]? = w.heap[b]? := by
  unfold put8
  rw [Below.heap_setCell _ _ _ _ hb, Below.heap_setCell _ _ _ _ hb, Below.heap_setCell _ _ _ _ hb, Below.heap_setCell _ _ _ _ hb, Below.heap_setCell _ _ _ _ hb, Below.heap_setCell _ _ _ _ hb, Below.heap_setCell _ _ _ _ hb, Below.heap_setCell _ _ _ _ hb]
theorem Box8.put {t' : T} {k' : Value} (h : Box8 w g t k) (t' : T) (k' : Value) : Box8 (put8 w g t' k') g t' k' := by
  unfold Box8 put8 at *
  simp [World.setCell, Array.getElem?_modify, h]
theorem Box8.putFar {g' : Nat} {t' : T} {k' : Value} (h : Box8 w g t k) (hg : g ≠ g') : Box8 (put8 w g' t' k') g t k := (put8_block w g' t' k' g hg).trans h
theorem Rdr.put8 {g' : Nat} {s : ByteArray} {st : St} (h : Rdr w g s st) (hg : g ≠ g') (t : T) (k : Value) : Rdr (put8 w g' t k) g s st := (put8_block w g' t k g hg).trans h
theorem Tree.put8 {ok : Nat → Prop} {g' : Nat} {t' : T} {k' : Value} (h : Tree w ok t k) (hg : ∀ b, ok b → b ≠ g') : Tree (put8 w g' t' k') ok t k := h.mono fun b h1 h2 _ => ⟨put8_block w g' t' k' b (hg b h1), h1⟩
theorem only_put8 {a b : World} {g g' : Nat} (h : a.grownBy b (some g)) (hg : a.heap.size ≤ g') (t : T) (k : Value) : a.grownBy (Go.Proofs.YtccbeimcggamiaaDoor.put8 b g' t k) (some g) :=
  only_setNew (only_setNew (only_setNew (only_setNew (only_setNew (only_setNew (only_setNew (only_setNew h hg _) hg _) hg _) hg _) hg _) hg _) hg _) hg _
theorem below_put8 {a : World} {B : Nat} (h : Below B a w) (hg : B ≤ g) (t : T) (k : Value) : Below B a (Go.Proofs.YtccbeimcggamiaaDoor.put8 w g t k) :=
  (((((((h.setCell (p := ⟨g, 0, none⟩) hg _).setCell (p := ⟨g, 1, none⟩) hg _).setCell (p := ⟨g, 2, none⟩) hg _).setCell (p := ⟨g, 3, none⟩) hg _).setCell (p := ⟨g, 4, none⟩) hg _).setCell (p := ⟨g, 5, none⟩) hg _).setCell (p := ⟨g, 6, none⟩) hg _).setCell (p := ⟨g, 7, none⟩) hg _
end

/-- A row of kids that grows. -/
def Row (w : World) (B : Nat) (v : Value) (l : List T) : Prop :=
  ∃ ks, ks.length = l.length ∧ w.ownsRow B 29 8 v l.length (cellsOf l ks) ∧ ∀ (i : Nat) t' k', l[i]? = some t' → ks[i]? = some k' → Tree w (fun b => B ≤ b ∧ some b ≠ v.ownBlock) t' k'

section
variable {w w' : World} {B : Nat} {v : Value} {l : List T}
theorem Row.stays (h : Row w B v l) (hb : Below w.heap.size w w') : Row w' B v l := by
  obtain ⟨ks, h1, h2, h3⟩ := h
  exact ⟨ks, h1, own_stays h2 hb, fun i t' k' e1 e2 => (h3 i t' k' e1 e2).stays hb⟩
theorem Row.alloc (h : Row w B v l) (o : Obj) : Row (w.alloc o) B v l := h.stays ((Below.refl _ _).alloc (Nat.le_refl _) _)
theorem Row.drewN (h : Row w B v l) (n : Nat) : Row (w.drewN n) B v l := by
  obtain ⟨ks, h1, h2, h3⟩ := h
  exact ⟨ks, h1, h2, fun i t' k' e1 e2 => (h3 i t' k' e1 e2).drewN n⟩
theorem own_type {e : TypeId} {size n : Nat} {xs : List Value} {g : Nat} (h : w.ownsRow B e size v n xs) (hv : v.ownBlock = some g) : ∃ cur, w.heap[g]? = some (.cells cur e (0, 0)) := by
  rcases h.2 with ⟨rfl, _⟩ | ⟨g', cap, cur, rfl, _, hh, _⟩
  · cases hv
  · have : g' = g := by simpa [Value.ownBlock] using hv
    subst this
    exact ⟨cur, hh⟩
theorem Row.only {g : Nat} {s : ByteArray} {st : St} (h : Row w B v l) (hg : w.grownBy w' (some g)) (hr : Rdr w g s st) : Row w' B v l := by
  obtain ⟨ks, h1, h2, h3⟩ := h
  refine ⟨ks, h1, h2.kept hg (.inr fun e => ?_), fun i t' k' e1 e2 => (h3 i t' k' e1 e2).only hg hr⟩
  obtain ⟨cur, hc⟩ := own_type h2 e
  unfold Rdr at hr
  rw [hr] at hc
  injection hc with hc
  injection hc with _ h4 _
  exact absurd h4 (by decide)
theorem Row.far {g : Nat} (h : Row w B v l) (hg : g < B) {i : Nat} (u : Value) : Row (w.setCell ⟨g, i, none⟩ u) B v l := by
  obtain ⟨ks, h1, h2, h3⟩ := h
  have hb : w.grownBy (w.setCell ⟨g, i, none⟩ u) (some g) := only_set (only_refl _ _) _
  refine ⟨ks, h1, h2.kept hb (.inr fun e => ?_), fun i t' k' e1 e2 => (h3 i t' k' e1 e2).far (fun b hb => by show b ≠ g; omega) u⟩
  have := h2.lt _ e
  omega
/-- A row of one. -/
theorem Row.new (w : World) (B : Nat) (t : T) (k : Value) (hB : B ≤ w.heap.size) (ht : Tree w (fun b => B ≤ b) t k) :
    Row (w.alloc (.cells #[.int .i64 t.op, .int .u64 (word t.set 0), .int .u64 (word t.set 1), .int .u64 (word t.set 2), .int .u64 (word t.set 3), .int .i64 t.lo, .int .i64 t.hi, k] 29)) B (.slice (some ⟨w.heap.size, 0, none⟩) 1 1) [t] := by
  refine ⟨[k], rfl, World.ownsRow_lit w _ 1 hB (by decide) rfl, fun i t' k' e1 e2 => ?_⟩
  match i, e1, e2 with
  | 0, e1, e2 =>
    simp at e1 e2
    subst e1 e2
    refine (ht.weak (ok' := fun b => B ≤ b ∧ some b ≠ some w.heap.size) fun b h1 h2 => ⟨h1, by simp; omega⟩).alloc _
/-- A row is a node's kids. -/
theorem Row.tree (h : Row w B v l) (h0 : 0 < l.length) (op : Int) (p : Nat → Bool) (lo hi : Int) : Tree w (fun b => B ≤ b) (.mk op p lo hi l) v := by
  obtain ⟨ks, h1, h2, h3⟩ := h
  rcases h2.2 with ⟨rfl, h⟩ | ⟨g, cap, cur, rfl, hB, hh, hc, hm, hs, ht⟩
  · omega
  · exact .row (.mk op p lo hi l) g cap cur ks hh hB h1 (by omega) hc hm hs ht fun i t' k' e1 e2 => (h3 i t' k' e1 e2).weak fun b hb _ => hb.1
end

theorem Tryd.infoNode : (Tryd.prog.info? 29).map (fun i => (i.zero, i.size, i.bytes)) = some (some (.agg #[.int .i64 0, .int .u64 0, .int .u64 0, .int .u64 0, .int .u64 0, .int .i64 0, .int .i64 0, .slice none 0 0]), 8, 80) := by kernel_rfl

end Go.Proofs.YtccbeimcggamiaaDoor
