/-
  The document's machine of cells, in memory; what is there, what may be. Contracts for other texts; no statement of its own.
-/
import Derived.Test.YthhgagghdeocoaaCtMem
import Derived.Maps.Own
import Derived.Maps.OwnOps
import Derived.Maps.Views
import Derived.Carry
import Derived.Lib.Hide
set_option linter.unusedVariables false
set_option linter.unusedSimpArgs false
namespace Go.Proofs.Ythhgagghdeocoaa
open Go Go.RowKit

theorem wf_i64 {a : Int} (h : I64 a) : (Lit.int .i64 a).wf = true := by
  have h1 := h.1
  have h2 := h.2
  simp [Lit.wf, IntKind.min, IntKind.max, IntKind.signed, IntKind.bits]
  omega
theorem wf_u64 {a : Int} (h : U64 a) : (Lit.int .u64 a).wf = true := by
  have h1 := h.1
  have h2 := h.2
  simp [Lit.wf, IntKind.min, IntKind.max, IntKind.signed, IntKind.bits]
  omega
abbrev MapD := DataW Unit
theorem kInt : Maps.Keyed Try.prog 3 := Maps.int_keyed Try.underlying3
theorem key_int {a : Int} (h : I64 a) : keyOf Try.prog 3 (.int .i64 a) = some (.int .i64 a) := Maps.keyOf_int_mk Try.underlying3 (wf_i64 h)
/-- What a map of words tells of every key. -/
def Reads (D : MapD) (f : Int → Int) : Prop := ∀ z, I64 z → D.atKey (.int .i64 z) (.lit (.int .u64 0)) = .lit (.int .u64 (f z))
/-- The document's machine at block q, its map in block mb, its list lv; F: the blocks that are its own. -/
structure DocE (w : World) (F : Nat → Prop) (q m : Nat) (f : Int → Int) (tr : List Ins) (mb : Nat) (lv : Value) (D : MapD) : Prop where
  hd : HasO w q (.cells #[.int .i64 (m : Int), .map (some mb), lv] 81 (0, 0))
  mp : w.ownsMap Try.prog 3 (plainElem Try.prog 49) mb tr.length D
  rd : Reads D f
  fu : ∀ z, U64 (f z)
  row : w.ownsRow 0 68 6 lv tr.length (insL tr)
  fq : F q
  fm : F mb
  fr : ∀ b, lv.ownBlock = some b → F b
  fl : ∀ b, F b → b < w.heap.size
section
variable {w w' W W' : World} {F : Nat → Prop} {q m mb : Nat} {f : Int → Int} {tr : List Ins} {lv lv' : Value} {D : MapD}
theorem map_same {k : TypeId} {R : Value → Option (MapD × List MemPlace)} {n : Nat} (h : w.ownsMap Try.prog k R mb n D) (e : w'.heap[mb]? = w.heap[mb]?) : w'.ownsMap Try.prog k R mb n D := by
  obtain ⟨es, clock, hb, r⟩ := h
  exact ⟨es, clock, e.trans hb, r⟩
theorem DocE.keep (h : DocE w F q m f tr mb lv D) (hs : w.heap.size ≤ w'.heap.size) (hk : ∀ b, F b → w'.heap[b]? = w.heap[b]?) : DocE w' F q m f tr mb lv D :=
  ⟨(hk q h.fq).trans h.hd, map_same h.mp (hk mb h.fm), h.rd, h.fu, own_block h.row fun b e _ => hk b (h.fr b e), h.fq, h.fm, h.fr, fun b e => Nat.lt_of_lt_of_le (h.fl b e) hs⟩
theorem DocE.stays (h : DocE w F q m f tr mb lv D) (hb : Below w.heap.size w w') : DocE w' F q m f tr mb lv D := h.keep hb.size fun b e => hb.block b (h.fl b e)
theorem DocE.drew (h : DocE w F q m f tr mb lv D) : DocE w.drew F q m f tr mb lv D := h.stays (Below.refl _ _).drew
theorem DocE.nmb (h : DocE w F q m f tr mb lv D) : q ≠ mb := fun e => by
  obtain ⟨es, clock, hb, _⟩ := h.mp
  have h1 := h.hd
  unfold HasO at h1
  rw [e, hb] at h1
  cases h1
theorem DocE.nlv (h : DocE w F q m f tr mb lv D) : ∀ b, lv.ownBlock = some b → b ≠ q ∧ b ≠ mb := fun b e => by
  obtain ⟨cur, hc⟩ := own_kind h.row e
  refine ⟨kind_apart hc h.hd (by decide), fun e' => ?_⟩
  obtain ⟨es, clock, hb, _⟩ := h.mp
  rw [e', hb] at hc
  cases hc
theorem DocE.c0 (h : DocE w F q m f tr mb lv D) : w.cell? ⟨q, 0, none⟩ = some (.int .i64 (m : Int)) := cell_of_row w q 0 _ _ (0, 0) h.hd
theorem DocE.c1 (h : DocE w F q m f tr mb lv D) : w.cell? ⟨q, 1, none⟩ = some (.map (some mb)) := cell_of_row w q 1 _ _ (0, 0) h.hd
theorem DocE.c2 (h : DocE w F q m f tr mb lv D) : w.cell? ⟨q, 2, none⟩ = some lv := cell_of_row w q 2 _ _ (0, 0) h.hd
set_option maxRecDepth 20000 in
/-- A look-up. -/
theorem DocE.look (h : DocE w F q m f tr mb lv D) {a : Int} (ha : I64 a) : (Instr.lookup 79 (.map (some mb)) (.int .i64 a) false).run Try.prog w = .ok (.int .u64 (f a)) w := by
  obtain ⟨c, hr, hat, _⟩ := h.mp.lookup_int (t := 79) kInt Try.underlying79 Try.underlying49 (by kernel_rfl) (key_int ha)
  rw [h.rd a ha] at hat
  have hc : f a = c := by
    simpa using hat
  rw [hr, hc]
set_option maxRecDepth 20000 in
/-- A store. -/
theorem DocE.upd (h : DocE w F q m f tr mb lv D) (hn : tr.length ≤ 100000) {d v : Int} (hd : I64 d) (hv : U64 v) :
    ∃ w', (Instr.mapUpdate 79 (.map (some mb)) (.int .i64 d) (.int .u64 v)).run Try.prog w = .ok () w' ∧ w.grownBy w' (some mb) ∧ w'.ownsMap Try.prog 3 (plainElem Try.prog 49) mb (tr.length + 1) (D.put (.int .i64 d) (.lit (.int .u64 v))) := by
  obtain ⟨w', hr, h1, h2⟩ := h.mp.update (t := 79) kInt Try.underlying79 (by unfold maxLen; omega) (key_int hd) (plainElem_int Try.underlying49 (wf_u64 hv))
  exact ⟨w', hr, h2, h1⟩
theorem reads_put (h : Reads D f) (hD : Maps.IsMap D) {d v : Int} : Reads (D.put (.int .i64 d) (.lit (.int .u64 v))) (put f d v) := fun z hz => by
  by_cases e : z = d
  · subst e
    rw [Maps.atKey_put_same hD (show WideAt.IsKeyLit (Lit.int .i64 z) from trivial)]
    unfold put
    rw [if_pos rfl]
  · rw [Maps.atKey_put_other (by intro e'; injection e' with _ e'; exact e e'), h z hz]
    unfold put
    rw [if_neg e]
end
theorem there_p {w : World} {q m : Nat} (hm : w.cell? ⟨q, 0, none⟩ = some (.int .i64 (m : Int))) (hM : m ≤ 200000) (x : Int) (hx : I64 x) :
    Calls Try.prog 94 #[.pointer (some ⟨q, 0, none⟩), .int .i64 x] w fun e w' => e = .returned (.bool (there x m)) ∧ w = w' := by
  have hx1 := hx.1
  have hx2 := hx.2
  unfold there
  clear hx
  by_cases h : 0 ≤ x
  · go_enter Try.func94, Try.ntmps94
    go_wp2
    go_ret
    exact ⟨by simp [h], rfl⟩
  · go_enter Try.func94, Try.ntmps94
    go_wp2
    go_ret
    exact ⟨by simp; omega, rfl⟩
theorem truth_p (w : World) (b : Bool) : Calls Try.prog 77 #[.bool b] w fun e w' => e = .returned (.int .u64 (if b = true then 1 else 0)) ∧ w = w' := by
  cases b
  all_goals
    go_enter Try.func77, Try.ntmps77
    go_wp2
    go_ret
    exact ⟨rfl, rfl⟩
/-- The document's machine. -/
def Doc (w : World) (F : Nat → Prop) (q m : Nat) (f : Int → Int) (tr : List Ins) : Prop := ∃ mb lv D, DocE w F q m f tr mb lv D
theorem dnew_p (w : World) (m : Nat) (hm : m ≤ 200000) : Calls Try.prog 29 #[.int .i64 (m : Int)] w fun e w' => ∃ q F, e = .returned (.pointer (some ⟨q, 0, none⟩)) ∧ Doc w' F q m (fun _ => 0) [] ∧ Below w.heap.size w w' ∧ ∀ b, F b → w.heap.size ≤ b := by
  have hmm := @run_makeMap Try.prog
  go_enter Try.func29, Try.ntmps29
  go_wp2
  go_ret
  refine ⟨_, fun b => w.heap.size ≤ b ∧ b < w.heap.size + 2, rfl, ⟨w.heap.size, .slice none 0 0, .map [], ⟨?_, ?_, fun z hz => rfl, fun z => ⟨(by decide), (by decide)⟩, World.ownsRow_nil _ _ _ 6, by omega, by omega, fun b e => (by cases e), fun b e => (by simp; omega)⟩⟩, ((Below.refl _ _).alloc (Nat.le_refl _) _).alloc (by simp) _, fun b e => e.1⟩
  · exact has_new _ _ _ _ (by simp)
  · exact (World.ownsMap_made w Try.prog 3 _).alloc _
end Go.Proofs.Ythhgagghdeocoaa
