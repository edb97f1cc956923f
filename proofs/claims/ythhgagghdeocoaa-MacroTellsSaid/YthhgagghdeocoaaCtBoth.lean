/-
  Layer 10: the program's machine and the document's, side by side. Laws for other texts; no statement of its own.
-/
import Derived.Test.YthhgagghdeocoaaCtRd
import Derived.Test.YthhgagghdeocoaaCtRefDo
set_option linter.unusedVariables false
set_option linter.unusedSimpArgs false
namespace Go.Proofs.Ythhgagghdeocoaa
open Go Go.RowKit

/-- Both machines, side by side. -/
structure Both (w0 w : World) (F G : Nat → Prop) (p q m : Nat) (f : Int → Int) (tr : List Ins) (tr' : List Ins) : Prop where
  mach : Mach w F p m f tr
  doc : Doc w G q m f tr'
  off : ∀ b, F b → ¬ G b
  nf : ∀ b, F b → w0.heap.size ≤ b
  ng : ∀ b, G b → w0.heap.size ≤ b
  bel : Below w0.heap.size w0 w
theorem Doc.lt {w : World} {F : Nat → Prop} {p m : Nat} {f : Int → Int} {tr : List Ins} (h : Doc w F p m f tr) : ∀ b, F b → b < w.heap.size := by
  obtain ⟨mb, lv, D, h1⟩ := h
  exact h1.fl
theorem Doc.keep {w w' : World} {F Q : Nat → Prop} {p m : Nat} {f : Int → Int} {tr : List Ins} (h : Doc w F p m f tr) (hk : Kept Q w w') (hq : ∀ b, F b → ¬ Q b) : Doc w' F p m f tr := by
  obtain ⟨mb, lv, D, h1⟩ := h
  exact ⟨mb, lv, D, h1.keep hk.size fun b e => hk.block b (h1.fl b e) (hq b e)⟩
section
variable {w0 w w' : World} {F F' G G' : Nat → Prop} {p q m : Nat} {f f' : Int → Int} {tr tr' tu tu' : List Ins}
/-- The second machine has done something. -/
theorem Both.two (h : Both w0 w F G p q m f tr tu) (hm : Doc w' G' q m f tu') (hk : Kept G w w') (hn : ∀ b, G' b → G b ∨ w.heap.size ≤ b) : Both w0 w' F G' p q m f tr tu' :=
  ⟨h.mach.kept hk fun b e e' => h.off b e e', hm, fun b e e' => (hn b e').elim (fun x => h.off b e x) (fun x => by have := h.mach.lt b e; omega), h.nf, fun b e => (hn b e).elim (h.ng b) fun e' => Nat.le_trans h.bel.size e', h.bel.trans (hk.below h.bel.size h.ng)⟩
/-- Both have done the same. -/
theorem Both.both (h : Both w0 w F G p q m f tr tu) {w'' : World} (hm : Mach w' F' p m f' tr') (hk : Kept F w w') (hn : ∀ b, F' b → F b ∨ w.heap.size ≤ b) (hd : Doc w'' G' q m f' tu') (hk' : Kept G w' w'') (hn' : ∀ b, G' b → G b ∨ w'.heap.size ≤ b) : Both w0 w'' F' G' p q m f' tr' tu' := by
  have hB : Below w0.heap.size w0 w' := h.bel.trans (hk.below h.bel.size h.nf)
  have hoff : ∀ b, F' b → ¬ G b := fun b e e' => (hn b e).elim (fun x => h.off b x e') (fun x => by have := h.doc.lt b e'; omega)
  exact ⟨hm.kept hk' fun b e e' => hoff b e e', hd, fun b e e' => (hn' b e').elim (fun x => hoff b e x) (fun x => by have := hm.lt b e; omega), fun b e => (hn b e).elim (h.nf b) fun e' => Nat.le_trans h.bel.size e', fun b e => (hn' b e).elim (h.ng b) fun e' => Nat.le_trans hB.size e', hB.trans (hk'.below hB.size h.ng)⟩
/-- The first machine has done something. -/
theorem Both.one (h : Both w0 w F G p q m f tr tu) (hm : Mach w' F' p m f tr') (hk : Kept F w w') (hn : ∀ b, F' b → F b ∨ w.heap.size ≤ b) : Both w0 w' F' G p q m f tr' tu :=
  ⟨hm, h.doc.keep hk fun b e e' => h.off b e' e, fun b e e' => (hn b e).elim (fun x => h.off b x e') (fun x => by have := h.doc.lt b e'; omega), fun b e => (hn b e).elim (h.nf b) fun e' => Nat.le_trans h.bel.size e', h.ng, h.bel.trans (hk.below h.bel.size h.nf)⟩
theorem Both.stays (h : Both w0 w F G p q m f tr tu) (hb : Below w.heap.size w w') : Both w0 w' F G p q m f tr tu :=
  ⟨h.mach.stays hb, h.doc.keep (Kept.of_below (fun _ => False) hb) fun b e e' => e', h.off, h.nf, h.ng, h.bel.trans (hb.mono h.bel.size)⟩
/-- What Emit tells. -/
theorem emit_p {w : World} {F : Nat → Prop} {p m : Nat} {f : Int → Int} {tr : List Ins} (h : Mach w F p m f tr) (c : Nat) (hc : c < m) (hm : m ≤ 200000) (hlen : tr.length ≤ 99999) :
    Calls Try.prog 50 #[.pointer (some ⟨p, 0, none⟩), .agg #[.int .i64 11, .int .i64 0, .int .i64 (c : Int), .int .i64 0, .int .i64 0, .int .u64 0]] w fun e w' => e = .returned (.tuple #[.int .u64 (f c), .nilIface]) ∧ ∃ F' tr', Mach w' F' p m f tr' ∧ tr'.length = tr.length + 1 ∧ Kept F w w' ∧ (∀ b, F' b → F b ∨ w.heap.size ≤ b) := by
  have hmay : may ⟨11, 0, (c : Int), 0, 0, 0⟩ m = true := by simp [may, there]; omega
  refine (do_p h ⟨11, 0, (c : Int), 0, 0, 0⟩ (fits_of ⟨i64_of (by decide), i64_of (by decide), i64_of ⟨by omega, by omega⟩, i64_of (by decide), i64_of (by decide), u64_of (by decide)⟩) hm hlen).mono fun e w' ⟨h1, F', h2, h3, h4⟩ => ?_
  unfold toldM errM at h1
  unfold nextM nextT at h2
  rw [hmay] at h1 h2
  simp only [if_true, nextF, told] at h1 h2
  exact ⟨h1, F', _, h2, by simp, h3, h4⟩
end

end Go.Proofs.Ythhgagghdeocoaa
