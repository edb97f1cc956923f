/-
  What Do does, said of what was there at an older time. Contracts for other texts; no statement of its own.
-/
import Derived.Test.YthhgagghdeocoaaCtDo
import Derived.Test.YthhgagghdeocoaaCtCode
set_option linter.unusedVariables false
set_option linter.unusedSimpArgs false
namespace Go.Proofs.Ythhgagghdeocoaa
open Go Go.RowKit

theorem fits_of {o d a b c n : Int} (h : I64 o ∧ I64 d ∧ I64 a ∧ I64 b ∧ I64 c ∧ U64 n) : Ins.fits ⟨o, d, a, b, c, n⟩ := ⟨h.1, h.2.1, h.2.2.1, h.2.2.2.1, h.2.2.2.2.1, h.2.2.2.2.2⟩
theorem i64_of {v : Int} (h : -9223372036854775808 ≤ v ∧ v ≤ 9223372036854775807) : I64 v := h
theorem u64_of {v : Int} (h : 0 ≤ v ∧ v ≤ 18446744073709551615) : U64 v := h
/-- What Do does, said of what was there at an older time. -/
structure At (w0 w : World) (F : Nat → Prop) (p m : Nat) (f : Int → Int) (tr : List Ins) : Prop where
  mach : Mach w F p m f tr
  new : ∀ b, F b → w0.heap.size ≤ b
  bel : Below w0.heap.size w0 w
theorem At.mk' {w0 w w' : World} {F F' : Nat → Prop} {p m : Nat} {f f' : Int → Int} {tr tr' : List Ins} (h : At w0 w F p m f tr) (hm : Mach w' F' p m f' tr') (hk : Kept F w w') (hn : ∀ b, F' b → F b ∨ w.heap.size ≤ b) : At w0 w' F' p m f' tr' :=
  ⟨hm, fun b e => (hn b e).elim (h.new b) fun e' => Nat.le_trans h.bel.size e', h.bel.trans (hk.below h.bel.size h.new)⟩
theorem up_do {w0 w : World} {F : Nat → Prop} {p m : Nat} {f : Int → Int} {tr : List Ins} (h : At w0 w F p m f tr) (x : Ins) (hx : x.fits) (hm : m ≤ 200000) (hlen : tr.length ≤ 99999) {v : Int} {b : Bool} (hv : toldM x m f = v) (hb : may x m = b) :
    Calls Try.prog 50 #[.pointer (some ⟨p, 0, none⟩), insV x] w fun e w' => e = .returned (.tuple #[.int .u64 v, errM b]) ∧ ∃ F', At w0 w' F' p m (nextM x m f) (nextT x m tr) := by
  refine (do_p h.mach x hx hm hlen).mono fun e w' ⟨h1, F', h2, h3, h4⟩ => ⟨by rw [h1, hv, hb], F', h.mk' h2 h3 h4⟩

end Go.Proofs.Ythhgagghdeocoaa
