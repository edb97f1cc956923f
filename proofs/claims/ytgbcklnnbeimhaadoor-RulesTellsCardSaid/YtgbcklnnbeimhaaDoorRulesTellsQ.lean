/-
  The law RulesTells of layer 14: its walk, with its arguments opened. No statement of its own: the statement's proof is another text.
-/
import Derived.Test.YtgbcklnnbeimhaaDoorRulLaw
namespace Go.Proofs.YtgbcklnnbeimhaaDoor
open Go Go.RowKit
theorem rulestells_q (w : World) (s : ByteArray) (hs : s.size ≤ 9223372036854775807) (hm : MaxL w) :
    Calls Tryd.prog 3 #[.string s] w fun e w' => e = .returned (.bool true) ∧ Below w.heap.size w w' := rulestells_p w s hs hm
end Go.Proofs.YtgbcklnnbeimhaaDoor
