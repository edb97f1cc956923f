/-
  The law RulesBack of layer 14: its walk, with its arguments opened. No statement of its own: the statement's proof is another text.
-/
import Derived.Test.YtgbcklnnbeimhaaDoorRulLaw3
namespace Go.Proofs.YtgbcklnnbeimhaaDoor
open Go Go.RowKit
theorem rulesback_q (w : World) (s : ByteArray) (more : Int) (hs : s.size ≤ 9223372036854775807) (c : -9223372036854775808 ≤ more) (e : more ≤ 9223372036854775807) (hm : MaxL w) :
    Calls Tryd.prog 5 #[.string s, .int .i64 more] w fun e w' => e = .returned (.bool true) ∧ Below w.heap.size w w' := rulesback_p w s more hs ⟨c, e⟩ hm
end Go.Proofs.YtgbcklnnbeimhaaDoor
