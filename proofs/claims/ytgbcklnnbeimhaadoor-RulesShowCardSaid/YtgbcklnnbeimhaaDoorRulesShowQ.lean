/-
  The law RulesShow of layer 14: its walk, with its arguments opened. No statement of its own: the statement's proof is another text.
-/
import Derived.Test.YtgbcklnnbeimhaaDoorRulLaw2
namespace Go.Proofs.YtgbcklnnbeimhaaDoor
open Go Go.RowKit
theorem rulesshow_q (w : World) (A : Option Addr) (c : Nat) (l : List Ru) (h : RdRu w A l) (hy : ∀ (i : Nat) (x : Ru), l[i]? = some x → x.name.size ≤ 140737488351232 ∧ x.pat.size ≤ 140737488351232) (hl : l.length ≤ 9223372036854775807) (hm : MaxL w) :
    Calls Tryd.prog 4 #[.slice A l.length c] w fun e w' => e = .returned (.bool true) ∧ Below w.heap.size w w' := rulesshow_p w A c l h hy hl hm
end Go.Proofs.YtgbcklnnbeimhaaDoor
