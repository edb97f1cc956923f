import Derived.Test.YtipfgpfplakhiaaTc15
import Derived.Test.YtipfgpfplakhiaaTc34
set_option linter.unusedVariables false
set_option linter.unusedSimpArgs false
namespace Go.Proofs.Ytipfgpfplakhiaa
open Go Go.RowKit
section
attribute [local go_sem ↓] Go.wp_at_zero Go.wp_at_succ
attribute [local go_sem ↓] zj1
def zaj (l:List (T×Bool)):List (Lay×Str):=l.map fun r=>lay0 r.1
def zem (l:List (T×Bool)):List Value:=l.map fun r => .bool r.2
structure Tri (w wr:World) (va vb vc:Value) (l:List (T×Bool)) (E:Nat->Prop):Prop where
 ra:NfaRow 79 wr w.heap.size va (zaj l) E
 rb:NfaRow 76 wr w.heap.size vb (zaj l) E
 rc:wr.ownsRow w.heap.size 4 1 vc l.length (zem l)
 ec:∀ b,E b->vc.ownBlock≠some b
 bel:Below w.heap.size w wr
def ygi (w:World) (l:List (T×Bool)) (e:Ending) (w':World):Prop:=∃ A1 c1 A2 c2 A3 c3,e = .returned (.tuple #[.slice A1 l.length c1,.slice A2 l.length c2,.slice A3 l.length c3])∧
 RdNfas w' w'.heap.size A1 (zaj l)∧RdNfas w' w'.heap.size A2 (zaj l)∧w'.ownsRow w.heap.size 4 1 (.slice A3 l.length c3) l.length (zem l)∧Below w.heap.size w w'
theorem zof {w:World} {B e size n:Nat} {v:Value} {xs:List Value} (h:w.ownsRow B e size v n xs):∃ A c,v = .slice A n c:=by
 rcases h.2 with ⟨e,e0⟩|⟨g,cap,cur,e,_⟩
 .subst e0;exact⟨_,_,e⟩
 .exact⟨_,_,e⟩
end
end Go.Proofs.Ytipfgpfplakhiaa
