import Derived.Test.YtipfgpfplakhiaaDoorTw37
set_option linter.unusedVariables false
set_option linter.unusedSimpArgs false
namespace Go.Proofs.YtipfgpfplakhiaaDoor
open Go Go.RowKit
section
attribute [local go_sem ↓] Go.wp_at_zero Go.wp_at_succ
attribute [local go_sem ↓] zil
def zad (l:List (T×Bool)):List (Lay×Str):=l.map fun r=>lay0 r.1
def zs9 (l:List (T×Bool)):List Value:=l.map fun r => .bool r.2
structure Tri (w wr:World) (va vb vc:Value) (l:List (T×Bool)) (E:Nat->Prop):Prop where
 ra:NfaRow 73 wr w.heap.size va (zad l) E
 rb:NfaRow 70 wr w.heap.size vb (zad l) E
 rc:wr.ownsRow w.heap.size 4 1 vc l.length (zs9 l)
 ec:∀ b,E b->vc.ownBlock≠some b
 bel:Below w.heap.size w wr
def yet (w:World) (l:List (T×Bool)) (e:Ending) (w':World):Prop:=∃ A1 c1 A2 c2 A3 c3,e = .returned (.tuple #[.slice A1 l.length c1,.slice A2 l.length c2,.slice A3 l.length c3])∧
 RdNfas w' w'.heap.size A1 (zad l)∧RdNfas w' w'.heap.size A2 (zad l)∧w'.ownsRow w.heap.size 4 1 (.slice A3 l.length c3) l.length (zs9 l)∧Below w.heap.size w w'
end
end Go.Proofs.YtipfgpfplakhiaaDoor
