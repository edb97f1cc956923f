import Derived.Test.YtipfgpfplakhiaaDoorTw16
import Derived.Test.YtipfgpfplakhiaaDoorTw32
set_option linter.unusedVariables false
set_option linter.unusedSimpArgs false
namespace Go.Proofs.YtipfgpfplakhiaaDoor
open Go Go.RowKit
section
attribute [local go_sem ↓] Go.wp_at_zero Go.wp_at_succ
def yd5 (w:World) (u:T) (e:Ending) (w':World):Prop:=∃ k',e = .returned (zcu u k')∧Tree w' (fun b=>w.heap.size<=b) u k'∧Below w.heap.size w w'
def FlatF (N:Nat):Prop:=∀ (t:T) (w:World) (ok:Nat->Prop) (k:Value),SizeOf.sizeOf t<=N->WF t->Tree w ok t k->Calls Tryd.prog 35 #[zcu t k] w (yd5 w (yci t))
end
section
attribute [local go_sem ↓] Go.wp_at_zero Go.wp_at_succ
def RowK (w:World) (ok:Nat->Prop) (B:Nat) (v:Value) (l:List T):Prop:=
 ∃ ks,ks.length=l.length∧w.ownsRow B 56 8 v l.length (cellsOf l ks)∧∀ (i:Nat) t' k',l[i]?=some t'->ks[i]?=some k'->Tree w (fun b=>ok b∧some b≠v.ownBlock) t' k'
section
variable {w w':World} {ok:Nat->Prop} {B:Nat} {v:Value} {l:List T}
end
structure RepIn (w:World) (g4:Nat) (t fu r:T) (ka kf kr:Value) (wr:World):Prop where
 n:Box8 wr w.heap.size t ka
 res:Box8 wr (w.heap.size+1) T.zero (.slice none 0 0)
 k:Box8 wr g4 fu kf
 rest:Box8 wr (g4+1) r kr
 kt:Tree wr (fun b=>w.heap.size+2<=b∧b<g4) fu kf
 rt:Tree wr (fun b=>w.heap.size+2<=b∧b≠g4∧b≠g4+1) r kr
 g:w.heap.size+2<=g4
 out:Below w.heap.size w wr
structure RepJn (w:World) (G g4:Nat) (t fu r:T) (ka kf kr v:Value) (l:List T) (wr:World):Prop where
 n:Box8 wr w.heap.size t ka
 res:Box8 wr (w.heap.size+1) T.zero (.slice none 0 0)
 k:Box8 wr g4 fu kf
 rest:Box8 wr (g4+1) r kr
 kt:Tree wr (fun b=>w.heap.size+2<=b∧b<G) fu kf
 rt:Tree wr (fun b=>w.heap.size+2<=b∧b<G) r kr
 g:w.heap.size+2<=g4∧g4+2<=G
 row:RowK wr (fun b=>w.heap.size+2<=b) G v l
 gw:G<=wr.heap.size
 out:Below w.heap.size w wr
end
end Go.Proofs.YtipfgpfplakhiaaDoor
