import Derived.Test.YtipfgpfplakhiaaDoorTw16
set_option linter.unusedVariables false
set_option linter.unusedSimpArgs false
namespace Go.Proofs.YtipfgpfplakhiaaDoor
open Go Go.RowKit
section
attribute [local go_sem ↓] Go.wp_at_zero Go.wp_at_succ
attribute [local go_sem ↓] zgq
def yee (w:World) (C ga gs gf k:Nat) (vl:Value) (e:Bool) (s:Lay) (Q:Nat->Prop) (en:Ending) (w':World):Prop:=
 en = .returned (.tuple #[])∧∃ Q',NfaD w' C ga gs gf k vl e s Q'∧Kept Q w w'∧∀ b,Q' b->Q b∨w.heap.size<=b
def yev (N:Nat):Prop:=∀ (t:T) (w:World) (ok:Nat->Prop) (kv:Value) (a C ga gs gf k:Nat) (vl:Value) (e:Bool) (s:Lay) (Q:Nat->Prop),SizeOf.sizeOf t<=N->FT t->Tree w ok t kv->(∀ b,ok b->¬ Q b)->a+plT t<=k->k<=256->
 NfaD w C ga gs gf k vl e s Q->C<=w.heap.size->(∀ q,(s.follow.getD q []).length+plT t*plT t<=70000)->
 Calls Tryd.prog 37 #[.pointer (some ⟨ga,0,none⟩),zcu t kv,.int .i64 (a:Int)] w (yee w C ga gs gf k vl e (folL t a s) Q)
structure Away (w:World) (v:Value) (l:List Nat) (Q:Nat->Prop):Prop where
 ints:Ints w 0 v (ns l)
 out:∀ b,v.ownBlock=some b->¬ Q b
structure FolIn (w:World) (C ga gs gf k:Nat) (vl:Value) (e:Bool) (Q:Nat->Prop) (t:T) (kv beg:Value) (bl:List Nat) (s:Lay) (Qj:Nat->Prop) (wr:World):Prop where
 box:Box8 wr w.heap.size t kv
 begA:Away wr beg bl Qj
 begB:∀ b,beg.ownBlock=some b->w.heap.size+1<=b
 D:NfaD wr C ga gs gf k vl e s Qj
 kept:Kept Q w wr
 q:∀ b,Qj b->Q b∨w.heap.size+1<=b
 ge:∀ b,Q b->b<w.heap.size
section
variable {w wr w2:World} {C ga gs gf k:Nat} {vl:Value} {e:Bool} {Q Qj Q2:Nat->Prop} {t:T} {kv beg beg2 v v' vp:Value} {bl l:List Nat} {s s2:Lay}
end
end
end Go.Proofs.YtipfgpfplakhiaaDoor
