import Derived.Test.YtipfgpfplakhiaaTc32
import Derived.Test.YtipfgpfplakhiaaTc25
import Derived.Test.YtipfgpfplakhiaaTc40
set_option linter.unusedVariables false
set_option linter.unusedSimpArgs false
namespace Go.Proofs.Ytipfgpfplakhiaa
open Go Go.RowKit
section
theorem Met.few {κ:Nat->Nat} {N:Nat} {fs:List Nat} (h:Met κ N fs):fs.length<=N:=by
 have hnd:fs.Nodup:=(List.Pairwise.of_map κ (fun a b hab e=>hab yl7) h.nod);have:=zcv fs (List.range N) hnd fun s hs=>yho.2 (h.lt s hs)
 simpa using this
structure DL (B:Nat) (w:World) (gl:Nat) (O:Nat->Prop) (F:Nat->Nat) (n:Int) (vN vO vf vr:Value) (rows:List (List Nat)) (outs:List (Nat×Nat)) (fs row:List Nat):Prop where
 ds:DS B w gl O F n (.slice none 0 0) vN vO vr [] rows outs row
 rf:Ints w B vf (ns fs)
 fO:∀ b,vf.ownBlock=some b->¬ O b
 fr:∀ b,vf.ownBlock=some b->vr.ownBlock≠some b
section
variable {B gl:Nat} {w w' W:World} {O:Nat->Prop} {F:Nat->Nat} {n:Int} {vN vO vf vr v':Value} {rows:List (List Nat)} {outs:List (Nat×Nat)} {fs row:List Nat}
theorem DL.lt (h:DL B w gl O F n vN vO vf vr rows outs fs row):∀ b,vf.ownBlock=some b->B<=b∧b<w.heap.size:=fun b e=>ygs h.rf b e
theorem DL.stays (h:DL B w gl O F n vN vO vf vr rows outs fs row) (hb:Below w.heap.size w w'):DL B w' gl O F n vN vO vf vr rows outs fs row:=⟨h.ds.stays hb,h.rf.stays hb,h.fO,h.fr⟩
theorem DL.pushF (h:DL B w gl O F n vN vO vf vr rows outs fs row) {t:Nat} (hk:Kept (fun b=>vf.ownBlock=some b) w w') (hr:Ints w' B v' (ns (fs++[t]))) (hv:v'.ownBlock=vf.ownBlock∨∃ c,v'.ownBlock=some c∧w.heap.size<=c):
 DL B w' gl O F n vN vO v' vr rows outs (fs++[t]) row:=by
 have hq:∀ l,3∉l->Oth w (fun b=>vf.ownBlock=some b) l:=fun l e=>zdb h.rf e
 obtain⟨gB,box,nxt,ots,olt,sts,hrow,rO⟩:=h.ds;have hrl:∀ b,vr.ownBlock=some b->b<w.heap.size:=fun b e=>(ygs hrow b e).2
 refine⟨⟨gB,box.oth hk (hq [38] yk6) yk3,nxt.kept hk fun b e e'=>h.fO b e' e,zb9 ots hk (hq [51] yk6) yk3,fun b e=>yh3 (olt b e) hk.size,sts.oth hk (hq _ yk6),za7 hrow fun b e hb=>hk.block b hb fun e'=>h.fr b e' e,rO⟩,hr,fun b e=>?_,fun b e e'=>?_⟩
 .rcases hv with e' | ⟨c,e',hc⟩
  .exact h.fO b (e'.symm.trans e)
  .intro q;have:c=b:=by rw[e'] at e;injection e
   have:=olt b q;omega
 .rcases hv with e2|⟨c,e2,hc⟩
  .exact h.fr b (e2.symm.trans e) e'
  .have:c=b:=by rw[e2] at e;injection e
   have:=hrl b e';omega
theorem DL.pushR (h:DL B w gl O F n vN vO vf vr rows outs fs row) {k:Nat} (hk:Kept (fun b=>vr.ownBlock=some b) w w') (hr:Ints w' B v' (ns (row++[k]))) (hv:v'.ownBlock=vr.ownBlock∨∃ c,v'.ownBlock=some c∧w.heap.size<=c):
 DL B w' gl O F n vN vO vf v' rows outs fs (row++[k]):=by
 refine⟨h.ds.pushR hk hr hv,za7 h.rf fun b e hb=>hk.block b hb fun e'=>h.fr b e e',h.fO,fun b e e'=>?_⟩;rcases hv with e2|⟨c,e2,hc⟩
 .exact h.fr b e (e2.symm.trans e')
 .have:c=b:=by rw[e2] at e';injection e'
  have:=(h.lt b e).2;omega
theorem DL.pushO (h:DL B w gl O F n vN vO vf vr rows outs fs row) {o:Nat×Nat} (hk:Kept (fun b=>vO.ownBlock=some b∨b=gl) w w') (hb:BoxM w' gl 38 F n vN v') (hr:w'.ownsRow B 51 2 v' (outs.length+1) (outC outs++[.int .u64 (o.1:Int),.int .u64 (o.2:Int)])):
 DL B w' gl O F n vN v' vf vr rows (outs++[o]) fs row:=
 ⟨h.ds.pushO hk hb hr,zb9 h.rf hk (zro (zdb h.ds.ots (l:=[3]) yk6) (zdm h.ds.box yk6)) yk3,h.fO,h.fr⟩
theorem DL.pushN (h:DL B w gl O F n vN vO vf vr rows outs fs row) {vs:List Value} (n1:vs.length=rows.length) (n2:w.ownsRow B 44 1 vN rows.length vs) (n3:∀ (i:Nat) u r,vs[i]?=some u->rows[i]?=some r->Ints w B u (ns r)) (n4:∀ u∈vs,∀ b,u.ownBlock=some b->O b)
 (hk:Kept (fun b=>vN.ownBlock=some b∨b=gl) w w') (hb:BoxM w' gl 38 F n v' vO) (hr:w'.ownsRow B 44 1 v' (rows.length+1) (vs++[vr])):
 ∃ O',DL B w' gl O' F n v' vO vf (.slice none 0 0) (rows++[row]) outs fs []:=by
 have hrf:=zb9 h.rf hk (zro (zdb n2 (l:=[3]) yk6) (zdm h.ds.box yk6)) yk3;refine⟨_,h.ds.pushN' n1 n2 n3 n4 hk hb hr,hrf,fun b e q=>?_,fun b e e'=>by cases e'⟩;rcases q with q|q|q
 .exact h.fO b e q
 .exact h.fr b e q
 .obtain⟨cu,h1⟩:=za8 hr q;obtain⟨cv,h2⟩:=za8 hrf e;exact za0 h1 h2 yk6 rfl
end
theorem zpk (F:Nat->Nat) (n:Int) (w:World):(Instr.build 38 #[(0,.agg (arrV 256 F)),(1,.int .i64 n)]).run Try.prog w = .ok (.agg (zac F n (.slice none 0 0) (.slice none 0 0))) w:=by
 refine run_build w _ _ _ ?_
 kernel_rfl
theorem zje {w:World} {ops:Array Oper} {rest:List Oper} {o:Oper} {a:Act} {Q:Exit->Act->World->Prop} {F:Nat->Nat} {n:Int} (hgd:o.guard=none) (x0 x1:Operand) (ho:o.op = .build 38 #[(0,x0),(1,x1)])
 (h0:a.eval x0 = .agg (arrV 256 F)) (h1:a.eval x1 = .int .i64 n)
 (hk:wpList Try.prog ops Q rest (a.put o.dst (.agg (zac F n (.slice none 0 0) (.slice none 0 0)))) w):wpList Try.prog ops Q (o::rest) a w:=by
 refine wpList_plain hgd fun _ hK=>?_
 unfold Oper.wp execOp;have e:(#[(0,x0),(1,x1)]:Array (Nat×Operand)).map (fun (i,x)=>(i,a.eval x))=#[(0,.agg (arrV 256 F)),(1,.int .i64 n)]:=(by simp[h0,h1]);simp only[ho,e,Sem.run_bind,Sem.run_pure,Result.andThen_ok,zpk];exact hK _ _ hk
end
end Go.Proofs.Ytipfgpfplakhiaa
