import Derived.Test.YtipfgpfplakhiaaDoorTw16
set_option linter.unusedVariables false
set_option linter.unusedSimpArgs false
namespace Go.Proofs.YtipfgpfplakhiaaDoor
open Go Go.RowKit
section
def MadeN (w:World) (B g N:Nat) (L:List (Lay×Str)) (E:Nat->Prop):Prop:=
 (∀ b,E b->b<w.heap.size∧b≠g)∧∃ (cs:List (List Value)) (ys:List Value),cs.length=L.length∧ys.length+L.length*5=N*5∧w.ownsRow B 73 5 (.slice (some ⟨g,0,none⟩) N N) N (cs.flatten++ys)∧∀ (i:Nat) c s x,cs[i]?=some c->L[i]?=some (s,x)->Elem w E c s x
def MadeT (w:World) (B g N:Nat) (bs:List Bool):Prop:=∃ ys:List Value,ys.length+bs.length=N∧w.ownsRow B 4 1 (.slice (some ⟨g,0,none⟩) N N) N (bs.map Value.bool++ys)
theorem zvy (n:Nat) (hn:n<=100000):∃ M:Array Value,M.size=n*5∧∀ W:World,(Instr.makeSlice 30 (.int .i64 (n:Int)) (.int .i64 (n:Int))).run Tryd.prog W = .ok (.slice (some ⟨W.heap.size,0,none⟩) n n) (W.alloc (.cells M 73)):=by
 obtain⟨i1,a1,a2,a3,a4⟩:=info_parts nfaTyP.info;refine⟨madeCells (Value.agg #[.slice none 0 0,.slice none 0 0,.slice none 0 0,.slice none 0 0,.bool false]).cells (n*5),by simp[madeCells],fun W=>?_⟩;have:=run_make (P:=Tryd.prog) (w:=W) 30 73 i1 _ Tryd.underlying30 a1 a2 .i64 .i64 (n:Int) (n:Int) yie (Int.le_refl _) (by rw[a4];omega) yie;rw[a3] at this
 simpa using this
theorem zpy (n:Nat) (hn:n<=100000):∃ M:Array Value,M.size=n∧∀ W:World,(Instr.makeSlice 23 (.int .i64 (n:Int)) (.int .i64 (n:Int))).run Tryd.prog W = .ok (.slice (some ⟨W.heap.size,0,none⟩) n n) (W.alloc (.cells M 4)):=by
 obtain⟨i1,a1,a2,a3,a4⟩:=info_parts Tryd.infoBool;refine⟨madeCells (Value.bool false).cells (n*1),by simp[madeCells],fun W=>?_⟩;have:=run_make (P:=Tryd.prog) (w:=W) 23 4 i1 _ Tryd.underlying23 a1 a2 .i64 .i64 (n:Int) (n:Int) yie (Int.le_refl _) (by rw[a4];omega) yie;rw[a3] at this
 simpa using this
theorem zju:∀ (cs:List (List Value)),(∀ d∈cs,d.length=5)->cs.flatten.length=cs.length*5
 | [],_=>rfl
 | d::cs,h=>by
  rw[List.flatten_cons,yfd,h d (yg9 ..),zju cs fun d' hd=>h d' (yfv _ hd),yg7];omega
section
variable {w w':World} {B g N:Nat} {L:List (Lay×Str)} {E:Nat->Prop} {bs:List Bool}
theorem MadeN.new {M:Array Value} (hM:M.size=N*5) (hN:N<=100000) (h:w.heap[g]?=some (.cells M 73 (0,0))) (hB:B<=g):MadeN w B g N [] fun _=>False:=by
 refine⟨fun b e=>e.elim,[],M.toList,rfl,by simp[hM],⟨by simp[hM],.inr ⟨g,N,M,rfl,hB,h,yez _,by unfold maxLen;omega,hM,by rw[yg0 (by simp[hM])];rfl⟩⟩,fun i c s x e=>by simp at e⟩
theorem MadeT.new {M:Array Value} (hM:M.size=N) (hN:N<=100000) (h:w.heap[g]?=some (.cells M 4 (0,0))) (hB:B<=g):MadeT w B g N []:=by
 refine⟨M.toList,by simp[hM],⟨by simp[hM],.inr ⟨g,N,M,rfl,hB,h,yez _,by unfold maxLen;omega,by rw[hM,ygl],by rw[yg0 (by simp[hM])];rfl⟩⟩⟩
theorem MadeN.lt (h:MadeN w B g N L E):B<=g∧g<w.heap.size:=by
 obtain⟨_,cs,ys,_,_,h3,_⟩:=h;exact yf5 h3 g rfl
theorem MadeT.lt (h:MadeT w B g N bs):B<=g∧g<w.heap.size:=by
 obtain⟨ys,_,h3⟩:=h;exact yf5 h3 g rfl
theorem MadeN.stays (h:MadeN w B g N L E) (hb:Below w.heap.size w w'):MadeN w' B g N L E:=by
 obtain⟨h1,cs,ys,h2,h3,h4,h5⟩:=h;exact⟨fun b e=>⟨yff (h1 b e).1 hb.size,(h1 b e).2⟩,cs,ys,h2,h3,za6 h4 hb,fun i c s x e1 e2=>(h5 i c s x e1 e2).keep hb.size fun b e=>hb.block b (h1 b e).1⟩
theorem MadeT.stays (h:MadeT w B g N bs) (hb:Below w.heap.size w w'):MadeT w' B g N bs:=by
 obtain⟨ys,h1,h2⟩:=h;exact⟨ys,h1,za6 h2 hb⟩
theorem MadeN.wide {E':Nat->Prop} (h:MadeN w B g N L E) (he:∀ b,E b->E' b) (hE:∀ b,E' b->b<w.heap.size∧b≠g):MadeN w B g N L E':=by
 obtain⟨h1,cs,ys,h2,h3,h4,h5⟩:=h;exact⟨hE,cs,ys,h2,h3,h4,fun i c s x e1 e2=>(h5 i c s x e1 e2).wide he⟩
theorem zoh {cs:List (List Value)} (h:∀ (i:Nat) c s x,cs[i]?=some c->L[i]?=some (s,x)->Elem w E c s x) (hl:cs.length=L.length):∀ d∈cs,d.length=5:=fun d hd=>by
 obtain⟨j,hj⟩:=ygr hd;obtain⟨⟨s',x'⟩,hx⟩:∃ z,L[j]?=some z:=⟨_,yey (by have:=(yf4.1 hj).1;omega)⟩;exact (h j d s' x' hj hx).one.1
theorem MadeN.frozenAt (h:MadeN w B g N L E) (j:Nat):w.frozen? ⟨g,j,none⟩=false:=by
 obtain⟨_,cs,ys,_,_,h3,_⟩:=h;exact yfw h3 j
theorem MadeN.stoM (h:MadeN w B g N L E) (hl:L.length<N) (a b c d:Option Addr) (a1 a2 b1 b2 c1 c2 d1 d2:Nat) (e:Bool):StoM 73 w (.pointer (some ⟨g,L.length*5,none⟩)) (.agg #[.slice a a1 a2,.slice b b1 b2,.slice c c1 c2,.slice d d1 d2,.bool e]):=by
 obtain⟨i0,hi',hi0,hi1,hi2⟩:=info_parts nfaTyP.info;refine yb4 (fun j hj=>?_) ?_ ?_
 .have hf:=h.frozenAt (L.length*5+j);obtain⟨h1,cs,ys,h2,h3,h4,h5⟩:=h;have hfl:=zju cs (zoh h5 h2);have hj5:j<5:=hj;refine⟨?_,hf⟩;rw[yf7 h4 (L.length*5+j) yie,yfc yie,yey yie];rfl
 .rw[hi'];simp[hi1]
 .simp[Value.oneCell']
theorem MadeN.set {s:Lay} {x:Str} {cv:Array Value} (h:MadeN w B g N L E) (hl:L.length<N) (he:Elem w E cv.toList s x):MadeN (Go.Proofs.YtipfgpfplakhiaaDoor.stoM w (.pointer (some ⟨g,L.length*5,none⟩)) (.agg cv)) B g N (L++[(s,x)]) E:=by
 obtain⟨h1,cs,ys,h2,h3,h4,h5⟩:=h;have hfl:=zju cs (zoh h5 h2);have s1:=zi8 cv.toList (L.length*5) _ _ h4;have hc5:=he.one.1;have e1:setL (cs.flatten++ys) (L.length*5) cv.toList=cs.flatten++(cv.toList++ys.drop 5):=by
  have:=zqz cs.flatten cv.toList ys 0;rw[hfl,h2,yh1] at this;rw[this];have e2:=zr0 cv.toList (ys.take 5) (ys.drop 5) (by rw[yg8,hc5];omega);rw[yhj] at e2;rw[e2]
 rw[e1,←yfl] at s1;have hsz:w.heap.size<=(Go.Proofs.YtipfgpfplakhiaaDoor.stoM w (.pointer (some ⟨g,L.length*5,none⟩)) (.agg cv)).heap.size:=by
  have:=(zi2 (B:=0) (a:=w) (g:=g) (yf8 _) cv.toList (L.length*5) w ⟨rfl,rfl,rfl,yez _,fun _ _=>rfl⟩).size;exact this
 have hk:∀ b,E b->(Go.Proofs.YtipfgpfplakhiaaDoor.stoM w (.pointer (some ⟨g,L.length*5,none⟩)) (.agg cv)).heap[b]?=w.heap[b]?:=fun b e=>zdw (h1 b e).2 _ _ _
 refine⟨fun b e=>⟨yff (h1 b e).1 hsz,(h1 b e).2⟩,cs++[cv.toList],ys.drop 5,by simp[h2],by simp;omega,by rw[show (cs++[cv.toList]).flatten=cs.flatten++cv.toList by simp];exact s1,fun i c s' x' e1 e2=>?_⟩
 by_cases hi:i<L.length
 .rw[yfb yie] at e1;rw[yfb hi] at e2;exact (h5 i c s' x' e1 e2).keep hsz hk
 .have e0:i=L.length:=(by have:=(yf4.1 e2).1;simp at this;omega);subst e0;rw[yfc yie] at e1;rw[yfc (yez _)] at e2;simp[h2] at e1 e2;obtain⟨rfl,rfl⟩:=e2;subst e1;exact he.keep hsz hk
theorem MadeT.set (h:MadeT w B g N bs) (hl:bs.length<N) (b:Bool):MadeT (w.setCell ⟨g,bs.length,none⟩ (.bool b)) B g N (bs++[b]):=by
 obtain⟨ys,h1,h2⟩:=h;have s1:=(yg1 h2 bs.length (.bool b)).1;rw[List.set_append_right _ _ yii] at s1;simp only[yfr,ygf] at s1;cases ys with
 | nil=>simp at h1;omega
 | cons y ys =>
  simp only[List.set_cons_zero] at s1;refine⟨ys,by simp at h1 ⊢;omega,?_⟩
  simpa using s1
theorem MadeT.cell (h:MadeT w B g N bs) (hl:bs.length<N):∃ u,w.cell? ⟨g,bs.length,none⟩=some u∧w.frozen? ⟨g,bs.length,none⟩=false:=by
 obtain⟨ys,h1,h2⟩:=h;cases ys with
 | nil=>simp at h1;omega
 | cons y ys =>
  refine⟨y,?_,yfw h2 _⟩;rw[yf7 h2 bs.length yie,yfc yii];simp
theorem zy8 {b k:Nat} {cv:Array Value} (hn:b≠g):(Go.Proofs.YtipfgpfplakhiaaDoor.stoM w (.pointer (some ⟨g,k,none⟩)) (.agg cv)).heap[b]?=w.heap[b]?:=zdw hn _ _ _
theorem zqi {a:World} {k:Nat} {cv:Array Value} (h:Below B a w) (hb:B<=g):Below B a (Go.Proofs.YtipfgpfplakhiaaDoor.stoM w (.pointer (some ⟨g,k,none⟩)) (.agg cv)):=zi2 hb _ _ _ h
theorem MadeT.off {k:Nat} {v:Array Value} {gn:Nat} (h:MadeT w B g N bs) (hn:g≠gn):MadeT (Go.Proofs.YtipfgpfplakhiaaDoor.stoM w (.pointer (some ⟨gn,k,none⟩)) (.agg v)) B g N bs:=by
 obtain⟨ys,h1,h2⟩:=h;exact⟨ys,h1,za8 h2 fun b e hb=>by injection e with e;subst e;exact zdw hn _ _ _⟩
theorem MadeN.off {k gt:Nat} {v:Value} (h:MadeN w B g N L E) (hn:g≠gt) (hE:∀ b,E b->b≠gt):MadeN (w.setCell ⟨gt,k,none⟩ v) B g N L E:=by
 obtain⟨h1,cs,ys,h2,h3,h4,h5⟩:=h;have ho:∀ c,c≠gt->(w.setCell ⟨gt,k,none⟩ v).heap[c]?=w.heap[c]?:=fun c hc=>heap_setCell_other w ⟨gt,k,none⟩ c v hc
 have hsz:(w.setCell ⟨gt,k,none⟩ v).heap.size=w.heap.size:=yii;refine⟨fun b e=>⟨by rw[hsz];exact (h1 b e).1,(h1 b e).2⟩,cs,ys,h2,h3,za8 h4 fun b e hb=>by injection e with e;subst e;exact ho _ hn,fun i c s x e1 e2=>(h5 i c s x e1 e2).keep (by rw[hsz];exact yez _) fun b e=>ho b (hE b e)⟩
theorem MadeN.rd (h:MadeN w B g N L E) (hl:L.length=N):RdNfas w w.heap.size (some ⟨g,0,none⟩) L:=by
 obtain⟨h1,cs,ys,h2,h3,h4,h5⟩:=h;have hy:ys=[]:=yh9.1 yie;subst hy hl;rw[ygm] at h4;exact NfaRow.rd (ty:=73) ⟨fun b e=>⟨(h1 b e).1,fun e'=>by injection e' with e';exact (h1 b e).2 e'.symm⟩,cs,h2,h4,h5⟩ rfl
theorem MadeT.own (h:MadeT w B g N bs) (hl:bs.length=N):w.ownsRow B 4 1 (.slice (some ⟨g,0,none⟩) N N) N (bs.map Value.bool):=by
 obtain⟨ys,h1,h2⟩:=h;have hy:ys=[]:=yh9.1 yie;subst hy;rw[ygm] at h2;exact h2
end
end
section
section
variable {w w' W:World} {B gm:Nat} {O Q:Nat->Prop} {F:Nat->Nat} {n:Int} {vS vN vO vr v v' u:Value} {rows:List (List Nat)} {outs:List (Nat×Nat)} {row:List Nat}
def Oth (w:World) (Q:Nat->Prop) (l:List TypeId):Prop:=∀ b,Q b->b<w.heap.size->∃ cur ty,w.heap[b]?=some (.cells cur ty (0,0))∧ty∉l
theorem zsm {e tl:TypeId} {size bytes:Nat} {z:Value} (hinfo:(Tryd.prog.info? e).map (fun i=>(i.zero,i.size,i.bytes))=some (some z,size,bytes)) (hund:Tryd.prog.underlying tl=some (.slice e)) (hzs:z.cells.size=size) (hsz:0<size) (hby:bytes<=1000)
 {ops:Array Oper} {rest:List Oper} {o:Oper} {a:Act} {Q:Exit->Act->World->Prop} (hgd:o.guard=none) (s x:Operand) (ho:o.op = .call {callee := .builtin .append,args:=#[s,x],argTypes:=#[tl,tl]})
 {k g c:Nat} {vs:List Value} {cs:Array Value} (hs:a.eval s=v) (hr:w.ownsRow B e size v k vs) (hx:a.eval x = .slice (some ⟨g,0,none⟩) 1 c) (hc:HasO w g (.cells cs e (0,0))) (hcs:cs.size=size) (h1:cs.all (·.oneCell')=true) (hn:k<=100000) (hB:B<=w.heap.size)
 (hk:∀ v' w',w'.ownsRow B e size v' (k+1) (vs++cs.toList)->w.grownBy w' v.ownBlock->(v'.ownBlock=v.ownBlock∨v'.ownBlock=some w.heap.size)->wpList Tryd.prog ops Q rest (a.put o.dst v') w'):wpList Tryd.prog ops Q (o::rest) a w:=by
 obtain⟨i0,hi,hz0,hz1,hz2⟩:=info_parts hinfo;have hm:(k+1)*bytes<=100001*1000:=yi4 yie hby;obtain⟨v',w',hrun,h4,h5,_,h6⟩:=run_append_own_at (P:=Tryd.prog) w B tl o.type e i0 z size bytes hund hi hz0 hz1 hz2 hzs hsz v k vs hr ⟨g,0,none⟩ 1 c cs.toList (by simp[hcs]) (zd4 hc) (by
  intro y hy;exact (yhm.1 h1) y (by simpa using hy)) yin yie hB
 refine wpList_plain hgd fun _ hK=>?_
 unfold Oper.wp execOp;simp only[ho,resolve,invoke,builtin,Sem.run_bind,Sem.run_pure,Result.andThen_ok,ygz,ygo,yh0,hs,hx,hrun];exact hK _ _ (hk v' w' h4 h5 h6)
end
end
end Go.Proofs.YtipfgpfplakhiaaDoor
