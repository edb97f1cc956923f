import Derived.Test.YtipfgpfplakhiaaDoorTw23
import Derived.Laws.MakeOwn
import Derived.DeepKeys4
import Derived.Test.YtipfgpfplakhiaaDoorTw21
import Derived.Test.YtipfgpfplakhiaaDoorTw1
set_option linter.unusedVariables false
set_option linter.unusedSimpArgs false
set_option maxRecDepth 20000
set_option maxHeartbeats 4000000
namespace Go.Proofs.YtipfgpfplakhiaaDoor
open Go Go.RowKit
section
theorem zdn (n:Nat) (hn:n<=100000000):∃ M:Array Value,M.toList=lstI n (fun _=>0)∧∀ W:World,(Instr.makeSlice 68 (.int .i64 (n:Int)) (.int .i64 (n:Int))).run Tryd.prog W = .ok (.slice (some ⟨W.heap.size,0,none⟩) n n) (W.alloc (.cells M 3)):=by
 obtain⟨i1,a1,a2,a3,a4⟩:=info_parts Tryd.infoInt;refine⟨madeCells (Value.int .i64 0).cells (n*1),?_,fun W=>?_⟩
 .unfold madeCells lstI;simp[Value.cells,Nat.mod_one]
 .have:=run_make (P:=Tryd.prog) (w:=W) 68 3 i1 _ Tryd.underlying68 a1 a2 .i64 .i64 (n:Int) (n:Int) yie (Int.le_refl _) (by rw[a4];omega) yie;rw[a3] at this
  simpa using this
theorem zcf {w:World} {B b n:Nat} {M:Array Value} {f:Nat->Nat} (hM:M.toList=lstI n f) (h:w.heap[b]?=some (.cells M 3 (0,0))) (hB:B<=b) (hn:n<=100000000):NRow w B (.slice (some ⟨b,0,none⟩) n n) n f:=by
 have hs:M.size=n:=(by rw[←Array.length_toList,hM,zeq]);refine⟨by rw[zeq,ygl],.inr ⟨b,n,M,rfl,hB,h,yez _,by unfold maxLen;omega,by rw[hs,ygl],by rw[hM,yg0 (by rw[zeq];omega)]⟩⟩
structure PX (w:World) (B g:Nat) (a b c d e m:Value) (N k n:Nat) (st at' grp bg en md:Nat->Nat):Prop where
 gB:B<=g
 box:w.heap[g]?=some (.cells #[a,b,c,d,e,m] 165 (0,0))
 ra:NRow w B a N st
 rb:NRow w B b N at'
 rc:NRow w B c N grp
 rd:NRow w B d k bg
 re:NRow w B e k en
 rm:NRow w B m n md
 ap:[a,b,c,d,e,m].Pairwise Ap
section
variable {w w' W:World} {B g N k n:Nat} {a b c d e m v1 v2:Value} {st at' grp bg en md:Nat->Nat}
theorem PX.pm {p:PT} (h:PX w B g a b c d e m p.N p.n p.n p.st p.at' p.grp p.bg p.en p.md):PM w B g a b c d e m p:=⟨h.gB,h.box,h.ra,h.rb,h.rc,h.rd,h.re,h.rm,h.ap⟩
theorem PX.kept {Q:Nat->Prop} (h:PX w B g a b c d e m N k n st at' grp bg en md) (hk:Kept Q w w') (hg:¬ Q g) (hq:∀ v∈[a,b,c,d,e,m],∀ x,v.ownBlock=some x->¬ Q x):PX w' B g a b c d e m N k n st at' grp bg en md:=
 ⟨h.gB,(hk.block g (za0 h.box) hg).trans h.box,h.ra.kept hk (hq a yii),h.rb.kept hk (hq b yii),h.rc.kept hk (hq c yii),h.rd.kept hk (hq d yii),h.re.kept hk (hq e yii),h.rm.kept hk (hq m yii),h.ap⟩
theorem PX.begin3 (h:PX w B g a b c d e m N k n st at' grp bg en md):Rows3 B w w.drew d e m d e m k k n bg en md:=by
 have hap:=h.ap;simp only[yg3,yfi,forall_eq_or_imp,yfk,false_imp_iff,implies_true,and_true,ygb] at hap;obtain⟨_,_,_,⟨de,dm⟩,em⟩:=hap;exact⟨za6 h.rd (yf6 _ _).drew,za6 h.re (yf6 _ _).drew,za6 h.rm (yf6 _ _).drew,de,dm,em,(Kept.refl _ _).drew,fun x e => .inl e,fun x e => .inl e,fun x e => .inl e⟩
theorem PX.two {x1 x2:Nat} (h:PX w B g a b c d e m N k n st at' grp bg en md) (hr:Rows3 B w W d e m v1 v2 m (k+1) (k+1) n (upd bg k x1) (upd en k x2) md):
 PX ((W.setCell ⟨g,3,none⟩ v1).setCell ⟨g,4,none⟩ v2) B g a b c v1 v2 m N (k+1) n st at' grp (upd bg k x1) (upd en k x2) md∧
  (∀ v∈[v1,v2],∀ x,v.ownBlock=some x->w.heap.size<=x∨∃ v∈[d,e],v.ownBlock=some x)∧
  Kept (fun x=>x=g∨d.ownBlock=some x∨e.ownBlock=some x∨m.ownBlock=some x) w ((W.setCell ⟨g,3,none⟩ v1).setCell ⟨g,4,none⟩ v2):=by
 have hap:=h.ap;simp only[yg3,yfi,forall_eq_or_imp,yfk,false_imp_iff,implies_true,and_true,ygb] at hap;obtain⟨⟨ab,ac,ad,ae,am⟩,⟨bc,bd,be,bm⟩,⟨cd,ce,cm⟩,⟨de,dm⟩,em⟩:=hap;have gl:g<w.heap.size:=za0 h.box;have notg:∀ {u:Value} {n:Nat} {f:Nat->Nat},NRow w B u n f->∀ x,u.ownBlock=some x->x≠g:=fun hu x hx=>by
  obtain⟨cu,hc⟩:=za7 hu hx;exact za1 hc h.box yij
 have hbox:W.heap[g]?=some (.cells #[a,b,c,d,e,m] 165 (0,0)):=(hr.keep.block g gl fun q=>by
  rcases q with q|q|q
  .exact notg h.rd g q rfl
  .exact notg h.re g q rfl
  .exact notg h.rm g q rfl).trans h.box
 have h1:=heap_setCell_same W g 3 _ _ v1 hbox;have h2:=heap_setCell_same _ g 4 _ _ v2 h1;have kg:Kept (fun x=>x=g) W ((W.setCell ⟨g,3,none⟩ v1).setCell ⟨g,4,none⟩ v2):=((Kept.refl (fun x=>x=g) W).setCell (a:=⟨g,3,none⟩) (.inl rfl) v1).setCell (a:=⟨g,4,none⟩) (.inl rfl) v2;have old:∀ (v:Value) (n:Nat) (f:Nat->Nat),NRow w B v n f->Ap v d->Ap v e->Ap v m->NRow ((W.setCell ⟨g,3,none⟩ v1).setCell ⟨g,4,none⟩ v2) B v n f:=fun v n f hv z1 z2 z3=>by
  refine NRow.kept (NRow.kept hv hr.keep fun x ex q=>?_) kg fun x ex q=>notg hv x ex q
  rcases q with q|q|q
  .exact z1 x ex q
  .exact z2 x ex q
  .exact z3 x ex q
 have neg:∀ (v o:Value),(∀ x,v.ownBlock=some x->o.ownBlock=some x∨w.heap.size<=x)->(∀ x,o.ownBlock=some x->x≠g)->∀ x,v.ownBlock=some x->¬ x=g:=fun v o hq ho x ex e=>by
  rcases hq x ex with q|q
  .exact ho x q e
  .omega
 have apn:∀ (u v o:Value) (n:Nat) (f:Nat->Nat),NRow w B u n f->Ap u o->(∀ x,v.ownBlock=some x->o.ownBlock=some x∨w.heap.size<=x)->Ap u v:=fun u v o n f hu z hq x ex ev=>by
  rcases hq x ev with q|q
  .exact z x ex q
  .have:=(yf5 hu x ex).2;omega
 refine⟨⟨h.gB,h2,old a _ _ h.ra ad ae am,old b _ _ h.rb bd be bm,old c _ _ h.rc cd ce cm,hr.r1.kept kg (neg v1 d hr.q1 (notg h.rd)),hr.r2.kept kg (neg v2 e hr.q2 (notg h.re)),hr.r3.kept kg (neg m m hr.q3 (notg h.rm)),?_⟩,?_,?_⟩
 .simp only[yg3,yfi,forall_eq_or_imp,yfk,false_imp_iff,implies_true,and_true,ygb];exact⟨⟨ab,ac,apn _ _ _ _ _ h.ra ad hr.q1,apn _ _ _ _ _ h.ra ae hr.q2,am⟩,⟨bc,apn _ _ _ _ _ h.rb bd hr.q1,apn _ _ _ _ _ h.rb be hr.q2,bm⟩,⟨apn _ _ _ _ _ h.rc cd hr.q1,apn _ _ _ _ _ h.rc ce hr.q2,cm⟩,⟨hr.a12,hr.a13⟩,hr.a23⟩
 .intro v hv x ex;simp only[yfi,yfk,or_false] at hv;rcases hv with rfl|rfl
  .exact (hr.q1 x ex).elim (fun q => .inr ⟨d,by simp,q⟩) .inl
  .exact (hr.q2 x ex).elim (fun q => .inr ⟨e,by simp,q⟩) .inl
 .exact (hr.keep.mono fun x ex => .inl (.inr ex)).trans kg fun x ex => .inl (.inl ex)
end
end
section
open Go Go.RowKit Go.Maps
theorem lawOut:WideMaps.KeyLaw Tryd.prog 49:=deep_law_laid Tryd.laidOutOk (m:=3) yij (of_decide_eq_true yih) yih yih
theorem zrn:Keyed Tryd.prog 49:=Keyed.of_law lawOut
def outV (o:Nat×Nat):Value := .agg #[.int .u64 (o.1:Int),.int .u64 (o.2:Int)]
def okO (o:Nat×Nat):Prop:=o.1<18446744073709551616∧o.2<18446744073709551616
def litO (o:Nat×Nat):Lit := .string (keyBytes [.int .u64 (o.1:Int),.int .u64 (o.2:Int)])
theorem zmr (o:Nat×Nat) (h:okO o):keyOf Tryd.prog 49 (outV o)=some (litO o):=by
 have h1:(Lit.int .u64 (o.1:Int)).wf=true:=by
  have e1:IntKind.u64.min=0:=yij;have e2:IntKind.u64.max=18446744073709551615:=by decide
  show (decide (IntKind.u64.min<=(o.1:Int))&&decide ((o.1:Int)<=IntKind.u64.max))=true
  rw[e1,e2];have:=h.1;simp;omega
 have h2:(Lit.int .u64 (o.2:Int)).wf=true:=by
  have e1:IntKind.u64.min=0:=yij;have e2:IntKind.u64.max=18446744073709551615:=by decide
  show (decide (IntKind.u64.min<=(o.2:Int))&&decide ((o.2:Int)<=IntKind.u64.max))=true
  rw[e1,e2];have:=h.2;simp;omega
 have hk:Tryd.prog.keyType 49=true:=yih;have hc:Tryd.prog.cellsOf 49=2:=yih;have hf:(outV o).formed Tryd.prog 49=true:=(by simp[Value.formed,outV,Tryd.underlying49,hc]);have hcl:(outV o).cells.toList=[.int .u64 (o.1:Int),.int .u64 (o.2:Int)]:=rfl;have h64:∀ (d:Nat) (n:Nat),(Lit.int .u64 (n:Int)).wf=true->Tryd.prog.keyLits (d+1) 47 [.int .u64 (n:Int)]=some [.int .u64 (n:Int)]:=by
  intro d n hn;unfold Program.keyLits;simp[Tryd.underlying47,hn]
 have c64:Tryd.prog.cellsOf 47=1:=yih;have hkl:∀ (d:Nat),Tryd.prog.keyLits (d+2) 49 [.int .u64 (o.1:Int),.int .u64 (o.2:Int)]=some [.int .u64 (o.1:Int),.int .u64 (o.2:Int)]:=by
  intro d;unfold Program.keyLits;simp[Tryd.underlying49,hc,c64,h64 d o.1 h1,h64 d o.2 h2]
 have hsz:∃ d,Tryd.prog.types.size+1=d+2:=⟨Tryd.prog.types.size-1,by
  have:0<Tryd.prog.types.size:=of_decide_eq_true yih;omega⟩
 obtain⟨d,hd⟩:=hsz;unfold keyOf;simp only[Tryd.underlying49,hk,hf,yhx,hcl,if_true,hd,hkl d,Option.map_some,litO]
theorem zzc (o:Nat×Nat):WideAt.IsKeyLit (litO o):=trivial
theorem zzd {o p:Nat×Nat} (ho:okO o) (hp:okO p) (h:litO o=litO p):o=p:=by
 have h1:=zmr o ho;have h2:=zmr p hp;rw[h] at h1;have e:=lawOut.inj h1 h2;have e:[Value.int .u64 (o.1:Int),.int .u64 (o.2:Int)]=[.int .u64 (p.1:Int),.int .u64 (p.2:Int)]:=congrArg (fun v=>v.cells.toList) e;simp only[List.cons.injEq,Value.int.injEq,true_and,and_true] at e;exact Prod.ext (by have:=e.1;omega) (by have:=e.2;omega)
structure OutIs (D:DataW Unit) (gs:List (Nat×Nat)):Prop where
 isMap:Maps.IsMap D
 has:∀ s,okO s->(Maps.has D (litO s)=true↔s∈gs)
 idx:∀ (i:Nat) s,gs[i]?=some s->D.atKey (litO s) (.lit (.int .i64 0)) = .lit (.int .i64 i)
 ok:∀ s∈gs,okO s
 tidy:Maps.Tidy D
 size:Maps.size D=gs.length
theorem OutIs.nil:OutIs (.map []) []:=⟨⟨[],rfl⟩,fun s _=>by simp[Maps.has_eq],fun i s h=>by simp at h,fun s h=>by simp at h,Maps.tidy_empty,rfl⟩
theorem OutIs.put {D:DataW Unit} {ss:List (Nat×Nat)} (h:OutIs D ss) {s:Nat×Nat} (hs:okO s) (hn:s∉ss):OutIs (D.put (litO s) (.lit (.int .i64 (ss.length:Nat)))) (ss++[s]):=by
 have hk:WideAt.IsKeyLit (litO s):=zzc s;have hne:∀ t,okO t->t≠s->litO t≠litO s:=fun t ht e e'=>e (zzd ht hs e')
 have hno:Maps.has D (litO s)=false:=by
  cases e:Maps.has D (litO s)
  .rfl
  .exact absurd ((h.has s hs).1 e) hn
 refine⟨h.isMap.put _ _,fun t ht=>?_,fun i t e=>?_,fun t ht=>?_,h.tidy.put hk _,?_⟩
 .by_cases e:t=s
  .subst e;simp[Maps.has_put_same h.isMap hk]
  .rw[Maps.has_put_other (hne t ht e),h.has t ht];simp[e]
 .by_cases hi:i<ss.length
  .rw[yfb hi] at e;have hm:=yfh e;rw[Maps.atKey_put_other (hne t (h.ok t hm) fun e'=>hn (e' ▸ hm))];exact h.idx i t e
  .have hi':i=ss.length:=by
    have:=(yf4.1 e).1;simp at this;omega
   subst hi';simp at e;subst e;exact Maps.atKey_put_same h.isMap hk _ _
 .rcases yfm.1 ht with h' | h'
  .exact h.ok t h'
  .rw[yfn] at h';exact h' ▸ hs
 .rw[Maps.size_put h.tidy,hno,h.size];simp
structure GI (os:List (Nat×Nat)) (i:Nat) (gs:List (Nat×Nat)) (f:Nat->Nat):Prop where
 nodup:gs.Nodup
 at':∀ s,s<i->gs[f s]?=os[s]?
 hit:∀ g,g<gs.length->∃ s,s<i∧f s=g
theorem GI.nil (os:List (Nat×Nat)) (f:Nat->Nat):GI os 0 [] f:=⟨List.nodup_nil,fun s h=>absurd h (yhf _),fun g h=>absurd h (yhf _)⟩
theorem GI.old {os gs:List (Nat×Nat)} {i g:Nat} {f:Nat->Nat} {o:Nat×Nat} (h:GI os i gs f) (ho:os[i]?=some o) (hg:gs[g]?=some o):GI os (i+1) gs (upd f i g):=by
 refine⟨h.nodup,fun s hs=>?_,fun k hk=>?_⟩
 .by_cases e:s=i
  .subst e;rw[zac,ho,hg]
  .rw[zao _ _ e];exact h.at' s yie
 .obtain⟨s,hs,e⟩:=h.hit k hk;exact⟨s,by omega,by rw[zao _ _ yie,e]⟩
theorem GI.new {os gs:List (Nat×Nat)} {i:Nat} {f:Nat->Nat} {o:Nat×Nat} (h:GI os i gs f) (ho:os[i]?=some o) (hn:o∉gs):GI os (i+1) (gs++[o]) (upd f i gs.length):=by
 refine⟨?_,fun s hs=>?_,fun k hk=>?_⟩
 .rw[ygn];exact⟨h.nodup,by simp,fun a ha b hb=>by rw[yfn] at hb;subst hb;exact fun e=>hn (e▸ha)⟩
 .by_cases e:s=i
  .subst e;rw[zac,ho];simp
  .rw[zao _ _ e];have h1:=h.at' s yie;have hlt:i<os.length:=(yf4.1 ho).1;rw[←h1,yfb];have h2:os[s]?=some os[s]:=yey yie;rw[h2] at h1;exact (yf4.1 h1).1
 .by_cases e:k<gs.length
  .obtain⟨s,hs,e⟩:=h.hit k e;exact⟨s,by omega,by rw[zao _ _ yie,e]⟩
  .exact⟨i,by omega,by rw[zac];simp at hk;omega⟩
theorem GI.end {os gs:List (Nat×Nat)} {N:Nat} {f:Nat->Nat} (h:GI os N gs f) (hN:os.length=N):(∀ s,s<N->f s<gs.length)∧(∀ s t,s<N->t<N->(f s=f t↔os[s]?=os[t]?))∧(∀ g,g<gs.length->∃ s,s<N∧f s=g):=by
 have lt:∀ s,s<N->f s<gs.length:=fun s hs=>by
  have h1:=h.at' s hs;have h2:os[s]?=some os[s]:=yey yie;rw[h2] at h1;exact (yf4.1 h1).1
 refine⟨lt,fun s t hs ht=>⟨fun e=>?_,fun e=>?_⟩,h.hit⟩
 .rw[←h.at' s hs,←h.at' t ht,e]
 .rw[←h.at' s hs,←h.at' t ht,yey (lt s hs),yey (lt t ht)] at e;injection e with e
  exact (List.getElem_inj h.nodup).1 e
end
theorem NRow.congr {w:World} {B n:Nat} {v:Value} {f g:Nat->Nat} (h:NRow w B v n f) (e:∀ i,i<n->f i=g i):NRow w B v n g:=by
 have:lstI n f=lstI n g:=by
  unfold lstI;apply yhb;intro i hi;rw[e i (yfz.1 hi)]
 unfold NRow at h ⊢
 rwa [this] at h
def prE (δ:Nat->Nat->Nat) (C s c:Nat):List (Nat×Nat):=zdu δ C s++(List.range c).map fun c=>(δ s c*C+c,s)
theorem ydi (δ:Nat->Nat->Nat) (C s:Nat):prE δ C s 0=zdu δ C s:=by simp[prE]
theorem zv1 (δ:Nat->Nat->Nat) (C s:Nat):prE δ C s C=zdu δ C (s+1):=rfl
theorem zm9 (δ:Nat->Nat->Nat) (C s c:Nat):prE δ C s (c+1)=prE δ C s c++[(δ s c*C+c,s)]:=by
 unfold prE;rw[ygh,yfu,yfl];rfl
theorem zpr (δ:Nat->Nat->Nat) (C s c:Nat) (hc:c<=C):∀ N,s<N->∃ r,zdu δ C N=prE δ C s c++r
 | 0,h=>by omega
 | N+1,h=>by
  by_cases e:s=N
  .subst e;refine⟨((List.range C).drop c).map fun c=>(δ s c*C+c,s),?_⟩;unfold prE;rw[zdu,rowE,yfl,←yfu]
   congr 2
   have h1:List.range c=(List.range C).take c:=(by rw[List.take_range,Nat.min_eq_left hc]);rw[h1,yhj]
  .obtain⟨r,hr⟩:=zpr δ C s c hc N yie;exact⟨r++rowE δ C N,by rw[zdu,hr,yfl]⟩
theorem zx7 (D:List (Nat×Nat)) (k v:Nat):upd (cntE D) k (cntE D k+1)=cntE (D++[(k,v)]):=by
 funext x
 rw[zev];have h1:cntE [(k,v)] x=if k=x then 1 else 0:=by
  unfold cntE;rw[zdh];split <;> rfl
 rw[h1];unfold upd
 by_cases h:x=k
 .subst h;simp
 .rw[if_neg h,if_neg (fun e=>h e.symm)];rfl
def sumE (E:List (Nat×Nat)) (i:Nat):Nat->Nat:=fun x=>if x<=i then endE E x else cntE E x
theorem ydd (E:List (Nat×Nat)):sumE E 0=cntE E:=by
 funext x
 unfold sumE;split
 .rename_i h;have:x=0:=by omega
  subst this;rfl
 .rfl
theorem zul (E:List (Nat×Nat)) (i:Nat):upd (sumE E i) (i+1) (sumE E i (i+1)+sumE E i i)=sumE E (i+1):=by
 funext x
 have h1:sumE E i (i+1)=cntE E (i+1):=(by unfold sumE;rw[if_neg yie]);have h2:sumE E i i=endE E i:=(by unfold sumE;rw[if_pos (yez _)]);rw[h1,h2];unfold upd
 by_cases h:x=i+1
 .subst h;rw[if_pos rfl];unfold sumE;rw[if_pos (yez _),endE,Nat.add_comm]
 .rw[if_neg h];unfold sumE
  by_cases h3:x<=i
  .rw[if_pos h3,if_pos yie]
  .rw[if_neg h3,if_neg yie]
theorem zum (E:List (Nat×Nat)) (i x:Nat):sumE E i x<=E.length:=by
 unfold sumE;split
 .exact zn1 E x
 .have:=zn1 E x;have h:=ze2 E x;omega
theorem yco (E:List (Nat×Nat)) (x:Nat):cntE E x<=E.length:=by
 unfold cntE zbx;rw[yfr];exact yhg _ _
def LayP (E D:List (Nat×Nat)) (b f:Nat->Nat):Prop:=∃ rest,E=D++rest∧(∀ i,b i=endE E i-cntE D i)∧layE rest (b,f)=layE E (endE E,fun _=>0)
theorem ztk (E:List (Nat×Nat)):LayP E [] (endE E) (fun _=>0):=⟨E,rfl,fun i=>by simp[cntE,zbx],rfl⟩
theorem zw9 {E D:List (Nat×Nat)} {k v:Nat} {b f:Nat->Nat} (h:LayP E D b f) (hr:∃ r,E=D++[(k,v)]++r):1<=b k∧b k<=E.length∧LayP E (D++[(k,v)]) (upd b k (b k-1)) (upd f (b k-1) v):=by
 obtain⟨rest,e1,e2,e3⟩:=h;obtain⟨r,hr⟩:=hr;have hrest:rest=(k,v)::r:=by
  rw[e1,yfl] at hr;exact List.append_cancel_left hr
 have h1:cntE [(k,v)] k=1:=by
  unfold cntE;rw[zdh,if_pos rfl];rfl
 have h2:cntE D k+1<=cntE E k:=by
  rw[hr,zev,zev,h1];omega
 have h3:=ze2 E k;have h4:=zn1 E k;have h5:=e2 k;refine⟨by omega,by omega,r,hr,fun i=>?_,?_⟩
 .rw[zev];unfold upd
  by_cases c:i=k
  .subst c;rw[if_pos rfl,h1];omega
  .rw[if_neg c,e2 i];have h6:cntE [(k,v)] i=0:=by
    unfold cntE;rw[zdh,if_neg (fun e=>c e.symm)];rfl
   rw[h6];rfl
 .rw[hrest] at e3;exact e3
theorem zzi {E:List (Nat×Nat)} {b f:Nat->Nat} (h:LayP E E b f):(∀ i,b i=begE E i)∧∀ i,(List.range (cntE E i)).map (fun j=>f (begE E i+j))=(zbx E i).reverse:=by
 obtain⟨rest,e1,e2,e3⟩:=h;have hr:rest=[]:=by
  have:=congrArg List.length e1;rw[yfd] at this;exact yhr yie
 subst hr;rw[layE] at e3;refine⟨fun i=>?_,fun i=>?_⟩
 .have:=(zrk (E:=E) (f:=fun _=>0) i).1;rw[←e3] at this;exact this
 .have:=(zrk (E:=E) (f:=fun _=>0) i).2;rw[←e3] at this;exact this
def dl (rows:List (List Nat)) (s c:Nat):Nat:=(rows.getD s []).getD c 0
theorem zl9 (w:World) (o1 o2 o3:Obj):Below w.heap.size w (((w.alloc o1).alloc o2).alloc o3).drew∧(((w.alloc o1).alloc o2).alloc o3).drew.heap[w.heap.size]?=some o1∧(((w.alloc o1).alloc o2).alloc o3).drew.heap[w.heap.size+1]?=some o2∧(((w.alloc o1).alloc o2).alloc o3).drew.heap[w.heap.size+1+1]?=some o3:=by
 have h3:=heap_alloc_new ((w.alloc o1).alloc o2) o3;have h2:=heap_alloc_new (w.alloc o1) o2;have h1:=heap_alloc_new w o1;rw[yfe,yfe] at h3;rw[yfe] at h2;refine⟨(((yf6 _ _).alloc (yez _) _).alloc yis _).alloc yis _ |>.drew,?_,?_,h3⟩
 .show (((w.alloc o1).alloc o2).alloc o3).heap[w.heap.size]?=some o1
  rw[yfo _ _ _ yis,yfo _ _ _ yis];exact h1
 .show (((w.alloc o1).alloc o2).alloc o3).heap[w.heap.size+1]?=some o2
  rw[yfo _ _ _ yis];exact h2
theorem zfn {w1 W:World} {B b4 ib jf M:Nat} {vo:Array Value} {M1 M2:Array Value} (hb:Below w1.heap.size w1 W) (hB:B<=w1.heap.size) (hM1:M1.toList=lstI (M+1) (fun _=>0)) (hM2:M2.toList=lstI M (fun _=>0)) (hM:M<=1000000)
 (h1:W.heap[ib]?=some (.cells M1 3 (0,0))) (h2:W.heap[jf]?=some (.cells M2 3 (0,0))) (h4:W.heap[b4]?=some (.cells vo 160 (0,0))) (l1:w1.heap.size<=ib) (l2:w1.heap.size<=jf) (l4:w1.heap.size<=b4) (ne:ib≠jf):
 Below w1.heap.size w1 W∧w1.heap.size<=b4∧w1.heap.size<=ib∧w1.heap.size<=jf∧ib≠jf∧W.heap[b4]?=some (.cells vo 160 (0,0))∧NRow W B (.slice (some ⟨ib,0,none⟩) (M+1) (M+1)) (M+1) (fun _=>0)∧NRow W B (.slice (some ⟨jf,0,none⟩) M M) M (fun _=>0):=
 ⟨hb,l4,l1,l2,ne,h4,zcf hM1 h1 yie yie,zcf hM2 h2 yie yie⟩
theorem Tryd.sizeWays:(Tryd.prog.info? 160).map (·.size)=some 3:=by kernel_rfl
theorem zkg {w:World} {ops:Array Oper} {rest:List Oper} {o:Oper} {a:Act} {Q:Exit->Act->World->Prop} {g:Nat} {cs:Array Value} {u0 u1 u2:Value} (hgd:o.guard=none) (x y:Operand) (ho:o.op = .store 160 x y) (hx:a.eval x = .pointer (some ⟨g,0,none⟩)) (hy:a.eval y = .agg #[u0,u1,u2]) (h:w.heap[g]?=some (.cells cs 160 (0,0))) (hs:cs.size=3) (h0:u0.oneCell'=true) (h1:u1.oneCell'=true) (h2:u2.oneCell'=true)
 (hk:(w.setRow g #[u0,u1,u2]).heap[g]?=some (.cells #[u0,u1,u2] 160 (0,0))->wpList Tryd.prog ops Q rest (a.put o.dst undef) (w.setRow g #[u0,u1,u2])):wpList Tryd.prog ops Q (o::rest) a w:=by
 refine wpList_plain hgd fun _ hK=>?_
 have hst:(storeVar 160 ⟨g,0,none⟩ (.agg #[u0,u1,u2])).run Tryd.prog w = .ok () (w.setRow g #[u0,u1,u2]):=run_storeVar_row w g _ _ _ _ h (by rw[Tryd.sizeWays];rfl) (by rw[hs];rfl) (by simp[h0,h1,h2]);unfold Oper.wp execOp;simp only[ho,hx,hy,Instr.storeAt,Instr.sureAddr,Sem.run_bind,Sem.run_pure,Result.andThen_ok,hst];exact hK _ _ (hk (setRow_heap w g _ _ _ (0,0) h))
theorem znz {w:World} {fn:Func} {tmps:Array Value} {x g:Nat} {u0 u1 u2:Value} (hr:fn.results=#[.cell x 160]) (hx:tmps.getD x undef = .pointer (some ⟨g,0,none⟩)) (h:w.heap[g]?=some (.cells #[u0,u1,u2] 160 (0,0))):(results fn tmps).run Tryd.prog w = .ok (.agg #[u0,u1,u2]) w:=by
 have hrg:w.rangeAt g 0 (#[u0,u1,u2]:Array Value).toList:=fun j v hv=>by
  rw[yg5,cell_of_row w g j _ _ (0,0) h]
  simpa using hv
 have hld:=run_loadVar_mid (P:=Tryd.prog) w g 0 160 (#[u0,u1,u2]:Array Value).toList _ hrg Tryd.underlying160 rfl (by rw[Tryd.sizeWays];rfl);have e:(#[ResultVar.cell x 160]:Array ResultVar)=[ResultVar.cell x 160].toArray:=rfl;rw[ygj] at hx;unfold results;rw[hr,e];simp[Sem.run_bind,hx,hld,asAddr]
theorem Nxt.lts {w:World} {B:Nat} {O:Nat->Prop} {vN:Value} {rows:List (List Nat)} (h:Nxt w B O vN rows):Nxt w B (fun b=>b<w.heap.size) vN rows:=by
 obtain⟨vs,h1,h2,h3,h4⟩:=h.mem;refine⟨⟨vs,h1,h2,h3,fun u hu b e=>?_⟩,fun b e=>(h.in b e).2⟩;obtain⟨i,hi⟩:=ygr hu;have hl:i<rows.length:=(by have:=(yf4.1 hi).1;omega);exact ((h3 i u _ hi (yey hl)).in e).2
theorem yai {w:World} {B s c N:Nat} {O:Nat->Prop} {A:Option Addr} {rows:List (List Nat)} {r:List Nat} (h:Nxt w B O (.slice A N c) rows) (hl:rows.length=N) (hs:rows[s]?=some r):
 ∃ an Au cu,A=some ⟨an,0,none⟩∧O an∧w.cell? ⟨an,s,none⟩=some (.slice Au r.length cu)∧Ints w B (.slice Au r.length cu) (ns r)∧∀ x,(Value.slice Au r.length cu).ownBlock=some x->O x:=by
 obtain⟨vs,h1,h2,h3,h4⟩:=h.mem;have hlt:s<rows.length:=(yf4.1 hs).1;obtain⟨u,hu⟩:∃ u,vs[s]?=some u:=⟨_,yey yie⟩;have hI:=h3 s u r hu hs;obtain⟨Au,cu,hf⟩:=hI.form;rw[zaj] at hf;subst hf;rcases h2.2 with ⟨_,h0⟩|⟨g,cap,cur,e,_,hg,_⟩
 .omega
 .injection e with e1 e2 e3
  subst e1;refine⟨g,Au,cu,rfl,h.inO g rfl,?_,hI,h4 _ (yfh hu)⟩;have h5:=yf7 (w:=w) (g:=g) (n:=rows.length) (cap:=c) (xs:=vs) (by rw[←hl] at h2;exact h2) s yie;exact h5.trans hu
def ycy (w:World) (B C N:Nat) (rows:List (List Nat)) (e:Ending) (w':World):Prop:=
 ∃ vb vf f,e = .returned (zif C vb vf)∧WM w' B vb vf (zdu (dl rows) C N) (N*C) f∧Below w.heap.size w w'∧∀ v∈[vb,vf],∀ x,v.ownBlock=some x->w.heap.size<=x
theorem zvm {w:World} {B N C:Nat} {F:Nat->Nat} {vN vO:Value} {O:Nat->Prop} {rows:List (List Nat)} (hn:Nxt w B O vN rows) (hl:rows.length=N) (hr:∀ (i:Nat) r,rows[i]?=some r->r.length=C∧∀ x∈r,x<N) (hB:B<=w.heap.size) (hNC:N*C<=1000000) (hN9:N<=90000) (hC9:C<=90000) (hO:∃ A n c,vO = .slice A n c):
 Calls Tryd.prog 66 #[.agg (zaf F (C:Int) vN vO)] w (ycy w B C N rows):=by
 obtain⟨An,cn,hv⟩:=hn.form;rw[hl] at hv;subst hv;obtain⟨Ao,no,co,hvo⟩:=hO;subst hvo;obtain⟨M1,hM1,hmk1⟩:=zdn (N*C+1) yie;obtain⟨M2,hM2,hmk2⟩:=zdn (N*C) yie;have hbx0:=BoxM.new w 38 F (C:Int) (.slice An N cn) (.slice Ao no co);have hbx:=hbx0.stays ((yf6 _ _).alloc (yez _) (.cells #[.int .i64 0,.slice none 0 0,.slice none 0 0] 160));have hrs:=heap_alloc_new (w.alloc (.cells (zaf F (C:Int) (.slice An N cn) (.slice Ao no co)) 38)) (.cells #[.int .i64 0,.slice none 0 0,.slice none 0 0] 160);rw[yfe] at hrs;have hb1:Below w.heap.size w ((w.alloc (.cells (zaf F (C:Int) (.slice An N cn) (.slice Ao no co)) 38)).alloc (.cells #[.int .i64 0,.slice none 0 0,.slice none 0 0] 160)):=((yf6 _ _).alloc (yez _) _).alloc yii _;have hm:(N:Int)*(C:Int)=((N*C:Nat):Int):=(yib N C).symm;obtain⟨M,hM⟩:∃ M,N*C=M:=⟨_,rfl⟩;rw[hM] at hm hmk1 hmk2 hM1 hM2 hNC;have hmk1':=fun (W:World)=>hmk1 W
 rw[show ((M+1:Nat):Int)=(M:Int)+1 by omega] at hmk1';have hw1:IntKind.i64.wrap ((N:Int)*(C:Int))=(M:Int):=(by rw[hm];exact IntWalk.i64_in _ yie);have hw2:IntKind.i64.wrap ((M:Int)+1)=(M:Int)+1:=IntWalk.i64_in _ yie;have HN:=Zh hn;have HL:=Zh hl;have HR:=Zh hr;have HB:=Zh hB;have HM1:=Zh hM1;have HM2:=Zh hM2;have HMM:=Zh hM;have HNC:=Zh hNC;have HN9:=Zh hN9;have HC9:=Zh hC9;have c1:=hbx.num;have c2:=hbx.nxt;have HBX:=Zh hbx;have HRS:=Zh hrs;have HB1:=Zh hb1;clear hn hl hr hB hM1 hM2 hM hNC hN9 hC9 hbx hm hbx0 hrs hb1;go_enter Tryd.func66,Tryd.ntmps66;go_upto_region 2 with fail
 generalize (w.alloc (.cells (zaf F (C:Int) (.slice An N cn) (.slice Ao no co)) 38)).alloc (.cells #[.int .i64 0,.slice none 0 0,.slice none 0 0] 160)=w1 at *;clear hmk1;go_cut [4] from 21 to 28 (fun s4 wx=>∃ (b4 ib jf:Nat),s4 = .pointer (some ⟨b4,0,none⟩)∧Below w1.heap.size w1 wx∧w1.heap.size<=b4∧w1.heap.size<=ib∧w1.heap.size<=jf∧ib≠jf∧
  wx.heap[b4]?=some (.cells #[.int .i64 (C:Int),.slice (some ⟨ib,0,none⟩) (M+1) (M+1),.slice (some ⟨jf,0,none⟩) M M] 160 (0,0))∧NRow wx B (.slice (some ⟨ib,0,none⟩) (M+1) (M+1)) (M+1) (fun _=>0)∧NRow wx B (.slice (some ⟨jf,0,none⟩) M M) M (fun _=>0))
 case first =>
  go_region_held3 (fun W=>W.cell? ⟨w.heap.size,256,none⟩=some (.int .i64 (C:Int))) (repeat (first | with_reducible assumption | with_reducible refine zb4 ?_ | with_reducible refine zcr ?_ _)) (first | fail)
  all_goals
   go_wp2;go_meet
   first
    | (obtain⟨hb,h1,h2,h3⟩:=zl9 w1 (.cells M1 3) (.cells M2 3) (.cells #[.int .i64 (C:Int),.slice (some ⟨w1.heap.size,0,none⟩) (M+1) (M+1),.slice (some ⟨w1.heap.size+1,0,none⟩) M M] 160)
       exact⟨_,_,_,rfl,zfn hb (yfa HB.o HB1.o.size) HM1.o HM2.o HNC.o h1 h2 h3 yie yie yie yie⟩)
    | (obtain⟨hb,h1,h2,h3⟩:=zl9 w1 (.cells M1 3) (.cells #[.int .i64 (C:Int),.slice (some ⟨w1.heap.size,0,none⟩) (M+1) (M+1),.slice (some ⟨w1.heap.size+1+1,0,none⟩) M M] 160) (.cells M2 3)
       exact⟨_,_,_,rfl,zfn hb (yfa HB.o HB1.o.size) HM1.o HM2.o HNC.o h1 h3 h2 yie yie yie yie⟩)
    | (obtain⟨hb,h1,h2,h3⟩:=zl9 w1 (.cells M2 3) (.cells M1 3) (.cells #[.int .i64 (C:Int),.slice (some ⟨w1.heap.size+1,0,none⟩) (M+1) (M+1),.slice (some ⟨w1.heap.size,0,none⟩) M M] 160)
       exact⟨_,_,_,rfl,zfn hb (yfa HB.o HB1.o.size) HM1.o HM2.o HNC.o h2 h1 h3 yie yie yie yie⟩)
    | (obtain⟨hb,h1,h2,h3⟩:=zl9 w1 (.cells M2 3) (.cells #[.int .i64 (C:Int),.slice (some ⟨w1.heap.size+1+1,0,none⟩) (M+1) (M+1),.slice (some ⟨w1.heap.size,0,none⟩) M M] 160) (.cells M1 3)
       exact⟨_,_,_,rfl,zfn hb (yfa HB.o HB1.o.size) HM1.o HM2.o HNC.o h3 h1 h2 yie yie yie yie⟩)
    | (obtain⟨hb,h1,h2,h3⟩:=zl9 w1 (.cells #[.int .i64 (C:Int),.slice (some ⟨w1.heap.size+1,0,none⟩) (M+1) (M+1),.slice (some ⟨w1.heap.size+1+1,0,none⟩) M M] 160) (.cells M1 3) (.cells M2 3)
       exact⟨_,_,_,rfl,zfn hb (yfa HB.o HB1.o.size) HM1.o HM2.o HNC.o h2 h3 h1 yie yie yie yie⟩)
    | (obtain⟨hb,h1,h2,h3⟩:=zl9 w1 (.cells #[.int .i64 (C:Int),.slice (some ⟨w1.heap.size+1+1,0,none⟩) (M+1) (M+1),.slice (some ⟨w1.heap.size+1,0,none⟩) M M] 160) (.cells M2 3) (.cells M1 3)
       exact⟨_,_,_,rfl,zfn hb (yfa HB.o HB1.o.size) HM1.o HM2.o HNC.o h3 h2 h1 yie yie yie yie⟩)
 case rest =>
  obtain⟨b4,ib,jf,rfl,hbw,l4,l1,l2,hne,hbx4,hri,hrj⟩:=hcut;have hbwc:Below w.heap.size w wc:=HB1.o.trans (hbw.mono HB1.o.size);have hnx:=(HN.o.lts.kept (Kept.of_below (fun _=>False) hbwc) (fun _ _ q=>q));have hs1:=HB1.o.size;have hw1s:w.heap.size+1<w1.heap.size:=za0 HRS.o;have hbxc:=HBX.o.stays hbw;have c2':=hbxc.nxt;have b40:wc.cell? ⟨b4,0,none⟩=some (.int .i64 (C:Int)):=cell_of_row wc b4 0 _ _ (0,0) hbx4;have n4i:b4≠ib:=fun e=>by
   obtain⟨cu,hc⟩:=za7 hri (b:=ib) rfl;exact za1 hc hbx4 yij e.symm
  have n4j:b4≠jf:=fun e=>by
   obtain⟨cu,hc⟩:=za7 hrj (b:=jf) rfl;exact za1 hc hbx4 yij e.symm
  have HBWC:=Zh hbwc;have HBW:=Zh hbw;have HNX:=Zh hnx;have HBX4:=Zh hbx4;have HRI:=Zh hri;have HRJ:=Zh hrj;have HLS:=Zh (And.intro l4 (And.intro l1 (And.intro l2 (And.intro hne (And.intro n4i n4j)))));have HW1:=Zh hw1s;have HBXC:=Zh hbxc;have HRSC:=Zh ((hbw.block (w.heap.size+1) hw1s).trans HRS.o);clear hbwc hnx hbxc hbw hbx4 hri hrj l4 l1 l2 hne n4i n4j hw1s hs1 hmk2 hmk1' hw1 hw2 c1 c2;go_upto_region 4 with fail
  clear b40;generalize hwz:wc=wz at *;clear hwz;go_loopg [32] N (fun mm s wr=>∃ i:Nat,s = .int .i64 (i:Int)∧i<=N∧mm=N-i∧NRow wr B (.slice (some ⟨ib,0,none⟩) (M+1) (M+1)) (M+1) (cntE (zdu (dl rows) C i))∧Kept (fun x=>x=ib) wz wr)
  case atStart=>exact⟨0,by first | rfl | trivial,yf8 _,by first | rfl | trivial,HRI.o,Kept.refl _ _⟩
  case round =>
   obtain⟨i,rfl,hi,hmm,hr,hk⟩:=hrel;have HMM1:=Zh hmm;have HR1:=Zh hr;have HK1:=Zh hk;clear hmm
   by_cases hiN:i<N
   .obtain⟨r,hri⟩:∃ r,rows[i]?=some r:=⟨_,yey (by rw[HL.o];exact hiN)⟩;obtain⟨an,Au,cu,hAn,hanl,zan,hIn,hIo⟩:=yai HNX.o HL.o hri;obtain⟨hrl,hrx⟩:=HR.o i r hri;rw[hrl] at zan hIn hIo;subst hAn;have hibl:w.heap.size<ib:=(by have:=HLS.o.2.1;have:=HW1.o;omega);have hann:¬ an=ib:=(by have h0:an<w.heap.size:=hanl;omega);have HIO:=Zh (fun x (ex:(Value.slice Au C cu).ownBlock=some x)=>show ¬ x=ib by have h0:x<w.heap.size:=hIo x ex;omega);have zr:=hk.cell zan hann;have HZA:=Zh zan;have HIN:=Zh hIn;have HRL:=Zh hrl;have HRX:=Zh hrx;have HRW:=Zh hri;have j0:(0:Int)<=(i:Int):=yie;have j1:(i:Int)<(N:Int):=yie;have j9:(i:Int)<90000:=yja;have HST:=Zh (show NRow wr B (.slice (some ⟨ib,0,none⟩) (M+1) (M+1)) (M+1) (cntE (prE (dl rows) C i 0)) by rw[ydi];exact hr);clear hri hanl zan hIn hrl hrx hr hk hIo hibl hann;go_upto_region 7 with fail
    clear zr;generalize wr=wv at *;go_loopg [38] C (fun m2 s wr=>∃ c:Nat,s = .int .i64 (c:Int)∧c<=C∧m2=C-c∧NRow wr B (.slice (some ⟨ib,0,none⟩) (M+1) (M+1)) (M+1) (cntE (prE (dl rows) C i c))∧Kept (fun x=>x=ib) wz wr)
    case atStart=>exact⟨0,by first | rfl | trivial,yf8 _,by first | rfl | trivial,HST.o,HK1.o⟩
    case round =>
     obtain⟨c,rfl,hc,hm2,hr,hk⟩:=hrel;have HMM2:=Zh hm2;have HR2:=Zh hr;have HK2:=Zh hk;clear hm2
     by_cases hcC:c<C
     .obtain⟨t,ht⟩:∃ t,r[c]?=some t:=⟨_,yey (by rw[HRL.o];exact hcC)⟩;have htN:=HRX.o t (yfh ht);have hdl:dl rows i c=t:=by
       unfold dl;have h1:rows.getD i []=r:=(by rw[yf0,HRW.o];rfl);rw[h1,yf0,ht];rfl
      have hIr:=HIN.o.off hk HIO.o;have hcl:c<(ns r).length:=(by rw[zaj,HRL.o];exact hcC);obtain⟨bu,cu',eu,_,_,zu⟩:=hIr.at c hcl;have hzt:(ns r)[c]'hcl=(t:Int):=by
       have h1:(ns r)[c]?=some (t:Int):=(by unfold ns;rw[yfs,ht];rfl);rw[yey hcl] at h1;injection h1
      rw[hzt] at zu;have hAu:Au=some ⟨bu,0,none⟩:=(by injection eu);subst hAu;have hkey:t*C+c<M:=by
       have h1:=yg4 C (show t+1<=N from htN);rw[yha] at h1;have:=HMM.o;omega
      obtain⟨k,hkk⟩:∃ k,t*C+c=k:=⟨_,rfl⟩;have hix:=fun W=>zq0 W C t c (.slice (some ⟨ib,0,none⟩) (M+1) (M+1)) (.slice (some ⟨jf,0,none⟩) M M) _ _ _ _ _ _ rfl rfl (by have:=HNC.o;omega)
      rw[hkk] at hkey hix;unfold zif at hix;have HIX:=Zh hix;have zk:=(yf7 hr k yie).trans (zat (show k<M+1 by omega));have fk:=hr.frozen k;obtain⟨D,hD⟩:∃ D,cntE (prE (dl rows) C i c) k=D:=⟨_,rfl⟩;change wr.cell? ⟨ib,k,none⟩=some (.int .i64 ((cntE (prE (dl rows) C i c) k:Nat):Int)) at zk;rw[hD] at zk;have hbx:=(hk.block b4 (za0 HBX4.o) HLS.o.2.2.2.2.1).trans HBX4.o;have y0:wr.cell? ⟨b4,0,none⟩=some (.int .i64 (C:Int)):=cell_of_row wr b4 0 _ _ (0,0) hbx;have y1:wr.cell? ⟨b4,1,none⟩=some (.slice (some ⟨ib,0,none⟩) (M+1) (M+1)):=cell_of_row wr b4 1 _ _ (0,0) hbx;have y2:wr.cell? ⟨b4,2,none⟩=some (.slice (some ⟨jf,0,none⟩) M M):=cell_of_row wr b4 2 _ _ (0,0) hbx;have hD9:(D:Int)<=1000000:=by
       have h1:=yco (prE (dl rows) C i c) k;have h2:(prE (dl rows) C i c).length<=M:=by
        obtain⟨q,hq⟩:=zpr (dl rows) C i c yie N hiN;have h3:=congrArg List.length hq;rw[zjx,yfd,HMM.o] at h3;omega
       have:=HNC.o;omega
      have hset:∀ W,Below wr.heap.size wr W->NRow (W.setCell ⟨ib,k,none⟩ (.int .i64 ((D:Int)+1))) B (.slice (some ⟨ib,0,none⟩) (M+1) (M+1)) (M+1) (cntE (prE (dl rows) C i (c+1)))∧Kept (fun x=>x=ib) wz (W.setCell ⟨ib,k,none⟩ (.int .i64 ((D:Int)+1))):=fun W hW=>by
       have h1:=NRow.set (za6 hr hW) k (D+1);have h2:=(hk.trans (Kept.of_below (fun _=>False) hW) (fun x q=>q.elim)).setCell (a:=⟨ib,k,none⟩) (.inl rfl) (.int .i64 ((D+1:Nat):Int));rw[show ((D+1:Nat):Int)=(D:Int)+1 by omega] at h1 h2;refine⟨?_,h2⟩;rw[zm9,hdl,hkk,←zx7,hD];exact h1
      have hwD:IntKind.i64.wrap ((D:Int)+1)=(D:Int)+1:=IntWalk.i64_in _ yie;have HSET:=Zh hset;have i2:(0:Int)<=(c:Int):=yie;have i3:(c:Int)<(C:Int):=yie;have i9:(c:Int)<90000:=yjk;have i4:(0:Int)<=(k:Int):=yie;have i5:(k:Int)<(M:Int)+1:=yie;clear ht htN hdl hIr hcl hzt eu hkey hkk hix hr hk hD hbx hset;go_upto_region 9 with fail
      go_region_law (first
       | (go_simp;go_at_call 79;(with_reducible refine (HIX.o _).mono ?_);rintro e' w5 ⟨rfl,b5⟩;have b5':Below wr.heap.size wr w5:=⟨b5.os,b5.tape,b5.output,b5.size,b5.block⟩;have x0:=za4 y0 b5';have x1:=za4 y1 b5';have x2:=za4 y2 b5';have xk:=za4 zk b5';have xf:=(HSET.o w5 b5');have gk:w5.frozen? ⟨ib,k,none⟩=false:=yfw (za6 HR2.o b5') k;have HSE:=Zh xf;clear xf b5 b5')
       | fail)
      all_goals
       clear y0 y1 y2 zk fk x0 x1 x2 xk gk;go_wp2;go_roundg (C-(c+1))
       case measure=>have:=HMM2.o;omega
       case rel=>exact⟨c+1,by go_num,by omega,rfl,HSE.o.1,HSE.o.2⟩
     .have hkl:C=c:=yie;rw[←hkl,zv1] at hr;have HR3:=Zh hr;have HK3:=Zh hk;clear hr hk;subst hkl;go_wp2;go_roundg (N-(i+1))
      case measure=>have:=HMM1.o;omega
      case rel=>exact⟨i+1,by go_num,by omega,rfl,HR3.o,HK3.o⟩
   .have hkl:N=i:=yie;rw[←hkl] at hr;obtain⟨E,hE⟩:∃ E,zdu (dl rows) C N=E:=⟨_,rfl⟩;have hEL:E.length=M:=(by rw[←hE,zjx];exact HMM.o);rw[hE,←ydd] at hr;have HR3:=Zh hr;have HK3:=Zh hk;have HEE:=Zh hE;have HEL:=Zh hEL;clear hr hk hE hEL;subst hkl;go_upto_region 13 with fail
    generalize wr=wy at *;go_loopg [56] M (fun mm s wr=>∃ i:Nat,s = .int .i64 (i:Int)∧i<=M∧mm=M-i∧NRow wr B (.slice (some ⟨ib,0,none⟩) (M+1) (M+1)) (M+1) (sumE E i)∧Kept (fun x=>x=ib) wz wr)
    case atStart=>exact⟨0,by first | rfl | trivial,yf8 _,by first | rfl | trivial,HR3.o,HK3.o⟩
    case round =>
     obtain⟨i,rfl,hi,hmm,hr,hk⟩:=hrel;have HM5:=Zh hmm;have HR5:=Zh hr;have HK5:=Zh hk;clear hmm
     by_cases hiM:i<M
     .have za:=(yf7 hr i yie).trans (zat (show i<M+1 by omega));have zb:=(yf7 hr (i+1) yie).trans (zat (show i+1<M+1 by omega));have fk:=hr.frozen (i+1);obtain⟨Da,hDa⟩:∃ D,sumE E i i=D:=⟨_,rfl⟩;obtain⟨Db,hDb⟩:∃ D,sumE E i (i+1)=D:=⟨_,rfl⟩;have l1:=zum E i i;have l2:=zum E i (i+1);rw[hDa,HEL.o] at l1;rw[hDb,HEL.o] at l2;change wr.cell? ⟨ib,i,none⟩=some (.int .i64 ((sumE E i i:Nat):Int)) at za;change wr.cell? ⟨ib,i+1,none⟩=some (.int .i64 ((sumE E i (i+1):Nat):Int)) at zb;rw[hDa] at za;rw[hDb] at zb;have hNC:=HNC.o;have hwD:IntKind.i64.wrap ((Db:Int)+(Da:Int))=(Db:Int)+(Da:Int):=IntWalk.i64_in _ yie;have hwi:IntKind.i64.wrap ((i:Int)+1)=(i:Int)+1:=IntWalk.i64_in _ yie;have hbx:=(hk.block b4 (za0 HBX4.o) HLS.o.2.2.2.2.1).trans HBX4.o;have y1:wr.cell? ⟨b4,1,none⟩=some (.slice (some ⟨ib,0,none⟩) (M+1) (M+1)):=cell_of_row wr b4 1 _ _ (0,0) hbx;have hset:NRow ((wr.setCell ⟨ib,i+1,none⟩ (.int .i64 ((Db:Int)+(Da:Int)))).drew) B (.slice (some ⟨ib,0,none⟩) (M+1) (M+1)) (M+1) (sumE E (i+1))∧Kept (fun x=>x=ib) wz ((wr.setCell ⟨ib,i+1,none⟩ (.int .i64 ((Db:Int)+(Da:Int)))).drew):=by
       have h1:NRow ((wr.setCell ⟨ib,i+1,none⟩ (.int .i64 ((Db+Da:Nat):Int))).drew) B (.slice (some ⟨ib,0,none⟩) (M+1) (M+1)) (M+1) _:=za6 (NRow.set hr (i+1) (Db+Da)) (yf6 _ _).drew;have h2:=(hk.setCell (a:=⟨ib,i+1,none⟩) (.inl rfl) (.int .i64 ((Db+Da:Nat):Int))).drew;rw[show ((Db+Da:Nat):Int)=(Db:Int)+(Da:Int) by omega] at h1 h2;refine⟨?_,h2⟩;rw[←zul,hDa,hDb];exact h1
      have HSET:=Zh hset;have i2:(0:Int)<=(i:Int):=yie;have i3:(i:Int)<(M:Int):=yie;have i4:(i:Int)+1<(M:Int)+1:=yie;have i5:(i:Int)<(M:Int)+1:=yie;have i9:(i:Int)<1000000:=yie;clear hr hk hDa hDb l1 l2 hNC hbx hset;go_wp2;go_region;go_wp2;go_roundg (M-(i+1))
      case measure=>have:=HM5.o;omega
      case rel=>exact⟨i+1,by go_num,by omega,rfl,HSET.o.1,HSET.o.2⟩
     .have hkl:M=i:=yie;rw[←hkl] at hr;have hre:NRow wr B (.slice (some ⟨ib,0,none⟩) (M+1) (M+1)) (M+1) (endE E):=hr.congr fun x hx=>by unfold sumE;rw[if_pos yie]
      have hrj:NRow wr B (.slice (some ⟨jf,0,none⟩) M M) M (fun _=>0):=HRJ.o.kept hk fun x ex e=>HLS.o.2.2.2.1 (by
                                                                                                                 have:jf=x:=by injection ex
                                                                                                                 omega)
      have hkq:Kept (fun x=>x=ib∨x=jf) wz wr:=hk.mono fun x e => .inl (.inl e)
      have hnxm:=(HBXC.o.kept hk (fun e=>by have:=HLS.o.2.1;have:=HW1.o;omega)).nxt;have HRE:=Zh hre;have HRJ2:=Zh hrj;have HKQ:=Zh hkq;have hlp:=ztk E;have HLP:=Zh hlp;clear hr hk hre hrj hkq hlp;subst hkl;go_upto_region 18 with fail
      clear hnxm;generalize wr=wx at *;go_loopg [76] N (fun mm s wr=>∃ (i:Nat) (b f:Nat->Nat),s = .int .i64 (i:Int)∧i<=N∧mm=N-i∧LayP E (zdu (dl rows) C i) b f∧NRow wr B (.slice (some ⟨ib,0,none⟩) (M+1) (M+1)) (M+1) b∧NRow wr B (.slice (some ⟨jf,0,none⟩) M M) M f∧Kept (fun x=>x=ib∨x=jf) wz wr)
      case atStart=>exact⟨0,_,_,by first | rfl | trivial,yf8 _,by first | rfl | trivial,HLP.o,HRE.o,HRJ2.o,HKQ.o⟩
      case round =>
       obtain⟨i,b,f,rfl,hi,hmm,hlp,hrb,hrf,hk⟩:=hrel;have HM6:=Zh hmm;have HLP6:=Zh hlp;have HRB6:=Zh hrb;have HRF6:=Zh hrf;have HK6:=Zh hk;clear hmm
       by_cases hiN:i<N
       .obtain⟨r,hri⟩:∃ r,rows[i]?=some r:=⟨_,yey (by rw[HL.o];exact hiN)⟩;obtain⟨an,Au,cu,hAn,hanl,zan,hIn,hIo⟩:=yai HNX.o HL.o hri;obtain⟨hrl,hrx⟩:=HR.o i r hri;rw[hrl] at zan hIn hIo;subst hAn;have hibl:w.heap.size<ib∧w.heap.size<jf:=(by have h1:=HLS.o.2.1;have h2:=HLS.o.2.2.1;have:=HW1.o;omega);have hann:¬ (an=ib∨an=jf):=(by have h0:an<w.heap.size:=hanl;omega);have HIO:=Zh (fun x (ex:(Value.slice Au C cu).ownBlock=some x)=>show ¬ (x=ib∨x=jf) by have h0:x<w.heap.size:=hIo x ex;omega);have zr:=hk.cell zan hann;have HIN:=Zh hIn;have HRL:=Zh hrl;have HRX:=Zh hrx;have HRW:=Zh hri;have j0:(0:Int)<=(i:Int):=yie;have j1:(i:Int)<(N:Int):=yie;have j9:(i:Int)<90000:=yja;have HST:=Zh (show LayP E (prE (dl rows) C i 0) b f by rw[ydi];exact hlp);clear hri hanl zan hIn hrl hrx hlp hrb hrf hk hIo hibl hann;go_upto_region 21 with fail
        clear zr;generalize wr=wv at *;go_loopg [83] C (fun m2 s wr=>∃ (c:Nat) (b f:Nat->Nat),s = .int .i64 (c:Int)∧c<=C∧m2=C-c∧LayP E (prE (dl rows) C i c) b f∧NRow wr B (.slice (some ⟨ib,0,none⟩) (M+1) (M+1)) (M+1) b∧NRow wr B (.slice (some ⟨jf,0,none⟩) M M) M f∧Kept (fun x=>x=ib∨x=jf) wz wr)
        case atStart=>exact⟨0,b,f,by first | rfl | trivial,yf8 _,by first | rfl | trivial,HST.o,HRB6.o,HRF6.o,HK6.o⟩
        case round =>
         obtain⟨c,b,f,rfl,hc,hm2,hlp,hrb,hrf,hk⟩:=hrel;have HM7:=Zh hm2;have HLP7:=Zh hlp;have HRB7:=Zh hrb;have HRF7:=Zh hrf;have HK7:=Zh hk;clear hm2
         by_cases hcC:c<C
         .obtain⟨t,ht⟩:∃ t,r[c]?=some t:=⟨_,yey (by rw[HRL.o];exact hcC)⟩;have htN:=HRX.o t (yfh ht);have hdl:dl rows i c=t:=by
           unfold dl;have h1:rows.getD i []=r:=(by rw[yf0,HRW.o];rfl);rw[h1,yf0,ht];rfl
          have hIr:=HIN.o.off hk HIO.o;have hcl:c<(ns r).length:=(by rw[zaj,HRL.o];exact hcC);obtain⟨bu,cu',eu,_,_,zu⟩:=hIr.at c hcl;have hzt:(ns r)[c]'hcl=(t:Int):=by
           have h1:(ns r)[c]?=some (t:Int):=(by unfold ns;rw[yfs,ht];rfl);rw[yey hcl] at h1;injection h1
          rw[hzt] at zu;have hAu:Au=some ⟨bu,0,none⟩:=(by injection eu);subst hAu;have hkey:t*C+c<M:=by
           have h1:=yg4 C (show t+1<=N from htN);rw[yha] at h1;have:=HMM.o;omega
          obtain⟨k,hkk⟩:∃ k,t*C+c=k:=⟨_,rfl⟩;have hix:=fun W=>zq0 W C t c (.slice (some ⟨ib,0,none⟩) (M+1) (M+1)) (.slice (some ⟨jf,0,none⟩) M M) _ _ _ _ _ _ rfl rfl (by have:=HNC.o;omega)
          rw[hkk] at hkey hix;unfold zif at hix;have HIX:=Zh hix;have hst:=zw9 (k:=k) (v:=i) hlp (by
           obtain⟨q,hq⟩:=zpr (dl rows) C i (c+1) yie N hiN;rw[zm9,hdl,hkk,HEE.o] at hq;exact⟨q,hq⟩)
          obtain⟨hs1,hs2,hs3⟩:=hst;rw[HEL.o] at hs2;obtain⟨V,hV⟩:∃ V,b k=V+1:=⟨b k-1,by omega⟩;rw[hV] at hs2;rw[show b k-1=V by omega] at hs3;have zb:=(yf7 hrb k yie).trans (zat (show k<M+1 by omega));change wr.cell? ⟨ib,k,none⟩=some (.int .i64 ((b k:Nat):Int)) at zb;rw[hV,show ((V+1:Nat):Int)=(V:Int)+1 by omega] at zb;have zf:=(yf7 hrf V yie).trans (zat (show V<M by omega));have hbx:=(hk.block b4 (za0 HBX4.o) (fun q=>q.elim HLS.o.2.2.2.2.1 HLS.o.2.2.2.2.2)).trans HBX4.o;have y0:wr.cell? ⟨b4,0,none⟩=some (.int .i64 (C:Int)):=cell_of_row wr b4 0 _ _ (0,0) hbx;have y1:wr.cell? ⟨b4,1,none⟩=some (.slice (some ⟨ib,0,none⟩) (M+1) (M+1)):=cell_of_row wr b4 1 _ _ (0,0) hbx;have y2:wr.cell? ⟨b4,2,none⟩=some (.slice (some ⟨jf,0,none⟩) M M):=cell_of_row wr b4 2 _ _ (0,0) hbx;have hNC:=HNC.o;have hwV:IntKind.i64.wrap ((V:Int)+1-1)=(V:Int):=(by rw[show (V:Int)+1-1=(V:Int) by omega];exact IntWalk.i64_in _ yie);have n45:¬ b4=ib:=HLS.o.2.2.2.2.1;have n46:¬ b4=jf:=HLS.o.2.2.2.2.2;have nij:¬ ib=jf:=HLS.o.2.2.2.1;have hset:∀ W,Below wr.heap.size wr W->NRow (((W.setCell ⟨ib,k,none⟩ (.int .i64 (V:Int))).setCell ⟨jf,V,none⟩ (.int .i64 (i:Int))).drew) B (.slice (some ⟨ib,0,none⟩) (M+1) (M+1)) (M+1) (upd b k V)∧NRow (((W.setCell ⟨ib,k,none⟩ (.int .i64 (V:Int))).setCell ⟨jf,V,none⟩ (.int .i64 (i:Int))).drew) B (.slice (some ⟨jf,0,none⟩) M M) M (upd f V i)∧Kept (fun x=>x=ib∨x=jf) wz (((W.setCell ⟨ib,k,none⟩ (.int .i64 (V:Int))).setCell ⟨jf,V,none⟩ (.int .i64 (i:Int))).drew):=fun W hW=>by
           have a1:NRow (W.setCell ⟨ib,k,none⟩ (.int .i64 (V:Int))) B (.slice (some ⟨ib,0,none⟩) (M+1) (M+1)) (M+1) (upd b k V):=NRow.set (za6 hrb hW) k V;have k1:Kept (fun x=>x=ib) W (W.setCell ⟨ib,k,none⟩ (.int .i64 (V:Int))):=(Kept.refl (fun x=>x=ib) W).setCell (a:=⟨ib,k,none⟩) (.inl rfl) _;have a2:NRow (W.setCell ⟨ib,k,none⟩ (.int .i64 (V:Int))) B (.slice (some ⟨jf,0,none⟩) M M) M f:=NRow.kept (za6 hrf hW) k1 fun x ex e=>nij (by have h9:jf=x:=yjb;omega)
           have k2:Kept (fun x=>x=jf) (W.setCell ⟨ib,k,none⟩ (.int .i64 (V:Int))) ((W.setCell ⟨ib,k,none⟩ (.int .i64 (V:Int))).setCell ⟨jf,V,none⟩ (.int .i64 (i:Int))):=(Kept.refl (fun x=>x=jf) _).setCell (a:=⟨jf,V,none⟩) (.inl rfl) _;have a3:NRow ((W.setCell ⟨ib,k,none⟩ (.int .i64 (V:Int))).setCell ⟨jf,V,none⟩ (.int .i64 (i:Int))) B (.slice (some ⟨jf,0,none⟩) M M) M (upd f V i):=NRow.set a2 V i;have a4:=NRow.kept a1 k2 fun x ex e=>nij (by have h9:ib=x:=yjb;omega)
           refine⟨za6 a4 (yf6 _ _).drew,za6 a3 (yf6 _ _).drew,(((hk.trans (Kept.of_below (fun _=>False) hW) (fun x q=>q.elim)).setCell (a:=⟨ib,k,none⟩) (.inl (.inl rfl)) _).setCell (a:=⟨jf,V,none⟩) (.inl (.inr rfl)) _).drew⟩
          have HSET:=Zh hset;have HS3:=Zh (show LayP E (prE (dl rows) C i (c+1)) (upd b k V) (upd f V i) by rw[zm9,hdl,hkk];exact hs3);have i2:(0:Int)<=(c:Int):=yie;have i3:(c:Int)<(C:Int):=yie;have i9:(c:Int)<90000:=yjk;have i4:(0:Int)<=(k:Int):=yie;have i5:(k:Int)<(M:Int)+1:=yie;have i6:(0:Int)<=(V:Int):=yie;have i7:(V:Int)<(M:Int):=yie;have i8:(V:Int)<=1000000:=yie;have hwV2:IntKind.i64.wrap (V:Int)=(V:Int):=IntWalk.i64_in _ yie;clear ht htN hdl hIr hcl hzt eu hkey hkk hix hrb hrf hk hV hs1 hs2 hs3 hbx hset hNC hlp;go_upto_region 25 with (first
           | (go_at_call 79;(with_reducible refine (HIX.o _).mono ?_);rintro e' w5 ⟨rfl,b5⟩;have x1:=za4 y1 b5;have x2:=za4 y2 b5;have xk:=za4 zb b5;have xv:=za4 zf b5;have gk:w5.frozen? ⟨ib,k,none⟩=false:=yfw (za6 HRB7.o b5) k;have gv:w5.frozen? ⟨jf,V,none⟩=false:=yfw (za6 HRF7.o b5) V;have HSE:=Zh (HSET.o w5 b5);clear b5)
           | fail)
          go_region;go_wp2;go_roundg (C-(c+1))
          case measure=>have:=HM7.o;omega
          case rel=>exact⟨c+1,_,_,by go_num,by omega,rfl,HS3.o,HSE.o.1,HSE.o.2.1,HSE.o.2.2⟩
         .have hkl:C=c:=yie;rw[←hkl,zv1] at hlp;have HLP8:=Zh hlp;clear hlp hrb hrf hk;subst hkl;go_wp2;go_roundg (N-(i+1))
          case measure=>have:=HM6.o;omega
          case rel=>exact⟨i+1,b,f,by go_num,by omega,rfl,HLP8.o,HRB7.o,HRF7.o,HK7.o⟩
       .have hkl:N=i:=yie;rw[←hkl,HEE.o] at hlp;obtain⟨hb1,hb2⟩:=zzi hlp;have hrb2:NRow wr B (.slice (some ⟨ib,0,none⟩) (M+1) (M+1)) (M+1) (begE E):=hrb.congr fun x hx=>hb1 x
        have hwm:WM wr B (.slice (some ⟨ib,0,none⟩) (M+1) (M+1)) (.slice (some ⟨jf,0,none⟩) M M) E M f:=⟨hrb2,hrf,hb2,HEL.o⟩;have hbx:=(hk.block b4 (za0 HBX4.o) (fun q=>q.elim HLS.o.2.2.2.2.1 HLS.o.2.2.2.2.2)).trans HBX4.o;have y0:wr.cell? ⟨b4,0,none⟩=some (.int .i64 (C:Int)):=cell_of_row wr b4 0 _ _ (0,0) hbx;have y1:wr.cell? ⟨b4,1,none⟩=some (.slice (some ⟨ib,0,none⟩) (M+1) (M+1)):=cell_of_row wr b4 1 _ _ (0,0) hbx;have y2:wr.cell? ⟨b4,2,none⟩=some (.slice (some ⟨jf,0,none⟩) M M):=cell_of_row wr b4 2 _ _ (0,0) hbx;have hls:=HLS.o;have hw1:=HW1.o;have hrs2:=(hk.block (w.heap.size+1) (za0 HRSC.o) (fun q=>by rcases q with q | q <;> omega)).trans HRSC.o;have hbel:Below w.heap.size w wr:=HBWC.o.trans (hk.below HBWC.o.size (fun x q=>by rcases q with q | q <;> omega));have HWM:=Zh hwm;have HRS2:=Zh hrs2;have HBEL:=Zh hbel;clear hlp hb1 hb2 hrb2 hwm hbx hrs2 hbel hrb hrf hk hw1;have HLS2:=Zh hls;clear hls;go_wp2_with (first
         | (refine zkg yik _ _ yik yik yik HRS2.o rfl yik yik yik ?_;intro hbx;have HX:=Zh hbx;clear hbx;go_simp)
         | fail)
        refine bodyPost_ret (znz Tryd.results66 rfl HX.o) rfl ⟨_,_,f,rfl,?_,below_setRow HBEL.o yie _,fun v hv x ex=>?_⟩
        .rw[HEE.o,HMM.o];have kr:Kept (fun x=>x=w.heap.size+1) wr (wr.setRow (w.heap.size+1) #[.int .i64 (C:Int),.slice (some ⟨ib,0,none⟩) (M+1) (M+1),.slice (some ⟨jf,0,none⟩) M M]):=zet (Kept.refl (fun x=>x=w.heap.size+1) wr) (.inl rfl) _;refine HWM.o.kept kr (fun x ex e=>?_) (fun x ex e=>?_)
         .have h9:ib=x:=yjb;have h1:=HLS2.o.2.1;have h2:=HW1.o;omega
         .have h9:jf=x:=yjb;have h1:=HLS2.o.2.2.1;have h2:=HW1.o;omega
        .have h1:=HLS2.o.2.1;have h3:=HLS2.o.2.2.1;have h2:=HW1.o;simp only[yfi,yfk,or_false] at hv;rcases hv with rfl|rfl
         .have h9:ib=x:=yjb;omega
         .have h9:jf=x:=yjb;omega
section
structure AI (δ:Nat->Nat->Nat) (os:List (Nat×Nat)) (N C g:Nat) (p:PT):Prop where
 inv:PInv p
 eN:p.N=N
 clr:zi3 p
 hi:∃ A,HI (Alk δ (fun s=>os[s]?) N C) A g p∧Stab δ C A p
 out:∀ s t,s<N->t<N->p.grp s=p.grp t->os[s]?=os[t]?
section
variable {δ:Nat->Nat->Nat} {os gs:List (Nat×Nat)} {N C g:Nat} {f:Nat->Nat} {p:PT}
theorem AI.begin (h:GI os N gs f) (hN:os.length=N):AI δ os N C 0 (newF f N gs.length):=by
 obtain⟨h1,h2,h3⟩:=h.end hN;have hp:=ybo (n:=gs.length) h1 h3;refine⟨hp,rfl,fun _ _=>rfl,⟨fun _=>False,zzo hp fun s t hs ht=>h2 s t hs ht,fun X hX=>hX.elim⟩,fun s t hs ht e=>(h2 s t hs ht).1 e⟩
theorem AI.step (hδ:∀ s c,s<N->c<C->δ s c<N) (h:AI δ os N C g p) (hg:g<p.n):
 AI δ os N C (g+1) (zdr (fun k=>zcp δ C N k (ze0 p g)) C 0 p):=by
 obtain⟨A,hh,hst⟩:=h.hi;have e:=h.eN;obtain⟨q1,q2,q3,q4,q5,q6⟩:=ycg (ms:=fun k=>zcp δ C N k (ze0 p g)) (zp8 hδ) (fun s t a=>by rw[e];exact ye9 a) h.inv h.clr hh hst hg (fun c hc=>zg8 hc _ (zjs h.inv hg)) (fun c hc s=>by rw[ziz hc,zoq h.inv hg,e]);exact⟨q1,q2.trans e,q4,q5,fun s t hs ht e'=>h.out s t hs ht (q6 s t yie yie e')⟩
theorem AI.end (hδ:∀ s c,s<N->c<C->δ s c<N) (h:AI δ os N C g p) (hg:p.n<=g) {s t:Nat} (hs:s<N) (ht:t<N):p.grp s=p.grp t↔Alk δ (fun s=>os[s]?) N C s t:=by
 obtain⟨A,hh,hst⟩:=h.hi;have e:=h.eN;subst e;have hh':HI (Alk δ (fun s=>os[s]?) p.N C) A p.n p:=⟨hh.i0,fun s t a b h1 _=>hh.i2 s t a b h1 fun k k1 k2=>by omega⟩;exact ydy hδ hh' hst h.out hs ht
end
end
section
open Go Go.RowKit Go.Maps
theorem zr8 {w:World} {bm n:Nat} {D:DataW Unit} (h:w.ownsMap (H:=Unit) Tryd.prog 49 (plainElem Tryd.prog 3) bm n D) {o:Nat×Nat} (ho:okO o) {c:Int} {t:Bool} (hc:D.atKey (litO o) (.lit (.int .i64 0)) = .lit (.int .i64 c)) (ht:Maps.has D (litO o)=t):
 (Instr.lookup 176 (.map (some bm)) (.agg #[.int .u64 (o.1:Int),.int .u64 (o.2:Int)]) true).run Tryd.prog w = .ok (.tuple #[.int .i64 c,.bool t]) w:=by
 obtain⟨v,ps,hrun,hv⟩:=h.look_ok zrn Tryd.underlying176 (Tryd.zeroIntM w) (plainElem_int Tryd.underlying3 (a:=0) yij) (zmr o ho);obtain⟨a,rfl,h2,_⟩:=plainElem_int_inv Tryd.underlying3 hv;have h3:D.atKey (litO o) (.lit (.int .i64 0)) = .lit (.int .i64 a):=congrArg Prod.fst h2;rw[hc] at h3;injection h3 with h3
 injection h3 with _ h3
 subst h3;rw[ht] at hrun;exact hrun
theorem zgv {w w':World} {b n:Nat} {D:DataW Unit} (h:w.ownsMap (H:=Unit) Tryd.prog 49 (plainElem Tryd.prog 3) b n D) (hb:w'.heap[b]?=w.heap[b]?):w'.ownsMap (H:=Unit) Tryd.prog 49 (plainElem Tryd.prog 3) b n D:=by
 obtain⟨es,clock,hm,r⟩:=h;exact⟨es,clock,hb.trans hm,r⟩
structure GM (w0 w:World) (b0 N:Nat) (os:List (Nat×Nat)) (i:Nat) (gs:List (Nat×Nat)) (f:Nat->Nat) (D:DataW Unit):Prop where
 b0is:w0.heap.size=b0
 row:NRow w b0 (.slice (some ⟨b0+1,0,none⟩) N N) N f
 map:w.ownsMap (H:=Unit) Tryd.prog 49 (plainElem Tryd.prog 3) b0 gs.length D
 dat:OutIs D gs
 gi:GI os i gs f
 le:gs.length<=i
 below:Below b0 w0 w
section
variable {w0 w w':World} {b0 N i:Nat} {os gs:List (Nat×Nat)} {f:Nat->Nat} {D:DataW Unit}
theorem GM.lt (h:GM w0 w b0 N os i gs f D):b0+1<w.heap.size:=(yf5 h.row (b0+1) rfl).2
theorem GM.stays (h:GM w0 w b0 N os i gs f D) (hb:Below w.heap.size w w'):GM w0 w' b0 N os i gs f D:=
 ⟨h.b0is,za6 h.row hb,zgv h.map (hb.block b0 (by have:=h.lt;omega)),h.dat,h.gi,h.le,h.below.trans (hb.mono (by have:=h.lt;omega))⟩
theorem GM.old (h:GM w0 w b0 N os i gs f D) {g:Nat} {o:Nat×Nat} (ho:os[i]?=some o) (hg:gs[g]?=some o):GM w0 (w.setCell ⟨b0+1,i,none⟩ (.int .i64 (g:Int))) b0 N os (i+1) gs (upd f i g) D:=
 ⟨h.b0is,h.row.set i g,zgv h.map (yf9 _ _ _ _ (by show b0≠b0+1;omega)),h.dat,h.gi.old ho hg,Nat.le_succ_of_le h.le,h.below.setCell (p:=⟨b0+1,i,none⟩) (Nat.le_succ _) _⟩
theorem GM.new (h:GM w0 w b0 N os i gs f D) {o:Nat×Nat} (ho:os[i]?=some o) (hok:okO o) (hg:o∉gs) (hm:w'.ownsMap (H:=Unit) Tryd.prog 49 (plainElem Tryd.prog 3) b0 (gs.length+1) (D.put (litO o) (.lit (.int .i64 (gs.length:Nat))))) (ht:w.mapTurned w' b0):
 GM w0 (w'.setCell ⟨b0+1,i,none⟩ (.int .i64 (gs.length:Int))) b0 N os (i+1) (gs++[o]) (upd f i gs.length) (D.put (litO o) (.lit (.int .i64 (gs.length:Nat)))):=by
 have hk:Kept (fun b=>b=b0) w w':=(Kept.refl _ _).grown ht.grown fun b e => .inl yjg
 refine⟨h.b0is,(h.row.kept hk fun b e q=>absurd ((show b0+1=b by injection e).trans q) yie).set i gs.length,?_,h.dat.put hok hg,h.gi.new ho hg,by have:=h.le;simp;omega,((h.below.trans (hk.below (by have:=h.lt;omega) fun b q=>by omega))).setCell (p:=⟨b0+1,i,none⟩) (Nat.le_succ _) _⟩;rw[yfd];exact zgv hm (yf9 _ _ _ _ (by show b0≠b0+1;omega))
end
def yed (w:World) (os:List (Nat×Nat)) (N:Nat) (e:Ending) (w':World):Prop:=
 ∃ vg gs f,e = .returned (.tuple #[vg,.int .i64 ((gs.length:Nat):Int)])∧NRow w' w.heap.size vg N f∧GI os N gs f∧gs.length<=N∧Below w.heap.size w w'
theorem zto {w:World} {B N:Nat} {vO:Value} {os:List (Nat×Nat)} (hO:w.ownsRow B 49 2 vO N (outC os)) (hl:os.length=N) (hok:∀ o∈os,okO o) (hN:N<=90000):
 Calls Tryd.prog 65 #[vO] w (yed w os N):=by
 obtain⟨Ao,co,hv⟩:=zas hO;subst hv;obtain⟨M,hM,hmk⟩:=zdn N yie;have hmm := @run_makeMap Tryd.prog;obtain⟨b0,hb0⟩:∃ b0,w.heap.size=b0:=⟨_,rfl⟩;have hw1:=heap_alloc_new (w.alloc (.map #[] 0)) (.cells M 3);rw[yfe,hb0] at hw1;have hm1:=zgv (World.ownsMap_made (H:=Unit) w Tryd.prog 49 (plainElem Tryd.prog 3)) (yfo (w.alloc (.map #[] 0)) (.cells M 3) w.heap.size yii);rw[hb0] at hm1;have hgm:GM w ((w.alloc (.map #[] 0)).alloc (.cells M 3)) b0 N os 0 [] (fun _=>0) (.map []):=
  ⟨hb0,zcf hM hw1 (Nat.le_succ _) yie,hm1,OutIs.nil,GI.nil _ _,yf8 _,(((yf6 b0 w).alloc yie _).alloc yil _)⟩
 have hsz:(w.alloc (.map #[] 0)).heap.size=b0+1:=(by rw[yfe,hb0]);have hmk1:=hmk (w.alloc (.map #[] 0));rw[hsz] at hmk1;have hnN:(N:Int)<=90000:=yie;have HO:=Zh hO;have HL:=Zh hl;have HOK:=Zh hok;have HGM:=Zh hgm;have HN:=Zh hN;have HB0:=Zh hb0;clear hO hl hok hgm hM hw1 hm1 hmk hN;go_enter Tryd.func65,Tryd.ntmps65;go_upto_region 4 with fail
 generalize (w.alloc (.map #[] 0)).alloc (.cells M 3)=w1 at *;go_loopg [16] N (fun mm s wr=>∃ (i:Nat) (gs:List (Nat×Nat)) (f:Nat->Nat) (D:DataW Unit),s = .int .i64 (i:Int)∧i<=N∧mm=N-i∧GM w wr b0 N os i gs f D)
 case atStart=>exact⟨0,[],_,_,by first | rfl | trivial,yf8 _,by first | rfl | trivial,HGM.o⟩
 case round =>
  obtain⟨i,gs,f,D,rfl,hi,hmm,hg⟩:=hrel;have HMM:=Zh hmm;have HG:=Zh hg;clear hmm
  by_cases hiN:i<N
  .obtain⟨o,ho⟩:∃ o,os[i]?=some o:=⟨_,yey (by rw[HL.o];exact hiN)⟩;have hoo:=HOK.o o (yfh ho);have hor:=za6 HO.o (show Below w.heap.size w wr from by rw[HB0.o];exact hg.below);obtain⟨g3,rfl⟩:∃ g,Ao=some ⟨g,0,none⟩:=by
    rcases hor.2 with ⟨_,h0⟩|⟨g,cap,cur,e,_⟩
    .omega
    .injection e with e1;exact⟨g,e1⟩
   obtain⟨o0,o1⟩:=zen os i o ho;have d3:wr.cell? ⟨g3,i*2,none⟩=some (.int .u64 (o.1:Int)):=(yf7 hor (i*2) yie).trans o0;have d4:wr.cell? ⟨g3,i*2+1,none⟩=some (.int .u64 (o.2:Int)):=(yf7 hor (i*2+1) yie).trans o1;have hba:Below wr.heap.size wr (wr.alloc (.cells #[.int .u64 (o.1:Int),.int .u64 (o.2:Int)] 49)):=(yf6 _ _).alloc (yez _) _;have hbo:=BoxO.new wr (.int .u64 (o.1:Int)) (.int .u64 (o.2:Int)) _ rfl;have hg2:=hg.stays hba;obtain⟨L,hL⟩:∃ L,gs.length=L:=⟨_,rfl⟩;have hgl:=hg.le;rw[hL] at hgl;have i0:(0:Int)<=(i:Int):=yie;have i1:(i:Int)<(N:Int):=yie;have i2:(i:Int)<100000:=(by have:=HN.o;omega);have HLL:=Zh hL;have HI:=Zh ho;have HOO:=Zh hoo;have HG2:=Zh hg2;have HBO:=Zh hbo;clear hL hbo hba hor o0 o1 hg hg2
   by_cases hin:o∈gs
   .obtain⟨k,hk,hke⟩:=List.mem_iff_getElem.1 hin;have hk?:gs[k]?=some o:=(by rw[←hke];exact yey hk);have hat:=HG2.o.dat.idx k o hk?;have hhas:=(HG2.o.dat.has o hoo).2 hin;have HK:=Zh hk?;clear hin hk hke hk? ho hoo;go_upto_region 6 with fail
    have hlk:=zr8 HG2.o.map HOO.o hat hhas;obtain⟨q0,q1⟩:=HBO.o.cell;obtain⟨f2,f3⟩:=HBO.o.frozen;obtain⟨gb,hgb⟩:∃ gb,wr.heap.size=gb:=⟨_,rfl⟩;rw[hgb] at q0 q1 f2 f3 ⊢;generalize (wr.alloc (.cells #[.int .u64 (o.1:Int),.int .u64 (o.2:Int)] 49))=wa at *;have fz:=HG2.o.row.frozen i;have zz:=(yf7 HG2.o.row i yie).trans (zat hiN);have hfin:=HG2.o.old HI.o HK.o;have HFIN:=Zh hfin;clear hfin hat hhas d3 d4;go_wp2;go_roundg (N-(i+1))
    case measure=>have:=HMM.o;omega
    case rel=>exact⟨i+1,gs,_,D,by go_num,by omega,rfl,HFIN.o⟩
   .have hno:Maps.has (H:=Unit) D (litO o)=false:=by
     cases h:Maps.has (H:=Unit) D (litO o)
     .rfl
     .exact absurd ((HG2.o.dat.has o hoo).1 h) hin
    have hat:D.atKey (litO o) (.lit (.int .i64 0)) = .lit (.int .i64 0):=Maps.atKey_of_not_has hno _;have HIN:=Zh hin;clear hin hoo ho;go_upto_region 6 with fail
    have hlk:=zr8 HG2.o.map HOO.o hat hno;obtain⟨q0,q1⟩:=HBO.o.cell;obtain⟨f2,f3⟩:=HBO.o.frozen;obtain⟨gb,hgb⟩:∃ gb,wr.heap.size=gb:=⟨_,rfl⟩;rw[hgb] at q0 q1 f2 f3 ⊢;generalize (wr.alloc (.cells #[.int .u64 (o.1:Int),.int .u64 (o.2:Int)] 49))=wa at *;have hlen:=HG2.o.map.len Tryd.underlying176;rw[HG2.o.dat.size,HLL.o] at hlen;have hpe:plainElem (H:=Unit) Tryd.prog 3 (.int .i64 (L:Int))=some (.lit (.int .i64 (L:Int)),[]):=plainElem_int Tryd.underlying3 (yag _ yie yie);have hnm:gs.length<maxLen:=(by have:=HG2.o.le;unfold maxLen;omega);have HPE:=Zh hpe;have HNM:=Zh hnm;clear hpe hnm d3 d4 hno hat;go_upto_region 10 with (first
     | (at_mapUpdate;refine wpList_mapUpdate_in _ rfl _ _ _ 176 rfl 49 3 zrn Tryd.underlying176 _ b0 gs.length D rfl HG2.o.map HNM.o _ _ _ rfl rfl (zmr o HOO.o) _ [] HPE.o ?_;intro w3 o3 t3;have O3:=Zh o3;have T3:=Zh t3;clear o3 t3)
     | fail)
    have o3:=O3.o;rw[←HLL.o] at o3;have hfin:=HG2.o.new HI.o HOO.o HIN.o o3 T3.o;rw[HLL.o] at hfin;have hk:Kept (fun b=>b=b0) wa w3:=(Kept.refl _ _).grown T3.o.grown fun b e => .inl yjg
    have hrow:=HG2.o.row.kept hk fun b e q=>absurd ((show b0+1=b by injection e).trans q) yie
    have fz:=hrow.frozen i;have zz:=(yf7 hrow i yie).trans (zat hiN);have HFIN:=Zh hfin;clear hfin hk hrow o3 hlk hlen q0 q1;go_wp2;go_roundg (N-(i+1))
    case measure=>have:=HMM.o;omega
    case rel=>exact⟨i+1,_,_,_,by go_num,by omega,rfl,HFIN.o⟩
  .have hkl:N=i:=yie;subst hkl;have hlen:=HG.o.map.len Tryd.underlying176;rw[HG.o.dat.size] at hlen;obtain⟨L,hL⟩:∃ L,gs.length=L:=⟨_,rfl⟩;rw[hL] at hlen;have HLL:=Zh hL;clear hL;go_wp2;go_ret2;exact⟨.slice (some ⟨b0+1,0,none⟩) N N,gs,f,by rw[HLL.o];rfl,by rw[HB0.o];exact HG.o.row,HG.o.gi,HG.o.le,by rw[HB0.o];exact HG.o.below⟩
end
theorem zy1 (f:Nat->Nat) (k:Nat):upd f k (f k)=f:=by
 funext x
 unfold upd;split
 .rename_i h;rw[h]
 .rfl
theorem zx4 (grp:Nat->Nat) (S:Nat):upd (cntG grp S) (grp S) (cntG grp S (grp S)+1)=cntG grp (S+1):=by
 funext x
 rw[cntG];unfold upd
 by_cases h:x=grp S
 .subst h;simp
 .rw[if_neg h,if_neg (fun e=>h e.symm)];rfl
theorem ztl (w:World) (o1 o2 o3 o4:Obj):Below w.heap.size w ((((w.alloc o1).alloc o2).alloc o3).alloc o4).drew∧((((w.alloc o1).alloc o2).alloc o3).alloc o4).drew.heap[w.heap.size]?=some o1∧((((w.alloc o1).alloc o2).alloc o3).alloc o4).drew.heap[w.heap.size+1]?=some o2∧((((w.alloc o1).alloc o2).alloc o3).alloc o4).drew.heap[w.heap.size+1+1]?=some o3∧((((w.alloc o1).alloc o2).alloc o3).alloc o4).drew.heap[w.heap.size+1+1+1]?=some o4:=by
 have h4:=heap_alloc_new (((w.alloc o1).alloc o2).alloc o3) o4;have h3:=heap_alloc_new ((w.alloc o1).alloc o2) o3;have h2:=heap_alloc_new (w.alloc o1) o2;have h1:=heap_alloc_new w o1;rw[yfe,yfe,yfe] at h4;rw[yfe,yfe] at h3;rw[yfe] at h2;refine⟨((((yf6 _ _).alloc (yez _) _).alloc yis _).alloc yis _).alloc yis _ |>.drew,?_,?_,?_,h4⟩
 .show ((((w.alloc o1).alloc o2).alloc o3).alloc o4).heap[w.heap.size]?=some o1
  rw[yfo _ _ _ yis,yfo _ _ _ yis,yfo _ _ _ yis];exact h1
 .show ((((w.alloc o1).alloc o2).alloc o3).alloc o4).heap[w.heap.size+1]?=some o2
  rw[yfo _ _ _ yis,yfo _ _ _ yis];exact h2
 .show ((((w.alloc o1).alloc o2).alloc o3).alloc o4).heap[w.heap.size+1+1]?=some o3
  rw[yfo _ _ _ yis];exact h3
theorem zkr {w W:World} {B N n g ia ib im:Nat} {vg:Value} {grp bg:Nat->Nat} {MN Mn:Array Value} (h:NRow w B vg N grp) (hB:B<=w.heap.size) (hb:Below w.heap.size w W) (hMN:MN.toList=lstI N (fun _=>0)) (hMn:Mn.toList=lstI n (fun _=>0)) (hN:N<=90000) (hn:n<=90000)
 (h1:W.heap[ia]?=some (.cells MN 3 (0,0))) (h2:W.heap[ib]?=some (.cells MN 3 (0,0))) (h3:W.heap[im]?=some (.cells Mn 3 (0,0))) (h4:W.heap[g]?=some (.cells #[.slice (some ⟨ia,0,none⟩) N N,.slice (some ⟨ib,0,none⟩) N N,vg,.slice none 0 0,.slice none 0 0,.slice (some ⟨im,0,none⟩) n n] 165 (0,0)))
 (la:w.heap.size<=ia) (lb:w.heap.size<=ib) (lm:w.heap.size<=im) (lg:w.heap.size<=g) (nab:ia≠ib) (nam:ia≠im) (nbm:ib≠im):
 Below w.heap.size w W∧w.heap.size<=g∧(∀ v∈[(.slice (some ⟨ia,0,none⟩) N N:Value),.slice (some ⟨ib,0,none⟩) N N,.slice (some ⟨im,0,none⟩) n n],∀ x,v.ownBlock=some x->w.heap.size<=x)∧
  PX W B g (.slice (some ⟨ia,0,none⟩) N N) (.slice (some ⟨ib,0,none⟩) N N) vg (.slice none 0 0) (.slice none 0 0) (.slice (some ⟨im,0,none⟩) n n) N 0 n (fun _=>0) (fun _=>0) grp bg bg (fun _=>0):=by
 have hlt:=yf5 h;refine⟨hb,lg,fun v hv x ex=>?_,by omega,h4,zcf hMN h1 yie yie,zcf hMN h2 yie yie,za6 h hb,yfx W B _ 1,yfx W B _ 1,zcf hMn h3 yie yie,?_⟩
 .simp only[yfi,yfk,or_false] at hv;rcases hv with rfl|rfl|rfl
  all_goals
   cases ex
   assumption
 .simp only[yg3,yfi,forall_eq_or_imp,yfk,false_imp_iff,implies_true,and_true,ygb];have nn:∀ (v:Value),Ap v (.slice none 0 0):=fun v x _ e=>by cases e
  have nn2:∀ (v:Value),Ap (.slice none 0 0) v:=fun v x e _=>by cases e
  have two:∀ {i j n n' c c':Nat},i≠j->Ap (.slice (some ⟨i,0,none⟩) n c) (.slice (some ⟨j,0,none⟩) n' c'):=fun hij x e e'=>by
   cases e;cases e';exact hij rfl
  have ov:∀ {i n c:Nat},w.heap.size<=i->Ap (.slice (some ⟨i,0,none⟩) n c) vg:=fun {i} _ _ hi x e e'=>by
   have hx:i=x:=(by injection e);have:=(hlt _ e').2;omega
  have vo:∀ {i n c:Nat},w.heap.size<=i->Ap vg (.slice (some ⟨i,0,none⟩) n c):=fun {i} _ _ hi x e e'=>by
   have hx:i=x:=(by injection e');have:=(hlt _ e).2;omega
  exact⟨⟨two nab,ov la,nn _,nn _,two nam⟩,⟨ov lb,nn _,nn _,two nbm⟩,⟨nn _,nn _,vo lm⟩,⟨nn2 _,nn2 _⟩,nn2 _⟩
theorem zx6 (grp:Nat->Nat):∀ S g,cntG grp S g<=S
 | 0,g=>yez _
 | S+1,g=>by
  have:=zx6 grp S g;rw[cntG];split <;> omega
theorem ye7 (grp:Nat->Nat) (N n k:Nat) (hk:k<n) (hg:∀ s,s<N->grp s<n):bgG grp N k+cntG grp N k<=N:=by
 have h1:=zg1 (grp:=grp) (N:=N) hk;rw[zsc n,zgo N hg] at h1;exact h1
def ycz (w:World) (B:Nat) (vg:Value) (q:PT) (e:Ending) (w':World):Prop:=
 ∃ g a b d e2 m,e = .returned (.pointer (some ⟨g,0,none⟩))∧PM w' B g a b vg d e2 m q∧Below w.heap.size w w'∧w.heap.size<=g∧∀ v∈[a,b,d,e2,m],∀ x,v.ownBlock=some x->w.heap.size<=x
theorem ztg {w:World} {B N n:Nat} {vg:Value} {grp:Nat->Nat} (h:NRow w B vg N grp) (hB:B<=w.heap.size) (hg:∀ s,s<N->grp s<n) (hN:N<=90000) (hn:n<=90000):
 Calls Tryd.prog 64 #[vg,.int .i64 (n:Int)] w (ycz w B vg (newF grp N n)):=by
 obtain⟨A,c,hv⟩:=zaa h;subst hv;obtain⟨MN,hMN,hmkN⟩:=zdn N yie;obtain⟨Mn,hMn,hmkn⟩:=zdn n yie;have HH:=Zh h;have HB:=Zh hB;have HG:=Zh hg;have HMN:=Zh hMN;have HMn:=Zh hMn;have HMK:=Zh hmkn;have HN:=Zh hN;have Hn:=Zh hn;have hnN:(N:Int)<=90000:=yie;have hnn:(n:Int)<=90000:=yie;clear h hB hg hMN hMn hN hn;go_enter Tryd.func64,Tryd.ntmps64;go_upto_region 1 with fail
 go_cut [5] from 14 to 24 (fun s5 wx=>∃ (g:Nat) (a b m:Value),s5 = .pointer (some ⟨g,0,none⟩)∧Below w.heap.size w wx∧w.heap.size<=g∧(∀ v∈[a,b,m],∀ x,v.ownBlock=some x->w.heap.size<=x)∧
  PX wx B g a b (.slice A N c) (.slice none 0 0) (.slice none 0 0) m N 0 n (fun _=>0) (fun _=>0) grp (bgG grp N) (bgG grp N) (fun _=>0))
 case first =>
  go_region_law (fail)
  all_goals
   go_wp2;go_meet
   first
    | (obtain⟨hb,h1,h2,h3,h4⟩:=ztl w (.cells MN 3) (.cells MN 3) (.cells Mn 3) (.cells #[.slice (some ⟨w.heap.size,0,none⟩) N N,.slice (some ⟨w.heap.size+1,0,none⟩) N N,.slice A N c,.slice none 0 0,.slice none 0 0,.slice (some ⟨w.heap.size+1+1,0,none⟩) n n] 165)
       exact⟨_,_,_,_,rfl,zkr HH.o HB.o hb HMN.o HMn.o HN.o Hn.o h1 h2 h3 h4 yie yie yie yie yie yie yie⟩)
    | (obtain⟨hb,h1,h2,h3,h4⟩:=ztl w (.cells MN 3) (.cells MN 3) (.cells Mn 3) (.cells #[.slice (some ⟨w.heap.size+1,0,none⟩) N N,.slice (some ⟨w.heap.size,0,none⟩) N N,.slice A N c,.slice none 0 0,.slice none 0 0,.slice (some ⟨w.heap.size+1+1,0,none⟩) n n] 165)
       exact⟨_,_,_,_,rfl,zkr HH.o HB.o hb HMN.o HMn.o HN.o Hn.o h2 h1 h3 h4 yie yie yie yie yie yie yie⟩)
    | (obtain⟨hb,h1,h2,h3,h4⟩:=ztl w (.cells MN 3) (.cells Mn 3) (.cells MN 3) (.cells #[.slice (some ⟨w.heap.size,0,none⟩) N N,.slice (some ⟨w.heap.size+1+1,0,none⟩) N N,.slice A N c,.slice none 0 0,.slice none 0 0,.slice (some ⟨w.heap.size+1,0,none⟩) n n] 165)
       exact⟨_,_,_,_,rfl,zkr HH.o HB.o hb HMN.o HMn.o HN.o Hn.o h1 h3 h2 h4 yie yie yie yie yie yie yie⟩)
    | (obtain⟨hb,h1,h2,h3,h4⟩:=ztl w (.cells MN 3) (.cells Mn 3) (.cells MN 3) (.cells #[.slice (some ⟨w.heap.size+1+1,0,none⟩) N N,.slice (some ⟨w.heap.size,0,none⟩) N N,.slice A N c,.slice none 0 0,.slice none 0 0,.slice (some ⟨w.heap.size+1,0,none⟩) n n] 165)
       exact⟨_,_,_,_,rfl,zkr HH.o HB.o hb HMN.o HMn.o HN.o Hn.o h3 h1 h2 h4 yie yie yie yie yie yie yie⟩)
    | (obtain⟨hb,h1,h2,h3,h4⟩:=ztl w (.cells Mn 3) (.cells MN 3) (.cells MN 3) (.cells #[.slice (some ⟨w.heap.size+1,0,none⟩) N N,.slice (some ⟨w.heap.size+1+1,0,none⟩) N N,.slice A N c,.slice none 0 0,.slice none 0 0,.slice (some ⟨w.heap.size,0,none⟩) n n] 165)
       exact⟨_,_,_,_,rfl,zkr HH.o HB.o hb HMN.o HMn.o HN.o Hn.o h2 h3 h1 h4 yie yie yie yie yie yie yie⟩)
    | (obtain⟨hb,h1,h2,h3,h4⟩:=ztl w (.cells Mn 3) (.cells MN 3) (.cells MN 3) (.cells #[.slice (some ⟨w.heap.size+1+1,0,none⟩) N N,.slice (some ⟨w.heap.size+1,0,none⟩) N N,.slice A N c,.slice none 0 0,.slice none 0 0,.slice (some ⟨w.heap.size,0,none⟩) n n] 165)
       exact⟨_,_,_,_,rfl,zkr HH.o HB.o hb HMN.o HMn.o HN.o Hn.o h3 h2 h1 h4 yie yie yie yie yie yie yie⟩)
 case rest =>
  obtain⟨g,a,b,m,rfl,hbw,hgw,hown,hpx⟩:=hcut;have hsz:=heap_alloc_new wc (.cells Mn 3);have hb2:Below wc.heap.size wc (wc.alloc (.cells Mn 3)):=(yf6 _ _).alloc (yez _) _;have hpx2:=hpx.kept (Kept.of_below (fun _=>False) hb2) (fun q=>q) (fun _ _ _ _ q=>q);have hrs:NRow (wc.alloc (.cells Mn 3)) wc.heap.size (.slice (some ⟨wc.heap.size,0,none⟩) n n) n (fun _=>0):=zcf HMn.o hsz (yez _) (by have:=Hn.o;omega);have hbw2:=hbw.trans (hb2.mono hbw.size);have hlts:∀ v∈[a,b,(.slice A N c:Value),.slice none 0 0,.slice none 0 0,m],∀ x,v.ownBlock=some x->x<wc.heap.size:=fun v hv x ex=>by
   simp only[yfi,yfk,or_false] at hv;rcases hv with rfl|rfl|rfl|rfl|rfl|rfl
   .exact (yf5 hpx.ra x ex).2
   .exact (yf5 hpx.rb x ex).2
   .exact (yf5 hpx.rc x ex).2
   .cases ex
   .cases ex
   .exact (yf5 hpx.rm x ex).2
  have hglt:=za0 hpx.box;obtain⟨bs,hbs⟩:∃ bs,wc.heap.size=bs:=⟨_,rfl⟩;have hws:=hbw.size;rw[hbs] at hrs hlts hglt hws;have HRS:=Zh hrs;have HPX2:=Zh hpx2;have HBW2:=Zh hbw2;have HLTS:=Zh hlts;have HGLT:=Zh hglt;have HWS:=Zh hws;have HGW:=Zh hgw;have HOWN:=Zh hown;have hmks:=HMK.o wc;rw[hbs] at hmks;clear hmkN hmkn hsz hb2 hpx2 hrs hbw2 hlts hglt hws hgw hown hbw hpx;go_upto_region 4 with fail
  clear hmks;generalize wc.alloc (.cells Mn 3)=w2 at *;go_loopg [29] N (fun mm s wr=>∃ i:Nat,s = .int .i64 (i:Int)∧i<=N∧mm=N-i∧NRow wr bs (.slice (some ⟨bs,0,none⟩) n n) n (cntG grp i)∧Kept (fun x=>x=bs) w2 wr)
  case atStart=>exact⟨0,by first | rfl | trivial,yf8 _,by first | rfl | trivial,HRS.o,Kept.refl _ _⟩
  case round =>
   obtain⟨i,rfl,hi,hmm,hr,hk⟩:=hrel;have HMM:=Zh hmm;have HR:=Zh hr;have HK:=Zh hk;clear hmm
   by_cases hiN:i<N
   .have hgi:=HG.o i hiN;have hgl:=HPX2.o.rc.kept hk (fun x ex e=>by have:=HLTS.o (.slice A N c) yii x ex;omega);obtain⟨bg2,cg2,eg2,_,zg⟩:=hgl.at hiN;have hA:A=some ⟨bg2,0,none⟩:=(by injection eg2);subst hA;obtain⟨G,hG⟩:∃ G,grp i=G:=⟨_,rfl⟩;rw[hG] at zg hgi;have zs:=(yf7 hr G yie).trans (zat hgi);have fz:=hr.frozen G;obtain⟨D,hD⟩:∃ D,cntG grp i G=D:=⟨_,rfl⟩;change wr.cell? ⟨bs,G,none⟩=some (.int .i64 ((cntG grp i G:Nat):Int)) at zs;rw[hD] at zs;have hD9:(D:Int)<=100000:=by
     have:=zx6 grp i G;omega
    have HGG:=Zh hG;have HDD:=Zh hD;have k0:(0:Int)<=(i:Int):=yie;have k1:(i:Int)<(N:Int):=yie;have k2:(0:Int)<=(G:Int):=yie;have k3:(G:Int)<(n:Int):=yie;have hset:=hr.set G (D+1);have hks:=hk.setCell (a:=⟨bs,G,none⟩) (.inl rfl) (.int .i64 ((D+1:Nat):Int));rw[show ((D+1:Nat):Int)=(D:Int)+1 by omega] at hset hks;have HSET:=Zh hset;have HKS:=Zh hks;clear hset hks hr hk hgl hG hD eg2;go_wp2;go_roundg (N-(i+1))
    case measure=>have:=HMM.o;omega
    case rel =>
     refine⟨i+1,by go_num,by omega,rfl,?_,HKS.o⟩;rw[show cntG grp (i+1)=upd (cntG grp i) G (D+1) by rw[←HDD.o,←HGG.o];exact (zx4 grp i).symm];exact HSET.o
   .have hkl:N=i:=yie;subst hkl;have hpx3:=HPX2.o.kept hk (fun e=>by have:=HGLT.o;omega) (fun v hv x ex e=>by have:=HLTS.o v hv x ex;omega);have hbw3:Below w.heap.size w wr:=HBW2.o.trans (hk.below HBW2.o.size (fun x e=>by have:=HWS.o;omega));have hap3:∀ v∈[a,b,(.slice A N c:Value),.slice none 0 0,.slice none 0 0,m],Ap (.slice (some ⟨bs,0,none⟩) n n) v:=fun v hv x ex ev=>by
     have:=HLTS.o v hv x ev;have hx:bs=x:=yjb;omega
    have HPX3:=Zh hpx3;have HBW3:=Zh hbw3;have HAP3:=Zh hap3;have HR3:=Zh hr;clear hpx3 hbw3 hap3 hr hk;go_upto_region 10 with fail
    generalize wr=w3 at *;go_loopg [9,42] n (fun mm s9 s wr=>∃ (k:Nat) (d e:Value),s = .int .i64 (k:Int)∧k<=n∧mm=n-k∧s9 = .int .i64 ((bgG grp N k:Nat):Int)∧PX wr B g a b (.slice A N c) d e m N k n (fun _=>0) (fun _=>0) grp (bgG grp N) (bgG grp N) (fun _=>0)∧NRow wr bs (.slice (some ⟨bs,0,none⟩) n n) n (cntG grp N)∧Below w.heap.size w wr∧
     (∀ v∈[a,b,(.slice A N c:Value),d,e,m],Ap (.slice (some ⟨bs,0,none⟩) n n) v)∧∀ v∈[d,e],∀ x,v.ownBlock=some x->w.heap.size<=x)
    case atStart=>exact⟨0,_,_,by first | rfl | trivial,yf8 _,by first | rfl | trivial,by first | rfl | trivial,HPX3.o,HR3.o,HBW3.o,HAP3.o,fun v hv x ex=>by simp at hv;subst hv;cases ex⟩
    case round =>
     obtain⟨k,d,e,rfl,hk,hmm,rfl,hpx,hr,hbw,hap,hnew⟩:=hrel;have HMM:=Zh hmm;have HPX:=Zh hpx;have HRR:=Zh hr;have HBW:=Zh hbw;have HAP:=Zh hap;have HNEW:=Zh hnew;clear hmm
     by_cases hkn:k<n
     .have zs:=(yf7 hr k yie).trans (zat hkn);change wr.cell? ⟨bs,k,none⟩=some (.int .i64 ((cntG grp N k:Nat):Int)) at zs;obtain⟨S,hS⟩:∃ S,cntG grp N k=S:=⟨_,rfl⟩;obtain⟨Z,hZ⟩:∃ Z,bgG grp N k=Z:=⟨_,rfl⟩;have hbS:=ye7 grp N n k hkn HG.o;rw[hS,hZ] at hbS;rw[hS] at zs;rw[hZ];have HSS:=Zh hS;have HZZ:=Zh hZ;have j0:(0:Int)<=(k:Int):=yie;have j1:(k:Int)<(n:Int):=yie;have j2:(Z:Int)+(S:Int)<=100000:=yie;obtain⟨Ad,cd,hd⟩:=zaa hpx.rd;obtain⟨Ae,ce,he⟩:=zaa hpx.re;subst hd he;have rr0:=hpx.begin3;have RR0:=Zh rr0;have HL1:=Zh (fun b e=>(yf5 hpx.rd b e).2);have HL2:=Zh (fun b e=>(yf5 hpx.re b e).2);have HC:=Zh (fun (W:World) (kk:Kept (fun x=>(Value.slice Ad k cd).ownBlock=some x∨(Value.slice Ae k ce).ownBlock=some x∨m.ownBlock=some x) wr W)=>(kk.block g (za0 hpx.box) (fun q=>by
       rcases q with q|q|q
       .obtain⟨cu,hc⟩:=za7 hpx.rd q;exact za1 hc hpx.box yij rfl
       .obtain⟨cu,hc⟩:=za7 hpx.re q;exact za1 hc hpx.box yij rfl
       .obtain⟨cu,hc⟩:=za7 hpx.rm q;exact za1 hc hpx.box yij rfl
       )).trans hpx.box)
      have HLE:=Zh (show ∀ (f:Nat->Nat) (x:Nat),(ns ((List.range k).map f)).length+(ns [x]).length<=100000 from fun f x=>by simp[ns];have:=Hn.o;omega);have HB8:=Zh (show B<=wr.heap.size by have:=za0 hpx.box;have:=hpx.gB;omega);clear hpx hr hbw hap hnew rr0 hS hZ hbS;go_upto_region 12 with fail
      generalize wr=w8 at *;have hmx:Tryd.prog.follows .mixedOrders=true:=yih;have hs0:=RR0.o.keep;refine zdb (R:=fun W=>True) (S:=fun W=>Kept (fun x=>(Value.slice Ad k cd).ownBlock=some x∨(Value.slice Ae k ce).ownBlock=some x∨m.ownBlock=some x) w8 W) (T:=[18,21]) hmx ?_;refine anyR_tk (i:=0) (v := .pointer (some ⟨g,0,none⟩)) rfl (Or.inl ⟨by rfl,fun w' hS=>by go_simp⟩) trivial (fun _=>hs0) ?_;refine anyR_tk (i:=1) (v := .pointer (some ⟨g,0,none⟩)) rfl (Or.inl ⟨by rfl,fun w' hS=>by go_simp⟩) trivial (fun _=>hs0) ?_;go_simp;refine anyR_tk (i:=2) (v := .pointer (some ⟨g,0,none⟩)) rfl (Or.inl ⟨by rfl,fun w' hS=>by go_simp⟩) trivial (fun _=>hs0) ?_;refine anyR_tk (i:=3) (v := .pointer (some ⟨g,0,none⟩)) rfl (Or.inl ⟨by rfl,fun w' hS=>by go_simp⟩) trivial (fun _=>hs0) ?_;refine anyR_tk (i:=4) (v := .pointer (some ⟨g,3,none⟩)) rfl (Or.inl ⟨by rfl,fun w' hS=>by go_simp⟩) trivial (fun _=>hs0) ?_;go_simp;refine anyT_tk (i:=5) (v := .slice Ad k cd) rfl (Or.inl ⟨by rfl,fun w' hS=>by have t1:=cell_of_row w' g 3 _ _ (0,0) (HC.o w' hS);go_simp⟩) trivial hs0 ?_;refine anyR_tk (i:=6) (v := .int .i64 (Z:Int)) rfl (Or.inl ⟨by rfl,fun w' hS=>by go_simp⟩) trivial (fun _=>hs0) ?_;go_simp;refine anyR_tk (i:=9) (v := .pointer (some ⟨g,0,none⟩)) rfl (Or.inl ⟨by rfl,fun w' hS=>by go_simp⟩) trivial (fun _=>hs0) ?_;refine anyR_tk (i:=10) (v := .pointer (some ⟨g,0,none⟩)) rfl (Or.inl ⟨by rfl,fun w' hS=>by go_simp⟩) trivial (fun _=>hs0) ?_;refine anyR_tk (i:=11) (v := .pointer (some ⟨g,4,none⟩)) rfl (Or.inl ⟨by rfl,fun w' hS=>by go_simp⟩) trivial (fun _=>hs0) ?_;go_simp;refine anyT_tk (i:=12) (v := .slice Ae k ce) rfl (Or.inl ⟨by rfl,fun w' hS=>by have t1:=cell_of_row w' g 4 _ _ (0,0) (HC.o w' hS);go_simp⟩) trivial hs0 ?_;refine anyR_tk (i:=13) (v := .int .i64 (Z:Int)) rfl (Or.inl ⟨by rfl,fun w' hS=>by go_simp⟩) trivial (fun _=>hs0) ?_;go_simp;clear hs0;generalize w8.drew=W0 at *;have HBS:=Zh (show ((bgG grp N (k+1):Nat):Int)=(Z:Int)+(S:Int) by rw[bgG,HSS.o,HZZ.o];omega);have FIN:Hid (∀ (W:World) (v1 v2:Value),Rows3 B w8 W (.slice Ad k cd) (.slice Ae k ce) m v1 v2 m (k+1) (k+1) n (upd (bgG grp N) k Z) (upd (bgG grp N) k Z) (fun _=>0)->
       PX ((W.setCell ⟨g,3,none⟩ v1).setCell ⟨g,4,none⟩ v2) B g a b (.slice A N c) v1 v2 m N (k+1) n (fun _=>0) (fun _=>0) grp (bgG grp N) (bgG grp N) (fun _=>0)∧NRow ((W.setCell ⟨g,3,none⟩ v1).setCell ⟨g,4,none⟩ v2) bs (.slice (some ⟨bs,0,none⟩) n n) n (cntG grp N)∧Below w.heap.size w ((W.setCell ⟨g,3,none⟩ v1).setCell ⟨g,4,none⟩ v2)∧
       (∀ v∈[a,b,(.slice A N c:Value),v1,v2,m],Ap (.slice (some ⟨bs,0,none⟩) n n) v)∧∀ v∈[v1,v2],∀ x,v.ownBlock=some x->w.heap.size<=x):=Zh (fun W v1 v2 hr=>by
       have h2:=HPX.o.two hr;rw[←HZZ.o,zy1] at h2;obtain⟨q1,q2,q3⟩:=h2;have hrl:=(yf5 HRR.o bs rfl).2;have hsn:∀ v∈[v1,v2],∀ x,v.ownBlock=some x->w.heap.size<=x:=fun v hv x ex=>by
        rcases q2 v hv x ex with q|⟨u,hu,eu⟩
        .exact yfa HBW.o.size q
        .exact HNEW.o u hu x eu
       refine⟨q1,HRR.o.kept q3 (fun x ex q=>?_),HBW.o.trans (q3.below HBW.o.size fun x q=>?_),fun v hv x ex ev=>?_,hsn⟩
       .rcases q with q|q|q|q
        .obtain⟨cu,hc⟩:=za7 HRR.o ex;exact za1 hc HPX.o.box yij q
        .exact HAP.o _ yii x ex q
        .exact HAP.o _ yii x ex q
        .exact HAP.o _ yii x ex q
       .rcases q with q|q|q|q
        .rw[q];exact HGW.o
        .exact HNEW.o _ yii x q
        .exact HNEW.o _ yii x q
        .exact HOWN.o m yii x q
       .simp only[yfi,yfk,or_false] at hv;have old:∀ v∈[v1,v2],v.ownBlock=some x->False:=fun v hv ev=>by
         rcases q2 v hv x ev with q|⟨u,hu,eu⟩
         .have hx:bs=x:=yjb;omega
         .refine HAP.o u ?_ x ex eu;simp only[yfi,yfk,or_false] at hu ⊢;rcases hu with rfl|rfl <;> simp
        rcases hv with rfl|rfl|rfl|rfl|rfl|rfl
        .exact HAP.o _ yii x ex ev
        .exact HAP.o _ yii x ex ev
        .exact HAP.o _ yii x ex ev
        .exact old _ yii ev
        .exact old _ yii ev
        .exact HAP.o _ yii x ex ev)
      refine za2 (rs:=[7,14]) yih yii ?_;refine zc6 ?_ ?_
      .refine za3 rfl fun K hK=>?_
       go_simp;have R1:=Zh (RR0.o.alloc (.cells #[.int .i64 (Z:Int)] 3));have N1:=Zh (New1.made w8 W0 RR0.o.size Z);refine hK.out _ _ trivial (fun _=>R1.o.keep) ?_;clear hK K;obtain⟨u1x,hu1⟩:∃ u,(Value.slice (some ⟨W0.heap.size,0,none⟩) 1 1)=u:=⟨_,rfl⟩;obtain⟨W1,hW1⟩:∃ W,W0.alloc (.cells #[.int .i64 (Z:Int)] 3)=W:=⟨_,rfl⟩;rw[hu1] at N1 ⊢;rw[hW1] at R1 N1 ⊢;clear hu1 hW1;refine za2 (rs:=[8,14]) yih yii ?_;refine zc6 ?_ ?_
       .refine za3 rfl fun K hK=>?_
        refine zax (l:=ns ((List.range k).map (bgG grp N))) (m:=ns [Z]) (B:=B) (C:=0) yih (.tmp 51) (.tmp 53) yih (by go_simp) (by go_simp) (nrow_ints.1 R1.o.r1) N1.o.ints (HLE.o _ _) (yfa HB8.o R1.o.size) ?_;intro v2 W2 r2 g2 o2;obtain⟨A2,c2,hv2⟩:=zaa (zb0 r2);subst hv2;have R2:=Zh (R1.o.app1 r2 g2 o2);refine hK.out _ _ trivial (fun _=>R2.o.keep) ?_;clear hK K r2 g2 o2;refine za2 (rs:=[14]) yih yii ?_;refine za5 ?_
        .refine za3 rfl fun K hK=>?_
         go_simp;have R3:=Zh (R2.o.alloc (.cells #[.int .i64 (Z:Int)] 3));have N3:=Zh (New1.made w8 W2 R2.o.size Z);refine hK.out _ _ trivial (fun _=>R3.o.keep) ?_;clear hK K;obtain⟨u3x,hu3⟩:∃ u,(Value.slice (some ⟨W2.heap.size,0,none⟩) 1 1)=u:=⟨_,rfl⟩;obtain⟨W3,hW3⟩:∃ W,W2.alloc (.cells #[.int .i64 (Z:Int)] 3)=W:=⟨_,rfl⟩;rw[hu3] at N3 ⊢;rw[hW3] at R3 N3 ⊢;clear hu3 hW3;refine za2 (rs:=[15]) yih yii ?_;refine za5 ?_
         .refine za3 rfl fun K hK=>?_
          refine zax (l:=ns ((List.range k).map (bgG grp N))) (m:=ns [Z]) (B:=B) (C:=0) yih (.tmp 58) (.tmp 60) yih (by go_simp) (by go_simp) (nrow_ints.1 R3.o.r2) N3.o.ints (HLE.o _ _) (yfa HB8.o R3.o.size) ?_;intro v4 W4 r4 g4 o4;obtain⟨A4,c4,hv4⟩:=zaa (zb0 r4);subst hv4;have R4:=Zh (R3.o.app2 r4 g4 o4);refine hK.out _ _ trivial (fun _=>R4.o.keep) ?_;clear hK K r4 g4 o4;have kl:=R4.o.keep;go_simp;have b0:=HC.o _ kl;have s3:=cell_of_row _ g 3 _ _ (0,0) b0;have f3:=frozen_of_row _ g 3 _ _ b0;have s4:=cell_of_row _ g 4 _ _ (0,0) b0;have f4:=frozen_of_row _ g 4 _ _ b0;clear b0;refine za2 (rs:=[16]) yih yii ?_;refine za5 (za3 rfl fun K hK=>?_);go_simp;refine hK.out _ _ trivial (fun _=>kl) ?_;clear hK K;refine za2 (rs:=[17]) yih yii ?_;refine za5 (za3 rfl fun K hK=>?_);go_simp;refine hK.out _ _ trivial (fun _=>kl) ?_;clear hK K;refine za2 (rs:=[18]) yih yii ?_;refine za5 (za3 rfl fun K hK=>?_);go_simp;refine hK.out _ _ trivial (zai (t:=18) yij yih) ?_;clear hK K;refine za2 (rs:=[19]) yih yii ?_;refine za5 (za3 rfl fun K hK=>?_);go_simp;refine hK.out _ _ trivial (zai (t:=18) yij yih) ?_;clear hK K;refine za2 (rs:=[20]) yih yii ?_;refine za5 (za3 rfl fun K hK=>?_);go_simp;refine hK.out _ _ trivial (zai (t:=18) yij yih) ?_;clear hK K;refine za2 (rs:=[21]) yih yii ?_;refine za5 (za3 rfl fun K hK=>?_);go_simp;refine hK.out _ _ trivial (zai (t:=18) yij yih) ?_;clear hK K;refine zci yih ?_ _;have fin:=FIN.o _ _ _ R4.o;have HFIN:=Zh fin;clear fin kl s3 s4 f3 f4;go_wp2;go_roundg (n-(k+1))
          case measure=>have:=HMM.o;omega
          case rel=>exact⟨k+1,_,_,by go_num,by omega,rfl,by rw[HBS.o],HFIN.o.1,HFIN.o.2.1,HFIN.o.2.2.1,HFIN.o.2.2.2.1,HFIN.o.2.2.2.2⟩
       .refine za3 rfl fun K hK=>?_
        go_simp;have R5:=Zh (R1.o.alloc (.cells #[.int .i64 (Z:Int)] 3));have N5:=Zh (New1.made w8 W1 R1.o.size Z);have F5_7:=Zh (N1.o.alloc (.cells #[.int .i64 (Z:Int)] 3));refine hK.out _ _ trivial (fun _=>R5.o.keep) ?_;clear hK K;obtain⟨u5x,hu5⟩:∃ u,(Value.slice (some ⟨W1.heap.size,0,none⟩) 1 1)=u:=⟨_,rfl⟩;obtain⟨W5,hW5⟩:∃ W,W1.alloc (.cells #[.int .i64 (Z:Int)] 3)=W:=⟨_,rfl⟩;rw[hu5] at N5 ⊢;rw[hW5] at R5 N5 F5_7 ⊢;clear hu5 hW5;refine za2 (rs:=[8]) yih yii ?_;refine za5 ?_
        .refine za3 rfl fun K hK=>?_
         refine zax (l:=ns ((List.range k).map (bgG grp N))) (m:=ns [Z]) (B:=B) (C:=0) yih (.tmp 51) (.tmp 53) yih (by go_simp) (by go_simp) (nrow_ints.1 R5.o.r1) F5_7.o.ints (HLE.o _ _) (yfa HB8.o R5.o.size) ?_;intro v6 W6 r6 g6 o6;obtain⟨A6,c6,hv6⟩:=zaa (zb0 r6);subst hv6;have R6:=Zh (R5.o.app1 r6 g6 o6);have F6_14:=Zh (N5.o.grown g6 HL1.o);refine hK.out _ _ trivial (fun _=>R6.o.keep) ?_;clear hK K r6 g6 o6;refine za2 (rs:=[15]) yih yii ?_;refine za5 ?_
         .refine za3 rfl fun K hK=>?_
          refine zax (l:=ns ((List.range k).map (bgG grp N))) (m:=ns [Z]) (B:=B) (C:=0) yih (.tmp 58) (.tmp 60) yih (by go_simp) (by go_simp) (nrow_ints.1 R6.o.r2) F6_14.o.ints (HLE.o _ _) (yfa HB8.o R6.o.size) ?_;intro v7 W7 r7 g7 o7;obtain⟨A7,c7,hv7⟩:=zaa (zb0 r7);subst hv7;have R7:=Zh (R6.o.app2 r7 g7 o7);refine hK.out _ _ trivial (fun _=>R7.o.keep) ?_;clear hK K r7 g7 o7;have kl:=R7.o.keep;go_simp;have b0:=HC.o _ kl;have s3:=cell_of_row _ g 3 _ _ (0,0) b0;have f3:=frozen_of_row _ g 3 _ _ b0;have s4:=cell_of_row _ g 4 _ _ (0,0) b0;have f4:=frozen_of_row _ g 4 _ _ b0;clear b0;refine za2 (rs:=[16]) yih yii ?_;refine za5 (za3 rfl fun K hK=>?_);go_simp;refine hK.out _ _ trivial (fun _=>kl) ?_;clear hK K;refine za2 (rs:=[17]) yih yii ?_;refine za5 (za3 rfl fun K hK=>?_);go_simp;refine hK.out _ _ trivial (fun _=>kl) ?_;clear hK K;refine za2 (rs:=[18]) yih yii ?_;refine za5 (za3 rfl fun K hK=>?_);go_simp;refine hK.out _ _ trivial (zai (t:=18) yij yih) ?_;clear hK K;refine za2 (rs:=[19]) yih yii ?_;refine za5 (za3 rfl fun K hK=>?_);go_simp;refine hK.out _ _ trivial (zai (t:=18) yij yih) ?_;clear hK K;refine za2 (rs:=[20]) yih yii ?_;refine za5 (za3 rfl fun K hK=>?_);go_simp;refine hK.out _ _ trivial (zai (t:=18) yij yih) ?_;clear hK K;refine za2 (rs:=[21]) yih yii ?_;refine za5 (za3 rfl fun K hK=>?_);go_simp;refine hK.out _ _ trivial (zai (t:=18) yij yih) ?_;clear hK K;refine zci yih ?_ _;have fin:=FIN.o _ _ _ R7.o;have HFIN:=Zh fin;clear fin kl s3 s4 f3 f4;go_wp2;go_roundg (n-(k+1))
          case measure=>have:=HMM.o;omega
          case rel=>exact⟨k+1,_,_,by go_num,by omega,rfl,by rw[HBS.o],HFIN.o.1,HFIN.o.2.1,HFIN.o.2.2.1,HFIN.o.2.2.2.1,HFIN.o.2.2.2.2⟩
      .refine za3 rfl fun K hK=>?_
       go_simp;have R8:=Zh (RR0.o.alloc (.cells #[.int .i64 (Z:Int)] 3));have N8:=Zh (New1.made w8 W0 RR0.o.size Z);refine hK.out _ _ trivial (fun _=>R8.o.keep) ?_;clear hK K;obtain⟨u8x,hu8⟩:∃ u,(Value.slice (some ⟨W0.heap.size,0,none⟩) 1 1)=u:=⟨_,rfl⟩;obtain⟨W8,hW8⟩:∃ W,W0.alloc (.cells #[.int .i64 (Z:Int)] 3)=W:=⟨_,rfl⟩;rw[hu8] at N8 ⊢;rw[hW8] at R8 N8 ⊢;clear hu8 hW8;refine za2 (rs:=[7]) yih yii ?_;refine za5 ?_
       .refine za3 rfl fun K hK=>?_
        go_simp;have R9:=Zh (R8.o.alloc (.cells #[.int .i64 (Z:Int)] 3));have N9:=Zh (New1.made w8 W8 R8.o.size Z);have F9_14:=Zh (N8.o.alloc (.cells #[.int .i64 (Z:Int)] 3));refine hK.out _ _ trivial (fun _=>R9.o.keep) ?_;clear hK K;obtain⟨u9x,hu9⟩:∃ u,(Value.slice (some ⟨W8.heap.size,0,none⟩) 1 1)=u:=⟨_,rfl⟩;obtain⟨W9,hW9⟩:∃ W,W8.alloc (.cells #[.int .i64 (Z:Int)] 3)=W:=⟨_,rfl⟩;rw[hu9] at N9 ⊢;rw[hW9] at R9 N9 F9_14 ⊢;clear hu9 hW9;refine za2 (rs:=[8]) yih yii ?_;refine za5 ?_
        .refine za3 rfl fun K hK=>?_
         refine zax (l:=ns ((List.range k).map (bgG grp N))) (m:=ns [Z]) (B:=B) (C:=0) yih (.tmp 51) (.tmp 53) yih (by go_simp) (by go_simp) (nrow_ints.1 R9.o.r1) N9.o.ints (HLE.o _ _) (yfa HB8.o R9.o.size) ?_;intro v10 W10 r10 g10 o10;obtain⟨A10,c10,hv10⟩:=zaa (zb0 r10);subst hv10;have R10:=Zh (R9.o.app1 r10 g10 o10);have F10_14:=Zh (F9_14.o.grown g10 HL1.o);refine hK.out _ _ trivial (fun _=>R10.o.keep) ?_;clear hK K r10 g10 o10;refine za2 (rs:=[15]) yih yii ?_;refine za5 ?_
         .refine za3 rfl fun K hK=>?_
          refine zax (l:=ns ((List.range k).map (bgG grp N))) (m:=ns [Z]) (B:=B) (C:=0) yih (.tmp 58) (.tmp 60) yih (by go_simp) (by go_simp) (nrow_ints.1 R10.o.r2) F10_14.o.ints (HLE.o _ _) (yfa HB8.o R10.o.size) ?_;intro v11 W11 r11 g11 o11;obtain⟨A11,c11,hv11⟩:=zaa (zb0 r11);subst hv11;have R11:=Zh (R10.o.app2 r11 g11 o11);refine hK.out _ _ trivial (fun _=>R11.o.keep) ?_;clear hK K r11 g11 o11;have kl:=R11.o.keep;go_simp;have b0:=HC.o _ kl;have s3:=cell_of_row _ g 3 _ _ (0,0) b0;have f3:=frozen_of_row _ g 3 _ _ b0;have s4:=cell_of_row _ g 4 _ _ (0,0) b0;have f4:=frozen_of_row _ g 4 _ _ b0;clear b0;refine za2 (rs:=[16]) yih yii ?_;refine za5 (za3 rfl fun K hK=>?_);go_simp;refine hK.out _ _ trivial (fun _=>kl) ?_;clear hK K;refine za2 (rs:=[17]) yih yii ?_;refine za5 (za3 rfl fun K hK=>?_);go_simp;refine hK.out _ _ trivial (fun _=>kl) ?_;clear hK K;refine za2 (rs:=[18]) yih yii ?_;refine za5 (za3 rfl fun K hK=>?_);go_simp;refine hK.out _ _ trivial (zai (t:=18) yij yih) ?_;clear hK K;refine za2 (rs:=[19]) yih yii ?_;refine za5 (za3 rfl fun K hK=>?_);go_simp;refine hK.out _ _ trivial (zai (t:=18) yij yih) ?_;clear hK K;refine za2 (rs:=[20]) yih yii ?_;refine za5 (za3 rfl fun K hK=>?_);go_simp;refine hK.out _ _ trivial (zai (t:=18) yij yih) ?_;clear hK K;refine za2 (rs:=[21]) yih yii ?_;refine za5 (za3 rfl fun K hK=>?_);go_simp;refine hK.out _ _ trivial (zai (t:=18) yij yih) ?_;clear hK K;refine zci yih ?_ _;have fin:=FIN.o _ _ _ R11.o;have HFIN:=Zh fin;clear fin kl s3 s4 f3 f4;go_wp2;go_roundg (n-(k+1))
          case measure=>have:=HMM.o;omega
          case rel=>exact⟨k+1,_,_,by go_num,by omega,rfl,by rw[HBS.o],HFIN.o.1,HFIN.o.2.1,HFIN.o.2.2.1,HFIN.o.2.2.2.1,HFIN.o.2.2.2.2⟩
     .have hkl:n=k:=yie;subst hkl;have hpm0:PM wr B g a b (.slice A N c) d e m ⟨N,n,(layG grp N 0).1,(layG grp N 0).2.1,grp,bgG grp N,(layG grp N 0).2.2,fun _=>0⟩:=PX.pm (p:=⟨N,n,(layG grp N 0).1,(layG grp N 0).2.1,grp,bgG grp N,(layG grp N 0).2.2,fun _=>0⟩) hpx;have hmem:∀ v∈[a,b,d,e,m],∀ x,v.ownBlock=some x->w.heap.size<=x:=fun v hv x ex=>by
       simp only[yfi,yfk,or_false] at hv;rcases hv with rfl|rfl|rfl|rfl|rfl
       .exact HOWN.o _ yii x ex
       .exact HOWN.o _ yii x ex
       .exact HNEW.o _ yii x ex
       .exact HNEW.o _ yii x ex
       .exact HOWN.o _ yii x ex
      have HPM0:=Zh hpm0;have HMEM:=Zh hmem;clear hpm0 hmem hpx hr hbw hap hnew;go_upto_region 16 with fail
      generalize wr=w8 at *;go_loopg [72] N (fun mm s wr=>∃ S:Nat,s = .int .i64 (S:Int)∧S<=N∧mm=N-S∧PM wr B g a b (.slice A N c) d e m ⟨N,n,(layG grp N S).1,(layG grp N S).2.1,grp,bgG grp N,(layG grp N S).2.2,fun _=>0⟩∧Below w.heap.size w wr)
      case atStart=>exact⟨0,by first | rfl | trivial,yf8 _,by first | rfl | trivial,HPM0.o,HBW.o⟩
      case round =>
       obtain⟨S,rfl,hS,hmm,hpm,hbw⟩:=hrel;have HM4:=Zh hmm;have HP4:=Zh hpm;have HB4:=Zh hbw;clear hmm
       by_cases hSN:S<N
       .obtain⟨bg2,cg2,eg2,_,zg⟩:=hpm.rc.at hSN;have hA:A=some ⟨bg2,0,none⟩:=(by injection eg2);subst hA;have hgS:=HG.o S hSN;have hpos:=zv3 (N:=N) HG.o hSN;have hen:(layG grp N S).2.2 (grp S)=posG grp N S:=zi0 S _;obtain⟨G,hG⟩:∃ G,grp S=G:=⟨_,rfl⟩;change wr.cell? ⟨bg2,S,none⟩=some (.int .i64 ((grp S:Nat):Int)) at zg;rw[hG] at zg hgS hen;obtain⟨be,ce,ee,_,ze⟩:=hpm.re.at hgS;subst ee;change wr.cell? ⟨be,G,none⟩=some (.int .i64 (((layG grp N S).2.2 G:Nat):Int)) at ze;obtain⟨P,hP⟩:∃ P,posG grp N S=P:=⟨_,rfl⟩;rw[hP] at hen hpos;rw[hen] at ze;have r4:wr.cell? ⟨g,4,none⟩=some (.slice (some ⟨be,0,none⟩) n ce):=cell_of_row wr g 4 _ _ (0,0) hpm.box;have hpu:=ybb (s:=S) (i:=P) hpm hSN hpos (show N<=100000 by have:=HN.o;omega);have HPU:=Zh hpu;have HGG:=Zh hG;have HEN:=Zh hen;have HGN:=Zh hgS;have j0:(0:Int)<=(S:Int):=yie;have j1:(S:Int)<(N:Int):=yie;have j2:(0:Int)<=(G:Int):=yie;have j3:(G:Int)<(n:Int):=yie;have j4:(P:Int)<90000:=(by have:=HN.o;omega);clear hpu hG hen hgS hpos hP hpm hbw eg2;go_upto_region 19 with (first
         | (go_at_call 78;(with_reducible refine HPU.o.mono ?_);rintro e' w9 ⟨rfl,h9,k9⟩;have HP9:=Zh h9;have HK9:=Zh k9;clear h9 k9)
         | fail)
        clear ze r4 zg;have hp9:=HP9.o;obtain⟨be',ce',ee,_,ze⟩:=hp9.re.at HGN.o;obtain⟨rfl,rfl⟩:be=be'∧ce=ce':=by
         injection ee with x1 x2 x3
         injection x1 with x1
         injection x1 with x1
         exact⟨x1,x3⟩
        change w9.cell? ⟨be,G,none⟩=some (.int .i64 (((layG grp N S).2.2 G:Nat):Int)) at ze;rw[HEN.o] at ze;have r4:w9.cell? ⟨g,4,none⟩=some (.slice (some ⟨be,0,none⟩) n ce):=cell_of_row w9 g 4 _ _ (0,0) hp9.box;have fe:=hp9.re.frozen G;have hset:=PM.setE (p:=putF ⟨N,n,(layG grp N S).1,(layG grp N S).2.1,grp,bgG grp N,(layG grp N S).2.2,fun _=>0⟩ S P) (G:=G) (v:=P+1) hp9;have hkw:=(HB4.o.trans (HK9.o.below HB4.o.size fun x q=>by
         rcases q with q|q
         .exact HMEM.o _ yii x q
         .exact HMEM.o _ yii x q)).setCell (p:=⟨be,G,none⟩) (HMEM.o (.slice (some ⟨be,0,none⟩) n ce) yii be rfl) (.int .i64 ((P+1:Nat):Int))
        rw[show ((P+1:Nat):Int)=(P:Int)+1 by omega] at hset hkw;have HSET:=Zh hset;have HKW:=Zh hkw;clear hset hkw hp9 ee;go_wp2;go_roundg (N-(S+1))
        case measure=>have:=HM4.o;omega
        case rel =>
         refine⟨S+1,by go_num,by omega,rfl,?_,HKW.o⟩;have h1:=HSET.o;have e1:(⟨N,n,(layG grp N (S+1)).1,(layG grp N (S+1)).2.1,grp,bgG grp N,(layG grp N (S+1)).2.2,fun _=>0⟩:PT)={putF ⟨N,n,(layG grp N S).1,(layG grp N S).2.1,grp,bgG grp N,(layG grp N S).2.2,fun _=>0⟩ S P with en:=upd (putF ⟨N,n,(layG grp N S).1,(layG grp N S).2.1,grp,bgG grp N,(layG grp N S).2.2,fun _=>0⟩ S P).en G (P+1)}:=by
          rw[layG,HGG.o];simp only[HEN.o];rfl
         rw[e1];exact h1
       .have hkl:N=S:=yie;subst hkl;go_wp2;go_ret;exact⟨g,a,b,d,e,m,rfl,hpm,hbw,HGW.o,HMEM.o⟩
section
structure ME (w:World) (B gm:Nat) (vg vn vf:Value) (N:Nat) (κ num:Nat->Nat) (fs:List Nat):Prop where
 gB:B<=gm
 box:w.heap[gm]?=some (.cells #[vg,vn,vf] 137 (0,0))
 rg:NRow w B vg N κ
 rn:NRow w B vn N num
 rf:Ints w B vf (ns fs)
 gn:Ap vg vn
 gf:Ap vg vf
 nf:Ap vn vf
 zero:∀ k,k<N->(num k=0↔k∉fs.map κ)
 at':∀ (i s:Nat),fs[i]?=some s->num (κ s)=i+1
 lt:∀ s,s<N->κ s<N
 met:Met κ N fs
section
variable {w w':World} {B gm N:Nat} {vg vn vf v':Value} {κ num:Nat->Nat} {fs:List Nat}
theorem ME.kept {Q:Nat->Prop} (h:ME w B gm vg vn vf N κ num fs) (hk:Kept Q w w') (hg:¬ Q gm) (hq:∀ v∈[vg,vn,vf],∀ x,v.ownBlock=some x->¬ Q x):ME w' B gm vg vn vf N κ num fs:=
 ⟨h.gB,(hk.block gm (za0 h.box) hg).trans h.box,h.rg.kept hk (hq vg yii),h.rn.kept hk (hq vn yii),h.rf.off hk (hq vf yii),h.gn,h.gf,h.nf,h.zero,h.at',h.lt,h.met⟩
theorem ME.few (h:ME w B gm vg vn vf N κ num fs):fs.length<=N:=by
 have:=zgt (fs.map κ) (List.range N) h.met.nod (fun x hx=>by
  rw[yg6] at hx;obtain⟨s,hs,rfl⟩:=hx;rw[yfz];exact h.lt s (h.met.lt s hs))
 simpa using this
theorem ME.push {bn cn s:Nat} (h:ME w B gm vg (.slice (some ⟨bn,0,none⟩) N cn) vf N κ num fs) (hs:s<N) (hn:κ s∉fs.map κ) (hk:Kept (fun x=>vf.ownBlock=some x) w w') (hr:Ints w' B v' (ns fs++ns [s])) (ho:∀ x,v'.ownBlock=some x->vf.ownBlock=some x∨w.heap.size<=x):
 w'.heap[gm]?=some (.cells #[vg,.slice (some ⟨bn,0,none⟩) N cn,vf] 137 (0,0))∧NRow (w'.setCell ⟨gm,2,none⟩ v') B (.slice (some ⟨bn,0,none⟩) N cn) N num∧
 ME ((w'.setCell ⟨gm,2,none⟩ v').setCell ⟨bn,κ s,none⟩ (.int .i64 ((fs.length+1:Nat):Int))) B gm vg (.slice (some ⟨bn,0,none⟩) N cn) v' N κ (upd num (κ s) (fs.length+1)) (fs++[s])∧
 Kept (fun x=>x=gm∨(Value.slice (some ⟨bn,0,none⟩) N cn).ownBlock=some x∨vf.ownBlock=some x) w ((w'.setCell ⟨gm,2,none⟩ v').setCell ⟨bn,κ s,none⟩ (.int .i64 ((fs.length+1:Nat):Int))):=by
 have ng:∀ {u:Value} {B':Nat} {n:Nat} {f:Nat->Nat} {W:World},NRow W B' u n f->W.heap[gm]?=some (.cells #[vg,.slice (some ⟨bn,0,none⟩) N cn,vf] 137 (0,0))->∀ x,u.ownBlock=some x->x≠gm:=fun hu hb x hx=>by
  obtain⟨cu,hc⟩:=za7 hu hx;exact za1 hc hb yij
 have nf2:∀ x,vf.ownBlock=some x->x≠gm:=fun x hx=>by
  obtain⟨cu,hc⟩:=za7 h.rf hx;exact za1 hc h.box yij
 have hbox:w'.heap[gm]?=some (.cells #[vg,.slice (some ⟨bn,0,none⟩) N cn,vf] 137 (0,0)):=(hk.block gm (za0 h.box) fun q=>nf2 gm q rfl).trans h.box;have hbg:bn≠gm:=ng h.rn h.box bn rfl;have nfv:∀ x,v'.ownBlock=some x->x≠gm:=fun x hx=>by
  obtain⟨cu,hc⟩:=za7 hr hx;exact za1 hc hbox yij
 have lts:∀ {u:Value} {n:Nat} {f:Nat->Nat},NRow w B u n f->∀ x,u.ownBlock=some x->x<w.heap.size:=fun hu x ex=>(yf5 hu x ex).2
 have apv:∀ {u:Value} {n:Nat} {f:Nat->Nat},NRow w B u n f->Ap u vf->Ap u v':=fun hu z x ex ev=>by
  rcases ho x ev with q|q
  .exact z x ex q
  .have:=lts hu x ex;omega
 have k1:Kept (fun x=>x=gm) w' (w'.setCell ⟨gm,2,none⟩ v'):=(Kept.refl (fun x=>x=gm) w').setCell (a:=⟨gm,2,none⟩) (.inl rfl) v';have k2:Kept (fun x=>x=bn) (w'.setCell ⟨gm,2,none⟩ v') ((w'.setCell ⟨gm,2,none⟩ v').setCell ⟨bn,κ s,none⟩ (.int .i64 ((fs.length+1:Nat):Int))):=(Kept.refl (fun x=>x=bn) _).setCell (a:=⟨bn,κ s,none⟩) (.inl rfl) _;have hrn:=(h.rn.kept hk fun x ex q=>h.nf x ex q).kept k1 fun x ex q=>ng h.rn h.box x ex q
 refine⟨hbox,hrn,⟨h.gB,(k2.block gm (by have:=za0 hbox;have:=k1.size;omega) fun e=>hbg e.symm).trans (heap_setCell_same w' gm 2 _ _ v' hbox),((h.rg.kept hk fun x ex q=>h.gf x ex q).kept k1 fun x ex q=>ng h.rg h.box x ex q).kept k2 fun x ex q=>h.gn x ex (by rw[q];rfl),?_,?_,h.gn,apv h.rg h.gf,apv h.rn h.nf,fun k hkN=>?_,fun i t hi=>?_,h.lt,h.met.push hs hn⟩,?_⟩
 .exact hrn.set (κ s) (fs.length+1)
 .have h3:Ints w' B v' (ns (fs++[s])):=(by simpa [ns] using hr);exact (h3.off k1 fun x ex q=>nfv x ex q).off k2 fun x ex q=>apv h.rn h.nf bn rfl (by rw[←q];exact ex)
 .by_cases e:k=κ s
  .subst e;rw[zac];simp
  .rw[zao _ _ e,h.zero k hkN];simp[e]
 .by_cases hil:i<fs.length
  .rw[yfb hil] at hi;have hm:=yfh hi;have hne:κ t≠κ s:=fun e=>hn (e▸List.mem_map_of_mem hm)
   rw[zao _ _ hne];exact h.at' i t hi
  .have hi':i=fs.length:=by
    have:=(yf4.1 hi).1;simp at this;omega
   subst hi';simp at hi;subst hi;rw[zac]
 .exact ((hk.mono (Q':=fun x=>x=gm∨(Value.slice (some ⟨bn,0,none⟩) N cn).ownBlock=some x∨vf.ownBlock=some x) fun x q => .inl (.inr (.inr q))).trans k1 fun x q => .inl (.inl q)).trans k2 fun x q => .inl (.inr (.inl (by rw[q];rfl)))
end
def yd0 (w:World) (B gm:Nat) (vg vn vf:Value) (N:Nat) (κ:Nat->Nat) (fs:List Nat) (s:Nat) (e:Ending) (w':World):Prop:=
 ∃ (i:Nat) (fs':List Nat) (num':Nat->Nat) (vf':Value),e = .returned (.int .i64 (i:Int))∧ME w' B gm vg vn vf' N κ num' fs'∧((fs'=fs∧(fs.map κ)[i]?=some (κ s))∨(fs'=fs++[s]∧i=fs.length∧κ s∉fs.map κ))∧
  Kept (fun x=>x=gm∨vn.ownBlock=some x∨vf.ownBlock=some x) w w'∧∀ x,vf'.ownBlock=some x->vf.ownBlock=some x∨w.heap.size<=x
theorem yaj {w:World} {B gm N s:Nat} {vg vn vf:Value} {κ num:Nat->Nat} {fs:List Nat} (h:ME w B gm vg vn vf N κ num fs) (hs:s<N) (hN:N<=90000):
 Calls Tryd.prog 48 #[.pointer (some ⟨gm,0,none⟩),.int .i64 (s:Int)] w (yd0 w B gm vg vn vf N κ fs s):=by
 have hG:=h.lt s hs;obtain⟨bg,cg,heg,_,hg0⟩:=h.rg.at hs;obtain⟨bn,cn,hen,_,hn0⟩:=h.rn.at hG;subst heg hen;obtain⟨Af,cf,hvf⟩:=zaa h.rf;rw[zaj] at hvf;subst hvf;have hfew:=h.few;have hzero:=h.zero (κ s) hG;have HH:=Zh h;obtain⟨G,hGe⟩:∃ G,κ s=G:=⟨_,rfl⟩;obtain⟨D,hDe⟩:∃ D,num G=D:=⟨_,rfl⟩;rw[hGe] at hg0 hn0 hG hzero;rw[hDe] at hn0 hzero;have q0:w.cell? ⟨gm,0,none⟩=some (.slice (some ⟨bg,0,none⟩) N cg):=cell_of_row w gm 0 _ _ (0,0) h.box;have q1:w.cell? ⟨gm,1,none⟩=some (.slice (some ⟨bn,0,none⟩) N cn):=cell_of_row w gm 1 _ _ (0,0) h.box;have q2:w.cell? ⟨gm,2,none⟩=some (.slice Af fs.length cf):=cell_of_row w gm 2 _ _ (0,0) h.box;have i0:(0:Int)<=(s:Int):=yie;have i1:(s:Int)<(N:Int):=yie;have i2:(0:Int)<=(G:Int):=yie;have i3:(G:Int)<(N:Int):=yie;have HGE:=Zh hGe;have HDE:=Zh hDe;have HS:=Zh hs;have HN:=Zh hN;have HFEW:=Zh hfew;have HGB:=Zh (show B<=w.heap.size by have:=za0 h.box;have:=h.gB;omega);clear hGe hDe hfew
 by_cases hin:G∈fs.map κ
 .obtain⟨t,ht,hte⟩:=yg6.1 hin;obtain⟨i,hi⟩:=ygr ht;have hD:D=i+1:=(by rw[←HDE.o,←hte];exact h.at' i t hi);subst hD;have hil:i<fs.length:=(yf4.1 hi).1;have i4:(i:Int)<90000:=(by have:=HFEW.o;have:=HN.o;omega);have hq:(((i+1:Nat):Int)==0)=false:=yil;have HI:=Zh (show (fs.map κ)[i]?=some (κ s) by rw[yfs,hi,HGE.o,←hte];rfl);have hci:((i+1:Nat):Int)=(i:Int)+1:=yie;clear h hin ht hte hi hzero;change w.cell? ⟨bn,G,none⟩=some (.int .i64 ((i+1:Nat):Int)) at hn0;rw[hci] at hn0;rw[hci] at hq;go_enter Tryd.func48,Tryd.ntmps48;go_wp2;go_ret;exact⟨i,fs,num,_,by first | rfl | (congr 2;omega),HH.o,.inl ⟨rfl,HI.o⟩,Kept.refl _ _,fun x ex => .inl ex⟩
 .have hD:D=0:=hzero.2 hin;subst hD;have HIN:=Zh hin;have HIN2:=Zh (show κ s∉fs.map κ by rw[HGE.o];exact hin);have HLEN:=Zh (show (ns fs).length+(ns [s]).length<=100000 by simp[ns];have:=HFEW.o;have:=HN.o;omega);clear h hin hzero;go_enter Tryd.func48,Tryd.ntmps48;go_upto_region 4 with (first
   | (at_builtin;go_loud (refine zbc (l:=ns fs) (m:=ns [s]) (B:=B) (C:=B) yik _ _ yik yik yik (HH.o.rf.off (Kept.of_below (fun _=>False) ((yf6 _ _).alloc (yez _) _)) (fun _ _ q=>q)) (zh5 (heap_alloc_new _ _) HGB.o) HLEN.o (yfa HGB.o yii) ?_);intro v8 w8 h8 hg8 ho8;go_loud (obtain⟨A8,c8,e8⟩:=zaa h8;rw[show (ns fs++ns [s]).length=fs.length+1 by simp[ns]] at e8;subst e8;have pu:=HH.o.push HS.o HIN2.o (((Kept.refl _ w).alloc _).grown hg8 fun x ex => .inl ex) h8 (fun x ex=>ho8.elim (fun e => .inl (e ▸ ex)) (fun e => .inr yj7));have b8:=pu.1;have y8:=cell_of_row _ gm 2 _ _ (0,0) b8;have f8:=frozen_of_row _ gm 2 _ _ b8;have HPU:=Zh pu;have HO8:=Zh ho8;clear h8 hg8 ho8 pu;go_simp))
   | fail)
  have b9:=heap_setCell_same w8 gm 2 _ _ (.slice A8 (fs.length+1) c8) b8;have r9:=HPU.o.2.1;have hfin:=HPU.o.2.2;rw[HGE.o] at hfin;generalize w8.setCell ⟨gm,2,none⟩ (.slice A8 (fs.length+1) c8)=w9 at *;have x1:w9.cell? ⟨gm,1,none⟩=some (.slice (some ⟨bn,0,none⟩) N cn):=cell_of_row w9 gm 1 _ _ (0,0) b9;have x2:w9.cell? ⟨gm,2,none⟩=some (.slice A8 (fs.length+1) c8):=cell_of_row w9 gm 2 _ _ (0,0) b9;have xn:=(yf7 r9 G yie).trans (zat hG);have fn:=r9.frozen G;have HFIN:=Zh hfin;clear b9 r9 hfin b8 f8 y8 HPU q0 q1 q2 hg0 hn0;go_still_tail 11,yih;change wpList _ _ _ _ _ (World.drew _);go_upto_region 5 with fail
  have hci:((fs.length+1:Nat):Int)=(fs.length:Int)+1:=yie;have hf1:=HFIN.o.1;have hf2:=HFIN.o.2;rw[hci] at hf1 hf2;obtain⟨w10,hw10⟩:∃ w10,(w9.setCell ⟨bn,G,none⟩ (.int .i64 ((fs.length:Int)+1))).drew=w10:=⟨_,rfl⟩;have hme:=hf1.kept (w':=(w9.setCell ⟨bn,G,none⟩ (.int .i64 ((fs.length:Int)+1))).drew) ((Kept.refl (fun _=>False) _).drew) (fun q=>q) (fun _ _ _ _ q=>q);have hkp:=hf2.drew;rw[hw10] at hme hkp ⊢;have z1:w10.cell? ⟨gm,1,none⟩=some (.slice (some ⟨bn,0,none⟩) N cn):=cell_of_row w10 gm 1 _ _ (0,0) hme.box;have zn:=(yf7 hme.rn G yie).trans (zat hG);rw[zac,hci] at zn;have i4:(fs.length:Int)<100000:=(by have:=HFEW.o;have:=HN.o;omega);have HME:=Zh hme;have HKP:=Zh hkp;clear hme hkp hf1 hf2 xn fn x1 x2 hw10;go_wp2;go_ret;refine⟨fs.length,fs++[s],_,_,by first | rfl | (congr 2;omega),HME.o,.inr ⟨rfl,rfl,HIN2.o⟩,HKP.o,fun x ex=>?_⟩;rcases HO8.o with e | e
  .exact .inl (e▸ex)
  .exact .inr yj7
end
section
structure LE (B:Nat) (w0 w:World) (gl gm:Nat) (O:Nat->Prop) (F:Nat->Nat) (n:Int) (vg vn vf vN vO:Value) (N:Nat) (κ num:Nat->Nat) (fs:List Nat) (rows:List (List Nat)) (outs:List (Nat×Nat)):Prop where
 me:ME w B gm vg vn vf N κ num fs
 gB:B<=gl
 box:BoxM w gl 38 F n vN vO
 nxt:Nxt w B O vN rows
 ots:Ots w B O vO outs
 olt:∀ b,O b->B<=b∧b<w.heap.size
 oap:∀ v∈[vg,vn,vf],∀ x,v.ownBlock=some x->¬ O x
 ogl:¬ O gl
 ogm:¬ O gm
 below:Below B w0 w
structure LR (B:Nat) (w0 w:World) (gl gm gx C:Nat) (O:Nat->Prop) (F:Nat->Nat) (n:Int) (vg vn vf vN vO:Value) (N:Nat) (κ num:Nat->Nat) (fs:List Nat) (rows:List (List Nat)) (outs:List (Nat×Nat)) (f:Nat->Nat):Prop where
 le:LE B w0 w gl gm O F n vg vn vf vN vO N κ num fs rows outs
 row:NRow w B (.slice (some ⟨gx,0,none⟩) C C) C f
 xo:¬ O gx
 xa:∀ v∈[vg,vn,vf],v.ownBlock≠some gx
section
variable {B gl gm gx C N s:Nat} {w0 w w':World} {O Q:Nat->Prop} {F κ num f:Nat->Nat} {n:Int} {vg vn vf vN vO:Value} {fs:List Nat} {rows:List (List Nat)} {outs:List (Nat×Nat)} {en:Ending}
theorem LE.notgl (h:LE B w0 w gl gm O F n vg vn vf vN vO N κ num fs rows outs):gl≠gm∧∀ v∈[vg,vn,vf],v.ownBlock≠some gl:=by
 refine⟨za1 h.box h.me.box yij,fun v hv q=>?_⟩;have hi:∃ cur,w.heap[gl]?=some (.cells cur 3 (0,0)):=by
  simp only[yfi,yfk,or_false] at hv;rcases hv with rfl|rfl|rfl
  .exact za7 h.me.rg q
  .exact za7 h.me.rn q
  .exact za7 h.me.rf q
 obtain⟨cur,hc⟩:=hi;exact za1 hc h.box yij rfl
theorem LE.stays (h:LE B w0 w gl gm O F n vg vn vf vN vO N κ num fs rows outs) (hb:Below w.heap.size w w'):LE B w0 w' gl gm O F n vg vn vf vN vO N κ num fs rows outs:=
 ⟨h.me.kept (Kept.of_below (fun _=>False) hb) (fun q=>q) (fun _ _ _ _ q=>q),h.gB,h.box.stays hb,h.nxt.kept (Kept.of_below (fun _=>False) hb) (fun _ _ q=>q),h.ots.kept (Kept.of_below (fun _=>False) hb) (fun _ _ q=>q),fun b hO=>by have:=h.olt b hO;have:=hb.size;omega,h.oap,h.ogl,h.ogm,h.below.trans (hb.mono (by have:=h.box.lt;have:=h.gB;omega))⟩
theorem LE.meet (h:LE B w0 w gl gm O F n vg vn vf vN vO N κ num fs rows outs) (hr:yd0 w B gm vg vn vf N κ fs s en w'):
 ∃ (i:Nat) (fs':List Nat) (num':Nat->Nat) (vf':Value),en = .returned (.int .i64 (i:Int))∧((fs'=fs∧(fs.map κ)[i]?=some (κ s))∨(fs'=fs++[s]∧i=fs.length∧κ s∉fs.map κ))∧LE B w0 w' gl gm O F n vg vn vf' vN vO N κ num' fs' rows outs∧
  Kept (fun x=>x=gm∨vn.ownBlock=some x∨vf.ownBlock=some x) w w'∧∀ x,vf'.ownBlock=some x->vf.ownBlock=some x∨w.heap.size<=x:=by
 obtain⟨i,fs',num',vf',e,me,hor,hk,hq⟩:=hr;obtain⟨n1,n2⟩:=h.notgl;have hO:∀ b,O b->¬ (b=gm∨vn.ownBlock=some b∨vf.ownBlock=some b):=fun b hb q=>by
  rcases q with q|q|q
  .exact h.ogm (q▸hb)
  .exact h.oap vn yii b q hb
  .exact h.oap vf yii b q hb
 have hlt:B<=w.heap.size:=(by have:=h.box.lt;have:=h.gB;omega);refine⟨i,fs',num',vf',e,hor,⟨me,h.gB,h.box.kept hk fun q=>?_,h.nxt.kept hk hO,h.ots.kept hk hO,fun b hb=>by have:=h.olt b hb;have:=hk.size;omega,fun v hv x ex hx=>?_,h.ogl,h.ogm,h.below.trans (hk.below hlt fun x q=>?_)⟩,hk,hq⟩
 .rcases q with q|q|q
  .exact n1 q
  .exact n2 vn yii q
  .exact n2 vf yii q
 .simp only[yfi,yfk,or_false] at hv;rcases hv with rfl|rfl|rfl
  .exact h.oap v yii x ex hx
  .exact h.oap v yii x ex hx
  .rcases hq x ex with q|q
   .exact h.oap vf yii x q hx
   .have:=(h.olt x hx).2;omega
 .rcases q with q|q|q
  .rw[q];exact h.me.gB
  .exact (yf5 h.me.rn x q).1
  .exact (yf5 h.me.rf x q).1
theorem LR.xlt (h:LR B w0 w gl gm gx C O F n vg vn vf vN vO N κ num fs rows outs f):B<=gx∧gx<w.heap.size:=yf5 h.row gx rfl
theorem LR.xne (h:LR B w0 w gl gm gx C O F n vg vn vf vN vO N κ num fs rows outs f):gx≠gl∧gx≠gm:=by
 obtain⟨cu,hc⟩:=za7 h.row (b:=gx) rfl;exact⟨za1 hc h.le.box yij,za1 hc h.le.me.box yij⟩
theorem LR.meet (h:LR B w0 w gl gm gx C O F n vg vn vf vN vO N κ num fs rows outs f) (hr:yd0 w B gm vg vn vf N κ fs s en w'):
 ∃ (i:Nat) (fs':List Nat) (num':Nat->Nat) (vf':Value),en = .returned (.int .i64 (i:Int))∧((fs'=fs∧(fs.map κ)[i]?=some (κ s))∨(fs'=fs++[s]∧i=fs.length∧κ s∉fs.map κ))∧LR B w0 w' gl gm gx C O F n vg vn vf' vN vO N κ num' fs' rows outs f:=by
 obtain⟨i,fs',num',vf',e,hor,hle,hk,hq⟩:=h.le.meet hr;have hx:=h.xlt;refine⟨i,fs',num',vf',e,hor,hle,h.row.kept hk fun x ex q=>?_,h.xo,fun v hv q=>?_⟩
 .have e':gx=x:=yjb;subst e';rcases q with q|q|q
  .exact h.xne.2 q
  .exact h.xa vn yii q
  .exact h.xa vf yii q
 .simp only[yfi,yfk,or_false] at hv;rcases hv with rfl|rfl|rfl
  .exact h.xa v yii q
  .exact h.xa v yii q
  .rcases hq gx q with z|z
   .exact h.xa vf yii z
   .omega
theorem LR.set (h:LR B w0 w gl gm gx C O F n vg vn vf vN vO N κ num fs rows outs f) (c v:Nat):LR B w0 (w.setCell ⟨gx,c,none⟩ (.int .i64 (v:Int))) gl gm gx C O F n vg vn vf vN vO N κ num fs rows outs (upd f c v):=by
 have k1:Kept (fun x=>x=gx) w (w.setCell ⟨gx,c,none⟩ (.int .i64 (v:Int))):=(Kept.refl (fun x=>x=gx) w).setCell (a:=⟨gx,c,none⟩) (.inl rfl) _;have hO:∀ b,O b->¬ b=gx:=fun b hb q=>h.xo (q▸hb)
 refine⟨⟨h.le.me.kept k1 (fun q=>h.xne.2 q.symm) (fun v hv x ex q=>h.xa v hv (q▸ex)),h.le.gB,h.le.box.kept k1 (fun q=>h.xne.1 q.symm),h.le.nxt.kept k1 hO,h.le.ots.kept k1 hO,fun b hb=>by have:=h.le.olt b hb;have:=k1.size;omega,h.le.oap,h.le.ogl,h.le.ogm,h.le.below.setCell (p:=⟨gx,c,none⟩) h.xlt.1 _⟩,h.row.set c v,h.xo,h.xa⟩
theorem LR.push {W:World} {v1 v2:Value} {vs:List Value} {o:Nat×Nat} (h:LR B w0 w gl gm gx C O F n vg vn vf vN vO N κ num fs rows outs f) (n1:vs.length=rows.length) (n3:∀ (i:Nat) u r,vs[i]?=some u->rows[i]?=some r->Ints w B u (ns r)) (n4:∀ u∈vs,∀ b,u.ownBlock=some b->O b)
 (hk:Kept (fun b=>vN.ownBlock=some b∨vO.ownBlock=some b) w W)
 (r1:W.ownsRow B 68 1 v1 (rows.length+1) (vs++[.slice (some ⟨gx,0,none⟩) C C])) (o1:∀ b,v1.ownBlock=some b->vN.ownBlock=some b∨w.heap.size<=b)
 (r2:W.ownsRow B 49 2 v2 (outs.length+1) (outC outs++[.int .u64 (o.1:Int),.int .u64 (o.2:Int)])) (o2:∀ b,v2.ownBlock=some b->vO.ownBlock=some b∨w.heap.size<=b):
 ∃ O',LE B w0 ((W.setCell ⟨gl,257,none⟩ v1).setCell ⟨gl,258,none⟩ v2) gl gm O' F n vg vn vf v1 v2 N κ num fs (rows++[(List.range C).map f]) (outs++[o]):=by
 have hOq:∀ b,(vN.ownBlock=some b∨vO.ownBlock=some b)->O b:=fun b e=>e.elim (h.le.nxt.inO b) (h.le.ots.inO b)
 obtain⟨g1,g2⟩:=h.le.notgl;have hgl:=h.le.box.lt;have hgm:=za0 h.le.me.box;have hsz:=hk.size;have k2:Kept (fun b=>b=gl) W ((W.setCell ⟨gl,257,none⟩ v1).setCell ⟨gl,258,none⟩ v2):=((Kept.refl (fun b=>b=gl) W).setCell (a:=⟨gl,257,none⟩) (.inl rfl) _).setCell (a:=⟨gl,258,none⟩) (.inl rfl) _;have hbW:=h.le.box.kept hk fun q=>h.le.ogl (hOq gl q)
 have hb:=(hbW.setNxt v1).setOut v2;have lme:∀ v∈[vg,vn,vf],∀ x,v.ownBlock=some x->x<w.heap.size:=fun v hv x ex=>by
  simp only[yfi,yfk,or_false] at hv;rcases hv with rfl|rfl|rfl
  .exact (yf5 h.le.me.rg x ex).2
  .exact (yf5 h.le.me.rn x ex).2
  .exact (yf5 h.le.me.rf x ex).2
 have hme:=(h.le.me.kept hk (fun q=>h.le.ogm (hOq gm q)) fun v hv x ex q=>h.le.oap v hv x ex (hOq x q)).kept k2 (fun q=>g1 q.symm) fun v hv x ex q=>g2 v hv (q▸ex)
 have l1:∀ b,v1.ownBlock=some b->B<=b∧b<W.heap.size:=fun b e=>yf5 r1 b e
 have l2:∀ b,v2.ownBlock=some b->B<=b∧b<W.heap.size:=fun b e=>yf5 r2 b e
 have ngl:∀ {e size n:Nat} {v:Value} {xs:List Value},W.ownsRow B e size v n xs->e≠38->∀ b,v.ownBlock=some b->b≠gl:=fun hr he b e=>by
  obtain⟨cu,hc⟩:=za7 hr e;exact za1 hc hbW he
 have hint:∀ u r,Ints w B u (ns r)->(∀ b,u.ownBlock=some b->¬ (vN.ownBlock=some b∨vO.ownBlock=some b))->Ints ((W.setCell ⟨gl,257,none⟩ v1).setCell ⟨gl,258,none⟩ v2) B u (ns r):=fun u r hi hno=>by
  have h1:=hi.off hk hno;exact h1.off k2 fun b e q=>ngl h1 yij b e q
 have hkind:∀ u r,Ints w B u (ns r)->∀ b,u.ownBlock=some b->¬ (vN.ownBlock=some b∨vO.ownBlock=some b):=fun u r hi b e q=>by
  obtain⟨cu,hc⟩:=za7 hi e;rcases q with q|q
  .obtain⟨vs0,_,h2,_⟩:=h.le.nxt.mem;obtain⟨cu2,hc2⟩:=za7 h2 q;exact za1 hc hc2 yij rfl
  .obtain⟨cu2,hc2⟩:=za7 h.le.ots.row q;exact za1 hc hc2 yij rfl
 have hx:=h.xlt;refine⟨fun b=>O b∨b=gx∨v1.ownBlock=some b∨v2.ownBlock=some b,hme,h.le.gB,hb,⟨⟨vs++[.slice (some ⟨gx,0,none⟩) C C],by simp[n1],?_,fun i u r e1 e2=>?_,fun u hu b e=>?_⟩,fun b e => .inr (.inr (.inl e))⟩,⟨?_,fun b e => .inr (.inr (.inr e))⟩,fun b hb=>?_,fun v hv x ex q=>?_,fun q=>?_,fun q=>?_,?_⟩
 .rw[yfd];exact za8 r1 fun b e hb=>k2.block b hb (ngl r1 yij b e)
 .by_cases hi:i<rows.length
  .rw[yfb yie] at e1;rw[yfb hi] at e2;exact hint u r (n3 i u r e1 e2) (hkind u r (n3 i u r e1 e2))
  .have hi':i=rows.length:=by
    have:=(yf4.1 e2).1;simp at this;omega
   subst hi';rw[yfc yie] at e1;simp[n1] at e1 e2;subst e1 e2;have hr:=nrow_ints.1 h.row;exact hint _ _ hr (hkind _ _ hr)
 .rcases yfm.1 hu with z|z
  .exact .inl (n4 u z b e)
  .rw[yfn] at z;subst z;exact .inr (.inl yjg)
 .rw[yfd,zoa];exact za8 r2 fun b e hb=>k2.block b hb (ngl r2 yij b e)
 .have hs2:=k2.size;rcases hb with z|z|z|z
  .have:=h.le.olt b z;omega
  .omega
  .have:=l1 b z;omega
  .have:=l2 b z;omega
 .have:=lme v hv x ex;rcases q with z|z|z|z
  .exact h.le.oap v hv x ex z
  .exact h.xa v hv (z▸ex)
  .rcases o1 x z with y|y
   .exact h.le.oap v hv x ex (h.le.nxt.inO x y)
   .omega
  .rcases o2 x z with y|y
   .exact h.le.oap v hv x ex (h.le.ots.inO x y)
   .omega
 .rcases q with z|z|z|z
  .exact h.le.ogl z
  .exact h.xne.1 z.symm
  .exact ngl r1 yij gl z rfl
  .exact ngl r2 yij gl z rfl
 .rcases q with z|z|z|z
  .exact h.le.ogm z
  .exact h.xne.2 z.symm
  .rcases o1 gm z with y|y
   .exact h.le.ogm (h.le.nxt.inO gm y)
   .omega
  .rcases o2 gm z with y|y
   .exact h.le.ogm (h.le.ots.inO gm y)
   .omega
 .have hB:B<=w.heap.size:=(by have:=h.le.gB;omega);have h1:=h.le.below.trans (hk.below hB fun b q=>(h.le.olt b (hOq b q)).1);exact h1.trans (k2.below yie fun b q=>by rw[q];exact h.le.gB)
theorem ybv {nx:Nat->Nat} {c i:Nat} {fs':List Nat} (hnod:(fs.map κ).Nodup) (hc:c<C) (hor:(fs'=fs∧(fs.map κ)[i]?=some (κ (nx c)))∨(fs'=fs++[nx c]∧i=fs.length∧κ (nx c)∉fs.map κ)):
 zcw κ nx (C-c) c fs ((List.range c).map f)=zcw κ nx (C-(c+1)) (c+1) fs' ((List.range (c+1)).map (upd f c i)):=by
 have e1:(List.range (c+1)).map (upd f c i)=(List.range c).map f++[i]:=by
  rw[ygh,yfu]
  congr 1
  .apply yhb;intro j hj;rw[yfz] at hj;rw[zao _ _ yie]
  .simp[zac]
 rw[e1,show C-c=(C-(c+1))+1 by omega];rcases hor with ⟨rfl,hi⟩|⟨rfl,rfl,hn⟩
 .refine zw0 hi fun j hj e=>?_
  obtain⟨h1,h2⟩:=yf4.1 hi;obtain⟨h3,h4⟩:=yf4.1 e;have:=(List.getElem_inj hnod).1 (h4.trans h2.symm);omega
 .exact zw1 fun j hj e=>hn (yfh e)
end
end
end Go.Proofs.YtipfgpfplakhiaaDoor
