import Derived.Test.YtgbdanddbgomhaaMk30
import Derived.Laws.MakeOwn
import Derived.DeepKeys4
import Derived.Test.YtgbdanddbgomhaaMk27
import Derived.Test.YtgbdanddbgomhaaMk1
set_option linter.unusedVariables false
set_option linter.unusedSimpArgs false
namespace Go.Proofs.Ytgbdanddbgomhaa
open Go Go.RowKit
section
theorem zcf (n:Nat) (hn:n<=100000000):∃ M:Array Value,M.toList=lstI n (fun _=>0)∧∀ W:World,(Instr.makeSlice 44 (.int .i64 (n:Int)) (.int .i64 (n:Int))).run Try.prog W = .ok (.slice (some ⟨W.heap.size,0,none⟩) n n) (W.alloc (.cells M 3)):=by
 obtain⟨i1,a1,a2,a3,a4⟩:=info_parts Try.infoInt;refine⟨madeCells (Value.int .i64 0).cells (n*1),?_,fun W=>?_⟩
 . unfold madeCells lstI;simp[Value.cells,Nat.mod_one]
 . have:=run_make (P:=Try.prog) (w:=W) 44 3 i1 _ Try.underlying44 a1 a2 .i64 .i64 (n:Int) (n:Int) (by omega) (Int.le_refl _) (by rw[a4];omega) (by omega);rw[a3] at this
   simpa using this
theorem zbq {w:World} {B b n:Nat} {M:Array Value} {f:Nat->Nat} (hM:M.toList=lstI n f) (h:w.heap[b]?=some (.cells M 3 (0,0))) (hB:B<=b) (hn:n<=100000000):NRow w B (.slice (some ⟨b,0,none⟩) n n) n f:=by
 have hs:M.size=n:=(by rw[←Array.length_toList,hM,zd3]);refine⟨by rw[zd3,Nat.mul_one],.inr ⟨b,n,M,rfl,hB,h,Nat.le_refl _,by unfold maxLen;omega,by rw[hs,Nat.mul_one],by rw[hM,List.take_of_length_le (by rw[zd3];omega)]⟩⟩
structure PX (w:World) (B g:Nat) (a b c d e m:Value) (N k n:Nat) (st at' grp bg en md:Nat->Nat):Prop where
 gB:B<=g
 box:w.heap[g]?=some (.cells #[a,b,c,d,e,m] 139 (0,0))
 ra:NRow w B a N st
 rb:NRow w B b N at'
 rc:NRow w B c N grp
 rd:NRow w B d k bg
 re:NRow w B e k en
 rm:NRow w B m n md
 ap:[a,b,c,d,e,m].Pairwise Ap
section
variable {w w' W:World} {B g N k n:Nat} {a b c d e m v1 v2:Value} {st at' grp bg en md:Nat->Nat}
theorem PX.pm {p:PT} (h:PX w B g a b c d e m p.N p.n p.n p.st p.at' p.grp p.bg p.en p.md):PM w B g a b c d e m p:=⟨h.gB,h.box,h.ra,h.rb,h.rc,h.rd,h.re,h.rm,h.ap⟩
theorem PX.kept {Q:Nat->Prop} (h:PX w B g a b c d e m N k n st at' grp bg en md) (hk:Kept Q w w') (hg:¬ Q g) (hq:∀ v∈[a,b,c,d,e,m],∀ x,v.ownBlock=some x->¬ Q x):PX w' B g a b c d e m N k n st at' grp bg en md:=
 ⟨h.gB,(hk.block g (za4 h.box) hg).trans h.box,h.ra.kept hk (hq a (by simp)),h.rb.kept hk (hq b (by simp)),h.rc.kept hk (hq c (by simp)),h.rd.kept hk (hq d (by simp)),h.re.kept hk (hq e (by simp)),h.rm.kept hk (hq m (by simp)),h.ap⟩
theorem PX.begin3 (h:PX w B g a b c d e m N k n st at' grp bg en md):Rows3 B w w.drew d e m d e m k k n bg en md:=by
 have hap:=h.ap;simp only[List.pairwise_cons,List.mem_cons,forall_eq_or_imp,List.not_mem_nil,false_imp_iff,implies_true,and_true,List.Pairwise.nil] at hap;obtain⟨_,_,_,⟨de,dm⟩,em⟩:=hap;exact⟨za7 h.rd (Below.refl _ _).drew,za7 h.re (Below.refl _ _).drew,za7 h.rm (Below.refl _ _).drew,de,dm,em,(Kept.refl _ _).drew,fun x e => .inl e,fun x e => .inl e,fun x e => .inl e⟩
theorem PX.two {x1 x2:Nat} (h:PX w B g a b c d e m N k n st at' grp bg en md) (hr:Rows3 B w W d e m v1 v2 m (k+1) (k+1) n (upd bg k x1) (upd en k x2) md):
   PX ((W.setCell ⟨g,3,none⟩ v1).setCell ⟨g,4,none⟩ v2) B g a b c v1 v2 m N (k+1) n st at' grp (upd bg k x1) (upd en k x2) md∧
     (∀ v∈[v1,v2],∀ x,v.ownBlock=some x->w.heap.size<=x∨∃ v∈[d,e],v.ownBlock=some x)∧
     Kept (fun x=>x=g∨d.ownBlock=some x∨e.ownBlock=some x∨m.ownBlock=some x) w ((W.setCell ⟨g,3,none⟩ v1).setCell ⟨g,4,none⟩ v2):=by
 have hap:=h.ap;simp only[List.pairwise_cons,List.mem_cons,forall_eq_or_imp,List.not_mem_nil,false_imp_iff,implies_true,and_true,List.Pairwise.nil] at hap;obtain⟨⟨ab,ac,ad,ae,am⟩,⟨bc,bd,be,bm⟩,⟨cd,ce,cm⟩,⟨de,dm⟩,em⟩:=hap;have gl:g<w.heap.size:=za4 h.box;have notg:∀ {u:Value} {n:Nat} {f:Nat->Nat},NRow w B u n f->∀ x,u.ownBlock=some x->x≠g:=fun hu x hx=>by
   obtain⟨cu,hc⟩:=zac hu hx;exact za6 hc h.box (by decide)
 have hbox:W.heap[g]?=some (.cells #[a,b,c,d,e,m] 139 (0,0)):=(hr.keep.block g gl fun q=>by
   rcases q with q|q|q
   . exact notg h.rd g q rfl
   . exact notg h.re g q rfl
   . exact notg h.rm g q rfl).trans h.box
 have h1:=heap_setCell_same W g 3 _ _ v1 hbox;have h2:=heap_setCell_same _ g 4 _ _ v2 h1;have kg:Kept (fun x=>x=g) W ((W.setCell ⟨g,3,none⟩ v1).setCell ⟨g,4,none⟩ v2):=((Kept.refl (fun x=>x=g) W).setCell (a:=⟨g,3,none⟩) (.inl rfl) v1).setCell (a:=⟨g,4,none⟩) (.inl rfl) v2;have old:∀ (v:Value) (n:Nat) (f:Nat->Nat),NRow w B v n f->Ap v d->Ap v e->Ap v m->NRow ((W.setCell ⟨g,3,none⟩ v1).setCell ⟨g,4,none⟩ v2) B v n f:=fun v n f hv z1 z2 z3=>by
   refine NRow.kept (NRow.kept hv hr.keep fun x ex q=>?_) kg fun x ex q=>notg hv x ex q
   rcases q with q|q|q
   . exact z1 x ex q
   . exact z2 x ex q
   . exact z3 x ex q
 have neg:∀ (v o:Value),(∀ x,v.ownBlock=some x->o.ownBlock=some x∨w.heap.size<=x)->(∀ x,o.ownBlock=some x->x≠g)->∀ x,v.ownBlock=some x->¬ x=g:=fun v o hq ho x ex e=>by
   rcases hq x ex with q|q
   . exact ho x q e
   . omega
 have apn:∀ (u v o:Value) (n:Nat) (f:Nat->Nat),NRow w B u n f->Ap u o->(∀ x,v.ownBlock=some x->o.ownBlock=some x∨w.heap.size<=x)->Ap u v:=fun u v o n f hu z hq x ex ev=>by
   rcases hq x ev with q|q
   . exact z x ex q
   . have:=(World.ownsRow.lt hu x ex).2;omega
 refine⟨⟨h.gB,h2,old a _ _ h.ra ad ae am,old b _ _ h.rb bd be bm,old c _ _ h.rc cd ce cm,hr.r1.kept kg (neg v1 d hr.q1 (notg h.rd)),hr.r2.kept kg (neg v2 e hr.q2 (notg h.re)),hr.r3.kept kg (neg m m hr.q3 (notg h.rm)),?_⟩,?_,?_⟩
 . simp only[List.pairwise_cons,List.mem_cons,forall_eq_or_imp,List.not_mem_nil,false_imp_iff,implies_true,and_true,List.Pairwise.nil];exact⟨⟨ab,ac,apn _ _ _ _ _ h.ra ad hr.q1,apn _ _ _ _ _ h.ra ae hr.q2,am⟩,⟨bc,apn _ _ _ _ _ h.rb bd hr.q1,apn _ _ _ _ _ h.rb be hr.q2,bm⟩,⟨apn _ _ _ _ _ h.rc cd hr.q1,apn _ _ _ _ _ h.rc ce hr.q2,cm⟩,⟨hr.a12,hr.a13⟩,hr.a23⟩
 . intro v hv x ex;simp only[List.mem_cons,List.not_mem_nil,or_false] at hv;rcases hv with rfl|rfl
   . exact (hr.q1 x ex).elim (fun q => .inr ⟨d,by simp,q⟩) .inl
   . exact (hr.q2 x ex).elim (fun q => .inr ⟨e,by simp,q⟩) .inl
 . exact (hr.keep.mono fun x ex => .inl (.inr ex)).trans kg fun x ex => .inl (.inl ex)
end
end
section
open Go Go.RowKit Go.Maps
theorem lawOut:WideMaps.KeyLaw Try.prog 51:=deep_law_laid Try.laidOutOk (m:=3) (by decide) (of_decide_eq_true (by kernel_rfl)) (by kernel_rfl) (by kernel_rfl)
theorem znk:Keyed Try.prog 51:=Keyed.of_law lawOut
def outV (o:Nat×Nat):Value := .agg #[.int .u64 (o.1:Int),.int .u64 (o.2:Int)]
def okO (o:Nat×Nat):Prop:=o.1<18446744073709551616∧o.2<18446744073709551616
def litO (o:Nat×Nat):Lit := .string (keyBytes [.int .u64 (o.1:Int),.int .u64 (o.2:Int)])
theorem zje (o:Nat×Nat) (h:okO o):keyOf Try.prog 51 (outV o)=some (litO o):=by
 have h1:(Lit.int .u64 (o.1:Int)).wf=true:=by
   have e1:IntKind.u64.min=0:=(by decide);have e2:IntKind.u64.max=18446744073709551615:=by decide
   show (decide (IntKind.u64.min<=(o.1:Int))&&decide ((o.1:Int)<=IntKind.u64.max))=true
   rw[e1,e2];have:=h.1;simp;omega
 have h2:(Lit.int .u64 (o.2:Int)).wf=true:=by
   have e1:IntKind.u64.min=0:=(by decide);have e2:IntKind.u64.max=18446744073709551615:=by decide
   show (decide (IntKind.u64.min<=(o.2:Int))&&decide ((o.2:Int)<=IntKind.u64.max))=true
   rw[e1,e2];have:=h.2;simp;omega
 have hk:Try.prog.keyType 51=true:=(by kernel_rfl);have hc:Try.prog.cellsOf 51=2:=(by kernel_rfl);have hf:(outV o).formed Try.prog 51=true:=(by simp[Value.formed,outV,Try.underlying51,hc]);have hcl:(outV o).cells.toList=[.int .u64 (o.1:Int),.int .u64 (o.2:Int)]:=rfl;have h64:∀ (d:Nat) (n:Nat),(Lit.int .u64 (n:Int)).wf=true->Try.prog.keyLits (d+1) 49 [.int .u64 (n:Int)]=some [.int .u64 (n:Int)]:=by
   intro d n hn;unfold Program.keyLits;simp[Try.underlying49,hn]
 have c64:Try.prog.cellsOf 49=1:=(by kernel_rfl);have hkl:∀ (d:Nat),Try.prog.keyLits (d+2) 51 [.int .u64 (o.1:Int),.int .u64 (o.2:Int)]=some [.int .u64 (o.1:Int),.int .u64 (o.2:Int)]:=by
   intro d;unfold Program.keyLits;simp[Try.underlying51,hc,c64,h64 d o.1 h1,h64 d o.2 h2]
 have hsz:∃ d,Try.prog.types.size+1=d+2:=⟨Try.prog.types.size-1,by
   have:0<Try.prog.types.size:=of_decide_eq_true (by kernel_rfl);omega⟩
 obtain⟨d,hd⟩:=hsz;unfold keyOf;simp only[Try.underlying51,hk,hf,Bool.true_and,hcl,if_true,hd,hkl d,Option.map_some,litO]
theorem zvi (o:Nat×Nat):WideAt.IsKeyLit (litO o):=trivial
theorem zvj {o p:Nat×Nat} (ho:okO o) (hp:okO p) (h:litO o=litO p):o=p:=by
 have h1:=zje o ho;have h2:=zje p hp;rw[h] at h1;have e:=lawOut.inj h1 h2;have e:[Value.int .u64 (o.1:Int),.int .u64 (o.2:Int)]=[.int .u64 (p.1:Int),.int .u64 (p.2:Int)]:=congrArg (fun v=>v.cells.toList) e;simp only[List.cons.injEq,Value.int.injEq,true_and,and_true] at e;exact Prod.ext (by have:=e.1;omega) (by have:=e.2;omega)
structure OutIs (D:DataW Unit) (gs:List (Nat×Nat)):Prop where
 isMap:Maps.IsMap D
 has:∀ s,okO s->(Maps.has D (litO s)=true↔s∈gs)
 idx:∀ (i:Nat) s,gs[i]?=some s->D.atKey (litO s) (.lit (.int .i64 0)) = .lit (.int .i64 i)
 ok:∀ s∈gs,okO s
 tidy:Maps.Tidy D
 size:Maps.size D=gs.length
theorem OutIs.nil:OutIs (.map []) []:=⟨⟨[],rfl⟩,fun s _=>by simp[Maps.has_eq],fun i s h=>by simp at h,fun s h=>by simp at h,Maps.tidy_empty,rfl⟩
theorem OutIs.put {D:DataW Unit} {ss:List (Nat×Nat)} (h:OutIs D ss) {s:Nat×Nat} (hs:okO s) (hn:s∉ss):OutIs (D.put (litO s) (.lit (.int .i64 (ss.length:Nat)))) (ss++[s]):=by
 have hk:WideAt.IsKeyLit (litO s):=zvi s;have hne:∀ t,okO t->t≠s->litO t≠litO s:=fun t ht e e'=>e (zvj ht hs e')
 have hno:Maps.has D (litO s)=false:=by
   cases e:Maps.has D (litO s)
   . rfl
   . exact absurd ((h.has s hs).1 e) hn
 refine⟨h.isMap.put _ _,fun t ht=>?_,fun i t e=>?_,fun t ht=>?_,h.tidy.put hk _,?_⟩
 . by_cases e:t=s
   . subst e;simp[Maps.has_put_same h.isMap hk]
   . rw[Maps.has_put_other (hne t ht e),h.has t ht];simp[e]
 . by_cases hi:i<ss.length
   . rw[List.getElem?_append_left hi] at e;have hm:=List.mem_of_getElem? e;rw[Maps.atKey_put_other (hne t (h.ok t hm) fun e'=>hn (e' ▸ hm))];exact h.idx i t e
   . have hi':i=ss.length:=by
       have:=(List.getElem?_eq_some_iff.1 e).1;simp at this;omega
     subst hi';simp at e;subst e;exact Maps.atKey_put_same h.isMap hk _ _
 . rcases List.mem_append.1 ht with h' | h'
   . exact h.ok t h'
   . rw[List.mem_singleton] at h';exact h' ▸ hs
 . rw[Maps.size_put h.tidy,hno,h.size];simp
structure GI (os:List (Nat×Nat)) (i:Nat) (gs:List (Nat×Nat)) (f:Nat->Nat):Prop where
 nodup:gs.Nodup
 at':∀ s,s<i->gs[f s]?=os[s]?
 hit:∀ g,g<gs.length->∃ s,s<i∧f s=g
theorem GI.nil (os:List (Nat×Nat)) (f:Nat->Nat):GI os 0 [] f:=⟨List.nodup_nil,fun s h=>absurd h (Nat.not_lt_zero _),fun g h=>absurd h (Nat.not_lt_zero _)⟩
theorem GI.old {os gs:List (Nat×Nat)} {i g:Nat} {f:Nat->Nat} {o:Nat×Nat} (h:GI os i gs f) (ho:os[i]?=some o) (hg:gs[g]?=some o):GI os (i+1) gs (upd f i g):=by
 refine⟨h.nodup,fun s hs=>?_,fun k hk=>?_⟩
 . by_cases e:s=i
   . subst e;rw[zai,ho,hg]
   . rw[zar _ _ e];exact h.at' s (by omega)
 . obtain⟨s,hs,e⟩:=h.hit k hk;exact⟨s,by omega,by rw[zar _ _ (by omega),e]⟩
theorem GI.new {os gs:List (Nat×Nat)} {i:Nat} {f:Nat->Nat} {o:Nat×Nat} (h:GI os i gs f) (ho:os[i]?=some o) (hn:o∉gs):GI os (i+1) (gs++[o]) (upd f i gs.length):=by
 refine⟨?_,fun s hs=>?_,fun k hk=>?_⟩
 . rw[List.nodup_append];exact⟨h.nodup,by simp,fun a ha b hb=>by rw[List.mem_singleton] at hb;subst hb;exact fun e=>hn (e▸ha)⟩
 . by_cases e:s=i
   . subst e;rw[zai,ho];simp
   . rw[zar _ _ e];have h1:=h.at' s (by omega);have hlt:i<os.length:=(List.getElem?_eq_some_iff.1 ho).1;rw[←h1,List.getElem?_append_left];have h2:os[s]?=some os[s]:=List.getElem?_eq_getElem (by omega);rw[h2] at h1;exact (List.getElem?_eq_some_iff.1 h1).1
 . by_cases e:k<gs.length
   . obtain⟨s,hs,e⟩:=h.hit k e;exact⟨s,by omega,by rw[zar _ _ (by omega),e]⟩
   . exact⟨i,by omega,by rw[zai];simp at hk;omega⟩
theorem GI.end {os gs:List (Nat×Nat)} {N:Nat} {f:Nat->Nat} (h:GI os N gs f) (hN:os.length=N):(∀ s,s<N->f s<gs.length)∧(∀ s t,s<N->t<N->(f s=f t↔os[s]?=os[t]?))∧(∀ g,g<gs.length->∃ s,s<N∧f s=g):=by
 have lt:∀ s,s<N->f s<gs.length:=fun s hs=>by
   have h1:=h.at' s hs;have h2:os[s]?=some os[s]:=List.getElem?_eq_getElem (by omega);rw[h2] at h1;exact (List.getElem?_eq_some_iff.1 h1).1
 refine⟨lt,fun s t hs ht=>⟨fun e=>?_,fun e=>?_⟩,h.hit⟩
 . rw[←h.at' s hs,←h.at' t ht,e]
 . rw[←h.at' s hs,←h.at' t ht,List.getElem?_eq_getElem (lt s hs),List.getElem?_eq_getElem (lt t ht)] at e;injection e with e
   exact (List.getElem_inj h.nodup).1 e
end
theorem NRow.congr {w:World} {B n:Nat} {v:Value} {f g:Nat->Nat} (h:NRow w B v n f) (e:∀ i,i<n->f i=g i):NRow w B v n g:=by
 have:lstI n f=lstI n g:=by
   unfold lstI;apply List.map_congr_left;intro i hi;rw[e i (List.mem_range.1 hi)]
 unfold NRow at h ⊢
 rwa [this] at h
def prE (δ:Nat->Nat->Nat) (C s c:Nat):List (Nat×Nat):=edges δ C s++(List.range c).map fun c=>(δ s c*C+c,s)
theorem zyo (δ:Nat->Nat->Nat) (C s:Nat):prE δ C s 0=edges δ C s:=by simp[prE]
theorem zr3 (δ:Nat->Nat->Nat) (C s:Nat):prE δ C s C=edges δ C (s+1):=rfl
theorem zj1 (δ:Nat->Nat->Nat) (C s c:Nat):prE δ C s (c+1)=prE δ C s c++[(δ s c*C+c,s)]:=by
 unfold prE;rw[List.range_succ,List.map_append,List.append_assoc];rfl
theorem zls (δ:Nat->Nat->Nat) (C s c:Nat) (hc:c<=C):∀ N,s<N->∃ r,edges δ C N=prE δ C s c++r
 | 0,h=>by omega
 | N+1,h=>by
   by_cases e:s=N
   . subst e;refine⟨((List.range C).drop c).map fun c=>(δ s c*C+c,s),?_⟩;unfold prE;rw[edges,rowE,List.append_assoc,←List.map_append]
     congr 2
     have h1:List.range c=(List.range C).take c:=(by rw[List.take_range,Nat.min_eq_left hc]);rw[h1,List.take_append_drop]
   . obtain⟨r,hr⟩:=zls δ C s c hc N (by omega);exact⟨r++rowE δ C N,by rw[edges,hr,List.append_assoc]⟩
theorem ztd (D:List (Nat×Nat)) (k v:Nat):upd (cntE D) k (cntE D k+1)=cntE (D++[(k,v)]):=by
 funext x
 rw[zd7];have h1:cntE [(k,v)] x=if k=x then 1 else 0:=by
   unfold cntE;rw[zc9];split <;> rfl
 rw[h1];unfold upd
 by_cases h:x=k
 . subst h;simp
 . rw[if_neg h,if_neg (fun e=>h e.symm)];rfl
def sumE (E:List (Nat×Nat)) (i:Nat):Nat->Nat:=fun x=>if x<=i then endE E x else cntE E x
theorem zyk (E:List (Nat×Nat)):sumE E 0=cntE E:=by
 funext x
 unfold sumE;split
 . rename_i h;have:x=0:=by omega
   subst this;rfl
 . rfl
theorem zqd (E:List (Nat×Nat)) (i:Nat):upd (sumE E i) (i+1) (sumE E i (i+1)+sumE E i i)=sumE E (i+1):=by
 funext x
 have h1:sumE E i (i+1)=cntE E (i+1):=(by unfold sumE;rw[if_neg (by omega)]);have h2:sumE E i i=endE E i:=(by unfold sumE;rw[if_pos (Nat.le_refl _)]);rw[h1,h2];unfold upd
 by_cases h:x=i+1
 . subst h;rw[if_pos rfl];unfold sumE;rw[if_pos (Nat.le_refl _),endE,Nat.add_comm]
 . rw[if_neg h];unfold sumE
   by_cases h3:x<=i
   . rw[if_pos h3,if_pos (by omega)]
   . rw[if_neg h3,if_neg (by omega)]
theorem zqe (E:List (Nat×Nat)) (i x:Nat):sumE E i x<=E.length:=by
 unfold sumE;split
 . exact zjk E x
 . have:=zjk E x;have h:=zck E x;omega
theorem zy9 (E:List (Nat×Nat)) (x:Nat):cntE E x<=E.length:=by
 unfold cntE valsK;rw[List.length_map];exact List.length_filter_le _ _
def LayP (E D:List (Nat×Nat)) (b f:Nat->Nat):Prop:=∃ rest,E=D++rest∧(∀ i,b i=endE E i-cntE D i)∧layE rest (b,f)=layE E (endE E,fun _=>0)
theorem zpe (E:List (Nat×Nat)):LayP E [] (endE E) (fun _=>0):=⟨E,rfl,fun i=>by simp[cntE,valsK],rfl⟩
theorem zs7 {E D:List (Nat×Nat)} {k v:Nat} {b f:Nat->Nat} (h:LayP E D b f) (hr:∃ r,E=D++[(k,v)]++r):1<=b k∧b k<=E.length∧LayP E (D++[(k,v)]) (upd b k (b k-1)) (upd f (b k-1) v):=by
 obtain⟨rest,e1,e2,e3⟩:=h;obtain⟨r,hr⟩:=hr;have hrest:rest=(k,v)::r:=by
   rw[e1,List.append_assoc] at hr;exact List.append_cancel_left hr
 have h1:cntE [(k,v)] k=1:=by
   unfold cntE;rw[zc9,if_pos rfl];rfl
 have h2:cntE D k+1<=cntE E k:=by
   rw[hr,zd7,zd7,h1];omega
 have h3:=zck E k;have h4:=zjk E k;have h5:=e2 k;refine⟨by omega,by omega,r,hr,fun i=>?_,?_⟩
 . rw[zd7];unfold upd
   by_cases c:i=k
   . subst c;rw[if_pos rfl,h1];omega
   . rw[if_neg c,e2 i];have h6:cntE [(k,v)] i=0:=by
       unfold cntE;rw[zc9,if_neg (fun e=>c e.symm)];rfl
     rw[h6];rfl
 . rw[hrest] at e3;exact e3
theorem zvo {E:List (Nat×Nat)} {b f:Nat->Nat} (h:LayP E E b f):(∀ i,b i=begE E i)∧∀ i,(List.range (cntE E i)).map (fun j=>f (begE E i+j))=(valsK E i).reverse:=by
 obtain⟨rest,e1,e2,e3⟩:=h;have hr:rest=[]:=by
   have:=congrArg List.length e1;rw[List.length_append] at this;exact List.eq_nil_of_length_eq_zero (by omega)
 subst hr;rw[layE] at e3;refine⟨fun i=>?_,fun i=>?_⟩
 . have:=(znh (E:=E) (f:=fun _=>0) i).1;rw[←e3] at this;exact this
 . have:=(znh (E:=E) (f:=fun _=>0) i).2;rw[←e3] at this;exact this
def dl (rows:List (List Nat)) (s c:Nat):Nat:=(rows.getD s []).getD c 0
theorem zi4 (w:World) (o1 o2 o3:Obj):Below w.heap.size w (((w.alloc o1).alloc o2).alloc o3).drew∧(((w.alloc o1).alloc o2).alloc o3).drew.heap[w.heap.size]?=some o1∧(((w.alloc o1).alloc o2).alloc o3).drew.heap[w.heap.size+1]?=some o2∧(((w.alloc o1).alloc o2).alloc o3).drew.heap[w.heap.size+1+1]?=some o3:=by
 have h3:=heap_alloc_new ((w.alloc o1).alloc o2) o3;have h2:=heap_alloc_new (w.alloc o1) o2;have h1:=heap_alloc_new w o1;rw[World.size_alloc,World.size_alloc] at h3;rw[World.size_alloc] at h2;refine⟨(((Below.refl _ _).alloc (Nat.le_refl _) _).alloc (by simp only[World.size_alloc];omega) _).alloc (by simp only[World.size_alloc];omega) _ |>.drew,?_,?_,h3⟩
 . show (((w.alloc o1).alloc o2).alloc o3).heap[w.heap.size]?=some o1
   rw[Below.heap_alloc _ _ _ (by simp only[World.size_alloc];omega),Below.heap_alloc _ _ _ (by simp only[World.size_alloc];omega)];exact h1
 . show (((w.alloc o1).alloc o2).alloc o3).heap[w.heap.size+1]?=some o2
   rw[Below.heap_alloc _ _ _ (by simp only[World.size_alloc];omega)];exact h2
theorem zdm {w1 W:World} {B b4 ib jf M:Nat} {vo:Array Value} {M1 M2:Array Value} (hb:Below w1.heap.size w1 W) (hB:B<=w1.heap.size) (hM1:M1.toList=lstI (M+1) (fun _=>0)) (hM2:M2.toList=lstI M (fun _=>0)) (hM:M<=1000000)
   (h1:W.heap[ib]?=some (.cells M1 3 (0,0))) (h2:W.heap[jf]?=some (.cells M2 3 (0,0))) (h4:W.heap[b4]?=some (.cells vo 134 (0,0))) (l1:w1.heap.size<=ib) (l2:w1.heap.size<=jf) (l4:w1.heap.size<=b4) (ne:ib≠jf):
   Below w1.heap.size w1 W∧w1.heap.size<=b4∧w1.heap.size<=ib∧w1.heap.size<=jf∧ib≠jf∧W.heap[b4]?=some (.cells vo 134 (0,0))∧NRow W B (.slice (some ⟨ib,0,none⟩) (M+1) (M+1)) (M+1) (fun _=>0)∧NRow W B (.slice (some ⟨jf,0,none⟩) M M) M (fun _=>0):=
 ⟨hb,l4,l1,l2,ne,h4,zbq hM1 h1 (by omega) (by omega),zbq hM2 h2 (by omega) (by omega)⟩
theorem Try.sizeWays:(Try.prog.info? 134).map (·.size)=some 3:=by kernel_rfl
theorem zhd {w:World} {ops:Array Oper} {rest:List Oper} {o:Oper} {a:Act} {Q:Exit->Act->World->Prop} {g:Nat} {cs:Array Value} {u0 u1 u2:Value} (hgd:o.guard=none) (x y:Operand) (ho:o.op = .store 134 x y) (hx:a.eval x = .pointer (some ⟨g,0,none⟩)) (hy:a.eval y = .agg #[u0,u1,u2]) (h:w.heap[g]?=some (.cells cs 134 (0,0))) (hs:cs.size=3) (h0:u0.oneCell'=true) (h1:u1.oneCell'=true) (h2:u2.oneCell'=true)
   (hk:(w.setRow g #[u0,u1,u2]).heap[g]?=some (.cells #[u0,u1,u2] 134 (0,0))->wpList Try.prog ops Q rest (a.put o.dst undef) (w.setRow g #[u0,u1,u2])):wpList Try.prog ops Q (o::rest) a w:=by
 refine wpList_plain hgd fun _ hK=>?_
 have hst:(storeVar 134 ⟨g,0,none⟩ (.agg #[u0,u1,u2])).run Try.prog w = .ok () (w.setRow g #[u0,u1,u2]):=run_storeVar_row w g _ _ _ _ h (by rw[Try.sizeWays];rfl) (by rw[hs];rfl) (by simp[h0,h1,h2]);unfold Oper.wp execOp;simp only[ho,hx,hy,Instr.storeAt,Instr.sureAddr,Sem.run_bind,Sem.run_pure,Result.andThen_ok,hst];exact hK _ _ (hk (setRow_heap w g _ _ _ (0,0) h))
theorem zk6 {w:World} {fn:Func} {tmps:Array Value} {x g:Nat} {u0 u1 u2:Value} (hr:fn.results=#[.cell x 134]) (hx:tmps.getD x undef = .pointer (some ⟨g,0,none⟩)) (h:w.heap[g]?=some (.cells #[u0,u1,u2] 134 (0,0))):(results fn tmps).run Try.prog w = .ok (.agg #[u0,u1,u2]) w:=by
 have hrg:w.rangeAt g 0 (#[u0,u1,u2]:Array Value).toList:=fun j v hv=>by
   rw[Nat.zero_add,cell_of_row w g j _ _ (0,0) h]
   simpa using hv
 have hld:=run_loadVar_mid (P:=Try.prog) w g 0 134 (#[u0,u1,u2]:Array Value).toList _ hrg Try.underlying134 rfl (by rw[Try.sizeWays];rfl);have e:(#[ResultVar.cell x 134]:Array ResultVar)=[ResultVar.cell x 134].toArray:=rfl;rw[Array.getD_eq_getD_getElem?] at hx;unfold results;rw[hr,e];simp[Sem.run_bind,hx,hld,asAddr]
theorem Nxt.lts {w:World} {B:Nat} {O:Nat->Prop} {vN:Value} {rows:List (List Nat)} (h:Nxt w B O vN rows):Nxt w B (fun b=>b<w.heap.size) vN rows:=by
 obtain⟨vs,h1,h2,h3,h4⟩:=h.mem;refine⟨⟨vs,h1,h2,h3,fun u hu b e=>?_⟩,fun b e=>(h.in b e).2⟩;obtain⟨i,hi⟩:=List.getElem?_of_mem hu;have hl:i<rows.length:=(by have:=(List.getElem?_eq_some_iff.1 hi).1;omega);exact ((h3 i u _ hi (List.getElem?_eq_getElem hl)).in e).2
theorem zwz {w:World} {B s c N:Nat} {O:Nat->Prop} {A:Option Addr} {rows:List (List Nat)} {r:List Nat} (h:Nxt w B O (.slice A N c) rows) (hl:rows.length=N) (hs:rows[s]?=some r):
   ∃ an Au cu,A=some ⟨an,0,none⟩∧O an∧w.cell? ⟨an,s,none⟩=some (.slice Au r.length cu)∧Ints w B (.slice Au r.length cu) (ns r)∧∀ x,(Value.slice Au r.length cu).ownBlock=some x->O x:=by
 obtain⟨vs,h1,h2,h3,h4⟩:=h.mem;have hlt:s<rows.length:=(List.getElem?_eq_some_iff.1 hs).1;obtain⟨u,hu⟩:∃ u,vs[s]?=some u:=⟨_,List.getElem?_eq_getElem (by omega)⟩;have hI:=h3 s u r hu hs;obtain⟨Au,cu,hf⟩:=hI.form;rw[zag] at hf;subst hf;rcases h2.2 with ⟨_,h0⟩|⟨g,cap,cur,e,_,hg,_⟩
 . omega
 . injection e with e1 e2 e3
   subst e1;refine⟨g,Au,cu,rfl,h.inO g rfl,?_,hI,h4 _ (List.mem_of_getElem? hu)⟩;have h5:=World.ownsRow.cellAt (w:=w) (g:=g) (n:=rows.length) (cap:=c) (xs:=vs) (by rw[←hl] at h2;exact h2) s (by omega);exact h5.trans hu
def RetWays (w:World) (B C N:Nat) (rows:List (List Nat)) (e:Ending) (w':World):Prop:=
 ∃ vb vf f,e = .returned (waysV C vb vf)∧WM w' B vb vf (edges (dl rows) C N) (N*C) f∧Below w.heap.size w w'∧∀ v∈[vb,vf],∀ x,v.ownBlock=some x->w.heap.size<=x
set_option maxRecDepth 20000 in
set_option maxHeartbeats 4000000 in
theorem zrn {w:World} {B N C:Nat} {F:Nat->Nat} {vN vO:Value} {O:Nat->Prop} {rows:List (List Nat)} (hn:Nxt w B O vN rows) (hl:rows.length=N) (hr:∀ (i:Nat) r,rows[i]?=some r->r.length=C∧∀ x∈r,x<N) (hB:B<=w.heap.size) (hNC:N*C<=1000000) (hN9:N<=90000) (hC9:C<=90000) (hO:∃ A n c,vO = .slice A n c):
   Calls Try.prog 60 #[.agg (machC F (C:Int) vN vO)] w (RetWays w B C N rows):=by
 obtain⟨An,cn,hv⟩:=hn.form;rw[hl] at hv;subst hv;obtain⟨Ao,no,co,hvo⟩:=hO;subst hvo;obtain⟨M1,hM1,hmk1⟩:=zcf (N*C+1) (by omega);obtain⟨M2,hM2,hmk2⟩:=zcf (N*C) (by omega);have hbx0:=BoxM.new w 41 F (C:Int) (.slice An N cn) (.slice Ao no co);have hbx:=hbx0.stays ((Below.refl _ _).alloc (Nat.le_refl _) (.cells #[.int .i64 0,.slice none 0 0,.slice none 0 0] 134));have hrs:=heap_alloc_new (w.alloc (.cells (machC F (C:Int) (.slice An N cn) (.slice Ao no co)) 41)) (.cells #[.int .i64 0,.slice none 0 0,.slice none 0 0] 134);rw[World.size_alloc] at hrs;have hb1:Below w.heap.size w ((w.alloc (.cells (machC F (C:Int) (.slice An N cn) (.slice Ao no co)) 41)).alloc (.cells #[.int .i64 0,.slice none 0 0,.slice none 0 0] 134)):=((Below.refl _ _).alloc (Nat.le_refl _) _).alloc (by simp) _;have hm:(N:Int)*(C:Int)=((N*C:Nat):Int):=(Int.natCast_mul N C).symm;obtain⟨M,hM⟩:∃ M,N*C=M:=⟨_,rfl⟩;rw[hM] at hm hmk1 hmk2 hM1 hM2 hNC;have hmk1':=fun (W:World)=>hmk1 W
 rw[show ((M+1:Nat):Int)=(M:Int)+1 by omega] at hmk1';have hw1:IntKind.i64.wrap ((N:Int)*(C:Int))=(M:Int):=(by rw[hm];exact IntWalk.i64_in _ (by omega));have hw2:IntKind.i64.wrap ((M:Int)+1)=(M:Int)+1:=IntWalk.i64_in _ (by omega);have HN:=Zh hn;have HL:=Zh hl;have HR:=Zh hr;have HB:=Zh hB;have HM1:=Zh hM1;have HM2:=Zh hM2;have HMM:=Zh hM;have HNC:=Zh hNC;have HN9:=Zh hN9;have HC9:=Zh hC9;have c1:=hbx.num;have c2:=hbx.nxt;have HBX:=Zh hbx;have HRS:=Zh hrs;have HB1:=Zh hb1;clear hn hl hr hB hM1 hM2 hM hNC hN9 hC9 hbx hm hbx0 hrs hb1;go_enter Try.func60,Try.ntmps60;go_upto_region 2 with fail
 generalize (w.alloc (.cells (machC F (C:Int) (.slice An N cn) (.slice Ao no co)) 41)).alloc (.cells #[.int .i64 0,.slice none 0 0,.slice none 0 0] 134)=w1 at *;clear hmk1;go_cut [4] from 21 to 28 (fun s4 wx=>∃ (b4 ib jf:Nat),s4 = .pointer (some ⟨b4,0,none⟩)∧Below w1.heap.size w1 wx∧w1.heap.size<=b4∧w1.heap.size<=ib∧w1.heap.size<=jf∧ib≠jf∧
   wx.heap[b4]?=some (.cells #[.int .i64 (C:Int),.slice (some ⟨ib,0,none⟩) (M+1) (M+1),.slice (some ⟨jf,0,none⟩) M M] 134 (0,0))∧NRow wx B (.slice (some ⟨ib,0,none⟩) (M+1) (M+1)) (M+1) (fun _=>0)∧NRow wx B (.slice (some ⟨jf,0,none⟩) M M) M (fun _=>0))
 case first =>
   go_region_held3 (fun W=>W.cell? ⟨w.heap.size,256,none⟩=some (.int .i64 (C:Int))) (repeat (first | with_reducible assumption | with_reducible refine zaz ?_ | with_reducible refine zbi ?_ _)) (first | fail)
   all_goals
     go_wp2;go_meet
     first
       | (obtain⟨hb,h1,h2,h3⟩:=zi4 w1 (.cells M1 3) (.cells M2 3) (.cells #[.int .i64 (C:Int),.slice (some ⟨w1.heap.size,0,none⟩) (M+1) (M+1),.slice (some ⟨w1.heap.size+1,0,none⟩) M M] 134)
          exact⟨_,_,_,rfl,zdm hb (Nat.le_trans HB.out HB1.out.size) HM1.out HM2.out HNC.out h1 h2 h3 (by omega) (by omega) (by omega) (by omega)⟩)
       | (obtain⟨hb,h1,h2,h3⟩:=zi4 w1 (.cells M1 3) (.cells #[.int .i64 (C:Int),.slice (some ⟨w1.heap.size,0,none⟩) (M+1) (M+1),.slice (some ⟨w1.heap.size+1+1,0,none⟩) M M] 134) (.cells M2 3)
          exact⟨_,_,_,rfl,zdm hb (Nat.le_trans HB.out HB1.out.size) HM1.out HM2.out HNC.out h1 h3 h2 (by omega) (by omega) (by omega) (by omega)⟩)
       | (obtain⟨hb,h1,h2,h3⟩:=zi4 w1 (.cells M2 3) (.cells M1 3) (.cells #[.int .i64 (C:Int),.slice (some ⟨w1.heap.size+1,0,none⟩) (M+1) (M+1),.slice (some ⟨w1.heap.size,0,none⟩) M M] 134)
          exact⟨_,_,_,rfl,zdm hb (Nat.le_trans HB.out HB1.out.size) HM1.out HM2.out HNC.out h2 h1 h3 (by omega) (by omega) (by omega) (by omega)⟩)
       | (obtain⟨hb,h1,h2,h3⟩:=zi4 w1 (.cells M2 3) (.cells #[.int .i64 (C:Int),.slice (some ⟨w1.heap.size+1+1,0,none⟩) (M+1) (M+1),.slice (some ⟨w1.heap.size,0,none⟩) M M] 134) (.cells M1 3)
          exact⟨_,_,_,rfl,zdm hb (Nat.le_trans HB.out HB1.out.size) HM1.out HM2.out HNC.out h3 h1 h2 (by omega) (by omega) (by omega) (by omega)⟩)
       | (obtain⟨hb,h1,h2,h3⟩:=zi4 w1 (.cells #[.int .i64 (C:Int),.slice (some ⟨w1.heap.size+1,0,none⟩) (M+1) (M+1),.slice (some ⟨w1.heap.size+1+1,0,none⟩) M M] 134) (.cells M1 3) (.cells M2 3)
          exact⟨_,_,_,rfl,zdm hb (Nat.le_trans HB.out HB1.out.size) HM1.out HM2.out HNC.out h2 h3 h1 (by omega) (by omega) (by omega) (by omega)⟩)
       | (obtain⟨hb,h1,h2,h3⟩:=zi4 w1 (.cells #[.int .i64 (C:Int),.slice (some ⟨w1.heap.size+1+1,0,none⟩) (M+1) (M+1),.slice (some ⟨w1.heap.size+1,0,none⟩) M M] 134) (.cells M2 3) (.cells M1 3)
          exact⟨_,_,_,rfl,zdm hb (Nat.le_trans HB.out HB1.out.size) HM1.out HM2.out HNC.out h3 h2 h1 (by omega) (by omega) (by omega) (by omega)⟩)
 case rest =>
   obtain⟨b4,ib,jf,rfl,hbw,l4,l1,l2,hne,hbx4,hri,hrj⟩:=hcut;have hbwc:Below w.heap.size w wc:=HB1.out.trans (hbw.mono HB1.out.size);have hnx:=(HN.out.lts.kept (Kept.of_below (fun _=>False) hbwc) (fun _ _ q=>q));have hs1:=HB1.out.size;have hw1s:w.heap.size+1<w1.heap.size:=za4 HRS.out;have hbxc:=HBX.out.stays hbw;have c2':=hbxc.nxt;have b40:wc.cell? ⟨b4,0,none⟩=some (.int .i64 (C:Int)):=cell_of_row wc b4 0 _ _ (0,0) hbx4;have n4i:b4≠ib:=fun e=>by
     obtain⟨cu,hc⟩:=zac hri (b:=ib) rfl;exact za6 hc hbx4 (by decide) e.symm
   have n4j:b4≠jf:=fun e=>by
     obtain⟨cu,hc⟩:=zac hrj (b:=jf) rfl;exact za6 hc hbx4 (by decide) e.symm
   have HBWC:=Zh hbwc;have HBW:=Zh hbw;have HNX:=Zh hnx;have HBX4:=Zh hbx4;have HRI:=Zh hri;have HRJ:=Zh hrj;have HLS:=Zh (And.intro l4 (And.intro l1 (And.intro l2 (And.intro hne (And.intro n4i n4j)))));have HW1:=Zh hw1s;have HBXC:=Zh hbxc;have HRSC:=Zh ((hbw.block (w.heap.size+1) hw1s).trans HRS.out);clear hbwc hnx hbxc hbw hbx4 hri hrj l4 l1 l2 hne n4i n4j hw1s hs1 hmk2 hmk1' hw1 hw2 c1 c2;go_upto_region 4 with fail
   clear b40;generalize hwz:wc=wz at *;clear hwz;go_loopg [32] N (fun mm s wr=>∃ i:Nat,s = .int .i64 (i:Int)∧i<=N∧mm=N-i∧NRow wr B (.slice (some ⟨ib,0,none⟩) (M+1) (M+1)) (M+1) (cntE (edges (dl rows) C i))∧Kept (fun x=>x=ib) wz wr)
   case atStart=>exact⟨0,by first | rfl | trivial,Nat.zero_le _,by first | rfl | trivial,HRI.out,Kept.refl _ _⟩
   case round =>
     obtain⟨i,rfl,hi,hmm,hr,hk⟩:=hrel;have HMM1:=Zh hmm;have HR1:=Zh hr;have HK1:=Zh hk;clear hmm
     by_cases hiN:i<N
     . obtain⟨r,hri⟩:∃ r,rows[i]?=some r:=⟨_,List.getElem?_eq_getElem (by rw[HL.out];exact hiN)⟩;obtain⟨an,Au,cu,hAn,hanl,zan,hIn,hIo⟩:=zwz HNX.out HL.out hri;obtain⟨hrl,hrx⟩:=HR.out i r hri;rw[hrl] at zan hIn hIo;subst hAn;have hibl:w.heap.size<ib:=(by have:=HLS.out.2.1;have:=HW1.out;omega);have hann:¬ an=ib:=(by have h0:an<w.heap.size:=hanl;omega);have HIO:=Zh (fun x (ex:(Value.slice Au C cu).ownBlock=some x)=>show ¬ x=ib by have h0:x<w.heap.size:=hIo x ex;omega);have zr:=hk.cell zan hann;have HZA:=Zh zan;have HIN:=Zh hIn;have HRL:=Zh hrl;have HRX:=Zh hrx;have HRW:=Zh hri;have j0:(0:Int)<=(i:Int):=(by omega);have j1:(i:Int)<(N:Int):=(by omega);have j9:(i:Int)<90000:=(by have:=HN9.out;omega);have HST:=Zh (show NRow wr B (.slice (some ⟨ib,0,none⟩) (M+1) (M+1)) (M+1) (cntE (prE (dl rows) C i 0)) by rw[zyo];exact hr);clear hri hanl zan hIn hrl hrx hr hk hIo hibl hann;go_upto_region 7 with fail
       clear zr;generalize wr=wv at *;go_loopg [38] C (fun m2 s wr=>∃ c:Nat,s = .int .i64 (c:Int)∧c<=C∧m2=C-c∧NRow wr B (.slice (some ⟨ib,0,none⟩) (M+1) (M+1)) (M+1) (cntE (prE (dl rows) C i c))∧Kept (fun x=>x=ib) wz wr)
       case atStart=>exact⟨0,by first | rfl | trivial,Nat.zero_le _,by first | rfl | trivial,HST.out,HK1.out⟩
       case round =>
         obtain⟨c,rfl,hc,hm2,hr,hk⟩:=hrel;have HMM2:=Zh hm2;have HR2:=Zh hr;have HK2:=Zh hk;clear hm2
         by_cases hcC:c<C
         . obtain⟨t,ht⟩:∃ t,r[c]?=some t:=⟨_,List.getElem?_eq_getElem (by rw[HRL.out];exact hcC)⟩;have htN:=HRX.out t (List.mem_of_getElem? ht);have hdl:dl rows i c=t:=by
             unfold dl;have h1:rows.getD i []=r:=(by rw[List.getD_eq_getElem?_getD,HRW.out];rfl);rw[h1,List.getD_eq_getElem?_getD,ht];rfl
           have hIr:=HIN.out.off hk HIO.out;have hcl:c<(ns r).length:=(by rw[zag,HRL.out];exact hcC);obtain⟨bu,cu',eu,_,_,zu⟩:=hIr.at c hcl;have hzt:(ns r)[c]'hcl=(t:Int):=by
             have h1:(ns r)[c]?=some (t:Int):=(by unfold ns;rw[List.getElem?_map,ht];rfl);rw[List.getElem?_eq_getElem hcl] at h1;injection h1
           rw[hzt] at zu;have hAu:Au=some ⟨bu,0,none⟩:=(by injection eu);subst hAu;have hkey:t*C+c<M:=by
             have h1:=Nat.mul_le_mul_right C (show t+1<=N from htN);rw[Nat.succ_mul] at h1;have:=HMM.out;omega
           obtain⟨k,hkk⟩:∃ k,t*C+c=k:=⟨_,rfl⟩;have hix:=fun W=>zm4 W C t c (.slice (some ⟨ib,0,none⟩) (M+1) (M+1)) (.slice (some ⟨jf,0,none⟩) M M) _ _ _ _ _ _ rfl rfl (by have:=HNC.out;omega)
           rw[hkk] at hkey hix;unfold waysV at hix;have HIX:=Zh hix;have zk:=(World.ownsRow.cellAt hr k (by omega)).trans (zav (show k<M+1 by omega));have fk:=hr.frozen k;obtain⟨D,hD⟩:∃ D,cntE (prE (dl rows) C i c) k=D:=⟨_,rfl⟩;change wr.cell? ⟨ib,k,none⟩=some (.int .i64 ((cntE (prE (dl rows) C i c) k:Nat):Int)) at zk;rw[hD] at zk;have hbx:=(hk.block b4 (za4 HBX4.out) HLS.out.2.2.2.2.1).trans HBX4.out;have y0:wr.cell? ⟨b4,0,none⟩=some (.int .i64 (C:Int)):=cell_of_row wr b4 0 _ _ (0,0) hbx;have y1:wr.cell? ⟨b4,1,none⟩=some (.slice (some ⟨ib,0,none⟩) (M+1) (M+1)):=cell_of_row wr b4 1 _ _ (0,0) hbx;have y2:wr.cell? ⟨b4,2,none⟩=some (.slice (some ⟨jf,0,none⟩) M M):=cell_of_row wr b4 2 _ _ (0,0) hbx;have hD9:(D:Int)<=1000000:=by
             have h1:=zy9 (prE (dl rows) C i c) k;have h2:(prE (dl rows) C i c).length<=M:=by
               obtain⟨q,hq⟩:=zls (dl rows) C i c (by omega) N hiN;have h3:=congrArg List.length hq;rw[zh1,List.length_append,HMM.out] at h3;omega
             have:=HNC.out;omega
           have hset:∀ W,Below wr.heap.size wr W->NRow (W.setCell ⟨ib,k,none⟩ (.int .i64 ((D:Int)+1))) B (.slice (some ⟨ib,0,none⟩) (M+1) (M+1)) (M+1) (cntE (prE (dl rows) C i (c+1)))∧Kept (fun x=>x=ib) wz (W.setCell ⟨ib,k,none⟩ (.int .i64 ((D:Int)+1))):=fun W hW=>by
             have h1:=NRow.set (za7 hr hW) k (D+1);have h2:=(hk.trans (Kept.of_below (fun _=>False) hW) (fun x q=>q.elim)).setCell (a:=⟨ib,k,none⟩) (.inl rfl) (.int .i64 ((D+1:Nat):Int));rw[show ((D+1:Nat):Int)=(D:Int)+1 by omega] at h1 h2;refine⟨?_,h2⟩;rw[zj1,hdl,hkk,←ztd,hD];exact h1
           have hwD:IntKind.i64.wrap ((D:Int)+1)=(D:Int)+1:=IntWalk.i64_in _ (by omega);have HSET:=Zh hset;have i2:(0:Int)<=(c:Int):=(by omega);have i3:(c:Int)<(C:Int):=(by omega);have i9:(c:Int)<90000:=(by have:=HC9.out;omega);have i4:(0:Int)<=(k:Int):=(by omega);have i5:(k:Int)<(M:Int)+1:=(by omega);clear ht htN hdl hIr hcl hzt eu hkey hkk hix hr hk hD hbx hset;go_upto_region 9 with fail
           go_region_law (first
             | (go_simp;go_at_call 70;(with_reducible refine (HIX.out _).mono ?_);rintro e' w5 ⟨rfl,b5⟩;have b5':Below wr.heap.size wr w5:=⟨b5.os,b5.tape,b5.output,b5.size,b5.block⟩;have x0:=za5 y0 b5';have x1:=za5 y1 b5';have x2:=za5 y2 b5';have xk:=za5 zk b5';have xf:=(HSET.out w5 b5');have gk:w5.frozen? ⟨ib,k,none⟩=false:=World.ownsRow.frozenAt (za7 HR2.out b5') k;have HSE:=Zh xf;clear xf b5 b5')
             | fail)
           all_goals
             clear y0 y1 y2 zk fk x0 x1 x2 xk gk;go_wp2;go_roundg (C-(c+1))
             case measure=>have:=HMM2.out;omega
             case rel=>exact⟨c+1,by go_num,by omega,rfl,HSE.out.1,HSE.out.2⟩
         . have hkl:C=c:=(by omega);rw[←hkl,zr3] at hr;have HR3:=Zh hr;have HK3:=Zh hk;clear hr hk;subst hkl;go_wp2;go_roundg (N-(i+1))
           case measure=>have:=HMM1.out;omega
           case rel=>exact⟨i+1,by go_num,by omega,rfl,HR3.out,HK3.out⟩
     . have hkl:N=i:=(by omega);rw[←hkl] at hr;obtain⟨E,hE⟩:∃ E,edges (dl rows) C N=E:=⟨_,rfl⟩;have hEL:E.length=M:=(by rw[←hE,zh1];exact HMM.out);rw[hE,←zyk] at hr;have HR3:=Zh hr;have HK3:=Zh hk;have HEE:=Zh hE;have HEL:=Zh hEL;clear hr hk hE hEL;subst hkl;go_upto_region 13 with fail
       generalize wr=wy at *;go_loopg [56] M (fun mm s wr=>∃ i:Nat,s = .int .i64 (i:Int)∧i<=M∧mm=M-i∧NRow wr B (.slice (some ⟨ib,0,none⟩) (M+1) (M+1)) (M+1) (sumE E i)∧Kept (fun x=>x=ib) wz wr)
       case atStart=>exact⟨0,by first | rfl | trivial,Nat.zero_le _,by first | rfl | trivial,HR3.out,HK3.out⟩
       case round =>
         obtain⟨i,rfl,hi,hmm,hr,hk⟩:=hrel;have HM5:=Zh hmm;have HR5:=Zh hr;have HK5:=Zh hk;clear hmm
         by_cases hiM:i<M
         . have za:=(World.ownsRow.cellAt hr i (by omega)).trans (zav (show i<M+1 by omega));have zb:=(World.ownsRow.cellAt hr (i+1) (by omega)).trans (zav (show i+1<M+1 by omega));have fk:=hr.frozen (i+1);obtain⟨Da,hDa⟩:∃ D,sumE E i i=D:=⟨_,rfl⟩;obtain⟨Db,hDb⟩:∃ D,sumE E i (i+1)=D:=⟨_,rfl⟩;have l1:=zqe E i i;have l2:=zqe E i (i+1);rw[hDa,HEL.out] at l1;rw[hDb,HEL.out] at l2;change wr.cell? ⟨ib,i,none⟩=some (.int .i64 ((sumE E i i:Nat):Int)) at za;change wr.cell? ⟨ib,i+1,none⟩=some (.int .i64 ((sumE E i (i+1):Nat):Int)) at zb;rw[hDa] at za;rw[hDb] at zb;have hNC:=HNC.out;have hwD:IntKind.i64.wrap ((Db:Int)+(Da:Int))=(Db:Int)+(Da:Int):=IntWalk.i64_in _ (by omega);have hwi:IntKind.i64.wrap ((i:Int)+1)=(i:Int)+1:=IntWalk.i64_in _ (by omega);have hbx:=(hk.block b4 (za4 HBX4.out) HLS.out.2.2.2.2.1).trans HBX4.out;have y1:wr.cell? ⟨b4,1,none⟩=some (.slice (some ⟨ib,0,none⟩) (M+1) (M+1)):=cell_of_row wr b4 1 _ _ (0,0) hbx;have hset:NRow ((wr.setCell ⟨ib,i+1,none⟩ (.int .i64 ((Db:Int)+(Da:Int)))).drew) B (.slice (some ⟨ib,0,none⟩) (M+1) (M+1)) (M+1) (sumE E (i+1))∧Kept (fun x=>x=ib) wz ((wr.setCell ⟨ib,i+1,none⟩ (.int .i64 ((Db:Int)+(Da:Int)))).drew):=by
             have h1:NRow ((wr.setCell ⟨ib,i+1,none⟩ (.int .i64 ((Db+Da:Nat):Int))).drew) B (.slice (some ⟨ib,0,none⟩) (M+1) (M+1)) (M+1) _:=za7 (NRow.set hr (i+1) (Db+Da)) (Below.refl _ _).drew;have h2:=(hk.setCell (a:=⟨ib,i+1,none⟩) (.inl rfl) (.int .i64 ((Db+Da:Nat):Int))).drew;rw[show ((Db+Da:Nat):Int)=(Db:Int)+(Da:Int) by omega] at h1 h2;refine⟨?_,h2⟩;rw[←zqd,hDa,hDb];exact h1
           have HSET:=Zh hset;have i2:(0:Int)<=(i:Int):=(by omega);have i3:(i:Int)<(M:Int):=(by omega);have i4:(i:Int)+1<(M:Int)+1:=(by omega);have i5:(i:Int)<(M:Int)+1:=(by omega);have i9:(i:Int)<1000000:=(by omega);clear hr hk hDa hDb l1 l2 hNC hbx hset;go_wp2;go_region;go_wp2;go_roundg (M-(i+1))
           case measure=>have:=HM5.out;omega
           case rel=>exact⟨i+1,by go_num,by omega,rfl,HSET.out.1,HSET.out.2⟩
         . have hkl:M=i:=(by omega);rw[←hkl] at hr;have hre:NRow wr B (.slice (some ⟨ib,0,none⟩) (M+1) (M+1)) (M+1) (endE E):=hr.congr fun x hx=>by unfold sumE;rw[if_pos (by omega)]
           have hrj:NRow wr B (.slice (some ⟨jf,0,none⟩) M M) M (fun _=>0):=HRJ.out.kept hk fun x ex e=>HLS.out.2.2.2.1 (by
                                                                                                                                      have:jf=x:=by injection ex
                                                                                                                                      omega)
           have hkq:Kept (fun x=>x=ib∨x=jf) wz wr:=hk.mono fun x e => .inl (.inl e)
           have hnxm:=(HBXC.out.kept hk (fun e=>by have:=HLS.out.2.1;have:=HW1.out;omega)).nxt;have HRE:=Zh hre;have HRJ2:=Zh hrj;have HKQ:=Zh hkq;have hlp:=zpe E;have HLP:=Zh hlp;clear hr hk hre hrj hkq hlp;subst hkl;go_upto_region 18 with fail
           clear hnxm;generalize wr=wx at *;go_loopg [76] N (fun mm s wr=>∃ (i:Nat) (b f:Nat->Nat),s = .int .i64 (i:Int)∧i<=N∧mm=N-i∧LayP E (edges (dl rows) C i) b f∧NRow wr B (.slice (some ⟨ib,0,none⟩) (M+1) (M+1)) (M+1) b∧NRow wr B (.slice (some ⟨jf,0,none⟩) M M) M f∧Kept (fun x=>x=ib∨x=jf) wz wr)
           case atStart=>exact⟨0,_,_,by first | rfl | trivial,Nat.zero_le _,by first | rfl | trivial,HLP.out,HRE.out,HRJ2.out,HKQ.out⟩
           case round =>
             obtain⟨i,b,f,rfl,hi,hmm,hlp,hrb,hrf,hk⟩:=hrel;have HM6:=Zh hmm;have HLP6:=Zh hlp;have HRB6:=Zh hrb;have HRF6:=Zh hrf;have HK6:=Zh hk;clear hmm
             by_cases hiN:i<N
             . obtain⟨r,hri⟩:∃ r,rows[i]?=some r:=⟨_,List.getElem?_eq_getElem (by rw[HL.out];exact hiN)⟩;obtain⟨an,Au,cu,hAn,hanl,zan,hIn,hIo⟩:=zwz HNX.out HL.out hri;obtain⟨hrl,hrx⟩:=HR.out i r hri;rw[hrl] at zan hIn hIo;subst hAn;have hibl:w.heap.size<ib∧w.heap.size<jf:=(by have h1:=HLS.out.2.1;have h2:=HLS.out.2.2.1;have:=HW1.out;omega);have hann:¬ (an=ib∨an=jf):=(by have h0:an<w.heap.size:=hanl;omega);have HIO:=Zh (fun x (ex:(Value.slice Au C cu).ownBlock=some x)=>show ¬ (x=ib∨x=jf) by have h0:x<w.heap.size:=hIo x ex;omega);have zr:=hk.cell zan hann;have HIN:=Zh hIn;have HRL:=Zh hrl;have HRX:=Zh hrx;have HRW:=Zh hri;have j0:(0:Int)<=(i:Int):=(by omega);have j1:(i:Int)<(N:Int):=(by omega);have j9:(i:Int)<90000:=(by have:=HN9.out;omega);have HST:=Zh (show LayP E (prE (dl rows) C i 0) b f by rw[zyo];exact hlp);clear hri hanl zan hIn hrl hrx hlp hrb hrf hk hIo hibl hann;go_upto_region 21 with fail
               clear zr;generalize wr=wv at *;go_loopg [83] C (fun m2 s wr=>∃ (c:Nat) (b f:Nat->Nat),s = .int .i64 (c:Int)∧c<=C∧m2=C-c∧LayP E (prE (dl rows) C i c) b f∧NRow wr B (.slice (some ⟨ib,0,none⟩) (M+1) (M+1)) (M+1) b∧NRow wr B (.slice (some ⟨jf,0,none⟩) M M) M f∧Kept (fun x=>x=ib∨x=jf) wz wr)
               case atStart=>exact⟨0,b,f,by first | rfl | trivial,Nat.zero_le _,by first | rfl | trivial,HST.out,HRB6.out,HRF6.out,HK6.out⟩
               case round =>
                 obtain⟨c,b,f,rfl,hc,hm2,hlp,hrb,hrf,hk⟩:=hrel;have HM7:=Zh hm2;have HLP7:=Zh hlp;have HRB7:=Zh hrb;have HRF7:=Zh hrf;have HK7:=Zh hk;clear hm2
                 by_cases hcC:c<C
                 . obtain⟨t,ht⟩:∃ t,r[c]?=some t:=⟨_,List.getElem?_eq_getElem (by rw[HRL.out];exact hcC)⟩;have htN:=HRX.out t (List.mem_of_getElem? ht);have hdl:dl rows i c=t:=by
                     unfold dl;have h1:rows.getD i []=r:=(by rw[List.getD_eq_getElem?_getD,HRW.out];rfl);rw[h1,List.getD_eq_getElem?_getD,ht];rfl
                   have hIr:=HIN.out.off hk HIO.out;have hcl:c<(ns r).length:=(by rw[zag,HRL.out];exact hcC);obtain⟨bu,cu',eu,_,_,zu⟩:=hIr.at c hcl;have hzt:(ns r)[c]'hcl=(t:Int):=by
                     have h1:(ns r)[c]?=some (t:Int):=(by unfold ns;rw[List.getElem?_map,ht];rfl);rw[List.getElem?_eq_getElem hcl] at h1;injection h1
                   rw[hzt] at zu;have hAu:Au=some ⟨bu,0,none⟩:=(by injection eu);subst hAu;have hkey:t*C+c<M:=by
                     have h1:=Nat.mul_le_mul_right C (show t+1<=N from htN);rw[Nat.succ_mul] at h1;have:=HMM.out;omega
                   obtain⟨k,hkk⟩:∃ k,t*C+c=k:=⟨_,rfl⟩;have hix:=fun W=>zm4 W C t c (.slice (some ⟨ib,0,none⟩) (M+1) (M+1)) (.slice (some ⟨jf,0,none⟩) M M) _ _ _ _ _ _ rfl rfl (by have:=HNC.out;omega)
                   rw[hkk] at hkey hix;unfold waysV at hix;have HIX:=Zh hix;have hst:=zs7 (k:=k) (v:=i) hlp (by
                     obtain⟨q,hq⟩:=zls (dl rows) C i (c+1) (by omega) N hiN;rw[zj1,hdl,hkk,HEE.out] at hq;exact⟨q,hq⟩)
                   obtain⟨hs1,hs2,hs3⟩:=hst;rw[HEL.out] at hs2;obtain⟨V,hV⟩:∃ V,b k=V+1:=⟨b k-1,by omega⟩;rw[hV] at hs2;rw[show b k-1=V by omega] at hs3;have zb:=(World.ownsRow.cellAt hrb k (by omega)).trans (zav (show k<M+1 by omega));change wr.cell? ⟨ib,k,none⟩=some (.int .i64 ((b k:Nat):Int)) at zb;rw[hV,show ((V+1:Nat):Int)=(V:Int)+1 by omega] at zb;have zf:=(World.ownsRow.cellAt hrf V (by omega)).trans (zav (show V<M by omega));have hbx:=(hk.block b4 (za4 HBX4.out) (fun q=>q.elim HLS.out.2.2.2.2.1 HLS.out.2.2.2.2.2)).trans HBX4.out;have y0:wr.cell? ⟨b4,0,none⟩=some (.int .i64 (C:Int)):=cell_of_row wr b4 0 _ _ (0,0) hbx;have y1:wr.cell? ⟨b4,1,none⟩=some (.slice (some ⟨ib,0,none⟩) (M+1) (M+1)):=cell_of_row wr b4 1 _ _ (0,0) hbx;have y2:wr.cell? ⟨b4,2,none⟩=some (.slice (some ⟨jf,0,none⟩) M M):=cell_of_row wr b4 2 _ _ (0,0) hbx;have hNC:=HNC.out;have hwV:IntKind.i64.wrap ((V:Int)+1-1)=(V:Int):=(by rw[show (V:Int)+1-1=(V:Int) by omega];exact IntWalk.i64_in _ (by omega));have n45:¬ b4=ib:=HLS.out.2.2.2.2.1;have n46:¬ b4=jf:=HLS.out.2.2.2.2.2;have nij:¬ ib=jf:=HLS.out.2.2.2.1;have hset:∀ W,Below wr.heap.size wr W->NRow (((W.setCell ⟨ib,k,none⟩ (.int .i64 (V:Int))).setCell ⟨jf,V,none⟩ (.int .i64 (i:Int))).drew) B (.slice (some ⟨ib,0,none⟩) (M+1) (M+1)) (M+1) (upd b k V)∧NRow (((W.setCell ⟨ib,k,none⟩ (.int .i64 (V:Int))).setCell ⟨jf,V,none⟩ (.int .i64 (i:Int))).drew) B (.slice (some ⟨jf,0,none⟩) M M) M (upd f V i)∧Kept (fun x=>x=ib∨x=jf) wz (((W.setCell ⟨ib,k,none⟩ (.int .i64 (V:Int))).setCell ⟨jf,V,none⟩ (.int .i64 (i:Int))).drew):=fun W hW=>by
                     have a1:NRow (W.setCell ⟨ib,k,none⟩ (.int .i64 (V:Int))) B (.slice (some ⟨ib,0,none⟩) (M+1) (M+1)) (M+1) (upd b k V):=NRow.set (za7 hrb hW) k V;have k1:Kept (fun x=>x=ib) W (W.setCell ⟨ib,k,none⟩ (.int .i64 (V:Int))):=(Kept.refl (fun x=>x=ib) W).setCell (a:=⟨ib,k,none⟩) (.inl rfl) _;have a2:NRow (W.setCell ⟨ib,k,none⟩ (.int .i64 (V:Int))) B (.slice (some ⟨jf,0,none⟩) M M) M f:=NRow.kept (za7 hrf hW) k1 fun x ex e=>nij (by have h9:jf=x:=(by injection ex);omega)
                     have k2:Kept (fun x=>x=jf) (W.setCell ⟨ib,k,none⟩ (.int .i64 (V:Int))) ((W.setCell ⟨ib,k,none⟩ (.int .i64 (V:Int))).setCell ⟨jf,V,none⟩ (.int .i64 (i:Int))):=(Kept.refl (fun x=>x=jf) _).setCell (a:=⟨jf,V,none⟩) (.inl rfl) _;have a3:NRow ((W.setCell ⟨ib,k,none⟩ (.int .i64 (V:Int))).setCell ⟨jf,V,none⟩ (.int .i64 (i:Int))) B (.slice (some ⟨jf,0,none⟩) M M) M (upd f V i):=NRow.set a2 V i;have a4:=NRow.kept a1 k2 fun x ex e=>nij (by have h9:ib=x:=(by injection ex);omega)
                     refine⟨za7 a4 (Below.refl _ _).drew,za7 a3 (Below.refl _ _).drew,(((hk.trans (Kept.of_below (fun _=>False) hW) (fun x q=>q.elim)).setCell (a:=⟨ib,k,none⟩) (.inl (.inl rfl)) _).setCell (a:=⟨jf,V,none⟩) (.inl (.inr rfl)) _).drew⟩
                   have HSET:=Zh hset;have HS3:=Zh (show LayP E (prE (dl rows) C i (c+1)) (upd b k V) (upd f V i) by rw[zj1,hdl,hkk];exact hs3);have i2:(0:Int)<=(c:Int):=(by omega);have i3:(c:Int)<(C:Int):=(by omega);have i9:(c:Int)<90000:=(by have:=HC9.out;omega);have i4:(0:Int)<=(k:Int):=(by omega);have i5:(k:Int)<(M:Int)+1:=(by omega);have i6:(0:Int)<=(V:Int):=(by omega);have i7:(V:Int)<(M:Int):=(by omega);have i8:(V:Int)<=1000000:=(by omega);have hwV2:IntKind.i64.wrap (V:Int)=(V:Int):=IntWalk.i64_in _ (by omega);clear ht htN hdl hIr hcl hzt eu hkey hkk hix hrb hrf hk hV hs1 hs2 hs3 hbx hset hNC hlp;go_upto_region 25 with (first
                     | (go_at_call 70;(with_reducible refine (HIX.out _).mono ?_);rintro e' w5 ⟨rfl,b5⟩;have x1:=za5 y1 b5;have x2:=za5 y2 b5;have xk:=za5 zb b5;have xv:=za5 zf b5;have gk:w5.frozen? ⟨ib,k,none⟩=false:=World.ownsRow.frozenAt (za7 HRB7.out b5) k;have gv:w5.frozen? ⟨jf,V,none⟩=false:=World.ownsRow.frozenAt (za7 HRF7.out b5) V;have HSE:=Zh (HSET.out w5 b5);clear b5)
                     | fail)
                   go_region;go_wp2;go_roundg (C-(c+1))
                   case measure=>have:=HM7.out;omega
                   case rel=>exact⟨c+1,_,_,by go_num,by omega,rfl,HS3.out,HSE.out.1,HSE.out.2.1,HSE.out.2.2⟩
                 . have hkl:C=c:=(by omega);rw[←hkl,zr3] at hlp;have HLP8:=Zh hlp;clear hlp hrb hrf hk;subst hkl;go_wp2;go_roundg (N-(i+1))
                   case measure=>have:=HM6.out;omega
                   case rel=>exact⟨i+1,b,f,by go_num,by omega,rfl,HLP8.out,HRB7.out,HRF7.out,HK7.out⟩
             . have hkl:N=i:=(by omega);rw[←hkl,HEE.out] at hlp;obtain⟨hb1,hb2⟩:=zvo hlp;have hrb2:NRow wr B (.slice (some ⟨ib,0,none⟩) (M+1) (M+1)) (M+1) (begE E):=hrb.congr fun x hx=>hb1 x
               have hwm:WM wr B (.slice (some ⟨ib,0,none⟩) (M+1) (M+1)) (.slice (some ⟨jf,0,none⟩) M M) E M f:=⟨hrb2,hrf,hb2,HEL.out⟩;have hbx:=(hk.block b4 (za4 HBX4.out) (fun q=>q.elim HLS.out.2.2.2.2.1 HLS.out.2.2.2.2.2)).trans HBX4.out;have y0:wr.cell? ⟨b4,0,none⟩=some (.int .i64 (C:Int)):=cell_of_row wr b4 0 _ _ (0,0) hbx;have y1:wr.cell? ⟨b4,1,none⟩=some (.slice (some ⟨ib,0,none⟩) (M+1) (M+1)):=cell_of_row wr b4 1 _ _ (0,0) hbx;have y2:wr.cell? ⟨b4,2,none⟩=some (.slice (some ⟨jf,0,none⟩) M M):=cell_of_row wr b4 2 _ _ (0,0) hbx;have hls:=HLS.out;have hw1:=HW1.out;have hrs2:=(hk.block (w.heap.size+1) (za4 HRSC.out) (fun q=>by rcases q with q | q <;> omega)).trans HRSC.out;have hbel:Below w.heap.size w wr:=HBWC.out.trans (hk.below HBWC.out.size (fun x q=>by rcases q with q | q <;> omega));have HWM:=Zh hwm;have HRS2:=Zh hrs2;have HBEL:=Zh hbel;clear hlp hb1 hb2 hrb2 hwm hbx hrs2 hbel hrb hrf hk hw1;have HLS2:=Zh hls;clear hls;go_wp2_with (first
                 | (refine zhd (by rfl) _ _ (by rfl) (by rfl) (by rfl) HRS2.out rfl (by rfl) (by rfl) (by rfl) ?_;intro hbx;have HX:=Zh hbx;clear hbx;go_simp)
                 | fail)
               refine bodyPost_ret (zk6 Try.results60 rfl HX.out) rfl ⟨_,_,f,rfl,?_,zah HBEL.out (by omega) _,fun v hv x ex=>?_⟩
               . rw[HEE.out,HMM.out];have kr:Kept (fun x=>x=w.heap.size+1) wr (wr.setRow (w.heap.size+1) #[.int .i64 (C:Int),.slice (some ⟨ib,0,none⟩) (M+1) (M+1),.slice (some ⟨jf,0,none⟩) M M]):=zd5 (Kept.refl (fun x=>x=w.heap.size+1) wr) (.inl rfl) _;refine HWM.out.kept kr (fun x ex e=>?_) (fun x ex e=>?_)
                 . have h9:ib=x:=(by injection ex);have h1:=HLS2.out.2.1;have h2:=HW1.out;omega
                 . have h9:jf=x:=(by injection ex);have h1:=HLS2.out.2.2.1;have h2:=HW1.out;omega
               . have h1:=HLS2.out.2.1;have h3:=HLS2.out.2.2.1;have h2:=HW1.out;simp only[List.mem_cons,List.not_mem_nil,or_false] at hv;rcases hv with rfl|rfl
                 . have h9:ib=x:=(by injection ex);omega
                 . have h9:jf=x:=(by injection ex);omega
section
structure AI (δ:Nat->Nat->Nat) (os:List (Nat×Nat)) (N C g:Nat) (p:PT):Prop where
 inv:PInv p
 eN:p.N=N
 clr:Clear p
 hi:∃ A,HI (Alk δ (fun s=>os[s]?) N C) A g p∧Stab δ C A p
 out:∀ s t,s<N->t<N->p.grp s=p.grp t->os[s]?=os[t]?
section
variable {δ:Nat->Nat->Nat} {os gs:List (Nat×Nat)} {N C g:Nat} {f:Nat->Nat} {p:PT}
theorem AI.begin (h:GI os N gs f) (hN:os.length=N):AI δ os N C 0 (newF f N gs.length):=by
 obtain⟨h1,h2,h3⟩:=h.end hN;have hp:=zxo (n:=gs.length) h1 h3;refine⟨hp,rfl,fun _ _=>rfl,⟨fun _=>False,zvu hp fun s t hs ht=>h2 s t hs ht,fun X hX=>hX.elim⟩,fun s t hs ht e=>(h2 s t hs ht).1 e⟩
theorem AI.step (hδ:∀ s c,s<N->c<C->δ s c<N) (h:AI δ os N C g p) (hg:g<p.n):
   AI δ os N C (g+1) (byCls (fun k=>toAll δ C N k (goalsF p g)) C 0 p):=by
 obtain⟨A,hh,hst⟩:=h.hi;have e:=h.eN;obtain⟨q1,q2,q3,q4,q5,q6⟩:=zy4 (ms:=fun k=>toAll δ C N k (goalsF p g)) (zli hδ) (fun s t a=>by rw[e];exact zze a) h.inv h.clr hh hst hg (fun c hc=>ze1 hc _ (zgy h.inv hg)) (fun c hc s=>by rw[zg8 hc,zkx h.inv hg,e]);exact⟨q1,q2.trans e,q4,q5,fun s t hs ht e'=>h.out s t hs ht (q6 s t (by omega) (by omega) e')⟩
theorem AI.end (hδ:∀ s c,s<N->c<C->δ s c<N) (h:AI δ os N C g p) (hg:p.n<=g) {s t:Nat} (hs:s<N) (ht:t<N):p.grp s=p.grp t↔Alk δ (fun s=>os[s]?) N C s t:=by
 obtain⟨A,hh,hst⟩:=h.hi;have e:=h.eN;subst e;have hh':HI (Alk δ (fun s=>os[s]?) p.N C) A p.n p:=⟨hh.i0,fun s t a b h1 _=>hh.i2 s t a b h1 fun k k1 k2=>by omega⟩;exact zz5 hδ hh' hst h.out hs ht
end
end
section
open Go Go.RowKit Go.Maps
set_option maxRecDepth 20000 in
theorem zn6 {w:World} {bm n:Nat} {D:DataW Unit} (h:w.ownsMap (H:=Unit) Try.prog 51 (plainElem Try.prog 3) bm n D) {o:Nat×Nat} (ho:okO o) {c:Int} {t:Bool} (hc:D.atKey (litO o) (.lit (.int .i64 0)) = .lit (.int .i64 c)) (ht:Maps.has D (litO o)=t):
   (Instr.lookup 160 (.map (some bm)) (.agg #[.int .u64 (o.1:Int),.int .u64 (o.2:Int)]) true).run Try.prog w = .ok (.tuple #[.int .i64 c,.bool t]) w:=by
 obtain⟨v,ps,hrun,hv⟩:=h.look_ok znk Try.underlying160 (Try.zeroIntM w) (plainElem_int Try.underlying3 (a:=0) (by decide)) (zje o ho);obtain⟨a,rfl,h2,_⟩:=plainElem_int_inv Try.underlying3 hv;have h3:D.atKey (litO o) (.lit (.int .i64 0)) = .lit (.int .i64 a):=congrArg Prod.fst h2;rw[hc] at h3;injection h3 with h3
 injection h3 with _ h3
 subst h3;rw[ht] at hrun;exact hrun
theorem zel {w w':World} {b n:Nat} {D:DataW Unit} (h:w.ownsMap (H:=Unit) Try.prog 51 (plainElem Try.prog 3) b n D) (hb:w'.heap[b]?=w.heap[b]?):w'.ownsMap (H:=Unit) Try.prog 51 (plainElem Try.prog 3) b n D:=by
 obtain⟨es,clock,hm,r⟩:=h;exact⟨es,clock,hb.trans hm,r⟩
structure GM (w0 w:World) (b0 N:Nat) (os:List (Nat×Nat)) (i:Nat) (gs:List (Nat×Nat)) (f:Nat->Nat) (D:DataW Unit):Prop where
 b0is:w0.heap.size=b0
 row:NRow w b0 (.slice (some ⟨b0+1,0,none⟩) N N) N f
 map:w.ownsMap (H:=Unit) Try.prog 51 (plainElem Try.prog 3) b0 gs.length D
 dat:OutIs D gs
 gi:GI os i gs f
 le:gs.length<=i
 below:Below b0 w0 w
section
variable {w0 w w':World} {b0 N i:Nat} {os gs:List (Nat×Nat)} {f:Nat->Nat} {D:DataW Unit}
theorem GM.lt (h:GM w0 w b0 N os i gs f D):b0+1<w.heap.size:=(World.ownsRow.lt h.row (b0+1) rfl).2
theorem GM.stays (h:GM w0 w b0 N os i gs f D) (hb:Below w.heap.size w w'):GM w0 w' b0 N os i gs f D:=
 ⟨h.b0is,za7 h.row hb,zel h.map (hb.block b0 (by have:=h.lt;omega)),h.dat,h.gi,h.le,h.below.trans (hb.mono (by have:=h.lt;omega))⟩
theorem GM.old (h:GM w0 w b0 N os i gs f D) {g:Nat} {o:Nat×Nat} (ho:os[i]?=some o) (hg:gs[g]?=some o):GM w0 (w.setCell ⟨b0+1,i,none⟩ (.int .i64 (g:Int))) b0 N os (i+1) gs (upd f i g) D:=
 ⟨h.b0is,h.row.set i g,zel h.map (Below.heap_setCell _ _ _ _ (by show b0≠b0+1;omega)),h.dat,h.gi.old ho hg,Nat.le_succ_of_le h.le,h.below.setCell (p:=⟨b0+1,i,none⟩) (Nat.le_succ _) _⟩
theorem GM.new (h:GM w0 w b0 N os i gs f D) {o:Nat×Nat} (ho:os[i]?=some o) (hok:okO o) (hg:o∉gs) (hm:w'.ownsMap (H:=Unit) Try.prog 51 (plainElem Try.prog 3) b0 (gs.length+1) (D.put (litO o) (.lit (.int .i64 (gs.length:Nat))))) (ht:w.mapTurned w' b0):
   GM w0 (w'.setCell ⟨b0+1,i,none⟩ (.int .i64 (gs.length:Int))) b0 N os (i+1) (gs++[o]) (upd f i gs.length) (D.put (litO o) (.lit (.int .i64 (gs.length:Nat)))):=by
 have hk:Kept (fun b=>b=b0) w w':=(Kept.refl _ _).grown ht.grown fun b e => .inl (by injection e with e;exact e.symm)
 refine⟨h.b0is,(h.row.kept hk fun b e q=>absurd ((show b0+1=b by injection e).trans q) (by omega)).set i gs.length,?_,h.dat.put hok hg,h.gi.new ho hg,by have:=h.le;simp;omega,((h.below.trans (hk.below (by have:=h.lt;omega) fun b q=>by omega))).setCell (p:=⟨b0+1,i,none⟩) (Nat.le_succ _) _⟩;rw[List.length_append];exact zel hm (Below.heap_setCell _ _ _ _ (by show b0≠b0+1;omega))
end
def RetGrp (w:World) (os:List (Nat×Nat)) (N:Nat) (e:Ending) (w':World):Prop:=
 ∃ vg gs f,e = .returned (.tuple #[vg,.int .i64 ((gs.length:Nat):Int)])∧NRow w' w.heap.size vg N f∧GI os N gs f∧gs.length<=N∧Below w.heap.size w w'
set_option maxRecDepth 20000 in
set_option maxHeartbeats 2000000 in
theorem zpi {w:World} {B N:Nat} {vO:Value} {os:List (Nat×Nat)} (hO:w.ownsRow B 51 2 vO N (outC os)) (hl:os.length=N) (hok:∀ o∈os,okO o) (hN:N<=90000):
   Calls Try.prog 59 #[vO] w (RetGrp w os N):=by
 obtain⟨Ao,co,hv⟩:=zaf hO;subst hv;obtain⟨M,hM,hmk⟩:=zcf N (by omega);have hmm := @run_makeMap Try.prog;obtain⟨b0,hb0⟩:∃ b0,w.heap.size=b0:=⟨_,rfl⟩;have hw1:=heap_alloc_new (w.alloc (.map #[] 0)) (.cells M 3);rw[World.size_alloc,hb0] at hw1;have hm1:=zel (World.ownsMap_made (H:=Unit) w Try.prog 51 (plainElem Try.prog 3)) (Below.heap_alloc (w.alloc (.map #[] 0)) (.cells M 3) w.heap.size (by simp));rw[hb0] at hm1;have hgm:GM w ((w.alloc (.map #[] 0)).alloc (.cells M 3)) b0 N os 0 [] (fun _=>0) (.map []):=
   ⟨hb0,zbq hM hw1 (Nat.le_succ _) (by omega),hm1,OutIs.nil,GI.nil _ _,Nat.zero_le _,(((Below.refl b0 w).alloc (by omega) _).alloc (by simp;omega) _)⟩
 have hsz:(w.alloc (.map #[] 0)).heap.size=b0+1:=(by rw[World.size_alloc,hb0]);have hmk1:=hmk (w.alloc (.map #[] 0));rw[hsz] at hmk1;have hnN:(N:Int)<=90000:=(by omega);have HO:=Zh hO;have HL:=Zh hl;have HOK:=Zh hok;have HGM:=Zh hgm;have HN:=Zh hN;have HB0:=Zh hb0;clear hO hl hok hgm hM hw1 hm1 hmk hN;go_enter Try.func59,Try.ntmps59;go_upto_region 4 with fail
 generalize (w.alloc (.map #[] 0)).alloc (.cells M 3)=w1 at *;go_loopg [16] N (fun mm s wr=>∃ (i:Nat) (gs:List (Nat×Nat)) (f:Nat->Nat) (D:DataW Unit),s = .int .i64 (i:Int)∧i<=N∧mm=N-i∧GM w wr b0 N os i gs f D)
 case atStart=>exact⟨0,[],_,_,by first | rfl | trivial,Nat.zero_le _,by first | rfl | trivial,HGM.out⟩
 case round =>
   obtain⟨i,gs,f,D,rfl,hi,hmm,hg⟩:=hrel;have HMM:=Zh hmm;have HG:=Zh hg;clear hmm
   by_cases hiN:i<N
   . obtain⟨o,ho⟩:∃ o,os[i]?=some o:=⟨_,List.getElem?_eq_getElem (by rw[HL.out];exact hiN)⟩;have hoo:=HOK.out o (List.mem_of_getElem? ho);have hor:=za7 HO.out (show Below w.heap.size w wr from by rw[HB0.out];exact hg.below);obtain⟨g3,rfl⟩:∃ g,Ao=some ⟨g,0,none⟩:=by
       rcases hor.2 with ⟨_,h0⟩|⟨g,cap,cur,e,_⟩
       . omega
       . injection e with e1;exact⟨g,e1⟩
     obtain⟨o0,o1⟩:=zc3 os i o ho;have d3:wr.cell? ⟨g3,i*2,none⟩=some (.int .u64 (o.1:Int)):=(World.ownsRow.cellAt hor (i*2) (by omega)).trans o0;have d4:wr.cell? ⟨g3,i*2+1,none⟩=some (.int .u64 (o.2:Int)):=(World.ownsRow.cellAt hor (i*2+1) (by omega)).trans o1;have hba:Below wr.heap.size wr (wr.alloc (.cells #[.int .u64 (o.1:Int),.int .u64 (o.2:Int)] 51)):=(Below.refl _ _).alloc (Nat.le_refl _) _;have hbo:=BoxO.new wr (.int .u64 (o.1:Int)) (.int .u64 (o.2:Int)) _ rfl;have hg2:=hg.stays hba;obtain⟨L,hL⟩:∃ L,gs.length=L:=⟨_,rfl⟩;have hgl:=hg.le;rw[hL] at hgl;have i0:(0:Int)<=(i:Int):=(by omega);have i1:(i:Int)<(N:Int):=(by omega);have i2:(i:Int)<100000:=(by have:=HN.out;omega);have HLL:=Zh hL;have HI:=Zh ho;have HOO:=Zh hoo;have HG2:=Zh hg2;have HBO:=Zh hbo;clear hL hbo hba hor o0 o1 hg hg2
     by_cases hin:o∈gs
     . obtain⟨k,hk,hke⟩:=List.mem_iff_getElem.1 hin;have hk?:gs[k]?=some o:=(by rw[←hke];exact List.getElem?_eq_getElem hk);have hat:=HG2.out.dat.idx k o hk?;have hhas:=(HG2.out.dat.has o hoo).2 hin;have HK:=Zh hk?;clear hin hk hke hk? ho hoo;go_upto_region 6 with fail
       have hlk:=zn6 HG2.out.map HOO.out hat hhas;obtain⟨q0,q1⟩:=HBO.out.cell;obtain⟨f2,f3⟩:=HBO.out.frozen;obtain⟨gb,hgb⟩:∃ gb,wr.heap.size=gb:=⟨_,rfl⟩;rw[hgb] at q0 q1 f2 f3 ⊢;generalize (wr.alloc (.cells #[.int .u64 (o.1:Int),.int .u64 (o.2:Int)] 51))=wa at *;have fz:=HG2.out.row.frozen i;have zz:=(World.ownsRow.cellAt HG2.out.row i (by omega)).trans (zav hiN);have hfin:=HG2.out.old HI.out HK.out;have HFIN:=Zh hfin;clear hfin hat hhas d3 d4;go_wp2;go_roundg (N-(i+1))
       case measure=>have:=HMM.out;omega
       case rel=>exact⟨i+1,gs,_,D,by go_num,by omega,rfl,HFIN.out⟩
     . have hno:Maps.has (H:=Unit) D (litO o)=false:=by
         cases h:Maps.has (H:=Unit) D (litO o)
         . rfl
         . exact absurd ((HG2.out.dat.has o hoo).1 h) hin
       have hat:D.atKey (litO o) (.lit (.int .i64 0)) = .lit (.int .i64 0):=Maps.atKey_of_not_has hno _;have HIN:=Zh hin;clear hin hoo ho;go_upto_region 6 with fail
       have hlk:=zn6 HG2.out.map HOO.out hat hno;obtain⟨q0,q1⟩:=HBO.out.cell;obtain⟨f2,f3⟩:=HBO.out.frozen;obtain⟨gb,hgb⟩:∃ gb,wr.heap.size=gb:=⟨_,rfl⟩;rw[hgb] at q0 q1 f2 f3 ⊢;generalize (wr.alloc (.cells #[.int .u64 (o.1:Int),.int .u64 (o.2:Int)] 51))=wa at *;have hlen:=HG2.out.map.len Try.underlying160;rw[HG2.out.dat.size,HLL.out] at hlen;have hpe:plainElem (H:=Unit) Try.prog 3 (.int .i64 (L:Int))=some (.lit (.int .i64 (L:Int)),[]):=plainElem_int Try.underlying3 (zwv _ (by omega) (by omega));have hnm:gs.length<maxLen:=(by have:=HG2.out.le;unfold maxLen;omega);have HPE:=Zh hpe;have HNM:=Zh hnm;clear hpe hnm d3 d4 hno hat;go_upto_region 10 with (first
         | (at_mapUpdate;refine wpList_mapUpdate_in _ rfl _ _ _ 160 rfl 51 3 znk Try.underlying160 _ b0 gs.length D rfl HG2.out.map HNM.out _ _ _ rfl rfl (zje o HOO.out) _ [] HPE.out ?_;intro w3 o3 t3;have O3:=Zh o3;have T3:=Zh t3;clear o3 t3)
         | fail)
       have o3:=O3.out;rw[←HLL.out] at o3;have hfin:=HG2.out.new HI.out HOO.out HIN.out o3 T3.out;rw[HLL.out] at hfin;have hk:Kept (fun b=>b=b0) wa w3:=(Kept.refl _ _).grown T3.out.grown fun b e => .inl (by injection e with e;exact e.symm)
       have hrow:=HG2.out.row.kept hk fun b e q=>absurd ((show b0+1=b by injection e).trans q) (by omega)
       have fz:=hrow.frozen i;have zz:=(World.ownsRow.cellAt hrow i (by omega)).trans (zav hiN);have HFIN:=Zh hfin;clear hfin hk hrow o3 hlk hlen q0 q1;go_wp2;go_roundg (N-(i+1))
       case measure=>have:=HMM.out;omega
       case rel=>exact⟨i+1,_,_,_,by go_num,by omega,rfl,HFIN.out⟩
   . have hkl:N=i:=(by omega);subst hkl;have hlen:=HG.out.map.len Try.underlying160;rw[HG.out.dat.size] at hlen;obtain⟨L,hL⟩:∃ L,gs.length=L:=⟨_,rfl⟩;rw[hL] at hlen;have HLL:=Zh hL;clear hL;go_wp2;go_ret2;exact⟨.slice (some ⟨b0+1,0,none⟩) N N,gs,f,by rw[HLL.out];rfl,by rw[HB0.out];exact HG.out.row,HG.out.gi,HG.out.le,by rw[HB0.out];exact HG.out.below⟩
end
theorem zu2 (f:Nat->Nat) (k:Nat):upd f k (f k)=f:=by
 funext x
 unfold upd;split
 . rename_i h;rw[h]
 . rfl
theorem zta (grp:Nat->Nat) (S:Nat):upd (cntG grp S) (grp S) (cntG grp S (grp S)+1)=cntG grp (S+1):=by
 funext x
 rw[cntG];unfold upd
 by_cases h:x=grp S
 . subst h;simp
 . rw[if_neg h,if_neg (fun e=>h e.symm)];rfl
theorem zpg (w:World) (o1 o2 o3 o4:Obj):Below w.heap.size w ((((w.alloc o1).alloc o2).alloc o3).alloc o4).drew∧((((w.alloc o1).alloc o2).alloc o3).alloc o4).drew.heap[w.heap.size]?=some o1∧((((w.alloc o1).alloc o2).alloc o3).alloc o4).drew.heap[w.heap.size+1]?=some o2∧((((w.alloc o1).alloc o2).alloc o3).alloc o4).drew.heap[w.heap.size+1+1]?=some o3∧((((w.alloc o1).alloc o2).alloc o3).alloc o4).drew.heap[w.heap.size+1+1+1]?=some o4:=by
 have h4:=heap_alloc_new (((w.alloc o1).alloc o2).alloc o3) o4;have h3:=heap_alloc_new ((w.alloc o1).alloc o2) o3;have h2:=heap_alloc_new (w.alloc o1) o2;have h1:=heap_alloc_new w o1;rw[World.size_alloc,World.size_alloc,World.size_alloc] at h4;rw[World.size_alloc,World.size_alloc] at h3;rw[World.size_alloc] at h2;refine⟨((((Below.refl _ _).alloc (Nat.le_refl _) _).alloc (by simp only[World.size_alloc];omega) _).alloc (by simp only[World.size_alloc];omega) _).alloc (by simp only[World.size_alloc];omega) _ |>.drew,?_,?_,?_,h4⟩
 . show ((((w.alloc o1).alloc o2).alloc o3).alloc o4).heap[w.heap.size]?=some o1
   rw[Below.heap_alloc _ _ _ (by simp only[World.size_alloc];omega),Below.heap_alloc _ _ _ (by simp only[World.size_alloc];omega),Below.heap_alloc _ _ _ (by simp only[World.size_alloc];omega)];exact h1
 . show ((((w.alloc o1).alloc o2).alloc o3).alloc o4).heap[w.heap.size+1]?=some o2
   rw[Below.heap_alloc _ _ _ (by simp only[World.size_alloc];omega),Below.heap_alloc _ _ _ (by simp only[World.size_alloc];omega)];exact h2
 . show ((((w.alloc o1).alloc o2).alloc o3).alloc o4).heap[w.heap.size+1+1]?=some o3
   rw[Below.heap_alloc _ _ _ (by simp only[World.size_alloc];omega)];exact h3
theorem zhn {w W:World} {B N n g ia ib im:Nat} {vg:Value} {grp bg:Nat->Nat} {MN Mn:Array Value} (h:NRow w B vg N grp) (hB:B<=w.heap.size) (hb:Below w.heap.size w W) (hMN:MN.toList=lstI N (fun _=>0)) (hMn:Mn.toList=lstI n (fun _=>0)) (hN:N<=90000) (hn:n<=90000)
   (h1:W.heap[ia]?=some (.cells MN 3 (0,0))) (h2:W.heap[ib]?=some (.cells MN 3 (0,0))) (h3:W.heap[im]?=some (.cells Mn 3 (0,0))) (h4:W.heap[g]?=some (.cells #[.slice (some ⟨ia,0,none⟩) N N,.slice (some ⟨ib,0,none⟩) N N,vg,.slice none 0 0,.slice none 0 0,.slice (some ⟨im,0,none⟩) n n] 139 (0,0)))
   (la:w.heap.size<=ia) (lb:w.heap.size<=ib) (lm:w.heap.size<=im) (lg:w.heap.size<=g) (nab:ia≠ib) (nam:ia≠im) (nbm:ib≠im):
   Below w.heap.size w W∧w.heap.size<=g∧(∀ v∈[(.slice (some ⟨ia,0,none⟩) N N:Value),.slice (some ⟨ib,0,none⟩) N N,.slice (some ⟨im,0,none⟩) n n],∀ x,v.ownBlock=some x->w.heap.size<=x)∧
     PX W B g (.slice (some ⟨ia,0,none⟩) N N) (.slice (some ⟨ib,0,none⟩) N N) vg (.slice none 0 0) (.slice none 0 0) (.slice (some ⟨im,0,none⟩) n n) N 0 n (fun _=>0) (fun _=>0) grp bg bg (fun _=>0):=by
 have hlt:=World.ownsRow.lt h;refine⟨hb,lg,fun v hv x ex=>?_,by omega,h4,zbq hMN h1 (by omega) (by omega),zbq hMN h2 (by omega) (by omega),za7 h hb,World.ownsRow_nil W B _ 1,World.ownsRow_nil W B _ 1,zbq hMn h3 (by omega) (by omega),?_⟩
 . simp only[List.mem_cons,List.not_mem_nil,or_false] at hv;rcases hv with rfl|rfl|rfl
   all_goals
     cases ex
     assumption
 . simp only[List.pairwise_cons,List.mem_cons,forall_eq_or_imp,List.not_mem_nil,false_imp_iff,implies_true,and_true,List.Pairwise.nil];have nn:∀ (v:Value),Ap v (.slice none 0 0):=fun v x _ e=>by cases e
   have nn2:∀ (v:Value),Ap (.slice none 0 0) v:=fun v x e _=>by cases e
   have two:∀ {i j n n' c c':Nat},i≠j->Ap (.slice (some ⟨i,0,none⟩) n c) (.slice (some ⟨j,0,none⟩) n' c'):=fun hij x e e'=>by
     cases e;cases e';exact hij rfl
   have ov:∀ {i n c:Nat},w.heap.size<=i->Ap (.slice (some ⟨i,0,none⟩) n c) vg:=fun {i} _ _ hi x e e'=>by
     have hx:i=x:=(by injection e);have:=(hlt _ e').2;omega
   have vo:∀ {i n c:Nat},w.heap.size<=i->Ap vg (.slice (some ⟨i,0,none⟩) n c):=fun {i} _ _ hi x e e'=>by
     have hx:i=x:=(by injection e');have:=(hlt _ e).2;omega
   exact⟨⟨two nab,ov la,nn _,nn _,two nam⟩,⟨ov lb,nn _,nn _,two nbm⟩,⟨nn _,nn _,vo lm⟩,⟨nn2 _,nn2 _⟩,nn2 _⟩
theorem ztc (grp:Nat->Nat):∀ S g,cntG grp S g<=S
 | 0,g=>Nat.le_refl _
 | S+1,g=>by
   have:=ztc grp S g;rw[cntG];split <;> omega
theorem zzc (grp:Nat->Nat) (N n k:Nat) (hk:k<n) (hg:∀ s,s<N->grp s<n):bgG grp N k+cntG grp N k<=N:=by
 have h1:=zdy (grp:=grp) (N:=N) hk;rw[zoa n,zef N hg] at h1;exact h1
def RetNewP (w:World) (B:Nat) (vg:Value) (q:PT) (e:Ending) (w':World):Prop:=
 ∃ g a b d e2 m,e = .returned (.pointer (some ⟨g,0,none⟩))∧PM w' B g a b vg d e2 m q∧Below w.heap.size w w'∧w.heap.size<=g∧∀ v∈[a,b,d,e2,m],∀ x,v.ownBlock=some x->w.heap.size<=x
set_option maxRecDepth 20000 in
set_option maxHeartbeats 4000000 in
theorem zp9 {w:World} {B N n:Nat} {vg:Value} {grp:Nat->Nat} (h:NRow w B vg N grp) (hB:B<=w.heap.size) (hg:∀ s,s<N->grp s<n) (hN:N<=90000) (hn:n<=90000):
   Calls Try.prog 58 #[vg,.int .i64 (n:Int)] w (RetNewP w B vg (newF grp N n)):=by
 obtain⟨A,c,hv⟩:=za9 h;subst hv;obtain⟨MN,hMN,hmkN⟩:=zcf N (by omega);obtain⟨Mn,hMn,hmkn⟩:=zcf n (by omega);have HH:=Zh h;have HB:=Zh hB;have HG:=Zh hg;have HMN:=Zh hMN;have HMn:=Zh hMn;have HMK:=Zh hmkn;have HN:=Zh hN;have Hn:=Zh hn;have hnN:(N:Int)<=90000:=(by omega);have hnn:(n:Int)<=90000:=(by omega);clear h hB hg hMN hMn hN hn;go_enter Try.func58,Try.ntmps58;go_upto_region 1 with fail
 go_cut [5] from 14 to 24 (fun s5 wx=>∃ (g:Nat) (a b m:Value),s5 = .pointer (some ⟨g,0,none⟩)∧Below w.heap.size w wx∧w.heap.size<=g∧(∀ v∈[a,b,m],∀ x,v.ownBlock=some x->w.heap.size<=x)∧
   PX wx B g a b (.slice A N c) (.slice none 0 0) (.slice none 0 0) m N 0 n (fun _=>0) (fun _=>0) grp (bgG grp N) (bgG grp N) (fun _=>0))
 case first =>
   go_region_law (fail)
   all_goals
     go_wp2;go_meet
     first
       | (obtain⟨hb,h1,h2,h3,h4⟩:=zpg w (.cells MN 3) (.cells MN 3) (.cells Mn 3) (.cells #[.slice (some ⟨w.heap.size,0,none⟩) N N,.slice (some ⟨w.heap.size+1,0,none⟩) N N,.slice A N c,.slice none 0 0,.slice none 0 0,.slice (some ⟨w.heap.size+1+1,0,none⟩) n n] 139)
          exact⟨_,_,_,_,rfl,zhn HH.out HB.out hb HMN.out HMn.out HN.out Hn.out h1 h2 h3 h4 (by omega) (by omega) (by omega) (by omega) (by omega) (by omega) (by omega)⟩)
       | (obtain⟨hb,h1,h2,h3,h4⟩:=zpg w (.cells MN 3) (.cells MN 3) (.cells Mn 3) (.cells #[.slice (some ⟨w.heap.size+1,0,none⟩) N N,.slice (some ⟨w.heap.size,0,none⟩) N N,.slice A N c,.slice none 0 0,.slice none 0 0,.slice (some ⟨w.heap.size+1+1,0,none⟩) n n] 139)
          exact⟨_,_,_,_,rfl,zhn HH.out HB.out hb HMN.out HMn.out HN.out Hn.out h2 h1 h3 h4 (by omega) (by omega) (by omega) (by omega) (by omega) (by omega) (by omega)⟩)
       | (obtain⟨hb,h1,h2,h3,h4⟩:=zpg w (.cells MN 3) (.cells Mn 3) (.cells MN 3) (.cells #[.slice (some ⟨w.heap.size,0,none⟩) N N,.slice (some ⟨w.heap.size+1+1,0,none⟩) N N,.slice A N c,.slice none 0 0,.slice none 0 0,.slice (some ⟨w.heap.size+1,0,none⟩) n n] 139)
          exact⟨_,_,_,_,rfl,zhn HH.out HB.out hb HMN.out HMn.out HN.out Hn.out h1 h3 h2 h4 (by omega) (by omega) (by omega) (by omega) (by omega) (by omega) (by omega)⟩)
       | (obtain⟨hb,h1,h2,h3,h4⟩:=zpg w (.cells MN 3) (.cells Mn 3) (.cells MN 3) (.cells #[.slice (some ⟨w.heap.size+1+1,0,none⟩) N N,.slice (some ⟨w.heap.size,0,none⟩) N N,.slice A N c,.slice none 0 0,.slice none 0 0,.slice (some ⟨w.heap.size+1,0,none⟩) n n] 139)
          exact⟨_,_,_,_,rfl,zhn HH.out HB.out hb HMN.out HMn.out HN.out Hn.out h3 h1 h2 h4 (by omega) (by omega) (by omega) (by omega) (by omega) (by omega) (by omega)⟩)
       | (obtain⟨hb,h1,h2,h3,h4⟩:=zpg w (.cells Mn 3) (.cells MN 3) (.cells MN 3) (.cells #[.slice (some ⟨w.heap.size+1,0,none⟩) N N,.slice (some ⟨w.heap.size+1+1,0,none⟩) N N,.slice A N c,.slice none 0 0,.slice none 0 0,.slice (some ⟨w.heap.size,0,none⟩) n n] 139)
          exact⟨_,_,_,_,rfl,zhn HH.out HB.out hb HMN.out HMn.out HN.out Hn.out h2 h3 h1 h4 (by omega) (by omega) (by omega) (by omega) (by omega) (by omega) (by omega)⟩)
       | (obtain⟨hb,h1,h2,h3,h4⟩:=zpg w (.cells Mn 3) (.cells MN 3) (.cells MN 3) (.cells #[.slice (some ⟨w.heap.size+1+1,0,none⟩) N N,.slice (some ⟨w.heap.size+1,0,none⟩) N N,.slice A N c,.slice none 0 0,.slice none 0 0,.slice (some ⟨w.heap.size,0,none⟩) n n] 139)
          exact⟨_,_,_,_,rfl,zhn HH.out HB.out hb HMN.out HMn.out HN.out Hn.out h3 h2 h1 h4 (by omega) (by omega) (by omega) (by omega) (by omega) (by omega) (by omega)⟩)
 case rest =>
   obtain⟨g,a,b,m,rfl,hbw,hgw,hown,hpx⟩:=hcut;have hsz:=heap_alloc_new wc (.cells Mn 3);have hb2:Below wc.heap.size wc (wc.alloc (.cells Mn 3)):=(Below.refl _ _).alloc (Nat.le_refl _) _;have hpx2:=hpx.kept (Kept.of_below (fun _=>False) hb2) (fun q=>q) (fun _ _ _ _ q=>q);have hrs:NRow (wc.alloc (.cells Mn 3)) wc.heap.size (.slice (some ⟨wc.heap.size,0,none⟩) n n) n (fun _=>0):=zbq HMn.out hsz (Nat.le_refl _) (by have:=Hn.out;omega);have hbw2:=hbw.trans (hb2.mono hbw.size);have hlts:∀ v∈[a,b,(.slice A N c:Value),.slice none 0 0,.slice none 0 0,m],∀ x,v.ownBlock=some x->x<wc.heap.size:=fun v hv x ex=>by
     simp only[List.mem_cons,List.not_mem_nil,or_false] at hv;rcases hv with rfl|rfl|rfl|rfl|rfl|rfl
     . exact (World.ownsRow.lt hpx.ra x ex).2
     . exact (World.ownsRow.lt hpx.rb x ex).2
     . exact (World.ownsRow.lt hpx.rc x ex).2
     . cases ex
     . cases ex
     . exact (World.ownsRow.lt hpx.rm x ex).2
   have hglt:=za4 hpx.box;obtain⟨bs,hbs⟩:∃ bs,wc.heap.size=bs:=⟨_,rfl⟩;have hws:=hbw.size;rw[hbs] at hrs hlts hglt hws;have HRS:=Zh hrs;have HPX2:=Zh hpx2;have HBW2:=Zh hbw2;have HLTS:=Zh hlts;have HGLT:=Zh hglt;have HWS:=Zh hws;have HGW:=Zh hgw;have HOWN:=Zh hown;have hmks:=HMK.out wc;rw[hbs] at hmks;clear hmkN hmkn hsz hb2 hpx2 hrs hbw2 hlts hglt hws hgw hown hbw hpx;go_upto_region 4 with fail
   clear hmks;generalize wc.alloc (.cells Mn 3)=w2 at *;go_loopg [29] N (fun mm s wr=>∃ i:Nat,s = .int .i64 (i:Int)∧i<=N∧mm=N-i∧NRow wr bs (.slice (some ⟨bs,0,none⟩) n n) n (cntG grp i)∧Kept (fun x=>x=bs) w2 wr)
   case atStart=>exact⟨0,by first | rfl | trivial,Nat.zero_le _,by first | rfl | trivial,HRS.out,Kept.refl _ _⟩
   case round =>
     obtain⟨i,rfl,hi,hmm,hr,hk⟩:=hrel;have HMM:=Zh hmm;have HR:=Zh hr;have HK:=Zh hk;clear hmm
     by_cases hiN:i<N
     . have hgi:=HG.out i hiN;have hgl:=HPX2.out.rc.kept hk (fun x ex e=>by have:=HLTS.out (.slice A N c) (by simp) x ex;omega);obtain⟨bg2,cg2,eg2,_,zg⟩:=hgl.at hiN;have hA:A=some ⟨bg2,0,none⟩:=(by injection eg2);subst hA;obtain⟨G,hG⟩:∃ G,grp i=G:=⟨_,rfl⟩;rw[hG] at zg hgi;have zs:=(World.ownsRow.cellAt hr G (by omega)).trans (zav hgi);have fz:=hr.frozen G;obtain⟨D,hD⟩:∃ D,cntG grp i G=D:=⟨_,rfl⟩;change wr.cell? ⟨bs,G,none⟩=some (.int .i64 ((cntG grp i G:Nat):Int)) at zs;rw[hD] at zs;have hD9:(D:Int)<=100000:=by
         have:=ztc grp i G;omega
       have HGG:=Zh hG;have HDD:=Zh hD;have k0:(0:Int)<=(i:Int):=(by omega);have k1:(i:Int)<(N:Int):=(by omega);have k2:(0:Int)<=(G:Int):=(by omega);have k3:(G:Int)<(n:Int):=(by omega);have hset:=hr.set G (D+1);have hks:=hk.setCell (a:=⟨bs,G,none⟩) (.inl rfl) (.int .i64 ((D+1:Nat):Int));rw[show ((D+1:Nat):Int)=(D:Int)+1 by omega] at hset hks;have HSET:=Zh hset;have HKS:=Zh hks;clear hset hks hr hk hgl hG hD eg2;go_wp2;go_roundg (N-(i+1))
       case measure=>have:=HMM.out;omega
       case rel =>
         refine⟨i+1,by go_num,by omega,rfl,?_,HKS.out⟩;rw[show cntG grp (i+1)=upd (cntG grp i) G (D+1) by rw[←HDD.out,←HGG.out];exact (zta grp i).symm];exact HSET.out
     . have hkl:N=i:=(by omega);subst hkl;have hpx3:=HPX2.out.kept hk (fun e=>by have:=HGLT.out;omega) (fun v hv x ex e=>by have:=HLTS.out v hv x ex;omega);have hbw3:Below w.heap.size w wr:=HBW2.out.trans (hk.below HBW2.out.size (fun x e=>by have:=HWS.out;omega));have hap3:∀ v∈[a,b,(.slice A N c:Value),.slice none 0 0,.slice none 0 0,m],Ap (.slice (some ⟨bs,0,none⟩) n n) v:=fun v hv x ex ev=>by
         have:=HLTS.out v hv x ev;have hx:bs=x:=(by injection ex);omega
       have HPX3:=Zh hpx3;have HBW3:=Zh hbw3;have HAP3:=Zh hap3;have HR3:=Zh hr;clear hpx3 hbw3 hap3 hr hk;go_upto_region 10 with fail
       generalize wr=w3 at *;go_loopg [9,42] n (fun mm s9 s wr=>∃ (k:Nat) (d e:Value),s = .int .i64 (k:Int)∧k<=n∧mm=n-k∧s9 = .int .i64 ((bgG grp N k:Nat):Int)∧PX wr B g a b (.slice A N c) d e m N k n (fun _=>0) (fun _=>0) grp (bgG grp N) (bgG grp N) (fun _=>0)∧NRow wr bs (.slice (some ⟨bs,0,none⟩) n n) n (cntG grp N)∧Below w.heap.size w wr∧
         (∀ v∈[a,b,(.slice A N c:Value),d,e,m],Ap (.slice (some ⟨bs,0,none⟩) n n) v)∧∀ v∈[d,e],∀ x,v.ownBlock=some x->w.heap.size<=x)
       case atStart=>exact⟨0,_,_,by first | rfl | trivial,Nat.zero_le _,by first | rfl | trivial,by first | rfl | trivial,HPX3.out,HR3.out,HBW3.out,HAP3.out,fun v hv x ex=>by simp at hv;subst hv;cases ex⟩
       case round =>
         obtain⟨k,d,e,rfl,hk,hmm,rfl,hpx,hr,hbw,hap,hnew⟩:=hrel;have HMM:=Zh hmm;have HPX:=Zh hpx;have HRR:=Zh hr;have HBW:=Zh hbw;have HAP:=Zh hap;have HNEW:=Zh hnew;clear hmm
         by_cases hkn:k<n
         . have zs:=(World.ownsRow.cellAt hr k (by omega)).trans (zav hkn);change wr.cell? ⟨bs,k,none⟩=some (.int .i64 ((cntG grp N k:Nat):Int)) at zs;obtain⟨S,hS⟩:∃ S,cntG grp N k=S:=⟨_,rfl⟩;obtain⟨Z,hZ⟩:∃ Z,bgG grp N k=Z:=⟨_,rfl⟩;have hbS:=zzc grp N n k hkn HG.out;rw[hS,hZ] at hbS;rw[hS] at zs;rw[hZ];have HSS:=Zh hS;have HZZ:=Zh hZ;have j0:(0:Int)<=(k:Int):=(by omega);have j1:(k:Int)<(n:Int):=(by omega);have j2:(Z:Int)+(S:Int)<=100000:=(by omega);obtain⟨Ad,cd,hd⟩:=za9 hpx.rd;obtain⟨Ae,ce,he⟩:=za9 hpx.re;subst hd he;have rr0:=hpx.begin3;have RR0:=Zh rr0;have HL1:=Zh (fun b e=>(World.ownsRow.lt hpx.rd b e).2);have HL2:=Zh (fun b e=>(World.ownsRow.lt hpx.re b e).2);have HC:=Zh (fun (W:World) (kk:Kept (fun x=>(Value.slice Ad k cd).ownBlock=some x∨(Value.slice Ae k ce).ownBlock=some x∨m.ownBlock=some x) wr W)=>(kk.block g (za4 hpx.box) (fun q=>by
               rcases q with q|q|q
               . obtain⟨cu,hc⟩:=zac hpx.rd q;exact za6 hc hpx.box (by decide) rfl
               . obtain⟨cu,hc⟩:=zac hpx.re q;exact za6 hc hpx.box (by decide) rfl
               . obtain⟨cu,hc⟩:=zac hpx.rm q;exact za6 hc hpx.box (by decide) rfl
               )).trans hpx.box)
           have HLE:=Zh (show ∀ (f:Nat->Nat) (x:Nat),(ns ((List.range k).map f)).length+(ns [x]).length<=100000 from fun f x=>by simp[ns];have:=Hn.out;omega);have HB8:=Zh (show B<=wr.heap.size by have:=za4 hpx.box;have:=hpx.gB;omega);clear hpx hr hbw hap hnew rr0 hS hZ hbS;go_upto_region 12 with fail
           generalize wr=w8 at *;have hmx:Try.prog.follows .mixedOrders=true:=(by kernel_rfl);have hs0:=RR0.out.keep;refine zbn (R:=fun W=>True) (S:=fun W=>Kept (fun x=>(Value.slice Ad k cd).ownBlock=some x∨(Value.slice Ae k ce).ownBlock=some x∨m.ownBlock=some x) w8 W) (T:=[18,21]) hmx ?_;refine za8 (i:=0) (v := .pointer (some ⟨g,0,none⟩)) rfl (by kernel_rfl) (by kernel_rfl) (by kernel_rfl) (fun _ _ _ h=>h) (by decide) (Or.inl ⟨by rfl,fun w' hS=>by go_simp⟩) trivial (fun _=>hs0) ?_;refine za8 (i:=1) (v := .pointer (some ⟨g,0,none⟩)) rfl (by kernel_rfl) (by kernel_rfl) (by kernel_rfl) (fun _ _ _ h=>h) (by decide) (Or.inl ⟨by rfl,fun w' hS=>by go_simp⟩) trivial (fun _=>hs0) ?_;go_simp;refine za8 (i:=2) (v := .pointer (some ⟨g,0,none⟩)) rfl (by kernel_rfl) (by kernel_rfl) (by kernel_rfl) (fun _ _ _ h=>h) (by decide) (Or.inl ⟨by rfl,fun w' hS=>by go_simp⟩) trivial (fun _=>hs0) ?_;refine za8 (i:=3) (v := .pointer (some ⟨g,0,none⟩)) rfl (by kernel_rfl) (by kernel_rfl) (by kernel_rfl) (fun _ _ _ h=>h) (by decide) (Or.inl ⟨by rfl,fun w' hS=>by go_simp⟩) trivial (fun _=>hs0) ?_;refine za8 (i:=4) (v := .pointer (some ⟨g,3,none⟩)) rfl (by kernel_rfl) (by kernel_rfl) (by kernel_rfl) (fun _ _ _ h=>h) (by decide) (Or.inl ⟨by rfl,fun w' hS=>by go_simp⟩) trivial (fun _=>hs0) ?_;go_simp;refine zal (i:=5) (v := .slice Ad k cd) rfl (by kernel_rfl) (by kernel_rfl) (by kernel_rfl) (fun _ _ _ h=>h) (by kernel_rfl) (by decide) (by kernel_rfl) (Or.inl ⟨by rfl,fun w' hS=>by have t1:=cell_of_row w' g 3 _ _ (0,0) (HC.out w' hS);go_simp⟩) trivial hs0 ?_;refine za8 (i:=6) (v := .int .i64 (Z:Int)) rfl (by kernel_rfl) (by kernel_rfl) (by kernel_rfl) (fun _ _ _ h=>h) (by decide) (Or.inl ⟨by rfl,fun w' hS=>by go_simp⟩) trivial (fun _=>hs0) ?_;go_simp;refine za8 (i:=9) (v := .pointer (some ⟨g,0,none⟩)) rfl (by kernel_rfl) (by kernel_rfl) (by kernel_rfl) (fun _ _ _ h=>h) (by decide) (Or.inl ⟨by rfl,fun w' hS=>by go_simp⟩) trivial (fun _=>hs0) ?_;refine za8 (i:=10) (v := .pointer (some ⟨g,0,none⟩)) rfl (by kernel_rfl) (by kernel_rfl) (by kernel_rfl) (fun _ _ _ h=>h) (by decide) (Or.inl ⟨by rfl,fun w' hS=>by go_simp⟩) trivial (fun _=>hs0) ?_;refine za8 (i:=11) (v := .pointer (some ⟨g,4,none⟩)) rfl (by kernel_rfl) (by kernel_rfl) (by kernel_rfl) (fun _ _ _ h=>h) (by decide) (Or.inl ⟨by rfl,fun w' hS=>by go_simp⟩) trivial (fun _=>hs0) ?_;go_simp;refine zal (i:=12) (v := .slice Ae k ce) rfl (by kernel_rfl) (by kernel_rfl) (by kernel_rfl) (fun _ _ _ h=>h) (by kernel_rfl) (by decide) (by kernel_rfl) (Or.inl ⟨by rfl,fun w' hS=>by have t1:=cell_of_row w' g 4 _ _ (0,0) (HC.out w' hS);go_simp⟩) trivial hs0 ?_;refine za8 (i:=13) (v := .int .i64 (Z:Int)) rfl (by kernel_rfl) (by kernel_rfl) (by kernel_rfl) (fun _ _ _ h=>h) (by decide) (Or.inl ⟨by rfl,fun w' hS=>by go_simp⟩) trivial (fun _=>hs0) ?_;go_simp;clear hs0;generalize w8.drew=W0 at *;have HBS:=Zh (show ((bgG grp N (k+1):Nat):Int)=(Z:Int)+(S:Int) by rw[bgG,HSS.out,HZZ.out];omega);have FIN:Hid (∀ (W:World) (v1 v2:Value),Rows3 B w8 W (.slice Ad k cd) (.slice Ae k ce) m v1 v2 m (k+1) (k+1) n (upd (bgG grp N) k Z) (upd (bgG grp N) k Z) (fun _=>0)->
             PX ((W.setCell ⟨g,3,none⟩ v1).setCell ⟨g,4,none⟩ v2) B g a b (.slice A N c) v1 v2 m N (k+1) n (fun _=>0) (fun _=>0) grp (bgG grp N) (bgG grp N) (fun _=>0)∧NRow ((W.setCell ⟨g,3,none⟩ v1).setCell ⟨g,4,none⟩ v2) bs (.slice (some ⟨bs,0,none⟩) n n) n (cntG grp N)∧Below w.heap.size w ((W.setCell ⟨g,3,none⟩ v1).setCell ⟨g,4,none⟩ v2)∧
             (∀ v∈[a,b,(.slice A N c:Value),v1,v2,m],Ap (.slice (some ⟨bs,0,none⟩) n n) v)∧∀ v∈[v1,v2],∀ x,v.ownBlock=some x->w.heap.size<=x):=Zh (fun W v1 v2 hr=>by
             have h2:=HPX.out.two hr;rw[←HZZ.out,zu2] at h2;obtain⟨q1,q2,q3⟩:=h2;have hrl:=(World.ownsRow.lt HRR.out bs rfl).2;have hsn:∀ v∈[v1,v2],∀ x,v.ownBlock=some x->w.heap.size<=x:=fun v hv x ex=>by
               rcases q2 v hv x ex with q|⟨u,hu,eu⟩
               . exact Nat.le_trans HBW.out.size q
               . exact HNEW.out u hu x eu
             refine⟨q1,HRR.out.kept q3 (fun x ex q=>?_),HBW.out.trans (q3.below HBW.out.size fun x q=>?_),fun v hv x ex ev=>?_,hsn⟩
             . rcases q with q|q|q|q
               . obtain⟨cu,hc⟩:=zac HRR.out ex;exact za6 hc HPX.out.box (by decide) q
               . exact HAP.out _ (by simp) x ex q
               . exact HAP.out _ (by simp) x ex q
               . exact HAP.out _ (by simp) x ex q
             . rcases q with q|q|q|q
               . rw[q];exact HGW.out
               . exact HNEW.out _ (by simp) x q
               . exact HNEW.out _ (by simp) x q
               . exact HOWN.out m (by simp) x q
             . simp only[List.mem_cons,List.not_mem_nil,or_false] at hv;have old:∀ v∈[v1,v2],v.ownBlock=some x->False:=fun v hv ev=>by
                 rcases q2 v hv x ev with q|⟨u,hu,eu⟩
                 . have hx:bs=x:=(by injection ex);omega
                 . refine HAP.out u ?_ x ex eu;simp only[List.mem_cons,List.not_mem_nil,or_false] at hu ⊢;rcases hu with rfl|rfl <;> simp
               rcases hv with rfl|rfl|rfl|rfl|rfl|rfl
               . exact HAP.out _ (by simp) x ex ev
               . exact HAP.out _ (by simp) x ex ev
               . exact HAP.out _ (by simp) x ex ev
               . exact old _ (by simp) ev
               . exact old _ (by simp) ev
               . exact HAP.out _ (by simp) x ex ev)
           refine za1 (rs:=[7,14]) (by kernel_rfl) (by simp) ?_;refine zbt ?_ ?_
           . refine za0 rfl fun K hK=>?_
             go_simp;have R1:=Zh (RR0.out.alloc (.cells #[.int .i64 (Z:Int)] 3));have N1:=Zh (New1.made w8 W0 RR0.out.size Z);refine hK.out _ _ trivial (fun _=>R1.out.keep) ?_;clear hK K;obtain⟨u1x,hu1⟩:∃ u,(Value.slice (some ⟨W0.heap.size,0,none⟩) 1 1)=u:=⟨_,rfl⟩;obtain⟨W1,hW1⟩:∃ W,W0.alloc (.cells #[.int .i64 (Z:Int)] 3)=W:=⟨_,rfl⟩;rw[hu1] at N1 ⊢;rw[hW1] at R1 N1 ⊢;clear hu1 hW1;refine za1 (rs:=[8,14]) (by kernel_rfl) (by simp) ?_;refine zbt ?_ ?_
             . refine za0 rfl fun K hK=>?_
               refine zab (l:=ns ((List.range k).map (bgG grp N))) (m:=ns [Z]) (B:=B) (C:=0) (by kernel_rfl) (.tmp 51) (.tmp 53) (by kernel_rfl) (by go_simp) (by go_simp) (nrow_ints.1 R1.out.r1) N1.out.ints (HLE.out _ _) (Nat.le_trans HB8.out R1.out.size) ?_;intro v2 W2 r2 g2 o2;obtain⟨A2,c2,hv2⟩:=za9 (zad r2);subst hv2;have R2:=Zh (R1.out.app1 r2 g2 o2);refine hK.out _ _ trivial (fun _=>R2.out.keep) ?_;clear hK K r2 g2 o2;refine za1 (rs:=[14]) (by kernel_rfl) (by simp) ?_;refine za2 ?_
               . refine za0 rfl fun K hK=>?_
                 go_simp;have R3:=Zh (R2.out.alloc (.cells #[.int .i64 (Z:Int)] 3));have N3:=Zh (New1.made w8 W2 R2.out.size Z);refine hK.out _ _ trivial (fun _=>R3.out.keep) ?_;clear hK K;obtain⟨u3x,hu3⟩:∃ u,(Value.slice (some ⟨W2.heap.size,0,none⟩) 1 1)=u:=⟨_,rfl⟩;obtain⟨W3,hW3⟩:∃ W,W2.alloc (.cells #[.int .i64 (Z:Int)] 3)=W:=⟨_,rfl⟩;rw[hu3] at N3 ⊢;rw[hW3] at R3 N3 ⊢;clear hu3 hW3;refine za1 (rs:=[15]) (by kernel_rfl) (by simp) ?_;refine za2 ?_
                 . refine za0 rfl fun K hK=>?_
                   refine zab (l:=ns ((List.range k).map (bgG grp N))) (m:=ns [Z]) (B:=B) (C:=0) (by kernel_rfl) (.tmp 58) (.tmp 60) (by kernel_rfl) (by go_simp) (by go_simp) (nrow_ints.1 R3.out.r2) N3.out.ints (HLE.out _ _) (Nat.le_trans HB8.out R3.out.size) ?_;intro v4 W4 r4 g4 o4;obtain⟨A4,c4,hv4⟩:=za9 (zad r4);subst hv4;have R4:=Zh (R3.out.app2 r4 g4 o4);refine hK.out _ _ trivial (fun _=>R4.out.keep) ?_;clear hK K r4 g4 o4;have kl:=R4.out.keep;go_simp;have b0:=HC.out _ kl;have s3:=cell_of_row _ g 3 _ _ (0,0) b0;have f3:=frozen_of_row _ g 3 _ _ b0;have s4:=cell_of_row _ g 4 _ _ (0,0) b0;have f4:=frozen_of_row _ g 4 _ _ b0;clear b0;refine za1 (rs:=[16]) (by kernel_rfl) (by simp) ?_;refine za2 (za0 rfl fun K hK=>?_);go_simp;refine hK.out _ _ trivial (fun _=>kl) ?_;clear hK K;refine za1 (rs:=[17]) (by kernel_rfl) (by simp) ?_;refine za2 (za0 rfl fun K hK=>?_);go_simp;refine hK.out _ _ trivial (fun _=>kl) ?_;clear hK K;refine za1 (rs:=[18]) (by kernel_rfl) (by simp) ?_;refine za2 (za0 rfl fun K hK=>?_);go_simp;refine hK.out _ _ trivial (za3 (t:=18) (by decide) (by kernel_rfl)) ?_;clear hK K;refine za1 (rs:=[19]) (by kernel_rfl) (by simp) ?_;refine za2 (za0 rfl fun K hK=>?_);go_simp;refine hK.out _ _ trivial (za3 (t:=18) (by decide) (by kernel_rfl)) ?_;clear hK K;refine za1 (rs:=[20]) (by kernel_rfl) (by simp) ?_;refine za2 (za0 rfl fun K hK=>?_);go_simp;refine hK.out _ _ trivial (za3 (t:=18) (by decide) (by kernel_rfl)) ?_;clear hK K;refine za1 (rs:=[21]) (by kernel_rfl) (by simp) ?_;refine za2 (za0 rfl fun K hK=>?_);go_simp;refine hK.out _ _ trivial (za3 (t:=18) (by decide) (by kernel_rfl)) ?_;clear hK K;refine zao (by kernel_rfl) ?_ _;have fin:=FIN.out _ _ _ R4.out;have HFIN:=Zh fin;clear fin kl s3 s4 f3 f4;go_wp2;go_roundg (n-(k+1))
                   case measure=>have:=HMM.out;omega
                   case rel=>exact⟨k+1,_,_,by go_num,by omega,rfl,by rw[HBS.out],HFIN.out.1,HFIN.out.2.1,HFIN.out.2.2.1,HFIN.out.2.2.2.1,HFIN.out.2.2.2.2⟩
             . refine za0 rfl fun K hK=>?_
               go_simp;have R5:=Zh (R1.out.alloc (.cells #[.int .i64 (Z:Int)] 3));have N5:=Zh (New1.made w8 W1 R1.out.size Z);have F5_7:=Zh (N1.out.alloc (.cells #[.int .i64 (Z:Int)] 3));refine hK.out _ _ trivial (fun _=>R5.out.keep) ?_;clear hK K;obtain⟨u5x,hu5⟩:∃ u,(Value.slice (some ⟨W1.heap.size,0,none⟩) 1 1)=u:=⟨_,rfl⟩;obtain⟨W5,hW5⟩:∃ W,W1.alloc (.cells #[.int .i64 (Z:Int)] 3)=W:=⟨_,rfl⟩;rw[hu5] at N5 ⊢;rw[hW5] at R5 N5 F5_7 ⊢;clear hu5 hW5;refine za1 (rs:=[8]) (by kernel_rfl) (by simp) ?_;refine za2 ?_
               . refine za0 rfl fun K hK=>?_
                 refine zab (l:=ns ((List.range k).map (bgG grp N))) (m:=ns [Z]) (B:=B) (C:=0) (by kernel_rfl) (.tmp 51) (.tmp 53) (by kernel_rfl) (by go_simp) (by go_simp) (nrow_ints.1 R5.out.r1) F5_7.out.ints (HLE.out _ _) (Nat.le_trans HB8.out R5.out.size) ?_;intro v6 W6 r6 g6 o6;obtain⟨A6,c6,hv6⟩:=za9 (zad r6);subst hv6;have R6:=Zh (R5.out.app1 r6 g6 o6);have F6_14:=Zh (N5.out.grown g6 HL1.out);refine hK.out _ _ trivial (fun _=>R6.out.keep) ?_;clear hK K r6 g6 o6;refine za1 (rs:=[15]) (by kernel_rfl) (by simp) ?_;refine za2 ?_
                 . refine za0 rfl fun K hK=>?_
                   refine zab (l:=ns ((List.range k).map (bgG grp N))) (m:=ns [Z]) (B:=B) (C:=0) (by kernel_rfl) (.tmp 58) (.tmp 60) (by kernel_rfl) (by go_simp) (by go_simp) (nrow_ints.1 R6.out.r2) F6_14.out.ints (HLE.out _ _) (Nat.le_trans HB8.out R6.out.size) ?_;intro v7 W7 r7 g7 o7;obtain⟨A7,c7,hv7⟩:=za9 (zad r7);subst hv7;have R7:=Zh (R6.out.app2 r7 g7 o7);refine hK.out _ _ trivial (fun _=>R7.out.keep) ?_;clear hK K r7 g7 o7;have kl:=R7.out.keep;go_simp;have b0:=HC.out _ kl;have s3:=cell_of_row _ g 3 _ _ (0,0) b0;have f3:=frozen_of_row _ g 3 _ _ b0;have s4:=cell_of_row _ g 4 _ _ (0,0) b0;have f4:=frozen_of_row _ g 4 _ _ b0;clear b0;refine za1 (rs:=[16]) (by kernel_rfl) (by simp) ?_;refine za2 (za0 rfl fun K hK=>?_);go_simp;refine hK.out _ _ trivial (fun _=>kl) ?_;clear hK K;refine za1 (rs:=[17]) (by kernel_rfl) (by simp) ?_;refine za2 (za0 rfl fun K hK=>?_);go_simp;refine hK.out _ _ trivial (fun _=>kl) ?_;clear hK K;refine za1 (rs:=[18]) (by kernel_rfl) (by simp) ?_;refine za2 (za0 rfl fun K hK=>?_);go_simp;refine hK.out _ _ trivial (za3 (t:=18) (by decide) (by kernel_rfl)) ?_;clear hK K;refine za1 (rs:=[19]) (by kernel_rfl) (by simp) ?_;refine za2 (za0 rfl fun K hK=>?_);go_simp;refine hK.out _ _ trivial (za3 (t:=18) (by decide) (by kernel_rfl)) ?_;clear hK K;refine za1 (rs:=[20]) (by kernel_rfl) (by simp) ?_;refine za2 (za0 rfl fun K hK=>?_);go_simp;refine hK.out _ _ trivial (za3 (t:=18) (by decide) (by kernel_rfl)) ?_;clear hK K;refine za1 (rs:=[21]) (by kernel_rfl) (by simp) ?_;refine za2 (za0 rfl fun K hK=>?_);go_simp;refine hK.out _ _ trivial (za3 (t:=18) (by decide) (by kernel_rfl)) ?_;clear hK K;refine zao (by kernel_rfl) ?_ _;have fin:=FIN.out _ _ _ R7.out;have HFIN:=Zh fin;clear fin kl s3 s4 f3 f4;go_wp2;go_roundg (n-(k+1))
                   case measure=>have:=HMM.out;omega
                   case rel=>exact⟨k+1,_,_,by go_num,by omega,rfl,by rw[HBS.out],HFIN.out.1,HFIN.out.2.1,HFIN.out.2.2.1,HFIN.out.2.2.2.1,HFIN.out.2.2.2.2⟩
           . refine za0 rfl fun K hK=>?_
             go_simp;have R8:=Zh (RR0.out.alloc (.cells #[.int .i64 (Z:Int)] 3));have N8:=Zh (New1.made w8 W0 RR0.out.size Z);refine hK.out _ _ trivial (fun _=>R8.out.keep) ?_;clear hK K;obtain⟨u8x,hu8⟩:∃ u,(Value.slice (some ⟨W0.heap.size,0,none⟩) 1 1)=u:=⟨_,rfl⟩;obtain⟨W8,hW8⟩:∃ W,W0.alloc (.cells #[.int .i64 (Z:Int)] 3)=W:=⟨_,rfl⟩;rw[hu8] at N8 ⊢;rw[hW8] at R8 N8 ⊢;clear hu8 hW8;refine za1 (rs:=[7]) (by kernel_rfl) (by simp) ?_;refine za2 ?_
             . refine za0 rfl fun K hK=>?_
               go_simp;have R9:=Zh (R8.out.alloc (.cells #[.int .i64 (Z:Int)] 3));have N9:=Zh (New1.made w8 W8 R8.out.size Z);have F9_14:=Zh (N8.out.alloc (.cells #[.int .i64 (Z:Int)] 3));refine hK.out _ _ trivial (fun _=>R9.out.keep) ?_;clear hK K;obtain⟨u9x,hu9⟩:∃ u,(Value.slice (some ⟨W8.heap.size,0,none⟩) 1 1)=u:=⟨_,rfl⟩;obtain⟨W9,hW9⟩:∃ W,W8.alloc (.cells #[.int .i64 (Z:Int)] 3)=W:=⟨_,rfl⟩;rw[hu9] at N9 ⊢;rw[hW9] at R9 N9 F9_14 ⊢;clear hu9 hW9;refine za1 (rs:=[8]) (by kernel_rfl) (by simp) ?_;refine za2 ?_
               . refine za0 rfl fun K hK=>?_
                 refine zab (l:=ns ((List.range k).map (bgG grp N))) (m:=ns [Z]) (B:=B) (C:=0) (by kernel_rfl) (.tmp 51) (.tmp 53) (by kernel_rfl) (by go_simp) (by go_simp) (nrow_ints.1 R9.out.r1) N9.out.ints (HLE.out _ _) (Nat.le_trans HB8.out R9.out.size) ?_;intro v10 W10 r10 g10 o10;obtain⟨A10,c10,hv10⟩:=za9 (zad r10);subst hv10;have R10:=Zh (R9.out.app1 r10 g10 o10);have F10_14:=Zh (F9_14.out.grown g10 HL1.out);refine hK.out _ _ trivial (fun _=>R10.out.keep) ?_;clear hK K r10 g10 o10;refine za1 (rs:=[15]) (by kernel_rfl) (by simp) ?_;refine za2 ?_
                 . refine za0 rfl fun K hK=>?_
                   refine zab (l:=ns ((List.range k).map (bgG grp N))) (m:=ns [Z]) (B:=B) (C:=0) (by kernel_rfl) (.tmp 58) (.tmp 60) (by kernel_rfl) (by go_simp) (by go_simp) (nrow_ints.1 R10.out.r2) F10_14.out.ints (HLE.out _ _) (Nat.le_trans HB8.out R10.out.size) ?_;intro v11 W11 r11 g11 o11;obtain⟨A11,c11,hv11⟩:=za9 (zad r11);subst hv11;have R11:=Zh (R10.out.app2 r11 g11 o11);refine hK.out _ _ trivial (fun _=>R11.out.keep) ?_;clear hK K r11 g11 o11;have kl:=R11.out.keep;go_simp;have b0:=HC.out _ kl;have s3:=cell_of_row _ g 3 _ _ (0,0) b0;have f3:=frozen_of_row _ g 3 _ _ b0;have s4:=cell_of_row _ g 4 _ _ (0,0) b0;have f4:=frozen_of_row _ g 4 _ _ b0;clear b0;refine za1 (rs:=[16]) (by kernel_rfl) (by simp) ?_;refine za2 (za0 rfl fun K hK=>?_);go_simp;refine hK.out _ _ trivial (fun _=>kl) ?_;clear hK K;refine za1 (rs:=[17]) (by kernel_rfl) (by simp) ?_;refine za2 (za0 rfl fun K hK=>?_);go_simp;refine hK.out _ _ trivial (fun _=>kl) ?_;clear hK K;refine za1 (rs:=[18]) (by kernel_rfl) (by simp) ?_;refine za2 (za0 rfl fun K hK=>?_);go_simp;refine hK.out _ _ trivial (za3 (t:=18) (by decide) (by kernel_rfl)) ?_;clear hK K;refine za1 (rs:=[19]) (by kernel_rfl) (by simp) ?_;refine za2 (za0 rfl fun K hK=>?_);go_simp;refine hK.out _ _ trivial (za3 (t:=18) (by decide) (by kernel_rfl)) ?_;clear hK K;refine za1 (rs:=[20]) (by kernel_rfl) (by simp) ?_;refine za2 (za0 rfl fun K hK=>?_);go_simp;refine hK.out _ _ trivial (za3 (t:=18) (by decide) (by kernel_rfl)) ?_;clear hK K;refine za1 (rs:=[21]) (by kernel_rfl) (by simp) ?_;refine za2 (za0 rfl fun K hK=>?_);go_simp;refine hK.out _ _ trivial (za3 (t:=18) (by decide) (by kernel_rfl)) ?_;clear hK K;refine zao (by kernel_rfl) ?_ _;have fin:=FIN.out _ _ _ R11.out;have HFIN:=Zh fin;clear fin kl s3 s4 f3 f4;go_wp2;go_roundg (n-(k+1))
                   case measure=>have:=HMM.out;omega
                   case rel=>exact⟨k+1,_,_,by go_num,by omega,rfl,by rw[HBS.out],HFIN.out.1,HFIN.out.2.1,HFIN.out.2.2.1,HFIN.out.2.2.2.1,HFIN.out.2.2.2.2⟩
         . have hkl:n=k:=(by omega);subst hkl;have hpm0:PM wr B g a b (.slice A N c) d e m ⟨N,n,(layG grp N 0).1,(layG grp N 0).2.1,grp,bgG grp N,(layG grp N 0).2.2,fun _=>0⟩:=PX.pm (p:=⟨N,n,(layG grp N 0).1,(layG grp N 0).2.1,grp,bgG grp N,(layG grp N 0).2.2,fun _=>0⟩) hpx;have hmem:∀ v∈[a,b,d,e,m],∀ x,v.ownBlock=some x->w.heap.size<=x:=fun v hv x ex=>by
             simp only[List.mem_cons,List.not_mem_nil,or_false] at hv;rcases hv with rfl|rfl|rfl|rfl|rfl
             . exact HOWN.out _ (by simp) x ex
             . exact HOWN.out _ (by simp) x ex
             . exact HNEW.out _ (by simp) x ex
             . exact HNEW.out _ (by simp) x ex
             . exact HOWN.out _ (by simp) x ex
           have HPM0:=Zh hpm0;have HMEM:=Zh hmem;clear hpm0 hmem hpx hr hbw hap hnew;go_upto_region 16 with fail
           generalize wr=w8 at *;go_loopg [72] N (fun mm s wr=>∃ S:Nat,s = .int .i64 (S:Int)∧S<=N∧mm=N-S∧PM wr B g a b (.slice A N c) d e m ⟨N,n,(layG grp N S).1,(layG grp N S).2.1,grp,bgG grp N,(layG grp N S).2.2,fun _=>0⟩∧Below w.heap.size w wr)
           case atStart=>exact⟨0,by first | rfl | trivial,Nat.zero_le _,by first | rfl | trivial,HPM0.out,HBW.out⟩
           case round =>
             obtain⟨S,rfl,hS,hmm,hpm,hbw⟩:=hrel;have HM4:=Zh hmm;have HP4:=Zh hpm;have HB4:=Zh hbw;clear hmm
             by_cases hSN:S<N
             . obtain⟨bg2,cg2,eg2,_,zg⟩:=hpm.rc.at hSN;have hA:A=some ⟨bg2,0,none⟩:=(by injection eg2);subst hA;have hgS:=HG.out S hSN;have hpos:=zr5 (N:=N) HG.out hSN;have hen:(layG grp N S).2.2 (grp S)=posG grp N S:=zfg S _;obtain⟨G,hG⟩:∃ G,grp S=G:=⟨_,rfl⟩;change wr.cell? ⟨bg2,S,none⟩=some (.int .i64 ((grp S:Nat):Int)) at zg;rw[hG] at zg hgS hen;obtain⟨be,ce,ee,_,ze⟩:=hpm.re.at hgS;subst ee;change wr.cell? ⟨be,G,none⟩=some (.int .i64 (((layG grp N S).2.2 G:Nat):Int)) at ze;obtain⟨P,hP⟩:∃ P,posG grp N S=P:=⟨_,rfl⟩;rw[hP] at hen hpos;rw[hen] at ze;have r4:wr.cell? ⟨g,4,none⟩=some (.slice (some ⟨be,0,none⟩) n ce):=cell_of_row wr g 4 _ _ (0,0) hpm.box;have hpu:=zxj (s:=S) (i:=P) hpm hSN hpos (show N<=100000 by have:=HN.out;omega);have HPU:=Zh hpu;have HGG:=Zh hG;have HEN:=Zh hen;have HGN:=Zh hgS;have j0:(0:Int)<=(S:Int):=(by omega);have j1:(S:Int)<(N:Int):=(by omega);have j2:(0:Int)<=(G:Int):=(by omega);have j3:(G:Int)<(n:Int):=(by omega);have j4:(P:Int)<90000:=(by have:=HN.out;omega);clear hpu hG hen hgS hpos hP hpm hbw eg2;go_upto_region 19 with (first
                 | (go_at_call 69;(with_reducible refine HPU.out.mono ?_);rintro e' w9 ⟨rfl,h9,k9⟩;have HP9:=Zh h9;have HK9:=Zh k9;clear h9 k9)
                 | fail)
               clear ze r4 zg;have hp9:=HP9.out;obtain⟨be',ce',ee,_,ze⟩:=hp9.re.at HGN.out;obtain⟨rfl,rfl⟩:be=be'∧ce=ce':=by
                 injection ee with x1 x2 x3
                 injection x1 with x1
                 injection x1 with x1
                 exact⟨x1,x3⟩
               change w9.cell? ⟨be,G,none⟩=some (.int .i64 (((layG grp N S).2.2 G:Nat):Int)) at ze;rw[HEN.out] at ze;have r4:w9.cell? ⟨g,4,none⟩=some (.slice (some ⟨be,0,none⟩) n ce):=cell_of_row w9 g 4 _ _ (0,0) hp9.box;have fe:=hp9.re.frozen G;have hset:=PM.setE (p:=putF ⟨N,n,(layG grp N S).1,(layG grp N S).2.1,grp,bgG grp N,(layG grp N S).2.2,fun _=>0⟩ S P) (G:=G) (v:=P+1) hp9;have hkw:=(HB4.out.trans (HK9.out.below HB4.out.size fun x q=>by
                 rcases q with q|q
                 . exact HMEM.out _ (by simp) x q
                 . exact HMEM.out _ (by simp) x q)).setCell (p:=⟨be,G,none⟩) (HMEM.out (.slice (some ⟨be,0,none⟩) n ce) (by simp) be rfl) (.int .i64 ((P+1:Nat):Int))
               rw[show ((P+1:Nat):Int)=(P:Int)+1 by omega] at hset hkw;have HSET:=Zh hset;have HKW:=Zh hkw;clear hset hkw hp9 ee;go_wp2;go_roundg (N-(S+1))
               case measure=>have:=HM4.out;omega
               case rel =>
                 refine⟨S+1,by go_num,by omega,rfl,?_,HKW.out⟩;have h1:=HSET.out;have e1:(⟨N,n,(layG grp N (S+1)).1,(layG grp N (S+1)).2.1,grp,bgG grp N,(layG grp N (S+1)).2.2,fun _=>0⟩:PT)={putF ⟨N,n,(layG grp N S).1,(layG grp N S).2.1,grp,bgG grp N,(layG grp N S).2.2,fun _=>0⟩ S P with en:=upd (putF ⟨N,n,(layG grp N S).1,(layG grp N S).2.1,grp,bgG grp N,(layG grp N S).2.2,fun _=>0⟩ S P).en G (P+1)}:=by
                   rw[layG,HGG.out];simp only[HEN.out];rfl
                 rw[e1];exact h1
             . have hkl:N=S:=(by omega);subst hkl;go_wp2;go_ret;exact⟨g,a,b,d,e,m,rfl,hpm,hbw,HGW.out,HMEM.out⟩
section
structure ME (w:World) (B gm:Nat) (vg vn vf:Value) (N:Nat) (κ num:Nat->Nat) (fs:List Nat):Prop where
 gB:B<=gm
 box:w.heap[gm]?=some (.cells #[vg,vn,vf] 93 (0,0))
 rg:NRow w B vg N κ
 rn:NRow w B vn N num
 rf:Ints w B vf (ns fs)
 gn:Ap vg vn
 gf:Ap vg vf
 nf:Ap vn vf
 zero:∀ k,k<N->(num k=0↔k∉fs.map κ)
 at':∀ (i s:Nat),fs[i]?=some s->num (κ s)=i+1
 lt:∀ s,s<N->κ s<N
 met:Met κ N fs
section
variable {w w':World} {B gm N:Nat} {vg vn vf v':Value} {κ num:Nat->Nat} {fs:List Nat}
theorem ME.kept {Q:Nat->Prop} (h:ME w B gm vg vn vf N κ num fs) (hk:Kept Q w w') (hg:¬ Q gm) (hq:∀ v∈[vg,vn,vf],∀ x,v.ownBlock=some x->¬ Q x):ME w' B gm vg vn vf N κ num fs:=
 ⟨h.gB,(hk.block gm (za4 h.box) hg).trans h.box,h.rg.kept hk (hq vg (by simp)),h.rn.kept hk (hq vn (by simp)),h.rf.off hk (hq vf (by simp)),h.gn,h.gf,h.nf,h.zero,h.at',h.lt,h.met⟩
theorem ME.few (h:ME w B gm vg vn vf N κ num fs):fs.length<=N:=by
 have:=zbz (fs.map κ) (List.range N) h.met.nod (fun x hx=>by
   rw[List.mem_map] at hx;obtain⟨s,hs,rfl⟩:=hx;rw[List.mem_range];exact h.lt s (h.met.lt s hs))
 simpa using this
theorem ME.push {bn cn s:Nat} (h:ME w B gm vg (.slice (some ⟨bn,0,none⟩) N cn) vf N κ num fs) (hs:s<N) (hn:κ s∉fs.map κ) (hk:Kept (fun x=>vf.ownBlock=some x) w w') (hr:Ints w' B v' (ns fs++ns [s])) (ho:∀ x,v'.ownBlock=some x->vf.ownBlock=some x∨w.heap.size<=x):
   w'.heap[gm]?=some (.cells #[vg,.slice (some ⟨bn,0,none⟩) N cn,vf] 93 (0,0))∧NRow (w'.setCell ⟨gm,2,none⟩ v') B (.slice (some ⟨bn,0,none⟩) N cn) N num∧
   ME ((w'.setCell ⟨gm,2,none⟩ v').setCell ⟨bn,κ s,none⟩ (.int .i64 ((fs.length+1:Nat):Int))) B gm vg (.slice (some ⟨bn,0,none⟩) N cn) v' N κ (upd num (κ s) (fs.length+1)) (fs++[s])∧
   Kept (fun x=>x=gm∨(Value.slice (some ⟨bn,0,none⟩) N cn).ownBlock=some x∨vf.ownBlock=some x) w ((w'.setCell ⟨gm,2,none⟩ v').setCell ⟨bn,κ s,none⟩ (.int .i64 ((fs.length+1:Nat):Int))):=by
 have ng:∀ {u:Value} {B':Nat} {n:Nat} {f:Nat->Nat} {W:World},NRow W B' u n f->W.heap[gm]?=some (.cells #[vg,.slice (some ⟨bn,0,none⟩) N cn,vf] 93 (0,0))->∀ x,u.ownBlock=some x->x≠gm:=fun hu hb x hx=>by
   obtain⟨cu,hc⟩:=zac hu hx;exact za6 hc hb (by decide)
 have nf2:∀ x,vf.ownBlock=some x->x≠gm:=fun x hx=>by
   obtain⟨cu,hc⟩:=zac h.rf hx;exact za6 hc h.box (by decide)
 have hbox:w'.heap[gm]?=some (.cells #[vg,.slice (some ⟨bn,0,none⟩) N cn,vf] 93 (0,0)):=(hk.block gm (za4 h.box) fun q=>nf2 gm q rfl).trans h.box;have hbg:bn≠gm:=ng h.rn h.box bn rfl;have nfv:∀ x,v'.ownBlock=some x->x≠gm:=fun x hx=>by
   obtain⟨cu,hc⟩:=zac hr hx;exact za6 hc hbox (by decide)
 have lts:∀ {u:Value} {n:Nat} {f:Nat->Nat},NRow w B u n f->∀ x,u.ownBlock=some x->x<w.heap.size:=fun hu x ex=>(World.ownsRow.lt hu x ex).2
 have apv:∀ {u:Value} {n:Nat} {f:Nat->Nat},NRow w B u n f->Ap u vf->Ap u v':=fun hu z x ex ev=>by
   rcases ho x ev with q|q
   . exact z x ex q
   . have:=lts hu x ex;omega
 have k1:Kept (fun x=>x=gm) w' (w'.setCell ⟨gm,2,none⟩ v'):=(Kept.refl (fun x=>x=gm) w').setCell (a:=⟨gm,2,none⟩) (.inl rfl) v';have k2:Kept (fun x=>x=bn) (w'.setCell ⟨gm,2,none⟩ v') ((w'.setCell ⟨gm,2,none⟩ v').setCell ⟨bn,κ s,none⟩ (.int .i64 ((fs.length+1:Nat):Int))):=(Kept.refl (fun x=>x=bn) _).setCell (a:=⟨bn,κ s,none⟩) (.inl rfl) _;have hrn:=(h.rn.kept hk fun x ex q=>h.nf x ex q).kept k1 fun x ex q=>ng h.rn h.box x ex q
 refine⟨hbox,hrn,⟨h.gB,(k2.block gm (by have:=za4 hbox;have:=k1.size;omega) fun e=>hbg e.symm).trans (heap_setCell_same w' gm 2 _ _ v' hbox),((h.rg.kept hk fun x ex q=>h.gf x ex q).kept k1 fun x ex q=>ng h.rg h.box x ex q).kept k2 fun x ex q=>h.gn x ex (by rw[q];rfl),?_,?_,h.gn,apv h.rg h.gf,apv h.rn h.nf,fun k hkN=>?_,fun i t hi=>?_,h.lt,h.met.push hs hn⟩,?_⟩
 . exact hrn.set (κ s) (fs.length+1)
 . have h3:Ints w' B v' (ns (fs++[s])):=(by simpa [ns] using hr);exact (h3.off k1 fun x ex q=>nfv x ex q).off k2 fun x ex q=>apv h.rn h.nf bn rfl (by rw[←q];exact ex)
 . by_cases e:k=κ s
   . subst e;rw[zai];simp
   . rw[zar _ _ e,h.zero k hkN];simp[e]
 . by_cases hil:i<fs.length
   . rw[List.getElem?_append_left hil] at hi;have hm:=List.mem_of_getElem? hi;have hne:κ t≠κ s:=fun e=>hn (e▸List.mem_map_of_mem hm)
     rw[zar _ _ hne];exact h.at' i t hi
   . have hi':i=fs.length:=by
       have:=(List.getElem?_eq_some_iff.1 hi).1;simp at this;omega
     subst hi';simp at hi;subst hi;rw[zai]
 . exact ((hk.mono (Q':=fun x=>x=gm∨(Value.slice (some ⟨bn,0,none⟩) N cn).ownBlock=some x∨vf.ownBlock=some x) fun x q => .inl (.inr (.inr q))).trans k1 fun x q => .inl (.inl q)).trans k2 fun x q => .inl (.inr (.inl (by rw[q];rfl)))
end
def RetMe (w:World) (B gm:Nat) (vg vn vf:Value) (N:Nat) (κ:Nat->Nat) (fs:List Nat) (s:Nat) (e:Ending) (w':World):Prop:=
 ∃ (i:Nat) (fs':List Nat) (num':Nat->Nat) (vf':Value),e = .returned (.int .i64 (i:Int))∧ME w' B gm vg vn vf' N κ num' fs'∧((fs'=fs∧(fs.map κ)[i]?=some (κ s))∨(fs'=fs++[s]∧i=fs.length∧κ s∉fs.map κ))∧
   Kept (fun x=>x=gm∨vn.ownBlock=some x∨vf.ownBlock=some x) w w'∧∀ x,vf'.ownBlock=some x->vf.ownBlock=some x∨w.heap.size<=x
set_option maxRecDepth 20000 in
set_option maxHeartbeats 2000000 in
theorem zx0 {w:World} {B gm N s:Nat} {vg vn vf:Value} {κ num:Nat->Nat} {fs:List Nat} (h:ME w B gm vg vn vf N κ num fs) (hs:s<N) (hN:N<=90000):
   Calls Try.prog 35 #[.pointer (some ⟨gm,0,none⟩),.int .i64 (s:Int)] w (RetMe w B gm vg vn vf N κ fs s):=by
 have hG:=h.lt s hs;obtain⟨bg,cg,heg,_,hg0⟩:=h.rg.at hs;obtain⟨bn,cn,hen,_,hn0⟩:=h.rn.at hG;subst heg hen;obtain⟨Af,cf,hvf⟩:=za9 h.rf;rw[zag] at hvf;subst hvf;have hfew:=h.few;have hzero:=h.zero (κ s) hG;have HH:=Zh h;obtain⟨G,hGe⟩:∃ G,κ s=G:=⟨_,rfl⟩;obtain⟨D,hDe⟩:∃ D,num G=D:=⟨_,rfl⟩;rw[hGe] at hg0 hn0 hG hzero;rw[hDe] at hn0 hzero;have q0:w.cell? ⟨gm,0,none⟩=some (.slice (some ⟨bg,0,none⟩) N cg):=cell_of_row w gm 0 _ _ (0,0) h.box;have q1:w.cell? ⟨gm,1,none⟩=some (.slice (some ⟨bn,0,none⟩) N cn):=cell_of_row w gm 1 _ _ (0,0) h.box;have q2:w.cell? ⟨gm,2,none⟩=some (.slice Af fs.length cf):=cell_of_row w gm 2 _ _ (0,0) h.box;have i0:(0:Int)<=(s:Int):=(by omega);have i1:(s:Int)<(N:Int):=(by omega);have i2:(0:Int)<=(G:Int):=(by omega);have i3:(G:Int)<(N:Int):=(by omega);have HGE:=Zh hGe;have HDE:=Zh hDe;have HS:=Zh hs;have HN:=Zh hN;have HFEW:=Zh hfew;have HGB:=Zh (show B<=w.heap.size by have:=za4 h.box;have:=h.gB;omega);clear hGe hDe hfew
 by_cases hin:G∈fs.map κ
 . obtain⟨t,ht,hte⟩:=List.mem_map.1 hin;obtain⟨i,hi⟩:=List.getElem?_of_mem ht;have hD:D=i+1:=(by rw[←HDE.out,←hte];exact h.at' i t hi);subst hD;have hil:i<fs.length:=(List.getElem?_eq_some_iff.1 hi).1;have i4:(i:Int)<90000:=(by have:=HFEW.out;have:=HN.out;omega);have hq:(((i+1:Nat):Int)==0)=false:=(by simp;omega);have HI:=Zh (show (fs.map κ)[i]?=some (κ s) by rw[List.getElem?_map,hi,HGE.out,←hte];rfl);have hci:((i+1:Nat):Int)=(i:Int)+1:=(by omega);clear h hin ht hte hi hzero;change w.cell? ⟨bn,G,none⟩=some (.int .i64 ((i+1:Nat):Int)) at hn0;rw[hci] at hn0;rw[hci] at hq;go_enter Try.func35,Try.ntmps35;go_wp2;go_ret;exact⟨i,fs,num,_,by first | rfl | (congr 2;omega),HH.out,.inl ⟨rfl,HI.out⟩,Kept.refl _ _,fun x ex => .inl ex⟩
 . have hD:D=0:=hzero.2 hin;subst hD;have HIN:=Zh hin;have HIN2:=Zh (show κ s∉fs.map κ by rw[HGE.out];exact hin);have HLEN:=Zh (show (ns fs).length+(ns [s]).length<=100000 by simp[ns];have:=HFEW.out;have:=HN.out;omega);clear h hin hzero;go_enter Try.func35,Try.ntmps35;go_upto_region 4 with (first
     | (at_builtin;go_loud (refine zbv (l:=ns fs) (m:=ns [s]) (B:=B) (C:=B) (by rfl) _ _ (by rfl) (by rfl) (by rfl) (HH.out.rf.off (Kept.of_below (fun _=>False) ((Below.refl _ _).alloc (Nat.le_refl _) _)) (fun _ _ q=>q)) (zet (heap_alloc_new _ _) HGB.out) HLEN.out (Nat.le_trans HGB.out (by simp)) ?_);intro v8 w8 h8 hg8 ho8;go_loud (obtain⟨A8,c8,e8⟩:=za9 h8;rw[show (ns fs++ns [s]).length=fs.length+1 by simp[ns]] at e8;subst e8;have pu:=HH.out.push HS.out HIN2.out (((Kept.refl _ w).alloc _).grown hg8 fun x ex => .inl ex) h8 (fun x ex=>ho8.elim (fun e => .inl (e ▸ ex)) (fun e => .inr (by rw[e] at ex;injection ex with ex;simp at ex;omega)));have b8:=pu.1;have y8:=cell_of_row _ gm 2 _ _ (0,0) b8;have f8:=frozen_of_row _ gm 2 _ _ b8;have HPU:=Zh pu;have HO8:=Zh ho8;clear h8 hg8 ho8 pu;go_simp))
     | fail)
   have b9:=heap_setCell_same w8 gm 2 _ _ (.slice A8 (fs.length+1) c8) b8;have r9:=HPU.out.2.1;have hfin:=HPU.out.2.2;rw[HGE.out] at hfin;generalize w8.setCell ⟨gm,2,none⟩ (.slice A8 (fs.length+1) c8)=w9 at *;have x1:w9.cell? ⟨gm,1,none⟩=some (.slice (some ⟨bn,0,none⟩) N cn):=cell_of_row w9 gm 1 _ _ (0,0) b9;have x2:w9.cell? ⟨gm,2,none⟩=some (.slice A8 (fs.length+1) c8):=cell_of_row w9 gm 2 _ _ (0,0) b9;have xn:=(World.ownsRow.cellAt r9 G (by omega)).trans (zav hG);have fn:=r9.frozen G;have HFIN:=Zh hfin;clear b9 r9 hfin b8 f8 y8 HPU q0 q1 q2 hg0 hn0;go_still_tail 11,(by kernel_rfl);change wpList _ _ _ _ _ (World.drew _);go_upto_region 5 with fail
   have hci:((fs.length+1:Nat):Int)=(fs.length:Int)+1:=(by omega);have hf1:=HFIN.out.1;have hf2:=HFIN.out.2;rw[hci] at hf1 hf2;obtain⟨w10,hw10⟩:∃ w10,(w9.setCell ⟨bn,G,none⟩ (.int .i64 ((fs.length:Int)+1))).drew=w10:=⟨_,rfl⟩;have hme:=hf1.kept (w':=(w9.setCell ⟨bn,G,none⟩ (.int .i64 ((fs.length:Int)+1))).drew) ((Kept.refl (fun _=>False) _).drew) (fun q=>q) (fun _ _ _ _ q=>q);have hkp:=hf2.drew;rw[hw10] at hme hkp ⊢;have z1:w10.cell? ⟨gm,1,none⟩=some (.slice (some ⟨bn,0,none⟩) N cn):=cell_of_row w10 gm 1 _ _ (0,0) hme.box;have zn:=(World.ownsRow.cellAt hme.rn G (by omega)).trans (zav hG);rw[zai,hci] at zn;have i4:(fs.length:Int)<100000:=(by have:=HFEW.out;have:=HN.out;omega);have HME:=Zh hme;have HKP:=Zh hkp;clear hme hkp hf1 hf2 xn fn x1 x2 hw10;go_wp2;go_ret;refine⟨fs.length,fs++[s],_,_,by first | rfl | (congr 2;omega),HME.out,.inr ⟨rfl,rfl,HIN2.out⟩,HKP.out,fun x ex=>?_⟩;rcases HO8.out with e | e
   . exact .inl (e▸ex)
   . exact .inr (by rw[e] at ex;injection ex with ex;simp at ex;omega)
end
section
structure LE (B:Nat) (w0 w:World) (gl gm:Nat) (O:Nat->Prop) (F:Nat->Nat) (n:Int) (vg vn vf vN vO:Value) (N:Nat) (κ num:Nat->Nat) (fs:List Nat) (rows:List (List Nat)) (outs:List (Nat×Nat)):Prop where
 me:ME w B gm vg vn vf N κ num fs
 gB:B<=gl
 box:BoxM w gl 41 F n vN vO
 nxt:Nxt w B O vN rows
 ots:Ots w B O vO outs
 olt:∀ b,O b->B<=b∧b<w.heap.size
 oap:∀ v∈[vg,vn,vf],∀ x,v.ownBlock=some x->¬ O x
 ogl:¬ O gl
 ogm:¬ O gm
 below:Below B w0 w
structure LR (B:Nat) (w0 w:World) (gl gm gx C:Nat) (O:Nat->Prop) (F:Nat->Nat) (n:Int) (vg vn vf vN vO:Value) (N:Nat) (κ num:Nat->Nat) (fs:List Nat) (rows:List (List Nat)) (outs:List (Nat×Nat)) (f:Nat->Nat):Prop where
 le:LE B w0 w gl gm O F n vg vn vf vN vO N κ num fs rows outs
 row:NRow w B (.slice (some ⟨gx,0,none⟩) C C) C f
 xo:¬ O gx
 xa:∀ v∈[vg,vn,vf],v.ownBlock≠some gx
section
variable {B gl gm gx C N s:Nat} {w0 w w':World} {O Q:Nat->Prop} {F κ num f:Nat->Nat} {n:Int} {vg vn vf vN vO:Value} {fs:List Nat} {rows:List (List Nat)} {outs:List (Nat×Nat)} {en:Ending}
theorem LE.notgl (h:LE B w0 w gl gm O F n vg vn vf vN vO N κ num fs rows outs):gl≠gm∧∀ v∈[vg,vn,vf],v.ownBlock≠some gl:=by
 refine⟨za6 h.box h.me.box (by decide),fun v hv q=>?_⟩;have hi:∃ cur,w.heap[gl]?=some (.cells cur 3 (0,0)):=by
   simp only[List.mem_cons,List.not_mem_nil,or_false] at hv;rcases hv with rfl|rfl|rfl
   . exact zac h.me.rg q
   . exact zac h.me.rn q
   . exact zac h.me.rf q
 obtain⟨cur,hc⟩:=hi;exact za6 hc h.box (by decide) rfl
theorem LE.stays (h:LE B w0 w gl gm O F n vg vn vf vN vO N κ num fs rows outs) (hb:Below w.heap.size w w'):LE B w0 w' gl gm O F n vg vn vf vN vO N κ num fs rows outs:=
 ⟨h.me.kept (Kept.of_below (fun _=>False) hb) (fun q=>q) (fun _ _ _ _ q=>q),h.gB,h.box.stays hb,h.nxt.kept (Kept.of_below (fun _=>False) hb) (fun _ _ q=>q),h.ots.kept (Kept.of_below (fun _=>False) hb) (fun _ _ q=>q),fun b hO=>by have:=h.olt b hO;have:=hb.size;omega,h.oap,h.ogl,h.ogm,h.below.trans (hb.mono (by have:=h.box.lt;have:=h.gB;omega))⟩
theorem LE.meet (h:LE B w0 w gl gm O F n vg vn vf vN vO N κ num fs rows outs) (hr:RetMe w B gm vg vn vf N κ fs s en w'):
   ∃ (i:Nat) (fs':List Nat) (num':Nat->Nat) (vf':Value),en = .returned (.int .i64 (i:Int))∧((fs'=fs∧(fs.map κ)[i]?=some (κ s))∨(fs'=fs++[s]∧i=fs.length∧κ s∉fs.map κ))∧LE B w0 w' gl gm O F n vg vn vf' vN vO N κ num' fs' rows outs∧
     Kept (fun x=>x=gm∨vn.ownBlock=some x∨vf.ownBlock=some x) w w'∧∀ x,vf'.ownBlock=some x->vf.ownBlock=some x∨w.heap.size<=x:=by
 obtain⟨i,fs',num',vf',e,me,hor,hk,hq⟩:=hr;obtain⟨n1,n2⟩:=h.notgl;have hO:∀ b,O b->¬ (b=gm∨vn.ownBlock=some b∨vf.ownBlock=some b):=fun b hb q=>by
   rcases q with q|q|q
   . exact h.ogm (q▸hb)
   . exact h.oap vn (by simp) b q hb
   . exact h.oap vf (by simp) b q hb
 have hlt:B<=w.heap.size:=(by have:=h.box.lt;have:=h.gB;omega);refine⟨i,fs',num',vf',e,hor,⟨me,h.gB,h.box.kept hk fun q=>?_,h.nxt.kept hk hO,h.ots.kept hk hO,fun b hb=>by have:=h.olt b hb;have:=hk.size;omega,fun v hv x ex hx=>?_,h.ogl,h.ogm,h.below.trans (hk.below hlt fun x q=>?_)⟩,hk,hq⟩
 . rcases q with q|q|q
   . exact n1 q
   . exact n2 vn (by simp) q
   . exact n2 vf (by simp) q
 . simp only[List.mem_cons,List.not_mem_nil,or_false] at hv;rcases hv with rfl|rfl|rfl
   . exact h.oap v (by simp) x ex hx
   . exact h.oap v (by simp) x ex hx
   . rcases hq x ex with q|q
     . exact h.oap vf (by simp) x q hx
     . have:=(h.olt x hx).2;omega
 . rcases q with q|q|q
   . rw[q];exact h.me.gB
   . exact (World.ownsRow.lt h.me.rn x q).1
   . exact (World.ownsRow.lt h.me.rf x q).1
theorem LR.xlt (h:LR B w0 w gl gm gx C O F n vg vn vf vN vO N κ num fs rows outs f):B<=gx∧gx<w.heap.size:=World.ownsRow.lt h.row gx rfl
theorem LR.xne (h:LR B w0 w gl gm gx C O F n vg vn vf vN vO N κ num fs rows outs f):gx≠gl∧gx≠gm:=by
 obtain⟨cu,hc⟩:=zac h.row (b:=gx) rfl;exact⟨za6 hc h.le.box (by decide),za6 hc h.le.me.box (by decide)⟩
theorem LR.meet (h:LR B w0 w gl gm gx C O F n vg vn vf vN vO N κ num fs rows outs f) (hr:RetMe w B gm vg vn vf N κ fs s en w'):
   ∃ (i:Nat) (fs':List Nat) (num':Nat->Nat) (vf':Value),en = .returned (.int .i64 (i:Int))∧((fs'=fs∧(fs.map κ)[i]?=some (κ s))∨(fs'=fs++[s]∧i=fs.length∧κ s∉fs.map κ))∧LR B w0 w' gl gm gx C O F n vg vn vf' vN vO N κ num' fs' rows outs f:=by
 obtain⟨i,fs',num',vf',e,hor,hle,hk,hq⟩:=h.le.meet hr;have hx:=h.xlt;refine⟨i,fs',num',vf',e,hor,hle,h.row.kept hk fun x ex q=>?_,h.xo,fun v hv q=>?_⟩
 . have e':gx=x:=(by injection ex);subst e';rcases q with q|q|q
   . exact h.xne.2 q
   . exact h.xa vn (by simp) q
   . exact h.xa vf (by simp) q
 . simp only[List.mem_cons,List.not_mem_nil,or_false] at hv;rcases hv with rfl|rfl|rfl
   . exact h.xa v (by simp) q
   . exact h.xa v (by simp) q
   . rcases hq gx q with z|z
     . exact h.xa vf (by simp) z
     . omega
theorem LR.set (h:LR B w0 w gl gm gx C O F n vg vn vf vN vO N κ num fs rows outs f) (c v:Nat):LR B w0 (w.setCell ⟨gx,c,none⟩ (.int .i64 (v:Int))) gl gm gx C O F n vg vn vf vN vO N κ num fs rows outs (upd f c v):=by
 have k1:Kept (fun x=>x=gx) w (w.setCell ⟨gx,c,none⟩ (.int .i64 (v:Int))):=(Kept.refl (fun x=>x=gx) w).setCell (a:=⟨gx,c,none⟩) (.inl rfl) _;have hO:∀ b,O b->¬ b=gx:=fun b hb q=>h.xo (q▸hb)
 refine⟨⟨h.le.me.kept k1 (fun q=>h.xne.2 q.symm) (fun v hv x ex q=>h.xa v hv (q▸ex)),h.le.gB,h.le.box.kept k1 (fun q=>h.xne.1 q.symm),h.le.nxt.kept k1 hO,h.le.ots.kept k1 hO,fun b hb=>by have:=h.le.olt b hb;have:=k1.size;omega,h.le.oap,h.le.ogl,h.le.ogm,h.le.below.setCell (p:=⟨gx,c,none⟩) h.xlt.1 _⟩,h.row.set c v,h.xo,h.xa⟩
theorem LR.push {W:World} {v1 v2:Value} {vs:List Value} {o:Nat×Nat} (h:LR B w0 w gl gm gx C O F n vg vn vf vN vO N κ num fs rows outs f) (n1:vs.length=rows.length) (n3:∀ (i:Nat) u r,vs[i]?=some u->rows[i]?=some r->Ints w B u (ns r)) (n4:∀ u∈vs,∀ b,u.ownBlock=some b->O b)
   (hk:Kept (fun b=>vN.ownBlock=some b∨vO.ownBlock=some b) w W)
   (r1:W.ownsRow B 44 1 v1 (rows.length+1) (vs++[.slice (some ⟨gx,0,none⟩) C C])) (o1:∀ b,v1.ownBlock=some b->vN.ownBlock=some b∨w.heap.size<=b)
   (r2:W.ownsRow B 51 2 v2 (outs.length+1) (outC outs++[.int .u64 (o.1:Int),.int .u64 (o.2:Int)])) (o2:∀ b,v2.ownBlock=some b->vO.ownBlock=some b∨w.heap.size<=b):
   ∃ O',LE B w0 ((W.setCell ⟨gl,257,none⟩ v1).setCell ⟨gl,258,none⟩ v2) gl gm O' F n vg vn vf v1 v2 N κ num fs (rows++[(List.range C).map f]) (outs++[o]):=by
 have hOq:∀ b,(vN.ownBlock=some b∨vO.ownBlock=some b)->O b:=fun b e=>e.elim (h.le.nxt.inO b) (h.le.ots.inO b)
 obtain⟨g1,g2⟩:=h.le.notgl;have hgl:=h.le.box.lt;have hgm:=za4 h.le.me.box;have hsz:=hk.size;have k2:Kept (fun b=>b=gl) W ((W.setCell ⟨gl,257,none⟩ v1).setCell ⟨gl,258,none⟩ v2):=((Kept.refl (fun b=>b=gl) W).setCell (a:=⟨gl,257,none⟩) (.inl rfl) _).setCell (a:=⟨gl,258,none⟩) (.inl rfl) _;have hbW:=h.le.box.kept hk fun q=>h.le.ogl (hOq gl q)
 have hb:=(hbW.setNxt v1).setOut v2;have lme:∀ v∈[vg,vn,vf],∀ x,v.ownBlock=some x->x<w.heap.size:=fun v hv x ex=>by
   simp only[List.mem_cons,List.not_mem_nil,or_false] at hv;rcases hv with rfl|rfl|rfl
   . exact (World.ownsRow.lt h.le.me.rg x ex).2
   . exact (World.ownsRow.lt h.le.me.rn x ex).2
   . exact (World.ownsRow.lt h.le.me.rf x ex).2
 have hme:=(h.le.me.kept hk (fun q=>h.le.ogm (hOq gm q)) fun v hv x ex q=>h.le.oap v hv x ex (hOq x q)).kept k2 (fun q=>g1 q.symm) fun v hv x ex q=>g2 v hv (q▸ex)
 have l1:∀ b,v1.ownBlock=some b->B<=b∧b<W.heap.size:=fun b e=>World.ownsRow.lt r1 b e
 have l2:∀ b,v2.ownBlock=some b->B<=b∧b<W.heap.size:=fun b e=>World.ownsRow.lt r2 b e
 have ngl:∀ {e size n:Nat} {v:Value} {xs:List Value},W.ownsRow B e size v n xs->e≠41->∀ b,v.ownBlock=some b->b≠gl:=fun hr he b e=>by
   obtain⟨cu,hc⟩:=zac hr e;exact za6 hc hbW he
 have hint:∀ u r,Ints w B u (ns r)->(∀ b,u.ownBlock=some b->¬ (vN.ownBlock=some b∨vO.ownBlock=some b))->Ints ((W.setCell ⟨gl,257,none⟩ v1).setCell ⟨gl,258,none⟩ v2) B u (ns r):=fun u r hi hno=>by
   have h1:=hi.off hk hno;exact h1.off k2 fun b e q=>ngl h1 (by decide) b e q
 have hkind:∀ u r,Ints w B u (ns r)->∀ b,u.ownBlock=some b->¬ (vN.ownBlock=some b∨vO.ownBlock=some b):=fun u r hi b e q=>by
   obtain⟨cu,hc⟩:=zac hi e;rcases q with q|q
   . obtain⟨vs0,_,h2,_⟩:=h.le.nxt.mem;obtain⟨cu2,hc2⟩:=zac h2 q;exact za6 hc hc2 (by decide) rfl
   . obtain⟨cu2,hc2⟩:=zac h.le.ots.row q;exact za6 hc hc2 (by decide) rfl
 have hx:=h.xlt;refine⟨fun b=>O b∨b=gx∨v1.ownBlock=some b∨v2.ownBlock=some b,hme,h.le.gB,hb,⟨⟨vs++[.slice (some ⟨gx,0,none⟩) C C],by simp[n1],?_,fun i u r e1 e2=>?_,fun u hu b e=>?_⟩,fun b e => .inr (.inr (.inl e))⟩,⟨?_,fun b e => .inr (.inr (.inr e))⟩,fun b hb=>?_,fun v hv x ex q=>?_,fun q=>?_,fun q=>?_,?_⟩
 . rw[List.length_append];exact zaa r1 fun b e hb=>k2.block b hb (ngl r1 (by decide) b e)
 . by_cases hi:i<rows.length
   . rw[List.getElem?_append_left (by omega)] at e1;rw[List.getElem?_append_left hi] at e2;exact hint u r (n3 i u r e1 e2) (hkind u r (n3 i u r e1 e2))
   . have hi':i=rows.length:=by
       have:=(List.getElem?_eq_some_iff.1 e2).1;simp at this;omega
     subst hi';rw[List.getElem?_append_right (by omega)] at e1;simp[n1] at e1 e2;subst e1 e2;have hr:=nrow_ints.1 h.row;exact hint _ _ hr (hkind _ _ hr)
 . rcases List.mem_append.1 hu with z|z
   . exact .inl (n4 u z b e)
   . rw[List.mem_singleton] at z;subst z;exact .inr (.inl (by injection e with e;exact e.symm))
 . rw[List.length_append,zgf];exact zaa r2 fun b e hb=>k2.block b hb (ngl r2 (by decide) b e)
 . have hs2:=k2.size;rcases hb with z|z|z|z
   . have:=h.le.olt b z;omega
   . omega
   . have:=l1 b z;omega
   . have:=l2 b z;omega
 . have:=lme v hv x ex;rcases q with z|z|z|z
   . exact h.le.oap v hv x ex z
   . exact h.xa v hv (z▸ex)
   . rcases o1 x z with y|y
     . exact h.le.oap v hv x ex (h.le.nxt.inO x y)
     . omega
   . rcases o2 x z with y|y
     . exact h.le.oap v hv x ex (h.le.ots.inO x y)
     . omega
 . rcases q with z|z|z|z
   . exact h.le.ogl z
   . exact h.xne.1 z.symm
   . exact ngl r1 (by decide) gl z rfl
   . exact ngl r2 (by decide) gl z rfl
 . rcases q with z|z|z|z
   . exact h.le.ogm z
   . exact h.xne.2 z.symm
   . rcases o1 gm z with y|y
     . exact h.le.ogm (h.le.nxt.inO gm y)
     . omega
   . rcases o2 gm z with y|y
     . exact h.le.ogm (h.le.ots.inO gm y)
     . omega
 . have hB:B<=w.heap.size:=(by have:=h.le.gB;omega);have h1:=h.le.below.trans (hk.below hB fun b q=>(h.le.olt b (hOq b q)).1);exact h1.trans (k2.below (by omega) fun b q=>by rw[q];exact h.le.gB)
theorem zxv {nx:Nat->Nat} {c i:Nat} {fs':List Nat} (hnod:(fs.map κ).Nodup) (hc:c<C) (hor:(fs'=fs∧(fs.map κ)[i]?=some (κ (nx c)))∨(fs'=fs++[nx c]∧i=fs.length∧κ (nx c)∉fs.map κ)):
   lsRow κ nx (C-c) c fs ((List.range c).map f)=lsRow κ nx (C-(c+1)) (c+1) fs' ((List.range (c+1)).map (upd f c i)):=by
 have e1:(List.range (c+1)).map (upd f c i)=(List.range c).map f++[i]:=by
   rw[List.range_succ,List.map_append]
   congr 1
   . apply List.map_congr_left;intro j hj;rw[List.mem_range] at hj;rw[zar _ _ (by omega)]
   . simp[zai]
 rw[e1,show C-c=(C-(c+1))+1 by omega];rcases hor with ⟨rfl,hi⟩|⟨rfl,rfl,hn⟩
 . refine zs1 hi fun j hj e=>?_
   obtain⟨h1,h2⟩:=List.getElem?_eq_some_iff.1 hi;obtain⟨h3,h4⟩:=List.getElem?_eq_some_iff.1 e;have:=(List.getElem_inj hnod).1 (h4.trans h2.symm);omega
 . exact zs2 fun j hj e=>hn (List.mem_of_getElem? e)
end
end
end Go.Proofs.Ytgbdanddbgomhaa
