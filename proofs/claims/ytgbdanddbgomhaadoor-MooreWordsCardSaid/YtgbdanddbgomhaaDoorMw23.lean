import Derived.Test.YtgbdanddbgomhaaDoorMw19
import Derived.Test.YtgbdanddbgomhaaDoorMw21
set_option linter.unusedVariables false
set_option linter.unusedSimpArgs false
namespace Go.Proofs.YtgbdanddbgomhaaDoor
open Go Go.RowKit
section
structure RowsAt (w:World) (B:Nat) (vs vf:Value) (s:Lay) (Q:Nat->Prop):Prop where
 sets:w.ownsRow B 26 4 vs s.sets.length (setsC s.sets)
 setsQ:∀ b,vs.ownBlock=some b->Q b
 fols:∃ fs,w.ownsRow B 38 1 vf s.follow.length fs∧FolAt w B fs s.follow Q
 folsQ:∀ b,vf.ownBlock=some b->Q b
section
variable {w w':World} {B:Nat} {s:Lay} {Q:Nat->Prop} {fs:List Value} {ls:List (List Nat)} {vs vf:Value}
theorem FolAt.block (h:FolAt w B fs ls Q) (hb:∀ b,Q b->b<w.heap.size->w'.heap[b]?=w.heap[b]?):FolAt w' B fs ls Q:=
 ⟨h.len,fun i v l h1 h2=>(h.get i v l h1 h2).block fun b e=>hb b (h.inQ i v b h1 e),h.inQ,h.apart⟩
theorem RowsAt.block (h:RowsAt w B vs vf s Q) (hb:∀ b,Q b->b<w.heap.size->w'.heap[b]?=w.heap[b]?):RowsAt w' B vs vf s Q:=by
 obtain⟨fs,h1,h2⟩:=h.fols;exact⟨za3 h.sets fun b e=>hb b (h.setsQ b e),h.setsQ,⟨fs,za3 h1 fun b e=>hb b (h.folsQ b e),h2.block hb⟩,h.folsQ⟩
end
end
theorem Tryd.infoBool:(Tryd.prog.info? 4).map (fun i=>(i.zero,i.size,i.bytes))=some (some (.bool false),1,1):=by kernel_rfl
structure NfaAt (w:World) (C:Nat) (vs v1:Value) (gm:Nat) (vf:Value) (s:Lay) (x:Str):Prop where
 rows:∃ Q,RowsAt w C vs vf s Q
 first:Ints w C v1 (ns x.first)
 last:Bools w C gm s.sets.length (fun j=>x.last.contains j)
section
def Nice (s:Lay) (a b:Nat) (x:Str):Prop:=∃ R,Good [] s a b x R
theorem zi9 {α:Type} (l:List α) (i:Nat) (d:α) (h:i<l.length):l[i]?=some (l.getD i d):=by
 rw[List.getD_eq_getElem?_getD,List.getElem?_eq_getElem h];rfl
section
variable {w w2:World} {B gl:Nat} {s:Lay} {Q:Nat->Prop} {fs:List Value} {ls:List (List Nat)} {ys:List Nat}
theorem FolAt.put (h:FolAt w B fs ls Q) (hQ:∀ b,Q b->b<w.heap.size) (p:Nat) (hp:p<ls.length) (vp v':Value) (hvp:fs[p]?=some vp) (hg:w.grownBy w2 vp.ownBlock) (hv:Ints w2 B v' (ns (ls.getD p []++ys)))
   (hor:v'.ownBlock=vp.ownBlock∨v'.ownBlock=some w.heap.size):FolAt w2 B (fs.set p v') (linkAt ls p ys) (fun b=>Q b∨v'.ownBlock=some b):=by
 have hpf:p<fs.length:=(by rw[h.len];exact hp);have hset:∀ i,(fs.set p v')[i]?=if i=p then some v' else fs[i]?:=fun i=>by
   rw[List.getElem?_set]
   by_cases e:p=i
   . subst e;simp[hpf]
   . have e':¬ i=p:=fun x=>e x.symm
     simp[e,e']
 have hls:∀ i,(linkAt ls p ys)[i]?=if i=p then some (ls.getD p []++ys) else ls[i]?:=fun i=>by
   rw[linkAt,List.getElem?_set]
   by_cases e:p=i
   . subst e;simp[hp]
   . have e':¬ i=p:=fun x=>e x.symm
     simp[e,e']
 refine⟨by simp[linkAt,h.len],fun i v l h1 h2=>?_,fun i v b h1 h2=>?_,fun i j v v'' b h1 h2 h3 h4=>?_⟩
 . rw[hset] at h1;rw[hls] at h2
   by_cases e:i=p
   . rw[if_pos e] at h1 h2;injection h1 with h1
     injection h2 with h2
     subst h1 h2;exact hv
   . rw[if_neg e] at h1 h2;refine (h.get i v l h1 h2).block fun b hb hlt=>hg.block b hlt fun e'=>e ?_
     exact h.apart i p v vp b h1 hvp hb e'.symm
 . rw[hset] at h1
   by_cases e:i=p
   . rw[if_pos e] at h1;injection h1 with h1
     subst h1;exact .inr h2
   . rw[if_neg e] at h1;exact .inl (h.inQ i v b h1 h2)
 . rw[hset] at h1 h2;have key:∀ k v0,k≠p->fs[k]?=some v0->v0.ownBlock=some b->v'.ownBlock=some b->False:=by
     intro k v0 hk hv0 hb0 hb';rcases hor with e|e
     . exact hk (h.apart k p v0 vp b hv0 hvp hb0 (e.symm.trans hb'))
     . have:=hQ b (h.inQ k v0 b hv0 hb0);rw[e] at hb';injection hb' with hb'
       omega
   by_cases e:i=p
   . by_cases e2:j=p
     . rw[e,e2]
     . rw[if_pos e] at h1;rw[if_neg e2] at h2;injection h1 with h1
       subst h1;exact (key j v'' e2 h2 h4 h3).elim
   . rw[if_neg e] at h1
     by_cases e2:j=p
     . rw[if_pos e2] at h2;injection h2 with h2
       subst h2;exact (key i v e h1 h3 h4).elim
     . rw[if_neg e2] at h2;exact h.apart i j v v'' b h1 h2 h3 h4
end
end
section
open Go
def restT (k:T):Nat->T
 | 0 => .mk 2 noneP 0 0 []
 | d+1 => .mk 5 noneP 0 0 [.mk 2 noneP 0 0 [k,restT k d]]
mutual
def flatT:T->T
 | .mk op p lo hi l=>if op=4 then .mk 2 noneP 0 0 (List.replicate lo.toNat (flatHead l)++[restT (flatHead l) (hi-lo).toNat]) else .mk op p 0 0 (flatL l)
def flatL:List T->List T
 | []=>[]
 | t::ts=>flatT t::flatL ts
def flatHead:List T->T
 | [] => .mk 0 noneP 0 0 []
 | t::_=>flatT t
end
mutual
def emptyT:T->Bool
 | .mk op p lo hi l=>if op=1∨op=5 then decide (op=5) else if op=2 then allE l else anyE l
def allE:List T->Bool
 | []=>true
 | t::ts=>emptyT t&&allE ts
def anyE:List T->Bool
 | []=>false
 | t::ts=>emptyT t||anyE ts
end
mutual
def plT:T->Nat
 | .mk op p lo hi l=>(if op=1 then 1 else 0)+plTL l
def plTL:List T->Nat
 | []=>0
 | t::ts=>plT t+plTL ts
end
mutual
def fstT:T->Nat->List Nat
 | .mk op p lo hi l=>fun at_=>if op=1 then [at_] else if op=2 then catF l at_ else altF l at_
def catF:List T->Nat->List Nat
 | []=>fun _=>[]
 | t::ts=>fun at_=>fstT t at_++(if emptyT t then catF ts (at_+plT t) else [])
def altF:List T->Nat->List Nat
 | []=>fun _=>[]
 | t::ts=>fun at_=>fstT t at_++altF ts (at_+plT t)
end
mutual
def lstT:T->Nat->List Nat
 | .mk op p lo hi l=>fun at_=>if op=1 then [at_] else if op=2 then catB l at_ else altB l at_
def catB:List T->Nat->List Nat
 | []=>fun _=>[]
 | t::ts=>fun at_=>catB ts (at_+plT t)++(if allE ts then lstT t at_ else [])
def altB:List T->Nat->List Nat
 | []=>fun _=>[]
 | t::ts=>fun at_=>altB ts (at_+plT t)++lstT t at_
end
mutual
def folT:T->Nat->Nat->Nat->Prop
 | .mk op p lo hi l=>fun at_ q r=>op≠1∧if op=2 then catFol l at_ q r else altFol l at_ q r
def catFol:List T->Nat->Nat->Nat->Prop
 | []=>fun _ _ _=>False
 | t::ts=>fun at_ q r=>folT t at_ q r∨catFol ts (at_+plT t) q r∨(q∈lstT t at_∧r∈catF ts (at_+plT t))
def altFol:List T->Nat->Nat->Nat->Prop
 | []=>fun _ _ _=>False
 | t::ts=>fun at_ q r=>folT t at_ q r∨altFol ts (at_+plT t) q r
end
mutual
def setT:T->List (Nat->Bool)
 | .mk op p lo hi l=>(if op=1 then [p] else [])++setTL l
def setTL:List T->List (Nat->Bool)
 | []=>[]
 | t::ts=>setT t++setTL ts
end
def Same (f:Lay->Lay×Str) (k:T):Prop:=∀ s,LInv s->
 (f s).1.sets=s.sets++setT k∧(f s).2.empty=emptyT k∧(∀ p,p∈(f s).2.first↔p∈fstT k s.sets.length)∧(∀ p,p∈(f s).2.last↔p∈lstT k s.sets.length)∧
   (∀ q r,fol (f s).1 q r↔fol s q r∨folT k s.sets.length q r)
mutual
theorem zf9:∀ t:T,plT t=(setT t).length
 | .mk op p lo hi l=>by
   simp only[plT,setT,List.length_append,zhu l];split <;> simp
theorem zhu:∀ l:List T,plTL l=(setTL l).length
 | []=>rfl
 | t::ts=>by simp only[plTL,setTL,List.length_append,zf9 t,zhu ts]
end
theorem zkp (x y:Str) (p:Nat):p∈(joinX x y).first↔p∈x.first∨(x.empty=true∧p∈y.first):=by
 unfold joinX;cases x.empty <;> simp
theorem zef (x y:Str) (p:Nat):p∈(joinX x y).last↔p∈y.last∨(y.empty=true∧p∈x.last):=by
 unfold joinX;cases y.empty <;> simp[or_comm]
structure CatSame (s s':Lay) (x x':Str) (l:List T):Prop where
 inv:LInv s'
 sets:s'.sets=s.sets++setTL l
 empty:x'.empty=(x.empty&&allE l)
 first:∀ p,p∈x'.first↔p∈x.first∨(x.empty=true∧p∈catF l s.sets.length)
 last:∀ p,p∈x'.last↔p∈catB l s.sets.length∨(allE l=true∧p∈x.last)
 fols:∀ q r,fol s' q r↔fol s q r∨catFol l s.sets.length q r∨(q∈x.last∧r∈catF l s.sets.length)
theorem CatSame.nil {s:Lay} {x:Str} (h:LInv s):CatSame s s x x []:=
 ⟨h,by simp[setTL],by simp[allE],fun p=>by simp[catF],fun p=>by simp[catB,allE],fun q r=>by simp[catFol,catF]⟩
theorem CatSame.cons {s s':Lay} {x x' y:Str} {s1:Lay} {k:T} {l:List T} (hl:LInv s1) (hx:∀ p∈x.last,p<s1.sets.length)
   (h1:s1.sets=s.sets++setT k) (h2:y.empty=emptyT k) (h3:∀ p,p∈y.first↔p∈fstT k s.sets.length) (h4:∀ p,p∈y.last↔p∈lstT k s.sets.length) (h5:∀ q r,fol s1 q r↔fol s q r∨folT k s.sets.length q r)
   (h:CatSame (joinL s1 x y) s' (joinX x y) x' l):CatSame s s' x x' (k::l):=by
 have hat:(joinL s1 x y).sets.length=s.sets.length+plT k:=by show s1.sets.length=_;rw[h1,List.length_append,zf9]
 have he:(joinX x y).empty=(x.empty&&emptyT k):=(by rw[←h2];rfl);refine⟨h.inv,?_,?_,fun p=>?_,fun p=>?_,fun q r=>?_⟩
 . rw[h.sets]
   show s1.sets++setTL l=_
   rw[h1,setTL,List.append_assoc]
 . rw[h.empty,he,allE,Bool.and_assoc]
 . rw[h.first,zkp,h3,he,hat,catF];cases x.empty <;> cases emptyT k <;> simp[or_assoc]
 . rw[h.last,zef,h4,h2,hat,catB,allE];cases allE l <;> cases emptyT k <;> simp[or_assoc]
 . rw[h.fols,zfr hl hx,h5,zef,h2,h3,h4,hat,catFol,catF];cases emptyT k <;> simp[or_assoc,or_left_comm,or_comm,and_or_left,or_and_right]
structure Laid (f:Lay->Lay×Str) (k:T):Prop where
 same:Same f k
 inv:∀ s,LInv s->LInv (f s).1
 le:∀ s,LInv s->s.sets.length<=(f s).1.sets.length
 first:∀ s,LInv s->∀ p∈(f s).2.first,p<(f s).1.sets.length
 last:∀ s,LInv s->∀ p∈(f s).2.last,p<(f s).1.sets.length
theorem zed {f:Lay->Lay×Str} {k:T} {R:Nat->Nat->Prop} (h:Same f k) (hl:Lays [] f R):Laid f k:=
 ⟨h,fun s hs=>(hl s hs).1.inv,fun s hs=>(hl s hs).1.le,fun s hs p hp=>((hl s hs).2.first p hp).2,fun s hs p hp=>((hl s hs).2.last p hp).2⟩
section
variable {f g:Lay->Lay×Str} {k r:T} {s s':Lay} {x x':Str} {l:List T}
theorem Laid.join (h:Laid f k) (hs:LInv s) (hx:∀ p∈x.last,p<s.sets.length):LInv (joinL (f s).1 x (f s).2)∧(∀ p∈(joinX x (f s).2).last,p<(joinL (f s).1 x (f s).2).sets.length)∧∀ p∈x.last,p<(f s).1.sets.length:=by
 have hle:=h.le s hs;have h3:∀ p∈x.last,p<(f s).1.sets.length:=fun p hp=>by have:=hx p hp;omega
 refine⟨(zgz (n:=0) (h.inv s hs) (fun p hp=>⟨Nat.zero_le _,h3 p hp⟩) (h.first s hs)).1,fun p hp=>?_,h3⟩
 show p<(f s).1.sets.length
 rcases (zef _ _ _).1 hp with h' | ⟨_,h'⟩
 . exact h.last s hs p h'
 . exact h3 p h'
theorem Laid.cons (h:Laid f k) (hs:LInv s) (hx:∀ p∈x.last,p<s.sets.length) (hc:CatSame (joinL (f s).1 x (f s).2) s' (joinX x (f s).2) x' l):CatSame s s' x x' (k::l):=by
 obtain⟨h1,h2,h3,h4,h5⟩:=h.same s hs;exact hc.cons (h.inv s hs) (h.join hs hx).2.2 h1 h2 h3 h4 h5
theorem zfw (h:Laid f k) (hg:Laid g r):∀ (m:Nat) (s:Lay) (x:Str),LInv s->(∀ p∈x.last,p<s.sets.length)->
   CatSame s (joinL (g (copies f m s x).1).1 (copies f m s x).2 (g (copies f m s x).1).2) x (joinX (copies f m s x).2 (g (copies f m s x).1).2) (List.replicate m k++[r])
 | 0,s,x,hs,hx=>hg.cons hs hx (CatSame.nil (hg.join hs hx).1)
 | m+1,s,x,hs,hx=>by
   have hj:=h.join hs hx;exact h.cons hs hx (zfw h hg m _ _ hj.1 hj.2.1)
theorem zjk (s:Lay) (y:Str):joinL s .nothing y=s∧joinX .nothing y=y:=by
 constructor
 . rfl
 . unfold joinX Str.nothing;cases y with
   | mk a b e=>cases e <;> simp
theorem zli (p:Nat->Bool) (lo hi:Int) (h:∀ s,LInv s->CatSame s (f s).1 .nothing (f s).2 l):Same f (.mk 2 p lo hi l):=fun s hs=>by
 have hc:=h s hs;refine⟨by rw[hc.sets];simp[setT],by rw[hc.empty];simp[emptyT,Str.nothing],fun q=>?_,fun q=>?_,fun q r=>?_⟩
 . rw[hc.first];simp[fstT,Str.nothing]
 . rw[hc.last];simp[lstT,Str.nothing]
 . rw[hc.fols];simp[folT,Str.nothing]
end
theorem zf5 {u:T} (hwf:WF u) (h:Same (layP u) (flatT u)):∀ d,Same (within (layP u) d) (restT (flatT u) d)
 | 0=>fun s hs=>⟨by simp[within,restT,setT,setTL],by simp[within,restT,emptyT,allE,Str.nothing],fun p=>by simp[within,restT,fstT,catF,Str.nothing],fun p=>by simp[within,restT,lstT,catB,Str.nothing],fun q r=>by simp[within,restT,folT,catFol]⟩
 | d+1=>fun s hs=>by
   have hf:=zed h (zdc (xs:=[]) hwf);have hw:=zed (zf5 hwf h d) (zcg (xs:=[]) (zdc hwf) d);have hj:=hf.join (x := .nothing) hs (fun p hp=>by simp[Str.nothing] at hp);obtain⟨e1,e2⟩:=zjk (layP u s).1 (layP u s).2;rw[e1,e2] at hj;have hc:CatSame s (joinL (within (layP u) d (layP u s).1).1 (layP u s).2 (within (layP u) d (layP u s).1).2) .nothing (joinX (layP u s).2 (within (layP u) d (layP u s).1).2) [flatT u,restT (flatT u) d]:=by
     refine hf.cons hs (fun p hp=>by simp[Str.nothing] at hp) ?_;rw[e1,e2];exact hw.cons hj.1 hj.2.1 (CatSame.nil (hw.join hj.1 hj.2.1).1)
   refine⟨?_,?_,fun p=>?_,fun p=>?_,fun q r=>?_⟩
   . show (joinL (within (layP u) d (layP u s).1).1 (layP u s).2 (within (layP u) d (layP u s).1).2).sets=_
     rw[hc.sets];simp[restT,setT,setTL]
   . show true=_
     simp[restT,emptyT]
   . show p∈(joinX (layP u s).2 (within (layP u) d (layP u s).1).2).first↔_
     rw[hc.first];simp[restT,fstT,altF,Str.nothing]
   . show p∈(joinX (layP u s).2 (within (layP u) d (layP u s).1).2).last↔_
     rw[hc.last];simp[restT,lstT,altB,Str.nothing]
   . show fol (joinL (within (layP u) d (layP u s).1).1 (layP u s).2 (within (layP u) d (layP u s).1).2) q r↔_
     rw[hc.fols];simp[restT,folT,altFol,Str.nothing]
theorem zmt:∀ (l:List T),(∀ t∈l,WF t∧Same (layP t) (flatT t))->∀ (s:Lay) (x:Str),LInv s->(∀ p∈x.last,p<s.sets.length)->CatSame s (catP l s x).1 x (catP l s x).2 (flatL l)
 | [],_,s,x,hs,_=>by simp only[catP,flatL];exact CatSame.nil hs
 | t::ts,h,s,x,hs,hx=>by
   have hf:=zed (h t (by simp)).2 (zdc (xs:=[]) (h t (by simp)).1);have hj:=hf.join hs hx;simp only[catP,flatL];exact hf.cons hs hx (zmt ts (fun u hu=>h u (by simp[hu])) _ _ hj.1 hj.2.1)
theorem zn1:∀ (l:List T),(∀ t∈l,WF t∧Same (layP t) (flatT t))->∀ (s:Lay) (x:Str),LInv s->
   LInv (altP l s x).1∧(altP l s x).1.sets=s.sets++setTL (flatL l)∧(altP l s x).2.empty=(x.empty||anyE (flatL l))∧(∀ p,p∈(altP l s x).2.first↔p∈x.first∨p∈altF (flatL l) s.sets.length)∧
     (∀ p,p∈(altP l s x).2.last↔p∈x.last∨p∈altB (flatL l) s.sets.length)∧∀ q r,fol (altP l s x).1 q r↔fol s q r∨altFol (flatL l) s.sets.length q r
 | [],_,s,x,hs=>by simp[altP,flatL,setTL,anyE,altF,altB,altFol,hs]
 | t::ts,h,s,x,hs=>by
   have hf:=zed (h t (by simp)).2 (zdc (xs:=[]) (h t (by simp)).1);obtain⟨h1,h2,h3,h4,h5⟩:=hf.same s hs;obtain⟨i1,i2,i3,i4,i5,i6⟩:=zn1 ts (fun u hu=>h u (by simp[hu])) (layP t s).1 (altX x (layP t s).2) (hf.inv s hs);have hat:(layP t s).1.sets.length=s.sets.length+plT (flatT t):=(by rw[h1,List.length_append,zf9]);simp only[altP,flatL];refine⟨i1,?_,?_,fun p=>?_,fun p=>?_,fun q r=>?_⟩
   . rw[i2,h1,setTL,List.append_assoc]
   . rw[i3,anyE,←h2]
     show ((x.empty||(layP t s).2.empty)||_)=_
     rw[Bool.or_assoc]
   . rw[i4,hat,altF,List.mem_append,←h3]
     show p∈x.first++(layP t s).2.first∨_↔_
     rw[List.mem_append,or_assoc]
   . rw[i5,hat,altB,List.mem_append,←h4]
     show p∈x.last++(layP t s).2.last∨_↔_
     rw[List.mem_append,or_assoc,or_comm (a:=p∈(layP t s).2.last)]
   . rw[i6,h5,hat,altFol,or_assoc]
theorem zrh {t:T} (hwf:WF t):Same (layP t) (flatT t):=by
 induction hwf with
 | one p =>
   intro s hs;have e:flatT (.mk 1 p 0 0 []) = .mk 1 p 0 0 []:=(by simp[flatT,flatL]);have e2:layP (.mk 1 p 0 0 []) s=(oneL s p,oneX s):=(by simp[layP]);rw[e,e2];refine⟨by simp[oneL,setT,setTL],by simp[oneX,emptyT],fun q=>by simp[oneX,fstT],fun q=>by simp[oneX,lstT],fun q r=>?_⟩;simp only[folT];simp only[ne_eq,not_true_eq_false,false_and,or_false];unfold fol oneL;simp only[List.getD_eq_getElem?_getD];rcases Nat.lt_or_ge q s.follow.length with hq|hq
   . rw[List.getElem?_append_left hq]
   . rw[List.getElem?_append_right hq,List.getElem?_eq_none hq];rcases Nat.eq_zero_or_pos (q-s.follow.length) with e|e
     . rw[e];simp
     . rw[List.getElem?_eq_none (by simp;omega)]
 | cat l h2 hN h ih =>
   have e:flatT (.mk 2 noneP 0 0 l) = .mk 2 noneP 0 0 (flatL l):=(by simp[flatT]);rw[e];refine zli _ _ _ fun s hs=>?_
   have e2:layP (.mk 2 noneP 0 0 l) s=catP l s .nothing:=(by simp[layP]);rw[e2];exact zmt l (fun t ht=>⟨h t ht,ih t ht⟩) s .nothing hs (fun p hp=>by simp[Str.nothing] at hp)
 | alt l h2 hN h ih =>
   intro s hs;have e:flatT (.mk 3 noneP 0 0 l) = .mk 3 noneP 0 0 (flatL l):=(by simp[flatT]);have e2:layP (.mk 3 noneP 0 0 l) s=altP l s .void:=(by simp[layP]);obtain⟨i1,i2,i3,i4,i5,i6⟩:=zn1 l (fun t ht=>⟨h t ht,ih t ht⟩) s .void hs;rw[e,e2];refine⟨by rw[i2];simp[setT],by rw[i3];simp[emptyT,Str.void],fun p=>by rw[i4];simp[fstT,Str.void],fun p=>by rw[i5];simp[lstT,Str.void],fun q r=>by rw[i6];simp[folT]⟩
 | rep m n u h0 h1 h2 h3 hu ih =>
   have e:flatT (.mk 4 noneP m n [u]) = .mk 2 noneP 0 0 (List.replicate m.toNat (flatT u)++[restT (flatT u) (n-m).toNat]):=(by simp[flatT,flatHead]);rw[e];refine zli _ _ _ fun s hs=>?_
   have hh:headP [u]=layP u:=(by funext s;simp[headP]);have e2:layP (.mk 4 noneP m n [u]) s=repX (layP u) m.toNat (n-m).toNat s:=(by simp[layP,hh]);rw[e2];exact zfw (zed ih (zdc (xs:=[]) hu)) (zed (zf5 hu ih _) (zcg (xs:=[]) (zdc hu) _)) m.toNat s .nothing hs (fun p hp=>by simp[Str.nothing] at hp)
end
section
open Go
theorem zfa:∀ (l:List T),(∀ t∈l,plN t=min (plR t) 1000)->min (plSum l) 1000=min (plRL l) 1000
 | [],_=>rfl
 | t::ts,h=>by
   have h1:=h t (by simp);have h2:=zfa ts fun u hu=>h u (by simp[hu])
   simp only[plSum,plRL];omega
theorem zpp {t:T} (hwf:WF t):plN t=min (plR t) 1000:=by
 induction hwf with
 | one p=>simp[plN,plR,plSum]
 | cat l h2 hN h ih =>
   have:=zfa l ih;simp only[plN,plR]
   simpa using this
 | alt l h2 hN h ih =>
   have:=zfa l ih;simp only[plN,plR]
   simpa using this
 | rep m n u h0 h1 h2 h3 hu ih =>
   have e1:plN (.mk 4 noneP m n [u])=min (plN u*n.toNat) 1000:=(by simp[plN,plSum]);have e2:plR (.mk 4 noneP m n [u])=n.toNat*plR u:=(by simp[plR,plRL]);rw[e1,e2,ih];have hn:1<=n.toNat:=(by omega);rcases Nat.le_total (plR u) 1000 with h|h
   . rw[Nat.min_eq_left h,Nat.mul_comm]
   . rw[Nat.min_eq_right h];have a1:1000<=1000*n.toNat:=Nat.le_mul_of_pos_right _ hn;have a2:plR u<=n.toNat*plR u:=Nat.le_mul_of_pos_left _ hn;omega
end
end Go.Proofs.YtgbdanddbgomhaaDoor
