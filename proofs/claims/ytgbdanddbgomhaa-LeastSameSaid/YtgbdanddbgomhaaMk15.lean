import Derived.Test.YtgbdanddbgomhaaMk13
set_option linter.unusedVariables false
set_option linter.unusedSimpArgs false
namespace Go.Proofs.Ytgbdanddbgomhaa
open Go
section
def restT (k:T):Nat->T
 | 0 => .mk 2 noneP 0 0 []
 | d+1 => .mk 5 noneP 0 0 [.mk 2 noneP 0 0 [k,restT k d]]
mutual
def flatT:T->T
 | .mk op p lo hi l=>if op=4 then .mk 2 noneP 0 0 (List.replicate lo.toNat (flatHead l)++[restT (flatHead l) (hi-lo).toNat]) else .mk op p 0 0 (flatL l)
def flatL:List T->List T
 | []=>[]
 | t::ts=>flatT t::flatL ts
def flatHead:List T->T
 | [] => .mk 0 noneP 0 0 []
 | t::_=>flatT t
end
mutual
def emptyT:T->Bool
 | .mk op p lo hi l=>if op=1∨op=5 then decide (op=5) else if op=2 then allE l else anyE l
def allE:List T->Bool
 | []=>true
 | t::ts=>emptyT t&&allE ts
def anyE:List T->Bool
 | []=>false
 | t::ts=>emptyT t||anyE ts
end
mutual
def plT:T->Nat
 | .mk op p lo hi l=>(if op=1 then 1 else 0)+plTL l
def plTL:List T->Nat
 | []=>0
 | t::ts=>plT t+plTL ts
end
mutual
def fstT:T->Nat->List Nat
 | .mk op p lo hi l=>fun at_=>if op=1 then [at_] else if op=2 then catF l at_ else altF l at_
def catF:List T->Nat->List Nat
 | []=>fun _=>[]
 | t::ts=>fun at_=>fstT t at_++(if emptyT t then catF ts (at_+plT t) else [])
def altF:List T->Nat->List Nat
 | []=>fun _=>[]
 | t::ts=>fun at_=>fstT t at_++altF ts (at_+plT t)
end
mutual
def lstT:T->Nat->List Nat
 | .mk op p lo hi l=>fun at_=>if op=1 then [at_] else if op=2 then catB l at_ else altB l at_
def catB:List T->Nat->List Nat
 | []=>fun _=>[]
 | t::ts=>fun at_=>catB ts (at_+plT t)++(if allE ts then lstT t at_ else [])
def altB:List T->Nat->List Nat
 | []=>fun _=>[]
 | t::ts=>fun at_=>altB ts (at_+plT t)++lstT t at_
end
mutual
def folT:T->Nat->Nat->Nat->Prop
 | .mk op p lo hi l=>fun at_ q r=>op≠1∧if op=2 then catFol l at_ q r else altFol l at_ q r
def catFol:List T->Nat->Nat->Nat->Prop
 | []=>fun _ _ _=>False
 | t::ts=>fun at_ q r=>folT t at_ q r∨catFol ts (at_+plT t) q r∨(q∈lstT t at_∧r∈catF ts (at_+plT t))
def altFol:List T->Nat->Nat->Nat->Prop
 | []=>fun _ _ _=>False
 | t::ts=>fun at_ q r=>folT t at_ q r∨altFol ts (at_+plT t) q r
end
mutual
def setT:T->List (Nat->Bool)
 | .mk op p lo hi l=>(if op=1 then [p] else [])++setTL l
def setTL:List T->List (Nat->Bool)
 | []=>[]
 | t::ts=>setT t++setTL ts
end
def Same (f:Lay->Lay×Str) (k:T):Prop:=∀ s,LInv s->
 (f s).1.sets=s.sets++setT k∧(f s).2.empty=emptyT k∧(∀ p,p∈(f s).2.first↔p∈fstT k s.sets.length)∧(∀ p,p∈(f s).2.last↔p∈lstT k s.sets.length)∧
   (∀ q r,fol (f s).1 q r↔fol s q r∨folT k s.sets.length q r)
mutual
theorem zgb:∀ t:T,plT t=(setT t).length
 | .mk op p lo hi l=>by
   simp only[plT,setT,List.length_append,zj3 l];split <;> simp
theorem zj3:∀ l:List T,plTL l=(setTL l).length
 | []=>rfl
 | t::ts=>by simp only[plTL,setTL,List.length_append,zgb t,zj3 ts]
end
theorem zm3 (x y:Str) (p:Nat):p∈(joinX x y).first↔p∈x.first∨(x.empty=true∧p∈y.first):=by
 unfold joinX;cases x.empty <;> simp
theorem zfj (x y:Str) (p:Nat):p∈(joinX x y).last↔p∈y.last∨(y.empty=true∧p∈x.last):=by
 unfold joinX;cases y.empty <;> simp[or_comm]
structure CatSame (s s':Lay) (x x':Str) (l:List T):Prop where
 inv:LInv s'
 sets:s'.sets=s.sets++setTL l
 empty:x'.empty=(x.empty&&allE l)
 first:∀ p,p∈x'.first↔p∈x.first∨(x.empty=true∧p∈catF l s.sets.length)
 last:∀ p,p∈x'.last↔p∈catB l s.sets.length∨(allE l=true∧p∈x.last)
 fols:∀ q r,fol s' q r↔fol s q r∨catFol l s.sets.length q r∨(q∈x.last∧r∈catF l s.sets.length)
theorem CatSame.nil {s:Lay} {x:Str} (h:LInv s):CatSame s s x x []:=
 ⟨h,by simp[setTL],by simp[allE],fun p=>by simp[catF],fun p=>by simp[catB,allE],fun q r=>by simp[catFol,catF]⟩
theorem CatSame.cons {s s':Lay} {x x' y:Str} {s1:Lay} {k:T} {l:List T} (hl:LInv s1) (hx:∀ p∈x.last,p<s1.sets.length)
   (h1:s1.sets=s.sets++setT k) (h2:y.empty=emptyT k) (h3:∀ p,p∈y.first↔p∈fstT k s.sets.length) (h4:∀ p,p∈y.last↔p∈lstT k s.sets.length) (h5:∀ q r,fol s1 q r↔fol s q r∨folT k s.sets.length q r)
   (h:CatSame (joinL s1 x y) s' (joinX x y) x' l):CatSame s s' x x' (k::l):=by
 have hat:(joinL s1 x y).sets.length=s.sets.length+plT k:=by show s1.sets.length=_;rw[h1,List.length_append,zgb]
 have he:(joinX x y).empty=(x.empty&&emptyT k):=(by rw[←h2];rfl);refine⟨h.inv,?_,?_,fun p=>?_,fun p=>?_,fun q r=>?_⟩
 . rw[h.sets]
   show s1.sets++setTL l=_
   rw[h1,setTL,List.append_assoc]
 . rw[h.empty,he,allE,Bool.and_assoc]
 . rw[h.first,zm3,h3,he,hat,catF];cases x.empty <;> cases emptyT k <;> simp[or_assoc]
 . rw[h.last,zfj,h4,h2,hat,catB,allE];cases allE l <;> cases emptyT k <;> simp[or_assoc]
 . rw[h.fols,zgv hl hx,h5,zfj,h2,h3,h4,hat,catFol,catF];cases emptyT k <;> simp[or_assoc,or_left_comm,or_comm,and_or_left,or_and_right]
structure Laid (f:Lay->Lay×Str) (k:T):Prop where
 same:Same f k
 inv:∀ s,LInv s->LInv (f s).1
 le:∀ s,LInv s->s.sets.length<=(f s).1.sets.length
 first:∀ s,LInv s->∀ p∈(f s).2.first,p<(f s).1.sets.length
 last:∀ s,LInv s->∀ p∈(f s).2.last,p<(f s).1.sets.length
theorem zfh {f:Lay->Lay×Str} {k:T} {R:Nat->Nat->Prop} (h:Same f k) (hl:Lays [] f R):Laid f k:=
 ⟨h,fun s hs=>(hl s hs).1.inv,fun s hs=>(hl s hs).1.le,fun s hs p hp=>((hl s hs).2.first p hp).2,fun s hs p hp=>((hl s hs).2.last p hp).2⟩
section
variable {f g:Lay->Lay×Str} {k r:T} {s s':Lay} {x x':Str} {l:List T}
theorem Laid.join (h:Laid f k) (hs:LInv s) (hx:∀ p∈x.last,p<s.sets.length):LInv (joinL (f s).1 x (f s).2)∧(∀ p∈(joinX x (f s).2).last,p<(joinL (f s).1 x (f s).2).sets.length)∧∀ p∈x.last,p<(f s).1.sets.length:=by
 have hle:=h.le s hs;have h3:∀ p∈x.last,p<(f s).1.sets.length:=fun p hp=>by have:=hx p hp;omega
 refine⟨(zi6 (n:=0) (h.inv s hs) (fun p hp=>⟨Nat.zero_le _,h3 p hp⟩) (h.first s hs)).1,fun p hp=>?_,h3⟩
 show p<(f s).1.sets.length
 rcases (zfj _ _ _).1 hp with h' | ⟨_,h'⟩
 . exact h.last s hs p h'
 . exact h3 p h'
theorem Laid.cons (h:Laid f k) (hs:LInv s) (hx:∀ p∈x.last,p<s.sets.length) (hc:CatSame (joinL (f s).1 x (f s).2) s' (joinX x (f s).2) x' l):CatSame s s' x x' (k::l):=by
 obtain⟨h1,h2,h3,h4,h5⟩:=h.same s hs;exact hc.cons (h.inv s hs) (h.join hs hx).2.2 h1 h2 h3 h4 h5
theorem zh4 (h:Laid f k) (hg:Laid g r):∀ (m:Nat) (s:Lay) (x:Str),LInv s->(∀ p∈x.last,p<s.sets.length)->
   CatSame s (joinL (g (copies f m s x).1).1 (copies f m s x).2 (g (copies f m s x).1).2) x (joinX (copies f m s x).2 (g (copies f m s x).1).2) (List.replicate m k++[r])
 | 0,s,x,hs,hx=>hg.cons hs hx (CatSame.nil (hg.join hs hx).1)
 | m+1,s,x,hs,hx=>by
   have hj:=h.join hs hx;exact h.cons hs hx (zh4 h hg m _ _ hj.1 hj.2.1)
theorem zkw (s:Lay) (y:Str):joinL s .nothing y=s∧joinX .nothing y=y:=by
 constructor
 . rfl
 . unfold joinX Str.nothing;cases y with
   | mk a b e=>cases e <;> simp
theorem zmw (p:Nat->Bool) (lo hi:Int) (h:∀ s,LInv s->CatSame s (f s).1 .nothing (f s).2 l):Same f (.mk 2 p lo hi l):=fun s hs=>by
 have hc:=h s hs;refine⟨by rw[hc.sets];simp[setT],by rw[hc.empty];simp[emptyT,Str.nothing],fun q=>?_,fun q=>?_,fun q r=>?_⟩
 . rw[hc.first];simp[fstT,Str.nothing]
 . rw[hc.last];simp[lstT,Str.nothing]
 . rw[hc.fols];simp[folT,Str.nothing]
end
theorem zg7 {u:T} (hwf:WF u) (h:Same (layP u) (flatT u)):∀ d,Same (within (layP u) d) (restT (flatT u) d)
 | 0=>fun s hs=>⟨by simp[within,restT,setT,setTL],by simp[within,restT,emptyT,allE,Str.nothing],fun p=>by simp[within,restT,fstT,catF,Str.nothing],fun p=>by simp[within,restT,lstT,catB,Str.nothing],fun q r=>by simp[within,restT,folT,catFol]⟩
 | d+1=>fun s hs=>by
   have hf:=zfh h (ze5 (xs:=[]) hwf);have hw:=zfh (zg7 hwf h d) (zd4 (xs:=[]) (ze5 hwf) d);have hj:=hf.join (x := .nothing) hs (fun p hp=>by simp[Str.nothing] at hp);obtain⟨e1,e2⟩:=zkw (layP u s).1 (layP u s).2;rw[e1,e2] at hj;have hc:CatSame s (joinL (within (layP u) d (layP u s).1).1 (layP u s).2 (within (layP u) d (layP u s).1).2) .nothing (joinX (layP u s).2 (within (layP u) d (layP u s).1).2) [flatT u,restT (flatT u) d]:=by
     refine hf.cons hs (fun p hp=>by simp[Str.nothing] at hp) ?_;rw[e1,e2];exact hw.cons hj.1 hj.2.1 (CatSame.nil (hw.join hj.1 hj.2.1).1)
   refine⟨?_,?_,fun p=>?_,fun p=>?_,fun q r=>?_⟩
   . show (joinL (within (layP u) d (layP u s).1).1 (layP u s).2 (within (layP u) d (layP u s).1).2).sets=_
     rw[hc.sets];simp[restT,setT,setTL]
   . show true=_
     simp[restT,emptyT]
   . show p∈(joinX (layP u s).2 (within (layP u) d (layP u s).1).2).first↔_
     rw[hc.first];simp[restT,fstT,altF,Str.nothing]
   . show p∈(joinX (layP u s).2 (within (layP u) d (layP u s).1).2).last↔_
     rw[hc.last];simp[restT,lstT,altB,Str.nothing]
   . show fol (joinL (within (layP u) d (layP u s).1).1 (layP u s).2 (within (layP u) d (layP u s).1).2) q r↔_
     rw[hc.fols];simp[restT,folT,altFol,Str.nothing]
theorem zo3:∀ (l:List T),(∀ t∈l,WF t∧Same (layP t) (flatT t))->∀ (s:Lay) (x:Str),LInv s->(∀ p∈x.last,p<s.sets.length)->CatSame s (catP l s x).1 x (catP l s x).2 (flatL l)
 | [],_,s,x,hs,_=>by simp only[catP,flatL];exact CatSame.nil hs
 | t::ts,h,s,x,hs,hx=>by
   have hf:=zfh (h t (by simp)).2 (ze5 (xs:=[]) (h t (by simp)).1);have hj:=hf.join hs hx;simp only[catP,flatL];exact hf.cons hs hx (zo3 ts (fun u hu=>h u (by simp[hu])) _ _ hj.1 hj.2.1)
theorem zod:∀ (l:List T),(∀ t∈l,WF t∧Same (layP t) (flatT t))->∀ (s:Lay) (x:Str),LInv s->
   LInv (altP l s x).1∧(altP l s x).1.sets=s.sets++setTL (flatL l)∧(altP l s x).2.empty=(x.empty||anyE (flatL l))∧(∀ p,p∈(altP l s x).2.first↔p∈x.first∨p∈altF (flatL l) s.sets.length)∧
     (∀ p,p∈(altP l s x).2.last↔p∈x.last∨p∈altB (flatL l) s.sets.length)∧∀ q r,fol (altP l s x).1 q r↔fol s q r∨altFol (flatL l) s.sets.length q r
 | [],_,s,x,hs=>by simp[altP,flatL,setTL,anyE,altF,altB,altFol,hs]
 | t::ts,h,s,x,hs=>by
   have hf:=zfh (h t (by simp)).2 (ze5 (xs:=[]) (h t (by simp)).1);obtain⟨h1,h2,h3,h4,h5⟩:=hf.same s hs;obtain⟨i1,i2,i3,i4,i5,i6⟩:=zod ts (fun u hu=>h u (by simp[hu])) (layP t s).1 (altX x (layP t s).2) (hf.inv s hs);have hat:(layP t s).1.sets.length=s.sets.length+plT (flatT t):=(by rw[h1,List.length_append,zgb]);simp only[altP,flatL];refine⟨i1,?_,?_,fun p=>?_,fun p=>?_,fun q r=>?_⟩
   . rw[i2,h1,setTL,List.append_assoc]
   . rw[i3,anyE,←h2]
     show ((x.empty||(layP t s).2.empty)||_)=_
     rw[Bool.or_assoc]
   . rw[i4,hat,altF,List.mem_append,←h3]
     show p∈x.first++(layP t s).2.first∨_↔_
     rw[List.mem_append,or_assoc]
   . rw[i5,hat,altB,List.mem_append,←h4]
     show p∈x.last++(layP t s).2.last∨_↔_
     rw[List.mem_append,or_assoc,or_comm (a:=p∈(layP t s).2.last)]
   . rw[i6,h5,hat,altFol,or_assoc]
theorem zt3 {t:T} (hwf:WF t):Same (layP t) (flatT t):=by
 induction hwf with
 | one p =>
   intro s hs;have e:flatT (.mk 1 p 0 0 []) = .mk 1 p 0 0 []:=(by simp[flatT,flatL]);have e2:layP (.mk 1 p 0 0 []) s=(oneL s p,oneX s):=(by simp[layP]);rw[e,e2];refine⟨by simp[oneL,setT,setTL],by simp[oneX,emptyT],fun q=>by simp[oneX,fstT],fun q=>by simp[oneX,lstT],fun q r=>?_⟩;simp only[folT];simp only[ne_eq,not_true_eq_false,false_and,or_false];unfold fol oneL;simp only[List.getD_eq_getElem?_getD];rcases Nat.lt_or_ge q s.follow.length with hq|hq
   . rw[List.getElem?_append_left hq]
   . rw[List.getElem?_append_right hq,List.getElem?_eq_none hq];rcases Nat.eq_zero_or_pos (q-s.follow.length) with e|e
     . rw[e];simp
     . rw[List.getElem?_eq_none (by simp;omega)]
 | cat l h2 hN h ih =>
   have e:flatT (.mk 2 noneP 0 0 l) = .mk 2 noneP 0 0 (flatL l):=(by simp[flatT]);rw[e];refine zmw _ _ _ fun s hs=>?_
   have e2:layP (.mk 2 noneP 0 0 l) s=catP l s .nothing:=(by simp[layP]);rw[e2];exact zo3 l (fun t ht=>⟨h t ht,ih t ht⟩) s .nothing hs (fun p hp=>by simp[Str.nothing] at hp)
 | alt l h2 hN h ih =>
   intro s hs;have e:flatT (.mk 3 noneP 0 0 l) = .mk 3 noneP 0 0 (flatL l):=(by simp[flatT]);have e2:layP (.mk 3 noneP 0 0 l) s=altP l s .void:=(by simp[layP]);obtain⟨i1,i2,i3,i4,i5,i6⟩:=zod l (fun t ht=>⟨h t ht,ih t ht⟩) s .void hs;rw[e,e2];refine⟨by rw[i2];simp[setT],by rw[i3];simp[emptyT,Str.void],fun p=>by rw[i4];simp[fstT,Str.void],fun p=>by rw[i5];simp[lstT,Str.void],fun q r=>by rw[i6];simp[folT]⟩
 | rep m n u h0 h1 h2 h3 hu ih =>
   have e:flatT (.mk 4 noneP m n [u]) = .mk 2 noneP 0 0 (List.replicate m.toNat (flatT u)++[restT (flatT u) (n-m).toNat]):=(by simp[flatT,flatHead]);rw[e];refine zmw _ _ _ fun s hs=>?_
   have hh:headP [u]=layP u:=(by funext s;simp[headP]);have e2:layP (.mk 4 noneP m n [u]) s=repX (layP u) m.toNat (n-m).toNat s:=(by simp[layP,hh]);rw[e2];exact zh4 (zfh ih (ze5 (xs:=[]) hu)) (zfh (zg7 hu ih _) (zd4 (xs:=[]) (ze5 hu) _)) m.toNat s .nothing hs (fun p hp=>by simp[Str.nothing] at hp)
end
theorem zfu:∀ (l m:List T),plTL (l++m)=plTL l+plTL m
 | [],m=>by simp[plTL]
 | t::l,m=>by simp only[List.cons_append,plTL];rw[zfu l m];omega
theorem zcp (l:List T) (j:Nat) (h:j<l.length):plTL (l.take (j+1))=plTL (l.take j)+plT (l[j]'h):=by
 rw[List.take_succ_eq_append_getElem h,zfu];simp[plTL]
theorem zf6 (l:List T) (k:Nat):plTL (l.take k)<=plTL l:=by
 have h:=List.take_append_drop k l;have:=zfu (l.take k) (l.drop k);rw[h] at this;omega
theorem zoe:∀ (l m:List T) (a:Nat),altF (l++m) a=altF l a++altF m (a+plTL l)
 | [],m,a=>by simp[altF,plTL]
 | t::l,m,a=>by
   simp only[List.cons_append,altF,plTL];rw[zoe l m,List.append_assoc,Nat.add_assoc]
theorem ztu (l:List T) (j:Nat) (h:j<l.length) (a:Nat):altF (l.take (j+1)) a=altF (l.take j) a++fstT (l[j]'h) (a+plTL (l.take j)):=by
 rw[List.take_succ_eq_append_getElem h,zoe];simp[altF]
theorem zo5:∀ (l:List T) (a:Nat),allE l=true->catF l a=altF l a
 | [],a,_=>by simp[catF,altF]
 | t::l,a,h=>by
   simp only[allE,Bool.and_eq_true] at h;simp only[catF,altF];rw[if_pos h.1,zo5 l _ h.2]
theorem zl7:∀ (l:List T) (j:Nat) (h:j<l.length) (a:Nat),allE (l.take j)=true->emptyT (l[j]'h)=false->catF l a=altF (l.take (j+1)) a
 | [],j,h,a,_,_=>by simp at h
 | t::l,0,h,a,_,he=>by
   simp only[List.getElem_cons_zero] at he;simp[catF,altF,he]
 | t::l,j+1,h,a,ha,he=>by
   simp only[List.take_succ_cons,allE,Bool.and_eq_true] at ha;simp only[List.getElem_cons_succ] at he;rw[List.take_succ_cons];simp only[catF,altF];rw[if_pos ha.1,zl7 l j (by simpa using h) _ ha.2 he]
theorem zjm:∀ (l:List T) (a:Nat),allE l=true->catB l a=altB l a
 | [],a,_=>by simp[catB,altB]
 | t::l,a,h=>by
   simp only[allE,Bool.and_eq_true] at h;simp only[catB,altB];rw[if_pos h.2,zjm l _ h.2]
theorem zq1 (l:List T) (i:Nat) (h:i<l.length) (he:emptyT (l[i]'h)=false):allE l=false:=by
 induction l generalizing i with
 | nil=>simp at h
 | cons t l ih =>
   cases i with
   | zero=>simp only[List.getElem_cons_zero] at he;simp[allE,he]
   | succ i=>simp only[List.getElem_cons_succ] at he;simp[allE,ih i (by simpa using h) he]
theorem zl8:∀ (l:List T) (i:Nat) (h:i<l.length) (a:Nat),allE (l.drop (i+1))=true->emptyT (l[i]'h)=false->catB l a=altB (l.drop i) (a+plTL (l.take i))
 | [],i,h,a,_,_=>by simp at h
 | t::l,0,h,a,ha,he=>by
   simp only[List.drop_succ_cons,List.drop_zero] at ha;simp only[catB,List.drop_zero,altB,List.take_zero,plTL,Nat.add_zero];rw[if_pos ha,zjm l _ ha]
 | t::l,i+1,h,a,ha,he=>by
   simp only[List.getElem_cons_succ] at he;simp only[List.drop_succ_cons] at ha;have hf:=zq1 l i (by simpa using h) he;simp only[catB,List.drop_succ_cons,List.take_succ_cons,plTL];rw[hf,zl8 l i (by simpa using h) _ ha he];simp[Nat.add_assoc]
theorem ztw (l:List T) (i:Nat) (h:i<l.length) (a:Nat):altB (l.drop i) (a+plTL (l.take i))=altB (l.drop (i+1)) (a+plTL (l.take (i+1)))++lstT (l[i]'h) (a+plTL (l.take i)):=by
 rw[List.drop_eq_getElem_cons h,zcp l i h];simp only[altB];rw[Nat.add_assoc]
theorem ztx (l:List T) (i:Nat) (h:i<l.length):allE (l.drop i)=(emptyT (l[i]'h)&&allE (l.drop (i+1))):=by
 rw[List.drop_eq_getElem_cons h];simp only[allE]
mutual
theorem zfl:∀ (t:T) (a:Nat),(fstT t a).length<=plT t
 | .mk op p lo hi l,a=>by
   have h1:=zjp l a;have h2:=zo4 l a;simp only[fstT,plT];split
   . simp
   . split <;> omega
theorem zjp:∀ (l:List T) (a:Nat),(altF l a).length<=plTL l
 | [],a=>by simp[altF]
 | t::ts,a=>by
   have h1:=zfl t a;have h2:=zjp ts (a+plT t);simp only[altF,plTL,List.length_append];omega
theorem zo4:∀ (l:List T) (a:Nat),(catF l a).length<=plTL l
 | [],a=>by simp[catF]
 | t::ts,a=>by
   have h1:=zfl t a;have h2:=zo4 ts (a+plT t);simp only[catF,plTL,List.length_append];split
   . omega
   . simp;omega
end
mutual
theorem zfb:∀ (t:T) (a:Nat),(lstT t a).length<=plT t
 | .mk op p lo hi l,a=>by
   have h1:=zjq l a;have h2:=zo6 l a;simp only[lstT,plT];split
   . simp
   . split <;> omega
theorem zjq:∀ (l:List T) (a:Nat),(altB l a).length<=plTL l
 | [],a=>by simp[altB]
 | t::ts,a=>by
   have h1:=zfb t a;have h2:=zjq ts (a+plT t);simp only[altB,plTL,List.length_append];omega
theorem zo6:∀ (l:List T) (a:Nat),(catB l a).length<=plTL l
 | [],a=>by simp[catB]
 | t::ts,a=>by
   have h1:=zfb t a;have h2:=zo6 ts (a+plT t);simp only[catB,plTL,List.length_append];split
   . omega
   . simp;omega
end
section
open Go Go.RowKit
attribute [local go_sem ↓] Go.wp_at_zero Go.wp_at_succ
inductive FT:T->Prop
 | mk (op:Int) (p:Nat->Bool) (l:List T) (hop:op=1∧l=[]∨op=2∨op=3∨op=5) (hN:l.length<=202) (h:∀ x∈l,FT x):FT (.mk op p 0 0 l)
theorem FT.len {t:T} (h:FT t):t.kids.length<=202:=by cases h with | mk op p l hop hN h=>exact hN
theorem FT.at {t:T} (h:FT t) (j:Nat) (hj:j<t.kids.length):FT (t.kids[j]'hj):=by cases h with | mk op p l hop hN h=>exact h _ (List.getElem_mem hj)
theorem FT.op {t:T} (h:FT t):t.op=1∧t.kids=[]∨t.op=2∨t.op=3∨t.op=5:=by cases h with | mk op p l hop hN h=>exact hop
theorem zt6 (t:T):emptyT t=if t.op=1∨t.op=5 then decide (t.op=5) else if t.op=2 then allE t.kids else anyE t.kids:=by
 cases t;rw[emptyT];rfl
theorem zsv {k:T} (h:FT k):∀ d,FT (restT k d)
 | 0 => .mk 2 noneP [] (.inr (.inl rfl)) (by simp) (fun x hx=>by simp at hx)
 | d+1 => .mk 5 noneP _ (.inr (.inr (.inr rfl))) (by simp) (fun x hx=>by
   simp at hx;subst hx;exact .mk 2 noneP _ (.inr (.inl rfl)) (by simp) (fun y hy=>by
     simp at hy;rcases hy with rfl|rfl
     . exact h
     . exact zsv h d))
theorem zey:∀ l:List T,flatL l=l.map flatT
 | []=>rfl
 | t::ts=>by simp[flatL,zey ts]
theorem zsw {t:T} (hwf:WF t):FT (flatT t):=by
 induction hwf with
 | one p=>simpa [flatT,flatL] using FT.mk 1 p [] (.inl ⟨rfl,rfl⟩) (by simp) (fun x hx=>by simp at hx)
 | cat l h2 hN h ih =>
   have e:flatT (.mk 2 noneP 0 0 l) = .mk 2 noneP 0 0 (l.map flatT):=(by simp[flatT,zey]);rw[e];exact .mk 2 noneP _ (.inr (.inl rfl)) (by simpa using hN) (fun x hx=>by
     simp at hx;obtain⟨y,hy,rfl⟩:=hx;exact ih y hy)
 | alt l h2 hN h ih =>
   have e:flatT (.mk 3 noneP 0 0 l) = .mk 3 noneP 0 0 (l.map flatT):=(by simp[flatT,zey]);rw[e];exact .mk 3 noneP _ (.inr (.inr (.inl rfl))) (by simpa using hN) (fun x hx=>by
     simp at hx;obtain⟨y,hy,rfl⟩:=hx;exact ih y hy)
 | rep m n u h0 h1 h2 h3 hu ih =>
   have e:flatT (.mk 4 noneP m n [u]) = .mk 2 noneP 0 0 (List.replicate m.toNat (flatT u)++[restT (flatT u) (n-m).toNat]):=(by simp[flatT,flatHead]);rw[e];exact .mk 2 noneP _ (.inr (.inl rfl)) (by simp;omega) (fun x hx=>by
     simp at hx;rcases hx with ⟨_,rfl⟩|rfl
     . exact ih
     . exact zsv ih _)
theorem zlh (l:List T) (j:Nat) (h:j<l.length):allE (l.take (j+1))=(allE (l.take j)&&emptyT (l[j]'h)):=by
 have app:∀ l m:List T,allE (l++m)=(allE l&&allE m):=by
   intro l m;induction l with
   | nil=>simp[allE]
   | cons t ts ih=>simp[allE,ih,Bool.and_assoc]
 rw[List.take_succ_eq_append_getElem h,app];simp[allE]
theorem ztt (l:List T) (j:Nat) (h:j<l.length):anyE (l.take (j+1))=(anyE (l.take j)||emptyT (l[j]'h)):=by
 have app:∀ l m:List T,anyE (l++m)=(anyE l||anyE m):=by
   intro l m;induction l with
   | nil=>simp[anyE]
   | cons t ts ih=>simp[anyE,ih,Bool.or_assoc]
 rw[List.take_succ_eq_append_getElem h,app];simp[anyE]
set_option maxRecDepth 20000 in
set_option maxHeartbeats 2000000 in
theorem zy6:∀ (N:Nat) (t:T) (w:World) (ok:Nat->Prop) (k:Value),SizeOf.sizeOf t<=N->FT t->Tree w ok t k->
   Calls Try.prog 51 #[nodeP t k] w fun e w'=>e = .returned (.bool (emptyT t))∧Below w.heap.size w w':=by
 intro N;induction N with
 | zero=>intro t w ok k h;obtain⟨op,p,lo,hi,l⟩:=t;simp at h
 | succ N ih =>
 intro t w ok k hN hft ht;obtain⟨A,n',c,rfl⟩:=ht.form;obtain⟨hn,hm⟩:=ht.bound;have hlen:=hft.len;rw[←hn] at hlen;unfold maxLen at hm;have hop:=hft.op;have b1:=Box8.new w t (.slice A n' c);have hB:Below w.heap.size w (w.alloc (.cells #[.int .i64 t.op,.int .u64 (word t.set 0),.int .u64 (word t.set 1),.int .u64 (word t.set 2),.int .u64 (word t.set 3),.int .i64 t.lo,.int .i64 t.hi,.slice A n' c] 71)):=(Below.refl _ _).alloc (Nat.le_refl _) _;have hE:emptyT t=if t.op=1∨t.op=5 then decide (t.op=5) else if t.op=2 then allE t.kids else anyE t.kids:=zt6 t
 obtain⟨c0,c1,c2,c3,c4,c5,c6,c7⟩:=b1.cell;unfold nodeP
 by_cases h1:t.op=1
 . rw[if_pos (.inl h1)] at hE;have hE':emptyT t=false:=(by rw[hE,h1];decide);rw[hE'];rw[h1] at c0 ⊢;clear hE hE' hop ih ht b1 hft hn hN;go_enter Try.func51,Try.ntmps51;go_wp2;go_ret;exact⟨rfl,by rw[h1] at hB;exact hB⟩
 . by_cases h5:t.op=5
   . rw[if_pos (.inr h5)] at hE;have hE':emptyT t=true:=(by rw[hE,h5];decide);rw[hE'];rw[h5] at c0 ⊢;clear hE hE' hop ih ht b1 hft hn hN;go_enter Try.func51,Try.ntmps51;go_wp2;go_ret;exact⟨rfl,by rw[h5] at hB;exact hB⟩
   . rw[if_neg (by rintro (h|h);exact h1 h;exact h5 h)] at hE;obtain⟨o,ho⟩:∃ o,t.op=o:=⟨_,rfl⟩;have ho23:o=2∨o=3:=by rcases hop with h|h|h|h <;> omega
     have t1:(o==(1:Int))=false:=(by simp;omega);have t5:(o==(5:Int))=false:=(by simp;omega);have HN:=Zh hn;have HT:=Zh ht;have HFT:=Zh hft;have IH:=Zh ih;have HB1:=Zh b1;have HHB:=Zh hB;have HE:=Zh hE;have HSZ:=Zh hN;rw[ho] at HE HB1 HHB c0 ⊢;have HO:=Zh ho;clear hn ih hft hop b1 hB hE ht hN ho h1 h5 c0 c1 c2 c3 c4 c5 c6 c7;go_enter Try.func51,Try.ntmps51;go_wp2;go_loopg [3,4,5] n' (fun m a b i wr=>∃ j:Nat,i = .int .i64 (j:Int)∧j<=n'∧m=n'-j∧a = .bool (allE (t.kids.take j))∧b = .bool (anyE (t.kids.take j))∧Box8 wr w.heap.size t (.slice A n' c)∧Below w.heap.size w wr)
     case atStart=>exact⟨0,by first | rfl | trivial,Nat.zero_le _,by first | rfl | trivial,by simp[allE],by simp[anyE],HB1.out,HHB.out⟩
     case round =>
       obtain⟨j,rfl,hj,hmj,rfl,rfl,x1,hW⟩:=hrel;have HMJ:=Zh hmj;obtain⟨c0,c1,c2,c3,c4,c5,c6,c7⟩:=x1.cell;rw[HO.out] at c0;clear hmj
       by_cases hlt:j<n'
       . have hlt':j<t.kids.length:=(by rw[←HN.out];exact hlt);obtain⟨g,B,m1,m2,e1,hg1,htk,hcells⟩:=kid8 HT.out j (List.getElem?_eq_getElem hlt');subst e1;have hks:=zbr t j hlt';have hwk:=HFT.out.at j hlt';have hsa:=zlh t.kids j hlt';have hsb:=ztt t.kids j hlt';generalize t.kids[j]=u at *;have HC:∀ q v,(nodeC u (.slice B m1 m2))[q]?=some v->wr.cell? ⟨g,j*8+q,none⟩=some v:=fun q v h=>by rw[Nat.mul_comm j 8];exact (hW.cell (p:=⟨g,8*j+q,none⟩) hg1).trans (hcells q v h)
         have k0:wr.cell? ⟨g,j*8,none⟩=_:=HC 0 _ rfl;have k1:=HC 1 _ rfl;have k2:=HC 2 _ rfl;have k3:=HC 3 _ rfl;have k4:=HC 4 _ rfl;have k5:=HC 5 _ rfl;have k6:=HC 6 _ rfl;have k7:=HC 7 _ rfl;have HK:=Zh (fun w' (hb:Below wr.heap.size wr w')=>IH.out u w' ok (.slice B m1 m2) (by have:=HSZ.out;omega) hwk ((htk.stays hW).stays hb));have HSA:=Zh hsa;have HSB:=Zh hsb;have HX:=Zh x1;have HW:=Zh hW;clear HC hcells htk hks hwk hsa hsb x1 hW;unfold nodeP at HK;obtain⟨a,ha⟩:∃ a,allE (t.kids.take j)=a:=⟨_,rfl⟩;obtain⟨b,hb⟩:∃ b,anyE (t.kids.take j)=b:=⟨_,rfl⟩;obtain⟨v,hv⟩:∃ v,emptyT u=v:=⟨_,rfl⟩;rw[ha,hv] at HSA;rw[hb,hv] at HSB;rw[hv] at HK;rw[ha,hb];clear ha hb hv;cases a <;> cases b
         all_goals
           go_wp2_with (go_at_call 51;(with_reducible refine (HK.out _ (Below.refl _ _)).mono ?_);rintro e w5 ⟨rfl,hb5⟩);go_roundg (n'-(j+1))
           case measure=>have:=HMJ.out;omega
           case rel=>exact⟨j+1,by go_num,by omega,rfl,by rw[HSA.out];cases v <;> rfl,by rw[HSB.out];cases v <;> rfl,HX.out.stays hb5,gro HW.out hb5⟩
       . have hjn:j=t.kids.length:=(by rw[←HN.out];omega);have hwhole:t.kids.take j=t.kids:=(by rw[hjn];exact List.take_length);rw[hwhole];have HW:=Zh hW;clear hW x1;rcases ho23 with rfl|rfl
         . have he:emptyT t=allE t.kids:=(by rw[HE.out];rfl);have HEE:=Zh he;clear he;go_wp2;go_ret;exact⟨by rw[HEE.out];rfl,HW.out⟩
         . have he:emptyT t=anyE t.kids:=(by rw[HE.out];rfl);have HEE:=Zh he;clear he;go_wp2;go_ret;exact⟨by rw[HEE.out];rfl,HW.out⟩
theorem zmb {t:T} {k:Value} {ok:Nat->Prop} (w:World) (hft:FT t) (ht:Tree w ok t k):Calls Try.prog 51 #[nodeP t k] w fun e w'=>e = .returned (.bool (emptyT t))∧Below w.heap.size w w':=
 zy6 _ t w ok k (Nat.le_refl _) hft ht
set_option maxRecDepth 20000 in
set_option maxHeartbeats 2000000 in
theorem zoy:∀ (N:Nat) (t:T) (w:World) (ok:Nat->Prop) (k:Value),SizeOf.sizeOf t<=N->FT t->Tree w ok t k->
   Calls Try.prog 49 #[nodeP t k] w (RetInt w (plN t)):=by
 intro N;induction N with
 | zero=>intro t w ok k h;obtain⟨op,p,lo,hi,l⟩:=t;simp at h
 | succ N ih =>
 intro t w ok k hN hft ht;obtain⟨A,n',c,rfl⟩:=ht.form;obtain⟨hn,hm⟩:=ht.bound;have hlen:=hft.len;rw[←hn] at hlen;unfold maxLen at hm;have hop:=hft.op;have b1:=Box8.new w t (.slice A n' c);have hB:Below w.heap.size w (w.alloc (.cells #[.int .i64 t.op,.int .u64 (word t.set 0),.int .u64 (word t.set 1),.int .u64 (word t.set 2),.int .u64 (word t.set 3),.int .i64 t.lo,.int .i64 t.hi,.slice A n' c] 71)):=(Below.refl _ _).alloc (Nat.le_refl _) _;have hpl:plN t=min (((if t.op=1 then 1 else 0)+plSum t.kids)*(if t.op=4 then t.hi.toNat else 1)) 1000:=(by cases t;rfl);have hsum:=zei t.kids;have HPL:=Zh hpl;have HSUM:=Zh hsum;have HWF:=Zh hft;have HOP:=Zh hop;have HN:=Zh hn;have HT:=Zh ht;have IH:=Zh ih;have HB1:=Zh b1;have HM:=Zh hm;clear hn ih hpl hsum hft hop;unfold nodeP;cases hb1:(t.op==1)
 all_goals
   cases hb4:(t.op==4)
   all_goals
     go_enter Try.func49,Try.ntmps49;go_wp2;go_loopg [3,4] n' (fun m k i wr=>∃ j:Nat,i = .int .i64 (j:Int)∧j<=n'∧m=n'-j∧k = .int .i64 (((if t.op=1 then 1 else 0)+plSum (t.kids.take j):Nat):Int)∧Box8 wr w.heap.size t (.slice A n' c)∧Below w.heap.size w wr)
     case atStart=>exact⟨0,rfl,Nat.zero_le _,rfl,by first | (rw[if_pos (by simpa using hb1)];rfl) | (rw[if_neg (by simpa using hb1)];rfl),HB1.out,hB⟩
     case round =>
       obtain⟨j,rfl,hj,hmj,rfl,x1,hW⟩:=hrel;have HMJ:=Zh hmj;obtain⟨c0,c1,c2,c3,c4,c5,c6,c7⟩:=x1.cell;clear b1 hmj
       by_cases hlt:j<n'
       . have hlt':j<t.kids.length:=(by rw[←HN.out];exact hlt);obtain⟨g,B,m1,m2,e1,hg1,htk,hcells⟩:=kid8 HT.out j (List.getElem?_eq_getElem hlt');subst e1;have hks:=zbr t j hlt';have hwk:=HWF.out.at j hlt';have hst:=zhq t.kids j hlt';have hsl:=zei (t.kids.take j);rw[List.length_take] at hsl;have hpu:=zr8 (t.kids[j]'hlt');generalize t.kids[j]=u at *;have HC:∀ q v,(nodeC u (.slice B m1 m2))[q]?=some v->wr.cell? ⟨g,j*8+q,none⟩=some v:=fun q v h=>by rw[Nat.mul_comm j 8];exact (hW.cell (p:=⟨g,8*j+q,none⟩) hg1).trans (hcells q v h)
         have k0:wr.cell? ⟨g,j*8,none⟩=_:=HC 0 _ rfl;have k1:=HC 1 _ rfl;have k2:=HC 2 _ rfl;have k3:=HC 3 _ rfl;have k4:=HC 4 _ rfl;have k5:=HC 5 _ rfl;have k6:=HC 6 _ rfl;have k7:=HC 7 _ rfl;have HK:=Zh (fun w' (hb:Below wr.heap.size wr w')=>IH.out u w' ok (.slice B m1 m2) (by omega) hwk ((htk.stays hW).stays hb));have HST:=Zh hst;clear HC hcells htk hks hwk hst;unfold nodeP RetInt at HK;have ha:((if t.op=1 then 1 else 0:Nat))<=1:=by split <;> omega
         generalize hS:(if t.op=1 then 1 else 0:Nat)=a0 at *;generalize plSum (t.kids.take j)=S at *;have hS2:S<=202000:=(by omega);clear hS;go_wp2_with (go_at_call 49;(with_reducible refine (HK.out _ (Below.refl _ _)).mono ?_);rintro e w5 ⟨rfl,hb5⟩);go_roundg (n'-(j+1))
         case measure=>have:=HMJ.out;omega
         case rel=>exact⟨j+1,by go_num,by omega,rfl,by rw[HST.out];go_num,x1.stays hb5,gro hW hb5⟩
       . have hjn:j=t.kids.length:=(by rw[←HN.out];omega);have hwhole:t.kids.take j=t.kids:=(by rw[hjn];exact List.take_length);rw[hwhole];have hS2:=HSUM.out;have ha:((if t.op=1 then 1 else 0:Nat))<=1:=by split <;> omega
         have hpl':=HPL.out;rw[show t.kids.length=n' from HN.out.symm] at hS2;generalize hS:(if t.op=1 then 1 else 0:Nat)=a0 at *;generalize plSum t.kids=S at *
         by_cases h4:t.op=4
         . exfalso;have:=HOP.out;omega
         . first
             | (exfalso;simp at hb4;exact h4 hb4)
             | skip
           all_goals
             rw[if_neg h4,Nat.mul_one] at hpl';have HPL2:=Zh hpl';clear hpl' h4 hS;go_wp2
             all_goals
               go_ret;refine⟨congrArg Ending.returned (congrArg (Value.int .i64) ?_),hW⟩;rw[HPL2.out];omega
theorem zhr:∀ (l:List T),(∀ t∈l,plN t=min (plT t) 1000)->min (plSum l) 1000=min (plTL l) 1000
 | [],_=>rfl
 | t::ts,h=>by
   have h1:=h t (by simp);have h2:=zhr ts fun u hu=>h u (by simp[hu])
   simp only[plSum,plTL];omega
theorem zn2 {t:T} (hft:FT t):plN t=min (plT t) 1000:=by
 induction hft with
 | mk op p l hop hN h ih =>
   have:=zhr l ih;have e4:¬ op=4:=by rcases hop with h|h|h|h <;> omega
   have e1:plN (.mk op p 0 0 l)=min ((if op=1 then 1 else 0)+plSum l) 1000:=(by simp[plN,e4]);have e2:plT (.mk op p 0 0 l)=(if op=1 then 1 else 0)+plTL l:=(by simp[plT]);rw[e1,e2];omega
theorem zkc {t:T} {k:Value} {ok:Nat->Prop} (w:World) (hft:FT t) (ht:Tree w ok t k):Calls Try.prog 49 #[nodeP t k] w (RetInt w (plN t)):=
 zoy _ t w ok k (Nat.le_refl _) hft ht
end
end Go.Proofs.Ytgbdanddbgomhaa
