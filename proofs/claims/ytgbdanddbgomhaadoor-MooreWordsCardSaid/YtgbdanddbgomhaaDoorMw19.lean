import Derived.Test.YtgbdanddbgomhaaDoorMw17
set_option linter.unusedVariables false
set_option linter.unusedSimpArgs false
namespace Go.Proofs.YtgbdanddbgomhaaDoor
open Go
section
structure Str where
 first:List Nat
 last:List Nat
 empty:Bool
structure Lay where
 sets:List (Nat->Bool)
 follow:List (List Nat)
def Str.nothing:Str:=⟨[],[],true⟩
def Str.void:Str:=⟨[],[],false⟩
def linkAt (f:List (List Nat)) (p:Nat) (ys:List Nat):List (List Nat):=f.set p (f.getD p []++ys)
def linkAll:List (List Nat)->List Nat->List Nat->List (List Nat)
 | f,[],_=>f
 | f,p::ps,ys=>linkAll (linkAt f p ys) ps ys
def joinX (x y:Str):Str:=⟨if x.empty then x.first++y.first else x.first,if y.empty then x.last++y.last else y.last,x.empty&&y.empty⟩
def joinL (s:Lay) (x y:Str):Lay:=⟨s.sets,linkAll s.follow x.last y.first⟩
def altX (x y:Str):Str:=⟨x.first++y.first,x.last++y.last,x.empty||y.empty⟩
def copies (f:Lay->Lay×Str):Nat->Lay->Str->Lay×Str
 | 0,s,x=>(s,x)
 | m+1,s,x=>copies f m (joinL (f s).1 x (f s).2) (joinX x (f s).2)
def within (f:Lay->Lay×Str):Nat->Lay->Lay×Str
 | 0,s=>(s,.nothing)
 | d+1,s=>(joinL (within f d (f s).1).1 (f s).2 (within f d (f s).1).2,⟨(joinX (f s).2 (within f d (f s).1).2).first,(joinX (f s).2 (within f d (f s).1).2).last,true⟩)
def repX (f:Lay->Lay×Str) (m d:Nat) (s:Lay):Lay×Str:=
 (joinL (within f d (copies f m s .nothing).1).1 (copies f m s .nothing).2 (within f d (copies f m s .nothing).1).2,joinX (copies f m s .nothing).2 (within f d (copies f m s .nothing).1).2)
def oneL (s:Lay) (p:Nat->Bool):Lay:=⟨s.sets++[p],s.follow++[[]]⟩
def oneX (s:Lay):Str:=⟨[s.sets.length],[s.sets.length],false⟩
mutual
def layP:T->Lay->Lay×Str
 | .mk op p lo hi l=>fun s =>
   if op=1 then (oneL s p,oneX s)
   else if op=2 then catP l s .nothing
   else if op=3 then altP l s .void
   else if op=4 then repX (headP l) lo.toNat (hi-lo).toNat s
   else (s,.void)
def catP:List T->Lay->Str->Lay×Str
 | []=>fun s x=>(s,x)
 | t::ts=>fun s x=>catP ts (joinL (layP t s).1 x (layP t s).2) (joinX x (layP t s).2)
def altP:List T->Lay->Str->Lay×Str
 | []=>fun s x=>(s,x)
 | t::ts=>fun s x=>altP ts (layP t s).1 (altX x (layP t s).2)
def headP:List T->Lay->Lay×Str
 | []=>fun s=>(s,.void)
 | t::_=>fun s=>layP t s
end
structure LInv (s:Lay):Prop where
 len:s.follow.length=s.sets.length
 lt:∀ q p,p∈s.follow.getD q []->p<s.sets.length
theorem zmf {α:Type} (l:List α) (i j:Nat) (a d:α):(l.set i a).getD j d=if j=i∧i<l.length then a else l.getD j d:=by
 simp only[List.getD_eq_getElem?_getD,List.getElem?_set]
 by_cases h:i=j
 . subst h
   by_cases h2:i<l.length
   . simp[h2]
   . simp[h2]
 . have h':¬ j=i:=fun e=>h e.symm
   simp[h,h']
theorem zc6 (f:List (List Nat)) (p:Nat) (ys:List Nat):(linkAt f p ys).length=f.length:=by simp[linkAt]
theorem zbw:∀ (ps:List Nat) (f:List (List Nat)) (ys:List Nat),(linkAll f ps ys).length=f.length
 | [],f,ys=>rfl
 | p::ps,f,ys=>by rw[linkAll,zbw ps,zc6]
theorem zec (f:List (List Nat)) (p q:Nat) (ys:List Nat) (hp:p<f.length):(linkAt f p ys).getD q []=if q=p then f.getD p []++ys else f.getD q []:=by
 rw[linkAt,zmf]
 by_cases e:q=p <;> simp[e,hp]
theorem zdb:∀ (ps:List Nat) (f:List (List Nat)) (ys:List Nat),(∀ p∈ps,p<f.length)->∀ q r,r∈(linkAll f ps ys).getD q []↔r∈f.getD q []∨(q∈ps∧r∈ys)
 | [],f,ys,_,q,r=>by simp[linkAll]
 | p::ps,f,ys,h,q,r=>by
   rw[linkAll,zdb ps _ ys (fun p' hp'=>by rw[zc6];exact h p' (by simp[hp'])),zec f p q ys (h p (by simp))]
   by_cases e:q=p
   . subst e;simp;intro _ a;exact .inr a
   . simp[e]
theorem zfl:∀ (ps:List Nat) (f:List (List Nat)) (ys:List Nat) (q:Nat),q∉ps->(linkAll f ps ys).getD q []=f.getD q []
 | [],f,ys,q,_=>rfl
 | p::ps,f,ys,q,h=>by
   rw[linkAll,zfl ps _ ys q (fun e=>h (by simp[e])),linkAt,zmf,if_neg];rintro⟨e,_⟩;exact h (by simp[e])
def eats (xs:List Int) (s:Lay) (p i:Nat):Prop:=i<xs.length∧(s.sets.getD p noneP) (xs.getD i 0).toNat=true
def fol (s:Lay) (q p:Nat):Prop:=p∈s.follow.getD q []
inductive Goes (S φ:Nat->Nat->Prop) (F:Nat->Prop) (i:Nat):Nat->Nat->Prop
 | start (p:Nat) (h:F p) (hs:S p i):Goes S φ F i p (i+1)
 | step (q p j:Nat) (h:Goes S φ F i q j) (hf:φ q p) (hs:S p j):Goes S φ F i p (j+1)
def Rec (S φ:Nat->Nat->Prop) (x:Str) (i j:Nat):Prop:=(x.empty=true∧i=j)∨∃ p,p∈x.last∧Goes S φ (· ∈ x.first) i p j
section
variable {S S' φ φ':Nat->Nat->Prop} {F F':Nat->Prop} {i j p:Nat}
theorem Goes.mono (h:Goes S φ F i p j) (hS:∀ p i,S p i->S' p i) (hφ:∀ q p,φ q p->φ' q p) (hF:∀ p,F p->F' p):Goes S' φ' F' i p j:=by
 induction h with
 | start p h hs=>exact .start p (hF p h) (hS _ _ hs)
 | step q p j h hf hs ih=>exact .step q p j ih (hφ _ _ hf) (hS _ _ hs)
theorem Goes.same {a b:Nat} (h:Goes S φ F i p j) (hS:∀ p i,a<=p->p<b->S p i->S' p i) (hφ:∀ q p,a<=q->q<b->φ q p->φ' q p∧a<=p∧p<b) (hF:∀ p,F p->a<=p∧p<b):Goes S' φ' F i p j∧a<=p∧p<b:=by
 induction h with
 | start p h hs=>exact⟨.start p h (hS _ _ (hF p h).1 (hF p h).2 hs),hF p h⟩
 | step q p j h hf hs ih =>
   obtain⟨h1,h2,h3⟩:=ih;obtain⟨h4,h5,h6⟩:=hφ q p h2 h3 hf;exact⟨.step q p j h1 h4 (hS _ _ h5 h6 hs),h5,h6⟩
end
structure Good (xs:List Int) (s:Lay) (a b:Nat) (x:Str) (Rl:Nat->Nat->Prop):Prop where
 le:a<=b
 first:∀ p,p∈x.first->a<=p∧p<b
 last:∀ p,p∈x.last->a<=p∧p<b
 stay:∀ q p,a<=q->q<b->fol s q p->a<=p∧p<b
 sf:x.first.Pairwise (· < ·)
 sl:x.last.Pairwise (· < ·)
 st:∀ q,a<=q->q<b->(s.follow.getD q []).Pairwise (· < ·)
 has:∀ i j,Rec (eats xs s) (fol s) x i j↔Rl i j
section
variable {xs:List Int} {s s':Lay} {a b c:Nat} {x y:Str} {R R':Nat->Nat->Prop}
theorem Good.later (h:Good xs s a b x R) (hS:∀ p,p<b->s'.sets.getD p noneP=s.sets.getD p noneP) (hF:∀ q,q<b->s'.follow.getD q []=s.follow.getD q []):Good xs s' a b x R:=by
 have hf:∀ q,q<b->∀ p,fol s' q p↔fol s q p:=fun q hq p=>by unfold fol;rw[hF q hq]
 have he:∀ p i,p<b->(eats xs s' p i↔eats xs s p i):=fun p i hp=>by unfold eats;rw[hS p hp]
 refine⟨h.le,h.first,h.last,fun q p h1 h2 h3=>h.stay q p h1 h2 ((hf q h2 p).1 h3),h.sf,h.sl,fun q h1 h2=>by rw[hF q h2];exact h.st q h1 h2,fun i j=>?_⟩;rw[←h.has];unfold Rec;constructor
 . rintro (e|⟨p,hp,hg⟩)
   . exact .inl e
   . exact .inr ⟨p,hp,(hg.same (a:=a) (b:=b) (fun p i _ hb hs=>(he p i hb).1 hs) (fun q p h1 h2 h3=>⟨(hf q h2 p).1 h3,h.stay q p h1 h2 ((hf q h2 p).1 h3)⟩) h.first).1⟩
 . rintro (e|⟨p,hp,hg⟩)
   . exact .inl e
   . exact .inr ⟨p,hp,(hg.same (a:=a) (b:=b) (fun p i _ hb hs=>(he p i hb).2 hs) (fun q p h1 h2 h3=>⟨(hf q h2 p).2 h3,h.stay q p h1 h2 h3⟩) h.first).1⟩
theorem Good.congr (h:Good xs s a b x R) (hR:∀ i j,R i j↔R' i j):Good xs s a b x R':=⟨h.le,h.first,h.last,h.stay,h.sf,h.sl,h.st,fun i j=>(h.has i j).trans (hR i j)⟩
theorem zcs (a:Nat):Good xs s a a .nothing (fun i j=>i=j):=
 ⟨Nat.le_refl _,by simp[Str.nothing],by simp[Str.nothing],fun q p h1 h2 _=>by omega,by simp[Str.nothing],by simp[Str.nothing],fun q h1 h2=>by omega,fun i j=>by simp[Rec,Str.nothing]⟩
theorem zr7 (a:Nat):Good xs s a a .void (fun _ _=>False):=
 ⟨Nat.le_refl _,by simp[Str.void],by simp[Str.void],fun q p h1 h2 _=>by omega,by simp[Str.void],by simp[Str.void],fun q h1 h2=>by omega,fun i j=>by simp[Rec,Str.void]⟩
theorem ztq (hl:LInv s) (p:Nat->Bool):Good xs (oneL s p) s.sets.length (s.sets.length+1) (oneX s) (fun i j=>i<xs.length∧p (xs.getD i 0).toNat=true∧j=i+1):=by
 have hd:∀ q,s.sets.length<=q->(oneL s p).follow.getD q []=[]:=fun q hq=>by
   unfold oneL;simp only[List.getD_eq_getElem?_getD];rw[List.getElem?_append_right (by rw[hl.len];exact hq)];rcases Nat.eq_zero_or_pos (q-s.follow.length) with e|e
   . rw[e];simp
   . rw[List.getElem?_eq_none (by simp;omega)];rfl
 have hf:∀ q r,s.sets.length<=q->¬ fol (oneL s p) q r:=fun q r hq h=>by
   unfold fol at h;rw[hd q hq] at h;simp at h
 have hs:∀ i,eats xs (oneL s p) s.sets.length i↔i<xs.length∧p (xs.getD i 0).toNat=true:=fun i=>by
   unfold eats oneL;simp
 refine⟨by omega,by simp[oneX],by simp[oneX],fun q r h1 _ h2=>absurd h2 (hf q r h1),by simp[oneX],by simp[oneX],fun q h1 _=>by rw[hd q h1];exact List.Pairwise.nil,fun i j=>?_⟩;simp only[Rec,oneX,List.mem_singleton];constructor
 . rintro (⟨e,_⟩|⟨q,rfl,hg⟩)
   . cases e
   . have:∀ r j,Goes (eats xs (oneL s p)) (fol (oneL s p)) (fun x=>x=s.sets.length) i r j->r=s.sets.length∧eats xs (oneL s p) r i∧j=i+1:=by
       intro r j h;induction h with
       | start r h hs=>exact⟨h,hs,rfl⟩
       | step q r j h hf' hs ih=>exact absurd hf' (hf q r (by rw[ih.1];exact Nat.le_refl _))
     obtain⟨_,h1,h2⟩:=this _ _ hg;exact⟨((hs i).1 h1).1,((hs i).1 h1).2,h2⟩
 . rintro⟨h1,h2,rfl⟩;exact .inr ⟨_,rfl,.start _ rfl ((hs i).2 ⟨h1,h2⟩)⟩
theorem zfk:∀ (ps:List Nat) (f:List (List Nat)) (ys:List Nat),(∀ p∈ps,p<f.length)->ps.Nodup->∀ q,(linkAll f ps ys).getD q []=if q∈ps then f.getD q []++ys else f.getD q []
 | [],f,ys,_,_,q=>by simp[linkAll]
 | p::ps,f,ys,h,hn,q=>by
   rw[List.nodup_cons] at hn;rw[linkAll,zfk ps _ ys (fun p' hp'=>by rw[zc6];exact h p' (by simp[hp'])) hn.2,zec f p q ys (h p (by simp))]
   by_cases e:q=p
   . subst e;simp[hn.1]
   . simp[e]
theorem zfr (hl:LInv s) (hx:∀ p∈x.last,p<s.sets.length) (q p:Nat):fol (joinL s x y) q p↔fol s q p∨(q∈x.last∧p∈y.first):=by
 unfold fol joinL;exact zdb x.last s.follow y.first (fun p hp=>by rw[hl.len];exact hx p hp) q p
theorem zr8 (hl:LInv s) (hc:c<=s.sets.length) (hx:Good xs s a b x R) (hy:Good xs s b c y R'):Good xs (joinL s x y) a c (joinX x y) (fun i j=>∃ k,R i k∧R' k j):=by
 have hab:=hx.le;have hbc:=hy.le;have hfol:=zfr (y:=y) hl (fun p hp=>by have:=(hx.last p hp).2;omega);have heat:eats xs (joinL s x y)=eats xs s:=rfl;have hfirst:∀ p,p∈(joinX x y).first↔p∈x.first∨(x.empty=true∧p∈y.first):=fun p=>by
   unfold joinX;cases x.empty <;> simp
 have hlast:∀ p,p∈(joinX x y).last↔p∈y.last∨(y.empty=true∧p∈x.last):=fun p=>by
   unfold joinX;cases y.empty <;> simp[or_comm]
 have hA:∀ i p j,Goes (eats xs s) (fol (joinL s x y)) (· ∈ (joinX x y).first) i p j->(a<=p∧p<b∧Goes (eats xs s) (fol s) (· ∈ x.first) i p j)∨
     (b<=p∧p<c∧((x.empty=true∧Goes (eats xs s) (fol s) (· ∈ y.first) i p j)∨∃ q k,q∈x.last∧Goes (eats xs s) (fol s) (· ∈ x.first) i q k∧Goes (eats xs s) (fol s) (· ∈ y.first) k p j)):=by
   intro i p j h;induction h with
   | start p h hs =>
     rcases (hfirst p).1 h with h | ⟨e,h⟩
     . exact .inl ⟨(hx.first p h).1,(hx.first p h).2,.start p h hs⟩
     . exact .inr ⟨(hy.first p h).1,(hy.first p h).2,.inl ⟨e,.start p h hs⟩⟩
   | step q p j h hf hs ih =>
     rcases (hfol q p).1 hf with hf|⟨h1,h2⟩
     . rcases ih with ⟨i1,i2,i3⟩|⟨i1,i2,i3⟩
       . have:=hx.stay q p i1 i2 hf;exact .inl ⟨this.1,this.2,.step q p j i3 hf hs⟩
       . have:=hy.stay q p i1 i2 hf;refine .inr ⟨this.1,this.2,?_⟩;rcases i3 with ⟨e,i3⟩|⟨r,k,h3,h4,h5⟩
         . exact .inl ⟨e,.step q p j i3 hf hs⟩
         . exact .inr ⟨r,k,h3,h4,.step q p j h5 hf hs⟩
     . have hb:=hx.last q h1;have hp:=hy.first p h2
       refine .inr ⟨hp.1,hp.2,.inr ⟨q,j,h1,?_,.start p h2 hs⟩⟩;rcases ih with ⟨_,_,i3⟩|⟨i1,_,_⟩
       . exact i3
       . omega
 have hnd:x.last.Nodup:=hx.sl.imp fun h=>Nat.ne_of_lt h
 refine⟨by omega,fun p hp=>?_,fun p hp=>?_,fun q p h1 h2 h3=>?_,?_,?_,fun q h1 h2=>?_,fun i j=>?_⟩
 . rcases (hfirst p).1 hp with h | ⟨_,h⟩
   . have:=hx.first p h;omega
   . have:=hy.first p h;omega
 . rcases (hlast p).1 hp with h|⟨_,h⟩
   . have:=hy.last p h;omega
   . have:=hx.last p h;omega
 . rcases (hfol q p).1 h3 with h|⟨h4,h5⟩
   . rcases Nat.lt_or_ge q b with hq|hq
     . have:=hx.stay q p h1 hq h;omega
     . have:=hy.stay q p hq h2 h;omega
   . have:=hy.first p h5;omega
 . unfold joinX;cases x.empty
   . exact hx.sf
   . exact List.pairwise_append.2 ⟨hx.sf,hy.sf,fun p hp q hq=>by have:=hx.first p hp;have:=hy.first q hq;omega⟩
 . unfold joinX;cases y.empty
   . exact hy.sl
   . exact List.pairwise_append.2 ⟨hx.sl,hy.sl,fun p hp q hq=>by have:=hx.last p hp;have:=hy.last q hq;omega⟩
 . unfold joinL
   show ((linkAll s.follow x.last y.first).getD q []).Pairwise (· < ·)
   rw[zfk x.last s.follow y.first (fun p hp=>by rw[hl.len];have:=(hx.last p hp).2;omega) hnd q];rcases Nat.lt_or_ge q b with hq | hq
   . split
     . refine List.pairwise_append.2 ⟨hx.st q h1 hq,hy.sf,fun p hp r hr=>?_⟩;have:=hx.stay q p h1 hq hp;have:=hy.first r hr
       omega
     . exact hx.st q h1 hq
   . rw[if_neg (fun e=>by have:=(hx.last q e).2;omega)];exact hy.st q hq h2
 . simp only[←hx.has,←hy.has];unfold Rec;rw[heat];constructor
   . rintro (⟨e,rfl⟩|⟨p,hp,hg⟩)
     . have e':x.empty=true∧y.empty=true:=(by simpa [joinX] using e);exact⟨i,.inl ⟨e'.1,rfl⟩,.inl ⟨e'.2,rfl⟩⟩
     . rcases hA i p j hg with ⟨h1,h2,h3⟩|⟨h1,h2,h3⟩
       . rcases (hlast p).1 hp with h|⟨e,h⟩
         . have:=hy.last p h;omega
         . exact⟨j,.inr ⟨p,h,h3⟩,.inl ⟨e,rfl⟩⟩
       . have hp':p∈y.last:=by
           rcases (hlast p).1 hp with h|⟨e,h⟩
           . exact h
           . have:=hx.last p h;omega
         rcases h3 with ⟨e,h3⟩|⟨q,k,h4,h5,h6⟩
         . exact⟨i,.inl ⟨e,rfl⟩,.inr ⟨p,hp',h3⟩⟩
         . exact⟨k,.inr ⟨q,h4,h5⟩,.inr ⟨p,hp',h6⟩⟩
   . have up:∀ {i p j},Goes (eats xs s) (fol s) (· ∈ x.first) i p j->Goes (eats xs s) (fol (joinL s x y)) (· ∈ (joinX x y).first) i p j:=fun h =>
       h.mono (fun _ _ h=>h) (fun q p h=>(hfol q p).2 (.inl h)) fun p h=>(hfirst p).2 (.inl h)
     rintro⟨k,(⟨e,rfl⟩|⟨q,hq,hg⟩),(⟨e',rfl⟩|⟨p,hp,hg'⟩)⟩
     . exact .inl ⟨by simp[joinX,e,e'],rfl⟩
     . exact .inr ⟨p,(hlast p).2 (.inl hp),hg'.mono (fun _ _ h=>h) (fun q p h=>(hfol q p).2 (.inl h)) fun p h=>(hfirst p).2 (.inr ⟨e,h⟩)⟩
     . exact .inr ⟨q,(hlast q).2 (.inr ⟨e',hq⟩),up hg⟩
     . refine .inr ⟨p,(hlast p).2 (.inl hp),?_⟩;clear hp;induction hg' with
       | start p h hs=>exact .step q p k (up hg) ((hfol q p).2 (.inr ⟨hq,h⟩)) hs
       | step r p j h hf hs ih=>exact .step r p j ih ((hfol r p).2 (.inl hf)) hs
theorem zts (hx:Good xs s a b x R) (hy:Good xs s b c y R'):Good xs s a c (altX x y) (fun i j=>R i j∨R' i j):=by
 have hab:=hx.le;have hbc:=hy.le;have hA:∀ i p j,Goes (eats xs s) (fol s) (· ∈ (altX x y).first) i p j->(a<=p∧p<b∧Goes (eats xs s) (fol s) (· ∈ x.first) i p j)∨(b<=p∧p<c∧Goes (eats xs s) (fol s) (· ∈ y.first) i p j):=by
   intro i p j h;induction h with
   | start p h hs =>
     rcases List.mem_append.1 (show p∈x.first++y.first from h) with h | h
     . exact .inl ⟨(hx.first p h).1,(hx.first p h).2,.start p h hs⟩
     . exact .inr ⟨(hy.first p h).1,(hy.first p h).2,.start p h hs⟩
   | step q p j h hf hs ih =>
     rcases ih with ⟨i1,i2,i3⟩|⟨i1,i2,i3⟩
     . have:=hx.stay q p i1 i2 hf;exact .inl ⟨this.1,this.2,.step q p j i3 hf hs⟩
     . have:=hy.stay q p i1 i2 hf;exact .inr ⟨this.1,this.2,.step q p j i3 hf hs⟩
 refine⟨by omega,fun p hp=>?_,fun p hp=>?_,fun q p h1 h2 h3=>?_,List.pairwise_append.2 ⟨hx.sf,hy.sf,fun p hp q hq=>by have:=hx.first p hp;have:=hy.first q hq;omega⟩,List.pairwise_append.2 ⟨hx.sl,hy.sl,fun p hp q hq=>by have:=hx.last p hp;have:=hy.last q hq;omega⟩,fun q h1 h2=>?_,fun i j=>?_⟩
 . rcases List.mem_append.1 (show p∈x.first++y.first from hp) with h | h
   . have:=hx.first p h;omega
   . have:=hy.first p h;omega
 . rcases List.mem_append.1 (show p∈x.last++y.last from hp) with h|h
   . have:=hx.last p h;omega
   . have:=hy.last p h;omega
 . rcases Nat.lt_or_ge q b with hq|hq
   . have:=hx.stay q p h1 hq h3;omega
   . have:=hy.stay q p hq h2 h3;omega
 . rcases Nat.lt_or_ge q b with hq|hq
   . exact hx.st q h1 hq
   . exact hy.st q hq h2
 . simp only[←hx.has,←hy.has];unfold Rec;constructor
   . rintro (⟨e,rfl⟩|⟨p,hp,hg⟩)
     . have e':x.empty=true∨y.empty=true:=(by simpa [altX] using e);rcases e' with e|e
       . exact .inl (.inl ⟨e,rfl⟩)
       . exact .inr (.inl ⟨e,rfl⟩)
     . rcases hA i p j hg with ⟨h1,h2,h3⟩|⟨h1,h2,h3⟩
       . rcases List.mem_append.1 (show p∈x.last++y.last from hp) with h|h
         . exact .inl (.inr ⟨p,h,h3⟩)
         . have:=hy.last p h;omega
       . rcases List.mem_append.1 (show p∈x.last++y.last from hp) with h|h
         . have:=hx.last p h;omega
         . exact .inr (.inr ⟨p,h,h3⟩)
   . rintro ((⟨e,rfl⟩|⟨p,hp,hg⟩)|(⟨e,rfl⟩|⟨p,hp,hg⟩))
     . exact .inl ⟨by simp[altX,e],rfl⟩
     . exact .inr ⟨p,List.mem_append.2 (.inl hp),hg.mono (fun _ _ h=>h) (fun _ _ h=>h) fun p h=>List.mem_append.2 (.inl h)⟩
     . exact .inl ⟨by simp[altX,e],rfl⟩
     . exact .inr ⟨p,List.mem_append.2 (.inr hp),hg.mono (fun _ _ h=>h) (fun _ _ h=>h) fun p h=>List.mem_append.2 (.inr h)⟩
theorem ztr (h:Good xs s a b x R):Good xs s a b ⟨x.first,x.last,true⟩ (fun i j=>i=j∨R i j):=by
 refine⟨h.le,h.first,h.last,h.stay,h.sf,h.sl,h.st,fun i j=>?_⟩;rw[←h.has];unfold Rec;constructor
 . rintro (⟨_,e⟩|h)
   . exact .inl e
   . exact .inr (.inr h)
 . rintro (e|(⟨_,e⟩|h))
   . exact .inl ⟨rfl,e⟩
   . exact .inl ⟨rfl,e⟩
   . exact .inr h
end
structure More (s s':Lay):Prop where
 inv:LInv s'
 sets:∃ l,s'.sets=s.sets++l
 keep:∀ q,q<s.sets.length->s'.follow.getD q []=s.follow.getD q []
theorem More.refl {s:Lay} (h:LInv s):More s s:=⟨h,⟨[],by simp⟩,fun _ _=>rfl⟩
theorem More.le {s s':Lay} (h:More s s'):s.sets.length<=s'.sets.length:=by
 obtain⟨l,e⟩:=h.sets;rw[e,List.length_append];omega
theorem More.trans {s s' s'':Lay} (h:More s s') (k:More s' s''):More s s'':=by
 have hl:=h.le;refine⟨k.inv,?_,fun q hq=>(k.keep q (by omega)).trans (h.keep q hq)⟩;obtain⟨l,e⟩:=h.sets;obtain⟨l',e'⟩:=k.sets;exact⟨l++l',by rw[e',e,List.append_assoc]⟩
theorem More.get {s s':Lay} (h:More s s') (p:Nat) (hp:p<s.sets.length):s'.sets.getD p noneP=s.sets.getD p noneP:=by
 obtain⟨l,e⟩:=h.sets;rw[e];simp only[List.getD_eq_getElem?_getD];rw[List.getElem?_append_left hp]
theorem Good.more {xs:List Int} {s s':Lay} {a b:Nat} {x:Str} {R:Nat->Nat->Prop} (h:Good xs s a b x R) (hm:More s s') (hb:b<=s.sets.length):Good xs s' a b x R:=
 h.later (fun p hp=>hm.get p (by omega)) fun q hq=>hm.keep q (by omega)
def Lays (xs:List Int) (f:Lay->Lay×Str) (R:Nat->Nat->Prop):Prop:=
 ∀ s,LInv s->More s (f s).1∧Good xs (f s).1 s.sets.length (f s).1.sets.length (f s).2 R
theorem zq5 {s:Lay} (h:LInv s) (p:Nat->Bool):More s (oneL s p):=by
 refine⟨⟨by simp[oneL,h.len],fun q r hr=>?_⟩,⟨[p],rfl⟩,fun q hq=>?_⟩
 . simp only[oneL,List.getD_eq_getElem?_getD,List.length_append,List.length_singleton] at hr ⊢;rcases Nat.lt_or_ge q s.follow.length with hq|hq
   . rw[List.getElem?_append_left hq,←List.getD_eq_getElem?_getD] at hr;have:=h.lt q r hr;omega
   . rw[List.getElem?_append_right hq] at hr;rcases Nat.eq_zero_or_pos (q-s.follow.length) with e|e
     . rw[e] at hr;simp at hr
     . rw[List.getElem?_eq_none (by simp;omega)] at hr;simp at hr
 . simp only[oneL,List.getD_eq_getElem?_getD];rw[List.getElem?_append_left (by rw[h.len];exact hq)]
theorem zgz {s:Lay} (h:LInv s) {x y:Str} {n:Nat} (hx:∀ p∈x.last,n<=p∧p<s.sets.length) (hy:∀ p∈y.first,p<s.sets.length):LInv (joinL s x y)∧∀ q,q<n->(joinL s x y).follow.getD q []=s.follow.getD q []:=by
 refine⟨⟨by simp[joinL,zbw,h.len],fun q p hp=>?_⟩,fun q hq=>?_⟩
 . rcases (zfr (y:=y) h (fun p hp=>(hx p hp).2) q p).1 hp with e|⟨_,e⟩
   . exact h.lt q p e
   . exact hy p e
 . exact zfl _ _ _ _ fun e=>by have:=(hx q e).1;omega
theorem zdp {xs:List Int} {f:Lay->Lay×Str} {R R':Nat->Nat->Prop} (hf:Lays xs f R') {s:Lay} (hs:LInv s) {a:Nat} {x:Str} (hx:Good xs s a s.sets.length x R):
   LInv (joinL (f s).1 x (f s).2)∧(∃ l,(joinL (f s).1 x (f s).2).sets=s.sets++l)∧(∀ q,q<a->(joinL (f s).1 x (f s).2).follow.getD q []=s.follow.getD q [])∧
     Good xs (joinL (f s).1 x (f s).2) a (joinL (f s).1 x (f s).2).sets.length (joinX x (f s).2) (fun i j=>∃ k,R i k∧R' k j):=by
 obtain⟨hm,hg⟩:=hf s hs;have hle:=hm.le;have hxa:=hx.le;obtain⟨h1,h2⟩:=zgz (y:=(f s).2) hm.inv (n:=a) (x:=x) (fun p hp=>⟨(hx.last p hp).1,by have:=(hx.last p hp).2;omega⟩) (fun p hp=>(hg.first p hp).2);exact⟨h1,hm.sets,fun q hq=>(h2 q hq).trans (hm.keep q (by omega)),zr8 hm.inv (Nat.le_refl _) (hx.more hm (Nat.le_refl _)) hg⟩
theorem zfn {xs:List Int} {f:Lay->Lay×Str} {R:Nat->Nat->Prop} (hf:Lays xs f R):∀ (m:Nat) (s:Lay) (x:Str) (a n:Nat),LInv s->Good xs s a s.sets.length x (iter R n)->
   LInv (copies f m s x).1∧(∃ l,(copies f m s x).1.sets=s.sets++l)∧(∀ q,q<a->(copies f m s x).1.follow.getD q []=s.follow.getD q [])∧Good xs (copies f m s x).1 a (copies f m s x).1.sets.length (copies f m s x).2 (iter R (n+m))
 | 0,s,x,a,n,hs,hx=>⟨hs,⟨[],by simp[copies]⟩,fun _ _=>rfl,hx⟩
 | m+1,s,x,a,n,hs,hx=>by
   obtain⟨h1,⟨l,h2⟩,h3,h4⟩:=zdp hf hs hx;have ih:=zfn hf m _ _ a (n+1) h1 (h4.congr fun i j=>Iff.rfl);obtain⟨i1,⟨l',i2⟩,i3,i4⟩:=ih;refine⟨i1,⟨l++l',?_⟩,fun q hq=>(i3 q hq).trans (h3 q hq),?_⟩
   . rw[copies,i2,h2,List.append_assoc]
   . rw[show n+(m+1)=n+1+m by omega];exact i4
theorem zdq {R:Nat->Nat->Prop}:∀ (m i j:Nat),(∃ k,R i k∧iter R m k j)↔iter R (m+1) i j
 | 0,i,j=>by
   constructor
   . rintro⟨k,h,e⟩;have e':k=j:=e;subst e';exact⟨i,rfl,h⟩
   . rintro⟨k,e,h⟩;have e':i=k:=e;subst e';exact⟨j,h,rfl⟩
 | m+1,i,j=>by
   constructor
   . rintro⟨k,h,l,h2,h3⟩;exact⟨l,(zdq m i l).1 ⟨k,h,h2⟩,h3⟩
   . rintro⟨l,h,h3⟩;obtain⟨k,h1,h2⟩:=(zdq m i l).2 h;exact⟨k,h1,l,h2,h3⟩
theorem zex {R:Nat->Nat->Prop} (a:Nat):∀ (b i j:Nat),iter R (a+b) i j↔∃ k,iter R a i k∧iter R b k j
 | 0,i,j=>by
   constructor
   . intro h;exact⟨j,h,rfl⟩
   . rintro⟨k,h,e⟩;have e':k=j:=e;subst e';exact h
 | b+1,i,j=>by
   constructor
   . rintro⟨k,h1,h2⟩;obtain⟨l,h3,h4⟩:=(zex a b i k).1 h1;exact⟨l,h3,k,h4,h2⟩
   . rintro⟨l,h3,k,h4,h2⟩;exact⟨k,(zex a b i k).2 ⟨l,h3,h4⟩,h2⟩
theorem zcg {xs:List Int} {f:Lay->Lay×Str} {R:Nat->Nat->Prop} (hf:Lays xs f R):∀ d,Lays xs (within f d) (fun i j=>∃ m,m<=d∧iter R m i j)
 | 0,s,hs=>⟨More.refl hs,(zcs (xs:=xs) (s:=s) s.sets.length).congr fun i j=>by
   constructor
   . intro e;exact⟨0,Nat.le_refl _,e⟩
   . rintro⟨m,hm,h⟩;have:m=0:=by omega
     subst this;exact h⟩
 | d+1,s,hs=>by
   obtain⟨hm,hg⟩:=hf s hs;obtain⟨h1,⟨l,h2⟩,h3,h4⟩:=zdp (zcg hf d) hm.inv hg;obtain⟨l0,h0⟩:=hm.sets;refine⟨⟨h1,⟨l0++l,?_⟩,fun q hq=>(h3 q hq).trans (hm.keep q hq)⟩,?_⟩
   . show (joinL (within f d (f s).1).1 (f s).2 (within f d (f s).1).2).sets=_
     rw[h2,h0,List.append_assoc]
   . refine (ztr h4).congr fun i j=>?_
     constructor
     . rintro (e|⟨k,hk,m,hm,h⟩)
       . exact⟨0,by omega,e⟩
       . exact⟨m+1,by omega,(zdq m i j).1 ⟨k,hk,h⟩⟩
     . rintro⟨m,hm,h⟩;cases m with
       | zero=>exact .inl h
       | succ m =>
         obtain⟨k,hk,h⟩:=(zdq m i j).2 h;exact .inr ⟨k,hk,m,by omega,h⟩
theorem ztk {xs:List Int} {f:Lay->Lay×Str} {R:Nat->Nat->Prop} (hf:Lays xs f R) (m d:Nat):Lays xs (repX f m d) (fun i j=>∃ k,m<=k∧k<=m+d∧iter R k i j):=by
 intro s hs;obtain⟨h1,⟨l,h2⟩,h3,h4⟩:=zfn hf m s .nothing s.sets.length 0 hs (zcs _);obtain⟨k1,⟨l',k2⟩,k3,k4⟩:=zdp (zcg hf d) h1 h4;refine⟨⟨k1,⟨l++l',?_⟩,fun q hq=>(k3 q hq).trans (h3 q hq)⟩,?_⟩
 . show (joinL (within f d (copies f m s .nothing).1).1 (copies f m s .nothing).2 (within f d (copies f m s .nothing).1).2).sets=_
   rw[k2,h2,List.append_assoc]
 . refine k4.congr fun i j=>?_
   rw[Nat.zero_add];constructor
   . rintro⟨k,h,n,hn,h'⟩;exact⟨m+n,by omega,by omega,(zex m n i j).2 ⟨k,h,h'⟩⟩
   . rintro⟨k,hk1,hk2,h⟩;rw[show k=m+(k-m) by omega] at h;obtain⟨r,h5,h6⟩:=(zex m (k-m) i j).1 h;exact⟨r,h5,k-m,by omega,h6⟩
theorem zm4 {xs:List Int}:∀ (l:List T),(∀ t∈l,Lays xs (layP t) (E xs t))->∀ (s:Lay) (x:Str) (a:Nat) (R:Nat->Nat->Prop),LInv s->Good xs s a s.sets.length x R->
   LInv (catP l s x).1∧(∃ m,(catP l s x).1.sets=s.sets++m)∧(∀ q,q<a->(catP l s x).1.follow.getD q []=s.follow.getD q [])∧Good xs (catP l s x).1 a (catP l s x).1.sets.length (catP l s x).2 (fun i j=>∃ k,R i k∧ECat xs l k j)
 | [],_,s,x,a,R,hs,hx=>⟨by simpa [catP] using hs,⟨[],by simp[catP]⟩,fun _ _=>by simp[catP],by
   simp only[catP,ECat];exact hx.congr fun i j=>by simp⟩
 | t::ts,h,s,x,a,R,hs,hx=>by
   obtain⟨h1,⟨m,h2⟩,h3,h4⟩:=zdp (h t (by simp)) hs hx;obtain⟨i1,⟨m',i2⟩,i3,i4⟩:=zm4 ts (fun t ht=>h t (by simp[ht])) _ _ a _ h1 h4;simp only[catP];refine⟨i1,⟨m++m',by rw[i2,h2,List.append_assoc]⟩,fun q hq=>(i3 q hq).trans (h3 q hq),i4.congr fun i j=>?_⟩;simp only[ECat];constructor
   . rintro⟨k,⟨k',a1,a2⟩,a3⟩;exact⟨k',a1,k,a2,a3⟩
   . rintro⟨k',a1,k,a2,a3⟩;exact⟨k,⟨k',a1,a2⟩,a3⟩
theorem zm5 {xs:List Int}:∀ (l:List T),(∀ t∈l,Lays xs (layP t) (E xs t))->∀ (s:Lay) (x:Str) (a:Nat) (R:Nat->Nat->Prop),LInv s->Good xs s a s.sets.length x R->
   More s (altP l s x).1∧Good xs (altP l s x).1 a (altP l s x).1.sets.length (altP l s x).2 (fun i j=>R i j∨EAny xs l i j)
 | [],_,s,x,a,R,hs,hx=>⟨by simpa [altP] using More.refl hs,by
   simp only[altP,EAny];exact hx.congr fun i j=>by simp⟩
 | t::ts,h,s,x,a,R,hs,hx=>by
   obtain⟨hm,hg⟩:=h t (by simp) s hs;obtain⟨i1,i2⟩:=zm5 ts (fun t ht=>h t (by simp[ht])) _ _ a _ hm.inv (zts (hx.more hm (Nat.le_refl _)) hg);simp only[altP];exact⟨hm.trans i1,i2.congr fun i j=>by simp only[EAny,or_assoc]⟩
theorem zdc {xs:List Int} {t:T} (ht:WF t):Lays xs (layP t) (E xs t):=by
 induction ht with
 | one p =>
   intro s hs;simp only[layP,if_true];refine⟨zq5 hs p,?_⟩;have:(oneL s p).sets.length=s.sets.length+1:=by simp[oneL]
   rw[this];exact (ztq hs p).congr fun i j=>E_one.symm
 | cat l h2 hN h ih =>
   intro s hs;obtain⟨h1,h3,h4,h5⟩:=zm4 l ih s .nothing s.sets.length _ hs (zcs _);simp only[layP];exact⟨⟨h1,h3,h4⟩,h5.congr fun i j=>by rw[zom];simp⟩
 | alt l h2 hN h ih =>
   intro s hs;obtain⟨h1,h3⟩:=zm5 l ih s .void s.sets.length _ hs (zr7 _);simp only[layP];exact⟨h1,h3.congr fun i j=>by rw[zon];simp⟩
 | rep m n t h0 h1 h2 h3 h ih =>
   intro s hs;have:=ztk (show Lays xs (headP [t]) (E xs t) from fun s hs=>by simpa only [headP] using ih s hs) m.toNat (n-m).toNat s hs;simp only[layP];refine⟨this.1,this.2.congr fun i j=>?_⟩;rw[zl4,zbi];constructor
   . rintro⟨k,a1,a2,a3⟩;exact⟨k,by omega,by omega,a3⟩
   . rintro⟨k,a1,a2,a3⟩;exact⟨k,by omega,by omega,a3⟩
def lay0 (t:T):Lay×Str:=layP t ⟨[],[]⟩
theorem zc7 {xs:List Int} {t:T} (ht:WF t):LInv (lay0 t).1∧Good xs (lay0 t).1 0 (lay0 t).1.sets.length (lay0 t).2 (E xs t):=by
 have:=zdc (xs:=xs) ht ⟨[],[]⟩ ⟨rfl,fun q p h=>by simp at h⟩;exact⟨this.1.inv,this.2⟩
mutual
def plR:T->Nat
 | .mk op p lo hi l=>if op=1 then 1 else if op=4 then hi.toNat*plRL l else plRL l
def plRL:List T->Nat
 | []=>0
 | t::ts=>plR t+plRL ts
end
theorem zf4 {f:Lay->Lay×Str} {k:Nat} (hf:∀ s,(f s).1.sets.length=s.sets.length+k):∀ (d:Nat) (s:Lay),(within f d s).1.sets.length=s.sets.length+d*k
 | 0,s=>by simp[within]
 | d+1,s=>by
   show (within f d (f s).1).1.sets.length=_
   rw[zf4 hf d,hf,Nat.succ_mul];omega
theorem zfv {f:Lay->Lay×Str} {k:Nat} (hf:∀ s,(f s).1.sets.length=s.sets.length+k):∀ (m:Nat) (s:Lay) (x:Str),(copies f m s x).1.sets.length=s.sets.length+m*k
 | 0,s,x=>by simp[copies]
 | m+1,s,x=>by
   rw[copies,zfv hf m]
   show (f s).1.sets.length+m*k=_
   rw[hf,Nat.succ_mul];omega
theorem zms:∀ (l:List T),(∀ t∈l,∀ s,(layP t s).1.sets.length=s.sets.length+plR t)->∀ s x,(catP l s x).1.sets.length=s.sets.length+plRL l
 | [],_,s,x=>by simp[catP,plRL]
 | t::ts,h,s,x=>by
   simp only[catP,plRL];rw[zms ts fun t ht=>h t (by simp[ht])]
   show (layP t s).1.sets.length+plRL ts=_
   rw[h t (by simp)];omega
theorem zn0:∀ (l:List T),(∀ t∈l,∀ s,(layP t s).1.sets.length=s.sets.length+plR t)->∀ s x,(altP l s x).1.sets.length=s.sets.length+plRL l
 | [],_,s,x=>by simp[altP,plRL]
 | t::ts,h,s,x=>by
   simp only[altP,plRL];rw[zn0 ts fun t ht=>h t (by simp[ht]),h t (by simp)];omega
theorem zm6 {t:T} (ht:WF t):∀ s,(layP t s).1.sets.length=s.sets.length+plR t:=by
 induction ht with
 | one p=>intro s;simp[layP,plR,oneL]
 | cat l h2 hN h ih=>intro s;simp only[layP,plR];simpa using zms l ih s .nothing
 | alt l h2 hN h ih=>intro s;simp only[layP,plR];simpa using zn0 l ih s .void
 | rep m n t h0 h1 h2 h3 h ih =>
   intro s;have hh:∀ s,(headP [t] s).1.sets.length=s.sets.length+plR t:=fun s=>by simpa only [headP] using ih s
   have e:plR (.mk 4 noneP m n [t])=n.toNat*plR t:=(by simp[plR,plRL]);rw[e];simp only[layP]
   show (within (headP [t]) (n-m).toNat (copies (headP [t]) m.toNat s .nothing).1).1.sets.length=_
   rw[zf4 hh,zfv hh,show n.toNat=m.toNat+(n-m).toNat by omega,Nat.add_mul];omega
theorem zhp:∀ (l:List Nat) (a b:Nat),l.Pairwise (· < ·)->(∀ p∈l,a<=p∧p<b)->l.length<=b-a
 | [],a,b,_,_=>Nat.zero_le _
 | p::ps,a,b,h,hb=>by
   rw[List.pairwise_cons] at h;have ih:=zhp ps (p+1) b h.2 fun q hq=>⟨h.1 q hq,(hb q (by simp[hq])).2⟩
   have:=hb p (by simp);simp only[List.length_cons];omega
end
section
open Go Go.RowKit
theorem zg8 {xs:List Int} (l:List T) (j:Nat) (h:j<l.length) (i x:Nat):EAny xs (l.take (j+1)) i x↔EAny xs (l.take j) i x∨E xs (l[j]'h) i x:=by
 rw[List.take_succ_eq_append_getElem h,zd8,zd8];simp only[List.mem_append,List.mem_singleton];constructor
 . rintro⟨t,h1|h1,h2⟩
   . exact .inl ⟨t,h1,h2⟩
   . exact .inr (h1▸h2)
 . rintro (⟨t,h1,h2⟩|h2)
   . exact⟨t,.inl h1,h2⟩
   . exact⟨_,.inr rfl,h2⟩
theorem zk6 {xs:List Int} (l:List T) (j:Nat) (h:j<l.length) (i x:Nat):ECat xs (l.take (j+1)) i x↔∃ y,ECat xs (l.take j) i y∧E xs (l[j]'h) y x:=by
 rw[List.take_succ_eq_append_getElem h,zn3];simp[ECat]
end
end Go.Proofs.YtgbdanddbgomhaaDoor
