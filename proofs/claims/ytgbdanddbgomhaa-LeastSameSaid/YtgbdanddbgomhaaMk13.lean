import Derived.Test.YtgbdanddbgomhaaMk11
set_option linter.unusedVariables false
set_option linter.unusedSimpArgs false
namespace Go.Proofs.Ytgbdanddbgomhaa
open Go
section
inductive WF:T->Prop where
 | one (p:Nat->Bool):WF (.mk 1 p 0 0 [])
 | cat (l:List T) (h2:2<=l.length) (hN:l.length<=202) (h:∀ x∈l,WF x):WF (.mk 2 noneP 0 0 l)
 | alt (l:List T) (h2:2<=l.length) (hN:l.length<=202) (h:∀ x∈l,WF x):WF (.mk 3 noneP 0 0 l)
 | rep (m n:Int) (t:T) (h0:0<=m) (h1:m<=n) (h2:1<=n) (h3:n<=32) (h:WF t):WF (.mk 4 noneP m n [t])
theorem zx9 {N:Nat} (hN:N<=202):Made N WF:=⟨.one,.rep,fun l h1 h2 => .cat l h1 (by omega),fun l h1 h2 => .alt l h1 (by omega)⟩
theorem zit {s:ByteArray} {t:T} (h:parse s = .ok t):WF t:=(zx9 (by have:=zp3 h;omega)).parse h
def iter (Rl:Nat->Nat->Prop):Nat->Nat->Nat->Prop
 | 0,i,j=>i=j
 | m+1,i,j=>∃ k,iter Rl m i k∧Rl k j
mutual
def E (xs:List Int):T->Nat->Nat->Prop
 | .mk op p lo hi l=>fun i j =>
   (op=1∧i<xs.length∧p (xs.getD i 0).toNat=true∧j=i+1)∨(op=2∧ECat xs l i j)∨(op=3∧EAny xs l i j)∨
   (op=4∧∃ m:Nat,lo<=m∧(m:Int)<=hi∧iter (EAny xs l) m i j)
def ECat (xs:List Int):List T->Nat->Nat->Prop
 | []=>fun i j=>i=j
 | t::ts=>fun i j=>∃ k,E xs t i k∧ECat xs ts k j
def EAny (xs:List Int):List T->Nat->Nat->Prop
 | []=>fun _ _=>False
 | t::ts=>fun i j=>E xs t i j∨EAny xs ts i j
end
section
variable {xs:List Int}
theorem E_one {p:Nat->Bool} {lo hi:Int} {l:List T} {i j:Nat}:E xs (.mk 1 p lo hi l) i j↔i<xs.length∧p (xs.getD i 0).toNat=true∧j=i+1:=by
 simp[E]
theorem zzp {p:Nat->Bool} {lo hi:Int} {l:List T} {i j:Nat}:E xs (.mk 2 p lo hi l) i j↔ECat xs l i j:=by
 simp[E]
theorem zzq {p:Nat->Bool} {lo hi:Int} {l:List T} {i j:Nat}:E xs (.mk 3 p lo hi l) i j↔EAny xs l i j:=by
 simp[E]
theorem zzo {p:Nat->Bool} {lo hi:Int} {l:List T} {i j:Nat}:E xs (.mk 4 p lo hi l) i j↔∃ m:Nat,lo<=m∧(m:Int)<=hi∧iter (EAny xs l) m i j:=by
 simp[E]
theorem zwu {t:T}:EAny xs [t]=E xs t:=by
 funext i j
 simp[EAny]
def img (Rl:Nat->Nat->Prop) (S:Nat->Prop):Nat->Prop:=fun j=>∃ i,S i∧Rl i j
def imgN (Rl:Nat->Nat->Prop) (S:Nat->Prop):Nat->Nat->Prop
 | 0=>S
 | m+1=>img Rl (imgN Rl S m)
def upTo (Rl:Nat->Nat->Prop) (S:Nat->Prop) (m:Nat):Nat->Prop:=fun j=>∃ k,k<=m∧imgN Rl S k j
end
structure Found (Rl:Nat->Nat->Prop) (S:Nat->Prop) (r:Nat) (found fresh:Nat->Prop):Prop where
 all:∀ j,found j↔upTo Rl S r j
 sub:∀ j,fresh j->found j
 old:∀ i j,found i->¬ fresh i->Rl i j->found j
end
section
structure Str where
 first:List Nat
 last:List Nat
 empty:Bool
structure Lay where
 sets:List (Nat->Bool)
 follow:List (List Nat)
def Str.nothing:Str:=⟨[],[],true⟩
def Str.void:Str:=⟨[],[],false⟩
def linkAt (f:List (List Nat)) (p:Nat) (ys:List Nat):List (List Nat):=f.set p (f.getD p []++ys)
def linkAll:List (List Nat)->List Nat->List Nat->List (List Nat)
 | f,[],_=>f
 | f,p::ps,ys=>linkAll (linkAt f p ys) ps ys
def joinX (x y:Str):Str:=⟨if x.empty then x.first++y.first else x.first,if y.empty then x.last++y.last else y.last,x.empty&&y.empty⟩
def joinL (s:Lay) (x y:Str):Lay:=⟨s.sets,linkAll s.follow x.last y.first⟩
def altX (x y:Str):Str:=⟨x.first++y.first,x.last++y.last,x.empty||y.empty⟩
def copies (f:Lay->Lay×Str):Nat->Lay->Str->Lay×Str
 | 0,s,x=>(s,x)
 | m+1,s,x=>copies f m (joinL (f s).1 x (f s).2) (joinX x (f s).2)
def within (f:Lay->Lay×Str):Nat->Lay->Lay×Str
 | 0,s=>(s,.nothing)
 | d+1,s=>(joinL (within f d (f s).1).1 (f s).2 (within f d (f s).1).2,⟨(joinX (f s).2 (within f d (f s).1).2).first,(joinX (f s).2 (within f d (f s).1).2).last,true⟩)
def repX (f:Lay->Lay×Str) (m d:Nat) (s:Lay):Lay×Str:=
 (joinL (within f d (copies f m s .nothing).1).1 (copies f m s .nothing).2 (within f d (copies f m s .nothing).1).2,joinX (copies f m s .nothing).2 (within f d (copies f m s .nothing).1).2)
def oneL (s:Lay) (p:Nat->Bool):Lay:=⟨s.sets++[p],s.follow++[[]]⟩
def oneX (s:Lay):Str:=⟨[s.sets.length],[s.sets.length],false⟩
mutual
def layP:T->Lay->Lay×Str
 | .mk op p lo hi l=>fun s =>
   if op=1 then (oneL s p,oneX s)
   else if op=2 then catP l s .nothing
   else if op=3 then altP l s .void
   else if op=4 then repX (headP l) lo.toNat (hi-lo).toNat s
   else (s,.void)
def catP:List T->Lay->Str->Lay×Str
 | []=>fun s x=>(s,x)
 | t::ts=>fun s x=>catP ts (joinL (layP t s).1 x (layP t s).2) (joinX x (layP t s).2)
def altP:List T->Lay->Str->Lay×Str
 | []=>fun s x=>(s,x)
 | t::ts=>fun s x=>altP ts (layP t s).1 (altX x (layP t s).2)
def headP:List T->Lay->Lay×Str
 | []=>fun s=>(s,.void)
 | t::_=>fun s=>layP t s
end
structure LInv (s:Lay):Prop where
 len:s.follow.length=s.sets.length
 lt:∀ q p,p∈s.follow.getD q []->p<s.sets.length
theorem znt {α:Type} (l:List α) (i j:Nat) (a d:α):(l.set i a).getD j d=if j=i∧i<l.length then a else l.getD j d:=by
 simp only[List.getD_eq_getElem?_getD,List.getElem?_set]
 by_cases h:i=j
 . subst h
   by_cases h2:i<l.length
   . simp[h2]
   . simp[h2]
 . have h':¬ j=i:=fun e=>h e.symm
   simp[h,h']
theorem zcr (f:List (List Nat)) (p:Nat) (ys:List Nat):(linkAt f p ys).length=f.length:=by simp[linkAt]
theorem zcg:∀ (ps:List Nat) (f:List (List Nat)) (ys:List Nat),(linkAll f ps ys).length=f.length
 | [],f,ys=>rfl
 | p::ps,f,ys=>by rw[linkAll,zcg ps,zcr]
theorem zff (f:List (List Nat)) (p q:Nat) (ys:List Nat) (hp:p<f.length):(linkAt f p ys).getD q []=if q=p then f.getD p []++ys else f.getD q []:=by
 rw[linkAt,znt]
 by_cases e:q=p <;> simp[e,hp]
theorem ze4:∀ (ps:List Nat) (f:List (List Nat)) (ys:List Nat),(∀ p∈ps,p<f.length)->∀ q r,r∈(linkAll f ps ys).getD q []↔r∈f.getD q []∨(q∈ps∧r∈ys)
 | [],f,ys,_,q,r=>by simp[linkAll]
 | p::ps,f,ys,h,q,r=>by
   rw[linkAll,ze4 ps _ ys (fun p' hp'=>by rw[zcr];exact h p' (by simp[hp'])),zff f p q ys (h p (by simp))]
   by_cases e:q=p
   . subst e;simp;intro _ a;exact .inr a
   . simp[e]
theorem zgq:∀ (ps:List Nat) (f:List (List Nat)) (ys:List Nat) (q:Nat),q∉ps->(linkAll f ps ys).getD q []=f.getD q []
 | [],f,ys,q,_=>rfl
 | p::ps,f,ys,q,h=>by
   rw[linkAll,zgq ps _ ys q (fun e=>h (by simp[e])),linkAt,znt,if_neg];rintro⟨e,_⟩;exact h (by simp[e])
def eats (xs:List Int) (s:Lay) (p i:Nat):Prop:=i<xs.length∧(s.sets.getD p noneP) (xs.getD i 0).toNat=true
def fol (s:Lay) (q p:Nat):Prop:=p∈s.follow.getD q []
inductive Goes (S φ:Nat->Nat->Prop) (F:Nat->Prop) (i:Nat):Nat->Nat->Prop
 | start (p:Nat) (h:F p) (hs:S p i):Goes S φ F i p (i+1)
 | step (q p j:Nat) (h:Goes S φ F i q j) (hf:φ q p) (hs:S p j):Goes S φ F i p (j+1)
def Rec (S φ:Nat->Nat->Prop) (x:Str) (i j:Nat):Prop:=(x.empty=true∧i=j)∨∃ p,p∈x.last∧Goes S φ (· ∈ x.first) i p j
section
variable {S S' φ φ':Nat->Nat->Prop} {F F':Nat->Prop} {i j p:Nat}
theorem Goes.mono (h:Goes S φ F i p j) (hS:∀ p i,S p i->S' p i) (hφ:∀ q p,φ q p->φ' q p) (hF:∀ p,F p->F' p):Goes S' φ' F' i p j:=by
 induction h with
 | start p h hs=>exact .start p (hF p h) (hS _ _ hs)
 | step q p j h hf hs ih=>exact .step q p j ih (hφ _ _ hf) (hS _ _ hs)
theorem Goes.same {a b:Nat} (h:Goes S φ F i p j) (hS:∀ p i,a<=p->p<b->S p i->S' p i) (hφ:∀ q p,a<=q->q<b->φ q p->φ' q p∧a<=p∧p<b) (hF:∀ p,F p->a<=p∧p<b):Goes S' φ' F i p j∧a<=p∧p<b:=by
 induction h with
 | start p h hs=>exact⟨.start p h (hS _ _ (hF p h).1 (hF p h).2 hs),hF p h⟩
 | step q p j h hf hs ih =>
   obtain⟨h1,h2,h3⟩:=ih;obtain⟨h4,h5,h6⟩:=hφ q p h2 h3 hf;exact⟨.step q p j h1 h4 (hS _ _ h5 h6 hs),h5,h6⟩
end
structure Good (xs:List Int) (s:Lay) (a b:Nat) (x:Str) (Rl:Nat->Nat->Prop):Prop where
 le:a<=b
 first:∀ p,p∈x.first->a<=p∧p<b
 last:∀ p,p∈x.last->a<=p∧p<b
 stay:∀ q p,a<=q->q<b->fol s q p->a<=p∧p<b
 sf:x.first.Pairwise (· < ·)
 sl:x.last.Pairwise (· < ·)
 st:∀ q,a<=q->q<b->(s.follow.getD q []).Pairwise (· < ·)
 has:∀ i j,Rec (eats xs s) (fol s) x i j↔Rl i j
section
variable {xs:List Int} {s s':Lay} {a b c:Nat} {x y:Str} {R R':Nat->Nat->Prop}
theorem Good.later (h:Good xs s a b x R) (hS:∀ p,p<b->s'.sets.getD p noneP=s.sets.getD p noneP) (hF:∀ q,q<b->s'.follow.getD q []=s.follow.getD q []):Good xs s' a b x R:=by
 have hf:∀ q,q<b->∀ p,fol s' q p↔fol s q p:=fun q hq p=>by unfold fol;rw[hF q hq]
 have he:∀ p i,p<b->(eats xs s' p i↔eats xs s p i):=fun p i hp=>by unfold eats;rw[hS p hp]
 refine⟨h.le,h.first,h.last,fun q p h1 h2 h3=>h.stay q p h1 h2 ((hf q h2 p).1 h3),h.sf,h.sl,fun q h1 h2=>by rw[hF q h2];exact h.st q h1 h2,fun i j=>?_⟩;rw[←h.has];unfold Rec;constructor
 . rintro (e|⟨p,hp,hg⟩)
   . exact .inl e
   . exact .inr ⟨p,hp,(hg.same (a:=a) (b:=b) (fun p i _ hb hs=>(he p i hb).1 hs) (fun q p h1 h2 h3=>⟨(hf q h2 p).1 h3,h.stay q p h1 h2 ((hf q h2 p).1 h3)⟩) h.first).1⟩
 . rintro (e|⟨p,hp,hg⟩)
   . exact .inl e
   . exact .inr ⟨p,hp,(hg.same (a:=a) (b:=b) (fun p i _ hb hs=>(he p i hb).2 hs) (fun q p h1 h2 h3=>⟨(hf q h2 p).2 h3,h.stay q p h1 h2 h3⟩) h.first).1⟩
theorem Good.congr (h:Good xs s a b x R) (hR:∀ i j,R i j↔R' i j):Good xs s a b x R':=⟨h.le,h.first,h.last,h.stay,h.sf,h.sl,h.st,fun i j=>(h.has i j).trans (hR i j)⟩
theorem zdh (a:Nat):Good xs s a a .nothing (fun i j=>i=j):=
 ⟨Nat.le_refl _,by simp[Str.nothing],by simp[Str.nothing],fun q p h1 h2 _=>by omega,by simp[Str.nothing],by simp[Str.nothing],fun q h1 h2=>by omega,fun i j=>by simp[Rec,Str.nothing]⟩
theorem zsr (a:Nat):Good xs s a a .void (fun _ _=>False):=
 ⟨Nat.le_refl _,by simp[Str.void],by simp[Str.void],fun q p h1 h2 _=>by omega,by simp[Str.void],by simp[Str.void],fun q h1 h2=>by omega,fun i j=>by simp[Rec,Str.void]⟩
theorem zvw (hl:LInv s) (p:Nat->Bool):Good xs (oneL s p) s.sets.length (s.sets.length+1) (oneX s) (fun i j=>i<xs.length∧p (xs.getD i 0).toNat=true∧j=i+1):=by
 have hd:∀ q,s.sets.length<=q->(oneL s p).follow.getD q []=[]:=fun q hq=>by
   unfold oneL;simp only[List.getD_eq_getElem?_getD];rw[List.getElem?_append_right (by rw[hl.len];exact hq)];rcases Nat.eq_zero_or_pos (q-s.follow.length) with e|e
   . rw[e];simp
   . rw[List.getElem?_eq_none (by simp;omega)];rfl
 have hf:∀ q r,s.sets.length<=q->¬ fol (oneL s p) q r:=fun q r hq h=>by
   unfold fol at h;rw[hd q hq] at h;simp at h
 have hs:∀ i,eats xs (oneL s p) s.sets.length i↔i<xs.length∧p (xs.getD i 0).toNat=true:=fun i=>by
   unfold eats oneL;simp
 refine⟨by omega,by simp[oneX],by simp[oneX],fun q r h1 _ h2=>absurd h2 (hf q r h1),by simp[oneX],by simp[oneX],fun q h1 _=>by rw[hd q h1];exact List.Pairwise.nil,fun i j=>?_⟩;simp only[Rec,oneX,List.mem_singleton];constructor
 . rintro (⟨e,_⟩|⟨q,rfl,hg⟩)
   . cases e
   . have:∀ r j,Goes (eats xs (oneL s p)) (fol (oneL s p)) (fun x=>x=s.sets.length) i r j->r=s.sets.length∧eats xs (oneL s p) r i∧j=i+1:=by
       intro r j h;induction h with
       | start r h hs=>exact⟨h,hs,rfl⟩
       | step q r j h hf' hs ih=>exact absurd hf' (hf q r (by rw[ih.1];exact Nat.le_refl _))
     obtain⟨_,h1,h2⟩:=this _ _ hg;exact⟨((hs i).1 h1).1,((hs i).1 h1).2,h2⟩
 . rintro⟨h1,h2,rfl⟩;exact .inr ⟨_,rfl,.start _ rfl ((hs i).2 ⟨h1,h2⟩)⟩
theorem zgp:∀ (ps:List Nat) (f:List (List Nat)) (ys:List Nat),(∀ p∈ps,p<f.length)->ps.Nodup->∀ q,(linkAll f ps ys).getD q []=if q∈ps then f.getD q []++ys else f.getD q []
 | [],f,ys,_,_,q=>by simp[linkAll]
 | p::ps,f,ys,h,hn,q=>by
   rw[List.nodup_cons] at hn;rw[linkAll,zgp ps _ ys (fun p' hp'=>by rw[zcr];exact h p' (by simp[hp'])) hn.2,zff f p q ys (h p (by simp))]
   by_cases e:q=p
   . subst e;simp[hn.1]
   . simp[e]
theorem zgv (hl:LInv s) (hx:∀ p∈x.last,p<s.sets.length) (q p:Nat):fol (joinL s x y) q p↔fol s q p∨(q∈x.last∧p∈y.first):=by
 unfold fol joinL;exact ze4 x.last s.follow y.first (fun p hp=>by rw[hl.len];exact hx p hp) q p
theorem zss (hl:LInv s) (hc:c<=s.sets.length) (hx:Good xs s a b x R) (hy:Good xs s b c y R'):Good xs (joinL s x y) a c (joinX x y) (fun i j=>∃ k,R i k∧R' k j):=by
 have hab:=hx.le;have hbc:=hy.le;have hfol:=zgv (y:=y) hl (fun p hp=>by have:=(hx.last p hp).2;omega);have heat:eats xs (joinL s x y)=eats xs s:=rfl;have hfirst:∀ p,p∈(joinX x y).first↔p∈x.first∨(x.empty=true∧p∈y.first):=fun p=>by
   unfold joinX;cases x.empty <;> simp
 have hlast:∀ p,p∈(joinX x y).last↔p∈y.last∨(y.empty=true∧p∈x.last):=fun p=>by
   unfold joinX;cases y.empty <;> simp[or_comm]
 have hA:∀ i p j,Goes (eats xs s) (fol (joinL s x y)) (· ∈ (joinX x y).first) i p j->(a<=p∧p<b∧Goes (eats xs s) (fol s) (· ∈ x.first) i p j)∨
     (b<=p∧p<c∧((x.empty=true∧Goes (eats xs s) (fol s) (· ∈ y.first) i p j)∨∃ q k,q∈x.last∧Goes (eats xs s) (fol s) (· ∈ x.first) i q k∧Goes (eats xs s) (fol s) (· ∈ y.first) k p j)):=by
   intro i p j h;induction h with
   | start p h hs =>
     rcases (hfirst p).1 h with h | ⟨e,h⟩
     . exact .inl ⟨(hx.first p h).1,(hx.first p h).2,.start p h hs⟩
     . exact .inr ⟨(hy.first p h).1,(hy.first p h).2,.inl ⟨e,.start p h hs⟩⟩
   | step q p j h hf hs ih =>
     rcases (hfol q p).1 hf with hf|⟨h1,h2⟩
     . rcases ih with ⟨i1,i2,i3⟩|⟨i1,i2,i3⟩
       . have:=hx.stay q p i1 i2 hf;exact .inl ⟨this.1,this.2,.step q p j i3 hf hs⟩
       . have:=hy.stay q p i1 i2 hf;refine .inr ⟨this.1,this.2,?_⟩;rcases i3 with ⟨e,i3⟩|⟨r,k,h3,h4,h5⟩
         . exact .inl ⟨e,.step q p j i3 hf hs⟩
         . exact .inr ⟨r,k,h3,h4,.step q p j h5 hf hs⟩
     . have hb:=hx.last q h1;have hp:=hy.first p h2
       refine .inr ⟨hp.1,hp.2,.inr ⟨q,j,h1,?_,.start p h2 hs⟩⟩;rcases ih with ⟨_,_,i3⟩|⟨i1,_,_⟩
       . exact i3
       . omega
 have hnd:x.last.Nodup:=hx.sl.imp fun h=>Nat.ne_of_lt h
 refine⟨by omega,fun p hp=>?_,fun p hp=>?_,fun q p h1 h2 h3=>?_,?_,?_,fun q h1 h2=>?_,fun i j=>?_⟩
 . rcases (hfirst p).1 hp with h | ⟨_,h⟩
   . have:=hx.first p h;omega
   . have:=hy.first p h;omega
 . rcases (hlast p).1 hp with h|⟨_,h⟩
   . have:=hy.last p h;omega
   . have:=hx.last p h;omega
 . rcases (hfol q p).1 h3 with h|⟨h4,h5⟩
   . rcases Nat.lt_or_ge q b with hq|hq
     . have:=hx.stay q p h1 hq h;omega
     . have:=hy.stay q p hq h2 h;omega
   . have:=hy.first p h5;omega
 . unfold joinX;cases x.empty
   . exact hx.sf
   . exact List.pairwise_append.2 ⟨hx.sf,hy.sf,fun p hp q hq=>by have:=hx.first p hp;have:=hy.first q hq;omega⟩
 . unfold joinX;cases y.empty
   . exact hy.sl
   . exact List.pairwise_append.2 ⟨hx.sl,hy.sl,fun p hp q hq=>by have:=hx.last p hp;have:=hy.last q hq;omega⟩
 . unfold joinL
   show ((linkAll s.follow x.last y.first).getD q []).Pairwise (· < ·)
   rw[zgp x.last s.follow y.first (fun p hp=>by rw[hl.len];have:=(hx.last p hp).2;omega) hnd q];rcases Nat.lt_or_ge q b with hq | hq
   . split
     . refine List.pairwise_append.2 ⟨hx.st q h1 hq,hy.sf,fun p hp r hr=>?_⟩;have:=hx.stay q p h1 hq hp;have:=hy.first r hr
       omega
     . exact hx.st q h1 hq
   . rw[if_neg (fun e=>by have:=(hx.last q e).2;omega)];exact hy.st q hq h2
 . simp only[←hx.has,←hy.has];unfold Rec;rw[heat];constructor
   . rintro (⟨e,rfl⟩|⟨p,hp,hg⟩)
     . have e':x.empty=true∧y.empty=true:=(by simpa [joinX] using e);exact⟨i,.inl ⟨e'.1,rfl⟩,.inl ⟨e'.2,rfl⟩⟩
     . rcases hA i p j hg with ⟨h1,h2,h3⟩|⟨h1,h2,h3⟩
       . rcases (hlast p).1 hp with h|⟨e,h⟩
         . have:=hy.last p h;omega
         . exact⟨j,.inr ⟨p,h,h3⟩,.inl ⟨e,rfl⟩⟩
       . have hp':p∈y.last:=by
           rcases (hlast p).1 hp with h|⟨e,h⟩
           . exact h
           . have:=hx.last p h;omega
         rcases h3 with ⟨e,h3⟩|⟨q,k,h4,h5,h6⟩
         . exact⟨i,.inl ⟨e,rfl⟩,.inr ⟨p,hp',h3⟩⟩
         . exact⟨k,.inr ⟨q,h4,h5⟩,.inr ⟨p,hp',h6⟩⟩
   . have up:∀ {i p j},Goes (eats xs s) (fol s) (· ∈ x.first) i p j->Goes (eats xs s) (fol (joinL s x y)) (· ∈ (joinX x y).first) i p j:=fun h =>
       h.mono (fun _ _ h=>h) (fun q p h=>(hfol q p).2 (.inl h)) fun p h=>(hfirst p).2 (.inl h)
     rintro⟨k,(⟨e,rfl⟩|⟨q,hq,hg⟩),(⟨e',rfl⟩|⟨p,hp,hg'⟩)⟩
     . exact .inl ⟨by simp[joinX,e,e'],rfl⟩
     . exact .inr ⟨p,(hlast p).2 (.inl hp),hg'.mono (fun _ _ h=>h) (fun q p h=>(hfol q p).2 (.inl h)) fun p h=>(hfirst p).2 (.inr ⟨e,h⟩)⟩
     . exact .inr ⟨q,(hlast q).2 (.inr ⟨e',hq⟩),up hg⟩
     . refine .inr ⟨p,(hlast p).2 (.inl hp),?_⟩;clear hp;induction hg' with
       | start p h hs=>exact .step q p k (up hg) ((hfol q p).2 (.inr ⟨hq,h⟩)) hs
       | step r p j h hf hs ih=>exact .step r p j ih ((hfol r p).2 (.inl hf)) hs
theorem zvy (hx:Good xs s a b x R) (hy:Good xs s b c y R'):Good xs s a c (altX x y) (fun i j=>R i j∨R' i j):=by
 have hab:=hx.le;have hbc:=hy.le;have hA:∀ i p j,Goes (eats xs s) (fol s) (· ∈ (altX x y).first) i p j->(a<=p∧p<b∧Goes (eats xs s) (fol s) (· ∈ x.first) i p j)∨(b<=p∧p<c∧Goes (eats xs s) (fol s) (· ∈ y.first) i p j):=by
   intro i p j h;induction h with
   | start p h hs =>
     rcases List.mem_append.1 (show p∈x.first++y.first from h) with h | h
     . exact .inl ⟨(hx.first p h).1,(hx.first p h).2,.start p h hs⟩
     . exact .inr ⟨(hy.first p h).1,(hy.first p h).2,.start p h hs⟩
   | step q p j h hf hs ih =>
     rcases ih with ⟨i1,i2,i3⟩|⟨i1,i2,i3⟩
     . have:=hx.stay q p i1 i2 hf;exact .inl ⟨this.1,this.2,.step q p j i3 hf hs⟩
     . have:=hy.stay q p i1 i2 hf;exact .inr ⟨this.1,this.2,.step q p j i3 hf hs⟩
 refine⟨by omega,fun p hp=>?_,fun p hp=>?_,fun q p h1 h2 h3=>?_,List.pairwise_append.2 ⟨hx.sf,hy.sf,fun p hp q hq=>by have:=hx.first p hp;have:=hy.first q hq;omega⟩,List.pairwise_append.2 ⟨hx.sl,hy.sl,fun p hp q hq=>by have:=hx.last p hp;have:=hy.last q hq;omega⟩,fun q h1 h2=>?_,fun i j=>?_⟩
 . rcases List.mem_append.1 (show p∈x.first++y.first from hp) with h | h
   . have:=hx.first p h;omega
   . have:=hy.first p h;omega
 . rcases List.mem_append.1 (show p∈x.last++y.last from hp) with h|h
   . have:=hx.last p h;omega
   . have:=hy.last p h;omega
 . rcases Nat.lt_or_ge q b with hq|hq
   . have:=hx.stay q p h1 hq h3;omega
   . have:=hy.stay q p hq h2 h3;omega
 . rcases Nat.lt_or_ge q b with hq|hq
   . exact hx.st q h1 hq
   . exact hy.st q hq h2
 . simp only[←hx.has,←hy.has];unfold Rec;constructor
   . rintro (⟨e,rfl⟩|⟨p,hp,hg⟩)
     . have e':x.empty=true∨y.empty=true:=(by simpa [altX] using e);rcases e' with e|e
       . exact .inl (.inl ⟨e,rfl⟩)
       . exact .inr (.inl ⟨e,rfl⟩)
     . rcases hA i p j hg with ⟨h1,h2,h3⟩|⟨h1,h2,h3⟩
       . rcases List.mem_append.1 (show p∈x.last++y.last from hp) with h|h
         . exact .inl (.inr ⟨p,h,h3⟩)
         . have:=hy.last p h;omega
       . rcases List.mem_append.1 (show p∈x.last++y.last from hp) with h|h
         . have:=hx.last p h;omega
         . exact .inr (.inr ⟨p,h,h3⟩)
   . rintro ((⟨e,rfl⟩|⟨p,hp,hg⟩)|(⟨e,rfl⟩|⟨p,hp,hg⟩))
     . exact .inl ⟨by simp[altX,e],rfl⟩
     . exact .inr ⟨p,List.mem_append.2 (.inl hp),hg.mono (fun _ _ h=>h) (fun _ _ h=>h) fun p h=>List.mem_append.2 (.inl h)⟩
     . exact .inl ⟨by simp[altX,e],rfl⟩
     . exact .inr ⟨p,List.mem_append.2 (.inr hp),hg.mono (fun _ _ h=>h) (fun _ _ h=>h) fun p h=>List.mem_append.2 (.inr h)⟩
theorem zvx (h:Good xs s a b x R):Good xs s a b ⟨x.first,x.last,true⟩ (fun i j=>i=j∨R i j):=by
 refine⟨h.le,h.first,h.last,h.stay,h.sf,h.sl,h.st,fun i j=>?_⟩;rw[←h.has];unfold Rec;constructor
 . rintro (⟨_,e⟩|h)
   . exact .inl e
   . exact .inr (.inr h)
 . rintro (e|(⟨_,e⟩|h))
   . exact .inl ⟨rfl,e⟩
   . exact .inl ⟨rfl,e⟩
   . exact .inr h
end
structure More (s s':Lay):Prop where
 inv:LInv s'
 sets:∃ l,s'.sets=s.sets++l
 keep:∀ q,q<s.sets.length->s'.follow.getD q []=s.follow.getD q []
theorem More.refl {s:Lay} (h:LInv s):More s s:=⟨h,⟨[],by simp⟩,fun _ _=>rfl⟩
theorem More.le {s s':Lay} (h:More s s'):s.sets.length<=s'.sets.length:=by
 obtain⟨l,e⟩:=h.sets;rw[e,List.length_append];omega
theorem More.trans {s s' s'':Lay} (h:More s s') (k:More s' s''):More s s'':=by
 have hl:=h.le;refine⟨k.inv,?_,fun q hq=>(k.keep q (by omega)).trans (h.keep q hq)⟩;obtain⟨l,e⟩:=h.sets;obtain⟨l',e'⟩:=k.sets;exact⟨l++l',by rw[e',e,List.append_assoc]⟩
theorem More.get {s s':Lay} (h:More s s') (p:Nat) (hp:p<s.sets.length):s'.sets.getD p noneP=s.sets.getD p noneP:=by
 obtain⟨l,e⟩:=h.sets;rw[e];simp only[List.getD_eq_getElem?_getD];rw[List.getElem?_append_left hp]
theorem Good.more {xs:List Int} {s s':Lay} {a b:Nat} {x:Str} {R:Nat->Nat->Prop} (h:Good xs s a b x R) (hm:More s s') (hb:b<=s.sets.length):Good xs s' a b x R:=
 h.later (fun p hp=>hm.get p (by omega)) fun q hq=>hm.keep q (by omega)
def Lays (xs:List Int) (f:Lay->Lay×Str) (R:Nat->Nat->Prop):Prop:=
 ∀ s,LInv s->More s (f s).1∧Good xs (f s).1 s.sets.length (f s).1.sets.length (f s).2 R
theorem zrh {s:Lay} (h:LInv s) (p:Nat->Bool):More s (oneL s p):=by
 refine⟨⟨by simp[oneL,h.len],fun q r hr=>?_⟩,⟨[p],rfl⟩,fun q hq=>?_⟩
 . simp only[oneL,List.getD_eq_getElem?_getD,List.length_append,List.length_singleton] at hr ⊢;rcases Nat.lt_or_ge q s.follow.length with hq|hq
   . rw[List.getElem?_append_left hq,←List.getD_eq_getElem?_getD] at hr;have:=h.lt q r hr;omega
   . rw[List.getElem?_append_right hq] at hr;rcases Nat.eq_zero_or_pos (q-s.follow.length) with e|e
     . rw[e] at hr;simp at hr
     . rw[List.getElem?_eq_none (by simp;omega)] at hr;simp at hr
 . simp only[oneL,List.getD_eq_getElem?_getD];rw[List.getElem?_append_left (by rw[h.len];exact hq)]
theorem zi6 {s:Lay} (h:LInv s) {x y:Str} {n:Nat} (hx:∀ p∈x.last,n<=p∧p<s.sets.length) (hy:∀ p∈y.first,p<s.sets.length):LInv (joinL s x y)∧∀ q,q<n->(joinL s x y).follow.getD q []=s.follow.getD q []:=by
 refine⟨⟨by simp[joinL,zcg,h.len],fun q p hp=>?_⟩,fun q hq=>?_⟩
 . rcases (zgv (y:=y) h (fun p hp=>(hx p hp).2) q p).1 hp with e|⟨_,e⟩
   . exact h.lt q p e
   . exact hy p e
 . exact zgq _ _ _ _ fun e=>by have:=(hx q e).1;omega
theorem zep {xs:List Int} {f:Lay->Lay×Str} {R R':Nat->Nat->Prop} (hf:Lays xs f R') {s:Lay} (hs:LInv s) {a:Nat} {x:Str} (hx:Good xs s a s.sets.length x R):
   LInv (joinL (f s).1 x (f s).2)∧(∃ l,(joinL (f s).1 x (f s).2).sets=s.sets++l)∧(∀ q,q<a->(joinL (f s).1 x (f s).2).follow.getD q []=s.follow.getD q [])∧
     Good xs (joinL (f s).1 x (f s).2) a (joinL (f s).1 x (f s).2).sets.length (joinX x (f s).2) (fun i j=>∃ k,R i k∧R' k j):=by
 obtain⟨hm,hg⟩:=hf s hs;have hle:=hm.le;have hxa:=hx.le;obtain⟨h1,h2⟩:=zi6 (y:=(f s).2) hm.inv (n:=a) (x:=x) (fun p hp=>⟨(hx.last p hp).1,by have:=(hx.last p hp).2;omega⟩) (fun p hp=>(hg.first p hp).2);exact⟨h1,hm.sets,fun q hq=>(h2 q hq).trans (hm.keep q (by omega)),zss hm.inv (Nat.le_refl _) (hx.more hm (Nat.le_refl _)) hg⟩
theorem zgs {xs:List Int} {f:Lay->Lay×Str} {R:Nat->Nat->Prop} (hf:Lays xs f R):∀ (m:Nat) (s:Lay) (x:Str) (a n:Nat),LInv s->Good xs s a s.sets.length x (iter R n)->
   LInv (copies f m s x).1∧(∃ l,(copies f m s x).1.sets=s.sets++l)∧(∀ q,q<a->(copies f m s x).1.follow.getD q []=s.follow.getD q [])∧Good xs (copies f m s x).1 a (copies f m s x).1.sets.length (copies f m s x).2 (iter R (n+m))
 | 0,s,x,a,n,hs,hx=>⟨hs,⟨[],by simp[copies]⟩,fun _ _=>rfl,hx⟩
 | m+1,s,x,a,n,hs,hx=>by
   obtain⟨h1,⟨l,h2⟩,h3,h4⟩:=zep hf hs hx;have ih:=zgs hf m _ _ a (n+1) h1 (h4.congr fun i j=>Iff.rfl);obtain⟨i1,⟨l',i2⟩,i3,i4⟩:=ih;refine⟨i1,⟨l++l',?_⟩,fun q hq=>(i3 q hq).trans (h3 q hq),?_⟩
   . rw[copies,i2,h2,List.append_assoc]
   . rw[show n+(m+1)=n+1+m by omega];exact i4
theorem zer {R:Nat->Nat->Prop}:∀ (m i j:Nat),(∃ k,R i k∧iter R m k j)↔iter R (m+1) i j
 | 0,i,j=>by
   constructor
   . rintro⟨k,h,e⟩;have e':k=j:=e;subst e';exact⟨i,rfl,h⟩
   . rintro⟨k,e,h⟩;have e':i=k:=e;subst e';exact⟨j,h,rfl⟩
 | m+1,i,j=>by
   constructor
   . rintro⟨k,h,l,h2,h3⟩;exact⟨l,(zer m i l).1 ⟨k,h,h2⟩,h3⟩
   . rintro⟨l,h,h3⟩;obtain⟨k,h1,h2⟩:=(zer m i l).2 h;exact⟨k,h1,l,h2,h3⟩
theorem zfz {R:Nat->Nat->Prop} (a:Nat):∀ (b i j:Nat),iter R (a+b) i j↔∃ k,iter R a i k∧iter R b k j
 | 0,i,j=>by
   constructor
   . intro h;exact⟨j,h,rfl⟩
   . rintro⟨k,h,e⟩;have e':k=j:=e;subst e';exact h
 | b+1,i,j=>by
   constructor
   . rintro⟨k,h1,h2⟩;obtain⟨l,h3,h4⟩:=(zfz a b i k).1 h1;exact⟨l,h3,k,h4,h2⟩
   . rintro⟨l,h3,k,h4,h2⟩;exact⟨k,(zfz a b i k).2 ⟨l,h3,h4⟩,h2⟩
theorem zd4 {xs:List Int} {f:Lay->Lay×Str} {R:Nat->Nat->Prop} (hf:Lays xs f R):∀ d,Lays xs (within f d) (fun i j=>∃ m,m<=d∧iter R m i j)
 | 0,s,hs=>⟨More.refl hs,(zdh (xs:=xs) (s:=s) s.sets.length).congr fun i j=>by
   constructor
   . intro e;exact⟨0,Nat.le_refl _,e⟩
   . rintro⟨m,hm,h⟩;have:m=0:=by omega
     subst this;exact h⟩
 | d+1,s,hs=>by
   obtain⟨hm,hg⟩:=hf s hs;obtain⟨h1,⟨l,h2⟩,h3,h4⟩:=zep (zd4 hf d) hm.inv hg;obtain⟨l0,h0⟩:=hm.sets;refine⟨⟨h1,⟨l0++l,?_⟩,fun q hq=>(h3 q hq).trans (hm.keep q hq)⟩,?_⟩
   . show (joinL (within f d (f s).1).1 (f s).2 (within f d (f s).1).2).sets=_
     rw[h2,h0,List.append_assoc]
   . refine (zvx h4).congr fun i j=>?_
     constructor
     . rintro (e|⟨k,hk,m,hm,h⟩)
       . exact⟨0,by omega,e⟩
       . exact⟨m+1,by omega,(zer m i j).1 ⟨k,hk,h⟩⟩
     . rintro⟨m,hm,h⟩;cases m with
       | zero=>exact .inl h
       | succ m =>
         obtain⟨k,hk,h⟩:=(zer m i j).2 h;exact .inr ⟨k,hk,m,by omega,h⟩
theorem zvn {xs:List Int} {f:Lay->Lay×Str} {R:Nat->Nat->Prop} (hf:Lays xs f R) (m d:Nat):Lays xs (repX f m d) (fun i j=>∃ k,m<=k∧k<=m+d∧iter R k i j):=by
 intro s hs;obtain⟨h1,⟨l,h2⟩,h3,h4⟩:=zgs hf m s .nothing s.sets.length 0 hs (zdh _);obtain⟨k1,⟨l',k2⟩,k3,k4⟩:=zep (zd4 hf d) h1 h4;refine⟨⟨k1,⟨l++l',?_⟩,fun q hq=>(k3 q hq).trans (h3 q hq)⟩,?_⟩
 . show (joinL (within f d (copies f m s .nothing).1).1 (copies f m s .nothing).2 (within f d (copies f m s .nothing).1).2).sets=_
   rw[k2,h2,List.append_assoc]
 . refine k4.congr fun i j=>?_
   rw[Nat.zero_add];constructor
   . rintro⟨k,h,n,hn,h'⟩;exact⟨m+n,by omega,by omega,(zfz m n i j).2 ⟨k,h,h'⟩⟩
   . rintro⟨k,hk1,hk2,h⟩;rw[show k=m+(k-m) by omega] at h;obtain⟨r,h5,h6⟩:=(zfz m (k-m) i j).1 h;exact⟨r,h5,k-m,by omega,h6⟩
theorem znf {xs:List Int}:∀ (l:List T),(∀ t∈l,Lays xs (layP t) (E xs t))->∀ (s:Lay) (x:Str) (a:Nat) (R:Nat->Nat->Prop),LInv s->Good xs s a s.sets.length x R->
   LInv (catP l s x).1∧(∃ m,(catP l s x).1.sets=s.sets++m)∧(∀ q,q<a->(catP l s x).1.follow.getD q []=s.follow.getD q [])∧Good xs (catP l s x).1 a (catP l s x).1.sets.length (catP l s x).2 (fun i j=>∃ k,R i k∧ECat xs l k j)
 | [],_,s,x,a,R,hs,hx=>⟨by simpa [catP] using hs,⟨[],by simp[catP]⟩,fun _ _=>by simp[catP],by
   simp only[catP,ECat];exact hx.congr fun i j=>by simp⟩
 | t::ts,h,s,x,a,R,hs,hx=>by
   obtain⟨h1,⟨m,h2⟩,h3,h4⟩:=zep (h t (by simp)) hs hx;obtain⟨i1,⟨m',i2⟩,i3,i4⟩:=znf ts (fun t ht=>h t (by simp[ht])) _ _ a _ h1 h4;simp only[catP];refine⟨i1,⟨m++m',by rw[i2,h2,List.append_assoc]⟩,fun q hq=>(i3 q hq).trans (h3 q hq),i4.congr fun i j=>?_⟩;simp only[ECat];constructor
   . rintro⟨k,⟨k',a1,a2⟩,a3⟩;exact⟨k',a1,k,a2,a3⟩
   . rintro⟨k',a1,k,a2,a3⟩;exact⟨k,⟨k',a1,a2⟩,a3⟩
theorem zng {xs:List Int}:∀ (l:List T),(∀ t∈l,Lays xs (layP t) (E xs t))->∀ (s:Lay) (x:Str) (a:Nat) (R:Nat->Nat->Prop),LInv s->Good xs s a s.sets.length x R->
   More s (altP l s x).1∧Good xs (altP l s x).1 a (altP l s x).1.sets.length (altP l s x).2 (fun i j=>R i j∨EAny xs l i j)
 | [],_,s,x,a,R,hs,hx=>⟨by simpa [altP] using More.refl hs,by
   simp only[altP,EAny];exact hx.congr fun i j=>by simp⟩
 | t::ts,h,s,x,a,R,hs,hx=>by
   obtain⟨hm,hg⟩:=h t (by simp) s hs;obtain⟨i1,i2⟩:=zng ts (fun t ht=>h t (by simp[ht])) _ _ a _ hm.inv (zvy (hx.more hm (Nat.le_refl _)) hg);simp only[altP];exact⟨hm.trans i1,i2.congr fun i j=>by simp only[EAny,or_assoc]⟩
theorem ze5 {xs:List Int} {t:T} (ht:WF t):Lays xs (layP t) (E xs t):=by
 induction ht with
 | one p =>
   intro s hs;simp only[layP,if_true];refine⟨zrh hs p,?_⟩;have:(oneL s p).sets.length=s.sets.length+1:=by simp[oneL]
   rw[this];exact (zvw hs p).congr fun i j=>E_one.symm
 | cat l h2 hN h ih =>
   intro s hs;obtain⟨h1,h3,h4,h5⟩:=znf l ih s .nothing s.sets.length _ hs (zdh _);simp only[layP];exact⟨⟨h1,h3,h4⟩,h5.congr fun i j=>by rw[zzp];simp⟩
 | alt l h2 hN h ih =>
   intro s hs;obtain⟨h1,h3⟩:=zng l ih s .void s.sets.length _ hs (zsr _);simp only[layP];exact⟨h1,h3.congr fun i j=>by rw[zzq];simp⟩
 | rep m n t h0 h1 h2 h3 h ih =>
   intro s hs;have:=zvn (show Lays xs (headP [t]) (E xs t) from fun s hs=>by simpa only [headP] using ih s hs) m.toNat (n-m).toNat s hs;simp only[layP];refine⟨this.1,this.2.congr fun i j=>?_⟩;rw[zzo,zwu];constructor
   . rintro⟨k,a1,a2,a3⟩;exact⟨k,by omega,by omega,a3⟩
   . rintro⟨k,a1,a2,a3⟩;exact⟨k,by omega,by omega,a3⟩
def lay0 (t:T):Lay×Str:=layP t ⟨[],[]⟩
theorem zeq {xs:List Int} {t:T} (ht:WF t):LInv (lay0 t).1∧Good xs (lay0 t).1 0 (lay0 t).1.sets.length (lay0 t).2 (E xs t):=by
 have:=ze5 (xs:=xs) ht ⟨[],[]⟩ ⟨rfl,fun q p h=>by simp at h⟩;exact⟨this.1.inv,this.2⟩
mutual
def plR:T->Nat
 | .mk op p lo hi l=>if op=1 then 1 else if op=4 then hi.toNat*plRL l else plRL l
def plRL:List T->Nat
 | []=>0
 | t::ts=>plR t+plRL ts
end
theorem zg6 {f:Lay->Lay×Str} {k:Nat} (hf:∀ s,(f s).1.sets.length=s.sets.length+k):∀ (d:Nat) (s:Lay),(within f d s).1.sets.length=s.sets.length+d*k
 | 0,s=>by simp[within]
 | d+1,s=>by
   show (within f d (f s).1).1.sets.length=_
   rw[zg6 hf d,hf,Nat.succ_mul];omega
theorem zh3 {f:Lay->Lay×Str} {k:Nat} (hf:∀ s,(f s).1.sets.length=s.sets.length+k):∀ (m:Nat) (s:Lay) (x:Str),(copies f m s x).1.sets.length=s.sets.length+m*k
 | 0,s,x=>by simp[copies]
 | m+1,s,x=>by
   rw[copies,zh3 hf m]
   show (f s).1.sets.length+m*k=_
   rw[hf,Nat.succ_mul];omega
theorem zo2:∀ (l:List T),(∀ t∈l,∀ s,(layP t s).1.sets.length=s.sets.length+plR t)->∀ s x,(catP l s x).1.sets.length=s.sets.length+plRL l
 | [],_,s,x=>by simp[catP,plRL]
 | t::ts,h,s,x=>by
   simp only[catP,plRL];rw[zo2 ts fun t ht=>h t (by simp[ht])]
   show (layP t s).1.sets.length+plRL ts=_
   rw[h t (by simp)];omega
theorem zoc:∀ (l:List T),(∀ t∈l,∀ s,(layP t s).1.sets.length=s.sets.length+plR t)->∀ s x,(altP l s x).1.sets.length=s.sets.length+plRL l
 | [],_,s,x=>by simp[altP,plRL]
 | t::ts,h,s,x=>by
   simp only[altP,plRL];rw[zoc ts fun t ht=>h t (by simp[ht]),h t (by simp)];omega
theorem zjc {t:T} (ht:WF t):∀ s,(layP t s).1.sets.length=s.sets.length+plR t:=by
 induction ht with
 | one p=>intro s;simp[layP,plR,oneL]
 | cat l h2 hN h ih=>intro s;simp only[layP,plR];simpa using zo2 l ih s .nothing
 | alt l h2 hN h ih=>intro s;simp only[layP,plR];simpa using zoc l ih s .void
 | rep m n t h0 h1 h2 h3 h ih =>
   intro s;have hh:∀ s,(headP [t] s).1.sets.length=s.sets.length+plR t:=fun s=>by simpa only [headP] using ih s
   have e:plR (.mk 4 noneP m n [t])=n.toNat*plR t:=(by simp[plR,plRL]);rw[e];simp only[layP]
   show (within (headP [t]) (n-m).toNat (copies (headP [t]) m.toNat s .nothing).1).1.sets.length=_
   rw[zg6 hh,zh3 hh,show n.toNat=m.toNat+(n-m).toNat by omega,Nat.add_mul];omega
theorem ziz:∀ (l:List Nat) (a b:Nat),l.Pairwise (· < ·)->(∀ p∈l,a<=p∧p<b)->l.length<=b-a
 | [],a,b,_,_=>Nat.zero_le _
 | p::ps,a,b,h,hb=>by
   rw[List.pairwise_cons] at h;have ih:=ziz ps (p+1) b h.2 fun q hq=>⟨h.1 q hq,(hb q (by simp[hq])).2⟩
   have:=hb p (by simp);simp only[List.length_cons];omega
end
section
open Go Go.RowKit
theorem Tree.kidAt {w:World} {ok:Nat->Prop} {t:T} {k:Value} (h:Tree w ok t k) (i:Nat) (hi:i<t.kids.length):
   ∃ g cap k',k = .slice (some ⟨g,0,none⟩) t.kids.length cap∧g<w.heap.size∧Tree w ok (t.kids[i]'hi) k'∧∀ j u,(nodeC (t.kids[i]'hi) k')[j]?=some u->w.cell? ⟨g,8*i+j,none⟩=some u:=by
 cases h with
 | nil t h=>rw[h] at hi;simp at hi
 | row t g cap cur ks hg hok hn h0 hcap hmax hsize hc hk =>
   have hi':i<ks.length:=(by omega);refine⟨g,cap,ks[i],rfl,za4 hg,hk i _ _ (List.getElem?_eq_getElem hi) (List.getElem?_eq_getElem hi'),fun j u hu=>?_⟩;have hj:j<8:=by
     have:=List.getElem?_eq_some_iff.1 hu
     simpa [nodeC] using this.1
   have e:=zh6 t.kids ks i j _ _ (List.getElem?_eq_getElem hi) (List.getElem?_eq_getElem hi') hj;rw[←hc,hu] at e;rw[cell_of_row w g _ cur 71 (0,0) hg,←Array.getElem?_toList];rw[List.getElem?_take] at e;split at e
   . exact e
   . cases e
theorem Tree.bound {w:World} {ok:Nat->Prop} {t:T} {A:Option Addr} {n c:Nat} (h:Tree w ok t (.slice A n c)):n=t.kids.length∧n<=maxLen:=by
 cases h with
 | nil t h=>exact⟨by simp[h],by decide⟩
 | row t g cap cur ks hg hok hn h0 hcap hmax hsize hc hk=>exact⟨rfl,Nat.le_trans hcap hmax⟩
theorem zbr (t:T) (i:Nat) (hi:i<t.kids.length):SizeOf.sizeOf (t.kids[i]'hi)<SizeOf.sizeOf t:=by
 obtain⟨op,p,lo,hi',l⟩:=t;have:=List.sizeOf_lt_of_mem (List.getElem_mem hi);simp only[T.kids] at *;simp;omega
theorem kid8 {w:World} {ok:Nat->Prop} {t u:T} {A:Option Addr} {n c:Nat} (h:Tree w ok t (.slice A n c)) (i:Nat) (hu:t.kids[i]?=some u):
   ∃ g B m d,A=some ⟨g,0,none⟩∧g<w.heap.size∧Tree w ok u (.slice B m d)∧∀ q v,(nodeC u (.slice B m d))[q]?=some v->w.cell? ⟨g,8*i+q,none⟩=some v:=by
 obtain⟨hi,e⟩:=List.getElem?_eq_some_iff.1 hu;obtain⟨g,cap,kk,e1,hg1,htk,hcells⟩:=h.kidAt i hi;rw[e] at htk hcells;obtain⟨B,m,d,rfl⟩:=htk.form;exact⟨g,B,m,d,by injection e1,hg1,htk,hcells⟩
end
section
open Go Go.RowKit
def NodeAt (w:World) (g o:Nat) (t:T) (k:Value):Prop:=∀ q v,(nodeC t k)[q]?=some v->w.cell? ⟨g,o+q,none⟩=some v
end
section
open Go Go.RowKit
def ruleC (r:T×Bool) (k:Value):List Value:=[.int .i64 r.1.op,.int .u64 (word r.1.set 0),.int .u64 (word r.1.set 1),.int .u64 (word r.1.set 2),.int .u64 (word r.1.set 3),.int .i64 r.1.lo,.int .i64 r.1.hi,k,.bool r.2]
theorem zeh (r:T×Bool) (k:Value):(ruleC r k).length=9:=rfl
def rulesC:List (T×Bool)->List Value->List Value
 | r::rs,k::ks=>ruleC r k++rulesC rs ks
 | _,_=>[]
theorem zhl:∀ (l:List (T×Bool)) (ks:List Value) (r:T×Bool) (k:Value),ks.length=l.length->rulesC (l++[r]) (ks++[k])=rulesC l ks++ruleC r k
 | [],[],r,k,_=>by simp[rulesC]
 | q::l,u::ks,r,k,h=>by simp only[List.cons_append,rulesC];rw[zhl l ks r k (by simpa using h),List.append_assoc]
 | [],_::_,r,k,h=>by simp at h
 | _::_,[],r,k,h=>by simp at h
theorem zhk:∀ (l:List (T×Bool)) (ks:List Value) (i q:Nat) (r:T×Bool) (k:Value),l[i]?=some r->ks[i]?=some k->q<9->(rulesC l ks)[i*9+q]?=(ruleC r k)[q]?
 | [],ks,i,q,r,k,h1,h2,hq=>by simp at h1
 | r'::l,[],i,q,r,k,h1,h2,hq=>by simp at h2
 | r'::l,k'::ks,0,q,r,k,h1,h2,hq=>by
   simp at h1 h2;subst h1 h2;rw[rulesC,List.getElem?_append_left (by rw[zeh];omega)];simp
 | r'::l,k'::ks,i+1,q,r,k,h1,h2,hq=>by
   rw[rulesC,List.getElem?_append_right (by rw[zeh];omega),zeh,show (i+1)*9+q-9=i*9+q by omega];exact zhk l ks i q r k (by simpa using h1) (by simpa using h2) hq
def RuleRow (ty:TypeId) (w:World) (B:Nat) (v:Value) (l:List (T×Bool)):Prop:=
 ∃ ks,ks.length=l.length∧w.ownsRow B ty 9 v l.length (rulesC l ks)∧∀ (i:Nat) r k,l[i]?=some r->ks[i]?=some k->Tree w (fun b=>B<=b) r.1 k
def RdRules (w:World) (A:Option Addr) (l:List (T×Bool)):Prop:=
 ∀ i r,l[i]?=some r->∃ g off k,A=some ⟨g,off,none⟩∧g<w.heap.size∧(∀ q u,(ruleC r k)[q]?=some u->w.cell? ⟨g,off+i*9+q,none⟩=some u)∧Tree w (fun _=>True) r.1 k
section
variable {w w':World} {B:Nat} {v:Value} {l:List (T×Bool)} {ty ty':TypeId} {A:Option Addr}
theorem RuleRow.nil (ty:TypeId) (w:World) (B:Nat):RuleRow ty w B (.slice none 0 0) []:=⟨[],rfl,World.ownsRow_nil w B _ 9,fun i r k h=>by simp at h⟩
theorem RuleRow.form (h:RuleRow ty w B v l):∃ A c,v = .slice A l.length c∧l.length<=c:=by
 obtain⟨ks,h1,h2,h3⟩:=h;rcases h2.2 with ⟨rfl,h0⟩|⟨g,cap,cur,rfl,_,_,hc,_⟩
 . exact⟨none,0,by rw[h0],by omega⟩
 . exact⟨_,_,rfl,hc⟩
theorem RuleRow.lt (h:RuleRow ty w B v l) {b:Nat} (hb:v.ownBlock=some b):B<=b∧b<w.heap.size:=by
 obtain⟨ks,h1,h2,h3⟩:=h;exact World.ownsRow.lt h2 b hb
theorem RuleRow.kind (h:RuleRow ty w B v l) {b:Nat} (hb:v.ownBlock=some b):∃ cur,w.heap[b]?=some (.cells cur ty (0,0)):=by
 obtain⟨ks,h1,h2,h3⟩:=h;exact zac h2 hb
theorem RuleRow.stays (h:RuleRow ty w B v l) (hb:Below w.heap.size w w'):RuleRow ty w' B v l:=by
 obtain⟨ks,h1,h2,h3⟩:=h;exact⟨ks,h1,za7 h2 hb,fun i r k e1 e2=>(h3 i r k e1 e2).stays hb⟩
theorem RuleRow.grown {v':Value} {l':List (T×Bool)} {B':Nat} (h:RuleRow ty w B v l) (h':RuleRow ty' w B' v' l') (hne:ty≠ty') (hn:ty'≠71) (hg:w.grownBy w' v'.ownBlock):RuleRow ty w' B v l:=by
 obtain⟨ks,h1,h2,h3⟩:=h;refine⟨ks,h1,zaa h2 fun b e hb=>hg.block b hb fun e'=>?_,fun i r k e1 e2=>(h3 i r k e1 e2).mono fun b hb hlt ⟨cur,hc⟩=>⟨hg.block b hlt fun e'=>?_,hb⟩⟩
 . obtain⟨c1,k1⟩:=zac h2 e;obtain⟨c2,k2⟩:=h'.kind e'.symm;exact za6 k1 k2 hne rfl
 . obtain⟨c2,k2⟩:=h'.kind e'.symm;exact za6 k2 hc hn rfl
theorem RuleRow.rd (h:RuleRow ty w B v l) {n c:Nat} (hv:v = .slice A n c):RdRules w A l:=fun i r hi=>by
 obtain⟨ks,h1,h2,h3⟩:=h;have hl:i<l.length:=(List.getElem?_eq_some_iff.1 hi).1;obtain⟨k,hk⟩:∃ k,ks[i]?=some k:=⟨_,List.getElem?_eq_getElem (by omega)⟩;have ht:=h3 i r k hi hk;rcases h2.2 with ⟨_,h0⟩|⟨g,cap,cur,e,hB,hg,_⟩
 . omega
 . rw[e] at hv h2;injection hv with e1 e2 e3
   refine⟨g,0,k,e1.symm,za4 hg,fun q u hu=>?_,ht.mono fun b _ _ _=>⟨rfl,trivial⟩⟩;have hq:q<9:=by
     have:=(List.getElem?_eq_some_iff.1 hu).1;rw[zeh] at this;exact this
   rw[Nat.zero_add,World.ownsRow.cellAt h2 (i*9+q) (by omega),zhk l ks i q r k hi hk hq];exact hu
end
def RuleBox (ty:TypeId) (w:World) (b:Nat) (r:T×Bool) (k:Value):Prop:=w.heap[b]?=some (.cells #[.int .i64 r.1.op,.int .u64 (word r.1.set 0),.int .u64 (word r.1.set 1),.int .u64 (word r.1.set 2),.int .u64 (word r.1.set 3),.int .i64 r.1.lo,.int .i64 r.1.hi,k,.bool r.2] ty (0,0))
section
variable {w w':World} {b:Nat} {r:T×Bool} {k:Value} {ty:TypeId}
end
structure RuleTy (ty tys:TypeId):Prop where
 und:Try.prog.underlying tys=some (.slice ty)
 info:(Try.prog.info? ty).map (fun i=>(i.zero,i.size,i.bytes))=some (some (.agg #[.int .i64 0,.int .u64 0,.int .u64 0,.int .u64 0,.int .u64 0,.int .i64 0,.int .i64 0,.slice none 0 0,.bool false]),9,88)
 node:ty≠71
theorem zqt {ty tys:TypeId} (hT:RuleTy ty tys) {w:World} {B:Nat} {v:Value} {l:List (T×Bool)} (h:RuleRow ty w B v l) (hB:B<=w.heap.size) (hl:l.length<=100000) (r:T×Bool) (k:Value) (hk:Tree w (fun b=>B<=b) r.1 k) (td:TypeId) (ad:Addr) (c:Nat)
   (hc:∀ (j:Nat) u,(ruleC r k)[j]?=some u->w.cell? (ad.add j)=some u):
   ∃ v' w',(Builtin.append_ #[tys,tys] td #[v,.slice (some ad) 1 c]).run Try.prog w = .ok v' w'∧RuleRow ty w' B v' (l++[r])∧w.grownBy w' v.ownBlock∧(v'.ownBlock=v.ownBlock∨v'.ownBlock=some w.heap.size):=by
 have h0:=h;obtain⟨ks,h1,h2,h3⟩:=h;obtain⟨i0,hi,hz0,hz1,hz2⟩:=info_parts hT.info;have hone:=hk.one;obtain⟨v',w',hr,h4,h5,_,h6⟩:=run_append_own_at (P:=Try.prog) w B tys td ty i0 _ 9 88 hT.und hi hz0 hz1 hz2 rfl (by decide) v l.length (rulesC l ks) h2 ad 1 c (ruleC r k) rfl hc
   (by
     intro u hu;simp only[ruleC,List.mem_cons,List.not_mem_nil,or_false] at hu;rcases hu with rfl|rfl|rfl|rfl|rfl|rfl|rfl|rfl|rfl
     all_goals first | rfl | exact hone) (by unfold maxLen;omega) (by omega) hB
 have key:∀ (t':T) (k':Value),Tree w (fun b=>B<=b) t' k'->Tree w' (fun b=>B<=b) t' k':=fun t' k' ht=>ht.mono fun b hb hlt ⟨cur,hcu⟩=>⟨h5.block b hlt fun e=>by
   obtain⟨c2,k2⟩:=h0.kind e.symm;exact za6 k2 hcu hT.node rfl,hb⟩
 refine⟨v',w',hr,⟨ks++[k],by simp[h1],?_,fun i r' k' e1 e2=>?_⟩,h5,h6⟩
 . rw[zhl l ks r k h1]
   simpa using h4
 . by_cases hi':i<l.length
   . rw[List.getElem?_append_left hi'] at e1;rw[List.getElem?_append_left (by omega)] at e2;exact key _ _ (h3 i r' k' e1 e2)
   . have e0:i=l.length:=by
       have:=(List.getElem?_eq_some_iff.1 e1).1;simp at this;omega
     subst e0;rw[List.getElem?_append_right (Nat.le_refl _)] at e1;rw[List.getElem?_append_right (by omega)] at e2;simp[h1] at e1 e2;subst e1 e2;exact key _ _ hk
theorem zg3 {ty tys:TypeId} (hT:RuleTy ty tys) {w:World} {ops:Array Oper} {rest:List Oper} {o:Oper} {a:Act} {Q:Exit->Act->World->Prop} (hgd:o.guard=none) (s x:Operand)
   (ho:o.op = .call {callee := .builtin .append,args:=#[s,x],argTypes:=#[tys,tys]})
   {B:Nat} {v:Value} {l:List (T×Bool)} (hs:a.eval s=v) (h:RuleRow ty w B v l) (hB:B<=w.heap.size) (hl:l.length<=100000) (r:T×Bool) (k:Value) (hkt:Tree w (fun b=>B<=b) r.1 k)
   (ad:Addr) (c:Nat) (hx:a.eval x = .slice (some ad) 1 c) (hc:∀ (j:Nat) u,(ruleC r k)[j]?=some u->w.cell? (ad.add j)=some u)
   (hk:∀ v' w',RuleRow ty w' B v' (l++[r])->w.grownBy w' v.ownBlock->(v'.ownBlock=v.ownBlock∨v'.ownBlock=some w.heap.size)->wpList Try.prog ops Q rest (a.put o.dst v') w'):wpList Try.prog ops Q (o::rest) a w:=by
 obtain⟨v',w',hr,h2,h3,h4⟩:=zqt hT h hB hl r k hkt o.type ad c hc;refine wpList_plain hgd fun _ hK=>?_
 unfold Oper.wp execOp;simp only[ho,resolve,invoke,builtin,Sem.run_bind,Sem.run_pure,Result.andThen_ok,List.map_toArray,List.map_cons,List.map_nil,hs,hx,hr];exact hK _ _ (hk v' w' h2 h3 h4)
theorem zmz {ty:TypeId} (w:World) (r:T×Bool) (k:Value):∀ (j:Nat) u,(ruleC r k)[j]?=some u->(w.alloc (.cells #[.int .i64 r.1.op,.int .u64 (word r.1.set 0),.int .u64 (word r.1.set 1),.int .u64 (word r.1.set 2),.int .u64 (word r.1.set 3),.int .i64 r.1.lo,.int .i64 r.1.hi,k,.bool r.2] ty)).cell? ((⟨w.heap.size,0,none⟩:Addr).add j)=some u:=by
 intro j u hu;rw[Addr.add_lit,Nat.zero_add,cell_of_row _ _ j _ ty (0,0) (heap_alloc_new w _)]
 simpa [ruleC] using hu
theorem zdl {ty:TypeId} {w w':World} {B b:Nat} {v:Value} {l:List (T×Bool)} {cur:Array Value} (h':RuleRow ty w B v l) (hn:ty≠71) (hg:w.grownBy w' v.ownBlock) (hb:w.heap[b]?=some (.cells cur 71 (0,0))):w'.heap[b]?=w.heap[b]?:=
 hg.block b (za4 hb) fun e=>by
   obtain⟨c2,k2⟩:=h'.kind e.symm;exact za6 k2 hb hn rfl
theorem Tree.ruleGrown {ty:TypeId} {w w':World} {B:Nat} {v:Value} {l:List (T×Bool)} {ok:Nat->Prop} {t:T} {k:Value} (h:Tree w ok t k) (h':RuleRow ty w B v l) (hn:ty≠71) (hg:w.grownBy w' v.ownBlock):Tree w' ok t k:=
 h.mono fun b hb _ ⟨cur,hc⟩=>⟨zdl h' hn hg hc,hb⟩
theorem Box8.ruleGrown {ty:TypeId} {w w':World} {B g:Nat} {v:Value} {l:List (T×Bool)} {t:T} {k:Value} (h:Box8 w g t k) (h':RuleRow ty w B v l) (hn:ty≠71) (hg:w.grownBy w' v.ownBlock):Box8 w' g t k:=(zdl h' hn hg h).trans h
theorem zh8 {ty:TypeId} {w0 w w':World} {B:Nat} {v:Value} {l:List (T×Bool)} (hb:Below B w0 w) (hB:B<=w.heap.size) (h':RuleRow ty w B v l) (hg:w.grownBy w' v.ownBlock):Below B w0 w':=hb.grown hg hB fun q e=>(h'.lt e).1
theorem zhm {ty ty2:TypeId} {w0 w w':World} {B g:Nat} {va vb:Value} {l l2:List (T×Bool)} {t:T} {k:Value} {ok:Nat->Prop} {o:Obj} (hA:RuleRow ty w B va l) (hB:RuleRow ty2 w B vb l2) (hne:ty2≠ty) (hn:ty≠71) (hb:Below B w0 w) (hBw:B<=w.heap.size) (ht:Tree w ok t k) (hx:Box8 w g t k)
   (hg:(w.alloc o).grownBy w' va.ownBlock):Below B w0 w'∧RuleRow ty2 w' B vb l2∧Tree w' ok t k∧Box8 w' g t k:=by
 have hal:Below w.heap.size w (w.alloc o):=(Below.refl _ _).alloc (Nat.le_refl _) _;have hA':=hA.stays hal;exact⟨zh8 (hb.alloc hBw o) (by simp;omega) hA' hg,(hB.stays hal).grown hA' hne hn hg,(ht.alloc o).ruleGrown hA' hn hg,(hx.alloc o).ruleGrown hA' hn hg⟩
end
section
open Go Go.RowKit
attribute [local go_sem ↓] Go.wp_at_zero Go.wp_at_succ
mutual
def plN:T->Nat
 | .mk op p lo hi l=>min (((if op=1 then 1 else 0)+plSum l)*(if op=4 then hi.toNat else 1)) 1000
def plSum:List T->Nat
 | []=>0
 | t::ts=>plN t+plSum ts
end
theorem zr8 (t:T):plN t<=1000:=by cases t;unfold plN;omega
theorem zkd:∀ (l l':List T),plSum (l++l')=plSum l+plSum l'
 | [],l'=>by simp[plSum]
 | t::ts,l'=>by simp[plSum,zkd ts l'];omega
theorem zhq (l:List T) (j:Nat) (h:j<l.length):plSum (l.take (j+1))=plSum (l.take j)+plN (l[j]'h):=by
 rw[List.take_succ_eq_append_getElem h,zkd];simp[plSum]
theorem zei:∀ (l:List T),plSum l<=1000*l.length
 | []=>by simp[plSum]
 | t::ts=>by
   have:=zei ts;have:=zr8 t;simp[plSum];omega
def nodeP (t:T) (k:Value):Value := .agg #[.int .i64 t.op,.int .u64 (word t.set 0),.int .u64 (word t.set 1),.int .u64 (word t.set 2),.int .u64 (word t.set 3),.int .i64 t.lo,.int .i64 t.hi,k]
theorem WF.op_cases {t:T} (h:WF t):(t.op=1∧t.kids=[]∧t.lo=0∧t.hi=0)∨(t.op=2∧2<=t.kids.length∧t.kids.length<=202∧t.lo=0∧t.hi=0)∨(t.op=3∧2<=t.kids.length∧t.kids.length<=202∧t.lo=0∧t.hi=0)∨
   (t.op=4∧t.kids.length=1∧0<=t.lo∧t.lo<=t.hi∧1<=t.hi∧t.hi<=32):=by
 cases h with
 | one p=>exact .inl ⟨rfl,rfl,rfl,rfl⟩
 | cat l h2 hN h=>exact .inr (.inl ⟨rfl,h2,hN,rfl,rfl⟩)
 | alt l h2 hN h=>exact .inr (.inr (.inl ⟨rfl,h2,hN,rfl,rfl⟩))
 | rep m n t h0 h1 h2 h3 h=>exact .inr (.inr (.inr ⟨rfl,rfl,h0,h1,h2,h3⟩))
theorem WF.len {t:T} (h:WF t):t.kids.length<=202:=by
 rcases h.op_cases with h|h|h|h
 . rw[h.2.1];decide
 . exact h.2.2.1
 . exact h.2.2.1
 . rw[h.2.1];decide
theorem WF.kid {t:T} (h:WF t) {u:T} (hu:u∈t.kids):WF u:=by
 cases h with
 | one p=>simp[T.kids] at hu
 | cat l h2 hN h=>exact h u hu
 | alt l h2 hN h=>exact h u hu
 | rep m n t h0 h1 h2 h3 h=>simp[T.kids] at hu;rw[hu];exact h
theorem WF.at {t:T} (h:WF t) (j:Nat) (hj:j<t.kids.length):WF (t.kids[j]'hj):=h.kid (List.getElem_mem hj)
def RetInt (w:World) (n:Int) (e:Ending) (w':World):Prop:=e = .returned (.int .i64 n)∧Below w.heap.size w w'
set_option maxRecDepth 20000 in
set_option maxHeartbeats 2000000 in
theorem zut:∀ (N:Nat) (t:T) (w:World) (ok:Nat->Prop) (k:Value),SizeOf.sizeOf t<=N->WF t->Tree w ok t k->
   Calls Try.prog 49 #[nodeP t k] w (RetInt w (plN t)):=by
 intro N;induction N with
 | zero=>intro t w ok k h;obtain⟨op,p,lo,hi,l⟩:=t;simp at h
 | succ N ih =>
 intro t w ok k hN hwf ht;obtain⟨A,n',c,rfl⟩:=ht.form;obtain⟨hn,hm⟩:=ht.bound;have hlen:=hwf.len;rw[←hn] at hlen;unfold maxLen at hm;have hop:=hwf.op_cases;have b1:=Box8.new w t (.slice A n' c);have hB:Below w.heap.size w (w.alloc (.cells #[.int .i64 t.op,.int .u64 (word t.set 0),.int .u64 (word t.set 1),.int .u64 (word t.set 2),.int .u64 (word t.set 3),.int .i64 t.lo,.int .i64 t.hi,.slice A n' c] 71)):=(Below.refl _ _).alloc (Nat.le_refl _) _;have hpl:plN t=min (((if t.op=1 then 1 else 0)+plSum t.kids)*(if t.op=4 then t.hi.toNat else 1)) 1000:=(by cases t;rfl);have hsum:=zei t.kids;have HPL:=Zh hpl;have HSUM:=Zh hsum;have HWF:=Zh hwf;have HOP:=Zh hop;have HN:=Zh hn;have HT:=Zh ht;have IH:=Zh ih;have HB1:=Zh b1;have HM:=Zh hm;clear hn ih hpl hsum hwf hop;unfold nodeP;cases hb1:(t.op==1)
 all_goals
   cases hb4:(t.op==4)
   all_goals
     go_enter Try.func49,Try.ntmps49;go_wp2;go_loopg [3,4] n' (fun m k i wr=>∃ j:Nat,i = .int .i64 (j:Int)∧j<=n'∧m=n'-j∧k = .int .i64 (((if t.op=1 then 1 else 0)+plSum (t.kids.take j):Nat):Int)∧Box8 wr w.heap.size t (.slice A n' c)∧Below w.heap.size w wr)
     case atStart=>exact⟨0,rfl,Nat.zero_le _,rfl,by first | (rw[if_pos (by simpa using hb1)];rfl) | (rw[if_neg (by simpa using hb1)];rfl),HB1.out,hB⟩
     case round =>
       obtain⟨j,rfl,hj,hmj,rfl,x1,hW⟩:=hrel;have HMJ:=Zh hmj;obtain⟨c0,c1,c2,c3,c4,c5,c6,c7⟩:=x1.cell;clear b1 hmj
       by_cases hlt:j<n'
       . have hlt':j<t.kids.length:=(by rw[←HN.out];exact hlt);obtain⟨g,B,m1,m2,e1,hg1,htk,hcells⟩:=kid8 HT.out j (List.getElem?_eq_getElem hlt');subst e1;have hks:=zbr t j hlt';have hwk:=HWF.out.at j hlt';have hst:=zhq t.kids j hlt';have hsl:=zei (t.kids.take j);rw[List.length_take] at hsl;have hpu:=zr8 (t.kids[j]'hlt');generalize t.kids[j]=u at *;have HC:∀ q v,(nodeC u (.slice B m1 m2))[q]?=some v->wr.cell? ⟨g,j*8+q,none⟩=some v:=fun q v h=>by rw[Nat.mul_comm j 8];exact (hW.cell (p:=⟨g,8*j+q,none⟩) hg1).trans (hcells q v h)
         have k0:wr.cell? ⟨g,j*8,none⟩=_:=HC 0 _ rfl;have k1:=HC 1 _ rfl;have k2:=HC 2 _ rfl;have k3:=HC 3 _ rfl;have k4:=HC 4 _ rfl;have k5:=HC 5 _ rfl;have k6:=HC 6 _ rfl;have k7:=HC 7 _ rfl;have HK:=Zh (fun w' (hb:Below wr.heap.size wr w')=>IH.out u w' ok (.slice B m1 m2) (by omega) hwk ((htk.stays hW).stays hb));have HST:=Zh hst;clear HC hcells htk hks hwk hst;unfold nodeP RetInt at HK;have ha:((if t.op=1 then 1 else 0:Nat))<=1:=by split <;> omega
         generalize hS:(if t.op=1 then 1 else 0:Nat)=a0 at *;generalize plSum (t.kids.take j)=S at *;have hS2:S<=202000:=(by omega);clear hS;go_wp2_with (go_at_call 49;(with_reducible refine (HK.out _ (Below.refl _ _)).mono ?_);rintro e w5 ⟨rfl,hb5⟩);go_roundg (n'-(j+1))
         case measure=>have:=HMJ.out;omega
         case rel=>exact⟨j+1,by go_num,by omega,rfl,by rw[HST.out];go_num,x1.stays hb5,gro hW hb5⟩
       . have hjn:j=t.kids.length:=(by rw[←HN.out];omega);have hwhole:t.kids.take j=t.kids:=(by rw[hjn];exact List.take_length);rw[hwhole];have hS2:=HSUM.out;have ha:((if t.op=1 then 1 else 0:Nat))<=1:=by split <;> omega
         have hpl':=HPL.out;rw[show t.kids.length=n' from HN.out.symm] at hS2;generalize hS:(if t.op=1 then 1 else 0:Nat)=a0 at *;generalize plSum t.kids=S at *
         by_cases h4:t.op=4
         . first
             | (exfalso;simp[h4] at hb4;done)
             | skip
           all_goals
             rw[if_pos h4] at hpl';have hh:=HOP.out;have hh2:1<=t.hi∧t.hi<=32:=(by omega);obtain⟨hi0,hi1⟩:=hh2;obtain⟨hN,hNe⟩:∃ hN:Nat,t.hi=hN:=⟨t.hi.toNat,by omega⟩;have hpr:(a0+S)*hN<=202001*32:=Nat.mul_le_mul (by omega) (by omega);rw[hNe,Int.toNat_natCast] at hpl';have hprod:((a0:Int)+(S:Int))*(hN:Int)=(((a0+S)*hN:Nat):Int):=(by simp);generalize (a0+S)*hN=Pr at hpl' hpr hprod;have HPL2:=Zh hpl';have HPR:=Zh hprod;rw[hNe] at c6;have p0:(0:Int)<=((a0:Int)+(S:Int))*(hN:Int):=(by rw[hprod];omega);have p1:((a0:Int)+(S:Int))*(hN:Int)<=9223372036854775807:=(by rw[hprod];omega);clear hpl' hNe hh h4 hS hprod hi0 hi1;go_wp2
             all_goals
               go_ret;refine⟨congrArg Ending.returned (congrArg (Value.int .i64) ?_),hW⟩;have e1:=HPL2.out;have e2:=HPR.out;rw[e1];omega
         . first
             | (exfalso;simp at hb4;exact h4 hb4)
             | skip
           all_goals
             rw[if_neg h4,Nat.mul_one] at hpl';have HPL2:=Zh hpl';clear hpl' h4 hS;go_wp2
             all_goals
               go_ret;refine⟨congrArg Ending.returned (congrArg (Value.int .i64) ?_),hW⟩;rw[HPL2.out];omega
theorem zj2 {t:T} {k:Value} {ok:Nat->Prop} (w:World) (hwf:WF t) (ht:Tree w ok t k):Calls Try.prog 49 #[nodeP t k] w (RetInt w (plN t)):=
 zut _ t w ok k (Nat.le_refl _) hwf ht
end
section
open Go Go.RowKit
theorem ruleTyM:RuleTy 76 26:=⟨Try.underlying26,by kernel_rfl,by decide⟩
theorem ruleTyR:RuleTy 77 27:=⟨Try.underlying27,by kernel_rfl,by decide⟩
end
section
open Go Go.RowKit
def best1 (most:Bool) (a b:Nat):Nat:=if most then max a b else min a b
def bestN (most:Bool):List Nat->Nat
 | []=>0
 | a::l=>l.foldl (best1 most) a
mutual
def lenN (most:Bool):T->Nat
 | .mk op p lo hi l=>min (if op=1 then 1 else if op=2 then (lenL most l).sum else if op=3 then bestN most (lenL most l) else if op=4 then (if most then hi else lo).toNat*bestN most (lenL most l) else 0) 1000
def lenL (most:Bool):List T->List Nat
 | []=>[]
 | t::ts=>lenN most t::lenL most ts
end
theorem zgr (most:Bool) (t:T):lenN most t<=1000:=by cases t;unfold lenN;omega
theorem zeo (most:Bool) (l:List T):lenL most l=l.map (lenN most):=by
 induction l with
 | nil=>rfl
 | cons t ts ih=>simp[lenL,ih]
theorem zqc (most:Bool):∀ (l:List T),(lenL most l).sum<=1000*l.length
 | []=>by simp[lenL]
 | t::ts=>by
   have:=zqc most ts;have:=zgr most t;simp[lenL];omega
theorem zu3 (most:Bool) (l:List T) (j:Nat) (h:j<l.length):(lenL most (l.take (j+1))).sum=(lenL most (l.take j)).sum+lenN most (l[j]'h):=by
 rw[List.take_succ_eq_append_getElem h,zeo,zeo,List.map_append,List.sum_append];simp only[List.map_cons,List.map_nil,List.sum_cons,List.sum_nil,Nat.add_zero]
theorem ztl (most:Bool) (l:List Nat) (b:Nat) (h:l≠[]):bestN most (l++[b])=best1 most (bestN most l) b:=by
 cases l with
 | nil=>exact absurd rfl h
 | cons a l=>simp[bestN]
theorem ztk (most:Bool) (l:List T) (j:Nat) (h:j<l.length) (h0:0<j):bestN most (lenL most (l.take (j+1)))=best1 most (bestN most (lenL most (l.take j))) (lenN most (l[j]'h)):=by
 rw[List.take_succ_eq_append_getElem h,zeo,zeo,List.map_append];refine ztl most _ _ ?_;intro e;have:=congrArg List.length e;rw[List.length_map,List.length_take,List.length_nil] at this;omega
theorem zwk {most:Bool} {a b N:Nat} (ha:a<=N) (hb:b<=N):best1 most a b<=N:=by unfold best1;split <;> omega
theorem zwj (most:Bool) (N:Nat):∀ (l:List Nat),(∀ x∈l,x<=N)->bestN most l<=N
 | [],_=>Nat.zero_le _
 | a::l,h=>by
   have key:∀ (l:List Nat) (a:Nat),a<=N->(∀ x∈l,x<=N)->l.foldl (best1 most) a<=N:=by
     intro l;induction l with
     | nil=>intro a ha _;exact ha
     | cons b l ih=>intro a ha hl;exact ih _ (zwk ha (hl b (by simp))) fun x hx=>hl x (by simp[hx])
   exact key l a (h a (by simp)) fun x hx=>h x (by simp[hx])
theorem ztm (most:Bool) (l:List T):bestN most (lenL most l)<=1000:=by
 refine zwj most 1000 _ fun x hx=>?_
 rw[zeo] at hx;simp only[List.mem_map] at hx;obtain⟨t,_,rfl⟩:=hx;exact zgr most t
theorem zob (most:Bool) (l:List T) (h:0<l.length):bestN most (lenL most (l.take 1))=lenN most (l[0]'h):=by
 cases l with
 | nil=>simp at h
 | cons a l=>simp[lenL,bestN]
end
section
open Go Go.RowKit
attribute [local go_sem ↓] Go.wp_at_zero Go.wp_at_succ
theorem zwl (most:Bool) (a b:Nat):(if (most==decide ((a:Int)<(b:Int)))=true then b else a)=best1 most a b:=by
 unfold best1;cases most
 . by_cases h:(a:Int)<(b:Int)
   . simp[h];omega
   . simp[h];omega
 . by_cases h:(a:Int)<(b:Int)
   . simp[h];omega
   . simp[h];omega
set_option maxRecDepth 20000 in
set_option maxHeartbeats 4000000 in
theorem zvm (most:Bool):∀ (N:Nat) (t:T) (w:World) (ok:Nat->Prop) (k:Value),SizeOf.sizeOf t<=N->WF t->Tree w ok t k->
   Calls Try.prog 28 #[nodeP t k,.bool most] w (RetInt w (lenN most t)):=by
 intro N;induction N with
 | zero=>intro t w ok k h;obtain⟨op,p,lo,hi,l⟩:=t;simp at h
 | succ N ih =>
 intro t w ok k hN hwf ht;obtain⟨A,n',c,rfl⟩:=ht.form;obtain⟨hn,hm⟩:=ht.bound;have hlen:=hwf.len;rw[←hn] at hlen;unfold maxLen at hm;have hop:=hwf.op_cases;have b1:=Box8.new w t (.slice A n' c);have hB:Below w.heap.size w (w.alloc (.cells #[.int .i64 t.op,.int .u64 (word t.set 0),.int .u64 (word t.set 1),.int .u64 (word t.set 2),.int .u64 (word t.set 3),.int .i64 t.lo,.int .i64 t.hi,.slice A n' c] 71)):=(Below.refl _ _).alloc (Nat.le_refl _) _;have HN:=Zh hn;have HT:=Zh ht;have HWF:=Zh hwf;have HB1:=Zh b1;have IH:=Zh ih;have hpl:lenN most t=min (if t.op=1 then 1 else if t.op=2 then (lenL most t.kids).sum else if t.op=3 then bestN most (lenL most t.kids) else if t.op=4 then (if most then t.hi else t.lo).toNat*bestN most (lenL most t.kids) else 0) 1000:=(by cases t;rfl);have HPL:=Zh hpl;clear hn ih hpl hwf ht;unfold nodeP;rcases hop with ⟨h,h2,z1,z2⟩|⟨h,h2,h3,z1,z2⟩|⟨h,h2,h3,z1,z2⟩|⟨h,h2,h3,h4,h5,h6⟩
 . have hb1:(t.op==1)=true:=(by simp[h]);have HH:=Zh h;clear h h2 z1 z2;go_enter Try.func28,Try.ntmps28;go_wp2;go_ret;exact⟨by rw[HPL.out,if_pos HH.out];rfl,hB⟩
 . have hb1:(t.op==1)=false:=(by simp[h]);have hb2:(t.op==2)=true:=(by simp[h]);have HPL2:Hid (lenN most t=min (lenL most t.kids).sum 1000):=by show _=_;rw[HPL.out,if_neg (by omega),if_pos h]
   clear h HPL z1 z2;go_enter Try.func28,Try.ntmps28;go_wp2;go_loopg [5,6] n' (fun m k i wr=>∃ j:Nat,i = .int .i64 (j:Int)∧j<=n'∧m=n'-j∧k = .int .i64 (((lenL most (t.kids.take j)).sum:Nat):Int)∧Box8 wr w.heap.size t (.slice A n' c)∧Below w.heap.size w wr)
   case atStart=>exact⟨0,rfl,Nat.zero_le _,rfl,rfl,HB1.out,hB⟩
   case round =>
     obtain⟨j,rfl,hj,hmj,rfl,x1,hW⟩:=hrel;have HMJ:=Zh hmj;obtain⟨c0,c1,c2,c3,c4,c5,c6,c7⟩:=x1.cell;clear b1 hmj
     by_cases hlt:j<n'
     . have hlt':j<t.kids.length:=(by rw[←HN.out];exact hlt);obtain⟨g,B,m1,m2,e1,hg1,htk,hcells⟩:=kid8 HT.out j (List.getElem?_eq_getElem hlt');subst e1;have hks:=zbr t j hlt';have hwk:=HWF.out.at j hlt';have hst:=zu3 most t.kids j hlt';have hsl:=zqc most (t.kids.take j);rw[List.length_take] at hsl;have hpu:=zgr most (t.kids[j]'hlt');generalize t.kids[j]=u at *;have HC:∀ q v,(nodeC u (.slice B m1 m2))[q]?=some v->wr.cell? ⟨g,j*8+q,none⟩=some v:=fun q v h=>by rw[Nat.mul_comm j 8];exact (hW.cell (p:=⟨g,8*j+q,none⟩) hg1).trans (hcells q v h)
       have k0:wr.cell? ⟨g,j*8,none⟩=_:=HC 0 _ rfl;have k1:=HC 1 _ rfl;have k2:=HC 2 _ rfl;have k3:=HC 3 _ rfl;have k4:=HC 4 _ rfl;have k5:=HC 5 _ rfl;have k6:=HC 6 _ rfl;have k7:=HC 7 _ rfl;have HK:=Zh (fun w' (hb:Below wr.heap.size wr w')=>IH.out u w' ok (.slice B m1 m2) (by omega) hwk ((htk.stays hW).stays hb));have HST:=Zh hst;clear HC hcells htk hks hwk hst;unfold nodeP RetInt at HK;generalize (lenL most (t.kids.take j)).sum=S at *;have hS2:S<=202000:=(by omega);go_wp2_with (go_at_call 28;(with_reducible refine (HK.out _ (Below.refl _ _)).mono ?_);rintro e w5 ⟨rfl,hb5⟩);go_roundg (n'-(j+1))
       case measure=>have:=HMJ.out;omega
       case rel=>exact⟨j+1,by go_num,by omega,rfl,by rw[HST.out];go_num,x1.stays hb5,gro hW hb5⟩
     . have hjn:j=t.kids.length:=(by rw[←HN.out];omega);have hwhole:t.kids.take j=t.kids:=(by rw[hjn];exact List.take_length);rw[hwhole];have hS2:=zqc most t.kids;rw[show t.kids.length=n' from HN.out.symm] at hS2;generalize (lenL most t.kids).sum=S at *;go_wp2
       all_goals
         go_ret;refine⟨congrArg Ending.returned (congrArg (Value.int .i64) ?_),hW⟩;rw[HPL2.out];omega
 . have hb1:(t.op==1)=false:=(by simp[h]);have hb2:(t.op==2)=false:=(by simp[h]);have hb3:(t.op==3)=true:=(by simp[h]);have HPL2:Hid (lenN most t=min (bestN most (lenL most t.kids)) 1000):=by show _=_;rw[HPL.out,if_neg (by omega),if_neg (by omega),if_pos h]
   have h0:0<t.kids.length:=(by omega);have hn2:0<n':=(by rw[HN.out];omega);have hn3:(0:Int)<(n':Int):=(by omega);obtain⟨g0,B0,l1,l2,e0,hg0,htk0,hcells0⟩:=kid8 HT.out 0 (List.getElem?_eq_getElem h0);subst e0;have hks0:=zbr t 0 h0;have hwk0:=HWF.out.at 0 h0;have hst0:=zob most t.kids h0;generalize t.kids[0]=u0 at *;have hk0:=hcells0 0 _ rfl;have hk1:=hcells0 1 _ rfl;have hk2:=hcells0 2 _ rfl;have hk3:=hcells0 3 _ rfl;have hk4:=hcells0 4 _ rfl;have hk5:=hcells0 5 _ rfl;have hk6:=hcells0 6 _ rfl;have hk7:=hcells0 7 _ rfl;rw[show 8*0+0=0 from rfl] at hk0;have HK0:=Zh (fun w' (hb:Below w.heap.size w w')=>IH.out u0 w' ok (.slice B0 l1 l2) (by omega) hwk0 (htk0.stays hb));have HST0:=Zh hst0;clear h HPL z1 z2 hcells0 htk0 hks0 hwk0 hst0;unfold nodeP RetInt at HK0;go_enter Try.func28,Try.ntmps28;go_wp2_with (go_at_call 28;(with_reducible refine (HK0.out _ hB).mono ?_);rintro e w4 ⟨rfl,hb4⟩;have x0:=HB1.out.stays hb4;have hB4:=gro1 (Below.refl _ _) hb4);clear hk0 hk1 hk2 hk3 hk4 hk5 hk6 hk7;go_loopg [5,7] (n'-1) (fun m k i wr=>∃ j:Nat,i = .int .i64 (j:Int)∧1<=j∧j<=n'∧m=n'-j∧k = .int .i64 ((bestN most (lenL most (t.kids.take j)):Nat):Int)∧Box8 wr w.heap.size t (.slice (some ⟨g0,0,none⟩) n' c)∧Below w.heap.size w wr)
   case atStart=>exact⟨1,rfl,Nat.le_refl _,hn2,rfl,by rw[HST0.out],x0,hB4⟩
   case round =>
     obtain⟨j,rfl,h1j,hj,hmj,rfl,x1,hW⟩:=hrel;have HMJ:=Zh hmj;obtain⟨c0,c1,c2,c3,c4,c5,c6,c7⟩:=x1.cell;clear b1 hmj x0
     by_cases hlt:j<n'
     . have hlt':j<t.kids.length:=(by rw[←HN.out];exact hlt);obtain⟨g,B,m1,m2,e1,hg1,htk,hcells⟩:=kid8 HT.out j (List.getElem?_eq_getElem hlt');injection e1 with e1
       injection e1 with e1
       subst e1;have hks:=zbr t j hlt';have hwk:=HWF.out.at j hlt';have hst:=ztk most t.kids j hlt' h1j;have hsl:=ztm most (t.kids.take j);have hpu:=zgr most (t.kids[j]'hlt');generalize t.kids[j]=u at *;have HC:∀ q v,(nodeC u (.slice B m1 m2))[q]?=some v->wr.cell? ⟨g0,j*8+q,none⟩=some v:=fun q v h=>by rw[Nat.mul_comm j 8];exact (hW.cell (p:=⟨g0,8*j+q,none⟩) hg1).trans (hcells q v h)
       have k0:wr.cell? ⟨g0,j*8,none⟩=_:=HC 0 _ rfl;have k1:=HC 1 _ rfl;have k2:=HC 2 _ rfl;have k3:=HC 3 _ rfl;have k4:=HC 4 _ rfl;have k5:=HC 5 _ rfl;have k6:=HC 6 _ rfl;have k7:=HC 7 _ rfl;have HK:=Zh (fun w' (hb:Below wr.heap.size wr w')=>IH.out u w' ok (.slice B m1 m2) (by omega) hwk ((htk.stays hW).stays hb));have HST:=Zh hst;clear HC hcells htk hks hwk hst;unfold nodeP RetInt at HK;generalize bestN most (lenL most (t.kids.take j))=S at *;generalize hU:lenN most u=U at *;clear hU;go_wp2_with (go_at_call 28;(with_reducible refine (HK.out _ (Below.refl _ _)).mono ?_);rintro e w5 ⟨rfl,hb5⟩)
       all_goals
         go_roundg (n'-(j+1))
         case measure=>have:=HMJ.out;omega
         case rel =>
           refine⟨j+1,by go_num,by omega,by omega,rfl,?_,x1.stays hb5,gro hW hb5⟩;rw[HST.out,←zwl];simp[*]
     . have hjn:j=t.kids.length:=(by rw[←HN.out];omega);have hwhole:t.kids.take j=t.kids:=(by rw[hjn];exact List.take_length);rw[hwhole];have hS2:=ztm most t.kids;generalize bestN most (lenL most t.kids)=S at *;go_wp2
       all_goals
         go_ret;refine⟨congrArg Ending.returned (congrArg (Value.int .i64) ?_),hW⟩;rw[HPL2.out];omega
 . have hb1:(t.op==1)=false:=(by simp[h]);have hb2:(t.op==2)=false:=(by simp[h]);have hb3:(t.op==3)=false:=(by simp[h]);have hb4:(t.op==4)=true:=(by simp[h]);have h0:0<t.kids.length:=(by omega);have hn3:(0:Int)<(n':Int):=(by rw[HN.out];omega);have hone:bestN most (lenL most t.kids)=lenN most (t.kids[0]'h0):=(by rw[←zob most t.kids h0,List.take_of_length_le (by omega)]);obtain⟨T0,hT0⟩:∃ T0:Nat,(if most then t.hi else t.lo)=T0:=⟨(if most then t.hi else t.lo).toNat,by split <;> omega⟩;have hT1:T0<=32:=by split at hT0 <;> omega
   have HPL2:Hid (lenN most t=min (T0*lenN most (t.kids[0]'h0)) 1000):=by show _=_;rw[HPL.out,if_neg (by omega),if_neg (by omega),if_neg (by omega),if_pos h,hT0,hone];rfl
   obtain⟨g0,B0,l1,l2,e0,hg0,htk0,hcells0⟩:=kid8 HT.out 0 (List.getElem?_eq_getElem h0);subst e0;have hks0:=zbr t 0 h0;have hwk0:=HWF.out.at 0 h0;have hpu:=zgr most (t.kids[0]'h0);generalize t.kids[0]=u0 at *;have hk0:=hcells0 0 _ rfl;have hk1:=hcells0 1 _ rfl;have hk2:=hcells0 2 _ rfl;have hk3:=hcells0 3 _ rfl;have hk4:=hcells0 4 _ rfl;have hk5:=hcells0 5 _ rfl;have hk6:=hcells0 6 _ rfl;have hk7:=hcells0 7 _ rfl;rw[show 8*0+0=0 from rfl] at hk0;have HK0:=Zh (fun w' (hb:Below w.heap.size w w')=>IH.out u0 w' ok (.slice B0 l1 l2) (by omega) hwk0 (htk0.stays hb));have hprod:T0*lenN most u0<=32*1000:=Nat.mul_le_mul hT1 hpu;have hpi:(T0:Int)*(lenN most u0:Int)=((T0*lenN most u0:Nat):Int):=(by simp);have p0:(0:Int)<=(T0:Int)*(lenN most u0:Int):=(by rw[hpi];omega);have p1:(T0:Int)*(lenN most u0:Int)<=9223372036854775807:=(by rw[hpi];omega);have HPI:=Zh hpi;have HPD:=Zh hprod;clear h HPL hcells0 htk0 hks0 hwk0 hone hpi hprod h2 h3 h4 h5 h6 h0;generalize hU:lenN most u0=U at *;clear hU;unfold nodeP RetInt at HK0;generalize T0*U=Pr at *;cases most
   . have hlo:t.lo=T0:=(by simpa using hT0);have q0:(0:Int)<=t.lo*(U:Int):=(by rw[hlo];exact p0);have q1:t.lo*(U:Int)<=9223372036854775807:=(by rw[hlo];exact p1);have HLO:=Zh hlo;clear hT0 hlo p0 p1 hT1;go_enter Try.func28,Try.ntmps28;go_wp2_with (go_at_call 28;(with_reducible refine (HK0.out _ hB).mono ?_);rintro e w4 ⟨rfl,hb4⟩;have hB4:=gro1 (Below.refl _ _) hb4)
     all_goals
       go_ret;refine⟨congrArg Ending.returned (congrArg (Value.int .i64) ?_),hB4⟩;have e2:t.lo*(U:Int)=(Pr:Int):=(by rw[HLO.out];exact HPI.out);rw[HPL2.out];omega
   . have hlo:t.hi=T0:=(by simpa using hT0);have q0:(0:Int)<=t.hi*(U:Int):=(by rw[hlo];exact p0);have q1:t.hi*(U:Int)<=9223372036854775807:=(by rw[hlo];exact p1);have HLO:=Zh hlo;clear hT0 hlo p0 p1 hT1;go_enter Try.func28,Try.ntmps28;go_wp2_with (go_at_call 28;(with_reducible refine (HK0.out _ hB).mono ?_);rintro e w4 ⟨rfl,hb4⟩;have hB4:=gro1 (Below.refl _ _) hb4)
     all_goals
       go_ret;refine⟨congrArg Ending.returned (congrArg (Value.int .i64) ?_),hB4⟩;have e2:t.hi*(U:Int)=(Pr:Int):=(by rw[HLO.out];exact HPI.out);rw[HPL2.out];omega
theorem zvl {t:T} {k:Value} {ok:Nat->Prop} (most:Bool) (w:World) (hwf:WF t) (ht:Tree w ok t k):Calls Try.prog 28 #[nodeP t k,.bool most] w (RetInt w (lenN most t)):=
 zvm most _ t w ok k (Nat.le_refl _) hwf ht
end
end Go.Proofs.Ytgbdanddbgomhaa
