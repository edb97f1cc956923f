import Derived.Test.YtipfgpfplakhiaaTc10
set_option linter.unusedVariables false
set_option linter.unusedSimpArgs false
set_option maxRecDepth 20000
set_option maxHeartbeats 4000000
namespace Go.Proofs.Ytipfgpfplakhiaa
open Go
section
inductive WF:T->Prop where
 | one (p:Nat->Bool):WF (.mk 1 p 0 0 [])
 | cat (l:List T) (h2:2<=l.length) (hN:l.length<=202) (h:∀ x∈l,WF x):WF (.mk 2 zaa 0 0 l)
 | alt (l:List T) (h2:2<=l.length) (hN:l.length<=202) (h:∀ x∈l,WF x):WF (.mk 3 zaa 0 0 l)
 | rep (m n:Int) (t:T) (h0:0<=m) (h1:m<=n) (h2:1<=n) (h3:n<=32) (h:WF t):WF (.mk 4 zaa m n [t])
theorem ycw {N:Nat} (hN:N<=202):Made N WF:=⟨.one,.rep,fun l h1 h2 => .cat l h1 yjz,fun l h1 h2 => .alt l h1 yjz⟩
theorem zmf {s:ByteArray} {t:T} (h:parse s = .ok t):WF t:=(ycw (by have:=ztw h;omega)).parse h
def iter (Rl:Nat->Nat->Prop):Nat->Nat->Nat->Prop
 | 0,i,j=>i=j
 | m+1,i,j=>∃ k,iter Rl m i k∧Rl k j
mutual
def E (xs:List Int):T->Nat->Nat->Prop
 | .mk op p lo hi l=>fun i j =>
  (op=1∧i<xs.length∧p (xs.getD i 0).toNat=true∧j=i+1)∨(op=2∧ECat xs l i j)∨(op=3∧EAny xs l i j)∨
  (op=4∧∃ m:Nat,lo<=m∧(m:Int)<=hi∧iter (EAny xs l) m i j)
def ECat (xs:List Int):List T->Nat->Nat->Prop
 | []=>fun i j=>i=j
 | t::ts=>fun i j=>∃ k,E xs t i k∧ECat xs ts k j
def EAny (xs:List Int):List T->Nat->Nat->Prop
 | []=>fun _ _=>False
 | t::ts=>fun i j=>E xs t i j∨EAny xs ts i j
end
section
variable {xs:List Int}
theorem E_one {p:Nat->Bool} {lo hi:Int} {l:List T} {i j:Nat}:E xs (.mk 1 p lo hi l) i j↔i<xs.length∧p (xs.getD i 0).toNat=true∧j=i+1:=by
 simp[E]
theorem ygl {p:Nat->Bool} {lo hi:Int} {l:List T} {i j:Nat}:E xs (.mk 2 p lo hi l) i j↔ECat xs l i j:=by
 simp[E]
theorem ygm {p:Nat->Bool} {lo hi:Int} {l:List T} {i j:Nat}:E xs (.mk 3 p lo hi l) i j↔EAny xs l i j:=by
 simp[E]
theorem ygk {p:Nat->Bool} {lo hi:Int} {l:List T} {i j:Nat}:E xs (.mk 4 p lo hi l) i j↔∃ m:Nat,lo<=m∧(m:Int)<=hi∧iter (EAny xs l) m i j:=by
 simp[E]
theorem ycg {t:T}:EAny xs [t]=E xs t:=by
 funext i j
 simp[EAny]
def img (Rl:Nat->Nat->Prop) (S:Nat->Prop):Nat->Prop:=fun j=>∃ i,S i∧Rl i j
def imgN (Rl:Nat->Nat->Prop) (S:Nat->Prop):Nat->Nat->Prop
 | 0=>S
 | m+1=>img Rl (imgN Rl S m)
def upTo (Rl:Nat->Nat->Prop) (S:Nat->Prop) (m:Nat):Nat->Prop:=fun j=>∃ k,k<=m∧imgN Rl S k j
end
structure Found (Rl:Nat->Nat->Prop) (S:Nat->Prop) (r:Nat) (found fresh:Nat->Prop):Prop where
 all:∀ j,found j↔upTo Rl S r j
 sub:∀ j,fresh j->found j
 old:∀ i j,found i->¬ fresh i->Rl i j->found j
end
section
structure Str where
 first:List Nat
 last:List Nat
 empty:Bool
structure Lay where
 sets:List (Nat->Bool)
 follow:List (List Nat)
def Str.nothing:Str:=⟨[],[],true⟩
def Str.void:Str:=⟨[],[],false⟩
def zcm (f:List (List Nat)) (p:Nat) (ys:List Nat):List (List Nat):=f.set p (f.getD p []++ys)
def zap:List (List Nat)->List Nat->List Nat->List (List Nat)
 | f,[],_=>f
 | f,p::ps,ys=>zap (zcm f p ys) ps ys
def zb4 (x y:Str):Str:=⟨if x.empty then x.first++y.first else x.first,if y.empty then x.last++y.last else y.last,x.empty&&y.empty⟩
def zbo (s:Lay) (x y:Str):Lay:=⟨s.sets,zap s.follow x.last y.first⟩
def altX (x y:Str):Str:=⟨x.first++y.first,x.last++y.last,x.empty||y.empty⟩
def zar (f:Lay->Lay×Str):Nat->Lay->Str->Lay×Str
 | 0,s,x=>(s,x)
 | m+1,s,x=>zar f m (zbo (f s).1 x (f s).2) (zb4 x (f s).2)
def within (f:Lay->Lay×Str):Nat->Lay->Lay×Str
 | 0,s=>(s,.nothing)
 | d+1,s=>(zbo (within f d (f s).1).1 (f s).2 (within f d (f s).1).2,⟨(zb4 (f s).2 (within f d (f s).1).2).first,(zb4 (f s).2 (within f d (f s).1).2).last,true⟩)
def repX (f:Lay->Lay×Str) (m d:Nat) (s:Lay):Lay×Str:=
 (zbo (within f d (zar f m s .nothing).1).1 (zar f m s .nothing).2 (within f d (zar f m s .nothing).1).2,zb4 (zar f m s .nothing).2 (within f d (zar f m s .nothing).1).2)
def oneL (s:Lay) (p:Nat->Bool):Lay:=⟨s.sets++[p],s.follow++[[]]⟩
def oneX (s:Lay):Str:=⟨[s.sets.length],[s.sets.length],false⟩
mutual
def layP:T->Lay->Lay×Str
 | .mk op p lo hi l=>fun s =>
  if op=1 then (oneL s p,oneX s)
  else if op=2 then catP l s .nothing
  else if op=3 then altP l s .void
  else if op=4 then repX (zke l) lo.toNat (hi-lo).toNat s
  else (s,.void)
def catP:List T->Lay->Str->Lay×Str
 | []=>fun s x=>(s,x)
 | t::ts=>fun s x=>catP ts (zbo (layP t s).1 x (layP t s).2) (zb4 x (layP t s).2)
def altP:List T->Lay->Str->Lay×Str
 | []=>fun s x=>(s,x)
 | t::ts=>fun s x=>altP ts (layP t s).1 (altX x (layP t s).2)
def zke:List T->Lay->Lay×Str
 | []=>fun s=>(s,.void)
 | t::_=>fun s=>layP t s
end
structure LInv (s:Lay):Prop where
 len:s.follow.length=s.sets.length
 lt:∀ q p,p∈s.follow.getD q []->p<s.sets.length
theorem zsa {α:Type} (l:List α) (i j:Nat) (a d:α):(l.set i a).getD j d=if j=i∧i<l.length then a else l.getD j d:=by
 simp only[ygq,yim]
 by_cases h:i=j
 .subst h
  by_cases h2:i<l.length
  .simp[h2]
  .simp[h2]
 .have h':¬ j=i:=fun e=>h e.symm
  simp[h,h']
theorem zdw (f:List (List Nat)) (p:Nat) (ys:List Nat):(zcm f p ys).length=f.length:=by simp[zcm]
theorem zch:∀ (ps:List Nat) (f:List (List Nat)) (ys:List Nat),(zap f ps ys).length=f.length
 | [],f,ys=>rfl
 | p::ps,f,ys=>by rw[zap,zch ps,zdw]
theorem zia (f:List (List Nat)) (p q:Nat) (ys:List Nat) (hp:p<f.length):(zcm f p ys).getD q []=if q=p then f.getD p []++ys else f.getD q []:=by
 rw[zcm,zsa]
 by_cases e:q=p <;> simp[e,hp]
theorem zgr:∀ (ps:List Nat) (f:List (List Nat)) (ys:List Nat),(∀ p∈ps,p<f.length)->∀ q r,r∈(zap f ps ys).getD q []↔r∈f.getD q []∨(q∈ps∧r∈ys)
 | [],f,ys,_,q,r=>by simp[zap]
 | p::ps,f,ys,h,q,r=>by
  rw[zap,zgr ps _ ys (fun p' hp'=>by rw[zdw];exact h p' (by simp[hp'])),zia f p q ys (h p yk3)]
  by_cases e:q=p
  .subst e;simp;intro _ a;exact .inr a
  .simp[e]
theorem zk9:∀ (ps:List Nat) (f:List (List Nat)) (ys:List Nat) (q:Nat),q∉ps->(zap f ps ys).getD q []=f.getD q []
 | [],f,ys,q,_=>rfl
 | p::ps,f,ys,q,h=>by
  rw[zap,zk9 ps _ ys q (fun e=>h (by simp[e])),zcm,zsa,if_neg];rintro⟨e,_⟩;exact h (by simp[e])
def eats (xs:List Int) (s:Lay) (p i:Nat):Prop:=i<xs.length∧(s.sets.getD p zaa) (xs.getD i 0).toNat=true
def fol (s:Lay) (q p:Nat):Prop:=p∈s.follow.getD q []
inductive Goes (S φ:Nat->Nat->Prop) (F:Nat->Prop) (i:Nat):Nat->Nat->Prop
 | start (p:Nat) (h:F p) (hs:S p i):Goes S φ F i p (i+1)
 | step (q p j:Nat) (h:Goes S φ F i q j) (hf:φ q p) (hs:S p j):Goes S φ F i p (j+1)
def Rec (S φ:Nat->Nat->Prop) (x:Str) (i j:Nat):Prop:=(x.empty=true∧i=j)∨∃ p,p∈x.last∧Goes S φ (· ∈ x.first) i p j
section
variable {S S' φ φ':Nat->Nat->Prop} {F F':Nat->Prop} {i j p:Nat}
theorem Goes.mono (h:Goes S φ F i p j) (hS:∀ p i,S p i->S' p i) (hφ:∀ q p,φ q p->φ' q p) (hF:∀ p,F p->F' p):Goes S' φ' F' i p j:=by
 induction h with
 | start p h hs=>exact .start p (hF p h) (hS _ _ hs)
 | step q p j h hf hs ih=>exact .step q p j ih (hφ _ _ hf) (hS _ _ hs)
theorem Goes.same {a b:Nat} (h:Goes S φ F i p j) (hS:∀ p i,a<=p->p<b->S p i->S' p i) (hφ:∀ q p,a<=q->q<b->φ q p->φ' q p∧a<=p∧p<b) (hF:∀ p,F p->a<=p∧p<b):Goes S' φ' F i p j∧a<=p∧p<b:=by
 induction h with
 | start p h hs=>exact⟨.start p h (hS _ _ (hF p h).1 (hF p h).2 hs),hF p h⟩
 | step q p j h hf hs ih =>
  obtain⟨h1,h2,h3⟩:=ih;obtain⟨h4,h5,h6⟩:=hφ q p h2 h3 hf;exact⟨.step q p j h1 h4 (hS _ _ h5 h6 hs),h5,h6⟩
end
structure Good (xs:List Int) (s:Lay) (a b:Nat) (x:Str) (Rl:Nat->Nat->Prop):Prop where
 le:a<=b
 first:∀ p,p∈x.first->a<=p∧p<b
 last:∀ p,p∈x.last->a<=p∧p<b
 stay:∀ q p,a<=q->q<b->fol s q p->a<=p∧p<b
 sf:x.first.Pairwise (· < ·)
 sl:x.last.Pairwise (· < ·)
 st:∀ q,a<=q->q<b->(s.follow.getD q []).Pairwise (· < ·)
 has:∀ i j,Rec (eats xs s) (fol s) x i j↔Rl i j
section
variable {xs:List Int} {s s':Lay} {a b c:Nat} {x y:Str} {R R':Nat->Nat->Prop}
theorem Good.later (h:Good xs s a b x R) (hS:∀ p,p<b->s'.sets.getD p zaa=s.sets.getD p zaa) (hF:∀ q,q<b->s'.follow.getD q []=s.follow.getD q []):Good xs s' a b x R:=by
 have hf:∀ q,q<b->∀ p,fol s' q p↔fol s q p:=fun q hq p=>by unfold fol;rw[hF q hq]
 have he:∀ p i,p<b->(eats xs s' p i↔eats xs s p i):=fun p i hp=>by unfold eats;rw[hS p hp]
 refine⟨h.le,h.first,h.last,fun q p h1 h2 h3=>h.stay q p h1 h2 ((hf q h2 p).1 h3),h.sf,h.sl,fun q h1 h2=>by rw[hF q h2];exact h.st q h1 h2,fun i j=>?_⟩;rw[←h.has];unfold Rec;constructor
 .rintro (e|⟨p,hp,hg⟩)
  .exact .inl e
  .exact .inr ⟨p,hp,(hg.same (a:=a) (b:=b) (fun p i _ hb hs=>(he p i hb).1 hs) (fun q p h1 h2 h3=>⟨(hf q h2 p).1 h3,h.stay q p h1 h2 ((hf q h2 p).1 h3)⟩) h.first).1⟩
 .rintro (e|⟨p,hp,hg⟩)
  .exact .inl e
  .exact .inr ⟨p,hp,(hg.same (a:=a) (b:=b) (fun p i _ hb hs=>(he p i hb).2 hs) (fun q p h1 h2 h3=>⟨(hf q h2 p).2 h3,h.stay q p h1 h2 h3⟩) h.first).1⟩
theorem Good.congr (h:Good xs s a b x R) (hR:∀ i j,R i j↔R' i j):Good xs s a b x R':=⟨h.le,h.first,h.last,h.stay,h.sf,h.sl,h.st,fun i j=>(h.has i j).trans (hR i j)⟩
theorem zdf (a:Nat):Good xs s a a .nothing (fun i j=>i=j):=
 ⟨ygo _,by simp[Str.nothing],by simp[Str.nothing],fun q p h1 h2 _=>by omega,by simp[Str.nothing],by simp[Str.nothing],fun q h1 h2=>by omega,fun i j=>by simp[Rec,Str.nothing]⟩
theorem zp4 (a:Nat):Good xs s a a .void (fun _ _=>False):=
 ⟨ygo _,by simp[Str.void],by simp[Str.void],fun q p h1 h2 _=>by omega,by simp[Str.void],by simp[Str.void],fun q h1 h2=>by omega,fun i j=>by simp[Rec,Str.void]⟩
theorem ybf (hl:LInv s) (p:Nat->Bool):Good xs (oneL s p) s.sets.length (s.sets.length+1) (oneX s) (fun i j=>i<xs.length∧p (xs.getD i 0).toNat=true∧j=i+1):=by
 have hd:∀ q,s.sets.length<=q->(oneL s p).follow.getD q []=[]:=fun q hq=>by
  unfold oneL;simp only[ygq];rw[ygx (by rw[hl.len];exact hq)];rcases yj2 (q-s.follow.length) with e|e
  .rw[e];simp
  .rw[yh6 yk8];rfl
 have hf:∀ q r,s.sets.length<=q->¬ fol (oneL s p) q r:=fun q r hq h=>by
  unfold fol at h;rw[hd q hq] at h;simp at h
 have hs:∀ i,eats xs (oneL s p) s.sets.length i↔i<xs.length∧p (xs.getD i 0).toNat=true:=fun i=>by
  unfold eats oneL;simp
 refine⟨by omega,by simp[oneX],by simp[oneX],fun q r h1 _ h2=>absurd h2 (hf q r h1),by simp[oneX],by simp[oneX],fun q h1 _=>by rw[hd q h1];exact yi5,fun i j=>?_⟩;simp only[Rec,oneX,yha];constructor
 .rintro (⟨e,_⟩|⟨q,rfl,hg⟩)
  .cases e
  .have:∀ r j,Goes (eats xs (oneL s p)) (fol (oneL s p)) (fun x=>x=s.sets.length) i r j->r=s.sets.length∧eats xs (oneL s p) r i∧j=i+1:=by
    intro r j h;induction h with
    | start r h hs=>exact⟨h,hs,rfl⟩
    | step q r j h hf' hs ih=>exact absurd hf' (hf q r (by rw[ih.1];exact ygo _))
   obtain⟨_,h1,h2⟩:=this _ _ hg;exact⟨((hs i).1 h1).1,((hs i).1 h1).2,h2⟩
 .rintro⟨h1,h2,rfl⟩;exact .inr ⟨_,rfl,.start _ rfl ((hs i).2 ⟨h1,h2⟩)⟩
theorem zgs:∀ (ps:List Nat) (f:List (List Nat)) (ys:List Nat),(∀ p∈ps,p<f.length)->ps.Nodup->∀ q,(zap f ps ys).getD q []=if q∈ps then f.getD q []++ys else f.getD q []
 | [],f,ys,_,_,q=>by simp[zap]
 | p::ps,f,ys,h,hn,q=>by
  rw[yih] at hn;rw[zap,zgs ps _ ys (fun p' hp'=>by rw[zdw];exact h p' (by simp[hp'])) hn.2,zia f p q ys (h p yk3)]
  by_cases e:q=p
  .subst e;simp[hn.1]
  .simp[e]
theorem zkd (hl:LInv s) (hx:∀ p∈x.last,p<s.sets.length) (q p:Nat):fol (zbo s x y) q p↔fol s q p∨(q∈x.last∧p∈y.first):=by
 unfold fol zbo;exact zgr x.last s.follow y.first (fun p hp=>by rw[hl.len];exact hx p hp) q p
theorem zxo (hl:LInv s) (hc:c<=s.sets.length) (hx:Good xs s a b x R) (hy:Good xs s b c y R'):Good xs (zbo s x y) a c (zb4 x y) (fun i j=>∃ k,R i k∧R' k j):=by
 have hab:=hx.le;have hbc:=hy.le;have hfol:=zkd (y:=y) hl (fun p hp=>by have:=(hx.last p hp).2;omega);have heat:eats xs (zbo s x y)=eats xs s:=rfl;have hfirst:∀ p,p∈(zb4 x y).first↔p∈x.first∨(x.empty=true∧p∈y.first):=fun p=>by
  unfold zb4;cases x.empty <;> simp
 have hlast:∀ p,p∈(zb4 x y).last↔p∈y.last∨(y.empty=true∧p∈x.last):=fun p=>by
  unfold zb4;cases y.empty <;> simp[or_comm]
 have hA:∀ i p j,Goes (eats xs s) (fol (zbo s x y)) (· ∈ (zb4 x y).first) i p j->(a<=p∧p<b∧Goes (eats xs s) (fol s) (· ∈ x.first) i p j)∨
  (b<=p∧p<c∧((x.empty=true∧Goes (eats xs s) (fol s) (· ∈ y.first) i p j)∨∃ q k,q∈x.last∧Goes (eats xs s) (fol s) (· ∈ x.first) i q k∧Goes (eats xs s) (fol s) (· ∈ y.first) k p j)):=by
  intro i p j h;induction h with
  | start p h hs =>
   rcases (hfirst p).1 h with h | ⟨e,h⟩
   .exact .inl ⟨(hx.first p h).1,(hx.first p h).2,.start p h hs⟩
   .exact .inr ⟨(hy.first p h).1,(hy.first p h).2,.inl ⟨e,.start p h hs⟩⟩
  | step q p j h hf hs ih =>
   rcases (hfol q p).1 hf with hf|⟨h1,h2⟩
   .rcases ih with ⟨i1,i2,i3⟩|⟨i1,i2,i3⟩
    .have:=hx.stay q p i1 i2 hf;exact .inl ⟨this.1,this.2,.step q p j i3 hf hs⟩
    .have:=hy.stay q p i1 i2 hf;refine .inr ⟨this.1,this.2,?_⟩;rcases i3 with ⟨e,i3⟩|⟨r,k,h3,h4,h5⟩
     .exact .inl ⟨e,.step q p j i3 hf hs⟩
     .exact .inr ⟨r,k,h3,h4,.step q p j h5 hf hs⟩
   .have hb:=hx.last q h1;have hp:=hy.first p h2
    refine .inr ⟨hp.1,hp.2,.inr ⟨q,j,h1,?_,.start p h2 hs⟩⟩;rcases ih with ⟨_,_,i3⟩|⟨i1,_,_⟩
    .exact i3
    .omega
 have hnd:x.last.Nodup:=hx.sl.imp fun h=>Nat.ne_of_lt h
 refine⟨by omega,fun p hp=>?_,fun p hp=>?_,fun q p h1 h2 h3=>?_,?_,?_,fun q h1 h2=>?_,fun i j=>?_⟩
 .rcases (hfirst p).1 hp with h | ⟨_,h⟩
  .have:=hx.first p h;omega
  .have:=hy.first p h;omega
 .rcases (hlast p).1 hp with h|⟨_,h⟩
  .have:=hy.last p h;omega
  .have:=hx.last p h;omega
 .rcases (hfol q p).1 h3 with h|⟨h4,h5⟩
  .rcases yik q b with hq|hq
   .have:=hx.stay q p h1 hq h;omega
   .have:=hy.stay q p hq h2 h;omega
  .have:=hy.first p h5;omega
 .unfold zb4;cases x.empty
  .exact hx.sf
  .exact yj4.2 ⟨hx.sf,hy.sf,fun p hp q hq=>by have:=hx.first p hp;have:=hy.first q hq;omega⟩
 .unfold zb4;cases y.empty
  .exact hy.sl
  .exact yj4.2 ⟨hx.sl,hy.sl,fun p hp q hq=>by have:=hx.last p hp;have:=hy.last q hq;omega⟩
 .unfold zbo
  show ((zap s.follow x.last y.first).getD q []).Pairwise (· < ·)
  rw[zgs x.last s.follow y.first (fun p hp=>by rw[hl.len];have:=(hx.last p hp).2;omega) hnd q];rcases yik q b with hq | hq
  .split
   .refine yj4.2 ⟨hx.st q h1 hq,hy.sf,fun p hp r hr=>?_⟩;have:=hx.stay q p h1 hq hp;have:=hy.first r hr
    omega
   .exact hx.st q h1 hq
  .rw[if_neg (fun e=>by have:=(hx.last q e).2;omega)];exact hy.st q hq h2
 .simp only[←hx.has,←hy.has];unfold Rec;rw[heat];constructor
  .rintro (⟨e,rfl⟩|⟨p,hp,hg⟩)
   .have e':x.empty=true∧y.empty=true:=(by simpa [zb4] using e);exact⟨i,.inl ⟨e'.1,rfl⟩,.inl ⟨e'.2,rfl⟩⟩
   .rcases hA i p j hg with ⟨h1,h2,h3⟩|⟨h1,h2,h3⟩
    .rcases (hlast p).1 hp with h|⟨e,h⟩
     .have:=hy.last p h;omega
     .exact⟨j,.inr ⟨p,h,h3⟩,.inl ⟨e,rfl⟩⟩
    .have hp':p∈y.last:=by
      rcases (hlast p).1 hp with h|⟨e,h⟩
      .exact h
      .have:=hx.last p h;omega
     rcases h3 with ⟨e,h3⟩|⟨q,k,h4,h5,h6⟩
     .exact⟨i,.inl ⟨e,rfl⟩,.inr ⟨p,hp',h3⟩⟩
     .exact⟨k,.inr ⟨q,h4,h5⟩,.inr ⟨p,hp',h6⟩⟩
  .have up:∀ {i p j},Goes (eats xs s) (fol s) (· ∈ x.first) i p j->Goes (eats xs s) (fol (zbo s x y)) (· ∈ (zb4 x y).first) i p j:=fun h =>
    h.mono (fun _ _ h=>h) (fun q p h=>(hfol q p).2 (.inl h)) fun p h=>(hfirst p).2 (.inl h)
   rintro⟨k,(⟨e,rfl⟩|⟨q,hq,hg⟩),(⟨e',rfl⟩|⟨p,hp,hg'⟩)⟩
   .exact .inl ⟨by simp[zb4,e,e'],rfl⟩
   .exact .inr ⟨p,(hlast p).2 (.inl hp),hg'.mono (fun _ _ h=>h) (fun q p h=>(hfol q p).2 (.inl h)) fun p h=>(hfirst p).2 (.inr ⟨e,h⟩)⟩
   .exact .inr ⟨q,(hlast q).2 (.inr ⟨e',hq⟩),up hg⟩
   .refine .inr ⟨p,(hlast p).2 (.inl hp),?_⟩;clear hp;induction hg' with
    | start p h hs=>exact .step q p k (up hg) ((hfol q p).2 (.inr ⟨hq,h⟩)) hs
    | step r p j h hf hs ih=>exact .step r p j ih ((hfol r p).2 (.inl hf)) hs
theorem ybh (hx:Good xs s a b x R) (hy:Good xs s b c y R'):Good xs s a c (altX x y) (fun i j=>R i j∨R' i j):=by
 have hab:=hx.le;have hbc:=hy.le;have hA:∀ i p j,Goes (eats xs s) (fol s) (· ∈ (altX x y).first) i p j->(a<=p∧p<b∧Goes (eats xs s) (fol s) (· ∈ x.first) i p j)∨(b<=p∧p<c∧Goes (eats xs s) (fol s) (· ∈ y.first) i p j):=by
  intro i p j h;induction h with
  | start p h hs =>
   rcases yh7.1 (show p∈x.first++y.first from h) with h | h
   .exact .inl ⟨(hx.first p h).1,(hx.first p h).2,.start p h hs⟩
   .exact .inr ⟨(hy.first p h).1,(hy.first p h).2,.start p h hs⟩
  | step q p j h hf hs ih =>
   rcases ih with ⟨i1,i2,i3⟩|⟨i1,i2,i3⟩
   .have:=hx.stay q p i1 i2 hf;exact .inl ⟨this.1,this.2,.step q p j i3 hf hs⟩
   .have:=hy.stay q p i1 i2 hf;exact .inr ⟨this.1,this.2,.step q p j i3 hf hs⟩
 refine⟨by omega,fun p hp=>?_,fun p hp=>?_,fun q p h1 h2 h3=>?_,yj4.2 ⟨hx.sf,hy.sf,fun p hp q hq=>by have:=hx.first p hp;have:=hy.first q hq;omega⟩,yj4.2 ⟨hx.sl,hy.sl,fun p hp q hq=>by have:=hx.last p hp;have:=hy.last q hq;omega⟩,fun q h1 h2=>?_,fun i j=>?_⟩
 .rcases yh7.1 (show p∈x.first++y.first from hp) with h | h
  .have:=hx.first p h;omega
  .have:=hy.first p h;omega
 .rcases yh7.1 (show p∈x.last++y.last from hp) with h|h
  .have:=hx.last p h;omega
  .have:=hy.last p h;omega
 .rcases yik q b with hq|hq
  .have:=hx.stay q p h1 hq h3;omega
  .have:=hy.stay q p hq h2 h3;omega
 .rcases yik q b with hq|hq
  .exact hx.st q h1 hq
  .exact hy.st q hq h2
 .simp only[←hx.has,←hy.has];unfold Rec;constructor
  .rintro (⟨e,rfl⟩|⟨p,hp,hg⟩)
   .have e':x.empty=true∨y.empty=true:=(by simpa [altX] using e);rcases e' with e|e
    .exact .inl (.inl ⟨e,rfl⟩)
    .exact .inr (.inl ⟨e,rfl⟩)
   .rcases hA i p j hg with ⟨h1,h2,h3⟩|⟨h1,h2,h3⟩
    .rcases yh7.1 (show p∈x.last++y.last from hp) with h|h
     .exact .inl (.inr ⟨p,h,h3⟩)
     .have:=hy.last p h;omega
    .rcases yh7.1 (show p∈x.last++y.last from hp) with h|h
     .have:=hx.last p h;omega
     .exact .inr (.inr ⟨p,h,h3⟩)
  .rintro ((⟨e,rfl⟩|⟨p,hp,hg⟩)|(⟨e,rfl⟩|⟨p,hp,hg⟩))
   .exact .inl ⟨by simp[altX,e],rfl⟩
   .exact .inr ⟨p,yh7.2 (.inl hp),hg.mono (fun _ _ h=>h) (fun _ _ h=>h) fun p h=>yh7.2 (.inl h)⟩
   .exact .inl ⟨by simp[altX,e],rfl⟩
   .exact .inr ⟨p,yh7.2 (.inr hp),hg.mono (fun _ _ h=>h) (fun _ _ h=>h) fun p h=>yh7.2 (.inr h)⟩
theorem ybg (h:Good xs s a b x R):Good xs s a b ⟨x.first,x.last,true⟩ (fun i j=>i=j∨R i j):=by
 refine⟨h.le,h.first,h.last,h.stay,h.sf,h.sl,h.st,fun i j=>?_⟩;rw[←h.has];unfold Rec;constructor
 .rintro (⟨_,e⟩|h)
  .exact .inl e
  .exact .inr (.inr h)
 .rintro (e|(⟨_,e⟩|h))
  .exact .inl ⟨rfl,e⟩
  .exact .inl ⟨rfl,e⟩
  .exact .inr h
end
structure More (s s':Lay):Prop where
 inv:LInv s'
 sets:∃ l,s'.sets=s.sets++l
 keep:∀ q,q<s.sets.length->s'.follow.getD q []=s.follow.getD q []
theorem More.refl {s:Lay} (h:LInv s):More s s:=⟨h,⟨[],by simp⟩,fun _ _=>rfl⟩
theorem More.le {s s':Lay} (h:More s s'):s.sets.length<=s'.sets.length:=by
 obtain⟨l,e⟩:=h.sets;rw[e,ygu];omega
theorem More.trans {s s' s'':Lay} (h:More s s') (k:More s' s''):More s s'':=by
 have hl:=h.le;refine⟨k.inv,?_,fun q hq=>(k.keep q yjz).trans (h.keep q hq)⟩;obtain⟨l,e⟩:=h.sets;obtain⟨l',e'⟩:=k.sets;exact⟨l++l',by rw[e',e,yhe]⟩
theorem More.get {s s':Lay} (h:More s s') (p:Nat) (hp:p<s.sets.length):s'.sets.getD p zaa=s.sets.getD p zaa:=by
 obtain⟨l,e⟩:=h.sets;rw[e];simp only[ygq];rw[ygv hp]
theorem Good.more {xs:List Int} {s s':Lay} {a b:Nat} {x:Str} {R:Nat->Nat->Prop} (h:Good xs s a b x R) (hm:More s s') (hb:b<=s.sets.length):Good xs s' a b x R:=
 h.later (fun p hp=>hm.get p yjz) fun q hq=>hm.keep q yjz
def Lays (xs:List Int) (f:Lay->Lay×Str) (R:Nat->Nat->Prop):Prop:=
 ∀ s,LInv s->More s (f s).1∧Good xs (f s).1 s.sets.length (f s).1.sets.length (f s).2 R
theorem zwc {s:Lay} (h:LInv s) (p:Nat->Bool):More s (oneL s p):=by
 refine⟨⟨by simp[oneL,h.len],fun q r hr=>?_⟩,⟨[p],rfl⟩,fun q hq=>?_⟩
 .simp only[oneL,ygq,ygu,yi7] at hr ⊢;rcases yik q s.follow.length with hq|hq
  .rw[ygv hq,←ygq] at hr;have:=h.lt q r hr;omega
  .rw[ygx hq] at hr;rcases yj2 (q-s.follow.length) with e|e
   .rw[e] at hr;simp at hr
   .rw[yh6 yk8] at hr;simp at hr
 .simp only[oneL,ygq];rw[ygv (by rw[h.len];exact hq)]
theorem zlq {s:Lay} (h:LInv s) {x y:Str} {n:Nat} (hx:∀ p∈x.last,n<=p∧p<s.sets.length) (hy:∀ p∈y.first,p<s.sets.length):LInv (zbo s x y)∧∀ q,q<n->(zbo s x y).follow.getD q []=s.follow.getD q []:=by
 refine⟨⟨by simp[zbo,zch,h.len],fun q p hp=>?_⟩,fun q hq=>?_⟩
 .rcases (zkd (y:=y) h (fun p hp=>(hx p hp).2) q p).1 hp with e|⟨_,e⟩
  .exact h.lt q p e
  .exact hy p e
 .exact zk9 _ _ _ _ fun e=>by have:=(hx q e).1;omega
theorem zhd {xs:List Int} {f:Lay->Lay×Str} {R R':Nat->Nat->Prop} (hf:Lays xs f R') {s:Lay} (hs:LInv s) {a:Nat} {x:Str} (hx:Good xs s a s.sets.length x R):
 LInv (zbo (f s).1 x (f s).2)∧(∃ l,(zbo (f s).1 x (f s).2).sets=s.sets++l)∧(∀ q,q<a->(zbo (f s).1 x (f s).2).follow.getD q []=s.follow.getD q [])∧
  Good xs (zbo (f s).1 x (f s).2) a (zbo (f s).1 x (f s).2).sets.length (zb4 x (f s).2) (fun i j=>∃ k,R i k∧R' k j):=by
 obtain⟨hm,hg⟩:=hf s hs;have hle:=hm.le;have hxa:=hx.le;obtain⟨h1,h2⟩:=zlq (y:=(f s).2) hm.inv (n:=a) (x:=x) (fun p hp=>⟨(hx.last p hp).1,by have:=(hx.last p hp).2;omega⟩) (fun p hp=>(hg.first p hp).2);exact⟨h1,hm.sets,fun q hq=>(h2 q hq).trans (hm.keep q yjz),zxo hm.inv (ygo _) (hx.more hm (ygo _)) hg⟩
theorem zgt {xs:List Int} {f:Lay->Lay×Str} {R:Nat->Nat->Prop} (hf:Lays xs f R):∀ (m:Nat) (s:Lay) (x:Str) (a n:Nat),LInv s->Good xs s a s.sets.length x (iter R n)->
 LInv (zar f m s x).1∧(∃ l,(zar f m s x).1.sets=s.sets++l)∧(∀ q,q<a->(zar f m s x).1.follow.getD q []=s.follow.getD q [])∧Good xs (zar f m s x).1 a (zar f m s x).1.sets.length (zar f m s x).2 (iter R (n+m))
 | 0,s,x,a,n,hs,hx=>⟨hs,⟨[],by simp[zar]⟩,fun _ _=>rfl,hx⟩
 | m+1,s,x,a,n,hs,hx=>by
  obtain⟨h1,⟨l,h2⟩,h3,h4⟩:=zhd hf hs hx;have ih:=zgt hf m _ _ a (n+1) h1 (h4.congr fun i j=>Iff.rfl);obtain⟨i1,⟨l',i2⟩,i3,i4⟩:=ih;refine⟨i1,⟨l++l',?_⟩,fun q hq=>(i3 q hq).trans (h3 q hq),?_⟩
  .rw[zar,i2,h2,yhe]
  .rw[show n+(m+1)=n+1+m by omega];exact i4
theorem zhg {R:Nat->Nat->Prop}:∀ (m i j:Nat),(∃ k,R i k∧iter R m k j)↔iter R (m+1) i j
 | 0,i,j=>by
  constructor
  .rintro⟨k,h,e⟩;have e':k=j:=e;subst e';exact⟨i,rfl,h⟩
  .rintro⟨k,e,h⟩;have e':i=k:=e;subst e';exact⟨j,h,rfl⟩
 | m+1,i,j=>by
  constructor
  .rintro⟨k,h,l,h2,h3⟩;exact⟨l,(zhg m i l).1 ⟨k,h,h2⟩,h3⟩
  .rintro⟨l,h,h3⟩;obtain⟨k,h1,h2⟩:=(zhg m i l).2 h;exact⟨k,h1,l,h2,h3⟩
theorem zj8 {R:Nat->Nat->Prop} (a:Nat):∀ (b i j:Nat),iter R (a+b) i j↔∃ k,iter R a i k∧iter R b k j
 | 0,i,j=>by
  constructor
  .intro h;exact⟨j,h,rfl⟩
  .rintro⟨k,h,e⟩;have e':k=j:=e;subst e';exact h
 | b+1,i,j=>by
  constructor
  .rintro⟨k,h1,h2⟩;obtain⟨l,h3,h4⟩:=(zj8 a b i k).1 h1;exact⟨l,h3,k,h4,h2⟩
  .rintro⟨l,h3,k,h4,h2⟩;exact⟨k,(zj8 a b i k).2 ⟨l,h3,h4⟩,h2⟩
theorem zdd {xs:List Int} {f:Lay->Lay×Str} {R:Nat->Nat->Prop} (hf:Lays xs f R):∀ d,Lays xs (within f d) (fun i j=>∃ m,m<=d∧iter R m i j)
 | 0,s,hs=>⟨More.refl hs,(zdf (xs:=xs) (s:=s) s.sets.length).congr fun i j=>by
  constructor
  .intro e;exact⟨0,ygo _,e⟩
  .rintro⟨m,hm,h⟩;have:m=0:=by omega
   subst this;exact h⟩
 | d+1,s,hs=>by
  obtain⟨hm,hg⟩:=hf s hs;obtain⟨h1,⟨l,h2⟩,h3,h4⟩:=zhd (zdd hf d) hm.inv hg;obtain⟨l0,h0⟩:=hm.sets;refine⟨⟨h1,⟨l0++l,?_⟩,fun q hq=>(h3 q hq).trans (hm.keep q hq)⟩,?_⟩
  .show (zbo (within f d (f s).1).1 (f s).2 (within f d (f s).1).2).sets=_
   rw[h2,h0,yhe]
  .refine (ybg h4).congr fun i j=>?_
   constructor
   .rintro (e|⟨k,hk,m,hm,h⟩)
    .exact⟨0,by omega,e⟩
    .exact⟨m+1,by omega,(zhg m i j).1 ⟨k,hk,h⟩⟩
   .rintro⟨m,hm,h⟩;cases m with
    | zero=>exact .inl h
    | succ m =>
     obtain⟨k,hk,h⟩:=(zhg m i j).2 h;exact .inr ⟨k,hk,m,by omega,h⟩
theorem yb6 {xs:List Int} {f:Lay->Lay×Str} {R:Nat->Nat->Prop} (hf:Lays xs f R) (m d:Nat):Lays xs (repX f m d) (fun i j=>∃ k,m<=k∧k<=m+d∧iter R k i j):=by
 intro s hs;obtain⟨h1,⟨l,h2⟩,h3,h4⟩:=zgt hf m s .nothing s.sets.length 0 hs (zdf _);obtain⟨k1,⟨l',k2⟩,k3,k4⟩:=zhd (zdd hf d) h1 h4;refine⟨⟨k1,⟨l++l',?_⟩,fun q hq=>(k3 q hq).trans (h3 q hq)⟩,?_⟩
 .show (zbo (within f d (zar f m s .nothing).1).1 (zar f m s .nothing).2 (within f d (zar f m s .nothing).1).2).sets=_
  rw[k2,h2,yhe]
 .refine k4.congr fun i j=>?_
  rw[yhm];constructor
  .rintro⟨k,h,n,hn,h'⟩;exact⟨m+n,by omega,by omega,(zj8 m n i j).2 ⟨k,h,h'⟩⟩
  .rintro⟨k,hk1,hk2,h⟩;rw[show k=m+(k-m) by omega] at h;obtain⟨r,h5,h6⟩:=(zj8 m (k-m) i j).1 h;exact⟨r,h5,k-m,by omega,h6⟩
theorem zn0 {xs:List Int}:∀ (l:List T),(∀ t∈l,Lays xs (layP t) (E xs t))->∀ (s:Lay) (x:Str) (a:Nat) (R:Nat->Nat->Prop),LInv s->Good xs s a s.sets.length x R->
 LInv (catP l s x).1∧(∃ m,(catP l s x).1.sets=s.sets++m)∧(∀ q,q<a->(catP l s x).1.follow.getD q []=s.follow.getD q [])∧Good xs (catP l s x).1 a (catP l s x).1.sets.length (catP l s x).2 (fun i j=>∃ k,R i k∧ECat xs l k j)
 | [],_,s,x,a,R,hs,hx=>⟨by simpa [catP] using hs,⟨[],by simp[catP]⟩,fun _ _=>by simp[catP],by
  simp only[catP,ECat];exact hx.congr fun i j=>by simp⟩
 | t::ts,h,s,x,a,R,hs,hx=>by
  obtain⟨h1,⟨m,h2⟩,h3,h4⟩:=zhd (h t yk3) hs hx;obtain⟨i1,⟨m',i2⟩,i3,i4⟩:=zn0 ts (fun t ht=>h t (by simp[ht])) _ _ a _ h1 h4;simp only[catP];refine⟨i1,⟨m++m',by rw[i2,h2,yhe]⟩,fun q hq=>(i3 q hq).trans (h3 q hq),i4.congr fun i j=>?_⟩;simp only[ECat];constructor
  .rintro⟨k,⟨k',a1,a2⟩,a3⟩;exact⟨k',a1,k,a2,a3⟩
  .rintro⟨k',a1,k,a2,a3⟩;exact⟨k,⟨k',a1,a2⟩,a3⟩
theorem zn1 {xs:List Int}:∀ (l:List T),(∀ t∈l,Lays xs (layP t) (E xs t))->∀ (s:Lay) (x:Str) (a:Nat) (R:Nat->Nat->Prop),LInv s->Good xs s a s.sets.length x R->
 More s (altP l s x).1∧Good xs (altP l s x).1 a (altP l s x).1.sets.length (altP l s x).2 (fun i j=>R i j∨EAny xs l i j)
 | [],_,s,x,a,R,hs,hx=>⟨by simpa [altP] using More.refl hs,by
  simp only[altP,EAny];exact hx.congr fun i j=>by simp⟩
 | t::ts,h,s,x,a,R,hs,hx=>by
  obtain⟨hm,hg⟩:=h t yk3 s hs;obtain⟨i1,i2⟩:=zn1 ts (fun t ht=>h t (by simp[ht])) _ _ a _ hm.inv (ybh (hx.more hm (ygo _)) hg);simp only[altP];exact⟨hm.trans i1,i2.congr fun i j=>by simp only[EAny,or_assoc]⟩
theorem zcw {xs:List Int} {t:T} (ht:WF t):Lays xs (layP t) (E xs t):=by
 induction ht with
 | one p =>
  intro s hs;simp only[layP,if_true];refine⟨zwc hs p,?_⟩;have:(oneL s p).sets.length=s.sets.length+1:=by simp[oneL]
  rw[this];exact (ybf hs p).congr fun i j=>E_one.symm
 | cat l h2 hN h ih =>
  intro s hs;obtain⟨h1,h3,h4,h5⟩:=zn0 l ih s .nothing s.sets.length _ hs (zdf _);simp only[layP];exact⟨⟨h1,h3,h4⟩,h5.congr fun i j=>by rw[ygl];simp⟩
 | alt l h2 hN h ih =>
  intro s hs;obtain⟨h1,h3⟩:=zn1 l ih s .void s.sets.length _ hs (zp4 _);simp only[layP];exact⟨h1,h3.congr fun i j=>by rw[ygm];simp⟩
 | rep m n t h0 h1 h2 h3 h ih =>
  intro s hs;have:=yb6 (show Lays xs (zke [t]) (E xs t) from fun s hs=>by simpa only [zke] using ih s hs) m.toNat (n-m).toNat s hs;simp only[layP];refine⟨this.1,this.2.congr fun i j=>?_⟩;rw[ygk,ycg];constructor
  .rintro⟨k,a1,a2,a3⟩;exact⟨k,by omega,by omega,a3⟩
  .rintro⟨k,a1,a2,a3⟩;exact⟨k,by omega,by omega,a3⟩
def lay0 (t:T):Lay×Str:=layP t ⟨[],[]⟩
theorem zft {xs:List Int} {t:T} (ht:WF t):LInv (lay0 t).1∧Good xs (lay0 t).1 0 (lay0 t).1.sets.length (lay0 t).2 (E xs t):=by
 have:=zcw (xs:=xs) ht ⟨[],[]⟩ ⟨rfl,fun q p h=>by simp at h⟩;exact⟨this.1.inv,this.2⟩
mutual
def plR:T->Nat
 | .mk op p lo hi l=>if op=1 then 1 else if op=4 then hi.toNat*plRL l else plRL l
def plRL:List T->Nat
 | []=>0
 | t::ts=>plR t+plRL ts
end
theorem zgm {f:Lay->Lay×Str} {k:Nat} (hf:∀ s,(f s).1.sets.length=s.sets.length+k):∀ (d:Nat) (s:Lay),(within f d s).1.sets.length=s.sets.length+d*k
 | 0,s=>by simp[within]
 | d+1,s=>by
  show (within f d (f s).1).1.sets.length=_
  rw[zgm hf d,hf,yiq];omega
theorem zgw {f:Lay->Lay×Str} {k:Nat} (hf:∀ s,(f s).1.sets.length=s.sets.length+k):∀ (m:Nat) (s:Lay) (x:Str),(zar f m s x).1.sets.length=s.sets.length+m*k
 | 0,s,x=>by simp[zar]
 | m+1,s,x=>by
  rw[zar,zgw hf m]
  show (f s).1.sets.length+m*k=_
  rw[hf,yiq];omega
theorem zn9:∀ (l:List T),(∀ t∈l,∀ s,(layP t s).1.sets.length=s.sets.length+plR t)->∀ s x,(catP l s x).1.sets.length=s.sets.length+plRL l
 | [],_,s,x=>by simp[catP,plRL]
 | t::ts,h,s,x=>by
  simp only[catP,plRL];rw[zn9 ts fun t ht=>h t (by simp[ht])]
  show (layP t s).1.sets.length+plRL ts=_
  rw[h t yk3];omega
theorem znd:∀ (l:List T),(∀ t∈l,∀ s,(layP t s).1.sets.length=s.sets.length+plR t)->∀ s x,(altP l s x).1.sets.length=s.sets.length+plRL l
 | [],_,s,x=>by simp[altP,plRL]
 | t::ts,h,s,x=>by
  simp only[altP,plRL];rw[znd ts fun t ht=>h t (by simp[ht]),h t yk3];omega
theorem zcx {t:T} (ht:WF t):∀ s,(layP t s).1.sets.length=s.sets.length+plR t:=by
 induction ht with
 | one p=>intro s;simp[layP,plR,oneL]
 | cat l h2 hN h ih=>intro s;simp only[layP,plR];simpa using zn9 l ih s .nothing
 | alt l h2 hN h ih=>intro s;simp only[layP,plR];simpa using znd l ih s .void
 | rep m n t h0 h1 h2 h3 h ih =>
  intro s;have hh:∀ s,(zke [t] s).1.sets.length=s.sets.length+plR t:=fun s=>by simpa only [zke] using ih s
  have e:plR (.mk 4 zaa m n [t])=n.toNat*plR t:=(by simp[plR,plRL]);rw[e];simp only[layP]
  show (within (zke [t]) (n-m).toNat (zar (zke [t]) m.toNat s .nothing).1).1.sets.length=_
  rw[zgm hh,zgw hh,show n.toNat=m.toNat+(n-m).toNat by omega,Nat.add_mul];omega
theorem zg8:∀ (l:List Nat) (a b:Nat),l.Pairwise (· < ·)->(∀ p∈l,a<=p∧p<b)->l.length<=b-a
 | [],a,b,_,_=>ygy _
 | p::ps,a,b,h,hb=>by
  rw[yhq] at h;have ih:=zg8 ps (p+1) b h.2 fun q hq=>⟨h.1 q hq,(hb q (by simp[hq])).2⟩
  have:=hb p yk3;simp only[yi8];omega
end
section
open Go Go.RowKit
structure RowsAt (w:World) (B:Nat) (vs vf:Value) (s:Lay) (Q:Nat->Prop):Prop where
 sets:w.ownsRow B 64 4 vs s.sets.length (zb8 s.sets)
 setsQ:∀ b,vs.ownBlock=some b->Q b
 fols:∃ fs,w.ownsRow B 44 1 vf s.follow.length fs∧FolAt w B fs s.follow Q
 folsQ:∀ b,vf.ownBlock=some b->Q b
section
variable {w w':World} {B:Nat} {s:Lay} {Q:Nat->Prop} {fs:List Value} {ls:List (List Nat)} {vs vf:Value}
theorem FolAt.block (h:FolAt w B fs ls Q) (hb:∀ b,Q b->b<w.heap.size->w'.heap[b]?=w.heap[b]?):FolAt w' B fs ls Q:=
 ⟨h.len,fun i v l h1 h2=>(h.get i v l h1 h2).block fun b e=>hb b (h.inQ i v b h1 e),h.inQ,h.apart⟩
theorem RowsAt.block (h:RowsAt w B vs vf s Q) (hb:∀ b,Q b->b<w.heap.size->w'.heap[b]?=w.heap[b]?):RowsAt w' B vs vf s Q:=by
 obtain⟨fs,h1,h2⟩:=h.fols;exact⟨za7 h.sets fun b e=>hb b (h.setsQ b e),h.setsQ,⟨fs,za7 h1 fun b e=>hb b (h.folsQ b e),h2.block hb⟩,h.folsQ⟩
end
end
section
open Go Go.RowKit
theorem Try.infoBool:(Try.prog.info? 4).map (fun i=>(i.zero,i.size,i.bytes))=some (some (.bool false),1,1):=by kernel_rfl
structure NfaAt (w:World) (C:Nat) (vs v1:Value) (gm:Nat) (vf:Value) (s:Lay) (x:Str):Prop where
 rows:∃ Q,RowsAt w C vs vf s Q
 first:Ints w C v1 (ns x.first)
 last:Bools w C gm s.sets.length (fun j=>x.last.contains j)
end
section
open Go Go.RowKit
def Nice (s:Lay) (a b:Nat) (x:Str):Prop:=∃ R,Good [] s a b x R
theorem Nice.len {s:Lay} {a b:Nat} {x:Str} (h:Nice s a b x):x.first.length<=b-a∧x.last.length<=b-a:=by
 obtain⟨R,h⟩:=h;exact⟨zg8 _ _ _ h.sf h.first,zg8 _ _ _ h.sl h.last⟩
theorem zj9 {α:Type} (l:List α) (i:Nat) (d:α) (h:i<l.length):l[i]?=some (l.getD i d):=by
 rw[ygq,ygn h];rfl
theorem zov (f:List (List Nat)) (ps ys:List Nat):∀ (k:Nat) (h:k<ps.length),zap f (ps.take (k+1)) ys=zcm (zap f (ps.take k) ys) (ps[k]'h) ys:=by
 induction ps generalizing f with
 | nil=>intro k h;simp at h
 | cons p ps ih =>
  intro k h;cases k with
  | zero=>simp[zap]
  | succ k =>
   simp only[yjs,zap,yjg];exact ih _ k ykc
section
variable {w w2:World} {B gl:Nat} {s:Lay} {Q:Nat->Prop} {fs:List Value} {ls:List (List Nat)} {ys:List Nat}
theorem FolAt.put (h:FolAt w B fs ls Q) (hQ:∀ b,Q b->b<w.heap.size) (p:Nat) (hp:p<ls.length) (vp v':Value) (hvp:fs[p]?=some vp) (hg:w.grownBy w2 vp.ownBlock) (hv:Ints w2 B v' (ns (ls.getD p []++ys)))
 (hor:v'.ownBlock=vp.ownBlock∨v'.ownBlock=some w.heap.size):FolAt w2 B (fs.set p v') (zcm ls p ys) (fun b=>Q b∨v'.ownBlock=some b):=by
 have hpf:p<fs.length:=(by rw[h.len];exact hp);have hset:∀ i,(fs.set p v')[i]?=if i=p then some v' else fs[i]?:=fun i=>by
  rw[yim]
  by_cases e:p=i
  .subst e;simp[hpf]
  .have e':¬ i=p:=fun x=>e x.symm
   simp[e,e']
 have hls:∀ i,(zcm ls p ys)[i]?=if i=p then some (ls.getD p []++ys) else ls[i]?:=fun i=>by
  rw[zcm,yim]
  by_cases e:p=i
  .subst e;simp[hp]
  .have e':¬ i=p:=fun x=>e x.symm
   simp[e,e']
 refine⟨by simp[zcm,h.len],fun i v l h1 h2=>?_,fun i v b h1 h2=>?_,fun i j v v'' b h1 h2 h3 h4=>?_⟩
 .rw[hset] at h1;rw[hls] at h2
  by_cases e:i=p
  .rw[if_pos e] at h1 h2;injection h1 with h1
   injection h2 with h2
   subst h1 h2;exact hv
  .rw[if_neg e] at h1 h2;refine (h.get i v l h1 h2).block fun b hb hlt=>hg.block b hlt fun e'=>e ?_
   exact h.apart i p v vp b h1 hvp hb e'.symm
 .rw[hset] at h1
  by_cases e:i=p
  .rw[if_pos e] at h1;injection h1 with h1
   subst h1;exact .inr h2
  .rw[if_neg e] at h1;exact .inl (h.inQ i v b h1 h2)
 .rw[hset] at h1 h2;have key:∀ k v0,k≠p->fs[k]?=some v0->v0.ownBlock=some b->v'.ownBlock=some b->False:=by
   intro k v0 hk hv0 hb0 hb';rcases hor with e|e
   .exact hk (h.apart k p v0 vp b hv0 hvp hb0 (e.symm.trans hb'))
   .have:=hQ b (h.inQ k v0 b hv0 hb0);rw[e] at hb';injection hb' with hb'
    omega
  by_cases e:i=p
  .by_cases e2:j=p
   .rw[e,e2]
   .rw[if_pos e] at h1;rw[if_neg e2] at h2;injection h1 with h1
    subst h1;exact (key j v'' e2 h2 h4 h3).elim
  .rw[if_neg e] at h1
   by_cases e2:j=p
   .rw[if_pos e2] at h2;injection h2 with h2
    subst h2;exact (key i v e h1 h3 h4).elim
   .rw[if_neg e2] at h2;exact h.apart i j v v'' b h1 h2 h3 h4
end
end
section
open Go Go.RowKit
theorem Tree.kidAt {w:World} {ok:Nat->Prop} {t:T} {k:Value} (h:Tree w ok t k) (i:Nat) (hi:i<t.kids.length):
 ∃ g cap k',k = .slice (some ⟨g,0,none⟩) t.kids.length cap∧g<w.heap.size∧Tree w ok (t.kids[i]'hi) k'∧∀ j u,(zb6 (t.kids[i]'hi) k')[j]?=some u->w.cell? ⟨g,8*i+j,none⟩=some u:=by
 cases h with
 | nil t h=>rw[h] at hi;simp at hi
 | row t g cap cur ks hg hok hn h0 hcap hmax hsize hc hk =>
  have hi':i<ks.length:=yjz;refine⟨g,cap,ks[i],rfl,za1 hg,hk i _ _ (ygn hi) (ygn hi'),fun j u hu=>?_⟩;have hj:j<8:=by
   have:=ygp.1 hu
   simpa [zb6] using this.1
  have e:=zkr t.kids ks i j _ _ (ygn hi) (ygn hi') hj;rw[←hc,hu] at e;rw[cell_of_row w g _ cur 67 (0,0) hg,←yjj];rw[List.getElem?_take] at e;split at e
  .exact e
  .cases e
theorem Tree.bound {w:World} {ok:Nat->Prop} {t:T} {A:Option Addr} {n c:Nat} (h:Tree w ok t (.slice A n c)):n=t.kids.length∧n<=maxLen:=by
 cases h with
 | nil t h=>exact⟨by simp[h],by decide⟩
 | row t g cap cur ks hg hok hn h0 hcap hmax hsize hc hk=>exact⟨rfl,ygw hcap hmax⟩
theorem zcy (t:T) (i:Nat) (hi:i<t.kids.length):SizeOf.sizeOf (t.kids[i]'hi)<SizeOf.sizeOf t:=by
 obtain⟨op,p,lo,hi',l⟩:=t;have:=yjm (yhb hi);simp only[T.kids] at *;simp;omega
theorem kid8 {w:World} {ok:Nat->Prop} {t u:T} {A:Option Addr} {n c:Nat} (h:Tree w ok t (.slice A n c)) (i:Nat) (hu:t.kids[i]?=some u):
 ∃ g B m d,A=some ⟨g,0,none⟩∧g<w.heap.size∧Tree w ok u (.slice B m d)∧∀ q v,(zb6 u (.slice B m d))[q]?=some v->w.cell? ⟨g,8*i+q,none⟩=some v:=by
 obtain⟨hi,e⟩:=ygp.1 hu;obtain⟨g,cap,kk,e1,hg1,htk,hcells⟩:=h.kidAt i hi;rw[e] at htk hcells;obtain⟨B,m,d,rfl⟩:=htk.form;exact⟨g,B,m,d,by injection e1,hg1,htk,hcells⟩
end
section
open Go Go.RowKit
def NodeAt (w:World) (g o:Nat) (t:T) (k:Value):Prop:=∀ q v,(zb6 t k)[q]?=some v->w.cell? ⟨g,o+q,none⟩=some v
theorem NodeAt.lt {w:World} {g o:Nat} {t:T} {k:Value} (h:NodeAt w g o t k):g<w.heap.size:=yin w ⟨g,o+0,none⟩ (h 0 _ rfl)
theorem NodeAt.kid {w:World} {ok:Nat->Prop} {t:T} {A:Option Addr} {n c:Nat} (h:Tree w ok t (.slice A n c)) (i:Nat) (hi:i<t.kids.length):
 ∃ g B m d,A=some ⟨g,0,none⟩∧Tree w ok (t.kids[i]'hi) (.slice B m d)∧NodeAt w g (i*8) (t.kids[i]'hi) (.slice B m d):=by
 obtain⟨g,B,m1,m2,e1,hg1,htk,hcells⟩:=kid8 h i (ygn hi);exact⟨g,B,m1,m2,e1,htk,fun q v e=>by rw[yhz i 8];exact hcells q v e⟩
theorem NodeAt.block {w w':World} {t:T} {g o:Nat} {k:Value} (h:NodeAt w g o t k) (hb:w'.heap[g]?=w.heap[g]?):NodeAt w' g o t k:=fun q v e=>(yhs (w:=w) (a:=⟨g,o+q,none⟩) hb).trans (h q v e)
theorem Box8.nodeAt {w:World} {g:Nat} {t:T} {k:Value} (h:Box8 w g t k):NodeAt w g 0 t k:=by
 obtain⟨c0,c1,c2,c3,c4,c5,c6,c7⟩:=h.cell;intro q v e;rw[yhm]
 match q,e with
 | 0,e=>injection e with e;rw[←e];exact c0
 | 1,e=>injection e with e;rw[←e];exact c1
 | 2,e=>injection e with e;rw[←e];exact c2
 | 3,e=>injection e with e;rw[←e];exact c3
 | 4,e=>injection e with e;rw[←e];exact c4
 | 5,e=>injection e with e;rw[←e];exact c5
 | 6,e=>injection e with e;rw[←e];exact c6
 | 7,e=>injection e with e;rw[←e];exact c7
 | q+8,e=>simp[zb6] at e
end
section
open Go Go.RowKit
def zjo (r:T×Bool) (k:Value):List Value:=[.int .i64 r.1.op,.int .u64 (word r.1.set 0),.int .u64 (word r.1.set 1),.int .u64 (word r.1.set 2),.int .u64 (word r.1.set 3),.int .i64 r.1.lo,.int .i64 r.1.hi,k,.bool r.2]
theorem zh6 (r:T×Bool) (k:Value):(zjo r k).length=9:=rfl
def zgk:List (T×Bool)->List Value->List Value
 | r::rs,k::ks=>zjo r k++zgk rs ks
 | _,_=>[]
theorem zl6:∀ (l:List (T×Bool)) (ks:List Value) (r:T×Bool) (k:Value),ks.length=l.length->zgk (l++[r]) (ks++[k])=zgk l ks++zjo r k
 | [],[],r,k,_=>by simp[zgk]
 | q::l,u::ks,r,k,h=>by simp only[yic,zgk];rw[zl6 l ks r k ykc,yhe]
 | [],_::_,r,k,h=>by simp at h
 | _::_,[],r,k,h=>by simp at h
theorem zl5:∀ (l:List (T×Bool)) (ks:List Value) (i q:Nat) (r:T×Bool) (k:Value),l[i]?=some r->ks[i]?=some k->q<9->(zgk l ks)[i*9+q]?=(zjo r k)[q]?
 | [],ks,i,q,r,k,h1,h2,hq=>by simp at h1
 | r'::l,[],i,q,r,k,h1,h2,hq=>by simp at h2
 | r'::l,k'::ks,0,q,r,k,h1,h2,hq=>by
  simp at h1 h2;subst h1 h2;rw[zgk,ygv (by rw[zh6];omega)];simp
 | r'::l,k'::ks,i+1,q,r,k,h1,h2,hq=>by
  rw[zgk,ygx (by rw[zh6];omega),zh6,show (i+1)*9+q-9=i*9+q by omega];exact zl5 l ks i q r k ylc ykp hq
def RuleRow (ty:TypeId) (w:World) (B:Nat) (v:Value) (l:List (T×Bool)):Prop:=
 ∃ ks,ks.length=l.length∧w.ownsRow B ty 9 v l.length (zgk l ks)∧∀ (i:Nat) r k,l[i]?=some r->ks[i]?=some k->Tree w (fun b=>B<=b) r.1 k
def RdRules (w:World) (A:Option Addr) (l:List (T×Bool)):Prop:=
 ∀ i r,l[i]?=some r->∃ g off k,A=some ⟨g,off,none⟩∧g<w.heap.size∧(∀ q u,(zjo r k)[q]?=some u->w.cell? ⟨g,off+i*9+q,none⟩=some u)∧Tree w (fun _=>True) r.1 k
section
variable {w w':World} {B:Nat} {v:Value} {l:List (T×Bool)} {ty ty':TypeId} {A:Option Addr}
theorem RdRules.stays (h:RdRules w A l) (hb:Below w.heap.size w w'):RdRules w' A l:=fun i r hi=>by
 obtain⟨g,off,k,e,hg,hc,ht⟩:=h i r hi;exact⟨g,off,k,e,yh3 hg hb.size,fun q u hu=>(hb.cell (p:=⟨g,off+i*9+q,none⟩) hg).trans (hc q u hu),ht.stays hb⟩
theorem RdRules.nil (w:World) (A:Option Addr):RdRules w A []:=fun i r hi=>by simp at hi
theorem RuleRow.nil (ty:TypeId) (w:World) (B:Nat):RuleRow ty w B (.slice none 0 0) []:=⟨[],rfl,yhd w B _ 9,fun i r k h=>by simp at h⟩
theorem RuleRow.form (h:RuleRow ty w B v l):∃ A c,v = .slice A l.length c∧l.length<=c:=by
 obtain⟨ks,h1,h2,h3⟩:=h;rcases h2.2 with ⟨rfl,h0⟩|⟨g,cap,cur,rfl,_,_,hc,_⟩
 .exact⟨none,0,by rw[h0],by omega⟩
 .exact⟨_,_,rfl,hc⟩
theorem RuleRow.lt (h:RuleRow ty w B v l) {b:Nat} (hb:v.ownBlock=some b):B<=b∧b<w.heap.size:=by
 obtain⟨ks,h1,h2,h3⟩:=h;exact ygs h2 b hb
theorem RuleRow.kind (h:RuleRow ty w B v l) {b:Nat} (hb:v.ownBlock=some b):∃ cur,w.heap[b]?=some (.cells cur ty (0,0)):=by
 obtain⟨ks,h1,h2,h3⟩:=h;exact za8 h2 hb
theorem RuleRow.stays (h:RuleRow ty w B v l) (hb:Below w.heap.size w w'):RuleRow ty w' B v l:=by
 obtain⟨ks,h1,h2,h3⟩:=h;exact⟨ks,h1,za6 h2 hb,fun i r k e1 e2=>(h3 i r k e1 e2).stays hb⟩
theorem RuleRow.grown {v':Value} {l':List (T×Bool)} {B':Nat} (h:RuleRow ty w B v l) (h':RuleRow ty' w B' v' l') (hne:ty≠ty') (hn:ty'≠67) (hg:w.grownBy w' v'.ownBlock):RuleRow ty w' B v l:=by
 obtain⟨ks,h1,h2,h3⟩:=h;refine⟨ks,h1,za7 h2 fun b e hb=>hg.block b hb fun e'=>?_,fun i r k e1 e2=>(h3 i r k e1 e2).mono fun b hb hlt ⟨cur,hc⟩=>⟨hg.block b hlt fun e'=>?_,hb⟩⟩
 .obtain⟨c1,k1⟩:=za8 h2 e;obtain⟨c2,k2⟩:=h'.kind e'.symm;exact za0 k1 k2 hne rfl
 .obtain⟨c2,k2⟩:=h'.kind e'.symm;exact za0 k2 hc hn rfl
theorem RuleRow.rd (h:RuleRow ty w B v l) {n c:Nat} (hv:v = .slice A n c):RdRules w A l:=fun i r hi=>by
 obtain⟨ks,h1,h2,h3⟩:=h;have hl:i<l.length:=(ygp.1 hi).1;obtain⟨k,hk⟩:∃ k,ks[i]?=some k:=⟨_,ygn yjz⟩;have ht:=h3 i r k hi hk;rcases h2.2 with ⟨_,h0⟩|⟨g,cap,cur,e,hB,hg,_⟩
 .omega
 .rw[e] at hv h2;injection hv with e1 e2 e3
  refine⟨g,0,k,e1.symm,za1 hg,fun q u hu=>?_,ht.mono fun b _ _ _=>⟨rfl,trivial⟩⟩;have hq:q<9:=by
   have:=(ygp.1 hu).1;rw[zh6] at this;exact this
  rw[yhm,ygt h2 (i*9+q) yjz,zl5 l ks i q r k hi hk hq];exact hu
end
def RuleBox (ty:TypeId) (w:World) (b:Nat) (r:T×Bool) (k:Value):Prop:=w.heap[b]?=some (.cells #[.int .i64 r.1.op,.int .u64 (word r.1.set 0),.int .u64 (word r.1.set 1),.int .u64 (word r.1.set 2),.int .u64 (word r.1.set 3),.int .i64 r.1.lo,.int .i64 r.1.hi,k,.bool r.2] ty (0,0))
section
variable {w w':World} {b:Nat} {r:T×Bool} {k:Value} {ty:TypeId}
end
structure zsx (ty tys:TypeId):Prop where
 und:Try.prog.underlying tys=some (.slice ty)
 info:(Try.prog.info? ty).map (fun i=>(i.zero,i.size,i.bytes))=some (some (.agg #[.int .i64 0,.int .u64 0,.int .u64 0,.int .u64 0,.int .u64 0,.int .i64 0,.int .i64 0,.slice none 0 0,.bool false]),9,88)
 node:ty≠67
theorem zvn {ty tys:TypeId} (hT:zsx ty tys) {w:World} {B:Nat} {v:Value} {l:List (T×Bool)} (h:RuleRow ty w B v l) (hB:B<=w.heap.size) (hl:l.length<=100000) (r:T×Bool) (k:Value) (hk:Tree w (fun b=>B<=b) r.1 k) (td:TypeId) (ad:Addr) (c:Nat)
 (hc:∀ (j:Nat) u,(zjo r k)[j]?=some u->w.cell? (ad.add j)=some u):
 ∃ v' w',(Builtin.append_ #[tys,tys] td #[v,.slice (some ad) 1 c]).run Try.prog w = .ok v' w'∧RuleRow ty w' B v' (l++[r])∧w.grownBy w' v.ownBlock∧(v'.ownBlock=v.ownBlock∨v'.ownBlock=some w.heap.size):=by
 have h0:=h;obtain⟨ks,h1,h2,h3⟩:=h;obtain⟨i0,hi,hz0,hz1,hz2⟩:=info_parts hT.info;have hone:=hk.one;obtain⟨v',w',hr,h4,h5,_,h6⟩:=run_append_own_at (P:=Try.prog) w B tys td ty i0 _ 9 88 hT.und hi hz0 hz1 hz2 rfl yk6 v l.length (zgk l ks) h2 ad 1 c (zjo r k) rfl hc
  (by
    intro u hu;simp only[zjo,yh4,yh5,or_false] at hu;rcases hu with rfl|rfl|rfl|rfl|rfl|rfl|rfl|rfl|rfl
    all_goals first | rfl | exact hone) yka yjz hB
 have key:∀ (t':T) (k':Value),Tree w (fun b=>B<=b) t' k'->Tree w' (fun b=>B<=b) t' k':=fun t' k' ht=>ht.mono fun b hb hlt ⟨cur,hcu⟩=>⟨h5.block b hlt fun e=>by
  obtain⟨c2,k2⟩:=h0.kind e.symm;exact za0 k2 hcu hT.node rfl,hb⟩
 refine⟨v',w',hr,⟨ks++[k],by simp[h1],?_,fun i r' k' e1 e2=>?_⟩,h5,h6⟩
 .rw[zl6 l ks r k h1]
  simpa using h4
 .by_cases hi':i<l.length
  .rw[ygv hi'] at e1;rw[ygv yjz] at e2;exact key _ _ (h3 i r' k' e1 e2)
  .have e0:i=l.length:=by
    have:=(ygp.1 e1).1;simp at this;omega
   subst e0;rw[ygx (ygo _)] at e1;rw[ygx yjz] at e2;simp[h1] at e1 e2;subst e1 e2;exact key _ _ hk
theorem zjc {ty tys:TypeId} (hT:zsx ty tys) {w:World} {ops:Array Oper} {rest:List Oper} {o:Oper} {a:Act} {Q:Exit->Act->World->Prop} (hgd:o.guard=none) (s x:Operand)
 (ho:o.op = .call {callee := .builtin .append,args:=#[s,x],argTypes:=#[tys,tys]})
 {B:Nat} {v:Value} {l:List (T×Bool)} (hs:a.eval s=v) (h:RuleRow ty w B v l) (hB:B<=w.heap.size) (hl:l.length<=100000) (r:T×Bool) (k:Value) (hkt:Tree w (fun b=>B<=b) r.1 k)
 (ad:Addr) (c:Nat) (hx:a.eval x = .slice (some ad) 1 c) (hc:∀ (j:Nat) u,(zjo r k)[j]?=some u->w.cell? (ad.add j)=some u)
 (hk:∀ v' w',RuleRow ty w' B v' (l++[r])->w.grownBy w' v.ownBlock->(v'.ownBlock=v.ownBlock∨v'.ownBlock=some w.heap.size)->wpList Try.prog ops Q rest (a.put o.dst v') w'):wpList Try.prog ops Q (o::rest) a w:=by
 obtain⟨v',w',hr,h2,h3,h4⟩:=zvn hT h hB hl r k hkt o.type ad c hc;refine wpList_plain hgd fun _ hK=>?_
 unfold Oper.wp execOp;simp only[ho,resolve,invoke,builtin,Sem.run_bind,Sem.run_pure,Result.andThen_ok,yi4,yhw,yia,hs,hx,hr];exact hK _ _ (hk v' w' h2 h3 h4)
theorem zrg {ty:TypeId} (w:World) (r:T×Bool) (k:Value):∀ (j:Nat) u,(zjo r k)[j]?=some u->(w.alloc (.cells #[.int .i64 r.1.op,.int .u64 (word r.1.set 0),.int .u64 (word r.1.set 1),.int .u64 (word r.1.set 2),.int .u64 (word r.1.set 3),.int .i64 r.1.lo,.int .i64 r.1.hi,k,.bool r.2] ty)).cell? ((⟨w.heap.size,0,none⟩:Addr).add j)=some u:=by
 intro j u hu;rw[Addr.add_lit,yhm,cell_of_row _ _ j _ ty (0,0) (heap_alloc_new w _)]
 simpa [zjo] using hu
theorem zfz {ty:TypeId} {w w':World} {B b:Nat} {v:Value} {l:List (T×Bool)} {cur:Array Value} (h':RuleRow ty w B v l) (hn:ty≠67) (hg:w.grownBy w' v.ownBlock) (hb:w.heap[b]?=some (.cells cur 67 (0,0))):w'.heap[b]?=w.heap[b]?:=
 hg.block b (za1 hb) fun e=>by
  obtain⟨c2,k2⟩:=h'.kind e.symm;exact za0 k2 hb hn rfl
theorem Tree.ruleGrown {ty:TypeId} {w w':World} {B:Nat} {v:Value} {l:List (T×Bool)} {ok:Nat->Prop} {t:T} {k:Value} (h:Tree w ok t k) (h':RuleRow ty w B v l) (hn:ty≠67) (hg:w.grownBy w' v.ownBlock):Tree w' ok t k:=
 h.mono fun b hb _ ⟨cur,hc⟩=>⟨zfz h' hn hg hc,hb⟩
theorem Box8.ruleGrown {ty:TypeId} {w w':World} {B g:Nat} {v:Value} {l:List (T×Bool)} {t:T} {k:Value} (h:Box8 w g t k) (h':RuleRow ty w B v l) (hn:ty≠67) (hg:w.grownBy w' v.ownBlock):Box8 w' g t k:=(zfz h' hn hg h).trans h
theorem zkt {ty:TypeId} {w0 w w':World} {B:Nat} {v:Value} {l:List (T×Bool)} (hb:Below B w0 w) (hB:B<=w.heap.size) (h':RuleRow ty w B v l) (hg:w.grownBy w' v.ownBlock):Below B w0 w':=hb.grown hg hB fun q e=>(h'.lt e).1
theorem zl7 {ty ty2:TypeId} {w0 w w':World} {B g:Nat} {va vb:Value} {l l2:List (T×Bool)} {t:T} {k:Value} {ok:Nat->Prop} {o:Obj} (hA:RuleRow ty w B va l) (hB:RuleRow ty2 w B vb l2) (hne:ty2≠ty) (hn:ty≠67) (hb:Below B w0 w) (hBw:B<=w.heap.size) (ht:Tree w ok t k) (hx:Box8 w g t k)
 (hg:(w.alloc o).grownBy w' va.ownBlock):Below B w0 w'∧RuleRow ty2 w' B vb l2∧Tree w' ok t k∧Box8 w' g t k:=by
 have hal:Below w.heap.size w (w.alloc o):=(ygr _ _).alloc (ygo _) _;have hA':=hA.stays hal;exact⟨zkt (hb.alloc hBw o) yk8 hA' hg,(hB.stays hal).grown hA' hne hn hg,(ht.alloc o).ruleGrown hA' hn hg,(hx.alloc o).ruleGrown hA' hn hg⟩
end
section
open Go Go.RowKit
theorem ruleTyM:zsx 72 26:=⟨Try.underlying26,by kernel_rfl,by decide⟩
theorem ruleTyR:zsx 73 27:=⟨Try.underlying27,by kernel_rfl,by decide⟩
end
section
open Go Go.RowKit
def setL (xs:List Value) (o:Nat):List Value->List Value
 | []=>xs
 | v::vs=>setL (xs.set o v) (o+1) vs
theorem zjn (x:Value):∀ (vs xs:List Value) (o:Nat),setL (x::xs) (o+1) vs=x::setL xs o vs
 | [],xs,o=>rfl
 | v::vs,xs,o=>by simp only[setL,List.set_cons_succ];rw[zjn x vs]
theorem zrc:∀ (ys vs xs:List Value) (o:Nat),setL (ys++xs) (ys.length+o) vs=ys++setL xs o vs
 | [],vs,xs,o=>by simp
 | y::ys,vs,xs,o=>by
  rw[yic,yi8,show ys.length+1+o=ys.length+o+1 by omega,zjn,zrc ys];rfl
theorem zrd:∀ (vs ys xs:List Value),ys.length=vs.length->setL (ys++xs) 0 vs=vs++xs
 | [],[],xs,_=>rfl
 | v::vs,y::ys,xs,h=>by
  simp only[yic,setL,List.set_cons_zero];rw[zjn,zrd vs ys xs ykc]
 | [],_::_,_,h=>by simp at h
 | _::_,[],_,h=>by simp at h
theorem ziq {B g n cap size:Nat} {e:TypeId}:∀ (vs:List Value) (o:Nat) (xs:List Value) (w:World),w.ownsRow B e size (.slice (some ⟨g,0,none⟩) n cap) n xs->(w.setCells g o vs).ownsRow B e size (.slice (some ⟨g,0,none⟩) n cap) n (setL xs o vs)
 | [],o,xs,w,h=>h
 | v::vs,o,xs,w,h=>ziq vs (o+1) _ _ (yhk h o v).1
theorem zee {g b:Nat} (hb:b≠g):∀ (vs:List Value) (o:Nat) (w:World),(w.setCells g o vs).heap[b]?=w.heap[b]?
 | [],o,w=>rfl
 | v::vs,o,w=>(zee hb vs (o+1) _).trans (ygz w _ _ b hb)
theorem zij {B g:Nat} {a:World} (hb:B<=g):∀ (vs:List Value) (o:Nat) (w:World),Below B a w->Below B a (w.setCells g o vs)
 | [],o,w,h=>h
 | v::vs,o,w,h=>zij hb vs (o+1) _ (h.setCell (p:=⟨g,o,none⟩) hb v)
def rule0:T×Bool:=(T.zero,false)
def ruleV (r:T×Bool) (k:Value):Value := .agg #[.int .i64 r.1.op,.int .u64 (word r.1.set 0),.int .u64 (word r.1.set 1),.int .u64 (word r.1.set 2),.int .u64 (word r.1.set 3),.int .i64 r.1.lo,.int .i64 r.1.hi,k,.bool r.2]
section
variable {ty tys:TypeId} {w:World} {B g cap:Nat} {l:List (T×Bool)}
end
end
section
open Go Go.RowKit
structure LayAt (w:World) (B gl:Nat) (s:Lay) (Q:Nat->Prop):Prop where
 ge:∀ b,Q b->B<=b∧b<w.heap.size
 glQ:Q gl
 box:∃ vs vf,w.heap[gl]?=some (.cells #[vs,vf] 139 (0,0))∧RowsAt w B vs vf s Q
section
variable {w w':World} {B gl:Nat} {s:Lay} {Q Q':Nat->Prop} {fs:List Value} {ls:List (List Nat)} {vs vf:Value}
theorem LayAt.block (h:LayAt w B gl s Q) (hs:w.heap.size<=w'.heap.size) (hb:∀ b,Q b->w'.heap[b]?=w.heap[b]?):LayAt w' B gl s Q:=by
 obtain⟨vs,vf,h1,h2⟩:=h.box;exact⟨fun b e=>by have:=h.ge b e;omega,h.glQ,vs,vf,(hb gl h.glQ).trans h1,h2.block fun b e _=>hb b e⟩
theorem LayAt.off (h:LayAt w B gl s Q) (hk:Kept Q' w w') (hq:∀ b,Q b->¬ Q' b):LayAt w' B gl s Q:=h.block hk.size fun b e=>hk.block b (h.ge b e).2 (hq b e)
theorem LayAt.stays (h:LayAt w B gl s Q) (hb:Below w.heap.size w w'):LayAt w' B gl s Q:=h.block hb.size fun b e=>hb.block b (h.ge b e).2
theorem LayAt.alloc (h:LayAt w B gl s Q) (o:Obj):LayAt (w.alloc o) B gl s Q:=h.block yk3 fun b e=>yhf _ _ _ (h.ge b e).2
theorem LayAt.far (h:LayAt w B gl s Q) {a:Addr} (ha:¬ Q a.block) (u:Value):LayAt (w.setCell a u) B gl s Q:=h.block (by simp[World.setCell]) fun b e=>ygz _ _ _ _ (by intro e';subst e';exact ha e)
end
structure StrAt (w:World) (C:Nat) (v1 v2:Value) (x:Str) (Q:Nat->Prop):Prop where
 first:Ints w C v1 (ns x.first)
 last:Ints w C v2 (ns x.last)
 apart:∀ b,v1.ownBlock=some b->v2.ownBlock≠some b
 out1:∀ b,v1.ownBlock=some b->¬ Q b
 out2:∀ b,v2.ownBlock=some b->¬ Q b
section
variable {w w':World} {C:Nat} {v1 v2:Value} {x:Str} {Q Q':Nat->Prop}
theorem StrAt.off (h:StrAt w C v1 v2 x Q) (hk:Kept Q w w') (hq:∀ b,Q' b->Q b∨w.heap.size<=b):StrAt w' C v1 v2 x Q':=
 ⟨h.first.off hk h.out1,h.last.off hk h.out2,h.apart,fun b e e'=>(hq b e').elim (h.out1 b e) fun e''=>by have:=(h.first.in e).2;omega,fun b e e'=>(hq b e').elim (h.out2 b e) fun e''=>by have:=(h.last.in e).2;omega⟩
theorem StrAt.stays (h:StrAt w C v1 v2 x Q) (hb:Below w.heap.size w w'):StrAt w' C v1 v2 x Q:=⟨h.first.stays hb,h.last.stays hb,h.apart,h.out1,h.out2⟩
theorem StrAt.alloc (h:StrAt w C v1 v2 x Q) (o:Obj):StrAt (w.alloc o) C v1 v2 x Q:=h.stays ((ygr _ _).alloc (ygo _) _)
theorem StrAt.low {C':Nat} (h:StrAt w C v1 v2 x Q) (hC:C'<=C):StrAt w C' v1 v2 x Q:=⟨h.first.low hC,h.last.low hC,h.apart,h.out1,h.out2⟩
end
def BoxS (w:World) (g:Nat) (v1 v2:Value) (e:Bool):Prop:=w.heap[g]?=some (.cells #[v1,v2,.bool e] 141 (0,0))
section
variable {w w':World} {g:Nat} {v1 v2:Value} {e:Bool}
theorem BoxS.cell (h:BoxS w g v1 v2 e):w.cell? ⟨g,0,none⟩=some v1∧w.cell? ⟨g,1,none⟩=some v2∧w.cell? ⟨g,2,none⟩=some (.bool e):=by
 unfold BoxS at h;refine⟨?_,?_,?_⟩ <;> exact cell_of_row w g _ _ 141 (0,0) h
theorem BoxS.frozen (h:BoxS w g v1 v2 e):w.frozen? ⟨g,0,none⟩=false∧w.frozen? ⟨g,1,none⟩=false∧w.frozen? ⟨g,2,none⟩=false:=by
 unfold BoxS at h;refine⟨?_,?_,?_⟩ <;> simp[World.frozen?,h]
theorem BoxS.lt (h:BoxS w g v1 v2 e):g<w.heap.size:=za1 h
theorem BoxS.new (w:World) (v1 v2:Value) (e:Bool):BoxS (w.alloc (.cells #[v1,v2,.bool e] 141)) w.heap.size v1 v2 e:=heap_alloc_new w _
theorem BoxS.stays (h:BoxS w g v1 v2 e) (hb:Below w.heap.size w w'):BoxS w' g v1 v2 e:=(hb.block g h.lt).trans h
theorem BoxS.alloc (h:BoxS w g v1 v2 e) (o:Obj):BoxS (w.alloc o) g v1 v2 e:=(yhf w o g h.lt).trans h
theorem BoxS.off {Q:Nat->Prop} (h:BoxS w g v1 v2 e) (hk:Kept Q w w') (hq:¬ Q g):BoxS w' g v1 v2 e:=(hk.block g h.lt hq).trans h
theorem BoxS.grown {row:Option Nat} (h:BoxS w g v1 v2 e) (hg:w.grownBy w' row) (hr:some g≠row):BoxS w' g v1 v2 e:=(hg.block g h.lt hr).trans h
theorem BoxS.grownI {B:Nat} {v:Value} {l:List Int} (h:BoxS w g v1 v2 e) (hi:Ints w B v l) (hg:w.grownBy w' v.ownBlock):BoxS w' g v1 v2 e:=h.grown hg fun e'=>by
 obtain⟨cur,hc⟩:=hi.kind e'.symm;exact za0 hc h yk6 rfl
theorem BoxS.put0 (h:BoxS w g v1 v2 e) (v:Value):BoxS (w.setCell ⟨g,0,none⟩ v) g v v2 e:=by
 unfold BoxS at h ⊢;rw[heap_setCell_same w g 0 _ _ v h];rfl
theorem BoxS.far (h:BoxS w g v1 v2 e) {a:Addr} (ha:g≠a.block) (u:Value):BoxS (w.setCell a u) g v1 v2 e:=(ygz w a u g ha).trans h
end
section
variable {w:World} {g x:Nat} {v1 v2:Value} {e:Bool}
theorem BoxS.put (h:BoxS w g v1 v2 e) (u1 u2:Value) (e':Bool):BoxS (((w.setCell ⟨g,0,none⟩ u1).setCell ⟨g,1,none⟩ u2).setCell ⟨g,2,none⟩ (.bool e')) g u1 u2 e':=by
 unfold BoxS at h ⊢;have h0:=heap_setCell_same w g 0 _ _ u1 h;have h1:=heap_setCell_same _ g 1 _ _ u2 h0;rw[heap_setCell_same _ g 2 _ _ (.bool e') h1];rfl
theorem yav (h:BoxS w g v1 v2 e):(loadVar 141 ⟨g,0,none⟩).run Try.prog w = .ok (.agg #[v1,v2,.bool e]) w:=by
 obtain⟨c0,c1,c2⟩:=h.cell;have h1:(loadCells ⟨g,0,none⟩ 3).run Try.prog w = .ok #[v1,v2,.bool e] w:=run_loadCells w ⟨g,0,none⟩ 3 (fun j=>if j=0 then v1 else if j=1 then v2 else .bool e) (fun j hj=>by
  rw[Addr.add_lit,yhm]
  match j,hj with
  | 0,_=>exact c0
  | 1,_=>exact c1
  | 2,_=>exact c2)
 have h2:(isAgg 141).run Try.prog w = .ok true w:=yk2;have h3:(sizeOf 141).run Try.prog w = .ok 3 w:=yk2;simp[loadVar,Sem.run_bind,h1,h2,h3]
theorem zcg {fn:Func} {R:Ending->World->Prop} {a:Act} (hr:fn.results=#[.cell x 141]) (hx:a.tmps.getD x undef = .pointer (some ⟨g,0,none⟩)) (hd:a.defers=[]) (h:BoxS w g v1 v2 e)
 (hR:R (.returned (.agg #[v1,v2,.bool e])) w):bodyPost Try.prog fn R .ret a w:=by
 refine bodyPost_ret ?_ hd hR;have e0:(#[ResultVar.cell x 141]:Array ResultVar)=[ResultVar.cell x 141].toArray:=rfl;rw[yi1] at hx;unfold results;rw[hr,e0];simp[Sem.run_bind,hx,yav h,asAddr]
end
end
section
open Go Go.RowKit
attribute [local go_sem ↓] Go.wp_at_zero Go.wp_at_succ
mutual
def plN:T->Nat
 | .mk op p lo hi l=>min (((if op=1 then 1 else 0)+zd2 l)*(if op=4 then hi.toNat else 1)) 1000
def zd2:List T->Nat
 | []=>0
 | t::ts=>plN t+zd2 ts
end
theorem zw3 (t:T):plN t<=1000:=by cases t;unfold plN;omega
theorem zoc:∀ (l l':List T),zd2 (l++l')=zd2 l+zd2 l'
 | [],l'=>by simp[zd2]
 | t::ts,l'=>by simp[zd2,zoc ts l'];omega
theorem zlb (l:List T) (j:Nat) (h:j<l.length):zd2 (l.take (j+1))=zd2 (l.take j)+plN (l[j]'h):=by
 rw[yh2 h,zoc];simp[zd2]
theorem zh7:∀ (l:List T),zd2 l<=1000*l.length
 | []=>by simp[zd2]
 | t::ts=>by
  have:=zh7 ts;have:=zw3 t;simp[zd2];omega
def zas (t:T) (k:Value):Value := .agg #[.int .i64 t.op,.int .u64 (word t.set 0),.int .u64 (word t.set 1),.int .u64 (word t.set 2),.int .u64 (word t.set 3),.int .i64 t.lo,.int .i64 t.hi,k]
theorem WF.op_cases {t:T} (h:WF t):(t.op=1∧t.kids=[]∧t.lo=0∧t.hi=0)∨(t.op=2∧2<=t.kids.length∧t.kids.length<=202∧t.lo=0∧t.hi=0)∨(t.op=3∧2<=t.kids.length∧t.kids.length<=202∧t.lo=0∧t.hi=0)∨
 (t.op=4∧t.kids.length=1∧0<=t.lo∧t.lo<=t.hi∧1<=t.hi∧t.hi<=32):=by
 cases h with
 | one p=>exact .inl ⟨rfl,rfl,rfl,rfl⟩
 | cat l h2 hN h=>exact .inr (.inl ⟨rfl,h2,hN,rfl,rfl⟩)
 | alt l h2 hN h=>exact .inr (.inr (.inl ⟨rfl,h2,hN,rfl,rfl⟩))
 | rep m n t h0 h1 h2 h3 h=>exact .inr (.inr (.inr ⟨rfl,rfl,h0,h1,h2,h3⟩))
theorem WF.len {t:T} (h:WF t):t.kids.length<=202:=by
 rcases h.op_cases with h|h|h|h
 .rw[h.2.1];decide
 .exact h.2.2.1
 .exact h.2.2.1
 .rw[h.2.1];decide
theorem WF.kid {t:T} (h:WF t) {u:T} (hu:u∈t.kids):WF u:=by
 cases h with
 | one p=>simp[T.kids] at hu
 | cat l h2 hN h=>exact h u hu
 | alt l h2 hN h=>exact h u hu
 | rep m n t h0 h1 h2 h3 h=>simp[T.kids] at hu;rw[hu];exact h
theorem WF.at {t:T} (h:WF t) (j:Nat) (hj:j<t.kids.length):WF (t.kids[j]'hj):=h.kid (yhb hj)
def zea (w:World) (n:Int) (e:Ending) (w':World):Prop:=e = .returned (.int .i64 n)∧Below w.heap.size w w'
theorem ya8:∀ (N:Nat) (t:T) (w:World) (ok:Nat->Prop) (k:Value),SizeOf.sizeOf t<=N->WF t->Tree w ok t k->
 Calls Try.prog 41 #[zas t k] w (zea w (plN t)):=by
 intro N;induction N with
 | zero=>intro t w ok k h;obtain⟨op,p,lo,hi,l⟩:=t;simp at h
 | succ N ih =>
 intro t w ok k hN hwf ht;obtain⟨A,n',c,rfl⟩:=ht.form;obtain⟨hn,hm⟩:=ht.bound;have hlen:=hwf.len;rw[←hn] at hlen;unfold maxLen at hm;have hop:=hwf.op_cases;have b1:=Box8.new w t (.slice A n' c);have hB:Below w.heap.size w (w.alloc (.cells #[.int .i64 t.op,.int .u64 (word t.set 0),.int .u64 (word t.set 1),.int .u64 (word t.set 2),.int .u64 (word t.set 3),.int .i64 t.lo,.int .i64 t.hi,.slice A n' c] 67)):=(ygr _ _).alloc (ygo _) _;have hpl:plN t=min (((if t.op=1 then 1 else 0)+zd2 t.kids)*(if t.op=4 then t.hi.toNat else 1)) 1000:=(by cases t;rfl);have hsum:=zh7 t.kids;have HPL:=Zh hpl;have HSUM:=Zh hsum;have HWF:=Zh hwf;have HOP:=Zh hop;have HN:=Zh hn;have HT:=Zh ht;have IH:=Zh ih;have HB1:=Zh b1;have HM:=Zh hm;clear hn ih hpl hsum hwf hop;unfold zas;cases hb1:(t.op==1)
 all_goals
  cases hb4:(t.op==4)
  all_goals
   go_enter Try.func41,Try.ntmps41;go_wp2;go_loopg [3,4] n' (fun m k i wr=>∃ j:Nat,i = .int .i64 (j:Int)∧j<=n'∧m=n'-j∧k = .int .i64 (((if t.op=1 then 1 else 0)+zd2 (t.kids.take j):Nat):Int)∧Box8 wr w.heap.size t (.slice A n' c)∧Below w.heap.size w wr)
   case atStart=>exact⟨0,rfl,ygy _,rfl,by first | (rw[if_pos (by simpa using hb1)];rfl) | (rw[if_neg (by simpa using hb1)];rfl),HB1.o,hB⟩
   case round =>
    obtain⟨j,rfl,hj,hmj,rfl,x1,hW⟩:=hrel;have HMJ:=Zh hmj;obtain⟨c0,c1,c2,c3,c4,c5,c6,c7⟩:=x1.cell;clear b1 hmj
    by_cases hlt:j<n'
    .have hlt':j<t.kids.length:=ykr;obtain⟨g,B,m1,m2,e1,hg1,htk,hcells⟩:=kid8 HT.o j (ygn hlt');subst e1;have hks:=zcy t j hlt';have hwk:=HWF.o.at j hlt';have hst:=zlb t.kids j hlt';have hsl:=zh7 (t.kids.take j);rw[yi9] at hsl;have hpu:=zw3 (t.kids[j]'hlt');generalize t.kids[j]=u at *;have HC:∀ q v,(zb6 u (.slice B m1 m2))[q]?=some v->wr.cell? ⟨g,j*8+q,none⟩=some v:=fun q v h=>by rw[yhz j 8];exact (hW.cell (p:=⟨g,8*j+q,none⟩) hg1).trans (hcells q v h)
     have k0:wr.cell? ⟨g,j*8,none⟩=_:=HC 0 _ rfl;have k1:=HC 1 _ rfl;have k2:=HC 2 _ rfl;have k3:=HC 3 _ rfl;have k4:=HC 4 _ rfl;have k5:=HC 5 _ rfl;have k6:=HC 6 _ rfl;have k7:=HC 7 _ rfl;have HK:=Zh (fun w' (hb:Below wr.heap.size wr w')=>IH.o u w' ok (.slice B m1 m2) yjz hwk ((htk.stays hW).stays hb));have HST:=Zh hst;clear HC hcells htk hks hwk hst;unfold zas zea at HK;have ha:((if t.op=1 then 1 else 0:Nat))<=1:=by split <;> omega
     generalize hS:(if t.op=1 then 1 else 0:Nat)=a0 at *;generalize zd2 (t.kids.take j)=S at *;have hS2:S<=202000:=yjz;clear hS;go_wp2_with (go_at_call 41;(with_reducible refine (HK.o _ (ygr _ _)).mono ?_);rintro e w5 ⟨rfl,hb5⟩);go_roundg (n'-(j+1))
     case measure=>have:=HMJ.o;omega
     case rel=>exact⟨j+1,by go_num,by omega,rfl,by rw[HST.o];go_num,x1.stays hb5,gro hW hb5⟩
    .have hjn:j=t.kids.length:=yl9;have hwhole:t.kids.take j=t.kids:=(by rw[hjn];exact yhn);rw[hwhole];have hS2:=HSUM.o;have ha:((if t.op=1 then 1 else 0:Nat))<=1:=by split <;> omega
     have hpl':=HPL.o;rw[show t.kids.length=n' from HN.o.symm] at hS2;generalize hS:(if t.op=1 then 1 else 0:Nat)=a0 at *;generalize zd2 t.kids=S at *
     by_cases h4:t.op=4
     .first
       | (exfalso;simp[h4] at hb4;done)
       | skip
      all_goals
       rw[if_pos h4] at hpl';have hh:=HOP.o;have hh2:1<=t.hi∧t.hi<=32:=yjz;obtain⟨hi0,hi1⟩:=hh2;obtain⟨hN,hNe⟩:∃ hN:Nat,t.hi=hN:=⟨t.hi.toNat,by omega⟩;have hpr:(a0+S)*hN<=202001*32:=yjf yjz yjz;rw[hNe,yh9] at hpl';have hprod:((a0:Int)+(S:Int))*(hN:Int)=(((a0+S)*hN:Nat):Int):=yk3;generalize (a0+S)*hN=Pr at hpl' hpr hprod;have HPL2:=Zh hpl';have HPR:=Zh hprod;rw[hNe] at c6;have p0:(0:Int)<=((a0:Int)+(S:Int))*(hN:Int):=(by rw[hprod];omega);have p1:((a0:Int)+(S:Int))*(hN:Int)<=9223372036854775807:=(by rw[hprod];omega);clear hpl' hNe hh h4 hS hprod hi0 hi1;go_wp2
       all_goals
        go_ret;refine⟨congrArg Ending.returned (congrArg (Value.int .i64) ?_),hW⟩;have e1:=HPL2.o;have e2:=HPR.o;rw[e1];omega
     .first
       | (exfalso;simp at hb4;exact h4 hb4)
       | skip
      all_goals
       rw[if_neg h4,yib] at hpl';have HPL2:=Zh hpl';clear hpl' h4 hS;go_wp2
       all_goals
        go_ret;refine⟨congrArg Ending.returned (congrArg (Value.int .i64) ?_),hW⟩;rw[HPL2.o];omega
theorem zmp {t:T} {k:Value} {ok:Nat->Prop} (w:World) (hwf:WF t) (ht:Tree w ok t k):Calls Try.prog 41 #[zas t k] w (zea w (plN t)):=
 ya8 _ t w ok k (ygo _) hwf ht
end
section
open Go Go.RowKit
def zpo (most:Bool) (a b:Nat):Nat:=if most then max a b else min a b
def zfo (most:Bool):List Nat->Nat
 | []=>0
 | a::l=>l.foldl (zpo most) a
mutual
def lenN (most:Bool):T->Nat
 | .mk op p lo hi l=>min (if op=1 then 1 else if op=2 then (lenL most l).sum else if op=3 then zfo most (lenL most l) else if op=4 then (if most then hi else lo).toNat*zfo most (lenL most l) else 0) 1000
def lenL (most:Bool):List T->List Nat
 | []=>[]
 | t::ts=>lenN most t::lenL most ts
end
theorem zka (most:Bool) (t:T):lenN most t<=1000:=by cases t;unfold lenN;omega
theorem zhc (most:Bool) (l:List T):lenL most l=l.map (lenN most):=by
 induction l with
 | nil=>rfl
 | cons t ts ih=>simp[lenL,ih]
theorem zv7 (most:Bool):∀ (l:List T),(lenL most l).sum<=1000*l.length
 | []=>by simp[lenL]
 | t::ts=>by
  have:=zv7 most ts;have:=zka most t;simp[lenL];omega
theorem zzd (most:Bool) (l:List T) (j:Nat) (h:j<l.length):(lenL most (l.take (j+1))).sum=(lenL most (l.take j)).sum+lenN most (l[j]'h):=by
 rw[yh2 h,zhc,zhc,yhl,List.sum_append];simp only[yhw,yia,List.sum_cons,List.sum_nil,yi2]
theorem zyj (most:Bool) (l:List Nat) (b:Nat) (h:l≠[]):zfo most (l++[b])=zpo most (zfo most l) b:=by
 cases l with
 | nil=>exact absurd rfl h
 | cons a l=>simp[zfo]
theorem zyi (most:Bool) (l:List T) (j:Nat) (h:j<l.length) (h0:0<j):zfo most (lenL most (l.take (j+1)))=zpo most (zfo most (lenL most (l.take j))) (lenN most (l[j]'h)):=by
 rw[yh2 h,zhc,zhc,yhl];refine zyj most _ _ ?_;intro e;have:=congrArg List.length e;rw[yh8,yi9,yj5] at this;omega
theorem yc5 {most:Bool} {a b N:Nat} (ha:a<=N) (hb:b<=N):zpo most a b<=N:=by unfold zpo;split <;> omega
theorem yc4 (most:Bool) (N:Nat):∀ (l:List Nat),(∀ x∈l,x<=N)->zfo most l<=N
 | [],_=>ygy _
 | a::l,h=>by
  have key:∀ (l:List Nat) (a:Nat),a<=N->(∀ x∈l,x<=N)->l.foldl (zpo most) a<=N:=by
   intro l;induction l with
   | nil=>intro a ha _;exact ha
   | cons b l ih=>intro a ha hl;exact ih _ (yc5 ha (hl b yk3)) fun x hx=>hl x (by simp[hx])
  exact key l a (h a yk3) fun x hx=>h x (by simp[hx])
theorem zyk (most:Bool) (l:List T):zfo most (lenL most l)<=1000:=by
 refine yc4 most 1000 _ fun x hx=>?_
 rw[zhc] at hx;simp only[yhx] at hx;obtain⟨t,_,rfl⟩:=hx;exact zka most t
theorem zst (most:Bool) (l:List T) (h:0<l.length):zfo most (lenL most (l.take 1))=lenN most (l[0]'h):=by
 cases l with
 | nil=>simp at h
 | cons a l=>simp[lenL,zfo]
end
section
open Go Go.RowKit
attribute [local go_sem ↓] Go.wp_at_zero Go.wp_at_succ
theorem yc6 (most:Bool) (a b:Nat):(if (most==decide ((a:Int)<(b:Int)))=true then b else a)=zpo most a b:=by
 unfold zpo;cases most
 .by_cases h:(a:Int)<(b:Int)
  .simp[h];omega
  .simp[h];omega
 .by_cases h:(a:Int)<(b:Int)
  .simp[h];omega
  .simp[h];omega
theorem yb5 (most:Bool):∀ (N:Nat) (t:T) (w:World) (ok:Nat->Prop) (k:Value),SizeOf.sizeOf t<=N->WF t->Tree w ok t k->
 Calls Try.prog 22 #[zas t k,.bool most] w (zea w (lenN most t)):=by
 intro N;induction N with
 | zero=>intro t w ok k h;obtain⟨op,p,lo,hi,l⟩:=t;simp at h
 | succ N ih =>
 intro t w ok k hN hwf ht;obtain⟨A,n',c,rfl⟩:=ht.form;obtain⟨hn,hm⟩:=ht.bound;have hlen:=hwf.len;rw[←hn] at hlen;unfold maxLen at hm;have hop:=hwf.op_cases;have b1:=Box8.new w t (.slice A n' c);have hB:Below w.heap.size w (w.alloc (.cells #[.int .i64 t.op,.int .u64 (word t.set 0),.int .u64 (word t.set 1),.int .u64 (word t.set 2),.int .u64 (word t.set 3),.int .i64 t.lo,.int .i64 t.hi,.slice A n' c] 67)):=(ygr _ _).alloc (ygo _) _;have HN:=Zh hn;have HT:=Zh ht;have HWF:=Zh hwf;have HB1:=Zh b1;have IH:=Zh ih;have hpl:lenN most t=min (if t.op=1 then 1 else if t.op=2 then (lenL most t.kids).sum else if t.op=3 then zfo most (lenL most t.kids) else if t.op=4 then (if most then t.hi else t.lo).toNat*zfo most (lenL most t.kids) else 0) 1000:=(by cases t;rfl);have HPL:=Zh hpl;clear hn ih hpl hwf ht;unfold zas;rcases hop with ⟨h,h2,z1,z2⟩|⟨h,h2,h3,z1,z2⟩|⟨h,h2,h3,z1,z2⟩|⟨h,h2,h3,h4,h5,h6⟩
 .have hb1:(t.op==1)=true:=(by simp[h]);have HH:=Zh h;clear h h2 z1 z2;go_enter Try.func22,Try.ntmps22;go_wp2;go_ret;exact⟨by rw[HPL.o,if_pos HH.o];rfl,hB⟩
 .have hb1:(t.op==1)=false:=(by simp[h]);have hb2:(t.op==2)=true:=(by simp[h]);have HPL2:Hid (lenN most t=min (lenL most t.kids).sum 1000):=by show _=_;rw[HPL.o,if_neg yjz,if_pos h]
  clear h HPL z1 z2;go_enter Try.func22,Try.ntmps22;go_wp2;go_loopg [5,6] n' (fun m k i wr=>∃ j:Nat,i = .int .i64 (j:Int)∧j<=n'∧m=n'-j∧k = .int .i64 (((lenL most (t.kids.take j)).sum:Nat):Int)∧Box8 wr w.heap.size t (.slice A n' c)∧Below w.heap.size w wr)
  case atStart=>exact⟨0,rfl,ygy _,rfl,rfl,HB1.o,hB⟩
  case round =>
   obtain⟨j,rfl,hj,hmj,rfl,x1,hW⟩:=hrel;have HMJ:=Zh hmj;obtain⟨c0,c1,c2,c3,c4,c5,c6,c7⟩:=x1.cell;clear b1 hmj
   by_cases hlt:j<n'
   .have hlt':j<t.kids.length:=ykr;obtain⟨g,B,m1,m2,e1,hg1,htk,hcells⟩:=kid8 HT.o j (ygn hlt');subst e1;have hks:=zcy t j hlt';have hwk:=HWF.o.at j hlt';have hst:=zzd most t.kids j hlt';have hsl:=zv7 most (t.kids.take j);rw[yi9] at hsl;have hpu:=zka most (t.kids[j]'hlt');generalize t.kids[j]=u at *;have HC:∀ q v,(zb6 u (.slice B m1 m2))[q]?=some v->wr.cell? ⟨g,j*8+q,none⟩=some v:=fun q v h=>by rw[yhz j 8];exact (hW.cell (p:=⟨g,8*j+q,none⟩) hg1).trans (hcells q v h)
    have k0:wr.cell? ⟨g,j*8,none⟩=_:=HC 0 _ rfl;have k1:=HC 1 _ rfl;have k2:=HC 2 _ rfl;have k3:=HC 3 _ rfl;have k4:=HC 4 _ rfl;have k5:=HC 5 _ rfl;have k6:=HC 6 _ rfl;have k7:=HC 7 _ rfl;have HK:=Zh (fun w' (hb:Below wr.heap.size wr w')=>IH.o u w' ok (.slice B m1 m2) yjz hwk ((htk.stays hW).stays hb));have HST:=Zh hst;clear HC hcells htk hks hwk hst;unfold zas zea at HK;generalize (lenL most (t.kids.take j)).sum=S at *;have hS2:S<=202000:=yjz;go_wp2_with (go_at_call 22;(with_reducible refine (HK.o _ (ygr _ _)).mono ?_);rintro e w5 ⟨rfl,hb5⟩);go_roundg (n'-(j+1))
    case measure=>have:=HMJ.o;omega
    case rel=>exact⟨j+1,by go_num,by omega,rfl,by rw[HST.o];go_num,x1.stays hb5,gro hW hb5⟩
   .have hjn:j=t.kids.length:=yl9;have hwhole:t.kids.take j=t.kids:=(by rw[hjn];exact yhn);rw[hwhole];have hS2:=zv7 most t.kids;rw[show t.kids.length=n' from HN.o.symm] at hS2;generalize (lenL most t.kids).sum=S at *;go_wp2
    all_goals
     go_ret;refine⟨congrArg Ending.returned (congrArg (Value.int .i64) ?_),hW⟩;rw[HPL2.o];omega
 .have hb1:(t.op==1)=false:=(by simp[h]);have hb2:(t.op==2)=false:=(by simp[h]);have hb3:(t.op==3)=true:=(by simp[h]);have HPL2:Hid (lenN most t=min (zfo most (lenL most t.kids)) 1000):=by show _=_;rw[HPL.o,if_neg yjz,if_neg yjz,if_pos h]
  have h0:0<t.kids.length:=yjz;have hn2:0<n':=yky;have hn3:(0:Int)<(n':Int):=yjz;obtain⟨g0,B0,l1,l2,e0,hg0,htk0,hcells0⟩:=kid8 HT.o 0 (ygn h0);subst e0;have hks0:=zcy t 0 h0;have hwk0:=HWF.o.at 0 h0;have hst0:=zst most t.kids h0;generalize t.kids[0]=u0 at *;have hk0:=hcells0 0 _ rfl;have hk1:=hcells0 1 _ rfl;have hk2:=hcells0 2 _ rfl;have hk3:=hcells0 3 _ rfl;have hk4:=hcells0 4 _ rfl;have hk5:=hcells0 5 _ rfl;have hk6:=hcells0 6 _ rfl;have hk7:=hcells0 7 _ rfl;rw[show 8*0+0=0 from rfl] at hk0;have HK0:=Zh (fun w' (hb:Below w.heap.size w w')=>IH.o u0 w' ok (.slice B0 l1 l2) yjz hwk0 (htk0.stays hb));have HST0:=Zh hst0;clear h HPL z1 z2 hcells0 htk0 hks0 hwk0 hst0;unfold zas zea at HK0;go_enter Try.func22,Try.ntmps22;go_wp2_with (go_at_call 22;(with_reducible refine (HK0.o _ hB).mono ?_);rintro e w4 ⟨rfl,hb4⟩;have x0:=HB1.o.stays hb4;have hB4:=gro1 (ygr _ _) hb4);clear hk0 hk1 hk2 hk3 hk4 hk5 hk6 hk7;go_loopg [5,7] (n'-1) (fun m k i wr=>∃ j:Nat,i = .int .i64 (j:Int)∧1<=j∧j<=n'∧m=n'-j∧k = .int .i64 ((zfo most (lenL most (t.kids.take j)):Nat):Int)∧Box8 wr w.heap.size t (.slice (some ⟨g0,0,none⟩) n' c)∧Below w.heap.size w wr)
  case atStart=>exact⟨1,rfl,ygo _,hn2,rfl,by rw[HST0.o],x0,hB4⟩
  case round =>
   obtain⟨j,rfl,h1j,hj,hmj,rfl,x1,hW⟩:=hrel;have HMJ:=Zh hmj;obtain⟨c0,c1,c2,c3,c4,c5,c6,c7⟩:=x1.cell;clear b1 hmj x0
   by_cases hlt:j<n'
   .have hlt':j<t.kids.length:=ykr;obtain⟨g,B,m1,m2,e1,hg1,htk,hcells⟩:=kid8 HT.o j (ygn hlt');injection e1 with e1
    injection e1 with e1
    subst e1;have hks:=zcy t j hlt';have hwk:=HWF.o.at j hlt';have hst:=zyi most t.kids j hlt' h1j;have hsl:=zyk most (t.kids.take j);have hpu:=zka most (t.kids[j]'hlt');generalize t.kids[j]=u at *;have HC:∀ q v,(zb6 u (.slice B m1 m2))[q]?=some v->wr.cell? ⟨g0,j*8+q,none⟩=some v:=fun q v h=>by rw[yhz j 8];exact (hW.cell (p:=⟨g0,8*j+q,none⟩) hg1).trans (hcells q v h)
    have k0:wr.cell? ⟨g0,j*8,none⟩=_:=HC 0 _ rfl;have k1:=HC 1 _ rfl;have k2:=HC 2 _ rfl;have k3:=HC 3 _ rfl;have k4:=HC 4 _ rfl;have k5:=HC 5 _ rfl;have k6:=HC 6 _ rfl;have k7:=HC 7 _ rfl;have HK:=Zh (fun w' (hb:Below wr.heap.size wr w')=>IH.o u w' ok (.slice B m1 m2) yjz hwk ((htk.stays hW).stays hb));have HST:=Zh hst;clear HC hcells htk hks hwk hst;unfold zas zea at HK;generalize zfo most (lenL most (t.kids.take j))=S at *;generalize hU:lenN most u=U at *;clear hU;go_wp2_with (go_at_call 22;(with_reducible refine (HK.o _ (ygr _ _)).mono ?_);rintro e w5 ⟨rfl,hb5⟩)
    all_goals
     go_roundg (n'-(j+1))
     case measure=>have:=HMJ.o;omega
     case rel =>
      refine⟨j+1,by go_num,by omega,by omega,rfl,?_,x1.stays hb5,gro hW hb5⟩;rw[HST.o,←yc6];simp[*]
   .have hjn:j=t.kids.length:=yl9;have hwhole:t.kids.take j=t.kids:=(by rw[hjn];exact yhn);rw[hwhole];have hS2:=zyk most t.kids;generalize zfo most (lenL most t.kids)=S at *;go_wp2
    all_goals
     go_ret;refine⟨congrArg Ending.returned (congrArg (Value.int .i64) ?_),hW⟩;rw[HPL2.o];omega
 .have hb1:(t.op==1)=false:=(by simp[h]);have hb2:(t.op==2)=false:=(by simp[h]);have hb3:(t.op==3)=false:=(by simp[h]);have hb4:(t.op==4)=true:=(by simp[h]);have h0:0<t.kids.length:=yjz;have hn3:(0:Int)<(n':Int):=yky;have hone:zfo most (lenL most t.kids)=lenN most (t.kids[0]'h0):=(by rw[←zst most t.kids h0,yhg yjz]);obtain⟨T0,hT0⟩:∃ T0:Nat,(if most then t.hi else t.lo)=T0:=⟨(if most then t.hi else t.lo).toNat,by split <;> omega⟩;have hT1:T0<=32:=by split at hT0 <;> omega
  have HPL2:Hid (lenN most t=min (T0*lenN most (t.kids[0]'h0)) 1000):=by show _=_;rw[HPL.o,if_neg yjz,if_neg yjz,if_neg yjz,if_pos h,hT0,hone];rfl
  obtain⟨g0,B0,l1,l2,e0,hg0,htk0,hcells0⟩:=kid8 HT.o 0 (ygn h0);subst e0;have hks0:=zcy t 0 h0;have hwk0:=HWF.o.at 0 h0;have hpu:=zka most (t.kids[0]'h0);generalize t.kids[0]=u0 at *;have hk0:=hcells0 0 _ rfl;have hk1:=hcells0 1 _ rfl;have hk2:=hcells0 2 _ rfl;have hk3:=hcells0 3 _ rfl;have hk4:=hcells0 4 _ rfl;have hk5:=hcells0 5 _ rfl;have hk6:=hcells0 6 _ rfl;have hk7:=hcells0 7 _ rfl;rw[show 8*0+0=0 from rfl] at hk0;have HK0:=Zh (fun w' (hb:Below w.heap.size w w')=>IH.o u0 w' ok (.slice B0 l1 l2) yjz hwk0 (htk0.stays hb));have hprod:T0*lenN most u0<=32*1000:=yjf hT1 hpu;have hpi:(T0:Int)*(lenN most u0:Int)=((T0*lenN most u0:Nat):Int):=yk3;have p0:(0:Int)<=(T0:Int)*(lenN most u0:Int):=(by rw[hpi];omega);have p1:(T0:Int)*(lenN most u0:Int)<=9223372036854775807:=(by rw[hpi];omega);have HPI:=Zh hpi;have HPD:=Zh hprod;clear h HPL hcells0 htk0 hks0 hwk0 hone hpi hprod h2 h3 h4 h5 h6 h0;generalize hU:lenN most u0=U at *;clear hU;unfold zas zea at HK0;generalize T0*U=Pr at *;cases most
  .have hlo:t.lo=T0:=(by simpa using hT0);have q0:(0:Int)<=t.lo*(U:Int):=(by rw[hlo];exact p0);have q1:t.lo*(U:Int)<=9223372036854775807:=(by rw[hlo];exact p1);have HLO:=Zh hlo;clear hT0 hlo p0 p1 hT1;go_enter Try.func22,Try.ntmps22;go_wp2_with (go_at_call 22;(with_reducible refine (HK0.o _ hB).mono ?_);rintro e w4 ⟨rfl,hb4⟩;have hB4:=gro1 (ygr _ _) hb4)
   all_goals
    go_ret;refine⟨congrArg Ending.returned (congrArg (Value.int .i64) ?_),hB4⟩;have e2:t.lo*(U:Int)=(Pr:Int):=(by rw[HLO.o];exact HPI.o);rw[HPL2.o];omega
  .have hlo:t.hi=T0:=(by simpa using hT0);have q0:(0:Int)<=t.hi*(U:Int):=(by rw[hlo];exact p0);have q1:t.hi*(U:Int)<=9223372036854775807:=(by rw[hlo];exact p1);have HLO:=Zh hlo;clear hT0 hlo p0 p1 hT1;go_enter Try.func22,Try.ntmps22;go_wp2_with (go_at_call 22;(with_reducible refine (HK0.o _ hB).mono ?_);rintro e w4 ⟨rfl,hb4⟩;have hB4:=gro1 (ygr _ _) hb4)
   all_goals
    go_ret;refine⟨congrArg Ending.returned (congrArg (Value.int .i64) ?_),hB4⟩;have e2:t.hi*(U:Int)=(Pr:Int):=(by rw[HLO.o];exact HPI.o);rw[HPL2.o];omega
theorem yb4 {t:T} {k:Value} {ok:Nat->Prop} (most:Bool) (w:World) (hwf:WF t) (ht:Tree w ok t k):Calls Try.prog 22 #[zas t k,.bool most] w (zea w (lenN most t)):=
 yb5 most _ t w ok k (ygo _) hwf ht
end
section
def zdq (k:T):Nat->T
 | 0 => .mk 2 zaa 0 0 []
 | d+1 => .mk 5 zaa 0 0 [.mk 2 zaa 0 0 [k,zdq k d]]
mutual
def zaq:T->T
 | .mk op p lo hi l=>if op=4 then .mk 2 zaa 0 0 (List.replicate lo.toNat (zhn l)++[zdq (zhn l) (hi-lo).toNat]) else .mk op p 0 0 (zfn l)
def zfn:List T->List T
 | []=>[]
 | t::ts=>zaq t::zfn ts
def zhn:List T->T
 | [] => .mk 0 zaa 0 0 []
 | t::_=>zaq t
end
mutual
def zau:T->Bool
 | .mk op p lo hi l=>if op=1∨op=5 then decide (op=5) else if op=2 then allE l else anyE l
def allE:List T->Bool
 | []=>true
 | t::ts=>zau t&&allE ts
def anyE:List T->Bool
 | []=>false
 | t::ts=>zau t||anyE ts
end
mutual
def plT:T->Nat
 | .mk op p lo hi l=>(if op=1 then 1 else 0)+plTL l
def plTL:List T->Nat
 | []=>0
 | t::ts=>plT t+plTL ts
end
mutual
def fstT:T->Nat->List Nat
 | .mk op p lo hi l=>fun at_=>if op=1 then [at_] else if op=2 then catF l at_ else altF l at_
def catF:List T->Nat->List Nat
 | []=>fun _=>[]
 | t::ts=>fun at_=>fstT t at_++(if zau t then catF ts (at_+plT t) else [])
def altF:List T->Nat->List Nat
 | []=>fun _=>[]
 | t::ts=>fun at_=>fstT t at_++altF ts (at_+plT t)
end
mutual
def lstT:T->Nat->List Nat
 | .mk op p lo hi l=>fun at_=>if op=1 then [at_] else if op=2 then catB l at_ else altB l at_
def catB:List T->Nat->List Nat
 | []=>fun _=>[]
 | t::ts=>fun at_=>catB ts (at_+plT t)++(if allE ts then lstT t at_ else [])
def altB:List T->Nat->List Nat
 | []=>fun _=>[]
 | t::ts=>fun at_=>altB ts (at_+plT t)++lstT t at_
end
mutual
def folT:T->Nat->Nat->Nat->Prop
 | .mk op p lo hi l=>fun at_ q r=>op≠1∧if op=2 then zhs l at_ q r else zfj l at_ q r
def zhs:List T->Nat->Nat->Nat->Prop
 | []=>fun _ _ _=>False
 | t::ts=>fun at_ q r=>folT t at_ q r∨zhs ts (at_+plT t) q r∨(q∈lstT t at_∧r∈catF ts (at_+plT t))
def zfj:List T->Nat->Nat->Nat->Prop
 | []=>fun _ _ _=>False
 | t::ts=>fun at_ q r=>folT t at_ q r∨zfj ts (at_+plT t) q r
end
mutual
def setT:T->List (Nat->Bool)
 | .mk op p lo hi l=>(if op=1 then [p] else [])++zf4 l
def zf4:List T->List (Nat->Bool)
 | []=>[]
 | t::ts=>setT t++zf4 ts
end
def Same (f:Lay->Lay×Str) (k:T):Prop:=∀ s,LInv s->
 (f s).1.sets=s.sets++setT k∧(f s).2.empty=zau k∧(∀ p,p∈(f s).2.first↔p∈fstT k s.sets.length)∧(∀ p,p∈(f s).2.last↔p∈lstT k s.sets.length)∧
  (∀ q r,fol (f s).1 q r↔fol s q r∨folT k s.sets.length q r)
mutual
theorem zjq:∀ t:T,plT t=(setT t).length
 | .mk op p lo hi l=>by
  simp only[plT,setT,ygu,zmq l];split <;> simp
theorem zmq:∀ l:List T,plTL l=(zf4 l).length
 | []=>rfl
 | t::ts=>by simp only[plTL,zf4,ygu,zjq t,zmq ts]
end
theorem zqh (x y:Str) (p:Nat):p∈(zb4 x y).first↔p∈x.first∨(x.empty=true∧p∈y.first):=by
 unfold zb4;cases x.empty <;> simp
theorem zif (x y:Str) (p:Nat):p∈(zb4 x y).last↔p∈y.last∨(y.empty=true∧p∈x.last):=by
 unfold zb4;cases y.empty <;> simp[or_comm]
structure CatSame (s s':Lay) (x x':Str) (l:List T):Prop where
 inv:LInv s'
 sets:s'.sets=s.sets++zf4 l
 empty:x'.empty=(x.empty&&allE l)
 first:∀ p,p∈x'.first↔p∈x.first∨(x.empty=true∧p∈catF l s.sets.length)
 last:∀ p,p∈x'.last↔p∈catB l s.sets.length∨(allE l=true∧p∈x.last)
 fols:∀ q r,fol s' q r↔fol s q r∨zhs l s.sets.length q r∨(q∈x.last∧r∈catF l s.sets.length)
theorem CatSame.nil {s:Lay} {x:Str} (h:LInv s):CatSame s s x x []:=
 ⟨h,by simp[zf4],by simp[allE],fun p=>by simp[catF],fun p=>by simp[catB,allE],fun q r=>by simp[zhs,catF]⟩
theorem CatSame.cons {s s':Lay} {x x' y:Str} {s1:Lay} {k:T} {l:List T} (hl:LInv s1) (hx:∀ p∈x.last,p<s1.sets.length)
 (h1:s1.sets=s.sets++setT k) (h2:y.empty=zau k) (h3:∀ p,p∈y.first↔p∈fstT k s.sets.length) (h4:∀ p,p∈y.last↔p∈lstT k s.sets.length) (h5:∀ q r,fol s1 q r↔fol s q r∨folT k s.sets.length q r)
 (h:CatSame (zbo s1 x y) s' (zb4 x y) x' l):CatSame s s' x x' (k::l):=by
 have hat:(zbo s1 x y).sets.length=s.sets.length+plT k:=by show s1.sets.length=_;rw[h1,ygu,zjq]
 have he:(zb4 x y).empty=(x.empty&&zau k):=(by rw[←h2];rfl);refine⟨h.inv,?_,?_,fun p=>?_,fun p=>?_,fun q r=>?_⟩
 .rw[h.sets]
  show s1.sets++zf4 l=_
  rw[h1,zf4,yhe]
 .rw[h.empty,he,allE,Bool.and_assoc]
 .rw[h.first,zqh,h3,he,hat,catF];cases x.empty <;> cases zau k <;> simp[or_assoc]
 .rw[h.last,zif,h4,h2,hat,catB,allE];cases allE l <;> cases zau k <;> simp[or_assoc]
 .rw[h.fols,zkd hl hx,h5,zif,h2,h3,h4,hat,zhs,catF];cases zau k <;> simp[or_assoc,or_left_comm,or_comm,and_or_left,or_and_right]
structure Laid (f:Lay->Lay×Str) (k:T):Prop where
 same:Same f k
 inv:∀ s,LInv s->LInv (f s).1
 le:∀ s,LInv s->s.sets.length<=(f s).1.sets.length
 first:∀ s,LInv s->∀ p∈(f s).2.first,p<(f s).1.sets.length
 last:∀ s,LInv s->∀ p∈(f s).2.last,p<(f s).1.sets.length
theorem zid {f:Lay->Lay×Str} {k:T} {R:Nat->Nat->Prop} (h:Same f k) (hl:Lays [] f R):Laid f k:=
 ⟨h,fun s hs=>(hl s hs).1.inv,fun s hs=>(hl s hs).1.le,fun s hs p hp=>((hl s hs).2.first p hp).2,fun s hs p hp=>((hl s hs).2.last p hp).2⟩
section
variable {f g:Lay->Lay×Str} {k r:T} {s s':Lay} {x x':Str} {l:List T}
theorem Laid.join (h:Laid f k) (hs:LInv s) (hx:∀ p∈x.last,p<s.sets.length):LInv (zbo (f s).1 x (f s).2)∧(∀ p∈(zb4 x (f s).2).last,p<(zbo (f s).1 x (f s).2).sets.length)∧∀ p∈x.last,p<(f s).1.sets.length:=by
 have hle:=h.le s hs;have h3:∀ p∈x.last,p<(f s).1.sets.length:=fun p hp=>by have:=hx p hp;omega
 refine⟨(zlq (n:=0) (h.inv s hs) (fun p hp=>⟨ygy _,h3 p hp⟩) (h.first s hs)).1,fun p hp=>?_,h3⟩
 show p<(f s).1.sets.length
 rcases (zif _ _ _).1 hp with h' | ⟨_,h'⟩
 .exact h.last s hs p h'
 .exact h3 p h'
theorem Laid.cons (h:Laid f k) (hs:LInv s) (hx:∀ p∈x.last,p<s.sets.length) (hc:CatSame (zbo (f s).1 x (f s).2) s' (zb4 x (f s).2) x' l):CatSame s s' x x' (k::l):=by
 obtain⟨h1,h2,h3,h4,h5⟩:=h.same s hs;exact hc.cons (h.inv s hs) (h.join hs hx).2.2 h1 h2 h3 h4 h5
theorem zkp (h:Laid f k) (hg:Laid g r):∀ (m:Nat) (s:Lay) (x:Str),LInv s->(∀ p∈x.last,p<s.sets.length)->
 CatSame s (zbo (g (zar f m s x).1).1 (zar f m s x).2 (g (zar f m s x).1).2) x (zb4 (zar f m s x).2 (g (zar f m s x).1).2) (List.replicate m k++[r])
 | 0,s,x,hs,hx=>hg.cons hs hx (CatSame.nil (hg.join hs hx).1)
 | m+1,s,x,hs,hx=>by
  have hj:=h.join hs hx;exact h.cons hs hx (zkp h hg m _ _ hj.1 hj.2.1)
theorem zp2 (s:Lay) (y:Str):zbo s .nothing y=s∧zb4 .nothing y=y:=by
 constructor
 .rfl
 .unfold zb4 Str.nothing;cases y with
  | mk a b e=>cases e <;> simp
theorem zre (p:Nat->Bool) (lo hi:Int) (h:∀ s,LInv s->CatSame s (f s).1 .nothing (f s).2 l):Same f (.mk 2 p lo hi l):=fun s hs=>by
 have hc:=h s hs;refine⟨by rw[hc.sets];simp[setT],by rw[hc.empty];simp[zau,Str.nothing],fun q=>?_,fun q=>?_,fun q r=>?_⟩
 .rw[hc.first];simp[fstT,Str.nothing]
 .rw[hc.last];simp[lstT,Str.nothing]
 .rw[hc.fols];simp[folT,Str.nothing]
end
theorem zjg {u:T} (hwf:WF u) (h:Same (layP u) (zaq u)):∀ d,Same (within (layP u) d) (zdq (zaq u) d)
 | 0=>fun s hs=>⟨by simp[within,zdq,setT,zf4],by simp[within,zdq,zau,allE,Str.nothing],fun p=>by simp[within,zdq,fstT,catF,Str.nothing],fun p=>by simp[within,zdq,lstT,catB,Str.nothing],fun q r=>by simp[within,zdq,folT,zhs]⟩
 | d+1=>fun s hs=>by
  have hf:=zid h (zcw (xs:=[]) hwf);have hw:=zid (zjg hwf h d) (zdd (xs:=[]) (zcw hwf) d);have hj:=hf.join (x := .nothing) hs (fun p hp=>by simp[Str.nothing] at hp);obtain⟨e1,e2⟩:=zp2 (layP u s).1 (layP u s).2;rw[e1,e2] at hj;have hc:CatSame s (zbo (within (layP u) d (layP u s).1).1 (layP u s).2 (within (layP u) d (layP u s).1).2) .nothing (zb4 (layP u s).2 (within (layP u) d (layP u s).1).2) [zaq u,zdq (zaq u) d]:=by
   refine hf.cons hs (fun p hp=>by simp[Str.nothing] at hp) ?_;rw[e1,e2];exact hw.cons hj.1 hj.2.1 (CatSame.nil (hw.join hj.1 hj.2.1).1)
  refine⟨?_,?_,fun p=>?_,fun p=>?_,fun q r=>?_⟩
  .show (zbo (within (layP u) d (layP u s).1).1 (layP u s).2 (within (layP u) d (layP u s).1).2).sets=_
   rw[hc.sets];simp[zdq,setT,zf4]
  .show true=_
   simp[zdq,zau]
  .show p∈(zb4 (layP u s).2 (within (layP u) d (layP u s).1).2).first↔_
   rw[hc.first];simp[zdq,fstT,altF,Str.nothing]
  .show p∈(zb4 (layP u s).2 (within (layP u) d (layP u s).1).2).last↔_
   rw[hc.last];simp[zdq,lstT,altB,Str.nothing]
  .show fol (zbo (within (layP u) d (layP u s).1).1 (layP u s).2 (within (layP u) d (layP u s).1).2) q r↔_
   rw[hc.fols];simp[zdq,folT,zfj,Str.nothing]
theorem zsk:∀ (l:List T),(∀ t∈l,WF t∧Same (layP t) (zaq t))->∀ (s:Lay) (x:Str),LInv s->(∀ p∈x.last,p<s.sets.length)->CatSame s (catP l s x).1 x (catP l s x).2 (zfn l)
 | [],_,s,x,hs,_=>by simp only[catP,zfn];exact CatSame.nil hs
 | t::ts,h,s,x,hs,hx=>by
  have hf:=zid (h t yk3).2 (zcw (xs:=[]) (h t yk3).1);have hj:=hf.join hs hx;simp only[catP,zfn];exact hf.cons hs hx (zsk ts (fun u hu=>h u (by simp[hu])) _ _ hj.1 hj.2.1)
theorem zsu:∀ (l:List T),(∀ t∈l,WF t∧Same (layP t) (zaq t))->∀ (s:Lay) (x:Str),LInv s->
 LInv (altP l s x).1∧(altP l s x).1.sets=s.sets++zf4 (zfn l)∧(altP l s x).2.empty=(x.empty||anyE (zfn l))∧(∀ p,p∈(altP l s x).2.first↔p∈x.first∨p∈altF (zfn l) s.sets.length)∧
  (∀ p,p∈(altP l s x).2.last↔p∈x.last∨p∈altB (zfn l) s.sets.length)∧∀ q r,fol (altP l s x).1 q r↔fol s q r∨zfj (zfn l) s.sets.length q r
 | [],_,s,x,hs=>by simp[altP,zfn,zf4,anyE,altF,altB,zfj,hs]
 | t::ts,h,s,x,hs=>by
  have hf:=zid (h t yk3).2 (zcw (xs:=[]) (h t yk3).1);obtain⟨h1,h2,h3,h4,h5⟩:=hf.same s hs;obtain⟨i1,i2,i3,i4,i5,i6⟩:=zsu ts (fun u hu=>h u (by simp[hu])) (layP t s).1 (altX x (layP t s).2) (hf.inv s hs);have hat:(layP t s).1.sets.length=s.sets.length+plT (zaq t):=(by rw[h1,ygu,zjq]);simp only[altP,zfn];refine⟨i1,?_,?_,fun p=>?_,fun p=>?_,fun q r=>?_⟩
  .rw[i2,h1,zf4,yhe]
  .rw[i3,anyE,←h2]
   show ((x.empty||(layP t s).2.empty)||_)=_
   rw[Bool.or_assoc]
  .rw[i4,hat,altF,yh7,←h3]
   show p∈x.first++(layP t s).2.first∨_↔_
   rw[yh7,or_assoc]
  .rw[i5,hat,altB,yh7,←h4]
   show p∈x.last++(layP t s).2.last∨_↔_
   rw[yh7,or_assoc,or_comm (a:=p∈(layP t s).2.last)]
  .rw[i6,h5,hat,zfj,or_assoc]
theorem zxz {t:T} (hwf:WF t):Same (layP t) (zaq t):=by
 induction hwf with
 | one p =>
  intro s hs;have e:zaq (.mk 1 p 0 0 []) = .mk 1 p 0 0 []:=(by simp[zaq,zfn]);have e2:layP (.mk 1 p 0 0 []) s=(oneL s p,oneX s):=(by simp[layP]);rw[e,e2];refine⟨by simp[oneL,setT,zf4],by simp[oneX,zau],fun q=>by simp[oneX,fstT],fun q=>by simp[oneX,lstT],fun q r=>?_⟩;simp only[folT];simp only[ne_eq,not_true_eq_false,false_and,or_false];unfold fol oneL;simp only[ygq];rcases yik q s.follow.length with hq|hq
  .rw[ygv hq]
  .rw[ygx hq,yh6 hq];rcases yj2 (q-s.follow.length) with e|e
   .rw[e];simp
   .rw[yh6 yk8]
 | cat l h2 hN h ih =>
  have e:zaq (.mk 2 zaa 0 0 l) = .mk 2 zaa 0 0 (zfn l):=(by simp[zaq]);rw[e];refine zre _ _ _ fun s hs=>?_
  have e2:layP (.mk 2 zaa 0 0 l) s=catP l s .nothing:=(by simp[layP]);rw[e2];exact zsk l (fun t ht=>⟨h t ht,ih t ht⟩) s .nothing hs (fun p hp=>by simp[Str.nothing] at hp)
 | alt l h2 hN h ih =>
  intro s hs;have e:zaq (.mk 3 zaa 0 0 l) = .mk 3 zaa 0 0 (zfn l):=(by simp[zaq]);have e2:layP (.mk 3 zaa 0 0 l) s=altP l s .void:=(by simp[layP]);obtain⟨i1,i2,i3,i4,i5,i6⟩:=zsu l (fun t ht=>⟨h t ht,ih t ht⟩) s .void hs;rw[e,e2];refine⟨by rw[i2];simp[setT],by rw[i3];simp[zau,Str.void],fun p=>by rw[i4];simp[fstT,Str.void],fun p=>by rw[i5];simp[lstT,Str.void],fun q r=>by rw[i6];simp[folT]⟩
 | rep m n u h0 h1 h2 h3 hu ih =>
  have e:zaq (.mk 4 zaa m n [u]) = .mk 2 zaa 0 0 (List.replicate m.toNat (zaq u)++[zdq (zaq u) (n-m).toNat]):=(by simp[zaq,zhn]);rw[e];refine zre _ _ _ fun s hs=>?_
  have hh:zke [u]=layP u:=(by funext s;simp[zke]);have e2:layP (.mk 4 zaa m n [u]) s=repX (layP u) m.toNat (n-m).toNat s:=(by simp[layP,hh]);rw[e2];exact zkp (zid ih (zcw (xs:=[]) hu)) (zid (zjg hu ih _) (zdd (xs:=[]) (zcw hu) _)) m.toNat s .nothing hs (fun p hp=>by simp[Str.nothing] at hp)
end
theorem zjr:∀ (l:List T),(∀ t∈l,plN t=min (plR t) 1000)->min (zd2 l) 1000=min (plRL l) 1000
 | [],_=>rfl
 | t::ts,h=>by
  have h1:=h t yk3;have h2:=zjr ts fun u hu=>h u (by simp[hu])
  simp only[zd2,plRL];omega
theorem zw2 {t:T} (hwf:WF t):plN t=min (plR t) 1000:=by
 induction hwf with
 | one p=>simp[plN,plR,zd2]
 | cat l h2 hN h ih =>
  have:=zjr l ih;simp only[plN,plR]
  simpa using this
 | alt l h2 hN h ih =>
  have:=zjr l ih;simp only[plN,plR]
  simpa using this
 | rep m n u h0 h1 h2 h3 hu ih =>
  have e1:plN (.mk 4 zaa m n [u])=min (plN u*n.toNat) 1000:=(by simp[plN,zd2]);have e2:plR (.mk 4 zaa m n [u])=n.toNat*plR u:=(by simp[plR,plRL]);rw[e1,e2,ih];have hn:1<=n.toNat:=yjz;rcases Nat.le_total (plR u) 1000 with h|h
  .rw[Nat.min_eq_left h,yhz]
  .rw[Nat.min_eq_right h];have a1:1000<=1000*n.toNat:=Nat.le_mul_of_pos_right _ hn;have a2:plR u<=n.toNat*plR u:=Nat.le_mul_of_pos_left _ hn;omega
end Go.Proofs.Ytipfgpfplakhiaa
