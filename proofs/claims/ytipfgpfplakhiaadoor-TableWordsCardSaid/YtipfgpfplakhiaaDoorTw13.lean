import Derived.Test.YtipfgpfplakhiaaDoorTw10
set_option linter.unusedVariables false
set_option linter.unusedSimpArgs false
set_option maxRecDepth 20000
set_option maxHeartbeats 4000000
namespace Go.Proofs.YtipfgpfplakhiaaDoor
open Go
section
inductive WF:T->Prop where
 | one (p:Nat->Bool):WF (.mk 1 p 0 0 [])
 | cat (l:List T) (h2:2<=l.length) (hN:l.length<=202) (h:∀ x∈l,WF x):WF (.mk 2 za9 0 0 l)
 | alt (l:List T) (h2:2<=l.length) (hN:l.length<=202) (h:∀ x∈l,WF x):WF (.mk 3 za9 0 0 l)
 | rep (m n:Int) (t:T) (h0:0<=m) (h1:m<=n) (h2:1<=n) (h3:n<=32) (h:WF t):WF (.mk 4 za9 m n [t])
theorem yay {N:Nat} (hN:N<=202):Made N WF:=⟨.one,.rep,fun l h1 h2 => .cat l h1 yie,fun l h1 h2 => .alt l h1 yie⟩
theorem zlu {s:ByteArray} {t:T} (h:parse s = .ok t):WF t:=(yay (by have:=zt6 h;omega)).parse h
def iter (Rl:Nat->Nat->Prop):Nat->Nat->Nat->Prop
 | 0,i,j=>i=j
 | m+1,i,j=>∃ k,iter Rl m i k∧Rl k j
mutual
def E (xs:List Int):T->Nat->Nat->Prop
 | .mk op p lo hi l=>fun i j =>
  (op=1∧i<xs.length∧p (xs.getD i 0).toNat=true∧j=i+1)∨(op=2∧ECat xs l i j)∨(op=3∧EAny xs l i j)∨
  (op=4∧∃ m:Nat,lo<=m∧(m:Int)<=hi∧iter (EAny xs l) m i j)
def ECat (xs:List Int):List T->Nat->Nat->Prop
 | []=>fun i j=>i=j
 | t::ts=>fun i j=>∃ k,E xs t i k∧ECat xs ts k j
def EAny (xs:List Int):List T->Nat->Nat->Prop
 | []=>fun _ _=>False
 | t::ts=>fun i j=>E xs t i j∨EAny xs ts i j
end
section
variable {xs:List Int}
theorem E_one {p:Nat->Bool} {lo hi:Int} {l:List T} {i j:Nat}:E xs (.mk 1 p lo hi l) i j↔i<xs.length∧p (xs.getD i 0).toNat=true∧j=i+1:=by
 simp[E]
theorem zu8 {p:Nat->Bool} {lo hi:Int} {l:List T} {i j:Nat}:E xs (.mk 2 p lo hi l) i j↔ECat xs l i j:=by
 simp[E]
theorem zu9 {p:Nat->Bool} {lo hi:Int} {l:List T} {i j:Nat}:E xs (.mk 3 p lo hi l) i j↔EAny xs l i j:=by
 simp[E]
theorem zqk {p:Nat->Bool} {lo hi:Int} {l:List T} {i j:Nat}:E xs (.mk 4 p lo hi l) i j↔∃ m:Nat,lo<=m∧(m:Int)<=hi∧iter (EAny xs l) m i j:=by
 simp[E]
theorem zg2 {l:List T} {i j:Nat}:EAny xs l i j↔∃ t∈l,E xs t i j:=by
 induction l with
 | nil=>simp[EAny]
 | cons t ts ih=>simp[EAny,ih]
theorem zd6 {t:T}:EAny xs [t]=E xs t:=by
 funext i j
 simp[EAny]
theorem zsk {l l':List T} {i j:Nat}:ECat xs (l++l') i j↔∃ k,ECat xs l i k∧ECat xs l' k j:=by
 induction l generalizing i with
 | nil=>simp[ECat]
 | cons t ts ih =>
  simp only[ygg,ECat,ih];constructor
  .rintro⟨a,h1,b,h2,h3⟩;exact⟨b,⟨a,h1,h2⟩,h3⟩
  .rintro⟨b,⟨a,h1,h2⟩,h3⟩;exact⟨a,h1,b,h2,h3⟩
theorem zmt {Rl:Nat->Nat->Prop} {n:Nat} (h:∀ i j,i<=n->Rl i j->i<=j∧j<=n):∀ (m i j:Nat),i<=n->iter Rl m i j->i<=j∧j<=n
 | 0,i,j,hi,e=>by have e':i=j:=e;omega
 | m+1,i,j,hi,⟨k,h1,h2⟩=>by
  have a:=zmt h m i k hi h1;have b:=h k j a.2 h2;omega
theorem E_bd {t:T} (ht:WF t):∀ i j,i<=xs.length->E xs t i j->i<=j∧j<=xs.length:=by
 induction ht with
 | one p=>intro i j hi h;rw[E_one] at h;omega
 | cat l h2 hN h ih =>
  intro i j hi hE;rw[zu8] at hE;clear h2 hN h;induction l generalizing i with
  | nil=>have e:i=j:=hE;omega
  | cons t ts ih' =>
   obtain⟨k,h1,h3⟩:=hE;have a:=ih t yii i k hi h1;have b:=ih' (fun x hx=>ih x yj4) k a.2 h3;omega
 | alt l h2 hN h ih =>
  intro i j hi hE;rw[zu9,zg2] at hE;obtain⟨t,ht,hE⟩:=hE;exact ih t ht i j hi hE
 | rep m n t h0 h1 h2 h3 h ih =>
  intro i j hi hE;rw[zqk] at hE;obtain⟨k,_,_,hE⟩:=hE;rw[zd6] at hE;exact zmt ih k i j hi hE
def img (Rl:Nat->Nat->Prop) (S:Nat->Prop):Nat->Prop:=fun j=>∃ i,S i∧Rl i j
def imgN (Rl:Nat->Nat->Prop) (S:Nat->Prop):Nat->Nat->Prop
 | 0=>S
 | m+1=>img Rl (imgN Rl S m)
def upTo (Rl:Nat->Nat->Prop) (S:Nat->Prop) (m:Nat):Nat->Prop:=fun j=>∃ k,k<=m∧imgN Rl S k j
theorem zh6 {Rl:Nat->Nat->Prop} {S:Nat->Prop}:∀ (m j:Nat),imgN Rl S m j↔∃ i,S i∧iter Rl m i j
 | 0,j=>by
  constructor
  .intro h;exact⟨j,h,rfl⟩
  .rintro⟨i,h,e⟩;have e':i=j:=e;exact e' ▸ h
 | m+1,j=>by
  constructor
  .rintro⟨k,h1,h2⟩;obtain⟨i,h3,h4⟩:=(zh6 m k).1 h1;exact⟨i,h3,k,h4,h2⟩
  .rintro⟨i,h3,k,h4,h2⟩;exact⟨k,(zh6 m k).2 ⟨i,h3,h4⟩,h2⟩
theorem zh7 {Rl:Nat->Nat->Prop} {S:Nat->Prop} (a:Nat):∀ (b j:Nat),imgN Rl (imgN Rl S a) b j↔imgN Rl S (a+b) j
 | 0,j=>Iff.rfl
 | b+1,j=>by
  constructor
  .rintro⟨k,h1,h2⟩;exact⟨k,(zh7 a b k).1 h1,h2⟩
  .rintro⟨k,h1,h2⟩;exact⟨k,(zh7 a b k).2 h1,h2⟩
theorem zmv {Rl:Nat->Nat->Prop} {S:Nat->Prop} (h:∀ j,img Rl S j↔S j):∀ (m j:Nat),imgN Rl S m j↔S j
 | 0,j=>Iff.rfl
 | m+1,j=>by
  constructor
  .rintro⟨k,h1,h2⟩;exact (h j).1 ⟨k,(zmv h m k).1 h1,h2⟩
  .intro hj;obtain⟨k,h1,h2⟩:=(h j).2 hj;exact⟨k,(zmv h m k).2 h1,h2⟩
theorem znn {Rl:Nat->Nat->Prop} {S:Nat->Prop} (m j:Nat):upTo Rl S (m+1) j↔upTo Rl S m j∨img Rl (upTo Rl S m) j:=by
 constructor
 .rintro⟨k,hk,h⟩;cases k with
  | zero=>exact .inl ⟨0,yf8 _,h⟩
  | succ k =>
   obtain⟨i,h1,h2⟩:=h;exact .inr ⟨i,⟨k,by omega,h1⟩,h2⟩
 .rintro (⟨k,hk,h⟩|⟨i,⟨k,hk,h1⟩,h2⟩)
  .exact⟨k,by omega,h⟩
  .exact⟨k+1,by omega,i,h1,h2⟩
theorem zug {Rl:Nat->Nat->Prop} {S:Nat->Prop} (j:Nat):upTo Rl S 0 j↔S j:=by
 constructor
 .rintro⟨k,hk,h⟩;obtain rfl:k=0:=by omega
  exact h
 .intro h;exact⟨0,yez _,h⟩
theorem zix {Rl:Nat->Nat->Prop} {S:Nat->Prop} {m:Nat} (h:∀ j,img Rl (upTo Rl S m) j->upTo Rl S m j):∀ (d j:Nat),upTo Rl S (m+d) j↔upTo Rl S m j
 | 0,j=>Iff.rfl
 | d+1,j=>by
  rw[←Nat.add_assoc,znn,zix h d j];constructor
  .rintro (h1|⟨i,h1,h2⟩)
   .exact h1
   .exact h j ⟨i,(zix h d i).1 h1,h2⟩
  .exact .inl
theorem zjr {Rl:Nat->Nat->Prop} {S S':Nat->Prop} (h:∀ j,S j↔S' j) (j:Nat):img Rl S j↔img Rl S' j:=by
 constructor
 .rintro⟨i,h1,h2⟩;exact⟨i,(h i).1 h1,h2⟩
 .rintro⟨i,h1,h2⟩;exact⟨i,(h i).2 h1,h2⟩
theorem zhm {m n:Int} {t:T} {S:Nat->Prop} (h0:0<=m) (h1:m<=n) (j:Nat):
 img (E xs (.mk 4 za9 m n [t])) S j↔upTo (E xs t) (imgN (E xs t) S m.toNat) (n-m).toNat j:=by
 constructor
 .rintro⟨i,hi,hE⟩;rw[zqk] at hE;obtain⟨k,h2,h3,hE⟩:=hE;rw[zd6] at hE;refine⟨k-m.toNat,by omega,?_⟩;rw[zh7,show m.toNat+(k-m.toNat)=k by omega,zh6];exact⟨i,hi,hE⟩
 .rintro⟨k,hk,h⟩;rw[zh7,zh6] at h;obtain⟨i,hi,hE⟩:=h;refine⟨i,hi,?_⟩;rw[zqk];exact⟨m.toNat+k,by omega,by omega,by rw[zd6];exact hE⟩
end
structure Found (Rl:Nat->Nat->Prop) (S:Nat->Prop) (r:Nat) (found fresh:Nat->Prop):Prop where
 all:∀ j,found j↔upTo Rl S r j
 sub:∀ j,fresh j->found j
 old:∀ i j,found i->¬ fresh i->Rl i j->found j
theorem Found.start (Rl:Nat->Nat->Prop) (S:Nat->Prop):Found Rl S 0 S S:=
 ⟨fun j=>(zug j).symm,fun _ h=>h,fun i j h1 h2 _=>absurd h1 h2⟩
open Classical in
theorem Found.step {Rl:Nat->Nat->Prop} {S found fresh found' fresh':Nat->Prop} {r:Nat} (h:Found Rl S r found fresh) (hf:∀ j,fresh' j↔img Rl fresh j∧¬ found j) (hg:∀ j,found' j↔found j∨fresh' j):Found Rl S (r+1) found' fresh':=by
 have key:∀ j,img Rl found j->found j∨img Rl fresh j:=by
  rintro j ⟨i,h1,h2⟩
  by_cases hi:fresh i
  .exact .inr ⟨i,hi,h2⟩
  .exact .inl (h.old i j h1 hi h2)
 refine⟨fun j=>?_,fun j hj=>(hg j).2 (.inr hj),fun i j h1 h2 h3=>?_⟩
 .rw[hg,hf,znn,←h.all j,zjr (fun j=>(h.all j).symm)];constructor
  .rintro (h1|⟨⟨i,h1,h2⟩,_⟩)
   .exact .inl h1
   .exact .inr ⟨i,h.sub i h1,h2⟩
  .rintro (h1|h1)
   .exact .inl h1
   .by_cases hj:found j
    .exact .inl hj
    .exact .inr ⟨(key j h1).resolve_left hj,hj⟩
 .have hi:found i:=((hg i).1 h1).resolve_right h2;rw[hg,hf]
  by_cases hj:found j
  .exact .inl hj
  .exact .inr ⟨(key j ⟨i,hi,h3⟩).resolve_left hj,hj⟩
theorem Found.stop {Rl:Nat->Nat->Prop} {S found fresh:Nat->Prop} {r:Nat} (h:Found Rl S r found fresh) (hf:∀ j,img Rl fresh j->found j) (d j:Nat):found j↔upTo Rl S (r+d) j:=by
 rw[h.all,zix];rintro k ⟨i,h1,h2⟩;have hi:=(h.all i).2 h1
 by_cases hi':fresh i
 .exact (h.all k).1 (hf k ⟨i,hi',h2⟩)
 .exact (h.all k).1 (h.old i k hi hi' h2)
end
section
structure Str where
 first:List Nat
 last:List Nat
 empty:Bool
structure Lay where
 sets:List (Nat->Bool)
 follow:List (List Nat)
def Str.nothing:Str:=⟨[],[],true⟩
def Str.void:Str:=⟨[],[],false⟩
def zec (f:List (List Nat)) (p:Nat) (ys:List Nat):List (List Nat):=f.set p (f.getD p []++ys)
def zaw:List (List Nat)->List Nat->List Nat->List (List Nat)
 | f,[],_=>f
 | f,p::ps,ys=>zaw (zec f p ys) ps ys
def zb8 (x y:Str):Str:=⟨if x.empty then x.first++y.first else x.first,if y.empty then x.last++y.last else y.last,x.empty&&y.empty⟩
def zcb (s:Lay) (x y:Str):Lay:=⟨s.sets,zaw s.follow x.last y.first⟩
def altX (x y:Str):Str:=⟨x.first++y.first,x.last++y.last,x.empty||y.empty⟩
def zaq (f:Lay->Lay×Str):Nat->Lay->Str->Lay×Str
 | 0,s,x=>(s,x)
 | m+1,s,x=>zaq f m (zcb (f s).1 x (f s).2) (zb8 x (f s).2)
def within (f:Lay->Lay×Str):Nat->Lay->Lay×Str
 | 0,s=>(s,.nothing)
 | d+1,s=>(zcb (within f d (f s).1).1 (f s).2 (within f d (f s).1).2,⟨(zb8 (f s).2 (within f d (f s).1).2).first,(zb8 (f s).2 (within f d (f s).1).2).last,true⟩)
def repX (f:Lay->Lay×Str) (m d:Nat) (s:Lay):Lay×Str:=
 (zcb (within f d (zaq f m s .nothing).1).1 (zaq f m s .nothing).2 (within f d (zaq f m s .nothing).1).2,zb8 (zaq f m s .nothing).2 (within f d (zaq f m s .nothing).1).2)
def oneL (s:Lay) (p:Nat->Bool):Lay:=⟨s.sets++[p],s.follow++[[]]⟩
def oneX (s:Lay):Str:=⟨[s.sets.length],[s.sets.length],false⟩
mutual
def layP:T->Lay->Lay×Str
 | .mk op p lo hi l=>fun s =>
  if op=1 then (oneL s p,oneX s)
  else if op=2 then catP l s .nothing
  else if op=3 then altP l s .void
  else if op=4 then repX (zmw l) lo.toNat (hi-lo).toNat s
  else (s,.void)
def catP:List T->Lay->Str->Lay×Str
 | []=>fun s x=>(s,x)
 | t::ts=>fun s x=>catP ts (zcb (layP t s).1 x (layP t s).2) (zb8 x (layP t s).2)
def altP:List T->Lay->Str->Lay×Str
 | []=>fun s x=>(s,x)
 | t::ts=>fun s x=>altP ts (layP t s).1 (altX x (layP t s).2)
def zmw:List T->Lay->Lay×Str
 | []=>fun s=>(s,.void)
 | t::_=>fun s=>layP t s
end
structure LInv (s:Lay):Prop where
 len:s.follow.length=s.sets.length
 lt:∀ q p,p∈s.follow.getD q []->p<s.sets.length
theorem zrw {α:Type} (l:List α) (i j:Nat) (a d:α):(l.set i a).getD j d=if j=i∧i<l.length then a else l.getD j d:=by
 simp only[yf0,ygu]
 by_cases h:i=j
 .subst h
  by_cases h2:i<l.length
  .simp[h2]
  .simp[h2]
 .have h':¬ j=i:=fun e=>h e.symm
  simp[h,h']
theorem zfv (f:List (List Nat)) (p:Nat) (ys:List Nat):(zec f p ys).length=f.length:=by simp[zec]
theorem zer:∀ (ps:List Nat) (f:List (List Nat)) (ys:List Nat),(zaw f ps ys).length=f.length
 | [],f,ys=>rfl
 | p::ps,f,ys=>by rw[zaw,zer ps,zfv]
theorem zl7 (f:List (List Nat)) (p q:Nat) (ys:List Nat) (hp:p<f.length):(zec f p ys).getD q []=if q=p then f.getD p []++ys else f.getD q []:=by
 rw[zec,zrw]
 by_cases e:q=p <;> simp[e,hp]
theorem zjm:∀ (ps:List Nat) (f:List (List Nat)) (ys:List Nat),(∀ p∈ps,p<f.length)->∀ q r,r∈(zaw f ps ys).getD q []↔r∈f.getD q []∨(q∈ps∧r∈ys)
 | [],f,ys,_,q,r=>by simp[zaw]
 | p::ps,f,ys,h,q,r=>by
  rw[zaw,zjm ps _ ys (fun p' hp'=>by rw[zfv];exact h p' (by simp[hp'])),zl7 f p q ys (h p yii)]
  by_cases e:q=p
  .subst e;simp;intro _ a;exact .inr a
  .simp[e]
theorem zjn:∀ (ps:List Nat) (f:List (List Nat)) (ys:List Nat) (q:Nat),q∉ps->(zaw f ps ys).getD q []=f.getD q []
 | [],f,ys,q,_=>rfl
 | p::ps,f,ys,q,h=>by
  rw[zaw,zjn ps _ ys q (fun e=>h (by simp[e])),zec,zrw,if_neg];rintro⟨e,_⟩;exact h (by simp[e])
def eats (xs:List Int) (s:Lay) (p i:Nat):Prop:=i<xs.length∧(s.sets.getD p za9) (xs.getD i 0).toNat=true
def fol (s:Lay) (q p:Nat):Prop:=p∈s.follow.getD q []
inductive Goes (S φ:Nat->Nat->Prop) (F:Nat->Prop) (i:Nat):Nat->Nat->Prop
 | start (p:Nat) (h:F p) (hs:S p i):Goes S φ F i p (i+1)
 | step (q p j:Nat) (h:Goes S φ F i q j) (hf:φ q p) (hs:S p j):Goes S φ F i p (j+1)
def Rec (S φ:Nat->Nat->Prop) (x:Str) (i j:Nat):Prop:=(x.empty=true∧i=j)∨∃ p,p∈x.last∧Goes S φ (· ∈ x.first) i p j
section
variable {S S' φ φ':Nat->Nat->Prop} {F F':Nat->Prop} {i j p:Nat}
theorem Goes.mono (h:Goes S φ F i p j) (hS:∀ p i,S p i->S' p i) (hφ:∀ q p,φ q p->φ' q p) (hF:∀ p,F p->F' p):Goes S' φ' F' i p j:=by
 induction h with
 | start p h hs=>exact .start p (hF p h) (hS _ _ hs)
 | step q p j h hf hs ih=>exact .step q p j ih (hφ _ _ hf) (hS _ _ hs)
theorem Goes.same {a b:Nat} (h:Goes S φ F i p j) (hS:∀ p i,a<=p->p<b->S p i->S' p i) (hφ:∀ q p,a<=q->q<b->φ q p->φ' q p∧a<=p∧p<b) (hF:∀ p,F p->a<=p∧p<b):Goes S' φ' F i p j∧a<=p∧p<b:=by
 induction h with
 | start p h hs=>exact⟨.start p h (hS _ _ (hF p h).1 (hF p h).2 hs),hF p h⟩
 | step q p j h hf hs ih =>
  obtain⟨h1,h2,h3⟩:=ih;obtain⟨h4,h5,h6⟩:=hφ q p h2 h3 hf;exact⟨.step q p j h1 h4 (hS _ _ h5 h6 hs),h5,h6⟩
end
structure Good (xs:List Int) (s:Lay) (a b:Nat) (x:Str) (Rl:Nat->Nat->Prop):Prop where
 le:a<=b
 first:∀ p,p∈x.first->a<=p∧p<b
 last:∀ p,p∈x.last->a<=p∧p<b
 stay:∀ q p,a<=q->q<b->fol s q p->a<=p∧p<b
 sf:x.first.Pairwise (· < ·)
 sl:x.last.Pairwise (· < ·)
 st:∀ q,a<=q->q<b->(s.follow.getD q []).Pairwise (· < ·)
 has:∀ i j,Rec (eats xs s) (fol s) x i j↔Rl i j
section
variable {xs:List Int} {s s':Lay} {a b c:Nat} {x y:Str} {R R':Nat->Nat->Prop}
theorem Good.later (h:Good xs s a b x R) (hS:∀ p,p<b->s'.sets.getD p za9=s.sets.getD p za9) (hF:∀ q,q<b->s'.follow.getD q []=s.follow.getD q []):Good xs s' a b x R:=by
 have hf:∀ q,q<b->∀ p,fol s' q p↔fol s q p:=fun q hq p=>by unfold fol;rw[hF q hq]
 have he:∀ p i,p<b->(eats xs s' p i↔eats xs s p i):=fun p i hp=>by unfold eats;rw[hS p hp]
 refine⟨h.le,h.first,h.last,fun q p h1 h2 h3=>h.stay q p h1 h2 ((hf q h2 p).1 h3),h.sf,h.sl,fun q h1 h2=>by rw[hF q h2];exact h.st q h1 h2,fun i j=>?_⟩;rw[←h.has];unfold Rec;constructor
 .rintro (e|⟨p,hp,hg⟩)
  .exact .inl e
  .exact .inr ⟨p,hp,(hg.same (a:=a) (b:=b) (fun p i _ hb hs=>(he p i hb).1 hs) (fun q p h1 h2 h3=>⟨(hf q h2 p).1 h3,h.stay q p h1 h2 ((hf q h2 p).1 h3)⟩) h.first).1⟩
 .rintro (e|⟨p,hp,hg⟩)
  .exact .inl e
  .exact .inr ⟨p,hp,(hg.same (a:=a) (b:=b) (fun p i _ hb hs=>(he p i hb).2 hs) (fun q p h1 h2 h3=>⟨(hf q h2 p).2 h3,h.stay q p h1 h2 h3⟩) h.first).1⟩
theorem Good.congr (h:Good xs s a b x R) (hR:∀ i j,R i j↔R' i j):Good xs s a b x R':=⟨h.le,h.first,h.last,h.stay,h.sf,h.sl,h.st,fun i j=>(h.has i j).trans (hR i j)⟩
theorem zcx (a:Nat):Good xs s a a .nothing (fun i j=>i=j):=
 ⟨yez _,by simp[Str.nothing],by simp[Str.nothing],fun q p h1 h2 _=>by omega,by simp[Str.nothing],by simp[Str.nothing],fun q h1 h2=>by omega,fun i j=>by simp[Rec,Str.nothing]⟩
theorem zop (a:Nat):Good xs s a a .void (fun _ _=>False):=
 ⟨yez _,by simp[Str.void],by simp[Str.void],fun q p h1 h2 _=>by omega,by simp[Str.void],by simp[Str.void],fun q h1 h2=>by omega,fun i j=>by simp[Rec,Str.void]⟩
theorem zzp (hl:LInv s) (p:Nat->Bool):Good xs (oneL s p) s.sets.length (s.sets.length+1) (oneX s) (fun i j=>i<xs.length∧p (xs.getD i 0).toNat=true∧j=i+1):=by
 have hd:∀ q,s.sets.length<=q->(oneL s p).follow.getD q []=[]:=fun q hq=>by
  unfold oneL;simp only[yf0];rw[yfc (by rw[hl.len];exact hq)];rcases yhu (q-s.follow.length) with e|e
  .rw[e];simp
  .rw[yfj yil];rfl
 have hf:∀ q r,s.sets.length<=q->¬ fol (oneL s p) q r:=fun q r hq h=>by
  unfold fol at h;rw[hd q hq] at h;simp at h
 have hs:∀ i,eats xs (oneL s p) s.sets.length i↔i<xs.length∧p (xs.getD i 0).toNat=true:=fun i=>by
  unfold eats oneL;simp
 refine⟨by omega,by simp[oneX],by simp[oneX],fun q r h1 _ h2=>absurd h2 (hf q r h1),by simp[oneX],by simp[oneX],fun q h1 _=>by rw[hd q h1];exact ygb,fun i j=>?_⟩;simp only[Rec,oneX,yfn];constructor
 .rintro (⟨e,_⟩|⟨q,rfl,hg⟩)
  .cases e
  .have:∀ r j,Goes (eats xs (oneL s p)) (fol (oneL s p)) (fun x=>x=s.sets.length) i r j->r=s.sets.length∧eats xs (oneL s p) r i∧j=i+1:=by
    intro r j h;induction h with
    | start r h hs=>exact⟨h,hs,rfl⟩
    | step q r j h hf' hs ih=>exact absurd hf' (hf q r (by rw[ih.1];exact yez _))
   obtain⟨_,h1,h2⟩:=this _ _ hg;exact⟨((hs i).1 h1).1,((hs i).1 h1).2,h2⟩
 .rintro⟨h1,h2,rfl⟩;exact .inr ⟨_,rfl,.start _ rfl ((hs i).2 ⟨h1,h2⟩)⟩
theorem zgd:∀ (ps:List Nat) (f:List (List Nat)) (ys:List Nat),(∀ p∈ps,p<f.length)->ps.Nodup->∀ q,(zaw f ps ys).getD q []=if q∈ps then f.getD q []++ys else f.getD q []
 | [],f,ys,_,_,q=>by simp[zaw]
 | p::ps,f,ys,h,hn,q=>by
  rw[yhd] at hn;rw[zaw,zgd ps _ ys (fun p' hp'=>by rw[zfv];exact h p' (by simp[hp'])) hn.2,zl7 f p q ys (h p yii)]
  by_cases e:q=p
  .subst e;simp[hn.1]
  .simp[e]
theorem zom (hl:LInv s) (hx:∀ p∈x.last,p<s.sets.length) (q p:Nat):fol (zcb s x y) q p↔fol s q p∨(q∈x.last∧p∈y.first):=by
 unfold fol zcb;exact zjm x.last s.follow y.first (fun p hp=>by rw[hl.len];exact hx p hp) q p
theorem zwp (hl:LInv s) (hc:c<=s.sets.length) (hx:Good xs s a b x R) (hy:Good xs s b c y R'):Good xs (zcb s x y) a c (zb8 x y) (fun i j=>∃ k,R i k∧R' k j):=by
 have hab:=hx.le;have hbc:=hy.le;have hfol:=zom (y:=y) hl (fun p hp=>by have:=(hx.last p hp).2;omega);have heat:eats xs (zcb s x y)=eats xs s:=rfl;have hfirst:∀ p,p∈(zb8 x y).first↔p∈x.first∨(x.empty=true∧p∈y.first):=fun p=>by
  unfold zb8;cases x.empty <;> simp
 have hlast:∀ p,p∈(zb8 x y).last↔p∈y.last∨(y.empty=true∧p∈x.last):=fun p=>by
  unfold zb8;cases y.empty <;> simp[or_comm]
 have hA:∀ i p j,Goes (eats xs s) (fol (zcb s x y)) (· ∈ (zb8 x y).first) i p j->(a<=p∧p<b∧Goes (eats xs s) (fol s) (· ∈ x.first) i p j)∨
  (b<=p∧p<c∧((x.empty=true∧Goes (eats xs s) (fol s) (· ∈ y.first) i p j)∨∃ q k,q∈x.last∧Goes (eats xs s) (fol s) (· ∈ x.first) i q k∧Goes (eats xs s) (fol s) (· ∈ y.first) k p j)):=by
  intro i p j h;induction h with
  | start p h hs =>
   rcases (hfirst p).1 h with h | ⟨e,h⟩
   .exact .inl ⟨(hx.first p h).1,(hx.first p h).2,.start p h hs⟩
   .exact .inr ⟨(hy.first p h).1,(hy.first p h).2,.inl ⟨e,.start p h hs⟩⟩
  | step q p j h hf hs ih =>
   rcases (hfol q p).1 hf with hf|⟨h1,h2⟩
   .rcases ih with ⟨i1,i2,i3⟩|⟨i1,i2,i3⟩
    .have:=hx.stay q p i1 i2 hf;exact .inl ⟨this.1,this.2,.step q p j i3 hf hs⟩
    .have:=hy.stay q p i1 i2 hf;refine .inr ⟨this.1,this.2,?_⟩;rcases i3 with ⟨e,i3⟩|⟨r,k,h3,h4,h5⟩
     .exact .inl ⟨e,.step q p j i3 hf hs⟩
     .exact .inr ⟨r,k,h3,h4,.step q p j h5 hf hs⟩
   .have hb:=hx.last q h1;have hp:=hy.first p h2
    refine .inr ⟨hp.1,hp.2,.inr ⟨q,j,h1,?_,.start p h2 hs⟩⟩;rcases ih with ⟨_,_,i3⟩|⟨i1,_,_⟩
    .exact i3
    .omega
 have hnd:x.last.Nodup:=hx.sl.imp fun h=>Nat.ne_of_lt h
 refine⟨by omega,fun p hp=>?_,fun p hp=>?_,fun q p h1 h2 h3=>?_,?_,?_,fun q h1 h2=>?_,fun i j=>?_⟩
 .rcases (hfirst p).1 hp with h | ⟨_,h⟩
  .have:=hx.first p h;omega
  .have:=hy.first p h;omega
 .rcases (hlast p).1 hp with h|⟨_,h⟩
  .have:=hy.last p h;omega
  .have:=hx.last p h;omega
 .rcases (hfol q p).1 h3 with h|⟨h4,h5⟩
  .rcases ygs q b with hq|hq
   .have:=hx.stay q p h1 hq h;omega
   .have:=hy.stay q p hq h2 h;omega
  .have:=hy.first p h5;omega
 .unfold zb8;cases x.empty
  .exact hx.sf
  .exact yhn.2 ⟨hx.sf,hy.sf,fun p hp q hq=>by have:=hx.first p hp;have:=hy.first q hq;omega⟩
 .unfold zb8;cases y.empty
  .exact hy.sl
  .exact yhn.2 ⟨hx.sl,hy.sl,fun p hp q hq=>by have:=hx.last p hp;have:=hy.last q hq;omega⟩
 .unfold zcb
  show ((zaw s.follow x.last y.first).getD q []).Pairwise (· < ·)
  rw[zgd x.last s.follow y.first (fun p hp=>by rw[hl.len];have:=(hx.last p hp).2;omega) hnd q];rcases ygs q b with hq | hq
  .split
   .refine yhn.2 ⟨hx.st q h1 hq,hy.sf,fun p hp r hr=>?_⟩;have:=hx.stay q p h1 hq hp;have:=hy.first r hr
    omega
   .exact hx.st q h1 hq
  .rw[if_neg (fun e=>by have:=(hx.last q e).2;omega)];exact hy.st q hq h2
 .simp only[←hx.has,←hy.has];unfold Rec;rw[heat];constructor
  .rintro (⟨e,rfl⟩|⟨p,hp,hg⟩)
   .have e':x.empty=true∧y.empty=true:=(by simpa [zb8] using e);exact⟨i,.inl ⟨e'.1,rfl⟩,.inl ⟨e'.2,rfl⟩⟩
   .rcases hA i p j hg with ⟨h1,h2,h3⟩|⟨h1,h2,h3⟩
    .rcases (hlast p).1 hp with h|⟨e,h⟩
     .have:=hy.last p h;omega
     .exact⟨j,.inr ⟨p,h,h3⟩,.inl ⟨e,rfl⟩⟩
    .have hp':p∈y.last:=by
      rcases (hlast p).1 hp with h|⟨e,h⟩
      .exact h
      .have:=hx.last p h;omega
     rcases h3 with ⟨e,h3⟩|⟨q,k,h4,h5,h6⟩
     .exact⟨i,.inl ⟨e,rfl⟩,.inr ⟨p,hp',h3⟩⟩
     .exact⟨k,.inr ⟨q,h4,h5⟩,.inr ⟨p,hp',h6⟩⟩
  .have up:∀ {i p j},Goes (eats xs s) (fol s) (· ∈ x.first) i p j->Goes (eats xs s) (fol (zcb s x y)) (· ∈ (zb8 x y).first) i p j:=fun h =>
    h.mono (fun _ _ h=>h) (fun q p h=>(hfol q p).2 (.inl h)) fun p h=>(hfirst p).2 (.inl h)
   rintro⟨k,(⟨e,rfl⟩|⟨q,hq,hg⟩),(⟨e',rfl⟩|⟨p,hp,hg'⟩)⟩
   .exact .inl ⟨by simp[zb8,e,e'],rfl⟩
   .exact .inr ⟨p,(hlast p).2 (.inl hp),hg'.mono (fun _ _ h=>h) (fun q p h=>(hfol q p).2 (.inl h)) fun p h=>(hfirst p).2 (.inr ⟨e,h⟩)⟩
   .exact .inr ⟨q,(hlast q).2 (.inr ⟨e',hq⟩),up hg⟩
   .refine .inr ⟨p,(hlast p).2 (.inl hp),?_⟩;clear hp;induction hg' with
    | start p h hs=>exact .step q p k (up hg) ((hfol q p).2 (.inr ⟨hq,h⟩)) hs
    | step r p j h hf hs ih=>exact .step r p j ih ((hfol r p).2 (.inl hf)) hs
theorem zzr (hx:Good xs s a b x R) (hy:Good xs s b c y R'):Good xs s a c (altX x y) (fun i j=>R i j∨R' i j):=by
 have hab:=hx.le;have hbc:=hy.le;have hA:∀ i p j,Goes (eats xs s) (fol s) (· ∈ (altX x y).first) i p j->(a<=p∧p<b∧Goes (eats xs s) (fol s) (· ∈ x.first) i p j)∨(b<=p∧p<c∧Goes (eats xs s) (fol s) (· ∈ y.first) i p j):=by
  intro i p j h;induction h with
  | start p h hs =>
   rcases yfm.1 (show p∈x.first++y.first from h) with h | h
   .exact .inl ⟨(hx.first p h).1,(hx.first p h).2,.start p h hs⟩
   .exact .inr ⟨(hy.first p h).1,(hy.first p h).2,.start p h hs⟩
  | step q p j h hf hs ih =>
   rcases ih with ⟨i1,i2,i3⟩|⟨i1,i2,i3⟩
   .have:=hx.stay q p i1 i2 hf;exact .inl ⟨this.1,this.2,.step q p j i3 hf hs⟩
   .have:=hy.stay q p i1 i2 hf;exact .inr ⟨this.1,this.2,.step q p j i3 hf hs⟩
 refine⟨by omega,fun p hp=>?_,fun p hp=>?_,fun q p h1 h2 h3=>?_,yhn.2 ⟨hx.sf,hy.sf,fun p hp q hq=>by have:=hx.first p hp;have:=hy.first q hq;omega⟩,yhn.2 ⟨hx.sl,hy.sl,fun p hp q hq=>by have:=hx.last p hp;have:=hy.last q hq;omega⟩,fun q h1 h2=>?_,fun i j=>?_⟩
 .rcases yfm.1 (show p∈x.first++y.first from hp) with h | h
  .have:=hx.first p h;omega
  .have:=hy.first p h;omega
 .rcases yfm.1 (show p∈x.last++y.last from hp) with h|h
  .have:=hx.last p h;omega
  .have:=hy.last p h;omega
 .rcases ygs q b with hq|hq
  .have:=hx.stay q p h1 hq h3;omega
  .have:=hy.stay q p hq h2 h3;omega
 .rcases ygs q b with hq|hq
  .exact hx.st q h1 hq
  .exact hy.st q hq h2
 .simp only[←hx.has,←hy.has];unfold Rec;constructor
  .rintro (⟨e,rfl⟩|⟨p,hp,hg⟩)
   .have e':x.empty=true∨y.empty=true:=(by simpa [altX] using e);rcases e' with e|e
    .exact .inl (.inl ⟨e,rfl⟩)
    .exact .inr (.inl ⟨e,rfl⟩)
   .rcases hA i p j hg with ⟨h1,h2,h3⟩|⟨h1,h2,h3⟩
    .rcases yfm.1 (show p∈x.last++y.last from hp) with h|h
     .exact .inl (.inr ⟨p,h,h3⟩)
     .have:=hy.last p h;omega
    .rcases yfm.1 (show p∈x.last++y.last from hp) with h|h
     .have:=hx.last p h;omega
     .exact .inr (.inr ⟨p,h,h3⟩)
  .rintro ((⟨e,rfl⟩|⟨p,hp,hg⟩)|(⟨e,rfl⟩|⟨p,hp,hg⟩))
   .exact .inl ⟨by simp[altX,e],rfl⟩
   .exact .inr ⟨p,yfm.2 (.inl hp),hg.mono (fun _ _ h=>h) (fun _ _ h=>h) fun p h=>yfm.2 (.inl h)⟩
   .exact .inl ⟨by simp[altX,e],rfl⟩
   .exact .inr ⟨p,yfm.2 (.inr hp),hg.mono (fun _ _ h=>h) (fun _ _ h=>h) fun p h=>yfm.2 (.inr h)⟩
theorem zzq (h:Good xs s a b x R):Good xs s a b ⟨x.first,x.last,true⟩ (fun i j=>i=j∨R i j):=by
 refine⟨h.le,h.first,h.last,h.stay,h.sf,h.sl,h.st,fun i j=>?_⟩;rw[←h.has];unfold Rec;constructor
 .rintro (⟨_,e⟩|h)
  .exact .inl e
  .exact .inr (.inr h)
 .rintro (e|(⟨_,e⟩|h))
  .exact .inl ⟨rfl,e⟩
  .exact .inl ⟨rfl,e⟩
  .exact .inr h
end
structure More (s s':Lay):Prop where
 inv:LInv s'
 sets:∃ l,s'.sets=s.sets++l
 keep:∀ q,q<s.sets.length->s'.follow.getD q []=s.follow.getD q []
theorem More.refl {s:Lay} (h:LInv s):More s s:=⟨h,⟨[],by simp⟩,fun _ _=>rfl⟩
theorem More.le {s s':Lay} (h:More s s'):s.sets.length<=s'.sets.length:=by
 obtain⟨l,e⟩:=h.sets;rw[e,yfd];omega
theorem More.trans {s s' s'':Lay} (h:More s s') (k:More s' s''):More s s'':=by
 have hl:=h.le;refine⟨k.inv,?_,fun q hq=>(k.keep q yie).trans (h.keep q hq)⟩;obtain⟨l,e⟩:=h.sets;obtain⟨l',e'⟩:=k.sets;exact⟨l++l',by rw[e',e,yfl]⟩
theorem More.get {s s':Lay} (h:More s s') (p:Nat) (hp:p<s.sets.length):s'.sets.getD p za9=s.sets.getD p za9:=by
 obtain⟨l,e⟩:=h.sets;rw[e];simp only[yf0];rw[yfb hp]
theorem Good.more {xs:List Int} {s s':Lay} {a b:Nat} {x:Str} {R:Nat->Nat->Prop} (h:Good xs s a b x R) (hm:More s s') (hb:b<=s.sets.length):Good xs s' a b x R:=
 h.later (fun p hp=>hm.get p yie) fun q hq=>hm.keep q yie
def Lays (xs:List Int) (f:Lay->Lay×Str) (R:Nat->Nat->Prop):Prop:=
 ∀ s,LInv s->More s (f s).1∧Good xs (f s).1 s.sets.length (f s).1.sets.length (f s).2 R
theorem zvf {s:Lay} (h:LInv s) (p:Nat->Bool):More s (oneL s p):=by
 refine⟨⟨by simp[oneL,h.len],fun q r hr=>?_⟩,⟨[p],rfl⟩,fun q hq=>?_⟩
 .simp only[oneL,yf0,yfd,ygd] at hr ⊢;rcases ygs q s.follow.length with hq|hq
  .rw[yfb hq,←yf0] at hr;have:=h.lt q r hr;omega
  .rw[yfc hq] at hr;rcases yhu (q-s.follow.length) with e|e
   .rw[e] at hr;simp at hr
   .rw[yfj yil] at hr;simp at hr
 .simp only[oneL,yf0];rw[yfb (by rw[h.len];exact hq)]
theorem ztm {s:Lay} (h:LInv s) {x y:Str} {n:Nat} (hx:∀ p∈x.last,n<=p∧p<s.sets.length) (hy:∀ p∈y.first,p<s.sets.length):LInv (zcb s x y)∧∀ q,q<n->(zcb s x y).follow.getD q []=s.follow.getD q []:=by
 refine⟨⟨by simp[zcb,zer,h.len],fun q p hp=>?_⟩,fun q hq=>?_⟩
 .rcases (zom (y:=y) h (fun p hp=>(hx p hp).2) q p).1 hp with e|⟨_,e⟩
  .exact h.lt q p e
  .exact hy p e
 .exact zjn _ _ _ _ fun e=>by have:=(hx q e).1;omega
theorem zh0 {xs:List Int} {f:Lay->Lay×Str} {R R':Nat->Nat->Prop} (hf:Lays xs f R') {s:Lay} (hs:LInv s) {a:Nat} {x:Str} (hx:Good xs s a s.sets.length x R):
 LInv (zcb (f s).1 x (f s).2)∧(∃ l,(zcb (f s).1 x (f s).2).sets=s.sets++l)∧(∀ q,q<a->(zcb (f s).1 x (f s).2).follow.getD q []=s.follow.getD q [])∧
  Good xs (zcb (f s).1 x (f s).2) a (zcb (f s).1 x (f s).2).sets.length (zb8 x (f s).2) (fun i j=>∃ k,R i k∧R' k j):=by
 obtain⟨hm,hg⟩:=hf s hs;have hle:=hm.le;have hxa:=hx.le;obtain⟨h1,h2⟩:=ztm (y:=(f s).2) hm.inv (n:=a) (x:=x) (fun p hp=>⟨(hx.last p hp).1,by have:=(hx.last p hp).2;omega⟩) (fun p hp=>(hg.first p hp).2);exact⟨h1,hm.sets,fun q hq=>(h2 q hq).trans (hm.keep q yie),zwp hm.inv (yez _) (hx.more hm (yez _)) hg⟩
theorem zge {xs:List Int} {f:Lay->Lay×Str} {R:Nat->Nat->Prop} (hf:Lays xs f R):∀ (m:Nat) (s:Lay) (x:Str) (a n:Nat),LInv s->Good xs s a s.sets.length x (iter R n)->
 LInv (zaq f m s x).1∧(∃ l,(zaq f m s x).1.sets=s.sets++l)∧(∀ q,q<a->(zaq f m s x).1.follow.getD q []=s.follow.getD q [])∧Good xs (zaq f m s x).1 a (zaq f m s x).1.sets.length (zaq f m s x).2 (iter R (n+m))
 | 0,s,x,a,n,hs,hx=>⟨hs,⟨[],by simp[zaq]⟩,fun _ _=>rfl,hx⟩
 | m+1,s,x,a,n,hs,hx=>by
  obtain⟨h1,⟨l,h2⟩,h3,h4⟩:=zh0 hf hs hx;have ih:=zge hf m _ _ a (n+1) h1 (h4.congr fun i j=>Iff.rfl);obtain⟨i1,⟨l',i2⟩,i3,i4⟩:=ih;refine⟨i1,⟨l++l',?_⟩,fun q hq=>(i3 q hq).trans (h3 q hq),?_⟩
  .rw[zaq,i2,h2,yfl]
  .rw[show n+(m+1)=n+1+m by omega];exact i4
theorem zh3 {R:Nat->Nat->Prop}:∀ (m i j:Nat),(∃ k,R i k∧iter R m k j)↔iter R (m+1) i j
 | 0,i,j=>by
  constructor
  .rintro⟨k,h,e⟩;have e':k=j:=e;subst e';exact⟨i,rfl,h⟩
  .rintro⟨k,e,h⟩;have e':i=k:=e;subst e';exact⟨j,h,rfl⟩
 | m+1,i,j=>by
  constructor
  .rintro⟨k,h,l,h2,h3⟩;exact⟨l,(zh3 m i l).1 ⟨k,h,h2⟩,h3⟩
  .rintro⟨l,h,h3⟩;obtain⟨k,h1,h2⟩:=(zh3 m i l).2 h;exact⟨k,h1,l,h2,h3⟩
theorem zir {R:Nat->Nat->Prop} (a:Nat):∀ (b i j:Nat),iter R (a+b) i j↔∃ k,iter R a i k∧iter R b k j
 | 0,i,j=>by
  constructor
  .intro h;exact⟨j,h,rfl⟩
  .rintro⟨k,h,e⟩;have e':k=j:=e;subst e';exact h
 | b+1,i,j=>by
  constructor
  .rintro⟨k,h1,h2⟩;obtain⟨l,h3,h4⟩:=(zir a b i k).1 h1;exact⟨l,h3,k,h4,h2⟩
  .rintro⟨l,h3,k,h4,h2⟩;exact⟨k,(zir a b i k).2 ⟨l,h3,h4⟩,h2⟩
theorem zes {xs:List Int} {f:Lay->Lay×Str} {R:Nat->Nat->Prop} (hf:Lays xs f R):∀ d,Lays xs (within f d) (fun i j=>∃ m,m<=d∧iter R m i j)
 | 0,s,hs=>⟨More.refl hs,(zcx (xs:=xs) (s:=s) s.sets.length).congr fun i j=>by
  constructor
  .intro e;exact⟨0,yez _,e⟩
  .rintro⟨m,hm,h⟩;have:m=0:=by omega
   subst this;exact h⟩
 | d+1,s,hs=>by
  obtain⟨hm,hg⟩:=hf s hs;obtain⟨h1,⟨l,h2⟩,h3,h4⟩:=zh0 (zes hf d) hm.inv hg;obtain⟨l0,h0⟩:=hm.sets;refine⟨⟨h1,⟨l0++l,?_⟩,fun q hq=>(h3 q hq).trans (hm.keep q hq)⟩,?_⟩
  .show (zcb (within f d (f s).1).1 (f s).2 (within f d (f s).1).2).sets=_
   rw[h2,h0,yfl]
  .refine (zzq h4).congr fun i j=>?_
   constructor
   .rintro (e|⟨k,hk,m,hm,h⟩)
    .exact⟨0,by omega,e⟩
    .exact⟨m+1,by omega,(zh3 m i j).1 ⟨k,hk,h⟩⟩
   .rintro⟨m,hm,h⟩;cases m with
    | zero=>exact .inl h
    | succ m =>
     obtain⟨k,hk,h⟩:=(zh3 m i j).2 h;exact .inr ⟨k,hk,m,by omega,h⟩
theorem zzh {xs:List Int} {f:Lay->Lay×Str} {R:Nat->Nat->Prop} (hf:Lays xs f R) (m d:Nat):Lays xs (repX f m d) (fun i j=>∃ k,m<=k∧k<=m+d∧iter R k i j):=by
 intro s hs;obtain⟨h1,⟨l,h2⟩,h3,h4⟩:=zge hf m s .nothing s.sets.length 0 hs (zcx _);obtain⟨k1,⟨l',k2⟩,k3,k4⟩:=zh0 (zes hf d) h1 h4;refine⟨⟨k1,⟨l++l',?_⟩,fun q hq=>(k3 q hq).trans (h3 q hq)⟩,?_⟩
 .show (zcb (within f d (zaq f m s .nothing).1).1 (zaq f m s .nothing).2 (within f d (zaq f m s .nothing).1).2).sets=_
  rw[k2,h2,yfl]
 .refine k4.congr fun i j=>?_
  rw[yg5];constructor
  .rintro⟨k,h,n,hn,h'⟩;exact⟨m+n,by omega,by omega,(zir m n i j).2 ⟨k,h,h'⟩⟩
  .rintro⟨k,hk1,hk2,h⟩;rw[show k=m+(k-m) by omega] at h;obtain⟨r,h5,h6⟩:=(zir m (k-m) i j).1 h;exact⟨r,h5,k-m,by omega,h6⟩
theorem zmn {xs:List Int}:∀ (l:List T),(∀ t∈l,Lays xs (layP t) (E xs t))->∀ (s:Lay) (x:Str) (a:Nat) (R:Nat->Nat->Prop),LInv s->Good xs s a s.sets.length x R->
 LInv (catP l s x).1∧(∃ m,(catP l s x).1.sets=s.sets++m)∧(∀ q,q<a->(catP l s x).1.follow.getD q []=s.follow.getD q [])∧Good xs (catP l s x).1 a (catP l s x).1.sets.length (catP l s x).2 (fun i j=>∃ k,R i k∧ECat xs l k j)
 | [],_,s,x,a,R,hs,hx=>⟨by simpa [catP] using hs,⟨[],by simp[catP]⟩,fun _ _=>by simp[catP],by
  simp only[catP,ECat];exact hx.congr fun i j=>by simp⟩
 | t::ts,h,s,x,a,R,hs,hx=>by
  obtain⟨h1,⟨m,h2⟩,h3,h4⟩:=zh0 (h t yii) hs hx;obtain⟨i1,⟨m',i2⟩,i3,i4⟩:=zmn ts (fun t ht=>h t (by simp[ht])) _ _ a _ h1 h4;simp only[catP];refine⟨i1,⟨m++m',by rw[i2,h2,yfl]⟩,fun q hq=>(i3 q hq).trans (h3 q hq),i4.congr fun i j=>?_⟩;simp only[ECat];constructor
  .rintro⟨k,⟨k',a1,a2⟩,a3⟩;exact⟨k',a1,k,a2,a3⟩
  .rintro⟨k',a1,k,a2,a3⟩;exact⟨k,⟨k',a1,a2⟩,a3⟩
theorem zmo {xs:List Int}:∀ (l:List T),(∀ t∈l,Lays xs (layP t) (E xs t))->∀ (s:Lay) (x:Str) (a:Nat) (R:Nat->Nat->Prop),LInv s->Good xs s a s.sets.length x R->
 More s (altP l s x).1∧Good xs (altP l s x).1 a (altP l s x).1.sets.length (altP l s x).2 (fun i j=>R i j∨EAny xs l i j)
 | [],_,s,x,a,R,hs,hx=>⟨by simpa [altP] using More.refl hs,by
  simp only[altP,EAny];exact hx.congr fun i j=>by simp⟩
 | t::ts,h,s,x,a,R,hs,hx=>by
  obtain⟨hm,hg⟩:=h t yii s hs;obtain⟨i1,i2⟩:=zmo ts (fun t ht=>h t (by simp[ht])) _ _ a _ hm.inv (zzr (hx.more hm (yez _)) hg);simp only[altP];exact⟨hm.trans i1,i2.congr fun i j=>by simp only[EAny,or_assoc]⟩
theorem zfb {xs:List Int} {t:T} (ht:WF t):Lays xs (layP t) (E xs t):=by
 induction ht with
 | one p =>
  intro s hs;simp only[layP,if_true];refine⟨zvf hs p,?_⟩;have:(oneL s p).sets.length=s.sets.length+1:=by simp[oneL]
  rw[this];exact (zzp hs p).congr fun i j=>E_one.symm
 | cat l h2 hN h ih =>
  intro s hs;obtain⟨h1,h3,h4,h5⟩:=zmn l ih s .nothing s.sets.length _ hs (zcx _);simp only[layP];exact⟨⟨h1,h3,h4⟩,h5.congr fun i j=>by rw[zu8];simp⟩
 | alt l h2 hN h ih =>
  intro s hs;obtain⟨h1,h3⟩:=zmo l ih s .void s.sets.length _ hs (zop _);simp only[layP];exact⟨h1,h3.congr fun i j=>by rw[zu9];simp⟩
 | rep m n t h0 h1 h2 h3 h ih =>
  intro s hs;have:=zzh (show Lays xs (zmw [t]) (E xs t) from fun s hs=>by simpa only [zmw] using ih s hs) m.toNat (n-m).toNat s hs;simp only[layP];refine⟨this.1,this.2.congr fun i j=>?_⟩;rw[zqk,zd6];constructor
  .rintro⟨k,a1,a2,a3⟩;exact⟨k,by omega,by omega,a3⟩
  .rintro⟨k,a1,a2,a3⟩;exact⟨k,by omega,by omega,a3⟩
def lay0 (t:T):Lay×Str:=layP t ⟨[],[]⟩
theorem zfc {xs:List Int} {t:T} (ht:WF t):LInv (lay0 t).1∧Good xs (lay0 t).1 0 (lay0 t).1.sets.length (lay0 t).2 (E xs t):=by
 have:=zfb (xs:=xs) ht ⟨[],[]⟩ ⟨rfl,fun q p h=>by simp at h⟩;exact⟨this.1.inv,this.2⟩
mutual
def plR:T->Nat
 | .mk op p lo hi l=>if op=1 then 1 else if op=4 then hi.toNat*plRL l else plRL l
def plRL:List T->Nat
 | []=>0
 | t::ts=>plR t+plRL ts
end
theorem zg7 {f:Lay->Lay×Str} {k:Nat} (hf:∀ s,(f s).1.sets.length=s.sets.length+k):∀ (d:Nat) (s:Lay),(within f d s).1.sets.length=s.sets.length+d*k
 | 0,s=>by simp[within]
 | d+1,s=>by
  show (within f d (f s).1).1.sets.length=_
  rw[zg7 hf d,hf,yha];omega
theorem zgi {f:Lay->Lay×Str} {k:Nat} (hf:∀ s,(f s).1.sets.length=s.sets.length+k):∀ (m:Nat) (s:Lay) (x:Str),(zaq f m s x).1.sets.length=s.sets.length+m*k
 | 0,s,x=>by simp[zaq]
 | m+1,s,x=>by
  rw[zaq,zgi hf m]
  show (f s).1.sets.length+m*k=_
  rw[hf,yha];omega
theorem zn2:∀ (l:List T),(∀ t∈l,∀ s,(layP t s).1.sets.length=s.sets.length+plR t)->∀ s x,(catP l s x).1.sets.length=s.sets.length+plRL l
 | [],_,s,x=>by simp[catP,plRL]
 | t::ts,h,s,x=>by
  simp only[catP,plRL];rw[zn2 ts fun t ht=>h t (by simp[ht])]
  show (layP t s).1.sets.length+plRL ts=_
  rw[h t yii];omega
theorem zn8:∀ (l:List T),(∀ t∈l,∀ s,(layP t s).1.sets.length=s.sets.length+plR t)->∀ s x,(altP l s x).1.sets.length=s.sets.length+plRL l
 | [],_,s,x=>by simp[altP,plRL]
 | t::ts,h,s,x=>by
  simp only[altP,plRL];rw[zn8 ts fun t ht=>h t (by simp[ht]),h t yii];omega
theorem zd5 {t:T} (ht:WF t):∀ s,(layP t s).1.sets.length=s.sets.length+plR t:=by
 induction ht with
 | one p=>intro s;simp[layP,plR,oneL]
 | cat l h2 hN h ih=>intro s;simp only[layP,plR];simpa using zn2 l ih s .nothing
 | alt l h2 hN h ih=>intro s;simp only[layP,plR];simpa using zn8 l ih s .void
 | rep m n t h0 h1 h2 h3 h ih =>
  intro s;have hh:∀ s,(zmw [t] s).1.sets.length=s.sets.length+plR t:=fun s=>by simpa only [zmw] using ih s
  have e:plR (.mk 4 za9 m n [t])=n.toNat*plR t:=(by simp[plR,plRL]);rw[e];simp only[layP]
  show (within (zmw [t]) (n-m).toNat (zaq (zmw [t]) m.toNat s .nothing).1).1.sets.length=_
  rw[zg7 hh,zgi hh,show n.toNat=m.toNat+(n-m).toNat by omega,Nat.add_mul];omega
theorem zfr:∀ (l:List Nat) (a b:Nat),l.Pairwise (· < ·)->(∀ p∈l,a<=p∧p<b)->l.length<=b-a
 | [],a,b,_,_=>yf8 _
 | p::ps,a,b,h,hb=>by
  rw[yg3] at h;have ih:=zfr ps (p+1) b h.2 fun q hq=>⟨h.1 q hq,(hb q (by simp[hq])).2⟩
  have:=hb p yii;simp only[yg7];omega
end
section
open Go Go.RowKit
theorem Tree.kidAt {w:World} {ok:Nat->Prop} {t:T} {k:Value} (h:Tree w ok t k) (i:Nat) (hi:i<t.kids.length):
 ∃ g cap k',k = .slice (some ⟨g,0,none⟩) t.kids.length cap∧g<w.heap.size∧Tree w ok (t.kids[i]'hi) k'∧∀ j u,(zdt (t.kids[i]'hi) k')[j]?=some u->w.cell? ⟨g,8*i+j,none⟩=some u:=by
 cases h with
 | nil t h=>rw[h] at hi;simp at hi
 | row t g cap cur ks hg hok hn h0 hcap hmax hsize hc hk =>
  have hi':i<ks.length:=yie;refine⟨g,cap,ks[i],rfl,za0 hg,hk i _ _ (yey hi) (yey hi'),fun j u hu=>?_⟩;have hj:j<8:=by
   have:=yf4.1 hu
   simpa [zdt] using this.1
  have e:=zk2 t.kids ks i j _ _ (yey hi) (yey hi') hj;rw[←hc,hu] at e;rw[cell_of_row w g _ cur 56 (0,0) hg,←yhw];rw[List.getElem?_take] at e;split at e
  .exact e
  .cases e
theorem Tree.bound {w:World} {ok:Nat->Prop} {t:T} {A:Option Addr} {n c:Nat} (h:Tree w ok t (.slice A n c)):n=t.kids.length∧n<=maxLen:=by
 cases h with
 | nil t h=>exact⟨by simp[h],by decide⟩
 | row t g cap cur ks hg hok hn h0 hcap hmax hsize hc hk=>exact⟨rfl,yfa hcap hmax⟩
theorem zdy (t:T) (i:Nat) (hi:i<t.kids.length):SizeOf.sizeOf (t.kids[i]'hi)<SizeOf.sizeOf t:=by
 obtain⟨op,p,lo,hi',l⟩:=t;have:=yhi (yfq hi);simp only[T.kids] at *;simp;omega
theorem kid8 {w:World} {ok:Nat->Prop} {t u:T} {A:Option Addr} {n c:Nat} (h:Tree w ok t (.slice A n c)) (i:Nat) (hu:t.kids[i]?=some u):
 ∃ g B m d,A=some ⟨g,0,none⟩∧g<w.heap.size∧Tree w ok u (.slice B m d)∧∀ q v,(zdt u (.slice B m d))[q]?=some v->w.cell? ⟨g,8*i+q,none⟩=some v:=by
 obtain⟨hi,e⟩:=yf4.1 hu;obtain⟨g,cap,kk,e1,hg1,htk,hcells⟩:=h.kidAt i hi;rw[e] at htk hcells;obtain⟨B,m,d,rfl⟩:=htk.form;exact⟨g,B,m,d,by injection e1,hg1,htk,hcells⟩
end
section
open Go Go.RowKit
def NodeAt (w:World) (g o:Nat) (t:T) (k:Value):Prop:=∀ q v,(zdt t k)[q]?=some v->w.cell? ⟨g,o+q,none⟩=some v
theorem NodeAt.lt {w:World} {g o:Nat} {t:T} {k:Value} (h:NodeAt w g o t k):g<w.heap.size:=ygk w ⟨g,o+0,none⟩ (h 0 _ rfl)
theorem NodeAt.stays {w w':World} {g o:Nat} {t:T} {k:Value} (h:NodeAt w g o t k) (hb:Below w.heap.size w w'):NodeAt w' g o t k:=fun q v e=>za4 (h q v e) hb
theorem NodeAt.kid {w:World} {ok:Nat->Prop} {t:T} {A:Option Addr} {n c:Nat} (h:Tree w ok t (.slice A n c)) (i:Nat) (hi:i<t.kids.length):
 ∃ g B m d,A=some ⟨g,0,none⟩∧Tree w ok (t.kids[i]'hi) (.slice B m d)∧NodeAt w g (i*8) (t.kids[i]'hi) (.slice B m d):=by
 obtain⟨g,B,m1,m2,e1,hg1,htk,hcells⟩:=kid8 h i (yey hi);exact⟨g,B,m1,m2,e1,htk,fun q v e=>by rw[ygv i 8];exact hcells q v e⟩
theorem NodeAt.block {w w':World} {t:T} {g o:Nat} {k:Value} (h:NodeAt w g o t k) (hb:w'.heap[g]?=w.heap[g]?):NodeAt w' g o t k:=fun q v e=>(yfp (w:=w) (a:=⟨g,o+q,none⟩) hb).trans (h q v e)
theorem Box8.nodeAt {w:World} {g:Nat} {t:T} {k:Value} (h:Box8 w g t k):NodeAt w g 0 t k:=by
 obtain⟨c0,c1,c2,c3,c4,c5,c6,c7⟩:=h.cell;intro q v e;rw[yg5]
 match q,e with
 | 0,e=>injection e with e;rw[←e];exact c0
 | 1,e=>injection e with e;rw[←e];exact c1
 | 2,e=>injection e with e;rw[←e];exact c2
 | 3,e=>injection e with e;rw[←e];exact c3
 | 4,e=>injection e with e;rw[←e];exact c4
 | 5,e=>injection e with e;rw[←e];exact c5
 | 6,e=>injection e with e;rw[←e];exact c6
 | 7,e=>injection e with e;rw[←e];exact c7
 | q+8,e=>simp[zdt] at e
end
section
open Go Go.RowKit
def zj3 (r:T×Bool) (k:Value):List Value:=[.int .i64 r.1.op,.int .u64 (word r.1.set 0),.int .u64 (word r.1.set 1),.int .u64 (word r.1.set 2),.int .u64 (word r.1.set 3),.int .i64 r.1.lo,.int .i64 r.1.hi,k,.bool r.2]
theorem zgr (r:T×Bool) (k:Value):(zj3 r k).length=9:=rfl
def zg4:List (T×Bool)->List Value->List Value
 | r::rs,k::ks=>zj3 r k++zg4 rs ks
 | _,_=>[]
theorem zkp:∀ (l:List (T×Bool)) (ks:List Value) (r:T×Bool) (k:Value),ks.length=l.length->zg4 (l++[r]) (ks++[k])=zg4 l ks++zj3 r k
 | [],[],r,k,_=>by simp[zg4]
 | q::l,u::ks,r,k,h=>by simp only[ygg,zg4];rw[zkp l ks r k yit,yfl]
 | [],_::_,r,k,h=>by simp at h
 | _::_,[],r,k,h=>by simp at h
theorem zko:∀ (l:List (T×Bool)) (ks:List Value) (i q:Nat) (r:T×Bool) (k:Value),l[i]?=some r->ks[i]?=some k->q<9->(zg4 l ks)[i*9+q]?=(zj3 r k)[q]?
 | [],ks,i,q,r,k,h1,h2,hq=>by simp at h1
 | r'::l,[],i,q,r,k,h1,h2,hq=>by simp at h2
 | r'::l,k'::ks,0,q,r,k,h1,h2,hq=>by
  simp at h1 h2;subst h1 h2;rw[zg4,yfb (by rw[zgr];omega)];simp
 | r'::l,k'::ks,i+1,q,r,k,h1,h2,hq=>by
  rw[zg4,yfc (by rw[zgr];omega),zgr,show (i+1)*9+q-9=i*9+q by omega];exact zko l ks i q r k yjc yjd hq
def RuleRow (ty:TypeId) (w:World) (B:Nat) (v:Value) (l:List (T×Bool)):Prop:=
 ∃ ks,ks.length=l.length∧w.ownsRow B ty 9 v l.length (zg4 l ks)∧∀ (i:Nat) r k,l[i]?=some r->ks[i]?=some k->Tree w (fun b=>B<=b) r.1 k
def RdRules (w:World) (A:Option Addr) (l:List (T×Bool)):Prop:=
 ∀ i r,l[i]?=some r->∃ g off k,A=some ⟨g,off,none⟩∧g<w.heap.size∧(∀ q u,(zj3 r k)[q]?=some u->w.cell? ⟨g,off+i*9+q,none⟩=some u)∧Tree w (fun _=>True) r.1 k
section
variable {w w':World} {B:Nat} {v:Value} {l:List (T×Bool)} {ty ty':TypeId} {A:Option Addr}
theorem RdRules.stays (h:RdRules w A l) (hb:Below w.heap.size w w'):RdRules w' A l:=fun i r hi=>by
 obtain⟨g,off,k,e,hg,hc,ht⟩:=h i r hi;exact⟨g,off,k,e,yff hg hb.size,fun q u hu=>(hb.cell (p:=⟨g,off+i*9+q,none⟩) hg).trans (hc q u hu),ht.stays hb⟩
theorem RdRules.nil (w:World) (A:Option Addr):RdRules w A []:=fun i r hi=>by simp at hi
theorem RuleRow.nil (ty:TypeId) (w:World) (B:Nat):RuleRow ty w B (.slice none 0 0) []:=⟨[],rfl,yfx w B _ 9,fun i r k h=>by simp at h⟩
theorem RuleRow.form (h:RuleRow ty w B v l):∃ A c,v = .slice A l.length c∧l.length<=c:=by
 obtain⟨ks,h1,h2,h3⟩:=h;rcases h2.2 with ⟨rfl,h0⟩|⟨g,cap,cur,rfl,_,_,hc,_⟩
 .exact⟨none,0,by rw[h0],by omega⟩
 .exact⟨_,_,rfl,hc⟩
theorem RuleRow.lt (h:RuleRow ty w B v l) {b:Nat} (hb:v.ownBlock=some b):B<=b∧b<w.heap.size:=by
 obtain⟨ks,h1,h2,h3⟩:=h;exact yf5 h2 b hb
theorem RuleRow.kind (h:RuleRow ty w B v l) {b:Nat} (hb:v.ownBlock=some b):∃ cur,w.heap[b]?=some (.cells cur ty (0,0)):=by
 obtain⟨ks,h1,h2,h3⟩:=h;exact za7 h2 hb
theorem RuleRow.stays (h:RuleRow ty w B v l) (hb:Below w.heap.size w w'):RuleRow ty w' B v l:=by
 obtain⟨ks,h1,h2,h3⟩:=h;exact⟨ks,h1,za6 h2 hb,fun i r k e1 e2=>(h3 i r k e1 e2).stays hb⟩
theorem RuleRow.grown {v':Value} {l':List (T×Bool)} {B':Nat} (h:RuleRow ty w B v l) (h':RuleRow ty' w B' v' l') (hne:ty≠ty') (hn:ty'≠56) (hg:w.grownBy w' v'.ownBlock):RuleRow ty w' B v l:=by
 obtain⟨ks,h1,h2,h3⟩:=h;refine⟨ks,h1,za8 h2 fun b e hb=>hg.block b hb fun e'=>?_,fun i r k e1 e2=>(h3 i r k e1 e2).mono fun b hb hlt ⟨cur,hc⟩=>⟨hg.block b hlt fun e'=>?_,hb⟩⟩
 .obtain⟨c1,k1⟩:=za7 h2 e;obtain⟨c2,k2⟩:=h'.kind e'.symm;exact za1 k1 k2 hne rfl
 .obtain⟨c2,k2⟩:=h'.kind e'.symm;exact za1 k2 hc hn rfl
theorem RuleRow.rd (h:RuleRow ty w B v l) {n c:Nat} (hv:v = .slice A n c):RdRules w A l:=fun i r hi=>by
 obtain⟨ks,h1,h2,h3⟩:=h;have hl:i<l.length:=(yf4.1 hi).1;obtain⟨k,hk⟩:∃ k,ks[i]?=some k:=⟨_,yey yie⟩;have ht:=h3 i r k hi hk;rcases h2.2 with ⟨_,h0⟩|⟨g,cap,cur,e,hB,hg,_⟩
 .omega
 .rw[e] at hv h2;injection hv with e1 e2 e3
  refine⟨g,0,k,e1.symm,za0 hg,fun q u hu=>?_,ht.mono fun b _ _ _=>⟨rfl,trivial⟩⟩;have hq:q<9:=by
   have:=(yf4.1 hu).1;rw[zgr] at this;exact this
  rw[yg5,yf7 h2 (i*9+q) yie,zko l ks i q r k hi hk hq];exact hu
end
def RuleBox (ty:TypeId) (w:World) (b:Nat) (r:T×Bool) (k:Value):Prop:=w.heap[b]?=some (.cells #[.int .i64 r.1.op,.int .u64 (word r.1.set 0),.int .u64 (word r.1.set 1),.int .u64 (word r.1.set 2),.int .u64 (word r.1.set 3),.int .i64 r.1.lo,.int .i64 r.1.hi,k,.bool r.2] ty (0,0))
section
variable {w w':World} {b:Nat} {r:T×Bool} {k:Value} {ty:TypeId}
end
structure zsg (ty tys:TypeId):Prop where
 und:Tryd.prog.underlying tys=some (.slice ty)
 info:(Tryd.prog.info? ty).map (fun i=>(i.zero,i.size,i.bytes))=some (some (.agg #[.int .i64 0,.int .u64 0,.int .u64 0,.int .u64 0,.int .u64 0,.int .i64 0,.int .i64 0,.slice none 0 0,.bool false]),9,88)
 node:ty≠56
theorem zuv {ty tys:TypeId} (hT:zsg ty tys) {w:World} {B:Nat} {v:Value} {l:List (T×Bool)} (h:RuleRow ty w B v l) (hB:B<=w.heap.size) (hl:l.length<=100000) (r:T×Bool) (k:Value) (hk:Tree w (fun b=>B<=b) r.1 k) (td:TypeId) (ad:Addr) (c:Nat)
 (hc:∀ (j:Nat) u,(zj3 r k)[j]?=some u->w.cell? (ad.add j)=some u):
 ∃ v' w',(Builtin.append_ #[tys,tys] td #[v,.slice (some ad) 1 c]).run Tryd.prog w = .ok v' w'∧RuleRow ty w' B v' (l++[r])∧w.grownBy w' v.ownBlock∧(v'.ownBlock=v.ownBlock∨v'.ownBlock=some w.heap.size):=by
 have h0:=h;obtain⟨ks,h1,h2,h3⟩:=h;obtain⟨i0,hi,hz0,hz1,hz2⟩:=info_parts hT.info;have hone:=hk.one;obtain⟨v',w',hr,h4,h5,_,h6⟩:=run_append_own_at (P:=Tryd.prog) w B tys td ty i0 _ 9 88 hT.und hi hz0 hz1 hz2 rfl yij v l.length (zg4 l ks) h2 ad 1 c (zj3 r k) rfl hc
  (by
    intro u hu;simp only[zj3,yfi,yfk,or_false] at hu;rcases hu with rfl|rfl|rfl|rfl|rfl|rfl|rfl|rfl|rfl
    all_goals first | rfl | exact hone) yin yie hB
 have key:∀ (t':T) (k':Value),Tree w (fun b=>B<=b) t' k'->Tree w' (fun b=>B<=b) t' k':=fun t' k' ht=>ht.mono fun b hb hlt ⟨cur,hcu⟩=>⟨h5.block b hlt fun e=>by
  obtain⟨c2,k2⟩:=h0.kind e.symm;exact za1 k2 hcu hT.node rfl,hb⟩
 refine⟨v',w',hr,⟨ks++[k],by simp[h1],?_,fun i r' k' e1 e2=>?_⟩,h5,h6⟩
 .rw[zkp l ks r k h1]
  simpa using h4
 .by_cases hi':i<l.length
  .rw[yfb hi'] at e1;rw[yfb yie] at e2;exact key _ _ (h3 i r' k' e1 e2)
  .have e0:i=l.length:=by
    have:=(yf4.1 e1).1;simp at this;omega
   subst e0;rw[yfc (yez _)] at e1;rw[yfc yie] at e2;simp[h1] at e1 e2;subst e1 e2;exact key _ _ hk
theorem ziu {ty tys:TypeId} (hT:zsg ty tys) {w:World} {ops:Array Oper} {rest:List Oper} {o:Oper} {a:Act} {Q:Exit->Act->World->Prop} (hgd:o.guard=none) (s x:Operand)
 (ho:o.op = .call {callee := .builtin .append,args:=#[s,x],argTypes:=#[tys,tys]})
 {B:Nat} {v:Value} {l:List (T×Bool)} (hs:a.eval s=v) (h:RuleRow ty w B v l) (hB:B<=w.heap.size) (hl:l.length<=100000) (r:T×Bool) (k:Value) (hkt:Tree w (fun b=>B<=b) r.1 k)
 (ad:Addr) (c:Nat) (hx:a.eval x = .slice (some ad) 1 c) (hc:∀ (j:Nat) u,(zj3 r k)[j]?=some u->w.cell? (ad.add j)=some u)
 (hk:∀ v' w',RuleRow ty w' B v' (l++[r])->w.grownBy w' v.ownBlock->(v'.ownBlock=v.ownBlock∨v'.ownBlock=some w.heap.size)->wpList Tryd.prog ops Q rest (a.put o.dst v') w'):wpList Tryd.prog ops Q (o::rest) a w:=by
 obtain⟨v',w',hr,h2,h3,h4⟩:=zuv hT h hB hl r k hkt o.type ad c hc;refine wpList_plain hgd fun _ hK=>?_
 unfold Oper.wp execOp;simp only[ho,resolve,invoke,builtin,Sem.run_bind,Sem.run_pure,Result.andThen_ok,ygz,ygo,yh0,hs,hx,hr];exact hK _ _ (hk v' w' h2 h3 h4)
theorem zr1 {ty:TypeId} (w:World) (r:T×Bool) (k:Value):∀ (j:Nat) u,(zj3 r k)[j]?=some u->(w.alloc (.cells #[.int .i64 r.1.op,.int .u64 (word r.1.set 0),.int .u64 (word r.1.set 1),.int .u64 (word r.1.set 2),.int .u64 (word r.1.set 3),.int .i64 r.1.lo,.int .i64 r.1.hi,k,.bool r.2] ty)).cell? ((⟨w.heap.size,0,none⟩:Addr).add j)=some u:=by
 intro j u hu;rw[Addr.add_lit,yg5,cell_of_row _ _ j _ ty (0,0) (heap_alloc_new w _)]
 simpa [zj3] using hu
theorem zfi {ty:TypeId} {w w':World} {B b:Nat} {v:Value} {l:List (T×Bool)} {cur:Array Value} (h':RuleRow ty w B v l) (hn:ty≠56) (hg:w.grownBy w' v.ownBlock) (hb:w.heap[b]?=some (.cells cur 56 (0,0))):w'.heap[b]?=w.heap[b]?:=
 hg.block b (za0 hb) fun e=>by
  obtain⟨c2,k2⟩:=h'.kind e.symm;exact za1 k2 hb hn rfl
theorem Tree.ruleGrown {ty:TypeId} {w w':World} {B:Nat} {v:Value} {l:List (T×Bool)} {ok:Nat->Prop} {t:T} {k:Value} (h:Tree w ok t k) (h':RuleRow ty w B v l) (hn:ty≠56) (hg:w.grownBy w' v.ownBlock):Tree w' ok t k:=
 h.mono fun b hb _ ⟨cur,hc⟩=>⟨zfi h' hn hg hc,hb⟩
theorem Box8.ruleGrown {ty:TypeId} {w w':World} {B g:Nat} {v:Value} {l:List (T×Bool)} {t:T} {k:Value} (h:Box8 w g t k) (h':RuleRow ty w B v l) (hn:ty≠56) (hg:w.grownBy w' v.ownBlock):Box8 w' g t k:=(zfi h' hn hg h).trans h
theorem zk6 {ty:TypeId} {w0 w w':World} {B:Nat} {v:Value} {l:List (T×Bool)} (hb:Below B w0 w) (hB:B<=w.heap.size) (h':RuleRow ty w B v l) (hg:w.grownBy w' v.ownBlock):Below B w0 w':=hb.grown hg hB fun q e=>(h'.lt e).1
theorem zkq {ty ty2:TypeId} {w0 w w':World} {B g:Nat} {va vb:Value} {l l2:List (T×Bool)} {t:T} {k:Value} {ok:Nat->Prop} {o:Obj} (hA:RuleRow ty w B va l) (hB:RuleRow ty2 w B vb l2) (hne:ty2≠ty) (hn:ty≠56) (hb:Below B w0 w) (hBw:B<=w.heap.size) (ht:Tree w ok t k) (hx:Box8 w g t k)
 (hg:(w.alloc o).grownBy w' va.ownBlock):Below B w0 w'∧RuleRow ty2 w' B vb l2∧Tree w' ok t k∧Box8 w' g t k:=by
 have hal:Below w.heap.size w (w.alloc o):=(yf6 _ _).alloc (yez _) _;have hA':=hA.stays hal;exact⟨zk6 (hb.alloc hBw o) yil hA' hg,(hB.stays hal).grown hA' hne hn hg,(ht.alloc o).ruleGrown hA' hn hg,(hx.alloc o).ruleGrown hA' hn hg⟩
end
section
open Go Go.RowKit
theorem ruleTyM:zsg 58 26:=⟨Tryd.underlying26,by kernel_rfl,by decide⟩
theorem ruleTyR:zsg 66 27:=⟨Tryd.underlying27,by kernel_rfl,by decide⟩
end
section
open Go Go.RowKit
def setL (xs:List Value) (o:Nat):List Value->List Value
 | []=>xs
 | v::vs=>setL (xs.set o v) (o+1) vs
theorem zj2 (x:Value):∀ (vs xs:List Value) (o:Nat),setL (x::xs) (o+1) vs=x::setL xs o vs
 | [],xs,o=>rfl
 | v::vs,xs,o=>by simp only[setL,List.set_cons_succ];rw[zj2 x vs]
theorem zqz:∀ (ys vs xs:List Value) (o:Nat),setL (ys++xs) (ys.length+o) vs=ys++setL xs o vs
 | [],vs,xs,o=>by simp
 | y::ys,vs,xs,o=>by
  rw[ygg,yg7,show ys.length+1+o=ys.length+o+1 by omega,zj2,zqz ys];rfl
theorem zr0:∀ (vs ys xs:List Value),ys.length=vs.length->setL (ys++xs) 0 vs=vs++xs
 | [],[],xs,_=>rfl
 | v::vs,y::ys,xs,h=>by
  simp only[ygg,setL,List.set_cons_zero];rw[zj2,zr0 vs ys xs yit]
 | [],_::_,_,h=>by simp at h
 | _::_,[],_,h=>by simp at h
theorem zi8 {B g n cap size:Nat} {e:TypeId}:∀ (vs:List Value) (o:Nat) (xs:List Value) (w:World),w.ownsRow B e size (.slice (some ⟨g,0,none⟩) n cap) n xs->(w.setCells g o vs).ownsRow B e size (.slice (some ⟨g,0,none⟩) n cap) n (setL xs o vs)
 | [],o,xs,w,h=>h
 | v::vs,o,xs,w,h=>zi8 vs (o+1) _ _ (yg1 h o v).1
theorem zdw {g b:Nat} (hb:b≠g):∀ (vs:List Value) (o:Nat) (w:World),(w.setCells g o vs).heap[b]?=w.heap[b]?
 | [],o,w=>rfl
 | v::vs,o,w=>(zdw hb vs (o+1) _).trans (yf9 w _ _ b hb)
theorem zi2 {B g:Nat} {a:World} (hb:B<=g):∀ (vs:List Value) (o:Nat) (w:World),Below B a w->Below B a (w.setCells g o vs)
 | [],o,w,h=>h
 | v::vs,o,w,h=>zi2 hb vs (o+1) _ (h.setCell (p:=⟨g,o,none⟩) hb v)
def rule0:T×Bool:=(T.zero,false)
def ruleV (r:T×Bool) (k:Value):Value := .agg #[.int .i64 r.1.op,.int .u64 (word r.1.set 0),.int .u64 (word r.1.set 1),.int .u64 (word r.1.set 2),.int .u64 (word r.1.set 3),.int .i64 r.1.lo,.int .i64 r.1.hi,k,.bool r.2]
section
variable {ty tys:TypeId} {w:World} {B g cap:Nat} {l:List (T×Bool)}
end
end
section
open Go Go.RowKit
attribute [local go_sem ↓] Go.wp_at_zero Go.wp_at_succ
mutual
def plN:T->Nat
 | .mk op p lo hi l=>min (((if op=1 then 1 else 0)+ze5 l)*(if op=4 then hi.toNat else 1)) 1000
def ze5:List T->Nat
 | []=>0
 | t::ts=>plN t+ze5 ts
end
theorem yah (t:T):plN t<=1000:=by cases t;unfold plN;omega
theorem zo6:∀ (l l':List T),ze5 (l++l')=ze5 l+ze5 l'
 | [],l'=>by simp[ze5]
 | t::ts,l'=>by simp[ze5,zo6 ts l'];omega
theorem zt2 (l:List T) (j:Nat) (h:j<l.length):ze5 (l.take (j+1))=ze5 (l.take j)+plN (l[j]'h):=by
 rw[yfg h,zo6];simp[ze5]
theorem zmb:∀ (l:List T),ze5 l<=1000*l.length
 | []=>by simp[ze5]
 | t::ts=>by
  have:=zmb ts;have:=yah t;simp[ze5];omega
def zcu (t:T) (k:Value):Value := .agg #[.int .i64 t.op,.int .u64 (word t.set 0),.int .u64 (word t.set 1),.int .u64 (word t.set 2),.int .u64 (word t.set 3),.int .i64 t.lo,.int .i64 t.hi,k]
theorem WF.op_cases {t:T} (h:WF t):(t.op=1∧t.kids=[]∧t.lo=0∧t.hi=0)∨(t.op=2∧2<=t.kids.length∧t.kids.length<=202∧t.lo=0∧t.hi=0)∨(t.op=3∧2<=t.kids.length∧t.kids.length<=202∧t.lo=0∧t.hi=0)∨
 (t.op=4∧t.kids.length=1∧0<=t.lo∧t.lo<=t.hi∧1<=t.hi∧t.hi<=32):=by
 cases h with
 | one p=>exact .inl ⟨rfl,rfl,rfl,rfl⟩
 | cat l h2 hN h=>exact .inr (.inl ⟨rfl,h2,hN,rfl,rfl⟩)
 | alt l h2 hN h=>exact .inr (.inr (.inl ⟨rfl,h2,hN,rfl,rfl⟩))
 | rep m n t h0 h1 h2 h3 h=>exact .inr (.inr (.inr ⟨rfl,rfl,h0,h1,h2,h3⟩))
theorem WF.len {t:T} (h:WF t):t.kids.length<=202:=by
 rcases h.op_cases with h|h|h|h
 .rw[h.2.1];decide
 .exact h.2.2.1
 .exact h.2.2.1
 .rw[h.2.1];decide
theorem WF.kid {t:T} (h:WF t) {u:T} (hu:u∈t.kids):WF u:=by
 cases h with
 | one p=>simp[T.kids] at hu
 | cat l h2 hN h=>exact h u hu
 | alt l h2 hN h=>exact h u hu
 | rep m n t h0 h1 h2 h3 h=>simp[T.kids] at hu;rw[hu];exact h
theorem WF.at {t:T} (h:WF t) (j:Nat) (hj:j<t.kids.length):WF (t.kids[j]'hj):=h.kid (yfq hj)
def zhl (w:World) (n:Int) (e:Ending) (w':World):Prop:=e = .returned (.int .i64 n)∧Below w.heap.size w w'
theorem zyp:∀ (N:Nat) (t:T) (w:World) (ok:Nat->Prop) (k:Value),SizeOf.sizeOf t<=N->WF t->Tree w ok t k->
 Calls Tryd.prog 34 #[zcu t k] w (zhl w (plN t)):=by
 intro N;induction N with
 | zero=>intro t w ok k h;obtain⟨op,p,lo,hi,l⟩:=t;simp at h
 | succ N ih =>
 intro t w ok k hN hwf ht;obtain⟨A,n',c,rfl⟩:=ht.form;obtain⟨hn,hm⟩:=ht.bound;have hlen:=hwf.len;rw[←hn] at hlen;unfold maxLen at hm;have hop:=hwf.op_cases;have b1:=Box8.new w t (.slice A n' c);have hB:Below w.heap.size w (w.alloc (.cells #[.int .i64 t.op,.int .u64 (word t.set 0),.int .u64 (word t.set 1),.int .u64 (word t.set 2),.int .u64 (word t.set 3),.int .i64 t.lo,.int .i64 t.hi,.slice A n' c] 56)):=(yf6 _ _).alloc (yez _) _;have hpl:plN t=min (((if t.op=1 then 1 else 0)+ze5 t.kids)*(if t.op=4 then t.hi.toNat else 1)) 1000:=(by cases t;rfl);have hsum:=zmb t.kids;have HPL:=Zh hpl;have HSUM:=Zh hsum;have HWF:=Zh hwf;have HOP:=Zh hop;have HN:=Zh hn;have HT:=Zh ht;have IH:=Zh ih;have HB1:=Zh b1;have HM:=Zh hm;clear hn ih hpl hsum hwf hop;unfold zcu;cases hb1:(t.op==1)
 all_goals
  cases hb4:(t.op==4)
  all_goals
   go_enter Tryd.func34,Tryd.ntmps34;go_wp2;go_loopg [3,4] n' (fun m k i wr=>∃ j:Nat,i = .int .i64 (j:Int)∧j<=n'∧m=n'-j∧k = .int .i64 (((if t.op=1 then 1 else 0)+ze5 (t.kids.take j):Nat):Int)∧Box8 wr w.heap.size t (.slice A n' c)∧Below w.heap.size w wr)
   case atStart=>exact⟨0,rfl,yf8 _,rfl,by first | (rw[if_pos (by simpa using hb1)];rfl) | (rw[if_neg (by simpa using hb1)];rfl),HB1.o,hB⟩
   case round =>
    obtain⟨j,rfl,hj,hmj,rfl,x1,hW⟩:=hrel;have HMJ:=Zh hmj;obtain⟨c0,c1,c2,c3,c4,c5,c6,c7⟩:=x1.cell;clear b1 hmj
    by_cases hlt:j<n'
    .have hlt':j<t.kids.length:=yjf;obtain⟨g,B,m1,m2,e1,hg1,htk,hcells⟩:=kid8 HT.o j (yey hlt');subst e1;have hks:=zdy t j hlt';have hwk:=HWF.o.at j hlt';have hst:=zt2 t.kids j hlt';have hsl:=zmb (t.kids.take j);rw[yg8] at hsl;have hpu:=yah (t.kids[j]'hlt');generalize t.kids[j]=u at *;have HC:∀ q v,(zdt u (.slice B m1 m2))[q]?=some v->wr.cell? ⟨g,j*8+q,none⟩=some v:=fun q v h=>by rw[ygv j 8];exact (hW.cell (p:=⟨g,8*j+q,none⟩) hg1).trans (hcells q v h)
     have k0:wr.cell? ⟨g,j*8,none⟩=_:=HC 0 _ rfl;have k1:=HC 1 _ rfl;have k2:=HC 2 _ rfl;have k3:=HC 3 _ rfl;have k4:=HC 4 _ rfl;have k5:=HC 5 _ rfl;have k6:=HC 6 _ rfl;have k7:=HC 7 _ rfl;have HK:=Zh (fun w' (hb:Below wr.heap.size wr w')=>IH.o u w' ok (.slice B m1 m2) yie hwk ((htk.stays hW).stays hb));have HST:=Zh hst;clear HC hcells htk hks hwk hst;unfold zcu zhl at HK;have ha:((if t.op=1 then 1 else 0:Nat))<=1:=by split <;> omega
     generalize hS:(if t.op=1 then 1 else 0:Nat)=a0 at *;generalize ze5 (t.kids.take j)=S at *;have hS2:S<=202000:=yie;clear hS;go_wp2_with (go_at_call 34;(with_reducible refine (HK.o _ (yf6 _ _)).mono ?_);rintro e w5 ⟨rfl,hb5⟩);go_roundg (n'-(j+1))
     case measure=>have:=HMJ.o;omega
     case rel=>exact⟨j+1,by go_num,by omega,rfl,by rw[HST.o];go_num,x1.stays hb5,gro hW hb5⟩
    .have hjn:j=t.kids.length:=yjh;have hwhole:t.kids.take j=t.kids:=(by rw[hjn];exact yfy);rw[hwhole];have hS2:=HSUM.o;have ha:((if t.op=1 then 1 else 0:Nat))<=1:=by split <;> omega
     have hpl':=HPL.o;rw[show t.kids.length=n' from HN.o.symm] at hS2;generalize hS:(if t.op=1 then 1 else 0:Nat)=a0 at *;generalize ze5 t.kids=S at *
     by_cases h4:t.op=4
     .first
       | (exfalso;simp[h4] at hb4;done)
       | skip
      all_goals
       rw[if_pos h4] at hpl';have hh:=HOP.o;have hh2:1<=t.hi∧t.hi<=32:=yie;obtain⟨hi0,hi1⟩:=hh2;obtain⟨hN,hNe⟩:∃ hN:Nat,t.hi=hN:=⟨t.hi.toNat,by omega⟩;have hpr:(a0+S)*hN<=202001*32:=yi4 yie yie;rw[hNe,yft] at hpl';have hprod:((a0:Int)+(S:Int))*(hN:Int)=(((a0+S)*hN:Nat):Int):=yii;generalize (a0+S)*hN=Pr at hpl' hpr hprod;have HPL2:=Zh hpl';have HPR:=Zh hprod;rw[hNe] at c6;have p0:(0:Int)<=((a0:Int)+(S:Int))*(hN:Int):=(by rw[hprod];omega);have p1:((a0:Int)+(S:Int))*(hN:Int)<=9223372036854775807:=(by rw[hprod];omega);clear hpl' hNe hh h4 hS hprod hi0 hi1;go_wp2
       all_goals
        go_ret;refine⟨congrArg Ending.returned (congrArg (Value.int .i64) ?_),hW⟩;have e1:=HPL2.o;have e2:=HPR.o;rw[e1];omega
     .first
       | (exfalso;simp at hb4;exact h4 hb4)
       | skip
      all_goals
       rw[if_neg h4,ygl] at hpl';have HPL2:=Zh hpl';clear hpl' h4 hS;go_wp2
       all_goals
        go_ret;refine⟨congrArg Ending.returned (congrArg (Value.int .i64) ?_),hW⟩;rw[HPL2.o];omega
theorem zr4 {t:T} {k:Value} {ok:Nat->Prop} (w:World) (hwf:WF t) (ht:Tree w ok t k):Calls Tryd.prog 34 #[zcu t k] w (zhl w (plN t)):=
 zyp _ t w ok k (yez _) hwf ht
end
section
open Go Go.RowKit
def zcc (most:Bool) (a b:Nat):Nat:=if most then max a b else min a b
def zbr (most:Bool):List Nat->Nat
 | []=>0
 | a::l=>l.foldl (zcc most) a
mutual
def lenN (most:Bool):T->Nat
 | .mk op p lo hi l=>min (if op=1 then 1 else if op=2 then (lenL most l).sum else if op=3 then zbr most (lenL most l) else if op=4 then (if most then hi else lo).toNat*zbr most (lenL most l) else 0) 1000
def lenL (most:Bool):List T->List Nat
 | []=>[]
 | t::ts=>lenN most t::lenL most ts
end
theorem zjo (most:Bool) (t:T):lenN most t<=1000:=by cases t;unfold lenN;omega
theorem zgz (most:Bool) (l:List T):lenL most l=l.map (lenN most):=by
 induction l with
 | nil=>rfl
 | cons t ts ih=>simp[lenL,ih]
theorem zuk (most:Bool):∀ (l:List T),(lenL most l).sum<=1000*l.length
 | []=>by simp[lenL]
 | t::ts=>by
  have:=zuk most ts;have:=zjo most t;simp[lenL];omega
theorem zy5 (most:Bool) (l:List T) (j:Nat) (h:j<l.length):(lenL most (l.take (j+1))).sum=(lenL most (l.take j)).sum+lenN most (l[j]'h):=by
 rw[yfg h,zgz,zgz,yfu,List.sum_append];simp only[ygo,yh0,List.sum_cons,List.sum_nil,yh1]
theorem zxf (most:Bool) (l:List Nat) (b:Nat) (h:l≠[]):zbr most (l++[b])=zcc most (zbr most l) b:=by
 cases l with
 | nil=>exact absurd rfl h
 | cons a l=>simp[zbr]
theorem zxe (most:Bool) (l:List T) (j:Nat) (h:j<l.length) (h0:0<j):zbr most (lenL most (l.take (j+1)))=zcc most (zbr most (lenL most (l.take j))) (lenN most (l[j]'h)):=by
 rw[yfg h,zgz,zgz,yfu];refine zxf most _ _ ?_;intro e;have:=congrArg List.length e;rw[yfr,yg8,yh5] at this;omega
theorem ya7 {most:Bool} {a b N:Nat} (ha:a<=N) (hb:b<=N):zcc most a b<=N:=by unfold zcc;split <;> omega
theorem ya6 (most:Bool) (N:Nat):∀ (l:List Nat),(∀ x∈l,x<=N)->zbr most l<=N
 | [],_=>yf8 _
 | a::l,h=>by
  have key:∀ (l:List Nat) (a:Nat),a<=N->(∀ x∈l,x<=N)->l.foldl (zcc most) a<=N:=by
   intro l;induction l with
   | nil=>intro a ha _;exact ha
   | cons b l ih=>intro a ha hl;exact ih _ (ya7 ha (hl b yii)) fun x hx=>hl x yj4
  exact key l a (h a yii) fun x hx=>h x yj4
theorem zxg (most:Bool) (l:List T):zbr most (lenL most l)<=1000:=by
 refine ya6 most 1000 _ fun x hx=>?_
 rw[zgz] at hx;simp only[yg6] at hx;obtain⟨t,_,rfl⟩:=hx;exact zjo most t
theorem zsd (most:Bool) (l:List T) (h:0<l.length):zbr most (lenL most (l.take 1))=lenN most (l[0]'h):=by
 cases l with
 | nil=>simp at h
 | cons a l=>simp[lenL,zbr]
end
section
open Go Go.RowKit
attribute [local go_sem ↓] Go.wp_at_zero Go.wp_at_succ
theorem ya8 (most:Bool) (a b:Nat):(if (most==decide ((a:Int)<(b:Int)))=true then b else a)=zcc most a b:=by
 unfold zcc;cases most
 .by_cases h:(a:Int)<(b:Int)
  .simp[h];omega
  .simp[h];omega
 .by_cases h:(a:Int)<(b:Int)
  .simp[h];omega
  .simp[h];omega
theorem zzg (most:Bool):∀ (N:Nat) (t:T) (w:World) (ok:Nat->Prop) (k:Value),SizeOf.sizeOf t<=N->WF t->Tree w ok t k->
 Calls Tryd.prog 17 #[zcu t k,.bool most] w (zhl w (lenN most t)):=by
 intro N;induction N with
 | zero=>intro t w ok k h;obtain⟨op,p,lo,hi,l⟩:=t;simp at h
 | succ N ih =>
 intro t w ok k hN hwf ht;obtain⟨A,n',c,rfl⟩:=ht.form;obtain⟨hn,hm⟩:=ht.bound;have hlen:=hwf.len;rw[←hn] at hlen;unfold maxLen at hm;have hop:=hwf.op_cases;have b1:=Box8.new w t (.slice A n' c);have hB:Below w.heap.size w (w.alloc (.cells #[.int .i64 t.op,.int .u64 (word t.set 0),.int .u64 (word t.set 1),.int .u64 (word t.set 2),.int .u64 (word t.set 3),.int .i64 t.lo,.int .i64 t.hi,.slice A n' c] 56)):=(yf6 _ _).alloc (yez _) _;have HN:=Zh hn;have HT:=Zh ht;have HWF:=Zh hwf;have HB1:=Zh b1;have IH:=Zh ih;have hpl:lenN most t=min (if t.op=1 then 1 else if t.op=2 then (lenL most t.kids).sum else if t.op=3 then zbr most (lenL most t.kids) else if t.op=4 then (if most then t.hi else t.lo).toNat*zbr most (lenL most t.kids) else 0) 1000:=(by cases t;rfl);have HPL:=Zh hpl;clear hn ih hpl hwf ht;unfold zcu;rcases hop with ⟨h,h2,z1,z2⟩|⟨h,h2,h3,z1,z2⟩|⟨h,h2,h3,z1,z2⟩|⟨h,h2,h3,h4,h5,h6⟩
 .have hb1:(t.op==1)=true:=yix;have HH:=Zh h;clear h h2 z1 z2;go_enter Tryd.func17,Tryd.ntmps17;go_wp2;go_ret;exact⟨by rw[HPL.o,if_pos HH.o];rfl,hB⟩
 .have hb1:(t.op==1)=false:=yix;have hb2:(t.op==2)=true:=yix;have HPL2:Hid (lenN most t=min (lenL most t.kids).sum 1000):=by show _=_;rw[HPL.o,if_neg yie,if_pos h]
  clear h HPL z1 z2;go_enter Tryd.func17,Tryd.ntmps17;go_wp2;go_loopg [5,6] n' (fun m k i wr=>∃ j:Nat,i = .int .i64 (j:Int)∧j<=n'∧m=n'-j∧k = .int .i64 (((lenL most (t.kids.take j)).sum:Nat):Int)∧Box8 wr w.heap.size t (.slice A n' c)∧Below w.heap.size w wr)
  case atStart=>exact⟨0,rfl,yf8 _,rfl,rfl,HB1.o,hB⟩
  case round =>
   obtain⟨j,rfl,hj,hmj,rfl,x1,hW⟩:=hrel;have HMJ:=Zh hmj;obtain⟨c0,c1,c2,c3,c4,c5,c6,c7⟩:=x1.cell;clear b1 hmj
   by_cases hlt:j<n'
   .have hlt':j<t.kids.length:=yjf;obtain⟨g,B,m1,m2,e1,hg1,htk,hcells⟩:=kid8 HT.o j (yey hlt');subst e1;have hks:=zdy t j hlt';have hwk:=HWF.o.at j hlt';have hst:=zy5 most t.kids j hlt';have hsl:=zuk most (t.kids.take j);rw[yg8] at hsl;have hpu:=zjo most (t.kids[j]'hlt');generalize t.kids[j]=u at *;have HC:∀ q v,(zdt u (.slice B m1 m2))[q]?=some v->wr.cell? ⟨g,j*8+q,none⟩=some v:=fun q v h=>by rw[ygv j 8];exact (hW.cell (p:=⟨g,8*j+q,none⟩) hg1).trans (hcells q v h)
    have k0:wr.cell? ⟨g,j*8,none⟩=_:=HC 0 _ rfl;have k1:=HC 1 _ rfl;have k2:=HC 2 _ rfl;have k3:=HC 3 _ rfl;have k4:=HC 4 _ rfl;have k5:=HC 5 _ rfl;have k6:=HC 6 _ rfl;have k7:=HC 7 _ rfl;have HK:=Zh (fun w' (hb:Below wr.heap.size wr w')=>IH.o u w' ok (.slice B m1 m2) yie hwk ((htk.stays hW).stays hb));have HST:=Zh hst;clear HC hcells htk hks hwk hst;unfold zcu zhl at HK;generalize (lenL most (t.kids.take j)).sum=S at *;have hS2:S<=202000:=yie;go_wp2_with (go_at_call 17;(with_reducible refine (HK.o _ (yf6 _ _)).mono ?_);rintro e w5 ⟨rfl,hb5⟩);go_roundg (n'-(j+1))
    case measure=>have:=HMJ.o;omega
    case rel=>exact⟨j+1,by go_num,by omega,rfl,by rw[HST.o];go_num,x1.stays hb5,gro hW hb5⟩
   .have hjn:j=t.kids.length:=yjh;have hwhole:t.kids.take j=t.kids:=(by rw[hjn];exact yfy);rw[hwhole];have hS2:=zuk most t.kids;rw[show t.kids.length=n' from HN.o.symm] at hS2;generalize (lenL most t.kids).sum=S at *;go_wp2
    all_goals
     go_ret;refine⟨congrArg Ending.returned (congrArg (Value.int .i64) ?_),hW⟩;rw[HPL2.o];omega
 .have hb1:(t.op==1)=false:=yix;have hb2:(t.op==2)=false:=yix;have hb3:(t.op==3)=true:=yix;have HPL2:Hid (lenN most t=min (zbr most (lenL most t.kids)) 1000):=by show _=_;rw[HPL.o,if_neg yie,if_neg yie,if_pos h]
  have h0:0<t.kids.length:=yie;have hn2:0<n':=(by rw[HN.o];omega);have hn3:(0:Int)<(n':Int):=yie;obtain⟨g0,B0,l1,l2,e0,hg0,htk0,hcells0⟩:=kid8 HT.o 0 (yey h0);subst e0;have hks0:=zdy t 0 h0;have hwk0:=HWF.o.at 0 h0;have hst0:=zsd most t.kids h0;generalize t.kids[0]=u0 at *;have hk0:=hcells0 0 _ rfl;have hk1:=hcells0 1 _ rfl;have hk2:=hcells0 2 _ rfl;have hk3:=hcells0 3 _ rfl;have hk4:=hcells0 4 _ rfl;have hk5:=hcells0 5 _ rfl;have hk6:=hcells0 6 _ rfl;have hk7:=hcells0 7 _ rfl;rw[show 8*0+0=0 from rfl] at hk0;have HK0:=Zh (fun w' (hb:Below w.heap.size w w')=>IH.o u0 w' ok (.slice B0 l1 l2) yie hwk0 (htk0.stays hb));have HST0:=Zh hst0;clear h HPL z1 z2 hcells0 htk0 hks0 hwk0 hst0;unfold zcu zhl at HK0;go_enter Tryd.func17,Tryd.ntmps17;go_wp2_with (go_at_call 17;(with_reducible refine (HK0.o _ hB).mono ?_);rintro e w4 ⟨rfl,hb4⟩;have x0:=HB1.o.stays hb4;have hB4:=gro1 (yf6 _ _) hb4);clear hk0 hk1 hk2 hk3 hk4 hk5 hk6 hk7;go_loopg [5,7] (n'-1) (fun m k i wr=>∃ j:Nat,i = .int .i64 (j:Int)∧1<=j∧j<=n'∧m=n'-j∧k = .int .i64 ((zbr most (lenL most (t.kids.take j)):Nat):Int)∧Box8 wr w.heap.size t (.slice (some ⟨g0,0,none⟩) n' c)∧Below w.heap.size w wr)
  case atStart=>exact⟨1,rfl,yez _,hn2,rfl,by rw[HST0.o],x0,hB4⟩
  case round =>
   obtain⟨j,rfl,h1j,hj,hmj,rfl,x1,hW⟩:=hrel;have HMJ:=Zh hmj;obtain⟨c0,c1,c2,c3,c4,c5,c6,c7⟩:=x1.cell;clear b1 hmj x0
   by_cases hlt:j<n'
   .have hlt':j<t.kids.length:=yjf;obtain⟨g,B,m1,m2,e1,hg1,htk,hcells⟩:=kid8 HT.o j (yey hlt');injection e1 with e1
    injection e1 with e1
    subst e1;have hks:=zdy t j hlt';have hwk:=HWF.o.at j hlt';have hst:=zxe most t.kids j hlt' h1j;have hsl:=zxg most (t.kids.take j);have hpu:=zjo most (t.kids[j]'hlt');generalize t.kids[j]=u at *;have HC:∀ q v,(zdt u (.slice B m1 m2))[q]?=some v->wr.cell? ⟨g0,j*8+q,none⟩=some v:=fun q v h=>by rw[ygv j 8];exact (hW.cell (p:=⟨g0,8*j+q,none⟩) hg1).trans (hcells q v h)
    have k0:wr.cell? ⟨g0,j*8,none⟩=_:=HC 0 _ rfl;have k1:=HC 1 _ rfl;have k2:=HC 2 _ rfl;have k3:=HC 3 _ rfl;have k4:=HC 4 _ rfl;have k5:=HC 5 _ rfl;have k6:=HC 6 _ rfl;have k7:=HC 7 _ rfl;have HK:=Zh (fun w' (hb:Below wr.heap.size wr w')=>IH.o u w' ok (.slice B m1 m2) yie hwk ((htk.stays hW).stays hb));have HST:=Zh hst;clear HC hcells htk hks hwk hst;unfold zcu zhl at HK;generalize zbr most (lenL most (t.kids.take j))=S at *;generalize hU:lenN most u=U at *;clear hU;go_wp2_with (go_at_call 17;(with_reducible refine (HK.o _ (yf6 _ _)).mono ?_);rintro e w5 ⟨rfl,hb5⟩)
    all_goals
     go_roundg (n'-(j+1))
     case measure=>have:=HMJ.o;omega
     case rel =>
      refine⟨j+1,by go_num,by omega,by omega,rfl,?_,x1.stays hb5,gro hW hb5⟩;rw[HST.o,←ya8];simp[*]
   .have hjn:j=t.kids.length:=yjh;have hwhole:t.kids.take j=t.kids:=(by rw[hjn];exact yfy);rw[hwhole];have hS2:=zxg most t.kids;generalize zbr most (lenL most t.kids)=S at *;go_wp2
    all_goals
     go_ret;refine⟨congrArg Ending.returned (congrArg (Value.int .i64) ?_),hW⟩;rw[HPL2.o];omega
 .have hb1:(t.op==1)=false:=yix;have hb2:(t.op==2)=false:=yix;have hb3:(t.op==3)=false:=yix;have hb4:(t.op==4)=true:=yix;have h0:0<t.kids.length:=yie;have hn3:(0:Int)<(n':Int):=(by rw[HN.o];omega);have hone:zbr most (lenL most t.kids)=lenN most (t.kids[0]'h0):=(by rw[←zsd most t.kids h0,yg0 yie]);obtain⟨T0,hT0⟩:∃ T0:Nat,(if most then t.hi else t.lo)=T0:=⟨(if most then t.hi else t.lo).toNat,by split <;> omega⟩;have hT1:T0<=32:=by split at hT0 <;> omega
  have HPL2:Hid (lenN most t=min (T0*lenN most (t.kids[0]'h0)) 1000):=by show _=_;rw[HPL.o,if_neg yie,if_neg yie,if_neg yie,if_pos h,hT0,hone];rfl
  obtain⟨g0,B0,l1,l2,e0,hg0,htk0,hcells0⟩:=kid8 HT.o 0 (yey h0);subst e0;have hks0:=zdy t 0 h0;have hwk0:=HWF.o.at 0 h0;have hpu:=zjo most (t.kids[0]'h0);generalize t.kids[0]=u0 at *;have hk0:=hcells0 0 _ rfl;have hk1:=hcells0 1 _ rfl;have hk2:=hcells0 2 _ rfl;have hk3:=hcells0 3 _ rfl;have hk4:=hcells0 4 _ rfl;have hk5:=hcells0 5 _ rfl;have hk6:=hcells0 6 _ rfl;have hk7:=hcells0 7 _ rfl;rw[show 8*0+0=0 from rfl] at hk0;have HK0:=Zh (fun w' (hb:Below w.heap.size w w')=>IH.o u0 w' ok (.slice B0 l1 l2) yie hwk0 (htk0.stays hb));have hprod:T0*lenN most u0<=32*1000:=yi4 hT1 hpu;have hpi:(T0:Int)*(lenN most u0:Int)=((T0*lenN most u0:Nat):Int):=yii;have p0:(0:Int)<=(T0:Int)*(lenN most u0:Int):=(by rw[hpi];omega);have p1:(T0:Int)*(lenN most u0:Int)<=9223372036854775807:=(by rw[hpi];omega);have HPI:=Zh hpi;have HPD:=Zh hprod;clear h HPL hcells0 htk0 hks0 hwk0 hone hpi hprod h2 h3 h4 h5 h6 h0;generalize hU:lenN most u0=U at *;clear hU;unfold zcu zhl at HK0;generalize T0*U=Pr at *;cases most
  .have hlo:t.lo=T0:=(by simpa using hT0);have q0:(0:Int)<=t.lo*(U:Int):=(by rw[hlo];exact p0);have q1:t.lo*(U:Int)<=9223372036854775807:=(by rw[hlo];exact p1);have HLO:=Zh hlo;clear hT0 hlo p0 p1 hT1;go_enter Tryd.func17,Tryd.ntmps17;go_wp2_with (go_at_call 17;(with_reducible refine (HK0.o _ hB).mono ?_);rintro e w4 ⟨rfl,hb4⟩;have hB4:=gro1 (yf6 _ _) hb4)
   all_goals
    go_ret;refine⟨congrArg Ending.returned (congrArg (Value.int .i64) ?_),hB4⟩;have e2:t.lo*(U:Int)=(Pr:Int):=(by rw[HLO.o];exact HPI.o);rw[HPL2.o];omega
  .have hlo:t.hi=T0:=(by simpa using hT0);have q0:(0:Int)<=t.hi*(U:Int):=(by rw[hlo];exact p0);have q1:t.hi*(U:Int)<=9223372036854775807:=(by rw[hlo];exact p1);have HLO:=Zh hlo;clear hT0 hlo p0 p1 hT1;go_enter Tryd.func17,Tryd.ntmps17;go_wp2_with (go_at_call 17;(with_reducible refine (HK0.o _ hB).mono ?_);rintro e w4 ⟨rfl,hb4⟩;have hB4:=gro1 (yf6 _ _) hb4)
   all_goals
    go_ret;refine⟨congrArg Ending.returned (congrArg (Value.int .i64) ?_),hB4⟩;have e2:t.hi*(U:Int)=(Pr:Int):=(by rw[HLO.o];exact HPI.o);rw[HPL2.o];omega
theorem zzf {t:T} {k:Value} {ok:Nat->Prop} (most:Bool) (w:World) (hwf:WF t) (ht:Tree w ok t k):Calls Tryd.prog 17 #[zcu t k,.bool most] w (zhl w (lenN most t)):=
 zzg most _ t w ok k (yez _) hwf ht
end
mutual
def LenU (most:Bool):T->Nat
 | .mk op p lo hi l=>if op=1 then 1 else if op=2 then (LenL most l).sum else if op=3 then zbr most (LenL most l) else if op=4 then (if most then hi else lo).toNat*zbr most (LenL most l) else 0
def LenL (most:Bool):List T->List Nat
 | []=>[]
 | t::ts=>LenU most t::LenL most ts
end
theorem ze4 (most:Bool) (l:List T):LenL most l=l.map (LenU most):=by
 induction l with
 | nil=>rfl
 | cons t ts ih=>simp[LenL,ih]
theorem zvq (k x L:Nat):min (k*min x L) L=min (k*x) L:=by
 rcases Nat.le_total x L with h|h
 .rw[Nat.min_eq_left h]
 .rw[Nat.min_eq_right h];cases k with
  | zero=>simp
  | succ k =>
   have h1:L<=(k+1)*L:=yht _ yie;have h2:L<=(k+1)*x:=yfa h (yht _ yie);omega
theorem zib (l:List Nat) (x:Nat) (hx:x∈l):zbr false l<=x∧x<=zbr true l:=by
 have key:∀ (l:List Nat) (a x:Nat),(x=a∨x∈l)->l.foldl (zcc false) a<=x∧x<=l.foldl (zcc true) a:=by
  intro l;induction l with
  | nil=>intro a x h;simp at h;simp[h]
  | cons b l ih =>
   intro a x h;simp only[List.foldl_cons];have hb0:zcc false a b<=a∧zcc false a b<=b:=(by unfold zcc;simp;omega);have hb1:a<=zcc true a b∧b<=zcc true a b:=(by unfold zcc;simp;omega);have hs0:=(ih (zcc false a b) (zcc false a b) (.inl rfl)).1;have hs1:=(ih (zcc true a b) (zcc true a b) (.inl rfl)).2;rcases h with rfl|h
   .omega
   .simp only[yfi] at h;rcases h with rfl|h
    .omega
    .exact⟨(ih _ x (.inr h)).1,(ih _ x (.inr h)).2⟩
 cases l with
 | nil=>simp at hx
 | cons a l =>
  simp only[yfi] at hx;exact key l a x hx
theorem zrp {xs:List Int} {t:T} (h:∀ i j,i<=xs.length->E xs t i j->i+LenU false t<=j∧j<=i+LenU true t) (hwf:WF t):∀ (m i j:Nat),i<=xs.length->iter (E xs t) m i j->i+m*LenU false t<=j∧j<=i+m*LenU true t
 | 0,i,j,hi,e=>by have e':i=j:=e;omega
 | m+1,i,j,hi,⟨k,h1,h2⟩=>by
  have a:=zrp h hwf m i k hi h1;have b:=h k j (zmt (E_bd hwf) m i k hi h1).2 h2;rw[Nat.add_mul,Nat.add_mul];omega
theorem yew {xs:List Int} {t:T} (ht:WF t):∀ i j,i<=xs.length->E xs t i j->i+LenU false t<=j∧j<=i+LenU true t:=by
 induction ht with
 | one p=>intro i j hi h;rw[E_one] at h;simp[LenU];omega
 | cat l h2 hN h ih =>
  intro i j hi hE;rw[zu8] at hE;have e0:LenU false (.mk 2 za9 0 0 l)=(LenL false l).sum:=(by simp[LenU]);have e1:LenU true (.mk 2 za9 0 0 l)=(LenL true l).sum:=(by simp[LenU]);rw[e0,e1];clear h2 hN e0 e1;induction l generalizing i with
  | nil=>have e:i=j:=hE;simp[LenL];omega
  | cons t ts ih' =>
   obtain⟨k,h1,h3⟩:=hE;have a:=ih t yii i k hi h1;have b:=ih' (fun x hx=>h x yj4) (fun x hx=>ih x yj4) k (E_bd (h t yii) i k hi h1).2 h3;simp only[LenL,List.sum_cons];omega
 | alt l h2 hN h ih =>
  intro i j hi hE;rw[zu9,zg2] at hE;obtain⟨t,ht,hE⟩:=hE;have a:=ih t ht i j hi hE;have e0:LenU false (.mk 3 za9 0 0 l)=zbr false (LenL false l):=(by simp[LenU]);have e1:LenU true (.mk 3 za9 0 0 l)=zbr true (LenL true l):=(by simp[LenU]);have b:=(zib (LenL false l) (LenU false t) (by rw[ze4];exact List.mem_map_of_mem ht)).1;have c:=(zib (LenL true l) (LenU true t) (by rw[ze4];exact List.mem_map_of_mem ht)).2;omega
 | rep m n t h0 h1 h2 h3 h ih =>
  intro i j hi hE;rw[zqk] at hE;obtain⟨k,h4,h5,hE⟩:=hE;rw[zd6] at hE;have a:=zrp ih h k i j hi hE;have e0:LenU false (.mk 4 za9 m n [t])=m.toNat*LenU false t:=(by simp[LenU,LenL,zbr]);have e1:LenU true (.mk 4 za9 m n [t])=n.toNat*LenU true t:=(by simp[LenU,LenL,zbr]);rw[e0,e1];have b:m.toNat*LenU false t<=k*LenU false t:=yg4 _ yie;have c:k*LenU true t<=n.toNat*LenU true t:=yg4 _ yie;omega
section
open Go Go.RowKit
attribute [local go_sem ↓] Go.wp_at_zero Go.wp_at_succ
theorem znr (most:Bool) (l:List T) (j:Nat) (h:j<l.length):(LenL most (l.take (j+1))).sum=(LenL most (l.take j)).sum+LenU most (l[j]'h):=by
 rw[yfg h,ze4,ze4,yfu,List.sum_append];simp only[ygo,yh0,List.sum_cons,List.sum_nil,yh1]
def zqa (L:Nat) (l:List T):Nat:=(LenL false l).foldl (zcc false) L
def zot (l:List T):Nat:=(LenL true l).foldl (zcc true) 0
theorem ztv (L:Nat) (l:List T) (j:Nat) (h:j<l.length):zqa L (l.take (j+1))=min (zqa L (l.take j)) (LenU false (l[j]'h)):=by
 unfold zqa;rw[yfg h,ze4,ze4,yfu,List.foldl_append];rfl
theorem ztu (l:List T) (j:Nat) (h:j<l.length):zot (l.take (j+1))=max (zot (l.take j)) (LenU true (l[j]'h)):=by
 unfold zot;rw[yfg h,ze4,ze4,yfu,List.foldl_append];rfl
theorem zs3 (L:Nat):∀ (l:List Nat) (a:Nat),a<=L->l.foldl (zcc false) a<=L
 | [],a,h=>h
 | b::l,a,h=>zs3 L l _ (by unfold zcc;simp <;> omega)
theorem zww (L:Nat) (l:List T) (h:0<l.length):zqa L l=min (zbr false (LenL false l)) L:=by
 cases l with
 | nil=>simp at h
 | cons t ts =>
  have key:∀ (l:List Nat) (a:Nat),l.foldl (zcc false) (min L a)=min (l.foldl (zcc false) a) L:=by
   intro l;induction l with
   | nil=>intro a;simp;omega
   | cons b l ih =>
    intro a;simp only[List.foldl_cons];rw[show zcc false (min L a) b=min L (zcc false a b) by unfold zcc;simp <;> omega,ih]
  exact key (LenL false ts) (LenU false t)
theorem zwv (l:List T) (h:0<l.length):zot l=zbr true (LenL true l):=by
 cases l with
 | nil=>simp at h
 | cons t ts =>
  unfold zot;simp only[LenL,List.foldl_cons,zbr];simp[zcc]
def zkb (w:World) (a b:Nat) (e:Ending) (w':World):Prop:=e = .returned (.tuple #[.int .i64 a,.int .i64 b])∧Below w.heap.size w w'
theorem zm5 {a b:Nat} {x y:Int} {w w':World} (h1:x=a) (h2:y=b) (hb:Below w.heap.size w w'):zkb w a b (.returned (.tuple #[.int .i64 x,.int .i64 y])) w':=by subst h1 h2;exact⟨rfl,hb⟩
theorem ydf (L:Nat) (hL1:1<=L) (hL2:L<=1000000):∀ (N:Nat) (t:T) (w:World) (ok:Nat->Prop) (k:Value) (g o:Nat),SizeOf.sizeOf t<=N->WF t->Tree w ok t k->NodeAt w g o t k->
 Calls Tryd.prog 29 #[.pointer (some ⟨g,o,none⟩),.int .i64 L] w (zkb w (min (LenU false t) L) (min (LenU true t) L)):=by
 intro N;induction N with
 | zero=>intro t w ok k g o h;obtain⟨op,p,lo,hi,l⟩:=t;simp at h
 | succ N ih =>
 intro t w ok k g o hN hwf ht hna;obtain⟨A,n',c,rfl⟩:=ht.form;obtain⟨hn,hm⟩:=ht.bound;have hlen:=hwf.len;rw[←hn] at hlen;unfold maxLen at hm;have hop:=hwf.op_cases;have HN:=Zh hn;have HT:=Zh ht;have HWF:=Zh hwf;have IH:=Zh ih;have HNA:=Zh hna;have hlu:∀ most,LenU most t=if t.op=1 then 1 else if t.op=2 then (LenL most t.kids).sum else if t.op=3 then zbr most (LenL most t.kids) else if t.op=4 then (if most then t.hi else t.lo).toNat*zbr most (LenL most t.kids) else 0:=by intro most;cases t;rfl
 have c0:w.cell? ⟨g,o,none⟩=_:=hna 0 _ rfl;have c5:=hna 5 _ rfl;have c6:=hna 6 _ rfl;have c7:=hna 7 _ rfl;have hB:=yf6 w.heap.size w;clear hn ih hwf ht hna;rcases hop with ⟨h,h2,z1,z2⟩|⟨h,h2,h3,z1,z2⟩|⟨h,h2,h3,z1,z2⟩|⟨h,h2,h3,h4,h5,h6⟩
 .have hb1:(t.op==1)=true:=yix;have e:∀ most,LenU most t=1:=fun most=>by rw[hlu most,if_pos h]
  rw[e false,e true];clear h h2 z1 z2 e hlu;go_enter Tryd.func29,Tryd.ntmps29;go_wp2;go_ret2;exact zm5 yie yie hB
 .have hb1:(t.op==1)=false:=yix;have hb2:(t.op==2)=true:=yix;have e:∀ most,LenU most t=(LenL most t.kids).sum:=fun most=>by rw[hlu most,if_neg yie,if_pos h]
  rw[e false,e true];clear h h2 z1 z2 e hlu;go_enter Tryd.func29,Tryd.ntmps29;go_wp2;go_loopg [4,5,27] n' (fun m a b i wr=>∃ j:Nat,i = .int .i64 (j:Int)∧j<=n'∧m=n'-j∧a = .int .i64 ((min ((LenL false (t.kids.take j)).sum) L:Nat):Int)∧b = .int .i64 ((min ((LenL true (t.kids.take j)).sum) L:Nat):Int)∧Below w.heap.size w wr)
  case atStart=>exact⟨0,rfl,yf8 _,rfl,by simp[LenL],by simp[LenL],hB⟩
  case round =>
   obtain⟨j,rfl,hj,hmj,rfl,rfl,hW⟩:=hrel;have HMJ:=Zh hmj;clear hmj c0 c5 c6 c7;have c7:wr.cell? ⟨g,o+7,none⟩=_:=(HNA.o.stays hW) 7 _ rfl
   by_cases hlt:j<n'
   .have hlt':j<t.kids.length:=yjf;obtain⟨g',B,m1,m2,e1,htk,hnk⟩:=NodeAt.kid HT.o j hlt';subst e1;have hks:=zdy t j hlt';have hwk:=HWF.o.at j hlt';have hs0:=znr false t.kids j hlt';have hs1:=znr true t.kids j hlt';generalize t.kids[j]=u at *;have HK:=Zh (fun w' (hb:Below wr.heap.size wr w')=>IH.o u w' ok (.slice B m1 m2) g' (j*8) yie hwk ((htk.stays hW).stays hb) ((hnk.stays hW).stays hb));have HS0:=Zh hs0;have HS1:=Zh hs1;clear htk hnk hks hwk hs0 hs1;unfold zkb at HK;obtain⟨a0,ha0⟩:∃ a,a=min ((LenL false (t.kids.take j)).sum) L:=⟨_,rfl⟩;obtain⟨a1,ha1⟩:∃ a,a=min ((LenL true (t.kids.take j)).sum) L:=⟨_,rfl⟩;obtain⟨b0,hb0⟩:∃ a,a=min (LenU false u) L:=⟨_,rfl⟩;obtain⟨b1,hb1'⟩:∃ a,a=min (LenU true u) L:=⟨_,rfl⟩;rw[←hb0,←hb1'] at HK;rw[←ha0,←ha1];have la0:a0<=L:=yie;have la1:a1<=L:=yie;have lb0:b0<=L:=yie;have lb1:b1<=L:=yie;have HA0:=Zh ha0;have HA1:=Zh ha1;have HB0:=Zh hb0;have HB1:=Zh hb1';clear ha0 ha1 hb0 hb1';go_wp2_with (go_at_call 29;(with_reducible refine (HK.o _ (yf6 _ _)).mono ?_);rintro e w5 ⟨rfl,hb5⟩)
    all_goals
     go_roundg (n'-(j+1))
     case measure=>have:=HMJ.o;omega
     case rel =>
      have q0:=HA0.o;have q1:=HA1.o;have q2:=HB0.o;have q3:=HB1.o;refine⟨j+1,by go_num,by omega,rfl,?_,?_,gro hW hb5⟩
      .rw[HS0.o];refine congrArg (Value.int .i64) ?_;omega
      .rw[HS1.o];refine congrArg (Value.int .i64) ?_;omega
   .have hjn:j=t.kids.length:=yjh;have hwhole:t.kids.take j=t.kids:=(by rw[hjn];exact yfy);rw[hwhole];go_wp2;go_ret2;exact zm5 rfl rfl hW
 .have hb1:(t.op==1)=false:=yix;have hb2:(t.op==2)=false:=yix;have hb3:(t.op==3)=true:=yix;have e:∀ most,LenU most t=zbr most (LenL most t.kids):=fun most=>by rw[hlu most,if_neg yie,if_neg yie,if_pos h]
  have hk0:0<t.kids.length:=yie;rw[e false,e true,←zww L t.kids hk0,←zwv t.kids hk0];clear hk0;clear h h2 z1 z2 e hlu;go_enter Tryd.func29,Tryd.ntmps29;go_wp2;go_loopg [4,5,60] n' (fun m a b i wr=>∃ j:Nat,i = .int .i64 (j:Int)∧j<=n'∧m=n'-j∧a = .int .i64 ((zqa L (t.kids.take j):Nat):Int)∧b = .int .i64 ((min (zot (t.kids.take j)) L:Nat):Int)∧Below w.heap.size w wr)
  case atStart=>exact⟨0,rfl,yf8 _,rfl,by simp[LenL,zqa],by simp[LenL,zot],hB⟩
  case round =>
   obtain⟨j,rfl,hj,hmj,rfl,rfl,hW⟩:=hrel;have HMJ:=Zh hmj;clear hmj c0 c5 c6 c7;have c7:wr.cell? ⟨g,o+7,none⟩=_:=(HNA.o.stays hW) 7 _ rfl
   by_cases hlt:j<n'
   .have hlt':j<t.kids.length:=yjf;obtain⟨g',B,m1,m2,e1,htk,hnk⟩:=NodeAt.kid HT.o j hlt';subst e1;have hks:=zdy t j hlt';have hwk:=HWF.o.at j hlt';have hs0:=ztv L t.kids j hlt';have hs1:=ztu t.kids j hlt';generalize t.kids[j]=u at *;have HK:=Zh (fun w' (hb:Below wr.heap.size wr w')=>IH.o u w' ok (.slice B m1 m2) g' (j*8) yie hwk ((htk.stays hW).stays hb) ((hnk.stays hW).stays hb));have HS0:=Zh hs0;have HS1:=Zh hs1;clear htk hnk hks hwk hs0 hs1;unfold zkb at HK;obtain⟨a0,ha0⟩:∃ a,a=zqa L (t.kids.take j):=⟨_,rfl⟩;obtain⟨a1,ha1⟩:∃ a,a=min (zot (t.kids.take j)) L:=⟨_,rfl⟩;obtain⟨b0,hb0⟩:∃ a,a=min (LenU false u) L:=⟨_,rfl⟩;obtain⟨b1,hb1'⟩:∃ a,a=min (LenU true u) L:=⟨_,rfl⟩;rw[←hb0,←hb1'] at HK;rw[←ha0,←ha1];have la0:a0<=L:=(by rw[ha0];exact zs3 L _ L (yez _));have la1:a1<=L:=yie;have lb0:b0<=L:=yie;have lb1:b1<=L:=yie;have HA0:=Zh ha0;have HA1:=Zh ha1;have HB0:=Zh hb0;have HB1:=Zh hb1';clear ha0 ha1 hb0 hb1';go_wp2_with (go_at_call 29;(with_reducible refine (HK.o _ (yf6 _ _)).mono ?_);rintro e w5 ⟨rfl,hb5⟩)
    all_goals
     go_roundg (n'-(j+1))
     case measure=>have:=HMJ.o;omega
     case rel =>
      have q0:=HA0.o;have q1:=HA1.o;have q2:=HB0.o;have q3:=HB1.o;refine⟨j+1,by go_num,by omega,rfl,?_,?_,gro hW hb5⟩
      .rw[HS0.o];refine congrArg (Value.int .i64) ?_;omega
      .rw[HS1.o];refine congrArg (Value.int .i64) ?_;omega
   .have hjn:j=t.kids.length:=yjh;have hwhole:t.kids.take j=t.kids:=(by rw[hjn];exact yfy);rw[hwhole];go_wp2;go_ret2;exact zm5 rfl rfl hW
 .have hb1:(t.op==1)=false:=yix;have hb2:(t.op==2)=false:=yix;have hb3:(t.op==3)=false:=yix;have hb4:(t.op==4)=true:=yix;have h0:0<t.kids.length:=yie;have hn3:(0:Int)<(n':Int):=(by rw[HN.o];omega);have hone:∀ most,zbr most (LenL most t.kids)=LenU most (t.kids[0]'h0):=by
   intro most;obtain⟨u,hu⟩:=List.length_eq_one_iff.1 h2;simp[hu,LenL,zbr]
  have e:∀ most,LenU most t=(if most then t.hi else t.lo).toNat*LenU most (t.kids[0]'h0):=fun most=>by rw[hlu most,if_neg yie,if_neg yie,if_neg yie,if_pos h,hone]
  rw[e false,e true];obtain⟨g',B,m1,m2,e1,htk,hnk⟩:=NodeAt.kid HT.o 0 h0;subst e1;have hks:=zdy t 0 h0;have hwk:=HWF.o.at 0 h0;generalize t.kids[0]=u at *;have HK:=Zh (fun w' (hb:Below w.heap.size w w')=>IH.o u w' ok (.slice B m1 m2) g' (0*8) yie hwk (htk.stays hb) (hnk.stays hb));rw[Nat.zero_mul] at HK;unfold zkb at HK;obtain⟨lo,hlo⟩:∃ x:Nat,t.lo=x:=⟨t.lo.toNat,by omega⟩;obtain⟨hi,hhi⟩:∃ x:Nat,t.hi=x:=⟨t.hi.toNat,by omega⟩;have hloV:lo<=32:=yie;have hhiV:hi<=32:=yie;have e0:min ((if false=true then t.hi else t.lo).toNat*LenU false u) L=min (lo*min (LenU false u) L) L:=(by rw[zvq];simp[hlo]);have e1:min ((if true=true then t.hi else t.lo).toNat*LenU true u) L=min (hi*min (LenU true u) L) L:=(by rw[zvq];simp[hhi]);rw[e0,e1];generalize hb0:min (LenU false u) L=b0 at *;generalize hb1':min (LenU true u) L=b1 at *;have lb0:b0<=L:=yie;have lb1:b1<=L:=yie;have pr0:lo*b0<=32*1000000:=yi4 hloV yie;have pr1:hi*b1<=32*1000000:=yi4 hhiV yie;have f0:(lo:Int)*(b0:Int)=((lo*b0:Nat):Int):=yii;have f1:(hi:Int)*(b1:Int)=((hi*b1:Nat):Int):=yii;rw[hlo] at c5;rw[hhi] at c6;have i0:(0:Int)<=(lo:Int)*(b0:Int):=(by rw[f0];omega);have i1:(lo:Int)*(b0:Int)<=9223372036854775807:=(by rw[f0];omega);have i2:(0:Int)<=(hi:Int)*(b1:Int):=(by rw[f1];omega);have i3:(hi:Int)*(b1:Int)<=9223372036854775807:=(by rw[f1];omega);have F0:=Zh f0;have F1:=Zh f1;clear h hlu hone e e0 e1 htk hnk hks hwk h2 h3 h4 h5 h6 hlo hhi hb0 hb1' f0 f1 h0 pr0 pr1;generalize hP0:lo*b0=P0 at *;generalize hP1:hi*b1=P1 at *;clear hP0 hP1;go_enter Tryd.func29,Tryd.ntmps29;go_wp2_with (go_at_call 29;(with_reducible refine (HK.o _ (yf6 _ _)).mono ?_);rintro e w5 ⟨rfl,hb5⟩;have d5:=za4 c5 hb5;have d6:=za4 c6 hb5)
  by_cases q0:(lo:Int)*(b0:Int)<=(L:Int)
  all_goals
   by_cases q1:(hi:Int)*(b1:Int)<=(L:Int)
   all_goals
    go_region
    all_goals
     go_wp2;go_ret2;have g0:=F0.o;have g1:=F1.o;exact zm5 yie yie (hb5.drew)
theorem yde {t:T} {k:Value} {ok:Nat->Prop} (w:World) (L:Nat) (hL1:1<=L) (hL2:L<=1000000) (g o:Nat) (hwf:WF t) (ht:Tree w ok t k) (hn:NodeAt w g o t k):
 Calls Tryd.prog 29 #[.pointer (some ⟨g,o,none⟩),.int .i64 L] w (zkb w (min (LenU false t) L) (min (LenU true t) L)):=
 ydf L hL1 hL2 _ t w ok k g o (yez _) hwf ht hn
end
section
open Go Go.RowKit
theorem zke {xs:List Int} (l:List T) (j:Nat) (h:j<l.length) (i x:Nat):EAny xs (l.take (j+1)) i x↔EAny xs (l.take j) i x∨E xs (l[j]'h) i x:=by
 rw[yfg h,zg2,zg2];simp only[yfm,yfn];constructor
 .rintro⟨t,h1|h1,h2⟩
  .exact .inl ⟨t,h1,h2⟩
  .exact .inr (h1▸h2)
 .rintro (⟨t,h1,h2⟩|h2)
  .exact⟨t,.inl h1,h2⟩
  .exact⟨_,.inr rfl,h2⟩
theorem zpd {xs:List Int} (l:List T) (j:Nat) (h:j<l.length) (i x:Nat):ECat xs (l.take (j+1)) i x↔∃ y,ECat xs (l.take j) i y∧E xs (l[j]'h) y x:=by
 rw[yfg h,zsk];simp[ECat]
end
end Go.Proofs.YtipfgpfplakhiaaDoor
