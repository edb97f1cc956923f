import Derived.Test.YtipfgpfplakhiaaDoorTw16
set_option linter.unusedVariables false
set_option linter.unusedSimpArgs false
namespace Go.Proofs.YtipfgpfplakhiaaDoor
open Go
def RR (L:List (Lay×Str)) (bs:List Bool) (lam:Nat):RSt:=⟨togP L bs L.length,togF L bs L.length,lam⟩
def zca (L:List (Lay×Str)) (bs:List Bool) (k:Nat):Nat:=(togP L bs k).length
def szOf (L:List (Lay×Str)) (k:Nat):Nat:=(L.getD k lx0).1.sets.length
theorem zk7 (L:List (Lay×Str)) (bs:List Bool) (k:Nat):zca L bs (k+1)=zca L bs k+szOf L k:=by
 unfold zca szOf;rw[togP,yfd,zb7]
theorem zxi (L:List (Lay×Str)) (bs:List Bool) {a b:Nat} (h:a<=b):zca L bs a<=zca L bs b:=by
 induction b with
 | zero =>
  have:a=0:=by omega
  subst this;exact yez _
 | succ b ih =>
  by_cases e:a=b+1
  .subst e;exact yez _
  .have:=ih yie;rw[zk7];omega
def gpl (L:List (Lay×Str)) (bs:List Bool) (r p:Nat):Nat:=zca L bs r+p
theorem zoo {L:List (Lay×Str)} {bs:List Bool} {r p n:Nat} (hr:r<n) (hp:p<szOf L r):gpl L bs r p<zca L bs n:=by
 have h1:=zxi L bs (a:=r+1) (b:=n) hr;rw[zk7] at h1;unfold gpl;omega
theorem zq5 {L:List (Lay×Str)} {bs:List Bool} {r p r' p':Nat} (hp:p<szOf L r) (hp':p'<szOf L r') (h:gpl L bs r p=gpl L bs r' p'):r=r'∧p=p':=by
 rcases yhp r r' with h1|h1|h1
 .have:=zoo (bs:=bs) h1 hp;unfold gpl at h this;omega
 .subst h1;unfold gpl at h;exact⟨rfl,by omega⟩
 .have:=zoo (bs:=bs) h1 hp';unfold gpl at h this;omega
theorem zwo (L:List (Lay×Str)) (bs:List Bool):∀ n q,q<zca L bs n->∃ r p,r<n∧p<szOf L r∧q=gpl L bs r p
 | 0,q,h=>by simp[zca,togP] at h
 | n+1,q,h=>by
  by_cases e:q<zca L bs n
  .obtain⟨r,p,h1,h2,h3⟩:=zwo L bs n q e;exact⟨r,p,by omega,h2,h3⟩
  .rw[zk7] at h;exact⟨n,q-zca L bs n,by omega,by omega,by unfold gpl;omega⟩
theorem zfo {L:List (Lay×Str)} {bs:List Bool}:∀ (n r p:Nat),r<n->p<szOf L r->(togP L bs n)[gpl L bs r p]?=some (zma (L.getD r lx0).1 (L.getD r lx0).2 (zca L bs r) (bs.getD r false) p)
 | 0,r,p,h,hp=>by omega
 | n+1,r,p,h,hp=>by
  rw[togP]
  by_cases e:r<n
  .rw[yfb (zoo e hp)];exact zfo n r p e hp
  .have:r=n:=by omega
   subst this;rw[yfc (show (togP L bs r).length<=gpl L bs r p from Nat.le_add_right _ _)];have e2:gpl L bs r p-(togP L bs r).length=p:=(by unfold gpl zca;omega);rw[e2];exact zkt _ _ hp
theorem getD_some {L:List (Lay×Str)} {r:Nat} {s:Lay} {t:Str} (h:L[r]?=some (s,t)):L.getD r lx0=(s,t):=by rw[yf0,h];rfl
theorem zf3 {L:List (Lay×Str)} {r:Nat} (h:r<L.length):L[r]?=some ((L.getD r lx0).1,(L.getD r lx0).2):=by rw[yf0,yey h];rfl
theorem zqq {L:List (Lay×Str)} {bs:List Bool} {q:Nat}:∀ n,q∈togF L bs n↔∃ r p,r<n∧p∈(L.getD r lx0).2.first∧q=gpl L bs r p
 | 0=>by simp[togF]
 | n+1=>by
  rw[togF,yfm,zqq n,yg6];constructor
  .rintro (⟨r,p,h1,h2,h3⟩|⟨p,h1,h2⟩)
   .exact⟨r,p,by omega,h2,h3⟩
   .exact⟨n,p,by omega,h1,h2.symm⟩
  .rintro⟨r,p,h1,h2,h3⟩
   by_cases e:r<n
   .exact .inl ⟨r,p,e,h2,h3⟩
   .have:r=n:=by omega
    subst this;exact .inr ⟨p,h2,h3.symm⟩
def zfj (L:List (Lay×Str)) (bs:List Bool):List Wd->Nat->Nat
 | [],_=>0
 | x::s,q=>if gpl L bs x.rule x.place=q then zfj L bs s q ||| 2 ^ x.age else zfj L bs s q
theorem zex (L:List (Lay×Str)) (bs:List Bool) (q a:Nat):∀ s:List Wd,(zfj L bs s q).testBit a=true↔∃ x∈s,gpl L bs x.rule x.place=q∧x.age=a
 | []=>by simp[zfj]
 | x::s=>by
  have ih:=zex L bs q a s;unfold zfj
  by_cases e:gpl L bs x.rule x.place=q
  .rw[if_pos e,yhl,yh6,ih,yh4,decide_eq_true_iff];constructor
   .rintro (⟨y,hy,h⟩|h)
    .exact⟨y,yfv _ hy,h⟩
    .exact⟨x,yg9,e,h⟩
   .rintro⟨y,hy,h1,h2⟩;rcases yfi.1 hy with rfl|hy
    .exact .inr h2
    .exact .inl ⟨y,hy,h1,h2⟩
  .rw[if_neg e,ih];constructor
   .rintro⟨y,hy,h⟩;exact⟨y,yfv _ hy,h⟩
   .rintro⟨y,hy,h1,h2⟩;rcases yfi.1 hy with rfl|hy
    .exact absurd h1 e
    .exact⟨y,hy,h1,h2⟩
theorem zfz {m n:Nat} (h:∀ a,m.testBit a=true↔n.testBit a=true):m=n:=yga fun a=>by
 have:=h a;cases h1:m.testBit a <;> cases h2:n.testBit a <;> simp_all
theorem zpw {n:Nat} (h:n≠0):∃ a,n.testBit a=true:=by
 apply Classical.byContradiction;intro hc;apply h;apply zfz;intro a;simp;cases e:n.testBit a
 .rfl
 .exact absurd ⟨a,e⟩ hc
theorem zk4 {n a:Nat} (h:n.testBit a=true):n≠0:=by rintro rfl;simp at h
theorem zkv (M:List Nat) (k:Nat) (x:Nat×Nat):x∈zcl M k↔x.1<k∧x.2=M.getD x.1 0∧x.2≠0:=by
 unfold zcl;rw[List.mem_filterMap];constructor
 .rintro⟨p,hp,h⟩;have hp':=yfz.1 hp
  by_cases e:M.getD p 0=0
  .rw[if_pos e] at h;cases h
  .rw[if_neg e] at h;injection h with h
   subst h;exact⟨hp',rfl,e⟩
 .rintro⟨h1,h2,h3⟩;refine⟨x.1,yfz.2 h1,?_⟩;rw[if_neg (by rw[←h2];exact h3),←h2]
theorem zo8 {M M':List Nat}:∀ {k:Nat} (h:∀ p,p<k->M.getD p 0=M'.getD p 0),zcl M k=zcl M' k
 | 0,h=>rfl
 | k+1,h=>by rw[zdk,zdk,zo8 fun p hp=>h p yie,h k yie]
theorem zme (M:List Nat) (f:Nat×Nat->Bool) (g:Nat->Bool) (hf:∀ p n,f (p,n)=g p):∀ k,(zcl M k).filter f=zcl ((List.range k).map fun p=>if g p=true then M.getD p 0 else 0) k:=fun k=>by
 have key:∀ j,j<=k->(zcl M j).filter f=zcl ((List.range k).map fun p=>if g p=true then M.getD p 0 else 0) j:=by
  intro j;induction j with
  | zero=>intro _;rfl
  | succ j ih =>
   intro hj;rw[zdk,zdk,yh7,ih yie];have e:((List.range k).map fun p=>if g p=true then M.getD p 0 else 0).getD j 0=if g j=true then M.getD j 0 else 0:=by
    rw[yf0,yfs,yhe yie];rfl
   rw[e]
   congr 1
   obtain⟨v,hv⟩:∃ v,M.getD j 0=v:=⟨_,rfl⟩;have hfj:=hf j v;rw[hv]
   by_cases h0:v=0
   .subst h0;cases g j <;> simp
   .rw[if_neg h0];cases hg:g j
    .rw[hg] at hfj;simp[hfj]
    .rw[hg] at hfj;rw[if_pos rfl,if_neg h0,List.filter_cons_of_pos hfj];rfl
 exact key k (yez _)
theorem zor (M:List Nat) (i v p:Nat):(M.set i v).getD p 0=if i=p∧i<M.length then v else M.getD p 0:=by
 rw[yf0,yf0,ygu]
 by_cases e:i=p
 .subst e
  by_cases h:i<M.length
  .simp[h]
  .simp[h,yfj (Nat.le_of_not_lt h)]
 .simp[e]
theorem zpc:∀ (ps M:List Nat) (p:Nat),(zfk M ps).getD p 0=if p∈ps∧p<M.length then 2 else M.getD p 0
 | [],M,p=>by simp[zfk]
 | q::ps,M,p=>by
  rw[zfk,zpc ps,zor,List.length_set]
  by_cases h1:p∈ps∧p<M.length
  .rw[if_pos h1,if_pos ⟨yfv _ h1.1,h1.2⟩]
  .rw[if_neg h1]
   by_cases h2:q=p∧q<M.length
   .obtain⟨rfl,h3⟩:=h2;rw[if_pos ⟨rfl,h3⟩,if_pos ⟨yg9,h3⟩]
   .rw[if_neg h2,if_neg];rintro⟨h3,h4⟩;rcases yfi.1 h3 with rfl|h3
    .exact h2 ⟨rfl,h4⟩
    .exact h1 ⟨h3,h4⟩
theorem zlp (base n p a:Nat):∀ (qs M:List Nat),((zdo M base n qs).getD p 0).testBit a=true↔(M.getD p 0).testBit a=true∨(p<M.length∧(∃ q∈qs,base+q=p)∧n.testBit a=true)
 | [],M=>by simp[zdo]
 | q::qs,M=>by
  rw[zdo,zlp base n p a qs,zka];unfold addTo;rw[zor]
  by_cases h:base+q=p∧base+q<M.length
  .rw[if_pos h];obtain⟨rfl,h2⟩:=h;rw[yhl,yh6];constructor
   .rintro ((h|h)|⟨h1,⟨q',h3,h4⟩,h5⟩)
    .exact .inl h
    .exact .inr ⟨h2,⟨q,yg9,rfl⟩,h⟩
    .exact .inr ⟨h1,⟨q',yfv _ h3,h4⟩,h5⟩
   .rintro (h|⟨h1,h3,h5⟩)
    .exact .inl (.inl h)
    .exact .inl (.inr h5)
  .rw[if_neg h];constructor
   .rintro (h|⟨h1,⟨q',h3,h4⟩,h5⟩)
    .exact .inl h
    .exact .inr ⟨h1,⟨q',yfv _ h3,h4⟩,h5⟩
   .rintro (h' | ⟨h1,⟨q',h3,h4⟩,h5⟩)
    .exact .inl h'
    .rcases yfi.1 h3 with rfl|h3
     .exact absurd ⟨h4,h4▸h1⟩ h
     .exact .inr ⟨h1,⟨q',h3,h4⟩,h5⟩
theorem zlm (R:RSt) (p a:Nat):∀ (st:List (Nat×Nat)) (M:List Nat),((zhi R M st).getD p 0).testBit a=true↔(M.getD p 0).testBit a=true∨(p<M.length∧∃ x∈st,∃ pl,R.places[x.1]?=some pl∧(∃ q∈pl.fol,pl.base+q=p)∧(lon R.lam x.2).testBit a=true)
 | [],M=>by simp[zhi]
 | x::st,M=>by
  rw[zhi,zlm R p a st];cases e:R.places[x.1]? with
  | none =>
   simp only;constructor
   .rintro (h|⟨h1,y,hy,h⟩)
    .exact .inl h
    .exact .inr ⟨h1,y,yfv _ hy,h⟩
   .rintro (h|⟨h1,y,hy,pl,h2,h3⟩)
    .exact .inl h
    .rcases yfi.1 hy with rfl|hy
     .rw[e] at h2;cases h2
     .exact .inr ⟨h1,y,hy,pl,h2,h3⟩
  | some pl =>
   simp only;rw[zji,zlp];constructor
   .rintro ((h|⟨h1,h2,h3⟩)|⟨h1,y,hy,h⟩)
    .exact .inl h
    .exact .inr ⟨h1,x,yg9,pl,e,h2,h3⟩
    .exact .inr ⟨h1,y,yfv _ hy,h⟩
   .rintro (h|⟨h1,y,hy,pl',h2,h3⟩)
    .exact .inl (.inl h)
    .rcases yfi.1 hy with rfl|hy
     .rw[e] at h2;injection h2 with h2
      subst h2;exact .inl (.inr ⟨h1,h3⟩)
     .exact .inr ⟨h1,y,hy,pl',h2,h3⟩
theorem zw5 (lam x a:Nat):(lon lam x).testBit a=true↔1<=a∧a-1<lam∧x.testBit (a-1)=true:=by
 unfold lon;cases a with
 | zero=>simp
 | succ a =>
  have e:(x % 2 ^ lam*2).testBit (a+1)=(x % 2 ^ lam).testBit a:=by
   rw[Nat.testBit_succ]
   congr 1
   omega
  rw[e,Nat.testBit_mod_two_pow];simp
theorem zpb (R:RSt) (st:List (Nat×Nat)) (hV:∀ p∈R.first,p<R.places.length) (p a:Nat) (hp:p<R.places.length):((zsf R st).getD p 0).testBit a=true↔(p∈R.first∧a=1)∨∃ x∈st,∃ pl,R.places[x.1]?=some pl∧(∃ q∈pl.fol,pl.base+q=p)∧1<=a∧a-1<R.lam∧x.2.testBit (a-1)=true:=by
 unfold zsf;rw[zlm,zln,ygw,zpc,ygw];have h0:(List.replicate R.places.length 0).getD p 0=0:=by
  rw[yf0,List.getElem?_replicate];split <;> rfl
 rw[h0];have h2:((if p∈R.first∧p<R.places.length then 2 else 0:Nat).testBit a=true)↔(p∈R.first∧a=1):=by
  by_cases h:p∈R.first
  .rw[if_pos ⟨h,hp⟩,show (2:Nat)=2 ^ 1 from rfl,yh4,decide_eq_true_iff];exact⟨fun e=>⟨h,e.symm⟩,fun e=>e.2.symm⟩
  .rw[if_neg fun e=>h e.1];simp[h]
 rw[h2];constructor
 .rintro (h|⟨_,x,hx,pl,h3,h4,h5⟩)
  .exact .inl h
  .exact .inr ⟨x,hx,pl,h3,h4,(zw5 _ _ _).1 h5⟩
 .rintro (h|⟨x,hx,pl,h3,h4,h5⟩)
  .exact .inl h
  .exact .inr ⟨hp,x,hx,pl,h3,h4,(zw5 _ _ _).2 h5⟩
theorem zlb (s:Lay) (b:Nat) (x y:Wd):∀ (l:List Nat) (o:List Wd),y∈zjt s b x l o↔y∈o∨∃ q∈l,s.sets.getD q za9 b=true∧y=⟨x.rule,q,x.age+1⟩
 | [],o=>by simp[zjt]
 | q::l,o=>by
  rw[zjt,zlb s b x y l];unfold zwx
  by_cases h:s.sets.getD q za9 b=true∧¬ (⟨x.rule,q,x.age+1⟩:Wd)∈o
  .rw[if_pos h,yfm,yfn];constructor
   .rintro ((h1|h1)|⟨q',h2,h3⟩)
    .exact .inl h1
    .exact .inr ⟨q,yg9,h.1,h1⟩
    .exact .inr ⟨q',yfv _ h2,h3⟩
   .rintro (h1|⟨q',h2,h3,h4⟩)
    .exact .inl (.inl h1)
    .rcases yfi.1 h2 with rfl|h2
     .exact .inl (.inr h4)
     .exact .inr ⟨q',h2,h3,h4⟩
  .rw[if_neg h];constructor
   .rintro (h1|⟨q',h2,h3⟩)
    .exact .inl h1
    .exact .inr ⟨q',yfv _ h2,h3⟩
   .rintro (h1|⟨q',h2,h3,h4⟩)
    .exact .inl h1
    .rcases yfi.1 h2 with rfl|h2
     .refine .inl ?_;apply Classical.byContradiction;intro hn;exact h ⟨h3,by rw[←h4];exact hn⟩
     .exact .inr ⟨q',h2,h3,h4⟩
theorem zpl (L:List (Lay×Str)) (lam b:Nat) (x y:Wd) (o:List Wd):y∈zm3 L lam b x o↔y∈o∨(x.rule<L.length∧x.age<lam∧∃ q∈(L.getD x.rule lx0).1.follow.getD x.place [],(L.getD x.rule lx0).1.sets.getD q za9 b=true∧y=⟨x.rule,q,x.age+1⟩):=by
 unfold zm3
 by_cases hr:x.rule<L.length
 .rw[zf3 hr];simp only
  by_cases ha:x.age<lam
  .rw[if_pos ha,zlb];simp[hr,ha]
  .rw[if_neg ha];simp[ha]
 .rw[yfj yie];simp[hr]
theorem znu (L:List (Lay×Str)) (lam b:Nat) (y:Wd):∀ (st o:List Wd),y∈zpk L lam b st o↔y∈o∨∃ x∈st,x.rule<L.length∧x.age<lam∧∃ q∈(L.getD x.rule lx0).1.follow.getD x.place [],(L.getD x.rule lx0).1.sets.getD q za9 b=true∧y=⟨x.rule,q,x.age+1⟩
 | [],o=>by simp[zpk]
 | x::st,o=>by
  rw[zpk,znu L lam b y st,zpl];constructor
  .rintro ((h|h)|⟨z,hz,h⟩)
   .exact .inl h
   .exact .inr ⟨x,yg9,h⟩
   .exact .inr ⟨z,yfv _ hz,h⟩
  .rintro (h|⟨z,hz,h⟩)
   .exact .inl (.inl h)
   .rcases yfi.1 hz with rfl|hz
    .exact .inl (.inr h)
    .exact .inr ⟨z,hz,h⟩
theorem zq8 (L:List (Lay×Str)) (b:Nat) (y:Wd):∀ k,k<=L.length->(y∈fstN L b k↔y.rule<k∧y.age=1∧y.place∈(L.getD y.rule lx0).2.first∧(L.getD y.rule lx0).1.sets.getD y.place za9 b=true)
 | 0,h=>by simp[fstN]
 | k+1,h=>by
  rw[fstN,yfm,zq8 L b y k yie,zf3 (r:=k) yie];simp only;unfold zs1;rw[yg6];constructor
  .rintro (⟨h1,h2⟩|⟨p,hp,rfl⟩)
   .exact⟨by omega,h2⟩
   .rw[List.mem_filter] at hp;exact⟨by simp,rfl,hp.1,hp.2⟩
  .rintro⟨h1,h2,h3,h4⟩
   by_cases e:y.rule<k
   .exact .inl ⟨e,h2,h3,h4⟩
   .have e':y.rule=k:=yie;refine .inr ⟨y.place,List.mem_filter.2 ⟨by rw[←e'];exact h3,by rw[←e'];exact h4⟩,?_⟩;cases y;simp at e' h2;simp[e',h2]
def zki (L:List (Lay×Str)) (lam b:Nat) (s:List Wd):List Wd:=zpk L lam b s (fstN L b L.length)
theorem zdi (L:List (Lay×Str)) (lam b:Nat) (s:List Wd) (y:Wd):y∈zki L lam b s↔y.rule<L.length∧(L.getD y.rule lx0).1.sets.getD y.place za9 b=true∧((y.age=1∧y.place∈(L.getD y.rule lx0).2.first)∨∃ x∈s,x.rule=y.rule∧x.age<lam∧y.age=x.age+1∧y.place∈(L.getD y.rule lx0).1.follow.getD x.place []):=by
 unfold zki;rw[znu,zq8 L b y _ (yez _)];constructor
 .rintro (⟨h1,h2,h3,h4⟩|⟨x,hx,h1,h2,q,h3,h4,rfl⟩)
  .exact⟨h1,h4,.inl ⟨h2,h3⟩⟩
  .exact⟨h1,h4,.inr ⟨x,hx,rfl,h2,rfl,h3⟩⟩
 .rintro⟨h1,h2,(⟨h3,h4⟩|⟨x,hx,h3,h4,h5,h6⟩)⟩
  .exact .inl ⟨h1,h3,h4,h2⟩
  .refine .inr ⟨x,hx,by omega,h4,y.place,by rw[h3];exact h6,by rw[h3];exact h2,?_⟩;cases y;simp at h3 h5;simp[h3,h5]
def canon (L:List (Lay×Str)) (bs:List Bool) (s:List Wd):List (Nat×Nat):=zcl ((List.range (zca L bs L.length)).map (zfj L bs s)) (zca L bs L.length)
def OkD (L:List (Lay×Str)) (s:List Wd):Prop:=∀ x∈s,x.rule<L.length∧x.place<szOf L x.rule
theorem zh9 (f:Nat->Nat) (n p:Nat) (h:p<n):((List.range n).map f).getD p 0=f p:=by
 rw[yf0,yfs,yhe h];rfl
theorem zfh (L:List (Lay×Str)) (bs:List Bool) (s:List Wd) (p n:Nat):(p,n)∈canon L bs s↔p<zca L bs L.length∧n=zfj L bs s p∧n≠0:=by
 unfold canon;rw[zkv];constructor
 .rintro⟨h1,h2,h3⟩;simp only at h1 h2 h3;rw[zh9 _ _ _ h1] at h2;exact⟨h1,h2,h3⟩
 .rintro⟨h1,h2,h3⟩;exact⟨h1,by rw[zh9 _ _ _ h1];exact h2,h3⟩
theorem zvg {L:List (Lay×Str)} (hL:∀ s x,(s,x)∈L->zfl s x) {r:Nat} (h:r<L.length):zfl (L.getD r lx0).1 (L.getD r lx0).2:=zq6 hL h
theorem zqu {L:List (Lay×Str)} (hL:∀ s x,(s,x)∈L->zfl s x) (lam b:Nat) (s:List Wd):OkD L (zki L lam b s):=fun y hy=>by
 obtain⟨h1,h2,h3⟩:=(zdi L lam b s y).1 hy;have ho:=zvg hL h1;refine⟨h1,?_⟩;rcases h3 with ⟨_,h3⟩|⟨x,_,_,_,_,h3⟩
 .exact ho.first _ h3
 .exact ho.fol _ _ h3
theorem zuo {L:List (Lay×Str)} {lam:Nat} (hlam:1<=lam) (b:Nat) (s:List Wd):∀ y∈zki L lam b s,1<=y.age∧y.age<=lam:=fun y hy=>by
 obtain⟨h1,h2,h3⟩:=(zdi L lam b s y).1 hy;rcases h3 with ⟨h3,_⟩|⟨x,_,_,h4,h5,_⟩ <;> omega
theorem zty {L:List (Lay×Str)} {bs:List Bool} {lam:Nat} (hL:∀ s x,(s,x)∈L->zfl s x) (b:Nat) {s:List Wd} (hs:OkD L s):
 (zf0 (RR L bs lam) (canon L bs s)).filter (zgf (RR L bs lam) b)=canon L bs (zki L lam b s):=by
 have hP:(RR L bs lam).places.length=zca L bs L.length:=rfl;unfold zf0;rw[zme _ _ (fun p=>match (RR L bs lam).places[p]? with | some pl=>pl.set b | none=>false) fun p n=>rfl,hP]
 show _=zcl _ _
 refine zo8 fun p hp=>?_
 rw[zh9 _ _ _ hp,zh9 _ _ _ hp];obtain⟨r,q,hr,hq,rfl⟩:=zwo L bs _ p hp;have hpl:(RR L bs lam).places[gpl L bs r q]?=some (zma (L.getD r lx0).1 (L.getD r lx0).2 (zca L bs r) (bs.getD r false) q):=zfo _ r q hr hq;rw[hpl]
 show (if (L.getD r lx0).1.sets.getD q za9 b=true then _ else 0)=_
 have hy:∀ y,y∈zki L lam b s->gpl L bs y.rule y.place=gpl L bs r q->y.rule=r∧y.place=q:=fun y hy e=>zq5 (zqu hL lam b s y hy).2 hq e
 apply zfz;intro a;rw[zex]
 by_cases hb:(L.getD r lx0).1.sets.getD q za9 b=true
 .rw[if_pos hb,zpb _ _ (zlx hL _ (yez _)) _ _ hp];have hfst:gpl L bs r q∈(RR L bs lam).first↔q∈(L.getD r lx0).2.first:=by
   show gpl L bs r q∈togF L bs L.length↔_
   rw[zqq];constructor
   .rintro⟨r',p',h1,h2,h3⟩;obtain⟨rfl,rfl⟩:=zq5 hq ((zvg hL h1).first _ h2) h3;exact h2
   .intro h;exact⟨r,q,hr,h,rfl⟩
  rw[hfst];constructor
  .rintro (⟨h1,h2⟩|⟨⟨p',n⟩,hx,pl,h2,⟨f,h3,h4⟩,h5,h6,h7⟩)
   .exact⟨⟨r,q,1⟩,(zdi _ _ _ _ _).2 ⟨hr,hb,.inl ⟨rfl,h1⟩⟩,rfl,h2.symm⟩
   .obtain⟨h8,rfl,_⟩:=(zfh L bs s p' n).1 hx;obtain⟨x,hxs,rfl,h10⟩:=(zex L bs _ _ _).1 h7;obtain⟨h11,h12⟩:=hs x hxs;have hpx:(RR L bs lam).places[gpl L bs x.rule x.place]?=some (zma (L.getD x.rule lx0).1 (L.getD x.rule lx0).2 (zca L bs x.rule) (bs.getD x.rule false) x.place):=zfo _ _ _ h11 h12;rw[hpx] at h2;injection h2 with h2
    subst h2;have h3':f∈(L.getD x.rule lx0).1.follow.getD x.place []:=h3;have h4':gpl L bs x.rule f=gpl L bs r q:=h4;obtain⟨e1,e2⟩:=zq5 ((zvg hL h11).fol _ _ h3') hq h4';subst e1 e2;have h6':a-1<lam:=h6;exact⟨⟨x.rule,f,a⟩,(zdi _ _ _ _ _).2 ⟨hr,hb,.inr ⟨x,hxs,rfl,by omega,by simp only;omega,h3'⟩⟩,rfl,rfl⟩
  .rintro⟨y,hys,he,rfl⟩;obtain⟨e1,e2⟩:=hy y hys he;obtain⟨h1,h2,h3⟩:=(zdi L lam b s y).1 hys;subst e1 e2;rcases h3 with ⟨h3,h4⟩|⟨x,hxs,h4,h5,h6,h7⟩
   .exact .inl ⟨h4,h3⟩
   .obtain⟨h11,h12⟩:=hs x hxs;have hbit:(zfj L bs s (gpl L bs x.rule x.place)).testBit (y.age-1)=true:=(zex L bs _ _ _).2 ⟨x,hxs,rfl,by omega⟩;refine .inr ⟨(gpl L bs x.rule x.place,zfj L bs s (gpl L bs x.rule x.place)),(zfh L bs s _ _).2 ⟨zoo h11 h12,rfl,zk4 hbit⟩,_,zfo _ _ _ h11 h12,⟨y.place,?_,?_⟩,by omega,?_,hbit⟩
    .show y.place∈(L.getD x.rule lx0).1.follow.getD x.place []
     rw[h4];exact h7
    .show gpl L bs x.rule y.place=gpl L bs y.rule y.place
     rw[h4]
    .show y.age-1<lam
     omega
 .rw[if_neg hb];simp only[Nat.zero_testBit,ygy,false_iff];rintro⟨y,hys,he,rfl⟩;obtain⟨e1,e2⟩:=hy y hys he;subst e1 e2;exact hb ((zdi L lam b s y).1 hys).2.1
theorem zgt {α:Type} [DecidableEq α]:∀ (s t:List α),s.Nodup->(∀ x∈s,x∈t)->s.length<=t.length
 | [],t,_,_=>yf8 _
 | x::s,t,hn,h=>by
  rw[yhd] at hn;have hx:=h x yg9;have ih:=zgt s (t.erase x) hn.2 fun y hy=>by
   have hne:y≠x:=fun e=>hn.1 (e▸hy)
   exact (List.mem_erase_of_ne hne).2 (h y (yfv _ hy))
  have:=List.length_erase_of_mem hx;have hp:0<t.length:=List.length_pos_of_mem hx;simp only[yg7];omega
theorem zte {α:Type} {l:List α} {x:α} (h:l.Nodup) (hx:x∉l):(l++[x]).Nodup:=by
 rw[ygn];refine⟨h,by simp,fun a ha b hb=>?_⟩;rw[yfn] at hb;subst hb;exact fun e=>hx (e▸ha)
theorem zi9 (s:Lay) (b:Nat) (x:Wd):∀ (l:List Nat) (o:List Wd),o.Nodup->(zjt s b x l o).Nodup
 | [],o,h=>h
 | q::l,o,h=>by
  rw[zjt];apply zi9 s b x l;unfold zwx;split
  .rename_i h1;exact zte h h1.2
  .exact h
theorem zj1 (L:List (Lay×Str)) (lam b:Nat):∀ (st o:List Wd),o.Nodup->(zpk L lam b st o).Nodup
 | [],o,h=>h
 | x::st,o,h=>by
  rw[zpk];apply zj1 L lam b st;unfold zm3;split
  .split
   .exact zi9 _ _ _ _ _ h
   .exact h
  .exact h
theorem zog {α β:Type} (f:α->β) (hf:∀ a b,f a=f b->a=b):∀ (l:List α),l.Nodup->(l.map f).Nodup
 | [],h=>by simp
 | x::l,h=>by
  rw[yhd] at h;rw[ygo,yhd];refine⟨fun hm=>?_,zog f hf l h.2⟩;obtain⟨y,hy,e⟩:=yg6.1 hm;exact h.1 (hf _ _ e▸hy)
theorem zla {L:List (Lay×Str)} (b:Nat) (hN:∀ s x,(s,x)∈L->x.first.Nodup):∀ k,k<=L.length->(fstN L b k).Nodup
 | 0,h=>by simp[fstN]
 | k+1,h=>by
  rw[fstN,zf3 (r:=k) yie,ygn];simp only;have hm:(L.getD k lx0)∈L:=(by rw[yf0,yey (show k<L.length by omega)];exact yfq _);refine⟨zla b hN k yie,?_,fun y hy z hz e=>?_⟩
  .unfold zs1;apply zog _ (fun a b e=>by injection e);exact (hN _ _ hm).sublist (List.filter_sublist)
  .subst e;have h1:=((zq8 L b y k yie).1 hy).1;unfold zs1 at hz;rw[yg6] at hz;obtain⟨p,_,rfl⟩:=hz;simp at h1
theorem zpm {L:List (Lay×Str)} (hN:∀ s x,(s,x)∈L->x.first.Nodup) (lam b:Nat) (s:List Wd):(zki L lam b s).Nodup:=zj1 L lam b s _ (zla b hN _ (yez _))
theorem zmj (R:RSt) (a:Nat):∀ (st:List (Nat×Nat)) (o:Nat×Nat),((zbb R st o).1.testBit a=true↔o.1.testBit a=true∨∃ x∈st,∃ q,R.places[x.1]?=some q∧q.last=true∧q.luhn=false∧x.2.testBit a=true)∧((zbb R st o).2.testBit a=true↔o.2.testBit a=true∨∃ x∈st,∃ q,R.places[x.1]?=some q∧q.last=true∧q.luhn=true∧x.2.testBit a=true)
 | [],o=>by simp[zbb]
 | x::st,o=>by
  rw[zbb];obtain⟨i1,i2⟩:=zmj R a st (zem R x o);rw[i1,i2];simp only[yfi,exists_eq_or_imp];have key:((zem R x o).1.testBit a=true↔o.1.testBit a=true∨∃ q,R.places[x.1]?=some q∧q.last=true∧q.luhn=false∧x.2.testBit a=true)∧((zem R x o).2.testBit a=true↔o.2.testBit a=true∨∃ q,R.places[x.1]?=some q∧q.last=true∧q.luhn=true∧x.2.testBit a=true):=by
   unfold zem;cases e:R.places[x.1]? with
   | none=>simp
   | some q =>
    simp only[Option.some.injEq,exists_eq_left'];cases h1:q.last
    .simp
    .cases h2:q.luhn
     .simp[yhl]
     .simp[yhl]
  rw[key.1,key.2,or_assoc,or_assoc];exact⟨Iff.rfl,Iff.rfl⟩
theorem zik (L:List (Lay×Str)) (bs:List Bool) (a:Nat):∀ (s:List Wd) (o:Nat×Nat),((zj0 L bs s o).1.testBit a=true↔o.1.testBit a=true∨∃ x∈s,∃ y t b,L[x.rule]?=some (y,t)∧bs[x.rule]?=some b∧t.last.contains x.place=true∧b=false∧x.age=a)∧((zj0 L bs s o).2.testBit a=true↔o.2.testBit a=true∨∃ x∈s,∃ y t b,L[x.rule]?=some (y,t)∧bs[x.rule]?=some b∧t.last.contains x.place=true∧b=true∧x.age=a)
 | [],o=>by simp[zj0]
 | x::s,o=>by
  rw[zj0];obtain⟨i1,i2⟩:=zik L bs a s (zgn L bs x o);rw[i1,i2];simp only[yfi,exists_eq_or_imp];have key:((zgn L bs x o).1.testBit a=true↔o.1.testBit a=true∨∃ y t b,L[x.rule]?=some (y,t)∧bs[x.rule]?=some b∧t.last.contains x.place=true∧b=false∧x.age=a)∧((zgn L bs x o).2.testBit a=true↔o.2.testBit a=true∨∃ y t b,L[x.rule]?=some (y,t)∧bs[x.rule]?=some b∧t.last.contains x.place=true∧b=true∧x.age=a):=by
   unfold zgn;cases e:L[x.rule]? with
   | none=>simp
   | some yt =>
    obtain⟨y,t⟩:=yt;cases e2:bs[x.rule]? with
    | none=>simp
    | some b =>
     simp only;cases h1:t.last.contains x.place
     .constructor
      .constructor
       .exact fun h => .inl yit
       .rintro (h|⟨y',t',b',h2,h3,h4,_⟩)
        .simpa using h
        .injection h2 with h2
         injection h2 with h2 h5
         subst h5;rw[h1] at h4;cases h4
      .constructor
       .exact fun h => .inl yit
       .rintro (h|⟨y',t',b',h2,h3,h4,_⟩)
        .simpa using h
        .injection h2 with h2
         injection h2 with h2 h5
         subst h5;rw[h1] at h4;cases h4
     .cases b
      .simp only[if_true,ygy,if_false,yhl,yh6,yh4,decide_eq_true_iff];constructor
       .constructor
        .rintro (h|h)
         .exact .inl h
         .exact .inr ⟨y,t,false,rfl,rfl,h1,rfl,h⟩
        .rintro (h|⟨_,_,_,_,_,_,_,h⟩)
         .exact .inl h
         .exact .inr h
       .constructor
        .exact fun h => .inl h
        .rintro (h|⟨_,_,b',_,h3,_,h4,h⟩)
         .exact h
         .subst h4;injection h3 with h3
          cases h3
      .simp only[if_true,yhl,yh6,yh4,decide_eq_true_iff];constructor
       .constructor
        .exact fun h => .inl h
        .rintro (h|⟨_,_,b',_,h3,_,h4,h⟩)
         .exact h
         .subst h4;injection h3 with h3
          cases h3
       .constructor
        .rintro (h|h)
         .exact .inl h
         .exact .inr ⟨y,t,true,rfl,rfl,h1,rfl,h⟩
        .rintro (h|⟨_,_,_,_,_,_,_,h⟩)
         .exact .inl h
         .exact .inr h
  rw[key.1,key.2,or_assoc,or_assoc];exact⟨Iff.rfl,Iff.rfl⟩
theorem zvc {L:List (Lay×Str)} {bs:List Bool} {lam:Nat} (hbs:bs.length=L.length) {s:List Wd} (hs:OkD L s):zbb (RR L bs lam) (canon L bs s) (0,0)=zj0 L bs s (0,0):=by
 have key:∀ (c:Bool) (a:Nat),(∃ x∈canon L bs s,∃ q,(RR L bs lam).places[x.1]?=some q∧q.last=true∧q.luhn=c∧x.2.testBit a=true)↔∃ x∈s,∃ y t b,L[x.rule]?=some (y,t)∧bs[x.rule]?=some b∧t.last.contains x.place=true∧b=c∧x.age=a:=fun c a=>by
  constructor
  .rintro⟨⟨p,n⟩,hx,q,h1,h2,h3,h4⟩;obtain⟨h5,rfl,_⟩:=(zfh L bs s p n).1 hx;obtain⟨x,hxs,rfl,h7⟩:=(zex L bs _ _ _).1 h4;obtain⟨h8,h9⟩:=hs x hxs;have hg:(RR L bs lam).places[gpl L bs x.rule x.place]?=some (zma (L.getD x.rule lx0).1 (L.getD x.rule lx0).2 (zca L bs x.rule) (bs.getD x.rule false) x.place):=zfo _ _ _ h8 h9;rw[hg] at h1;injection h1 with h1
   subst h1;have hb:bs[x.rule]?=some (bs.getD x.rule false):=(by rw[yf0,yey (show x.rule<bs.length by omega)];rfl);exact⟨x,hxs,_,_,_,zf3 h8,hb,h2,h3,h7⟩
  .rintro⟨x,hxs,y,t,b,h1,h2,h3,h4,h5⟩;obtain⟨h8,h9⟩:=hs x hxs;have hbit:(zfj L bs s (gpl L bs x.rule x.place)).testBit a=true:=(zex L bs _ _ _).2 ⟨x,hxs,rfl,h5⟩;have hl:=getD_some h1;refine⟨(gpl L bs x.rule x.place,zfj L bs s (gpl L bs x.rule x.place)),(zfh L bs s _ _).2 ⟨zoo h8 h9,rfl,zk4 hbit⟩,_,zfo _ _ _ h8 h9,?_,?_,hbit⟩
   .show (L.getD x.rule lx0).2.last.contains x.place=true
    rw[hl];exact h3
   .show bs.getD x.rule false=c
    rw[yf0,h2];exact h4
 have h1:(zbb (RR L bs lam) (canon L bs s) (0,0)).1=(zj0 L bs s (0,0)).1:=zfz fun a=>by rw[(zmj _ a _ _).1,(zik L bs a _ _).1,key]
 have h2:(zbb (RR L bs lam) (canon L bs s) (0,0)).2=(zj0 L bs s (0,0)).2:=zfz fun a=>by rw[(zmj _ a _ _).2,(zik L bs a _ _).2,key]
 exact Prod.ext h1 h2
section
def zg3 (r:PT×List Nat) (s:Nat):PT×List Nat:=(zck r.1 s,if r.1.md (r.1.grp s)=0 then r.2++[r.1.grp s] else r.2)
def zd2:List Nat->PT×List Nat->PT×List Nat
 | [],r=>r
 | s::l,r=>zd2 l (zg3 r s)
structure MI (p:PT) (done:List Nat) (r:PT×List Nat):Prop where
 inv:PInv r.1
 eN:r.1.N=p.N
 en':r.1.n=p.n
 eg:r.1.grp=p.grp
 mks:∀ x,x<p.N->(Mk r.1 x↔x∈done)
 nod:r.2.Nodup
 set:∀ k,k<p.n->(k∈r.2↔0<r.1.md k)
 sub:∀ k∈r.2,k<p.n
theorem zhx {p:PT}:∀ (l done:List Nat) (r:PT×List Nat),MI p done r->(done++l).Nodup->(∀ s∈l,s<p.N)->MI p (done++l) (zd2 l r)
 | [],done,r,h,hn,hs=>by simpa [zd2] using h
 | s::l,done,r,h,hn,hs=>by
  have hsN:s<p.N:=hs s yii;have hsd:s∉done:=by
   intro hm;rw[ygn] at hn;exact hn.2.2 s hm s yii rfl
  have hmk:¬ Mk r.1 s:=fun e=>hsd ((h.mks s hsN).1 e)
  obtain⟨a1,a2,a3,a4,a5,a6,a7⟩:=zz4 h.inv (by rw[h.eN];exact hsN) hmk;have hmd:(zck r.1 s).md=upd r.1.md (r.1.grp s) (r.1.md (r.1.grp s)+1):=rfl;have hg:r.1.grp s<p.n:=(by have:=h.inv.gn s (by rw[h.eN];exact hsN);rw[h.en'] at this;exact this);have h1:MI p (done++[s]) (zg3 r s):=by
   refine⟨a1,a2.trans h.eN,a3.trans h.en',a4.trans h.eg,fun x hx=>?_,?_,fun k hk=>?_,fun k hk=>?_⟩
   .rw[show (zg3 r s).1=zck r.1 s from rfl,a7 x (by rw[h.eN];exact hx),h.mks x hx,yfm,yfn]
   .unfold zg3;simp only;split
    .rename_i h0;rw[ygn];refine⟨h.nod,by simp,fun a ha b hb=>?_⟩;rw[yfn] at hb;subst hb;intro e;subst e;have:=(h.set _ hg).1 ha;omega
    .exact h.nod
   .unfold zg3;simp only;rw[hmd]
    by_cases c:k=r.1.grp s
    .subst c;rw[zac];split
     .simp
     .rename_i h0;rw[h.set _ hg];omega
    .rw[zao _ _ c,←h.set k hk];split
     .simp[c]
     .exact Iff.rfl
   .unfold zg3 at hk;simp only at hk;split at hk
    .rw[yfm,yfn] at hk;rcases hk with hk|rfl
     .exact h.sub k hk
     .exact hg
    .exact h.sub k hk
  have:=zhx l (done++[s]) (zg3 r s) h1 (by simpa using hn) (fun x hx=>hs x yj4)
  simpa [zd2] using this
def zcz (ms:List Nat) (p:PT):PT:=zb3 (zd2 ms (p,[])).2 (zd2 ms (p,[])).1
def zi3 (p:PT):Prop:=∀ k,k<p.n->p.md k=0
section
variable {alk:Nat->Nat->Prop} {A:(Nat->Prop)->Prop} {g:Nat} {p:PT}
theorem zp0 (hp:PInv p) (hc:zi3 p) (hh:HI alk A g p) (hg:g<=p.n) {ms:List Nat} (hn:ms.Nodup) (hs:∀ s∈ms,s<p.N) (hM:∀ s t,alk s t->(s∈ms↔t∈ms)):
 PInv (zcz ms p)∧(zcz ms p).N=p.N∧HI alk A g (zcz ms p)∧p.n<=(zcz ms p).n∧zi3 (zcz ms p)∧∀ s t,s<p.N->t<p.N->(zcz ms p).grp s=(zcz ms p).grp t->p.grp s=p.grp t∧(s∈ms↔t∈ms):=by
 have h0:MI p [] (p,[]):=⟨hp,rfl,rfl,rfl,fun x hx=>by simp;exact zmk hp hx (hc _ (hp.gn x hx)),by simp,fun k hk=>by simp;exact hc k hk,fun k hk=>by simp at hk⟩;have h1:=zhx ms [] (p,[]) h0 (by simpa using hn) hs;rw[yhc] at h1;unfold zcz;obtain⟨r,hr⟩:∃ r,zd2 ms (p,[])=r:=⟨_,rfl⟩;rw[hr] at h1 ⊢;have hhr:HI alk A g r.1:=⟨fun s t a b c=>by rw[h1.eg];exact hh.i0 s t (h1.eN▸a) (h1.eN▸b) c,fun s t a b c d=>by
  rw[h1.eg] at d ⊢;exact hh.i2 s t (h1.eN▸a) (h1.eN▸b) c fun k k1 k2=>d k k1 (by rw[h1.en'];exact k2)⟩
 have hmid:MidH (· ∈ ms) r.1:=by
  refine⟨fun s t a b c d=>?_,fun x hx hz=>h1.mks x (h1.eN▸hx)⟩;have e1:=zmk h1.inv a d;have e2:=zmk h1.inv b (by rw[←c];exact d);rw[h1.mks s (h1.eN▸a)] at e1;rw[h1.mks t (h1.eN▸b)] at e2;exact⟨fun z=>absurd z e1,fun z=>absurd z e2⟩
 obtain⟨q1,q2,q3,q4,q5,q6⟩:=zkx (M:=(· ∈ ms)) hM r.2 r.1 h1.inv hhr hmid (by rw[h1.en'];exact hg) h1.nod (fun k hk=>h1.set k (by rw[←h1.en'];exact hk)) (fun k hk=>by rw[h1.en'];exact h1.sub k hk);refine⟨q1,q2.trans h1.eN,q3,by rw[h1.en'] at q4;exact q4,q5,fun s t a b c=>?_⟩;obtain⟨z1,z2⟩:=q6 s t (by rw[h1.eN];exact a) (by rw[h1.eN];exact b) c;rw[h1.eg] at z1;exact⟨z1,z2⟩
def zdr (ms:Nat->List Nat):Nat->Nat->PT->PT
 | 0,c,p=>p
 | k+1,c,p=>zdr ms k (c+1) (zcz (ms c) p)
theorem zsb {δ:Nat->Nat->Nat} {C:Nat} {G:Nat->Prop} {ms:Nat->List Nat} (hal:yd9 δ C alk) (N:Nat) (hn:∀ c,c<C->(ms c).Nodup) (hs:∀ c,c<C->∀ s,(s∈ms c↔s<N∧G (δ s c))) (haN:∀ s t,alk s t->(s<N↔t<N)) (hG:∀ s t,alk s t->(G s↔G t)):
 ∀ (k c:Nat) (p:PT),p.N=N->c+k=C->PInv p->zi3 p->HI alk A g p->g<=p.n->
  PInv (zdr ms k c p)∧(zdr ms k c p).N=N∧HI alk A g (zdr ms k c p)∧p.n<=(zdr ms k c p).n∧zi3 (zdr ms k c p)∧∀ s t,s<N->t<N->(zdr ms k c p).grp s=(zdr ms k c p).grp t->p.grp s=p.grp t∧∀ d,c<=d->d<C->(G (δ s d)↔G (δ t d))
 | 0,c,p,hN,hk,hp,hc,hh,hg=>⟨hp,hN,hh,yez _,hc,fun s t a b e=>⟨e,fun d d1 d2=>by omega⟩⟩
 | k+1,c,p,hN,hk,hp,hc,hh,hg=>by
  have hcC:c<C:=yie;obtain⟨q1,q2,q3,q4,q5,q6⟩:=zp0 hp hc hh hg (hn c hcC) (fun s h=>by rw[hN];exact ((hs c hcC s).1 h).1) (fun s t h=>by rw[hs c hcC,hs c hcC,haN s t h,hG _ _ (hal.step s t c hcC h)]);obtain⟨r1,r2,r3,r4,r5,r6⟩:=zsb hal N hn hs haN hG k (c+1) (zcz (ms c) p) (q2.trans hN) yie q1 q5 q3 yie;refine⟨r1,r2,r3,by show p.n<=(zdr ms k (c+1) (zcz (ms c) p)).n;omega,r5,fun s t a b e=>?_⟩;obtain⟨z1,z2⟩:=r6 s t a b e;obtain⟨y1,y2⟩:=q6 s t (by rw[hN];exact a) (by rw[hN];exact b) z1;refine⟨y1,fun d d1 d2=>?_⟩
  by_cases ed:d=c
  .subst ed;rw[hs d hcC,hs d hcC] at y2;exact⟨fun z=>(y2.1 ⟨a,z⟩).2,fun z=>(y2.2 ⟨b,z⟩).2⟩
  .exact z2 d yie d2
end
def Stab (δ:Nat->Nat->Nat) (C:Nat) (A:(Nat->Prop)->Prop) (p:PT):Prop:=∀ X,A X->∀ s t,s<p.N->t<p.N->p.grp s=p.grp t->∀ c,c<C->(X (δ s c)↔X (δ t c))
theorem ycg {δ:Nat->Nat->Nat} {C g:Nat} {alk:Nat->Nat->Prop} {A:(Nat->Prop)->Prop} {p:PT} {ms:Nat->List Nat} (hal:yd9 δ C alk) (haN:∀ s t,alk s t->(s<p.N↔t<p.N)) (hp:PInv p) (hc:zi3 p) (hh:HI alk A g p) (hst:Stab δ C A p) (hg:g<p.n)
 (hn:∀ c,c<C->(ms c).Nodup) (hs:∀ c,c<C->∀ s,(s∈ms c↔s<p.N∧(δ s c<p.N∧p.grp (δ s c)=g))):
 PInv (zdr ms C 0 p)∧(zdr ms C 0 p).N=p.N∧p.n<=(zdr ms C 0 p).n∧zi3 (zdr ms C 0 p)∧(∃ A',HI alk A' (g+1) (zdr ms C 0 p)∧Stab δ C A' (zdr ms C 0 p))∧∀ s t,s<p.N->t<p.N->(zdr ms C 0 p).grp s=(zdr ms C 0 p).grp t->p.grp s=p.grp t:=by
 have hh':HI alk (fun X=>A X∨X=fun x=>x<p.N∧p.grp x=g) (g+1) p:=by
  refine⟨hh.i0,fun s t a b hX hk=>hh.i2 s t a b (fun X h=>hX X (.inl h)) fun k k1 k2=>?_⟩
  by_cases e:k=g
  .subst e;have:=hX _ (.inr rfl);simp only[a,b,true_and] at this;exact this
  .exact hk k yie k2
 have hG:∀ s t,alk s t->((fun x=>x<p.N∧p.grp x=g) s↔(fun x=>x<p.N∧p.grp x=g) t):=fun s t h=>by
  have h1:=haN s t h;constructor
  .rintro⟨a,b⟩;exact⟨h1.1 a,by rw[←hh.i0 s t a (h1.1 a) h];exact b⟩
  .rintro⟨a,b⟩;exact⟨h1.2 a,by rw[hh.i0 s t (h1.2 a) a h];exact b⟩
 obtain⟨q1,q2,q3,q4,q5,q6⟩:=zsb (G:=fun x=>x<p.N∧p.grp x=g) (ms:=ms) hal p.N hn hs haN hG C 0 p rfl yie hp hc hh' yie;refine⟨q1,q2,q4,q5,⟨_,q3,fun X hX s t a b e c hcC=>?_⟩,fun s t a b e=>(q6 s t a b e).1⟩;rw[q2] at a b;obtain⟨z1,z2⟩:=q6 s t a b e;rcases hX with hX|rfl
 .exact hst X hX s t a b z1 c hcC
 .exact z2 c (yf8 _) hcC
theorem zyd {δ:Nat->Nat->Nat} {C:Nat} {alk:Nat->Nat->Prop} {A:(Nat->Prop)->Prop} {p:PT} (hh:HI alk A p.n p) (hst:Stab δ C A p) (hδ:∀ s c,s<p.N->c<C->δ s c<p.N) {s t c:Nat} (hs:s<p.N) (ht:t<p.N) (e:p.grp s=p.grp t) (hc:c<C):p.grp (δ s c)=p.grp (δ t c):=
 hh.i2 _ _ (hδ s c hs hc) (hδ t c ht hc) (fun X hX=>hst X hX s t hs ht e c hc) fun k k1 k2=>by omega
def goW (δ:Nat->Nat->Nat):List Nat->Nat->Nat
 | [],s=>s
 | c::w,s=>goW δ w (δ s c)
def Alk {O:Type} (δ:Nat->Nat->Nat) (o:Nat->O) (N C:Nat) (s t:Nat):Prop:=s<N∧t<N∧∀ w:List Nat,(∀ c∈w,c<C)->o (goW δ w s)=o (goW δ w t)
theorem zxr {O:Type} {δ:Nat->Nat->Nat} {o:Nat->O} {C:Nat} {p:PT} (hδ:∀ s c,s<p.N->c<C->δ s c<p.N) (ho:∀ s t,s<p.N->t<p.N->p.grp s=p.grp t->o s=o t) (hst:∀ s t c,s<p.N->t<p.N->p.grp s=p.grp t->c<C->p.grp (δ s c)=p.grp (δ t c)):
 ∀ (w:List Nat) (s t:Nat),(∀ c∈w,c<C)->s<p.N->t<p.N->p.grp s=p.grp t->o (goW δ w s)=o (goW δ w t)
 | [],s,t,_,hs,ht,e=>ho s t hs ht e
 | c::w,s,t,hw,hs,ht,e=>zxr hδ ho hst w (δ s c) (δ t c) (fun x hx=>hw x yj4) (hδ s c hs (hw c yii)) (hδ t c ht (hw c yii)) (hst s t c hs ht e (hw c yii))
theorem zp8 {O:Type} {δ:Nat->Nat->Nat} {o:Nat->O} {N C:Nat} (hδ:∀ s c,s<N->c<C->δ s c<N):yd9 δ C (Alk δ o N C):=
 ⟨fun s t c hc h=>⟨hδ s c h.1 hc,hδ t c h.2.1 hc,fun w hw=>h.2.2 (c::w) (fun d hd=>by
  rw[yfi] at hd;rcases hd with rfl|hd
  .exact hc
  .exact hw d hd)⟩⟩
theorem ye9 {O:Type} {δ:Nat->Nat->Nat} {o:Nat->O} {N C s t:Nat} (h:Alk δ o N C s t):s<N↔t<N:=⟨fun _=>h.2.1,fun _=>h.1⟩
theorem zzo {O:Type} {δ:Nat->Nat->Nat} {o:Nat->O} {C:Nat} {p:PT} (hp:PInv p) (ho:∀ s t,s<p.N->t<p.N->(p.grp s=p.grp t↔o s=o t)):HI (Alk δ o p.N C) (fun _=>False) 0 p:=
 ⟨fun s t hs ht h=>(ho s t hs ht).2 (h.2.2 [] (fun c hc=>by simp at hc)),fun s t hs ht _ hk=>((hk (p.grp s) (yf8 _) (hp.gn s hs)).1 rfl).symm⟩
theorem ydy {O:Type} {δ:Nat->Nat->Nat} {o:Nat->O} {C:Nat} {A:(Nat->Prop)->Prop} {p:PT} (hδ:∀ s c,s<p.N->c<C->δ s c<p.N) (hh:HI (Alk δ o p.N C) A p.n p) (hst:Stab δ C A p) (ho:∀ s t,s<p.N->t<p.N->p.grp s=p.grp t->o s=o t) {s t:Nat} (hs:s<p.N) (ht:t<p.N):
 p.grp s=p.grp t↔Alk δ o p.N C s t:=
 ⟨fun e=>⟨hs,ht,fun w hw=>zxr hδ ho (fun s t c a b e hc=>zyd hh hst hδ a b e hc) w s t hw hs ht e⟩,fun h=>hh.i0 s t hs ht h⟩
theorem zee {p:PT} (h:PInv p):p.n<=p.N:=by
 have hb:∀ g,g<p.n->p.bg g<p.N∧p.grp (p.st (p.bg g))=g:=fun g hg=>by
  have:=h.ne g hg;exact h.of g (p.bg g) hg (yez _) this.1
 have hn:((List.range p.n).map p.bg).Nodup:=by
  rw[ygp,List.pairwise_map];refine List.Pairwise.imp_of_mem ?_ (ygp.1 List.nodup_range);intro a b ha hb' hne e;rw[yfz] at ha hb';apply hne;rw[←(hb a ha).2,←(hb b hb').2,e]
 have:=zgt _ (List.range p.N) hn (fun x hx=>by
  rw[yg6] at hx;obtain⟨g,hg,rfl⟩:=hx;rw[yfz] at hg ⊢;exact (hb g hg).1)
 simpa using this
end
end Go.Proofs.YtipfgpfplakhiaaDoor
