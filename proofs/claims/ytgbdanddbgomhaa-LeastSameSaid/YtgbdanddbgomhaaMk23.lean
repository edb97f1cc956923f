import Derived.Test.YtgbdanddbgomhaaMk19
set_option linter.unusedVariables false
set_option linter.unusedSimpArgs false
namespace Go.Proofs.Ytgbdanddbgomhaa
open Go
def RR (L:List (Lay×Str)) (bs:List Bool) (lam:Nat):RSt:=⟨togP L bs L.length,togF L bs L.length,lam⟩
def baseOf (L:List (Lay×Str)) (bs:List Bool) (k:Nat):Nat:=(togP L bs k).length
def szOf (L:List (Lay×Str)) (k:Nat):Nat:=(L.getD k lx0).1.sets.length
theorem zha (L:List (Lay×Str)) (bs:List Bool) (k:Nat):baseOf L bs (k+1)=baseOf L bs k+szOf L k:=by
 unfold baseOf szOf;rw[togP,List.length_append,zb5]
theorem zlf (L:List (Lay×Str)) (bs:List Bool) {a b:Nat} (h:a<=b):baseOf L bs a<=baseOf L bs b:=by
 induction b with
 | zero =>
           have:a=0:=by omega
           subst this;exact Nat.le_refl _
 | succ b ih =>
   by_cases e:a=b+1
   . subst e;exact Nat.le_refl _
   . have:=ih (by omega);rw[zha];omega
def gpl (L:List (Lay×Str)) (bs:List Bool) (r p:Nat):Nat:=baseOf L bs r+p
theorem zev {L:List (Lay×Str)} {bs:List Bool} {r p n:Nat} (hr:r<n) (hp:p<szOf L r):gpl L bs r p<baseOf L bs n:=by
 have h1:=zlf L bs (a:=r+1) (b:=n) hr;rw[zha] at h1;unfold gpl;omega
theorem zgx {L:List (Lay×Str)} {bs:List Bool} {r p r' p':Nat} (hp:p<szOf L r) (hp':p'<szOf L r') (h:gpl L bs r p=gpl L bs r' p'):r=r'∧p=p':=by
 rcases Nat.lt_trichotomy r r' with h1|h1|h1
 . have:=zev (bs:=bs) h1 hp;unfold gpl at h this;omega
 . subst h1;unfold gpl at h;exact⟨rfl,by omega⟩
 . have:=zev (bs:=bs) h1 hp';unfold gpl at h this;omega
theorem zsq (L:List (Lay×Str)) (bs:List Bool):∀ n q,q<baseOf L bs n->∃ r p,r<n∧p<szOf L r∧q=gpl L bs r p
 | 0,q,h=>by simp[baseOf,togP] at h
 | n+1,q,h=>by
   by_cases e:q<baseOf L bs n
   . obtain⟨r,p,h1,h2,h3⟩:=zsq L bs n q e;exact⟨r,p,by omega,h2,h3⟩
   . rw[zha] at h;exact⟨n,q-baseOf L bs n,by omega,by omega,by unfold gpl;omega⟩
theorem zdn {L:List (Lay×Str)} {bs:List Bool}:∀ (n r p:Nat),r<n->p<szOf L r->(togP L bs n)[gpl L bs r p]?=some (plcOf (L.getD r lx0).1 (L.getD r lx0).2 (baseOf L bs r) (bs.getD r false) p)
 | 0,r,p,h,hp=>by omega
 | n+1,r,p,h,hp=>by
   rw[togP]
   by_cases e:r<n
   . rw[List.getElem?_append_left (zev e hp)];exact zdn n r p e hp
   . have:r=n:=by omega
     subst this;rw[List.getElem?_append_right (show (togP L bs r).length<=gpl L bs r p from Nat.le_add_right _ _)];have e2:gpl L bs r p-(togP L bs r).length=p:=(by unfold gpl baseOf;omega);rw[e2];exact zhp _ _ hp
theorem getD_some {L:List (Lay×Str)} {r:Nat} {s:Lay} {t:Str} (h:L[r]?=some (s,t)):L.getD r lx0=(s,t):=by rw[List.getD_eq_getElem?_getD,h];rfl
theorem zca {L:List (Lay×Str)} {r:Nat} (h:r<L.length):L[r]?=some ((L.getD r lx0).1,(L.getD r lx0).2):=by rw[List.getD_eq_getElem?_getD,List.getElem?_eq_getElem h];rfl
theorem zmq {L:List (Lay×Str)} {bs:List Bool} {q:Nat}:∀ n,q∈togF L bs n↔∃ r p,r<n∧p∈(L.getD r lx0).2.first∧q=gpl L bs r p
 | 0=>by simp[togF]
 | n+1=>by
   rw[togF,List.mem_append,zmq n,List.mem_map];constructor
   . rintro (⟨r,p,h1,h2,h3⟩|⟨p,h1,h2⟩)
     . exact⟨r,p,by omega,h2,h3⟩
     . exact⟨n,p,by omega,h1,h2.symm⟩
   . rintro⟨r,p,h1,h2,h3⟩
     by_cases e:r<n
     . exact .inl ⟨r,p,e,h2,h3⟩
     . have:r=n:=by omega
       subst this;exact .inr ⟨p,h2,h3.symm⟩
def bitsOf (L:List (Lay×Str)) (bs:List Bool):List Wd->Nat->Nat
 | [],_=>0
 | x::s,q=>if gpl L bs x.rule x.place=q then bitsOf L bs s q ||| 2 ^ x.age else bitsOf L bs s q
theorem zbs (L:List (Lay×Str)) (bs:List Bool) (q a:Nat):∀ s:List Wd,(bitsOf L bs s q).testBit a=true↔∃ x∈s,gpl L bs x.rule x.place=q∧x.age=a
 | []=>by simp[bitsOf]
 | x::s=>by
   have ih:=zbs L bs q a s;unfold bitsOf
   by_cases e:gpl L bs x.rule x.place=q
   . rw[if_pos e,Nat.testBit_or,Bool.or_eq_true,ih,Nat.testBit_two_pow,decide_eq_true_iff];constructor
     . rintro (⟨y,hy,h⟩|h)
       . exact⟨y,List.mem_cons_of_mem _ hy,h⟩
       . exact⟨x,List.mem_cons_self,e,h⟩
     . rintro⟨y,hy,h1,h2⟩;rcases List.mem_cons.1 hy with rfl|hy
       . exact .inr h2
       . exact .inl ⟨y,hy,h1,h2⟩
   . rw[if_neg e,ih];constructor
     . rintro⟨y,hy,h⟩;exact⟨y,List.mem_cons_of_mem _ hy,h⟩
     . rintro⟨y,hy,h1,h2⟩;rcases List.mem_cons.1 hy with rfl|hy
       . exact absurd h1 e
       . exact⟨y,hy,h1,h2⟩
theorem zct {m n:Nat} (h:∀ a,m.testBit a=true↔n.testBit a=true):m=n:=Nat.eq_of_testBit_eq fun a=>by
 have:=h a;cases h1:m.testBit a <;> cases h2:n.testBit a <;> simp_all
theorem zlx {n:Nat} (h:n≠0):∃ a,n.testBit a=true:=by
 apply Classical.byContradiction;intro hc;apply h;apply zct;intro a;simp;cases e:n.testBit a
 . rfl
 . exact absurd ⟨a,e⟩ hc
theorem zh7 {n a:Nat} (h:n.testBit a=true):n≠0:=by rintro rfl;simp at h
theorem zc4 (M:List Nat) (k:Nat) (x:Nat×Nat):x∈picked M k↔x.1<k∧x.2=M.getD x.1 0∧x.2≠0:=by
 unfold picked;rw[List.mem_filterMap];constructor
 . rintro⟨p,hp,h⟩;have hp':=List.mem_range.1 hp
   by_cases e:M.getD p 0=0
   . rw[if_pos e] at h;cases h
   . rw[if_neg e] at h;injection h with h
     subst h;exact⟨hp',rfl,e⟩
 . rintro⟨h1,h2,h3⟩;refine⟨x.1,List.mem_range.2 h1,?_⟩;rw[if_neg (by rw[←h2];exact h3),←h2]
theorem zgd {M M':List Nat}:∀ {k:Nat} (h:∀ p,p<k->M.getD p 0=M'.getD p 0),picked M k=picked M' k
 | 0,h=>rfl
 | k+1,h=>by rw[zcb,zcb,zgd fun p hp=>h p (by omega),h k (by omega)]
theorem zoz {M M':List Nat} {k:Nat} (h:picked M k=picked M' k):∀ p,p<k->M.getD p 0=M'.getD p 0:=fun p hp=>by
 by_cases e:M.getD p 0=0
 . by_cases e':M'.getD p 0=0
   . rw[e,e']
   . have h1:((p,M'.getD p 0):Nat×Nat)∈picked M' k:=(zc4 M' k _).2 ⟨hp,rfl,e'⟩;rw[←h] at h1;exact ((zc4 M k _).1 h1).2.1.symm
 . have h1:((p,M.getD p 0):Nat×Nat)∈picked M k:=(zc4 M k _).2 ⟨hp,rfl,e⟩;rw[h] at h1;exact ((zc4 M' k _).1 h1).2.1
theorem zj4 (M:List Nat) (f:Nat×Nat->Bool) (g:Nat->Bool) (hf:∀ p n,f (p,n)=g p):∀ k,(picked M k).filter f=picked ((List.range k).map fun p=>if g p=true then M.getD p 0 else 0) k:=fun k=>by
 have key:∀ j,j<=k->(picked M j).filter f=picked ((List.range k).map fun p=>if g p=true then M.getD p 0 else 0) j:=by
   intro j;induction j with
   | zero=>intro _;rfl
   | succ j ih =>
     intro hj;rw[zcb,zcb,List.filter_append,ih (by omega)];have e:((List.range k).map fun p=>if g p=true then M.getD p 0 else 0).getD j 0=if g j=true then M.getD j 0 else 0:=by
       rw[List.getD_eq_getElem?_getD,List.getElem?_map,List.getElem?_range (by omega)];rfl
     rw[e]
     congr 1
     obtain⟨v,hv⟩:∃ v,M.getD j 0=v:=⟨_,rfl⟩;have hfj:=hf j v;rw[hv]
     by_cases h0:v=0
     . subst h0;cases g j <;> simp
     . rw[if_neg h0];cases hg:g j
       . rw[hg] at hfj;simp[hfj]
       . rw[hg] at hfj;rw[if_pos rfl,if_neg h0,List.filter_cons_of_pos hfj];rfl
 exact key k (Nat.le_refl _)
theorem zky (M:List Nat) (i v p:Nat):(M.set i v).getD p 0=if i=p∧i<M.length then v else M.getD p 0:=by
 rw[List.getD_eq_getElem?_getD,List.getD_eq_getElem?_getD,List.getElem?_set]
 by_cases e:i=p
 . subst e
   by_cases h:i<M.length
   . simp[h]
   . simp[h,List.getElem?_eq_none (Nat.le_of_not_lt h)]
 . simp[e]
theorem zlm:∀ (ps M:List Nat) (p:Nat),(aheadF M ps).getD p 0=if p∈ps∧p<M.length then 2 else M.getD p 0
 | [],M,p=>by simp[aheadF]
 | q::ps,M,p=>by
   rw[aheadF,zlm ps,zky,List.length_set]
   by_cases h1:p∈ps∧p<M.length
   . rw[if_pos h1,if_pos ⟨List.mem_cons_of_mem _ h1.1,h1.2⟩]
   . rw[if_neg h1]
     by_cases h2:q=p∧q<M.length
     . obtain⟨rfl,h3⟩:=h2;rw[if_pos ⟨rfl,h3⟩,if_pos ⟨List.mem_cons_self,h3⟩]
     . rw[if_neg h2,if_neg];rintro⟨h3,h4⟩;rcases List.mem_cons.1 h3 with rfl|h3
       . exact h2 ⟨rfl,h4⟩
       . exact h1 ⟨h3,h4⟩
theorem zin (base n p a:Nat):∀ (qs M:List Nat),((mAddAll M base n qs).getD p 0).testBit a=true↔(M.getD p 0).testBit a=true∨(p<M.length∧(∃ q∈qs,base+q=p)∧n.testBit a=true)
 | [],M=>by simp[mAddAll]
 | q::qs,M=>by
   rw[mAddAll,zin base n p a qs,zhc];unfold addTo;rw[zky]
   by_cases h:base+q=p∧base+q<M.length
   . rw[if_pos h];obtain⟨rfl,h2⟩:=h;rw[Nat.testBit_or,Bool.or_eq_true];constructor
     . rintro ((h|h)|⟨h1,⟨q',h3,h4⟩,h5⟩)
       . exact .inl h
       . exact .inr ⟨h2,⟨q,List.mem_cons_self,rfl⟩,h⟩
       . exact .inr ⟨h1,⟨q',List.mem_cons_of_mem _ h3,h4⟩,h5⟩
     . rintro (h|⟨h1,h3,h5⟩)
       . exact .inl (.inl h)
       . exact .inl (.inr h5)
   . rw[if_neg h];constructor
     . rintro (h|⟨h1,⟨q',h3,h4⟩,h5⟩)
       . exact .inl h
       . exact .inr ⟨h1,⟨q',List.mem_cons_of_mem _ h3,h4⟩,h5⟩
     . rintro (h' | ⟨h1,⟨q',h3,h4⟩,h5⟩)
       . exact .inl h'
       . rcases List.mem_cons.1 h3 with rfl|h3
         . exact absurd ⟨h4,h4▸h1⟩ h
         . exact .inr ⟨h1,⟨q',h3,h4⟩,h5⟩
theorem zik (R:RSt) (p a:Nat):∀ (st:List (Nat×Nat)) (M:List Nat),((aheadS R M st).getD p 0).testBit a=true↔(M.getD p 0).testBit a=true∨(p<M.length∧∃ x∈st,∃ pl,R.places[x.1]?=some pl∧(∃ q∈pl.fol,pl.base+q=p)∧(lon R.lam x.2).testBit a=true)
 | [],M=>by simp[aheadS]
 | x::st,M=>by
   rw[aheadS,zik R p a st];cases e:R.places[x.1]? with
   | none =>
     simp only;constructor
     . rintro (h|⟨h1,y,hy,h⟩)
       . exact .inl h
       . exact .inr ⟨h1,y,List.mem_cons_of_mem _ hy,h⟩
     . rintro (h|⟨h1,y,hy,pl,h2,h3⟩)
       . exact .inl h
       . rcases List.mem_cons.1 hy with rfl|hy
         . rw[e] at h2;cases h2
         . exact .inr ⟨h1,y,hy,pl,h2,h3⟩
   | some pl =>
     simp only;rw[zgk,zin];constructor
     . rintro ((h|⟨h1,h2,h3⟩)|⟨h1,y,hy,h⟩)
       . exact .inl h
       . exact .inr ⟨h1,x,List.mem_cons_self,pl,e,h2,h3⟩
       . exact .inr ⟨h1,y,List.mem_cons_of_mem _ hy,h⟩
     . rintro (h|⟨h1,y,hy,pl',h2,h3⟩)
       . exact .inl (.inl h)
       . rcases List.mem_cons.1 hy with rfl|hy
         . rw[e] at h2;injection h2 with h2
           subst h2;exact .inl (.inr ⟨h1,h3⟩)
         . exact .inr ⟨h1,y,hy,pl',h2,h3⟩
theorem zs3 (lam x a:Nat):(lon lam x).testBit a=true↔1<=a∧a-1<lam∧x.testBit (a-1)=true:=by
 unfold lon;cases a with
 | zero=>simp
 | succ a =>
   have e:(x % 2 ^ lam*2).testBit (a+1)=(x % 2 ^ lam).testBit a:=by
     rw[Nat.testBit_succ]
     congr 1
     omega
   rw[e,Nat.testBit_mod_two_pow];simp
theorem zll (R:RSt) (st:List (Nat×Nat)) (hV:∀ p∈R.first,p<R.places.length) (p a:Nat) (hp:p<R.places.length):((aheadN R st).getD p 0).testBit a=true↔(p∈R.first∧a=1)∨∃ x∈st,∃ pl,R.places[x.1]?=some pl∧(∃ q∈pl.fol,pl.base+q=p)∧1<=a∧a-1<R.lam∧x.2.testBit (a-1)=true:=by
 unfold aheadN;rw[zik,zil,List.length_replicate,zlm,List.length_replicate];have h0:(List.replicate R.places.length 0).getD p 0=0:=by
   rw[List.getD_eq_getElem?_getD,List.getElem?_replicate];split <;> rfl
 rw[h0];have h2:((if p∈R.first∧p<R.places.length then 2 else 0:Nat).testBit a=true)↔(p∈R.first∧a=1):=by
   by_cases h:p∈R.first
   . rw[if_pos ⟨h,hp⟩,show (2:Nat)=2 ^ 1 from rfl,Nat.testBit_two_pow,decide_eq_true_iff];exact⟨fun e=>⟨h,e.symm⟩,fun e=>e.2.symm⟩
   . rw[if_neg fun e=>h e.1];simp[h]
 rw[h2];constructor
 . rintro (h|⟨_,x,hx,pl,h3,h4,h5⟩)
   . exact .inl h
   . exact .inr ⟨x,hx,pl,h3,h4,(zs3 _ _ _).1 h5⟩
 . rintro (h|⟨x,hx,pl,h3,h4,h5⟩)
   . exact .inl h
   . exact .inr ⟨hp,x,hx,pl,h3,h4,(zs3 _ _ _).2 h5⟩
theorem zi8 (s:Lay) (b:Nat) (x y:Wd):∀ (l:List Nat) (o:List Wd),y∈folOne s b x l o↔y∈o∨∃ q∈l,s.sets.getD q noneP b=true∧y=⟨x.rule,q,x.age+1⟩
 | [],o=>by simp[folOne]
 | q::l,o=>by
   rw[folOne,zi8 s b x y l];unfold folPut
   by_cases h:s.sets.getD q noneP b=true∧¬ (⟨x.rule,q,x.age+1⟩:Wd)∈o
   . rw[if_pos h,List.mem_append,List.mem_singleton];constructor
     . rintro ((h1|h1)|⟨q',h2,h3⟩)
       . exact .inl h1
       . exact .inr ⟨q,List.mem_cons_self,h.1,h1⟩
       . exact .inr ⟨q',List.mem_cons_of_mem _ h2,h3⟩
     . rintro (h1|⟨q',h2,h3,h4⟩)
       . exact .inl (.inl h1)
       . rcases List.mem_cons.1 h2 with rfl|h2
         . exact .inl (.inr h4)
         . exact .inr ⟨q',h2,h3,h4⟩
   . rw[if_neg h];constructor
     . rintro (h1|⟨q',h2,h3⟩)
       . exact .inl h1
       . exact .inr ⟨q',List.mem_cons_of_mem _ h2,h3⟩
     . rintro (h1|⟨q',h2,h3,h4⟩)
       . exact .inl h1
       . rcases List.mem_cons.1 h2 with rfl|h2
         . refine .inl ?_;apply Classical.byContradiction;intro hn;exact h ⟨h3,by rw[←h4];exact hn⟩
         . exact .inr ⟨q',h2,h3,h4⟩
theorem zlo (L:List (Lay×Str)) (lam b:Nat) (x y:Wd) (o:List Wd):y∈stepOne L lam b x o↔y∈o∨(x.rule<L.length∧x.age<lam∧∃ q∈(L.getD x.rule lx0).1.follow.getD x.place [],(L.getD x.rule lx0).1.sets.getD q noneP b=true∧y=⟨x.rule,q,x.age+1⟩):=by
 unfold stepOne
 by_cases hr:x.rule<L.length
 . rw[zca hr];simp only
   by_cases ha:x.age<lam
   . rw[if_pos ha,zi8];simp[hr,ha]
   . rw[if_neg ha];simp[ha]
 . rw[List.getElem?_eq_none (by omega)];simp[hr]
theorem zk2 (L:List (Lay×Str)) (lam b:Nat) (y:Wd):∀ (st o:List Wd),y∈stepW L lam b st o↔y∈o∨∃ x∈st,x.rule<L.length∧x.age<lam∧∃ q∈(L.getD x.rule lx0).1.follow.getD x.place [],(L.getD x.rule lx0).1.sets.getD q noneP b=true∧y=⟨x.rule,q,x.age+1⟩
 | [],o=>by simp[stepW]
 | x::st,o=>by
   rw[stepW,zk2 L lam b y st,zlo];constructor
   . rintro ((h|h)|⟨z,hz,h⟩)
     . exact .inl h
     . exact .inr ⟨x,List.mem_cons_self,h⟩
     . exact .inr ⟨z,List.mem_cons_of_mem _ hz,h⟩
   . rintro (h|⟨z,hz,h⟩)
     . exact .inl (.inl h)
     . rcases List.mem_cons.1 hz with rfl|hz
       . exact .inl (.inr h)
       . exact .inr ⟨z,hz,h⟩
theorem zm7 (L:List (Lay×Str)) (b:Nat) (y:Wd):∀ k,k<=L.length->(y∈fstN L b k↔y.rule<k∧y.age=1∧y.place∈(L.getD y.rule lx0).2.first∧(L.getD y.rule lx0).1.sets.getD y.place noneP b=true)
 | 0,h=>by simp[fstN]
 | k+1,h=>by
   rw[fstN,List.mem_append,zm7 L b y k (by omega),zca (r:=k) (by omega)];simp only;unfold fstOne;rw[List.mem_map];constructor
   . rintro (⟨h1,h2⟩|⟨p,hp,rfl⟩)
     . exact⟨by omega,h2⟩
     . rw[List.mem_filter] at hp;exact⟨by simp,rfl,hp.1,hp.2⟩
   . rintro⟨h1,h2,h3,h4⟩
     by_cases e:y.rule<k
     . exact .inl ⟨e,h2,h3,h4⟩
     . have e':y.rule=k:=(by omega);refine .inr ⟨y.place,List.mem_filter.2 ⟨by rw[←e'];exact h3,by rw[←e'];exact h4⟩,?_⟩;cases y;simp at e' h2;simp[e',h2]
def stepD (L:List (Lay×Str)) (lam b:Nat) (s:List Wd):List Wd:=stepW L lam b s (fstN L b L.length)
theorem zcn (L:List (Lay×Str)) (lam b:Nat) (s:List Wd) (y:Wd):y∈stepD L lam b s↔y.rule<L.length∧(L.getD y.rule lx0).1.sets.getD y.place noneP b=true∧((y.age=1∧y.place∈(L.getD y.rule lx0).2.first)∨∃ x∈s,x.rule=y.rule∧x.age<lam∧y.age=x.age+1∧y.place∈(L.getD y.rule lx0).1.follow.getD x.place []):=by
 unfold stepD;rw[zk2,zm7 L b y _ (Nat.le_refl _)];constructor
 . rintro (⟨h1,h2,h3,h4⟩|⟨x,hx,h1,h2,q,h3,h4,rfl⟩)
   . exact⟨h1,h4,.inl ⟨h2,h3⟩⟩
   . exact⟨h1,h4,.inr ⟨x,hx,rfl,h2,rfl,h3⟩⟩
 . rintro⟨h1,h2,(⟨h3,h4⟩|⟨x,hx,h3,h4,h5,h6⟩)⟩
   . exact .inl ⟨h1,h3,h4,h2⟩
   . refine .inr ⟨x,hx,by omega,h4,y.place,by rw[h3];exact h6,by rw[h3];exact h2,?_⟩;cases y;simp at h3 h5;simp[h3,h5]
def canon (L:List (Lay×Str)) (bs:List Bool) (s:List Wd):List (Nat×Nat):=picked ((List.range (baseOf L bs L.length)).map (bitsOf L bs s)) (baseOf L bs L.length)
def OkD (L:List (Lay×Str)) (s:List Wd):Prop:=∀ x∈s,x.rule<L.length∧x.place<szOf L x.rule
theorem zc1 (f:Nat->Nat) (n p:Nat) (h:p<n):((List.range n).map f).getD p 0=f p:=by
 rw[List.getD_eq_getElem?_getD,List.getElem?_map,List.getElem?_range h];rfl
theorem zdk (L:List (Lay×Str)) (bs:List Bool) (s:List Wd) (p n:Nat):(p,n)∈canon L bs s↔p<baseOf L bs L.length∧n=bitsOf L bs s p∧n≠0:=by
 unfold canon;rw[zc4];constructor
 . rintro⟨h1,h2,h3⟩;simp only at h1 h2 h3;rw[zc1 _ _ _ h1] at h2;exact⟨h1,h2,h3⟩
 . rintro⟨h1,h2,h3⟩;exact⟨h1,by rw[zc1 _ _ _ h1];exact h2,h3⟩
theorem zri {L:List (Lay×Str)} (hL:∀ s x,(s,x)∈L->OkLay s x) {r:Nat} (h:r<L.length):OkLay (L.getD r lx0).1 (L.getD r lx0).2:=zm6 hL h
theorem zms {L:List (Lay×Str)} (hL:∀ s x,(s,x)∈L->OkLay s x) (lam b:Nat) (s:List Wd):OkD L (stepD L lam b s):=fun y hy=>by
 obtain⟨h1,h2,h3⟩:=(zcn L lam b s y).1 hy;have ho:=zri hL h1;refine⟨h1,?_⟩;rcases h3 with ⟨_,h3⟩|⟨x,_,_,_,_,h3⟩
 . exact ho.first _ h3
 . exact ho.fol _ _ h3
theorem zqf {L:List (Lay×Str)} {lam:Nat} (hlam:1<=lam) (b:Nat) (s:List Wd):∀ y∈stepD L lam b s,1<=y.age∧y.age<=lam:=fun y hy=>by
 obtain⟨h1,h2,h3⟩:=(zcn L lam b s y).1 hy;rcases h3 with ⟨h3,_⟩|⟨x,_,_,h4,h5,_⟩ <;> omega
theorem zpp {L:List (Lay×Str)} {bs:List Bool} {lam:Nat} (hL:∀ s x,(s,x)∈L->OkLay s x) (b:Nat) {s:List Wd} (hs:OkD L s):
   (aheadL (RR L bs lam) (canon L bs s)).filter (hasAt (RR L bs lam) b)=canon L bs (stepD L lam b s):=by
 have hP:(RR L bs lam).places.length=baseOf L bs L.length:=rfl;unfold aheadL;rw[zj4 _ _ (fun p=>match (RR L bs lam).places[p]? with | some pl=>pl.set b | none=>false) fun p n=>rfl,hP]
 show _=picked _ _
 refine zgd fun p hp=>?_
 rw[zc1 _ _ _ hp,zc1 _ _ _ hp];obtain⟨r,q,hr,hq,rfl⟩:=zsq L bs _ p hp;have hpl:(RR L bs lam).places[gpl L bs r q]?=some (plcOf (L.getD r lx0).1 (L.getD r lx0).2 (baseOf L bs r) (bs.getD r false) q):=zdn _ r q hr hq;rw[hpl]
 show (if (L.getD r lx0).1.sets.getD q noneP b=true then _ else 0)=_
 have hy:∀ y,y∈stepD L lam b s->gpl L bs y.rule y.place=gpl L bs r q->y.rule=r∧y.place=q:=fun y hy e=>zgx (zms hL lam b s y hy).2 hq e
 apply zct;intro a;rw[zbs]
 by_cases hb:(L.getD r lx0).1.sets.getD q noneP b=true
 . rw[if_pos hb,zll _ _ (ziu hL _ (Nat.le_refl _)) _ _ hp];have hfst:gpl L bs r q∈(RR L bs lam).first↔q∈(L.getD r lx0).2.first:=by
     show gpl L bs r q∈togF L bs L.length↔_
     rw[zmq];constructor
     . rintro⟨r',p',h1,h2,h3⟩;obtain⟨rfl,rfl⟩:=zgx hq ((zri hL h1).first _ h2) h3;exact h2
     . intro h;exact⟨r,q,hr,h,rfl⟩
   rw[hfst];constructor
   . rintro (⟨h1,h2⟩|⟨⟨p',n⟩,hx,pl,h2,⟨f,h3,h4⟩,h5,h6,h7⟩)
     . exact⟨⟨r,q,1⟩,(zcn _ _ _ _ _).2 ⟨hr,hb,.inl ⟨rfl,h1⟩⟩,rfl,h2.symm⟩
     . obtain⟨h8,rfl,_⟩:=(zdk L bs s p' n).1 hx;obtain⟨x,hxs,rfl,h10⟩:=(zbs L bs _ _ _).1 h7;obtain⟨h11,h12⟩:=hs x hxs;have hpx:(RR L bs lam).places[gpl L bs x.rule x.place]?=some (plcOf (L.getD x.rule lx0).1 (L.getD x.rule lx0).2 (baseOf L bs x.rule) (bs.getD x.rule false) x.place):=zdn _ _ _ h11 h12;rw[hpx] at h2;injection h2 with h2
       subst h2;have h3':f∈(L.getD x.rule lx0).1.follow.getD x.place []:=h3;have h4':gpl L bs x.rule f=gpl L bs r q:=h4;obtain⟨e1,e2⟩:=zgx ((zri hL h11).fol _ _ h3') hq h4';subst e1 e2;have h6':a-1<lam:=h6;exact⟨⟨x.rule,f,a⟩,(zcn _ _ _ _ _).2 ⟨hr,hb,.inr ⟨x,hxs,rfl,by omega,by simp only;omega,h3'⟩⟩,rfl,rfl⟩
   . rintro⟨y,hys,he,rfl⟩;obtain⟨e1,e2⟩:=hy y hys he;obtain⟨h1,h2,h3⟩:=(zcn L lam b s y).1 hys;subst e1 e2;rcases h3 with ⟨h3,h4⟩|⟨x,hxs,h4,h5,h6,h7⟩
     . exact .inl ⟨h4,h3⟩
     . obtain⟨h11,h12⟩:=hs x hxs;have hbit:(bitsOf L bs s (gpl L bs x.rule x.place)).testBit (y.age-1)=true:=(zbs L bs _ _ _).2 ⟨x,hxs,rfl,by omega⟩;refine .inr ⟨(gpl L bs x.rule x.place,bitsOf L bs s (gpl L bs x.rule x.place)),(zdk L bs s _ _).2 ⟨zev h11 h12,rfl,zh7 hbit⟩,_,zdn _ _ _ h11 h12,⟨y.place,?_,?_⟩,by omega,?_,hbit⟩
       . show y.place∈(L.getD x.rule lx0).1.follow.getD x.place []
         rw[h4];exact h7
       . show gpl L bs x.rule y.place=gpl L bs y.rule y.place
         rw[h4]
       . show y.age-1<lam
         omega
 . rw[if_neg hb];simp only[Nat.zero_testBit,Bool.false_eq_true,false_iff];rintro⟨y,hys,he,rfl⟩;obtain⟨e1,e2⟩:=hy y hys he;subst e1 e2;exact hb ((zcn L lam b s y).1 hys).2.1
theorem zwc {L:List (Lay×Str)} {bs:List Bool} {s t:List Wd} (hs:OkD L s) (ht:OkD L t):canon L bs s=canon L bs t↔∀ x,x∈s↔x∈t:=by
 constructor
 . intro h;have key:∀ (s t:List Wd),OkD L s->OkD L t->canon L bs s=canon L bs t->∀ x,x∈s->x∈t:=fun s t hs ht h x hx=>by
     obtain⟨h1,h2⟩:=hs x hx;have h3:=zoz h _ (zev h1 h2);rw[zc1 _ _ _ (zev h1 h2),zc1 _ _ _ (zev h1 h2)] at h3;have h4:(bitsOf L bs s (gpl L bs x.rule x.place)).testBit x.age=true:=(zbs L bs _ _ _).2 ⟨x,hx,rfl,rfl⟩;rw[h3] at h4;obtain⟨y,hy,e1,e2⟩:=(zbs L bs _ _ _).1 h4;obtain⟨e3,e4⟩:=zgx (ht y hy).2 h2 e1;have:y=x:=Wd.ext' e3 e4 e2;exact this▸hy
   exact fun x=>⟨key s t hs ht h x,key t s ht hs h.symm x⟩
 . intro h;refine zgd fun p hp=>?_
   rw[zc1 _ _ _ hp,zc1 _ _ _ hp];apply zct;intro a;rw[zbs,zbs];exact⟨fun ⟨x,h1,h2⟩=>⟨x,(h x).1 h1,h2⟩,fun ⟨x,h1,h2⟩=>⟨x,(h x).2 h1,h2⟩⟩
theorem zbz {α:Type} [DecidableEq α]:∀ (s t:List α),s.Nodup->(∀ x∈s,x∈t)->s.length<=t.length
 | [],t,_,_=>Nat.zero_le _
 | x::s,t,hn,h=>by
   rw[List.nodup_cons] at hn;have hx:=h x List.mem_cons_self;have ih:=zbz s (t.erase x) hn.2 fun y hy=>by
     have hne:y≠x:=fun e=>hn.1 (e▸hy)
     exact (List.mem_erase_of_ne hne).2 (h y (List.mem_cons_of_mem _ hy))
   have:=List.length_erase_of_mem hx;have hp:0<t.length:=List.length_pos_of_mem hx;simp only[List.length_cons];omega
theorem zot {L:List (Lay×Str)} {bs:List Bool} {s t:List Wd} (hs:OkD L s) (ht:OkD L t) (ns:s.Nodup) (nt:t.Nodup):sameW s t=decide (canon L bs s=canon L bs t):=by
 unfold sameW;rw[decide_eq_decide,zwc hs ht];constructor
 . rintro⟨h1,h2⟩ x;refine⟨h2 x,fun hx=>?_⟩;apply Classical.byContradiction;intro hn;have:=zbz (x::s) t (List.nodup_cons.2 ⟨hn,ns⟩) fun y hy=>by
     rcases List.mem_cons.1 hy with rfl|hy
     . exact hx
     . exact h2 y hy
   simp only[List.length_cons] at this;omega
 . intro h;exact⟨Nat.le_antisymm (zbz s t ns fun x hx=>(h x).1 hx) (zbz t s nt fun x hx=>(h x).2 hx),fun x hx=>(h x).1 hx⟩
theorem zp8 {α:Type} {l:List α} {x:α} (h:l.Nodup) (hx:x∉l):(l++[x]).Nodup:=by
 rw[List.nodup_append];refine⟨h,by simp,fun a ha b hb=>?_⟩;rw[List.mem_singleton] at hb;subst hb;exact fun e=>hx (e▸ha)
theorem zfp (s:Lay) (b:Nat) (x:Wd):∀ (l:List Nat) (o:List Wd),o.Nodup->(folOne s b x l o).Nodup
 | [],o,h=>h
 | q::l,o,h=>by
   rw[folOne];apply zfp s b x l;unfold folPut;split
   . rename_i h1;exact zp8 h h1.2
   . exact h
theorem zg9 (L:List (Lay×Str)) (lam b:Nat):∀ (st o:List Wd),o.Nodup->(stepW L lam b st o).Nodup
 | [],o,h=>h
 | x::st,o,h=>by
   rw[stepW];apply zg9 L lam b st;unfold stepOne;split
   . split
     . exact zfp _ _ _ _ _ h
     . exact h
   . exact h
theorem zkl {α β:Type} (f:α->β) (hf:∀ a b,f a=f b->a=b):∀ (l:List α),l.Nodup->(l.map f).Nodup
 | [],h=>by simp
 | x::l,h=>by
   rw[List.nodup_cons] at h;rw[List.map_cons,List.nodup_cons];refine⟨fun hm=>?_,zkl f hf l h.2⟩;obtain⟨y,hy,e⟩:=List.mem_map.1 hm;exact h.1 (hf _ _ e▸hy)
theorem zi7 {L:List (Lay×Str)} (b:Nat) (hN:∀ s x,(s,x)∈L->x.first.Nodup):∀ k,k<=L.length->(fstN L b k).Nodup
 | 0,h=>by simp[fstN]
 | k+1,h=>by
   rw[fstN,zca (r:=k) (by omega),List.nodup_append];simp only;have hm:(L.getD k lx0)∈L:=(by rw[List.getD_eq_getElem?_getD,List.getElem?_eq_getElem (show k<L.length by omega)];exact List.getElem_mem _);refine⟨zi7 b hN k (by omega),?_,fun y hy z hz e=>?_⟩
   . unfold fstOne;apply zkl _ (fun a b e=>by injection e);exact (hN _ _ hm).sublist (List.filter_sublist)
   . subst e;have h1:=((zm7 L b y k (by omega)).1 hy).1;unfold fstOne at hz;rw[List.mem_map] at hz;obtain⟨p,_,rfl⟩:=hz;simp at h1
theorem zlp {L:List (Lay×Str)} (hN:∀ s x,(s,x)∈L->x.first.Nodup) (lam b:Nat) (s:List Wd):(stepD L lam b s).Nodup:=zg9 L lam b s _ (zi7 b hN _ (Nat.le_refl _))
theorem zq4 {L:List (Lay×Str)} {bs:List Bool} {lam:Nat} (hlam:lam<=32) {s:List Wd} (hs:OkD L s) (ha:∀ x∈s,x.age<=lam) (hn:s.Nodup):s.length<=baseOf L bs L.length*64:=by
 have h1:(s.map fun x=>gpl L bs x.rule x.place*64+x.age).Nodup:=by
   have key:∀ (s:List Wd),OkD L s->(∀ x∈s,x.age<=lam)->s.Nodup->(s.map fun x=>gpl L bs x.rule x.place*64+x.age).Nodup:=by
     intro s;induction s with
     | nil=>intro _ _ _;simp
     | cons x s ih =>
       intro hs ha hn;rw[List.nodup_cons] at hn;rw[List.map_cons,List.nodup_cons];refine⟨fun hm=>?_,ih (fun y hy=>hs y (List.mem_cons_of_mem _ hy)) (fun y hy=>ha y (List.mem_cons_of_mem _ hy)) hn.2⟩;obtain⟨y,hy,e⟩:=List.mem_map.1 hm;have a1:=ha x List.mem_cons_self;have a2:=ha y (List.mem_cons_of_mem _ hy);have e1:gpl L bs y.rule y.place=gpl L bs x.rule x.place:=(by omega);have e2:y.age=x.age:=(by omega);obtain⟨e3,e4⟩:=zgx (hs y (List.mem_cons_of_mem _ hy)).2 (hs x List.mem_cons_self).2 e1;have:y=x:=Wd.ext' e3 e4 e2;exact hn.1 (this▸hy)
   exact key s hs ha hn
 have h2:=zbz _ (List.range (baseOf L bs L.length*64)) h1 fun v hv=>by
   obtain⟨x,hx,rfl⟩:=List.mem_map.1 hv;have h3:=zev (bs:=bs) (hs x hx).1 (hs x hx).2;have h4:=ha x hx;rw[List.mem_range];omega
 simpa using h2
theorem zj8 (R:RSt) (a:Nat):∀ (st:List (Nat×Nat)) (o:Nat×Nat),((mOutP R st o).1.testBit a=true↔o.1.testBit a=true∨∃ x∈st,∃ q,R.places[x.1]?=some q∧q.last=true∧q.luhn=false∧x.2.testBit a=true)∧((mOutP R st o).2.testBit a=true↔o.2.testBit a=true∨∃ x∈st,∃ q,R.places[x.1]?=some q∧q.last=true∧q.luhn=true∧x.2.testBit a=true)
 | [],o=>by simp[mOutP]
 | x::st,o=>by
   rw[mOutP];obtain⟨i1,i2⟩:=zj8 R a st (outStep R x o);rw[i1,i2];simp only[List.mem_cons,exists_eq_or_imp];have key:((outStep R x o).1.testBit a=true↔o.1.testBit a=true∨∃ q,R.places[x.1]?=some q∧q.last=true∧q.luhn=false∧x.2.testBit a=true)∧((outStep R x o).2.testBit a=true↔o.2.testBit a=true∨∃ q,R.places[x.1]?=some q∧q.last=true∧q.luhn=true∧x.2.testBit a=true):=by
     unfold outStep;cases e:R.places[x.1]? with
     | none=>simp
     | some q =>
       simp only[Option.some.injEq,exists_eq_left'];cases h1:q.last
       . simp
       . cases h2:q.luhn
         . simp[Nat.testBit_or]
         . simp[Nat.testBit_or]
   rw[key.1,key.2,or_assoc,or_assoc];exact⟨Iff.rfl,Iff.rfl⟩
theorem zix (L:List (Lay×Str)) (bs:List Bool) (a:Nat):∀ (s:List Wd) (o:Nat×Nat),((tellW L bs s o).1.testBit a=true↔o.1.testBit a=true∨∃ x∈s,∃ y t b,L[x.rule]?=some (y,t)∧bs[x.rule]?=some b∧t.last.contains x.place=true∧b=false∧x.age=a)∧((tellW L bs s o).2.testBit a=true↔o.2.testBit a=true∨∃ x∈s,∃ y t b,L[x.rule]?=some (y,t)∧bs[x.rule]?=some b∧t.last.contains x.place=true∧b=true∧x.age=a)
 | [],o=>by simp[tellW]
 | x::s,o=>by
   rw[tellW];obtain⟨i1,i2⟩:=zix L bs a s (tellStep L bs x o);rw[i1,i2];simp only[List.mem_cons,exists_eq_or_imp];have key:((tellStep L bs x o).1.testBit a=true↔o.1.testBit a=true∨∃ y t b,L[x.rule]?=some (y,t)∧bs[x.rule]?=some b∧t.last.contains x.place=true∧b=false∧x.age=a)∧((tellStep L bs x o).2.testBit a=true↔o.2.testBit a=true∨∃ y t b,L[x.rule]?=some (y,t)∧bs[x.rule]?=some b∧t.last.contains x.place=true∧b=true∧x.age=a):=by
     unfold tellStep;cases e:L[x.rule]? with
     | none=>simp
     | some yt =>
       obtain⟨y,t⟩:=yt;cases e2:bs[x.rule]? with
       | none=>simp
       | some b =>
         simp only;cases h1:t.last.contains x.place
         . constructor
           . constructor
             . exact fun h => .inl (by simpa using h)
             . rintro (h|⟨y',t',b',h2,h3,h4,_⟩)
               . simpa using h
               . injection h2 with h2
                 injection h2 with h2 h5
                 subst h5;rw[h1] at h4;cases h4
           . constructor
             . exact fun h => .inl (by simpa using h)
             . rintro (h|⟨y',t',b',h2,h3,h4,_⟩)
               . simpa using h
               . injection h2 with h2
                 injection h2 with h2 h5
                 subst h5;rw[h1] at h4;cases h4
         . cases b
           . simp only[if_true,Bool.false_eq_true,if_false,Nat.testBit_or,Bool.or_eq_true,Nat.testBit_two_pow,decide_eq_true_iff];constructor
             . constructor
               . rintro (h|h)
                 . exact .inl h
                 . exact .inr ⟨y,t,false,rfl,rfl,h1,rfl,h⟩
               . rintro (h|⟨_,_,_,_,_,_,_,h⟩)
                 . exact .inl h
                 . exact .inr h
             . constructor
               . exact fun h => .inl h
               . rintro (h|⟨_,_,b',_,h3,_,h4,h⟩)
                 . exact h
                 . subst h4;injection h3 with h3
                   cases h3
           . simp only[if_true,Nat.testBit_or,Bool.or_eq_true,Nat.testBit_two_pow,decide_eq_true_iff];constructor
             . constructor
               . exact fun h => .inl h
               . rintro (h|⟨_,_,b',_,h3,_,h4,h⟩)
                 . exact h
                 . subst h4;injection h3 with h3
                   cases h3
             . constructor
               . rintro (h|h)
                 . exact .inl h
                 . exact .inr ⟨y,t,true,rfl,rfl,h1,rfl,h⟩
               . rintro (h|⟨_,_,_,_,_,_,_,h⟩)
                 . exact .inl h
                 . exact .inr h
   rw[key.1,key.2,or_assoc,or_assoc];exact⟨Iff.rfl,Iff.rfl⟩
theorem zrd {L:List (Lay×Str)} {bs:List Bool} {lam:Nat} (hbs:bs.length=L.length) {s:List Wd} (hs:OkD L s):mOutP (RR L bs lam) (canon L bs s) (0,0)=tellW L bs s (0,0):=by
 have key:∀ (c:Bool) (a:Nat),(∃ x∈canon L bs s,∃ q,(RR L bs lam).places[x.1]?=some q∧q.last=true∧q.luhn=c∧x.2.testBit a=true)↔∃ x∈s,∃ y t b,L[x.rule]?=some (y,t)∧bs[x.rule]?=some b∧t.last.contains x.place=true∧b=c∧x.age=a:=fun c a=>by
   constructor
   . rintro⟨⟨p,n⟩,hx,q,h1,h2,h3,h4⟩;obtain⟨h5,rfl,_⟩:=(zdk L bs s p n).1 hx;obtain⟨x,hxs,rfl,h7⟩:=(zbs L bs _ _ _).1 h4;obtain⟨h8,h9⟩:=hs x hxs;have hg:(RR L bs lam).places[gpl L bs x.rule x.place]?=some (plcOf (L.getD x.rule lx0).1 (L.getD x.rule lx0).2 (baseOf L bs x.rule) (bs.getD x.rule false) x.place):=zdn _ _ _ h8 h9;rw[hg] at h1;injection h1 with h1
     subst h1;have hb:bs[x.rule]?=some (bs.getD x.rule false):=(by rw[List.getD_eq_getElem?_getD,List.getElem?_eq_getElem (show x.rule<bs.length by omega)];rfl);exact⟨x,hxs,_,_,_,zca h8,hb,h2,h3,h7⟩
   . rintro⟨x,hxs,y,t,b,h1,h2,h3,h4,h5⟩;obtain⟨h8,h9⟩:=hs x hxs;have hbit:(bitsOf L bs s (gpl L bs x.rule x.place)).testBit a=true:=(zbs L bs _ _ _).2 ⟨x,hxs,rfl,h5⟩;have hl:=getD_some h1;refine⟨(gpl L bs x.rule x.place,bitsOf L bs s (gpl L bs x.rule x.place)),(zdk L bs s _ _).2 ⟨zev h8 h9,rfl,zh7 hbit⟩,_,zdn _ _ _ h8 h9,?_,?_,hbit⟩
     . show (L.getD x.rule lx0).2.last.contains x.place=true
       rw[hl];exact h3
     . show bs.getD x.rule false=c
       rw[List.getD_eq_getElem?_getD,h2];exact h4
 have h1:(mOutP (RR L bs lam) (canon L bs s) (0,0)).1=(tellW L bs s (0,0)).1:=zct fun a=>by rw[(zj8 _ a _ _).1,(zix L bs a _ _).1,key]
 have h2:(mOutP (RR L bs lam) (canon L bs s) (0,0)).2=(tellW L bs s (0,0)).2:=zct fun a=>by rw[(zj8 _ a _ _).2,(zix L bs a _ _).2,key]
 exact Prod.ext h1 h2
section
def markS (r:PT×List Nat) (s:Nat):PT×List Nat:=(markF r.1 s,if r.1.md (r.1.grp s)=0 then r.2++[r.1.grp s] else r.2)
def markAll:List Nat->PT×List Nat->PT×List Nat
 | [],r=>r
 | s::l,r=>markAll l (markS r s)
structure MI (p:PT) (done:List Nat) (r:PT×List Nat):Prop where
 inv:PInv r.1
 eN:r.1.N=p.N
 en':r.1.n=p.n
 eg:r.1.grp=p.grp
 mks:∀ x,x<p.N->(Mk r.1 x↔x∈done)
 nod:r.2.Nodup
 set:∀ k,k<p.n->(k∈r.2↔0<r.1.md k)
 sub:∀ k∈r.2,k<p.n
theorem zfa {p:PT}:∀ (l done:List Nat) (r:PT×List Nat),MI p done r->(done++l).Nodup->(∀ s∈l,s<p.N)->MI p (done++l) (markAll l r)
 | [],done,r,h,hn,hs=>by simpa [markAll] using h
 | s::l,done,r,h,hn,hs=>by
   have hsN:s<p.N:=hs s (by simp);have hsd:s∉done:=by
     intro hm;rw[List.nodup_append] at hn;exact hn.2.2 s hm s (by simp) rfl
   have hmk:¬ Mk r.1 s:=fun e=>hsd ((h.mks s hsN).1 e)
   obtain⟨a1,a2,a3,a4,a5,a6,a7⟩:=zvd h.inv (by rw[h.eN];exact hsN) hmk;have hmd:(markF r.1 s).md=upd r.1.md (r.1.grp s) (r.1.md (r.1.grp s)+1):=rfl;have hg:r.1.grp s<p.n:=(by have:=h.inv.gn s (by rw[h.eN];exact hsN);rw[h.en'] at this;exact this);have h1:MI p (done++[s]) (markS r s):=by
     refine⟨a1,a2.trans h.eN,a3.trans h.en',a4.trans h.eg,fun x hx=>?_,?_,fun k hk=>?_,fun k hk=>?_⟩
     . rw[show (markS r s).1=markF r.1 s from rfl,a7 x (by rw[h.eN];exact hx),h.mks x hx,List.mem_append,List.mem_singleton]
     . unfold markS;simp only;split
       . rename_i h0;rw[List.nodup_append];refine⟨h.nod,by simp,fun a ha b hb=>?_⟩;rw[List.mem_singleton] at hb;subst hb;intro e;subst e;have:=(h.set _ hg).1 ha;omega
       . exact h.nod
     . unfold markS;simp only;rw[hmd]
       by_cases c:k=r.1.grp s
       . subst c;rw[zai];split
         . simp
         . rename_i h0;rw[h.set _ hg];omega
       . rw[zar _ _ c,←h.set k hk];split
         . simp[c]
         . exact Iff.rfl
     . unfold markS at hk;simp only at hk;split at hk
       . rw[List.mem_append,List.mem_singleton] at hk;rcases hk with hk|rfl
         . exact h.sub k hk
         . exact hg
       . exact h.sub k hk
   have:=zfa l (done++[s]) (markS r s) h1 (by simpa using hn) (fun x hx=>hs x (by simp[hx]))
   simpa [markAll] using this
def classF (ms:List Nat) (p:PT):PT:=partAll (markAll ms (p,[])).2 (markAll ms (p,[])).1
def Clear (p:PT):Prop:=∀ k,k<p.n->p.md k=0
section
variable {alk:Nat->Nat->Prop} {A:(Nat->Prop)->Prop} {g:Nat} {p:PT}
theorem zl5 (hp:PInv p) (hc:Clear p) (hh:HI alk A g p) (hg:g<=p.n) {ms:List Nat} (hn:ms.Nodup) (hs:∀ s∈ms,s<p.N) (hM:∀ s t,alk s t->(s∈ms↔t∈ms)):
   PInv (classF ms p)∧(classF ms p).N=p.N∧HI alk A g (classF ms p)∧p.n<=(classF ms p).n∧Clear (classF ms p)∧∀ s t,s<p.N->t<p.N->(classF ms p).grp s=(classF ms p).grp t->p.grp s=p.grp t∧(s∈ms↔t∈ms):=by
 have h0:MI p [] (p,[]):=⟨hp,rfl,rfl,rfl,fun x hx=>by simp;exact zj9 hp hx (hc _ (hp.gn x hx)),by simp,fun k hk=>by simp;exact hc k hk,fun k hk=>by simp at hk⟩;have h1:=zfa ms [] (p,[]) h0 (by simpa using hn) hs;rw[List.nil_append] at h1;unfold classF;obtain⟨r,hr⟩:∃ r,markAll ms (p,[])=r:=⟨_,rfl⟩;rw[hr] at h1 ⊢;have hhr:HI alk A g r.1:=⟨fun s t a b c=>by rw[h1.eg];exact hh.i0 s t (h1.eN▸a) (h1.eN▸b) c,fun s t a b c d=>by
   rw[h1.eg] at d ⊢;exact hh.i2 s t (h1.eN▸a) (h1.eN▸b) c fun k k1 k2=>d k k1 (by rw[h1.en'];exact k2)⟩
 have hmid:MidH (· ∈ ms) r.1:=by
   refine⟨fun s t a b c d=>?_,fun x hx hz=>h1.mks x (h1.eN▸hx)⟩;have e1:=zj9 h1.inv a d;have e2:=zj9 h1.inv b (by rw[←c];exact d);rw[h1.mks s (h1.eN▸a)] at e1;rw[h1.mks t (h1.eN▸b)] at e2;exact⟨fun z=>absurd z e1,fun z=>absurd z e2⟩
 obtain⟨q1,q2,q3,q4,q5,q6⟩:=zhu (M:=(· ∈ ms)) hM r.2 r.1 h1.inv hhr hmid (by rw[h1.en'];exact hg) h1.nod (fun k hk=>h1.set k (by rw[←h1.en'];exact hk)) (fun k hk=>by rw[h1.en'];exact h1.sub k hk);refine⟨q1,q2.trans h1.eN,q3,by rw[h1.en'] at q4;exact q4,q5,fun s t a b c=>?_⟩;obtain⟨z1,z2⟩:=q6 s t (by rw[h1.eN];exact a) (by rw[h1.eN];exact b) c;rw[h1.eg] at z1;exact⟨z1,z2⟩
def byCls (ms:Nat->List Nat):Nat->Nat->PT->PT
 | 0,c,p=>p
 | k+1,c,p=>byCls ms k (c+1) (classF (ms c) p)
theorem zo8 {δ:Nat->Nat->Nat} {C:Nat} {G:Nat->Prop} {ms:Nat->List Nat} (hal:Alike δ C alk) (N:Nat) (hn:∀ c,c<C->(ms c).Nodup) (hs:∀ c,c<C->∀ s,(s∈ms c↔s<N∧G (δ s c))) (haN:∀ s t,alk s t->(s<N↔t<N)) (hG:∀ s t,alk s t->(G s↔G t)):
   ∀ (k c:Nat) (p:PT),p.N=N->c+k=C->PInv p->Clear p->HI alk A g p->g<=p.n->
     PInv (byCls ms k c p)∧(byCls ms k c p).N=N∧HI alk A g (byCls ms k c p)∧p.n<=(byCls ms k c p).n∧Clear (byCls ms k c p)∧∀ s t,s<N->t<N->(byCls ms k c p).grp s=(byCls ms k c p).grp t->p.grp s=p.grp t∧∀ d,c<=d->d<C->(G (δ s d)↔G (δ t d))
 | 0,c,p,hN,hk,hp,hc,hh,hg=>⟨hp,hN,hh,Nat.le_refl _,hc,fun s t a b e=>⟨e,fun d d1 d2=>by omega⟩⟩
 | k+1,c,p,hN,hk,hp,hc,hh,hg=>by
   have hcC:c<C:=(by omega);obtain⟨q1,q2,q3,q4,q5,q6⟩:=zl5 hp hc hh hg (hn c hcC) (fun s h=>by rw[hN];exact ((hs c hcC s).1 h).1) (fun s t h=>by rw[hs c hcC,hs c hcC,haN s t h,hG _ _ (hal.step s t c hcC h)]);obtain⟨r1,r2,r3,r4,r5,r6⟩:=zo8 hal N hn hs haN hG k (c+1) (classF (ms c) p) (q2.trans hN) (by omega) q1 q5 q3 (by omega);refine⟨r1,r2,r3,by show p.n<=(byCls ms k (c+1) (classF (ms c) p)).n;omega,r5,fun s t a b e=>?_⟩;obtain⟨z1,z2⟩:=r6 s t a b e;obtain⟨y1,y2⟩:=q6 s t (by rw[hN];exact a) (by rw[hN];exact b) z1;refine⟨y1,fun d d1 d2=>?_⟩
   by_cases ed:d=c
   . subst ed;rw[hs d hcC,hs d hcC] at y2;exact⟨fun z=>(y2.1 ⟨a,z⟩).2,fun z=>(y2.2 ⟨b,z⟩).2⟩
   . exact z2 d (by omega) d2
end
def Stab (δ:Nat->Nat->Nat) (C:Nat) (A:(Nat->Prop)->Prop) (p:PT):Prop:=∀ X,A X->∀ s t,s<p.N->t<p.N->p.grp s=p.grp t->∀ c,c<C->(X (δ s c)↔X (δ t c))
theorem zy4 {δ:Nat->Nat->Nat} {C g:Nat} {alk:Nat->Nat->Prop} {A:(Nat->Prop)->Prop} {p:PT} {ms:Nat->List Nat} (hal:Alike δ C alk) (haN:∀ s t,alk s t->(s<p.N↔t<p.N)) (hp:PInv p) (hc:Clear p) (hh:HI alk A g p) (hst:Stab δ C A p) (hg:g<p.n)
   (hn:∀ c,c<C->(ms c).Nodup) (hs:∀ c,c<C->∀ s,(s∈ms c↔s<p.N∧(δ s c<p.N∧p.grp (δ s c)=g))):
   PInv (byCls ms C 0 p)∧(byCls ms C 0 p).N=p.N∧p.n<=(byCls ms C 0 p).n∧Clear (byCls ms C 0 p)∧(∃ A',HI alk A' (g+1) (byCls ms C 0 p)∧Stab δ C A' (byCls ms C 0 p))∧∀ s t,s<p.N->t<p.N->(byCls ms C 0 p).grp s=(byCls ms C 0 p).grp t->p.grp s=p.grp t:=by
 have hh':HI alk (fun X=>A X∨X=fun x=>x<p.N∧p.grp x=g) (g+1) p:=by
   refine⟨hh.i0,fun s t a b hX hk=>hh.i2 s t a b (fun X h=>hX X (.inl h)) fun k k1 k2=>?_⟩
   by_cases e:k=g
   . subst e;have:=hX _ (.inr rfl);simp only[a,b,true_and] at this;exact this
   . exact hk k (by omega) k2
 have hG:∀ s t,alk s t->((fun x=>x<p.N∧p.grp x=g) s↔(fun x=>x<p.N∧p.grp x=g) t):=fun s t h=>by
   have h1:=haN s t h;constructor
   . rintro⟨a,b⟩;exact⟨h1.1 a,by rw[←hh.i0 s t a (h1.1 a) h];exact b⟩
   . rintro⟨a,b⟩;exact⟨h1.2 a,by rw[hh.i0 s t (h1.2 a) a h];exact b⟩
 obtain⟨q1,q2,q3,q4,q5,q6⟩:=zo8 (G:=fun x=>x<p.N∧p.grp x=g) (ms:=ms) hal p.N hn hs haN hG C 0 p rfl (by omega) hp hc hh' (by omega);refine⟨q1,q2,q4,q5,⟨_,q3,fun X hX s t a b e c hcC=>?_⟩,fun s t a b e=>(q6 s t a b e).1⟩;rw[q2] at a b;obtain⟨z1,z2⟩:=q6 s t a b e;rcases hX with hX|rfl
 . exact hst X hX s t a b z1 c hcC
 . exact z2 c (Nat.zero_le _) hcC
theorem zua {δ:Nat->Nat->Nat} {C:Nat} {alk:Nat->Nat->Prop} {A:(Nat->Prop)->Prop} {p:PT} (hh:HI alk A p.n p) (hst:Stab δ C A p) (hδ:∀ s c,s<p.N->c<C->δ s c<p.N) {s t c:Nat} (hs:s<p.N) (ht:t<p.N) (e:p.grp s=p.grp t) (hc:c<C):p.grp (δ s c)=p.grp (δ t c):=
 hh.i2 _ _ (hδ s c hs hc) (hδ t c ht hc) (fun X hX=>hst X hX s t hs ht e c hc) fun k k1 k2=>by omega
def goW (δ:Nat->Nat->Nat):List Nat->Nat->Nat
 | [],s=>s
 | c::w,s=>goW δ w (δ s c)
def Alk {O:Type} (δ:Nat->Nat->Nat) (o:Nat->O) (N C:Nat) (s t:Nat):Prop:=s<N∧t<N∧∀ w:List Nat,(∀ c∈w,c<C)->o (goW δ w s)=o (goW δ w t)
theorem zty {O:Type} {δ:Nat->Nat->Nat} {o:Nat->O} {C:Nat} {p:PT} (hδ:∀ s c,s<p.N->c<C->δ s c<p.N) (ho:∀ s t,s<p.N->t<p.N->p.grp s=p.grp t->o s=o t) (hst:∀ s t c,s<p.N->t<p.N->p.grp s=p.grp t->c<C->p.grp (δ s c)=p.grp (δ t c)):
   ∀ (w:List Nat) (s t:Nat),(∀ c∈w,c<C)->s<p.N->t<p.N->p.grp s=p.grp t->o (goW δ w s)=o (goW δ w t)
 | [],s,t,_,hs,ht,e=>ho s t hs ht e
 | c::w,s,t,hw,hs,ht,e=>zty hδ ho hst w (δ s c) (δ t c) (fun x hx=>hw x (by simp[hx])) (hδ s c hs (hw c (by simp))) (hδ t c ht (hw c (by simp))) (hst s t c hs ht e (hw c (by simp)))
theorem zli {O:Type} {δ:Nat->Nat->Nat} {o:Nat->O} {N C:Nat} (hδ:∀ s c,s<N->c<C->δ s c<N):Alike δ C (Alk δ o N C):=
 ⟨fun s t c hc h=>⟨hδ s c h.1 hc,hδ t c h.2.1 hc,fun w hw=>h.2.2 (c::w) (fun d hd=>by
   rw[List.mem_cons] at hd;rcases hd with rfl|hd
   . exact hc
   . exact hw d hd)⟩⟩
theorem zze {O:Type} {δ:Nat->Nat->Nat} {o:Nat->O} {N C s t:Nat} (h:Alk δ o N C s t):s<N↔t<N:=⟨fun _=>h.2.1,fun _=>h.1⟩
theorem zvu {O:Type} {δ:Nat->Nat->Nat} {o:Nat->O} {C:Nat} {p:PT} (hp:PInv p) (ho:∀ s t,s<p.N->t<p.N->(p.grp s=p.grp t↔o s=o t)):HI (Alk δ o p.N C) (fun _=>False) 0 p:=
 ⟨fun s t hs ht h=>(ho s t hs ht).2 (h.2.2 [] (fun c hc=>by simp at hc)),fun s t hs ht _ hk=>((hk (p.grp s) (Nat.zero_le _) (hp.gn s hs)).1 rfl).symm⟩
theorem zz5 {O:Type} {δ:Nat->Nat->Nat} {o:Nat->O} {C:Nat} {A:(Nat->Prop)->Prop} {p:PT} (hδ:∀ s c,s<p.N->c<C->δ s c<p.N) (hh:HI (Alk δ o p.N C) A p.n p) (hst:Stab δ C A p) (ho:∀ s t,s<p.N->t<p.N->p.grp s=p.grp t->o s=o t) {s t:Nat} (hs:s<p.N) (ht:t<p.N):
   p.grp s=p.grp t↔Alk δ o p.N C s t:=
 ⟨fun e=>⟨hs,ht,fun w hw=>zty hδ ho (fun s t c a b e hc=>zua hh hst hδ a b e hc) w s t hw hs ht e⟩,fun h=>hh.i0 s t hs ht h⟩
theorem zcs {p:PT} (h:PInv p):p.n<=p.N:=by
 have hb:∀ g,g<p.n->p.bg g<p.N∧p.grp (p.st (p.bg g))=g:=fun g hg=>by
   have:=h.ne g hg;exact h.of g (p.bg g) hg (Nat.le_refl _) this.1
 have hn:((List.range p.n).map p.bg).Nodup:=by
   rw[List.nodup_iff_pairwise_ne,List.pairwise_map];refine List.Pairwise.imp_of_mem ?_ (List.nodup_iff_pairwise_ne.1 List.nodup_range);intro a b ha hb' hne e;rw[List.mem_range] at ha hb';apply hne;rw[←(hb a ha).2,←(hb b hb').2,e]
 have:=zbz _ (List.range p.N) hn (fun x hx=>by
   rw[List.mem_map] at hx;obtain⟨g,hg,rfl⟩:=hx;rw[List.mem_range] at hg ⊢;exact (hb g hg).1)
 simpa using this
end
end Go.Proofs.Ytgbdanddbgomhaa
