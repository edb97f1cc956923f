import Derived.Test.YtgbdanddbgomhaaDoorMw26
set_option linter.unusedVariables false
set_option linter.unusedSimpArgs false
namespace Go.Proofs.YtgbdanddbgomhaaDoor
open Go
def RR (L:List (Lay×Str)) (bs:List Bool) (lam:Nat):RSt:=⟨togP L bs L.length,togF L bs L.length,lam⟩
def baseOf (L:List (Lay×Str)) (bs:List Bool) (k:Nat):Nat:=(togP L bs k).length
def szOf (L:List (Lay×Str)) (k:Nat):Nat:=(L.getD k lx0).1.sets.length
theorem zg3 (L:List (Lay×Str)) (bs:List Bool) (k:Nat):baseOf L bs (k+1)=baseOf L bs k+szOf L k:=by
 unfold baseOf szOf;rw[togP,List.length_append,zao]
theorem zs0 (L:List (Lay×Str)) (bs:List Bool) {a b:Nat} (h:a<=b):baseOf L bs a<=baseOf L bs b:=by
 induction b with
 | zero =>
           have:a=0:=by omega
           subst this;exact Nat.le_refl _
 | succ b ih =>
   by_cases e:a=b+1
   . subst e;exact Nat.le_refl _
   . have:=ih (by omega);rw[zg3];omega
def gpl (L:List (Lay×Str)) (bs:List Bool) (r p:Nat):Nat:=baseOf L bs r+p
theorem zjl {L:List (Lay×Str)} {bs:List Bool} {r p n:Nat} (hr:r<n) (hp:p<szOf L r):gpl L bs r p<baseOf L bs n:=by
 have h1:=zs0 L bs (a:=r+1) (b:=n) hr;rw[zg3] at h1;unfold gpl;omega
theorem zkq {L:List (Lay×Str)} {bs:List Bool} {r p r' p':Nat} (hp:p<szOf L r) (hp':p'<szOf L r') (h:gpl L bs r p=gpl L bs r' p'):r=r'∧p=p':=by
 rcases Nat.lt_trichotomy r r' with h1|h1|h1
 . have:=zjl (bs:=bs) h1 hp;unfold gpl at h this;omega
 . subst h1;unfold gpl at h;exact⟨rfl,by omega⟩
 . have:=zjl (bs:=bs) h1 hp';unfold gpl at h this;omega
theorem zr6 (L:List (Lay×Str)) (bs:List Bool):∀ n q,q<baseOf L bs n->∃ r p,r<n∧p<szOf L r∧q=gpl L bs r p
 | 0,q,h=>by simp[baseOf,togP] at h
 | n+1,q,h=>by
   by_cases e:q<baseOf L bs n
   . obtain⟨r,p,h1,h2,h3⟩:=zr6 L bs n q e;exact⟨r,p,by omega,h2,h3⟩
   . rw[zg3] at h;exact⟨n,q-baseOf L bs n,by omega,by omega,by unfold gpl;omega⟩
theorem zcy {L:List (Lay×Str)} {bs:List Bool}:∀ (n r p:Nat),r<n->p<szOf L r->(togP L bs n)[gpl L bs r p]?=some (plcOf (L.getD r lx0).1 (L.getD r lx0).2 (baseOf L bs r) (bs.getD r false) p)
 | 0,r,p,h,hp=>by omega
 | n+1,r,p,h,hp=>by
   rw[togP]
   by_cases e:r<n
   . rw[List.getElem?_append_left (zjl e hp)];exact zcy n r p e hp
   . have:r=n:=by omega
     subst this;rw[List.getElem?_append_right (show (togP L bs r).length<=gpl L bs r p from Nat.le_add_right _ _)];have e2:gpl L bs r p-(togP L bs r).length=p:=(by unfold gpl baseOf;omega);rw[e2];exact zgj _ _ hp
theorem getD_some {L:List (Lay×Str)} {r:Nat} {s:Lay} {t:Str} (h:L[r]?=some (s,t)):L.getD r lx0=(s,t):=by rw[List.getD_eq_getElem?_getD,h];rfl
theorem zcj {L:List (Lay×Str)} {r:Nat} (h:r<L.length):L[r]?=some ((L.getD r lx0).1,(L.getD r lx0).2):=by rw[List.getD_eq_getElem?_getD,List.getElem?_eq_getElem h];rfl
theorem zlb {L:List (Lay×Str)} {bs:List Bool} {q:Nat}:∀ n,q∈togF L bs n↔∃ r p,r<n∧p∈(L.getD r lx0).2.first∧q=gpl L bs r p
 | 0=>by simp[togF]
 | n+1=>by
   rw[togF,List.mem_append,zlb n,List.mem_map];constructor
   . rintro (⟨r,p,h1,h2,h3⟩|⟨p,h1,h2⟩)
     . exact⟨r,p,by omega,h2,h3⟩
     . exact⟨n,p,by omega,h1,h2.symm⟩
   . rintro⟨r,p,h1,h2,h3⟩
     by_cases e:r<n
     . exact .inl ⟨r,p,e,h2,h3⟩
     . have:r=n:=by omega
       subst this;exact .inr ⟨p,h2,h3.symm⟩
def bitsOf (L:List (Lay×Str)) (bs:List Bool):List Wd->Nat->Nat
 | [],_=>0
 | x::s,q=>if gpl L bs x.rule x.place=q then bitsOf L bs s q ||| 2 ^ x.age else bitsOf L bs s q
theorem zci (L:List (Lay×Str)) (bs:List Bool) (q a:Nat):∀ s:List Wd,(bitsOf L bs s q).testBit a=true↔∃ x∈s,gpl L bs x.rule x.place=q∧x.age=a
 | []=>by simp[bitsOf]
 | x::s=>by
   have ih:=zci L bs q a s;unfold bitsOf
   by_cases e:gpl L bs x.rule x.place=q
   . rw[if_pos e,Nat.testBit_or,Bool.or_eq_true,ih,Nat.testBit_two_pow,decide_eq_true_iff];constructor
     . rintro (⟨y,hy,h⟩|h)
       . exact⟨y,List.mem_cons_of_mem _ hy,h⟩
       . exact⟨x,List.mem_cons_self,e,h⟩
     . rintro⟨y,hy,h1,h2⟩;rcases List.mem_cons.1 hy with rfl|hy
       . exact .inr h2
       . exact .inl ⟨y,hy,h1,h2⟩
   . rw[if_neg e,ih];constructor
     . rintro⟨y,hy,h⟩;exact⟨y,List.mem_cons_of_mem _ hy,h⟩
     . rintro⟨y,hy,h1,h2⟩;rcases List.mem_cons.1 hy with rfl|hy
       . exact absurd h1 e
       . exact⟨y,hy,h1,h2⟩
theorem zd6 {m n:Nat} (h:∀ a,m.testBit a=true↔n.testBit a=true):m=n:=Nat.eq_of_testBit_eq fun a=>by
 have:=h a;cases h1:m.testBit a <;> cases h2:n.testBit a <;> simp_all
theorem zkk {n:Nat} (h:n≠0):∃ a,n.testBit a=true:=by
 apply Classical.byContradiction;intro hc;apply h;apply zd6;intro a;simp;cases e:n.testBit a
 . rfl
 . exact absurd ⟨a,e⟩ hc
theorem zg1 {n a:Nat} (h:n.testBit a=true):n≠0:=by rintro rfl;simp at h
theorem zgn (M:List Nat) (k:Nat) (x:Nat×Nat):x∈picked M k↔x.1<k∧x.2=M.getD x.1 0∧x.2≠0:=by
 unfold picked;rw[List.mem_filterMap];constructor
 . rintro⟨p,hp,h⟩;have hp':=List.mem_range.1 hp
   by_cases e:M.getD p 0=0
   . rw[if_pos e] at h;cases h
   . rw[if_neg e] at h;injection h with h
     subst h;exact⟨hp',rfl,e⟩
 . rintro⟨h1,h2,h3⟩;refine⟨x.1,List.mem_range.2 h1,?_⟩;rw[if_neg (by rw[←h2];exact h3),←h2]
theorem zj5 {M M':List Nat}:∀ {k:Nat} (h:∀ p,p<k->M.getD p 0=M'.getD p 0),picked M k=picked M' k
 | 0,h=>rfl
 | k+1,h=>by rw[zbt,zbt,zj5 fun p hp=>h p (by omega),h k (by omega)]
theorem zhv (M:List Nat) (f:Nat×Nat->Bool) (g:Nat->Bool) (hf:∀ p n,f (p,n)=g p):∀ k,(picked M k).filter f=picked ((List.range k).map fun p=>if g p=true then M.getD p 0 else 0) k:=fun k=>by
 have key:∀ j,j<=k->(picked M j).filter f=picked ((List.range k).map fun p=>if g p=true then M.getD p 0 else 0) j:=by
   intro j;induction j with
   | zero=>intro _;rfl
   | succ j ih =>
     intro hj;rw[zbt,zbt,List.filter_append,ih (by omega)];have e:((List.range k).map fun p=>if g p=true then M.getD p 0 else 0).getD j 0=if g j=true then M.getD j 0 else 0:=by
       rw[List.getD_eq_getElem?_getD,List.getElem?_map,List.getElem?_range (by omega)];rfl
     rw[e]
     congr 1
     obtain⟨v,hv⟩:∃ v,M.getD j 0=v:=⟨_,rfl⟩;have hfj:=hf j v;rw[hv]
     by_cases h0:v=0
     . subst h0;cases g j <;> simp
     . rw[if_neg h0];cases hg:g j
       . rw[hg] at hfj;simp[hfj]
       . rw[hg] at hfj;rw[if_pos rfl,if_neg h0,List.filter_cons_of_pos hfj];rfl
 exact key k (Nat.le_refl _)
theorem zjm (M:List Nat) (i v p:Nat):(M.set i v).getD p 0=if i=p∧i<M.length then v else M.getD p 0:=by
 rw[List.getD_eq_getElem?_getD,List.getD_eq_getElem?_getD,List.getElem?_set]
 by_cases e:i=p
 . subst e
   by_cases h:i<M.length
   . simp[h]
   . simp[h,List.getElem?_eq_none (Nat.le_of_not_lt h)]
 . simp[e]
theorem zk5:∀ (ps M:List Nat) (p:Nat),(aheadF M ps).getD p 0=if p∈ps∧p<M.length then 2 else M.getD p 0
 | [],M,p=>by simp[aheadF]
 | q::ps,M,p=>by
   rw[aheadF,zk5 ps,zjm,List.length_set]
   by_cases h1:p∈ps∧p<M.length
   . rw[if_pos h1,if_pos ⟨List.mem_cons_of_mem _ h1.1,h1.2⟩]
   . rw[if_neg h1]
     by_cases h2:q=p∧q<M.length
     . obtain⟨rfl,h3⟩:=h2;rw[if_pos ⟨rfl,h3⟩,if_pos ⟨List.mem_cons_self,h3⟩]
     . rw[if_neg h2,if_neg];rintro⟨h3,h4⟩;rcases List.mem_cons.1 h3 with rfl|h3
       . exact h2 ⟨rfl,h4⟩
       . exact h1 ⟨h3,h4⟩
theorem zhg (base n p a:Nat):∀ (qs M:List Nat),((mAddAll M base n qs).getD p 0).testBit a=true↔(M.getD p 0).testBit a=true∨(p<M.length∧(∃ q∈qs,base+q=p)∧n.testBit a=true)
 | [],M=>by simp[mAddAll]
 | q::qs,M=>by
   rw[mAddAll,zhg base n p a qs,zg7];unfold addTo;rw[zjm]
   by_cases h:base+q=p∧base+q<M.length
   . rw[if_pos h];obtain⟨rfl,h2⟩:=h;rw[Nat.testBit_or,Bool.or_eq_true];constructor
     . rintro ((h|h)|⟨h1,⟨q',h3,h4⟩,h5⟩)
       . exact .inl h
       . exact .inr ⟨h2,⟨q,List.mem_cons_self,rfl⟩,h⟩
       . exact .inr ⟨h1,⟨q',List.mem_cons_of_mem _ h3,h4⟩,h5⟩
     . rintro (h|⟨h1,h3,h5⟩)
       . exact .inl (.inl h)
       . exact .inl (.inr h5)
   . rw[if_neg h];constructor
     . rintro (h|⟨h1,⟨q',h3,h4⟩,h5⟩)
       . exact .inl h
       . exact .inr ⟨h1,⟨q',List.mem_cons_of_mem _ h3,h4⟩,h5⟩
     . rintro (h' | ⟨h1,⟨q',h3,h4⟩,h5⟩)
       . exact .inl h'
       . rcases List.mem_cons.1 h3 with rfl|h3
         . exact absurd ⟨h4,h4▸h1⟩ h
         . exact .inr ⟨h1,⟨q',h3,h4⟩,h5⟩
theorem zhd (R:RSt) (p a:Nat):∀ (st:List (Nat×Nat)) (M:List Nat),((aheadS R M st).getD p 0).testBit a=true↔(M.getD p 0).testBit a=true∨(p<M.length∧∃ x∈st,∃ pl,R.places[x.1]?=some pl∧(∃ q∈pl.fol,pl.base+q=p)∧(lon R.lam x.2).testBit a=true)
 | [],M=>by simp[aheadS]
 | x::st,M=>by
   rw[aheadS,zhd R p a st];cases e:R.places[x.1]? with
   | none =>
     simp only;constructor
     . rintro (h|⟨h1,y,hy,h⟩)
       . exact .inl h
       . exact .inr ⟨h1,y,List.mem_cons_of_mem _ hy,h⟩
     . rintro (h|⟨h1,y,hy,pl,h2,h3⟩)
       . exact .inl h
       . rcases List.mem_cons.1 hy with rfl|hy
         . rw[e] at h2;cases h2
         . exact .inr ⟨h1,y,hy,pl,h2,h3⟩
   | some pl =>
     simp only;rw[zfh,zhg];constructor
     . rintro ((h|⟨h1,h2,h3⟩)|⟨h1,y,hy,h⟩)
       . exact .inl h
       . exact .inr ⟨h1,x,List.mem_cons_self,pl,e,h2,h3⟩
       . exact .inr ⟨h1,y,List.mem_cons_of_mem _ hy,h⟩
     . rintro (h|⟨h1,y,hy,pl',h2,h3⟩)
       . exact .inl (.inl h)
       . rcases List.mem_cons.1 hy with rfl|hy
         . rw[e] at h2;injection h2 with h2
           subst h2;exact .inl (.inr ⟨h1,h3⟩)
         . exact .inr ⟨h1,y,hy,pl',h2,h3⟩
theorem zqn (lam x a:Nat):(lon lam x).testBit a=true↔1<=a∧a-1<lam∧x.testBit (a-1)=true:=by
 unfold lon;cases a with
 | zero=>simp
 | succ a =>
   have e:(x % 2 ^ lam*2).testBit (a+1)=(x % 2 ^ lam).testBit a:=by
     rw[Nat.testBit_succ]
     congr 1
     omega
   rw[e,Nat.testBit_mod_two_pow];simp
theorem zk4 (R:RSt) (st:List (Nat×Nat)) (hV:∀ p∈R.first,p<R.places.length) (p a:Nat) (hp:p<R.places.length):((aheadN R st).getD p 0).testBit a=true↔(p∈R.first∧a=1)∨∃ x∈st,∃ pl,R.places[x.1]?=some pl∧(∃ q∈pl.fol,pl.base+q=p)∧1<=a∧a-1<R.lam∧x.2.testBit (a-1)=true:=by
 unfold aheadN;rw[zhd,zhe,List.length_replicate,zk5,List.length_replicate];have h0:(List.replicate R.places.length 0).getD p 0=0:=by
   rw[List.getD_eq_getElem?_getD,List.getElem?_replicate];split <;> rfl
 rw[h0];have h2:((if p∈R.first∧p<R.places.length then 2 else 0:Nat).testBit a=true)↔(p∈R.first∧a=1):=by
   by_cases h:p∈R.first
   . rw[if_pos ⟨h,hp⟩,show (2:Nat)=2 ^ 1 from rfl,Nat.testBit_two_pow,decide_eq_true_iff];exact⟨fun e=>⟨h,e.symm⟩,fun e=>e.2.symm⟩
   . rw[if_neg fun e=>h e.1];simp[h]
 rw[h2];constructor
 . rintro (h|⟨_,x,hx,pl,h3,h4,h5⟩)
   . exact .inl h
   . exact .inr ⟨x,hx,pl,h3,h4,(zqn _ _ _).1 h5⟩
 . rintro (h|⟨x,hx,pl,h3,h4,h5⟩)
   . exact .inl h
   . exact .inr ⟨hp,x,hx,pl,h3,h4,(zqn _ _ _).2 h5⟩
theorem zh1 (s:Lay) (b:Nat) (x y:Wd):∀ (l:List Nat) (o:List Wd),y∈folOne s b x l o↔y∈o∨∃ q∈l,s.sets.getD q noneP b=true∧y=⟨x.rule,q,x.age+1⟩
 | [],o=>by simp[folOne]
 | q::l,o=>by
   rw[folOne,zh1 s b x y l];unfold folPut
   by_cases h:s.sets.getD q noneP b=true∧¬ (⟨x.rule,q,x.age+1⟩:Wd)∈o
   . rw[if_pos h,List.mem_append,List.mem_singleton];constructor
     . rintro ((h1|h1)|⟨q',h2,h3⟩)
       . exact .inl h1
       . exact .inr ⟨q,List.mem_cons_self,h.1,h1⟩
       . exact .inr ⟨q',List.mem_cons_of_mem _ h2,h3⟩
     . rintro (h1|⟨q',h2,h3,h4⟩)
       . exact .inl (.inl h1)
       . rcases List.mem_cons.1 h2 with rfl|h2
         . exact .inl (.inr h4)
         . exact .inr ⟨q',h2,h3,h4⟩
   . rw[if_neg h];constructor
     . rintro (h1|⟨q',h2,h3⟩)
       . exact .inl h1
       . exact .inr ⟨q',List.mem_cons_of_mem _ h2,h3⟩
     . rintro (h1|⟨q',h2,h3,h4⟩)
       . exact .inl h1
       . rcases List.mem_cons.1 h2 with rfl|h2
         . refine .inl ?_;apply Classical.byContradiction;intro hn;exact h ⟨h3,by rw[←h4];exact hn⟩
         . exact .inr ⟨q',h2,h3,h4⟩
theorem zkd (L:List (Lay×Str)) (lam b:Nat) (x y:Wd) (o:List Wd):y∈stepOne L lam b x o↔y∈o∨(x.rule<L.length∧x.age<lam∧∃ q∈(L.getD x.rule lx0).1.follow.getD x.place [],(L.getD x.rule lx0).1.sets.getD q noneP b=true∧y=⟨x.rule,q,x.age+1⟩):=by
 unfold stepOne
 by_cases hr:x.rule<L.length
 . rw[zcj hr];simp only
   by_cases ha:x.age<lam
   . rw[if_pos ha,zh1];simp[hr,ha]
   . rw[if_neg ha];simp[ha]
 . rw[List.getElem?_eq_none (by omega)];simp[hr]
theorem zit (L:List (Lay×Str)) (lam b:Nat) (y:Wd):∀ (st o:List Wd),y∈stepW L lam b st o↔y∈o∨∃ x∈st,x.rule<L.length∧x.age<lam∧∃ q∈(L.getD x.rule lx0).1.follow.getD x.place [],(L.getD x.rule lx0).1.sets.getD q noneP b=true∧y=⟨x.rule,q,x.age+1⟩
 | [],o=>by simp[stepW]
 | x::st,o=>by
   rw[stepW,zit L lam b y st,zkd];constructor
   . rintro ((h|h)|⟨z,hz,h⟩)
     . exact .inl h
     . exact .inr ⟨x,List.mem_cons_self,h⟩
     . exact .inr ⟨z,List.mem_cons_of_mem _ hz,h⟩
   . rintro (h|⟨z,hz,h⟩)
     . exact .inl (.inl h)
     . rcases List.mem_cons.1 hz with rfl|hz
       . exact .inl (.inr h)
       . exact .inr ⟨z,hz,h⟩
theorem zkt (L:List (Lay×Str)) (b:Nat) (y:Wd):∀ k,k<=L.length->(y∈fstN L b k↔y.rule<k∧y.age=1∧y.place∈(L.getD y.rule lx0).2.first∧(L.getD y.rule lx0).1.sets.getD y.place noneP b=true)
 | 0,h=>by simp[fstN]
 | k+1,h=>by
   rw[fstN,List.mem_append,zkt L b y k (by omega),zcj (r:=k) (by omega)];simp only;unfold fstOne;rw[List.mem_map];constructor
   . rintro (⟨h1,h2⟩|⟨p,hp,rfl⟩)
     . exact⟨by omega,h2⟩
     . rw[List.mem_filter] at hp;exact⟨by simp,rfl,hp.1,hp.2⟩
   . rintro⟨h1,h2,h3,h4⟩
     by_cases e:y.rule<k
     . exact .inl ⟨e,h2,h3,h4⟩
     . have e':y.rule=k:=(by omega);refine .inr ⟨y.place,List.mem_filter.2 ⟨by rw[←e'];exact h3,by rw[←e'];exact h4⟩,?_⟩;cases y;simp at e' h2;simp[e',h2]
def stepD (L:List (Lay×Str)) (lam b:Nat) (s:List Wd):List Wd:=stepW L lam b s (fstN L b L.length)
theorem zbq (L:List (Lay×Str)) (lam b:Nat) (s:List Wd) (y:Wd):y∈stepD L lam b s↔y.rule<L.length∧(L.getD y.rule lx0).1.sets.getD y.place noneP b=true∧((y.age=1∧y.place∈(L.getD y.rule lx0).2.first)∨∃ x∈s,x.rule=y.rule∧x.age<lam∧y.age=x.age+1∧y.place∈(L.getD y.rule lx0).1.follow.getD x.place []):=by
 unfold stepD;rw[zit,zkt L b y _ (Nat.le_refl _)];constructor
 . rintro (⟨h1,h2,h3,h4⟩|⟨x,hx,h1,h2,q,h3,h4,rfl⟩)
   . exact⟨h1,h4,.inl ⟨h2,h3⟩⟩
   . exact⟨h1,h4,.inr ⟨x,hx,rfl,h2,rfl,h3⟩⟩
 . rintro⟨h1,h2,(⟨h3,h4⟩|⟨x,hx,h3,h4,h5,h6⟩)⟩
   . exact .inl ⟨h1,h3,h4,h2⟩
   . refine .inr ⟨x,hx,by omega,h4,y.place,by rw[h3];exact h6,by rw[h3];exact h2,?_⟩;cases y;simp at h3 h5;simp[h3,h5]
end Go.Proofs.YtgbdanddbgomhaaDoor
