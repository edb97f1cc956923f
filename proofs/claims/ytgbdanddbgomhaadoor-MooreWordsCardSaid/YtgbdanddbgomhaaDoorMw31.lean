import Derived.Test.YtgbdanddbgomhaaDoorMw29
set_option linter.unusedVariables false
set_option linter.unusedSimpArgs false
namespace Go.Proofs.YtgbdanddbgomhaaDoor
open Go
def canon (L:List (Lay×Str)) (bs:List Bool) (s:List Wd):List (Nat×Nat):=picked ((List.range (baseOf L bs L.length)).map (bitsOf L bs s)) (baseOf L bs L.length)
def OkD (L:List (Lay×Str)) (s:List Wd):Prop:=∀ x∈s,x.rule<L.length∧x.place<szOf L x.rule
theorem zdv (f:Nat->Nat) (n p:Nat) (h:p<n):((List.range n).map f).getD p 0=f p:=by
 rw[List.getD_eq_getElem?_getD,List.getElem?_map,List.getElem?_range h];rfl
theorem zcw (L:List (Lay×Str)) (bs:List Bool) (s:List Wd) (p n:Nat):(p,n)∈canon L bs s↔p<baseOf L bs L.length∧n=bitsOf L bs s p∧n≠0:=by
 unfold canon;rw[zgn];constructor
 . rintro⟨h1,h2,h3⟩;simp only at h1 h2 h3;rw[zdv _ _ _ h1] at h2;exact⟨h1,h2,h3⟩
 . rintro⟨h1,h2,h3⟩;exact⟨h1,by rw[zdv _ _ _ h1];exact h2,h3⟩
theorem zq6 {L:List (Lay×Str)} (hL:∀ s x,(s,x)∈L->OkLay s x) {r:Nat} (h:r<L.length):OkLay (L.getD r lx0).1 (L.getD r lx0).2:=zkr hL h
theorem zlc {L:List (Lay×Str)} (hL:∀ s x,(s,x)∈L->OkLay s x) (lam b:Nat) (s:List Wd):OkD L (stepD L lam b s):=fun y hy=>by
 obtain⟨h1,h2,h3⟩:=(zbq L lam b s y).1 hy;have ho:=zq6 hL h1;refine⟨h1,?_⟩;rcases h3 with ⟨_,h3⟩|⟨x,_,_,_,_,h3⟩
 . exact ho.first _ h3
 . exact ho.fol _ _ h3
theorem zp1 {L:List (Lay×Str)} {lam:Nat} (hlam:1<=lam) (b:Nat) (s:List Wd):∀ y∈stepD L lam b s,1<=y.age∧y.age<=lam:=fun y hy=>by
 obtain⟨h1,h2,h3⟩:=(zbq L lam b s y).1 hy;rcases h3 with ⟨h3,_⟩|⟨x,_,_,h4,h5,_⟩ <;> omega
theorem zoa {L:List (Lay×Str)} {bs:List Bool} {lam:Nat} (hL:∀ s x,(s,x)∈L->OkLay s x) (b:Nat) {s:List Wd} (hs:OkD L s):
   (aheadL (RR L bs lam) (canon L bs s)).filter (hasAt (RR L bs lam) b)=canon L bs (stepD L lam b s):=by
 have hP:(RR L bs lam).places.length=baseOf L bs L.length:=rfl;unfold aheadL;rw[zhv _ _ (fun p=>match (RR L bs lam).places[p]? with | some pl=>pl.set b | none=>false) fun p n=>rfl,hP]
 show _=picked _ _
 refine zj5 fun p hp=>?_
 rw[zdv _ _ _ hp,zdv _ _ _ hp];obtain⟨r,q,hr,hq,rfl⟩:=zr6 L bs _ p hp;have hpl:(RR L bs lam).places[gpl L bs r q]?=some (plcOf (L.getD r lx0).1 (L.getD r lx0).2 (baseOf L bs r) (bs.getD r false) q):=zcy _ r q hr hq;rw[hpl]
 show (if (L.getD r lx0).1.sets.getD q noneP b=true then _ else 0)=_
 have hy:∀ y,y∈stepD L lam b s->gpl L bs y.rule y.place=gpl L bs r q->y.rule=r∧y.place=q:=fun y hy e=>zkq (zlc hL lam b s y hy).2 hq e
 apply zd6;intro a;rw[zci]
 by_cases hb:(L.getD r lx0).1.sets.getD q noneP b=true
 . rw[if_pos hb,zk4 _ _ (zhm hL _ (Nat.le_refl _)) _ _ hp];have hfst:gpl L bs r q∈(RR L bs lam).first↔q∈(L.getD r lx0).2.first:=by
     show gpl L bs r q∈togF L bs L.length↔_
     rw[zlb];constructor
     . rintro⟨r',p',h1,h2,h3⟩;obtain⟨rfl,rfl⟩:=zkq hq ((zq6 hL h1).first _ h2) h3;exact h2
     . intro h;exact⟨r,q,hr,h,rfl⟩
   rw[hfst];constructor
   . rintro (⟨h1,h2⟩|⟨⟨p',n⟩,hx,pl,h2,⟨f,h3,h4⟩,h5,h6,h7⟩)
     . exact⟨⟨r,q,1⟩,(zbq _ _ _ _ _).2 ⟨hr,hb,.inl ⟨rfl,h1⟩⟩,rfl,h2.symm⟩
     . obtain⟨h8,rfl,_⟩:=(zcw L bs s p' n).1 hx;obtain⟨x,hxs,rfl,h10⟩:=(zci L bs _ _ _).1 h7;obtain⟨h11,h12⟩:=hs x hxs;have hpx:(RR L bs lam).places[gpl L bs x.rule x.place]?=some (plcOf (L.getD x.rule lx0).1 (L.getD x.rule lx0).2 (baseOf L bs x.rule) (bs.getD x.rule false) x.place):=zcy _ _ _ h11 h12;rw[hpx] at h2;injection h2 with h2
       subst h2;have h3':f∈(L.getD x.rule lx0).1.follow.getD x.place []:=h3;have h4':gpl L bs x.rule f=gpl L bs r q:=h4;obtain⟨e1,e2⟩:=zkq ((zq6 hL h11).fol _ _ h3') hq h4';subst e1 e2;have h6':a-1<lam:=h6;exact⟨⟨x.rule,f,a⟩,(zbq _ _ _ _ _).2 ⟨hr,hb,.inr ⟨x,hxs,rfl,by omega,by simp only;omega,h3'⟩⟩,rfl,rfl⟩
   . rintro⟨y,hys,he,rfl⟩;obtain⟨e1,e2⟩:=hy y hys he;obtain⟨h1,h2,h3⟩:=(zbq L lam b s y).1 hys;subst e1 e2;rcases h3 with ⟨h3,h4⟩|⟨x,hxs,h4,h5,h6,h7⟩
     . exact .inl ⟨h4,h3⟩
     . obtain⟨h11,h12⟩:=hs x hxs;have hbit:(bitsOf L bs s (gpl L bs x.rule x.place)).testBit (y.age-1)=true:=(zci L bs _ _ _).2 ⟨x,hxs,rfl,by omega⟩;refine .inr ⟨(gpl L bs x.rule x.place,bitsOf L bs s (gpl L bs x.rule x.place)),(zcw L bs s _ _).2 ⟨zjl h11 h12,rfl,zg1 hbit⟩,_,zcy _ _ _ h11 h12,⟨y.place,?_,?_⟩,by omega,?_,hbit⟩
       . show y.place∈(L.getD x.rule lx0).1.follow.getD x.place []
         rw[h4];exact h7
       . show gpl L bs x.rule y.place=gpl L bs y.rule y.place
         rw[h4]
       . show y.age-1<lam
         omega
 . rw[if_neg hb];simp only[Nat.zero_testBit,Bool.false_eq_true,false_iff];rintro⟨y,hys,he,rfl⟩;obtain⟨e1,e2⟩:=hy y hys he;subst e1 e2;exact hb ((zbq L lam b s y).1 hys).2.1
theorem znq {α:Type} {l:List α} {x:α} (h:l.Nodup) (hx:x∉l):(l++[x]).Nodup:=by
 rw[List.nodup_append];refine⟨h,by simp,fun a ha b hb=>?_⟩;rw[List.mem_singleton] at hb;subst hb;exact fun e=>hx (e▸ha)
theorem zem (s:Lay) (b:Nat) (x:Wd):∀ (l:List Nat) (o:List Wd),o.Nodup->(folOne s b x l o).Nodup
 | [],o,h=>h
 | q::l,o,h=>by
   rw[folOne];apply zem s b x l;unfold folPut;split
   . rename_i h1;exact znq h h1.2
   . exact h
theorem zf7 (L:List (Lay×Str)) (lam b:Nat):∀ (st o:List Wd),o.Nodup->(stepW L lam b st o).Nodup
 | [],o,h=>h
 | x::st,o,h=>by
   rw[stepW];apply zf7 L lam b st;unfold stepOne;split
   . split
     . exact zem _ _ _ _ _ h
     . exact h
   . exact h
theorem zjb {α β:Type} (f:α->β) (hf:∀ a b,f a=f b->a=b):∀ (l:List α),l.Nodup->(l.map f).Nodup
 | [],h=>by simp
 | x::l,h=>by
   rw[List.nodup_cons] at h;rw[List.map_cons,List.nodup_cons];refine⟨fun hm=>?_,zjb f hf l h.2⟩;obtain⟨y,hy,e⟩:=List.mem_map.1 hm;exact h.1 (hf _ _ e▸hy)
theorem zh0 {L:List (Lay×Str)} (b:Nat) (hN:∀ s x,(s,x)∈L->x.first.Nodup):∀ k,k<=L.length->(fstN L b k).Nodup
 | 0,h=>by simp[fstN]
 | k+1,h=>by
   rw[fstN,zcj (r:=k) (by omega),List.nodup_append];simp only;have hm:(L.getD k lx0)∈L:=(by rw[List.getD_eq_getElem?_getD,List.getElem?_eq_getElem (show k<L.length by omega)];exact List.getElem_mem _);refine⟨zh0 b hN k (by omega),?_,fun y hy z hz e=>?_⟩
   . unfold fstOne;apply zjb _ (fun a b e=>by injection e);exact (hN _ _ hm).sublist (List.filter_sublist)
   . subst e;have h1:=((zkt L b y k (by omega)).1 hy).1;unfold fstOne at hz;rw[List.mem_map] at hz;obtain⟨p,_,rfl⟩:=hz;simp at h1
theorem zke {L:List (Lay×Str)} (hN:∀ s x,(s,x)∈L->x.first.Nodup) (lam b:Nat) (s:List Wd):(stepD L lam b s).Nodup:=zf7 L lam b s _ (zh0 b hN _ (Nat.le_refl _))
theorem zhz (R:RSt) (a:Nat):∀ (st:List (Nat×Nat)) (o:Nat×Nat),((mOutP R st o).1.testBit a=true↔o.1.testBit a=true∨∃ x∈st,∃ q,R.places[x.1]?=some q∧q.last=true∧q.luhn=false∧x.2.testBit a=true)∧((mOutP R st o).2.testBit a=true↔o.2.testBit a=true∨∃ x∈st,∃ q,R.places[x.1]?=some q∧q.last=true∧q.luhn=true∧x.2.testBit a=true)
 | [],o=>by simp[mOutP]
 | x::st,o=>by
   rw[mOutP];obtain⟨i1,i2⟩:=zhz R a st (outStep R x o);rw[i1,i2];simp only[List.mem_cons,exists_eq_or_imp];have key:((outStep R x o).1.testBit a=true↔o.1.testBit a=true∨∃ q,R.places[x.1]?=some q∧q.last=true∧q.luhn=false∧x.2.testBit a=true)∧((outStep R x o).2.testBit a=true↔o.2.testBit a=true∨∃ q,R.places[x.1]?=some q∧q.last=true∧q.luhn=true∧x.2.testBit a=true):=by
     unfold outStep;cases e:R.places[x.1]? with
     | none=>simp
     | some q =>
       simp only[Option.some.injEq,exists_eq_left'];cases h1:q.last
       . simp
       . cases h2:q.luhn
         . simp[Nat.testBit_or]
         . simp[Nat.testBit_or]
   rw[key.1,key.2,or_assoc,or_assoc];exact⟨Iff.rfl,Iff.rfl⟩
theorem zep (L:List (Lay×Str)) (bs:List Bool) (a:Nat):∀ (s:List Wd) (o:Nat×Nat),((tellW L bs s o).1.testBit a=true↔o.1.testBit a=true∨∃ x∈s,∃ y t b,L[x.rule]?=some (y,t)∧bs[x.rule]?=some b∧t.last.contains x.place=true∧b=false∧x.age=a)∧((tellW L bs s o).2.testBit a=true↔o.2.testBit a=true∨∃ x∈s,∃ y t b,L[x.rule]?=some (y,t)∧bs[x.rule]?=some b∧t.last.contains x.place=true∧b=true∧x.age=a)
 | [],o=>by simp[tellW]
 | x::s,o=>by
   rw[tellW];obtain⟨i1,i2⟩:=zep L bs a s (tellStep L bs x o);rw[i1,i2];simp only[List.mem_cons,exists_eq_or_imp];have key:((tellStep L bs x o).1.testBit a=true↔o.1.testBit a=true∨∃ y t b,L[x.rule]?=some (y,t)∧bs[x.rule]?=some b∧t.last.contains x.place=true∧b=false∧x.age=a)∧((tellStep L bs x o).2.testBit a=true↔o.2.testBit a=true∨∃ y t b,L[x.rule]?=some (y,t)∧bs[x.rule]?=some b∧t.last.contains x.place=true∧b=true∧x.age=a):=by
     unfold tellStep;cases e:L[x.rule]? with
     | none=>simp
     | some yt =>
       obtain⟨y,t⟩:=yt;cases e2:bs[x.rule]? with
       | none=>simp
       | some b =>
         simp only;cases h1:t.last.contains x.place
         . constructor
           . constructor
             . exact fun h => .inl (by simpa using h)
             . rintro (h|⟨y',t',b',h2,h3,h4,_⟩)
               . simpa using h
               . injection h2 with h2
                 injection h2 with h2 h5
                 subst h5;rw[h1] at h4;cases h4
           . constructor
             . exact fun h => .inl (by simpa using h)
             . rintro (h|⟨y',t',b',h2,h3,h4,_⟩)
               . simpa using h
               . injection h2 with h2
                 injection h2 with h2 h5
                 subst h5;rw[h1] at h4;cases h4
         . cases b
           . simp only[if_true,Bool.false_eq_true,if_false,Nat.testBit_or,Bool.or_eq_true,Nat.testBit_two_pow,decide_eq_true_iff];constructor
             . constructor
               . rintro (h|h)
                 . exact .inl h
                 . exact .inr ⟨y,t,false,rfl,rfl,h1,rfl,h⟩
               . rintro (h|⟨_,_,_,_,_,_,_,h⟩)
                 . exact .inl h
                 . exact .inr h
             . constructor
               . exact fun h => .inl h
               . rintro (h|⟨_,_,b',_,h3,_,h4,h⟩)
                 . exact h
                 . subst h4;injection h3 with h3
                   cases h3
           . simp only[if_true,Nat.testBit_or,Bool.or_eq_true,Nat.testBit_two_pow,decide_eq_true_iff];constructor
             . constructor
               . exact fun h => .inl h
               . rintro (h|⟨_,_,b',_,h3,_,h4,h⟩)
                 . exact h
                 . subst h4;injection h3 with h3
                   cases h3
             . constructor
               . rintro (h|h)
                 . exact .inl h
                 . exact .inr ⟨y,t,true,rfl,rfl,h1,rfl,h⟩
               . rintro (h|⟨_,_,_,_,_,_,_,h⟩)
                 . exact .inl h
                 . exact .inr h
   rw[key.1,key.2,or_assoc,or_assoc];exact⟨Iff.rfl,Iff.rfl⟩
theorem zpz {L:List (Lay×Str)} {bs:List Bool} {lam:Nat} (hbs:bs.length=L.length) {s:List Wd} (hs:OkD L s):mOutP (RR L bs lam) (canon L bs s) (0,0)=tellW L bs s (0,0):=by
 have key:∀ (c:Bool) (a:Nat),(∃ x∈canon L bs s,∃ q,(RR L bs lam).places[x.1]?=some q∧q.last=true∧q.luhn=c∧x.2.testBit a=true)↔∃ x∈s,∃ y t b,L[x.rule]?=some (y,t)∧bs[x.rule]?=some b∧t.last.contains x.place=true∧b=c∧x.age=a:=fun c a=>by
   constructor
   . rintro⟨⟨p,n⟩,hx,q,h1,h2,h3,h4⟩;obtain⟨h5,rfl,_⟩:=(zcw L bs s p n).1 hx;obtain⟨x,hxs,rfl,h7⟩:=(zci L bs _ _ _).1 h4;obtain⟨h8,h9⟩:=hs x hxs;have hg:(RR L bs lam).places[gpl L bs x.rule x.place]?=some (plcOf (L.getD x.rule lx0).1 (L.getD x.rule lx0).2 (baseOf L bs x.rule) (bs.getD x.rule false) x.place):=zcy _ _ _ h8 h9;rw[hg] at h1;injection h1 with h1
     subst h1;have hb:bs[x.rule]?=some (bs.getD x.rule false):=(by rw[List.getD_eq_getElem?_getD,List.getElem?_eq_getElem (show x.rule<bs.length by omega)];rfl);exact⟨x,hxs,_,_,_,zcj h8,hb,h2,h3,h7⟩
   . rintro⟨x,hxs,y,t,b,h1,h2,h3,h4,h5⟩;obtain⟨h8,h9⟩:=hs x hxs;have hbit:(bitsOf L bs s (gpl L bs x.rule x.place)).testBit a=true:=(zci L bs _ _ _).2 ⟨x,hxs,rfl,h5⟩;have hl:=getD_some h1;refine⟨(gpl L bs x.rule x.place,bitsOf L bs s (gpl L bs x.rule x.place)),(zcw L bs s _ _).2 ⟨zjl h8 h9,rfl,zg1 hbit⟩,_,zcy _ _ _ h8 h9,?_,?_,hbit⟩
     . show (L.getD x.rule lx0).2.last.contains x.place=true
       rw[hl];exact h3
     . show bs.getD x.rule false=c
       rw[List.getD_eq_getElem?_getD,h2];exact h4
 have h1:(mOutP (RR L bs lam) (canon L bs s) (0,0)).1=(tellW L bs s (0,0)).1:=zd6 fun a=>by rw[(zhz _ a _ _).1,(zep L bs a _ _).1,key]
 have h2:(mOutP (RR L bs lam) (canon L bs s) (0,0)).2=(tellW L bs s (0,0)).2:=zd6 fun a=>by rw[(zhz _ a _ _).2,(zep L bs a _ _).2,key]
 exact Prod.ext h1 h2
end Go.Proofs.YtgbdanddbgomhaaDoor
