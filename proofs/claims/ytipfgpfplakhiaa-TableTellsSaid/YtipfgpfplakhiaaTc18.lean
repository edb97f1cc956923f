import Derived.Test.YtipfgpfplakhiaaTc15
import Derived.Test.YtipfgpfplakhiaaTc7
set_option linter.unusedVariables false
set_option linter.unusedSimpArgs false
namespace Go.Proofs.Ytipfgpfplakhiaa
open Go
theorem zu1 {α:Type} {l:List α} {x:α} (h:l.Nodup) (hx:x∉l):(l++[x]).Nodup:=by
 rw[yid];refine⟨h,by simp,fun a ha b hb=>?_⟩;rw[yha] at hb;subst hb;exact fun e=>hx (e▸ha)
theorem zis (s:Lay) (b:Nat) (x:Wd):∀ (l:List Nat) (o:List Wd),o.Nodup->(ze6 s b x l o).Nodup
 | [],o,h=>h
 | q::l,o,h=>by
  rw[ze6];apply zis s b x l;unfold zir;split
  .rename_i h1;exact zu1 h h1.2
  .exact h
theorem zjk (L:List (Lay×Str)) (lam b:Nat):∀ (st o:List Wd),o.Nodup->(zfp L lam b st o).Nodup
 | [],o,h=>h
 | x::st,o,h=>by
  rw[zfp];apply zjk L lam b st;unfold zen;split
  .split
   .exact zis _ _ _ _ _ h
   .exact h
  .exact h
theorem zom {α β:Type} (f:α->β) (hf:∀ a b,f a=f b->a=b):∀ (l:List α),l.Nodup->(l.map f).Nodup
 | [],h=>by simp
 | x::l,h=>by
  rw[yih] at h;rw[yhw,yih];refine⟨fun hm=>?_,zom f hf l h.2⟩;obtain⟨y,hy,e⟩:=yhx.1 hm;exact h.1 (hf _ _ e▸hy)
theorem zlr {L:List (Lay×Str)} (b:Nat) (hN:∀ s x,(s,x)∈L->x.first.Nodup):∀ k,k<=L.length->(fstN L b k).Nodup
 | 0,h=>by simp[fstN]
 | k+1,h=>by
  rw[fstN,zdz (r:=k) yjz,yid];simp only;have hm:(L.getD k lx0)∈L:=(by rw[ygq,ygn (show k<L.length by omega)];exact yhb _);refine⟨zlr b hN k yjz,?_,fun y hy z hz e=>?_⟩
  .unfold zej;apply zom _ (fun a b e=>by injection e);exact (hN _ _ hm).sublist (List.filter_sublist)
  .subst e;have h1:=((zql L b y k yjz).1 hy).1;unfold zej at hz;rw[yhx] at hz;obtain⟨p,_,rfl⟩:=hz;simp at h1
theorem zq4 {L:List (Lay×Str)} (hN:∀ s x,(s,x)∈L->x.first.Nodup) (lam b:Nat) (s:List Wd):(zjl L lam b s).Nodup:=zjk L lam b s _ (zlr b hN _ (ygo _))
theorem zuy {L:List (Lay×Str)} {bs:List Bool} {lam:Nat} (hlam:lam<=32) {s:List Wd} (hs:OkD L s) (ha:∀ x∈s,x.age<=lam) (hn:s.Nodup):s.length<=zc3 L bs L.length*64:=by
 have h1:(s.map fun x=>gpl L bs x.rule x.place*64+x.age).Nodup:=by
  have key:∀ (s:List Wd),OkD L s->(∀ x∈s,x.age<=lam)->s.Nodup->(s.map fun x=>gpl L bs x.rule x.place*64+x.age).Nodup:=by
   intro s;induction s with
   | nil=>intro _ _ _;simp
   | cons x s ih =>
    intro hs ha hn;rw[yih] at hn;rw[yhw,yih];refine⟨fun hm=>?_,ih (fun y hy=>hs y (yhi _ hy)) (fun y hy=>ha y (yhi _ hy)) hn.2⟩;obtain⟨y,hy,e⟩:=yhx.1 hm;have a1:=ha x yhr;have a2:=ha y (yhi _ hy);have e1:gpl L bs y.rule y.place=gpl L bs x.rule x.place:=yjz;have e2:y.age=x.age:=yjz;obtain⟨e3,e4⟩:=zkf (hs y (yhi _ hy)).2 (hs x yhr).2 e1;have:y=x:=Wd.ext' e3 e4 e2;exact hn.1 (this▸hy)
  exact key s hs ha hn
 have h2:=zcv _ (List.range (zc3 L bs L.length*64)) h1 fun v hv=>by
  obtain⟨x,hx,rfl⟩:=yhx.1 hv;have h3:=zhj (bs:=bs) (hs x hx).1 (hs x hx).2;have h4:=ha x hx;rw[yho];omega
 simpa using h2
theorem zmw (R:RSt) (a:Nat):∀ (st:List (Nat×Nat)) (o:Nat×Nat),((zbr R st o).1.testBit a=true↔o.1.testBit a=true∨∃ x∈st,∃ q,R.places[x.1]?=some q∧q.last=true∧q.luhn=false∧x.2.testBit a=true)∧((zbr R st o).2.testBit a=true↔o.2.testBit a=true∨∃ x∈st,∃ q,R.places[x.1]?=some q∧q.last=true∧q.luhn=true∧x.2.testBit a=true)
 | [],o=>by simp[zbr]
 | x::st,o=>by
  rw[zbr];obtain⟨i1,i2⟩:=zmw R a st (zf7 R x o);rw[i1,i2];simp only[yh4,exists_eq_or_imp];have key:((zf7 R x o).1.testBit a=true↔o.1.testBit a=true∨∃ q,R.places[x.1]?=some q∧q.last=true∧q.luhn=false∧x.2.testBit a=true)∧((zf7 R x o).2.testBit a=true↔o.2.testBit a=true∨∃ q,R.places[x.1]?=some q∧q.last=true∧q.luhn=true∧x.2.testBit a=true):=by
   unfold zf7;cases e:R.places[x.1]? with
   | none=>simp
   | some q =>
    simp only[Option.some.injEq,exists_eq_left'];cases h1:q.last
    .simp
    .cases h2:q.luhn
     .simp[yjr]
     .simp[yjr]
  rw[key.1,key.2,or_assoc,or_assoc];exact⟨Iff.rfl,Iff.rfl⟩
theorem zmj (L:List (Lay×Str)) (bs:List Bool) (a:Nat):∀ (s:List Wd) (o:Nat×Nat),((zfl L bs s o).1.testBit a=true↔o.1.testBit a=true∨∃ x∈s,∃ y t b,L[x.rule]?=some (y,t)∧bs[x.rule]?=some b∧t.last.contains x.place=true∧b=false∧x.age=a)∧((zfl L bs s o).2.testBit a=true↔o.2.testBit a=true∨∃ x∈s,∃ y t b,L[x.rule]?=some (y,t)∧bs[x.rule]?=some b∧t.last.contains x.place=true∧b=true∧x.age=a)
 | [],o=>by simp[zfl]
 | x::s,o=>by
  rw[zfl];obtain⟨i1,i2⟩:=zmj L bs a s (zed L bs x o);rw[i1,i2];simp only[yh4,exists_eq_or_imp];have key:((zed L bs x o).1.testBit a=true↔o.1.testBit a=true∨∃ y t b,L[x.rule]?=some (y,t)∧bs[x.rule]?=some b∧t.last.contains x.place=true∧b=false∧x.age=a)∧((zed L bs x o).2.testBit a=true↔o.2.testBit a=true∨∃ y t b,L[x.rule]?=some (y,t)∧bs[x.rule]?=some b∧t.last.contains x.place=true∧b=true∧x.age=a):=by
   unfold zed;cases e:L[x.rule]? with
   | none=>simp
   | some yt =>
    obtain⟨y,t⟩:=yt;cases e2:bs[x.rule]? with
    | none=>simp
    | some b =>
     simp only;cases h1:t.last.contains x.place
     .constructor
      .constructor
       .exact fun h => .inl ykc
       .rintro (h|⟨y',t',b',h2,h3,h4,_⟩)
        .simpa using h
        .injection h2 with h2
         injection h2 with h2 h5
         subst h5;rw[h1] at h4;cases h4
      .constructor
       .exact fun h => .inl ykc
       .rintro (h|⟨y',t',b',h2,h3,h4,_⟩)
        .simpa using h
        .injection h2 with h2
         injection h2 with h2 h5
         subst h5;rw[h1] at h4;cases h4
     .cases b
      .simp only[if_true,yi0,if_false,yjr,yju,yja,decide_eq_true_iff];constructor
       .constructor
        .rintro (h|h)
         .exact .inl h
         .exact .inr ⟨y,t,false,rfl,rfl,h1,rfl,h⟩
        .rintro (h|⟨_,_,_,_,_,_,_,h⟩)
         .exact .inl h
         .exact .inr h
       .constructor
        .exact fun h => .inl h
        .rintro (h|⟨_,_,b',_,h3,_,h4,h⟩)
         .exact h
         .subst h4;injection h3 with h3
          cases h3
      .simp only[if_true,yjr,yju,yja,decide_eq_true_iff];constructor
       .constructor
        .exact fun h => .inl h
        .rintro (h|⟨_,_,b',_,h3,_,h4,h⟩)
         .exact h
         .subst h4;injection h3 with h3
          cases h3
       .constructor
        .rintro (h|h)
         .exact .inl h
         .exact .inr ⟨y,t,true,rfl,rfl,h1,rfl,h⟩
        .rintro (h|⟨_,_,_,_,_,_,_,h⟩)
         .exact .inl h
         .exact .inr h
  rw[key.1,key.2,or_assoc,or_assoc];exact⟨Iff.rfl,Iff.rfl⟩
theorem zw8 {L:List (Lay×Str)} {bs:List Bool} {lam:Nat} (hbs:bs.length=L.length) {s:List Wd} (hs:OkD L s):zbr (RR L bs lam) (canon L bs s) (0,0)=zfl L bs s (0,0):=by
 have key:∀ (c:Bool) (a:Nat),(∃ x∈canon L bs s,∃ q,(RR L bs lam).places[x.1]?=some q∧q.last=true∧q.luhn=c∧x.2.testBit a=true)↔∃ x∈s,∃ y t b,L[x.rule]?=some (y,t)∧bs[x.rule]?=some b∧t.last.contains x.place=true∧b=c∧x.age=a:=fun c a=>by
  constructor
  .rintro⟨⟨p,n⟩,hx,q,h1,h2,h3,h4⟩;obtain⟨h5,rfl,_⟩:=(zfy L bs s p n).1 hx;obtain⟨x,hxs,rfl,h7⟩:=(zd0 L bs _ _ _).1 h4;obtain⟨h8,h9⟩:=hs x hxs;have hg:(RR L bs lam).places[gpl L bs x.rule x.place]?=some (zmo (L.getD x.rule lx0).1 (L.getD x.rule lx0).2 (zc3 L bs x.rule) (bs.getD x.rule false) x.place):=zg5 _ _ _ h8 h9;rw[hg] at h1;injection h1 with h1
   subst h1;have hb:bs[x.rule]?=some (bs.getD x.rule false):=(by rw[ygq,ygn (show x.rule<bs.length by omega)];rfl);exact⟨x,hxs,_,_,_,zdz h8,hb,h2,h3,h7⟩
  .rintro⟨x,hxs,y,t,b,h1,h2,h3,h4,h5⟩;obtain⟨h8,h9⟩:=hs x hxs;have hbit:(zfi L bs s (gpl L bs x.rule x.place)).testBit a=true:=(zd0 L bs _ _ _).2 ⟨x,hxs,rfl,h5⟩;have hl:=getD_some h1;refine⟨(gpl L bs x.rule x.place,zfi L bs s (gpl L bs x.rule x.place)),(zfy L bs s _ _).2 ⟨zhj h8 h9,rfl,zks hbit⟩,_,zg5 _ _ _ h8 h9,?_,?_,hbit⟩
   .show (L.getD x.rule lx0).2.last.contains x.place=true
    rw[hl];exact h3
   .show bs.getD x.rule false=c
    rw[ygq,h2];exact h4
 have h1:(zbr (RR L bs lam) (canon L bs s) (0,0)).1=(zfl L bs s (0,0)).1:=zex fun a=>by rw[(zmw _ a _ _).1,(zmj L bs a _ _).1,key]
 have h2:(zbr (RR L bs lam) (canon L bs s) (0,0)).2=(zfl L bs s (0,0)).2:=zex fun a=>by rw[(zmw _ a _ _).2,(zmj L bs a _ _).2,key]
 exact Prod.ext h1 h2
def zgi (R:RSt) (F:Nat->Nat) (s:Sta) (c:Nat):Sta:=(zfk R s).filter (zgu R (lastB F 256 c))
theorem zpw (R:RSt) (hV:zl2 R) (st:Sta):∀ x∈zfk R st,x.1<R.places.length∧x.2<2 ^ (R.lam+1):=fun x hx=>by
 obtain⟨h1,h2,h3⟩:=(zdu _ _ _).1 hx;refine⟨h1,?_⟩;apply Nat.lt_pow_two_of_testBit;intro a ha;cases e:x.2.testBit a with
 | false=>rfl
 | true =>
  rw[h2] at e;have hl:=hV.lam.1;rcases (zpy R st hV.first x.1 a h1).1 e with ⟨_,h4⟩ | ⟨_,_,_,_,_,_,h4,_⟩ <;> omega
theorem zpx (R:RSt) (st:Sta):(zfk R st).length<=R.places.length:=zld _ _
theorem zj6 {R:RSt} (hV:zl2 R) {st:Sta} (h:May R st):Fits R st:=fun x hx=>by
 obtain⟨h1,h2⟩:=h x hx;have h3:2 ^ (R.lam+1)<=2 ^ 64:=yig yk6 (by have:=hV.lam.2;omega);exact⟨h1,by omega⟩
theorem yfc {R:RSt} (hV:zl2 R) {st:Sta} (h:May R st):okSt st:=fun x hx=>by
 obtain⟨h1,h2⟩:=zj6 hV h x hx;have:=hV.P;exact⟨by omega,h2⟩
theorem zr7 (R:RSt) (hV:zl2 R) (F:Nat->Nat) (s:Sta) (c:Nat):May R (zgi R F s c):=fun x hx=>zpw R hV s x (List.mem_filter.1 hx).1
theorem zzi (R:RSt) (F:Nat->Nat) (s:Sta) (c:Nat):(zgi R F s c).length<=R.places.length:=ygw (yj1 _ _) (zpx R s)
theorem ydw {l:List (Nat->Bool)} {a b:Nat} (h:keyL l a=keyL l b):∀ p∈l,p a=p b:=fun p hp=>by
 unfold keyL at h;obtain⟨i,hi⟩:=yhu hp;have h1:=congrArg (fun x:List Bool=>x[i]?) h;simp[hi] at h1;exact h1
theorem ydz {R:RSt} {F:Nat->Nat} (hF:F=numK (keyL (R.places.map Plc.set))) {b c:Nat} (hb:b<256) (h:F b=c) (x:Nat×Nat):zgu R b x=zgu R (lastB F 256 c) x:=by
 have h1:F (lastB F 256 c)=F b:=(zrz F 256 c b hb h).trans h.symm;rw[hF] at h1;have h2:=(ze3 _ _ _).1 h1;rw[←hF] at h2;unfold zgu;cases e:R.places[x.1]? with
 | none=>rfl
 | some p=>exact (ydw h2 p.set (yhx.2 ⟨p,yh1 e,rfl⟩)).symm
theorem zzj {R:RSt} {F:Nat->Nat} (hF:F=numK (keyL (R.places.map Plc.set))) {b c:Nat} (hb:b<256) (h:F b=c) (s:Sta):(zfk R s).filter (zgu R b)=zgi R F s c:=by
 unfold zgi;exact List.filter_congr fun x _=>ydz hF hb h x
section
def zf3 (L:List (Lay×Str)):Nat->List (Nat->Bool)
 | 0=>[]
 | k+1=>zf3 L k++(L.getD k lx0).1.sets
theorem zo8 (s:Lay) (x:Str) (base:Nat) (b:Bool):∀ k,k<=s.sets.length->(zc9 s x base b k).map Plc.set=s.sets.take k
 | 0,_=>by simp[zc9]
 | k+1,h=>by
  rw[zc9,yhl,zo8 s x base b k yjz,yh2 yjz];simp[zmo,ygq,ygn (show k<s.sets.length by omega)]
theorem zh3 (L:List (Lay×Str)) (bs:List Bool):∀ k,(togP L bs k).map Plc.set=zf3 L k
 | 0=>rfl
 | k+1=>by
  rw[togP,zf3,yhl,zh3 L bs k,zo8 _ _ _ _ _ (ygo _),yhn]
theorem zjm (L:List (Lay×Str)) (bs:List Bool) (k:Nat):(zf3 L k).length=zc3 L bs k:=by rw[←zh3 L bs,yh8];rfl
theorem zzo (L:List (Lay×Str)) {a b:Nat} (h:a<=b):(zf3 L a).length<=(zf3 L b).length:=by rw[zjm L [],zjm L []];exact zps L [] h
structure GoodD (L:List (Lay×Str)) (lam:Nat) (t:List Wd):Prop where
 ok:OkD L t
 nodup:t.Nodup
 age:∀ x∈t,x.age<=lam
theorem GoodD.nil (L:List (Lay×Str)) (lam:Nat):GoodD L lam []:=⟨fun x hx=>by simp at hx,by simp,fun x hx=>by simp at hx⟩
section
variable {L:List (Lay×Str)} {bs:List Bool} {lam:Nat}
theorem GoodD.step (hL:∀ s x,(s,x)∈L->zg1 s x) (hN:∀ s x,(s,x)∈L->x.first.Nodup) (hlam:1<=lam) (b:Nat) (t:List Wd):GoodD L lam (zjl L lam b t):=
 ⟨zr8 hL lam b t,zq4 hN lam b t,fun x hx=>(zva hlam b t x hx).2⟩
theorem GoodD.few (hlam:lam<=32) {t:List Wd} (h:GoodD L lam t):t.length<=(zf3 L L.length).length*64:=by
 rw[zjm L ([]:List Bool)];exact zuy hlam h.ok h.age h.nodup
theorem GoodD.st {t:List Wd} (hlam:lam<=63) (h:GoodD L lam t):OkSt L t:=fun x hx=>by
 obtain⟨h1,h2⟩:=h.ok x hx;exact⟨(L.getD x.rule lx0).1,(L.getD x.rule lx0).2,zdz h1,h2,by have:=h.age x hx;omega⟩
theorem GoodD.wd {t:List Wd} (hlam:lam<=63) (hbs:bs.length=L.length) (h:GoodD L lam t):∀ x∈t,okWd L bs x:=fun x hx=>by
 obtain⟨h1,h2⟩:=h.ok x hx;exact⟨(L.getD x.rule lx0).1,(L.getD x.rule lx0).2,bs[x.rule]'yjz,zdz h1,ygn yjz,h2,by have:=h.age x hx;omega⟩
theorem yew (hL:∀ s x,(s,x)∈L->zg1 s x):yg1 L:=fun i s x e=>by
 have h:=hL s x (yh1 e);exact⟨h.first,by have:=h.firstN;omega,fun p hp=>⟨fun q hq=>h.fol p q hq,h.folN p⟩⟩
theorem ztc (hL:∀ s x,(s,x)∈L->zg1 s x) {F:Nat->Nat} (hF:F=numK (keyL (zf3 L L.length))) {t:List Wd} (h:GoodD L lam t) {b c:Nat} (hb:b<256) (hc:F b=c):canon L bs (zjl L lam b t)=zgi (RR L bs lam) F (canon L bs t) c:=by
 rw[←zui (lam:=lam) hL b h.ok];exact zzj (by rw[hF,←zh3 L bs];rfl) hb hc _
theorem zyg:canon L bs []=[]:=by
 apply List.eq_nil_iff_forall_not_mem.2;rintro⟨p,n⟩ hx;obtain⟨h1,h2,h3⟩:=(zfy L bs [] p n).1 hx;obtain⟨a,ha⟩:=zqd h3;rw[h2] at ha;obtain⟨x,hx,_⟩:=(zd0 L bs p a []).1 ha;simp at hx
theorem zvl {s t:List Wd} (hs:GoodD L lam s) (ht:GoodD L lam t):zo0 s t=decide (canon L bs s=canon L bs t):=ztm hs.ok ht.ok hs.nodup ht.nodup
end
theorem zv6 (f:Nat->List Bool) (b:Nat):(numK f b=cntK f b↔zd4 f b=true)∧cntK f (b+1)=cntK f b+(if zd4 f b=true then 1 else 0):=by
 have h1:cntK f (b+1)=cntK f b+(if zd4 f b=true then 1 else 0):=by
  cases h:zd4 f b
  .rw[zho];have:=zwg f b;obtain⟨c,hc,e⟩:=(zjy f b).1 h;have h3:=(ze3 f c b).2 e;have h4:=zdc f hc;have h5:=zhq f (show b<=b from ygo _);simp;omega
  .rw[zho,zh8 f h];simp
 refine⟨⟨fun e=>?_,fun h=>zh8 f h⟩,h1⟩;cases h:zd4 f b
 .obtain⟨c,hc,e'⟩:=(zjy f b).1 h;have h3:=(ze3 f c b).2 e';have h4:=zdc f hc;omega
 .rfl
section
variable {α:Type} [DecidableEq α]
theorem yfi {ss:List α} {t:α} {k:Nat} (h:ss[k]?=some t) (hn:∀ j,j<k->ss[j]?≠some t):idxM ss t=k:=by
 have hm:t∈ss:=yh1 h;have h1:=zxj hm;rcases yiz (idxM ss t) k with e|e|e
 .exact absurd h1 (hn _ e)
 .exact e
 .unfold idxM at e;have:=List.not_of_lt_findIdx (p:=fun x=>x==t) (xs:=ss) (i:=k) (by simpa [List.idxOf] using e);obtain⟨hk,he⟩:=ygp.1 h;simp[he] at this
theorem yan {ss:List α} {t:α} {k:Nat} (h:ss[k]?=some t):zdn ss t=ss:=by rw[zdn,if_pos (yh1 h)]
theorem zrs {ss:List α} {t:α} (h:∀ j,j<ss.length->ss[j]?≠some t):zdn ss t=ss++[t]∧idxM (ss++[t]) t=ss.length:=by
 have hm:t∉ss:=fun hm=>by
  obtain⟨j,hj,e⟩:=List.getElem_of_mem hm;exact h j hj (by rw[ygn hj,e])
 refine⟨by rw[zdn,if_neg hm],?_⟩;unfold idxM;rw[List.idxOf_append,if_neg hm];simp
theorem zzv {f:Nat->α} {most k c i:Nat} {ss:List α} {row:List Nat} (hi:ss[i]?=some (f c)) (hno:∀ j,j<i->ss[j]?≠some (f c)) (hl:ss.length<=most):rowS f most (k+1) c ss row=rowS f most k (c+1) ss (row++[i]):=by
 rw[rowS,yan hi,if_neg yjz,yfi hi hno]
theorem zzw {f:Nat->α} {most k c:Nat} {ss:List α} {row:List Nat} (hno:∀ j,j<ss.length->ss[j]?≠some (f c)) (hl:ss.length+1<=most):rowS f most (k+1) c ss row=rowS f most k (c+1) (ss++[f c]) (row++[ss.length]):=by
 obtain⟨h1,h2⟩:=zrs hno;rw[rowS,h1,if_neg (by rw[ygu,yi7];omega),h2]
theorem zzx {f:Nat->α} {most k c:Nat} {ss:List α} {row:List Nat} (hno:∀ j,j<ss.length->ss[j]?≠some (f c)) (hl:most<ss.length+1):rowS f most (k+1) c ss row=none:=by
 obtain⟨h1,h2⟩:=zrs hno;rw[rowS,h1,if_pos (by rw[ygu,yi7];omega)]
theorem zun {step:α->Nat->α} {most n fu i:Nat} {ss ss':List α} {rows:List (List Nat)} {row:List Nat} {s:α} (hs:ss[i]?=some s) (hr:rowS (step s) most n 0 ss []=some (ss',row)):zbz step most n (fu+1) i ss rows=zbz step most n fu (i+1) ss' (rows++[row]):=by
 rw[zbz,hs];simp only;rw[hr]
theorem zyh {step:α->Nat->α} {most n fu i:Nat} {ss:List α} {rows:List (List Nat)} {s:α} (hs:ss[i]?=some s) (hr:rowS (step s) most n 0 ss []=none):zbz step most n (fu+1) i ss rows=none:=by
 rw[zbz,hs];simp only;rw[hr]
theorem zuo {step:α->Nat->α} {most n fu i:Nat} {ss:List α} {rows:List (List Nat)} (hs:ss[i]?=none):zbz step most n (fu+1) i ss rows=some (ss,rows):=by
 rw[zbz,hs]
end
end
end Go.Proofs.Ytipfgpfplakhiaa
