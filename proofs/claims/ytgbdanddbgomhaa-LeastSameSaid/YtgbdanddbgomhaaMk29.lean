import Derived.Test.YtgbdanddbgomhaaMk23
import Derived.Test.YtgbdanddbgomhaaMk20
set_option linter.unusedVariables false
set_option linter.unusedSimpArgs false
namespace Go.Proofs.Ytgbdanddbgomhaa
open Go
def stepC (R:RSt) (F:Nat->Nat) (s:Sta) (c:Nat):Sta:=(aheadL R s).filter (hasAt R (lastB F 256 c))
theorem zlj (R:RSt) (hV:Valid R) (st:Sta):∀ x∈aheadL R st,x.1<R.places.length∧x.2<2 ^ (R.lam+1):=fun x hx=>by
 obtain⟨h1,h2,h3⟩:=(zc4 _ _ _).1 hx;refine⟨h1,?_⟩;apply Nat.lt_pow_two_of_testBit;intro a ha;cases e:x.2.testBit a with
 | false=>rfl
 | true =>
   rw[h2] at e;have hl:=hV.lam.1;rcases (zll R st hV.first x.1 a h1).1 e with ⟨_,h4⟩ | ⟨_,_,_,_,_,_,h4,_⟩ <;> omega
theorem zlk (R:RSt) (st:Sta):(aheadL R st).length<=R.places.length:=zhs _ _
theorem zfx {R:RSt} (hV:Valid R) {st:Sta} (h:May R st):Fits R st:=fun x hx=>by
 obtain⟨h1,h2⟩:=h x hx;have h3:2 ^ (R.lam+1)<=2 ^ 64:=Nat.pow_le_pow_right (by decide) (by have:=hV.lam.2;omega);exact⟨h1,by omega⟩
theorem zz0 {R:RSt} (hV:Valid R) {st:Sta} (h:May R st):okSt st:=fun x hx=>by
 obtain⟨h1,h2⟩:=zfx hV h x hx;have:=hV.P;exact⟨by omega,h2⟩
theorem zmr (R:RSt) (hV:Valid R) (F:Nat->Nat) (s:Sta) (c:Nat):May R (stepC R F s c):=fun x hx=>zlj R hV s x (List.mem_filter.1 hx).1
theorem zu6 (R:RSt) (F:Nat->Nat) (s:Sta) (c:Nat):(stepC R F s c).length<=R.places.length:=Nat.le_trans (List.length_filter_le _ _) (zlk R s)
theorem zy0 {l:List (Nat->Bool)} {a b:Nat} (h:keyL l a=keyL l b):∀ p∈l,p a=p b:=fun p hp=>by
 unfold keyL at h;obtain⟨i,hi⟩:=List.getElem?_of_mem hp;have h1:=congrArg (fun x:List Bool=>x[i]?) h;simp[hi] at h1;exact h1
theorem zy3 {R:RSt} {F:Nat->Nat} (hF:F=numK (keyL (R.places.map Plc.set))) {b c:Nat} (hb:b<256) (h:F b=c) (x:Nat×Nat):hasAt R b x=hasAt R (lastB F 256 c) x:=by
 have h1:F (lastB F 256 c)=F b:=(znj F 256 c b hb h).trans h.symm;rw[hF] at h1;have h2:=(zce _ _ _).1 h1;rw[←hF] at h2;unfold hasAt;cases e:R.places[x.1]? with
 | none=>rfl
 | some p=>exact (zy0 h2 p.set (List.mem_map.2 ⟨p,List.mem_of_getElem? e,rfl⟩)).symm
theorem zu7 {R:RSt} {F:Nat->Nat} (hF:F=numK (keyL (R.places.map Plc.set))) {b c:Nat} (hb:b<256) (h:F b=c) (s:Sta):(aheadL R s).filter (hasAt R b)=stepC R F s c:=by
 unfold stepC;exact List.filter_congr fun x _=>zy3 hF hb h x
section
def setsN (L:List (Lay×Str)):Nat->List (Nat->Bool)
 | 0=>[]
 | k+1=>setsN L k++(L.getD k lx0).1.sets
theorem zk9 (s:Lay) (x:Str) (base:Nat) (b:Bool):∀ k,k<=s.sets.length->(plcsOf s x base b k).map Plc.set=s.sets.take k
 | 0,_=>by simp[plcsOf]
 | k+1,h=>by
   rw[plcsOf,List.map_append,zk9 s x base b k (by omega),List.take_succ_eq_append_getElem (by omega)];simp[plcOf,List.getD_eq_getElem?_getD,List.getElem?_eq_getElem (show k<s.sets.length by omega)]
theorem zee (L:List (Lay×Str)) (bs:List Bool):∀ k,(togP L bs k).map Plc.set=setsN L k
 | 0=>rfl
 | k+1=>by
   rw[togP,setsN,List.map_append,zee L bs k,zk9 _ _ _ _ _ (Nat.le_refl _),List.take_length]
theorem zga (L:List (Lay×Str)) (bs:List Bool) (k:Nat):(setsN L k).length=baseOf L bs k:=by rw[←zee L bs,List.length_map];rfl
theorem zuc (L:List (Lay×Str)) {a b:Nat} (h:a<=b):(setsN L a).length<=(setsN L b).length:=by rw[zga L [],zga L []];exact zlf L [] h
structure GoodD (L:List (Lay×Str)) (lam:Nat) (t:List Wd):Prop where
 ok:OkD L t
 nodup:t.Nodup
 age:∀ x∈t,x.age<=lam
theorem GoodD.nil (L:List (Lay×Str)) (lam:Nat):GoodD L lam []:=⟨fun x hx=>by simp at hx,by simp,fun x hx=>by simp at hx⟩
section
variable {L:List (Lay×Str)} {bs:List Bool} {lam:Nat}
theorem GoodD.step (hL:∀ s x,(s,x)∈L->OkLay s x) (hN:∀ s x,(s,x)∈L->x.first.Nodup) (hlam:1<=lam) (b:Nat) (t:List Wd):GoodD L lam (stepD L lam b t):=
 ⟨zms hL lam b t,zlp hN lam b t,fun x hx=>(zqf hlam b t x hx).2⟩
theorem GoodD.few (hlam:lam<=32) {t:List Wd} (h:GoodD L lam t):t.length<=(setsN L L.length).length*64:=by
 rw[zga L ([]:List Bool)];exact zq4 hlam h.ok h.age h.nodup
theorem GoodD.st {t:List Wd} (hlam:lam<=63) (h:GoodD L lam t):OkSt L t:=fun x hx=>by
 obtain⟨h1,h2⟩:=h.ok x hx;exact⟨(L.getD x.rule lx0).1,(L.getD x.rule lx0).2,zca h1,h2,by have:=h.age x hx;omega⟩
theorem GoodD.wd {t:List Wd} (hlam:lam<=63) (hbs:bs.length=L.length) (h:GoodD L lam t):∀ x∈t,okWd L bs x:=fun x hx=>by
 obtain⟨h1,h2⟩:=h.ok x hx;exact⟨(L.getD x.rule lx0).1,(L.getD x.rule lx0).2,bs[x.rule]'(by omega),zca h1,List.getElem?_eq_getElem (by omega),h2,by have:=h.age x hx;omega⟩
theorem zyn (hL:∀ s x,(s,x)∈L->OkLay s x):OkRef L:=fun i s x e=>by
 have h:=hL s x (List.mem_of_getElem? e);exact⟨h.first,by have:=h.firstN;omega,fun p hp=>⟨fun q hq=>h.fol p q hq,h.folN p⟩⟩
theorem zol (hL:∀ s x,(s,x)∈L->OkLay s x) {F:Nat->Nat} (hF:F=numK (keyL (setsN L L.length))) {t:List Wd} (h:GoodD L lam t) {b c:Nat} (hb:b<256) (hc:F b=c):canon L bs (stepD L lam b t)=stepC (RR L bs lam) F (canon L bs t) c:=by
 rw[←zpp (lam:=lam) hL b h.ok];exact zu7 (by rw[hF,←zee L bs];rfl) hb hc _
theorem zti:canon L bs []=[]:=by
 apply List.eq_nil_iff_forall_not_mem.2;rintro⟨p,n⟩ hx;obtain⟨h1,h2,h3⟩:=(zdk L bs [] p n).1 hx;obtain⟨a,ha⟩:=zlx h3;rw[h2] at ha;obtain⟨x,hx,_⟩:=(zbs L bs p a []).1 ha;simp at hx
theorem zqr {s t:List Wd} (hs:GoodD L lam s) (ht:GoodD L lam t):sameW s t=decide (canon L bs s=canon L bs t):=zot hs.ok ht.ok hs.nodup ht.nodup
end
theorem zqb (f:Nat->List Bool) (b:Nat):(numK f b=cntK f b↔isFst f b=true)∧cntK f (b+1)=cntK f b+(if isFst f b=true then 1 else 0):=by
 have h1:cntK f (b+1)=cntK f b+(if isFst f b=true then 1 else 0):=by
   cases h:isFst f b
   . rw[zez];have:=zrl f b;obtain⟨c,hc,e⟩:=(zgg f b).1 h;have h3:=(zce f c b).2 e;have h4:=zbw f hc;have h5:=zf0 f (show b<=b from Nat.le_refl _);simp;omega
   . rw[zez,zej f h];simp
 refine⟨⟨fun e=>?_,fun h=>zej f h⟩,h1⟩;cases h:isFst f b
 . obtain⟨c,hc,e'⟩:=(zgg f b).1 h;have h3:=(zce f c b).2 e';have h4:=zbw f hc;omega
 . rfl
section
variable {α:Type} [DecidableEq α]
theorem zz4 {ss:List α} {t:α} {k:Nat} (h:ss[k]?=some t) (hn:∀ j,j<k->ss[j]?≠some t):idxM ss t=k:=by
 have hm:t∈ss:=List.mem_of_getElem? h;have h1:=zjh hm;rcases Nat.lt_trichotomy (idxM ss t) k with e|e|e
 . exact absurd h1 (hn _ e)
 . exact e
 . unfold idxM at e;have:=List.not_of_lt_findIdx (p:=fun x=>x==t) (xs:=ss) (i:=k) (by simpa [List.idxOf] using e);obtain⟨hk,he⟩:=List.getElem?_eq_some_iff.1 h;simp[he] at this
theorem zv9 {ss:List α} {t:α} {k:Nat} (h:ss[k]?=some t):meetL ss t=ss:=by rw[meetL,if_pos (List.mem_of_getElem? h)]
theorem zna {ss:List α} {t:α} (h:∀ j,j<ss.length->ss[j]?≠some t):meetL ss t=ss++[t]∧idxM (ss++[t]) t=ss.length:=by
 have hm:t∉ss:=fun hm=>by
   obtain⟨j,hj,e⟩:=List.getElem_of_mem hm;exact h j hj (by rw[List.getElem?_eq_getElem hj,e])
 refine⟨by rw[meetL,if_neg hm],?_⟩;unfold idxM;rw[List.idxOf_append,if_neg hm];simp
theorem zui {f:Nat->α} {most k c i:Nat} {ss:List α} {row:List Nat} (hi:ss[i]?=some (f c)) (hno:∀ j,j<i->ss[j]?≠some (f c)) (hl:ss.length<=most):rowS f most (k+1) c ss row=rowS f most k (c+1) ss (row++[i]):=by
 rw[rowS,zv9 hi,if_neg (by omega),zz4 hi hno]
theorem zuj {f:Nat->α} {most k c:Nat} {ss:List α} {row:List Nat} (hno:∀ j,j<ss.length->ss[j]?≠some (f c)) (hl:ss.length+1<=most):rowS f most (k+1) c ss row=rowS f most k (c+1) (ss++[f c]) (row++[ss.length]):=by
 obtain⟨h1,h2⟩:=zna hno;rw[rowS,h1,if_neg (by rw[List.length_append,List.length_singleton];omega),h2]
theorem zuk {f:Nat->α} {most k c:Nat} {ss:List α} {row:List Nat} (hno:∀ j,j<ss.length->ss[j]?≠some (f c)) (hl:most<ss.length+1):rowS f most (k+1) c ss row=none:=by
 obtain⟨h1,h2⟩:=zna hno;rw[rowS,h1,if_pos (by rw[List.length_append,List.length_singleton];omega)]
theorem zpv {step:α->Nat->α} {most n fu i:Nat} {ss ss':List α} {rows:List (List Nat)} {row:List Nat} {s:α} (hs:ss[i]?=some s) (hr:rowS (step s) most n 0 ss []=some (ss',row)):buildS step most n (fu+1) i ss rows=buildS step most n fu (i+1) ss' (rows++[row]):=by
 rw[buildS,hs];simp only;rw[hr]
theorem ztj {step:α->Nat->α} {most n fu i:Nat} {ss:List α} {rows:List (List Nat)} {s:α} (hs:ss[i]?=some s) (hr:rowS (step s) most n 0 ss []=none):buildS step most n (fu+1) i ss rows=none:=by
 rw[buildS,hs];simp only;rw[hr]
theorem zpw {step:α->Nat->α} {most n fu i:Nat} {ss:List α} {rows:List (List Nat)} (hs:ss[i]?=none):buildS step most n (fu+1) i ss rows=some (ss,rows):=by
 rw[buildS,hs]
end
end
section
open Go Go.RowKit
theorem Try.infoSetE:(Try.prog.info? 68).map (fun i=>(i.zero,i.size,i.bytes))=some (some (.agg #[.int .u64 0,.int .u64 0,.int .u64 0,.int .u64 0]),4,32):=by kernel_rfl
def SetsG (w:World) (B:Nat) (v:Value) (S:List (Nat->Bool)):Prop:=w.ownsRow B 68 4 v S.length (setsC S)
section
variable {w w':World} {B:Nat} {v u:Value} {S T:List (Nat->Bool)}
theorem zqp (S T:List (Nat->Bool)):setsC (S++T)=setsC S++setsC T:=by simp[setsC]
theorem zqo (T:List (Nat->Bool)):∀ u∈setsC T,u.oneCell'=true:=by
 intro u hu;simp only[setsC,List.mem_flatMap] at hu;obtain⟨p,_,hu⟩:=hu;simp at hu;rcases hu with rfl|rfl|rfl|rfl <;> rfl
theorem SetsG.nil (w:World) (B:Nat):SetsG w B (.slice none 0 0) []:=World.ownsRow_nil w B _ 4
theorem SetsG.form (h:SetsG w B v S):∃ A c,v = .slice A S.length c:=zaf h
theorem SetsG.rd {A:Option Addr} {n c:Nat} (h:SetsG w B (.slice A n c) S):RdS w w.heap.size A S:=fun k hk=>by
 obtain⟨A',c',e⟩:=h.form;injection e with e1 e2 e3
 subst e1 e2 e3;unfold SetsG at h;rcases h.2 with ⟨_,h0⟩|⟨g,cap,cur,e,hB,hg,_⟩
 . omega
 . injection e with e1 e2 e3
   subst e1;refine⟨g,0,rfl,za4 hg,fun q hq=>?_⟩;rw[Nat.zero_add,World.ownsRow.cellAt h (k*4+q) (by omega)];exact zbo S k q hk hq
theorem zqs (ty:TypeId) (h:SetsG w B v S) {A:Option Addr} {c:Nat} (hu:RdS w w.heap.size A T) (hl:S.length+T.length<=100000) (hB:B<=w.heap.size):
   ∃ v' w',(Builtin.append_ #[78,78] ty #[v,.slice A T.length c]).run Try.prog w = .ok v' w'∧SetsG w' B v' (S++T)∧w.grownBy w' v.ownBlock∧(v'.ownBlock=v.ownBlock∨v'.ownBlock=some w.heap.size):=by
 obtain⟨i0,hi,hz0,hz1,hz2⟩:=info_parts Try.infoSetE;unfold SetsG at h ⊢;rw[List.length_append,zqp];cases A with
 | none =>
   have hT:T=[]:=by
     rcases T with _|⟨p,T⟩
     . rfl
     . obtain⟨b,off,e,_⟩:=hu 0 (by simp);cases e
   subst hT;refine⟨v,w,?_,by simpa [setsC] using h,⟨rfl,rfl,rfl,Nat.le_refl _,fun _ _ _=>rfl⟩,.inl rfl⟩;rcases h.2 with ⟨rfl,h0⟩|⟨g,cap,cur,rfl,_,_,hnc,_⟩
   . simp[Builtin.append_,run_underlying Try.underlying78,sizeOf,typeInfo,hi,Builtin.lenOf,Builtin.firstCells]
   . simp[Builtin.append_,run_underlying Try.underlying78,sizeOf,typeInfo,hi,Builtin.lenOf,Builtin.firstCells,hnc,storeCells]
 | some ad =>
   obtain⟨v',w',hr,h2,h3,_,h5⟩:=run_append_own_at (P:=Try.prog) w B 78 ty 68 i0 _ 4 32 Try.underlying78 hi hz0 hz1 hz2 rfl (by decide) v S.length _ h ad T.length c (setsC T) (zco T) (by
     intro j x hx;have hj:j<T.length*4:=(by rw[←zco];exact (List.getElem?_eq_some_iff.1 hx).1);have hd:j=j / 4*4+j % 4:=(by omega);have hk:j / 4<T.length:=(by omega);obtain⟨b,off,e,_,hc⟩:=hu (j / 4) hk;obtain rfl:=Option.some.inj e;have h1:=zbo T (j / 4) (j % 4) hk (by omega);rw[←hd,hx] at h1;have h1:=Option.some.inj h1;rw[h1,Addr.add_lit,show off+j=off+j / 4*4+j % 4 by omega];exact hc (j % 4) (by omega)) (zqo T) (by unfold maxLen;omega) (by omega) hB
   exact⟨v',w',hr,h2,h3,h5⟩
theorem zjt {ops:Array Oper} {rest:List Oper} {o:Oper} {a:Act} {Q:Exit->Act->World->Prop} (hgd:o.guard=none) (s x:Operand) (ho:o.op = .call {callee := .builtin .append,args:=#[s,x],argTypes:=#[78,78]})
   {A:Option Addr} {n c:Nat} (hs:a.eval s=v) (hx:a.eval x = .slice A n c) (hn:n=T.length) (h:SetsG w B v S) (hu:RdS w w.heap.size A T) (hl:S.length+T.length<=100000) (hB:B<=w.heap.size)
   (hK:∀ v' w',SetsG w' B v' (S++T)->w.grownBy w' v.ownBlock->(v'.ownBlock=v.ownBlock∨v'.ownBlock=some w.heap.size)->wpList Try.prog ops Q rest (a.put o.dst v') w'):wpList Try.prog ops Q (o::rest) a w:=by
 subst hn;obtain⟨v',w',hr,h2,h3,h4⟩:=zqs o.type h (A:=A) (c:=c) hu hl hB;refine wpList_plain hgd fun _ hK'=>?_
 unfold Oper.wp execOp;simp only[ho,resolve,invoke,builtin,Sem.run_bind,Sem.run_pure,Result.andThen_ok,List.map_toArray,List.map_cons,List.map_nil,hs,hx,hr];exact hK' _ _ (hK v' w' h2 h3 h4)
end
theorem NfaIn.rdS {w:World} {B gm:Nat} {A1:Option Addr} {m1 c1:Nat} {v1 vf:Value} {s:Lay} {x:Str} (h:NfaIn w B (.slice A1 m1 c1) v1 gm vf s x) (hB:B<=w.heap.size):RdS w w.heap.size A1 s.sets:=fun k hk=>by
 obtain⟨g,c,e,hg,hc⟩:=h.sets k hk;injection e with e1 e2 e3
 subst e1;refine⟨g,0,rfl,by omega,fun q hq=>?_⟩;rw[Nat.zero_add,hc q hq];simp[List.getD_eq_getElem?_getD,List.getElem?_eq_getElem hk]
def zeroD:Array Value:=machC (fun _=>0) 0 (.slice none 0 0) (.slice none 0 0)
theorem zmg (w:World):(Instr.build 38 #[]).run Try.prog w = .ok (.agg zeroD) w:=by
 refine run_build w _ _ _ ?_
 kernel_rfl
theorem zeb {w:World} {ops:Array Oper} {rest:List Oper} {o:Oper} {a:Act} {Q:Exit->Act->World->Prop} (hgd:o.guard=none) (ho:o.op = .build 38 #[]) (hk:wpList Try.prog ops Q rest (a.put o.dst (.agg zeroD)) w):wpList Try.prog ops Q (o::rest) a w:=by
 refine wpList_plain hgd fun _ hK=>?_
 unfold Oper.wp execOp;have e:(#[]:Array (Nat×Operand)).map (fun (i,x)=>(i,a.eval x))=#[]:=(by simp);simp only[ho,e,Sem.run_bind,Sem.run_pure,Result.andThen_ok,zmg];exact hK _ _ hk
end
end Go.Proofs.Ytgbdanddbgomhaa
