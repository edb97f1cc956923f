import Derived.Test.YtgbdanddbgomhaaDoorMw31
import Derived.Test.YtgbdanddbgomhaaDoorMw14
set_option linter.unusedVariables false
set_option linter.unusedSimpArgs false
namespace Go.Proofs.YtgbdanddbgomhaaDoor
open Go
def stepC (R:RSt) (F:Nat->Nat) (s:Sta) (c:Nat):Sta:=(aheadL R s).filter (hasAt R (lastB F 256 c))
theorem zk2 (R:RSt) (hV:Valid R) (st:Sta):∀ x∈aheadL R st,x.1<R.places.length∧x.2<2 ^ (R.lam+1):=fun x hx=>by
 obtain⟨h1,h2,h3⟩:=(zgn _ _ _).1 hx;refine⟨h1,?_⟩;apply Nat.lt_pow_two_of_testBit;intro a ha;cases e:x.2.testBit a with
 | false=>rfl
 | true =>
   rw[h2] at e;have hl:=hV.lam.1;rcases (zk4 R st hV.first x.1 a h1).1 e with ⟨_,h4⟩ | ⟨_,_,_,_,_,_,h4,_⟩ <;> omega
theorem zk3 (R:RSt) (st:Sta):(aheadL R st).length<=R.places.length:=zgm _ _
theorem zi2 {R:RSt} (hV:Valid R) {st:Sta} (h:May R st):Fits R st:=fun x hx=>by
 obtain⟨h1,h2⟩:=h x hx;have h3:2 ^ (R.lam+1)<=2 ^ 64:=Nat.pow_le_pow_right (by decide) (by have:=hV.lam.2;omega);exact⟨h1,by omega⟩
theorem zwq {R:RSt} (hV:Valid R) {st:Sta} (h:May R st):okSt st:=fun x hx=>by
 obtain⟨h1,h2⟩:=zi2 hV h x hx;have:=hV.P;exact⟨by omega,h2⟩
theorem zsl (R:RSt) (hV:Valid R) (F:Nat->Nat) (s:Sta) (c:Nat):May R (stepC R F s c):=fun x hx=>zk2 R hV s x (List.mem_filter.1 hx).1
theorem zsm (R:RSt) (F:Nat->Nat) (s:Sta) (c:Nat):(stepC R F s c).length<=R.places.length:=Nat.le_trans (List.length_filter_le _ _) (zk3 R s)
theorem zvl {l:List (Nat->Bool)} {a b:Nat} (h:keyL l a=keyL l b):∀ p∈l,p a=p b:=fun p hp=>by
 unfold keyL at h;obtain⟨i,hi⟩:=List.getElem?_of_mem hp;have h1:=congrArg (fun x:List Bool=>x[i]?) h;simp[hi] at h1;exact h1
theorem zvr {R:RSt} {F:Nat->Nat} (hF:F=numK (keyL (R.places.map Plc.set))) {b c:Nat} (hb:b<256) (h:F b=c) (x:Nat×Nat):hasAt R b x=hasAt R (lastB F 256 c) x:=by
 have h1:F (lastB F 256 c)=F b:=(zm8 F 256 c b hb h).trans h.symm;rw[hF] at h1;have h2:=(zcn _ _ _).1 h1;rw[←hF] at h2;unfold hasAt;cases e:R.places[x.1]? with
 | none=>rfl
 | some p=>exact (zvl h2 p.set (List.mem_map.2 ⟨p,List.mem_of_getElem? e,rfl⟩)).symm
theorem zsn {R:RSt} {F:Nat->Nat} (hF:F=numK (keyL (R.places.map Plc.set))) {b c:Nat} (hb:b<256) (h:F b=c) (s:Sta):(aheadL R s).filter (hasAt R b)=stepC R F s c:=by
 unfold stepC;exact List.filter_congr fun x _=>zvr hF hb h x
section
def setsN (L:List (Lay×Str)):Nat->List (Nat->Bool)
 | 0=>[]
 | k+1=>setsN L k++(L.getD k lx0).1.sets
theorem ziz (s:Lay) (x:Str) (base:Nat) (b:Bool):∀ k,k<=s.sets.length->(plcsOf s x base b k).map Plc.set=s.sets.take k
 | 0,_=>by simp[plcsOf]
 | k+1,h=>by
   rw[plcsOf,List.map_append,ziz s x base b k (by omega),List.take_succ_eq_append_getElem (by omega)];simp[plcOf,List.getD_eq_getElem?_getD,List.getElem?_eq_getElem (show k<s.sets.length by omega)]
theorem zhl (L:List (Lay×Str)) (bs:List Bool):∀ k,(togP L bs k).map Plc.set=setsN L k
 | 0=>rfl
 | k+1=>by
   rw[togP,setsN,List.map_append,zhl L bs k,ziz _ _ _ _ _ (Nat.le_refl _),List.take_length]
structure GoodD (L:List (Lay×Str)) (lam:Nat) (t:List Wd):Prop where
 ok:OkD L t
 nodup:t.Nodup
 age:∀ x∈t,x.age<=lam
theorem GoodD.nil (L:List (Lay×Str)) (lam:Nat):GoodD L lam []:=⟨fun x hx=>by simp at hx,by simp,fun x hx=>by simp at hx⟩
section
variable {L:List (Lay×Str)} {bs:List Bool} {lam:Nat}
theorem GoodD.step (hL:∀ s x,(s,x)∈L->OkLay s x) (hN:∀ s x,(s,x)∈L->x.first.Nodup) (hlam:1<=lam) (b:Nat) (t:List Wd):GoodD L lam (stepD L lam b t):=
 ⟨zlc hL lam b t,zke hN lam b t,fun x hx=>(zp1 hlam b t x hx).2⟩
theorem zna (hL:∀ s x,(s,x)∈L->OkLay s x) {F:Nat->Nat} (hF:F=numK (keyL (setsN L L.length))) {t:List Wd} (h:GoodD L lam t) {b c:Nat} (hb:b<256) (hc:F b=c):canon L bs (stepD L lam b t)=stepC (RR L bs lam) F (canon L bs t) c:=by
 rw[←zoa (lam:=lam) hL b h.ok];exact zsn (by rw[hF,←zhl L bs];rfl) hb hc _
theorem zrt:canon L bs []=[]:=by
 apply List.eq_nil_iff_forall_not_mem.2;rintro⟨p,n⟩ hx;obtain⟨h1,h2,h3⟩:=(zcw L bs [] p n).1 hx;obtain⟨a,ha⟩:=zkk h3;rw[h2] at ha;obtain⟨x,hx,_⟩:=(zci L bs p a []).1 ha;simp at hx
end
section
variable {α:Type} [DecidableEq α]
end
end
end Go.Proofs.YtgbdanddbgomhaaDoor
