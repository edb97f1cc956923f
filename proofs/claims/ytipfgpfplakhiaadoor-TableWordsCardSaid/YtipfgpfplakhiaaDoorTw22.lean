import Derived.Test.YtipfgpfplakhiaaDoorTw19
set_option linter.unusedVariables false
set_option linter.unusedSimpArgs false
namespace Go.Proofs.YtipfgpfplakhiaaDoor
open Go
def zhp (R:RSt) (F:Nat->Nat) (s:Sta) (c:Nat):Sta:=(zf0 R s).filter (zgf R (lastB F 256 c))
theorem zp9 (R:RSt) (hV:zn9 R) (st:Sta):∀ x∈zf0 R st,x.1<R.places.length∧x.2<2 ^ (R.lam+1):=fun x hx=>by
 obtain⟨h1,h2,h3⟩:=(zkv _ _ _).1 hx;refine⟨h1,?_⟩;apply Nat.lt_pow_two_of_testBit;intro a ha;cases e:x.2.testBit a with
 | false=>rfl
 | true =>
  rw[h2] at e;have hl:=hV.lam.1;rcases (zpb R st hV.first x.1 a h1).1 e with ⟨_,h4⟩ | ⟨_,_,_,_,_,_,h4,_⟩ <;> omega
theorem zpa (R:RSt) (st:Sta):(zf0 R st).length<=R.places.length:=zku _ _
theorem ziq {R:RSt} (hV:zn9 R) {st:Sta} (h:May R st):Fits R st:=fun x hx=>by
 obtain⟨h1,h2⟩:=h x hx;have h3:2 ^ (R.lam+1)<=2 ^ 64:=ygq yij (by have:=hV.lam.2;omega);exact⟨h1,by omega⟩
theorem yds {R:RSt} (hV:zn9 R) {st:Sta} (h:May R st):okSt st:=fun x hx=>by
 obtain⟨h1,h2⟩:=ziq hV h x hx;have:=hV.P;exact⟨by omega,h2⟩
theorem zqt (R:RSt) (hV:zn9 R) (F:Nat->Nat) (s:Sta) (c:Nat):May R (zhp R F s c):=fun x hx=>zp9 R hV s x (List.mem_filter.1 hx).1
theorem zya (R:RSt) (F:Nat->Nat) (s:Sta) (c:Nat):(zhp R F s c).length<=R.places.length:=yfa (yhg _ _) (zpa R s)
theorem yc8 {l:List (Nat->Bool)} {a b:Nat} (h:keyL l a=keyL l b):∀ p∈l,p a=p b:=fun p hp=>by
 unfold keyL at h;obtain⟨i,hi⟩:=ygr hp;have h1:=congrArg (fun x:List Bool=>x[i]?) h;simp[hi] at h1;exact h1
theorem ycd {R:RSt} {F:Nat->Nat} (hF:F=numK (keyL (R.places.map Plc.set))) {b c:Nat} (hb:b<256) (h:F b=c) (x:Nat×Nat):zgf R b x=zgf R (lastB F 256 c) x:=by
 have h1:F (lastB F 256 c)=F b:=(zrm F 256 c b hb h).trans h.symm;rw[hF] at h1;have h2:=(zf7 _ _ _).1 h1;rw[←hF] at h2;unfold zgf;cases e:R.places[x.1]? with
 | none=>rfl
 | some p=>exact (yc8 h2 p.set (yg6.2 ⟨p,yfh e,rfl⟩)).symm
theorem zyb {R:RSt} {F:Nat->Nat} (hF:F=numK (keyL (R.places.map Plc.set))) {b c:Nat} (hb:b<256) (h:F b=c) (s:Sta):(zf0 R s).filter (zgf R b)=zhp R F s c:=by
 unfold zhp;exact List.filter_congr fun x _=>ycd hF hb h x
section
def zur (L:List (Lay×Str)):Nat->List (Nat->Bool)
 | 0=>[]
 | k+1=>zur L k++(L.getD k lx0).1.sets
theorem zo3 (s:Lay) (x:Str) (base:Nat) (b:Bool):∀ k,k<=s.sets.length->(zby s x base b k).map Plc.set=s.sets.take k
 | 0,_=>by simp[zby]
 | k+1,h=>by
  rw[zby,yfu,zo3 s x base b k yie,yfg yie];simp[zma,yf0,yey (show k<s.sets.length by omega)]
theorem zlw (L:List (Lay×Str)) (bs:List Bool):∀ k,(togP L bs k).map Plc.set=zur L k
 | 0=>rfl
 | k+1=>by
  rw[togP,zur,yfu,zlw L bs k,zo3 _ _ _ _ _ (yez _),yfy]
structure GoodD (L:List (Lay×Str)) (lam:Nat) (t:List Wd):Prop where
 ok:OkD L t
 nodup:t.Nodup
 age:∀ x∈t,x.age<=lam
theorem GoodD.nil (L:List (Lay×Str)) (lam:Nat):GoodD L lam []:=⟨fun x hx=>by simp at hx,by simp,fun x hx=>by simp at hx⟩
section
variable {L:List (Lay×Str)} {bs:List Bool} {lam:Nat}
theorem GoodD.step (hL:∀ s x,(s,x)∈L->zfl s x) (hN:∀ s x,(s,x)∈L->x.first.Nodup) (hlam:1<=lam) (b:Nat) (t:List Wd):GoodD L lam (zki L lam b t):=
 ⟨zqu hL lam b t,zpm hN lam b t,fun x hx=>(zuo hlam b t x hx).2⟩
theorem zsw (hL:∀ s x,(s,x)∈L->zfl s x) {F:Nat->Nat} (hF:F=numK (keyL (zur L L.length))) {t:List Wd} (h:GoodD L lam t) {b c:Nat} (hb:b<256) (hc:F b=c):canon L bs (zki L lam b t)=zhp (RR L bs lam) F (canon L bs t) c:=by
 rw[←zty (lam:=lam) hL b h.ok];exact zyb (by rw[hF,←zlw L bs];rfl) hb hc _
theorem zxd:canon L bs []=[]:=by
 apply List.eq_nil_iff_forall_not_mem.2;rintro⟨p,n⟩ hx;obtain⟨h1,h2,h3⟩:=(zfh L bs [] p n).1 hx;obtain⟨a,ha⟩:=zpw h3;rw[h2] at ha;obtain⟨x,hx,_⟩:=(zex L bs p a []).1 ha;simp at hx
end
section
variable {α:Type} [DecidableEq α]
end
end
end Go.Proofs.YtipfgpfplakhiaaDoor
