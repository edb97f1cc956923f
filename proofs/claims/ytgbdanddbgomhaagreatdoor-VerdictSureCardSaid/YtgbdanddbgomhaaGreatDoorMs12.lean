import Derived.Test.YtgbdanddbgomhaaGreatDoorMs10
set_option linter.unusedVariables false
set_option linter.unusedSimpArgs false
namespace Go.Proofs.YtgbdanddbgomhaaGreatDoor
open Go
section
def shut {α:Type} (s:ByteArray) (r:R α):R α:=match r with
 | .error e => .error e
 | .ok (t,p)=>if isB s p 41=true then .error (2,(p:Int)) else .ok (t,p)
section
variable (s:ByteArray) (deep:Option (Nat->R T)) (hd:∀ f,deep=some f->∀ p,p<=s.size->Fwd s p (f p))
theorem zlc (p:Nat) (h:isB s p 41=true):cPiece s deep p = .error (2,(p:Int)):=by
 obtain⟨h1,h2⟩:=zan h;have e:cAtom s deep p = .error (2,(p:Int)):=by
   unfold cAtom;rw[if_pos h1,if_neg (by omega),if_neg (by omega),if_neg (by omega),if_neg (by omega),if_neg (by omega),if_pos (by rw[h2];decide)]
 unfold cPiece;rw[e];rfl
include hd in
theorem zf2:∀ (n:Nat) (l:List T) (p:Nat),p<=s.size->s.size+1-p<=n->loopR (partStep s deep true) n l p=shut s (loopR (partStep s deep false) n l p)
 | 0,l,p,h1,h2=>by omega
 | n+1,l,p,h1,h2=>by
   unfold loopR
   by_cases h41:isB s p 41=true
   . obtain⟨k1,k2⟩:=zan h41;have e1:partStep s deep true l p=some (.error (2,(p:Int))):=by
       unfold partStep;rw[if_pos ⟨k1,by omega,.inr rfl⟩,zlc s deep p h41];rfl
     have e2:partStep s deep false l p=none:=by
       unfold partStep;rw[if_neg (by simp[k2])]
     rw[e1,e2];simp[shut,h41]
   . by_cases hg:p<s.size∧bt s p≠124
     . have hb:bt s p≠41:=fun h=>h41 (by simp[isB,hg.1,h])
       have e1:∀ b,partStep s deep b l p=some (thenR (cPiece s deep p) fun t p => .ok (l++[t],p)):=fun b=>by unfold partStep;rw[if_pos ⟨hg.1,hg.2,.inl hb⟩]
       rw[e1,e1];have hf:=zb7 s deep hd p;cases hp:cPiece s deep p with
       | error e=>rfl
       | ok x =>
         rw[hp] at hf;have:=hf.1;exact zf2 n (l++[x.1]) x.2 hf.2 (by omega)
     . have e1:∀ b,partStep s deep b l p=none:=fun b=>by unfold partStep;rw[if_neg (fun h=>hg ⟨h.1,h.2.1⟩)]
       rw[e1,e1];simp[shut,h41]
include hd in
theorem zgy (pos:Nat):cPart s deep true pos=shut s (cPart s deep false pos):=by
 have hf:=zb7 s deep hd pos;unfold cPart;cases hp:cPiece s deep pos with
 | error e=>rfl
 | ok x =>
   rw[hp] at hf;have:=hf.1;have hl:=zf2 s deep hd (s.size+1) [x.1] x.2 hf.2 (by omega);simp only[thenR];rw[hl];cases loopR (partStep s deep false) (s.size+1) [x.1] x.2 with
   | error e=>rfl
   | ok y =>
     simp only[shut]
     by_cases h:isB s y.2 41=true <;> simp[h]
include hd in
theorem zgx:∀ (n:Nat) (l:List T) (p:Nat),p<=s.size->s.size+1-p<=n->¬ isB s p 41=true->loopR (patStep s deep true) n l p=shut s (loopR (patStep s deep false) n l p)
 | 0,l,p,h1,h2,_=>by omega
 | n+1,l,p,h1,h2,h41=>by
   unfold loopR
   by_cases h124:isB s p 124=true
   . have hlt:=(zan h124).1;have e1:∀ b,patStep s deep b l p=some (thenR (cPart s deep b (p+1)) fun t p => .ok (l++[t],p)):=fun b=>by unfold patStep;rw[if_pos h124]
     rw[e1,e1,zgy s deep hd];have hf:=zbe s deep hd false (p+1);cases hp:cPart s deep false (p+1) with
     | error e=>rfl
     | ok x =>
       rw[hp] at hf;have hf1:=hf.1;have hf2:=hf.2
       by_cases h:isB s x.2 41=true
       . simp only[shut,h,if_true,thenR];obtain⟨m,rfl⟩:∃ m,n=m+1:=⟨n-1,by omega⟩;have k:=zan h;have e2:patStep s deep false (l++[x.1]) x.2=none:=(by unfold patStep;rw[if_neg (by simp[isB];omega)]);unfold loopR;rw[e2];simp[h]
       . have:=zgx n (l++[x.1]) x.2 hf2 (by omega) h;simp only[shut,h,thenR]
         simpa [shut] using this
   . have e1:∀ b,patStep s deep b l p=none:=fun b=>by unfold patStep;rw[if_neg h124]
     rw[e1,e1];simp[shut,h41]
include hd in
theorem zm1 (pos:Nat):cPat s deep true pos=shut s (cPat s deep false pos):=by
 have hf:=zbe s deep hd false pos;unfold cPat;rw[zgy s deep hd];cases hp:cPart s deep false pos with
 | error e=>rfl
 | ok x =>
   rw[hp] at hf;have hf1:=hf.1;have hf2:=hf.2
   by_cases h:isB s x.2 41=true
   . have k:=zan h;have e2:patStep s deep false [x.1] x.2=none:=(by unfold patStep;rw[if_neg (by simp[isB];omega)]);have e3:loopR (patStep s deep false) (s.size+1) [x.1] x.2 = .ok ([x.1],x.2):=(by unfold loopR;rw[e2]);simp only[shut,h,if_true,thenR];rw[e3];simp[h]
   . have hl:=zgx s deep hd (s.size+1) [x.1] x.2 hf2 (by omega) h;have e:shut s (Except.ok (x.1,x.2)) = .ok (x.1,x.2):=(by simp[shut,h]);rw[show (Except.ok x:R T) = .ok (x.1,x.2) from rfl,e];simp only[thenR];rw[hl];cases loopR (patStep s deep false) (s.size+1) [x.1] x.2 with
     | error e=>rfl
     | ok y =>
       simp only[shut]
       by_cases h:isB s y.2 41=true <;> simp[h]
theorem zh0:∀ (n:Nat) (l:List T) (p:Nat) (l':List T) (p':Nat),p<=s.size->s.size+1-p<=n->(∀ q t q',cPiece s deep q = .ok (t,q')->q<q'∧q'<=s.size)->loopR (partStep s deep false) n l p = .ok (l',p')->p'=s.size∨isB s p' 41=true∨isB s p' 124=true
 | 0,l,p,l',p',h1,h2,_,_=>by omega
 | n+1,l,p,l',p',h1,h2,hf,h=>by
   unfold loopR at h
   by_cases hg:p<s.size∧bt s p≠124∧(bt s p≠41∨false=true)
   . have e1:partStep s deep false l p=some (thenR (cPiece s deep p) fun t p => .ok (l++[t],p)):=(by unfold partStep;rw[if_pos hg]);rw[e1] at h;cases hp:cPiece s deep p with
     | error e=>rw[hp] at h;cases h
     | ok x =>
       rw[hp] at h;have:=hf p x.1 x.2 hp;exact zh0 n (l++[x.1]) x.2 l' p' this.2 (by omega) hf h
   . have e1:partStep s deep false l p=none:=(by unfold partStep;rw[if_neg hg]);rw[e1] at h;injection h with h
     injection h with _ h
     subst h
     by_cases hlt:p<s.size
     . by_cases ha:bt s p=124
       . exact .inr (.inr (by simp[isB,hlt,ha]))
       . by_cases hb:bt s p=41
         . exact .inr (.inl (by simp[isB,hlt,hb]))
         . exact absurd ⟨hlt,ha,.inl hb⟩ hg
     . exact .inl (by omega)
include hd in
theorem zfi (pos p':Nat) (t:T) (h:cPart s deep false pos = .ok (t,p')):p'=s.size∨isB s p' 41=true∨isB s p' 124=true:=by
 have hf:∀ q t q',cPiece s deep q = .ok (t,q')->q<q'∧q'<=s.size:=fun q t q' hq=>by have:=zb7 s deep hd q;rw[hq] at this;exact this
 unfold cPart at h;cases hp:cPiece s deep pos with
 | error e=>rw[hp] at h;cases h
 | ok x =>
   rw[hp] at h;simp only[thenR] at h;have:=hf pos x.1 x.2 hp;cases hl:loopR (partStep s deep false) (s.size+1) [x.1] x.2 with
   | error e=>rw[hl] at h;cases h
   | ok y =>
     rw[hl] at h;injection h with h
     injection h with _ h
     subst h;exact zh0 s deep (s.size+1) [x.1] x.2 y.1 y.2 this.2 (by omega) hf hl
include hd in
theorem zjz:∀ (n:Nat) (l:List T) (p:Nat) (l':List T) (p':Nat),p<=s.size->s.size+1-p<=n->(p=s.size∨isB s p 41=true∨isB s p 124=true)->loopR (patStep s deep false) n l p = .ok (l',p')->p'=s.size∨isB s p' 41=true
 | 0,l,p,l',p',h1,h2,_,_=>by omega
 | n+1,l,p,l',p',h1,h2,hs,h=>by
   unfold loopR at h
   by_cases h124:isB s p 124=true
   . have hlt:=(zan h124).1;have e1:patStep s deep false l p=some (thenR (cPart s deep false (p+1)) fun t p => .ok (l++[t],p)):=(by unfold patStep;rw[if_pos h124]);rw[e1] at h;have hf:=zbe s deep hd false (p+1);cases hp:cPart s deep false (p+1) with
     | error e=>rw[hp] at h;cases h
     | ok x =>
       rw[hp] at h hf;have hf1:=hf.1;exact zjz n (l++[x.1]) x.2 l' p' hf.2 (by omega) (zfi s deep hd (p+1) x.2 x.1 hp) h
   . have e1:patStep s deep false l p=none:=(by unfold patStep;rw[if_neg h124]);rw[e1] at h;injection h with h
     injection h with _ h
     subst h;rcases hs with hs|hs|hs
     . exact .inl hs
     . exact .inr hs
     . exact absurd hs h124
include hd in
theorem zm2 (pos p':Nat) (t:T) (h:cPat s deep false pos = .ok (t,p')):p'=s.size∨isB s p' 41=true:=by
 unfold cPat at h;have hf:=zbe s deep hd false pos;cases hp:cPart s deep false pos with
 | error e=>rw[hp] at h;cases h
 | ok x =>
   rw[hp] at h hf;have hf1:=hf.1;simp only[thenR] at h;cases hl:loopR (patStep s deep false) (s.size+1) [x.1] x.2 with
   | error e=>rw[hl] at h;cases h
   | ok y =>
     rw[hl] at h;injection h with h
     injection h with _ h
     subst h;exact zjz s deep hd (s.size+1) [x.1] x.2 y.1 y.2 hf.2 (by omega) (zfi s deep hd pos x.2 x.1 hp) hl
end
theorem zi7 (s:ByteArray):parse s=if 200<s.size then .error (4,0) else match pat s 20 false 0 with
   | .error e => .error e
   | .ok (t,p)=>if p=s.size then .ok t else .error (2,(p:Int)):=by
 unfold parse
 by_cases hl:200<s.size
 . rw[if_pos hl,if_pos hl]
 . rw[if_neg hl,if_neg hl];have hd:∀ f,some (pat s 19 false)=some f->∀ p,p<=s.size->Fwd s p (f p):=fun f h p _=>by cases h;exact zg4 s 19 false p
   have e:=zm1 s (some (pat s 19 false)) hd 0;have he:=zm2 s (some (pat s 19 false)) hd 0;have e20:∀ b,pat s 20 b 0=cPat s (some (pat s 19 false)) b 0:=fun b=>rfl
   rw[e20,e20];rw[e];cases hr:cPat s (some (pat s 19 false)) false 0 with
   | error x=>rfl
   | ok x =>
     obtain⟨t,p⟩:=x;have hx:=he p t hr
     by_cases h41:isB s p 41=true
     . have:=zan h41;simp only[shut,h41,if_true];rw[if_neg (by omega)]
     . have hz:p=s.size:=hx.resolve_right h41;simp only[shut,h41];rw[if_pos hz];simp
end
section
def Rel {α:Type} (s:ByteArray) (o:R α) (st:St) (a:α) (st':St):Prop:=
 st'.opn=st.opn∧st'.pos<=s.size∧(st.bad≠0->st'.bad=st.bad∧st'.spot=st.spot)∧
 (st.bad=0->match o with
   | .ok (x,p)=>a=x∧st'.pos=p∧st'.bad=0
   | .error (c,q)=>c≠0∧st'.bad=c∧st'.spot=q)
section
variable (s:ByteArray) (st:St)
end
end
section
def Going {α:Type} (s:ByteArray) (o:R α) (step:α->Nat->Option (R α)) (st:St) (m:Nat) (a:α) (st2:St):Prop:=
 st2.opn=st.opn∧st2.pos<=s.size∧
 ((st2.bad=0∧st.bad=0∧o=loopR step m a st2.pos∧s.size+1-st2.pos<=m)∨
  (st2.bad≠0∧m=0∧(st.bad≠0->st2.bad=st.bad∧st2.spot=st.spot)∧(st.bad=0->o = .error (st2.bad,st2.spot))))
section
variable {α β:Type} {s:ByteArray} {o:R α} {step:α->Nat->Option (R α)} {st st2 st3:St} {m:Nat} {a a':α} {r:R α}
end
end
end Go.Proofs.YtgbdanddbgomhaaGreatDoor
