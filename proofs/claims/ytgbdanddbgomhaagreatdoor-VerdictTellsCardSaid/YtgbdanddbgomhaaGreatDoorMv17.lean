import Derived.Test.YtgbdanddbgomhaaGreatDoorMv13
set_option linter.unusedVariables false
set_option linter.unusedSimpArgs false
namespace Go.Proofs.YtgbdanddbgomhaaGreatDoor
open Go
section
def Rel {α:Type} (s:ByteArray) (o:R α) (st:St) (a:α) (st':St):Prop:=
 st'.opn=st.opn∧st'.pos<=s.size∧(st.bad≠0->st'.bad=st.bad∧st'.spot=st.spot)∧
 (st.bad=0->match o with
   | .ok (x,p)=>a=x∧st'.pos=p∧st'.bad=0
   | .error (c,q)=>c≠0∧st'.bad=c∧st'.spot=q)
section
variable (s:ByteArray) (st:St)
theorem zba (h:st.bad≠0) (a b:Int):st.fail a b=st:=by unfold St.fail;rw[if_neg h]
theorem zbn (h:st.bad=0) (a b:Int):st.fail a b={st with bad:=b,spot:=a}:=by unfold St.fail;rw[if_pos h]
theorem zbq (h:st.bad=0) (hp:st.pos<s.size):st.peek s=(bt s st.pos:Int):=by unfold St.peek;rw[if_neg (by omega)]
theorem ze8 (h:st.bad=0) (hp:s.size<=st.pos):st.peek s = -1:=by unfold St.peek;rw[if_pos (by omega)]
theorem ze9 (h:st.bad≠0):st.peek s = -1:=by unfold St.peek;rw[if_pos (by omega)]
theorem zc1 (h:st.bad=0) (hp:st.pos<s.size):st.next s=((bt s st.pos:Int),st.step 1):=by
 unfold St.next;rw[zbq s st h hp,if_neg (by omega)]
theorem zch (h:st.bad=0) (hp:s.size<=st.pos):st.next s=(-1,{st with bad:=2,spot:=s.size}):=by
 unfold St.next;rw[ze8 s st h hp,if_pos (by omega),zbn _ h]
theorem zc2 (h:st.bad≠0):st.next s=(-1,st):=by
 unfold St.next;rw[ze9 s st h,if_pos (by omega),zba _ h]
theorem zgt (t:ByteArray):inT (-1) t=false:=by
 cases h:inT (-1) t
 . rfl
 . have:=zck _ _ h;omega
theorem zak (h:st.bad=0) (c:Nat):(st.peek s=(c:Int))↔isB s st.pos c=true:=by
 unfold isB
 by_cases hp:st.pos<s.size
 . rw[zbq s st h hp];simp[hp];omega
 . rw[ze8 s st h (by omega)];simp[hp]
theorem zio (h:st.bad≠0):st.escaped s=(0,st):=by
 unfold St.escaped;simp only[zc2 s st h,zgt,zba st h];simp
theorem zf2 (hpos:st.pos<=s.size):Rel s (cEsc s st.pos) st (st.escaped s).1 (st.escaped s).2:=by
 by_cases hb:st.bad=0
 . refine⟨?_,(zd0 s st hpos).1,fun h=>absurd hb h,fun _=>?_⟩
   . unfold St.escaped St.next;simp only;have e:∀ (x:St) a b,(x.fail a b).opn=x.opn:=fun x a b=>by unfold St.fail;split <;> rfl
     repeat' split
     all_goals simp[e,St.step]
   . by_cases hp:st.pos<s.size
     . unfold St.escaped cEsc quotT;simp only[zc1 s st hb hp,hp,if_true];have e1:((bt s st.pos:Int)=110)↔bt s st.pos=110:=(by omega);have e2:((bt s st.pos:Int)=116)↔bt s st.pos=116:=(by omega);simp only[e1,e2]
       by_cases h1:bt s st.pos=110
       . simp only[h1,if_true];exact⟨trivial,rfl,hb⟩
       . simp only[h1,if_false]
         by_cases h2:bt s st.pos=116
         . simp only[h2,if_true];exact⟨trivial,rfl,hb⟩
         . simp only[h2,if_false]
           by_cases h3:inT (bt s st.pos:Int) ⟨#[92,46,91,93,40,41,123,125,124,63,42,43,94,36,45,47]⟩=true
           . simp only[h3,if_true];exact⟨trivial,rfl,hb⟩
           . simp only[h3];rw[if_neg (by simp),if_neg (by simp),zbn _ (by exact hb)];exact⟨by simp,rfl,by simp[St.step]⟩
     . unfold St.escaped cEsc;simp only[zch s st hb (by omega),zgt,hp,if_false];simp[St.fail];omega
 . rw[zio s st hb];exact⟨rfl,hpos,fun _=>⟨rfl,rfl⟩,fun h=>absurd h hb⟩
theorem zft (h:st.bad≠0):st.member s=(0,st):=by
 unfold St.member;simp[zc2 s st h];omega
theorem zfr (hpos:st.pos<=s.size):Rel s (cMem s st.pos) st (st.member s).1 (st.member s).2:=by
 by_cases hb:st.bad=0
 . by_cases hp:st.pos<s.size
   . have e1:((bt s st.pos:Int)=93)↔bt s st.pos=93:=(by omega);have e2:((bt s st.pos:Int)=92)↔bt s st.pos=92:=(by omega);unfold St.member cMem;simp only[zc1 s st hb hp,hp,if_true,e1,e2]
     by_cases h3:bt s st.pos=93
     . simp only[h3,if_true];rw[zbn _ (by exact hb)];refine⟨rfl,by simp[St.step];omega,fun h=>absurd hb h,fun _=>⟨by simp,rfl,by simp[St.step]⟩⟩
     . simp only[h3,if_false]
       by_cases h2:bt s st.pos=92
       . simp only[h2,if_true];have:=zf2 s (st.step 1) (show st.pos+1<=s.size by omega);exact this
       . simp only[h2,if_false];refine⟨rfl,by simp[St.step];omega,fun h=>absurd hb h,fun _=>⟨by omega,rfl,hb⟩⟩
   . unfold St.member cMem;simp only[zch s st hb (by omega),hp,if_false];refine⟨rfl,hpos,fun h=>absurd hb h,fun _=>?_⟩;simp;omega
 . rw[zft s st hb];exact⟨rfl,hpos,fun _=>⟨rfl,rfl⟩,fun h=>absurd h hb⟩
theorem zl3 (h:st.bad≠0):st.number s=(0,st):=by
 unfold St.number;simp[zc2 s st h,zba st h]
theorem zdr (hpos:st.pos<=s.size):Rel s (cNum s st.pos) st (st.number s).1 (st.number s).2:=by
 by_cases hb:st.bad=0
 . by_cases hp:st.pos<s.size
   . unfold St.number cNum;simp only[zc1 s st hb hp]
     by_cases hd:isD s st.pos=true
     . have hd':=hd;simp[isD] at hd';have hx:¬ ((bt s st.pos:Int)<48∨57<(bt s st.pos:Int)):=(by omega);rw[if_pos hd];simp only[hx,if_false]
       by_cases hd2:isD s (st.pos+1)=true
       . have hd3:=hd2;simp[isD] at hd3;rw[zbq s (st.step 1) hb (by simp[St.step];omega),if_pos hd2];have hy:(48<=(bt s (st.step 1).pos:Int)∧(bt s (st.step 1).pos:Int)<=57):=(by simp only[St.step];omega);rw[if_pos hy];refine⟨rfl,by simp[St.step];omega,fun h=>absurd hb h,fun _=>⟨by simp only[St.step];omega,rfl,hb⟩⟩
       . have hd3:¬ (48<=(st.step 1).peek s∧(st.step 1).peek s<=57):=by
           by_cases hp2:st.pos+1<s.size
           . rw[zbq s (st.step 1) hb (by simpa [St.step] using hp2)];simp[isD,hp2] at hd2;simp only[St.step];omega
           . rw[ze8 s (st.step 1) hb (by simp[St.step];omega)];omega
         rw[if_neg hd2,if_neg hd3];refine⟨rfl,by simp[St.step];omega,fun h=>absurd hb h,fun _=>⟨rfl,rfl,hb⟩⟩
     . have hd':=hd;simp[isD,hp] at hd';have hx:(bt s st.pos:Int)<48∨57<(bt s st.pos:Int):=(by omega);rw[if_neg hd,if_pos hx,zbn _ (by exact hb)];refine⟨rfl,by simp[St.step];omega,fun h=>absurd hb h,fun _=>⟨by simp,rfl,by simp[St.step]⟩⟩
   . unfold St.number cNum;simp only[zch s st hb (by omega)];have hd:¬ isD s st.pos=true:=(by simp[isD,hp]);rw[if_neg hd,if_pos (by omega)];refine⟨rfl,hpos,fun h=>absurd hb h,fun _=>?_⟩;simp[St.fail];omega
 . rw[zl3 s st hb];exact⟨rfl,hpos,fun _=>⟨rfl,rfl⟩,fun h=>absurd h hb⟩
theorem zr0 (hb:st.bad=0):st.wideHere s=cWide s st.pos:=by
 unfold St.wideHere cWide
 congr 1
 congr 1
 rw[Bool.eq_iff_iff,←zak s st hb 92];simp
theorem zpm (h:st.bad≠0):st.item s=(rangeP 0 0,st):=by
 unfold St.item St.wideHere;simp[ze9 s st h,zft s st h]
theorem zjr (hpos:st.pos<=s.size):Rel s (cItem s st.pos) st (st.item s).1 (st.item s).2:=by
 by_cases hb:st.bad=0
 . unfold St.item cItem;rw[zr0 s st hb]
   by_cases hw:cWide s st.pos=true
   . rw[if_pos hw,if_pos hw];simp[cWide] at hw;exact⟨rfl,by simp[St.step];omega,fun h=>absurd hb h,fun _=>⟨rfl,rfl,hb⟩⟩
   . rw[if_neg hw,if_neg hw];have hm:=zfr s st hpos;have hbd:=zet s st;revert hm hbd;generalize (st.member s).1=lo;generalize (st.member s).2=st1;generalize cMem s st.pos=o;rintro⟨m1,m2,m3,m4⟩ hbd;replace m4:=m4 hb
     match o,m4 with
     | .error (c,q),m4 =>
       have hz:st1.bad≠0:=(by rw[m4.2.1];exact m4.1);simp only[thenR,ze9 s st1 hz];exact⟨m1,m2,fun h=>absurd hb h,fun _=>m4⟩
     | .ok (x,p),m4 =>
       obtain⟨rfl,rfl,hz⟩:=m4;simp only[thenR]
       by_cases h45:isB s st1.pos 45=true
       . have hp:=(zak s st1 hz 45).2 h45;have hlt:=zao h45;rw[if_pos h45,if_pos (show st1.peek s=45 from hp)];have hm:=zfr s (st1.step 1) (show st1.pos+1<=s.size by omega);revert hm;rw[show (st1.step 1).pos=st1.pos+1 from rfl];generalize ((st1.step 1).member s).1=hi;generalize ((st1.step 1).member s).2=st3;generalize cMem s (st1.pos+1)=o;rintro⟨n1,n2,n3,n4⟩;replace n4:=n4 hz
         match o,n4 with
         | .error (c,q),n4 =>
           have hz3:st3.bad≠0:=(by rw[n4.2.1];exact n4.1);simp only[zba st3 hz3,ite_self];exact⟨n1.trans m1,n2,fun h=>absurd hb h,fun _=>n4⟩
         | .ok (y,p),n4 =>
           obtain⟨rfl,rfl,hz3⟩:=n4
           by_cases hlo:hi<lo
           . simp only[hlo,if_true];rw[zbn _ hz3];exact⟨n1.trans m1,n2,fun h=>absurd hb h,fun _=>⟨by simp,rfl,rfl⟩⟩
           . simp only[hlo,if_false];exact⟨n1.trans m1,n2,fun h=>absurd hb h,fun _=>⟨rfl,rfl,hz3⟩⟩
       . have hp:¬ (st1.peek s=45):=fun h=>h45 ((zak s st1 hz 45).1 (by simpa using h))
         rw[if_neg h45,if_neg hp];exact⟨m1,m2,fun h=>absurd hb h,fun _=>⟨rfl,rfl,hz⟩⟩
 . rw[zpm s st hb];exact⟨rfl,hpos,fun _=>⟨rfl,rfl⟩,fun h=>absurd h hb⟩
end
end
section
def Going {α:Type} (s:ByteArray) (o:R α) (step:α->Nat->Option (R α)) (st:St) (m:Nat) (a:α) (st2:St):Prop:=
 st2.opn=st.opn∧st2.pos<=s.size∧
 ((st2.bad=0∧st.bad=0∧o=loopR step m a st2.pos∧s.size+1-st2.pos<=m)∨
  (st2.bad≠0∧m=0∧(st.bad≠0->st2.bad=st.bad∧st2.spot=st.spot)∧(st.bad=0->o = .error (st2.bad,st2.spot))))
section
variable {α β:Type} {s:ByteArray} {o:R α} {step:α->Nat->Option (R α)} {st st2 st3:St} {m:Nat} {a a':α} {r:R α}
theorem Rel.opn {b:β} {r:R β} (h:Rel s r st b st2):st2.opn=st.opn:=h.1
theorem Rel.pos {b:β} {r:R β} (h:Rel s r st b st2):st2.pos<=s.size:=h.2.1
theorem Rel.bad {b:β} {r:R β} (h:Rel s r st b st2) (hb:st.bad≠0):st2.bad≠0:=by have:=h.2.2.1 hb;omega
theorem Rel.cases {b:β} {r:R β} (h:Rel s r st b st2) (hb:st.bad=0):(st2.bad=0∧r = .ok (b,st2.pos))∨(st2.bad≠0∧r = .error (st2.bad,st2.spot)):=by
 have h4:=h.2.2.2 hb
 match r,h4 with
 | .ok (x,p),h4=>obtain⟨rfl,rfl,hz⟩:=h4;exact .inl ⟨hz,rfl⟩
 | .error (c,q),h4=>obtain⟨hc,rfl,rfl⟩:=h4;exact .inr ⟨hc,rfl⟩
theorem Rel.mk0 {b:β} {r:R β} (h1:st2.opn=st.opn) (h2:st2.pos<=s.size) (h3:st.bad≠0->st2.bad=st.bad∧st2.spot=st.spot) (h4:st.bad=0->(st2.bad=0∧r = .ok (b,st2.pos))∨(st2.bad≠0∧r = .error (st2.bad,st2.spot))):Rel s r st b st2:=by
 refine⟨h1,h2,h3,fun hb=>?_⟩;rcases h4 hb with ⟨hz,rfl⟩|⟨hz,rfl⟩
 . exact⟨rfl,rfl,hz⟩
 . exact⟨hz,rfl,rfl⟩
theorem Rel.then {b:β} {r:R β} {f:β->Nat->R α} (h:Rel s r st b st2) (hz:st2.bad≠0->st3.bad=st2.bad∧st3.spot=st2.spot∧st3.opn=st2.opn∧st3.pos<=s.size) (hf:st.bad=0->st2.bad=0->Rel s (f b st2.pos) st2 a st3):Rel s (thenR r f) st a st3:=by
 by_cases hb:st.bad=0
 . rcases h.cases hb with ⟨h1,h2⟩|⟨h1,h2⟩
   . have:=hf hb h1;refine Rel.mk0 (this.opn.trans h.opn) this.pos (fun h=>absurd hb h) fun _=>?_
     rw[h2];exact this.cases h1
   . have:=hz h1;refine Rel.mk0 (this.2.2.1.trans h.opn) this.2.2.2 (fun h=>absurd hb h) fun _=>?_
     rw[h2];exact .inr ⟨by omega,by rw[this.1,this.2.1];rfl⟩
 . have h1:=h.bad hb;have:=hz h1;have h3:=h.2.2.1 hb;exact Rel.mk0 (this.2.2.1.trans h.opn) this.2.2.2 (fun _=>⟨by omega,by omega⟩) (fun h=>absurd h hb)
theorem Going.start {b:β} {r:R β} {f:β->α} (h:Rel s r st b st2):Going s (thenR r fun b p=>loopR step (s.size+1) (f b) p) step st (if st2.bad=0 then s.size+1 else 0) (f b) st2:=by
 refine⟨h.opn,h.pos,?_⟩
 by_cases hb:st.bad=0
 . rcases h.cases hb with ⟨h1,h2⟩|⟨h1,h2⟩
   . left;rw[if_pos h1,h2];exact⟨h1,hb,rfl,by omega⟩
   . right;rw[if_neg h1,h2];exact⟨h1,rfl,fun h=>absurd hb h,fun _=>rfl⟩
 . right;rw[if_neg (h.bad hb)];exact⟨h.bad hb,rfl,h.2.2.1,fun h=>absurd h hb⟩
theorem Going.on (h:Going s o step st m a st2) (hb:st2.bad=0) (hs:step a st2.pos=some r) (hr:Rel s r st2 a' st3) (hf:Fwd s st2.pos r):
   (if st3.bad=0 then m-1 else 0)<m∧Going s o step st (if st3.bad=0 then m-1 else 0) a' st3:=by
 obtain⟨h1,h2,⟨_,h4,h5,h6⟩|⟨h3,_⟩⟩:=h
 . have hm:0<m:=(by omega);obtain⟨k,rfl⟩:∃ k,m=k+1:=⟨m-1,by omega⟩;unfold loopR at h5;rw[hs] at h5;refine⟨by split <;> omega,hr.opn.trans h1,hr.pos,?_⟩;rcases hr.cases hb with ⟨h7,h8⟩|⟨h7,h8⟩
   . left;rw[if_pos h7];rw[h8] at h5 hf;have:=hf.1;exact⟨h7,h4,h5,by omega⟩
   . right;rw[if_neg h7];rw[h8] at h5;exact⟨h7,rfl,fun h=>absurd h4 h,fun _=>h5⟩
 . exact absurd hb h3
theorem Going.stop (h:Going s o step st m a st2) (hs:st2.bad=0->step a st2.pos=none):Rel s o st a st2:=by
 obtain⟨h1,h2,⟨h3,h4,h5,h6⟩|⟨h3,h4,h5,h6⟩⟩:=h
 . obtain⟨k,rfl⟩:∃ k,m=k+1:=⟨m-1,by omega⟩;unfold loopR at h5;rw[hs h3] at h5;exact Rel.mk0 h1 h2 (fun h=>absurd h4 h) fun _ => .inl ⟨h3,h5⟩
 . exact Rel.mk0 h1 h2 h5 fun h => .inr ⟨h3,h6 h⟩
theorem Rel.swap {b:β} {r r':R β} (h:Rel s r st b st2) (he:st.bad=0->r=r'):Rel s r' st b st2:=
 ⟨h.1,h.2.1,h.2.2.1,fun hb=>by rw[←he hb];exact h.2.2.2 hb⟩
theorem Rel.from {b:β} {r:R β} (h:Rel s r st3 b st2) (h1:st3.opn=st.opn) (h2:st3.bad=st.bad) (h3:st3.spot=st.spot):Rel s r st b st2:=
 ⟨h.1.trans h1,h.2.1,fun hb=>by have:=h.2.2.1 (by rw[h2];exact hb);rw[←h2,←h3];exact this,fun hb=>h.2.2.2 (by rw[h2];exact hb)⟩
theorem Going.opn (h:Going s o step st m a st2):st2.opn=st.opn:=h.1
theorem Going.pos (h:Going s o step st m a st2):st2.pos<=s.size:=h.2.1
end
end
end Go.Proofs.YtgbdanddbgomhaaGreatDoor
