import Derived.Test.YtgbdanddbgomhaaDoorMw38
set_option linter.unusedVariables false
set_option linter.unusedSimpArgs false
namespace Go.Proofs.YtgbdanddbgomhaaDoor
open Go Go.RowKit
section
attribute [local go_sem ↓] Go.wp_at_zero Go.wp_at_succ
set_option maxRecDepth 20000 in
set_option maxHeartbeats 2000000 in
theorem zog (w:World) (g:Nat) (s:ByteArray) (st:St) (h:Rdr w g s st) (hs:s.size<=1000) (hpos:st.pos<=s.size) (o:R T) (st1:St) (hc:st.next s=(40,st1)) (h20:0<=st1.opn∧st1.opn<20) (f:R T)
   (hp:∀ w,Rdr w g s {st1 with opn:=st1.opn+1}->Calls Tryd.prog 59 #[.pointer (some ⟨g,0,none⟩)] w (RetNode w g s f {st1 with opn:=st1.opn+1}))
   (hr:∀ t st2 c st3,Rel s f {st1 with opn:=st1.opn+1} t st2->st2.next s=(c,st3)->Rel s o st t {(if c=41 then st3 else st3.fail ((st3.pos:Int)-1) 2) with opn:=st1.opn}) (hp1:st1.pos<=s.size):
   Calls Tryd.prog 118 #[.pointer (some ⟨g,0,none⟩)] w (RetNode w g s o st):=by
 have mid:=Mid.start h;have HN:=Zh (fun w h=>zbb w g s st h hs);simp only[hc] at HN;generalize hw0:w.alloc (.cells #[.int .i64 0,.int .u64 0,.int .u64 0,.int .u64 0,.int .u64 0,.int .i64 0,.int .i64 0,.slice none 0 0] 29)=w0 at mid;have HW:=Zh hw0;have HR:=Zh hr;clear hw0 hr hc;have h20':(st1.opn==20)=false:=(by simp;omega);have HP:=Zh hp;clear hp;have hgw:=h.lt;have hgb:g≠w.heap.size:=(by omega);have hgb':w.heap.size≠g:=(by omega);go_enter Tryd.func118,Tryd.ntmps118;go_wp2_with fail;rw[HW.out];clear HW;go_wp2_with (first
   | (go_at_call 119;(with_reducible refine (HN.out _ mid.rdr).mono ?_);rintro e w1 ⟨rfl,r1,o1⟩;have mid1:=mid.next o1 r1;obtain⟨c0,c1,c2,c3,c4⟩:=r1.cell;obtain⟨f0,f1,f2,f3,f4⟩:=r1.frozen)
   | (go_at_call 59;(with_reducible refine (HP.out _ (mid1.setOpn (st1.opn+1)).rdr).mono ?_);rintro e w2 ⟨t,k,st2,rfl,ht,r2,o2,hf⟩;obtain⟨A,tn,tc,rfl⟩:=ht.form;unfold nodeV;have mid2:=(mid1.setOpn (st1.opn+1)).next o2 r2;have hw2:=mid2.new;obtain⟨c,st3,hn2⟩:∃ c st3,st2.next s=(c,st3):=⟨_,_,rfl⟩;have HN2:=Zh (fun w h=>zbb w g s st2 h hs);simp only[hn2] at HN2;have HR2:=Zh (HR.out t st2 c st3 hf hn2);have hop:=Zh (show st3.opn=st1.opn+1 from zt8 hn2 hf.opn);have hps:=zby s st2 hf.pos;simp only[hn2] at hps;have hpp:=hps.1;clear hps hn2 hf HR;have hop1:1<=st3.opn:=(by rw[hop.out];omega);have hop2:st3.opn<=20:=(by rw[hop.out];omega))
   | (go_at_call 119;(with_reducible refine (HN2.out _ (mid2.alloc _).rdr).mono ?_);rintro e w3 ⟨rfl,r3,o3⟩;have mid3:=(mid2.alloc _).next o3 r3;have hg2:=mid2.rdr.lt;have hx1:g≠w2.heap.size:=(by omega);have hx2:w2.heap.size≠g:=(by omega);have hx3:w.heap.size≠w2.heap.size:=(by omega);have hx4:w2.heap.size≠w.heap.size:=(by omega);have b3:=(Box8.new w2 t (.slice A tn tc)).grown o3 (by simp;omega);have ht3:=((ht.weak (ok':=fun b=>w.heap.size<b∧b≠w2.heap.size) (fun b hb hlt=>by simp at hb;have:=mid1.new;exact⟨by omega,by omega⟩)).alloc _).only o3 (mid2.alloc _).rdr;obtain⟨k0,k1,k2,k3,k4⟩:=r3.cell;obtain⟨l0,l1,l2,l3,l4⟩:=r3.frozen;obtain⟨n0,n1,n2,n3,n4,n5,n6,n7⟩:=b3.cell;obtain⟨m0,m1,m2,m3,m4,m5,m6,m7⟩:=mid3.box.cell;obtain⟨y0,y1,y2,y3,y4,y5,y6,y7⟩:=mid3.box.frozen)
   | (go_at_call 121;(with_reducible refine (zct _ g s st3 _ _ r3).mono ?_);rintro e w5 ⟨rfl,r5,o5⟩;have mid5:=mid3.next o5 r5;have b5:=b3.grown o5 (by simp;omega);have ht5:=ht3.only o5 r3;obtain⟨p0,p1,p2,p3,p4⟩:=r5.cell;rw[ztz] at p2;obtain⟨q0,q1,q2,q3,q4⟩:=r5.frozen;obtain⟨z0,z1,z2,z3,z4,z5,z6,z7⟩:=b5.cell;obtain⟨m0,m1,m2,m3,m4,m5,m6,m7⟩:=mid5.box.cell;obtain⟨y0,y1,y2,y3,y4,y5,y6,y7⟩:=mid5.box.frozen))
 . have hc:¬ c=41:=(by simpa using ‹(c != 41)=true›);have hr:=HR2.out;rw[if_neg hc,←show st3.opn-1=st1.opn by rw[hop.out];omega] at hr;refine bodyPost_ret (v:=nodeV t (.slice A tn tc)) ?_ rfl ((mid5.setOpn (st3.opn-1)).ret ((ht5.far (a:=⟨g,2,none⟩) (fun b hb=>by show b≠g;omega) _).weak fun b hb _=>hb.1) hr);simp[nodeV,T.one,T.zero,T.op,T.set,T.lo,T.hi,za5,results,Tryd.results118,go_sem,m0,m1,m2,m3,m4,m5,m6,m7,hgb,hgb']
 . have hc:c=41:=(by simpa using ‹(c != 41)=false›);have hr:=HR2.out;rw[if_pos hc,←show st3.opn-1=st1.opn by rw[hop.out];omega] at hr;refine bodyPost_ret (v:=nodeV t (.slice A tn tc)) ?_ rfl ((mid3.setOpn (st3.opn-1)).ret ((ht3.far (a:=⟨g,2,none⟩) (fun b hb=>by show b≠g;omega) _).weak fun b hb _=>hb.1) hr);simp[nodeV,T.one,T.zero,T.op,T.set,T.lo,T.hi,za5,results,Tryd.results118,go_sem,m0,m1,m2,m3,m4,m5,m6,m7,hgb,hgb']
def Deep (g:Nat) (s:ByteArray) (deep:Option (Nat->R T)) (n:Int):Prop:=
 (deep=none∧n=20)∨∃ f,deep=some f∧0<=n∧n<20∧∀ w st',Rdr w g s st'->st'.opn=n+1->st'.pos<=s.size->
   Calls Tryd.prog 59 #[.pointer (some ⟨g,0,none⟩)] w (RetNode w g s (f st'.pos) st')
theorem zwz (w:World) (g:Nat) (s:ByteArray) (st:St) (h:Rdr w g s st) (hs:s.size<=1000) (hpos:st.pos<=s.size) (deep:Option (Nat->R T)) (hd:Deep g s deep st.opn):Calls Tryd.prog 118 #[.pointer (some ⟨g,0,none⟩)] w (RetNode w g s (cAtom s deep st.pos) st):=by
 by_cases hb:st.bad=0
 . by_cases hp:st.pos<s.size
   . have hn:=zce s st hb hp;have hlt:=zwx s st.pos;have hstep:∀ {t:T} {o:R T},o = .ok (t,st.pos+1)->Rel s o st t (st.step 1):=fun e=>Rel.mk0 rfl (by show st.pos+1<=s.size;omega) (fun h=>absurd hb h) fun _ => .inl ⟨hb,e⟩
     have hfail:∀ {t:T} {o:R T} {c:Int},c≠0->o = .error (c,(st.pos:Int))->Rel s o st t ((st.step 1).fail (((st.step 1).pos:Int)-1) c):=fun hc e=>by
       rw[zbz _ (by exact hb)];refine Rel.mk0 rfl (by show st.pos+1<=s.size;omega) (fun h=>absurd hb h) fun _ => .inr ⟨hc,?_⟩
       rw[e];simp[St.step]
     have hp1:(st.step 1).pos<=s.size:=by show st.pos+1<=s.size;omega
     unfold cAtom;rw[if_pos hp]
     by_cases h1:bt s st.pos=40
     . rw[if_pos h1];rw[h1] at hn;rcases hd with ⟨rfl,h20⟩|⟨f,rfl,h0,h20,hf⟩
       . exact zs4 w g s st h hs hpos _ _ hn h20 (hfail (by omega) rfl) hp1
       . refine zog w g s st h hs hpos _ _ hn ⟨h0,h20⟩ (f (st.pos+1)) (fun w hr=>hf w _ hr rfl hp1) (fun t st2 c st3 h2 h3=>?_) hp1;have hz:st2.bad≠0->st3=st2∧c = -1:=fun hz=>by rw[zcf s st2 hz] at h3;injection h3 with e1 e2;exact⟨e2.symm,e1.symm⟩
         have hh:Rel s (thenR (f (st.pos+1)) fun t p=>if isB s p 41=true then .ok (t,p+1) else .error (2,(p:Int))) {st.step 1 with opn:=st.opn+1} t {(if c=41 then st3 else st3.fail ((st3.pos:Int)-1) 2) with opn:=st.opn+1}:=by
           refine h2.then (fun hz2=>?_) (fun hb0 hb2=>?_)
           . obtain⟨rfl,rfl⟩:=hz hz2;rw[if_neg (by omega),zbh _ hz2];exact⟨rfl,rfl,h2.opn.symm,h2.pos⟩
           . have hop:=h2.opn
             by_cases hp2:st2.pos<s.size
             . rw[zce s st2 hb2 hp2] at h3;injection h3 with e1 e2
               subst e1 e2
               by_cases h41:bt s st2.pos=41
               . rw[if_pos (show isB s st2.pos 41=true by simp[isB,hp2,h41]),if_pos (show (bt s st2.pos:Int)=41 by omega)];exact Rel.mk0 hop.symm (by show st2.pos+1<=s.size;omega) (fun h=>absurd hb2 h) fun _ => .inl ⟨hb2,rfl⟩
               . rw[if_neg (show ¬ isB s st2.pos 41=true by simp[isB,h41]),if_neg (show ¬ (bt s st2.pos:Int)=41 by omega),zbz _ (by exact hb2)];exact Rel.mk0 hop.symm (by show st2.pos+1<=s.size;omega) (fun h=>absurd hb2 h) fun _ => .inr ⟨by simp,by simp[St.step]⟩
             . rw[zd2 s st2 hb2 (by omega)] at h3;injection h3 with e1 e2
               subst e1 e2;have:=h2.pos;rw[if_neg (show ¬ isB s st2.pos 41=true by simp[isB,hp2]),if_neg (show ¬ (-1:Int)=41 by omega),zbh _ (by simp)];refine Rel.mk0 hop.symm h2.pos (fun h=>absurd hb2 h) fun _ => .inr ⟨by simp,?_⟩
               simp;omega
         exact Rel.mk0 rfl hh.pos (fun h=>absurd hb h) fun _=>hh.cases hb
     . rw[if_neg h1]
       by_cases h2:bt s st.pos=91
       . rw[if_pos h2];rw[h2] at hn;refine zoh w g s st h hs hpos _ _ hn (fun q st2 hq=>?_) hp1;exact (hq.from (st:=st) rfl rfl rfl).then (fun hz=>⟨rfl,rfl,rfl,hq.pos⟩) fun _ hz=>Rel.mk0 rfl hq.pos (fun h=>absurd hz h) fun _ => .inl ⟨hz,rfl⟩
       . rw[if_neg h2]
         by_cases h3:bt s st.pos=46
         . rw[if_pos h3];rw[h3] at hn;exact zug w g s st h hs hpos _ _ hn (hstep rfl)
         . rw[if_neg h3]
           by_cases h4:bt s st.pos=92
           . rw[if_pos h4];rw[h4] at hn;have hwd:cWide s st.pos=isWide ((st.step 1).peek s):=by
               unfold cWide
               by_cases hq:st.pos+1<s.size
               . rw[zc1 s (st.step 1) hb hq];simp[isB,hp,h4,hq,St.step]
               . rw[zeu s (st.step 1) hb (by show s.size<=st.pos+1;omega)];simp[hq,isWide]
             by_cases h5:cWide s st.pos=true
             . rw[if_pos h5];have hq:st.pos+1<s.size:=(by simp[cWide] at h5;omega);have e:=zc1 s (st.step 1) hb hq;refine zs1 w g s st h hs hpos _ _ hn (by rw[←hwd];exact h5) ?_ hq;rw[e];exact Rel.mk0 rfl (by show st.pos+1+1<=s.size;omega) (fun h=>absurd hb h) fun _ => .inl ⟨hb,rfl⟩
             . rw[if_neg h5];refine zuf w g s st h hs hpos _ _ hn (by rw[←hwd];simpa using h5) ?_ hp1;have he:=(zfu s (st.step 1) hp1).from (st:=st) rfl rfl rfl
               exact he.then (fun hz=>⟨rfl,rfl,rfl,he.pos⟩) fun _ hz=>Rel.mk0 rfl he.pos (fun h=>absurd hz h) fun _ => .inl ⟨hz,rfl⟩
           . rw[if_neg h4]
             by_cases h5:bt s st.pos=42∨bt s st.pos=43
             . rw[if_pos h5];exact zs3 w g s st h hs hpos _ _ _ hn (by omega) (hfail (by omega) rfl) hp1
             . rw[if_neg h5]
               by_cases h6:inT (bt s st.pos:Int) stopT=true
               . rw[if_pos h6];exact zs2 w g s st h hs hpos _ _ _ hn (by omega) (by omega) (by omega) (by omega) (by omega) (by omega) h6 (by omega) (hfail (by omega) rfl) hp1
               . rw[if_neg h6];refine zg4 w g s st h hs hpos _ _ _ hn (by omega) (by omega) (by omega) (by omega) (by omega) (by omega) (by simpa using h6) (by omega) ?_;rw[zns _ (by omega)];exact hstep rfl
   . refine zg4 w g s st h hs hpos _ _ _ (zd2 s st hb (by omega)) (by omega) (by omega) (by omega) (by omega) (by omega) (by omega) (zi6 _) (by omega) ?_;refine Rel.mk0 rfl hpos (fun h=>absurd hb h) fun _ => .inr ⟨by simp,?_⟩
     unfold cAtom;rw[if_neg hp];simp;omega
 . exact zg4 w g s st h hs hpos _ _ _ (zcf s st hb) (by omega) (by omega) (by omega) (by omega) (by omega) (by omega) (zi6 _) (by omega) (Rel.mk0 rfl hpos (fun _=>⟨rfl,rfl⟩) (fun h=>absurd h hb))
end
end Go.Proofs.YtgbdanddbgomhaaDoor
