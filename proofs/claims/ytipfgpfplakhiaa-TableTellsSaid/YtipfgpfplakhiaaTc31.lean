import Derived.Test.YtipfgpfplakhiaaTc29
set_option linter.unusedVariables false
set_option linter.unusedSimpArgs false
set_option maxRecDepth 20000
set_option maxHeartbeats 4000000
namespace Go.Proofs.Ytipfgpfplakhiaa
open Go Go.RowKit
section
attribute [local go_sem ↓] Go.wp_at_zero Go.wp_at_succ
theorem zuq (w:World) (g:Nat) (s:ByteArray) (st:St) (h:Rdr w g s st) (hs:s.size<=1000) (hpos:st.pos<=s.size) (o:R T) (st1:St) (hc:st.next s=(40,st1)) (h20:0<=st1.opn∧st1.opn<20) (f:R T)
 (hp:∀ w,Rdr w g s {st1 with opn:=st1.opn+1}->Calls Try.prog 62 #[.pointer (some ⟨g,0,none⟩)] w (zbn w g s f {st1 with opn:=st1.opn+1}))
 (hr:∀ t st2 c st3,Rel s f {st1 with opn:=st1.opn+1} t st2->st2.next s=(c,st3)->Rel s o st t {(if c=41 then st3 else st3.fail ((st3.pos:Int)-1) 2) with opn:=st1.opn}) (hp1:st1.pos<=s.size):
 Calls Try.prog 83 #[.pointer (some ⟨g,0,none⟩)] w (zbn w g s o st):=by
 have mid:=Mid.start h;have HN:=Zh (fun w h=>zd7 w g s st h hs);simp only[hc] at HN;generalize hw0:w.alloc (.cells #[.int .i64 0,.int .u64 0,.int .u64 0,.int .u64 0,.int .u64 0,.int .i64 0,.int .i64 0,.slice none 0 0] 67)=w0 at mid;have HW:=Zh hw0;have HR:=Zh hr;clear hw0 hr hc;have h20':(st1.opn==20)=false:=yk8;have HP:=Zh hp;clear hp;have hgw:=h.lt;have hgb:g≠w.heap.size:=yjz;have hgb':w.heap.size≠g:=yjz;go_enter Try.func83,Try.ntmps83;go_wp2_with fail;rw[HW.o];clear HW;go_wp2_with (first
  | (go_at_call 84;(with_reducible refine (HN.o _ mid.rdr).mono ?_);rintro e w1 ⟨rfl,r1,o1⟩;have mid1:=mid.next o1 r1;obtain⟨c0,c1,c2,c3,c4⟩:=r1.cell;obtain⟨f0,f1,f2,f3,f4⟩:=r1.frozen)
  | (go_at_call 62;(with_reducible refine (HP.o _ (mid1.setOpn (st1.opn+1)).rdr).mono ?_);rintro e w2 ⟨t,k,st2,rfl,ht,r2,o2,hf⟩;obtain⟨A,tn,tc,rfl⟩:=ht.form;unfold zal;have mid2:=(mid1.setOpn (st1.opn+1)).next o2 r2;have hw2:=mid2.new;obtain⟨c,st3,hn2⟩:∃ c st3,st2.next s=(c,st3):=⟨_,_,rfl⟩;have HN2:=Zh (fun w h=>zd7 w g s st2 h hs);simp only[hn2] at HN2;have HR2:=Zh (HR.o t st2 c st3 hf hn2);have hop:=Zh (show st3.opn=st1.opn+1 from yai hn2 hf.opn);have hps:=zeg s st2 hf.pos;simp only[hn2] at hps;have hpp:=hps.1;clear hps hn2 hf HR;have hop1:1<=st3.opn:=(by rw[hop.out];omega);have hop2:st3.opn<=20:=(by rw[hop.out];omega))
  | (go_at_call 84;(with_reducible refine (HN2.o _ (mid2.alloc _).rdr).mono ?_);rintro e w3 ⟨rfl,r3,o3⟩;have mid3:=(mid2.alloc _).next o3 r3;have hg2:=mid2.rdr.lt;have hx1:g≠w2.heap.size:=yjz;have hx2:w2.heap.size≠g:=yjz;have hx3:w.heap.size≠w2.heap.size:=yjz;have hx4:w2.heap.size≠w.heap.size:=yjz;have b3:=(Box8.new w2 t (.slice A tn tc)).grown o3 yk8;have ht3:=((ht.weak (ok':=fun b=>w.heap.size<b∧b≠w2.heap.size) (fun b hb hlt=>by simp at hb;have:=mid1.new;exact⟨by omega,by omega⟩)).alloc _).only o3 (mid2.alloc _).rdr;obtain⟨k0,k1,k2,k3,k4⟩:=r3.cell;obtain⟨l0,l1,l2,l3,l4⟩:=r3.frozen;obtain⟨n0,n1,n2,n3,n4,n5,n6,n7⟩:=b3.cell;obtain⟨m0,m1,m2,m3,m4,m5,m6,m7⟩:=mid3.box.cell;obtain⟨y0,y1,y2,y3,y4,y5,y6,y7⟩:=mid3.box.frozen)
  | (go_at_call 86;(with_reducible refine (zfw _ g s st3 _ _ r3).mono ?_);rintro e w5 ⟨rfl,r5,o5⟩;have mid5:=mid3.next o5 r5;have b5:=b3.grown o5 yk8;have ht5:=ht3.only o5 r3;obtain⟨p0,p1,p2,p3,p4⟩:=r5.cell;rw[ybn] at p2;obtain⟨q0,q1,q2,q3,q4⟩:=r5.frozen;obtain⟨z0,z1,z2,z3,z4,z5,z6,z7⟩:=b5.cell;obtain⟨m0,m1,m2,m3,m4,m5,m6,m7⟩:=mid5.box.cell;obtain⟨y0,y1,y2,y3,y4,y5,y6,y7⟩:=mid5.box.frozen))
 .have hc:¬ c=41:=(by simpa using ‹(c != 41)=true›);have hr:=HR2.o;rw[if_neg hc,←show st3.opn-1=st1.opn by rw[hop.out];omega] at hr;refine bodyPost_ret (v:=zal t (.slice A tn tc)) ?_ rfl ((mid5.setOpn (st3.opn-1)).ret ((ht5.far (a:=⟨g,2,none⟩) (fun b hb=>by show b≠g;omega) _).weak fun b hb _=>hb.1) hr);simp[zal,T.one,T.zero,T.op,T.set,T.lo,T.hi,zah,results,Try.results83,go_sem,m0,m1,m2,m3,m4,m5,m6,m7,hgb,hgb']
 .have hc:c=41:=(by simpa using ‹(c != 41)=false›);have hr:=HR2.o;rw[if_pos hc,←show st3.opn-1=st1.opn by rw[hop.out];omega] at hr;refine bodyPost_ret (v:=zal t (.slice A tn tc)) ?_ rfl ((mid3.setOpn (st3.opn-1)).ret ((ht3.far (a:=⟨g,2,none⟩) (fun b hb=>by show b≠g;omega) _).weak fun b hb _=>hb.1) hr);simp[zal,T.one,T.zero,T.op,T.set,T.lo,T.hi,zah,results,Try.results83,go_sem,m0,m1,m2,m3,m4,m5,m6,m7,hgb,hgb']
def Deep (g:Nat) (s:ByteArray) (deep:Option (Nat->R T)) (n:Int):Prop:=
 (deep=none∧n=20)∨∃ f,deep=some f∧0<=n∧n<20∧∀ w st',Rdr w g s st'->st'.opn=n+1->st'.pos<=s.size->
  Calls Try.prog 62 #[.pointer (some ⟨g,0,none⟩)] w (zbn w g s (f st'.pos) st')
theorem yft (w:World) (g:Nat) (s:ByteArray) (st:St) (h:Rdr w g s st) (hs:s.size<=1000) (hpos:st.pos<=s.size) (deep:Option (Nat->R T)) (hd:Deep g s deep st.opn):Calls Try.prog 83 #[.pointer (some ⟨g,0,none⟩)] w (zbn w g s (zl1 s deep st.pos) st):=by
 by_cases hb:st.bad=0
 .by_cases hp:st.pos<s.size
  .have hn:=zf9 s st hb hp;have hlt:=yfq s st.pos;have hstep:∀ {t:T} {o:R T},o = .ok (t,st.pos+1)->Rel s o st t (st.step 1):=fun e=>Rel.mk0 rfl (by show st.pos+1<=s.size;omega) (fun h=>absurd hb h) fun _ => .inl ⟨hb,e⟩
   have hfail:∀ {t:T} {o:R T} {c:Int},c≠0->o = .error (c,(st.pos:Int))->Rel s o st t ((st.step 1).fail (((st.step 1).pos:Int)-1) c):=fun hc e=>by
    rw[zek _ (by exact hb)];refine Rel.mk0 rfl (by show st.pos+1<=s.size;omega) (fun h=>absurd hb h) fun _ => .inr ⟨hc,?_⟩
    rw[e];simp[St.step]
   have hp1:(st.step 1).pos<=s.size:=by show st.pos+1<=s.size;omega
   unfold zl1;rw[if_pos hp]
   by_cases h1:bt s st.pos=40
   .rw[if_pos h1];rw[h1] at hn;rcases hd with ⟨rfl,h20⟩|⟨f,rfl,h0,h20,hf⟩
    .exact zyp w g s st h hs hpos _ _ hn h20 (hfail yjz rfl) hp1
    .refine zuq w g s st h hs hpos _ _ hn ⟨h0,h20⟩ (f (st.pos+1)) (fun w hr=>hf w _ hr rfl hp1) (fun t st2 c st3 h2 h3=>?_) hp1;have hz:st2.bad≠0->st3=st2∧c = -1:=fun hz=>by rw[zfa s st2 hz] at h3;injection h3 with e1 e2;exact⟨e2.symm,e1.symm⟩
     have hh:Rel s (zbd (f (st.pos+1)) fun t p=>if isB s p 41=true then .ok (t,p+1) else .error (2,(p:Int))) {st.step 1 with opn:=st.opn+1} t {(if c=41 then st3 else st3.fail ((st3.pos:Int)-1) 2) with opn:=st.opn+1}:=by
      refine h2.then (fun hz2=>?_) (fun hb0 hb2=>?_)
      .obtain⟨rfl,rfl⟩:=hz hz2;rw[if_neg yjz,zdh _ hz2];exact⟨rfl,rfl,h2.opn.symm,h2.pos⟩
      .have hop:=h2.opn
       by_cases hp2:st2.pos<s.size
       .rw[zf9 s st2 hb2 hp2] at h3;injection h3 with e1 e2
        subst e1 e2
        by_cases h41:bt s st2.pos=41
        .rw[if_pos (show isB s st2.pos 41=true by simp[isB,hp2,h41]),if_pos (show (bt s st2.pos:Int)=41 by omega)];exact Rel.mk0 hop.symm yl4 (fun h=>absurd hb2 h) fun _ => .inl ⟨hb2,rfl⟩
        .rw[if_neg (show ¬ isB s st2.pos 41=true by simp[isB,h41]),if_neg (show ¬ (bt s st2.pos:Int)=41 by omega),zek _ (by exact hb2)];exact Rel.mk0 hop.symm yl4 (fun h=>absurd hb2 h) fun _ => .inr ⟨by simp,by simp[St.step]⟩
       .rw[zga s st2 hb2 yjz] at h3;injection h3 with e1 e2
        subst e1 e2;have:=h2.pos;rw[if_neg (show ¬ isB s st2.pos 41=true by simp[isB,hp2]),if_neg (show ¬ (-1:Int)=41 by omega),zdh _ yk3];refine Rel.mk0 hop.symm h2.pos (fun h=>absurd hb2 h) fun _ => .inr ⟨by simp,?_⟩
        simp;omega
     exact Rel.mk0 rfl hh.pos (fun h=>absurd hb h) fun _=>hh.cases hb
   .rw[if_neg h1]
    by_cases h2:bt s st.pos=91
    .rw[if_pos h2];rw[h2] at hn;refine zur w g s st h hs hpos _ _ hn (fun q st2 hq=>?_) hp1;exact (hq.from (st:=st) rfl rfl rfl).then (fun hz=>⟨rfl,rfl,rfl,hq.pos⟩) fun _ hz=>Rel.mk0 rfl hq.pos (fun h=>absurd hz h) fun _ => .inl ⟨hz,rfl⟩
    .rw[if_neg h2]
     by_cases h3:bt s st.pos=46
     .rw[if_pos h3];rw[h3] at hn;exact ycb w g s st h hs hpos _ _ hn (hstep rfl)
     .rw[if_neg h3]
      by_cases h4:bt s st.pos=92
      .rw[if_pos h4];rw[h4] at hn;have hwd:zix s st.pos=zeh ((st.step 1).peek s):=by
        unfold zix
        by_cases hq:st.pos+1<s.size
        .rw[zeo s (st.step 1) hb hq];simp[isB,hp,h4,hq,St.step]
        .rw[zj4 s (st.step 1) hb (by show s.size<=st.pos+1;omega)];simp[hq,zeh]
       by_cases h5:zix s st.pos=true
       .rw[if_pos h5];have hq:st.pos+1<s.size:=(by simp[zix] at h5;omega);have e:=zeo s (st.step 1) hb hq;refine zym w g s st h hs hpos _ _ hn (by rw[←hwd];exact h5) ?_ hq;rw[e];exact Rel.mk0 rfl (by show st.pos+1+1<=s.size;omega) (fun h=>absurd hb h) fun _ => .inl ⟨hb,rfl⟩
       .rw[if_neg h5];refine yca w g s st h hs hpos _ _ hn (by rw[←hwd];simpa using h5) ?_ hp1;have he:=(zkk s (st.step 1) hp1).from (st:=st) rfl rfl rfl
        exact he.then (fun hz=>⟨rfl,rfl,rfl,he.pos⟩) fun _ hz=>Rel.mk0 rfl he.pos (fun h=>absurd hz h) fun _ => .inl ⟨hz,rfl⟩
      .rw[if_neg h4]
       by_cases h5:bt s st.pos=42∨bt s st.pos=43
       .rw[if_pos h5];exact zyo w g s st h hs hpos _ _ _ hn yjz (hfail yjz rfl) hp1
       .rw[if_neg h5]
        by_cases h6:inT (bt s st.pos:Int) ztb=true
        .rw[if_pos h6];exact zyn w g s st h hs hpos _ _ _ hn yjz yjz yjz yjz yjz yjz h6 yjz (hfail yjz rfl) hp1
        .rw[if_neg h6];refine zkv w g s st h hs hpos _ _ _ hn yjz yjz yjz yjz yjz yjz (by simpa using h6) yjz ?_;rw[zu3 _ yjz];exact hstep rfl
  .refine zkv w g s st h hs hpos _ _ _ (zga s st hb yjz) yjz yjz yjz yjz yjz yjz (zn6 _) yjz ?_;refine Rel.mk0 rfl hpos (fun h=>absurd hb h) fun _ => .inr ⟨by simp,?_⟩
   unfold zl1;rw[if_neg hp];simp;omega
 .exact zkv w g s st h hs hpos _ _ _ (zfa s st hb) yjz yjz yjz yjz yjz yjz (zn6 _) yjz (Rel.mk0 rfl hpos (fun _=>⟨rfl,rfl⟩) (fun h=>absurd h hb))
end
end Go.Proofs.Ytipfgpfplakhiaa
