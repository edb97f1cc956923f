import Derived.Test.YtipfgpfplakhiaaDoorTw34
set_option linter.unusedVariables false
set_option linter.unusedSimpArgs false
set_option maxRecDepth 20000
set_option maxHeartbeats 4000000
namespace Go.Proofs.YtipfgpfplakhiaaDoor
open Go Go.RowKit
section
attribute [local go_sem ↓] Go.wp_at_zero Go.wp_at_succ
theorem zu2 (w:World) (g:Nat) (s:ByteArray) (st:St) (h:Rdr w g s st) (hs:s.size<=1000) (hpos:st.pos<=s.size) (o:R T) (st1:St) (hc:st.next s=(40,st1)) (h20:0<=st1.opn∧st1.opn<20) (f:R T)
 (hp:∀ w,Rdr w g s {st1 with opn:=st1.opn+1}->Calls Tryd.prog 56 #[.pointer (some ⟨g,0,none⟩)] w (zba w g s f {st1 with opn:=st1.opn+1}))
 (hr:∀ t st2 c st3,Rel s f {st1 with opn:=st1.opn+1} t st2->st2.next s=(c,st3)->Rel s o st t {(if c=41 then st3 else st3.fail ((st3.pos:Int)-1) 2) with opn:=st1.opn}) (hp1:st1.pos<=s.size):
 Calls Tryd.prog 90 #[.pointer (some ⟨g,0,none⟩)] w (zba w g s o st):=by
 have mid:=Mid.start h;have HN:=Zh (fun w h=>zcm w g s st h hs);simp only[hc] at HN;generalize hw0:w.alloc (.cells #[.int .i64 0,.int .u64 0,.int .u64 0,.int .u64 0,.int .u64 0,.int .i64 0,.int .i64 0,.slice none 0 0] 56)=w0 at mid;have HW:=Zh hw0;have HR:=Zh hr;clear hw0 hr hc;have h20':(st1.opn==20)=false:=yil;have HP:=Zh hp;clear hp;have hgw:=h.lt;have hgb:g≠w.heap.size:=yie;have hgb':w.heap.size≠g:=yie;go_enter Tryd.func90,Tryd.ntmps90;go_wp2_with fail;rw[HW.o];clear HW;go_wp2_with (first
  | (go_at_call 91;(with_reducible refine (HN.o _ mid.rdr).mono ?_);rintro e w1 ⟨rfl,r1,o1⟩;have mid1:=mid.next o1 r1;obtain⟨c0,c1,c2,c3,c4⟩:=r1.cell;obtain⟨f0,f1,f2,f3,f4⟩:=r1.frozen)
  | (go_at_call 56;(with_reducible refine (HP.o _ (mid1.setOpn (st1.opn+1)).rdr).mono ?_);rintro e w2 ⟨t,k,st2,rfl,ht,r2,o2,hf⟩;obtain⟨A,tn,tc,rfl⟩:=ht.form;unfold zah;have mid2:=(mid1.setOpn (st1.opn+1)).next o2 r2;have hw2:=mid2.new;obtain⟨c,st3,hn2⟩:∃ c st3,st2.next s=(c,st3):=⟨_,_,rfl⟩;have HN2:=Zh (fun w h=>zcm w g s st2 h hs);simp only[hn2] at HN2;have HR2:=Zh (HR.o t st2 c st3 hf hn2);have hop:=Zh (show st3.opn=st1.opn+1 from zyw hn2 hf.opn);have hps:=zdx s st2 hf.pos;simp only[hn2] at hps;have hpp:=hps.1;clear hps hn2 hf HR;have hop1:1<=st3.opn:=(by rw[hop.out];omega);have hop2:st3.opn<=20:=(by rw[hop.out];omega))
  | (go_at_call 91;(with_reducible refine (HN2.o _ (mid2.alloc _).rdr).mono ?_);rintro e w3 ⟨rfl,r3,o3⟩;have mid3:=(mid2.alloc _).next o3 r3;have hg2:=mid2.rdr.lt;have hx1:g≠w2.heap.size:=yie;have hx2:w2.heap.size≠g:=yie;have hx3:w.heap.size≠w2.heap.size:=yie;have hx4:w2.heap.size≠w.heap.size:=yie;have b3:=(Box8.new w2 t (.slice A tn tc)).grown o3 yil;have ht3:=((ht.weak (ok':=fun b=>w.heap.size<b∧b≠w2.heap.size) (fun b hb hlt=>by simp at hb;have:=mid1.new;exact⟨by omega,by omega⟩)).alloc _).only o3 (mid2.alloc _).rdr;obtain⟨k0,k1,k2,k3,k4⟩:=r3.cell;obtain⟨l0,l1,l2,l3,l4⟩:=r3.frozen;obtain⟨n0,n1,n2,n3,n4,n5,n6,n7⟩:=b3.cell;obtain⟨m0,m1,m2,m3,m4,m5,m6,m7⟩:=mid3.box.cell;obtain⟨y0,y1,y2,y3,y4,y5,y6,y7⟩:=mid3.box.frozen)
  | (go_at_call 93;(with_reducible refine (zfe _ g s st3 _ _ r3).mono ?_);rintro e w5 ⟨rfl,r5,o5⟩;have mid5:=mid3.next o5 r5;have b5:=b3.grown o5 yil;have ht5:=ht3.only o5 r3;obtain⟨p0,p1,p2,p3,p4⟩:=r5.cell;rw[zzt] at p2;obtain⟨q0,q1,q2,q3,q4⟩:=r5.frozen;obtain⟨z0,z1,z2,z3,z4,z5,z6,z7⟩:=b5.cell;obtain⟨m0,m1,m2,m3,m4,m5,m6,m7⟩:=mid5.box.cell;obtain⟨y0,y1,y2,y3,y4,y5,y6,y7⟩:=mid5.box.frozen))
 .have hc:¬ c=41:=(by simpa using ‹(c != 41)=true›);have hr:=HR2.o;rw[if_neg hc,←show st3.opn-1=st1.opn by rw[hop.out];omega] at hr;refine bodyPost_ret (v:=zah t (.slice A tn tc)) ?_ rfl ((mid5.setOpn (st3.opn-1)).ret ((ht5.far (a:=⟨g,2,none⟩) (fun b hb=>by show b≠g;omega) _).weak fun b hb _=>hb.1) hr);simp[zah,T.one,T.zero,T.op,T.set,T.lo,T.hi,zak,results,Tryd.results90,go_sem,m0,m1,m2,m3,m4,m5,m6,m7,hgb,hgb']
 .have hc:c=41:=(by simpa using ‹(c != 41)=false›);have hr:=HR2.o;rw[if_pos hc,←show st3.opn-1=st1.opn by rw[hop.out];omega] at hr;refine bodyPost_ret (v:=zah t (.slice A tn tc)) ?_ rfl ((mid3.setOpn (st3.opn-1)).ret ((ht3.far (a:=⟨g,2,none⟩) (fun b hb=>by show b≠g;omega) _).weak fun b hb _=>hb.1) hr);simp[zah,T.one,T.zero,T.op,T.set,T.lo,T.hi,zak,results,Tryd.results90,go_sem,m0,m1,m2,m3,m4,m5,m6,m7,hgb,hgb']
def Deep (g:Nat) (s:ByteArray) (deep:Option (Nat->R T)) (n:Int):Prop:=
 (deep=none∧n=20)∨∃ f,deep=some f∧0<=n∧n<20∧∀ w st',Rdr w g s st'->st'.opn=n+1->st'.pos<=s.size->
  Calls Tryd.prog 56 #[.pointer (some ⟨g,0,none⟩)] w (zba w g s (f st'.pos) st')
theorem ye8 (w:World) (g:Nat) (s:ByteArray) (st:St) (h:Rdr w g s st) (hs:s.size<=1000) (hpos:st.pos<=s.size) (deep:Option (Nat->R T)) (hd:Deep g s deep st.opn):Calls Tryd.prog 90 #[.pointer (some ⟨g,0,none⟩)] w (zba w g s (zkk s deep st.pos) st):=by
 by_cases hb:st.bad=0
 .by_cases hp:st.pos<s.size
  .have hn:=zeo s st hb hp;have hlt:=ye5 s st.pos;have hstep:∀ {t:T} {o:R T},o = .ok (t,st.pos+1)->Rel s o st t (st.step 1):=fun e=>Rel.mk0 rfl (by show st.pos+1<=s.size;omega) (fun h=>absurd hb h) fun _ => .inl ⟨hb,e⟩
   have hfail:∀ {t:T} {o:R T} {c:Int},c≠0->o = .error (c,(st.pos:Int))->Rel s o st t ((st.step 1).fail (((st.step 1).pos:Int)-1) c):=fun hc e=>by
    rw[ze1 _ (by exact hb)];refine Rel.mk0 rfl (by show st.pos+1<=s.size;omega) (fun h=>absurd hb h) fun _ => .inr ⟨hc,?_⟩
    rw[e];simp[St.step]
   have hp1:(st.step 1).pos<=s.size:=by show st.pos+1<=s.size;omega
   unfold zkk;rw[if_pos hp]
   by_cases h1:bt s st.pos=40
   .rw[if_pos h1];rw[h1] at hn;rcases hd with ⟨rfl,h20⟩|⟨f,rfl,h0,h20,hf⟩
    .exact zxm w g s st h hs hpos _ _ hn h20 (hfail yie rfl) hp1
    .refine zu2 w g s st h hs hpos _ _ hn ⟨h0,h20⟩ (f (st.pos+1)) (fun w hr=>hf w _ hr rfl hp1) (fun t st2 c st3 h2 h3=>?_) hp1;have hz:st2.bad≠0->st3=st2∧c = -1:=fun hz=>by rw[zep s st2 hz] at h3;injection h3 with e1 e2;exact⟨e2.symm,e1.symm⟩
     have hh:Rel s (zb1 (f (st.pos+1)) fun t p=>if isB s p 41=true then .ok (t,p+1) else .error (2,(p:Int))) {st.step 1 with opn:=st.opn+1} t {(if c=41 then st3 else st3.fail ((st3.pos:Int)-1) 2) with opn:=st.opn+1}:=by
      refine h2.then (fun hz2=>?_) (fun hb0 hb2=>?_)
      .obtain⟨rfl,rfl⟩:=hz hz2;rw[if_neg yie,zcy _ hz2];exact⟨rfl,rfl,h2.opn.symm,h2.pos⟩
      .have hop:=h2.opn
       by_cases hp2:st2.pos<s.size
       .rw[zeo s st2 hb2 hp2] at h3;injection h3 with e1 e2
        subst e1 e2
        by_cases h41:bt s st2.pos=41
        .rw[if_pos (show isB s st2.pos 41=true by simp[isB,hp2,h41]),if_pos (show (bt s st2.pos:Int)=41 by omega)];exact Rel.mk0 hop.symm yj6 (fun h=>absurd hb2 h) fun _ => .inl ⟨hb2,rfl⟩
        .rw[if_neg (show ¬ isB s st2.pos 41=true by simp[isB,h41]),if_neg (show ¬ (bt s st2.pos:Int)=41 by omega),ze1 _ (by exact hb2)];exact Rel.mk0 hop.symm yj6 (fun h=>absurd hb2 h) fun _ => .inr ⟨by simp,by simp[St.step]⟩
       .rw[zft s st2 hb2 yie] at h3;injection h3 with e1 e2
        subst e1 e2;have:=h2.pos;rw[if_neg (show ¬ isB s st2.pos 41=true by simp[isB,hp2]),if_neg (show ¬ (-1:Int)=41 by omega),zcy _ yii];refine Rel.mk0 hop.symm h2.pos (fun h=>absurd hb2 h) fun _ => .inr ⟨by simp,?_⟩
        simp;omega
     exact Rel.mk0 rfl hh.pos (fun h=>absurd hb h) fun _=>hh.cases hb
   .rw[if_neg h1]
    by_cases h2:bt s st.pos=91
    .rw[if_pos h2];rw[h2] at hn;refine zu3 w g s st h hs hpos _ _ hn (fun q st2 hq=>?_) hp1;exact (hq.from (st:=st) rfl rfl rfl).then (fun hz=>⟨rfl,rfl,rfl,hq.pos⟩) fun _ hz=>Rel.mk0 rfl hq.pos (fun h=>absurd hz h) fun _ => .inl ⟨hz,rfl⟩
    .rw[if_neg h2]
     by_cases h3:bt s st.pos=46
     .rw[if_pos h3];rw[h3] at hn;exact yac w g s st h hs hpos _ _ hn (hstep rfl)
     .rw[if_neg h3]
      by_cases h4:bt s st.pos=92
      .rw[if_pos h4];rw[h4] at hn;have hwd:zih s st.pos=zdz ((st.step 1).peek s):=by
        unfold zih
        by_cases hq:st.pos+1<s.size
        .rw[ze6 s (st.step 1) hb hq];simp[isB,hp,h4,hq,St.step]
        .rw[zio s (st.step 1) hb (by show s.size<=st.pos+1;omega)];simp[hq,zdz]
       by_cases h5:zih s st.pos=true
       .rw[if_pos h5];have hq:st.pos+1<s.size:=(by simp[zih] at h5;omega);have e:=ze6 s (st.step 1) hb hq;refine zxj w g s st h hs hpos _ _ hn (by rw[←hwd];exact h5) ?_ hq;rw[e];exact Rel.mk0 rfl (by show st.pos+1+1<=s.size;omega) (fun h=>absurd hb h) fun _ => .inl ⟨hb,rfl⟩
       .rw[if_neg h5];refine yab w g s st h hs hpos _ _ hn (by rw[←hwd];simpa using h5) ?_ hp1;have he:=(zjw s (st.step 1) hp1).from (st:=st) rfl rfl rfl
        exact he.then (fun hz=>⟨rfl,rfl,rfl,he.pos⟩) fun _ hz=>Rel.mk0 rfl he.pos (fun h=>absurd hz h) fun _ => .inl ⟨hz,rfl⟩
      .rw[if_neg h4]
       by_cases h5:bt s st.pos=42∨bt s st.pos=43
       .rw[if_pos h5];exact zxl w g s st h hs hpos _ _ _ hn yie (hfail yie rfl) hp1
       .rw[if_neg h5]
        by_cases h6:inT (bt s st.pos:Int) zsv=true
        .rw[if_pos h6];exact zxk w g s st h hs hpos _ _ _ hn yie yie yie yie yie yie h6 yie (hfail yie rfl) hp1
        .rw[if_neg h6];refine zk8 w g s st h hs hpos _ _ _ hn yie yie yie yie yie yie (by simpa using h6) yie ?_;rw[zth _ yie];exact hstep rfl
  .refine zk8 w g s st h hs hpos _ _ _ (zft s st hb yie) yie yie yie yie yie yie (zmu _) yie ?_;refine Rel.mk0 rfl hpos (fun h=>absurd hb h) fun _ => .inr ⟨by simp,?_⟩
   unfold zkk;rw[if_neg hp];simp;omega
 .exact zk8 w g s st h hs hpos _ _ _ (zep s st hb) yie yie yie yie yie yie (zmu _) yie (Rel.mk0 rfl hpos (fun _=>⟨rfl,rfl⟩) (fun h=>absurd h hb))
end
section
attribute [local go_sem ↓] Go.wp_at_zero Go.wp_at_succ
theorem Tree.kid {w:World} {ok:Nat->Prop} {t:T} {k:Value} (h:Tree w ok t k) (hok:ok w.heap.size) (op:Int) (p:Nat->Bool) (lo hi:Int):
 Tree (w.alloc (.cells #[.int .i64 t.op,.int .u64 (word t.set 0),.int .u64 (word t.set 1),.int .u64 (word t.set 2),.int .u64 (word t.set 3),.int .i64 t.lo,.int .i64 t.hi,k] 56)) ok (.mk op p lo hi [t]) (.slice (some ⟨w.heap.size,0,none⟩) 1 1):=by
 refine .row (.mk op p lo hi [t]) w.heap.size 1 _ [k] (heap_alloc_new w _) hok rfl yii (yez _) yij rfl rfl fun i t' k' e1 e2=>?_
 match i,e1,e2 with
 | 0,e1,e2 =>
  have e1:t=t':=(by simpa [T.kids] using e1);have e2:k=k':=(by simpa using e2);subst e1 e2;exact h.alloc _
def St.times (s:ByteArray) (st:St):(Int×Int)×St:=
 let lo:=(st.number s).1
 let st1:=(st.number s).2
 let hi:=if st1.peek s=44 then ((st1.step 1).number s).1 else lo
 let st2:=if st1.peek s=44 then ((st1.step 1).number s).2 else st1
 let d:=(st2.next s).1
 let st3:=(st2.next s).2
 ((lo,hi),if d=125∧1<=hi∧hi<=32∧lo<=hi then st3 else st3.fail ((st3.pos:Int)-1) 2)
theorem zui (s:ByteArray) (st:St) (hpos:st.pos<=s.size):Rel s (zhd s st.pos) st (st.times s).1 (st.times s).2:=by
 have h1:=zhv s st hpos;unfold St.times zhd;simp only;revert h1;generalize (st.number s).1=lo;generalize (st.number s).2=st1;intro h1;have h2:Rel s (if st.bad=0∧st1.bad=0 then (if isB s st1.pos 44=true then cNum s (st1.pos+1) else .ok (lo,st1.pos)) else .ok (lo,st1.pos)) st1 (if st1.peek s=44 then ((st1.step 1).number s).1 else lo) (if st1.peek s=44 then ((st1.step 1).number s).2 else st1):=by
  by_cases hb1:st1.bad=0
  .by_cases h44:isB s st1.pos 44=true
   .have hp:=(zbe s st1 hb1 44).2 h44;have hlt:=zh4 h44;rw[if_pos (show st1.peek s=44 from hp),if_pos (show st1.peek s=44 from hp)];have:=(zhv s (st1.step 1) (by show st1.pos+1<=s.size;omega)).from (st:=st1) rfl rfl rfl
    refine this.swap fun _=>?_
    have hb:st.bad=0:=Classical.not_not.1 fun hb=>h1.bad hb hb1
    rw[if_pos ⟨hb,hb1⟩,if_pos h44];rfl
   .have hp:¬ (st1.peek s=44):=fun h=>h44 ((zbe s st1 hb1 44).1 h)
    rw[if_neg hp,if_neg hp,if_neg h44];refine Rel.mk0 rfl h1.pos (fun h=>absurd hb1 h) fun _ => .inl ⟨hb1,by split <;> rfl⟩
  .have hp:¬ (st1.peek s=44):=(by rw[zip s st1 hb1];omega);rw[if_neg hp,if_neg hp];exact Rel.mk0 rfl h1.pos (fun _=>⟨rfl,rfl⟩) fun h=>absurd h hb1
 revert h2;generalize (if st1.peek s=44 then ((st1.step 1).number s).1 else lo)=hi;generalize (if st1.peek s=44 then ((st1.step 1).number s).2 else st1)=st2;intro h2;have hend:st2.bad≠0->(if (st2.next s).1=125∧1<=hi∧hi<=32∧lo<=hi then (st2.next s).2 else (st2.next s).2.fail (((st2.next s).2.pos:Int)-1) 2)=st2:=by
  intro hz;rw[zep s st2 hz];rw[if_neg yii,zcy _ hz]
 refine h1.then (fun hz=>?_) fun hb hb1=>?_
 .have:=h2.2.2.1 hz;rw[hend (h2.bad hz)];exact⟨this.1,this.2,h2.opn,h2.pos⟩
 .refine (h2.swap (r':=if isB s st1.pos 44=true then cNum s (st1.pos+1) else .ok (lo,st1.pos)) fun _=>by rw[if_pos ⟨hb,hb1⟩]).then (fun hz=>?_) fun _ hb2=>?_
  .rw[hend hz];exact⟨rfl,rfl,rfl,h2.pos⟩
  .by_cases hp:st2.pos<s.size
   .rw[zeo s st2 hb2 hp]
    by_cases hc:isB s st2.pos 125=true∧1<=hi∧hi<=32∧lo<=hi
    .have:=zh4 hc.1;rw[if_pos hc,if_pos ⟨by simp only;omega,hc.2⟩];exact Rel.mk0 rfl yj6 (fun h=>absurd hb2 h) fun _ => .inl ⟨hb2,rfl⟩
    .rw[if_neg hc,if_neg (fun h=>hc ⟨by have:=h.1;simp only at this;simp[isB,hp];omega,h.2⟩),ze1 _ (by exact hb2)];exact Rel.mk0 rfl yj6 (fun h=>absurd hb2 h) fun _ => .inr ⟨by simp,by simp[St.step]⟩
   .rw[zft s st2 hb2 yie];have:=h2.pos;rw[if_neg (by simp[isB,hp]),if_neg yii,zcy _ yii];refine Rel.mk0 rfl h2.pos (fun h=>absurd hb2 h) fun _ => .inr ⟨by simp,?_⟩
    simp;omega
theorem zf6 (w:World) (g:Nat) (t:T) (k:Value):(put8 w g t k).heap.size=w.heap.size:=by simp[put8,World.setCell]
theorem zf5 {w wx:World} {g:Nat} {s:ByteArray} {st:St} {gx:Nat} {t:T} {k:Value} (mid:Mid w g s st wx) (hgx:w.heap.size<gx) (bx:Box8 wx gx t k) (ht:Tree wx (fun b=>w.heap.size<b∧b≠gx) t k) (lo hi:Int) {W:World}
 (hW:W=((((((((wx.setCell ⟨gx,0,none⟩ (.int .i64 4)).setCell ⟨gx,1,none⟩ (.int .u64 0)).setCell ⟨gx,2,none⟩ (.int .u64 0)).setCell ⟨gx,3,none⟩ (.int .u64 0)).setCell ⟨gx,4,none⟩ (.int .u64 0)).setCell ⟨gx,5,none⟩ (.int .i64 lo)).setCell ⟨gx,6,none⟩ (.int .i64 hi)).setCell ⟨gx,7,none⟩ (.slice (some ⟨wx.heap.size,0,none⟩) 1 1)).alloc
   (.cells #[.int .i64 t.op,.int .u64 (word t.set 0),.int .u64 (word t.set 1),.int .u64 (word t.set 2),.int .u64 (word t.set 3),.int .i64 t.lo,.int .i64 t.hi,k] 56)):
 Mid w g s st W∧Box8 W gx (T.rep lo hi t) (.slice (some ⟨wx.heap.size,0,none⟩) 1 1)∧Tree W (fun b=>w.heap.size<b∧b≠gx) (T.rep lo hi t) (.slice (some ⟨wx.heap.size,0,none⟩) 1 1):=by
 have e:W=(put8 wx gx (T.rep lo hi t) (.slice (some ⟨wx.heap.size,0,none⟩) 1 1)).alloc (.cells #[.int .i64 t.op,.int .u64 (word t.set 0),.int .u64 (word t.set 1),.int .u64 (word t.set 2),.int .u64 (word t.set 3),.int .i64 t.lo,.int .i64 t.hi,k] 56):=by
  rw[hW];simp only[put8,T.rep,T.op,T.set,T.lo,T.hi,zak]
 rw[e];have hx:=bx.lt;refine⟨(mid.put8 hgx _ _).alloc _,(bx.put (t':=t) (k':=k) _ _).alloc _,?_⟩;have h:=(ht.put8 (t':=T.rep lo hi t) (k' := .slice (some ⟨wx.heap.size,0,none⟩) 1 1) fun b hb=>hb.2).kid (by rw[zf6];exact⟨mid.new,by omega⟩) 4 za9 lo hi;rw[zf6] at h;exact h
theorem zky (s:ByteArray) (st:St) (h:st.pos<=s.size):(st.number s).2.pos<=s.size:=(zhv s st h).pos
theorem ybe (w:World) (g:Nat) (s:ByteArray) (st:St) (h:Rdr w g s st) (hs:s.size<=1000) (hpos:st.pos<=s.size) (deep:Option (Nat->R T)) (hd:Deep g s deep st.opn):
 Calls Tryd.prog 89 #[.pointer (some ⟨g,0,none⟩)] w (zba w g s (zeg s deep st.pos) st):=by
 have mid:=Mid.start h;have HA:=Zh (fun w h=>ye8 w g s st h hs hpos deep hd);have hgw:=h.lt;have hgb:g≠w.heap.size:=yie;have hgb':w.heap.size≠g:=yie;generalize hw0:w.alloc (.cells #[.int .i64 0,.int .u64 0,.int .u64 0,.int .u64 0,.int .u64 0,.int .i64 0,.int .i64 0,.slice none 0 0] 56)=w0 at mid;have HW:=Zh hw0;clear hw0 hd;go_enter Tryd.func89,Tryd.ntmps89;go_wp2_with fail;rw[HW.o];clear HW;go_wp2_with (go_at_call 90;(with_reducible refine (HA.o _ mid.rdr).mono ?_);rintro e w1 ⟨t1,k1,st1,rfl,ht1,r1,o1,hr1⟩;obtain⟨A,tn,tc,rfl⟩:=ht1.form;unfold zah;have mid1:=mid.next o1 r1;have hw1:=mid1.new);have bx:=Box8.new w1 t1 (.slice A tn tc);have hgo:=Zh (Going.start (step:=zcq s) (f:=id) hr1);generalize hm0:(if st1.bad=0 then s.size+1 else 0)=m0 at hgo;simp only[id] at hgo;have ht2:Tree (w1.alloc (.cells #[.int .i64 t1.op,.int .u64 (word t1.set 0),.int .u64 (word t1.set 1),.int .u64 (word t1.set 2),.int .u64 (word t1.set 3),.int .i64 t1.lo,.int .i64 t1.hi,(.slice A tn tc)] 56)) (fun b=>w.heap.size<b∧b≠w1.heap.size) t1 (.slice A tn tc):=
  (ht1.weak fun b hb hlt=>⟨by have:=mid.new;omega,by omega⟩).alloc _
 have mid2:=mid1.alloc (.cells #[.int .i64 t1.op,.int .u64 (word t1.set 0),.int .u64 (word t1.set 1),.int .u64 (word t1.set 2),.int .u64 (word t1.set 3),.int .i64 t1.lo,.int .i64 t1.hi,(.slice A tn tc)] 56);have hgx:g≠w1.heap.size:=(by have:=mid1.rdr.lt;omega);generalize w1.alloc (.cells #[.int .i64 t1.op,.int .u64 (word t1.set 0),.int .u64 (word t1.set 1),.int .u64 (word t1.set 2),.int .u64 (word t1.set 3),.int .i64 t1.lo,.int .i64 t1.hi,(.slice A tn tc)] 56)=w2 at *;generalize w1.heap.size=gx at *;have hgx':gx≠g:=yie;have hbx:w.heap.size≠gx:=yie;have hbx':gx≠w.heap.size:=yie;clear hm0 mid mid1 HA r1 o1 hr1 ht1;go_loopg [] m0 (fun m wr=>∃ t k st2,Mid w g s st2 wr∧Box8 wr gx t k∧Tree wr (fun b=>w.heap.size<b∧b≠gx) t k∧Going s (zb1 (zkk s deep st.pos) fun b p=>zbz (zcq s) (s.size+1) b p) (zcq s) st m t st2)
 case atStart=>exact⟨t1,_,st1,mid2,bx,ht2,hgo.out⟩
 case round =>
  clear mid2 bx ht2 hgo;obtain⟨t,k,st2,mid,bx,ht,hgo⟩:=hrel;obtain⟨A,tn,tc,rfl⟩:=ht.form;have hp2:=hgo.pos;obtain⟨c0,c1,c2,c3,c4⟩:=mid.rdr.cell;obtain⟨f0,f1,f2,f3,f4⟩:=mid.rdr.frozen
  by_cases h63:st2.peek s=63
  .have hb2:=(zbd s st2 yie).1;have hlt:=(zbd s st2 yie).2;have hst:zcq s t st2.pos=some (.ok (.rep 0 1 t,st2.pos+1)):=(by unfold zcq;rw[if_pos ((zbe s st2 hb2 63).1 h63)]);have HG:=Zh (hgo.on (a':=T.rep 0 1 t) (st3:=st2.step 1) hb2 hst (Rel.mk0 rfl yj6 (fun h=>absurd hb2 h) fun _ => .inl ⟨hb2,rfl⟩) (zga s t _ _ hst));have e1:(st2.peek s==63)=true:=(by simpa using h63);have HN:=Zh (fun w h=>zcm w g s st2 h hs);simp only[zeo s st2 hb2 hlt] at HN;have hbt:(bt s st2.pos:Int)=63:=(by rw[←ze6 s st2 hb2 hlt];exact h63);rw[hbt] at HN;clear hgo hst h63 hbt hb2 c0 c1 c2 c3 c4 f0 f1 f2 f3 f4;go_wp2_with (first
    | (go_at_call 73;(with_reducible refine (zb2 _ g s st2 mid.rdr hs).mono ?_);rintro e w3 ⟨rfl,n,rfl⟩)
    | (go_at_call 91;(with_reducible refine (HN.o _ (mid.rdr.drewN n)).mono ?_);rintro e w4 ⟨rfl,r4,o4⟩;have mid4:=(mid.drewN n).next o4 r4;have b4:=(bx.drewN n).grown o4 yir;have ht4:=(ht.drewN n).only o4 (mid.rdr.drewN n);obtain⟨n0,n1,n2,n3,n4,n5,n6,n7⟩:=b4.cell;obtain⟨z0,z1,z2,z3,z4,z5,z6,z7⟩:=b4.frozen;have hx4:=b4.lt;have hx5:gx≠w4.heap.size:=yie;have hx6:w4.heap.size≠gx:=yie))
   go_roundg (if (st2.step 1).bad=0 then gk-1 else 0)
   case measure=>exact HG.o.1
   case rel =>
    have hq:=zf5 mid4 hw1 b4 ht4 0 1 rfl;exact⟨T.rep 0 1 t,_,st2.step 1,hq.1,hq.2.1,hq.2.2,HG.o.2⟩
  .by_cases h123:st2.peek s=123
   .have hb2:=(zbd s st2 yie).1;have hlt:=(zbd s st2 yie).2;have hst:zcq s t st2.pos=some (zb1 (zhd s (st2.pos+1)) fun m p => .ok (.rep m.1 m.2 t,p)):=by
     unfold zcq;rw[if_neg fun h=>h63 ((zbe s st2 hb2 63).2 h),if_pos ((zbe s st2 hb2 123).1 h123)]
    have hfw:=zga s t _ _ hst;have hp3:(st2.step 1).pos<=s.size:=by show st2.pos+1<=s.size;omega
    have hti:=(zui s (st2.step 1) hp3).from (st:=st2) rfl rfl rfl
    have hre:=hti.then (f:=fun m p => .ok (T.rep m.1 m.2 t,p)) (a:=T.rep ((st2.step 1).times s).1.1 ((st2.step 1).times s).1.2 t) (fun hz=>⟨rfl,rfl,rfl,hti.pos⟩) fun _ hz=>Rel.mk0 rfl hti.pos (fun h=>absurd hz h) fun _ => .inl ⟨hz,rfl⟩
    have hg:=hgo.on hb2 hst hre hfw;clear hgo hst hfw hti hre;have e1:(st2.peek s==63)=false:=(by simpa using h63);have e2:(st2.peek s==123)=true:=(by simpa using h123);have HN:=Zh (fun w h=>zcm w g s st2 h hs);simp only[zeo s st2 hb2 hlt] at HN;have hbt:(bt s st2.pos:Int)=123:=(by rw[←ze6 s st2 hb2 hlt];exact h123);rw[hbt] at HN;clear hbt h63 h123 hb2 c0 c1 c2 c3 c4 f0 f1 f2 f3 f4;have HM:=Zh (fun w h=>zr9 w g s (st2.step 1) h hs hp3);have hp4:=zky s (st2.step 1) hp3;unfold St.times at hg;simp only at hg;generalize ((st2.step 1).number s).1=lo at *;generalize ((st2.step 1).number s).2=st4 at *;generalize st2.step 1=st3 at *
    by_cases h44:st4.peek s=44
    .have hlt4:=(zbd s st4 yie).2;simp only[h44,if_true] at hg;have e44:(st4.peek s==44)=true:=(by simpa using h44);have hp4':(st4.step 1).pos<=s.size:=by show st4.pos+1<=s.size;omega
     have HM2:=Zh (fun w h=>zr9 w g s (st4.step 1) h hs hp4');have hp5:=zky s (st4.step 1) hp4';clear h44;generalize ((st4.step 1).number s).1=hi at *;generalize ((st4.step 1).number s).2=st5 at *;have HN2:=Zh (fun w h=>zcm w g s st5 h hs);have hp6:=(zdx s st5 hp5).1;generalize (st5.next s).1=d at *;generalize (st5.next s).2=st6 at *
     by_cases hcond:d=125∧1<=hi∧hi<=32∧lo<=hi
     .rw[if_pos hcond] at hg;have HG:=Zh hg;obtain⟨q1,q2,q3,q4⟩:=hcond;have i1:(d != 125)=false:=(by simpa using q1);have i2:decide (hi<1)=false:=(by simpa using q2);have i3:decide (32<hi)=false:=(by simpa using q3);have i4:decide (hi<lo)=false:=(by simpa using q4);clear hg q1;go_wp2_with (first
       | (go_at_call 73;(with_reducible refine (zb2 _ g s st2 yim hs).mono ?_);rintro e w3 ⟨rfl,n,rfl⟩)
       | (go_at_call 91;(with_reducible refine (HN.o _ (mid.rdr.drewN _)).mono ?_);rintro e w4 ⟨rfl,r4,o4⟩;have mid4:=(mid.drewN _).next o4 r4;have b4:=(bx.drewN _).grown o4 yir;have ht4:=(ht.drewN _).only o4 (mid.rdr.drewN _))
       | (go_at_call 92;(with_reducible refine (HM.o _ r4).mono ?_);rintro e w5 ⟨rfl,r5,o5⟩;have mid5:=mid4.next o5 r5;have b5:=b4.grown o5 yir;have ht5:=ht4.only o5 r4;obtain⟨n0,n1,n2,n3,n4,n5,n6,n7⟩:=b5.cell;obtain⟨z0,z1,z2,z3,z4,z5,z6,z7⟩:=b5.frozen;have hx4:=b5.lt;have hx5:gx≠w5.heap.size:=yie;have hx6:w5.heap.size≠gx:=yie;obtain⟨c0,c1,c2,c3,c4⟩:=r5.cell)
       | (go_at_call 73;(with_reducible refine (zb2 _ g s st4 r5 hs).mono ?_);rintro e wp ⟨rfl,np,rfl⟩;obtain⟨c0,c1,c2,c3,c4⟩:=r5.cell;obtain⟨f0,f1,f2,f3,f4⟩:=r5.frozen)
       | (go_at_call 92;(with_reducible refine (HM2.o _ ((r5.drewN np).setPos (st4.pos+1))).mono ?_);rintro e w6 ⟨rfl,r6,o6⟩;have mid6:=((mid5.drewN np).setPos (st4.pos+1)).next o6 r6;have b6:=(((b5.drewN np).far (a:=⟨g,1,none⟩) hgx' _).grown o6 yir);have ht6:=((ht5.drewN np).far (a:=⟨g,1,none⟩) (fun b hb=>by show b≠g;omega) _).only o6 ((r5.drewN np).setPos (st4.pos+1)))
       | (go_at_call 91;(with_reducible refine (HN2.o _ r6).mono ?_);rintro e w7 ⟨rfl,r7,o7⟩;have mid7:=mid6.next o7 r7;have b7:=b6.grown o7 yir;have ht7:=ht6.only o7 r6;obtain⟨n0,n1,n2,n3,n4,n5,n6,n7⟩:=b7.cell;obtain⟨z0,z1,z2,z3,z4,z5,z6,z7⟩:=b7.frozen;have hx4:=b7.lt;have hx5:gx≠w7.heap.size:=yie;have hx6:w7.heap.size≠gx:=yie;obtain⟨c0,c1,c2,c3,c4⟩:=r7.cell))
      go_roundg (if (st6).bad=0 then gk-1 else 0)
      case measure=>exact HG.o.1
      case rel =>
       have hq:=zf5 mid7 hw1 b7 ht7 lo hi rfl;exact⟨T.rep lo hi t,_,_,hq.1,hq.2.1,hq.2.2,HG.o.2⟩
     .rw[if_neg hcond] at hg;have HG:=Zh hg;have HC:=Zh hcond;clear hg hcond;go_wp2_with (first
       | (go_at_call 73;(with_reducible refine (zb2 _ g s st2 yim hs).mono ?_);rintro e w3 ⟨rfl,n,rfl⟩)
       | (go_at_call 91;(with_reducible refine (HN.o _ (mid.rdr.drewN _)).mono ?_);rintro e w4 ⟨rfl,r4,o4⟩;have mid4:=(mid.drewN _).next o4 r4;have b4:=(bx.drewN _).grown o4 yir;have ht4:=(ht.drewN _).only o4 (mid.rdr.drewN _))
       | (go_at_call 92;(with_reducible refine (HM.o _ r4).mono ?_);rintro e w5 ⟨rfl,r5,o5⟩;have mid5:=mid4.next o5 r5;have b5:=b4.grown o5 yir;have ht5:=ht4.only o5 r4;obtain⟨n0,n1,n2,n3,n4,n5,n6,n7⟩:=b5.cell;obtain⟨z0,z1,z2,z3,z4,z5,z6,z7⟩:=b5.frozen;have hx4:=b5.lt;have hx5:gx≠w5.heap.size:=yie;have hx6:w5.heap.size≠gx:=yie;obtain⟨c0,c1,c2,c3,c4⟩:=r5.cell)
       | (go_at_call 73;(with_reducible refine (zb2 _ g s st4 r5 hs).mono ?_);rintro e wp ⟨rfl,np,rfl⟩;obtain⟨c0,c1,c2,c3,c4⟩:=r5.cell;obtain⟨f0,f1,f2,f3,f4⟩:=r5.frozen)
       | (go_at_call 92;(with_reducible refine (HM2.o _ ((r5.drewN np).setPos (st4.pos+1))).mono ?_);rintro e w6 ⟨rfl,r6,o6⟩;have mid6:=((mid5.drewN np).setPos (st4.pos+1)).next o6 r6;have b6:=(((b5.drewN np).far (a:=⟨g,1,none⟩) hgx' _).grown o6 yir);have ht6:=((ht5.drewN np).far (a:=⟨g,1,none⟩) (fun b hb=>by show b≠g;omega) _).only o6 ((r5.drewN np).setPos (st4.pos+1)))
       | (go_at_call 91;(with_reducible refine (HN2.o _ r6).mono ?_);rintro e w7 ⟨rfl,r7,o7⟩;have mid7:=mid6.next o7 r7;have b7:=b6.grown o7 yir;have ht7:=ht6.only o7 r6;obtain⟨n0,n1,n2,n3,n4,n5,n6,n7⟩:=b7.cell;obtain⟨z0,z1,z2,z3,z4,z5,z6,z7⟩:=b7.frozen;have hx4:=b7.lt;have hx5:gx≠w7.heap.size:=yie;have hx6:w7.heap.size≠gx:=yie;obtain⟨c0,c1,c2,c3,c4⟩:=r7.cell)
       | (go_at_call 93;(with_reducible refine (zfe _ g s st6 _ _ r7).mono ?_);rintro e w8 ⟨rfl,r8,o8⟩;have mid8:=mid7.next o8 r8;have b8:=b7.grown o8 yir;have ht8:=ht7.only o8 r7;obtain⟨n0,n1,n2,n3,n4,n5,n6,n7⟩:=b8.cell;obtain⟨z0,z1,z2,z3,z4,z5,z6,z7⟩:=b8.frozen;have hx4:=b8.lt;have hx5:gx≠w8.heap.size:=yie;have hx6:w8.heap.size≠gx:=yie;obtain⟨c0,c1,c2,c3,c4⟩:=r8.cell))
      all_goals try (exfalso;exact HC.o ⟨by omega,by omega,by omega,by omega⟩)
      all_goals
       go_roundg (if (st6.fail ((st6.pos:Int)-1) 2).bad=0 then gk-1 else 0)
       case measure=>exact HG.o.1
       case rel =>
        have hq:=zf5 mid8 hw1 b8 ht8 lo hi rfl;exact⟨T.rep lo hi t,_,_,hq.1,hq.2.1,hq.2.2,HG.o.2⟩
    .simp only[h44,if_false] at hg;have e44:(st4.peek s==44)=false:=(by simpa using h44);clear h44;have HN2:=Zh (fun w h=>zcm w g s st4 h hs);have hp6:=(zdx s st4 hp4).1;generalize (st4.next s).1=d at *;generalize (st4.next s).2=st6 at *;obtain⟨hi,hhi⟩:∃ hi,hi=lo:=⟨_,rfl⟩
     by_cases hcond:d=125∧1<=lo∧lo<=32∧lo<=lo
     .rw[if_pos hcond] at hg;have HG:=Zh hg;obtain⟨q1,q2,q3,q4⟩:=hcond;have i1:(d != 125)=false:=(by simpa using q1);have i2:decide (lo<1)=false:=(by simpa using q2);have i3:decide (32<lo)=false:=(by simpa using q3);clear hg q1 hhi;go_wp2_with (first
       | (go_at_call 73;(with_reducible refine (zb2 _ g s st2 yim hs).mono ?_);rintro e w3 ⟨rfl,n,rfl⟩)
       | (go_at_call 91;(with_reducible refine (HN.o _ (mid.rdr.drewN _)).mono ?_);rintro e w4 ⟨rfl,r4,o4⟩;have mid4:=(mid.drewN _).next o4 r4;have b4:=(bx.drewN _).grown o4 yir;have ht4:=(ht.drewN _).only o4 (mid.rdr.drewN _))
       | (go_at_call 92;(with_reducible refine (HM.o _ r4).mono ?_);rintro e w5 ⟨rfl,r5,o5⟩;have mid5:=mid4.next o5 r5;have b5:=b4.grown o5 yir;have ht5:=ht4.only o5 r4;obtain⟨n0,n1,n2,n3,n4,n5,n6,n7⟩:=b5.cell;obtain⟨z0,z1,z2,z3,z4,z5,z6,z7⟩:=b5.frozen;have hx4:=b5.lt;have hx5:gx≠w5.heap.size:=yie;have hx6:w5.heap.size≠gx:=yie;obtain⟨c0,c1,c2,c3,c4⟩:=r5.cell)
       | (go_at_call 73;(with_reducible refine (zb2 _ g s st4 r5 hs).mono ?_);rintro e wp ⟨rfl,np,rfl⟩;obtain⟨c0,c1,c2,c3,c4⟩:=r5.cell;obtain⟨f0,f1,f2,f3,f4⟩:=r5.frozen)
       | (go_at_call 91;(with_reducible refine (HN2.o _ (r5.drewN np)).mono ?_);rintro e w7 ⟨rfl,r7,o7⟩;have mid7:=(mid5.drewN np).next o7 r7;have b7:=(b5.drewN np).grown o7 yir;have ht7:=(ht5.drewN np).only o7 (r5.drewN np);obtain⟨n0,n1,n2,n3,n4,n5,n6,n7⟩:=b7.cell;obtain⟨z0,z1,z2,z3,z4,z5,z6,z7⟩:=b7.frozen;have hx4:=b7.lt;have hx5:gx≠w7.heap.size:=yie;have hx6:w7.heap.size≠gx:=yie;obtain⟨c0,c1,c2,c3,c4⟩:=r7.cell))
      go_roundg (if (st6).bad=0 then gk-1 else 0)
      case measure=>exact HG.o.1
      case rel =>
       have hq:=zf5 mid7 hw1 b7 ht7 lo lo rfl;exact⟨T.rep lo lo t,_,_,hq.1,hq.2.1,hq.2.2,HG.o.2⟩
     .rw[if_neg hcond] at hg;have HG:=Zh hg;have HC:=Zh hcond;clear hg hcond hhi;go_wp2_with (first
       | (go_at_call 73;(with_reducible refine (zb2 _ g s st2 yim hs).mono ?_);rintro e w3 ⟨rfl,n,rfl⟩)
       | (go_at_call 91;(with_reducible refine (HN.o _ (mid.rdr.drewN _)).mono ?_);rintro e w4 ⟨rfl,r4,o4⟩;have mid4:=(mid.drewN _).next o4 r4;have b4:=(bx.drewN _).grown o4 yir;have ht4:=(ht.drewN _).only o4 (mid.rdr.drewN _))
       | (go_at_call 92;(with_reducible refine (HM.o _ r4).mono ?_);rintro e w5 ⟨rfl,r5,o5⟩;have mid5:=mid4.next o5 r5;have b5:=b4.grown o5 yir;have ht5:=ht4.only o5 r4;obtain⟨n0,n1,n2,n3,n4,n5,n6,n7⟩:=b5.cell;obtain⟨z0,z1,z2,z3,z4,z5,z6,z7⟩:=b5.frozen;have hx4:=b5.lt;have hx5:gx≠w5.heap.size:=yie;have hx6:w5.heap.size≠gx:=yie;obtain⟨c0,c1,c2,c3,c4⟩:=r5.cell)
       | (go_at_call 73;(with_reducible refine (zb2 _ g s st4 r5 hs).mono ?_);rintro e wp ⟨rfl,np,rfl⟩;obtain⟨c0,c1,c2,c3,c4⟩:=r5.cell;obtain⟨f0,f1,f2,f3,f4⟩:=r5.frozen)
       | (go_at_call 91;(with_reducible refine (HN2.o _ (r5.drewN np)).mono ?_);rintro e w7 ⟨rfl,r7,o7⟩;have mid7:=(mid5.drewN np).next o7 r7;have b7:=(b5.drewN np).grown o7 yir;have ht7:=(ht5.drewN np).only o7 (r5.drewN np);obtain⟨n0,n1,n2,n3,n4,n5,n6,n7⟩:=b7.cell;obtain⟨z0,z1,z2,z3,z4,z5,z6,z7⟩:=b7.frozen;have hx4:=b7.lt;have hx5:gx≠w7.heap.size:=yie;have hx6:w7.heap.size≠gx:=yie;obtain⟨c0,c1,c2,c3,c4⟩:=r7.cell)
       | (go_at_call 93;(with_reducible refine (zfe _ g s st6 _ _ r7).mono ?_);rintro e w8 ⟨rfl,r8,o8⟩;have mid8:=mid7.next o8 r8;have b8:=b7.grown o8 yir;have ht8:=ht7.only o8 r7;obtain⟨n0,n1,n2,n3,n4,n5,n6,n7⟩:=b8.cell;obtain⟨z0,z1,z2,z3,z4,z5,z6,z7⟩:=b8.frozen;have hx4:=b8.lt;have hx5:gx≠w8.heap.size:=yie;have hx6:w8.heap.size≠gx:=yie;obtain⟨c0,c1,c2,c3,c4⟩:=r8.cell))
      all_goals try (exfalso;exact HC.o ⟨by omega,by omega,by omega,by omega⟩)
      all_goals
       go_roundg (if (st6.fail ((st6.pos:Int)-1) 2).bad=0 then gk-1 else 0)
       case measure=>exact HG.o.1
       case rel =>
        have hq:=zf5 mid8 hw1 b8 ht8 lo lo rfl;exact⟨T.rep lo lo t,_,_,hq.1,hq.2.1,hq.2.2,HG.o.2⟩
   .have hre:=hgo.stop fun hb=>by
     unfold zcq;rw[if_neg fun h=>h63 ((zbe s st2 hb 63).2 h),if_neg fun h=>h123 ((zbe s st2 hb 123).2 h)]
    have HRE:=Zh hre;have e1:(st2.peek s==63)=false:=(by simpa using h63);have e2:(st2.peek s==123)=false:=(by simpa using h123);clear hre hgo h63 h123;obtain⟨n0,n1,n2,n3,n4,n5,n6,n7⟩:=bx.cell;obtain⟨m0,m1,m2,m3,m4,m5,m6,m7⟩:=mid.box.cell;obtain⟨y0,y1,y2,y3,y4,y5,y6,y7⟩:=mid.box.frozen;go_wp2_with (go_at_call 73;(with_reducible refine (zb2 _ g s st2 yim hs).mono ?_);rintro e w3 ⟨rfl,n,rfl⟩);refine bodyPost_ret (v:=zah t (.slice A tn tc)) ?_ rfl ((mid.drewN _).ret ((ht.drewN _).weak fun b hb _=>hb.1) HRE.o);simp[zah,T.zero,T.op,T.set,T.lo,T.hi,zak,results,Tryd.results89,go_sem,m0,m1,m2,m3,m4,m5,m6,m7]
end
end Go.Proofs.YtipfgpfplakhiaaDoor
