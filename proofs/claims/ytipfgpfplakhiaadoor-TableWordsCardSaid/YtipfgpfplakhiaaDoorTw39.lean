import Derived.Test.YtipfgpfplakhiaaDoorTw36
set_option linter.unusedVariables false
set_option linter.unusedSimpArgs false
set_option maxRecDepth 20000
set_option maxHeartbeats 4000000
namespace Go.Proofs.YtipfgpfplakhiaaDoor
open Go Go.RowKit
section
attribute [local go_sem ↓] Go.wp_at_zero Go.wp_at_succ
section
variable {w wx wy:World} {g:Nat} {s:ByteArray} {st:St} {B:Nat} {v:Value} {l:List T}
theorem Row.lt (h:Row w B v l):∀ b,v.ownBlock=some b->B<=b∧b<w.heap.size:=by
 obtain⟨ks,h1,h2,h3⟩:=h;exact h2.lt
theorem Mid.row {row:Option Nat} (h:Mid w g s st wx) (hg:wx.grownBy wy row) (hr:∀ b,row=some b->w.heap.size<b):Mid w g s st wy:=by
 have hlt:=h.lt;refine⟨h.lt,?_,h.box.grown hg fun e=>by have:=hr _ e.symm;omega,⟨hg.os.trans h.only.os,hg.tape.trans h.only.tape,hg.output.trans h.only.output,yfa h.only.size hg.size,fun b hb hne=>(hg.block b (yff hb h.only.size) fun e=>by have:=hr _ e.symm;omega).trans (h.only.block b hb hne)⟩⟩;have hb:=hg.block g h.rdr.lt fun e=>by have:=hr _ e.symm;omega
 exact hb.trans h.rdr
theorem zjp (w:World) (t:T) (k:Value):∀ (j:Nat) u,(zdt t k)[j]?=some u->(w.alloc (.cells #[.int .i64 t.op,.int .u64 (word t.set 0),.int .u64 (word t.set 1),.int .u64 (word t.set 2),.int .u64 (word t.set 3),.int .i64 t.lo,.int .i64 t.hi,k] 56)).cell? ((⟨w.heap.size,0,none⟩:Addr).add j)=some u:=by
 intro j u hu;have hj:j<8:=by
  have:=yf4.1 hu
  simpa [zdt] using this.1
 have hadd:(⟨w.heap.size,0,none⟩:Addr).add j=⟨w.heap.size,j,none⟩:=by unfold Addr.add;split <;> simp_all
 rw[hadd,cell_of_row _ _ j _ 56 (0,0) (heap_alloc_new w _),←hu];simp[zdt]
theorem zmq {t:T} {k:Value} (hrow:Row wx B v l) (hB:B<=wx.heap.size) (ht:Tree w (fun b=>wx.heap.size<=b) t k):Tree w (fun b=>B<=b∧some b≠v.ownBlock) t k:=
 ht.weak fun b hb _=>⟨by omega,fun e=>by have:=hrow.lt b e.symm;omega⟩
end
def yau (g:Nat) (s:ByteArray) (deep:Option (Nat->R T)) (n:Int):Prop:=∀ w st',Rdr w g s st'->st'.opn=n->st'.pos<=s.size->
 Calls Tryd.prog 89 #[.pointer (some ⟨g,0,none⟩)] w (zba w g s (zeg s deep st'.pos) st')
theorem zv5 {g:Nat} {s:ByteArray} {deep:Option (Nat->R T)} {n:Int} (hs:s.size<=1000) (hd:Deep g s deep n):yau g s deep n:=
 fun w st' h1 h2 h3=>ybe w g s st' h1 hs h3 deep (h2▸hd)
theorem ydk (w:World) (g:Nat) (s:ByteArray) (st:St) (h:Rdr w g s st) (hs:s.size<=1000) (hpos:st.pos<=s.size) (hopn:0<=st.opn∧st.opn<=20) (deep:Option (Nat->R T)) (hd:Deep g s deep st.opn) (hfw:∀ f,deep=some f->∀ p,p<=s.size->Fwd s p (f p)):
 Calls Tryd.prog 72 #[.pointer (some ⟨g,0,none⟩)] w (zba w g s (zhe s deep (st.opn==0) st.pos) st):=by
 have mid:=Mid.start h;have HA:=zv5 hs hd;unfold yau at HA;replace HA:=Zh HA;have HF:=Zh (zi7 s deep hfw (st.opn==0));have hgw:=h.lt;have hgb:g≠w.heap.size:=yie;have hgb':w.heap.size≠g:=yie;generalize hw0:w.alloc (.cells #[.int .i64 0,.int .u64 0,.int .u64 0,.int .u64 0,.int .u64 0,.int .i64 0,.int .i64 0,.slice none 0 0] 56)=w0 at mid;have HW:=Zh hw0;clear hw0 hd hfw;go_enter Tryd.func72,Tryd.ntmps72;go_wp2_with fail;rw[HW.o];clear HW;go_wp2_with (go_at_call 89;(with_reducible refine (HA.o _ _ mid.rdr rfl hpos).mono ?_);rintro e w1 ⟨t1,k1,st1,rfl,ht1,r1,o1,hr1⟩;obtain⟨A,tn,tc,rfl⟩:=ht1.form;unfold zah;have mid1:=mid.next o1 r1;have hw1:=mid1.new);have hrow:=Row.new w1 (w.heap.size+1) t1 (.slice A tn tc) hw1 (ht1.weak fun b hb _=>by have:=mid.new;omega);have hgo:=Zh (Going.start (step:=zc4 s deep (st.opn==0)) (f:=fun t=>[t]) hr1);generalize hm0:(if st1.bad=0 then s.size+1 else 0)=m0 at hgo;have hm1:m0<=s.size+1:=by rw[←hm0];split <;> omega
 have mid2:=mid1.alloc (.cells #[.int .i64 t1.op,.int .u64 (word t1.set 0),.int .u64 (word t1.set 1),.int .u64 (word t1.set 2),.int .u64 (word t1.set 3),.int .i64 t1.lo,.int .i64 t1.hi,(.slice A tn tc)] 56);generalize w1.alloc (.cells #[.int .i64 t1.op,.int .u64 (word t1.set 0),.int .u64 (word t1.set 1),.int .u64 (word t1.set 2),.int .u64 (word t1.set 3),.int .i64 t1.lo,.int .i64 t1.hi,(.slice A tn tc)] 56)=w2 at *;clear hm0 mid mid1 r1 o1 hr1 ht1;go_loopg [3] m0 (fun m v wr=>∃ l st2,Mid w g s st2 wr∧Row wr (w.heap.size+1) v l∧0<l.length∧l.length+m<=s.size+2∧Going s (zb1 (zeg s deep st.pos) fun b p=>zbz (zc4 s deep (st.opn==0)) (s.size+1) [b] p) (zc4 s deep (st.opn==0)) st m l st2)
 case atStart=>exact⟨[t1],st1,mid2,hrow,by simp,by simp;omega,hgo.out⟩
 case round =>
  clear mid2 hrow hgo hm1;obtain⟨l,st2,mid,hrow,hl0,hlm,hgo⟩:=hrel;have hp2:=hgo.pos;have ho2:=hgo.opn
  by_cases hgoes:0<=st2.peek s∧st2.peek s≠124∧(st2.peek s≠41∨st2.opn=0)
  .obtain⟨h1,h2,h3⟩:=hgoes;have hb2:=(zbd s st2 h1).1;have hlt:=(zbd s st2 h1).2;have hpk:=ze6 s st2 hb2 hlt;have hst:zc4 s deep (st.opn==0) l st2.pos=some (zb1 (zeg s deep st2.pos) fun t p => .ok (l++[t],p)):=by
    unfold zc4;rw[if_pos ⟨hlt,by omega,by rcases h3 with h3|h3;exact .inl yie;exact .inr (by simpa [ho2] using h3)⟩]
   have HST:=Zh hst;have HGO:=Zh hgo;have HO2:=Zh ho2;have HB2:=Zh hb2;have e1:decide (0<=st2.peek s)=true:=yjc;have e2:(st2.peek s != 124)=true:=yjd;have hll:l.length<=100000:=yie;have hBw:w.heap.size+1<=wr.heap.size:=mid.new;obtain⟨l0,l1,l2,l3,l4⟩:=mid.rdr.cell;clear hst hgo ho2 hb2 hpk h2
   by_cases h41:st2.peek s=41
   .have e3:(st2.peek s != 41)=false:=(by simpa using h41);have e4:(st2.opn==0)=true:=(by simpa using h3.resolve_left (fun h=>h h41));clear h3 h41;go_wp2_with (first
     | (go_at_call 73;(with_reducible refine (zb2 _ g s st2 yim hs).mono ?_);rintro e w3 ⟨rfl,n,rfl⟩)
     | (go_at_call 89;(with_reducible refine (HA.o _ _ (mid.rdr.drewN _) HO2.o hp2).mono ?_);rintro e w4 ⟨t,k,st4,rfl,ht4,r4,o4,hr4⟩;obtain⟨A,tn,tc,rfl⟩:=ht4.form;unfold zah;have mid4:=(mid.drewN _).next o4 r4;have row4:=(hrow.drewN _).only o4 (mid.rdr.drewN _);have ht5:=zmq (hrow.drewN _) hBw ht4;have hw4:w.heap.size+1<=w4.heap.size:=mid4.new)
     | (at_builtin;refine zg6 yik _ _ yik yik (row4.alloc _) yil hll t (.slice A tn tc) (ht5.alloc _) ⟨w4.heap.size,0,none⟩ 1 yik (zjp w4 t (.slice A tn tc)) ?_;intro v6 w6 row6 o6 hB6;have mid6:=(mid4.alloc _).row o6 (fun b hb=>by have:=(row4.lt b hb).1;omega)))
    have hre:Rel s (zb1 (zeg s deep st2.pos) fun t p => .ok (l++[t],p)) st2 (l++[t]) st4:=hr4.then (fun hz=>⟨rfl,rfl,rfl,hr4.pos⟩) fun _ hz=>Rel.mk0 rfl hr4.pos (fun h=>absurd hz h) fun _ => .inl ⟨hz,rfl⟩
    have HG:=HGO.o.on HB2.o HST.o hre (HF.o l st2.pos _ HST.o);go_roundg (if st4.bad=0 then gk-1 else 0)
    case measure=>exact HG.1
    case rel=>exact⟨l++[t],st4,mid6,row6,by simp,by have:=HG.1;simp;omega,HG.2⟩
   .have e3:(st2.peek s != 41)=true:=(by simpa using h41);clear h3 h41;go_wp2_with (first
     | (go_at_call 73;(with_reducible refine (zb2 _ g s st2 yim hs).mono ?_);rintro e w3 ⟨rfl,n,rfl⟩)
     | (go_at_call 89;(with_reducible refine (HA.o _ _ (mid.rdr.drewN _) HO2.o hp2).mono ?_);rintro e w4 ⟨t,k,st4,rfl,ht4,r4,o4,hr4⟩;obtain⟨A,tn,tc,rfl⟩:=ht4.form;unfold zah;have mid4:=(mid.drewN _).next o4 r4;have row4:=(hrow.drewN _).only o4 (mid.rdr.drewN _);have ht5:=zmq (hrow.drewN _) hBw ht4;have hw4:w.heap.size+1<=w4.heap.size:=mid4.new)
     | (at_builtin;refine zg6 yik _ _ yik yik (row4.alloc _) yil hll t (.slice A tn tc) (ht5.alloc _) ⟨w4.heap.size,0,none⟩ 1 yik (zjp w4 t (.slice A tn tc)) ?_;intro v6 w6 row6 o6 hB6;have mid6:=(mid4.alloc _).row o6 (fun b hb=>by have:=(row4.lt b hb).1;omega)))
    have hre:Rel s (zb1 (zeg s deep st2.pos) fun t p => .ok (l++[t],p)) st2 (l++[t]) st4:=hr4.then (fun hz=>⟨rfl,rfl,rfl,hr4.pos⟩) fun _ hz=>Rel.mk0 rfl hr4.pos (fun h=>absurd hz h) fun _ => .inl ⟨hz,rfl⟩
    have HG:=HGO.o.on HB2.o HST.o hre (HF.o l st2.pos _ HST.o);go_roundg (if st4.bad=0 then gk-1 else 0)
    case measure=>exact HG.1
    case rel=>exact⟨l++[t],st4,mid6,row6,by simp,by have:=HG.1;simp;omega,HG.2⟩
  .have hre:=hgo.stop fun hb=>by
    unfold zc4;rw[if_neg];rintro⟨h1,h2,h3⟩;have:=ze6 s st2 hb h1;exact hgoes ⟨by omega,by omega,by rcases h3 with h3|h3;exact .inl yie;exact .inr (by rw[ho2];simpa using h3)⟩
   have HRE:Hid (Rel s (zhe s deep (st.opn==0) st.pos) st (T.many 2 l) st2):=by
    show Rel s (zhe s deep (st.opn==0) st.pos) st (T.many 2 l) st2
    exact hre.then (fun hz=>⟨rfl,rfl,rfl,hp2⟩) fun _ hz=>Rel.mk0 rfl hp2 (fun h=>absurd hz h) fun _ => .inl ⟨hz,rfl⟩
   clear hre hgo;have hbd:=zmg s st2;rcases (show st2.peek s<0∨(0<=st2.peek s∧st2.peek s=124)∨(0<=st2.peek s∧st2.peek s=41∧st2.opn≠0) by omega) with h1|⟨h1,h2⟩|⟨h1,h2,h3⟩
   .have e1:decide (0<=st2.peek s)=false:=yil;clear hgoes;obtain⟨l0,l1,l2,l3,l4⟩:=mid.rdr.cell;go_wp2_with (first
     | (go_at_call 73;(with_reducible refine (zb2 _ g s st2 yim hs).mono ?_);rintro e w3 ⟨rfl,n,rfl⟩)
     | (go_at_call 74;(with_reducible refine (zrg _ _ _ _ _ (hrow.drewN _) hl0).mono ?_);rintro e w4 ⟨k,rfl,ht4,hb4⟩;obtain⟨A,tn,tc,rfl⟩:=ht4.form;unfold zah;have mid4:=(mid.drewN _).below hb4;obtain⟨m0,m1,m2,m3,m4,m5,m6,m7⟩:=mid4.box.cell;obtain⟨y0,y1,y2,y3,y4,y5,y6,y7⟩:=mid4.box.frozen))
    refine bodyPost_ret (v:=zah (T.many 2 l) (.slice A tn tc)) ?_ rfl (mid4.ret (ht4.weak fun b hb _=>hb) HRE.o);simp[zah,T.zero,T.op,T.set,T.lo,T.hi,zak,results,Tryd.results72,go_sem,m0,m1,m2,m3,m4,m5,m6,m7]
   .have e2:(st2.peek s != 124)=false:=yjd;have e1:decide (0<=st2.peek s)=true:=yjc;clear hgoes h2;obtain⟨l0,l1,l2,l3,l4⟩:=mid.rdr.cell;go_wp2_with (first
     | (go_at_call 73;(with_reducible refine (zb2 _ g s st2 yim hs).mono ?_);rintro e w3 ⟨rfl,n,rfl⟩)
     | (go_at_call 74;(with_reducible refine (zrg _ _ _ _ _ (hrow.drewN _) hl0).mono ?_);rintro e w4 ⟨k,rfl,ht4,hb4⟩;obtain⟨A,tn,tc,rfl⟩:=ht4.form;unfold zah;have mid4:=(mid.drewN _).below hb4;obtain⟨m0,m1,m2,m3,m4,m5,m6,m7⟩:=mid4.box.cell;obtain⟨y0,y1,y2,y3,y4,y5,y6,y7⟩:=mid4.box.frozen))
    refine bodyPost_ret (v:=zah (T.many 2 l) (.slice A tn tc)) ?_ rfl (mid4.ret (ht4.weak fun b hb _=>hb) HRE.o);simp[zah,T.zero,T.op,T.set,T.lo,T.hi,zak,results,Tryd.results72,go_sem,m0,m1,m2,m3,m4,m5,m6,m7]
   .have e2:(st2.peek s != 124)=true:=yil;have e1:decide (0<=st2.peek s)=true:=yjc;have e3:(st2.peek s != 41)=false:=yjd;have e4:(st2.opn==0)=false:=(by simpa using h3);clear hgoes h2 h3 ho2;obtain⟨l0,l1,l2,l3,l4⟩:=mid.rdr.cell;go_wp2_with (first
     | (go_at_call 73;(with_reducible refine (zb2 _ g s st2 yim hs).mono ?_);rintro e w3 ⟨rfl,n,rfl⟩)
     | (go_at_call 74;(with_reducible refine (zrg _ _ _ _ _ (hrow.drewN _) hl0).mono ?_);rintro e w4 ⟨k,rfl,ht4,hb4⟩;obtain⟨A,tn,tc,rfl⟩:=ht4.form;unfold zah;have mid4:=(mid.drewN _).below hb4;obtain⟨m0,m1,m2,m3,m4,m5,m6,m7⟩:=mid4.box.cell;obtain⟨y0,y1,y2,y3,y4,y5,y6,y7⟩:=mid4.box.frozen))
    refine bodyPost_ret (v:=zah (T.many 2 l) (.slice A tn tc)) ?_ rfl (mid4.ret (ht4.weak fun b hb _=>hb) HRE.o);simp[zah,T.zero,T.op,T.set,T.lo,T.hi,zak,results,Tryd.results72,go_sem,m0,m1,m2,m3,m4,m5,m6,m7]
end
section
attribute [local go_sem ↓] Go.wp_at_zero Go.wp_at_succ
theorem zyq {g:Nat} {s:ByteArray} {deep:Option (Nat->R T)} {n:Int} (hs:s.size<=1000) (hn:0<=n∧n<=20) (hd:Deep g s deep n) (hfw:∀ f,deep=some f->∀ p,p<=s.size->Fwd s p (f p)):∀ w st',Rdr w g s st'->st'.opn=n->st'.pos<=s.size->
 Calls Tryd.prog 72 #[.pointer (some ⟨g,0,none⟩)] w (zba w g s (zhe s deep (n==0) st'.pos) st'):=by
 intro w st' h1 h2 h3;subst h2;exact ydk w g s st' h1 hs h3 hn deep hd hfw
theorem zo9 (w:World) (g:Nat) (s:ByteArray) (st:St) (h:Rdr w g s st) (hs:s.size<=1000) (hpos:st.pos<=s.size) (hopn:0<=st.opn∧st.opn<=20) (deep:Option (Nat->R T)) (hd:Deep g s deep st.opn) (hfw:∀ f,deep=some f->∀ p,p<=s.size->Fwd s p (f p)):
 Calls Tryd.prog 56 #[.pointer (some ⟨g,0,none⟩)] w (zba w g s (cPat s deep (st.opn==0) st.pos) st):=by
 have mid:=Mid.start h;have HA:=Zh (zyq hs hopn hd hfw);have HF:=Zh (zj8 s deep hfw (st.opn==0));have hgw:=h.lt;have hgb:g≠w.heap.size:=yie;have hgb':w.heap.size≠g:=yie;generalize hw0:w.alloc (.cells #[.int .i64 0,.int .u64 0,.int .u64 0,.int .u64 0,.int .u64 0,.int .i64 0,.int .i64 0,.slice none 0 0] 56)=w0 at mid;have HW:=Zh hw0;clear hw0 hd hfw;go_enter Tryd.func56,Tryd.ntmps56;go_wp2_with fail;rw[HW.o];clear HW;go_wp2_with (go_at_call 72;(with_reducible refine (HA.o _ _ mid.rdr rfl hpos).mono ?_);rintro e w1 ⟨t1,k1,st1,rfl,ht1,r1,o1,hr1⟩;obtain⟨A,tn,tc,rfl⟩:=ht1.form;unfold zah;have mid1:=mid.next o1 r1;have hw1:=mid1.new);have hrow:=Row.new w1 (w.heap.size+1) t1 (.slice A tn tc) hw1 (ht1.weak fun b hb _=>by have:=mid.new;omega);have hgo:=Zh (Going.start (step:=zd1 s deep (st.opn==0)) (f:=fun t=>[t]) hr1);generalize hm0:(if st1.bad=0 then s.size+1 else 0)=m0 at hgo;have hm1:m0<=s.size+1:=by rw[←hm0];split <;> omega
 have mid2:=mid1.alloc (.cells #[.int .i64 t1.op,.int .u64 (word t1.set 0),.int .u64 (word t1.set 1),.int .u64 (word t1.set 2),.int .u64 (word t1.set 3),.int .i64 t1.lo,.int .i64 t1.hi,(.slice A tn tc)] 56);generalize w1.alloc (.cells #[.int .i64 t1.op,.int .u64 (word t1.set 0),.int .u64 (word t1.set 1),.int .u64 (word t1.set 2),.int .u64 (word t1.set 3),.int .i64 t1.lo,.int .i64 t1.hi,(.slice A tn tc)] 56)=w2 at *;clear hm0 mid mid1 r1 o1 hr1 ht1;go_loopg [3] m0 (fun m v wr=>∃ l st2,Mid w g s st2 wr∧Row wr (w.heap.size+1) v l∧0<l.length∧l.length+m<=s.size+2∧Going s (zb1 (zhe s deep (st.opn==0) st.pos) fun b p=>zbz (zd1 s deep (st.opn==0)) (s.size+1) [b] p) (zd1 s deep (st.opn==0)) st m l st2)
 case atStart=>exact⟨[t1],st1,mid2,hrow,by simp,by simp;omega,hgo.out⟩
 case round =>
  clear mid2 hrow hgo hm1;obtain⟨l,st2,mid,hrow,hl0,hlm,hgo⟩:=hrel;have hp2:=hgo.pos;have ho2:=hgo.opn
  by_cases h124:st2.peek s=124
  .have hb2:=(zbd s st2 yie).1;have hlt:=(zbd s st2 yie).2;have hst:zd1 s deep (st.opn==0) l st2.pos=some (zb1 (zhe s deep (st.opn==0) (st2.pos+1)) fun t p => .ok (l++[t],p)):=by
    unfold zd1;rw[if_pos ((zbe s st2 hb2 124).1 h124)]
   have HST:=Zh hst;have HGO:=Zh hgo;have HO2:=Zh ho2;have HB2:=Zh hb2;have e1:(st2.peek s==124)=true:=(by simpa using h124);have hll:l.length<=100000:=yie;have hBw:w.heap.size+1<=wr.heap.size:=mid.new;have hp3:st2.pos+1<=s.size:=yie;obtain⟨l0,l1,l2,l3,l4⟩:=mid.rdr.cell;obtain⟨f0,f1,f2,f3,f4⟩:=mid.rdr.frozen;clear hst hgo ho2 hb2 h124;go_wp2_with (first
    | (go_at_call 73;(with_reducible refine (zb2 _ g s st2 yim hs).mono ?_);rintro e w3 ⟨rfl,n,rfl⟩)
    | (go_at_call 72;refine (HA.o _ _ ((mid.drewN n).setPos (st2.pos+1)).rdr HO2.o hp3).mono ?_;rintro e w4 ⟨t,k,st4,rfl,ht4,r4,o4,hr4⟩;obtain⟨A,tn,tc,rfl⟩:=ht4.form;unfold zah;have mid4:=((mid.drewN n).setPos (st2.pos+1)).next o4 r4;have row4:=((hrow.drewN n).far (g:=g) yie (i:=1) (.int .i64 ((st2.pos+1:Nat):Int))).only o4 ((mid.drewN n).setPos (st2.pos+1)).rdr;have ht5:=zmq ((hrow.drewN n).far (g:=g) yie (i:=1) (.int .i64 ((st2.pos+1:Nat):Int))) (by simpa [World.setCell] using hBw) ht4;have hw4:w.heap.size+1<=w4.heap.size:=mid4.new)
    | (at_builtin;refine zg6 yik _ _ yik yik (row4.alloc _) yil hll t (.slice A tn tc) (ht5.alloc _) ⟨w4.heap.size,0,none⟩ 1 yik (zjp w4 t (.slice A tn tc)) ?_;intro v6 w6 row6 o6 hB6;have mid6:=(mid4.alloc _).row o6 (fun b hb=>by have:=(row4.lt b hb).1;omega)))
   have hre:Rel s (zb1 (zhe s deep (st.opn==0) (st2.pos+1)) fun t p => .ok (l++[t],p)) st2 (l++[t]) st4:=(hr4.from (st:=st2) rfl rfl rfl).then (fun hz=>⟨rfl,rfl,rfl,hr4.pos⟩) fun _ hz=>Rel.mk0 rfl hr4.pos (fun h=>absurd hz h) fun _ => .inl ⟨hz,rfl⟩
   have HG:=HGO.o.on HB2.o HST.o hre (HF.o l st2.pos _ HST.o);go_roundg (if st4.bad=0 then gk-1 else 0)
   case measure=>exact HG.1
   case rel=>exact⟨l++[t],st4,mid6,row6,by simp,by have:=HG.1;simp;omega,HG.2⟩
  .have hre:=hgo.stop fun hb=>by
    unfold zd1;rw[if_neg fun h=>h124 ((zbe s st2 hb 124).2 h)]
   have HRE:Hid (Rel s (cPat s deep (st.opn==0) st.pos) st (T.many 3 l) st2):=by
    show Rel s (cPat s deep (st.opn==0) st.pos) st (T.many 3 l) st2
    exact hre.then (fun hz=>⟨rfl,rfl,rfl,hp2⟩) fun _ hz=>Rel.mk0 rfl hp2 (fun h=>absurd hz h) fun _ => .inl ⟨hz,rfl⟩
   have e1:(st2.peek s==124)=false:=(by simpa using h124);clear hre hgo h124;obtain⟨l0,l1,l2,l3,l4⟩:=mid.rdr.cell;go_wp2_with (first
    | (go_at_call 73;(with_reducible refine (zb2 _ g s st2 yim hs).mono ?_);rintro e w3 ⟨rfl,n,rfl⟩)
    | (go_at_call 74;(with_reducible refine (zrg _ _ _ _ _ (hrow.drewN _) hl0).mono ?_);rintro e w4 ⟨k,rfl,ht4,hb4⟩;obtain⟨A,tn,tc,rfl⟩:=ht4.form;unfold zah;have mid4:=(mid.drewN _).below hb4;obtain⟨m0,m1,m2,m3,m4,m5,m6,m7⟩:=mid4.box.cell;obtain⟨y0,y1,y2,y3,y4,y5,y6,y7⟩:=mid4.box.frozen))
   refine bodyPost_ret (v:=zah (T.many 3 l) (.slice A tn tc)) ?_ rfl (mid4.ret (ht4.weak fun b hb _=>hb) HRE.o);simp[zah,T.zero,T.op,T.set,T.lo,T.hi,zak,results,Tryd.results56,go_sem,m0,m1,m2,m3,m4,m5,m6,m7]
theorem ydj:∀ (d:Nat),d<=20->∀ (w:World) (g:Nat) (s:ByteArray) (st:St),Rdr w g s st->s.size<=1000->st.pos<=s.size->st.opn=20-(d:Int)->
 Calls Tryd.prog 56 #[.pointer (some ⟨g,0,none⟩)] w (zba w g s (pat s d (st.opn==0) st.pos) st)
 | 0,_,w,g,s,st,h,hs,hpos,ho=>zo9 w g s st h hs hpos yie none (.inl ⟨rfl,by omega⟩) (fun f h=>by cases h)
 | d+1,hd,w,g,s,st,h,hs,hpos,ho=>by
  refine zo9 w g s st h hs hpos yie (some (pat s d false)) (.inr ⟨_,rfl,by omega,by omega,fun w' st' h1 h2 h3=>?_⟩) (fun f h p _=>by cases h;exact zva s d false p);have e:(st'.opn==0)=false:=yil;rw[←e];exact ydj d yie w' g s st' h1 hs h3 yie
theorem Rdr.new (w:World) (s:ByteArray):Rdr (w.alloc (.cells #[.string s,.int .i64 0,.int .i64 0,.int .i64 0,.int .i64 0] 146)) w.heap.size s ⟨0,0,0,0⟩:=heap_alloc_new w _
theorem zxh {w w0 w2:World} {o:Obj} (h:Below w.heap.size w w0) (o2:(w0.alloc o).grownBy w2 (some w0.heap.size)):Below w.heap.size w w2:=
 (h.alloc h.size o).grown o2 (yfa h.size yii) (fun j e=>by injection e with e;rw[←e];exact h.size)
def zo2 (w:World) (g:Nat):World:=
 (((((((w.setCell ⟨g,0,none⟩ (.int .i64 0)).setCell ⟨g,1,none⟩ (.int .u64 0)).setCell ⟨g,2,none⟩ (.int .u64 0)).setCell ⟨g,3,none⟩ (.int .u64 0)).setCell ⟨g,4,none⟩ (.int .u64 0)).setCell ⟨g,5,none⟩ (.int .i64 0)).setCell ⟨g,6,none⟩ (.int .i64 0)).setCell ⟨g,7,none⟩ (.slice none 0 0)
theorem zm8 (w:World) (g:Nat):zo2 w g=put8 w g T.zero (.slice none 0 0):=by
 simp only[zo2,put8,T.zero,T.op,T.set,T.lo,T.hi,zak]
def zsi (w:World) (s:ByteArray) (e:Ending) (w':World):Prop:=
 ∃ t k bad at_,e = .returned (.tuple #[zah t k,.int .i64 bad,.int .i64 at_])∧Tree w' (fun b=>w.heap.size<=b) t k∧Below w.heap.size w w'∧
  (match parse s with
    | .ok t'=>t=t'∧bad=0∧at_=0
    | .error (c,a)=>t=T.zero∧k = .slice none 0 0∧bad=c∧at_=a∧c≠0)
theorem zyh (w:World) (s:ByteArray) (hs:s.size<=9223372036854775807):Calls Tryd.prog 33 #[.string s] w (zsi w s):=by
 by_cases hl:200<s.size
 .have e:parse s = .error (4,0):=(by unfold parse;rw[if_pos hl]);have HE:=Zh e;clear e;go_enter Tryd.func33,Tryd.ntmps33;go_wp2;refine bodyPost_ret (v := .tuple #[zah T.zero (.slice none 0 0),.int .i64 4,.int .i64 0]) ?_ rfl ⟨T.zero,_,4,0,rfl,.nil _ rfl,(yf6 _ _).alloc (yez _) _,?_⟩
  .simp[zah,T.zero,T.op,T.set,T.lo,T.hi,zak,results,Tryd.results33,go_sem]
  .rw[HE.o];simp
 .have HP:Hid (∀ w g st,Rdr w g s st->st=(⟨0,0,0,0⟩:St)->Calls Tryd.prog 56 #[.pointer (some ⟨g,0,none⟩)] w (zba w g s (pat s 20 true 0) ⟨0,0,0,0⟩)):=by
   intro w g st h1 h2;subst h2;exact ydj 20 yie w g s ⟨0,0,0,0⟩ h1 yie yii yii
  go_enter Tryd.func33,Tryd.ntmps33;go_upto_region 3 with fail
  have b0:=Box8.new0 w;have hB0:Below w.heap.size w (w.alloc (.cells #[.int .i64 0,.int .u64 0,.int .u64 0,.int .u64 0,.int .u64 0,.int .i64 0,.int .i64 0,.slice none 0 0] 56)):=(yf6 _ _).alloc (yez _) _;generalize w.alloc (.cells #[.int .i64 0,.int .u64 0,.int .u64 0,.int .u64 0,.int .u64 0,.int .i64 0,.int .i64 0,.slice none 0 0] 56)=w0 at *;have hw0:=b0.lt;go_wp2_with (go_at_call 56;refine (HP.o _ w0.heap.size _ (Rdr.new w0 s) rfl).mono ?_;rintro e w2 ⟨t,k,st2,rfl,ht,r2,o2,hr⟩;obtain⟨A,tn,tc,rfl⟩:=ht.form;unfold zah;have b2:=(b0.alloc _).grown o2 yil;have hB2:=zxh hB0 o2;obtain⟨m0,m1,m2,m3,m4,m5,m6,m7⟩:=b2.cell;obtain⟨y0,y1,y2,y3,y4,y5,y6,y7⟩:=b2.frozen;obtain⟨k0,k1,k2,k3,k4⟩:=r2.cell;have hg2:=r2.lt;have hw2:=b2.lt;have hx1:w.heap.size≠w2.heap.size:=yie;have hx2:w0.heap.size≠w2.heap.size:=yie;have HR:=Zh hr;clear hr)
  .have hb:st2.bad≠0:=(by simpa using ‹(st2.bad != 0)=true›);have hp:parse s = .error (st2.bad,st2.spot):=by
    unfold parse;rw[if_neg hl];rcases HR.o.cases rfl with ⟨h1,_⟩|⟨_,h2⟩
    .exact absurd h1 hb
    .rw[h2]
   have HPP:=Zh hp;have HB:=Zh hb;clear hp hb;go_region
   all_goals
    go_wp2;have bF:=(b2.put (t':=T.zero) (k' := .slice none 0 0) T.zero (.slice none 0 0)).alloc (.cells #[.int .i64 t.op,.int .u64 (word t.set 0),.int .u64 (word t.set 1),.int .u64 (word t.set 2),.int .u64 (word t.set 3),.int .i64 t.lo,.int .i64 t.hi,.slice A tn tc] 56);have hF:=(zej hB2 (yez _) T.zero (.slice none 0 0)).alloc (by rw[zf6];omega) (.cells #[.int .i64 t.op,.int .u64 (word t.set 0),.int .u64 (word t.set 1),.int .u64 (word t.set 2),.int .u64 (word t.set 3),.int .i64 t.lo,.int .i64 t.hi,.slice A tn tc] 56);rw[←zm8] at bF hF;change bodyPost _ _ _ _ _ (World.drew ((zo2 w2 w.heap.size).alloc (.cells #[.int .i64 t.op,.int .u64 (word t.set 0),.int .u64 (word t.set 1),.int .u64 (word t.set 2),.int .u64 (word t.set 3),.int .i64 t.lo,.int .i64 t.hi,.slice A tn tc] 56)));generalize (zo2 w2 w.heap.size).alloc (.cells #[.int .i64 t.op,.int .u64 (word t.set 0),.int .u64 (word t.set 1),.int .u64 (word t.set 2),.int .u64 (word t.set 3),.int .i64 t.lo,.int .i64 t.hi,.slice A tn tc] 56)=wF at *;obtain⟨F0,F1,F2,F3,F4,F5,F6,F7⟩:=bF.cell;replace hF:=hF.drew;refine bodyPost_ret (v := .tuple #[zah T.zero (.slice none 0 0),.int .i64 st2.bad,.int .i64 st2.spot]) ?_ rfl ⟨T.zero,_,st2.bad,st2.spot,rfl,.nil _ rfl,hF,?_⟩
    .simp[zah,results,Tryd.results33,go_sem,F0,F1,F2,F3,F4,F5,F6,F7]
    .rw[HPP.o];exact⟨rfl,rfl,rfl,rfl,HB.o⟩
  .have hb:st2.bad=0:=(by simpa using ‹(st2.bad != 0)=false›);have hp:parse s = .ok t:=by
    unfold parse;rw[if_neg hl];rcases HR.o.cases rfl with ⟨_,h2⟩|⟨h1,_⟩
    .rw[h2]
    .exact absurd hb h1
   have bF:=(b2.put (t':=t) (k' := .slice A tn tc) t (.slice A tn tc)).alloc (.cells #[.int .i64 t.op,.int .u64 (word t.set 0),.int .u64 (word t.set 1),.int .u64 (word t.set 2),.int .u64 (word t.set 3),.int .i64 t.lo,.int .i64 t.hi,.slice A tn tc] 56);have tF:=(((ht.weak (ok':=fun b=>w.heap.size<=b∧b≠w.heap.size) fun b hb _=>by simp at hb;omega).put8 (g':=w.heap.size) (t':=t) (k' := .slice A tn tc) fun b hb=>hb.2).alloc (.cells #[.int .i64 t.op,.int .u64 (word t.set 0),.int .u64 (word t.set 1),.int .u64 (word t.set 2),.int .u64 (word t.set 3),.int .i64 t.lo,.int .i64 t.hi,.slice A tn tc] 56)).weak (ok':=fun b=>w.heap.size<=b) fun b hb _=>hb.1
   have hF:=(zej hB2 (yez _) t (.slice A tn tc)).alloc (by rw[zf6];omega) (.cells #[.int .i64 t.op,.int .u64 (word t.set 0),.int .u64 (word t.set 1),.int .u64 (word t.set 2),.int .u64 (word t.set 3),.int .i64 t.lo,.int .i64 t.hi,.slice A tn tc] 56);change bodyPost _ _ _ _ _ ((put8 w2 w.heap.size t (.slice A tn tc)).alloc (.cells #[.int .i64 t.op,.int .u64 (word t.set 0),.int .u64 (word t.set 1),.int .u64 (word t.set 2),.int .u64 (word t.set 3),.int .i64 t.lo,.int .i64 t.hi,.slice A tn tc] 56));generalize (put8 w2 w.heap.size t (.slice A tn tc)).alloc (.cells #[.int .i64 t.op,.int .u64 (word t.set 0),.int .u64 (word t.set 1),.int .u64 (word t.set 2),.int .u64 (word t.set 3),.int .i64 t.lo,.int .i64 t.hi,.slice A tn tc] 56)=wF at *;obtain⟨F0,F1,F2,F3,F4,F5,F6,F7⟩:=bF.cell;refine bodyPost_ret (v := .tuple #[zah t (.slice A tn tc),.int .i64 0,.int .i64 0]) ?_ rfl ⟨t,_,0,0,rfl,tF,hF,?_⟩
   .simp[zah,results,Tryd.results33,go_sem,F0,F1,F2,F3,F4,F5,F6,F7]
   .rw[hp];exact⟨rfl,rfl,rfl⟩
end
end Go.Proofs.YtipfgpfplakhiaaDoor
