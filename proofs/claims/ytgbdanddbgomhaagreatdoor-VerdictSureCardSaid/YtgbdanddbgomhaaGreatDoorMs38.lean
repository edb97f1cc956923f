import Derived.Test.YtgbdanddbgomhaaGreatDoorMs37
set_option linter.unusedVariables false
set_option linter.unusedSimpArgs false
namespace Go.Proofs.YtgbdanddbgomhaaGreatDoor
open Go Go.RowKit
section
attribute [local go_sem ↓] Go.wp_at_zero Go.wp_at_succ
set_option maxRecDepth 20000 in
set_option maxHeartbeats 4000000 in
theorem zmc (w:World) (g:Nat) (s:ByteArray) (pos:Nat) (opn:Int) (h:Rx w g s pos opn) (hs:s.size<=1000) (hp:pos<=s.size) (deep:Option (Nat->R T)) (hd:XDeep g s deep opn):
   Calls Tryz.prog 87 #[.pointer (some ⟨g,0,none⟩)] w (XRet w g s opn (cPart s deep false pos) (isNode w.heap.size)):=by
 have mid:=XMidN.start h;have HA:=Zh (fun w p h hp=>zkv w g s p opn h hs hp deep hd);have HF:=Zh (zb7 s deep hd.fwd);have hgw:=h.lt;have hgb:g≠w.heap.size:=(by omega);have hgb':w.heap.size≠g:=(by omega);generalize hw0:w.alloc (.cells #[.int .i64 0,.int .u64 0,.int .u64 0,.int .u64 0,.int .u64 0,.int .i64 0,.int .i64 0,.slice none 0 0] 41)=w0 at *;have HW:=Zh hw0;clear hw0 hd;have HB:=Zh (fun w h=>HA.out w pos h hp);have hfa:=HF.out pos;cases ha:cPiece s deep pos with
 | error x =>
   obtain⟨c,q⟩:=x;have HE:Hid (cPart s deep false pos = .error (c,q)):=by show cPart s deep false pos=_;unfold cPart;rw[ha];rfl
   simp only[ha] at HB;clear ha hfa HA HF;go_enter Tryz.func87,Tryz.ntmps87;go_wp2_with fail;rw[HW.out];clear HW;go_wp2_with (go_at_call 104;(with_reducible refine (HB.out _ mid.rx).mono ?_);rintro e w1 ⟨⟨gs,hB,rfl,hgs⟩,o1⟩);exact za1 rfl (XRet.fault mid.only ⟨gs,hB,rfl,hgs⟩ o1 HE.out)
 | ok x =>
   obtain⟨t1,p1⟩:=x;have HE:Hid (cPart s deep false pos=thenR (loopR (partStep s deep false) (s.size+1) [t1] p1) fun l p => .ok (.many 2 l,p)):=by show cPart s deep false pos=_;unfold cPart;rw[ha];rfl
   simp only[ha] at HB;rw[ha] at hfa;have hp1:=hfa.2;clear ha hfa;go_enter Tryz.func87,Tryz.ntmps87;go_wp2_with fail;rw[HW.out];clear HW;go_wp2_with (go_at_call 104;(with_reducible refine (HB.out _ mid.rx).mono ?_);rintro e w1 ⟨⟨v,rfl,k1,rfl,ht1⟩,r1,o1⟩;obtain⟨A,tn,tc,rfl⟩:=ht1.form;unfold nodeV;have mid1:=mid.next o1 r1;have hw1:=mid1.new);have hrow:=Row.new w1 (w.heap.size+1) t1 (.slice A tn tc) hw1 (ht1.weak fun b hb _=>Nat.lt_of_lt_of_le mid.new hb);have mid2:=mid1.alloc (.cells #[.int .i64 t1.op,.int .u64 (word t1.set 0),.int .u64 (word t1.set 1),.int .u64 (word t1.set 2),.int .u64 (word t1.set 3),.int .i64 t1.lo,.int .i64 t1.hi,(.slice A tn tc)] 41);generalize w1.alloc (.cells #[.int .i64 t1.op,.int .u64 (word t1.set 0),.int .u64 (word t1.set 1),.int .u64 (word t1.set 2),.int .u64 (word t1.set 3),.int .i64 t1.lo,.int .i64 t1.hi,(.slice A tn tc)] 41)=w2 at *;clear mid mid1 r1 o1 ht1 HB;go_loopg [3] (s.size+1) (fun m v wr=>∃ l p,XMidN w g s p opn wr∧Row wr (w.heap.size+1) v l∧0<l.length∧l.length+m<=s.size+2∧p<=s.size∧s.size+1-p<=m∧cPart s deep false pos=thenR (loopR (partStep s deep false) m l p) fun l p => .ok (.many 2 l,p))
   case atStart=>exact⟨[t1],p1,mid2,hrow,by simp,by simp;omega,hp1,by omega,HE.out⟩
   case round =>
     clear mid2 hrow HE hp1;obtain⟨l,p,mid,hrow,hl0,hlm,hp1,hm,hE⟩:=hrel;obtain⟨m,rfl⟩:∃ m,gk=m+1:=⟨gk-1,by omega⟩;have hBw:w.heap.size+1<=wr.heap.size:=mid.new;have hll:l.length<=100000:=(by omega);unfold loopR at hE
     by_cases hgoes:p<s.size∧bt s p≠124∧(bt s p≠41∨false=true)
     . have hst:partStep s deep false l p=some (thenR (cPiece s deep p) fun t p => .ok (l++[t],p)):=(by unfold partStep;rw[if_pos hgoes]);rw[hst] at hE;obtain⟨g1,g2,g3⟩:=hgoes;have e0:(p==s.size)=false:=(by simp;omega);have e1:isB s p 124=false:=(by simp[isB,g2]);have e2:isB s p 41=false:=(by have:bt s p≠41:=g3.resolve_right (by simp);simp[isB,this]);have HD:=Zh (fun w h=>zb0 w g s p opn h hs);simp only[e0] at HD;have HI1:=Zh (fun w h=>zc0 w g s p opn h hs hp1 124 124 rfl false e1);have HI2:=Zh (fun w h=>zc0 w g s p opn h hs hp1 41 41 rfl false e2);have HB:=Zh (fun w h=>HA.out w p h hp1);have hfw:=HF.out p;clear hst g2 g3 e0 e1 e2;cases hc:cPiece s deep p with
       | error x =>
         obtain⟨c,q⟩:=x;have HE:Hid (cPart s deep false pos = .error (c,q)):=by show cPart s deep false pos=_;rw[hE,hc];rfl
         simp only[hc] at HB;clear hE hc hfw HA HF;go_wp2_with (first
           | (go_at_call 64;(with_reducible refine (HD.out _ mid.rx).mono ?_);rintro e w3 ⟨rfl,n,rfl⟩)
           | (go_at_call 105;(with_reducible refine (HI1.out _ (mid.rx.drewN _)).mono ?_);rintro e w3 ⟨rfl,n2,rfl⟩)
           | (go_at_call 105;(with_reducible refine (HI2.out _ (mid.rx.drewN _)).mono ?_);rintro e w3 ⟨rfl,n3,rfl⟩)
           | (go_at_call 104;(with_reducible refine (HB.out _ (mid.rx.drewN _)).mono ?_);rintro e w5 ⟨⟨gs,hB,rfl,hgs⟩,o5⟩))
         exact za1 rfl (XRet.fault (za5 mid.only _) ⟨gs,hB,rfl,hgs⟩ o5 HE.out)
       | ok x =>
         obtain⟨t,q⟩:=x;have HE:Hid (cPart s deep false pos=thenR (loopR (partStep s deep false) m (l++[t]) q) fun l p => .ok (.many 2 l,p)):=by show cPart s deep false pos=_;rw[hE,hc];rfl
         simp only[hc] at HB;rw[hc] at hfw;have hq1:=hfw.1;have hq2:=hfw.2;clear hE hc hfw;go_wp2_with (first
           | (go_at_call 64;(with_reducible refine (HD.out _ mid.rx).mono ?_);rintro e w3 ⟨rfl,n,rfl⟩)
           | (go_at_call 105;(with_reducible refine (HI1.out _ (mid.rx.drewN _)).mono ?_);rintro e w3 ⟨rfl,n2,rfl⟩)
           | (go_at_call 105;(with_reducible refine (HI2.out _ (mid.rx.drewN _)).mono ?_);rintro e w3 ⟨rfl,n3,rfl⟩)
           | (go_at_call 104;(with_reducible refine (HB.out _ (mid.rx.drewN _)).mono ?_);rintro e w5 ⟨⟨v,rfl,k,rfl,ht5⟩,r5,o5⟩;obtain⟨A,tn,tc,rfl⟩:=ht5.form;unfold nodeV;have mid5:=(mid.drewN _).next o5 r5;have row5:=(hrow.drewN _).onlyX o5 (mid.rx.drewN _);have ht6:=zh5 (hrow.drewN _) hBw ht5;have hw5:w.heap.size+1<=w5.heap.size:=mid5.new)
           | (at_builtin;refine zcs (by rfl) _ _ (by rfl) (by rfl) (row5.alloc _) (by simp;omega) hll t (.slice A tn tc) (ht6.alloc _) ⟨w5.heap.size,0,none⟩ 1 (by rfl) (zfb w5 t (.slice A tn tc)) ?_;intro v6 w6 row6 o6 hB6;have mid6:=(mid5.alloc _).row o6 (fun b hb=>by have:=(row5.lt b hb).1;omega)))
         go_roundg m
         case measure=>omega
         case rel=>exact⟨l++[t],q,mid6,row6,by simp,by simp;omega,hq2,by omega,HE.out⟩
     . have hst:partStep s deep false l p=none:=(by unfold partStep;rw[if_neg hgoes]);rw[hst] at hE;have HE:Hid (cPart s deep false pos = .ok (.many 2 l,p)):=hE;clear hE hst HA HF
       by_cases hlt:p<s.size
       . have e0:(p==s.size)=false:=(by simp;omega);have HD:=Zh (fun w h=>zb0 w g s p opn h hs);simp only[e0] at HD;clear e0;cases h124:isB s p 124 with
         | true =>
           have HI1:=Zh (fun w h=>zc0 w g s p opn h hs hp1 124 124 rfl true h124);clear h124 hgoes;have rowE:=fun n=>hrow.drewN n
           go_wp2_with (first
             | (go_at_call 64;(with_reducible refine (HD.out _ mid.rx).mono ?_);rintro e w3 ⟨rfl,n,rfl⟩)
             | (go_at_call 105;(with_reducible refine (HI1.out _ (mid.rx.drewN _)).mono ?_);rintro e w3 ⟨rfl,n2,rfl⟩)
             | (go_at_call 89;(with_reducible refine (zbz _ _ _ _ _ (hrow.drewN _) hl0).mono ?_);rintro e wj ⟨k,rfl,htj,hbj⟩;obtain⟨A,tn,tc,rfl⟩:=htj.form;unfold nodeV;have midj:=(mid.drewN _).below hbj;obtain⟨m0,m1,m2,m3,m4,m5,m6,m7⟩:=midj.box.cell;obtain⟨y0,y1,y2,y3,y4,y5,y6,y7⟩:=midj.box.frozen))
           refine bodyPost_ret (v:=nodeV (T.many 2 l) (.slice A tn tc)) ?_ rfl (midj.ret (htj.weak fun b hb _=>hb) HE.out);simp[nodeV,results,Tryz.results87,go_sem,m0,m1,m2,m3,m4,m5,m6,m7]
         | false =>
           have h41:isB s p 41=true:=by
             simp[isB,hlt] at h124 ⊢;refine Classical.not_not.1 fun h=>hgoes ⟨hlt,h124,.inl h⟩
           have HI1:=Zh (fun w h=>zc0 w g s p opn h hs hp1 124 124 rfl false h124);have HI2:=Zh (fun w h=>zc0 w g s p opn h hs hp1 41 41 rfl true h41);clear h124 hgoes h41;go_wp2_with (first
             | (go_at_call 64;(with_reducible refine (HD.out _ mid.rx).mono ?_);rintro e w3 ⟨rfl,n,rfl⟩)
             | (go_at_call 105;(with_reducible refine (HI1.out _ (mid.rx.drewN _)).mono ?_);rintro e w3 ⟨rfl,n2,rfl⟩)
             | (go_at_call 105;(with_reducible refine (HI2.out _ (mid.rx.drewN _)).mono ?_);rintro e w3 ⟨rfl,n3,rfl⟩)
             | (go_at_call 89;(with_reducible refine (zbz _ _ _ _ _ (hrow.drewN _) hl0).mono ?_);rintro e wj ⟨k,rfl,htj,hbj⟩;obtain⟨A,tn,tc,rfl⟩:=htj.form;unfold nodeV;have midj:=(mid.drewN _).below hbj;obtain⟨m0,m1,m2,m3,m4,m5,m6,m7⟩:=midj.box.cell;obtain⟨y0,y1,y2,y3,y4,y5,y6,y7⟩:=midj.box.frozen))
           refine bodyPost_ret (v:=nodeV (T.many 2 l) (.slice A tn tc)) ?_ rfl (midj.ret (htj.weak fun b hb _=>hb) HE.out);simp[nodeV,results,Tryz.results87,go_sem,m0,m1,m2,m3,m4,m5,m6,m7]
       . have e0:(p==s.size)=true:=(by simp;omega);have HD:=Zh (fun w h=>zb0 w g s p opn h hs);simp only[e0] at HD;clear e0 hgoes;go_wp2_with (first
           | (go_at_call 64;(with_reducible refine (HD.out _ mid.rx).mono ?_);rintro e w3 ⟨rfl,n,rfl⟩)
           | (go_at_call 89;(with_reducible refine (zbz _ _ _ _ _ (hrow.drewN _) hl0).mono ?_);rintro e wj ⟨k,rfl,htj,hbj⟩;obtain⟨A,tn,tc,rfl⟩:=htj.form;unfold nodeV;have midj:=(mid.drewN _).below hbj;obtain⟨m0,m1,m2,m3,m4,m5,m6,m7⟩:=midj.box.cell;obtain⟨y0,y1,y2,y3,y4,y5,y6,y7⟩:=midj.box.frozen))
         refine bodyPost_ret (v:=nodeV (T.many 2 l) (.slice A tn tc)) ?_ rfl (midj.ret (htj.weak fun b hb _=>hb) HE.out);simp[nodeV,results,Tryz.results87,go_sem,m0,m1,m2,m3,m4,m5,m6,m7]
set_option maxRecDepth 20000 in
set_option maxHeartbeats 4000000 in
theorem zdf (w:World) (g:Nat) (s:ByteArray) (pos:Nat) (opn:Int) (h:Rx w g s pos opn) (hs:s.size<=1000) (hp:pos<=s.size) (deep:Option (Nat->R T)) (hd:XDeep g s deep opn):
   Calls Tryz.prog 63 #[.pointer (some ⟨g,0,none⟩)] w (XRet w g s opn (cPat s deep false pos) (isNode w.heap.size)):=by
 have mid:=XMidN.start h;have HA:=Zh (fun w p h hp=>zmc w g s p opn h hs hp deep hd);have HF:=Zh (zbe s deep hd.fwd false);have hgw:=h.lt;have hgb:g≠w.heap.size:=(by omega);have hgb':w.heap.size≠g:=(by omega);generalize hw0:w.alloc (.cells #[.int .i64 0,.int .u64 0,.int .u64 0,.int .u64 0,.int .u64 0,.int .i64 0,.int .i64 0,.slice none 0 0] 41)=w0 at *;have HW:=Zh hw0;clear hw0 hd;have HB:=Zh (fun w h=>HA.out w pos h hp);have hfa:=HF.out pos;cases ha:cPart s deep false pos with
 | error x =>
   obtain⟨c,q⟩:=x;have HE:Hid (cPat s deep false pos = .error (c,q)):=by show cPat s deep false pos=_;unfold cPat;rw[ha];rfl
   simp only[ha] at HB;clear ha hfa HA HF;go_enter Tryz.func63,Tryz.ntmps63;go_wp2_with fail;rw[HW.out];clear HW;go_wp2_with (go_at_call 87;(with_reducible refine (HB.out _ mid.rx).mono ?_);rintro e w1 ⟨⟨gs,hB,rfl,hgs⟩,o1⟩);exact za1 rfl (XRet.fault mid.only ⟨gs,hB,rfl,hgs⟩ o1 HE.out)
 | ok x =>
   obtain⟨t1,p1⟩:=x;have HE:Hid (cPat s deep false pos=thenR (loopR (patStep s deep false) (s.size+1) [t1] p1) fun l p => .ok (.many 3 l,p)):=by show cPat s deep false pos=_;unfold cPat;rw[ha];rfl
   simp only[ha] at HB;rw[ha] at hfa;have hp1:=hfa.2;clear ha hfa;go_enter Tryz.func63,Tryz.ntmps63;go_wp2_with fail;rw[HW.out];clear HW;go_wp2_with (go_at_call 87;(with_reducible refine (HB.out _ mid.rx).mono ?_);rintro e w1 ⟨⟨v,rfl,k1,rfl,ht1⟩,r1,o1⟩;obtain⟨A,tn,tc,rfl⟩:=ht1.form;unfold nodeV;have mid1:=mid.next o1 r1;have hw1:=mid1.new);have hrow:=Row.new w1 (w.heap.size+1) t1 (.slice A tn tc) hw1 (ht1.weak fun b hb _=>Nat.lt_of_lt_of_le mid.new hb);have mid2:=mid1.alloc (.cells #[.int .i64 t1.op,.int .u64 (word t1.set 0),.int .u64 (word t1.set 1),.int .u64 (word t1.set 2),.int .u64 (word t1.set 3),.int .i64 t1.lo,.int .i64 t1.hi,(.slice A tn tc)] 41);generalize w1.alloc (.cells #[.int .i64 t1.op,.int .u64 (word t1.set 0),.int .u64 (word t1.set 1),.int .u64 (word t1.set 2),.int .u64 (word t1.set 3),.int .i64 t1.lo,.int .i64 t1.hi,(.slice A tn tc)] 41)=w2 at *;clear mid mid1 r1 o1 ht1 HB;go_loopg [3] (s.size+1) (fun m v wr=>∃ l p,XMidN w g s p opn wr∧Row wr (w.heap.size+1) v l∧0<l.length∧l.length+m<=s.size+2∧p<=s.size∧s.size+1-p<=m∧cPat s deep false pos=thenR (loopR (patStep s deep false) m l p) fun l p => .ok (.many 3 l,p))
   case atStart=>exact⟨[t1],p1,mid2,hrow,by simp,by simp;omega,hp1,by omega,HE.out⟩
   case round =>
     clear mid2 hrow HE hp1;obtain⟨l,p,mid,hrow,hl0,hlm,hp1,hm,hE⟩:=hrel;obtain⟨m,rfl⟩:∃ m,gk=m+1:=⟨gk-1,by omega⟩;have hBw:w.heap.size+1<=wr.heap.size:=mid.new;have hll:l.length<=100000:=(by omega);unfold loopR at hE;cases h124:isB s p 124 with
     | true =>
       have hst:patStep s deep false l p=some (thenR (cPart s deep false (p+1)) fun t p => .ok (l++[t],p)):=(by unfold patStep;rw[if_pos h124]);rw[hst] at hE;have hlt:=(zan h124).1;have HS:=Zh (fun w h=>zaa w g s p opn h hs hp1 124 124 rfl h124);have HB:=Zh (fun w h=>HA.out w (p+1) h hlt);have hfw:=HF.out (p+1);clear hst h124;cases hc:cPart s deep false (p+1) with
       | error x =>
         obtain⟨c,q⟩:=x;have HE:Hid (cPat s deep false pos = .error (c,q)):=by show cPat s deep false pos=_;rw[hE,hc];rfl
         simp only[hc] at HB;clear hE hc hfw HA HF;go_wp2_with (first
           | (go_at_call 88;(with_reducible refine (HS.out _ mid.rx).mono ?_);rintro e w4 ⟨rfl,r4,o4⟩;have mid4:=mid.next o4 r4)
           | (go_at_call 87;(with_reducible refine (HB.out _ mid4.rx).mono ?_);rintro e w5 ⟨⟨gs,hB,rfl,hgs⟩,o5⟩))
         exact za1 rfl (XRet.fault mid4.only ⟨gs,hB,rfl,hgs⟩ o5 HE.out)
       | ok x =>
         obtain⟨t,q⟩:=x;have HE:Hid (cPat s deep false pos=thenR (loopR (patStep s deep false) m (l++[t]) q) fun l p => .ok (.many 3 l,p)):=by show cPat s deep false pos=_;rw[hE,hc];rfl
         simp only[hc] at HB;rw[hc] at hfw;have hq1:=hfw.1;have hq2:=hfw.2;clear hE hc hfw;go_wp2_with (first
           | (go_at_call 88;(with_reducible refine (HS.out _ mid.rx).mono ?_);rintro e w4 ⟨rfl,r4,o4⟩;have mid4:=mid.next o4 r4;have row4:=hrow.onlyX o4 mid.rx;have hBw4:w.heap.size+1<=w4.heap.size:=mid4.new)
           | (go_at_call 87;(with_reducible refine (HB.out _ mid4.rx).mono ?_);rintro e w5 ⟨⟨v,rfl,k,rfl,ht5⟩,r5,o5⟩;obtain⟨A,tn,tc,rfl⟩:=ht5.form;unfold nodeV;have mid5:=mid4.next o5 r5;have row5:=row4.onlyX o5 mid4.rx;have ht6:=zh5 row4 hBw4 ht5;have hw5:w.heap.size+1<=w5.heap.size:=mid5.new)
           | (at_builtin;refine zcs (by rfl) _ _ (by rfl) (by rfl) (row5.alloc _) (by simp;omega) hll t (.slice A tn tc) (ht6.alloc _) ⟨w5.heap.size,0,none⟩ 1 (by rfl) (zfb w5 t (.slice A tn tc)) ?_;intro v6 w6 row6 o6 hB6;have mid6:=(mid5.alloc _).row o6 (fun b hb=>by have:=(row5.lt b hb).1;omega)))
         go_roundg m
         case measure=>omega
         case rel=>exact⟨l++[t],q,mid6,row6,by simp,by simp;omega,hq2,by omega,HE.out⟩
     | false =>
       have hst:patStep s deep false l p=none:=(by unfold patStep;rw[if_neg (by simp[h124])]);rw[hst] at hE;have HE:Hid (cPat s deep false pos = .ok (.many 3 l,p)):=hE;have HS:=Zh (fun w h=>zaq w g s p opn h hs hp1 124 124 rfl h124);clear hE hst HA HF h124;go_wp2_with (first
         | (go_at_call 88;(with_reducible refine (HS.out _ mid.rx).mono ?_);rintro e w4 ⟨rfl,r4,o4⟩;have mid4:=mid.next o4 r4;have row4:=hrow.onlyX o4 mid.rx)
         | (go_at_call 89;(with_reducible refine (zbz _ _ _ _ _ row4 hl0).mono ?_);rintro e wj ⟨k,rfl,htj,hbj⟩;obtain⟨A,tn,tc,rfl⟩:=htj.form;unfold nodeV;have midj:=mid4.below hbj;obtain⟨m0,m1,m2,m3,m4,m5,m6,m7⟩:=midj.box.cell;obtain⟨y0,y1,y2,y3,y4,y5,y6,y7⟩:=midj.box.frozen))
       refine bodyPost_ret (v:=nodeV (T.many 3 l) (.slice A tn tc)) ?_ rfl (midj.ret (htj.weak fun b hb _=>hb) HE.out);simp[nodeV,results,Tryz.results63,go_sem,m0,m1,m2,m3,m4,m5,m6,m7]
theorem zgm:∀ (d:Nat),d<=20->∀ (w:World) (g:Nat) (s:ByteArray) (pos:Nat) (opn:Int),Rx w g s pos opn->s.size<=1000->pos<=s.size->opn=20-(d:Int)->
   Calls Tryz.prog 63 #[.pointer (some ⟨g,0,none⟩)] w (XRet w g s opn (pat s d false pos) (isNode w.heap.size))
 | 0,_,w,g,s,pos,opn,h,hs,hpos,ho=>zdf w g s pos opn h hs hpos none (.inl ⟨rfl,by omega⟩)
 | d+1,hd,w,g,s,pos,opn,h,hs,hpos,ho =>
   zdf w g s pos opn h hs hpos (some (pat s d false)) (.inr ⟨_,rfl,by omega,by omega,fun p _=>zg4 s d false p,fun w' pos' h1 h2=>zgm d (by omega) w' g s pos' (opn+1) h1 hs h2 (by omega)⟩)
end
end Go.Proofs.YtgbdanddbgomhaaGreatDoor
