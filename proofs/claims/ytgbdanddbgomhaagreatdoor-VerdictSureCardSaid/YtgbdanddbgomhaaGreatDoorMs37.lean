import Derived.Test.YtgbdanddbgomhaaGreatDoorMs36
set_option linter.unusedVariables false
set_option linter.unusedSimpArgs false
namespace Go.Proofs.YtgbdanddbgomhaaGreatDoor
open Go Go.RowKit
section
attribute [local go_sem ↓] Go.wp_at_zero Go.wp_at_succ
def XDeep (g:Nat) (s:ByteArray) (deep:Option (Nat->R T)) (n:Int):Prop:=
 (deep=none∧n=20)∨∃ f,deep=some f∧0<=n∧n<20∧(∀ p,p<=s.size->Fwd s p (f p))∧∀ w pos,Rx w g s pos (n+1)->pos<=s.size->
   Calls Tryz.prog 63 #[.pointer (some ⟨g,0,none⟩)] w (XRet w g s (n+1) (f pos) (isNode w.heap.size))
theorem XDeep.fwd {g:Nat} {s:ByteArray} {deep:Option (Nat->R T)} {n:Int} (h:XDeep g s deep n):∀ f,deep=some f->∀ p,p<=s.size->Fwd s p (f p):=by
 intro f hf;rcases h with ⟨h1,_⟩|⟨f',h1,_,_,h2,_⟩
 . rw[h1] at hf;cases hf
 . rw[h1] at hf;cases hf;exact h2
theorem zjk (b:Int):inT b stopT=true↔(b=93∨b=41∨b=123∨b=125∨b=124∨b=63∨b=94∨b=36):=by
 simp[inT,stopT];omega
theorem zmh (w:World) (g:Nat) (s:ByteArray) (pos:Nat) (opn:Int) (h:Rx w g s pos opn) (hs:s.size<=1000) (hp:pos<=s.size) (deep:Option (Nat->R T)) (hd:XDeep g s deep opn):
   Calls Tryz.prog 114 #[.pointer (some ⟨g,0,none⟩)] w (XRet w g s opn (cAtom s deep pos) (isNode w.heap.size)):=by
 unfold cAtom
 by_cases hlt:pos<s.size
 . rw[if_pos hlt];have hwd:bt s pos≠92->cWide s pos=false:=fun h=>by simp[cWide,isB,h]
   by_cases h1:bt s pos=40
   . rw[if_pos h1];refine zfu w g s pos opn h hs hlt (hwd (by omega)) (by omega) _ fun w' hx=>?_
     rcases hd with ⟨rfl,h20⟩|⟨f,rfl,h0,h20,hf,hpat⟩
     . exact zft w' g s pos opn hx hs h20 _ rfl
     . have hfw:=hf (pos+1) hlt;have hpt:=fun w'' hx=>hpat w'' (pos+1) hx hlt
       show Calls _ _ _ _ (XRet w' g s opn (thenR (f (pos+1)) _) _)
       cases hr:f (pos+1) with
       | error x =>
         rw[hr] at hpt;exact zho w' g s pos opn hx hs hlt ⟨h0,h20⟩ _ hpt _ x.1 x.2 rfl rfl
       | ok x =>
         obtain⟨t,p⟩:=x;rw[hr] at hpt hfw;cases h41:isB s p 41 with
         | false=>exact zfs w' g s pos opn hx hs hlt ⟨h0,h20⟩ _ hpt _ t p rfl hfw.2 h41 (by simp[thenR,h41])
         | true=>exact zj5 w' g s pos opn hx hs hlt ⟨h0,h20⟩ _ hpt _ t p rfl hfw.2 h41 (by simp[thenR,h41])
   . rw[if_neg h1]
     by_cases h2:bt s pos=91
     . rw[if_pos h2];exact zfv w g s pos opn h hs hlt (hwd (by omega)) (by omega)
     . rw[if_neg h2]
       by_cases h3:bt s pos=46
       . rw[if_pos h3];exact zj8 w g s pos opn h hs hlt (hwd (by omega)) (by omega) _ rfl
       . rw[if_neg h3]
         by_cases h4:bt s pos=92
         . rw[if_pos h4]
           by_cases h5:cWide s pos=true
           . rw[if_pos h5];exact zhp w g s pos opn h hs hp h5 _ rfl
           . rw[if_neg h5];exact zj6 w g s pos opn h hs hlt (by simpa using h5) (by omega)
         . rw[if_neg h4]
           by_cases h5:bt s pos=42∨bt s pos=43
           . rw[if_pos h5];exact zhr w g s pos opn h hs hlt (hwd h4) _ rfl (by omega) _ rfl
           . rw[if_neg h5]
             by_cases h6:inT (bt s pos:Int) stopT=true
             . rw[if_pos h6];exact zhq w g s pos opn h hs hlt (hwd h4) _ rfl ((zjk _).1 h6) _ rfl
             . rw[if_neg h6];refine zhs w g s pos opn h hs hlt (hwd h4) _ rfl (by omega) ?_ _ rfl;have:=mt (zjk (bt s pos:Int)).2 h6;omega
 . rw[if_neg hlt];exact zj7 w g s pos opn h hs hp hlt (by simp[cWide,isB,hlt]) _ rfl
theorem zde {w wx wy:World} {g:Nat} {s:ByteArray} {pos:Nat} {opn:Int} {gx:Nat} {t t':T} {k k':Value} (mid:XMidN w g s pos opn wx) (hgx:w.heap.size<gx) (bx:Box8 wx gx t k)
   (hb:Below wx.heap.size wx wy) (ht:Tree wy (fun b=>w.heap.size<b∧b≠gx) t' k'):
   XMidN w g s pos opn (put8 wy gx t' k')∧Box8 (put8 wy gx t' k') gx t' k'∧Tree (put8 wy gx t' k') (fun b=>w.heap.size<b∧b≠gx) t' k':=
 ⟨(mid.below hb).put8 hgx t' k',(bx.stays hb).put (t':=t) (k':=k) t' k',ht.put8 fun b hb=>hb.2⟩
theorem zcq (w:World) (B gx:Nat) (lo hi:Int) (t:T) (k:Value) (ht:Tree w (fun b=>B<b∧b≠gx) t k) (hB:B<w.heap.size) (hgx:gx<w.heap.size):
   Calls Tryz.prog 115 #[.int .i64 lo,.int .i64 hi,.agg #[.int .i64 t.op,.int .u64 (word t.set 0),.int .u64 (word t.set 1),.int .u64 (word t.set 2),.int .u64 (word t.set 3),.int .i64 t.lo,.int .i64 t.hi,k]] w
     fun e w'=>∃ k',e = .returned (nodeV (T.rep lo hi t) k')∧Tree w' (fun b=>B<b∧b≠gx) (T.rep lo hi t) k'∧Below w.heap.size w w':=by
 obtain⟨A,tn,tc,rfl⟩:=ht.form;go_enter Tryz.func115,Tryz.ntmps115;go_wp2;refine bodyPost_ret (v:=nodeV (T.rep lo hi t) (.slice (some ⟨w.heap.size+1+1,0,none⟩) 1 1)) ?_ rfl ⟨_,rfl,?_,(((Below.refl _ _).alloc (Nat.le_refl _) _).alloc (by simp) _).alloc (by simp;omega) _⟩
 . simp[nodeV,T.rep,T.op,T.set,T.lo,T.hi,za6,results,Tryz.results115,go_sem]
 . have hk:=((ht.alloc (.cells #[.int .i64 t.op,.int .u64 (word t.set 0),.int .u64 (word t.set 1),.int .u64 (word t.set 2),.int .u64 (word t.set 3),.int .i64 t.lo,.int .i64 t.hi,.slice A tn tc] 41)).alloc (.cells #[.int .i64 4,.int .u64 0,.int .u64 0,.int .u64 0,.int .u64 0,.int .i64 lo,.int .i64 hi,.slice (some ⟨w.heap.size+1+1,0,none⟩) 1 1] 41)).kid (by simp;omega) 4 noneP lo hi;simp only[World.size_alloc] at hk;exact hk
set_option maxRecDepth 20000 in
set_option maxHeartbeats 4000000 in
theorem zkv (w:World) (g:Nat) (s:ByteArray) (pos:Nat) (opn:Int) (h:Rx w g s pos opn) (hs:s.size<=1000) (hp:pos<=s.size) (deep:Option (Nat->R T)) (hd:XDeep g s deep opn):
   Calls Tryz.prog 104 #[.pointer (some ⟨g,0,none⟩)] w (XRet w g s opn (cPiece s deep pos) (isNode w.heap.size)):=by
 have mid:=XMidN.start h;have HA:=Zh (fun w h=>zmh w g s pos opn h hs hp deep hd);have hfa:=zhg s deep hd.fwd pos;have hgw:=h.lt;have hgb:g≠w.heap.size:=(by omega);have hgb':w.heap.size≠g:=(by omega);generalize hw0:w.alloc (.cells #[.int .i64 0,.int .u64 0,.int .u64 0,.int .u64 0,.int .u64 0,.int .i64 0,.int .i64 0,.slice none 0 0] 41)=w0 at *;have HW:=Zh hw0;clear hw0 hd;cases ha:cAtom s deep pos with
 | error x =>
   obtain⟨c,q⟩:=x;have HE:Hid (cPiece s deep pos = .error (c,q)):=by show cPiece s deep pos=_;unfold cPiece;rw[ha];rfl
   simp only[ha] at HA;clear ha hfa;go_enter Tryz.func104,Tryz.ntmps104;go_wp2_with fail;rw[HW.out];clear HW;go_wp2_with (go_at_call 114;(with_reducible refine (HA.out _ mid.rx).mono ?_);rintro e w1 ⟨⟨gs,hB,rfl,hgs⟩,o1⟩);exact za1 rfl (XRet.fault mid.only ⟨gs,hB,rfl,hgs⟩ o1 HE.out)
 | ok x =>
   obtain⟨t1,p1⟩:=x;have HE:Hid (cPiece s deep pos=loopR (repStep s) (s.size+1) t1 p1):=by show cPiece s deep pos=_;unfold cPiece;rw[ha];rfl
   simp only[ha] at HA;rw[ha] at hfa;have hp1:=hfa.2;clear ha hfa;go_enter Tryz.func104,Tryz.ntmps104;go_wp2_with fail;rw[HW.out];clear HW;go_wp2_with (go_at_call 114;(with_reducible refine (HA.out _ mid.rx).mono ?_);rintro e w1 ⟨⟨v,rfl,k1,rfl,ht1⟩,r1,o1⟩;obtain⟨A,tn,tc,rfl⟩:=ht1.form;unfold nodeV;have mid1:=mid.next o1 r1;have hw1:=mid1.new);have bx:=Box8.new w1 t1 (.slice A tn tc);have ht2:Tree (w1.alloc (.cells #[.int .i64 t1.op,.int .u64 (word t1.set 0),.int .u64 (word t1.set 1),.int .u64 (word t1.set 2),.int .u64 (word t1.set 3),.int .i64 t1.lo,.int .i64 t1.hi,(.slice A tn tc)] 41)) (fun b=>w.heap.size<b∧b≠w1.heap.size) t1 (.slice A tn tc):=
     (ht1.weak fun b hb hlt=>⟨Nat.lt_of_lt_of_le mid.new hb,by omega⟩).alloc _
   have mid2:=mid1.alloc (.cells #[.int .i64 t1.op,.int .u64 (word t1.set 0),.int .u64 (word t1.set 1),.int .u64 (word t1.set 2),.int .u64 (word t1.set 3),.int .i64 t1.lo,.int .i64 t1.hi,(.slice A tn tc)] 41);have hgx:g≠w1.heap.size:=(by have:=mid1.rx.lt;omega);generalize w1.alloc (.cells #[.int .i64 t1.op,.int .u64 (word t1.set 0),.int .u64 (word t1.set 1),.int .u64 (word t1.set 2),.int .u64 (word t1.set 3),.int .i64 t1.lo,.int .i64 t1.hi,(.slice A tn tc)] 41)=w2 at *;generalize w1.heap.size=gx at *;have hgx':some gx≠some g:=(by simpa using Ne.symm hgx);have hbx:w.heap.size≠gx:=(by omega);have hbx':gx≠w.heap.size:=(by omega);clear mid mid1 HA r1 o1 ht1;go_loopg [] (s.size+1) (fun m wr=>∃ t k p,XMidN w g s p opn wr∧Box8 wr gx t k∧Tree wr (fun b=>w.heap.size<b∧b≠gx) t k∧p<=s.size∧s.size+1-p<=m∧cPiece s deep pos=loopR (repStep s) m t p)
   case atStart=>exact⟨t1,_,p1,mid2,bx,ht2,hp1,by omega,HE.out⟩
   case round =>
     clear mid2 bx ht2 HE hp1;obtain⟨t,k,p,mid,bx,ht,hp1,hm,hE⟩:=hrel;obtain⟨A,tn,tc,rfl⟩:=ht.form;obtain⟨m,rfl⟩:∃ m,gk=m+1:=⟨gk-1,by omega⟩;have hwx:=mid.new;unfold loopR at hE;cases h63:isB s p 63 with
     | true =>
       have hst:repStep s t p=some (.ok (.rep 0 1 t,p+1)):=(by unfold repStep;rw[if_pos h63]);have hlt:=(zan h63).1;rw[hst] at hE;have HE:=Zh hE;have HS:=Zh (fun w h=>zaa w g s p opn h hs hp1 63 63 rfl h63);clear hE hst h63;go_wp2_with (first
         | (go_at_call 88;(with_reducible refine (HS.out _ mid.rx).mono ?_);rintro e w4 ⟨rfl,r4,o4⟩;have mid4:=mid.next o4 r4;have b4:=bx.grown o4 hgx';have ht4:=ht.onlyX o4 mid.rx;have hb4l:=b4.lt;obtain⟨n0,n1,n2,n3,n4,n5,n6,n7⟩:=b4.cell)
         | (go_at_call 115;(with_reducible refine (zcq _ w.heap.size gx 0 1 t (.slice A tn tc) ht4 mid4.new hb4l).mono ?_);rintro e w5 ⟨k5,rfl,ht5,hb5⟩;obtain⟨A5,tn5,tc5,rfl⟩:=ht5.form;unfold nodeV;have b5:=b4.stays hb5;obtain⟨z0,z1,z2,z3,z4,z5,z6,z7⟩:=b5.cell;obtain⟨y0,y1,y2,y3,y4,y5,y6,y7⟩:=b5.frozen))
       go_roundg m
       case measure=>omega
       case rel =>
         have hq:=zde mid4 (by omega) b4 hb5 ht5;exact⟨T.rep 0 1 t,_,p+1,hq.1,hq.2.1,hq.2.2,by omega,by omega,HE.out⟩
     | false =>
       have HS1:=Zh (fun w h=>zaq w g s p opn h hs hp1 63 63 rfl h63);cases h123:isB s p 123 with
       | true =>
         have hst:repStep s t p=some (thenR (cTimes s (p+1)) fun m p => .ok (.rep m.1 m.2 t,p)):=(by unfold repStep;rw[if_neg (by simp[h63]),if_pos h123]);have hlt:=(zan h123).1;rw[hst] at hE;have HS:=Zh (fun w h=>zaa w g s p opn h hs hp1 123 123 rfl h123);have HT:=Zh (fun w h=>zku w g s (p+1) opn h hs hlt);have hft:=zex s (p+1);cases hti:cTimes s (p+1) with
         | error x =>
           obtain⟨c,q⟩:=x;have HE:Hid (cPiece s deep pos = .error (c,q)):=by show cPiece s deep pos=_;rw[hE,hti];rfl
           simp only[hti] at HT;clear hE hst h63 h123 hti hft;go_wp2_with (first
             | (go_at_call 88;(with_reducible refine (HS1.out _ mid.rx).mono ?_);rintro e w4 ⟨rfl,r4,o4⟩;have mid4:=mid.next o4 r4)
             | (go_at_call 88;(with_reducible refine (HS.out _ mid4.rx).mono ?_);rintro e w5 ⟨rfl,r5,o5⟩;have mid5:=mid4.next o5 r5)
             | (go_at_call 116;(with_reducible refine (HT.out _ mid5.rx).mono ?_);rintro e w6 ⟨⟨gs,hB,rfl,hgs⟩,o6⟩))
           exact za1 rfl (XRet.fault mid5.only ⟨gs,hB,rfl,hgs⟩ o6 HE.out)
         | ok x =>
           obtain⟨⟨lo,hi⟩,q⟩:=x;have HE:Hid (cPiece s deep pos=loopR (repStep s) m (.rep lo hi t) q):=by show cPiece s deep pos=_;rw[hE,hti];rfl
           simp only[hti] at HT;rw[hti] at hft;have hq1:=hft.1;have hq2:=hft.2;clear hE hst h63 h123 hti hft;go_wp2_with (first
             | (go_at_call 88;(with_reducible refine (HS1.out _ mid.rx).mono ?_);rintro e w4 ⟨rfl,r4,o4⟩;have mid4:=mid.next o4 r4;have b4:=bx.grown o4 hgx';have ht4:=ht.onlyX o4 mid.rx)
             | (go_at_call 88;(with_reducible refine (HS.out _ mid4.rx).mono ?_);rintro e w5 ⟨rfl,r5,o5⟩;have mid5:=mid4.next o5 r5;have b5:=b4.grown o5 hgx';have ht5:=ht4.onlyX o5 mid4.rx)
             | (go_at_call 116;(with_reducible refine (HT.out _ mid5.rx).mono ?_);rintro e w6 ⟨⟨v,rfl,rfl⟩,r6,o6⟩;have mid6:=mid5.next o6 r6;have b6:=b5.grown o6 hgx';have ht6:=ht5.onlyX o6 mid5.rx;have hb6l:=b6.lt;obtain⟨n0,n1,n2,n3,n4,n5,n6,n7⟩:=b6.cell)
             | (go_at_call 115;(with_reducible refine (zcq _ w.heap.size gx lo hi t (.slice A tn tc) ht6 mid6.new hb6l).mono ?_);rintro e w7 ⟨k7,rfl,ht7,hb7⟩;obtain⟨A7,tn7,tc7,rfl⟩:=ht7.form;unfold nodeV;have b7:=b6.stays hb7;obtain⟨z0,z1,z2,z3,z4,z5,z6,z7⟩:=b7.cell;obtain⟨y0,y1,y2,y3,y4,y5,y6,y7⟩:=b7.frozen))
           go_roundg m
           case measure=>omega
           case rel =>
             have hq:=zde mid6 (by omega) b6 hb7 ht7;exact⟨T.rep lo hi t,_,q,hq.1,hq.2.1,hq.2.2,hq2,by omega,HE.out⟩
       | false =>
         have hst:repStep s t p=none:=(by unfold repStep;rw[if_neg (by simp[h63]),if_neg (by simp[h123])]);rw[hst] at hE;have HE:=Zh hE;have HS:=Zh (fun w h=>zaq w g s p opn h hs hp1 123 123 rfl h123);clear hE hst h63 h123;go_wp2_with (first
           | (go_at_call 88;(with_reducible refine (HS1.out _ mid.rx).mono ?_);rintro e w4 ⟨rfl,r4,o4⟩;have mid4:=mid.next o4 r4;have b4:=bx.grown o4 hgx';have ht4:=ht.onlyX o4 mid.rx)
           | (go_at_call 88;(with_reducible refine (HS.out _ mid4.rx).mono ?_);rintro e w5 ⟨rfl,r5,o5⟩;have mid5:=mid4.next o5 r5;have b5:=b4.grown o5 hgx';have ht5:=ht4.onlyX o5 mid4.rx;obtain⟨n0,n1,n2,n3,n4,n5,n6,n7⟩:=b5.cell;obtain⟨m0,m1,m2,m3,m4,m5,m6,m7⟩:=mid5.box.cell;obtain⟨y0,y1,y2,y3,y4,y5,y6,y7⟩:=mid5.box.frozen))
         refine bodyPost_ret (v:=nodeV t (.slice A tn tc)) ?_ rfl (mid5.ret (ht5.weak fun b hb _=>hb.1) HE.out);simp[nodeV,T.zero,T.op,T.set,T.lo,T.hi,za6,results,Tryz.results104,go_sem,m0,m1,m2,m3,m4,m5,m6,m7]
end
end Go.Proofs.YtgbdanddbgomhaaGreatDoor
