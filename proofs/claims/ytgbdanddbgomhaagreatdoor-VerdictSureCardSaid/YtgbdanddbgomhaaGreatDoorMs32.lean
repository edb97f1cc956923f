import Derived.Test.YtgbdanddbgomhaaGreatDoorMs29
import Derived.Test.YtgbdanddbgomhaaGreatDoorMs31
set_option linter.unusedVariables false
set_option linter.unusedSimpArgs false
namespace Go.Proofs.YtgbdanddbgomhaaGreatDoor
open Go Go.RowKit
section
attribute [local go_sem ↓] Go.wp_at_zero Go.wp_at_succ
def isTwo (a:Int×Int) (v:Value) (_:World):Prop:=v = .tuple #[.int .i64 a.1,.int .i64 a.2]
set_option maxRecDepth 20000 in
set_option maxHeartbeats 2000000 in
theorem zku (w:World) (g:Nat) (s:ByteArray) (pos:Nat) (opn:Int) (h:Rx w g s pos opn) (hs:s.size<=1000) (hp:pos<=s.size):
   Calls Tryz.prog 116 #[.pointer (some ⟨g,0,none⟩)] w (XRet w g s opn (cTimes s pos) isTwo):=by
 have HN:=Zh (zeq w g s pos opn h hs hp);have hf:=zed s pos;cases hn:cNum s pos with
 | error x =>
   obtain⟨c,q⟩:=x;have HE:Hid (cTimes s pos = .error (c,q)):=by show cTimes s pos=_;unfold cTimes;rw[hn];rfl
   simp only[hn] at HN;clear hn hf;go_enter Tryz.func116,Tryz.ntmps116;go_wp2_with (first
     | (go_at_call 133;(with_reducible refine (HN.out).mono ?_);rintro e w1 ⟨⟨gs,hB,rfl,hgs⟩,o1⟩))
   exact za1 rfl (XRet.fault (za9 _ _) ⟨gs,hB,rfl,hgs⟩ o1 HE.out)
 | ok x =>
   obtain⟨lo,p⟩:=x;have hE:cTimes s pos=thenR (if isB s p 44=true then cNum s (p+1) else .ok (lo,p)) fun hi q=>if isB s q 125=true∧1<=hi∧hi<=32∧lo<=hi then .ok ((lo,hi),q+1) else .error (2,(q:Int)):=by unfold cTimes;rw[hn];rfl
   rw[hn] at hf;have hp1:=hf.2;simp only[hn] at HN;clear hn hf;have HE:=Zh hE;clear hE;go_enter Tryz.func116,Tryz.ntmps116;cases h44:isB s p 44 with
   | true =>
     have hlt:=(zan h44).1;have HS:=Zh (fun w h=>zaa w g s p opn h hs hp1 44 44 rfl h44);have hf2:=zed s (p+1);have HN2:=Zh (fun w h=>zeq w g s (p+1) opn h hs hlt);cases hn2:cNum s (p+1) with
     | error x =>
       obtain⟨c,q⟩:=x;have HE2:Hid (cTimes s pos = .error (c,q)):=by show cTimes s pos=_;rw[HE.out,if_pos h44,hn2];rfl
       simp only[hn2] at HN2;clear hn2 hf2 h44;go_wp2_with (first
         | (go_at_call 133;(with_reducible refine (HN.out).mono ?_);rintro e w1 ⟨⟨v,rfl,rfl⟩,r1,o1⟩)
         | (go_at_call 88;(with_reducible refine (HS.out _ r1).mono ?_);rintro e w2 ⟨rfl,r2,o2⟩)
         | (go_at_call 133;(with_reducible refine (HN2.out _ r2).mono ?_);rintro e w3 ⟨⟨gs,hB,rfl,hgs⟩,o3⟩))
       exact za1 rfl (XRet.fault (za3 o1 o2) ⟨gs,hB,rfl,hgs⟩ o3 HE2.out)
     | ok x =>
       obtain⟨hi,q⟩:=x;rw[hn2] at hf2;have hq:=hf2.2;have hE2:cTimes s pos=if isB s q 125=true∧1<=hi∧hi<=32∧lo<=hi then .ok ((lo,hi),q+1) else .error (2,(q:Int)):=by rw[HE.out,if_pos h44,hn2];rfl
       simp only[hn2] at HN2;clear hn2 hf2 h44 HE
       by_cases hc:isB s q 125=true∧1<=hi∧hi<=32∧lo<=hi
       . rw[if_pos hc] at hE2;have HE2:=Zh hE2;obtain⟨a1,a2,a3,a4⟩:=hc;have HI:=Zh (fun w h=>zc0 w g s q opn h hs hq 125 125 rfl true a1);have i2:decide (hi<1)=false:=(by simpa using a2);have i3:decide (32<hi)=false:=(by simpa using a3);have i4:decide (hi<lo)=false:=(by simpa using a4);clear a1 hE2;go_wp2_with (first
           | (go_at_call 133;(with_reducible refine (HN.out).mono ?_);rintro e w1 ⟨⟨v,rfl,rfl⟩,r1,o1⟩)
           | (go_at_call 88;(with_reducible refine (HS.out _ r1).mono ?_);rintro e w2 ⟨rfl,r2,o2⟩)
           | (go_at_call 133;(with_reducible refine (HN2.out _ r2).mono ?_);rintro e w3 ⟨⟨v,rfl,rfl⟩,r3,o3⟩;obtain⟨c0,c1,c2⟩:=r3.cell;obtain⟨f0,f1,f2⟩:=r3.frozen)
           | (go_at_call 105;(with_reducible refine (HI.out _ r3).mono ?_);rintro e w4 ⟨rfl,n,rfl⟩))
         go_ret2;exact XRet.ok HE2.out rfl ((r3.drewN n).setPos (q+1)) (za5 (zaj (za3 (za3 o1 o2) o3) _) _)
       . rw[if_neg hc] at hE2;have HE2:=Zh hE2;have HC:=Zh hc;have HI:=Zh (fun w h=>zc0 w g s q opn h hs hq 125 125 rfl (isB s q 125) rfl);generalize isB s q 125=b at *;clear hc hE2;go_wp2_with (first
           | (go_at_call 133;(with_reducible refine (HN.out).mono ?_);rintro e w1 ⟨⟨v,rfl,rfl⟩,r1,o1⟩)
           | (go_at_call 88;(with_reducible refine (HS.out _ r1).mono ?_);rintro e w2 ⟨rfl,r2,o2⟩)
           | (go_at_call 133;(with_reducible refine (HN2.out _ r2).mono ?_);rintro e w3 ⟨⟨v,rfl,rfl⟩,r3,o3⟩;obtain⟨c0,c1,c2⟩:=r3.cell;obtain⟨f0,f1,f2⟩:=r3.frozen)
           | (go_at_call 105;(with_reducible refine (HI.out _ r3).mono ?_);rintro e w4 ⟨rfl,n,rfl⟩)
           | (go_at_call 65;(with_reducible refine (zag _ g s q opn _ (r3.drewN n)).mono ?_);rintro e w5 ⟨rfl,rfl⟩))
         all_goals first
           | exact za1 rfl (XRet.here (za5 (za3 (za3 o1 o2) o3) _) HE2.out)
           | (exfalso;exact HC.out ⟨by simp_all,by omega,by omega,by omega⟩)
   | false =>
     have HS:=Zh (fun w h=>zaq w g s p opn h hs hp1 44 44 rfl h44);have hE2:cTimes s pos=if isB s p 125=true∧1<=lo∧lo<=32∧lo<=lo then .ok ((lo,lo),p+1) else .error (2,(p:Int)):=by rw[HE.out,if_neg (by simp[h44])];rfl
     clear h44 HE
     by_cases hc:isB s p 125=true∧1<=lo∧lo<=32∧lo<=lo
     . rw[if_pos hc] at hE2;have HE2:=Zh hE2;obtain⟨a1,a2,a3,a4⟩:=hc;have HI:=Zh (fun w h=>zc0 w g s p opn h hs hp1 125 125 rfl true a1);have i2:decide (lo<1)=false:=(by simpa using a2);have i3:decide (32<lo)=false:=(by simpa using a3);clear a1 hE2;go_wp2_with (first
         | (go_at_call 133;(with_reducible refine (HN.out).mono ?_);rintro e w1 ⟨⟨v,rfl,rfl⟩,r1,o1⟩)
         | (go_at_call 88;(with_reducible refine (HS.out _ r1).mono ?_);rintro e w2 ⟨rfl,r2,o2⟩;obtain⟨c0,c1,c2⟩:=r2.cell;obtain⟨f0,f1,f2⟩:=r2.frozen)
         | (go_at_call 105;(with_reducible refine (HI.out _ r2).mono ?_);rintro e w4 ⟨rfl,n,rfl⟩))
       go_ret2;exact XRet.ok HE2.out rfl ((r2.drewN n).setPos (p+1)) (za5 (zaj (za3 o1 o2) _) _)
     . rw[if_neg hc] at hE2;have HE2:=Zh hE2;have HC:=Zh hc;have HI:=Zh (fun w h=>zc0 w g s p opn h hs hp1 125 125 rfl (isB s p 125) rfl);generalize isB s p 125=b at *;clear hc hE2;go_wp2_with (first
         | (go_at_call 133;(with_reducible refine (HN.out).mono ?_);rintro e w1 ⟨⟨v,rfl,rfl⟩,r1,o1⟩)
         | (go_at_call 88;(with_reducible refine (HS.out _ r1).mono ?_);rintro e w2 ⟨rfl,r2,o2⟩;obtain⟨c0,c1,c2⟩:=r2.cell;obtain⟨f0,f1,f2⟩:=r2.frozen)
         | (go_at_call 105;(with_reducible refine (HI.out _ r2).mono ?_);rintro e w4 ⟨rfl,n,rfl⟩)
         | (go_at_call 65;(with_reducible refine (zag _ g s p opn _ (r2.drewN n)).mono ?_);rintro e w5 ⟨rfl,rfl⟩))
       all_goals first
         | exact za1 rfl (XRet.here (za5 (za3 o1 o2) _) HE2.out)
         | (exfalso;exact HC.out ⟨by simp_all,by omega,by omega,by omega⟩)
structure XMidS (w:World) (g:Nat) (s:ByteArray) (pos:Nat) (opn:Int) (wx:World):Prop where
 lt:g<w.heap.size
 rx:Rx wx g s pos opn
 box:Box4 wx w.heap.size noneP
 only:w.grownBy wx (some g)
section
variable {w wx wy:World} {g:Nat} {s:ByteArray} {pos pos':Nat} {opn opn':Int}
theorem XMidS.start (h:Rx w g s pos opn):XMidS w g s pos opn (w.alloc (.cells #[.int .u64 0,.int .u64 0,.int .u64 0,.int .u64 0] 38)):=
 ⟨h.lt,h.alloc _,Box4.new0 w,zam (za9 _ _) _⟩
theorem XMidS.next (h:XMidS w g s pos opn wx) (o:wx.grownBy wy (some g)) (r:Rx wy g s pos' opn'):XMidS w g s pos' opn' wy:=
 ⟨h.lt,r,h.box.grown o (by have:=h.lt;simp;omega),za3 h.only o⟩
theorem XMidS.below (h:XMidS w g s pos opn wx) (hb:Below wx.heap.size wx wy):XMidS w g s pos opn wy:=⟨h.lt,h.rx.stays hb,h.box.stays hb,zdj h.only hb⟩
theorem XMidS.alloc (h:XMidS w g s pos opn wx) (o:Obj):XMidS w g s pos opn (wx.alloc o):=⟨h.lt,h.rx.alloc o,h.box.alloc o,zam h.only o⟩
theorem XMidS.drewN (h:XMidS w g s pos opn wx) (n:Nat):XMidS w g s pos opn (wx.drewN n):=⟨h.lt,h.rx.drewN n,h.box,za5 h.only n⟩
theorem XMidS.setPos (h:XMidS w g s pos opn wx) (k:Nat):XMidS w g s k opn (wx.setCell ⟨g,1,none⟩ (.int .i64 (k:Int))):=h.next (zaj (za9 _ _) _) (h.rx.setPos k)
theorem XMidS.put4 (h:XMidS w g s pos opn wx) {b:Nat} (hb:w.heap.size<b) (q:Nat->Bool):XMidS w g s pos opn (put4 wx b q):=
 ⟨h.lt,h.rx.block (by unfold Go.Proofs.YtgbdanddbgomhaaGreatDoor.put4;have:=h.lt;rw[Below.heap_setCell _ _ _ _ (show g≠b by omega),Below.heap_setCell _ _ _ _ (show g≠b by omega),Below.heap_setCell _ _ _ _ (show g≠b by omega),Below.heap_setCell _ _ _ _ (show g≠b by omega)]),h.box.putFar (by omega) q,zf7 h.only (by omega) q⟩
theorem XMidS.new (h:XMidS w g s pos opn wx):w.heap.size<wx.heap.size:=h.box.lt
theorem XMidS.fin (h:XMidS w g s pos opn wx) (q:Nat->Bool):Rx (Go.Proofs.YtgbdanddbgomhaaGreatDoor.put4 wx w.heap.size q) g s pos opn∧w.grownBy (Go.Proofs.YtgbdanddbgomhaaGreatDoor.put4 wx w.heap.size q) (some g):=by
 have:=h.lt;refine⟨h.rx.block ?_,zf7 h.only (Nat.le_refl _) q⟩;unfold Go.Proofs.YtgbdanddbgomhaaGreatDoor.put4;rw[Below.heap_setCell _ _ _ _ (show g≠w.heap.size by omega),Below.heap_setCell _ _ _ _ (show g≠w.heap.size by omega),Below.heap_setCell _ _ _ _ (show g≠w.heap.size by omega),Below.heap_setCell _ _ _ _ (show g≠w.heap.size by omega)]
end
set_option maxHeartbeats 400000 in
theorem zbh (c:Int) (w:World) (h0:0<=c) (h1:c<=255):
   Calls Tryz.prog 131 #[.int .u8 c] w fun e w'=>e = .returned (setV (rangeP c c))∧Below w.heap.size w w':=by
 have b0:=Box4.new0 w;have hB:Below w.heap.size w (w.alloc (.cells #[.int .u64 0,.int .u64 0,.int .u64 0,.int .u64 0] 38)):=(Below.refl _ _).alloc (Nat.le_refl _) _;generalize hw0:w.alloc (.cells #[.int .u64 0,.int .u64 0,.int .u64 0,.int .u64 0] 38)=w0 at *;have HW:=Zh hw0;clear hw0;go_enter Tryz.func131,Tryz.ntmps131;go_wp2_with fail;rw[HW.out];clear HW;go_wp2_with (go_at_call 138;(with_reducible refine (zbw c c _ (by omega) (by omega) (by omega) (by omega)).mono ?_);rintro e w1 ⟨rfl,hb1⟩;unfold setV;obtain⟨d0,d1,d2,d3⟩:=(b0.stays hb1).cell;obtain⟨g0,g1,g2,g3⟩:=(b0.stays hb1).frozen);refine bodyPost_ret (v:=setV (rangeP c c)) ?_ rfl ⟨rfl,zbb (g:=w.heap.size) (gro hB hb1) (Nat.le_refl _) (rangeP c c)⟩;unfold setV;simp[results,Tryz.results131,go_sem,d0,d1,d2,d3]
set_option maxHeartbeats 400000 in
theorem zep (p:Nat->Bool) (w:World):
   Calls Tryz.prog 126 #[.agg #[.int .u64 (word p 0),.int .u64 (word p 1),.int .u64 (word p 2),.int .u64 (word p 3)]] w fun e w'=>e = .returned (nodeV (.one p) (.slice none 0 0))∧Below w.heap.size w w':=by
 go_enter Tryz.func126,Tryz.ntmps126;go_wp2;refine bodyPost_ret (v:=nodeV (.one p) (.slice none 0 0)) ?_ rfl ⟨rfl,((Below.refl _ _).alloc (Nat.le_refl _) _).alloc (by simp) _⟩;simp[nodeV,T.one,T.op,T.set,T.lo,T.hi,results,Tryz.results126,go_sem]
set_option maxHeartbeats 1000000 in
theorem zbz (w:World) (B:Nat) (op:Int) (v:Value) (l:List T) (h:Row w B v l) (h0:0<l.length):
   Calls Tryz.prog 89 #[.int .i64 op,v] w (RetMany w B (T.many op l)):=by
 have ht:=h.tree h0 op noneP 0 0;have hh:=h;obtain⟨ks,h1,h2,h3⟩:=h;obtain⟨g,cap,rfl,hB,hg⟩:=h2.form h0
 by_cases hl:l.length=1
 . obtain⟨t,rfl⟩:∃ t,l=[t]:=by
     match l,hl with
     | [t],_=>exact⟨t,rfl⟩
   obtain⟨k,rfl⟩:∃ k,ks=[k]:=by
     match ks,h1 with
     | [k],_=>exact⟨k,rfl⟩
   have hk:=h3 0 t k rfl rfl;obtain⟨A,m,c,rfl⟩:=hk.form;have c0:w.cell? ⟨g,0,none⟩=some (.int .i64 t.op):=h2.cellAt 0 (by simp);have c1:w.cell? ⟨g,1,none⟩=some (.int .u64 (word t.set 0)):=h2.cellAt 1 (by simp);have c2:w.cell? ⟨g,2,none⟩=some (.int .u64 (word t.set 1)):=h2.cellAt 2 (by simp);have c3:w.cell? ⟨g,3,none⟩=some (.int .u64 (word t.set 2)):=h2.cellAt 3 (by simp);have c4:w.cell? ⟨g,4,none⟩=some (.int .u64 (word t.set 3)):=h2.cellAt 4 (by simp);have c5:w.cell? ⟨g,5,none⟩=some (.int .i64 t.lo):=h2.cellAt 5 (by simp);have c6:w.cell? ⟨g,6,none⟩=some (.int .i64 t.hi):=h2.cellAt 6 (by simp);have c7:w.cell? ⟨g,7,none⟩=some (.slice A m c):=h2.cellAt 7 (by simp);clear h1 h2 h3 hh hl h0 ht
   show Calls Tryz.prog 89 #[.int .i64 op,.slice (some ⟨g,0,none⟩) 1 cap] w (RetMany w B t)
   go_enter Tryz.func89,Tryz.ntmps89;go_wp2;refine bodyPost_ret (v:=nodeV t (.slice A m c)) ?_ rfl ⟨_,rfl,?_,?_⟩
   . simp[nodeV,results,Tryz.results89,go_sem]
   . exact (hk.weak fun b hb _=>hb.1).stays ((Below.refl _ _).alloc (Nat.le_refl _) _)
   . exact (Below.refl _ _).alloc (Nat.le_refl _) _
 . have e:T.many op l = .mk op noneP 0 0 l:=by
     unfold T.many
     match l,hl with
     | [],_=>rfl
     | _::_::_,_=>rfl
   rw[e];clear e;have hl':((l.length:Int)==1)=false:=(by simp;omega);have hl2:(l.length==1)=false:=(by simp[hl]);generalize l.length=n at *;clear h1 h2 h3 hh hl h0;go_enter Tryz.func89,Tryz.ntmps89;go_wp2;refine bodyPost_ret (v:=nodeV (.mk op noneP 0 0 l) (.slice (some ⟨g,0,none⟩) n cap)) ?_ rfl ⟨_,rfl,?_,?_⟩
   . simp[nodeV,T.op,T.set,T.lo,T.hi,za6,results,Tryz.results89,go_sem]
   . exact ht.stays ((Below.refl _ _).alloc (Nat.le_refl _) _)
   . exact (Below.refl _ _).alloc (Nat.le_refl _) _
theorem zkz:orP (orP digP (orP (rangeP 97 122) (rangeP 65 90))) (rangeP 95 95)=wordP:=by
 unfold wordP;rw[zll]
 funext x
 unfold orP;cases digP x <;> cases rangeP 97 122 x <;> cases rangeP 65 90 x <;> cases rangeP 95 95 x <;> rfl
theorem wide_d {s:ByteArray} {pos:Nat}:(isB s pos 92&&isB s (pos+1) 100)=(cWide s pos&&bt s (pos+1)==100):=by
 unfold cWide isB isWide;rw[Bool.eq_iff_iff];simp;omega
theorem wide_w {s:ByteArray} {pos:Nat}:(isB s pos 92&&isB s (pos+1) 119)=(cWide s pos&&bt s (pos+1)==119):=by
 unfold cWide isB isWide;rw[Bool.eq_iff_iff];simp;omega
set_option maxRecDepth 20000 in
set_option maxHeartbeats 2000000 in
theorem zme (w:World) (g:Nat) (s:ByteArray) (pos:Nat) (opn:Int) (h:Rx w g s pos opn) (hs:s.size<=1000) (hp:pos<=s.size) (hw:cWide s pos=true) (hd:bt s (pos+1)=100):
   Calls Tryz.prog 125 #[.pointer (some ⟨g,0,none⟩)] w fun e w'=>e = .returned (.tuple #[setV digP,.bool true])∧Rx w' g s (pos+2) opn∧w.grownBy w' (some g):=by
 have HS:=Zh (fun w h=>zcp w g s pos opn h hs hp ⟨#[92,100]⟩ (by decide) (by rw[pre2 s pos 92 100 hp];exact wide_d.trans (by simp[hw,hd])));have mid:=XMidS.start h;have hgb:=h.lt;generalize hw0:w.alloc (.cells #[.int .u64 0,.int .u64 0,.int .u64 0,.int .u64 0] 38)=w0 at *;have HW:=Zh hw0;clear hw0 hw hd;go_enter Tryz.func125,Tryz.ntmps125;go_wp2_with fail;rw[HW.out];clear HW;go_wp2_with (first
   | (go_at_call 138;(with_reducible refine (zbw 48 57 _ (by omega) (by omega) (by omega) (by omega)).mono ?_);rintro e w1 ⟨rfl,hb1⟩;unfold setV;have mid1:=mid.below hb1;have hw1:=mid1.new)
   | (go_at_call 88;(with_reducible refine (HS.out _ (mid1.alloc _).rx).mono ?_);rintro e w2 ⟨rfl,r2,o2⟩;have mid2:=(mid1.alloc _).next o2 r2;have b2:=(Box4.new w1 digP).grown o2 (by simp;omega);obtain⟨d0,d1,d2,d3⟩:=b2.cell;obtain⟨m0,m1,m2,m3⟩:=mid2.box.cell;obtain⟨y0,y1,y2,y3⟩:=mid2.box.frozen))
 refine bodyPost_ret (v := .tuple #[setV digP,.bool true]) ?_ rfl ⟨rfl,mid2.fin digP⟩;unfold setV;simp[results,Tryz.results125,go_sem,m0,m1,m2,m3]
set_option maxRecDepth 20000 in
set_option maxHeartbeats 2000000 in
theorem zmd (w:World) (g:Nat) (s:ByteArray) (pos:Nat) (opn:Int) (h:Rx w g s pos opn) (hs:s.size<=1000) (hp:pos<=s.size) (hw:cWide s pos=true) (hd:bt s (pos+1)=119):
   Calls Tryz.prog 125 #[.pointer (some ⟨g,0,none⟩)] w fun e w'=>e = .returned (.tuple #[setV wordP,.bool true])∧Rx w' g s (pos+2) opn∧w.grownBy w' (some g):=by
 have HS1:=Zh (fun w h=>zcl w g s pos opn h hs hp ⟨#[92,100]⟩ (by decide) (by rw[pre2 s pos 92 100 hp];exact wide_d.trans (by simp[hd])));have HS:=Zh (fun w h=>zcp w g s pos opn h hs hp ⟨#[92,119]⟩ (by decide) (by rw[pre2 s pos 92 119 hp];exact wide_w.trans (by simp[hw,hd])));have mid:=XMidS.start h;have hgb:=h.lt;generalize hw0:w.alloc (.cells #[.int .u64 0,.int .u64 0,.int .u64 0,.int .u64 0] 38)=w0 at *;have HW:=Zh hw0;clear hw0 hw hd;go_enter Tryz.func125,Tryz.ntmps125;go_wp2_with fail;rw[HW.out];clear HW;go_wp2_with (first
   | (go_at_call 138;(with_reducible refine (zbw 48 57 _ (by omega) (by omega) (by omega) (by omega)).mono ?_);rintro e w1 ⟨rfl,hb1⟩;unfold setV;have mid1:=mid.below hb1;have hw1:=mid1.new)
   | (go_at_call 88;(with_reducible refine (HS1.out _ (mid1.alloc _).rx).mono ?_);rintro e w2 ⟨rfl,r2,o2⟩;have mid2:=(mid1.alloc _).next o2 r2;have b2:=(Box4.new w1 digP).grown o2 (by simp;omega))
   | (go_at_call 88;(with_reducible refine (HS.out _ mid2.rx).mono ?_);rintro e w3 ⟨rfl,r3,o3⟩;have mid3:=mid2.next o3 r3;have b3:=b2.grown o3 (by simp;omega))
   | (go_at_call 138;(with_reducible refine (zbw 97 122 _ (by omega) (by omega) (by omega) (by omega)).mono ?_);rintro e w4 ⟨rfl,hb4⟩;unfold setV;have mid4:=mid3.below hb4;have b4:=b3.stays hb4)
   | (go_at_call 138;(with_reducible refine (zbw 65 90 _ (by omega) (by omega) (by omega) (by omega)).mono ?_);rintro e w5 ⟨rfl,hb5⟩;unfold setV;have mid5:=mid4.below hb5;have b5:=b4.stays hb5)
   | (go_at_call 32;(with_reducible refine (or_p (rangeP 97 122) (rangeP 65 90) _).mono ?_);rintro e w6 ⟨rfl,hb6⟩;unfold setV;have mid6:=mid5.below hb6;have b6:=b5.stays hb6;have bl:=b6.lt;have bl2:w1.heap.size≠w6.heap.size:=(by omega);obtain⟨n0,n1,n2,n3⟩:=b6.cell)
   | (go_at_call 32;(with_reducible refine (or_p digP (orP (rangeP 97 122) (rangeP 65 90)) _).mono ?_);rintro e w7 ⟨rfl,hb7⟩;unfold setV;have mid7:=(mid6.alloc _).below hb7)
   | (go_at_call 131;(with_reducible refine (zbh 95 _ (by omega) (by omega)).mono ?_);rintro e w8 ⟨rfl,hb8⟩;unfold setV;have mid8:=mid7.below hb8)
   | (go_at_call 32;(with_reducible refine (or_p (orP digP (orP (rangeP 97 122) (rangeP 65 90))) (rangeP 95 95) _).mono ?_);rintro e w9 ⟨rfl,hb9⟩;rw[zkz];unfold setV;have mid9:=mid8.below hb9;obtain⟨m0,m1,m2,m3⟩:=mid9.box.cell;obtain⟨y0,y1,y2,y3⟩:=mid9.box.frozen))
 refine bodyPost_ret (v := .tuple #[setV wordP,.bool true]) ?_ rfl ⟨rfl,mid9.fin wordP⟩;unfold setV;simp[results,Tryz.results125,go_sem,m0,m1,m2,m3]
set_option maxRecDepth 20000 in
set_option maxHeartbeats 2000000 in
theorem zac (w:World) (g:Nat) (s:ByteArray) (pos:Nat) (opn:Int) (h:Rx w g s pos opn) (hs:s.size<=1000) (hp:pos<=s.size) (hw:cWide s pos=false):
   Calls Tryz.prog 125 #[.pointer (some ⟨g,0,none⟩)] w fun e w'=>e = .returned (.tuple #[setV noneP,.bool false])∧Rx w' g s pos opn∧w.grownBy w' (some g):=by
 have HS1:=Zh (fun w h=>zcl w g s pos opn h hs hp ⟨#[92,100]⟩ (by decide) (by rw[pre2 s pos 92 100 hp];exact wide_d.trans (by simp[hw])));have HS:=Zh (fun w h=>zcl w g s pos opn h hs hp ⟨#[92,119]⟩ (by decide) (by rw[pre2 s pos 92 119 hp];exact wide_w.trans (by simp[hw])));have mid:=XMidS.start h;have hgb:=h.lt;generalize hw0:w.alloc (.cells #[.int .u64 0,.int .u64 0,.int .u64 0,.int .u64 0] 38)=w0 at *;have HW:=Zh hw0;clear hw0 hw;go_enter Tryz.func125,Tryz.ntmps125;go_wp2_with fail;rw[HW.out];clear HW;go_wp2_with (first
   | (go_at_call 138;(with_reducible refine (zbw 48 57 _ (by omega) (by omega) (by omega) (by omega)).mono ?_);rintro e w1 ⟨rfl,hb1⟩;unfold setV;have mid1:=mid.below hb1;have hw1:=mid1.new)
   | (go_at_call 88;(with_reducible refine (HS1.out _ (mid1.alloc _).rx).mono ?_);rintro e w2 ⟨rfl,r2,o2⟩;have mid2:=(mid1.alloc _).next o2 r2)
   | (go_at_call 88;(with_reducible refine (HS.out _ mid2.rx).mono ?_);rintro e w3 ⟨rfl,r3,o3⟩;have mid3:=mid2.next o3 r3;obtain⟨m0,m1,m2,m3⟩:=mid3.box.cell;obtain⟨y0,y1,y2,y3⟩:=mid3.box.frozen))
 have e:(((w3.setCell ⟨w.heap.size,0,none⟩ (.int .u64 0)).setCell ⟨w.heap.size,1,none⟩ (.int .u64 0)).setCell ⟨w.heap.size,2,none⟩ (.int .u64 0)).setCell ⟨w.heap.size,3,none⟩ (.int .u64 0)=put4 w3 w.heap.size noneP:=(by simp only[put4,za6]);refine bodyPost_ret (v := .tuple #[setV noneP,.bool false]) ?_ rfl ⟨rfl,by rw[e];exact mid3.fin noneP⟩;unfold setV;simp[results,Tryz.results125,go_sem,m0,m1,m2,m3,za6]
theorem zj0 (w:World) (g:Nat) (s:ByteArray) (pos:Nat) (opn:Int) (h:Rx w g s pos opn) (hs:s.size<=1000) (hp:pos<=s.size) (hw:cWide s pos=true):
   Calls Tryz.prog 125 #[.pointer (some ⟨g,0,none⟩)] w fun e w'=>e = .returned (.tuple #[setV (wideP (bt s (pos+1):Int)),.bool true])∧Rx w' g s (pos+2) opn∧w.grownBy w' (some g):=by
 have h2:=hw;simp[cWide,isWide] at h2;rcases h2.2 with h3|h3
 . have h3:bt s (pos+1)=100:=(by omega);rw[h3];exact zme w g s pos opn h hs hp hw h3
 . have h3:bt s (pos+1)=119:=(by omega);rw[h3];exact zmd w g s pos opn h hs hp hw h3
end
end Go.Proofs.YtgbdanddbgomhaaGreatDoor
