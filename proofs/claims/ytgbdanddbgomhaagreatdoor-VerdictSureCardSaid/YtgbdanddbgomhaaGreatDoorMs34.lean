import Derived.Test.YtgbdanddbgomhaaGreatDoorMs32
set_option linter.unusedVariables false
set_option linter.unusedSimpArgs false
namespace Go.Proofs.YtgbdanddbgomhaaGreatDoor
open Go Go.RowKit
section
attribute [local go_sem ↓] Go.wp_at_zero Go.wp_at_succ
theorem zm9 (s:ByteArray) (pos:Nat) (a:Int) (p:Nat) (h:cEsc s pos = .ok (a,p)):0<=a∧a<=255:=by
 have hb:=ziu s pos;unfold cEsc at h;split at h
 . split at h
   . injection h with h;injection h with h1 h2;omega
   . split at h
     . injection h with h;injection h with h1 h2;omega
     . split at h
       . injection h with h;injection h with h1 h2;omega
       . cases h
 . cases h
theorem zdn (s:ByteArray) (pos:Nat) (a:Int) (p:Nat) (h:cMem s pos = .ok (a,p)):0<=a∧a<=255:=by
 have hb:=ziu s pos;unfold cMem at h;split at h
 . split at h
   . cases h
   . split at h
     . exact zm9 s _ a p h
     . injection h with h;injection h with h1 h2;omega
 . cases h
def isSet (q:Nat->Bool) (v:Value) (_:World):Prop:=v=setV q
set_option maxRecDepth 20000 in
set_option maxHeartbeats 2000000 in
theorem zhl (w:World) (g:Nat) (s:ByteArray) (pos:Nat) (opn:Int) (h:Rx w g s pos opn) (hs:s.size<=1000) (hp:pos<=s.size) (hw:cWide s pos=true):Calls Tryz.prog 139 #[.pointer (some ⟨g,0,none⟩)] w (XRet w g s opn (cItem s pos) isSet):=by
 have mid:=XMidS.start h;have hgb:=h.lt;have hgb':g≠w.heap.size:=(by omega);have hgb2:w.heap.size≠g:=(by omega);generalize hw0:w.alloc (.cells #[.int .u64 0,.int .u64 0,.int .u64 0,.int .u64 0] 38)=w0 at *;have HW:=Zh hw0;clear hw0;have HE:Hid (cItem s pos = .ok (wideP (bt s (pos+1):Int),pos+2)):=by show cItem s pos=_;unfold cItem;rw[if_pos hw]
 have HK:=Zh (fun w h=>zj0 w g s pos opn h hs hp hw);clear hw;generalize wideP (bt s (pos+1):Int)=q at *;go_enter Tryz.func139,Tryz.ntmps139;go_wp2_with fail;rw[HW.out];clear HW;go_wp2_with (first
   | (go_at_call 125;(with_reducible refine (HK.out _ mid.rx).mono ?_);rintro e w1 ⟨rfl,r1,o1⟩;unfold setV;have mid1:=mid.next o1 r1;have hx:=mid1.new;have hx2:w.heap.size≠w1.heap.size:=(by omega);obtain⟨m0,m1,m2,m3⟩:=mid1.box.cell;obtain⟨y0,y1,y2,y3⟩:=mid1.box.frozen))
 have bF:=(mid1.box.put q).alloc (.cells #[.int .u64 (word q 0),.int .u64 (word q 1),.int .u64 (word q 2),.int .u64 (word q 3)] 38);have rF:=(mid1.fin q).1.alloc (.cells #[.int .u64 (word q 0),.int .u64 (word q 1),.int .u64 (word q 2),.int .u64 (word q 3)] 38);have oF:=zam (mid1.fin q).2 (.cells #[.int .u64 (word q 0),.int .u64 (word q 1),.int .u64 (word q 2),.int .u64 (word q 3)] 38);change bodyPost _ _ _ _ _ ((put4 w1 w.heap.size q).alloc (.cells #[.int .u64 (word q 0),.int .u64 (word q 1),.int .u64 (word q 2),.int .u64 (word q 3)] 38));generalize (put4 w1 w.heap.size q).alloc (.cells #[.int .u64 (word q 0),.int .u64 (word q 1),.int .u64 (word q 2),.int .u64 (word q 3)] 38)=wF at *;obtain⟨F0,F1,F2,F3⟩:=bF.cell;refine bodyPost_ret (v:=setV q) ?_ rfl (XRet.ok HE.out rfl rF oF);unfold setV;simp[results,Tryz.results139,go_sem,F0,F1,F2,F3]
set_option maxRecDepth 20000 in
set_option maxHeartbeats 2000000 in
theorem zhn (w:World) (g:Nat) (s:ByteArray) (pos:Nat) (opn:Int) (h:Rx w g s pos opn) (hs:s.size<=1000) (hp:pos<=s.size) (hw:cWide s pos=false) (c q:Int) (hm:cMem s pos = .error (c,q)):Calls Tryz.prog 139 #[.pointer (some ⟨g,0,none⟩)] w (XRet w g s opn (cItem s pos) isSet):=by
 have mid:=XMidS.start h;have hgb:=h.lt;have hgb':g≠w.heap.size:=(by omega);have hgb2:w.heap.size≠g:=(by omega);generalize hw0:w.alloc (.cells #[.int .u64 0,.int .u64 0,.int .u64 0,.int .u64 0] 38)=w0 at *;have HW:=Zh hw0;clear hw0;have HK:=Zh (fun w h=>zac w g s pos opn h hs hp hw);have HM:=Zh (fun w h=>zab w g s pos opn h hs hp);simp only[hm] at HM;have HE:Hid (cItem s pos = .error (c,q)):=by
   show cItem s pos=_
   unfold cItem;rw[if_neg (by simp[hw]),hm];rfl
 clear hm hw;go_enter Tryz.func139,Tryz.ntmps139;go_wp2_with fail;rw[HW.out];clear HW;go_wp2_with (first
   | (go_at_call 125;(with_reducible refine (HK.out _ mid.rx).mono ?_);rintro e w1 ⟨rfl,r1,o1⟩;unfold setV;have mid1:=(mid.next o1 r1).alloc (.cells #[.int .u64 (word noneP 0),.int .u64 (word noneP 1),.int .u64 (word noneP 2),.int .u64 (word noneP 3)] 38))
   | (go_at_call 145;(refine (HM.out _ mid1.rx).mono ?_);rintro e w2 ⟨⟨gs,hB,rfl,hgs⟩,o2⟩))
 exact za1 rfl (XRet.fault mid1.only ⟨gs,hB,rfl,hgs⟩ o2 HE.out)
set_option maxRecDepth 20000 in
set_option maxHeartbeats 2000000 in
theorem zj2 (w:World) (g:Nat) (s:ByteArray) (pos:Nat) (opn:Int) (h:Rx w g s pos opn) (hs:s.size<=1000) (hp:pos<=s.size) (hw:cWide s pos=false) (lo:Int) (p1:Nat) (hm:cMem s pos = .ok (lo,p1)) (h45:isB s p1 45=false):Calls Tryz.prog 139 #[.pointer (some ⟨g,0,none⟩)] w (XRet w g s opn (cItem s pos) isSet):=by
 have mid:=XMidS.start h;have hgb:=h.lt;have hgb':g≠w.heap.size:=(by omega);have hgb2:w.heap.size≠g:=(by omega);generalize hw0:w.alloc (.cells #[.int .u64 0,.int .u64 0,.int .u64 0,.int .u64 0] 38)=w0 at *;have HW:=Zh hw0;clear hw0;have HK:=Zh (fun w h=>zac w g s pos opn h hs hp hw);have HM:=Zh (fun w h=>zab w g s pos opn h hs hp);simp only[hm] at HM;have hp1:=zbk s pos;rw[hm] at hp1;replace hp1:=hp1.2;have hl:=zdn s pos lo p1 hm;have HE:Hid (cItem s pos = .ok (rangeP lo lo,p1)):=by
   show cItem s pos=_
   unfold cItem;rw[if_neg (by simp[hw]),hm]
   show (if isB s p1 45=true then _ else _)=_
   rw[if_neg (by simp[h45])]
 have HS:=Zh (fun w h=>zaq w g s p1 opn h hs hp1 45 45 rfl h45);clear h45 hm hw;go_enter Tryz.func139,Tryz.ntmps139;go_wp2_with fail;rw[HW.out];clear HW;go_wp2_with (first
   | (go_at_call 125;(with_reducible refine (HK.out _ mid.rx).mono ?_);rintro e w1 ⟨rfl,r1,o1⟩;unfold setV;have mid1:=(mid.next o1 r1).alloc (.cells #[.int .u64 (word noneP 0),.int .u64 (word noneP 1),.int .u64 (word noneP 2),.int .u64 (word noneP 3)] 38))
   | (go_at_call 145;(refine (HM.out _ mid1.rx).mono ?_);rintro e w2 ⟨⟨v,rfl,rfl⟩,r2,o2⟩;have mid2:=mid1.next o2 r2)
   | (go_at_call 88;(with_reducible refine (HS.out _ mid2.rx).mono ?_);rintro e w3 ⟨rfl,r3,o3⟩;have mid3:=mid2.next o3 r3)
   | (go_at_call 131;(with_reducible refine (zbh lo _ (by omega) (by omega)).mono ?_);rintro e w4 ⟨rfl,hb4⟩;unfold setV;have mid4:=mid3.below hb4;obtain⟨m0,m1,m2,m3⟩:=mid4.box.cell;obtain⟨y0,y1,y2,y3⟩:=mid4.box.frozen))
 refine bodyPost_ret (v:=setV (rangeP lo lo)) ?_ rfl (XRet.ok HE.out rfl (mid4.fin _).1 (mid4.fin _).2);unfold setV;simp[results,Tryz.results139,go_sem,m0,m1,m2,m3]
set_option maxRecDepth 20000 in
set_option maxHeartbeats 2000000 in
theorem zhm (w:World) (g:Nat) (s:ByteArray) (pos:Nat) (opn:Int) (h:Rx w g s pos opn) (hs:s.size<=1000) (hp:pos<=s.size) (hw:cWide s pos=false) (lo:Int) (p1:Nat) (hm:cMem s pos = .ok (lo,p1)) (h45:isB s p1 45=true) (c q:Int) (hm2:cMem s (p1+1) = .error (c,q)):Calls Tryz.prog 139 #[.pointer (some ⟨g,0,none⟩)] w (XRet w g s opn (cItem s pos) isSet):=by
 have mid:=XMidS.start h;have hgb:=h.lt;have hgb':g≠w.heap.size:=(by omega);have hgb2:w.heap.size≠g:=(by omega);generalize hw0:w.alloc (.cells #[.int .u64 0,.int .u64 0,.int .u64 0,.int .u64 0] 38)=w0 at *;have HW:=Zh hw0;clear hw0;have HK:=Zh (fun w h=>zac w g s pos opn h hs hp hw);have HM:=Zh (fun w h=>zab w g s pos opn h hs hp);simp only[hm] at HM;have hp1:=zbk s pos;rw[hm] at hp1;replace hp1:=hp1.2;have hl:=zdn s pos lo p1 hm;have hlt1:=(zan h45).1;have HS:=Zh (fun w h=>zaa w g s p1 opn h hs hp1 45 45 rfl h45);have HM2:=Zh (fun w h=>zab w g s (p1+1) opn h hs hlt1);simp only[hm2] at HM2;have HE:Hid (cItem s pos = .error (c,q)):=by
   show cItem s pos=_
   unfold cItem;rw[if_neg (by simp[hw]),hm]
   show (if isB s p1 45=true then thenR (cMem s (p1+1)) _ else _)=_
   rw[if_pos h45,hm2];rfl
 clear h45 hm hm2 hw;go_enter Tryz.func139,Tryz.ntmps139;go_wp2_with fail;rw[HW.out];clear HW;go_wp2_with (first
   | (go_at_call 125;(with_reducible refine (HK.out _ mid.rx).mono ?_);rintro e w1 ⟨rfl,r1,o1⟩;unfold setV;have mid1:=(mid.next o1 r1).alloc (.cells #[.int .u64 (word noneP 0),.int .u64 (word noneP 1),.int .u64 (word noneP 2),.int .u64 (word noneP 3)] 38))
   | (go_at_call 145;(refine (HM.out _ mid1.rx).mono ?_);rintro e w2 ⟨⟨v,rfl,rfl⟩,r2,o2⟩;have mid2:=mid1.next o2 r2)
   | (go_at_call 88;(with_reducible refine (HS.out _ mid2.rx).mono ?_);rintro e w3 ⟨rfl,r3,o3⟩;have mid3:=mid2.next o3 r3)
   | (go_at_call 145;(refine (HM2.out _ mid3.rx).mono ?_);rintro e w4 ⟨⟨gs,hB,rfl,hgs⟩,o4⟩))
 exact za1 rfl (XRet.fault mid3.only ⟨gs,hB,rfl,hgs⟩ o4 HE.out)
set_option maxRecDepth 20000 in
set_option maxHeartbeats 2000000 in
theorem zj3 (w:World) (g:Nat) (s:ByteArray) (pos:Nat) (opn:Int) (h:Rx w g s pos opn) (hs:s.size<=1000) (hp:pos<=s.size) (hw:cWide s pos=false) (lo:Int) (p1:Nat) (hm:cMem s pos = .ok (lo,p1)) (h45:isB s p1 45=true) (hi:Int) (p3:Nat) (hm2:cMem s (p1+1) = .ok (hi,p3)) (hlt:hi<lo):Calls Tryz.prog 139 #[.pointer (some ⟨g,0,none⟩)] w (XRet w g s opn (cItem s pos) isSet):=by
 have mid:=XMidS.start h;have hgb:=h.lt;have hgb':g≠w.heap.size:=(by omega);have hgb2:w.heap.size≠g:=(by omega);generalize hw0:w.alloc (.cells #[.int .u64 0,.int .u64 0,.int .u64 0,.int .u64 0] 38)=w0 at *;have HW:=Zh hw0;clear hw0;have HK:=Zh (fun w h=>zac w g s pos opn h hs hp hw);have HM:=Zh (fun w h=>zab w g s pos opn h hs hp);simp only[hm] at HM;have hp1:=zbk s pos;rw[hm] at hp1;replace hp1:=hp1.2;have hl:=zdn s pos lo p1 hm;have hlt1:=(zan h45).1;have HS:=Zh (fun w h=>zaa w g s p1 opn h hs hp1 45 45 rfl h45);have HM2:=Zh (fun w h=>zab w g s (p1+1) opn h hs hlt1);simp only[hm2] at HM2;have hp3:=zbk s (p1+1);rw[hm2] at hp3;have hp4:=hp3.1;replace hp3:=hp3.2;have hh:=zdn s (p1+1) hi p3 hm2;have HE:Hid (cItem s pos = .error (2,((p3-1:Nat):Int))):=by
   show cItem s pos=_
   unfold cItem;rw[if_neg (by simp[hw]),hm]
   show (if isB s p1 45=true then thenR (cMem s (p1+1)) _ else _)=_
   rw[if_pos h45,hm2]
   show (if hi<lo then _ else _)=_
   rw[if_pos hlt]
   congr 2
   omega
 clear h45 hm hm2 hw;go_enter Tryz.func139,Tryz.ntmps139;go_wp2_with fail;rw[HW.out];clear HW;go_wp2_with (first
   | (go_at_call 125;(with_reducible refine (HK.out _ mid.rx).mono ?_);rintro e w1 ⟨rfl,r1,o1⟩;unfold setV;have mid1:=(mid.next o1 r1).alloc (.cells #[.int .u64 (word noneP 0),.int .u64 (word noneP 1),.int .u64 (word noneP 2),.int .u64 (word noneP 3)] 38))
   | (go_at_call 145;(refine (HM.out _ mid1.rx).mono ?_);rintro e w2 ⟨⟨v,rfl,rfl⟩,r2,o2⟩;have mid2:=mid1.next o2 r2)
   | (go_at_call 88;(with_reducible refine (HS.out _ mid2.rx).mono ?_);rintro e w3 ⟨rfl,r3,o3⟩;have mid3:=mid2.next o3 r3)
   | (go_at_call 145;(refine (HM2.out _ mid3.rx).mono ?_);rintro e w4 ⟨⟨v,rfl,rfl⟩,r4,o4⟩;have mid4:=mid3.next o4 r4;obtain⟨c0,c1,c2⟩:=r4.cell;obtain⟨f0,f1,f2⟩:=r4.frozen;have r5:=r4.setPos (p3-1);rw[show ((p3-1:Nat):Int)=(p3:Int)-1 by omega] at r5)
   | (go_at_call 65;(with_reducible refine (zag _ g s (p3-1) opn _ r5).mono ?_);rintro e w6 ⟨rfl,rfl⟩))
 have hn:=heap_alloc_new (w4.setCell ⟨g,1,none⟩ (.int .i64 ((p3:Int)-1))) (.cells #[.int .i64 ((p3-1:Nat):Int),.int .i64 2] 73);rw[show (w4.setCell ⟨g,1,none⟩ (.int .i64 ((p3:Int)-1))).heap.size=w4.heap.size by simp[World.setCell]] at hn;refine za1 rfl ?_;rw[HE.out];exact⟨⟨w4.heap.size,mid4.only.size,rfl,hn⟩,zam (zaj mid4.only _) _⟩
set_option maxRecDepth 20000 in
set_option maxHeartbeats 2000000 in
theorem zfq (w:World) (g:Nat) (s:ByteArray) (pos:Nat) (opn:Int) (h:Rx w g s pos opn) (hs:s.size<=1000) (hp:pos<=s.size) (hw:cWide s pos=false) (lo:Int) (p1:Nat) (hm:cMem s pos = .ok (lo,p1)) (h45:isB s p1 45=true) (hi:Int) (p3:Nat) (hm2:cMem s (p1+1) = .ok (hi,p3)) (hlt:¬ hi<lo):Calls Tryz.prog 139 #[.pointer (some ⟨g,0,none⟩)] w (XRet w g s opn (cItem s pos) isSet):=by
 have mid:=XMidS.start h;have hgb:=h.lt;have hgb':g≠w.heap.size:=(by omega);have hgb2:w.heap.size≠g:=(by omega);generalize hw0:w.alloc (.cells #[.int .u64 0,.int .u64 0,.int .u64 0,.int .u64 0] 38)=w0 at *;have HW:=Zh hw0;clear hw0;have HK:=Zh (fun w h=>zac w g s pos opn h hs hp hw);have HM:=Zh (fun w h=>zab w g s pos opn h hs hp);simp only[hm] at HM;have hp1:=zbk s pos;rw[hm] at hp1;replace hp1:=hp1.2;have hl:=zdn s pos lo p1 hm;have hlt1:=(zan h45).1;have HS:=Zh (fun w h=>zaa w g s p1 opn h hs hp1 45 45 rfl h45);have HM2:=Zh (fun w h=>zab w g s (p1+1) opn h hs hlt1);simp only[hm2] at HM2;have hp3:=zbk s (p1+1);rw[hm2] at hp3;have hp4:=hp3.1;replace hp3:=hp3.2;have hh:=zdn s (p1+1) hi p3 hm2;have HE:Hid (cItem s pos = .ok (rangeP lo hi,p3)):=by
   show cItem s pos=_
   unfold cItem;rw[if_neg (by simp[hw]),hm]
   show (if isB s p1 45=true then thenR (cMem s (p1+1)) _ else _)=_
   rw[if_pos h45,hm2]
   show (if hi<lo then _ else _)=_
   rw[if_neg hlt]
 clear h45 hm hm2 hw;go_enter Tryz.func139,Tryz.ntmps139;go_wp2_with fail;rw[HW.out];clear HW;go_wp2_with (first
   | (go_at_call 125;(with_reducible refine (HK.out _ mid.rx).mono ?_);rintro e w1 ⟨rfl,r1,o1⟩;unfold setV;have mid1:=(mid.next o1 r1).alloc (.cells #[.int .u64 (word noneP 0),.int .u64 (word noneP 1),.int .u64 (word noneP 2),.int .u64 (word noneP 3)] 38))
   | (go_at_call 145;(refine (HM.out _ mid1.rx).mono ?_);rintro e w2 ⟨⟨v,rfl,rfl⟩,r2,o2⟩;have mid2:=mid1.next o2 r2)
   | (go_at_call 88;(with_reducible refine (HS.out _ mid2.rx).mono ?_);rintro e w3 ⟨rfl,r3,o3⟩;have mid3:=mid2.next o3 r3)
   | (go_at_call 145;(refine (HM2.out _ mid3.rx).mono ?_);rintro e w4 ⟨⟨v,rfl,rfl⟩,r4,o4⟩;have mid4:=mid3.next o4 r4)
   | (go_at_call 138;(with_reducible refine (zbw lo hi _ (by omega) (by omega) (by omega) (by omega)).mono ?_);rintro e w5 ⟨rfl,hb5⟩;unfold setV;have mid5:=mid4.below hb5;obtain⟨m0,m1,m2,m3⟩:=mid5.box.cell;obtain⟨y0,y1,y2,y3⟩:=mid5.box.frozen))
 refine bodyPost_ret (v:=setV (rangeP lo hi)) ?_ rfl (XRet.ok HE.out rfl (mid5.fin _).1 (mid5.fin _).2);unfold setV;simp[results,Tryz.results139,go_sem,m0,m1,m2,m3]
theorem zfr (w:World) (g:Nat) (s:ByteArray) (pos:Nat) (opn:Int) (h:Rx w g s pos opn) (hs:s.size<=1000) (hp:pos<=s.size):Calls Tryz.prog 139 #[.pointer (some ⟨g,0,none⟩)] w (XRet w g s opn (cItem s pos) isSet):=by
 cases hw:cWide s pos with
 | true=>exact zhl w g s pos opn h hs hp hw
 | false =>
   cases hm:cMem s pos with
   | error x=>exact zhn w g s pos opn h hs hp hw x.1 x.2 hm
   | ok x =>
     cases h45:isB s x.2 45 with
     | false=>exact zj2 w g s pos opn h hs hp hw x.1 x.2 hm h45
     | true =>
       cases hm2:cMem s (x.2+1) with
       | error y=>exact zhm w g s pos opn h hs hp hw x.1 x.2 hm h45 y.1 y.2 hm2
       | ok y =>
         by_cases hlt:y.1<x.1
         . exact zj3 w g s pos opn h hs hp hw x.1 x.2 hm h45 y.1 y.2 hm2 hlt
         . exact zfq w g s pos opn h hs hp hw x.1 x.2 hm h45 y.1 y.2 hm2 hlt
end
end Go.Proofs.YtgbdanddbgomhaaGreatDoor
