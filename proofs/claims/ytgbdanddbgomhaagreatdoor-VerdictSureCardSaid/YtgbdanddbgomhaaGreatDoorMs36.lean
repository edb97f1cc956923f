import Derived.Test.YtgbdanddbgomhaaGreatDoorMs34
set_option linter.unusedVariables false
set_option linter.unusedSimpArgs false
namespace Go.Proofs.YtgbdanddbgomhaaGreatDoor
open Go Go.RowKit
section
attribute [local go_sem ↓] Go.wp_at_zero Go.wp_at_succ
def cNeg (s:ByteArray) (pos:Nat):Bool:=isB s (pos+1) 94
def cFirst (s:ByteArray) (pos:Nat):Nat:=if cNeg s pos=true then pos+2 else pos+1
set_option maxRecDepth 20000 in
set_option maxHeartbeats 4000000 in
theorem zgl (w:World) (g:Nat) (s:ByteArray) (pos:Nat) (opn:Int) (h:Rx w g s (pos+1) opn) (hs:s.size<=1000) (hp:pos+1<=s.size):
   Calls Tryz.prog 88 #[.pointer (some ⟨g,0,none⟩),.string ⟨#[94]⟩] w fun e w'=>e = .returned (.bool (cNeg s pos))∧Rx w' g s (cFirst s pos) opn∧w.grownBy w' (some g):=by
 unfold cFirst;cases hn:cNeg s pos
 . exact zaq w g s (pos+1) opn h hs hp 94 94 rfl hn
 . exact zaa w g s (pos+1) opn h hs hp 94 94 rfl hn
theorem zfj {s:ByteArray} {pos:Nat} (hp:pos+1<=s.size):cFirst s pos<=s.size:=by
 unfold cFirst;split
 . rename_i h;exact (zan h).1
 . exact hp
theorem zhd (s:ByteArray) (pos:Nat):cClass s (pos+1)=thenR (thenR (cItem s (cFirst s pos)) (loopR (clsStep s) (s.size+1))) fun q p => .ok (if cNeg s pos=true then notP q else q,p+1):=by
 unfold cClass cFirst cNeg;rfl
set_option maxRecDepth 20000 in
set_option maxHeartbeats 4000000 in
theorem zhk (w:World) (g:Nat) (s:ByteArray) (pos:Nat) (opn:Int) (h:Rx w g s pos opn) (hs:s.size<=1000) (hp:pos<s.size) (c q:Int) (hi:cItem s (cFirst s pos) = .error (c,q)):
   Calls Tryz.prog 129 #[.pointer (some ⟨g,0,none⟩)] w (XRet w g s opn (cClass s (pos+1)) isSet):=by
 have mid:=XMidS.start h;have hgb:=h.lt;have hgb':g≠w.heap.size:=(by omega);have hgb2:w.heap.size≠g:=(by omega);generalize hw0:w.alloc (.cells #[.int .u64 0,.int .u64 0,.int .u64 0,.int .u64 0] 38)=w0 at *;have HW:=Zh hw0;clear hw0;obtain⟨c0,c1,c2⟩:=mid.rx.cell;obtain⟨f0,f1,f2⟩:=mid.rx.frozen;have midA:=mid.setPos (pos+1);have HS:=Zh (fun w h=>zgl w g s pos opn h hs hp);have HI:=Zh (fun w h=>zfr w g s (cFirst s pos) opn h hs (zfj hp));have HE:Hid (cClass s (pos+1) = .error (c,q)):=by show cClass s (pos+1)=_;rw[zhd,hi];rfl
 simp only[hi] at HI;clear hi;go_enter Tryz.func129,Tryz.ntmps129;go_upto_region 1 with fail
 rw[HW.out];clear HW;go_wp2_with (first
   | (go_at_call 88;(refine (HS.out _ midA.rx).mono ?_);rintro e w1 ⟨rfl,r1,o1⟩;have mid1:=midA.next o1 r1)
   | (go_at_call 139;(refine (HI.out _ mid1.rx).mono ?_);rintro e w2 ⟨⟨gs,hB,rfl,hgs⟩,o2⟩))
 exact za1 rfl (XRet.fault mid1.only ⟨gs,hB,rfl,hgs⟩ o2 HE.out)
set_option maxRecDepth 20000 in
set_option maxHeartbeats 4000000 in
theorem zj1 (w:World) (g:Nat) (s:ByteArray) (pos:Nat) (opn:Int) (h:Rx w g s pos opn) (hs:s.size<=1000) (hp:pos<s.size) (q1:Nat->Bool) (p1:Nat) (hi:cItem s (cFirst s pos) = .ok (q1,p1)):
   Calls Tryz.prog 129 #[.pointer (some ⟨g,0,none⟩)] w (XRet w g s opn (cClass s (pos+1)) isSet):=by
 have mid:=XMidS.start h;have hgb:=h.lt;have hgb':g≠w.heap.size:=(by omega);have hgb2:w.heap.size≠g:=(by omega);generalize hw0:w.alloc (.cells #[.int .u64 0,.int .u64 0,.int .u64 0,.int .u64 0] 38)=w0 at *;have HW:=Zh hw0;clear hw0;obtain⟨c0,c1,c2⟩:=mid.rx.cell;obtain⟨f0,f1,f2⟩:=mid.rx.frozen;have midA:=mid.setPos (pos+1);have HS:=Zh (fun w h=>zgl w g s pos opn h hs hp);have HI:=Zh (fun w h=>zfr w g s (cFirst s pos) opn h hs (zfj hp));have hE:cClass s (pos+1)=thenR (loopR (clsStep s) (s.size+1) q1 p1) fun q p => .ok (if cNeg s pos=true then notP q else q,p+1):=by rw[zhd,hi];rfl
 have HE:=Zh hE;have hp1:=zco s (cFirst s pos);rw[hi] at hp1;replace hp1:=hp1.2;simp only[hi] at HI;clear hi hE;generalize cNeg s pos=neg at *;go_enter Tryz.func129,Tryz.ntmps129;go_upto_region 1 with fail
 rw[HW.out];clear HW;go_wp2_with (first
   | (go_at_call 88;(refine (HS.out _ midA.rx).mono ?_);rintro e w1 ⟨rfl,r1,o1⟩;have mid1:=midA.next o1 r1)
   | (go_at_call 139;(refine (HI.out _ mid1.rx).mono ?_);rintro e w2 ⟨⟨v,rfl,rfl⟩,r2,o2⟩;unfold setV;have mid2:=mid1.next o2 r2;have hw2:=mid2.new))
 have bk:=Box4.new w2 q1;have mid3:=mid2.alloc (.cells #[.int .u64 (word q1 0),.int .u64 (word q1 1),.int .u64 (word q1 2),.int .u64 (word q1 3)] 38);have hgx:g≠w2.heap.size:=(by have:=mid2.rx.lt;omega);have hbx:w.heap.size≠w2.heap.size:=(by omega);generalize w2.alloc (.cells #[.int .u64 (word q1 0),.int .u64 (word q1 1),.int .u64 (word q1 2),.int .u64 (word q1 3)] 38)=w3 at *;generalize w2.heap.size=gx at *;clear mid midA mid1 mid2 c0 c1 c2 f0 f1 f2 HI HS r1 o1 r2 o2;go_loopg [] (s.size+1) (fun m wr=>∃ q p,XMidS w g s p opn wr∧Box4 wr gx q∧p<=s.size∧s.size+1-p<=m∧cClass s (pos+1)=thenR (loopR (clsStep s) m q p) fun q p => .ok (if neg=true then notP q else q,p+1))
 case atStart=>exact⟨q1,p1,mid3,bk,hp1,by omega,HE.out⟩
 case round =>
   clear mid3 bk HE hp1;obtain⟨q,p,mid,bk,hp1,hm,hE⟩:=hrel;obtain⟨k,rfl⟩:∃ k,gk=k+1:=⟨gk-1,by omega⟩;have hgx':some gx≠some g:=(by simpa using Ne.symm hgx);cases h93:isB s p 93 with
   | true =>
     have hst:clsStep s q p=none:=(by unfold clsStep;rw[if_pos h93]);have HE:Hid (cClass s (pos+1) = .ok (if neg=true then notP q else q,p+1)):=by show cClass s (pos+1)=_;rw[hE];unfold loopR;rw[hst];rfl
     have HS:=Zh (fun w h=>zaa w g s p opn h hs hp1 93 93 rfl h93);clear hE hst h93;cases neg
     . go_wp2_with (first
         | (go_at_call 88;(with_reducible refine (HS.out _ mid.rx).mono ?_);rintro e w4 ⟨rfl,r4,o4⟩;have mid4:=mid.next o4 r4;have b4:=bk.grown o4 hgx';obtain⟨l0,l1,l2,l3⟩:=b4.cell;obtain⟨m0,m1,m2,m3⟩:=mid4.box.cell;obtain⟨y0,y1,y2,y3⟩:=mid4.box.frozen))
       refine bodyPost_ret (v:=setV q) ?_ rfl (XRet.ok (by simpa using HE.out) rfl (mid4.fin _).1 (mid4.fin _).2);unfold setV;simp[results,Tryz.results129,go_sem,m0,m1,m2,m3]
     . go_wp2_with (first
         | (go_at_call 88;(with_reducible refine (HS.out _ mid.rx).mono ?_);rintro e w4 ⟨rfl,r4,o4⟩;have mid4:=mid.next o4 r4;have b4:=bk.grown o4 hgx';obtain⟨l0,l1,l2,l3⟩:=b4.cell)
         | (go_at_call 130;(with_reducible refine (not_p q _).mono ?_);rintro e w5 ⟨rfl,hb5⟩;unfold setV;have mid5:=mid4.below hb5;obtain⟨m0,m1,m2,m3⟩:=mid5.box.cell;obtain⟨y0,y1,y2,y3⟩:=mid5.box.frozen))
       refine bodyPost_ret (v:=setV (notP q)) ?_ rfl (XRet.ok (by simpa using HE.out) rfl (mid5.fin _).1 (mid5.fin _).2);unfold setV;simp[results,Tryz.results129,go_sem,m0,m1,m2,m3]
   | false =>
     have hst:clsStep s q p=some (thenR (cItem s p) fun r p => .ok (orP q r,p)):=(by unfold clsStep;rw[if_neg (by simp[h93])]);have HS:=Zh (fun w h=>zaq w g s p opn h hs hp1 93 93 rfl h93);have HI:=Zh (fun w h=>zfr w g s p opn h hs hp1);have hfw:=zco s p;unfold loopR at hE;rw[hst] at hE;cases hi:cItem s p with
     | error x =>
       obtain⟨c,qq⟩:=x;have HE:Hid (cClass s (pos+1) = .error (c,qq)):=by show cClass s (pos+1)=_;rw[hE,hi];rfl
       simp only[hi] at HI;clear hE hst h93 hi hfw;go_wp2_with (first
         | (go_at_call 88;(with_reducible refine (HS.out _ mid.rx).mono ?_);rintro e w4 ⟨rfl,r4,o4⟩;have mid4:=mid.next o4 r4;have b4:=bk.grown o4 hgx';obtain⟨l0,l1,l2,l3⟩:=b4.cell))
       refine wp_region_any (by kernel_rfl) ?_;change wpAny _ _ _ _ _ _ _ (World.drew _);refine wpAny_take (i:=1) (v := .pointer (some ⟨g,0,none⟩)) rfl (by kernel_rfl) (by kernel_rfl) (by kernel_rfl) (fun _ _ _ h=>h) (Or.inl ⟨by rfl,fun w=>by go_simp⟩) ?_;refine wpAny_ready (rs:=[0,2]) (by kernel_rfl) (by simp) ?_;refine AllReady.cons rfl (fun K hK=>?_) ?_
       . go_simp;refine hK _ _ ?_;clear hK K;refine wpAny_ready (rs:=[2]) (by kernel_rfl) (by simp) ?_;refine AllReady.cons rfl (fun K hK=>?_) AllReady.nil;go_simp;go_at_call 139;refine (HI.out _ (by first | exact mid4.rx | exact mid4.rx.drew)).mono ?_;rintro e w5 ⟨⟨gs,hB,rfl,hgs⟩,o5⟩;exact za1 rfl (XRet.fault (zf8 mid4.only) ⟨gs,hB,rfl,hgs⟩ o5 HE.out)
       . refine AllReady.cons rfl (fun K hK=>?_) AllReady.nil;go_simp;go_at_call 139;refine (HI.out _ (by first | exact mid4.rx | exact mid4.rx.drew)).mono ?_;rintro e w5 ⟨⟨gs,hB,rfl,hgs⟩,o5⟩;exact za1 rfl (XRet.fault (zf8 mid4.only) ⟨gs,hB,rfl,hgs⟩ o5 HE.out)
     | ok x =>
       obtain⟨r,p2⟩:=x;have HE:Hid (cClass s (pos+1)=thenR (loopR (clsStep s) k (orP q r) p2) fun q p => .ok (if neg=true then notP q else q,p+1)):=by show cClass s (pos+1)=_;rw[hE,hi];rfl
       rw[hi] at hfw;have hf1:=hfw.1;have hf2:=hfw.2;simp only[hi] at HI;clear hE hst h93 hi hfw;go_wp2_with (first
         | (go_at_call 88;(with_reducible refine (HS.out _ mid.rx).mono ?_);rintro e w4 ⟨rfl,r4,o4⟩;have mid4:=mid.next o4 r4;have b4:=bk.grown o4 hgx';obtain⟨l0,l1,l2,l3⟩:=b4.cell))
       go_region_law (first
         | (go_simp;go_at_call 139;(refine (HI.out _ (by first | exact mid4.rx | exact mid4.rx.drew)).mono ?_);rintro e w5 ⟨⟨v,rfl,rfl⟩,r5,o5⟩;unfold setV;have mid5:=(show XMidS w g s p opn w4.drew from mid4.drewN 1).next o5 r5;have b5:=(show Box4 w4.drew gx q from b4).grown o5 hgx';obtain⟨n0,n1,n2,n3⟩:=b5.cell)
         | (go_simp;go_at_call 32;(with_reducible refine (or_p q r _).mono ?_);rintro e w6 ⟨rfl,hb6⟩;unfold setV;have mid6:=mid5.below hb6;have b6:=b5.stays hb6;obtain⟨z0,z1,z2,z3⟩:=b6.cell;obtain⟨y0,y1,y2,y3⟩:=b6.frozen))
       all_goals
         go_wp2;go_roundg k
         case measure=>omega
         case rel=>exact⟨orP q r,p2,mid6.put4 (by omega) (orP q r),b6.put (orP q r),hf2,by omega,HE.out⟩
theorem zkx (w:World) (g:Nat) (s:ByteArray) (pos:Nat) (opn:Int) (h:Rx w g s pos opn) (hs:s.size<=1000) (hp:pos<s.size):Calls Tryz.prog 129 #[.pointer (some ⟨g,0,none⟩)] w (XRet w g s opn (cClass s (pos+1)) isSet):=by
 cases hi:cItem s (cFirst s pos) with
 | error x=>exact zhk w g s pos opn h hs hp x.1 x.2 hi
 | ok x=>exact zj1 w g s pos opn h hs hp x.1 x.2 hi
end
section
attribute [local go_sem ↓] Go.wp_at_zero Go.wp_at_succ
def isNode (B:Nat) (t:T) (v:Value) (w':World):Prop:=∃ k,v=nodeV t k∧Tree w' (fun b=>B<=b) t k
structure XMidN (w:World) (g:Nat) (s:ByteArray) (pos:Nat) (opn:Int) (wx:World):Prop where
 lt:g<w.heap.size
 rx:Rx wx g s pos opn
 box:Box8 wx w.heap.size T.zero (.slice none 0 0)
 only:w.grownBy wx (some g)
section
variable {w wx wy:World} {g:Nat} {s:ByteArray} {pos pos':Nat} {opn opn':Int} {t:T} {k:Value} {ok:Nat->Prop} {B:Nat} {v:Value} {l:List T}
theorem Tree.onlyX (h:Tree w ok t k) (hg:w.grownBy wx (some g)) (hr:Rx w g s pos opn):Tree wx ok t k:=h.mono fun b h1 h2 ⟨cur,h3⟩=>⟨hg.block b h2 fun e=>by
 injection e with e
 subst e;unfold Rx at hr;rw[hr] at h3;injection h3 with h3
 injection h3 with _ h4 _
 exact absurd h4 (by decide),h1⟩
theorem Row.onlyX (h:Row w B v l) (hg:w.grownBy wx (some g)) (hr:Rx w g s pos opn):Row wx B v l:=by
 obtain⟨ks,h1,h2,h3⟩:=h;refine⟨ks,h1,h2.kept hg (.inr fun e=>?_),fun i t' k' e1 e2=>(h3 i t' k' e1 e2).onlyX hg hr⟩;obtain⟨cur,hc⟩:=zld h2 e;unfold Rx at hr;rw[hr] at hc;injection hc with hc
 injection hc with _ h4 _
 exact absurd h4 (by decide)
theorem XMidN.start (h:Rx w g s pos opn):XMidN w g s pos opn (w.alloc (.cells #[.int .i64 0,.int .u64 0,.int .u64 0,.int .u64 0,.int .u64 0,.int .i64 0,.int .i64 0,.slice none 0 0] 41)):=
 ⟨h.lt,h.alloc _,Box8.new0 w,zam (za9 _ _) _⟩
theorem XMidN.next (h:XMidN w g s pos opn wx) (o:wx.grownBy wy (some g)) (r:Rx wy g s pos' opn'):XMidN w g s pos' opn' wy:=
 ⟨h.lt,r,h.box.grown o (by have:=h.lt;simp;omega),za3 h.only o⟩
theorem XMidN.below (h:XMidN w g s pos opn wx) (hb:Below wx.heap.size wx wy):XMidN w g s pos opn wy:=⟨h.lt,h.rx.stays hb,h.box.stays hb,zdj h.only hb⟩
theorem XMidN.alloc (h:XMidN w g s pos opn wx) (o:Obj):XMidN w g s pos opn (wx.alloc o):=⟨h.lt,h.rx.alloc o,h.box.alloc o,zam h.only o⟩
theorem XMidN.drewN (h:XMidN w g s pos opn wx) (n:Nat):XMidN w g s pos opn (wx.drewN n):=⟨h.lt,h.rx.drewN n,h.box,za5 h.only n⟩
theorem XMidN.setPos (h:XMidN w g s pos opn wx) (k:Nat):XMidN w g s k opn (wx.setCell ⟨g,1,none⟩ (.int .i64 (k:Int))):=h.next (zaj (za9 _ _) _) (h.rx.setPos k)
theorem XMidN.setOpn (h:XMidN w g s pos opn wx) (k:Int):XMidN w g s pos k (wx.setCell ⟨g,2,none⟩ (.int .i64 k)):=h.next (zaj (za9 _ _) _) (h.rx.setOpn k)
theorem XMidN.new (h:XMidN w g s pos opn wx):w.heap.size<wx.heap.size:=h.box.lt
theorem XMidN.put8 (h:XMidN w g s pos opn wx) {b:Nat} (hb:w.heap.size<b) (t:T) (k:Value):XMidN w g s pos opn (put8 wx b t k):=
 ⟨h.lt,h.rx.block (zad wx b t k g (by have:=h.lt;omega)),h.box.putFar (by omega),zf6 h.only (by omega) t k⟩
theorem XMidN.row {row:Option Nat} (h:XMidN w g s pos opn wx) (hg:wx.grownBy wy row) (hr:∀ b,row=some b->w.heap.size<b):XMidN w g s pos opn wy:=by
 have hlt:=h.lt;refine⟨h.lt,?_,h.box.grown hg fun e=>by have:=hr _ e.symm;omega,⟨hg.os.trans h.only.os,hg.tape.trans h.only.tape,hg.output.trans h.only.output,Nat.le_trans h.only.size hg.size,fun b hb hne=>(hg.block b (Nat.lt_of_lt_of_le hb h.only.size) fun e=>by have:=hr _ e.symm;omega).trans (h.only.block b hb hne)⟩⟩;exact h.rx.block (hg.block g h.rx.lt fun e=>by have:=hr _ e.symm;omega)
theorem XMidN.ret {r:R T} (h:XMidN w g s pos opn wx) (ht:Tree wx (fun b=>w.heap.size<b) t k) (hr:r = .ok (t,pos)):XRet w g s opn r (isNode w.heap.size) (.returned (nodeV t k)) (Go.Proofs.YtgbdanddbgomhaaGreatDoor.put8 wx w.heap.size t k):=by
 have:=h.lt;exact XRet.ok hr ⟨k,rfl,(ht.put8 fun b hb=>by omega).weak fun b hb _=>Nat.le_of_lt hb⟩ (h.rx.block (zad wx _ t k g (by omega))) (zf6 h.only (Nat.le_refl _) t k)
end
set_option maxRecDepth 20000 in
set_option maxHeartbeats 2000000 in
theorem zft (w:World) (g:Nat) (s:ByteArray) (pos:Nat) (opn:Int) (h:Rx w g s pos opn) (hs:s.size<=1000) (h20:opn=20) (r:R T) (hr:r = .error (4,(pos:Int))):
   Calls Tryz.prog 128 #[.pointer (some ⟨g,0,none⟩)] w (XRet w g s opn r (isNode w.heap.size)):=by
 have mid:=XMidN.start h;have hgb:=h.lt;have hgb':g≠w.heap.size:=(by omega);have hgb2:w.heap.size≠g:=(by omega);generalize hw0:w.alloc (.cells #[.int .i64 0,.int .u64 0,.int .u64 0,.int .u64 0,.int .u64 0,.int .i64 0,.int .i64 0,.slice none 0 0] 41)=w0 at *;have HW:=Zh hw0;clear hw0;obtain⟨c0,c1,c2⟩:=mid.rx.cell;obtain⟨f0,f1,f2⟩:=mid.rx.frozen;have e20:(opn==20)=true:=(by simpa using h20);have HE:=Zh hr;clear h20 hr;go_enter Tryz.func128,Tryz.ntmps128;go_upto_region 1 with fail
 rw[HW.out];clear HW;go_wp2_with (go_at_call 65;(with_reducible refine (zag _ g s pos opn _ mid.rx).mono ?_);rintro e w4 ⟨rfl,rfl⟩);exact za1 rfl (XRet.here mid.only HE.out)
set_option maxRecDepth 20000 in
set_option maxHeartbeats 2000000 in
theorem zho (w:World) (g:Nat) (s:ByteArray) (pos:Nat) (opn:Int) (h:Rx w g s pos opn) (hs:s.size<=1000) (hlt:pos<s.size) (h20:0<=opn∧opn<20) (f:R T) (hp:∀ w,Rx w g s (pos+1) (opn+1)->Calls Tryz.prog 63 #[.pointer (some ⟨g,0,none⟩)] w (XRet w g s (opn+1) f (isNode w.heap.size))) (r:R T) (c q:Int) (hf:f = .error (c,q)) (hr:r = .error (c,q)):
   Calls Tryz.prog 128 #[.pointer (some ⟨g,0,none⟩)] w (XRet w g s opn r (isNode w.heap.size)):=by
 have mid:=XMidN.start h;have hgb:=h.lt;have hgb':g≠w.heap.size:=(by omega);have hgb2:w.heap.size≠g:=(by omega);generalize hw0:w.alloc (.cells #[.int .i64 0,.int .u64 0,.int .u64 0,.int .u64 0,.int .u64 0,.int .i64 0,.int .i64 0,.slice none 0 0] 41)=w0 at *;have HW:=Zh hw0;clear hw0;obtain⟨c0,c1,c2⟩:=mid.rx.cell;obtain⟨f0,f1,f2⟩:=mid.rx.frozen;have e20:(opn==20)=false:=(by simp;omega);have midA:=(mid.setPos (pos+1)).setOpn (opn+1);simp only[hf] at hp;have HP:=Zh hp;clear hp hf;have HE:=Zh hr;clear hr;go_enter Tryz.func128,Tryz.ntmps128;go_upto_region 1 with fail
 rw[HW.out];clear HW;go_wp2_with (go_at_call 63;(refine (HP.out _ midA.rx).mono ?_);rintro e w2 ⟨⟨gs,hB,rfl,hgs⟩,o2⟩);exact za1 rfl (XRet.fault midA.only ⟨gs,hB,rfl,hgs⟩ o2 HE.out)
set_option maxRecDepth 20000 in
set_option maxHeartbeats 2000000 in
theorem zfs (w:World) (g:Nat) (s:ByteArray) (pos:Nat) (opn:Int) (h:Rx w g s pos opn) (hs:s.size<=1000) (hlt:pos<s.size) (h20:0<=opn∧opn<20) (f:R T) (hp:∀ w,Rx w g s (pos+1) (opn+1)->Calls Tryz.prog 63 #[.pointer (some ⟨g,0,none⟩)] w (XRet w g s (opn+1) f (isNode w.heap.size))) (r:R T) (t:T) (p:Nat) (hf:f = .ok (t,p)) (hp1:p<=s.size) (h41:isB s p 41=false) (hr:r = .error (2,(p:Int))):
   Calls Tryz.prog 128 #[.pointer (some ⟨g,0,none⟩)] w (XRet w g s opn r (isNode w.heap.size)):=by
 have mid:=XMidN.start h;have hgb:=h.lt;have hgb':g≠w.heap.size:=(by omega);have hgb2:w.heap.size≠g:=(by omega);generalize hw0:w.alloc (.cells #[.int .i64 0,.int .u64 0,.int .u64 0,.int .u64 0,.int .u64 0,.int .i64 0,.int .i64 0,.slice none 0 0] 41)=w0 at *;have HW:=Zh hw0;clear hw0;obtain⟨c0,c1,c2⟩:=mid.rx.cell;obtain⟨f0,f1,f2⟩:=mid.rx.frozen;have e20:(opn==20)=false:=(by simp;omega);have midA:=(mid.setPos (pos+1)).setOpn (opn+1);simp only[hf] at hp;have HP:=Zh hp;clear hp hf;have HE:=Zh hr;have HS:=Zh (fun w h=>zaq w g s p (opn+1) h hs hp1 41 41 rfl h41);clear hr h41;go_enter Tryz.func128,Tryz.ntmps128;go_upto_region 1 with fail
 rw[HW.out];clear HW;go_wp2_with (first
   | (go_at_call 63;(refine (HP.out _ midA.rx).mono ?_);rintro e w2 ⟨⟨v,rfl,k,rfl,ht⟩,r2,o2⟩;obtain⟨A,tn,tc,rfl⟩:=ht.form;unfold nodeV;have mid2:=midA.next o2 r2;have hw2:=mid2.new;have mid3:=mid2.alloc (.cells #[.int .i64 t.op,.int .u64 (word t.set 0),.int .u64 (word t.set 1),.int .u64 (word t.set 2),.int .u64 (word t.set 3),.int .i64 t.lo,.int .i64 t.hi,.slice A tn tc] 41))
   | (go_at_call 88;(with_reducible refine (HS.out _ mid3.rx).mono ?_);rintro e w4 ⟨rfl,r4,o4⟩;have mid4:=mid3.next o4 r4)
   | (go_at_call 65;(with_reducible refine (zag _ g s p (opn+1) _ mid4.rx).mono ?_);rintro e w5 ⟨rfl,rfl⟩))
 exact za1 rfl (XRet.here mid4.only HE.out)
set_option maxRecDepth 20000 in
set_option maxHeartbeats 2000000 in
theorem zj5 (w:World) (g:Nat) (s:ByteArray) (pos:Nat) (opn:Int) (h:Rx w g s pos opn) (hs:s.size<=1000) (hlt:pos<s.size) (h20:0<=opn∧opn<20) (f:R T) (hp:∀ w,Rx w g s (pos+1) (opn+1)->Calls Tryz.prog 63 #[.pointer (some ⟨g,0,none⟩)] w (XRet w g s (opn+1) f (isNode w.heap.size))) (r:R T) (t:T) (p:Nat) (hf:f = .ok (t,p)) (hp1:p<=s.size) (h41:isB s p 41=true) (hr:r = .ok (t,p+1)):
   Calls Tryz.prog 128 #[.pointer (some ⟨g,0,none⟩)] w (XRet w g s opn r (isNode w.heap.size)):=by
 have mid:=XMidN.start h;have hgb:=h.lt;have hgb':g≠w.heap.size:=(by omega);have hgb2:w.heap.size≠g:=(by omega);generalize hw0:w.alloc (.cells #[.int .i64 0,.int .u64 0,.int .u64 0,.int .u64 0,.int .u64 0,.int .i64 0,.int .i64 0,.slice none 0 0] 41)=w0 at *;have HW:=Zh hw0;clear hw0;obtain⟨c0,c1,c2⟩:=mid.rx.cell;obtain⟨f0,f1,f2⟩:=mid.rx.frozen;have e20:(opn==20)=false:=(by simp;omega);have midA:=(mid.setPos (pos+1)).setOpn (opn+1);simp only[hf] at hp;have HP:=Zh hp;clear hp hf;have HE:=Zh hr;have HS:=Zh (fun w h=>zaa w g s p (opn+1) h hs hp1 41 41 rfl h41);clear hr h41;go_enter Tryz.func128,Tryz.ntmps128;go_upto_region 1 with fail
 rw[HW.out];clear HW;go_wp2_with (first
   | (go_at_call 63;(refine (HP.out _ midA.rx).mono ?_);rintro e w2 ⟨⟨v,rfl,k,rfl,ht⟩,r2,o2⟩;obtain⟨A,tn,tc,rfl⟩:=ht.form;unfold nodeV;have mid2:=midA.next o2 r2;have hw2:=mid2.new;have mid3:=mid2.alloc (.cells #[.int .i64 t.op,.int .u64 (word t.set 0),.int .u64 (word t.set 1),.int .u64 (word t.set 2),.int .u64 (word t.set 3),.int .i64 t.lo,.int .i64 t.hi,.slice A tn tc] 41))
   | (go_at_call 88;(with_reducible refine (HS.out _ mid3.rx).mono ?_);rintro e w4 ⟨rfl,r4,o4⟩;have mid4:=mid3.next o4 r4;have hg2:=mid2.rx.lt;have hx1:g≠w2.heap.size:=(by omega);have hx2:w2.heap.size≠g:=(by omega);have hx3:w.heap.size≠w2.heap.size:=(by omega);have hx4:w2.heap.size≠w.heap.size:=(by omega);have b4:=(Box8.new w2 t (.slice A tn tc)).grown o4 (by simp;omega);have ht4:=((ht.weak (ok':=fun b=>w.heap.size<b∧b≠w2.heap.size) (fun b hb hlt=>by have hm:=midA.new;exact⟨Nat.lt_of_lt_of_le hm hb,by omega⟩)).alloc _).onlyX o4 mid3.rx;obtain⟨k0,k1,k2⟩:=r4.cell;obtain⟨l0,l1,l2⟩:=r4.frozen;obtain⟨n0,n1,n2,n3,n4,n5,n6,n7⟩:=b4.cell;obtain⟨m0,m1,m2,m3,m4,m5,m6,m7⟩:=mid4.box.cell;obtain⟨y0,y1,y2,y3,y4,y5,y6,y7⟩:=mid4.box.frozen))
 have midF:=mid4.setOpn (opn+1-1);rw[show opn+1-1=opn by omega] at midF;have hF:=midF.ret ((ht4.far (a:=⟨g,2,none⟩) (fun b hb=>by show b≠g;omega) (.int .i64 opn)).weak fun b hb _=>hb.1) HE.out;refine bodyPost_ret (v:=nodeV t (.slice A tn tc)) ?_ rfl hF;simp[nodeV,results,Tryz.results128,go_sem,m0,m1,m2,m3,m4,m5,m6,m7,hgb',hgb2]
set_option maxRecDepth 20000 in
set_option maxHeartbeats 2000000 in
theorem zhp (w:World) (g:Nat) (s:ByteArray) (pos:Nat) (opn:Int) (h:Rx w g s pos opn) (hs:s.size<=1000) (hp:pos<=s.size) (hw:cWide s pos=true) (r:R T) (hr:r = .ok (.one (wideP (bt s (pos+1):Int)),pos+2)):Calls Tryz.prog 114 #[.pointer (some ⟨g,0,none⟩)] w (XRet w g s opn r (isNode w.heap.size)):=by
 have mid:=XMidN.start h;have hgb:=h.lt;have hgb':g≠w.heap.size:=(by omega);have hgb2:w.heap.size≠g:=(by omega);generalize hw0:w.alloc (.cells #[.int .i64 0,.int .u64 0,.int .u64 0,.int .u64 0,.int .u64 0,.int .i64 0,.int .i64 0,.slice none 0 0] 41)=w0 at *;have HW:=Zh hw0;clear hw0;have HK:=Zh (fun w h=>zj0 w g s pos opn h hs hp hw);have HE:=Zh hr;clear hw hr;generalize wideP (bt s (pos+1):Int)=q at *;go_enter Tryz.func114,Tryz.ntmps114;go_wp2_with fail;rw[HW.out];clear HW;go_wp2_with (first
   | (go_at_call 125;(with_reducible refine (HK.out _ mid.rx).mono ?_);rintro e w1 ⟨rfl,r1,o1⟩;unfold setV;have mid1:=(mid.next o1 r1).alloc (.cells #[.int .u64 (word q 0),.int .u64 (word q 1),.int .u64 (word q 2),.int .u64 (word q 3)] 38))
   | (go_at_call 126;(with_reducible refine (zep q _).mono ?_);rintro e w2 ⟨rfl,hb2⟩;unfold nodeV;have mid2:=mid1.below hb2;obtain⟨m0,m1,m2,m3,m4,m5,m6,m7⟩:=mid2.box.cell;obtain⟨y0,y1,y2,y3,y4,y5,y6,y7⟩:=mid2.box.frozen))
 refine bodyPost_ret (v:=nodeV (.one q) (.slice none 0 0)) ?_ rfl (mid2.ret (.nil _ rfl) HE.out);simp[nodeV,T.one,T.op,T.set,T.lo,T.hi,za6,results,Tryz.results114,go_sem,m0,m1,m2,m3,m4,m5,m6,m7,hgb',hgb2]
set_option maxRecDepth 20000 in
set_option maxHeartbeats 2000000 in
theorem zj7 (w:World) (g:Nat) (s:ByteArray) (pos:Nat) (opn:Int) (h:Rx w g s pos opn) (hs:s.size<=1000) (hp:pos<=s.size) (hlt:¬ pos<s.size) (hw:cWide s pos=false) (r:R T) (hr:r = .error (2,(pos:Int))):Calls Tryz.prog 114 #[.pointer (some ⟨g,0,none⟩)] w (XRet w g s opn r (isNode w.heap.size)):=by
 have mid:=XMidN.start h;have hgb:=h.lt;have hgb':g≠w.heap.size:=(by omega);have hgb2:w.heap.size≠g:=(by omega);generalize hw0:w.alloc (.cells #[.int .i64 0,.int .u64 0,.int .u64 0,.int .u64 0,.int .u64 0,.int .i64 0,.int .i64 0,.slice none 0 0] 41)=w0 at *;have HW:=Zh hw0;clear hw0;have HK:=Zh (fun w h=>zac w g s pos opn h hs hp hw);have HP:=Zh (fun w h=>zav w g s pos opn h hs hp);simp only[zhe hlt] at HP;have HE:=Zh hr;clear hw hr;go_enter Tryz.func114,Tryz.ntmps114;go_wp2_with fail;rw[HW.out];clear HW;go_wp2_with (first
   | (go_at_call 125;(with_reducible refine (HK.out _ mid.rx).mono ?_);rintro e w1 ⟨rfl,r1,o1⟩;unfold setV;have mid1:=(mid.next o1 r1).alloc (.cells #[.int .u64 (word noneP 0),.int .u64 (word noneP 1),.int .u64 (word noneP 2),.int .u64 (word noneP 3)] 38))
   | (go_at_call 127;(with_reducible refine (HP.out _ mid1.rx).mono ?_);rintro e w2 ⟨⟨gs,hB,rfl,hgs⟩,o2⟩))
 exact za1 rfl (XRet.fault mid1.only ⟨gs,hB,rfl,hgs⟩ o2 HE.out)
set_option maxRecDepth 20000 in
set_option maxHeartbeats 2000000 in
theorem zfu (w:World) (g:Nat) (s:ByteArray) (pos:Nat) (opn:Int) (h:Rx w g s pos opn) (hs:s.size<=1000) (hlt:pos<s.size) (hw:cWide s pos=false) (hb:(bt s pos:Int)=40) (r:R T)
   (hg:∀ w,Rx w g s pos opn->Calls Tryz.prog 128 #[.pointer (some ⟨g,0,none⟩)] w (XRet w g s opn r (isNode w.heap.size))):Calls Tryz.prog 114 #[.pointer (some ⟨g,0,none⟩)] w (XRet w g s opn r (isNode w.heap.size)):=by
 have mid:=XMidN.start h;have hgb:=h.lt;have hgb':g≠w.heap.size:=(by omega);have hgb2:w.heap.size≠g:=(by omega);generalize hw0:w.alloc (.cells #[.int .i64 0,.int .u64 0,.int .u64 0,.int .u64 0,.int .u64 0,.int .i64 0,.int .i64 0,.slice none 0 0] 41)=w0 at *;have HW:=Zh hw0;clear hw0;have HK:=Zh (fun w h=>zac w g s pos opn h hs (Nat.le_of_lt hlt) hw);have HP:=Zh (fun w h=>zav w g s pos opn h hs (Nat.le_of_lt hlt));simp only[zb2 hlt] at HP;rw[hb] at HP;clear hw hb;cases hr:r with
 | error x =>
   obtain⟨c,q⟩:=x;simp only[hr] at hg;have HG:=Zh hg;clear hg hr;go_enter Tryz.func114,Tryz.ntmps114;go_wp2_with fail;rw[HW.out];clear HW;go_wp2_with (first
     | (go_at_call 125;(with_reducible refine (HK.out _ mid.rx).mono ?_);rintro e w1 ⟨rfl,r1,o1⟩;unfold setV;have mid1:=(mid.next o1 r1).alloc (.cells #[.int .u64 (word noneP 0),.int .u64 (word noneP 1),.int .u64 (word noneP 2),.int .u64 (word noneP 3)] 38))
     | (go_at_call 127;(with_reducible refine (HP.out _ mid1.rx).mono ?_);rintro e w2 ⟨⟨v,rfl,rfl⟩,r2,o2⟩;have mid2:=mid1.next o2 r2;obtain⟨c0,c1,c2⟩:=r2.cell;obtain⟨f0,f1,f2⟩:=r2.frozen)
     | (go_at_call 128;(with_reducible refine (HG.out _ mid2.rx).mono ?_);rintro e w3 ⟨⟨gs,hB,rfl,hgs⟩,o3⟩))
   exact za1 rfl (XRet.fault mid2.only ⟨gs,hB,rfl,hgs⟩ o3 rfl)
 | ok x =>
   obtain⟨t,p⟩:=x;simp only[hr] at hg;have HG:=Zh hg;clear hg hr;go_enter Tryz.func114,Tryz.ntmps114;go_wp2_with fail;rw[HW.out];clear HW;go_wp2_with (first
     | (go_at_call 125;(with_reducible refine (HK.out _ mid.rx).mono ?_);rintro e w1 ⟨rfl,r1,o1⟩;unfold setV;have mid1:=(mid.next o1 r1).alloc (.cells #[.int .u64 (word noneP 0),.int .u64 (word noneP 1),.int .u64 (word noneP 2),.int .u64 (word noneP 3)] 38))
     | (go_at_call 127;(with_reducible refine (HP.out _ mid1.rx).mono ?_);rintro e w2 ⟨⟨v,rfl,rfl⟩,r2,o2⟩;have mid2:=mid1.next o2 r2;obtain⟨c0,c1,c2⟩:=r2.cell;obtain⟨f0,f1,f2⟩:=r2.frozen)
     | (go_at_call 128;(with_reducible refine (HG.out _ mid2.rx).mono ?_);rintro e w3 ⟨⟨v,rfl,k,rfl,ht⟩,r3,o3⟩;obtain⟨A,tn,tc,rfl⟩:=ht.form;unfold nodeV;have mid3:=mid2.next o3 r3;obtain⟨m0,m1,m2,m3,m4,m5,m6,m7⟩:=mid3.box.cell;obtain⟨y0,y1,y2,y3,y4,y5,y6,y7⟩:=mid3.box.frozen))
   refine bodyPost_ret (v:=nodeV t (.slice A tn tc)) ?_ rfl (mid3.ret (ht.weak fun b hb _=>Nat.lt_of_lt_of_le mid2.new hb) rfl);simp[nodeV,T.one,T.op,T.set,T.lo,T.hi,za6,results,Tryz.results114,go_sem,m0,m1,m2,m3,m4,m5,m6,m7,hgb',hgb2]
set_option maxRecDepth 20000 in
set_option maxHeartbeats 2000000 in
theorem zfv (w:World) (g:Nat) (s:ByteArray) (pos:Nat) (opn:Int) (h:Rx w g s pos opn) (hs:s.size<=1000) (hlt:pos<s.size) (hw:cWide s pos=false) (hb:(bt s pos:Int)=91):
   Calls Tryz.prog 114 #[.pointer (some ⟨g,0,none⟩)] w (XRet w g s opn (thenR (cClass s (pos+1)) fun q p => .ok (.one q,p)) (isNode w.heap.size)):=by
 have mid:=XMidN.start h;have hgb:=h.lt;have hgb':g≠w.heap.size:=(by omega);have hgb2:w.heap.size≠g:=(by omega);generalize hw0:w.alloc (.cells #[.int .i64 0,.int .u64 0,.int .u64 0,.int .u64 0,.int .u64 0,.int .i64 0,.int .i64 0,.slice none 0 0] 41)=w0 at *;have HW:=Zh hw0;clear hw0;have HK:=Zh (fun w h=>zac w g s pos opn h hs (Nat.le_of_lt hlt) hw);have HP:=Zh (fun w h=>zav w g s pos opn h hs (Nat.le_of_lt hlt));simp only[zb2 hlt] at HP;rw[hb] at HP;clear hw hb;have HC:=Zh (fun w h=>zkx w g s pos opn h hs hlt);cases hr:cClass s (pos+1) with
 | error x =>
   obtain⟨c,q⟩:=x;simp only[hr] at HC;clear hr;go_enter Tryz.func114,Tryz.ntmps114;go_wp2_with fail;rw[HW.out];clear HW;go_wp2_with (first
     | (go_at_call 125;(with_reducible refine (HK.out _ mid.rx).mono ?_);rintro e w1 ⟨rfl,r1,o1⟩;unfold setV;have mid1:=(mid.next o1 r1).alloc (.cells #[.int .u64 (word noneP 0),.int .u64 (word noneP 1),.int .u64 (word noneP 2),.int .u64 (word noneP 3)] 38))
     | (go_at_call 127;(with_reducible refine (HP.out _ mid1.rx).mono ?_);rintro e w2 ⟨⟨v,rfl,rfl⟩,r2,o2⟩;have mid2:=mid1.next o2 r2;obtain⟨c0,c1,c2⟩:=r2.cell;obtain⟨f0,f1,f2⟩:=r2.frozen)
     | (go_at_call 129;(with_reducible refine (HC.out _ mid2.rx).mono ?_);rintro e w3 ⟨⟨gs,hB,rfl,hgs⟩,o3⟩))
   exact za1 rfl (XRet.fault mid2.only ⟨gs,hB,rfl,hgs⟩ o3 rfl)
 | ok x =>
   obtain⟨q,p⟩:=x;simp only[hr] at HC;clear hr;go_enter Tryz.func114,Tryz.ntmps114;go_wp2_with fail;rw[HW.out];clear HW;go_wp2_with (first
     | (go_at_call 125;(with_reducible refine (HK.out _ mid.rx).mono ?_);rintro e w1 ⟨rfl,r1,o1⟩;unfold setV;have mid1:=(mid.next o1 r1).alloc (.cells #[.int .u64 (word noneP 0),.int .u64 (word noneP 1),.int .u64 (word noneP 2),.int .u64 (word noneP 3)] 38))
     | (go_at_call 127;(with_reducible refine (HP.out _ mid1.rx).mono ?_);rintro e w2 ⟨⟨v,rfl,rfl⟩,r2,o2⟩;have mid2:=mid1.next o2 r2;obtain⟨c0,c1,c2⟩:=r2.cell;obtain⟨f0,f1,f2⟩:=r2.frozen)
     | (go_at_call 129;(with_reducible refine (HC.out _ mid2.rx).mono ?_);rintro e w3 ⟨⟨v,rfl,rfl⟩,r3,o3⟩;unfold setV;have mid3:=mid2.next o3 r3)
     | (go_at_call 126;(with_reducible refine (zep q _).mono ?_);rintro e w4 ⟨rfl,hb4⟩;unfold nodeV;have mid4:=mid3.below hb4;obtain⟨m0,m1,m2,m3,m4,m5,m6,m7⟩:=mid4.box.cell;obtain⟨y0,y1,y2,y3,y4,y5,y6,y7⟩:=mid4.box.frozen))
   refine bodyPost_ret (v:=nodeV (.one q) (.slice none 0 0)) ?_ rfl (mid4.ret (.nil _ rfl) rfl);simp[nodeV,T.one,T.op,T.set,T.lo,T.hi,za6,results,Tryz.results114,go_sem,m0,m1,m2,m3,m4,m5,m6,m7,hgb',hgb2]
set_option maxRecDepth 20000 in
set_option maxHeartbeats 2000000 in
theorem zj8 (w:World) (g:Nat) (s:ByteArray) (pos:Nat) (opn:Int) (h:Rx w g s pos opn) (hs:s.size<=1000) (hlt:pos<s.size) (hw:cWide s pos=false) (hb:(bt s pos:Int)=46) (r:R T) (hr:r = .ok (.one (notP (rangeP 10 10)),pos+1)):Calls Tryz.prog 114 #[.pointer (some ⟨g,0,none⟩)] w (XRet w g s opn r (isNode w.heap.size)):=by
 have mid:=XMidN.start h;have hgb:=h.lt;have hgb':g≠w.heap.size:=(by omega);have hgb2:w.heap.size≠g:=(by omega);generalize hw0:w.alloc (.cells #[.int .i64 0,.int .u64 0,.int .u64 0,.int .u64 0,.int .u64 0,.int .i64 0,.int .i64 0,.slice none 0 0] 41)=w0 at *;have HW:=Zh hw0;clear hw0;have HK:=Zh (fun w h=>zac w g s pos opn h hs (Nat.le_of_lt hlt) hw);have HP:=Zh (fun w h=>zav w g s pos opn h hs (Nat.le_of_lt hlt));simp only[zb2 hlt] at HP;rw[hb] at HP;clear hw hb;have HE:=Zh hr;clear hr;go_enter Tryz.func114,Tryz.ntmps114;go_wp2_with fail;rw[HW.out];clear HW;go_wp2_with (first
   | (go_at_call 125;(with_reducible refine (HK.out _ mid.rx).mono ?_);rintro e w1 ⟨rfl,r1,o1⟩;unfold setV;have mid1:=(mid.next o1 r1).alloc (.cells #[.int .u64 (word noneP 0),.int .u64 (word noneP 1),.int .u64 (word noneP 2),.int .u64 (word noneP 3)] 38))
   | (go_at_call 127;(with_reducible refine (HP.out _ mid1.rx).mono ?_);rintro e w2 ⟨⟨v,rfl,rfl⟩,r2,o2⟩;have mid2:=mid1.next o2 r2;obtain⟨c0,c1,c2⟩:=r2.cell;obtain⟨f0,f1,f2⟩:=r2.frozen)
   | (go_at_call 131;(with_reducible refine (zbh 10 _ (by omega) (by omega)).mono ?_);rintro e w3 ⟨rfl,hb3⟩;unfold setV;have mid3:=(mid2.setPos (pos+1)).below hb3)
   | (go_at_call 130;(with_reducible refine (not_p (rangeP 10 10) _).mono ?_);rintro e w4 ⟨rfl,hb4⟩;unfold setV;have mid4:=mid3.below hb4)
   | (go_at_call 126;(with_reducible refine (zep (notP (rangeP 10 10)) _).mono ?_);rintro e w5 ⟨rfl,hb5⟩;unfold nodeV;have mid5:=mid4.below hb5;obtain⟨m0,m1,m2,m3,m4,m5,m6,m7⟩:=mid5.box.cell;obtain⟨y0,y1,y2,y3,y4,y5,y6,y7⟩:=mid5.box.frozen))
 refine bodyPost_ret (v:=nodeV (.one (notP (rangeP 10 10))) (.slice none 0 0)) ?_ rfl (mid5.ret (.nil _ rfl) HE.out);simp[nodeV,T.one,T.op,T.set,T.lo,T.hi,za6,results,Tryz.results114,go_sem,m0,m1,m2,m3,m4,m5,m6,m7,hgb',hgb2]
set_option maxRecDepth 20000 in
set_option maxHeartbeats 2000000 in
theorem zj6 (w:World) (g:Nat) (s:ByteArray) (pos:Nat) (opn:Int) (h:Rx w g s pos opn) (hs:s.size<=1000) (hlt:pos<s.size) (hw:cWide s pos=false) (hb:(bt s pos:Int)=92):
   Calls Tryz.prog 114 #[.pointer (some ⟨g,0,none⟩)] w (XRet w g s opn (thenR (cEsc s (pos+1)) fun b p => .ok (.one (rangeP b b),p)) (isNode w.heap.size)):=by
 have mid:=XMidN.start h;have hgb:=h.lt;have hgb':g≠w.heap.size:=(by omega);have hgb2:w.heap.size≠g:=(by omega);generalize hw0:w.alloc (.cells #[.int .i64 0,.int .u64 0,.int .u64 0,.int .u64 0,.int .u64 0,.int .i64 0,.int .i64 0,.slice none 0 0] 41)=w0 at *;have HW:=Zh hw0;clear hw0;have HK:=Zh (fun w h=>zac w g s pos opn h hs (Nat.le_of_lt hlt) hw);have HP:=Zh (fun w h=>zav w g s pos opn h hs (Nat.le_of_lt hlt));simp only[zb2 hlt] at HP;rw[hb] at HP;clear hw hb;have HC:=Zh (fun w h=>zeo w g s pos opn h hs hlt);have hbd:=zm9 s (pos+1);cases hr:cEsc s (pos+1) with
 | error x =>
   obtain⟨c,q⟩:=x;simp only[hr] at HC;clear hr hbd;go_enter Tryz.func114,Tryz.ntmps114;go_wp2_with fail;rw[HW.out];clear HW;go_wp2_with (first
     | (go_at_call 125;(with_reducible refine (HK.out _ mid.rx).mono ?_);rintro e w1 ⟨rfl,r1,o1⟩;unfold setV;have mid1:=(mid.next o1 r1).alloc (.cells #[.int .u64 (word noneP 0),.int .u64 (word noneP 1),.int .u64 (word noneP 2),.int .u64 (word noneP 3)] 38))
     | (go_at_call 127;(with_reducible refine (HP.out _ mid1.rx).mono ?_);rintro e w2 ⟨⟨v,rfl,rfl⟩,r2,o2⟩;have mid2:=mid1.next o2 r2;obtain⟨c0,c1,c2⟩:=r2.cell;obtain⟨f0,f1,f2⟩:=r2.frozen)
     | (go_at_call 132;(with_reducible refine (HC.out _ mid2.rx).mono ?_);rintro e w3 ⟨⟨gs,hB,rfl,hgs⟩,o3⟩))
   exact za1 rfl (XRet.fault mid2.only ⟨gs,hB,rfl,hgs⟩ o3 rfl)
 | ok x =>
   obtain⟨b,p⟩:=x;simp only[hr] at HC;replace hbd:=hbd b p hr;clear hr;go_enter Tryz.func114,Tryz.ntmps114;go_wp2_with fail;rw[HW.out];clear HW;go_wp2_with (first
     | (go_at_call 125;(with_reducible refine (HK.out _ mid.rx).mono ?_);rintro e w1 ⟨rfl,r1,o1⟩;unfold setV;have mid1:=(mid.next o1 r1).alloc (.cells #[.int .u64 (word noneP 0),.int .u64 (word noneP 1),.int .u64 (word noneP 2),.int .u64 (word noneP 3)] 38))
     | (go_at_call 127;(with_reducible refine (HP.out _ mid1.rx).mono ?_);rintro e w2 ⟨⟨v,rfl,rfl⟩,r2,o2⟩;have mid2:=mid1.next o2 r2;obtain⟨c0,c1,c2⟩:=r2.cell;obtain⟨f0,f1,f2⟩:=r2.frozen)
     | (go_at_call 132;(with_reducible refine (HC.out _ mid2.rx).mono ?_);rintro e w3 ⟨⟨v,rfl,rfl⟩,r3,o3⟩;have mid3:=mid2.next o3 r3)
     | (go_at_call 131;(with_reducible refine (zbh b _ (by omega) (by omega)).mono ?_);rintro e w5 ⟨rfl,hb5⟩;unfold setV;have mid5:=mid3.below hb5)
     | (go_at_call 126;(with_reducible refine (zep (rangeP b b) _).mono ?_);rintro e w4 ⟨rfl,hb4⟩;unfold nodeV;have mid4:=mid5.below hb4;obtain⟨m0,m1,m2,m3,m4,m5,m6,m7⟩:=mid4.box.cell;obtain⟨y0,y1,y2,y3,y4,y5,y6,y7⟩:=mid4.box.frozen))
   refine bodyPost_ret (v:=nodeV (.one (rangeP b b)) (.slice none 0 0)) ?_ rfl (mid4.ret (.nil _ rfl) rfl);simp[nodeV,T.one,T.op,T.set,T.lo,T.hi,za6,results,Tryz.results114,go_sem,m0,m1,m2,m3,m4,m5,m6,m7,hgb',hgb2]
set_option maxRecDepth 20000 in
set_option maxHeartbeats 2000000 in
theorem zhr (w:World) (g:Nat) (s:ByteArray) (pos:Nat) (opn:Int) (h:Rx w g s pos opn) (hs:s.size<=1000) (hlt:pos<s.size) (hw:cWide s pos=false) (b:Int) (hb:(bt s pos:Int)=b) (h5:b=42∨b=43) (r:R T) (hr:r = .error (3,(pos:Int))):Calls Tryz.prog 114 #[.pointer (some ⟨g,0,none⟩)] w (XRet w g s opn r (isNode w.heap.size)):=by
 have mid:=XMidN.start h;have hgb:=h.lt;have hgb':g≠w.heap.size:=(by omega);have hgb2:w.heap.size≠g:=(by omega);generalize hw0:w.alloc (.cells #[.int .i64 0,.int .u64 0,.int .u64 0,.int .u64 0,.int .u64 0,.int .i64 0,.int .i64 0,.slice none 0 0] 41)=w0 at *;have HW:=Zh hw0;clear hw0;have HK:=Zh (fun w h=>zac w g s pos opn h hs (Nat.le_of_lt hlt) hw);have HP:=Zh (fun w h=>zav w g s pos opn h hs (Nat.le_of_lt hlt));simp only[zb2 hlt] at HP;rw[hb] at HP;clear hw hb;have HE:=Zh hr;clear hr;rcases h5 with rfl|rfl
 all_goals
   go_enter Tryz.func114,Tryz.ntmps114;go_wp2_with fail;rw[HW.out];clear HW;go_wp2_with (first
     | (go_at_call 125;(with_reducible refine (HK.out _ mid.rx).mono ?_);rintro e w1 ⟨rfl,r1,o1⟩;unfold setV;have mid1:=(mid.next o1 r1).alloc (.cells #[.int .u64 (word noneP 0),.int .u64 (word noneP 1),.int .u64 (word noneP 2),.int .u64 (word noneP 3)] 38))
     | (go_at_call 127;(with_reducible refine (HP.out _ mid1.rx).mono ?_);rintro e w2 ⟨⟨v,rfl,rfl⟩,r2,o2⟩;have mid2:=mid1.next o2 r2;obtain⟨c0,c1,c2⟩:=r2.cell;obtain⟨f0,f1,f2⟩:=r2.frozen)
     | (go_at_call 65;(with_reducible refine (zag _ g s pos opn _ mid2.rx).mono ?_);rintro e w4 ⟨rfl,rfl⟩))
   exact za1 rfl (XRet.here mid2.only HE.out)
set_option maxRecDepth 20000 in
set_option maxHeartbeats 2000000 in
theorem zhq (w:World) (g:Nat) (s:ByteArray) (pos:Nat) (opn:Int) (h:Rx w g s pos opn) (hs:s.size<=1000) (hlt:pos<s.size) (hw:cWide s pos=false) (b:Int) (hb:(bt s pos:Int)=b) (h5:b=93∨b=41∨b=123∨b=125∨b=124∨b=63∨b=94∨b=36) (r:R T) (hr:r = .error (2,(pos:Int))):Calls Tryz.prog 114 #[.pointer (some ⟨g,0,none⟩)] w (XRet w g s opn r (isNode w.heap.size)):=by
 have mid:=XMidN.start h;have hgb:=h.lt;have hgb':g≠w.heap.size:=(by omega);have hgb2:w.heap.size≠g:=(by omega);generalize hw0:w.alloc (.cells #[.int .i64 0,.int .u64 0,.int .u64 0,.int .u64 0,.int .u64 0,.int .i64 0,.int .i64 0,.slice none 0 0] 41)=w0 at *;have HW:=Zh hw0;clear hw0;have HK:=Zh (fun w h=>zac w g s pos opn h hs (Nat.le_of_lt hlt) hw);have HP:=Zh (fun w h=>zav w g s pos opn h hs (Nat.le_of_lt hlt));simp only[zb2 hlt] at HP;rw[hb] at HP;clear hw hb;have HE:=Zh hr;clear hr;rcases h5 with rfl|rfl|rfl|rfl|rfl|rfl|rfl|rfl
 all_goals
   go_enter Tryz.func114,Tryz.ntmps114;go_wp2_with fail;rw[HW.out];clear HW;go_wp2_with (first
     | (go_at_call 125;(with_reducible refine (HK.out _ mid.rx).mono ?_);rintro e w1 ⟨rfl,r1,o1⟩;unfold setV;have mid1:=(mid.next o1 r1).alloc (.cells #[.int .u64 (word noneP 0),.int .u64 (word noneP 1),.int .u64 (word noneP 2),.int .u64 (word noneP 3)] 38))
     | (go_at_call 127;(with_reducible refine (HP.out _ mid1.rx).mono ?_);rintro e w2 ⟨⟨v,rfl,rfl⟩,r2,o2⟩;have mid2:=mid1.next o2 r2;obtain⟨c0,c1,c2⟩:=r2.cell;obtain⟨f0,f1,f2⟩:=r2.frozen)
     | (go_at_call 65;(with_reducible refine (zag _ g s pos opn _ mid2.rx).mono ?_);rintro e w4 ⟨rfl,rfl⟩))
   exact za1 rfl (XRet.here mid2.only HE.out)
set_option maxRecDepth 20000 in
set_option maxHeartbeats 2000000 in
theorem zhs (w:World) (g:Nat) (s:ByteArray) (pos:Nat) (opn:Int) (h:Rx w g s pos opn) (hs:s.size<=1000) (hlt:pos<s.size) (hw:cWide s pos=false) (b:Int) (hb:(bt s pos:Int)=b) (h5:b≠40∧b≠91∧b≠46∧b≠92∧b≠42∧b≠43) (h6:b≠93∧b≠41∧b≠123∧b≠125∧b≠124∧b≠63∧b≠94∧b≠36) (r:R T) (hr:r = .ok (.one (rangeP b b),pos+1)):Calls Tryz.prog 114 #[.pointer (some ⟨g,0,none⟩)] w (XRet w g s opn r (isNode w.heap.size)):=by
 have hbd:0<=b∧b<=255:=(by have:=ziu s pos;omega);have mid:=XMidN.start h;have hgb:=h.lt;have hgb':g≠w.heap.size:=(by omega);have hgb2:w.heap.size≠g:=(by omega);generalize hw0:w.alloc (.cells #[.int .i64 0,.int .u64 0,.int .u64 0,.int .u64 0,.int .u64 0,.int .i64 0,.int .i64 0,.slice none 0 0] 41)=w0 at *;have HW:=Zh hw0;clear hw0;have HK:=Zh (fun w h=>zac w g s pos opn h hs (Nat.le_of_lt hlt) hw);have HP:=Zh (fun w h=>zav w g s pos opn h hs (Nat.le_of_lt hlt));simp only[zb2 hlt] at HP;rw[hb] at HP;clear hw hb;have HE:=Zh hr;obtain⟨a1,a2,a3,a4,a5,a6⟩:=h5;obtain⟨b1,b2,b3,b4,b5,b6,b7,b8⟩:=h6;have e1:(b==40)=false:=(by simpa using a1);have e2:(b==91)=false:=(by simpa using a2);have e3:(b==46)=false:=(by simpa using a3);have e4:(b==92)=false:=(by simpa using a4);have e5:(b==42)=false:=(by simpa using a5);have e6:(b==43)=false:=(by simpa using a6);have e7:(b==93)=false:=(by simpa using b1);have e8:(b==41)=false:=(by simpa using b2);have e9:(b==123)=false:=(by simpa using b3);have e10:(b==125)=false:=(by simpa using b4);have e11:(b==124)=false:=(by simpa using b5);have e12:(b==63)=false:=(by simpa using b6);have e13:(b==94)=false:=(by simpa using b7);have e14:(b==36)=false:=(by simpa using b8);clear hr a1 a2 a3 a4 a5 a6 b1 b2 b3 b4 b5 b6 b7 b8;go_enter Tryz.func114,Tryz.ntmps114;go_wp2_with fail;rw[HW.out];clear HW;go_wp2_with (first
   | (go_at_call 125;(with_reducible refine (HK.out _ mid.rx).mono ?_);rintro e w1 ⟨rfl,r1,o1⟩;unfold setV;have mid1:=(mid.next o1 r1).alloc (.cells #[.int .u64 (word noneP 0),.int .u64 (word noneP 1),.int .u64 (word noneP 2),.int .u64 (word noneP 3)] 38))
   | (go_at_call 127;(with_reducible refine (HP.out _ mid1.rx).mono ?_);rintro e w2 ⟨⟨v,rfl,rfl⟩,r2,o2⟩;have mid2:=mid1.next o2 r2;obtain⟨c0,c1,c2⟩:=r2.cell;obtain⟨f0,f1,f2⟩:=r2.frozen)
   | (go_at_call 131;(with_reducible refine (zbh b _ (by omega) (by omega)).mono ?_);rintro e w3 ⟨rfl,hb3⟩;unfold setV;have mid3:=(mid2.setPos (pos+1)).below hb3)
   | (go_at_call 126;(with_reducible refine (zep (rangeP b b) _).mono ?_);rintro e w5 ⟨rfl,hb5⟩;unfold nodeV;have mid5:=mid3.below hb5;obtain⟨m0,m1,m2,m3,m4,m5,m6,m7⟩:=mid5.box.cell;obtain⟨y0,y1,y2,y3,y4,y5,y6,y7⟩:=mid5.box.frozen))
 refine bodyPost_ret (v:=nodeV (.one (rangeP b b)) (.slice none 0 0)) ?_ rfl (mid5.ret (.nil _ rfl) HE.out);simp[nodeV,T.one,T.op,T.set,T.lo,T.hi,za6,results,Tryz.results114,go_sem,m0,m1,m2,m3,m4,m5,m6,m7,hgb',hgb2]
end
end Go.Proofs.YtgbdanddbgomhaaGreatDoor
