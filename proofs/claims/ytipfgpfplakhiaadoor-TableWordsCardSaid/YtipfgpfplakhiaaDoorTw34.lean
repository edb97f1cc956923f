import Derived.Test.YtipfgpfplakhiaaDoorTw32
set_option linter.unusedVariables false
set_option linter.unusedSimpArgs false
set_option maxRecDepth 20000
set_option maxHeartbeats 4000000
namespace Go.Proofs.YtipfgpfplakhiaaDoor
open Go Go.RowKit
section
def zba (w:World) (g:Nat) (s:ByteArray) (o:R T) (st:St) (e:Ending) (w':World):Prop:=
 ∃ t k st',e = .returned (zah t k)∧Tree w' (fun b=>w.heap.size<=b) t k∧Rdr w' g s st'∧w.grownBy w' (some g)∧Rel s o st t st'
structure Mid (w:World) (g:Nat) (s:ByteArray) (st:St) (wx:World):Prop where
 lt:g<w.heap.size
 rdr:Rdr wx g s st
 box:Box8 wx w.heap.size T.zero (.slice none 0 0)
 only:w.grownBy wx (some g)
section
variable {w wx wy:World} {g:Nat} {s:ByteArray} {st st':St}
theorem Mid.start (h:Rdr w g s st):Mid w g s st (w.alloc (.cells #[.int .i64 0,.int .u64 0,.int .u64 0,.int .u64 0,.int .u64 0,.int .i64 0,.int .i64 0,.slice none 0 0] 56)):=
 ⟨h.lt,h.alloc _,Box8.new0 w,zb5 (zbo _ _) _⟩
theorem Mid.next (h:Mid w g s st wx) (o:wx.grownBy wy (some g)) (r:Rdr wy g s st'):Mid w g s st' wy:=
 ⟨h.lt,r,h.box.grown o (by have:=h.lt;simp;omega),zal h.only o⟩
theorem Mid.below (h:Mid w g s st wx) (hb:Below wx.heap.size wx wy):Mid w g s st wy:=⟨h.lt,h.rdr.stays hb,h.box.stays hb,zay h.only hb⟩
theorem Mid.drewN (h:Mid w g s st wx) (n:Nat):Mid w g s st (wx.drewN n):=⟨h.lt,h.rdr.drewN n,h.box,zap h.only n⟩
theorem Mid.alloc (h:Mid w g s st wx) (o:Obj):Mid w g s st (wx.alloc o):=⟨h.lt,h.rdr.alloc o,h.box.alloc o,zb5 h.only o⟩
theorem Mid.setPos (h:Mid w g s st wx) (k:Nat):Mid w g s {st with pos:=k} (wx.setCell ⟨g,1,none⟩ (.int .i64 (k:Int))):=h.next (zce (zbo _ _) _) (h.rdr.setPos k)
theorem Mid.setOpn (h:Mid w g s st wx) (k:Int):Mid w g s {st with opn:=k} (wx.setCell ⟨g,2,none⟩ (.int .i64 k)):=h.next (zce (zbo _ _) _) (h.rdr.setOpn k)
theorem Mid.new (h:Mid w g s st wx):w.heap.size<wx.heap.size:=h.box.lt
theorem Mid.put8 (h:Mid w g s st wx) {b:Nat} (hb:w.heap.size<b) (t:T) (k:Value):Mid w g s st (put8 wx b t k):=
 ⟨h.lt,h.rdr.put8 (by have:=h.lt;omega) t k,h.box.putFar yie,zob h.only yie t k⟩
theorem Mid.ret {o:R T} {st0:St} {t:T} {k:Value} (h:Mid w g s st wx) (ht:Tree wx (fun b=>w.heap.size<b) t k) (hr:Rel s o st0 t st):zba w g s o st0 (.returned (zah t k)) (Go.Proofs.YtipfgpfplakhiaaDoor.put8 wx w.heap.size t k):=by
 have:=h.lt;exact⟨t,k,st,rfl,(ht.put8 fun b hb=>by omega).weak fun b hb _=>yhh hb,h.rdr.put8 yie t k,zob h.only (yez _) t k,hr⟩
end
theorem zz0 (c:Int):memP [c]=zam c c:=by
 funext x
 unfold memP zam;rw[ygc];simp;omega
theorem zth (c:Int) (h:0<=c):max c 0=c:=by omega
end
section
attribute [local go_sem ↓] Go.wp_at_zero Go.wp_at_succ
theorem zvh (c:Int) (w:World) (h0:0<=c) (h1:c<=255):
 Calls Tryd.prog 97 #[.slice (some ⟨w.heap.size,0,none⟩) 1 1] (w.alloc (.cells #[.int .u8 c] 5)) fun e w'=>e = .returned (setV (zam c c))∧Below w.heap.size w w':=by
 refine (zuy _ 1 1 [c] _ rfl (zv0 w c) (by intro k hk;simp at hk;subst hk;exact⟨h0,h1⟩) yii).mono ?_;rintro e w' ⟨rfl,hb⟩;rw[zz0];exact⟨rfl,gro1 (yf6 _ _) hb⟩
theorem ztw (s:ByteArray) (st':St):0<=(st'.escaped s).1∧(st'.escaped s).1<=255:=by
 have h:=zhw s st';unfold St.escaped;simp only;split
 .simp
 .split
  .simp
  .split
   .rename_i h3;have:=zfx _ _ h3;simp only;omega
   .simp
theorem zyw {s:ByteArray} {st st':St} {c n:Int} (h:st.next s=(c,st')) (hn:st.opn=n):st'.opn=n:=by
 have e:∀ (x:St) a b,(x.fail a b).opn=x.opn:=fun x a b=>by unfold St.fail;split <;> rfl
 unfold St.next at h;split at h
 .injection h with h1 h2;rw[←h2,e];exact hn
 .injection h with h1 h2;rw[←h2];exact hn
theorem zzt (st:St) (a b:Int):(st.fail a b).opn=st.opn:=by unfold St.fail;split <;> rfl
theorem zk8 (w:World) (g:Nat) (s:ByteArray) (st:St) (h:Rdr w g s st) (hs:s.size<=1000) (hpos:st.pos<=s.size) (o:R T) (c:Int) (st1:St) (hc:st.next s=(c,st1)) (h1:c≠40) (h2:c≠91) (h3:c≠46) (h4:c≠92) (h5:c≠42) (h6:c≠43) (hi:inT c zsv=false) (hb : -1<=c∧c<=255) (hr:Rel s o st (.one (zam (max c 0) (max c 0))) st1):
 Calls Tryd.prog 90 #[.pointer (some ⟨g,0,none⟩)] w (zba w g s o st):=by
 have mid:=Mid.start h;have HN:=Zh (fun w h=>zcm w g s st h hs);simp only[hc] at HN;generalize hw0:w.alloc (.cells #[.int .i64 0,.int .u64 0,.int .u64 0,.int .u64 0,.int .u64 0,.int .i64 0,.int .i64 0,.slice none 0 0] 56)=w0 at mid;have HW:=Zh hw0;have HR:=Zh hr;clear hw0 hr hc;have e1:(c==40)=false:=yjc;have e2:(c==91)=false:=yjd;have e3:(c==46)=false:=(by simpa using h3);have e4:(c==92)=false:=(by simpa using h4);have e5:(c==42)=false:=(by simpa using h5);have e6:(c==43)=false:=(by simpa using h6);clear h1 h2 h3 h4 h5 h6;unfold zsv at hi;obtain⟨m,hm⟩:∃ m,max c 0=m:=⟨_,rfl⟩;have hm0:0<=m∧m<=255:=yie;rw[hm] at HR;have hif:(if c<0 then 0 else c)=m:=by split <;> omega
 clear hm;go_enter Tryd.func90,Tryd.ntmps90;go_wp2_with fail;rw[HW.o];clear HW;go_wp2_with (first
  | (go_at_call 91;(with_reducible refine (HN.o _ mid.rdr).mono ?_);rintro e w1 ⟨rfl,r1,o1⟩;have mid1:=mid.next o1 r1;obtain⟨c0,c1,c2,c3,c4⟩:=r1.cell;obtain⟨f0,f1,f2,f3,f4⟩:=r1.frozen)
  | (go_at_call 100;(with_reducible refine (in_p _ c ⟨#[93,41,125,123,124,63,94,36]⟩ yij).mono ?_);rintro e w2 ⟨rfl,rfl⟩;rw[hi])
  | (go_at_call 97;(with_reducible refine (zvh m _ yie yie).mono ?_);rintro e w3 ⟨rfl,hb3⟩;unfold setV;have mid3:=mid1.below hb3)
  | (go_at_call 94;(with_reducible refine (zpv (zam m m) _).mono ?_);rintro e w4 ⟨rfl,hb4⟩;unfold zah;have mid4:=mid3.below hb4;obtain⟨m0,m1,m2,m3,m4,m5,m6,m7⟩:=mid4.box.cell;obtain⟨y0,y1,y2,y3,y4,y5,y6,y7⟩:=mid4.box.frozen))
 refine bodyPost_ret (v:=zah (.one (zam m m)) (.slice none 0 0)) ?_ rfl (mid4.ret (.nil _ rfl) HR.o);simp[zah,T.one,T.zero,T.op,T.set,T.lo,T.hi,zak,results,Tryd.results90,go_sem,m0,m1,m2,m3,m4,m5,m6,m7]
theorem zxk (w:World) (g:Nat) (s:ByteArray) (st:St) (h:Rdr w g s st) (hs:s.size<=1000) (hpos:st.pos<=s.size) (o:R T) (c:Int) (st1:St) (hc:st.next s=(c,st1)) (h1:c≠40) (h2:c≠91) (h3:c≠46) (h4:c≠92) (h5:c≠42) (h6:c≠43) (hi:inT c zsv=true) (hb:0<=c∧c<=255) (hr:Rel s o st (.one (zam c c)) (st1.fail ((st1.pos:Int)-1) 2)) (hp1:st1.pos<=s.size):
 Calls Tryd.prog 90 #[.pointer (some ⟨g,0,none⟩)] w (zba w g s o st):=by
 have mid:=Mid.start h;have HN:=Zh (fun w h=>zcm w g s st h hs);simp only[hc] at HN;generalize hw0:w.alloc (.cells #[.int .i64 0,.int .u64 0,.int .u64 0,.int .u64 0,.int .u64 0,.int .i64 0,.int .i64 0,.slice none 0 0] 56)=w0 at mid;have HW:=Zh hw0;have HR:=Zh hr;clear hw0 hr hc;have e1:(c==40)=false:=yjc;have e2:(c==91)=false:=yjd;have e3:(c==46)=false:=(by simpa using h3);have e4:(c==92)=false:=(by simpa using h4);have e5:(c==42)=false:=(by simpa using h5);have e6:(c==43)=false:=(by simpa using h6);clear h1 h2 h3 h4 h5 h6;unfold zsv at hi;go_enter Tryd.func90,Tryd.ntmps90;go_wp2_with fail;rw[HW.o];clear HW;go_wp2_with (first
  | (go_at_call 91;(with_reducible refine (HN.o _ mid.rdr).mono ?_);rintro e w1 ⟨rfl,r1,o1⟩;have mid1:=mid.next o1 r1;obtain⟨c0,c1,c2,c3,c4⟩:=r1.cell;obtain⟨f0,f1,f2,f3,f4⟩:=r1.frozen)
  | (go_at_call 100;(with_reducible refine (in_p _ c ⟨#[93,41,125,123,124,63,94,36]⟩ yij).mono ?_);rintro e w2 ⟨rfl,rfl⟩;rw[hi])
  | (go_at_call 93;(with_reducible refine (zfe _ g s st1 _ _ r1).mono ?_);rintro e w5 ⟨rfl,r5,o5⟩;have mid5:=mid1.next o5 r5)
  | (go_at_call 97;(with_reducible refine (zvh c _ yie yie).mono ?_);rintro e w3 ⟨rfl,hb3⟩;unfold setV;have mid3:=mid5.below hb3)
  | (go_at_call 94;(with_reducible refine (zpv (zam c c) _).mono ?_);rintro e w4 ⟨rfl,hb4⟩;unfold zah;have mid4:=mid3.below hb4;obtain⟨m0,m1,m2,m3,m4,m5,m6,m7⟩:=mid4.box.cell;obtain⟨y0,y1,y2,y3,y4,y5,y6,y7⟩:=mid4.box.frozen))
 refine bodyPost_ret (v:=zah (.one (zam c c)) (.slice none 0 0)) ?_ rfl (mid4.ret (.nil _ rfl) HR.o);simp[zah,T.one,T.zero,T.op,T.set,T.lo,T.hi,zak,results,Tryd.results90,go_sem,m0,m1,m2,m3,m4,m5,m6,m7]
theorem zxl (w:World) (g:Nat) (s:ByteArray) (st:St) (h:Rdr w g s st) (hs:s.size<=1000) (hpos:st.pos<=s.size) (o:R T) (c:Int) (st1:St) (hc:st.next s=(c,st1)) (h5:c=42∨c=43) (hr:Rel s o st (.one (zam c c)) (st1.fail ((st1.pos:Int)-1) 3)) (hp1:st1.pos<=s.size):
 Calls Tryd.prog 90 #[.pointer (some ⟨g,0,none⟩)] w (zba w g s o st):=by
 have mid:=Mid.start h;have HN:=Zh (fun w h=>zcm w g s st h hs);simp only[hc] at HN;generalize hw0:w.alloc (.cells #[.int .i64 0,.int .u64 0,.int .u64 0,.int .u64 0,.int .u64 0,.int .i64 0,.int .i64 0,.slice none 0 0] 56)=w0 at mid;have HW:=Zh hw0;have HR:=Zh hr;clear hw0 hr hc;have hi:inT c ⟨#[93,41,125,123,124,63,94,36]⟩=false:=by rcases h5 with rfl|rfl <;> decide
 rcases h5 with rfl|rfl
 all_goals
  go_enter Tryd.func90,Tryd.ntmps90;go_wp2_with fail;rw[HW.o];clear HW;go_wp2_with (first
   | (go_at_call 91;(with_reducible refine (HN.o _ mid.rdr).mono ?_);rintro e w1 ⟨rfl,r1,o1⟩;have mid1:=mid.next o1 r1;obtain⟨c0,c1,c2,c3,c4⟩:=r1.cell;obtain⟨f0,f1,f2,f3,f4⟩:=r1.frozen)
   | (go_at_call 100;(with_reducible refine (in_p _ _ ⟨#[93,41,125,123,124,63,94,36]⟩ yij).mono ?_);rintro e w2 ⟨rfl,rfl⟩;rw[hi])
   | (go_at_call 93;(with_reducible refine (zfe _ g s st1 _ _ r1).mono ?_);rintro e w5 ⟨rfl,r5,o5⟩;have mid5:=mid1.next o5 r5)
   | (go_at_call 97;(with_reducible refine (zvh _ _ yie yie).mono ?_);rintro e w3 ⟨rfl,hb3⟩;unfold setV;have mid3:=mid5.below hb3)
   | (go_at_call 94;(with_reducible refine (zpv _ _).mono ?_);rintro e w4 ⟨rfl,hb4⟩;unfold zah;have mid4:=mid3.below hb4;obtain⟨m0,m1,m2,m3,m4,m5,m6,m7⟩:=mid4.box.cell;obtain⟨y0,y1,y2,y3,y4,y5,y6,y7⟩:=mid4.box.frozen))
  refine bodyPost_ret (v:=zah (.one (zam _ _)) (.slice none 0 0)) ?_ rfl (mid4.ret (.nil _ rfl) HR.o);simp[zah,T.one,T.zero,T.op,T.set,T.lo,T.hi,zak,results,Tryd.results90,go_sem,m0,m1,m2,m3,m4,m5,m6,m7]
theorem yac (w:World) (g:Nat) (s:ByteArray) (st:St) (h:Rdr w g s st) (hs:s.size<=1000) (hpos:st.pos<=s.size) (o:R T) (st1:St) (hc:st.next s=(46,st1)) (hr:Rel s o st (.one (notP (zam 10 10))) st1):
 Calls Tryd.prog 90 #[.pointer (some ⟨g,0,none⟩)] w (zba w g s o st):=by
 have mid:=Mid.start h;have HN:=Zh (fun w h=>zcm w g s st h hs);simp only[hc] at HN;generalize hw0:w.alloc (.cells #[.int .i64 0,.int .u64 0,.int .u64 0,.int .u64 0,.int .u64 0,.int .i64 0,.int .i64 0,.slice none 0 0] 56)=w0 at mid;have HW:=Zh hw0;have HR:=Zh hr;clear hw0 hr hc;go_enter Tryd.func90,Tryd.ntmps90;go_wp2_with fail;rw[HW.o];clear HW;go_wp2_with (first
  | (go_at_call 91;(with_reducible refine (HN.o _ mid.rdr).mono ?_);rintro e w1 ⟨rfl,r1,o1⟩;have mid1:=mid.next o1 r1;obtain⟨c0,c1,c2,c3,c4⟩:=r1.cell;obtain⟨f0,f1,f2,f3,f4⟩:=r1.frozen)
  | (go_at_call 97;(with_reducible refine (zvh 10 _ yie yie).mono ?_);rintro e w3 ⟨rfl,hb3⟩;unfold setV;have mid3:=mid1.below hb3)
  | (go_at_call 96;(with_reducible refine (zuz (zam 10 10) _).mono ?_);rintro e w5 ⟨rfl,hb5⟩;unfold setV;have mid5:=mid3.below hb5)
  | (go_at_call 94;(with_reducible refine (zpv (notP (zam 10 10)) _).mono ?_);rintro e w4 ⟨rfl,hb4⟩;unfold zah;have mid4:=mid5.below hb4;obtain⟨m0,m1,m2,m3,m4,m5,m6,m7⟩:=mid4.box.cell;obtain⟨y0,y1,y2,y3,y4,y5,y6,y7⟩:=mid4.box.frozen))
 refine bodyPost_ret (v:=zah (.one (notP (zam 10 10))) (.slice none 0 0)) ?_ rfl (mid4.ret (.nil _ rfl) HR.o);simp[zah,T.one,T.zero,T.op,T.set,T.lo,T.hi,zak,results,Tryd.results90,go_sem,m0,m1,m2,m3,m4,m5,m6,m7]
theorem zu3 (w:World) (g:Nat) (s:ByteArray) (st:St) (h:Rdr w g s st) (hs:s.size<=1000) (hpos:st.pos<=s.size) (o:R T) (st1:St) (hc:st.next s=(91,st1)) (hr:∀ q st2,Rel s (zia s st1.pos) st1 q st2->Rel s o st (.one q) st2) (hp1:st1.pos<=s.size):
 Calls Tryd.prog 90 #[.pointer (some ⟨g,0,none⟩)] w (zba w g s o st):=by
 have mid:=Mid.start h;have HN:=Zh (fun w h=>zcm w g s st h hs);simp only[hc] at HN;generalize hw0:w.alloc (.cells #[.int .i64 0,.int .u64 0,.int .u64 0,.int .u64 0,.int .u64 0,.int .i64 0,.int .i64 0,.slice none 0 0] 56)=w0 at mid;have HW:=Zh hw0;have HR:=Zh hr;clear hw0 hr hc;go_enter Tryd.func90,Tryd.ntmps90;go_wp2_with fail;rw[HW.o];clear HW;go_wp2_with (first
  | (go_at_call 91;(with_reducible refine (HN.o _ mid.rdr).mono ?_);rintro e w1 ⟨rfl,r1,o1⟩;have mid1:=mid.next o1 r1;obtain⟨c0,c1,c2,c3,c4⟩:=r1.cell;obtain⟨f0,f1,f2,f3,f4⟩:=r1.frozen)
  | (go_at_call 95;(with_reducible refine (ycp _ g s st1 mid1.rdr hs hp1).mono ?_);rintro e w3 ⟨q,st2,rfl,r3,o3,hq⟩;replace HR:=Zh (HR.o q st2 hq);unfold setV;have mid3:=mid1.next o3 r3)
  | (go_at_call 94;(with_reducible refine (zpv q _).mono ?_);rintro e w4 ⟨rfl,hb4⟩;unfold zah;have mid4:=mid3.below hb4;obtain⟨m0,m1,m2,m3,m4,m5,m6,m7⟩:=mid4.box.cell;obtain⟨y0,y1,y2,y3,y4,y5,y6,y7⟩:=mid4.box.frozen))
 refine bodyPost_ret (v:=zah (.one q) (.slice none 0 0)) ?_ rfl (mid4.ret (.nil _ rfl) HR.o);simp[zah,T.one,T.zero,T.op,T.set,T.lo,T.hi,zak,results,Tryd.results90,go_sem,m0,m1,m2,m3,m4,m5,m6,m7]
theorem yab (w:World) (g:Nat) (s:ByteArray) (st:St) (h:Rdr w g s st) (hs:s.size<=1000) (hpos:st.pos<=s.size) (o:R T) (st1:St) (hc:st.next s=(92,st1)) (hw:zdz (st1.peek s)=false) (hr:Rel s o st (.one (zam (st1.escaped s).1 (st1.escaped s).1)) (st1.escaped s).2) (hp1:st1.pos<=s.size):
 Calls Tryd.prog 90 #[.pointer (some ⟨g,0,none⟩)] w (zba w g s o st):=by
 have mid:=Mid.start h;have HN:=Zh (fun w h=>zcm w g s st h hs);simp only[hc] at HN;generalize hw0:w.alloc (.cells #[.int .i64 0,.int .u64 0,.int .u64 0,.int .u64 0,.int .u64 0,.int .i64 0,.int .i64 0,.slice none 0 0] 56)=w0 at mid;have HW:=Zh hw0;have HR:=Zh hr;clear hw0 hr hc;have hbd:0<=(st1.escaped s).1∧(st1.escaped s).1<=255:=ztw s st1;have HE:=Zh (fun w h=>zou w g s st1 h hs hp1);generalize (st1.escaped s).1=b at *;generalize (st1.escaped s).2=st2 at *;go_enter Tryd.func90,Tryd.ntmps90;go_wp2_with fail;rw[HW.o];clear HW;go_wp2_with (first
  | (go_at_call 91;(with_reducible refine (HN.o _ mid.rdr).mono ?_);rintro e w1 ⟨rfl,r1,o1⟩;have mid1:=mid.next o1 r1;obtain⟨c0,c1,c2,c3,c4⟩:=r1.cell;obtain⟨f0,f1,f2,f3,f4⟩:=r1.frozen)
  | (go_at_call 73;(with_reducible refine (zb2 _ g s st1 r1 hs).mono ?_);rintro e w2 ⟨rfl,n,rfl⟩;have mid2:=mid1.drewN n)
  | (go_at_call 98;(with_reducible refine (zqm _ _).mono ?_);rintro e w3 ⟨rfl,hb3⟩;rw[hw];unfold setV;have mid3:=mid2.below hb3)
  | (go_at_call 99;(with_reducible refine (HE.o _ (mid3.alloc _).rdr).mono ?_);rintro e w5 ⟨rfl,r5,o5⟩;have mid5:=(mid3.alloc _).next o5 r5)
  | (go_at_call 97;(with_reducible refine (zvh b _ yie yie).mono ?_);rintro e w6 ⟨rfl,hb6⟩;unfold setV;have mid6:=mid5.below hb6)
  | (go_at_call 94;(with_reducible refine (zpv (zam b b) _).mono ?_);rintro e w4 ⟨rfl,hb4⟩;unfold zah;have mid4:=mid6.below hb4;obtain⟨m0,m1,m2,m3,m4,m5,m6,m7⟩:=mid4.box.cell;obtain⟨y0,y1,y2,y3,y4,y5,y6,y7⟩:=mid4.box.frozen))
 refine bodyPost_ret (v:=zah (.one (zam b b)) (.slice none 0 0)) ?_ rfl (mid4.ret (.nil _ rfl) HR.o);simp[zah,T.one,T.zero,T.op,T.set,T.lo,T.hi,zak,results,Tryd.results90,go_sem,m0,m1,m2,m3,m4,m5,m6,m7]
theorem zxj (w:World) (g:Nat) (s:ByteArray) (st:St) (h:Rdr w g s st) (hs:s.size<=1000) (hpos:st.pos<=s.size) (o:R T) (st1:St) (hc:st.next s=(92,st1)) (hw:zdz (st1.peek s)=true) (hr:Rel s o st (.one (zar (st1.peek s))) (st1.step 1)) (hp1:st1.pos<s.size):
 Calls Tryd.prog 90 #[.pointer (some ⟨g,0,none⟩)] w (zba w g s o st):=by
 have mid:=Mid.start h;have HN:=Zh (fun w h=>zcm w g s st h hs);simp only[hc] at HN;generalize hw0:w.alloc (.cells #[.int .i64 0,.int .u64 0,.int .u64 0,.int .u64 0,.int .u64 0,.int .i64 0,.int .i64 0,.slice none 0 0] 56)=w0 at mid;have HW:=Zh hw0;have HR:=Zh hr;clear hw0 hr hc;go_enter Tryd.func90,Tryd.ntmps90;go_wp2_with fail;rw[HW.o];clear HW;go_wp2_with (first
  | (go_at_call 91;(with_reducible refine (HN.o _ mid.rdr).mono ?_);rintro e w1 ⟨rfl,r1,o1⟩;have mid1:=mid.next o1 r1;obtain⟨c0,c1,c2,c3,c4⟩:=r1.cell;obtain⟨f0,f1,f2,f3,f4⟩:=r1.frozen)
  | (go_at_call 73;(with_reducible refine (zb2 _ g s st1 r1 hs).mono ?_);rintro e w2 ⟨rfl,n,rfl⟩;have mid2:=mid1.drewN n)
  | (go_at_call 98;(with_reducible refine (zqm _ _).mono ?_);rintro e w3 ⟨rfl,hb3⟩;rw[hw];unfold setV;have mid3:=mid2.below hb3;obtain⟨k0,k1,k2,k3,k4⟩:=mid3.rdr.cell;obtain⟨l0,l1,l2,l3,l4⟩:=mid3.rdr.frozen;have hg3:=mid3.rdr.lt;have hg4:g≠w3.heap.size:=by omega)
  | (go_at_call 94;(with_reducible refine (zpv (zar (st1.peek s)) _).mono ?_);rintro e w4 ⟨rfl,hb4⟩;unfold zah;have mid4:=((mid3.setPos (st1.pos+1)).alloc _).below hb4;obtain⟨m0,m1,m2,m3,m4,m5,m6,m7⟩:=mid4.box.cell;obtain⟨y0,y1,y2,y3,y4,y5,y6,y7⟩:=mid4.box.frozen))
 refine bodyPost_ret (v:=zah (.one (zar (st1.peek s))) (.slice none 0 0)) ?_ rfl (mid4.ret (.nil _ rfl) HR.o);simp[zah,T.one,T.zero,T.op,T.set,T.lo,T.hi,zak,results,Tryd.results90,go_sem,m0,m1,m2,m3,m4,m5,m6,m7]
theorem zxm (w:World) (g:Nat) (s:ByteArray) (st:St) (h:Rdr w g s st) (hs:s.size<=1000) (hpos:st.pos<=s.size) (o:R T) (st1:St) (hc:st.next s=(40,st1)) (h20:st1.opn=20) (hr:Rel s o st T.zero (st1.fail ((st1.pos:Int)-1) 4)) (hp1:st1.pos<=s.size):
 Calls Tryd.prog 90 #[.pointer (some ⟨g,0,none⟩)] w (zba w g s o st):=by
 have mid:=Mid.start h;have HN:=Zh (fun w h=>zcm w g s st h hs);simp only[hc] at HN;generalize hw0:w.alloc (.cells #[.int .i64 0,.int .u64 0,.int .u64 0,.int .u64 0,.int .u64 0,.int .i64 0,.int .i64 0,.slice none 0 0] 56)=w0 at mid;have HW:=Zh hw0;have HR:=Zh hr;clear hw0 hr hc;have h20':(st1.opn==20)=true:=(by simpa using h20);clear h20;go_enter Tryd.func90,Tryd.ntmps90;go_wp2_with fail;rw[HW.o];clear HW;go_wp2_with (first
  | (go_at_call 91;(with_reducible refine (HN.o _ mid.rdr).mono ?_);rintro e w1 ⟨rfl,r1,o1⟩;have mid1:=mid.next o1 r1;obtain⟨c0,c1,c2,c3,c4⟩:=r1.cell;obtain⟨f0,f1,f2,f3,f4⟩:=r1.frozen)
  | (go_at_call 93;(with_reducible refine (zfe _ g s st1 _ _ r1).mono ?_);rintro e w5 ⟨rfl,r5,o5⟩;have mid5:=mid1.next o5 r5;obtain⟨m0,m1,m2,m3,m4,m5,m6,m7⟩:=mid5.box.cell;obtain⟨y0,y1,y2,y3,y4,y5,y6,y7⟩:=mid5.box.frozen))
 refine bodyPost_ret (v:=zah T.zero (.slice none 0 0)) ?_ rfl (mid5.ret (.nil _ rfl) HR.o);simp[zah,T.one,T.zero,T.op,T.set,T.lo,T.hi,zak,results,Tryd.results90,go_sem,m0,m1,m2,m3,m4,m5,m6,m7]
end
end Go.Proofs.YtipfgpfplakhiaaDoor
