import Derived.Test.YtgbdanddbgomhaaDoorMw36
set_option linter.unusedVariables false
set_option linter.unusedSimpArgs false
namespace Go.Proofs.YtgbdanddbgomhaaDoor
open Go Go.RowKit
section
def RetNode (w:World) (g:Nat) (s:ByteArray) (o:R T) (st:St) (e:Ending) (w':World):Prop:=
 ∃ t k st',e = .returned (nodeV t k)∧Tree w' (fun b=>w.heap.size<=b) t k∧Rdr w' g s st'∧w.grownBy w' (some g)∧Rel s o st t st'
structure Mid (w:World) (g:Nat) (s:ByteArray) (st:St) (wx:World):Prop where
 lt:g<w.heap.size
 rdr:Rdr wx g s st
 box:Box8 wx w.heap.size T.zero (.slice none 0 0)
 only:w.grownBy wx (some g)
section
variable {w wx wy:World} {g:Nat} {s:ByteArray} {st st':St}
theorem Mid.start (h:Rdr w g s st):Mid w g s st (w.alloc (.cells #[.int .i64 0,.int .u64 0,.int .u64 0,.int .u64 0,.int .u64 0,.int .i64 0,.int .i64 0,.slice none 0 0] 29)):=
 ⟨h.lt,h.alloc _,Box8.new0 w,zak (zax _ _) _⟩
theorem Mid.next (h:Mid w g s st wx) (o:wx.grownBy wy (some g)) (r:Rdr wy g s st'):Mid w g s st' wy:=
 ⟨h.lt,r,h.box.grown o (by have:=h.lt;simp;omega),za7 h.only o⟩
theorem Mid.below (h:Mid w g s st wx) (hb:Below wx.heap.size wx wy):Mid w g s st wy:=⟨h.lt,h.rdr.stays hb,h.box.stays hb,zaf h.only hb⟩
theorem Mid.drewN (h:Mid w g s st wx) (n:Nat):Mid w g s st (wx.drewN n):=⟨h.lt,h.rdr.drewN n,h.box,zab h.only n⟩
theorem Mid.alloc (h:Mid w g s st wx) (o:Obj):Mid w g s st (wx.alloc o):=⟨h.lt,h.rdr.alloc o,h.box.alloc o,zak h.only o⟩
theorem Mid.setPos (h:Mid w g s st wx) (k:Nat):Mid w g s {st with pos:=k} (wx.setCell ⟨g,1,none⟩ (.int .i64 (k:Int))):=h.next (zb8 (zax _ _) _) (h.rdr.setPos k)
theorem Mid.setOpn (h:Mid w g s st wx) (k:Int):Mid w g s {st with opn:=k} (wx.setCell ⟨g,2,none⟩ (.int .i64 k)):=h.next (zb8 (zax _ _) _) (h.rdr.setOpn k)
theorem Mid.new (h:Mid w g s st wx):w.heap.size<wx.heap.size:=h.box.lt
theorem Mid.put8 (h:Mid w g s st wx) {b:Nat} (hb:w.heap.size<b) (t:T) (k:Value):Mid w g s st (put8 wx b t k):=
 ⟨h.lt,h.rdr.put8 (by have:=h.lt;omega) t k,h.box.putFar (by omega),zj7 h.only (by omega) t k⟩
theorem Mid.ret {o:R T} {st0:St} {t:T} {k:Value} (h:Mid w g s st wx) (ht:Tree wx (fun b=>w.heap.size<b) t k) (hr:Rel s o st0 t st):RetNode w g s o st0 (.returned (nodeV t k)) (Go.Proofs.YtgbdanddbgomhaaDoor.put8 wx w.heap.size t k):=by
 have:=h.lt;exact⟨t,k,st,rfl,(ht.put8 fun b hb=>by omega).weak fun b hb _=>Nat.le_of_lt hb,h.rdr.put8 (by omega) t k,zj7 h.only (Nat.le_refl _) t k,hr⟩
end
theorem zta (c:Int):memP [c]=rangeP c c:=by
 funext x
 unfold memP rangeP;rw[Bool.eq_iff_iff];simp;omega
theorem zns (c:Int) (h:0<=c):max c 0=c:=by omega
end
section
attribute [local go_sem ↓] Go.wp_at_zero Go.wp_at_succ
theorem zq7 (c:Int) (w:World) (h0:0<=c) (h1:c<=255):
   Calls Tryd.prog 69 #[.slice (some ⟨w.heap.size,0,none⟩) 1 1] (w.alloc (.cells #[.int .u8 c] 5)) fun e w'=>e = .returned (setV (rangeP c c))∧Below w.heap.size w w':=by
 refine (zpi _ 1 1 [c] _ rfl (zpl w c) (by intro k hk;simp at hk;subst hk;exact⟨h0,h1⟩) (by simp)).mono ?_;rintro e w' ⟨rfl,hb⟩;rw[zta];exact⟨rfl,gro1 (Below.refl _ _) hb⟩
theorem zo8 (s:ByteArray) (st':St):0<=(st'.escaped s).1∧(st'.escaped s).1<=255:=by
 have h:=ze8 s st';unfold St.escaped;simp only;split
 . simp
 . split
   . simp
   . split
     . rename_i h3;have:=zd5 _ _ h3;simp only;omega
     . simp
theorem zt8 {s:ByteArray} {st st':St} {c n:Int} (h:st.next s=(c,st')) (hn:st.opn=n):st'.opn=n:=by
 have e:∀ (x:St) a b,(x.fail a b).opn=x.opn:=fun x a b=>by unfold St.fail;split <;> rfl
 unfold St.next at h;split at h
 . injection h with h1 h2;rw[←h2,e];exact hn
 . injection h with h1 h2;rw[←h2];exact hn
theorem ztz (st:St) (a b:Int):(st.fail a b).opn=st.opn:=by unfold St.fail;split <;> rfl
set_option maxRecDepth 20000 in
set_option maxHeartbeats 2000000 in
theorem zg4 (w:World) (g:Nat) (s:ByteArray) (st:St) (h:Rdr w g s st) (hs:s.size<=1000) (hpos:st.pos<=s.size) (o:R T) (c:Int) (st1:St) (hc:st.next s=(c,st1)) (h1:c≠40) (h2:c≠91) (h3:c≠46) (h4:c≠92) (h5:c≠42) (h6:c≠43) (hi:inT c stopT=false) (hb : -1<=c∧c<=255) (hr:Rel s o st (.one (rangeP (max c 0) (max c 0))) st1):
   Calls Tryd.prog 118 #[.pointer (some ⟨g,0,none⟩)] w (RetNode w g s o st):=by
 have mid:=Mid.start h;have HN:=Zh (fun w h=>zbb w g s st h hs);simp only[hc] at HN;generalize hw0:w.alloc (.cells #[.int .i64 0,.int .u64 0,.int .u64 0,.int .u64 0,.int .u64 0,.int .i64 0,.int .i64 0,.slice none 0 0] 29)=w0 at mid;have HW:=Zh hw0;have HR:=Zh hr;clear hw0 hr hc;have e1:(c==40)=false:=(by simpa using h1);have e2:(c==91)=false:=(by simpa using h2);have e3:(c==46)=false:=(by simpa using h3);have e4:(c==92)=false:=(by simpa using h4);have e5:(c==42)=false:=(by simpa using h5);have e6:(c==43)=false:=(by simpa using h6);clear h1 h2 h3 h4 h5 h6;unfold stopT at hi;obtain⟨m,hm⟩:∃ m,max c 0=m:=⟨_,rfl⟩;have hm0:0<=m∧m<=255:=(by omega);rw[hm] at HR;have hif:(if c<0 then 0 else c)=m:=by split <;> omega
 clear hm;go_enter Tryd.func118,Tryd.ntmps118;go_wp2_with fail;rw[HW.out];clear HW;go_wp2_with (first
   | (go_at_call 119;(with_reducible refine (HN.out _ mid.rdr).mono ?_);rintro e w1 ⟨rfl,r1,o1⟩;have mid1:=mid.next o1 r1;obtain⟨c0,c1,c2,c3,c4⟩:=r1.cell;obtain⟨f0,f1,f2,f3,f4⟩:=r1.frozen)
   | (go_at_call 131;(with_reducible refine (in_p _ c ⟨#[93,41,125,123,124,63,94,36]⟩ (by decide)).mono ?_);rintro e w2 ⟨rfl,rfl⟩;rw[hi])
   | (go_at_call 69;(with_reducible refine (zq7 m _ (by omega) (by omega)).mono ?_);rintro e w3 ⟨rfl,hb3⟩;unfold setV;have mid3:=mid1.below hb3)
   | (go_at_call 126;(with_reducible refine (zkj (rangeP m m) _).mono ?_);rintro e w4 ⟨rfl,hb4⟩;unfold nodeV;have mid4:=mid3.below hb4;obtain⟨m0,m1,m2,m3,m4,m5,m6,m7⟩:=mid4.box.cell;obtain⟨y0,y1,y2,y3,y4,y5,y6,y7⟩:=mid4.box.frozen))
 refine bodyPost_ret (v:=nodeV (.one (rangeP m m)) (.slice none 0 0)) ?_ rfl (mid4.ret (.nil _ rfl) HR.out);simp[nodeV,T.one,T.zero,T.op,T.set,T.lo,T.hi,za5,results,Tryd.results118,go_sem,m0,m1,m2,m3,m4,m5,m6,m7]
set_option maxRecDepth 20000 in
set_option maxHeartbeats 2000000 in
theorem zs2 (w:World) (g:Nat) (s:ByteArray) (st:St) (h:Rdr w g s st) (hs:s.size<=1000) (hpos:st.pos<=s.size) (o:R T) (c:Int) (st1:St) (hc:st.next s=(c,st1)) (h1:c≠40) (h2:c≠91) (h3:c≠46) (h4:c≠92) (h5:c≠42) (h6:c≠43) (hi:inT c stopT=true) (hb:0<=c∧c<=255) (hr:Rel s o st (.one (rangeP c c)) (st1.fail ((st1.pos:Int)-1) 2)) (hp1:st1.pos<=s.size):
   Calls Tryd.prog 118 #[.pointer (some ⟨g,0,none⟩)] w (RetNode w g s o st):=by
 have mid:=Mid.start h;have HN:=Zh (fun w h=>zbb w g s st h hs);simp only[hc] at HN;generalize hw0:w.alloc (.cells #[.int .i64 0,.int .u64 0,.int .u64 0,.int .u64 0,.int .u64 0,.int .i64 0,.int .i64 0,.slice none 0 0] 29)=w0 at mid;have HW:=Zh hw0;have HR:=Zh hr;clear hw0 hr hc;have e1:(c==40)=false:=(by simpa using h1);have e2:(c==91)=false:=(by simpa using h2);have e3:(c==46)=false:=(by simpa using h3);have e4:(c==92)=false:=(by simpa using h4);have e5:(c==42)=false:=(by simpa using h5);have e6:(c==43)=false:=(by simpa using h6);clear h1 h2 h3 h4 h5 h6;unfold stopT at hi;go_enter Tryd.func118,Tryd.ntmps118;go_wp2_with fail;rw[HW.out];clear HW;go_wp2_with (first
   | (go_at_call 119;(with_reducible refine (HN.out _ mid.rdr).mono ?_);rintro e w1 ⟨rfl,r1,o1⟩;have mid1:=mid.next o1 r1;obtain⟨c0,c1,c2,c3,c4⟩:=r1.cell;obtain⟨f0,f1,f2,f3,f4⟩:=r1.frozen)
   | (go_at_call 131;(with_reducible refine (in_p _ c ⟨#[93,41,125,123,124,63,94,36]⟩ (by decide)).mono ?_);rintro e w2 ⟨rfl,rfl⟩;rw[hi])
   | (go_at_call 121;(with_reducible refine (zct _ g s st1 _ _ r1).mono ?_);rintro e w5 ⟨rfl,r5,o5⟩;have mid5:=mid1.next o5 r5)
   | (go_at_call 69;(with_reducible refine (zq7 c _ (by omega) (by omega)).mono ?_);rintro e w3 ⟨rfl,hb3⟩;unfold setV;have mid3:=mid5.below hb3)
   | (go_at_call 126;(with_reducible refine (zkj (rangeP c c) _).mono ?_);rintro e w4 ⟨rfl,hb4⟩;unfold nodeV;have mid4:=mid3.below hb4;obtain⟨m0,m1,m2,m3,m4,m5,m6,m7⟩:=mid4.box.cell;obtain⟨y0,y1,y2,y3,y4,y5,y6,y7⟩:=mid4.box.frozen))
 refine bodyPost_ret (v:=nodeV (.one (rangeP c c)) (.slice none 0 0)) ?_ rfl (mid4.ret (.nil _ rfl) HR.out);simp[nodeV,T.one,T.zero,T.op,T.set,T.lo,T.hi,za5,results,Tryd.results118,go_sem,m0,m1,m2,m3,m4,m5,m6,m7]
set_option maxRecDepth 20000 in
set_option maxHeartbeats 2000000 in
theorem zs3 (w:World) (g:Nat) (s:ByteArray) (st:St) (h:Rdr w g s st) (hs:s.size<=1000) (hpos:st.pos<=s.size) (o:R T) (c:Int) (st1:St) (hc:st.next s=(c,st1)) (h5:c=42∨c=43) (hr:Rel s o st (.one (rangeP c c)) (st1.fail ((st1.pos:Int)-1) 3)) (hp1:st1.pos<=s.size):
   Calls Tryd.prog 118 #[.pointer (some ⟨g,0,none⟩)] w (RetNode w g s o st):=by
 have mid:=Mid.start h;have HN:=Zh (fun w h=>zbb w g s st h hs);simp only[hc] at HN;generalize hw0:w.alloc (.cells #[.int .i64 0,.int .u64 0,.int .u64 0,.int .u64 0,.int .u64 0,.int .i64 0,.int .i64 0,.slice none 0 0] 29)=w0 at mid;have HW:=Zh hw0;have HR:=Zh hr;clear hw0 hr hc;have hi:inT c ⟨#[93,41,125,123,124,63,94,36]⟩=false:=by rcases h5 with rfl|rfl <;> decide
 rcases h5 with rfl|rfl
 all_goals
   go_enter Tryd.func118,Tryd.ntmps118;go_wp2_with fail;rw[HW.out];clear HW;go_wp2_with (first
     | (go_at_call 119;(with_reducible refine (HN.out _ mid.rdr).mono ?_);rintro e w1 ⟨rfl,r1,o1⟩;have mid1:=mid.next o1 r1;obtain⟨c0,c1,c2,c3,c4⟩:=r1.cell;obtain⟨f0,f1,f2,f3,f4⟩:=r1.frozen)
     | (go_at_call 131;(with_reducible refine (in_p _ _ ⟨#[93,41,125,123,124,63,94,36]⟩ (by decide)).mono ?_);rintro e w2 ⟨rfl,rfl⟩;rw[hi])
     | (go_at_call 121;(with_reducible refine (zct _ g s st1 _ _ r1).mono ?_);rintro e w5 ⟨rfl,r5,o5⟩;have mid5:=mid1.next o5 r5)
     | (go_at_call 69;(with_reducible refine (zq7 _ _ (by omega) (by omega)).mono ?_);rintro e w3 ⟨rfl,hb3⟩;unfold setV;have mid3:=mid5.below hb3)
     | (go_at_call 126;(with_reducible refine (zkj _ _).mono ?_);rintro e w4 ⟨rfl,hb4⟩;unfold nodeV;have mid4:=mid3.below hb4;obtain⟨m0,m1,m2,m3,m4,m5,m6,m7⟩:=mid4.box.cell;obtain⟨y0,y1,y2,y3,y4,y5,y6,y7⟩:=mid4.box.frozen))
   refine bodyPost_ret (v:=nodeV (.one (rangeP _ _)) (.slice none 0 0)) ?_ rfl (mid4.ret (.nil _ rfl) HR.out);simp[nodeV,T.one,T.zero,T.op,T.set,T.lo,T.hi,za5,results,Tryd.results118,go_sem,m0,m1,m2,m3,m4,m5,m6,m7]
set_option maxRecDepth 20000 in
set_option maxHeartbeats 2000000 in
theorem zug (w:World) (g:Nat) (s:ByteArray) (st:St) (h:Rdr w g s st) (hs:s.size<=1000) (hpos:st.pos<=s.size) (o:R T) (st1:St) (hc:st.next s=(46,st1)) (hr:Rel s o st (.one (notP (rangeP 10 10))) st1):
   Calls Tryd.prog 118 #[.pointer (some ⟨g,0,none⟩)] w (RetNode w g s o st):=by
 have mid:=Mid.start h;have HN:=Zh (fun w h=>zbb w g s st h hs);simp only[hc] at HN;generalize hw0:w.alloc (.cells #[.int .i64 0,.int .u64 0,.int .u64 0,.int .u64 0,.int .u64 0,.int .i64 0,.int .i64 0,.slice none 0 0] 29)=w0 at mid;have HW:=Zh hw0;have HR:=Zh hr;clear hw0 hr hc;go_enter Tryd.func118,Tryd.ntmps118;go_wp2_with fail;rw[HW.out];clear HW;go_wp2_with (first
   | (go_at_call 119;(with_reducible refine (HN.out _ mid.rdr).mono ?_);rintro e w1 ⟨rfl,r1,o1⟩;have mid1:=mid.next o1 r1;obtain⟨c0,c1,c2,c3,c4⟩:=r1.cell;obtain⟨f0,f1,f2,f3,f4⟩:=r1.frozen)
   | (go_at_call 69;(with_reducible refine (zq7 10 _ (by omega) (by omega)).mono ?_);rintro e w3 ⟨rfl,hb3⟩;unfold setV;have mid3:=mid1.below hb3)
   | (go_at_call 128;(with_reducible refine (zpj (rangeP 10 10) _).mono ?_);rintro e w5 ⟨rfl,hb5⟩;unfold setV;have mid5:=mid3.below hb5)
   | (go_at_call 126;(with_reducible refine (zkj (notP (rangeP 10 10)) _).mono ?_);rintro e w4 ⟨rfl,hb4⟩;unfold nodeV;have mid4:=mid5.below hb4;obtain⟨m0,m1,m2,m3,m4,m5,m6,m7⟩:=mid4.box.cell;obtain⟨y0,y1,y2,y3,y4,y5,y6,y7⟩:=mid4.box.frozen))
 refine bodyPost_ret (v:=nodeV (.one (notP (rangeP 10 10))) (.slice none 0 0)) ?_ rfl (mid4.ret (.nil _ rfl) HR.out);simp[nodeV,T.one,T.zero,T.op,T.set,T.lo,T.hi,za5,results,Tryd.results118,go_sem,m0,m1,m2,m3,m4,m5,m6,m7]
set_option maxRecDepth 20000 in
set_option maxHeartbeats 2000000 in
theorem zoh (w:World) (g:Nat) (s:ByteArray) (st:St) (h:Rdr w g s st) (hs:s.size<=1000) (hpos:st.pos<=s.size) (o:R T) (st1:St) (hc:st.next s=(91,st1)) (hr:∀ q st2,Rel s (cClass s st1.pos) st1 q st2->Rel s o st (.one q) st2) (hp1:st1.pos<=s.size):
   Calls Tryd.prog 118 #[.pointer (some ⟨g,0,none⟩)] w (RetNode w g s o st):=by
 have mid:=Mid.start h;have HN:=Zh (fun w h=>zbb w g s st h hs);simp only[hc] at HN;generalize hw0:w.alloc (.cells #[.int .i64 0,.int .u64 0,.int .u64 0,.int .u64 0,.int .u64 0,.int .i64 0,.int .i64 0,.slice none 0 0] 29)=w0 at mid;have HW:=Zh hw0;have HR:=Zh hr;clear hw0 hr hc;go_enter Tryd.func118,Tryd.ntmps118;go_wp2_with fail;rw[HW.out];clear HW;go_wp2_with (first
   | (go_at_call 119;(with_reducible refine (HN.out _ mid.rdr).mono ?_);rintro e w1 ⟨rfl,r1,o1⟩;have mid1:=mid.next o1 r1;obtain⟨c0,c1,c2,c3,c4⟩:=r1.cell;obtain⟨f0,f1,f2,f3,f4⟩:=r1.frozen)
   | (go_at_call 127;(with_reducible refine (zw0 _ g s st1 mid1.rdr hs hp1).mono ?_);rintro e w3 ⟨q,st2,rfl,r3,o3,hq⟩;replace HR:=Zh (HR.out q st2 hq);unfold setV;have mid3:=mid1.next o3 r3)
   | (go_at_call 126;(with_reducible refine (zkj q _).mono ?_);rintro e w4 ⟨rfl,hb4⟩;unfold nodeV;have mid4:=mid3.below hb4;obtain⟨m0,m1,m2,m3,m4,m5,m6,m7⟩:=mid4.box.cell;obtain⟨y0,y1,y2,y3,y4,y5,y6,y7⟩:=mid4.box.frozen))
 refine bodyPost_ret (v:=nodeV (.one q) (.slice none 0 0)) ?_ rfl (mid4.ret (.nil _ rfl) HR.out);simp[nodeV,T.one,T.zero,T.op,T.set,T.lo,T.hi,za5,results,Tryd.results118,go_sem,m0,m1,m2,m3,m4,m5,m6,m7]
set_option maxRecDepth 20000 in
set_option maxHeartbeats 2000000 in
theorem zuf (w:World) (g:Nat) (s:ByteArray) (st:St) (h:Rdr w g s st) (hs:s.size<=1000) (hpos:st.pos<=s.size) (o:R T) (st1:St) (hc:st.next s=(92,st1)) (hw:isWide (st1.peek s)=false) (hr:Rel s o st (.one (rangeP (st1.escaped s).1 (st1.escaped s).1)) (st1.escaped s).2) (hp1:st1.pos<=s.size):
   Calls Tryd.prog 118 #[.pointer (some ⟨g,0,none⟩)] w (RetNode w g s o st):=by
 have mid:=Mid.start h;have HN:=Zh (fun w h=>zbb w g s st h hs);simp only[hc] at HN;generalize hw0:w.alloc (.cells #[.int .i64 0,.int .u64 0,.int .u64 0,.int .u64 0,.int .u64 0,.int .i64 0,.int .i64 0,.slice none 0 0] 29)=w0 at mid;have HW:=Zh hw0;have HR:=Zh hr;clear hw0 hr hc;have hbd:0<=(st1.escaped s).1∧(st1.escaped s).1<=255:=zo8 s st1;have HE:=Zh (fun w h=>zjp w g s st1 h hs hp1);generalize (st1.escaped s).1=b at *;generalize (st1.escaped s).2=st2 at *;go_enter Tryd.func118,Tryd.ntmps118;go_wp2_with fail;rw[HW.out];clear HW;go_wp2_with (first
   | (go_at_call 119;(with_reducible refine (HN.out _ mid.rdr).mono ?_);rintro e w1 ⟨rfl,r1,o1⟩;have mid1:=mid.next o1 r1;obtain⟨c0,c1,c2,c3,c4⟩:=r1.cell;obtain⟨f0,f1,f2,f3,f4⟩:=r1.frozen)
   | (go_at_call 91;(with_reducible refine (zai _ g s st1 r1 hs).mono ?_);rintro e w2 ⟨rfl,n,rfl⟩;have mid2:=mid1.drewN n)
   | (go_at_call 129;(with_reducible refine (zl6 _ _).mono ?_);rintro e w3 ⟨rfl,hb3⟩;rw[hw];unfold setV;have mid3:=mid2.below hb3)
   | (go_at_call 130;(with_reducible refine (HE.out _ (mid3.alloc _).rdr).mono ?_);rintro e w5 ⟨rfl,r5,o5⟩;have mid5:=(mid3.alloc _).next o5 r5)
   | (go_at_call 69;(with_reducible refine (zq7 b _ (by omega) (by omega)).mono ?_);rintro e w6 ⟨rfl,hb6⟩;unfold setV;have mid6:=mid5.below hb6)
   | (go_at_call 126;(with_reducible refine (zkj (rangeP b b) _).mono ?_);rintro e w4 ⟨rfl,hb4⟩;unfold nodeV;have mid4:=mid6.below hb4;obtain⟨m0,m1,m2,m3,m4,m5,m6,m7⟩:=mid4.box.cell;obtain⟨y0,y1,y2,y3,y4,y5,y6,y7⟩:=mid4.box.frozen))
 refine bodyPost_ret (v:=nodeV (.one (rangeP b b)) (.slice none 0 0)) ?_ rfl (mid4.ret (.nil _ rfl) HR.out);simp[nodeV,T.one,T.zero,T.op,T.set,T.lo,T.hi,za5,results,Tryd.results118,go_sem,m0,m1,m2,m3,m4,m5,m6,m7]
set_option maxRecDepth 20000 in
set_option maxHeartbeats 2000000 in
theorem zs1 (w:World) (g:Nat) (s:ByteArray) (st:St) (h:Rdr w g s st) (hs:s.size<=1000) (hpos:st.pos<=s.size) (o:R T) (st1:St) (hc:st.next s=(92,st1)) (hw:isWide (st1.peek s)=true) (hr:Rel s o st (.one (wideP (st1.peek s))) (st1.step 1)) (hp1:st1.pos<s.size):
   Calls Tryd.prog 118 #[.pointer (some ⟨g,0,none⟩)] w (RetNode w g s o st):=by
 have mid:=Mid.start h;have HN:=Zh (fun w h=>zbb w g s st h hs);simp only[hc] at HN;generalize hw0:w.alloc (.cells #[.int .i64 0,.int .u64 0,.int .u64 0,.int .u64 0,.int .u64 0,.int .i64 0,.int .i64 0,.slice none 0 0] 29)=w0 at mid;have HW:=Zh hw0;have HR:=Zh hr;clear hw0 hr hc;go_enter Tryd.func118,Tryd.ntmps118;go_wp2_with fail;rw[HW.out];clear HW;go_wp2_with (first
   | (go_at_call 119;(with_reducible refine (HN.out _ mid.rdr).mono ?_);rintro e w1 ⟨rfl,r1,o1⟩;have mid1:=mid.next o1 r1;obtain⟨c0,c1,c2,c3,c4⟩:=r1.cell;obtain⟨f0,f1,f2,f3,f4⟩:=r1.frozen)
   | (go_at_call 91;(with_reducible refine (zai _ g s st1 r1 hs).mono ?_);rintro e w2 ⟨rfl,n,rfl⟩;have mid2:=mid1.drewN n)
   | (go_at_call 129;(with_reducible refine (zl6 _ _).mono ?_);rintro e w3 ⟨rfl,hb3⟩;rw[hw];unfold setV;have mid3:=mid2.below hb3;obtain⟨k0,k1,k2,k3,k4⟩:=mid3.rdr.cell;obtain⟨l0,l1,l2,l3,l4⟩:=mid3.rdr.frozen;have hg3:=mid3.rdr.lt;have hg4:g≠w3.heap.size:=by omega)
   | (go_at_call 126;(with_reducible refine (zkj (wideP (st1.peek s)) _).mono ?_);rintro e w4 ⟨rfl,hb4⟩;unfold nodeV;have mid4:=((mid3.setPos (st1.pos+1)).alloc _).below hb4;obtain⟨m0,m1,m2,m3,m4,m5,m6,m7⟩:=mid4.box.cell;obtain⟨y0,y1,y2,y3,y4,y5,y6,y7⟩:=mid4.box.frozen))
 refine bodyPost_ret (v:=nodeV (.one (wideP (st1.peek s))) (.slice none 0 0)) ?_ rfl (mid4.ret (.nil _ rfl) HR.out);simp[nodeV,T.one,T.zero,T.op,T.set,T.lo,T.hi,za5,results,Tryd.results118,go_sem,m0,m1,m2,m3,m4,m5,m6,m7]
set_option maxRecDepth 20000 in
set_option maxHeartbeats 2000000 in
theorem zs4 (w:World) (g:Nat) (s:ByteArray) (st:St) (h:Rdr w g s st) (hs:s.size<=1000) (hpos:st.pos<=s.size) (o:R T) (st1:St) (hc:st.next s=(40,st1)) (h20:st1.opn=20) (hr:Rel s o st T.zero (st1.fail ((st1.pos:Int)-1) 4)) (hp1:st1.pos<=s.size):
   Calls Tryd.prog 118 #[.pointer (some ⟨g,0,none⟩)] w (RetNode w g s o st):=by
 have mid:=Mid.start h;have HN:=Zh (fun w h=>zbb w g s st h hs);simp only[hc] at HN;generalize hw0:w.alloc (.cells #[.int .i64 0,.int .u64 0,.int .u64 0,.int .u64 0,.int .u64 0,.int .i64 0,.int .i64 0,.slice none 0 0] 29)=w0 at mid;have HW:=Zh hw0;have HR:=Zh hr;clear hw0 hr hc;have h20':(st1.opn==20)=true:=(by simpa using h20);clear h20;go_enter Tryd.func118,Tryd.ntmps118;go_wp2_with fail;rw[HW.out];clear HW;go_wp2_with (first
   | (go_at_call 119;(with_reducible refine (HN.out _ mid.rdr).mono ?_);rintro e w1 ⟨rfl,r1,o1⟩;have mid1:=mid.next o1 r1;obtain⟨c0,c1,c2,c3,c4⟩:=r1.cell;obtain⟨f0,f1,f2,f3,f4⟩:=r1.frozen)
   | (go_at_call 121;(with_reducible refine (zct _ g s st1 _ _ r1).mono ?_);rintro e w5 ⟨rfl,r5,o5⟩;have mid5:=mid1.next o5 r5;obtain⟨m0,m1,m2,m3,m4,m5,m6,m7⟩:=mid5.box.cell;obtain⟨y0,y1,y2,y3,y4,y5,y6,y7⟩:=mid5.box.frozen))
 refine bodyPost_ret (v:=nodeV T.zero (.slice none 0 0)) ?_ rfl (mid5.ret (.nil _ rfl) HR.out);simp[nodeV,T.one,T.zero,T.op,T.set,T.lo,T.hi,za5,results,Tryd.results118,go_sem,m0,m1,m2,m3,m4,m5,m6,m7]
end
end Go.Proofs.YtgbdanddbgomhaaDoor
