import Derived.Test.YtgbdanddbgomhaaGreatDoorMv33
import Derived.Test.YtgbdanddbgomhaaGreatDoorMv4
set_option linter.unusedVariables false
set_option linter.unusedSimpArgs false
namespace Go.Proofs.YtgbdanddbgomhaaGreatDoor
open Go Go.RowKit
section
def RetNode (w:World) (g:Nat) (s:ByteArray) (o:R T) (st:St) (e:Ending) (w':World):Prop:=
 ∃ t k st',e = .returned (nodeV t k)∧Tree w' (fun b=>w.heap.size<=b) t k∧Rdr w' g s st'∧w.grownBy w' (some g)∧Rel s o st t st'
structure Mid (w:World) (g:Nat) (s:ByteArray) (st:St) (wx:World):Prop where
 lt:g<w.heap.size
 rdr:Rdr wx g s st
 box:Box8 wx w.heap.size T.zero (.slice none 0 0)
 only:w.grownBy wx (some g)
section
variable {w wx wy:World} {g:Nat} {s:ByteArray} {st st':St}
theorem Mid.start (h:Rdr w g s st):Mid w g s st (w.alloc (.cells #[.int .i64 0,.int .u64 0,.int .u64 0,.int .u64 0,.int .u64 0,.int .i64 0,.int .i64 0,.slice none 0 0] 41)):=
 ⟨h.lt,h.alloc _,Box8.new0 w,za8 (za7 _ _) _⟩
theorem Mid.next (h:Mid w g s st wx) (o:wx.grownBy wy (some g)) (r:Rdr wy g s st'):Mid w g s st' wy:=
 ⟨h.lt,r,h.box.grown o (by have:=h.lt;simp;omega),za2 h.only o⟩
theorem Mid.below (h:Mid w g s st wx) (hb:Below wx.heap.size wx wy):Mid w g s st wy:=⟨h.lt,h.rdr.stays hb,h.box.stays hb,zab h.only hb⟩
theorem Mid.drewN (h:Mid w g s st wx) (n:Nat):Mid w g s st (wx.drewN n):=⟨h.lt,h.rdr.drewN n,h.box,za3 h.only n⟩
theorem Mid.alloc (h:Mid w g s st wx) (o:Obj):Mid w g s st (wx.alloc o):=⟨h.lt,h.rdr.alloc o,h.box.alloc o,za8 h.only o⟩
theorem Mid.setPos (h:Mid w g s st wx) (k:Nat):Mid w g s {st with pos:=k} (wx.setCell ⟨g,1,none⟩ (.int .i64 (k:Int))):=h.next (zaa (za7 _ _) _) (h.rdr.setPos k)
theorem Mid.setOpn (h:Mid w g s st wx) (k:Int):Mid w g s {st with opn:=k} (wx.setCell ⟨g,2,none⟩ (.int .i64 k)):=h.next (zaa (za7 _ _) _) (h.rdr.setOpn k)
theorem Mid.new (h:Mid w g s st wx):w.heap.size<wx.heap.size:=h.box.lt
theorem Mid.put8 (h:Mid w g s st wx) {b:Nat} (hb:w.heap.size<b) (t:T) (k:Value):Mid w g s st (put8 wx b t k):=
 ⟨h.lt,h.rdr.put8 (by have:=h.lt;omega) t k,h.box.putFar (by omega),zd8 h.only (by omega) t k⟩
theorem Mid.ret {o:R T} {st0:St} {t:T} {k:Value} (h:Mid w g s st wx) (ht:Tree wx (fun b=>w.heap.size<b) t k) (hr:Rel s o st0 t st):RetNode w g s o st0 (.returned (nodeV t k)) (Go.Proofs.YtgbdanddbgomhaaGreatDoor.put8 wx w.heap.size t k):=by
 have:=h.lt;exact⟨t,k,st,rfl,(ht.put8 fun b hb=>by omega).weak fun b hb _=>Nat.le_of_lt hb,h.rdr.put8 (by omega) t k,zd8 h.only (Nat.le_refl _) t k,hr⟩
end
theorem zjm (c:Int):memP [c]=rangeP c c:=by
 funext x
 unfold memP rangeP;rw[Bool.eq_iff_iff];simp;omega
theorem zl5 (c:Int) (h:0<=c):max c 0=c:=by omega
end
section
attribute [local go_sem ↓] Go.wp_at_zero Go.wp_at_succ
def Rx (w:World) (g:Nat) (s:ByteArray) (pos:Nat) (opn:Int):Prop:=
 w.heap[g]?=some (.cells #[.string s,.int .i64 (pos:Int),.int .i64 opn] 121 (0,0))
section
variable {w w':World} {g:Nat} {s:ByteArray} {pos:Nat} {opn:Int}
theorem Rx.cell (h:Rx w g s pos opn):w.cell? ⟨g,0,none⟩=some (.string s)∧w.cell? ⟨g,1,none⟩=some (.int .i64 (pos:Int))∧w.cell? ⟨g,2,none⟩=some (.int .i64 opn):=by
 unfold Rx at h;refine⟨?_,?_,?_⟩ <;> exact cell_of_row w g _ _ 121 (0,0) h
theorem Rx.frozen (h:Rx w g s pos opn):w.frozen? ⟨g,0,none⟩=false∧w.frozen? ⟨g,1,none⟩=false∧w.frozen? ⟨g,2,none⟩=false:=by
 unfold Rx at h;refine⟨?_,?_,?_⟩ <;> simp[World.frozen?,h]
theorem Rx.lt (h:Rx w g s pos opn):g<w.heap.size:=za0 h
theorem Rx.drewN (h:Rx w g s pos opn) (n:Nat):Rx (w.drewN n) g s pos opn:=h
theorem Rx.setPos (h:Rx w g s pos opn) (k:Nat):Rx (w.setCell ⟨g,1,none⟩ (.int .i64 (k:Int))) g s k opn:=by
 unfold Rx at *;simp[World.setCell,Array.getElem?_modify,h]
theorem Rx.setOpn (h:Rx w g s pos opn) (k:Int):Rx (w.setCell ⟨g,2,none⟩ (.int .i64 k)) g s pos k:=by
 unfold Rx at *;simp[World.setCell,Array.getElem?_modify,h]
theorem Rx.stays (h:Rx w g s pos opn) (hb:Below w.heap.size w w'):Rx w' g s pos opn:=(hb.block g h.lt).trans h
theorem Rx.alloc (h:Rx w g s pos opn) (o:Obj):Rx (w.alloc o) g s pos opn:=(Below.heap_alloc w o g h.lt).trans h
theorem Rx.block (h:Rx w g s pos opn) (hb:w'.heap[g]?=w.heap[g]?):Rx w' g s pos opn:=hb.trans h
end
def Fault (w':World) (B:Nat) (c a:Int) (e:Ending):Prop:=
 ∃ gs,B<=gs∧e = .panicked [{v := .iface 69 (.pointer (some ⟨gs,0,none⟩)),recovered:=false}]∧w'.heap[gs]?=some (.cells #[.int .i64 a,.int .i64 c] 73 (0,0))
theorem Fault.more {w':World} {B B':Nat} {c a:Int} {e:Ending} (h:Fault w' B c a e) (hB:B'<=B):Fault w' B' c a e:=by
 obtain⟨gs,h1,h2,h3⟩:=h;exact⟨gs,Nat.le_trans hB h1,h2,h3⟩
def XRet {α:Type} (w:World) (g:Nat) (s:ByteArray) (opn:Int) (r:R α) (val:α->Value->World->Prop) (e:Ending) (w':World):Prop:=match r with
 | .ok (a,p)=>(∃ v,e = .returned v∧val a v w')∧Rx w' g s p opn∧w.grownBy w' (some g)
 | .error (c,q)=>Fault w' w.heap.size c q e∧w.grownBy w' (some g)
def preB (a t:ByteArray):Bool:=decide (t.size<=a.size)&&((a.extract 0 t.size).toList==t.toList)
theorem zj9 (s:ByteArray) (pos n:Nat) (h:pos+n<=s.size):((s.extract pos s.size).extract 0 n).toList=(s.data.toList.drop pos).take n:=by
 rw[ByteArray.toList_eq,ByteArray.data_extract,ByteArray.data_extract,Array.toList_extract,Array.toList_extract];have hl:s.data.toList.length=s.size:=rfl;simp only[List.extract,List.drop_zero,Nat.sub_zero];rw[List.take_take]
 congr 1
 omega
theorem pre1 (s:ByteArray) (pos:Nat) (c:UInt8) (hp:pos<=s.size):preB (s.extract pos s.size) ⟨#[c]⟩=isB s pos c.toNat:=by
 have hz:(s.extract pos s.size).size=s.size-pos:=(by simp);have hl:s.data.toList.length=s.size:=rfl;unfold preB isB;rw[hz,ByteArray.toList_eq ⟨#[c]⟩]
 show (decide (1<=s.size-pos)&&(((s.extract pos s.size).extract 0 1).toList==[c]))=_
 by_cases h:pos<s.size
 . rw[zj9 s pos 1 (by omega),List.drop_eq_getElem_cons (by omega)];have e:bt s pos=(s.data.toList[pos]'(by omega)).toNat:=by
     unfold bt;rw[List.getD_eq_getElem?_getD,List.getElem?_eq_getElem (by omega)];rfl
   rw[e];generalize s.data.toList[pos]'(by omega)=x;rw[Bool.eq_iff_iff];simp[h,show 1<=s.size-pos by omega,UInt8.toNat_inj]
 . simp[h,show ¬ (1<=s.size-pos) by omega]
theorem pre2 (s:ByteArray) (pos:Nat) (c d:UInt8) (hp:pos<=s.size):preB (s.extract pos s.size) ⟨#[c,d]⟩=(isB s pos c.toNat&&isB s (pos+1) d.toNat):=by
 have hz:(s.extract pos s.size).size=s.size-pos:=(by simp);have hl:s.data.toList.length=s.size:=rfl;unfold preB isB;rw[hz,ByteArray.toList_eq ⟨#[c,d]⟩]
 show (decide (2<=s.size-pos)&&(((s.extract pos s.size).extract 0 2).toList==[c,d]))=_
 by_cases h:pos+1<s.size
 . rw[zj9 s pos 2 (by omega),List.drop_eq_getElem_cons (by omega),List.drop_eq_getElem_cons (by omega)];have e:∀ k,(hk:k<s.size)->bt s k=(s.data.toList[k]'(by omega)).toNat:=by
     intro k hk;unfold bt;rw[List.getD_eq_getElem?_getD,List.getElem?_eq_getElem (by omega)];rfl
   rw[e pos (by omega),e (pos+1) h];generalize s.data.toList[pos]'(by omega)=x;generalize s.data.toList[pos+1]'(by omega)=y;rw[Bool.eq_iff_iff];simp[h,show pos<s.size by omega,show 2<=s.size-pos by omega,UInt8.toNat_inj]
 . simp[h,show ¬ (2<=s.size-pos) by omega]
set_option maxHeartbeats 400000 in
theorem xhp_p (a t:ByteArray) (w:World) (ha:a.size<=1000) (ht:t.size<=2):
   Calls Tryz.prog 117 #[.string a,.string t] w fun e w'=>e = .returned (.bool (preB a t))∧w=w':=by
 by_cases hle:t.size<=a.size
 . have e:preB a t=((a.extract 0 t.size).toList==t.toList):=(by unfold preB;simp[hle]);rw[e];clear e;go_enter Tryz.func117,Tryz.ntmps117;go_wp2;go_ret;exact⟨rfl,rfl⟩
 . have e:preB a t=false:=(by unfold preB;simp[hle]);rw[e];clear e;go_enter Tryz.func117,Tryz.ntmps117;go_wp2;go_ret;exact⟨rfl,rfl⟩
theorem xhp_q (a t:ByteArray) (w:World) (ha:a.size<=1000) (ht:t.size<=2):
   Calls Tryz.prog 117 #[.string a,.string t] w fun e w'=>e = .returned (.bool (preB a t))∧∃ n,w'=w.drewN n:=
 (xhp_p a t w ha ht).mono fun e w' ⟨h1,h2⟩=>⟨h1,0,h2.symm⟩
set_option maxHeartbeats 400000 in
theorem zbj (w:World) (g:Nat) (s:ByteArray) (pos:Nat) (opn:Int) (h:Rx w g s pos opn) (hs:s.size<=1000):
   Calls Tryz.prog 64 #[.pointer (some ⟨g,0,none⟩)] w fun e w'=>e = .returned (.bool (pos==s.size))∧∃ n,w'=w.drewN n:=by
 obtain⟨c0,c1,c2⟩:=h.cell;go_enter Tryz.func64,Tryz.ntmps64;go_wp2;go_quiet (fail);go_wp2;go_ret;refine⟨congrArg Ending.returned (congrArg Value.bool ?_),_,rfl⟩;rw[Bool.eq_iff_iff];simp;omega
set_option maxHeartbeats 400000 in
theorem zqv (w:World) (g:Nat) (s:ByteArray) (pos:Nat) (opn:Int) (h:Rx w g s pos opn) (hs:s.size<=1000) (hp:pos<=s.size) (t:ByteArray) (ht:t.size<=2):
   Calls Tryz.prog 105 #[.pointer (some ⟨g,0,none⟩),.string t] w fun e w'=>e = .returned (.bool (preB (s.extract pos s.size) t))∧∃ n,w'=w.drewN n:=by
 obtain⟨c0,c1,c2⟩:=h.cell;have k0:(0:Int)<=(pos:Int):=(by omega);have k1:(pos:Int)<=(s.size:Int):=(by omega);have hx:(s.extract pos s.size).size<=1000:=(by simp;omega);go_enter Tryz.func105,Tryz.ntmps105;go_wp2;go_quiet ((go_at_call 117;exact Calls.quiet_of (xhp_q _ _ _ hx ht)));go_wp2;go_ret;exact⟨rfl,_,rfl⟩
set_option maxHeartbeats 400000 in
theorem zau (w:World) (g:Nat) (s:ByteArray) (pos:Nat) (opn:Int) (c:Int) (h:Rx w g s pos opn):
   Calls Tryz.prog 65 #[.pointer (some ⟨g,0,none⟩),.int .i64 c] w fun e w'=>e = .returned (.pointer (some ⟨w.heap.size,0,none⟩))∧w'=w.alloc (.cells #[.int .i64 (pos:Int),.int .i64 c] 73):=by
 obtain⟨c0,c1,c2⟩:=h.cell;go_enter Tryz.func65,Tryz.ntmps65;go_wp2;go_ret;exact⟨rfl,rfl⟩
end
section
attribute [local go_sem ↓] Go.wp_at_zero Go.wp_at_succ
theorem zn9 (c:Int) (w:World) (h0:0<=c) (h1:c<=255):
   Calls Tryz.prog 75 #[.slice (some ⟨w.heap.size,0,none⟩) 1 1] (w.alloc (.cells #[.int .u8 c] 5)) fun e w'=>e = .returned (setV (rangeP c c))∧Below w.heap.size w w':=by
 refine (zmr _ 1 1 [c] _ rfl (zmt w c) (by intro k hk;simp at hk;subst hk;exact⟨h0,h1⟩) (by simp)).mono ?_;rintro e w' ⟨rfl,hb⟩;rw[zjm];exact⟨rfl,gro1 (Below.refl _ _) hb⟩
theorem zle (s:ByteArray) (st':St):0<=(st'.escaped s).1∧(st'.escaped s).1<=255:=by
 have h:=zds s st';unfold St.escaped;simp only;split
 . simp
 . split
   . simp
   . split
     . rename_i h3;have:=zck _ _ h3;simp only;omega
     . simp
theorem zpf {s:ByteArray} {st st':St} {c n:Int} (h:st.next s=(c,st')) (hn:st.opn=n):st'.opn=n:=by
 have e:∀ (x:St) a b,(x.fail a b).opn=x.opn:=fun x a b=>by unfold St.fail;split <;> rfl
 unfold St.next at h;split at h
 . injection h with h1 h2;rw[←h2,e];exact hn
 . injection h with h1 h2;rw[←h2];exact hn
theorem zpo (st:St) (a b:Int):(st.fail a b).opn=st.opn:=by unfold St.fail;split <;> rfl
set_option maxRecDepth 20000 in
set_option maxHeartbeats 2000000 in
theorem zf8 (w:World) (g:Nat) (s:ByteArray) (st:St) (h:Rdr w g s st) (hs:s.size<=1000) (hpos:st.pos<=s.size) (o:R T) (c:Int) (st1:St) (hc:st.next s=(c,st1)) (h1:c≠40) (h2:c≠91) (h3:c≠46) (h4:c≠92) (h5:c≠42) (h6:c≠43) (hi:inT c stopT=false) (hb : -1<=c∧c<=255) (hr:Rel s o st (.one (rangeP (max c 0) (max c 0))) st1):
   Calls Tryz.prog 106 #[.pointer (some ⟨g,0,none⟩)] w (RetNode w g s o st):=by
 have mid:=Mid.start h;have HN:=Zh (fun w h=>zb3 w g s st h hs);simp only[hc] at HN;generalize hw0:w.alloc (.cells #[.int .i64 0,.int .u64 0,.int .u64 0,.int .u64 0,.int .u64 0,.int .i64 0,.int .i64 0,.slice none 0 0] 41)=w0 at mid;have HW:=Zh hw0;have HR:=Zh hr;clear hw0 hr hc;have e1:(c==40)=false:=(by simpa using h1);have e2:(c==91)=false:=(by simpa using h2);have e3:(c==46)=false:=(by simpa using h3);have e4:(c==92)=false:=(by simpa using h4);have e5:(c==42)=false:=(by simpa using h5);have e6:(c==43)=false:=(by simpa using h6);clear h1 h2 h3 h4 h5 h6;unfold stopT at hi;obtain⟨m,hm⟩:∃ m,max c 0=m:=⟨_,rfl⟩;have hm0:0<=m∧m<=255:=(by omega);rw[hm] at HR;have hif:(if c<0 then 0 else c)=m:=by split <;> omega
 clear hm;go_enter Tryz.func106,Tryz.ntmps106;go_wp2_with fail;rw[HW.out];clear HW;go_wp2_with (first
   | (go_at_call 107;(with_reducible refine (HN.out _ mid.rdr).mono ?_);rintro e w1 ⟨rfl,r1,o1⟩;have mid1:=mid.next o1 r1;obtain⟨c0,c1,c2,c3,c4⟩:=r1.cell;obtain⟨f0,f1,f2,f3,f4⟩:=r1.frozen)
   | (go_at_call 123;(with_reducible refine (in_p _ c ⟨#[93,41,125,123,124,63,94,36]⟩ (by decide)).mono ?_);rintro e w2 ⟨rfl,rfl⟩;rw[hi])
   | (go_at_call 75;(with_reducible refine (zn9 m _ (by omega) (by omega)).mono ?_);rintro e w3 ⟨rfl,hb3⟩;unfold setV;have mid3:=mid1.below hb3)
   | (go_at_call 118;(with_reducible refine (zii (rangeP m m) _).mono ?_);rintro e w4 ⟨rfl,hb4⟩;unfold nodeV;have mid4:=mid3.below hb4;obtain⟨m0,m1,m2,m3,m4,m5,m6,m7⟩:=mid4.box.cell;obtain⟨y0,y1,y2,y3,y4,y5,y6,y7⟩:=mid4.box.frozen))
 refine bodyPost_ret (v:=nodeV (.one (rangeP m m)) (.slice none 0 0)) ?_ rfl (mid4.ret (.nil _ rfl) HR.out);simp[nodeV,T.one,T.zero,T.op,T.set,T.lo,T.hi,za6,results,Tryz.results106,go_sem,m0,m1,m2,m3,m4,m5,m6,m7]
set_option maxRecDepth 20000 in
set_option maxHeartbeats 2000000 in
theorem zof (w:World) (g:Nat) (s:ByteArray) (st:St) (h:Rdr w g s st) (hs:s.size<=1000) (hpos:st.pos<=s.size) (o:R T) (c:Int) (st1:St) (hc:st.next s=(c,st1)) (h1:c≠40) (h2:c≠91) (h3:c≠46) (h4:c≠92) (h5:c≠42) (h6:c≠43) (hi:inT c stopT=true) (hb:0<=c∧c<=255) (hr:Rel s o st (.one (rangeP c c)) (st1.fail ((st1.pos:Int)-1) 2)) (hp1:st1.pos<=s.size):
   Calls Tryz.prog 106 #[.pointer (some ⟨g,0,none⟩)] w (RetNode w g s o st):=by
 have mid:=Mid.start h;have HN:=Zh (fun w h=>zb3 w g s st h hs);simp only[hc] at HN;generalize hw0:w.alloc (.cells #[.int .i64 0,.int .u64 0,.int .u64 0,.int .u64 0,.int .u64 0,.int .i64 0,.int .i64 0,.slice none 0 0] 41)=w0 at mid;have HW:=Zh hw0;have HR:=Zh hr;clear hw0 hr hc;have e1:(c==40)=false:=(by simpa using h1);have e2:(c==91)=false:=(by simpa using h2);have e3:(c==46)=false:=(by simpa using h3);have e4:(c==92)=false:=(by simpa using h4);have e5:(c==42)=false:=(by simpa using h5);have e6:(c==43)=false:=(by simpa using h6);clear h1 h2 h3 h4 h5 h6;unfold stopT at hi;go_enter Tryz.func106,Tryz.ntmps106;go_wp2_with fail;rw[HW.out];clear HW;go_wp2_with (first
   | (go_at_call 107;(with_reducible refine (HN.out _ mid.rdr).mono ?_);rintro e w1 ⟨rfl,r1,o1⟩;have mid1:=mid.next o1 r1;obtain⟨c0,c1,c2,c3,c4⟩:=r1.cell;obtain⟨f0,f1,f2,f3,f4⟩:=r1.frozen)
   | (go_at_call 123;(with_reducible refine (in_p _ c ⟨#[93,41,125,123,124,63,94,36]⟩ (by decide)).mono ?_);rintro e w2 ⟨rfl,rfl⟩;rw[hi])
   | (go_at_call 109;(with_reducible refine (zcc _ g s st1 _ _ r1).mono ?_);rintro e w5 ⟨rfl,r5,o5⟩;have mid5:=mid1.next o5 r5)
   | (go_at_call 75;(with_reducible refine (zn9 c _ (by omega) (by omega)).mono ?_);rintro e w3 ⟨rfl,hb3⟩;unfold setV;have mid3:=mid5.below hb3)
   | (go_at_call 118;(with_reducible refine (zii (rangeP c c) _).mono ?_);rintro e w4 ⟨rfl,hb4⟩;unfold nodeV;have mid4:=mid3.below hb4;obtain⟨m0,m1,m2,m3,m4,m5,m6,m7⟩:=mid4.box.cell;obtain⟨y0,y1,y2,y3,y4,y5,y6,y7⟩:=mid4.box.frozen))
 refine bodyPost_ret (v:=nodeV (.one (rangeP c c)) (.slice none 0 0)) ?_ rfl (mid4.ret (.nil _ rfl) HR.out);simp[nodeV,T.one,T.zero,T.op,T.set,T.lo,T.hi,za6,results,Tryz.results106,go_sem,m0,m1,m2,m3,m4,m5,m6,m7]
set_option maxRecDepth 20000 in
set_option maxHeartbeats 2000000 in
theorem zog (w:World) (g:Nat) (s:ByteArray) (st:St) (h:Rdr w g s st) (hs:s.size<=1000) (hpos:st.pos<=s.size) (o:R T) (c:Int) (st1:St) (hc:st.next s=(c,st1)) (h5:c=42∨c=43) (hr:Rel s o st (.one (rangeP c c)) (st1.fail ((st1.pos:Int)-1) 3)) (hp1:st1.pos<=s.size):
   Calls Tryz.prog 106 #[.pointer (some ⟨g,0,none⟩)] w (RetNode w g s o st):=by
 have mid:=Mid.start h;have HN:=Zh (fun w h=>zb3 w g s st h hs);simp only[hc] at HN;generalize hw0:w.alloc (.cells #[.int .i64 0,.int .u64 0,.int .u64 0,.int .u64 0,.int .u64 0,.int .i64 0,.int .i64 0,.slice none 0 0] 41)=w0 at mid;have HW:=Zh hw0;have HR:=Zh hr;clear hw0 hr hc;have hi:inT c ⟨#[93,41,125,123,124,63,94,36]⟩=false:=by rcases h5 with rfl|rfl <;> decide
 rcases h5 with rfl|rfl
 all_goals
   go_enter Tryz.func106,Tryz.ntmps106;go_wp2_with fail;rw[HW.out];clear HW;go_wp2_with (first
     | (go_at_call 107;(with_reducible refine (HN.out _ mid.rdr).mono ?_);rintro e w1 ⟨rfl,r1,o1⟩;have mid1:=mid.next o1 r1;obtain⟨c0,c1,c2,c3,c4⟩:=r1.cell;obtain⟨f0,f1,f2,f3,f4⟩:=r1.frozen)
     | (go_at_call 123;(with_reducible refine (in_p _ _ ⟨#[93,41,125,123,124,63,94,36]⟩ (by decide)).mono ?_);rintro e w2 ⟨rfl,rfl⟩;rw[hi])
     | (go_at_call 109;(with_reducible refine (zcc _ g s st1 _ _ r1).mono ?_);rintro e w5 ⟨rfl,r5,o5⟩;have mid5:=mid1.next o5 r5)
     | (go_at_call 75;(with_reducible refine (zn9 _ _ (by omega) (by omega)).mono ?_);rintro e w3 ⟨rfl,hb3⟩;unfold setV;have mid3:=mid5.below hb3)
     | (go_at_call 118;(with_reducible refine (zii _ _).mono ?_);rintro e w4 ⟨rfl,hb4⟩;unfold nodeV;have mid4:=mid3.below hb4;obtain⟨m0,m1,m2,m3,m4,m5,m6,m7⟩:=mid4.box.cell;obtain⟨y0,y1,y2,y3,y4,y5,y6,y7⟩:=mid4.box.frozen))
   refine bodyPost_ret (v:=nodeV (.one (rangeP _ _)) (.slice none 0 0)) ?_ rfl (mid4.ret (.nil _ rfl) HR.out);simp[nodeV,T.one,T.zero,T.op,T.set,T.lo,T.hi,za6,results,Tryz.results106,go_sem,m0,m1,m2,m3,m4,m5,m6,m7]
set_option maxRecDepth 20000 in
set_option maxHeartbeats 2000000 in
theorem zqf (w:World) (g:Nat) (s:ByteArray) (st:St) (h:Rdr w g s st) (hs:s.size<=1000) (hpos:st.pos<=s.size) (o:R T) (st1:St) (hc:st.next s=(46,st1)) (hr:Rel s o st (.one (notP (rangeP 10 10))) st1):
   Calls Tryz.prog 106 #[.pointer (some ⟨g,0,none⟩)] w (RetNode w g s o st):=by
 have mid:=Mid.start h;have HN:=Zh (fun w h=>zb3 w g s st h hs);simp only[hc] at HN;generalize hw0:w.alloc (.cells #[.int .i64 0,.int .u64 0,.int .u64 0,.int .u64 0,.int .u64 0,.int .i64 0,.int .i64 0,.slice none 0 0] 41)=w0 at mid;have HW:=Zh hw0;have HR:=Zh hr;clear hw0 hr hc;go_enter Tryz.func106,Tryz.ntmps106;go_wp2_with fail;rw[HW.out];clear HW;go_wp2_with (first
   | (go_at_call 107;(with_reducible refine (HN.out _ mid.rdr).mono ?_);rintro e w1 ⟨rfl,r1,o1⟩;have mid1:=mid.next o1 r1;obtain⟨c0,c1,c2,c3,c4⟩:=r1.cell;obtain⟨f0,f1,f2,f3,f4⟩:=r1.frozen)
   | (go_at_call 75;(with_reducible refine (zn9 10 _ (by omega) (by omega)).mono ?_);rintro e w3 ⟨rfl,hb3⟩;unfold setV;have mid3:=mid1.below hb3)
   | (go_at_call 120;(with_reducible refine (zms (rangeP 10 10) _).mono ?_);rintro e w5 ⟨rfl,hb5⟩;unfold setV;have mid5:=mid3.below hb5)
   | (go_at_call 118;(with_reducible refine (zii (notP (rangeP 10 10)) _).mono ?_);rintro e w4 ⟨rfl,hb4⟩;unfold nodeV;have mid4:=mid5.below hb4;obtain⟨m0,m1,m2,m3,m4,m5,m6,m7⟩:=mid4.box.cell;obtain⟨y0,y1,y2,y3,y4,y5,y6,y7⟩:=mid4.box.frozen))
 refine bodyPost_ret (v:=nodeV (.one (notP (rangeP 10 10))) (.slice none 0 0)) ?_ rfl (mid4.ret (.nil _ rfl) HR.out);simp[nodeV,T.one,T.zero,T.op,T.set,T.lo,T.hi,za6,results,Tryz.results106,go_sem,m0,m1,m2,m3,m4,m5,m6,m7]
set_option maxRecDepth 20000 in
set_option maxHeartbeats 2000000 in
theorem zls (w:World) (g:Nat) (s:ByteArray) (st:St) (h:Rdr w g s st) (hs:s.size<=1000) (hpos:st.pos<=s.size) (o:R T) (st1:St) (hc:st.next s=(91,st1)) (hr:∀ q st2,Rel s (cClass s st1.pos) st1 q st2->Rel s o st (.one q) st2) (hp1:st1.pos<=s.size):
   Calls Tryz.prog 106 #[.pointer (some ⟨g,0,none⟩)] w (RetNode w g s o st):=by
 have mid:=Mid.start h;have HN:=Zh (fun w h=>zb3 w g s st h hs);simp only[hc] at HN;generalize hw0:w.alloc (.cells #[.int .i64 0,.int .u64 0,.int .u64 0,.int .u64 0,.int .u64 0,.int .i64 0,.int .i64 0,.slice none 0 0] 41)=w0 at mid;have HW:=Zh hw0;have HR:=Zh hr;clear hw0 hr hc;go_enter Tryz.func106,Tryz.ntmps106;go_wp2_with fail;rw[HW.out];clear HW;go_wp2_with (first
   | (go_at_call 107;(with_reducible refine (HN.out _ mid.rdr).mono ?_);rintro e w1 ⟨rfl,r1,o1⟩;have mid1:=mid.next o1 r1;obtain⟨c0,c1,c2,c3,c4⟩:=r1.cell;obtain⟨f0,f1,f2,f3,f4⟩:=r1.frozen)
   | (go_at_call 119;(with_reducible refine (zs2 _ g s st1 mid1.rdr hs hp1).mono ?_);rintro e w3 ⟨q,st2,rfl,r3,o3,hq⟩;replace HR:=Zh (HR.out q st2 hq);unfold setV;have mid3:=mid1.next o3 r3)
   | (go_at_call 118;(with_reducible refine (zii q _).mono ?_);rintro e w4 ⟨rfl,hb4⟩;unfold nodeV;have mid4:=mid3.below hb4;obtain⟨m0,m1,m2,m3,m4,m5,m6,m7⟩:=mid4.box.cell;obtain⟨y0,y1,y2,y3,y4,y5,y6,y7⟩:=mid4.box.frozen))
 refine bodyPost_ret (v:=nodeV (.one q) (.slice none 0 0)) ?_ rfl (mid4.ret (.nil _ rfl) HR.out);simp[nodeV,T.one,T.zero,T.op,T.set,T.lo,T.hi,za6,results,Tryz.results106,go_sem,m0,m1,m2,m3,m4,m5,m6,m7]
set_option maxRecDepth 20000 in
set_option maxHeartbeats 2000000 in
theorem zqe (w:World) (g:Nat) (s:ByteArray) (st:St) (h:Rdr w g s st) (hs:s.size<=1000) (hpos:st.pos<=s.size) (o:R T) (st1:St) (hc:st.next s=(92,st1)) (hw:isWide (st1.peek s)=false) (hr:Rel s o st (.one (rangeP (st1.escaped s).1 (st1.escaped s).1)) (st1.escaped s).2) (hp1:st1.pos<=s.size):
   Calls Tryz.prog 106 #[.pointer (some ⟨g,0,none⟩)] w (RetNode w g s o st):=by
 have mid:=Mid.start h;have HN:=Zh (fun w h=>zb3 w g s st h hs);simp only[hc] at HN;generalize hw0:w.alloc (.cells #[.int .i64 0,.int .u64 0,.int .u64 0,.int .u64 0,.int .u64 0,.int .i64 0,.int .i64 0,.slice none 0 0] 41)=w0 at mid;have HW:=Zh hw0;have HR:=Zh hr;clear hw0 hr hc;have hbd:0<=(st1.escaped s).1∧(st1.escaped s).1<=255:=zle s st1;have HE:=Zh (fun w h=>zhs w g s st1 h hs hp1);generalize (st1.escaped s).1=b at *;generalize (st1.escaped s).2=st2 at *;go_enter Tryz.func106,Tryz.ntmps106;go_wp2_with fail;rw[HW.out];clear HW;go_wp2_with (first
   | (go_at_call 107;(with_reducible refine (HN.out _ mid.rdr).mono ?_);rintro e w1 ⟨rfl,r1,o1⟩;have mid1:=mid.next o1 r1;obtain⟨c0,c1,c2,c3,c4⟩:=r1.cell;obtain⟨f0,f1,f2,f3,f4⟩:=r1.frozen)
   | (go_at_call 72;(with_reducible refine (zae _ g s st1 r1 hs).mono ?_);rintro e w2 ⟨rfl,n,rfl⟩;have mid2:=mid1.drewN n)
   | (go_at_call 121;(with_reducible refine (zj0 _ _).mono ?_);rintro e w3 ⟨rfl,hb3⟩;rw[hw];unfold setV;have mid3:=mid2.below hb3)
   | (go_at_call 122;(with_reducible refine (HE.out _ (mid3.alloc _).rdr).mono ?_);rintro e w5 ⟨rfl,r5,o5⟩;have mid5:=(mid3.alloc _).next o5 r5)
   | (go_at_call 75;(with_reducible refine (zn9 b _ (by omega) (by omega)).mono ?_);rintro e w6 ⟨rfl,hb6⟩;unfold setV;have mid6:=mid5.below hb6)
   | (go_at_call 118;(with_reducible refine (zii (rangeP b b) _).mono ?_);rintro e w4 ⟨rfl,hb4⟩;unfold nodeV;have mid4:=mid6.below hb4;obtain⟨m0,m1,m2,m3,m4,m5,m6,m7⟩:=mid4.box.cell;obtain⟨y0,y1,y2,y3,y4,y5,y6,y7⟩:=mid4.box.frozen))
 refine bodyPost_ret (v:=nodeV (.one (rangeP b b)) (.slice none 0 0)) ?_ rfl (mid4.ret (.nil _ rfl) HR.out);simp[nodeV,T.one,T.zero,T.op,T.set,T.lo,T.hi,za6,results,Tryz.results106,go_sem,m0,m1,m2,m3,m4,m5,m6,m7]
set_option maxRecDepth 20000 in
set_option maxHeartbeats 2000000 in
theorem zoe (w:World) (g:Nat) (s:ByteArray) (st:St) (h:Rdr w g s st) (hs:s.size<=1000) (hpos:st.pos<=s.size) (o:R T) (st1:St) (hc:st.next s=(92,st1)) (hw:isWide (st1.peek s)=true) (hr:Rel s o st (.one (wideP (st1.peek s))) (st1.step 1)) (hp1:st1.pos<s.size):
   Calls Tryz.prog 106 #[.pointer (some ⟨g,0,none⟩)] w (RetNode w g s o st):=by
 have mid:=Mid.start h;have HN:=Zh (fun w h=>zb3 w g s st h hs);simp only[hc] at HN;generalize hw0:w.alloc (.cells #[.int .i64 0,.int .u64 0,.int .u64 0,.int .u64 0,.int .u64 0,.int .i64 0,.int .i64 0,.slice none 0 0] 41)=w0 at mid;have HW:=Zh hw0;have HR:=Zh hr;clear hw0 hr hc;go_enter Tryz.func106,Tryz.ntmps106;go_wp2_with fail;rw[HW.out];clear HW;go_wp2_with (first
   | (go_at_call 107;(with_reducible refine (HN.out _ mid.rdr).mono ?_);rintro e w1 ⟨rfl,r1,o1⟩;have mid1:=mid.next o1 r1;obtain⟨c0,c1,c2,c3,c4⟩:=r1.cell;obtain⟨f0,f1,f2,f3,f4⟩:=r1.frozen)
   | (go_at_call 72;(with_reducible refine (zae _ g s st1 r1 hs).mono ?_);rintro e w2 ⟨rfl,n,rfl⟩;have mid2:=mid1.drewN n)
   | (go_at_call 121;(with_reducible refine (zj0 _ _).mono ?_);rintro e w3 ⟨rfl,hb3⟩;rw[hw];unfold setV;have mid3:=mid2.below hb3;obtain⟨k0,k1,k2,k3,k4⟩:=mid3.rdr.cell;obtain⟨l0,l1,l2,l3,l4⟩:=mid3.rdr.frozen;have hg3:=mid3.rdr.lt;have hg4:g≠w3.heap.size:=by omega)
   | (go_at_call 118;(with_reducible refine (zii (wideP (st1.peek s)) _).mono ?_);rintro e w4 ⟨rfl,hb4⟩;unfold nodeV;have mid4:=((mid3.setPos (st1.pos+1)).alloc _).below hb4;obtain⟨m0,m1,m2,m3,m4,m5,m6,m7⟩:=mid4.box.cell;obtain⟨y0,y1,y2,y3,y4,y5,y6,y7⟩:=mid4.box.frozen))
 refine bodyPost_ret (v:=nodeV (.one (wideP (st1.peek s))) (.slice none 0 0)) ?_ rfl (mid4.ret (.nil _ rfl) HR.out);simp[nodeV,T.one,T.zero,T.op,T.set,T.lo,T.hi,za6,results,Tryz.results106,go_sem,m0,m1,m2,m3,m4,m5,m6,m7]
set_option maxRecDepth 20000 in
set_option maxHeartbeats 2000000 in
theorem zoh (w:World) (g:Nat) (s:ByteArray) (st:St) (h:Rdr w g s st) (hs:s.size<=1000) (hpos:st.pos<=s.size) (o:R T) (st1:St) (hc:st.next s=(40,st1)) (h20:st1.opn=20) (hr:Rel s o st T.zero (st1.fail ((st1.pos:Int)-1) 4)) (hp1:st1.pos<=s.size):
   Calls Tryz.prog 106 #[.pointer (some ⟨g,0,none⟩)] w (RetNode w g s o st):=by
 have mid:=Mid.start h;have HN:=Zh (fun w h=>zb3 w g s st h hs);simp only[hc] at HN;generalize hw0:w.alloc (.cells #[.int .i64 0,.int .u64 0,.int .u64 0,.int .u64 0,.int .u64 0,.int .i64 0,.int .i64 0,.slice none 0 0] 41)=w0 at mid;have HW:=Zh hw0;have HR:=Zh hr;clear hw0 hr hc;have h20':(st1.opn==20)=true:=(by simpa using h20);clear h20;go_enter Tryz.func106,Tryz.ntmps106;go_wp2_with fail;rw[HW.out];clear HW;go_wp2_with (first
   | (go_at_call 107;(with_reducible refine (HN.out _ mid.rdr).mono ?_);rintro e w1 ⟨rfl,r1,o1⟩;have mid1:=mid.next o1 r1;obtain⟨c0,c1,c2,c3,c4⟩:=r1.cell;obtain⟨f0,f1,f2,f3,f4⟩:=r1.frozen)
   | (go_at_call 109;(with_reducible refine (zcc _ g s st1 _ _ r1).mono ?_);rintro e w5 ⟨rfl,r5,o5⟩;have mid5:=mid1.next o5 r5;obtain⟨m0,m1,m2,m3,m4,m5,m6,m7⟩:=mid5.box.cell;obtain⟨y0,y1,y2,y3,y4,y5,y6,y7⟩:=mid5.box.frozen))
 refine bodyPost_ret (v:=nodeV T.zero (.slice none 0 0)) ?_ rfl (mid5.ret (.nil _ rfl) HR.out);simp[nodeV,T.one,T.zero,T.op,T.set,T.lo,T.hi,za6,results,Tryz.results106,go_sem,m0,m1,m2,m3,m4,m5,m6,m7]
end
end Go.Proofs.YtgbdanddbgomhaaGreatDoor
