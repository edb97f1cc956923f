import Derived.Test.YtipfgpfplakhiaaTc31
set_option linter.unusedVariables false
set_option linter.unusedSimpArgs false
set_option maxRecDepth 20000
set_option maxHeartbeats 4000000
namespace Go.Proofs.Ytipfgpfplakhiaa
open Go Go.RowKit
section
attribute [local go_sem ↓] Go.wp_at_zero Go.wp_at_succ
theorem Tree.kid {w:World} {ok:Nat->Prop} {t:T} {k:Value} (h:Tree w ok t k) (hok:ok w.heap.size) (op:Int) (p:Nat->Bool) (lo hi:Int):
 Tree (w.alloc (.cells #[.int .i64 t.op,.int .u64 (word t.set 0),.int .u64 (word t.set 1),.int .u64 (word t.set 2),.int .u64 (word t.set 3),.int .i64 t.lo,.int .i64 t.hi,k] 67)) ok (.mk op p lo hi [t]) (.slice (some ⟨w.heap.size,0,none⟩) 1 1):=by
 refine .row (.mk op p lo hi [t]) w.heap.size 1 _ [k] (heap_alloc_new w _) hok rfl yk3 (ygo _) yk6 rfl rfl fun i t' k' e1 e2=>?_
 match i,e1,e2 with
 | 0,e1,e2 =>
  have e1:t=t':=(by simpa [T.kids] using e1);have e2:k=k':=(by simpa using e2);subst e1 e2;exact h.alloc _
def St.times (s:ByteArray) (st:St):(Int×Int)×St:=
 let lo:=(st.number s).1
 let st1:=(st.number s).2
 let hi:=if st1.peek s=44 then ((st1.step 1).number s).1 else lo
 let st2:=if st1.peek s=44 then ((st1.step 1).number s).2 else st1
 let d:=(st2.next s).1
 let st3:=(st2.next s).2
 ((lo,hi),if d=125∧1<=hi∧hi<=32∧lo<=hi then st3 else st3.fail ((st3.pos:Int)-1) 2)
theorem zv2 (s:ByteArray) (st:St) (hpos:st.pos<=s.size):Rel s (zht s st.pos) st (st.times s).1 (st.times s).2:=by
 have h1:=zi4 s st hpos;unfold St.times zht;simp only;revert h1;generalize (st.number s).1=lo;generalize (st.number s).2=st1;intro h1;have h2:Rel s (if st.bad=0∧st1.bad=0 then (if isB s st1.pos 44=true then cNum s (st1.pos+1) else .ok (lo,st1.pos)) else .ok (lo,st1.pos)) st1 (if st1.peek s=44 then ((st1.step 1).number s).1 else lo) (if st1.peek s=44 then ((st1.step 1).number s).2 else st1):=by
  by_cases hb1:st1.bad=0
  .by_cases h44:isB s st1.pos 44=true
   .have hp:=(zbq s st1 hb1 44).2 h44;have hlt:=zhh h44;rw[if_pos (show st1.peek s=44 from hp),if_pos (show st1.peek s=44 from hp)];have:=(zi4 s (st1.step 1) (by show st1.pos+1<=s.size;omega)).from (st:=st1) rfl rfl rfl
    refine this.swap fun _=>?_
    have hb:st.bad=0:=Classical.not_not.1 fun hb=>h1.bad hb hb1
    rw[if_pos ⟨hb,hb1⟩,if_pos h44];rfl
   .have hp:¬ (st1.peek s=44):=fun h=>h44 ((zbq s st1 hb1 44).1 h)
    rw[if_neg hp,if_neg hp,if_neg h44];refine Rel.mk0 rfl h1.pos (fun h=>absurd hb1 h) fun _ => .inl ⟨hb1,by split <;> rfl⟩
  .have hp:¬ (st1.peek s=44):=(by rw[zj5 s st1 hb1];omega);rw[if_neg hp,if_neg hp];exact Rel.mk0 rfl h1.pos (fun _=>⟨rfl,rfl⟩) fun h=>absurd h hb1
 revert h2;generalize (if st1.peek s=44 then ((st1.step 1).number s).1 else lo)=hi;generalize (if st1.peek s=44 then ((st1.step 1).number s).2 else st1)=st2;intro h2;have hend:st2.bad≠0->(if (st2.next s).1=125∧1<=hi∧hi<=32∧lo<=hi then (st2.next s).2 else (st2.next s).2.fail (((st2.next s).2.pos:Int)-1) 2)=st2:=by
  intro hz;rw[zfa s st2 hz];rw[if_neg yk3,zdh _ hz]
 refine h1.then (fun hz=>?_) fun hb hb1=>?_
 .have:=h2.2.2.1 hz;rw[hend (h2.bad hz)];exact⟨this.1,this.2,h2.opn,h2.pos⟩
 .refine (h2.swap (r':=if isB s st1.pos 44=true then cNum s (st1.pos+1) else .ok (lo,st1.pos)) fun _=>by rw[if_pos ⟨hb,hb1⟩]).then (fun hz=>?_) fun _ hb2=>?_
  .rw[hend hz];exact⟨rfl,rfl,rfl,h2.pos⟩
  .by_cases hp:st2.pos<s.size
   .rw[zf9 s st2 hb2 hp]
    by_cases hc:isB s st2.pos 125=true∧1<=hi∧hi<=32∧lo<=hi
    .have:=zhh hc.1;rw[if_pos hc,if_pos ⟨by simp only;omega,hc.2⟩];exact Rel.mk0 rfl yl4 (fun h=>absurd hb2 h) fun _ => .inl ⟨hb2,rfl⟩
    .rw[if_neg hc,if_neg (fun h=>hc ⟨by have:=h.1;simp only at this;simp[isB,hp];omega,h.2⟩),zek _ (by exact hb2)];exact Rel.mk0 rfl yl4 (fun h=>absurd hb2 h) fun _ => .inr ⟨by simp,by simp[St.step]⟩
   .rw[zga s st2 hb2 yjz];have:=h2.pos;rw[if_neg (by simp[isB,hp]),if_neg yk3,zdh _ yk3];refine Rel.mk0 rfl h2.pos (fun h=>absurd hb2 h) fun _ => .inr ⟨by simp,?_⟩
    simp;omega
theorem zfr (w:World) (g:Nat) (t:T) (k:Value):(put8 w g t k).heap.size=w.heap.size:=by simp[put8,World.setCell]
theorem zfq {w wx:World} {g:Nat} {s:ByteArray} {st:St} {gx:Nat} {t:T} {k:Value} (mid:Mid w g s st wx) (hgx:w.heap.size<gx) (bx:Box8 wx gx t k) (ht:Tree wx (fun b=>w.heap.size<b∧b≠gx) t k) (lo hi:Int) {W:World}
 (hW:W=((((((((wx.setCell ⟨gx,0,none⟩ (.int .i64 4)).setCell ⟨gx,1,none⟩ (.int .u64 0)).setCell ⟨gx,2,none⟩ (.int .u64 0)).setCell ⟨gx,3,none⟩ (.int .u64 0)).setCell ⟨gx,4,none⟩ (.int .u64 0)).setCell ⟨gx,5,none⟩ (.int .i64 lo)).setCell ⟨gx,6,none⟩ (.int .i64 hi)).setCell ⟨gx,7,none⟩ (.slice (some ⟨wx.heap.size,0,none⟩) 1 1)).alloc
   (.cells #[.int .i64 t.op,.int .u64 (word t.set 0),.int .u64 (word t.set 1),.int .u64 (word t.set 2),.int .u64 (word t.set 3),.int .i64 t.lo,.int .i64 t.hi,k] 67)):
 Mid w g s st W∧Box8 W gx (T.rep lo hi t) (.slice (some ⟨wx.heap.size,0,none⟩) 1 1)∧Tree W (fun b=>w.heap.size<b∧b≠gx) (T.rep lo hi t) (.slice (some ⟨wx.heap.size,0,none⟩) 1 1):=by
 have e:W=(put8 wx gx (T.rep lo hi t) (.slice (some ⟨wx.heap.size,0,none⟩) 1 1)).alloc (.cells #[.int .i64 t.op,.int .u64 (word t.set 0),.int .u64 (word t.set 1),.int .u64 (word t.set 2),.int .u64 (word t.set 3),.int .i64 t.lo,.int .i64 t.hi,k] 67):=by
  rw[hW];simp only[put8,T.rep,T.op,T.set,T.lo,T.hi,zah]
 rw[e];have hx:=bx.lt;refine⟨(mid.put8 hgx _ _).alloc _,(bx.put (t':=t) (k':=k) _ _).alloc _,?_⟩;have h:=(ht.put8 (t':=T.rep lo hi t) (k' := .slice (some ⟨wx.heap.size,0,none⟩) 1 1) fun b hb=>hb.2).kid (by rw[zfr];exact⟨mid.new,by omega⟩) 4 zaa lo hi;rw[zfr] at h;exact h
theorem zlg (s:ByteArray) (st:St) (h:st.pos<=s.size):(st.number s).2.pos<=s.size:=(zi4 s st h).pos
theorem ydb (w:World) (g:Nat) (s:ByteArray) (st:St) (h:Rdr w g s st) (hs:s.size<=1000) (hpos:st.pos<=s.size) (deep:Option (Nat->R T)) (hd:Deep g s deep st.opn):
 Calls Try.prog 82 #[.pointer (some ⟨g,0,none⟩)] w (zbn w g s (zey s deep st.pos) st):=by
 have mid:=Mid.start h;have HA:=Zh (fun w h=>yft w g s st h hs hpos deep hd);have hgw:=h.lt;have hgb:g≠w.heap.size:=yjz;have hgb':w.heap.size≠g:=yjz;generalize hw0:w.alloc (.cells #[.int .i64 0,.int .u64 0,.int .u64 0,.int .u64 0,.int .u64 0,.int .i64 0,.int .i64 0,.slice none 0 0] 67)=w0 at mid;have HW:=Zh hw0;clear hw0 hd;go_enter Try.func82,Try.ntmps82;go_wp2_with fail;rw[HW.o];clear HW;go_wp2_with (go_at_call 83;(with_reducible refine (HA.o _ mid.rdr).mono ?_);rintro e w1 ⟨t1,k1,st1,rfl,ht1,r1,o1,hr1⟩;obtain⟨A,tn,tc,rfl⟩:=ht1.form;unfold zal;have mid1:=mid.next o1 r1;have hw1:=mid1.new);have bx:=Box8.new w1 t1 (.slice A tn tc);have hgo:=Zh (Going.start (step:=zda s) (f:=id) hr1);generalize hm0:(if st1.bad=0 then s.size+1 else 0)=m0 at hgo;simp only[id] at hgo;have ht2:Tree (w1.alloc (.cells #[.int .i64 t1.op,.int .u64 (word t1.set 0),.int .u64 (word t1.set 1),.int .u64 (word t1.set 2),.int .u64 (word t1.set 3),.int .i64 t1.lo,.int .i64 t1.hi,(.slice A tn tc)] 67)) (fun b=>w.heap.size<b∧b≠w1.heap.size) t1 (.slice A tn tc):=
  (ht1.weak fun b hb hlt=>⟨by have:=mid.new;omega,by omega⟩).alloc _
 have mid2:=mid1.alloc (.cells #[.int .i64 t1.op,.int .u64 (word t1.set 0),.int .u64 (word t1.set 1),.int .u64 (word t1.set 2),.int .u64 (word t1.set 3),.int .i64 t1.lo,.int .i64 t1.hi,(.slice A tn tc)] 67);have hgx:g≠w1.heap.size:=(by have:=mid1.rdr.lt;omega);generalize w1.alloc (.cells #[.int .i64 t1.op,.int .u64 (word t1.set 0),.int .u64 (word t1.set 1),.int .u64 (word t1.set 2),.int .u64 (word t1.set 3),.int .i64 t1.lo,.int .i64 t1.hi,(.slice A tn tc)] 67)=w2 at *;generalize w1.heap.size=gx at *;have hgx':gx≠g:=yjz;have hbx:w.heap.size≠gx:=yjz;have hbx':gx≠w.heap.size:=yjz;clear hm0 mid mid1 HA r1 o1 hr1 ht1;go_loopg [] m0 (fun m wr=>∃ t k st2,Mid w g s st2 wr∧Box8 wr gx t k∧Tree wr (fun b=>w.heap.size<b∧b≠gx) t k∧Going s (zbd (zl1 s deep st.pos) fun b p=>zca (zda s) (s.size+1) b p) (zda s) st m t st2)
 case atStart=>exact⟨t1,_,st1,mid2,bx,ht2,hgo.out⟩
 case round =>
  clear mid2 bx ht2 hgo;obtain⟨t,k,st2,mid,bx,ht,hgo⟩:=hrel;obtain⟨A,tn,tc,rfl⟩:=ht.form;have hp2:=hgo.pos;obtain⟨c0,c1,c2,c3,c4⟩:=mid.rdr.cell;obtain⟨f0,f1,f2,f3,f4⟩:=mid.rdr.frozen
  by_cases h63:st2.peek s=63
  .have hb2:=(zbp s st2 yjz).1;have hlt:=(zbp s st2 yjz).2;have hst:zda s t st2.pos=some (.ok (.rep 0 1 t,st2.pos+1)):=(by unfold zda;rw[if_pos ((zbq s st2 hb2 63).1 h63)]);have HG:=Zh (hgo.on (a':=T.rep 0 1 t) (st3:=st2.step 1) hb2 hst (Rel.mk0 rfl yl4 (fun h=>absurd hb2 h) fun _ => .inl ⟨hb2,rfl⟩) (zgq s t _ _ hst));have e1:(st2.peek s==63)=true:=(by simpa using h63);have HN:=Zh (fun w h=>zd7 w g s st2 h hs);simp only[zf9 s st2 hb2 hlt] at HN;have hbt:(bt s st2.pos:Int)=63:=(by rw[←zeo s st2 hb2 hlt];exact h63);rw[hbt] at HN;clear hgo hst h63 hbt hb2 c0 c1 c2 c3 c4 f0 f1 f2 f3 f4;go_wp2_with (first
    | (go_at_call 77;(with_reducible refine (zbe _ g s st2 mid.rdr hs).mono ?_);rintro e w3 ⟨rfl,n,rfl⟩)
    | (go_at_call 84;(with_reducible refine (HN.o _ (mid.rdr.drewN n)).mono ?_);rintro e w4 ⟨rfl,r4,o4⟩;have mid4:=(mid.drewN n).next o4 r4;have b4:=(bx.drewN n).grown o4 ykf;have ht4:=(ht.drewN n).only o4 (mid.rdr.drewN n);obtain⟨n0,n1,n2,n3,n4,n5,n6,n7⟩:=b4.cell;obtain⟨z0,z1,z2,z3,z4,z5,z6,z7⟩:=b4.frozen;have hx4:=b4.lt;have hx5:gx≠w4.heap.size:=yjz;have hx6:w4.heap.size≠gx:=yjz))
   go_roundg (if (st2.step 1).bad=0 then gk-1 else 0)
   case measure=>exact HG.o.1
   case rel =>
    have hq:=zfq mid4 hw1 b4 ht4 0 1 rfl;exact⟨T.rep 0 1 t,_,st2.step 1,hq.1,hq.2.1,hq.2.2,HG.o.2⟩
  .by_cases h123:st2.peek s=123
   .have hb2:=(zbp s st2 yjz).1;have hlt:=(zbp s st2 yjz).2;have hst:zda s t st2.pos=some (zbd (zht s (st2.pos+1)) fun m p => .ok (.rep m.1 m.2 t,p)):=by
     unfold zda;rw[if_neg fun h=>h63 ((zbq s st2 hb2 63).2 h),if_pos ((zbq s st2 hb2 123).1 h123)]
    have hfw:=zgq s t _ _ hst;have hp3:(st2.step 1).pos<=s.size:=by show st2.pos+1<=s.size;omega
    have hti:=(zv2 s (st2.step 1) hp3).from (st:=st2) rfl rfl rfl
    have hre:=hti.then (f:=fun m p => .ok (T.rep m.1 m.2 t,p)) (a:=T.rep ((st2.step 1).times s).1.1 ((st2.step 1).times s).1.2 t) (fun hz=>⟨rfl,rfl,rfl,hti.pos⟩) fun _ hz=>Rel.mk0 rfl hti.pos (fun h=>absurd hz h) fun _ => .inl ⟨hz,rfl⟩
    have hg:=hgo.on hb2 hst hre hfw;clear hgo hst hfw hti hre;have e1:(st2.peek s==63)=false:=(by simpa using h63);have e2:(st2.peek s==123)=true:=(by simpa using h123);have HN:=Zh (fun w h=>zd7 w g s st2 h hs);simp only[zf9 s st2 hb2 hlt] at HN;have hbt:(bt s st2.pos:Int)=123:=(by rw[←zeo s st2 hb2 hlt];exact h123);rw[hbt] at HN;clear hbt h63 h123 hb2 c0 c1 c2 c3 c4 f0 f1 f2 f3 f4;have HM:=Zh (fun w h=>zrp w g s (st2.step 1) h hs hp3);have hp4:=zlg s (st2.step 1) hp3;unfold St.times at hg;simp only at hg;generalize ((st2.step 1).number s).1=lo at *;generalize ((st2.step 1).number s).2=st4 at *;generalize st2.step 1=st3 at *
    by_cases h44:st4.peek s=44
    .have hlt4:=(zbp s st4 yjz).2;simp only[h44,if_true] at hg;have e44:(st4.peek s==44)=true:=(by simpa using h44);have hp4':(st4.step 1).pos<=s.size:=by show st4.pos+1<=s.size;omega
     have HM2:=Zh (fun w h=>zrp w g s (st4.step 1) h hs hp4');have hp5:=zlg s (st4.step 1) hp4';clear h44;generalize ((st4.step 1).number s).1=hi at *;generalize ((st4.step 1).number s).2=st5 at *;have HN2:=Zh (fun w h=>zd7 w g s st5 h hs);have hp6:=(zeg s st5 hp5).1;generalize (st5.next s).1=d at *;generalize (st5.next s).2=st6 at *
     by_cases hcond:d=125∧1<=hi∧hi<=32∧lo<=hi
     .rw[if_pos hcond] at hg;have HG:=Zh hg;obtain⟨q1,q2,q3,q4⟩:=hcond;have i1:(d != 125)=false:=(by simpa using q1);have i2:decide (hi<1)=false:=(by simpa using q2);have i3:decide (32<hi)=false:=(by simpa using q3);have i4:decide (hi<lo)=false:=(by simpa using q4);clear hg q1;go_wp2_with (first
       | (go_at_call 77;(with_reducible refine (zbe _ g s st2 yk9 hs).mono ?_);rintro e w3 ⟨rfl,n,rfl⟩)
       | (go_at_call 84;(with_reducible refine (HN.o _ (mid.rdr.drewN _)).mono ?_);rintro e w4 ⟨rfl,r4,o4⟩;have mid4:=(mid.drewN _).next o4 r4;have b4:=(bx.drewN _).grown o4 ykf;have ht4:=(ht.drewN _).only o4 (mid.rdr.drewN _))
       | (go_at_call 85;(with_reducible refine (HM.o _ r4).mono ?_);rintro e w5 ⟨rfl,r5,o5⟩;have mid5:=mid4.next o5 r5;have b5:=b4.grown o5 ykf;have ht5:=ht4.only o5 r4;obtain⟨n0,n1,n2,n3,n4,n5,n6,n7⟩:=b5.cell;obtain⟨z0,z1,z2,z3,z4,z5,z6,z7⟩:=b5.frozen;have hx4:=b5.lt;have hx5:gx≠w5.heap.size:=yjz;have hx6:w5.heap.size≠gx:=yjz;obtain⟨c0,c1,c2,c3,c4⟩:=r5.cell)
       | (go_at_call 77;(with_reducible refine (zbe _ g s st4 r5 hs).mono ?_);rintro e wp ⟨rfl,np,rfl⟩;obtain⟨c0,c1,c2,c3,c4⟩:=r5.cell;obtain⟨f0,f1,f2,f3,f4⟩:=r5.frozen)
       | (go_at_call 85;(with_reducible refine (HM2.o _ ((r5.drewN np).setPos (st4.pos+1))).mono ?_);rintro e w6 ⟨rfl,r6,o6⟩;have mid6:=((mid5.drewN np).setPos (st4.pos+1)).next o6 r6;have b6:=(((b5.drewN np).far (a:=⟨g,1,none⟩) hgx' _).grown o6 ykf);have ht6:=((ht5.drewN np).far (a:=⟨g,1,none⟩) (fun b hb=>by show b≠g;omega) _).only o6 ((r5.drewN np).setPos (st4.pos+1)))
       | (go_at_call 84;(with_reducible refine (HN2.o _ r6).mono ?_);rintro e w7 ⟨rfl,r7,o7⟩;have mid7:=mid6.next o7 r7;have b7:=b6.grown o7 ykf;have ht7:=ht6.only o7 r6;obtain⟨n0,n1,n2,n3,n4,n5,n6,n7⟩:=b7.cell;obtain⟨z0,z1,z2,z3,z4,z5,z6,z7⟩:=b7.frozen;have hx4:=b7.lt;have hx5:gx≠w7.heap.size:=yjz;have hx6:w7.heap.size≠gx:=yjz;obtain⟨c0,c1,c2,c3,c4⟩:=r7.cell))
      go_roundg (if (st6).bad=0 then gk-1 else 0)
      case measure=>exact HG.o.1
      case rel =>
       have hq:=zfq mid7 hw1 b7 ht7 lo hi rfl;exact⟨T.rep lo hi t,_,_,hq.1,hq.2.1,hq.2.2,HG.o.2⟩
     .rw[if_neg hcond] at hg;have HG:=Zh hg;have HC:=Zh hcond;clear hg hcond;go_wp2_with (first
       | (go_at_call 77;(with_reducible refine (zbe _ g s st2 yk9 hs).mono ?_);rintro e w3 ⟨rfl,n,rfl⟩)
       | (go_at_call 84;(with_reducible refine (HN.o _ (mid.rdr.drewN _)).mono ?_);rintro e w4 ⟨rfl,r4,o4⟩;have mid4:=(mid.drewN _).next o4 r4;have b4:=(bx.drewN _).grown o4 ykf;have ht4:=(ht.drewN _).only o4 (mid.rdr.drewN _))
       | (go_at_call 85;(with_reducible refine (HM.o _ r4).mono ?_);rintro e w5 ⟨rfl,r5,o5⟩;have mid5:=mid4.next o5 r5;have b5:=b4.grown o5 ykf;have ht5:=ht4.only o5 r4;obtain⟨n0,n1,n2,n3,n4,n5,n6,n7⟩:=b5.cell;obtain⟨z0,z1,z2,z3,z4,z5,z6,z7⟩:=b5.frozen;have hx4:=b5.lt;have hx5:gx≠w5.heap.size:=yjz;have hx6:w5.heap.size≠gx:=yjz;obtain⟨c0,c1,c2,c3,c4⟩:=r5.cell)
       | (go_at_call 77;(with_reducible refine (zbe _ g s st4 r5 hs).mono ?_);rintro e wp ⟨rfl,np,rfl⟩;obtain⟨c0,c1,c2,c3,c4⟩:=r5.cell;obtain⟨f0,f1,f2,f3,f4⟩:=r5.frozen)
       | (go_at_call 85;(with_reducible refine (HM2.o _ ((r5.drewN np).setPos (st4.pos+1))).mono ?_);rintro e w6 ⟨rfl,r6,o6⟩;have mid6:=((mid5.drewN np).setPos (st4.pos+1)).next o6 r6;have b6:=(((b5.drewN np).far (a:=⟨g,1,none⟩) hgx' _).grown o6 ykf);have ht6:=((ht5.drewN np).far (a:=⟨g,1,none⟩) (fun b hb=>by show b≠g;omega) _).only o6 ((r5.drewN np).setPos (st4.pos+1)))
       | (go_at_call 84;(with_reducible refine (HN2.o _ r6).mono ?_);rintro e w7 ⟨rfl,r7,o7⟩;have mid7:=mid6.next o7 r7;have b7:=b6.grown o7 ykf;have ht7:=ht6.only o7 r6;obtain⟨n0,n1,n2,n3,n4,n5,n6,n7⟩:=b7.cell;obtain⟨z0,z1,z2,z3,z4,z5,z6,z7⟩:=b7.frozen;have hx4:=b7.lt;have hx5:gx≠w7.heap.size:=yjz;have hx6:w7.heap.size≠gx:=yjz;obtain⟨c0,c1,c2,c3,c4⟩:=r7.cell)
       | (go_at_call 86;(with_reducible refine (zfw _ g s st6 _ _ r7).mono ?_);rintro e w8 ⟨rfl,r8,o8⟩;have mid8:=mid7.next o8 r8;have b8:=b7.grown o8 ykf;have ht8:=ht7.only o8 r7;obtain⟨n0,n1,n2,n3,n4,n5,n6,n7⟩:=b8.cell;obtain⟨z0,z1,z2,z3,z4,z5,z6,z7⟩:=b8.frozen;have hx4:=b8.lt;have hx5:gx≠w8.heap.size:=yjz;have hx6:w8.heap.size≠gx:=yjz;obtain⟨c0,c1,c2,c3,c4⟩:=r8.cell))
      all_goals try (exfalso;exact HC.o ⟨by omega,by omega,by omega,by omega⟩)
      all_goals
       go_roundg (if (st6.fail ((st6.pos:Int)-1) 2).bad=0 then gk-1 else 0)
       case measure=>exact HG.o.1
       case rel =>
        have hq:=zfq mid8 hw1 b8 ht8 lo hi rfl;exact⟨T.rep lo hi t,_,_,hq.1,hq.2.1,hq.2.2,HG.o.2⟩
    .simp only[h44,if_false] at hg;have e44:(st4.peek s==44)=false:=(by simpa using h44);clear h44;have HN2:=Zh (fun w h=>zd7 w g s st4 h hs);have hp6:=(zeg s st4 hp4).1;generalize (st4.next s).1=d at *;generalize (st4.next s).2=st6 at *;obtain⟨hi,hhi⟩:∃ hi,hi=lo:=⟨_,rfl⟩
     by_cases hcond:d=125∧1<=lo∧lo<=32∧lo<=lo
     .rw[if_pos hcond] at hg;have HG:=Zh hg;obtain⟨q1,q2,q3,q4⟩:=hcond;have i1:(d != 125)=false:=(by simpa using q1);have i2:decide (lo<1)=false:=(by simpa using q2);have i3:decide (32<lo)=false:=(by simpa using q3);clear hg q1 hhi;go_wp2_with (first
       | (go_at_call 77;(with_reducible refine (zbe _ g s st2 yk9 hs).mono ?_);rintro e w3 ⟨rfl,n,rfl⟩)
       | (go_at_call 84;(with_reducible refine (HN.o _ (mid.rdr.drewN _)).mono ?_);rintro e w4 ⟨rfl,r4,o4⟩;have mid4:=(mid.drewN _).next o4 r4;have b4:=(bx.drewN _).grown o4 ykf;have ht4:=(ht.drewN _).only o4 (mid.rdr.drewN _))
       | (go_at_call 85;(with_reducible refine (HM.o _ r4).mono ?_);rintro e w5 ⟨rfl,r5,o5⟩;have mid5:=mid4.next o5 r5;have b5:=b4.grown o5 ykf;have ht5:=ht4.only o5 r4;obtain⟨n0,n1,n2,n3,n4,n5,n6,n7⟩:=b5.cell;obtain⟨z0,z1,z2,z3,z4,z5,z6,z7⟩:=b5.frozen;have hx4:=b5.lt;have hx5:gx≠w5.heap.size:=yjz;have hx6:w5.heap.size≠gx:=yjz;obtain⟨c0,c1,c2,c3,c4⟩:=r5.cell)
       | (go_at_call 77;(with_reducible refine (zbe _ g s st4 r5 hs).mono ?_);rintro e wp ⟨rfl,np,rfl⟩;obtain⟨c0,c1,c2,c3,c4⟩:=r5.cell;obtain⟨f0,f1,f2,f3,f4⟩:=r5.frozen)
       | (go_at_call 84;(with_reducible refine (HN2.o _ (r5.drewN np)).mono ?_);rintro e w7 ⟨rfl,r7,o7⟩;have mid7:=(mid5.drewN np).next o7 r7;have b7:=(b5.drewN np).grown o7 ykf;have ht7:=(ht5.drewN np).only o7 (r5.drewN np);obtain⟨n0,n1,n2,n3,n4,n5,n6,n7⟩:=b7.cell;obtain⟨z0,z1,z2,z3,z4,z5,z6,z7⟩:=b7.frozen;have hx4:=b7.lt;have hx5:gx≠w7.heap.size:=yjz;have hx6:w7.heap.size≠gx:=yjz;obtain⟨c0,c1,c2,c3,c4⟩:=r7.cell))
      go_roundg (if (st6).bad=0 then gk-1 else 0)
      case measure=>exact HG.o.1
      case rel =>
       have hq:=zfq mid7 hw1 b7 ht7 lo lo rfl;exact⟨T.rep lo lo t,_,_,hq.1,hq.2.1,hq.2.2,HG.o.2⟩
     .rw[if_neg hcond] at hg;have HG:=Zh hg;have HC:=Zh hcond;clear hg hcond hhi;go_wp2_with (first
       | (go_at_call 77;(with_reducible refine (zbe _ g s st2 yk9 hs).mono ?_);rintro e w3 ⟨rfl,n,rfl⟩)
       | (go_at_call 84;(with_reducible refine (HN.o _ (mid.rdr.drewN _)).mono ?_);rintro e w4 ⟨rfl,r4,o4⟩;have mid4:=(mid.drewN _).next o4 r4;have b4:=(bx.drewN _).grown o4 ykf;have ht4:=(ht.drewN _).only o4 (mid.rdr.drewN _))
       | (go_at_call 85;(with_reducible refine (HM.o _ r4).mono ?_);rintro e w5 ⟨rfl,r5,o5⟩;have mid5:=mid4.next o5 r5;have b5:=b4.grown o5 ykf;have ht5:=ht4.only o5 r4;obtain⟨n0,n1,n2,n3,n4,n5,n6,n7⟩:=b5.cell;obtain⟨z0,z1,z2,z3,z4,z5,z6,z7⟩:=b5.frozen;have hx4:=b5.lt;have hx5:gx≠w5.heap.size:=yjz;have hx6:w5.heap.size≠gx:=yjz;obtain⟨c0,c1,c2,c3,c4⟩:=r5.cell)
       | (go_at_call 77;(with_reducible refine (zbe _ g s st4 r5 hs).mono ?_);rintro e wp ⟨rfl,np,rfl⟩;obtain⟨c0,c1,c2,c3,c4⟩:=r5.cell;obtain⟨f0,f1,f2,f3,f4⟩:=r5.frozen)
       | (go_at_call 84;(with_reducible refine (HN2.o _ (r5.drewN np)).mono ?_);rintro e w7 ⟨rfl,r7,o7⟩;have mid7:=(mid5.drewN np).next o7 r7;have b7:=(b5.drewN np).grown o7 ykf;have ht7:=(ht5.drewN np).only o7 (r5.drewN np);obtain⟨n0,n1,n2,n3,n4,n5,n6,n7⟩:=b7.cell;obtain⟨z0,z1,z2,z3,z4,z5,z6,z7⟩:=b7.frozen;have hx4:=b7.lt;have hx5:gx≠w7.heap.size:=yjz;have hx6:w7.heap.size≠gx:=yjz;obtain⟨c0,c1,c2,c3,c4⟩:=r7.cell)
       | (go_at_call 86;(with_reducible refine (zfw _ g s st6 _ _ r7).mono ?_);rintro e w8 ⟨rfl,r8,o8⟩;have mid8:=mid7.next o8 r8;have b8:=b7.grown o8 ykf;have ht8:=ht7.only o8 r7;obtain⟨n0,n1,n2,n3,n4,n5,n6,n7⟩:=b8.cell;obtain⟨z0,z1,z2,z3,z4,z5,z6,z7⟩:=b8.frozen;have hx4:=b8.lt;have hx5:gx≠w8.heap.size:=yjz;have hx6:w8.heap.size≠gx:=yjz;obtain⟨c0,c1,c2,c3,c4⟩:=r8.cell))
      all_goals try (exfalso;exact HC.o ⟨by omega,by omega,by omega,by omega⟩)
      all_goals
       go_roundg (if (st6.fail ((st6.pos:Int)-1) 2).bad=0 then gk-1 else 0)
       case measure=>exact HG.o.1
       case rel =>
        have hq:=zfq mid8 hw1 b8 ht8 lo lo rfl;exact⟨T.rep lo lo t,_,_,hq.1,hq.2.1,hq.2.2,HG.o.2⟩
   .have hre:=hgo.stop fun hb=>by
     unfold zda;rw[if_neg fun h=>h63 ((zbq s st2 hb 63).2 h),if_neg fun h=>h123 ((zbq s st2 hb 123).2 h)]
    have HRE:=Zh hre;have e1:(st2.peek s==63)=false:=(by simpa using h63);have e2:(st2.peek s==123)=false:=(by simpa using h123);clear hre hgo h63 h123;obtain⟨n0,n1,n2,n3,n4,n5,n6,n7⟩:=bx.cell;obtain⟨m0,m1,m2,m3,m4,m5,m6,m7⟩:=mid.box.cell;obtain⟨y0,y1,y2,y3,y4,y5,y6,y7⟩:=mid.box.frozen;go_wp2_with (go_at_call 77;(with_reducible refine (zbe _ g s st2 yk9 hs).mono ?_);rintro e w3 ⟨rfl,n,rfl⟩);refine bodyPost_ret (v:=zal t (.slice A tn tc)) ?_ rfl ((mid.drewN _).ret ((ht.drewN _).weak fun b hb _=>hb.1) HRE.o);simp[zal,T.zero,T.op,T.set,T.lo,T.hi,zah,results,Try.results82,go_sem,m0,m1,m2,m3,m4,m5,m6,m7]
end
end Go.Proofs.Ytipfgpfplakhiaa
